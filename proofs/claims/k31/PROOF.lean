import PyProof.Rows.All
import Wide.All
import OpenK.AllK
import Wide.FinOn
import Lean
import PyProof.EqAt
import PyProof.EqKinds
import PyProof.TupleCall
import PySem.Challenge.RW_mendsure_k31_what_is_no_question
set_option Elab.async false
set_option linter.all false
set_option maxRecDepth 100000
namespace L2
open PySem PySem.Spec PyProof.Rows
abbrev Key:=Sum Int Str
def zTV:Key→Value→Bool
 | .inl k,v=>Value.isInt k v
 | .inr x,v=>Value.isStrOf x v
def keyH(w:World):Key→Int
 | .inl k=>hashInt k
 | .inr x=>hashStr w x
theorem xG: ∀{k:Key}{v:Value},zTV k v=true→(∃i t,k=Sum.inl i∧v=Value.int i t)∨(∃x t,k=Sum.inr x∧v=Value.str x t)
 | .inl i,v,h=>by
  obtain⟨t,e⟩:=Value.isInt_shape (k:=i) (v:=v) h
  exact .inl ⟨i,t,rfl,e⟩
 | .inr x,v,h=>by
  obtain⟨t,e⟩:=Value.isStrOf_shape (x:=x) (v:=v) h
  exact .inr ⟨x,t,rfl,e⟩
theorem yAO(x:Str)(t:Tok):zTV (.inr x) (.str x t)=true:=by simp [zTV,Value.isStrOf]
theorem yKY(a b:Int):decide ((Sum.inl a:Key)=Sum.inl b)=(a==b):=by
 by_cases e:a=b
 ·subst e;simp
 ·have h: ¬(Sum.inl a:Key)=Sum.inl b:=fun q=>e (Sum.inl.inj q)
  rw [decide_eq_false h]
  exact(beq_eq_false_iff_ne.mpr e).symm
theorem yKZ(a b:Str):decide ((Sum.inr a:Key)=Sum.inr b)=decide (a=b):=by
 by_cases e:a=b
 ·subst e;simp
 ·have h: ¬(Sum.inr a:Key)=Sum.inr b:=fun q=>e (Sum.inr.inj q)
  rw [decide_eq_false h,decide_eq_false e]
theorem yLA(a:Int)(b:Str):decide ((Sum.inl a:Key)=Sum.inr b)=false:=decide_eq_false (fun q=>nomatch q)
theorem yLB(a:Str)(b:Int):decide ((Sum.inr a:Key)=Sum.inl b)=false:=decide_eq_false (fun q=>nomatch q)
def jQ(prog:Program)(w:World):PySem.KeyKind prog w Key where
 is:=zTV
 hash:=keyH w
 inj:=fun v a b ha hb=>by
  rcases xG ha with⟨i,t,rfl,rfl⟩ | ⟨x,t,rfl,rfl⟩
  ·rcases xG hb with⟨j,u,rfl,e⟩ | ⟨y,u,rfl,e⟩
   ·injection e with e1 _;rw [e1]
   ·exact nomatch e
  ·rcases xG hb with⟨j,u,rfl,e⟩ | ⟨y,u,rfl,e⟩
   ·exact nomatch e
   ·injection e with e1 _;rw [e1]
 byValue:=fun k v h=>by
  rcases xG h with⟨i,t,rfl,rfl⟩ | ⟨x,t,rfl,rfl⟩<;>rfl
 pyHash:=fun hv h=>by
  rcases xG hv with⟨i,t,rfl,rfl⟩ | ⟨x,t,rfl,rfl⟩
  ·exact wpAny_pyHash_int h
  ·exact wpAny_pyHash_str h
 eqBool:=fun hu hv h=>by
  rcases xG hu with⟨i,t,rfl,rfl⟩ | ⟨x,t,rfl,rfl⟩
  ·rcases xG hv with⟨j,u,rfl,rfl⟩ | ⟨y,u,rfl,rfl⟩
   ·rw [yKY]at h;exact wpAny_eqBool_int h
   ·rw [yLA]at h;exact SeqAt.EqAt.int_str i t y u _ _ _ _ h
  ·rcases xG hv with⟨j,u,rfl,rfl⟩ | ⟨y,u,rfl,rfl⟩
   ·rw [yLB]at h;exact SeqAt.EqAt.str_int x t j u _ _ _ _ h
   ·rw [yKZ]at h;exact wpAny_eqBool_str h
 «strs»:=fun k x t v h=>by
  rcases xG h with⟨i,u,rfl,e⟩ | ⟨y,u,rfl,e⟩
  ·exact nomatch e
  ·injection e with e1 _
   subst e1
   cases v<;>rfl
theorem zLT(prog:Program)(w:World)(x:Str)(t:Tok):(jQ prog w).is (.inr x) (.str x t)=true:=yAO x t
end L2
namespace L2
open PySem PySem.Spec PyProof.Rows
inductive V where
 | non | bl (b:Bool) | int (i:Int) | str (x:Str) | byt (b:Array UInt8) | flt (b:UInt64) | ref (a:Addr) | ty (n:String)
 deriving DecidableEq
def RelV:V→Value→Prop
 | .non,u=>u=Value.none
 | .bl b,u=>u=Value.bool b
 | .int i,u=> ∃t,u=Value.int i t
 | .str x,u=> ∃t,u=Value.str x t
 | .byt b,u=> ∃t,u=Value.bytes b t
 | .flt b,u=> ∃t,u=Value.float b t
 | .ref a,u=>u=Value.ref a
 | .ty n,u=>u=Value.type n
abbrev Vals:List V→List Value→Prop:=Paired RelV
theorem Vals.length{xs:List V}{us:List Value}(r:Vals xs us):xs.length=us.length:=Paired.length r
theorem Vals.get: ∀{xs:List V}{us:List Value}{i:Nat}{x:V},Vals xs us→xs[i]? =some x→ ∃u,us[i]? =some u∧RelV x u
 | _,_,_,_,.nil,e=>by simp at e
 | _,_,0,_,.cons r _,e=>by simp at e;subst e;exact⟨_,rfl,r⟩
 | _,_,i+1,x,.cons _ t,e=>by
  obtain⟨u,h1,h2⟩:=Vals.get (i:=i) (x:=x) t (by simpa using e)
  exact⟨u,by simpa using h1,h2⟩
theorem Vals.set{x:V}{u:Value}(r:RelV x u): ∀{xs:List V}{us:List Value}(i:Nat),Vals xs us→Vals (xs.set i x) (us.set i u)
 | _,_,_,.nil=>.nil
 | _,_,0,.cons _ t=>.cons r t
 | _,_,i+1,.cons q t=>.cons q (Vals.set r i t)
theorem Vals.append: ∀{xs ys:List V}{us ws:List Value},Vals xs us→Vals ys ws→Vals (xs++ys) (us++ws)
 | _,_,_,_,.nil,s=>s
 | _,_,_,_,.cons r t,s=>.cons r (Vals.append t s)
theorem Vals.take: ∀{xs:List V}{us:List Value}(n:Nat),Vals xs us→Vals (xs.take n) (us.take n)
 | _,_,0,_=>.nil
 | _,_,_+1,.nil=>.nil
 | _,_,n+1,.cons r t=>.cons r (Vals.take n t)
theorem Vals.drop: ∀{xs:List V}{us:List Value}(n:Nat),Vals xs us→Vals (xs.drop n) (us.drop n)
 | _,_,0,r=>r
 | _,_,_+1,.nil=>.nil
 | _,_,n+1,.cons _ t=>Vals.drop n t
def RelO:Option V→Option Value→Prop
 | some v,some u=>RelV v u
 | none,none=>True
 | _,_=>False
def KV{κ:Type}:List (κ×V)→List (κ×Value)→Prop:=Paired fun(p:κ×V) (q:κ×Value)=>p.1=q.1∧RelV p.2 q.2
def kV:Key→V
 | .inl i=>.int i
 | .inr x=>.str x
inductive HO where
 | lst (xs:List V)
 | tup (xs:List V)
 | dK (kvs:List (Key×V)) | dT (kvs:List (List Key×V))
 | set (S:Int→Bool) (n:Nat)
 | ins (C dx:Addr) (fs:List (Str×V))
 | own (x:Addr)
 | xd (fs:List (Str×V))
 | met (f x:Addr)
 | rng (lo hi:Int)
 | frz (o:Obj) (u:HO)
 | tbl (ps:Array Value)
 | ext (φ:Heap→Prop)
abbrev Hp:=Addr→Option HO
def upd(H:Hp)(a:Addr)(o:HO):Hp:=fun b=>if b=a then some o else H b
theorem zX{H:Hp}{a:Addr}{o:HO}:upd H a o a=some o:=by unfold upd;rw [if_pos rfl]
theorem zS{H:Hp}{a b:Addr}{o:HO}(h:b≠a):upd H a o b=H b:=by unfold upd;rw [if_neg h]
theorem yH{H:Hp}{a b:Addr}{o:HO}(h:H a=some o)(h':H b=none):a≠b:=by
 intro e;subst e;rw [h]at h';cases h'
section
variable(P:Program)(w:World)
def ObjOk(H:Hp)(h:Heap)(a:Addr):HO→Prop
 | .lst xs=>xs.length≤sizeLine∧ ∃(its:List Value)(n:Nat),Vals xs its∧h.get? a=some {cls:=.type "list",data:=.seq its.toArray n}
 | .tup xs=>xs.length≤sizeLine∧ ∃its:List Value,Vals xs its∧IsTup h a its.toArray
 | .dK kvs=>kvs.length≤sizeLine∧(a==sysModules)=false∧ ∃vs,KV kvs vs∧h.DictOf (jQ P w) a vs
 | .dT kvs=>kvs.length≤sizeLine∧(a==sysModules)=false∧ ∃xs:List (List Key×Addr×Value),
   Paired (fun(p:List Key×V) (q:List Key×Addr×Value)=>p.1=q.1∧H q.2.1=some (.tup (p.1.map kV))∧RelV p.2 q.2.2) kvs xs∧
   ∃o es ep,h.get? a=some o∧o.ExactDict∧o.data=.dict es ep∧es.toList=xs.map (entryOfKey (tupleKind (jQ P w)))∧(xs.map (·.1)).Nodup
 | .set S n=>h.SetOf (intKind P w) a S n
 | .ins C dx fs=>H dx=some (.own a)∧fs.length≤1000∧dx≠a∧h.get? a=some (PySem.W.instObj C dx)∧
   ∃mA,h.Ns1 dx mA∧(∀f,RelO (fs.lookup f) (mA f))∧PySem.Within mA (fs.map (·.1))
 | .own _=> ∃o,h.get? a=some o
 | .xd fs=> ∃mA,h.Ns1 a mA∧ ∀f,RelO (fs.lookup f) (mA f)
 | .rng lo hi=> ∃t u v,h.get? a=some {cls:=.type "range",data:=.fields #[.int lo t,.int hi u,.int 1 v]}
 | .frz o u=>h.get? a=some o∧ObjOk H h a u
 | .tbl ps=>h.get? a=some {cls:=.none,data:=.fields ps}
 | .met f x=>h.get? a=some (PySem.W.methodObj (.ref f) (.ref x))
 | .ext φ=>φ h∧(∃o,h.get? a=some o)∧ ∀h1 h2:Heap,φ h1→(∀o,h1.get? a=some o→h2.get? a=some o)→φ h2
def HOk(H:Hp)(h:Heap):Prop:= ∀a o,H a=some o→ObjOk P w H h a o
end
section
variable{P:Program}{w:World}{H H':Hp}{h h':Heap}{a:Addr}{o:HO}
theorem ObjOk.lt(x:ObjOk P w H h a o):a<h.objs.size:=by
 cases o with
 | lst xs=>obtain⟨_,_,_,_,e⟩:=x;exact Heap.lt_size e
 | tup xs=>obtain⟨_,_,_,p⟩:=x;exact p.lt
 | dK kvs=>obtain⟨_,_,_,_,o,_,_,e,_⟩:=x;exact Heap.lt_size e
 | dT kvs=>obtain⟨_,_,_,_,o,_,_,e,_⟩:=x;exact Heap.lt_size e
 | set S n=>obtain⟨o,_,_,_,e,_⟩:=x;exact Heap.lt_size e
 | ins C dx fs=>obtain⟨_,_,_,e,_⟩:=x;exact Heap.lt_size e
 | own y=>obtain⟨_,e⟩:=x;exact Heap.lt_size e
 | xd fs=>obtain⟨_,⟨_,_,_,e,_⟩,_⟩:=x;exact Heap.lt_size e
 | rng lo hi=>obtain⟨_,_,_,e⟩:=x;exact Heap.lt_size e
 | frz ob u=>obtain⟨e,_⟩:=x;exact Heap.lt_size e
 | tbl ps=>exact Heap.lt_size (show h.get? a=some _ from x)
 | met f y=>exact Heap.lt_size (show h.get? a=some _ from x)
 | ext φ=>obtain⟨_,⟨_,e⟩,_⟩:=x;exact Heap.lt_size e
theorem Paired.mapP{α β:Type}{F G:α→β→Prop}: ∀{l₁:List α}{l₂:List β},Paired F l₁ l₂→(∀a b,F a b→G a b)→Paired G l₁ l₂
 | _,_,.nil,_=>.nil
 | _,_,.cons r t,f=>.cons (f _ _ r) (Paired.mapP t f)
theorem ObjOk.stay(x:ObjOk P w H h a o)(k: ∀b u,(b=a∨H b=some (.own a))→h.get? b=some u→h'.get? b=some u)
  (ho: ∀b,H b=some (.own a)→H' b=some (.own a)) (ht: ∀b xs,H b=some (.tup xs)→H' b=some (.tup xs)):ObjOk P w H' h' a o:=by
 induction o with
 | lst xs=>obtain⟨z,its,n,r,e⟩:=x;exact⟨z,its,n,r,k _ _ (.inl rfl) e⟩
 | tup xs=>obtain⟨z,its,r,ob,e,c⟩:=x;exact⟨z,its,r,ob,k _ _ (.inl rfl) e,c⟩
 | dK kvs=>obtain⟨z,y,vs,r,ob,es,ep,e,c⟩:=x;exact⟨z,y,vs,r,ob,es,ep,k _ _ (.inl rfl) e,c⟩
 | dT kvs=>
  obtain⟨z,y,xs,r,ob,es,ep,e,c⟩:=x
  exact⟨z,y,xs,Paired.mapP r fun p q z=>⟨z.1,ht _ _ z.2.1,z.2.2⟩,ob,es,ep,k _ _ (.inl rfl) e,c⟩
 | set S n=>obtain⟨ob,es,ep,t,e,c⟩:=x;exact⟨ob,es,ep,t,k _ _ (.inl rfl) e,c⟩
 | ins C dx fs=>
  obtain⟨d,z,ne,e,mA,⟨od,es,ep,e2,c⟩,r⟩:=x
  exact⟨ho _ d,z,ne,k _ _ (.inl rfl) e,mA,⟨od,es,ep,k _ _ (.inr d) e2,c⟩,r⟩
 | own y=>obtain⟨ob,e⟩:=x;exact⟨ob,k _ _ (.inl rfl) e⟩
 | xd fs=>obtain⟨mA,⟨od,es,ep,e,c⟩,r⟩:=x;exact⟨mA,⟨od,es,ep,k _ _ (.inl rfl) e,c⟩,r⟩
 | rng lo hi=>obtain⟨t,u,v,e⟩:=x;exact⟨t,u,v,k _ _ (.inl rfl) e⟩
 | frz ob u ih=>obtain⟨e,q⟩:=x;exact⟨k _ _ (.inl rfl) e,ih q⟩
 | tbl ps=>
  have e:h.get? a=some {cls:=.none,data:=.fields ps}:=x
  show h'.get? a=some {cls:=.none,data:=.fields ps}
  exact k a _ (.inl rfl) e
 | met f y=>
  have e:h.get? a=some (PySem.W.methodObj (.ref f) (.ref y)):=x
  show h'.get? a=some (PySem.W.methodObj (.ref f) (.ref y))
  exact k a _ (.inl rfl) e
 | ext φ=>obtain⟨p,⟨o,e⟩,st⟩:=x;exact⟨st _ _ p fun o q=>k _ _ (.inl rfl) q,⟨o,k _ _ (.inl rfl) e⟩,st⟩
theorem HOk.lt(x:HOk P w H h)(e:H a=some o):a<h.objs.size:=(x a o e).lt
theorem HOk.fresh(x:HOk P w H h)(e:h.objs.size≤a):H a=none:=by
 cases q:H a with
 | none=>rfl
 | some u=>exact absurd (Nat.lt_of_lt_of_le (x.lt q) e) (Nat.lt_irrefl _)
theorem HOk.kept(x:HOk P w H h)(k: ∀b u,h.get? b=some u→h'.get? b=some u):HOk P w H h':=fun a o e=>
 (x a o e).stay (fun b u _ q=>k b u q) (fun _ q=>q) fun _ _ q=>q
theorem HOk.laid(x:HOk P w H h)(k: ∀b u,h.get? b=some u→h'.get? b=some u)(hp:h.objs.size≤a)(new:ObjOk P w (upd H a o) h' a o):HOk P w (upd H a o) h':=fun b u e=>by
 have hn:=x.fresh hp
 by_cases hb:b=a
 ·subst hb;rw [zX]at e;cases e;exact new
 ·rw [zS hb]at e
  exact(x b u e).stay (fun c v _ q=>k c v q) (fun c q=>by rw [zS (yH q hn)];exact q) fun c xs q=>by rw [zS (yH q hn)];exact q
end
def Rd(H:Hp)(a:Addr)(u:HO):Prop:=H a=some u∨ ∃o,H a=some (.frz o u)
theorem Rd.ok{P:Program}{w:World}{H:Hp}{h:Heap}{a:Addr}{u:HO}(r:Rd H a u)(x:HOk P w H h):ObjOk P w H h a u:=by
 rcases r with r | ⟨o,r⟩
 ·exact x a u r
 ·obtain⟨_,q⟩:=x a _ r
  exact q
def Mut:Option HO→Prop
 | some (.lst _)=>True
 | some (.dK _)=>True
 | some (.dT _)=>True
 | some (.set _ _)=>True
 | some (.ins _ _ _)=>True
 | some (.ext _)=>True
 | _=>False
section
variable{P:Program}{w:World}{H:Hp}{h h':Heap}{x e:Addr}{o':HO}
theorem HOk.write(ok:HOk P w H h)(mu:Mut (H x))(he:e=x∨H e=some (.own x))(k: ∀b u,b≠e→h.get? b=some u→h'.get? b=some u)(heo: ∃u,h'.get? e=some u)
  (new:ObjOk P w (upd H x o') h' x o'):HOk P w (upd H x o') h':=fun b u q=>by
 have nown: ∀c y,H c=some (.own y)→c≠x:=fun c y r z=>by subst z;rw [r]at mu;exact mu
 have ntup: ∀c xs,H c=some (.tup xs)→c≠x:=fun c xs r z=>by subst z;rw [r]at mu;exact mu
 by_cases hb:b=x
 ·subst hb;rw [zX]at q;cases q;exact new
 ·rw [zS hb]at q
  by_cases hbe:b=e
  ·have q':H b=some (.own x):=by
    rcases he with z | z
    ·exact absurd (hbe.trans z) hb
    ·rw [hbe];exact z
   rw [q]at q';cases q'
   obtain⟨v,hv⟩:=heo
   exact⟨v,by rw [hbe];exact hv⟩
  ·refine(ok b u q).stay (fun c v hc r=>k c v ?_ r) (fun c r=>by rw [zS (nown c b r)];exact r) fun c xs r=>by rw [zS (ntup c xs r)];exact r
   rcases hc with rfl | hc
   ·exact hbe
   ·rintro rfl
    rcases he with z | z
    ·exact nown c b hc z
    ·rw [hc]at z;cases z;exact hb rfl
end
structure Un(fs ex:List Addr)(H H':Hp)(h h':Heap):Prop where
 keep: ∀b o,h.get? b=some o→H b=none→b∉fs→b∉ex→h'.get? b=some o
 slot: ∀b o,h.get? b=some o→H b=none→b∈fs→b∉ex→ ∃sl,h'.get? b=some {o with slots:=sl}
 free: ∀b o,h.get? b=some o→H b=none→b∉ex→H' b=none
 there: ∀b o,h.get? b=some o→b∉ex→ ∃o',h'.get? b=some o'
 tups: ∀b xs,H b=some (.tup xs)→H' b=some (.tup xs)
 frzs: ∀b o u,H b=some (.frz o u)→H' b=some (.frz o u)
 tbls: ∀b ps,H b=some (.tbl ps)→ ∃more,H' b=some (.tbl (ps++more))
section
variable{fs fs' ex ex':List Addr}{H H1 H2:Hp}{h h1 h2 h':Heap}{a x e:Addr}{o:HO}
theorem Un.any(u:Un fs ex H H1 h h1){b:Addr}{ob:Obj}(q:h.get? b=some ob)(n:H b=none)(hx:b∉ex): ∃sl,h1.get? b=some {ob with slots:=sl}:=by
 by_cases hb:b∈fs
 ·exact u.slot b ob q n hb hx
 ·exact⟨ob.slots,u.keep b ob q n hb hx⟩
theorem Un.kept(k: ∀b u,h.get? b=some u→h'.get? b=some u):Un fs ex H H h h':=
 ⟨fun b ob q _ _ _=>k b ob q,fun b ob q _ _ _=>⟨ob.slots,k b ob q⟩,fun _ _ _ n _=>n,fun b ob q _=>⟨ob,k b ob q⟩,fun _ _ q=>q,fun _ _ _ q=>q,fun _ ps q=>⟨#[],by rw [q];simp⟩⟩
theorem Un.refl:Un fs ex H H h h:=Un.kept fun _ _ q=>q
theorem Un.laid(k: ∀b u,h.get? b=some u→h'.get? b=some u)(hp:h.objs.size≤a)(hn:H a=none):Un fs ex H (upd H a o) h h' where
 keep:=fun b u q _ _ _=>k b u q
 slot:=fun b u q _ _ _=>⟨u.slots,k b u q⟩
 free:=fun b u q n _=>by rw [zS (Nat.ne_of_lt (Nat.lt_of_lt_of_le (Heap.lt_size q) hp))];exact n
 there:=fun b u q _=>⟨u,k b u q⟩
 tups:=fun b xs q=>by rw [zS (yH q hn)];exact q
 frzs:=fun b u xs q=>by rw [zS (yH q hn)];exact q
 tbls:=fun b ps q=>⟨#[],by rw [zS (yH q hn),q];simp⟩
theorem Un.write(mu:Mut (H x))(he:e=x∨H e=some (.own x))(k: ∀b u,b≠e→h.get? b=some u→h'.get? b=some u)(heo: ∃u,h'.get? e=some u):Un fs ex H (upd H x o) h h':=by
 have hx: ∀b,H b=none→b≠x:=fun b n z=>by subst z;rw [n]at mu;exact mu
 have hb: ∀b,H b=none→b≠e:=fun b n z=>by
  subst z
  rcases he with r | r
  ·exact hx b n r
  ·rw [n]at r;cases r
 have hm: ∀b u,H b=some u→ ¬Mut (some u)→b≠x:=fun b u q nm z=>by subst z;rw [q]at mu;exact nm mu
 refine⟨fun b u q n _ _=>k b u (hb b n) q,fun b u q n _ _=>⟨u.slots,k b u (hb b n) q⟩,fun b u q n _=>by rw [zS (hx b n)];exact n,fun b u q _=>?_,
  fun b xs q=>by rw [zS (hm b _ q fun z=>z)];exact q,fun b u xs q=>by rw [zS (hm b _ q fun z=>z)];exact q,fun b ps q=>⟨#[],by rw [zS (hm b _ q fun z=>z),q];simp⟩⟩
 by_cases hbe:b=e
 ·subst hbe;exact heo
 ·exact⟨u,k b u hbe q⟩
end
def trk(h:Heap)(H:Hp):List Addr:=(List.range h.objs.size).filter fun a=>(H a).isSome
def zRN(h:Heap)(H:Hp):Heap:=PySem.W.hideAll h (trk h H)
theorem yAP(h:Heap)(H:Hp):(zRN h H).objs.size=h.objs.size:=PySem.W.hideAll_size _ _
theorem yCQ{h:Heap}{H:Hp}{b:Addr}{o:Obj}(e:h.get? b=some o)(n:H b=none):(zRN h H).get? b=some o:=
 PySem.W.hideAll_get _ e fun hm=>by
  have q:(H b).isSome=true:=(List.mem_filter.mp hm).2
  rw [n]at q;simp at q
theorem yGT{h:Heap}{H:Hp}{b:Addr}{o:Obj}(e:(zRN h H).get? b=some o):h.get? b=some o∧H b=none:=by
 have e':h.get? b=some o:=PySem.W.of_hideAll (trk h H) e
 refine⟨e',?_⟩
 cases q:H b with
 | none=>rfl
 | some x=>
  have hm:b∈trk h H:=List.mem_filter.mpr ⟨List.mem_range.mpr (Heap.lt_size e'),by simp [q]⟩
  have z:(zRN h H).get? b=none:=PySem.W.hideAll_none (trk h H) hm
  rw [z]at e;cases e
def yGU(g h:Heap)(L:Addr):List (Addr×Obj):=(List.range h.objs.size).filterMap fun a=>if a=L∨(g.get? a).isSome=true then none else(h.get? a).map fun o=>(a,o)
def rest(g h:Heap)(L d:Addr):List (Addr×Obj):=(yGU g h L).filter fun p=>decide (p.1≠d)
end L2
namespace L2
open PySem PySem.Spec PyProof.Rows
structure Mod(K:PySem.W.Frag)(mg:Str→Option Value)(base:Heap):Prop where
 kin:K.In base
 glob:base.Ns mainGlobals mg
 blt: ∃mb,base.Ns builtinsNs mb∧ ∀x:Str,x≠"__name__"→mb x=bootBuiltins x
 nolimit:base.NoLimit
structure Cx where
 prog:Program
 w:World
 K:PySem.W.Frag
 mg:Str→Option Value
 base:Heap
 A:Around
 N:List Str
 s₀:Shared
 H₀:Hp
 env:Env
 outer:List Env
 stack:List Env
 ex:List Addr
 fn:Str→Bool
 calm:Bool
 pn:List (Addr×Obj)
 xe:Value→Shared→Prop
def frs(l:List Env):List Addr:=l.filterMap (·.frame)
abbrev Cx.fs(X:Cx):List Addr:=frs X.outer
def Vis(sc:Scope)(x:Str):Prop:=sc.names.lookup x=some .local∨sc.names.lookup x=some .cell∨sc.names.lookup x=some .free
def Loc(sc:Scope)(x:Str):Prop:=sc.names.lookup x=some .local∨sc.names.lookup x=some .cell
def Look(env:Env)(h:Heap)(m:Str→Option Value)(x:Str)(u:Value):Prop:=
 (env.kindOf x=some .local∧m x=some u)∨((env.kindOf x=some .cell∨env.kindOf x=some .free)∧ ∃c,env.cells.lookup x=some c∧h.IsCell c (some u))
structure Cx.Ok(X:Cx):Prop where
 mod:Mod X.K X.mg X.base
 kind:X.env.scope.kind=.function
 glob:X.env.globals=mainGlobals
 blt:X.env.builtins=builtinsNs
 above:X.s₀.heap.objs.size≤X.env.locals
 inj: ∀x y c,X.env.cells.lookup x=some c→X.env.cells.lookup y=some c→x=y
 has: ∀x,(X.env.kindOf x=some .cell∨X.env.kindOf x=some .free)→ ∃c,X.env.cells.lookup x=some c
 cab: ∀x c,X.fn x=true→X.env.cells.lookup x=some c→X.s₀.heap.objs.size≤c
 hd:X.calm=true→X.A.handled=none
 frames:X.A.frames=some X.stack
 stk:X.stack=X.outer∨(X.stack=X.env::X.outer∧X.env.frame=some X.env.locals)
 exf: ∀b∈X.ex,b≠X.env.locals∧ ∀x c,X.env.cells.lookup x=some c→c≠b
 bs: ∀b o,X.base.get? b=some o→X.s₀.heap.get? b=some o∧X.H₀ b=none
 bsz:X.base.objs.size≤X.s₀.heap.objs.size
 noex: ∀b o,X.base.get? b=some o→b∉X.ex
 exfs: ∀b∈X.ex,b∉X.fs
 funs:X.s₀.heap.FunFrames X.base X.outer
 frf: ∀b∈X.fs,X.H₀ b=none
structure Inv(X:Cx)(pins:List (Addr×Obj))(σ:List (Option V))(H:Hp)(s:Shared):Prop where
 ok:X.Ok
 os:s.os=X.s₀.os
 bare:AllBare s.gens
 base:Un X.fs X.ex X.H₀ H X.s₀.heap s.heap
 loc: ∃m,s.heap.Ns X.env.locals m∧ ∀(i:Nat)(x:Str)(v:V),X.N[i]? =some x→σ[i]? =some (some v)→Vis X.env.scope x→ ∃u,RelV v u∧Look X.env s.heap m x u
 cell: ∀x c,X.env.cells.lookup x=some c→ ∃v,s.heap.IsCell c v
 free:H X.env.locals=none
 freeC: ∀x c,X.env.cells.lookup x=some c→H c=none
 pin: ∀p∈X.pn++pins,s.heap.get? p.1=some p.2∧H p.1=none∧p.1≠X.env.locals∧p.1∉X.fs∧ ∀v,p.2.data≠.cell v
 hok:HOk X.prog X.w H s.heap
 len:σ.length=X.N.length
section
variable{X:Cx}{pins:List (Addr×Obj)}{σ:List (Option V)}{H H':Hp}{s:Shared}{h':Heap}
theorem Cx.Ok.nofr(ok:X.Ok){b:Addr}{o:Obj}(e:X.base.get? b=some o):b∉X.fs:=fun hb=>by
 have:=(ok.funs.mem hb).1
 rw [e]at this;cases this
theorem Inv.bs(I:Inv X pins σ H s): ∀b o,X.base.get? b=some o→s.heap.get? b=some o∧H b=none:=fun b o e=>
 ⟨I.base.keep b o (I.ok.bs b o e).1 (I.ok.bs b o e).2 (I.ok.nofr e) (I.ok.noex b o e),I.base.free b o (I.ok.bs b o e).1 (I.ok.bs b o e).2 (I.ok.noex b o e)⟩
theorem Inv.bk(I:Inv X pins σ H s): ∀b o,X.base.get? b=some o→s.heap.get? b=some o:=fun b o e=>(I.bs b o e).1
theorem Inv.mod(I:Inv X pins σ H s):Mod X.K X.mg X.base:=I.ok.mod
theorem Inv.kIn(I:Inv X pins σ H s):X.K.In s.heap:=I.ok.mod.kin.keeps I.bk
theorem Inv.lt(I:Inv X pins σ H s):X.env.locals<s.heap.objs.size:=let ⟨_,hn,_⟩:=I.loc;hn.lt
theorem Inv.sz(I:Inv X pins σ H s):X.s₀.heap.objs.size≤s.heap.objs.size:=Nat.le_trans I.ok.above (Nat.le_of_lt I.lt)
theorem Inv.nofs(I:Inv X pins σ H s){a:Addr}(h:s.heap.objs.size≤a):a∉X.fs:=fun hb=>by
 obtain⟨_,o,ho,_⟩:=I.ok.funs.mem hb
 exact absurd (Nat.lt_of_lt_of_le (Heap.lt_size ho) (Nat.le_trans I.sz h)) (Nat.lt_irrefl _)
theorem Inv.cne(I:Inv X pins σ H s): ∀x c,X.env.cells.lookup x=some c→c≠X.env.locals:=fun x c e z=>by
 obtain⟨v,o,ho,hd⟩:=I.cell x c e
 obtain⟨m,⟨o',es,ep,ho',hd',_⟩,_⟩:=I.loc
 rw [z,ho']at ho;cases ho;rw [hd']at hd;cases hd
theorem Inv.funs(I:Inv X pins σ H s):s.heap.FunFrames X.base X.outer:=by
 have all: ∀(l:List Env),(∀b∈frs l,b∈X.fs)→X.s₀.heap.FunFrames X.base l→s.heap.FunFrames X.base l:=by
  intro l
  induction l with
  | nil=>intro _ _;trivial
  | cons env r ih=>
   intro hs hl
   obtain⟨hk,⟨L,o,hf,hn,ho,hd⟩,hr⟩:=hl
   have hL:L∈X.fs:=hs L (by unfold frs;rw [List.filterMap_cons,hf];exact List.mem_cons_self)
   obtain⟨sl,e⟩:=I.base.slot L o ho (I.ok.frf L hL) hL fun z=>I.ok.exfs L z hL
   exact⟨hk,⟨L,_,hf,hn,e,hd⟩,ih (fun b hb=>hs b (by unfold frs;rw [List.filterMap_cons,hf];exact List.mem_cons_of_mem _ hb)) hr⟩
 exact all X.outer (fun _ hb=>hb) I.ok.funs
theorem Inv.stack(I:Inv X pins σ H s):s.heap.FunFrames X.base X.stack:=by
 rcases I.ok.stk with e | ⟨e,hf⟩
 ·rw [e];exact I.funs
 ·rw [e]
  obtain⟨m,hn,_⟩:=I.loc
  refine .cons (by rw [I.ok.kind];decide) hf hn ?_ I.funs
  exact Heap.get?_none_of_le (Nat.le_trans I.ok.bsz I.ok.above)
theorem Inv.stkSub(I:Inv X pins σ H s): ∀b∈frs X.stack,b∈X.env.locals::X.fs:=fun b hb=>by
 rcases I.ok.stk with e | ⟨e,hf⟩
 ·rw [e]at hb;exact List.mem_cons_of_mem _ hb
 ·rw [e]at hb
  unfold frs at hb
  rw [List.filterMap_cons,hf]at hb
  exact hb
theorem Inv.stkFree(I:Inv X pins σ H s): ∀b∈frs X.stack,H b=none:=fun b hb=>by
 rcases List.mem_cons.mp (I.stkSub b hb)with e | hb
 ·rw [e];exact I.free
 ·obtain⟨_,o,ho,_⟩:=I.ok.funs.mem hb
  exact I.base.free b o ho (I.ok.frf b hb) fun z=>I.ok.exfs b z hb
theorem Inv.step{g':Array GenState}{t':Nat}{d':Drawn}{ch:List Addr}(I:Inv X pins σ H s)
  (hch: ∀b∈ch,(b∈X.ex∨X.s₀.heap.objs.size≤b)∧b≠X.env.locals∧(∀x c,X.env.cells.lookup x=some c→c≠b)∧ ∀p∈X.pn++pins,p.1≠b)
  (keep: ∀b o,b≠X.env.locals→b∉X.fs→b∉ch→s.heap.get? b=some o→H b=none→h'.get? b=some o)
  (slot: ∀b o,b≠X.env.locals→b∈X.fs→b∉ch→s.heap.get? b=some o→H b=none→ ∃sl,h'.get? b=some {o with slots:=sl}) (free: ∀b o,b∉ch→s.heap.get? b=some o→H b=none→H' b=none)
  (there: ∀b o,b∉ch→s.heap.get? b=some o→ ∃o',h'.get? b=some o')
  (tups: ∀b xs,H b=some (.tup xs)→H' b=some (.tup xs)) (frzs: ∀b o u,H b=some (.frz o u)→H' b=some (.frz o u)) (tbls: ∀b ps,H b=some (.tbl ps)→ ∃more,H' b=some (.tbl (ps++more)))
  (ns: ∀m,s.heap.Ns X.env.locals m→h'.Ns X.env.locals m) (hok:HOk X.prog X.w H' h') (hg:AllBare g'):
  Inv X pins σ H' {s with heap:=h',gens:=g',drawn:=d',toks:=t'}:=by
 have neL: ∀b o,X.s₀.heap.get? b=some o→b≠X.env.locals:=fun b o e=>Nat.ne_of_lt (Nat.lt_of_lt_of_le (Heap.lt_size e) I.ok.above)
 have neC: ∀b o,X.s₀.heap.get? b=some o→b∉X.ex→b∉ch:=fun b o e hx hb=>by
  rcases (hch b hb).1 with z | z
  ·exact hx z
  ·exact absurd (Nat.lt_of_lt_of_le (Heap.lt_size e) z) (Nat.lt_irrefl _)
 have cellK: ∀x c,X.env.cells.lookup x=some c→ ∀v,s.heap.IsCell c v→h'.IsCell c v:=fun x c e v ⟨o,ho,hd⟩=>by
  have nch:c∉ch:=fun z=>(hch c z).2.2.1 x c e rfl
  by_cases hc:c∈X.fs
  ·obtain⟨sl,q⟩:=slot c o (I.cne x c e) hc nch ho (I.freeC x c e)
   exact⟨_,q,hd⟩
  ·exact⟨o,keep c o (I.cne x c e) hc nch ho (I.freeC x c e),hd⟩
 refine⟨I.ok,I.os,hg,⟨fun b o e n hb hx=>?_,fun b o e n hb hx=>?_,fun b o e n hx=>?_,fun b o e hx=>?_,fun b xs e=>tups b xs (I.base.tups b xs e),fun b o xs e=>frzs b o xs (I.base.frzs b o xs e),fun b ps e=>?_⟩,?_,fun x c e=>?_,?_,fun x c e=>?_,fun p hp=>?_,hok,I.len⟩
 ·exact keep b o (neL b o e) hb (neC b o e hx) (I.base.keep b o e n hb hx) (I.base.free b o e n hx)
 ·obtain⟨sl,e1⟩:=I.base.slot b o e n hb hx
  obtain⟨sl',e2⟩:=slot b _ (neL b o e) hb (neC b o e hx) e1 (I.base.free b o e n hx)
  exact⟨sl',e2⟩
 ·obtain⟨o',e1⟩:=I.base.there b o e hx
  exact free b o' (neC b o e hx) e1 (I.base.free b o e n hx)
 ·obtain⟨o',e1⟩:=I.base.there b o e hx
  exact there b o' (neC b o e hx) e1
 ·obtain⟨m1,e1⟩:=I.base.tbls b ps e
  obtain⟨m2,e2⟩:=tbls b _ e1
  exact⟨m1++m2,by rw [e2,Array.append_assoc]⟩
 ·obtain⟨m,hn,hl⟩:=I.loc
  refine⟨m,ns m hn,fun i x v e1 e2 e3=>?_⟩
  obtain⟨u,r,l⟩:=hl i x v e1 e2 e3
  refine⟨u,r,?_⟩
  rcases l with l | ⟨k,c,e,z⟩
  ·exact .inl l
  ·exact .inr ⟨k,c,e,cellK x c e _ z⟩
 ·obtain⟨v,z⟩:=I.cell x c e
  exact⟨v,cellK x c e v z⟩
 ·obtain⟨m,⟨o,_,_,ho,_⟩,_⟩:=I.loc
  exact free _ o (fun z=>(hch _ z).2.1 rfl) ho I.free
 ·obtain⟨v,o,ho,hd⟩:=I.cell x c e
  exact free c o (fun z=>(hch c z).2.2.1 x c e rfl) ho (I.freeC x c e)
 ·obtain⟨e,n,ne,nf,d⟩:=I.pin p hp
  have nch:p.1∉ch:=fun z=>(hch p.1 z).2.2.2 p hp rfl
  exact⟨keep p.1 p.2 ne nf nch e n,free p.1 p.2 nch e n,ne,nf,d⟩
theorem Inv.un{t':Nat}(I:Inv X pins σ H s)(u:Un X.fs [] H H' s.heap h')(hok:HOk X.prog X.w H' h'):Inv X pins σ H' {s with heap:=h',toks:=t'}:=by
 obtain⟨m,⟨o,es,ep,ho,r⟩,_⟩:=id I.loc
 obtain⟨sl,hL⟩:=u.any ho I.free (by simp)
 exact I.step (g':=s.gens) (d':=s.drawn) (ch:=[]) (fun _ z=>nomatch z) (fun b o _ hb _ e n=>u.keep b o e n hb (by simp)) (fun b o _ hb _ e n=>u.slot b o e n hb (by simp)) (fun b o _ e n=>u.free b o e n (by simp)) (fun b o _ e=>u.there b o e (by simp)) u.tups u.frzs u.tbls (fun m' hm=>by
  obtain⟨o',es',ep',ho',r'⟩:=hm
  rw [ho]at ho';cases ho'
  exact⟨_,es',ep',hL,r'⟩) hok I.bare
theorem Inv.call{g':Array GenState}{t':Nat}{d':Drawn}{ch:List Addr}(I:Inv X pins σ H s)(u:Un (frs X.stack) ch H H' s.heap h')(hok:HOk X.prog X.w H' h')(hg:AllBare g')
  (hch: ∀b∈ch,(b∈X.ex∨X.s₀.heap.objs.size≤b)∧b≠X.env.locals∧(∀x c,X.env.cells.lookup x=some c→c≠b)∧ ∀p∈X.pn++pins,p.1≠b):
  Inv X pins σ H' {s with heap:=h',gens:=g',drawn:=d',toks:=t'}:=by
 obtain⟨m,⟨o,es,ep,ho,r⟩,_⟩:=id I.loc
 obtain⟨sl,hL⟩:=u.any ho I.free fun z=>(hch _ z).2.1 rfl
 exact I.step (ch:=ch) hch (fun b o hL hb hc e n=>u.keep b o e n (fun z=>(List.mem_cons.mp (I.stkSub b z)).elim hL hb) hc) (fun b o _ _ hc e n=>u.any e n hc) (fun b o hc e n=>u.free b o e n hc) (fun b o hc e=>u.there b o e hc) u.tups u.frzs u.tbls (fun m' hm=>by
  obtain⟨o',es',ep',ho',r'⟩:=hm
  rw [ho]at ho';cases ho'
  exact⟨_,es',ep',hL,r'⟩) hok hg
theorem Inv.turned{t':Nat}{it:Addr}(I:Inv X pins σ H s)(k: ∀b o,b≠it→s.heap.get? b=some o→h'.get? b=some o)(hn:H it=none)(hL:it≠X.env.locals)
  (h1:it∈X.ex∨X.s₀.heap.objs.size≤it) (h2: ∀x c,X.env.cells.lookup x=some c→c≠it) (h3: ∀p∈X.pn++pins,p.1≠it):Inv X pins σ H {s with heap:=h',toks:=t'}:=by
 have nit: ∀b u,H b=some u→b≠it:=fun b u e z=>by rw [z,hn]at e;cases e
 refine I.step (g':=s.gens) (d':=s.drawn) (ch:=[it]) (fun b hb=>?_) (fun b o _ _ hc e _=>k b o (fun z=>hc (by simp [z])) e) (fun b o _ _ hc e _=>⟨o.slots,k b o (fun z=>hc (by simp [z])) e⟩) (fun _ _ _ _ n=>n)
  (fun b o hc e=>⟨o,k b o (fun z=>hc (by simp [z])) e⟩) (fun _ _ e=>e) (fun _ _ _ e=>e) (fun b ps e=>⟨#[],by rw [e];simp⟩) (fun m hm=>?_) (fun b u e=>?_) I.bare
 ·have e:b=it:=by simpa using hb
  subst e
  exact⟨h1,hL,h2,h3⟩
 ·obtain⟨o,es,ep,ho,r⟩:=hm
  exact⟨o,es,ep,k _ o (Ne.symm hL) ho,r⟩
 ·refine(I.hok b u e).stay (fun c v hc q=>k c v ?_ q) (fun _ q=>q) fun _ _ q=>q
  rcases hc with z | z
  ·rw [z];exact nit b u e
  ·exact nit c _ z
theorem Inv.tok(I:Inv X pins σ H s)(t:Nat):Inv X pins σ H {s with toks:=t}:=I.un (h':=s.heap) (t':=t) Un.refl I.hok
theorem Inv.kept{t':Nat}(I:Inv X pins σ H s)(k: ∀b u,s.heap.get? b=some u→h'.get? b=some u):Inv X pins σ H {s with heap:=h',toks:=t'}:=I.un (Un.kept k) (I.hok.kept k)
theorem Inv.laid{a:Addr}{o:HO}{t':Nat}(I:Inv X pins σ H s)(k: ∀b u,s.heap.get? b=some u→h'.get? b=some u)(hp:s.heap.objs.size≤a)(new:ObjOk X.prog X.w (upd H a o) h' a o):
  Inv X pins σ (upd H a o) {s with heap:=h',toks:=t'}:=I.un (Un.laid k hp (I.hok.fresh hp)) (I.hok.laid k hp new)
theorem Inv.write{x e:Addr}{o:HO}{t':Nat}(I:Inv X pins σ H s)(mu:Mut (H x))(he:e=x∨H e=some (.own x))(k: ∀b u,b≠e→s.heap.get? b=some u→h'.get? b=some u)(heo: ∃u,h'.get? e=some u)
  (new:ObjOk X.prog X.w (upd H x o) h' x o):Inv X pins σ (upd H x o) {s with heap:=h',toks:=t'}:=I.un (Un.write mu he k heo) (I.hok.write mu he k heo new)
theorem Inv.pins_of{pins':List (Addr×Obj)}(I:Inv X pins σ H s)(h: ∀p∈pins',s.heap.get? p.1=some p.2∧H p.1=none∧p.1≠X.env.locals∧p.1∉X.fs∧ ∀v,p.2.data≠.cell v):Inv X pins' σ H s:=
 ⟨I.ok,I.os,I.bare,I.base,I.loc,I.cell,I.free,I.freeC,fun p hp=>(List.mem_append.mp hp).elim (fun z=>I.pin p (List.mem_append_left _ z)) (h p),I.hok,I.len⟩
theorem zNI{N:List Str}(hN:N.Nodup){i j:Nat}{x:Str}(a:N[i]? =some x)(b:N[j]? =some x):i=j:=by
 obtain⟨h1,e1⟩:=List.getElem?_eq_some_iff.mp a
 obtain⟨h2,e2⟩:=List.getElem?_eq_some_iff.mp b
 exact(List.getElem_inj hN).mp (e1.trans e2.symm)
theorem zQK{M:Model}{A:Around}{E:Value→Shared→Prop}{i:Nat}{x:Str}{v:V}{u:Value}{Q:Unit→Shared→Prop}(I:Inv X pins σ H s)(hN:X.N.Nodup)(hi:X.N[i]? =some x)(hx:Loc X.env.scope x)(r:RelV v u)
  (h: ∀s',Inv X pins (σ.set i (some v)) H s'→(∃a,Heap.SameBut a s.heap s'.heap∧(a=X.env.locals∨X.env.cells.lookup x=some a))→Q () s') (hf:X.fn x=true∨X.env.scope.names.lookup x=some .local:=by first | exact .inl rfl | exact .inr rfl | assumption):wpAny M A (storeName X.env x u) Q E s:=by
 obtain⟨m,hn,hl⟩:=id I.loc
 have hcls:(X.env.scope.kind==.class || (X.env.scope.kind==.module&&X.env.locals !=X.env.globals))=false:=by rw [I.ok.kind];rfl
 have hiσ:i<σ.length:=by rw [I.len];exact(List.getElem?_eq_some_iff.mp hi).1
 have cne:=I.cne
 have tracked: ∀{a:Addr}{h':Heap},(∃o,s.heap.get? a=some o∧H a=none)→Heap.SameBut a s.heap h'→HOk X.prog X.w H h':=fun {a h'} ha hs b ob e=>by
  obtain⟨_,_,hfree⟩:=ha
  refine(I.hok b ob e).stay (fun c w' hc q=>(hs.2 c ?_).trans q) (fun _ q=>q) fun _ _ q=>q
  rintro rfl
  rcases hc with rfl | hc
  ·rw [hfree]at e;cases e
  ·rw [hfree]at hc;cases hc
 rcases hx with hk | hk
 ·refine wpAny_storeName_local hk hn (fun h' hn' hs=>?_) hcls
  obtain⟨oL,_,_,hoL,_⟩:=id hn
  refine h _ ⟨I.ok,I.os,I.bare,⟨fun b o e n hb hx=>?_,fun b o e n hb hx=>?_,I.base.free,fun b o e hx=>?_,I.base.tups,I.base.frzs,I.base.tbls⟩,⟨_,hn',fun j y v' e1 e2 e3=>?_⟩,fun y c e=>?_,I.free,I.freeC,fun p hp=>?_,tracked ⟨oL,hoL,I.free⟩ hs,by simpa using I.len⟩ ⟨_,hs,.inl rfl⟩
  ·exact(hs.2 b (Nat.ne_of_lt (Nat.lt_of_lt_of_le (Heap.lt_size e) I.ok.above))).trans (I.base.keep b o e n hb hx)
  ·obtain⟨sl,e1⟩:=I.base.slot b o e n hb hx
   exact⟨sl,(hs.2 b (Nat.ne_of_lt (Nat.lt_of_lt_of_le (Heap.lt_size e) I.ok.above))).trans e1⟩
  ·obtain⟨o',e1⟩:=I.base.there b o e hx
   exact⟨o',(hs.2 b (Nat.ne_of_lt (Nat.lt_of_lt_of_le (Heap.lt_size e) I.ok.above))).trans e1⟩
  ·by_cases hj:j=i
   ·subst hj
    rw [hi]at e1;cases e1
    rw [List.getElem?_set_self hiσ]at e2
    cases e2
    exact⟨u,r,.inl ⟨hk,by simp⟩⟩
   ·rw [List.getElem?_set_ne (Ne.symm hj)]at e2
    obtain⟨u',r',q⟩:=hl j y v' e1 e2 e3
    refine⟨u',r',?_⟩
    rcases q with⟨k,e⟩ | ⟨k,c,e,z⟩
    ·refine .inl ⟨k,?_⟩
     have:y≠x:=fun e=>hj (zNI hN e1 (e▸hi))
     simp [this,e]
    ·exact .inr ⟨k,c,e,z.sameBut hs (cne y c e)⟩
  ·obtain⟨w',z⟩:=I.cell y c e
   exact⟨w',z.sameBut hs (cne y c e)⟩
  ·obtain⟨e,n,ne,nf,d⟩:=I.pin p hp
   exact⟨(hs.2 p.1 ne).trans e,n,ne,nf,d⟩
 ·have hfn:X.fn x=true:=by
   rcases hf with z | z
   ·exact z
   ·rw [z]at hk;cases hk
  obtain⟨c,hc⟩:=I.ok.has x (.inl hk)
  obtain⟨w',z⟩:=I.cell x c hc
  refine wpAny_storeName_cell I.ok.kind hk hc z (fun h' hc' hs=>?_)
  obtain⟨oc,hoc,hocd⟩:=id z
  refine h {s with heap:=h'} ⟨I.ok,I.os,I.bare,⟨fun b o e n hb hx=>?_,fun b o e n hb hx=>?_,I.base.free,fun b o e hx=>?_,I.base.tups,I.base.frzs,I.base.tbls⟩,⟨m,hn.sameBut hs (Ne.symm (cne x c hc)),fun j y v' e1 e2 e3=>?_⟩,fun y c' e=>?_,I.free,I.freeC,fun p hp=>?_,tracked ⟨oc,hoc,I.freeC x c hc⟩ hs,by simpa using I.len⟩ ⟨c,hs,.inr hc⟩
  ·exact(hs.2 b (Nat.ne_of_lt (Nat.lt_of_lt_of_le (Heap.lt_size e) (I.ok.cab x c hfn hc)))).trans (I.base.keep b o e n hb hx)
  ·obtain⟨sl,e1⟩:=I.base.slot b o e n hb hx
   exact⟨sl,(hs.2 b (Nat.ne_of_lt (Nat.lt_of_lt_of_le (Heap.lt_size e) (I.ok.cab x c hfn hc)))).trans e1⟩
  ·obtain⟨o',e1⟩:=I.base.there b o e hx
   exact⟨o',(hs.2 b (Nat.ne_of_lt (Nat.lt_of_lt_of_le (Heap.lt_size e) (I.ok.cab x c hfn hc)))).trans e1⟩
  ·by_cases hj:j=i
   ·subst hj
    rw [hi]at e1;cases e1
    rw [List.getElem?_set_self hiσ]at e2
    cases e2
    exact⟨u,r,.inr ⟨.inl hk,c,hc,hc'⟩⟩
   ·rw [List.getElem?_set_ne (Ne.symm hj)]at e2
    obtain⟨u',r',q⟩:=hl j y v' e1 e2 e3
    refine⟨u',r',?_⟩
    rcases q with q | ⟨k,c',e,z'⟩
    ·exact .inl q
    ·refine .inr ⟨k,c',e,z'.sameBut hs ?_⟩
     rintro rfl
     exact hj (zNI hN e1 (I.ok.inj _ _ _ e hc▸hi))
  ·by_cases hcc:c'=c
   ·subst hcc;exact⟨_,hc'⟩
   ·obtain⟨w2,z2⟩:=I.cell y c' e
    exact⟨w2,z2.sameBut hs hcc⟩
  ·obtain⟨e,n,ne,nf,d⟩:=I.pin p hp
   refine⟨(hs.2 p.1 ?_).trans e,n,ne,nf,d⟩
   intro q
   rw [q,hoc]at e
   have q':oc=p.2:=Option.some.inj e
   exact d w' (by rw [←q'];exact hocd)
theorem zJD{M:Model}{A:Around}{E:Value→Shared→Prop}{i:Nat}{x:Str}{v:V}{u:Value}{Q:Unit→Shared→Prop}(I:Inv X pins σ H s)(hN:X.N.Nodup)(hi:X.N[i]? =some x)(hx:Loc X.env.scope x)(r:RelV v u)
  (h: ∀s',Inv X pins (σ.set i (some v)) H s'→Q () s') (hf:X.fn x=true∨X.env.scope.names.lookup x=some .local:=by first | exact .inl rfl | exact .inr rfl | assumption):wpAny M A (storeName X.env x u) Q E s:=
 zQK I hN hi hx r (fun s' I' _=>h s' I') hf
theorem Inv.call'{s':Shared}{ch:List Addr}(I:Inv X pins σ H s)(ho:s'.os=s.os)(u:Un (frs X.stack) ch H H' s.heap s'.heap)(hok:HOk X.prog X.w H' s'.heap)(hg:AllBare s'.gens)
  (hch: ∀b∈ch,(b∈X.ex∨X.s₀.heap.objs.size≤b)∧b≠X.env.locals∧(∀x c,X.env.cells.lookup x=some c→c≠b)∧ ∀p∈X.pn++pins,p.1≠b):Inv X pins σ H' s':=by
 obtain⟨h',g',d',t',o'⟩:=s'
 have e:o'=s.os:=ho
 subst e
 exact I.call (g':=g') (t':=t') (d':=d') u hok hg hch
end
abbrev XK:=Value→Option Addr→Hp→Prop
abbrev St:=List (Option V)
abbrev VK:=V→Hp→Prop
abbrev TE:=St→Hp→VK→Prop
abbrev TT:=St→Hp→(Bool→Hp→Prop)→Prop
abbrev TA:=St→Hp→(List V→Hp→Prop)→Prop
structure Ends where
 nx:St→Hp→Prop
 rt:VK
 bk:St→Hp→Prop:=fun _ _=>False
 ct:St→Hp→Prop:=fun _ _=>False
abbrev TS:=Ends→St→Hp→Prop
def EP(X:Cx)(pins:List (Addr×Obj))(σ:St)(Q:VK)(u:Value)(s':Shared):Prop:= ∃v H',Inv X pins σ H' s'∧RelV v u∧Q v H'
def TP(X:Cx)(pins:List (Addr×Obj))(σ:St)(Q:Bool→Hp→Prop)(b:Bool)(s':Shared):Prop:= ∃H',Inv X pins σ H' s'∧Q b H'
def AP(X:Cx)(pins:List (Addr×Obj))(σ:St)(Q:List V→Hp→Prop)(us:List Value)(s':Shared):Prop:= ∃vs H',Inv X pins σ H' s'∧Vals vs us∧Q vs H'
def SP(X:Cx)(pins:List (Addr×Obj))(D:Ends)(f:Flow)(s':Shared):Prop:=
 match f with
 | .next=> ∃σ' H',Inv X pins σ' H' s'∧D.nx σ' H'
 | .brk=> ∃σ' H',Inv X pins σ' H' s'∧D.bk σ' H'
 | .cont=> ∃σ' H',Inv X pins σ' H' s'∧D.ct σ' H'
 | .ret u=> ∃v σ' H',Inv X pins σ' H' s'∧RelV v u∧D.rt v H'
def PE(X:Cx)(e:Expr)(t:TE):Prop:=
 ∀(pins:List (Addr×Obj))(s:Shared)(σ:St)(H:Hp)(Q:VK),Inv X pins σ H s→t σ H Q→wpAny (model X.prog X.w) X.A (eval e X.env) (EP X pins σ Q) X.xe s
def PT(X:Cx)(e:Expr)(t:TT):Prop:=
 ∀(pins:List (Addr×Obj))(s:Shared)(σ:St)(H:Hp)(Q:Bool→Hp→Prop),Inv X pins σ H s→t σ H Q→wpAny (model X.prog X.w) X.A (isTrue e X.env (eval e X.env)) (TP X pins σ Q) X.xe s
def PW(X:Cx)(e:Expr)(t:TT):Prop:=
 ∀(whole:Sem Value)(pins:List (Addr×Obj))(s:Shared)(σ:St)(H:Hp)(Q:Bool→Hp→Prop),Inv X pins σ H s→t σ H Q→wpAny (model X.prog X.w) X.A (isTrue e X.env whole) (TP X pins σ Q) X.xe s
theorem PW.pt{X:Cx}{e:Expr}{t:TT}(h:PW X e t):PT X e t:=h _
def PA(X:Cx)(es:List Expr)(t:TA):Prop:=
 ∀(pos:Pos)(pins:List (Addr×Obj))(s:Shared)(σ:St)(H:Hp)(Q:List V→Hp→Prop),Inv X pins σ H s→t σ H Q→wpAny (model X.prog X.w) X.A (spliced (backTo pos (starEach es X.env))) (AP X pins σ Q) X.xe s
def PS(X:Cx)(st:Stmt)(t:TS):Prop:=
 ∀(pins:List (Addr×Obj))(s:Shared)(σ:St)(H:Hp)(D:Ends),Inv X pins σ H s→t D σ H→wpAny (model X.prog X.w) X.A (exec st X.env) (SP X pins D) X.xe s
def PSs(X:Cx)(st:List Stmt)(t:TS):Prop:=
 ∀(pins:List (Addr×Obj))(s:Shared)(σ:St)(H:Hp)(D:Ends),Inv X pins σ H s→t D σ H→wpAny (model X.prog X.w) X.A (execs st X.env) (SP X pins D) X.xe s
theorem thn{α:Type}{t:Sem α}{Q Q':α→Shared→Prop}{M:Model}{A:Around}{E:Value→Shared→Prop}{s:Shared}(h:wpAny M A t Q E s)(hQ: ∀a s,Q a s→Q' a s):wpAny M A t Q' E s:=wpAny_mono h hQ fun _ _ x=>x
end L2
namespace L2
open PySem PySem.Spec PyProof.Rows
section
variable{X:Cx}
def tVar(i:Nat):TE:=fun σ H Q=> ∃v,σ[i]? =some (some v)∧Q v H
def tC(v:V):TE:=fun _ H Q=>Q v H
theorem zNJ{i:Nat}{x:Str}{pos:Pos}(hN:X.N[i]? =some x)(hv:Vis X.env.scope x)(hd:(x==("__debug__":Str))=false:=by decide)(hcd:(x==("__classdict__":Str))=false:=by decide):PE X (.Name x pos) (tVar i):=by
 intro pins s σ H Q I h
 obtain⟨v,e,h⟩:=h
 obtain⟨m,hn,hl⟩:=I.loc
 obtain⟨u,r,l⟩:=hl i x v hN e hv
 have fin:EP X pins σ Q u s:=⟨v,H,I,r,h⟩
 rcases l with⟨hk,hm⟩ | ⟨hk,c,hc,hcell⟩
 ·exact wpAny_Name (wpAny_loadName_local I.ok.kind hk hn hm fin) hd
 ·rcases hk with hk | hk
  ·exact wpAny_Name (wpAny_loadName_cell I.ok.kind hk hc hcell fin) hd
  ·exact wpAny_Name (wpAny_loadName_free I.ok.kind hk hc hcell fin hcd) hd
theorem yCR{i j pos}:PE X (.Constant (.int i) j pos) (tC (.int i)):=fun _ _ _ H _ I h=>wpAny_Constant_int ⟨.int i,H,I.tok _,⟨_,rfl⟩,h⟩
theorem pe_bl{b j pos}:PE X (.Constant (.bool b) j pos) (tC (.bl b)):=fun _ _ _ H _ I h=>Constant_bool ⟨.bl b,H,I,rfl,h⟩
theorem yLC{j pos}:PE X (.Constant .none j pos) (tC .non):=fun _ _ _ H _ I h=>Constant_none ⟨.non,H,I,rfl,h⟩
theorem yCS{x j pos}:PE X (.Constant (.str x) j pos) (tC (.str x)):=fun _ _ _ H _ I h=>Calls.Constant_str ⟨.str x,H,I.tok _,⟨_,rfl⟩,h⟩
def Gl(X:Cx)(x:Str):Prop:=X.env.kindOf x=some .globalImplicit
theorem zGY{E:Value→Shared→Prop}{pins:List (Addr×Obj)}{s:Shared}{σ:St}{H:Hp}{x:Str}{u:Value}{pos:Pos}{Q:Value→Shared→Prop}(I:Inv X pins σ H s)(hg:Gl X x)(hm:X.mg x=some u)(h:Q u s)
  (hd:(x==("__debug__":Str))=false:=by decide):wpAny (model X.prog X.w) X.A (eval (.Name x pos) X.env) Q E s:=
 Calls.Name_function_global I.ok.kind hg (Calls.loadGlobal_global (by rw [I.ok.glob];exact I.mod.glob.keeps I.bk) hm h) hd
theorem zNK{E:Value→Shared→Prop}{pins:List (Addr×Obj)}{s:Shared}{σ:St}{H:Hp}{x:Str}{u:Value}{pos:Pos}{Q:Value→Shared→Prop}(I:Inv X pins σ H s)(hg:Gl X x)(hm:X.mg x=none)(hv:bootBuiltins x=some u)(h:Q u s)
  (hn:x≠"__name__":=by decide) (hd:(x==("__debug__":Str))=false:=by decide):wpAny (model X.prog X.w) X.A (eval (.Name x pos) X.env) Q E s:=by
 obtain⟨mb,h1,h2⟩:=I.mod.blt
 exact Calls.Name_function_global I.ok.kind hg (Calls.loadGlobal_builtin (by rw [I.ok.glob];exact I.mod.glob.keeps I.bk) hm (by rw [I.ok.blt];exact h1.keeps I.bk) ((h2 x hn).trans hv) h) hd
theorem zYL{x:Str}{v:V}{u:Value}{pos:Pos}(hg:Gl X x)(hm:X.mg x=some u)(r:RelV v u)(hd:(x==("__debug__":Str))=false:=by decide):PE X (.Name x pos) (tC v):=
 fun _ _ _ H _ I h=>zGY I hg hm ⟨v,H,I,r,h⟩ hd
theorem zYM{x:Str}{v:V}{u:Value}{pos:Pos}(hg:Gl X x)(hm:X.mg x=none)(hv:bootBuiltins x=some u)(r:RelV v u)(hn:x≠"__name__":=by decide)(hd:(x==("__debug__":Str))=false:=by decide):PE X (.Name x pos) (tC v):=
 fun _ _ _ H _ I h=>zNK I hg hm hv ⟨v,H,I,r,h⟩ hn hd
variable{a b:Expr}{ta tb:TE}{pos:Pos}
variable{tA tB':TT}{rest:List Expr}
def tAnd(t u:TT):TT:=fun σ H Q=>t σ H fun c H1=>if c=true then u σ H1 Q else Q false H1
def tOr(t u:TT):TT:=fun σ H Q=>t σ H fun c H1=>if c=true then Q true H1 else u σ H1 Q
def tNot(t:TT):TT:=fun σ H Q=>t σ H fun c H1=>Q (!c) H1
theorem yGV(ha:PT X a tA):PW X (.BoolOp .And [a] pos) tA:=by
 intro wh pins s σ H Q I h
 refine isTrue_and (thn (ha pins s σ H Q I h) fun c s1 e=>?_)
 cases c with
 | true=>exact isTrue_and_nil e
 | false=>exact e
theorem yLD(ha:PT X a tA):PW X (.BoolOp .Or [a] pos) tA:=by
 intro wh pins s σ H Q I h
 refine isTrue_or (thn (ha pins s σ H Q I h) fun c s1 e=>?_)
 cases c with
 | false=>exact isTrue_or_nil e
 | true=>exact e
theorem yLE(ha:PT X a tA)(hb:PW X (.BoolOp .And (b::rest) pos) tB'):PW X (.BoolOp .And (a::b::rest) pos) (tAnd tA tB'):=by
 intro wh pins s σ H Q I h
 refine isTrue_and (thn (ha pins s σ H _ I h) fun c s1 ⟨H1,I1,q1⟩=>?_)
 cases c with
 | true=>exact hb wh pins s1 σ H1 Q I1 q1
 | false=>exact⟨H1,I1,q1⟩
theorem pw_or(ha:PT X a tA)(hb:PW X (.BoolOp .Or (b::rest) pos) tB'):PW X (.BoolOp .Or (a::b::rest) pos) (tOr tA tB'):=by
 intro wh pins s σ H Q I h
 refine isTrue_or (thn (ha pins s σ H _ I h) fun c s1 ⟨H1,I1,q1⟩=>?_)
 cases c with
 | true=>exact⟨H1,I1,q1⟩
 | false=>exact hb wh pins s1 σ H1 Q I1 q1
theorem yLF(ha:PT X a tA):PT X (.UnaryOp .Not a pos) (tNot tA):=by
 intro pins s σ H Q I h
 exact isTrue_not (ha pins s σ H (fun c H1=>Q (!c) H1) I h)
def tAndV(ta tb:TE):TE:=fun σ H Q=>ta σ H fun x H1=> ∃c,x=.bl c∧if c=true then tb σ H1 Q else Q (.bl false) H1
def tNotV(ta:TE):TE:=fun σ H Q=>ta σ H fun x H1=> ∃c,x=.bl c∧Q (.bl (!c)) H1
theorem yLG{op}{t:TE}(h:PE X a t):PE X (.BoolOp op [a] pos) t:=fun pins s σ H Q I hw=>BoolOp_one (h pins s σ H Q I hw)
theorem yLH(ha:PE X a ta)(hb:PE X (.BoolOp .And (b::rest) pos) tb):PE X (.BoolOp .And (a::b::rest) pos) (tAndV ta tb):=by
 intro pins s σ H Q I h
 refine BoolOp_and (thn (ha pins s σ H _ I h) fun v s1 ⟨x,H1,I1,r1,q1⟩=>?_)
 obtain⟨c,rfl,q1⟩:=q1
 cases r1
 refine wpAny_truthy_bool ?_
 cases c with
 | true=>exact hb pins s1 σ H1 Q I1 q1
 | false=>exact⟨.bl false,H1,I1,rfl,q1⟩
theorem yLI(ha:PE X a ta):PE X (.UnaryOp .Not a pos) (tNotV ta):=by
 intro pins s σ H Q I h
 refine UnaryOp_ (thn (ha pins s σ H _ I h) fun v s1 ⟨x,H1,I1,r1,q1⟩=>?_)
 obtain⟨c,rfl,q1⟩:=q1
 cases r1
 exact not_of (wpAny_truthy_bool ⟨.bl (!c),H1,I1,rfl,q1⟩)
end
end L2
namespace L2
open PySem PySem.Spec PyProof.Rows
def SqL(K:PySem.W.Frag)(H:Hp)(a:Addr)(xs:List V):Prop:=
 Rd H a (.lst xs)∨
  ∃(o:Obj)(its:Array Value)(n:Nat),K.lookup a=some o∧o.cls=.type "list"∧o.dict=none∧o.data=.seq its n∧its.size≤sizeLine∧Vals xs its.toList
def SqT(K:PySem.W.Frag)(H:Hp)(a:Addr)(xs:List V):Prop:=
 Rd H a (.tup xs)∨
  ∃(o:Obj)(its:Array Value)(n:Nat),K.lookup a=some o∧o.cls=.type "tuple"∧o.data=.seq its n∧its.size≤sizeLine∧Vals xs its.toList
def absV:Value→Option V
 | .none=>some .non
 | .bool b=>some (.bl b)
 | .int i _=>some (.int i)
 | .str x _=>some (.str x)
 | .bytes b _=>some (.byt b)
 | .float b _=>some (.flt b)
 | .ref a=>some (.ref a)
 | .type n=>some (.ty n)
 | _=>none
theorem RelV.abs{x:V}{u:Value}(r:RelV x u):absV u=some x:=by
 cases x with
 | non=>cases r;rfl
 | bl _=>cases r;rfl
 | int _=>obtain⟨t,rfl⟩:=r;rfl
 | str _=>obtain⟨t,rfl⟩:=r;rfl
 | byt _=>obtain⟨t,rfl⟩:=r;rfl
 | flt _=>obtain⟨t,rfl⟩:=r;rfl
 | ref _=>cases r;rfl
 | ty _=>cases r;rfl
theorem RelV.inj{x y:V}{u:Value}(r:RelV x u)(q:RelV y u):x=y:=Option.some.inj (r.abs.symm.trans q.abs)
theorem Vals.inj: ∀{xs ys:List V}{us:List Value},Vals xs us→Vals ys us→xs=ys
 | _,_,_,.nil,.nil=>rfl
 | _,_,_,.cons r t,.cons r' t'=>by rw [r.inj r',Vals.inj t t']
section
variable{X:Cx}{pins:List (Addr×Obj)}{σ:St}{H:Hp}{s:Shared}{a:Addr}{xs ys:List V}
theorem SqL.of{K:PySem.W.Frag}(h:H a=some (.lst xs)):SqL K H a xs:=.inl (.inl h)
theorem SqT.of{K:PySem.W.Frag}(h:H a=some (.tup xs)):SqT K H a xs:=.inl (.inl h)
theorem Inv.list(I:Inv X pins σ H s)(h:SqL X.K H a xs): ∃its:List Value,Vals xs its∧PlainL s.heap a its.toArray∧xs.length≤sizeLine:=by
 rcases h with h | ⟨o,its,n,hk,hc,hd,hs,hz,r⟩
 ·obtain⟨z,its,n,r,e⟩:=h.ok I.hok
  exact⟨its,r,⟨_,n,e,rfl,rfl,rfl⟩,z⟩
 ·refine⟨its.toList,r,⟨o,n,I.kIn a o hk,hc,hd,by simpa using hs⟩,?_⟩
  have e:=r.length
  simp only [Array.length_toList]at e
  omega
theorem Inv.tuple(I:Inv X pins σ H s)(h:SqT X.K H a xs): ∃its:List Value,Vals xs its∧IsTup s.heap a its.toArray∧xs.length≤sizeLine:=by
 rcases h with h | ⟨o,its,n,hk,hc,hs,hz,r⟩
 ·obtain⟨z,its,r,p⟩:=h.ok I.hok
  exact⟨its,r,p,z⟩
 ·refine⟨its.toList,r,⟨o,I.kIn a o hk,hc,n,by simpa using hs⟩,?_⟩
  have e:=r.length
  simp only [Array.length_toList]at e
  omega
theorem Inv.list_inj(I:Inv X pins σ H s)(h:SqL X.K H a xs)(h':SqL X.K H a ys):xs=ys:=by
 obtain⟨its,r,⟨o,n,e,_,_,d⟩,_⟩:=I.list h
 obtain⟨its',r',⟨o',n',e',_,_,d'⟩,_⟩:=I.list h'
 rw [e]at e';cases e'
 rw [d]at d'
 injection d' with d1 _
 have:its=its':=by simpa using congrArg Array.toList d1
 subst this
 exact r.inj r'
theorem Inv.tuple_inj(I:Inv X pins σ H s)(h:SqT X.K H a xs)(h':SqT X.K H a ys):xs=ys:=by
 obtain⟨its,r,⟨o,e,_,n,d⟩,_⟩:=I.tuple h
 obtain⟨its',r',⟨o',e',_,n',d'⟩,_⟩:=I.tuple h'
 rw [e]at e';cases e'
 rw [d]at d'
 injection d' with d1 _
 have:its=its':=by simpa using congrArg Array.toList d1
 subst this
 exact r.inj r'
end
abbrev Cx.wish(X:Cx)(E:Value→Shared→Prop):Cx:={X with xe:=E}
abbrev Cx.nox(X:Cx):Cx:=X.wish fun _ _=>False
theorem Cx.Ok.wish{X:Cx}(ok:X.Ok)(E:Value→Shared→Prop):(X.wish E).Ok:=
 ⟨ok.mod,ok.kind,ok.glob,ok.blt,ok.above,ok.inj,ok.has,ok.cab,ok.hd,ok.frames,ok.stk,ok.exf,ok.bs,ok.bsz,ok.noex,ok.exfs,ok.funs,ok.frf⟩
theorem Cx.Ok.unwish{X:Cx}{E:Value→Shared→Prop}(ok:(X.wish E).Ok):X.Ok:=
 ⟨ok.mod,ok.kind,ok.glob,ok.blt,ok.above,ok.inj,ok.has,ok.cab,ok.hd,ok.frames,ok.stk,ok.exf,ok.bs,ok.bsz,ok.noex,ok.exfs,ok.funs,ok.frf⟩
section
variable{X:Cx}{pins:List (Addr×Obj)}{σ:St}{H:Hp}{s:Shared}{E:Value→Shared→Prop}
theorem Inv.wish(I:Inv X pins σ H s)(E:Value→Shared→Prop):Inv (X.wish E) pins σ H s:=⟨I.ok.wish E,I.os,I.bare,I.base,I.loc,I.cell,I.free,I.freeC,I.pin,I.hok,I.len⟩
theorem Inv.unwish(I:Inv (X.wish E) pins σ H s):Inv X pins σ H s:=⟨I.ok.unwish,I.os,I.bare,I.base,I.loc,I.cell,I.free,I.freeC,I.pin,I.hok,I.len⟩
theorem SP.unwish{D:Ends}{f:Flow}{s':Shared}(h:SP (X.wish E) pins D f s'):SP X pins D f s':=by
 cases f with
 | next=>obtain⟨σ',H',I,q⟩:=h;exact⟨σ',H',I.unwish,q⟩
 | brk=>obtain⟨σ',H',I,q⟩:=h;exact⟨σ',H',I.unwish,q⟩
 | cont=>obtain⟨σ',H',I,q⟩:=h;exact⟨σ',H',I.unwish,q⟩
 | ret u=>obtain⟨v,σ',H',I,r,q⟩:=h;exact⟨v,σ',H',I.unwish,r,q⟩
theorem PSs.nox{st:List Stmt}{t:TS}(h:PSs X.nox st t):PSs X st t:=fun pins s σ H D I hw=>
 wpAny_mono (h pins s σ H D (I.wish _) hw) (fun _ _ q=>q.unwish) fun _ _ z=>False.elim z
end
section
variable{X:Cx}{st:Stmt}{rest:List Stmt}{t u:TS}{e:Expr}{te:TE}{pos:Pos}
def tNext:TS:=fun D σ H=>D.nx σ H
def tSeq(t u:TS):TS:=fun D σ H=>t {D with nx:=u D} σ H
theorem yGW:PSs X [] tNext:=fun _ _ σ H _ I h=>wpAny_execs_nil ⟨σ,H,I,h⟩
theorem yCT(h1:PS X st t)(h2:PSs X rest u):PSs X (st::rest) (tSeq t u):=by
 intro pins s σ H D I h
 refine wpAny_execs_cons (thn (h1 pins s σ H {D with nx:=u D} I h) fun f s1 q=>?_)
 cases f with
 | next=>
  obtain⟨σ',H',I',q⟩:=q
  exact h2 pins s1 σ' H' D I' q
 | ret v=>exact q
 | brk=>exact q
 | cont=>exact q
theorem yGX(h1:PS X st t):PSs X [st] t:=by
 intro pins s σ H D I h
 refine wpAny_execs_cons (thn (h1 pins s σ H D I h) fun f s1 q=>?_)
 cases f with
 | next=>exact wpAny_execs_nil q
 | ret v=>exact q
 | brk=>exact q
 | cont=>exact q
theorem Inv.quiet{pins:List (Addr×Obj)}{σ:St}{H:Hp}{s:Shared}(I:Inv X pins σ H s):interactive X.env=false:=by simp [interactive,I.ok.kind]
def tDrop(te:TE):TS:=fun D σ H=>te σ H fun _ H1=>D.nx σ H1
theorem yGY(he:PE X e te)(hs:swapsWith e none pos.line X.env=pure false:=by rfl):PS X (.Expr e pos) (tDrop te):=by
 intro pins s σ H D I h
 exact wpAny_Expr_any (thn (he pins s σ H _ I h) fun v s1 ⟨x,H1,I1,r1,q1⟩=>⟨σ,H1,I1,q1⟩) I.quiet hs
def tRet(te:TE):TS:=fun D σ H=>te σ H D.rt
theorem yLJ(he:PE X e te):PS X (.Return (some e) pos) (tRet te):=by
 intro pins s σ H D I h
 exact wpAny_Return_some (thn (he pins s σ H _ I h) fun v s1 ⟨x,H1,I1,r1,q1⟩=>⟨x,σ,H1,I1,r1,q1⟩)
def tIfS(c:TT)(t u:TS):TS:=fun D σ H=>c σ H fun b H1=>if b=true then t D σ H1 else u D σ H1
theorem ps_if{c:Expr}{a b:List Stmt}{tc:TT}(hc:PT X c tc)(ha:PSs X a t)(hb:PSs X b u):PS X (.If c a b pos) (tIfS tc t u):=by
 intro pins s σ H D I h
 refine wpAny_If (thn (hc pins s σ H _ I h) fun d s1 ⟨H1,I1,q1⟩=>?_)
 cases d with
 | true=>exact ha pins s1 σ H1 D I1 q1
 | false=>exact hb pins s1 σ H1 D I1 q1
end
abbrev TG:=V→St→Hp→(St→Hp→Prop)→Prop
abbrev TGs:=List V→St→Hp→(St→Hp→Prop)→Prop
def PG(X:Cx)(target:Expr)(t:TG):Prop:=
 ∀(pins:List (Addr×Obj))(s:Shared)(σ:St)(H:Hp)(v:V)(u:Value)(Q:St→Hp→Prop),Inv X pins σ H s→RelV v u→t v σ H Q→
  wpAny (model X.prog X.w) X.A (assign target X.env u) (fun _ s'=> ∃σ' H',Inv X pins σ' H' s'∧Q σ' H') X.xe s
def PGs(X:Cx)(ts:List Expr)(t:TGs):Prop:=
 ∀(pins:List (Addr×Obj))(s:Shared)(σ:St)(H:Hp)(vs:List V)(us:List Value)(Q:St→Hp→Prop),Inv X pins σ H s→Vals vs us→t vs σ H Q→
  wpAny (model X.prog X.w) X.A (assignInOrder ((assignEach ts X.env).map (·.2)) us) (fun _ s'=> ∃σ' H',Inv X pins σ' H' s'∧Q σ' H') X.xe s
abbrev TSet:=V→V→V→Hp→(Hp→Prop)→Prop
def PSet(X:Cx)(t:TSet):Prop:=
 ∀(pins:List (Addr×Obj))(s:Shared)(σ:St)(H:Hp)(o i v:V)(ov iv u:Value)(Q:Hp→Prop),Inv X pins σ H s→RelV o ov→RelV i iv→RelV v u→t o i v H Q→
  wpAny (model X.prog X.w) X.A (setItem ov iv u) (fun _ s'=> ∃H',Inv X pins σ H' s'∧Q H') X.xe s
section
variable{X:Cx}{pos:Pos}
def yCU(i:Nat):TG:=fun v σ H Q=>Q (σ.set i (some v)) H
theorem zYN{i:Nat}{x:Str}(hN:X.N.Nodup)(hi:X.N[i]? =some x)(hx:Loc X.env.scope x)(hf:X.fn x=true∨X.env.scope.names.lookup x=some .local:=by first | exact .inl rfl | exact .inr rfl | assumption):PG X (.Name x pos) (yCU i):=by
 intro pins s σ H v u Q I r h
 exact wpAny_assign_Name (zJD I hN hi hx r (fun s' I'=>⟨_,H,I',h⟩) hf)
def gNil:TGs:=fun vs σ H Q=>vs=[]∧Q σ H
def gCons(t:TG)(u:TGs):TGs:=fun vs σ H Q=> ∃v r,vs=v::r∧t v σ H fun σ' H'=>u r σ' H' Q
theorem yGZ:PGs X [] gNil:=by
 intro pins s σ H vs us Q I r h
 obtain⟨e,h⟩:=h
 subst e
 cases r
 exact assignInOrder_nil ⟨σ,H,I,h⟩
theorem yCV{e:Expr}{es:List Expr}{t:TG}{u:TGs}(h1:PG X e t)(h2:PGs X es u)
  (hs:(assignEach (e::es) X.env).map (·.2)=assign e X.env::(assignEach es X.env).map (·.2):=by rfl):PGs X (e::es) (gCons t u):=by
 intro pins s σ H vs us Q I r h
 obtain⟨v,vr,e1,h⟩:=h
 subst e1
 cases r with
 | cons r rr=>
  rw [hs]
  refine assignInOrder_cons (thn (h1 pins s σ H _ _ _ I r h) fun _ s1 ⟨σ1,H1,I1,q1⟩=>?_)
  exact h2 pins s1 σ1 H1 _ _ Q I1 rr q1
def gTup(K:PySem.W.Frag)(n:Nat)(t:TGs):TG:=fun v σ H Q=> ∃a xs,v=.ref a∧SqT K H a xs∧xs.length=n∧t xs σ H Q
theorem yLK{es:List Expr}{k:Nat}{t:TGs}{n:Nat}(hc:X.calm=true)(h:PGs X es t)
  (hn:(assignEach es X.env).length=n:=by rfl) (hst:(assignEach es X.env).findIdx? (·.1)=none:=by rfl):PG X (.Tuple es k pos) (gTup X.K n t):=by
 intro pins s σ H v u Q I r hw
 obtain⟨a,xs,e1,hq,hl,hw⟩:=hw
 subst e1
 cases r
 obtain⟨its,rv,ht,hz⟩:=I.tuple hq
 refine assign_Tuple_tuple (I.ok.hd hc) ht (by simp [hn, ←hl,rv.length]) hst fun h' hx=>?_
 have I1:Inv X pins σ H {s with heap:=h'}:=I.kept (t':=s.toks) fun b o e=>hx b o (Nat.ne_of_lt (Heap.lt_size e)) e
 exact h pins _ σ H xs _ Q I1 (by simpa using rv) hw
def gSub(to ti:TE)(t:TSet):TG:=fun v σ H Q=>to σ H fun o H1=>ti σ H1 fun i H2=>t o i v H2 fun H3=>Q σ H3
theorem yCW{o i:Expr}{to ti:TE}{t:TSet}(ho:PE X o to)(hi:PE X i ti)(hs:PSet X t)
  (ha: ∀v,assign (.Subscript o i pos) X.env v=(do
   let ov ←holding [v] (eval o X.env)
   let iv ←holding [v,ov] (eval i X.env)
   standAt pos
   holding [v,ov,iv] (setItem ov iv v)
   release [v,ov,iv] []):=by intro _;rfl):PG X (.Subscript o i pos) (gSub to ti t):=by
 intro pins s σ H v u Q I r h
 rw [ha]
 refine wpAny_bind (wpAny_holding (thn (ho pins s σ H _ I h) fun ov s1 ⟨x,H1,I1,r1,q1⟩=>?_))
 refine wpAny_bind (wpAny_holding (thn (hi pins s1 σ H1 _ I1 q1) fun iv s2 ⟨y,H2,I2,r2,q2⟩=>?_))
 refine wpAny_bind (wpAny_standAt (wpAny_bind (wpAny_holding (thn (hs pins s2 σ H2 x y v ov iv u _ I2 r1 r2 r q2) fun _ s3 ⟨H3,I3,q3⟩=>?_))))
 exact wpAny_release ⟨σ,H3,I3,q3⟩
def tAsg(te:TE)(g:TG):TS:=fun D σ H=>te σ H fun x H1=>g x σ H1 D.nx
theorem yLL{tg e:Expr}{te:TE}{g:TG}(he:PE X e te)(hg:PG X tg g)(hs:swapsWithSole [tg] e pos.line X.env=pure false:=by rfl)(hw:swappedStores [tg] e X.env=pure none:=by rfl)
  (h1:(assignEach [tg] X.env).map (·.2)=[assign tg X.env]:=by rfl):PS X (.Assign [tg] e pos) (tAsg te g):=by
 intro pins s σ H D I h
 refine wpAny_Assign_stores (thn (he pins s σ H _ I h) fun v s1 ⟨x,H1,I1,r1,q1⟩=>?_) hs hw
 rw [h1]
 exact thn (hg pins s1 σ H1 x v _ I1 r1 q1) fun _ s2 q=>q
theorem yLM{i:Nat}{x:Str}{e:Expr}{te:TE}{pos':Pos}(hN:X.N.Nodup)(hi:X.N[i]? =some x)(hx:Loc X.env.scope x)(he:PE X e te)(hs:swapsWith e (some (.Name x pos')) pos.line X.env=pure false:=by rfl)(hf:X.fn x=true∨X.env.scope.names.lookup x=some .local:=by first | exact .inl rfl | exact .inr rfl | assumption):
  PS X (.Assign [.Name x pos'] e pos) (tAsg te (yCU i)):=by
 intro pins s σ H D I h
 refine wpAny_Assign_Name (thn (he pins s σ H _ I h) fun v s1 ⟨y,H1,I1,r1,q1⟩=>?_) hs
 exact zJD I1 hN hi hx r1 (fun s2 I2=>⟨_,H1,I2,q1⟩) hf
end
structure It where
 go:Nat→Hp→Prop
 yld:Nat→Hp→V→Hp→Prop
 stop:Nat→Hp→Prop
def zJE(X:Cx)(pins:List (Addr×Obj))(H:Hp)(b:Addr):Prop:=
 H b=none∧b≠X.env.locals∧b∉X.fs∧(b∈X.ex∨X.s₀.heap.objs.size≤b)∧(∀x c,X.env.cells.lookup x=some c→c≠b)∧ ∀p∈X.pn++pins,p.1≠b
theorem Inv.fpOk{X:Cx}{pins:List (Addr×Obj)}{σ:St}{H H':Hp}{s:Shared}{b:Addr}(I:Inv X pins σ H s)(hb:s.heap.objs.size≤b)(hn:H' b=none):zJE X pins H' b:=by
 refine⟨hn,Nat.ne_of_gt (Nat.lt_of_lt_of_le I.lt hb),I.nofs hb,.inr (Nat.le_trans I.sz hb),fun x c e z=>?_,fun p hp z=>?_⟩
 ·obtain⟨v,q⟩:=I.cell x c e
  exact absurd (Nat.lt_of_lt_of_le q.lt (by rw [z];exact hb)) (Nat.lt_irrefl _)
 ·exact absurd (Nat.lt_of_lt_of_le (Heap.lt_size (I.pin p hp).1) (by rw [z];exact hb)) (Nat.lt_irrefl _)
structure Turn(P:Program)(w:World)(K:PySem.W.Frag)(tg:Expr)(J:It)(fp:List Addr)(it:Addr)(tn:Nat→Heap→Prop):Prop where
 mem:it∈fp
 obj: ∀i h,tn i h→ ∀b∈fp, ∃o,h.get? b=some o∧ ∀v,o.data≠.cell v
 keep: ∀i h h',tn i h→(∀b∈fp, ∀o,h.get? b=some o→h'.get? b=some o)→tn i h'
 item: ∀(X:Cx),X.prog=P→X.w=w→X.K=K→X.calm=true→ ∀(i:Nat)(pins:List (Addr×Obj))(s:Shared)(σ:St)(H:Hp)(E:Value→Shared→Prop),Inv X pins σ H s→(∀b∈fp,zJE X pins H b)→tn i s.heap→J.go i H→
  wpAny (model P w) X.A (pyNext (.ref it)) (fun r s1=> ∃u,r=some u∧
   wpAny (model P w) X.A (letOwnedTupleGo tg (.ref it) u) (fun _ s2=> ∃x H',Inv X pins σ H' s2∧RelV x u∧J.yld i H x H'∧tn (i+1) s2.heap∧ ∀b∈fp,H' b=none) E s1) E s
 done: ∀(X:Cx),X.prog=P→X.w=w→X.K=K→X.calm=true→ ∀(i:Nat)(pins:List (Addr×Obj))(s:Shared)(σ:St)(H:Hp)(E:Value→Shared→Prop),Inv X pins σ H s→(∀b∈fp,zJE X pins H b)→tn i s.heap→J.stop i H→
  wpAny (model P w) X.A (pyNext (.ref it)) (fun r s1=>r=none∧Inv X pins σ H s1) E s
 self: ∀(A:Around)(i:Nat)(s:Shared)(Q:Value→Shared→Prop)(E:Value→Shared→Prop),tn i s.heap→Q (.ref it) s→wpAny (model P w) A (pyIter (.ref it)) Q E s
abbrev TI:=St→Hp→(It→Hp→Prop)→Prop
def PIE(X:Cx)(pins:List (Addr×Obj))(σ:St)(tg:Expr)(R:It→Hp→Prop)(itv:Value)(s2:Shared):Prop:=
 ∃(it:Addr)(fp:List Addr)(tn:Nat→Heap→Prop)(J:It)(H':Hp),itv=.ref it∧Inv X pins σ H' s2∧Turn X.prog X.w X.K tg J fp it tn∧tn 0 s2.heap∧(∀b∈fp,zJE X pins H' b)∧R J H'
def PI(X:Cx)(tg iter:Expr)(wi:TI):Prop:=
 ∀(pins:List (Addr×Obj))(s:Shared)(σ:St)(H:Hp)(R:It→Hp→Prop),Inv X pins σ H s→wi σ H R→
  wpAny (model X.prog X.w) X.A (eval iter X.env) (fun v s1=>wpAny (model X.prog X.w) X.A (pyIter v) (PIE X pins σ tg R) X.xe s1) X.xe s
theorem zYO{M:Model}{A:Around}{E:Value→Shared→Prop}{s:Shared}{tg:Expr}{it:Addr}{u:Value}{o:Obj}{n:String}{vs:Array Value}{Q:Unit→Shared→Prop}(ho:s.heap.get? it=some o)(hc:o.cls=.type n)(hd:o.data=.fields vs)
  (hn:["enumerate","zip","dict_itemiterator","dict_reverseitemiterator","odict_iterator","itertools.zip_longest","itertools.pairwise"].contains n=false) (hQ:Q () s):wpAny M A (letOwnedTupleGo tg (.ref it) u) Q E s:=by
 unfold letOwnedTupleGo
 cases tg<;>first
  | exact wpAny_pure hQ
  | (cases u<;>first
    | exact wpAny_pure hQ
    | (refine wpAny_bind (wpAny_load ho ?_)
       rw [hc,hd]
       show wpAny M A (if(["enumerate","zip","dict_itemiterator","dict_reverseitemiterator","odict_iterator","itertools.zip_longest","itertools.pairwise"].contains n&&vs[0]? ==some (rawInt _))=true then _ else _) Q E s
       rw [if_neg (by intro h;rw [hn,Bool.false_and]at h;cases h)]
       exact wpAny_pure hQ))
def Itl(K:PySem.W.Frag)(a:Addr):It:=
 ⟨fun i H=> ∃xs x,SqL K H a xs∧xs[i]? =some x,fun i H x H'=>H'=H∧ ∀xs,SqL K H a xs→xs[i]? =some x,fun i H=> ∃xs,SqL K H a xs∧xs.length≤i⟩
def Itt(K:PySem.W.Frag)(a:Addr):It:=
 ⟨fun i H=> ∃xs x,SqT K H a xs∧xs[i]? =some x,fun i H x H'=>H'=H∧ ∀xs,SqT K H a xs→xs[i]? =some x,fun i H=> ∃xs,SqT K H a xs∧xs.length≤i⟩
def Itr(lo:Int)(n:Nat):It:=⟨fun i _=>i<n,fun i H x H'=>H'=H∧x=.int (lo+i),fun i _=>n≤i⟩
theorem zQL{P:Program}{w:World}{K:PySem.W.Frag}{tg:Expr}(a it:Addr):Turn P w K tg (Itl K a) [it] it (fun i h=>h.IsListIter it a i) where
 mem:=by simp
 obj:=fun i h st b hb=>by
  have e:b=it:=by simpa using hb
  subst e
  obtain⟨o,e,c,d⟩:=st
  exact⟨o,e,fun v z=>by rw [d]at z;cases z⟩
 keep:=fun i h h' st k=>st.at fun o e=>k it (by simp) o e
 item:=by
  intro X hP hw hK hc i pins s σ H E I hf st hg
  subst hP hw hK
  obtain⟨xs,x,hq,hx⟩:=hg
  obtain⟨its,rv,p,hz⟩:=I.list hq
  obtain⟨u,hu,ru⟩:=rv.get hx
  obtain⟨f0,f1,f2,f3,f4,f5⟩:=hf it (by simp)
  refine wpAny_pyNext_list_item st p.isList (x:=u) (by simpa using hu) fun h' st' sb=>?_
  have I1:Inv X pins σ H {s with heap:=h'}:=I.turned (t':=s.toks) (fun b o hb e=>(sb.2 b hb).trans e) f0 f1 f3 f4 f5
  obtain⟨o,e,c,d⟩:=id st'
  exact⟨u,rfl,zYO (s:={s with heap:=h'}) e c d (by decide) ⟨x,H,I1,ru,⟨rfl,fun ys hy=>by rw [I.list_inj hy hq];exact hx⟩,st',fun b hb=>(hf b hb).1⟩⟩
 done:=by
  intro X hP hw hK hc i pins s σ H E I hf st hg
  subst hP hw hK
  obtain⟨xs,hq,hx⟩:=hg
  obtain⟨its,rv,p,hz⟩:=I.list hq
  obtain⟨f0,f1,f2,f3,f4,f5⟩:=hf it (by simp)
  have hl:=rv.length
  exact wpAny_pyNext_list_end (I.ok.hd hc) st p.isList (by simp;omega) fun h' eb=>⟨rfl,I.turned (t':=s.toks) (fun b o hb e=>eb b o hb e) f0 f1 f3 f4 f5⟩
 self:=fun _ _ _ _ _ st h=>wpAny_pyIter_listiter st h
theorem zNL{P:Program}{w:World}{K:PySem.W.Frag}{tg:Expr}(a it:Addr):Turn P w K tg (Itt K a) [it] it (fun i h=>h.IsTupleIter it a i) where
 mem:=by simp
 obj:=fun i h st b hb=>by
  have e:b=it:=by simpa using hb
  subst e
  obtain⟨o,e,c,d⟩:=st
  exact⟨o,e,fun v z=>by rw [d]at z;cases z⟩
 keep:=fun i h h' st k=>st.at fun o e=>k it (by simp) o e
 item:=by
  intro X hP hw hK hc i pins s σ H E I hf st hg
  subst hP hw hK
  obtain⟨xs,x,hq,hx⟩:=hg
  obtain⟨its,rv,p,hz⟩:=I.tuple hq
  obtain⟨u,hu,ru⟩:=rv.get hx
  obtain⟨f0,f1,f2,f3,f4,f5⟩:=hf it (by simp)
  refine wpAny_pyNext_tuple_item st (show s.heap.IsTuple a its.toArray from p) (x:=u) (by simpa using hu) fun h' st' sb=>?_
  have I1:Inv X pins σ H {s with heap:=h'}:=I.turned (t':=s.toks) (fun b o hb e=>(sb.2 b hb).trans e) f0 f1 f3 f4 f5
  obtain⟨o,e,c,d⟩:=id st'
  exact⟨u,rfl,zYO (s:={s with heap:=h'}) e c d (by decide) ⟨x,H,I1,ru,⟨rfl,fun ys hy=>by rw [I.tuple_inj hy hq];exact hx⟩,st',fun b hb=>(hf b hb).1⟩⟩
 done:=by
  intro X hP hw hK hc i pins s σ H E I hf st hg
  subst hP hw hK
  obtain⟨xs,hq,hx⟩:=hg
  obtain⟨its,rv,p,hz⟩:=I.tuple hq
  obtain⟨f0,f1,f2,f3,f4,f5⟩:=hf it (by simp)
  have hl:=rv.length
  exact wpAny_pyNext_tuple_end (I.ok.hd hc) st (show s.heap.IsTuple a its.toArray from p) (by simp;omega) fun h' eb=>⟨rfl,I.turned (t':=s.toks) (fun b o hb e=>eb b o hb e) f0 f1 f3 f4 f5⟩
 self:=fun _ _ _ _ _ st h=>wpAny_pyIter_tupleiter st h
theorem zWJ{P:Program}{w:World}{K:PySem.W.Frag}{tg:Expr}(it:Addr)(lo:Int)(n:Nat):Turn P w K tg (Itr lo n) [it] it (fun i h=>IsRangeIter h it (lo+(i:Nat) * 1) ((n:Int) - (i:Nat)) 1) where
 mem:=by simp
 obj:=fun i h st b hb=>by
  have e:b=it:=by simpa using hb
  subst e
  exact⟨_,st,fun v z=>by
   have z':Data.fields _=Data.cell v:=z
   cases z'⟩
 keep:=fun i h h' st k=>k it (by simp) _ st
 item:=by
  intro X hP hw hK hc i pins s σ H E I hf st hg
  subst hP hw hK
  obtain⟨f0,f1,f2,f3,f4,f5⟩:=hf it (by simp)
  have W:=Walks.range (prog:=X.prog) (w:=X.w) (I.ok.hd hc) it lo 1 n
  refine W.item i s _ _ hg st fun v h' tk hv st' kk=>?_
  obtain⟨t,rfl⟩:=hv
  have I1:Inv X pins σ H {s with heap:=h',toks:=tk}:=I.turned (fun b o hb e=>kk b o (by simpa using hb) e) f0 f1 f3 f4 f5
  refine⟨_,rfl,zYO (s:={s with heap:=h',toks:=tk}) (n:="range_iterator") st' rfl rfl (by decide) ⟨.int (lo+i),H,I1,⟨t,?_⟩,⟨rfl,rfl⟩,st',fun b hb=>(hf b hb).1⟩⟩
  rw [Int.mul_one]
 done:=by
  intro X hP hw hK hc i pins s σ H E I hf st hg
  subst hP hw hK
  obtain⟨f0,f1,f2,f3,f4,f5⟩:=hf it (by simp)
  exact wpAny_pyNext_range_end (I.ok.hd hc) st (by have:n≤i:=hg;omega) fun h' eb=>⟨rfl,I.turned (t':=s.toks) (fun b o hb e=>eb b o hb e) f0 f1 f3 f4 f5⟩
 self:=fun _ _ _ _ _ st h=>wpAny_pyIter_rangeiter st h
end L2
namespace L2
open PySem PySem.Spec PyProof.Rows
section
variable{X:Cx}{tg:Expr}
def iList(K:PySem.W.Frag)(tl:TE):TI:=fun σ H R=>tl σ H fun x H1=> ∃a,x=.ref a∧(∃xs,SqL K H1 a xs)∧R (Itl K a) H1
def iTup(K:PySem.W.Frag)(tl:TE):TI:=fun σ H R=>tl σ H fun x H1=> ∃a,x=.ref a∧(∃xs,SqT K H1 a xs)∧R (Itt K a) H1
theorem yHA{l:Expr}{tl:TE}(hl:PE X l tl):PI X tg l (iList X.K tl):=by
 intro pins s σ H R I h
 refine thn (hl pins s σ H _ I h) fun v s1 ⟨x,H1,I1,r1,q1⟩=>?_
 obtain⟨a,e,⟨xs,hq⟩,q⟩:=q1
 subst e
 cases r1
 obtain⟨its,rv,p,hz⟩:=I1.list hq
 refine wpAny_pyIter_list p.isList ?_
 refine⟨s1.heap.objs.size,[s1.heap.objs.size],_,_,H1,rfl,I1.kept (t':=s1.toks) fun b o e=>Heap.get?_push_of_some _ e,zQL a _,⟨_,Heap.get?_push_size _ rfl,rfl,rfl⟩,fun b hb=>?_,q⟩
 have e:b=s1.heap.objs.size:=by simpa using hb
 subst e
 exact I1.fpOk (Nat.le_refl _) (I1.hok.fresh (Nat.le_refl _))
theorem yLN{l:Expr}{tl:TE}(hl:PE X l tl):PI X tg l (iTup X.K tl):=by
 intro pins s σ H R I h
 refine thn (hl pins s σ H _ I h) fun v s1 ⟨x,H1,I1,r1,q1⟩=>?_
 obtain⟨a,e,⟨xs,hq⟩,q⟩:=q1
 subst e
 cases r1
 obtain⟨its,rv,p,hz⟩:=I1.tuple hq
 refine wpAny_pyIter_tuple (show s1.heap.IsTuple a its.toArray from p) ?_
 refine⟨s1.heap.objs.size,[s1.heap.objs.size],_,_,H1,rfl,I1.kept (t':=s1.toks) fun b o e=>Heap.get?_push_of_some _ e,zNL a _,⟨_,Heap.get?_push_size _ rfl,rfl,rfl⟩,fun b hb=>?_,q⟩
 have e:b=s1.heap.objs.size:=by simpa using hb
 subst e
 exact I1.fpOk (Nat.le_refl _) (I1.hok.fresh (Nat.le_refl _))
theorem yCX{pins:List (Addr×Obj)}{σ:St}{H:Hp}{s:Shared}{R:It→Hp→Prop}{E:Value→Shared→Prop}{lo hi:Int}{t u v:Tok}{tk:Nat}(I:Inv X pins σ H s)(h1: -(2 ^ 62)≤lo)(h2:lo<2 ^ 62)(h3: -(2 ^ 62)≤hi)(h4:hi<2 ^ 62)
  (q:R (Itr lo (hi - lo).toNat) H):wpAny (model X.prog X.w) X.A (pyIter (.ref s.heap.objs.size)) (PIE X pins σ tg R) E {s with heap:=s.heap.push {cls:=.type "range",data:=.fields #[.int lo t,.int hi u,.int 1 v]},toks:=tk}:=by
 refine wpAny_pyIter_range (IsRange.new ..) (small_one h1 h2 h3 h4) ?_
 have I1:Inv X pins σ H {s with heap:=s.heap.push {cls:=.type "range",data:=.fields #[.int lo t,.int hi u,.int 1 v]},toks:=tk}:=I.kept fun b o e=>Heap.get?_push_of_some _ e
 refine⟨(s.heap.push {cls:=.type "range",data:=.fields #[.int lo t,.int hi u,.int 1 v]}).objs.size,[(s.heap.push {cls:=.type "range",data:=.fields #[.int lo t,.int hi u,.int 1 v]}).objs.size],_,_,H,rfl,
  I1.kept (t':=tk) fun b o e=>Heap.get?_push_of_some _ e,zWJ _ lo (hi - lo).toNat,?_,fun b hb=>?_,q⟩
 ·have e1:lo+((0:Nat):Int) * 1=lo:=by simp
  have e2:(((hi - lo).toNat:Nat):Int) - ((0:Nat):Int)=Builtin.Range.rangeSize lo hi 1:=by rw [rangeSize_one];split<;>omega
  show IsRangeIter _ _ (lo+((0:Nat):Int) * 1) ((((hi - lo).toNat:Nat):Int) - ((0:Nat):Int)) 1
  rw [e1,e2]
  exact Heap.get?_push_size _ rfl
 ·have e:b=(s.heap.push {cls:=.type "range",data:=.fields #[.int lo t,.int hi u,.int 1 v]}).objs.size:=by simpa using hb
  subst e
  exact I1.fpOk (Nat.le_refl _) (I1.hok.fresh (Nat.le_refl _))
def iRng1(ta:TA):TI:=fun σ H R=>ta σ H fun vs H1=> ∃j:Int,vs=[.int j]∧ -(2 ^ 62)≤j∧j<2 ^ 62∧R (Itr 0 j.toNat) H1
theorem yAQ{a:Expr}{ta:TA}{p pos:Pos}(hg:Gl X "range")(hm:X.mg "range"=none)(ha:PA X [a] ta)(hs:starEach [a] X.env=[(false,eval a X.env)]:=by rfl):PI X tg (.Call (.Name "range" p) [a] [] pos) (iRng1 ta):=by
 intro pins s σ H R I h
 refine Call_ (zNK I hg hm boot_range (PyProof.Rows.callWith_type1 (thn (ha pos pins s σ H _ I h) fun us s1 ⟨vs,H1,I1,r1,q1⟩=>?_) hs rfl))
 obtain⟨j,e,q1,q2,q⟩:=q1
 subst e
 cases r1 with
 | cons r rr=>
  cases rr
  obtain⟨t,rfl⟩:=r
  exact call_range_1 (yCX I1 (by omega) (by omega) q1 q2 (by simpa using q))
def tFor(wi:TI)(g:TG)(tb:TS):TS:=fun D σ H=>wi σ H fun J H1=> ∃W:Nat→Nat→St→Hp→Prop,(∃m,W 0 m σ H1)∧ ∀i m σ H,W i m σ H→
 (J.stop i H∧D.nx σ H)∨(J.go i H∧ ∃N:St→Hp→Prop,(∀σ' H',N σ' H'→ ∃m',m'<m∧W (i+1) m' σ' H')∧ ∀x H',J.yld i H x H'→g x σ H' fun σ2 H2=>tb {D with nx:=N,ct:=N,bk:=D.nx} σ2 H2)
def zFL(fp:List Addr)(h:Heap):List (Addr×Obj):=fp.filterMap fun b=>(h.get? b).map fun o=>(b,o)
theorem zDV{fp:List Addr}{h:Heap}{b:Addr}{o:Obj}(hb:b∈fp)(e:h.get? b=some o):(b,o)∈zFL fp h:=List.mem_filterMap.mpr ⟨b,hb,by rw [e];rfl⟩
theorem yAR{fp:List Addr}{h:Heap}{p:Addr×Obj}(hp:p∈zFL fp h):p.1∈fp∧h.get? p.1=some p.2:=by
 obtain⟨b,hb,e⟩:=List.mem_filterMap.mp hp
 cases q:h.get? b with
 | none=>rw [q]at e;cases e
 | some o=>
  rw [q]at e
  have e':(b,o)=p:=Option.some.inj e
  subst e'
  exact⟨hb,q⟩
theorem Inv.pinned{pins:List (Addr×Obj)}{σ:St}{H:Hp}{s:Shared}{fp:List Addr}(I:Inv X pins σ H s)(hf: ∀b∈fp,zJE X pins H b)(ho: ∀b∈fp, ∃o,s.heap.get? b=some o∧ ∀v,o.data≠.cell v):Inv X (pins++zFL fp s.heap) σ H s:=
 I.pins_of fun p hp=>(List.mem_append.mp hp).elim (fun z=>I.pin p (List.mem_append_right _ z)) fun z=>by
  obtain⟨hb,e⟩:=yAR z
  obtain⟨f0,f1,f2,_⟩:=hf p.1 hb
  obtain⟨o,e',d⟩:=ho p.1 hb
  rw [e]at e';cases e'
  exact⟨e,f0,f1,f2,d⟩
theorem Inv.unpinned{pins pl:List (Addr×Obj)}{σ:St}{H:Hp}{s:Shared}(I:Inv X (pins++pl) σ H s):Inv X pins σ H s:=I.pins_of fun p hp=>I.pin p (List.mem_append_right _ (List.mem_append_left _ hp))
theorem yLO{iter:Expr}{body:List Stmt}{wi:TI}{g:TG}{tb:TS}{pos:Pos}(hp:PassesOwn (model X.prog X.w) X.A X.env X.xe)(hc:X.calm=true)(hi:PI X tg iter wi)(hg:PG X tg g)(hb:PSs X body tb)
  (hs: ∀x,foldedSetIterable iter X.env x=pure x:=by intro _;rfl):PS X (.For tg iter body [] pos) (tFor wi g tb):=by
 intro pins s σ H D I h
 refine wpAny_For (thn (hi pins s σ H _ I h) fun v s1 h1=>thn h1 fun itv s2 h2=>?_) hs
 obtain⟨it,fp,tn,J,H2,e,I2,T,st2,f2,W,⟨m0,w0⟩,turn⟩:=h2
 subst e
 have stat: ∀{H':Hp},(∀b∈fp,H' b=none)→ ∀b∈fp,zJE X pins H' b:=fun hn b hb=>⟨hn b hb,(f2 b hb).2⟩
 refine codeAny_forLoop_any (fun n s'=> ∃i σ' H',Inv X pins σ' H' s'∧tn i s'.heap∧(∀b∈fp,H' b=none)∧W i n σ' H') ?_ m0 ⟨0,σ,H2,I2,st2,fun b hb=>(f2 b hb).1,w0⟩
 rintro n s3 ⟨i,σ3,H3,I3,st3,fr3,w3⟩
 rcases turn i n σ3 H3 w3 with⟨stop,qn⟩ | ⟨go,N,hN,step⟩
 ·refine wpAny_passesOwn hp (thn (T.done X rfl rfl rfl hc i pins s3 σ3 H3 X.xe I3 (stat fr3) st3 stop) fun r s4 ⟨hr,I4⟩=>?_)
  subst hr
  exact wpAny_execs_nil ⟨σ3,H3,I4,qn⟩
 ·refine wpAny_passesOwn hp (thn (T.item X rfl rfl rfl hc i pins s3 σ3 H3 X.xe I3 (stat fr3) st3 go) fun r s4 ⟨u,hr,h4⟩=>?_)
  subst hr
  refine wpAny_passesOwn hp (thn h4 fun _ s5 ⟨x,H5,I5,r5,y5,st5,fr5⟩=>?_)
  have I5':=I5.pinned (stat fr5) (T.obj _ _ st5)
  refine wpAny_passesOwn hp (thn (hg _ s5 σ3 H5 x u _ I5' r5 (step x H5 y5)) fun _ s6 ⟨σ6,H6,I6,q6⟩=>?_)
  refine wpAny_passesOwn hp (thn (hb _ s6 σ6 H6 _ I6 q6) fun f s7 q7=>?_)
  have again: ∀{σ7:St}{H7:Hp},Inv X (pins++zFL fp s5.heap) σ7 H7 s7→N σ7 H7→ ∃m,m<n∧ ∃i σ' H',Inv X pins σ' H' s7∧tn i s7.heap∧(∀b∈fp,H' b=none)∧W i m σ' H':=fun {σ7 H7} I7 n7=>by
   obtain⟨m',hm,w7⟩:=hN σ7 H7 n7
   refine⟨m',hm,i+1,σ7,H7,I7.unpinned,T.keep _ _ _ st5 fun b hb o e=>(I7.pin (b,o) (List.mem_append_right _ (List.mem_append_right _ (zDV hb e)))).1,fun b hb=>?_,w7⟩
   obtain⟨o,e,d⟩:=T.obj _ _ st5 b hb
   exact(I7.pin (b,o) (List.mem_append_right _ (List.mem_append_right _ (zDV hb e)))).2.1
  cases f with
  | next=>obtain⟨σ7,H7,I7,n7⟩:=q7;exact again I7 n7
  | cont=>obtain⟨σ7,H7,I7,n7⟩:=q7;exact again I7 n7
  | brk=>obtain⟨σ7,H7,I7,q7⟩:=q7;exact⟨σ7,H7,I7.unpinned,q7⟩
  | ret v=>obtain⟨x7,σ7,H7,I7,r7,q7⟩:=q7;exact⟨x7,σ7,H7,I7.unpinned,r7,q7⟩
end
end L2
namespace L2
open PySem PySem.Spec PyProof.Rows
abbrev R2:=V→V→Hp→VK→Prop
def OpR(X:Cx)(f:Value→Value→Sem Value)(r:R2):Prop:=
 ∀(pins:List (Addr×Obj))(s:Shared)(σ:St)(H:Hp)(x y:V)(v u:Value)(Q:VK),Inv X pins σ H s→RelV x v→RelV y u→r x y H Q→
  wpAny (model X.prog X.w) X.A (f v u) (EP X pins σ Q) X.xe s
def UnR(X:Cx)(f:Value→Sem Value)(r:V→Hp→VK→Prop):Prop:=
 ∀(pins:List (Addr×Obj))(s:Shared)(σ:St)(H:Hp)(x:V)(v:Value)(Q:VK),Inv X pins σ H s→RelV x v→r x H Q→
  wpAny (model X.prog X.w) X.A (f v) (EP X pins σ Q) X.xe s
def CallR(X:Cx)(f:Value)(r:List V→Hp→VK→Prop):Prop:=
 ∀(pins:List (Addr×Obj))(s:Shared)(σ:St)(H:Hp)(xs:List V)(us:List Value)(Q:VK),Inv X pins σ H s→Vals xs us→r xs H Q→
  wpAny (model X.prog X.w) X.A (call f us) (EP X pins σ Q) X.xe s
def TruR(X:Cx)(r:V→Hp→(Bool→Hp→Prop)→Prop):Prop:=
 ∀(pins:List (Addr×Obj))(s:Shared)(σ:St)(H:Hp)(x:V)(v:Value)(Q:Bool→Hp→Prop),Inv X pins σ H s→RelV x v→r x H Q→
  wpAny (model X.prog X.w) X.A (truthy v) (TP X pins σ Q) X.xe s
def tOp(r:R2)(ta tb:TE):TE:=fun σ H Q=>ta σ H fun x H1=>tb σ H1 fun y H2=>r x y H2 Q
def tUn(r:V→Hp→VK→Prop)(ta:TE):TE:=fun σ H Q=>ta σ H fun x H1=>r x H1 Q
def rI(C:Int→Int→Prop)(g:Int→Int→V):R2:=fun x y H Q=> ∃i j,x=.int i∧y=.int j∧C i j∧Q (g i j) H
def rI0(g:Int→Int→V):R2:=fun x y H Q=> ∃i j,x=.int i∧y=.int j∧Q (g i j) H
def rU(g:Int→V):V→Hp→VK→Prop:=fun x H Q=> ∃i,x=.int i∧Q (g i) H
section
variable{X:Cx}{a b c:Expr}{ta tb tc:TE}{pos:Pos}
theorem binT(ha:PE X a ta)(hb:PE X b tb){pins:List (Addr×Obj)}{s:Shared}{σ:St}{H:Hp}{R:V→V→Hp→Prop}(I:Inv X pins σ H s)
  (h:ta σ H fun x H1=>tb σ H1 fun y H2=>R x y H2) {Q:Value→Shared→Prop} {f:Value→Value→Sem Value}
  (hf: ∀v u s2 x y H2,Inv X pins σ H2 s2→RelV x v→RelV y u→R x y H2→wpAny (model X.prog X.w) X.A (f v u) Q X.xe s2):
  wpAny (model X.prog X.w) X.A (eval a X.env) (fun v s₁=>wpAny (model X.prog X.w) X.A (eval b X.env) (fun u s₂=>wpAny (model X.prog X.w) X.A (f v u) Q X.xe s₂) X.xe s₁) X.xe s:=by
 refine thn (ha pins s σ H _ I h) fun v s1 ⟨x,H1,I1,r1,q1⟩=>?_
 refine thn (hb pins s1 σ H1 _ I1 q1) fun u s2 ⟨y,H2,I2,r2,q2⟩=>?_
 exact hf v u s2 x y H2 I2 r1 r2 q2
theorem pe_op{op:Operator}{r:R2}(ho:OpR X (binaryOp op) r)(ha:PE X a ta)(hb:PE X b tb):PE X (.BinOp a op b pos) (tOp r ta tb):=by
 intro pins s σ H Q I h
 exact wpAny_BinOp (binT ha hb I h fun v u s2 x y H2 I2 rx ry q=>ho pins s2 σ H2 x y v u Q I2 rx ry q)
theorem pe_un{op:UnaryOp}{r:V→Hp→VK→Prop}(ho:UnR X (unaryOp op) r)(ha:PE X a ta):PE X (.UnaryOp op a pos) (tUn r ta):=by
 intro pins s σ H Q I h
 exact UnaryOp_ (thn (ha pins s σ H _ I h) fun v s1 ⟨x,H1,I1,r1,q1⟩=>ho pins s1 σ H1 x v Q I1 r1 q1)
theorem opI{f:Value→Value→Sem Value}{C:Int→Int→Prop}{g:Int→Int→Int}
  (rule: ∀(i j:Int)(t u:Tok)(s:Shared)(Q:Value→Shared→Prop)(E:Value→Shared→Prop),C i j→Q (.int (g i j) s.toks) {s with toks:=s.toks+1}→wpAny (model X.prog X.w) X.A (f (.int i t) (.int j u)) Q E s):
  OpR X f (rI C fun i j=>.int (g i j)):=by
 intro pins s σ H x y v u Q I rx ry h
 obtain⟨i,j,rfl,rfl,hc,q⟩:=h
 obtain⟨t,rfl⟩:=rx
 obtain⟨t',rfl⟩:=ry
 exact rule i j t t' s _ _ hc ⟨.int (g i j),H,I.tok _,⟨_,rfl⟩,q⟩
theorem opI0{f:Value→Value→Sem Value}{g:Int→Int→Int}
  (rule: ∀(i j:Int)(t u:Tok)(s:Shared)(Q:Value→Shared→Prop)(E:Value→Shared→Prop),Q (.int (g i j) s.toks) {s with toks:=s.toks+1}→wpAny (model X.prog X.w) X.A (f (.int i t) (.int j u)) Q E s):
  OpR X f (rI0 fun i j=>.int (g i j)):=by
 intro pins s σ H x y v u Q I rx ry h
 obtain⟨i,j,rfl,rfl,q⟩:=h
 obtain⟨t,rfl⟩:=rx
 obtain⟨t',rfl⟩:=ry
 exact rule i j t t' s _ _ ⟨.int (g i j),H,I.tok _,⟨_,rfl⟩,q⟩
theorem opB0{f:Value→Value→Sem Value}{g:Int→Int→Bool}
  (rule: ∀(i j:Int)(t u:Tok)(s:Shared)(Q:Value→Shared→Prop)(E:Value→Shared→Prop),Q (.bool (g i j)) s→wpAny (model X.prog X.w) X.A (f (.int i t) (.int j u)) Q E s):
  OpR X f (rI0 fun i j=>.bl (g i j)):=by
 intro pins s σ H x y v u Q I rx ry h
 obtain⟨i,j,rfl,rfl,q⟩:=h
 obtain⟨t,rfl⟩:=rx
 obtain⟨t',rfl⟩:=ry
 exact rule i j t t' s _ _ ⟨.bl (g i j),H,I,rfl,q⟩
def CMul(i j:Int):Prop:=(-(2 ^ 64)<i∧i<2 ^ 64)∨(-(2 ^ 64)<j∧j<2 ^ 64)
theorem CMul.ok{i j:Int}(h:CMul i j):IntMulOk i j:=by
 rcases h with⟨h1,h2⟩ | ⟨h1,h2⟩
 ·exact .of_left (intBits_le_64 h1 h2)
 ·exact .of_right (intBits_le_64 h1 h2)
theorem yLP:OpR X (binaryOp .Add) (rI0 fun i j=>.int (i+j)):=opI0 fun _ _ _ _ _ _ _ q=>add_int q
theorem yLQ:OpR X (binaryOp .Sub) (rI0 fun i j=>.int (i - j)):=opI0 fun _ _ _ _ _ _ _ q=>sub_int q
theorem yLR:OpR X (binaryOp .Mod) (rI (fun _ j=>0<j) fun i j=>.int (i % j)):=opI fun i j _ _ _ _ _ hc q=>by
 have h1:(0:Int)<j:=hc
 exact mod_int' (by omega) (by rw [Int.fmod_eq_emod_of_nonneg i (by omega)];exact q)
theorem unI{f:Value→Sem Value}{g:Int→Int}
  (rule: ∀(i:Int)(t:Tok)(s:Shared)(Q:Value→Shared→Prop)(E:Value→Shared→Prop),Q (.int (g i) s.toks) {s with toks:=s.toks+1}→wpAny (model X.prog X.w) X.A (f (.int i t)) Q E s):
  UnR X f (rU fun i=>.int (g i)):=by
 intro pins s σ H x v Q I rx h
 obtain⟨i,rfl,q⟩:=h
 obtain⟨t,rfl⟩:=rx
 exact rule i t s _ _ ⟨.int (g i),H,I.tok _,⟨_,rfl⟩,q⟩
theorem yLS:UnR X (unaryOp .USub) (rU fun i=>.int (-i)):=unI fun _ _ _ _ _ q=>neg_int q
end
section
variable{X:Cx}{a b c:Expr}{ta tb tc:TE}{pos:Pos}
theorem zWK{pins:List (Addr×Obj)}{σ:St}{H:Hp}{s:Shared}{Q:VK}{k k':Bool}(I:Inv X pins σ H s)(q:Q (.bl k) H)(e:k=k'):EP X pins σ Q (.bool k') s:=by
 subst e
 exact⟨.bl k,H,I,rfl,q⟩
theorem zTW:OpR X (compareOp .LtE) (rI0 fun i j=>.bl (decide (i≤j))):=opB0 fun _ _ _ _ _ _ _ q=>le_int q
theorem op_gt:OpR X (compareOp .Gt) (rI0 fun i j=>.bl (decide (j<i))):=opB0 fun _ _ _ _ _ _ _ q=>gt_int q
theorem op_ge:OpR X (compareOp .GtE) (rI0 fun i j=>.bl (decide (j≤i))):=opB0 fun _ _ _ _ _ _ _ q=>ge_int q
theorem yAS:OpR X (compareOp .In) (fun x y H Q=> ∃i j,x=.str i∧y=.str j∧Q (.bl (!(Builtin.Str.occurrences j i 0 j.length 1).isEmpty)) H):=by
 intro pins s σ H x y v u Q I rx ry h
 obtain⟨i,j,rfl,rfl,q⟩:=h
 obtain⟨t,rfl⟩:=rx
 obtain⟨t',rfl⟩:=ry
 exact in_str (zWK I q rfl)
theorem yLT:OpR X (compareOp .Is) (fun x y H Q=>y=.non∧Q (.bl (decide (x=.non))) H):=by
 intro pins s σ H x y v u Q I rx ry h
 obtain⟨rfl,q⟩:=h
 cases ry
 refine is_none_gen (zWK I q ?_)
 cases x<;>first
  | (cases rx;rfl)
  | (obtain⟨t,rfl⟩:=rx;rfl)
theorem zRO:OpR X (compareOp .NotIn) (fun x y H Q=> ∃i j,x=.str i∧y=.str j∧Q (.bl (!(!(Builtin.Str.occurrences j i 0 j.length 1).isEmpty))) H):=by
 intro pins s σ H x y v u Q I rx ry h
 obtain⟨i,j,rfl,rfl,q⟩:=h
 obtain⟨t,rfl⟩:=rx
 obtain⟨t',rfl⟩:=ry
 exact notIn_str (zWK I q rfl)
theorem OpR.or{f:Value→Value→Sem Value}{r r':R2}(h:OpR X f r)(h':OpR X f r'):OpR X f (fun x y H Q=>r x y H Q∨r' x y H Q):=by
 intro pins s σ H x y v u Q I rx ry q
 rcases q with q | q
 ·exact h pins s σ H x y v u Q I rx ry q
 ·exact h' pins s σ H x y v u Q I rx ry q
theorem yCY(b:Expr){op:CmpOp}(h:op≠.In:=by decide)(h2:op≠.NotIn:=by decide):behindInMarks op b=false:=by
 have e1:(op==CmpOp.In)=false:=by cases op<;>first | rfl | exact absurd rfl h
 have e2:(op==CmpOp.NotIn)=false:=by cases op<;>first | rfl | exact absurd rfl h2
 cases b<;>simp [behindInMarks,e1,e2]
theorem yHB{op:CmpOp}{r:R2}(ho:OpR X (compareOp op) r)(ha:PE X a ta)(hb:PE X b tb)(hm:behindInMarks op b=false):PE X (.Compare a [op] [b] pos) (tOp r ta tb):=by
 intro pins s σ H Q I h
 exact wpAny_Compare1 (binT ha hb I h fun v u s2 x y H2 I2 rx ry q=>ho pins s2 σ H2 x y v u Q I2 rx ry q) hm
def yKA(t:TE):TT:=fun σ H Q=>t σ H fun x H'=> ∃k,x=.bl k∧Q k H'
theorem yHC{op:CmpOp}{r:R2}(ho:OpR X (compareOp op) r)(ha:PE X a ta)(hb:PE X b tb)(hm:behindInMarks op b=false):PT X (.Compare a [op] [b] pos) (yKA (tOp r ta tb)):=by
 intro pins s σ H Q I h
 refine wpAny_isTrue_Compare1 (thn (ha pins s σ H _ I h) fun v s1 ⟨x,H1,I1,r1,q1⟩=>thn (hb pins s1 σ H1 _ I1 q1) fun u s2 ⟨y,H2,I2,r2,q2⟩=>
  thn (ho pins s2 σ H2 x y v u _ I2 r1 r2 q2) fun c s3 ⟨z,H3,I3,r3,k,e,q3⟩=>?_) hm
 subst e
 cases r3
 exact wpAny_truthy_bool ⟨H3,I3,q3⟩
def zWL(r r':R2)(ta tb tc:TE):TE:=fun σ H Q=>ta σ H fun x H1=>tb σ H1 fun y H2=>r x y H2 fun z H3=> ∃k,z=.bl k∧
 (if k=true then tc σ H3 fun w' H4=>r' y w' H4 Q else Q (.bl false) H3)
theorem yCZ{op op':CmpOp}{r r':R2}(ho:OpR X (compareOp op) r)(ho':OpR X (compareOp op') r')(ha:PE X a ta)(hb:PE X b tb)(hc:PE X c tc)
  (hm:lastMarks [op,op'] [b,c]=false:=by with_unfolding_all rfl):PE X (.Compare a [op,op'] [b,c] pos) (zWL r r' ta tb tc):=by
 intro pins s σ H Q I h
 refine Compare_chain (thn (ha pins s σ H _ I h) fun v s1 ⟨x,H1,I1,r1,q1⟩=>chain_link (thn (hb pins s1 σ H1 _ I1 q1) fun u s2 ⟨y,H2,I2,r2,q2⟩=>
  thn (ho pins s2 σ H2 x y v u _ I2 r1 r2 q2) fun d s3 ⟨z,H3,I3,r3,k,e,q3⟩=>?_)) hm
 subst e
 cases r3
 refine wpAny_truthy_bool ?_
 cases k with
 | false=>exact ite_ff ⟨.bl false,H3,I3,rfl,q3⟩
 | true=>exact ite_tt (chain_last (thn (hc pins s3 σ H3 _ I3 q3) fun w' s4 ⟨z',H4,I4,r4,q4⟩=>ho' pins s4 σ H4 y z' u w' Q I4 r2 r4 q4))
theorem yDA{op op':CmpOp}{r r':R2}(ho:OpR X (compareOp op) r)(ho':OpR X (compareOp op') r')(ha:PE X a ta)(hb:PE X b tb)(hc:PE X c tc)
  (hm:lastMarks [op,op'] [b,c]=false:=by with_unfolding_all rfl):PT X (.Compare a [op,op'] [b,c] pos) (yKA (zWL r r' ta tb tc)):=by
 intro pins s σ H Q I h
 refine isTrue_chain (thn (ha pins s σ H _ I h) fun v s1 ⟨x,H1,I1,r1,q1⟩=>test_link (thn (hb pins s1 σ H1 _ I1 q1) fun u s2 ⟨y,H2,I2,r2,q2⟩=>
  thn (ho pins s2 σ H2 x y v u _ I2 r1 r2 q2) fun d s3 ⟨z,H3,I3,r3,k,e,q3⟩=>?_)) hm
 subst e
 cases r3
 refine wpAny_truthy_bool ?_
 cases k with
 | false=>
  obtain⟨k',e',q'⟩:=q3
  cases e'
  exact ite_ff ⟨H3,I3,q'⟩
 | true=>
  refine ite_tt (test_last (thn (hc pins s3 σ H3 _ I3 q3) fun w' s4 ⟨z',H4,I4,r4,q4⟩=>thn (ho' pins s4 σ H4 y z' u w' _ I4 r2 r4 q4) fun d' s5 ⟨z2,H5,I5,r5,k2,e2,q5⟩=>?_))
  subst e2
  cases r5
  exact wpAny_truthy_bool ⟨H5,I5,q5⟩
def TruV(K:PySem.W.Frag)(x:V)(H:Hp)(k:Bool):Prop:=
 match x with
 | .non=>k=false
 | .bl b=>k=b
 | .int i=>k=(i !=0)
 | .str y=>y.length≤sizeLine∧k=((y.length:Int) !=0)
 | .byt y=>y.size≤sizeLine∧k=((y.size:Int) !=0)
 | .ref p=>(∃xs,SqL K H p xs∧k= !xs.isEmpty)∨(∃xs,SqT K H p xs∧k= !xs.isEmpty)∨ ∃kvs,H p=some (.dK kvs)∧k= !kvs.isEmpty
 | _=>False
theorem zWM{κ:Type}{kvs:List (κ×V)}{vs:List (κ×Value)}(r:KV kvs vs):(!vs.isEmpty)= !kvs.isEmpty:=by
 cases r<;>rfl
theorem zNM{xs:List V}{its:List Value}(r:Vals xs its):(!its.toArray.isEmpty)= !xs.isEmpty:=by
 cases r<;>simp
theorem zIF:(sizeLine:Nat)<2 ^ 63:=by rw [sizeLine_eq];decide
theorem yLU:TruR X (fun x H Q=> ∃k,TruV X.K x H k∧Q k H):=by
 intro pins s σ H x v Q I rx h
 obtain⟨k,e,q⟩:=h
 have hl:=zIF
 have hs:sizeLine=16777216:=sizeLine_eq
 cases x with
 | non=>
  cases rx
  have e':k=false:=e
  subst e'
  exact truthy_none ⟨H,I,q⟩
 | bl b=>
  cases rx
  have e':k=b:=e
  subst e'
  exact wpAny_truthy_bool ⟨H,I,q⟩
 | int i=>
  obtain⟨t,rfl⟩:=rx
  have e':k=(i !=0):=e
  subst e'
  exact PySem.P.truthy_int ⟨H,I,q⟩
 | str y=>
  obtain⟨t,rfl⟩:=rx
  obtain⟨hy,e'⟩:y.length≤sizeLine∧k=((y.length:Int) !=0):=e
  subst e'
  exact PySem.P.truthy_str (by omega) ⟨H,I.tok _,q⟩
 | byt y=>
  obtain⟨t,rfl⟩:=rx
  obtain⟨hy,e'⟩:y.size≤sizeLine∧k=((y.size:Int) !=0):=e
  subst e'
  exact PySem.W.truthy_bytes (by omega) ⟨H,I.tok _,q⟩
 | ref p=>
  cases rx
  have e':(∃xs,SqL X.K H p xs∧k= !xs.isEmpty)∨(∃xs,SqT X.K H p xs∧k= !xs.isEmpty)∨ ∃kvs,H p=some (.dK kvs)∧k= !kvs.isEmpty:=e
  rcases e' with⟨xs,hx,e'⟩ | ⟨xs,hx,e'⟩ | ⟨kvs,hx,e'⟩
  ·subst e'
   obtain⟨its,r,pl,hz⟩:=I.list hx
   have hlen:=r.length
   exact wpAny_truthy_list pl.isList (by simp only [List.size_toArray];omega) ⟨H,I.tok _,by rw [zNM r];exact q⟩
  ·subst e'
   obtain⟨its,r,pl,hz⟩:=I.tuple hx
   have hlen:=r.length
   exact truthy_tuple pl (by simp only [List.size_toArray];omega) ⟨H,I.tok _,by rw [zNM r];exact q⟩
  ·subst e'
   obtain⟨hz,hS,vs,r,m⟩:kvs.length≤sizeLine∧(p==sysModules)=false∧ ∃vs,KV kvs vs∧s.heap.DictOf (jQ X.prog X.w) p vs:=I.hok p _ hx
   have hlen:kvs.length=vs.length:=Paired.length r
   exact wpAny_truthy_dict hS m (by omega) ⟨H,I.tok _,by rw [zWM r];exact q⟩
 | _=>exact(show False from e).elim
theorem yDB(ha:PE X a ta)(he: ∀whole,isTrue a X.env whole=(do let v ←whole;standAt a.pos;holding [v] (truthy v))):
  PT X a (fun σ H Q=>ta σ H fun x H'=> ∃k,TruV X.K x H' k∧Q k H'):=by
 intro pins s σ H Q I h
 exact isTrue_plain (thn (ha pins s σ H _ I h) fun v s1 ⟨x,H1,I1,r1,q1⟩=>yLU pins s1 σ H1 x v Q I1 r1 q1) (he _)
theorem zWN:OpR X (binaryOp .Add) (fun x y H Q=> ∃i j,x=.str i∧y=.str j∧i.length+j.length≤sizeLine∧Q (.str (i++j)) H):=by
 intro pins s σ H x y v u Q I rx ry h
 obtain⟨i,j,rfl,rfl,hz,q⟩:=h
 obtain⟨t,rfl⟩:=rx
 obtain⟨t',rfl⟩:=ry
 exact add_str (fun t' tk=>⟨.str (i++j),H,I.tok _,⟨_,rfl⟩,q⟩) hz
theorem vals1{x:V}{us:List Value}(r:Vals [x] us): ∃u,us=[u]∧RelV x u:=by
 cases r with
 | cons r1 r2=>cases r2;exact⟨_,rfl,r1⟩
theorem vals2{x y:V}{us:List Value}(r:Vals [x,y] us): ∃u w',us=[u,w']∧RelV x u∧RelV y w':=by
 cases r with
 | cons r1 r2=>
  cases r2 with
  | cons r3 r4=>cases r4;exact⟨_,_,rfl,r1,r3⟩
theorem yDC:CallR X (.builtin "abs") (fun xs H Q=> ∃i,xs=[.int i]∧Q (.int (if i<0 then -i else i)) H):=by
 intro pins s σ H xs us Q I r h
 obtain⟨i,rfl,q⟩:=h
 obtain⟨u,rfl,t,rfl⟩:=vals1 r
 exact call_abs_int fun u tk=>⟨.int (if i<0 then -i else i),H,I.tok _,⟨_,rfl⟩,q⟩
theorem yAT:CallR X (.type "int") (fun xs H Q=>(∃i,xs=[.int i]∧Q (.int i) H)∨ ∃k,xs=[.bl k]∧Q (.int (if k then 1 else 0)) H):=by
 intro pins s σ H xs us Q I r h
 rcases h with⟨i,rfl,q⟩ | ⟨k,rfl,q⟩
 ·obtain⟨u,rfl,t,rfl⟩:=vals1 r
  exact call_int_int ⟨.int i,H,I,⟨_,rfl⟩,q⟩
 ·obtain⟨u,rfl,r1⟩:=vals1 r
  cases r1
  exact call_int_bool ⟨.int (if k then 1 else 0),H,I.tok _,⟨_,rfl⟩,q⟩
end
end L2
namespace L2
open PySem PySem.Spec PyProof.Rows
structure Room(k:Nat)(A:Around):Prop where
 hd:A.handled=none
 dp:A.depth+3 * k+5<recursionLimit
 un:A.units+16 * k+200<cLine
theorem Room.mono{j k:Nat}{A:Around}(r:Room k A)(h:j≤k):Room j A:=⟨r.hd,by have:=r.dp;omega,by have:=r.un;omega⟩
theorem Room.deeper{k:Nat}{A:Around}(r:Room (k+1) A)(env:Env):Room k (A.deeper env):=
 ⟨r.hd,by have:=r.dp;show A.depth+1+3 * k+5<_;omega,by have:=r.un;show A.units+3+16 * k+200<_;omega⟩
theorem zWO{A:Around}{C:Addr}{us:List Value}{kw:List (Str×Value)}:(A.under (.builtin "type.__call__" ⟨.ref C::us,kw⟩)).depth=A.depth+1:=by
 first | rfl | simp [Around.under,Code.weight,Code.isCreation,Code.isGuard,Code.isCaller,Code.frames,Code.isFrame,guardIds]
theorem zWP{A:Around}{C:Addr}{us:List Value}{kw:List (Str×Value)}:(A.under (.builtin "type.__call__" ⟨.ref C::us,kw⟩)).units=A.units+1:=by
 first | rfl | simp [Around.under,Code.cUnits,Code.frames,Code.isFrame]
theorem Room.make{k:Nat}{A:Around}(r:Room (k+1) A)(C:Addr)(us:List Value)(kw:List (Str×Value)):Room k (A.under (.builtin "type.__call__" ⟨.ref C::us,kw⟩)):=
 ⟨r.hd,by have:=r.dp;rw [zWO];omega,by have:=r.un;rw [zWP];omega⟩
theorem Room.depth{k:Nat}{A:Around}(r:Room k A):A.depth<recursionLimit:=by have:=r.dp;omega
theorem Room.units{k:Nat}{A:Around}(r:Room k A):A.units+64<cLine:=by have:=r.un;omega
def tNil:TA:=fun _ H Q=>Q [] H
def tCons(ta:TE)(tr:TA):TA:=fun σ H Q=>ta σ H fun x H1=>tr σ H1 fun xs H2=>Q (x::xs) H2
section
variable{X:Cx}{e:Expr}{es:List Expr}{te:TE}{t:TA}{pos:Pos}
theorem zKS:PA X [] tNil:=fun _ _ _ _ H Q I h=>Calls.spliced_nil ⟨[],H,I,.nil,h⟩
theorem zAA(ha:PE X e te)(hr:PA X es t)(hs:starEach (e::es) X.env=(false,eval e X.env)::starEach es X.env:=by rfl):PA X (e::es) (tCons te t):=by
 intro pos pins s σ H Q I h
 rw [hs]
 show wpAny _ _ (spliced ((false,eval e X.env)::backTo pos (starEach es X.env))) _ _ s
 refine Calls.spliced_cons (thn (ha pins s σ H _ I h) fun u s1 ⟨x,H1,I1,r1,q1⟩=>?_)
 exact thn (hr pos pins s1 σ H1 _ I1 q1) fun us s2 ⟨xs,H2,I2,r2,q2⟩=>⟨x::xs,H2,I2,.cons r1 r2,q2⟩
def tTup(t:TA):TE:=fun σ H Q=>t σ H fun xs H1=>xs.length≤sizeLine∧ ∀p,H1 p=none→Q (.ref p) (upd H1 p (.tup xs))
def tLst(t:TA):TE:=fun σ H Q=>t σ H fun xs H1=>xs.length≤sizeLine∧ ∀p,H1 p=none→Q (.ref p) (upd H1 p (.lst xs))
theorem yLV{x1}(h:PA X es t):PE X (.Tuple es x1 pos) (tTup t):=by
 intro pins s σ H Q I hq
 refine wpAny_Tuple_spliced (thn (h pos pins s σ H _ I hq) fun us s1 ⟨xs,H1,I1,r,z,q⟩=>⟨by rw [←r.length];exact z,?_⟩)
 have hf:H1 s1.heap.objs.size=none:=I1.hok.fresh (Nat.le_refl _)
 refine⟨.ref s1.heap.objs.size,upd H1 s1.heap.objs.size (.tup xs),I1.laid (t':=s1.toks) (fun b u e=>Heap.get?_push_of_some _ e) (Nat.le_refl _) ?_,rfl,q _ hf⟩
 exact⟨z,us,r,⟨_,Heap.get?_push_size _ rfl,rfl,_,rfl⟩⟩
theorem yLW(h:PA X es t):PE X (.List es pos) (tLst t):=by
 intro pins s σ H Q I hq
 refine wpAny_List_spliced (thn (h pos pins s σ H _ I hq) fun us s1 ⟨xs,H1,I1,r,z,q⟩=>⟨by rw [←r.length];exact z,?_⟩)
 have hf:H1 s1.heap.objs.size=none:=I1.hok.fresh (Nat.le_refl _)
 refine⟨.ref s1.heap.objs.size,upd H1 s1.heap.objs.size (.lst xs),I1.laid (t':=s1.toks) (fun b u e=>Heap.get?_push_of_some _ e) (Nat.le_refl _) ?_,rfl,q _ hf⟩
 exact⟨z,us,0,r,Heap.get?_push_size _ rfl⟩
end
abbrev Sp:=List V→Hp→VK→XK→Prop
abbrev CXT:=List Env→Hp→Shared→XK→Value→Shared→Prop
structure Env0(P:Program)(w:World)(K:PySem.W.Frag)(mg:Str→Option Value)(base:Heap)(A:Around)(outer:List Env)(s:Shared)(H:Hp):Prop where
 frames:A.frames=some outer
 mod:Mod K mg base
 bs: ∀b o,base.get? b=some o→s.heap.get? b=some o∧H b=none
 bsz:base.objs.size≤s.heap.objs.size
 funs:s.heap.FunFrames base outer
 frf: ∀b∈frs outer,H b=none
 hok:HOk P w H s.heap
 bare:AllBare s.gens
def CE(outer:List Env)(P:Program)(w:World)(H:Hp)(s:Shared)(Q:VK)(u:Value)(s':Shared):Prop:=
 ∃v H',s'.os=s.os∧AllBare s'.gens∧Un (frs outer) [] H H' s.heap s'.heap∧HOk P w H' s'.heap∧RelV v u∧Q v H'
def CR(CX:CXT)(outer:List Env)(P:Program)(w:World)(H:Hp)(s:Shared)(Q:VK)(E:XK)(r:Result)(s':Shared):Prop:=
 match r with
 | .ok (.ret u)=>CE outer P w H s Q u s'
 | .ok _=>False
 | .error e=>CX outer H s E e s'
structure FnOk(P:Program)(w:World)(K:PySem.W.Frag)(mg:Str→Option Value)(base:Heap)(CX:CXT)(k:Nat)(f:Addr)(fd:FuncData)(ps:List Str)(sp:Sp):Prop where
 len: ∀vs H Q E,sp vs H Q E→vs.length=ps.length
 run: ∀(A:Around)(outer:List Env)(s:Shared)(H:Hp)(args:Args)(us:List Value)(vs:List V)(Q:VK)(E:XK),Room k A→Env0 P w K mg base A outer s H→BindsTo s fd args (ps.zip us)→Vals vs us→sp vs H Q E→
  codeAny (model P w) A (.call (.ref f) args) (CR CX outer P w H s Q E) s
theorem FnOk.imp{P:Program}{w:World}{K:PySem.W.Frag}{mg:Str→Option Value}{base:Heap}{CX:CXT}{k:Nat}{f:Addr}{fd:FuncData}{ps:List Str}{sp sp':Sp}(F:FnOk P w K mg base CX k f fd ps sp)
  (h: ∀vs H Q E,sp' vs H Q E→sp vs H Q E):FnOk P w K mg base CX k f fd ps sp':=
 ⟨fun vs H Q E q=>F.len vs H Q E (h _ _ _ _ q),fun A outer s H args us vs Q E hr he hb hv hs=>F.run A outer s H args us vs Q E hr he hb hv (h _ _ _ _ hs)⟩
theorem Env0.make{P:Program}{w:World}{K:PySem.W.Frag}{mg:Str→Option Value}{base:Heap}{A:Around}{outer:List Env}{s:Shared}{H:Hp}(e:Env0 P w K mg base A outer s H)(C:Addr)(us:List Value)(kw:List (Str×Value)):
  Env0 P w K mg base (A.under (.builtin "type.__call__" ⟨.ref C::us,kw⟩)) outer s H:=⟨by first | exact e.frames | (simpa [Around.under,Code.envs,Code.isFrame,pushEnvs]using e.frames),e.mod,e.bs,e.bsz,e.funs,e.frf,e.hok,e.bare⟩
section
variable{X:Cx}{pins:List (Addr×Obj)}{σ:St}{H:Hp}{s s':Shared}
theorem Inv.env0(I:Inv X pins σ H s):Env0 X.prog X.w X.K X.mg X.base X.A X.stack s H:=
 ⟨I.ok.frames,I.ok.mod,I.bs,Nat.le_trans I.ok.bsz I.sz,I.stack,I.stkFree,I.hok,I.bare⟩
theorem Inv.after{Q:VK}{u:Value}(I:Inv X pins σ H s)(h:CE X.stack X.prog X.w H s Q u s'):EP X pins σ Q u s':=by
 obtain⟨v,H',os,bare,un,hok,r,q⟩:=h
 obtain⟨hh,g,d,t,os'⟩:=s'
 obtain rfl:os'=s.os:=os
 exact⟨v,H',I.call (h':=hh) (g':=g) (d':=d) (t':=t) (ch:=[]) un hok bare (fun b z=>absurd z (by simp)),r,q⟩
end
def tCall(sp:Sp)(dvs:List V)(E:XK)(t:TA):TE:=fun σ H Q=>t σ H fun vs H1=>sp (vs++dvs) H1 Q E
def Binds(K:PySem.W.Frag)(fd:FuncData)(ps:List Str)(ds:List Value):Prop:=
 ∀(s:Shared)(us:List Value),K.In s.heap→(us++ds).length=ps.length→BindsTo s fd ⟨us,[]⟩ (ps.zip (us++ds))
theorem Binds.all{K:PySem.W.Frag}{fd:FuncData}{ps:List Str}(h: ∀us:List Value,us.length=ps.length→bindArgs fd ⟨us,[]⟩=pure (ps.zip us)):Binds K fd ps []:=fun s us _ hl=>by
 rw [List.append_nil]at hl ⊢
 exact .of_eq (h us hl)
def zRP(CX:CXT)(X:Cx)(E:XK):Prop:= ∀(pins:List (Addr×Obj))(σ:St)(H:Hp)(s:Shared)(e:Value)(s':Shared),Inv X pins σ H s→CX X.stack H s E e s'→X.xe e s'
section
variable{X:Cx}{CX:CXT}{k:Nat}{f C:Addr}{fd:FuncData}{ps:List Str}{sp:Sp}{dvs:List V}{ds:List Value}{E:XK}{x m:Str}{p pos apos:Pos}{e o:Expr}{es:List Expr}{ta:TE}{t:TA}
theorem yLX{pins:List (Addr×Obj)}{σ:St}{H:Hp}{s:Shared}{Q:VK}{us:List Value}{vs:List V}(F:FnOk X.prog X.w X.K X.mg X.base CX k f fd ps sp)(hr:Room k X.A)(hb:Binds X.K fd ps ds)(hd:Vals dvs ds)(hx:zRP CX X E)
  (I:Inv X pins σ H s) (r:Vals vs us) (h:sp (vs++dvs) H Q E):wpAny (model X.prog X.w) X.A (call (.ref f) us) (EP X pins σ Q) X.xe s:=by
 have r2:Vals (vs++dvs) (us++ds):=r.append hd
 have hl:(us++ds).length=ps.length:=by rw [←r2.length];exact F.len _ _ _ _ h
 refine wpAny_call (codeAny_mono (F.run X.A X.stack s H ⟨us,[]⟩ (us++ds) (vs++dvs) Q E hr I.env0 (hb s us I.kIn hl) r2 h) fun r s' hq=>?_)
 cases r with
 | error e=>exact hx pins σ H s e s' I hq
 | ok fl=>
  cases fl with
  | ret u=>exact I.after hq
  | next=>exact False.elim hq
  | brk=>exact False.elim hq
  | cont=>exact False.elim hq
theorem yHD(F:FnOk X.prog X.w X.K X.mg X.base CX k f fd ps sp)(hr:Room k X.A)(hg:Gl X x)(hm:X.mg x=some (.ref f))(hk:PySem.W.keepIn X.K (.ref f)=true)(hb:Binds X.K fd ps ds)(hd:Vals dvs ds)(hx:zRP CX X E)
  (ha:PA X (e::es) t) (hdb:(x==("__debug__":Str))=false:=by decide) (he:starEach (e::es) X.env=(false,eval e X.env)::starEach es X.env:=by rfl) (hpl:(backTo pos (starEach es X.env)).any (·.1)=false:=by rfl):
  PE X (.Call (.Name x p) (e::es) [] pos) (tCall sp dvs E t):=by
 intro pins s σ H Q I h
 refine wpAny_Call_Name_kw (zGY I hg hm ?_ hdb)
 refine PySem.W.callWith_K (h₀:=X.base) I.ok.mod.kin hk (thn (ha pos pins s σ H _ I h) fun us s1 ⟨vs,H1,I1,r,q⟩=>⟨I1.kIn,?_⟩) he hpl
 exact yLX F hr hb hd hx I1 r q
end
structure FnScope(N P:List Str)(sc:Scope):Prop where
 kind:sc.kind=.function
 co:sc.isCoroutine=false
 gen:sc.isGenerator=false
 nd:N.Nodup
 pre:N.take P.length=P
 par: ∀x∈P,sc.names.lookup x=some .local∨sc.names.lookup x=some .cell
 nofree: ∀y∈sc.names,y.2≠.free
theorem zQM{kindOf:Str→Option NameKind}{x:Str}: ∀{binds:List (Str×Value)}{m:Str→Option Value},(∀v,(x,v)∉binds)→bindL kindOf binds m x=m x
 | [],_,_=>rfl
 | (n,v)::r,m,h=>by
  unfold bindL
  rw [zQM fun w hw=>h w (List.mem_cons_of_mem _ hw)]
  split
  ·have:x≠n:=by rintro rfl;exact h v List.mem_cons_self
   simp [this]
  ·rfl
theorem zQN{kindOf:Str→Option NameKind}{x:Str}: ∀{binds:List (Str×Value)}{m:Str→Option Value},(∀v,(x,v)∉binds)→bindC kindOf binds m x=m x
 | [],_,_=>rfl
 | (n,v)::r,m,h=>by
  unfold bindC
  rw [zQN fun w hw=>h w (List.mem_cons_of_mem _ hw)]
  split
  ·rfl
  ·have:x≠n:=by rintro rfl;exact h v List.mem_cons_self
   simp [this]
theorem zQO{kindOf:Str→Option NameKind}{x:Str}{v:Value}: ∀{P:List Str}{vs:List Value}{i:Nat}{m:Str→Option Value},P.Nodup→P[i]? =some x→vs[i]? =some v→kindOf x=some .local→
  bindL kindOf (P.zip vs) m x=some v
 | [],_,_,_,_,h,_,_=>by simp at h
 | _::_,[],_,_,_,_,h,_=>by simp at h
 | p::P,w::vs,0,m,nd,h1,h2,hk=>by
  simp at h1 h2;subst h1;subst h2
  show bindL kindOf ((p,w)::P.zip vs) m p=_
  unfold bindL
  rw [zQM fun v hv=>(List.nodup_cons.mp nd).1 (List.of_mem_zip hv).1,if_pos hk]
  simp
 | p::P,w::vs,i+1,m,nd,h1,h2,hk=>by
  show bindL kindOf ((p,w)::P.zip vs) m x=_
  unfold bindL
  exact zQO (i:=i) (List.nodup_cons.mp nd).2 (by simpa using h1) (by simpa using h2) hk
theorem zQP{kindOf:Str→Option NameKind}{x:Str}{v:Value}: ∀{P:List Str}{vs:List Value}{i:Nat}{m:Str→Option Value},P.Nodup→P[i]? =some x→vs[i]? =some v→kindOf x≠some .local→
  bindC kindOf (P.zip vs) m x=some v
 | [],_,_,_,_,h,_,_=>by simp at h
 | _::_,[],_,_,_,_,h,_=>by simp at h
 | p::P,w::vs,0,m,nd,h1,h2,hk=>by
  simp at h1 h2;subst h1;subst h2
  show bindC kindOf ((p,w)::P.zip vs) m p=_
  unfold bindC
  rw [zQN fun v hv=>(List.nodup_cons.mp nd).1 (List.of_mem_zip hv).1,if_neg hk]
  simp
 | p::P,w::vs,i+1,m,nd,h1,h2,hk=>by
  show bindC kindOf ((p,w)::P.zip vs) m x=_
  unfold bindC
  exact zQP (i:=i) (List.nodup_cons.mp nd).2 (by simpa using h1) (by simpa using h2) hk
def start(N:List Str)(vs:List V):St:=vs.map some++List.replicate (N.length - vs.length) none
def zRQ(CX:CXT)(P:Program)(w:World)(K:PySem.W.Frag)(mg:Str→Option Value)(base:Heap)(N:List Str)(qual:Str)(scope:Scope)(f:Addr)(cd:Value)(A:Around)(outer:List Env)(s:Shared)(H:Hp)(E:XK):Cx where
 prog:=P
 w:=w
 K:=K
 mg:=mg
 base:=base
 A:=A.deeper (envOfC qual scope s.heap.objs.size f cd)
 N:=N
 s₀:=s
 H₀:=H
 env:=envOfC qual scope s.heap.objs.size f cd
 outer:=outer
 stack:=envOfC qual scope s.heap.objs.size f cd::outer
 ex:=[]
 calm:=true
 fn:=fun _=>true
 pn:=[]
 xe:=fun e s'=>wpAny (model P w) (A.deeper (envOfC qual scope s.heap.objs.size f cd)) (leaving (envOfC qual scope s.heap.objs.size f cd) e) (fun _ s''=>CX outer H s E e s'') (fun e' s''=>CX outer H s E e' s'') s'
theorem zTX{sc:Scope}{n:Nat}{x:Str}(h:sc.names.lookup x=some .cell): ∃c,(cellsFrom n sc.names []).lookup x=some c:=by
 have q:=PySem.W.cellsFrom_some sc.names n [] (.inl h)
 exact Option.isSome_iff_exists.mp q
theorem yAU{CX:CXT}{P:Program}{w:World}{K:PySem.W.Frag}{mg:Str→Option Value}{base:Heap}{N ps:List Str}{qual:Str}{scope:Scope}{f:Addr}{cd:Value}{A:Around}{outer:List Env}{s s1:Shared}{H:Hp}{E:XK}{us:List Value}{vs:List V}
  (S:FnScope N ps scope) (hd:A.handled=none) (e0:Env0 P w K mg base A outer s H) (hl:vs.length=ps.length) (r:Vals vs us)
  (x:InCallC s s.heap.objs.size (bindL (envOfC qual scope s.heap.objs.size f cd).kindOf (ps.zip us) fun _=>none) (cellsFrom (s.heap.objs.size+1) scope.names []) (bindC (envOfC qual scope s.heap.objs.size f cd).kindOf (ps.zip us) fun _=>none) s1):
  Inv (zRQ CX P w K mg base N qual scope f cd A outer s H E) [] (start N vs) H s1:=by
 have hpl:ps.length≤N.length:=by have:=congrArg List.length S.pre;rw [List.length_take]at this;omega
 obtain⟨h1,tk,rfl,hk⟩:=x.done
 have noA: ∀b:Addr,b∉(zRQ CX P w K mg base N qual scope f cd A outer s H E).ex:=fun b z=>absurd (show b∈([]:List Addr)from z) (by simp)
 refine⟨⟨e0.mod,S.kind,rfl,rfl,Nat.le_refl _,fun y z c h1 h2=>?_,fun y hy=>?_,fun y c _ h=>?_,fun _=>hd,Around.frames_deeper e0.frames,.inr ⟨rfl,rfl⟩,fun b z=>absurd z (noA b),e0.bs,e0.bsz,fun b _ _=>noA b,fun b z=>absurd z (noA b),e0.funs,e0.frf⟩,
  rfl,e0.bare,Un.kept hk,⟨_,x.toInCall.ns,fun i y v h1 h2 h3=>?_⟩,fun y c h=>⟨_,x.cell y c h⟩,e0.hok.fresh (Nat.le_refl _),fun y c h=>?_,fun p hp=>absurd (show p∈([]:List (Addr×Obj))from hp) (by simp),e0.hok.kept hk,?_⟩
 ·exact name_of_addr x.apart (PySem.mem_of_lookup h1) (PySem.mem_of_lookup h2)
 ·have hy:scope.names.lookup y=some .cell∨scope.names.lookup y=some .free:=hy
  rcases hy with hy | hy
  ·exact zTX hy
  ·exact absurd rfl (S.nofree _ (PySem.mem_of_lookup hy))
 ·exact Nat.le_of_lt (x.above y c (PySem.mem_of_lookup h))
 ·have hi:i<vs.length:=by
   unfold start at h2
   by_cases hi:i<vs.length
   ·exact hi
   ·rw [List.getElem?_append_right (by simpa using hi)]at h2
    rw [List.getElem?_replicate]at h2
    split at h2<;>cases h2
  have ha:vs[i]? =some v:=by
   unfold start at h2
   rw [List.getElem?_append_left (by simpa using hi),List.getElem?_map]at h2
   cases e:vs[i]? with
   | none=>rw [e]at h2;cases h2
   | some a=>rw [e]at h2;cases h2;rfl
  obtain⟨u,hu,rv⟩:=r.get ha
  have hp:ps[i]? =some y:=by
   rw [←S.pre,List.getElem?_take_of_lt (by omega)];exact h1
  have ndP:ps.Nodup:=by rw [←S.pre];exact S.nd.sublist (List.take_sublist _ _)
  refine⟨u,rv,?_⟩
  rcases S.par y (List.mem_of_getElem? hp)with k | k
  ·exact .inl ⟨k,zQO ndP hp hu k⟩
  ·obtain⟨c,e⟩:=zTX (n:=s.heap.objs.size+1) k
   refine .inr ⟨.inl k,c,e,?_⟩
   have q:=x.cell y c e
   rw [zQP ndP hp hu (by show scope.names.lookup y≠_;rw [k];decide)]at q
   exact q
 ·exact e0.hok.fresh (Nat.le_of_lt (x.above y c (PySem.mem_of_lookup h)))
 ·unfold start
  show _=N.length
  rw [List.length_append,List.length_map,List.length_replicate]
  omega
theorem yKB{CX:CXT}{P:Program}{w:World}{K:PySem.W.Frag}{mg:Str→Option Value}{base:Heap}{k:Nat}{f:Addr}{name qual:Str}{params:Arguments}{body:List Stmt}{scope:Scope}{dV kV doc pm cdv ct oc:Value}{an od:Option Addr}
  {osl:Array (Option Value)} {N ps:List Str} {sp:Sp} (lk:K.lookup f=some ⟨oc,od,.func (PySem.W.fnOf name qual params body scope dV kV doc pm an cdv ct),osl⟩) (hcd:PySem.W.codeIn K cdv qual=true) (S:FnScope N ps scope)
  (len: ∀vs H Q E,sp vs H Q E→vs.length=ps.length)
  (hbody: ∀(A:Around)(outer:List Env)(s:Shared)(H:Hp)(vs:List V)(Q:VK)(E:XK),Room k (A.deeper (envOfC qual scope s.heap.objs.size f cdv))→sp vs H Q E→
   ∃t,PSs (zRQ CX P w K mg base N qual scope f cdv A outer s H E) body t∧t {nx:=fun _ H'=>Q .non H',rt:=Q} (start N vs) H):
  FnOk P w K mg base CX (k+1) f (PySem.W.fnOf name qual params body scope dV kV doc pm an cdv ct) ps sp:=by
 refine⟨len,fun A outer s H args us vs Q E hr e0 hb r hsp=>?_⟩
 have hl:=len _ _ _ _ hsp
 have KX:K.In s.heap:=e0.mod.kin.keeps fun b o e=>(e0.bs b o e).1
 have lim:s.heap.NoLimit:=e0.mod.nolimit.keeps fun b o e=>(e0.bs b o e).1
 have hkind: ∀y∈ps.zip us,scope.names.lookup y.1=some .local∨(scope.names.lookup y.1=some .cell∧((cellsFrom (s.heap.objs.size+1) scope.names []).lookup y.1).isSome=true):=fun⟨n,v⟩ hy=>by
  rcases S.par n (List.of_mem_zip hy).1 with q | q
  ·exact .inl q
  ·exact .inr ⟨q,PySem.W.cellsFrom_some _ _ _ (.inl q)⟩
 refine codeAny_call_function hr.depth (KX _ _ lk) rfl S.co S.gen rfl (PySem.W.codeRec_of KX hcd) (hb _ _ _ _ ?_)
 refine wpAny_newFunctionEnv_cells S.kind hkind fun env he s1 x=>?_
 subst he
 refine⟨lim.keeps x.toInCall.keep,codeAny_func ?_⟩
 obtain⟨t,ht,hq⟩:=hbody A outer s H vs Q E (hr.deeper _) hsp
 have I:Inv (zRQ CX P w K mg base N qual scope f cdv A outer s H E) [] (start N vs) H s1:=yAU S hr.hd e0 hl r x
 refine wpAny_mono (ht [] s1 (start N vs) H _ I hq) (fun fl s' hs=>?_) fun e s' hs=>hs
 have fin: ∀{σ':St}{H':Hp}{v:V}{u:Value},Inv (zRQ CX P w K mg base N qual scope f cdv A outer s H E) [] σ' H' s'→RelV v u→Q v H'→CE outer P w H s Q u s':=
  fun {σ' H' v u} J rv q=>⟨v,H',J.os,J.bare,J.base,J.hok,rv,q⟩
 cases fl with
 | ret u=>
  obtain⟨v,σ',H',J,rv,q⟩:=hs
  exact fin J rv q
 | next=>
  obtain⟨σ',H',J,q⟩:=hs
  exact fin (v:=V.non) (u:=Value.none) J rfl q
 | brk=>
  obtain⟨_,_,_,q⟩:=hs
  exact False.elim q
 | cont=>
  obtain⟨_,_,_,q⟩:=hs
  exact False.elim q
end L2
namespace L2
open PySem PySem.Spec PyProof.Rows
section
variable{X:Cx}{x:Str}{p pos:Pos}{e:Expr}{es:List Expr}{t:TA}{id T:String}{r:List V→Hp→VK→Prop}
def tCB(r:List V→Hp→VK→Prop)(t:TA):TE:=fun σ H Q=>t σ H fun vs H1=>r vs H1 Q
theorem zJF(hc:CallR X (.builtin id) r)(hg:Gl X x)(hm:X.mg x=none)(hv:bootBuiltins x=some (.builtin id))(ha:PA X (e::es) t)(hn:x≠"__name__":=by decide)(hdb:(x==("__debug__":Str))=false:=by decide)
  (he:starEach (e::es) X.env=(false,eval e X.env)::starEach es X.env:=by rfl) (hpl:(backTo pos (starEach es X.env)).any (·.1)=false:=by rfl):PE X (.Call (.Name x p) (e::es) [] pos) (tCB r t):=by
 intro pins s σ H Q I h
 refine wpAny_Call_Name_kw (zNK I hg hm hv ?_ hn hdb)
 exact PyProof.Rows.callWith_builtin1 (thn (ha pos pins s σ H _ I h) fun us s1 ⟨vs,H1,I1,r1,q1⟩=>hc pins s1 σ H1 vs us Q I1 r1 q1) he hpl
theorem zQQ(hc:CallR X (.type T) r)(hg:Gl X x)(hm:X.mg x=none)(hv:bootBuiltins x=some (.type T))(ha:PA X (e::es) t)(hn:x≠"__name__":=by decide)(hdb:(x==("__debug__":Str))=false:=by decide)
  (he:starEach (e::es) X.env=(false,eval e X.env)::starEach es X.env:=by rfl) (hpl:(backTo pos (starEach es X.env)).any (·.1)=false:=by rfl):PE X (.Call (.Name x p) (e::es) [] pos) (tCB r t):=by
 intro pins s σ H Q I h
 refine wpAny_Call_Name_kw (zNK I hg hm hv ?_ hn hdb)
 exact PyProof.Rows.callWith_type1 (thn (ha pos pins s σ H _ I h) fun us s1 ⟨vs,H1,I1,r1,q1⟩=>hc pins s1 σ H1 vs us Q I1 r1 q1) he hpl
end
end L2
namespace HT
open PySem PyProof.Rows
section
variable{prog:Program}{w:World}{A:Around}{E:Value→Shared→Prop}{s:Shared}
theorem cat_tup{t b:Addr}{vs ws:List Value}{Q:Value→Shared→Prop}(ht:IsTup s.heap t vs.toArray)(hb:IsTup s.heap b ws.toArray)(hv:vs≠[])
  (h1:ws=[]→Q (.ref t) s) (h2:ws≠[]→Q (.ref s.heap.objs.size) {s with heap:=s.heap.push {cls:=.type "tuple",data:=.seq (vs++ws).toArray}})
  (hsz:vs.length+ws.length≤sizeLine):wpAny (model prog w) A (binaryOp .Add (.ref t) (.ref b)) Q E s:=by
 obtain⟨⟨cls,dd,data,sl⟩,ho,hc,n,hd⟩:=id ht
 obtain⟨⟨cls2,dd2,data2,sl2⟩,ho2,hc2,n2,hd2⟩:=id hb
 simp only at hc hd hc2 hd2
 subst hc hd hc2 hd2
 have e:vs.toArray++ws.toArray=(vs++ws).toArray:=by simp
 by_cases hw:ws=[]
 ·exact concat_meets ⟨_,ho,rfl⟩ ⟨_,ho2,rfl⟩ noFill_tuple_add seq_tuple_add PySem.F.slot_tuple_add PySem.F.entry_tuple_add (PySem.F.args_tuple_add_2 _ _)
   (tuple_addW1 t b vs.toArray ws.toArray n n2 dd dd2 sl sl2 (by simpa using hv) (by simp [hw])) ⟨ho,ho2,h1 hw⟩
 ·refine concat_meets ⟨_,ho,rfl⟩ ⟨_,ho2,rfl⟩ noFill_tuple_add seq_tuple_add PySem.F.slot_tuple_add PySem.F.entry_tuple_add (PySem.F.args_tuple_add_2 _ _)
   (tuple_addW2 t b vs.toArray ws.toArray n n2 dd dd2 sl sl2 (by simpa using hv) (by simpa using hw) (by rw [List.size_toArray,List.size_toArray];exact hsz)) ⟨ho,ho2,?_⟩
  rw [e]
  exact h2 hw
def sIx(n d:Nat):Option Int→Nat
 | none=>d
 | some v=>if v<0 then(v+(n:Int)).toNat else min v.toNat n
theorem sIx_le(n d:Nat)(hd:d≤n)(o:Option Int):sIx n d o≤n:=by
 cases o with
 | none=>exact hd
 | some v=>
  show(if v<0 then(v+(n:Int)).toNat else min v.toNat n)≤n
  by_cases hv:v<0
  ·rw [if_pos hv];omega
  ·rw [if_neg hv];exact Nat.min_le_right _ _
theorem zYP(v:Int)(n d:Nat):(if v<0 then max (v+(n:Int)) 0 else min v (n:Int))=((sIx n d (some v):Nat):Int):=by
 show(if v<0 then max (v+(n:Int)) 0 else min v (n:Int))=(((if v<0 then(v+(n:Int)).toNat else min v.toNat n):Nat):Int)
 by_cases hv:v<0
 ·simp only [if_pos hv];omega
 ·simp only [if_neg hv];omega
theorem zWQ(lo hi:Option Int)(n:Nat):Builtin.Slice.sliceAdjust lo hi 1 (n:Int)=(((sIx n 0 lo:Nat):Int),((sIx n n hi:Nat):Int)):=by
 have h1: ¬((1:Int)<0):=by omega
 unfold Builtin.Slice.sliceAdjust
 simp only [h1,if_false]
 refine Prod.ext ?_ ?_
 ·cases lo with
  | none=>rfl
  | some v=>exact zYP v n 0
 ·cases hi with
  | none=>rfl
  | some v=>exact zYP v n n
theorem zWR(i j:Nat):Builtin.Slice.slicePlaces (i:Int) (j:Int) 1=j - i:=by
 unfold Builtin.Slice.slicePlaces
 have h1:(1:Int)>0:=by omega
 simp only [h1,if_true,Int.ediv_one]
 split<;>omega
theorem zNN{v:Value}{o:Option Int}{Q:Option Int→Shared→Prop}(p:IsPart v o)(h:Q o s):wpAny (model prog w) A (Builtin.Slice.slicePartIndex v) Q E s:=by
 cases p with
 | none=>exact slicePart_none h
 | int i t=>exact slicePart_int h
theorem sliceApplied_gen{sl:Addr}{vl vu:Value}{lo hi:Option Int}{n:Nat}{Q:Int×Int×Nat→Shared→Prop}(hs:s.heap.IsSliceOf sl vl vu .none)(pl:IsPart vl lo)(pu:IsPart vu hi)
  (h:Q (((sIx n 0 lo:Nat):Int),1,sIx n n hi - sIx n 0 lo) s):wpAny (model prog w) A (Builtin.Slice.sliceApplied (.ref sl) (pure (n:Int))) Q E s:=by
 obtain⟨os,hos,hcs,hds⟩:=id hs
 unfold Builtin.Slice.sliceApplied Builtin.Slice.sliceFields
 refine wpAny_bind (wpAny_bind (wpAny_field hos hds (x:=vl) rfl (wpAny_bind (wpAny_field hos hds (x:=vu) rfl (wpAny_bind (wpAny_field hos hds (x:=.none) rfl (wpAny_pure ?_)))))))
 refine wpAny_bind (slicePart_none ?_)
 show wpAny _ _ (if((1:Int)==0)=true then _ else _) _ _ s
 rw [if_neg (by decide)]
 refine wpAny_bind (zNN pl (wpAny_bind (zNN pu (wpAny_bind (wpAny_pure ?_)))))
 show wpAny _ _ (match Builtin.Slice.sliceAdjust lo hi 1 (n:Int)with | (lo,hi)=>pure (lo,(1:Int),Builtin.Slice.slicePlaces lo hi 1)) _ _ s
 rw [zWQ lo hi n]
 show wpAny _ _ (pure (((sIx n 0 lo:Nat):Int),(1:Int),Builtin.Slice.slicePlaces ((sIx n 0 lo:Nat):Int) ((sIx n n hi:Nat):Int) 1)) _ _ s
 rw [zWR]
 exact wpAny_pure h
theorem yDD(xs:Array Value)(i k:Nat):((List.range k).filterMap fun(m:Nat)=>xs[((i:Int)+(m:Int) * 1).toNat]?).toArray=((xs.toList.drop i).take k).toArray:=by
 have e:(fun(m:Nat)=>xs[((i:Int)+(m:Int) * 1).toNat]?)=fun m=>xs[i+m]? :=by
  funext m
  have:((i:Int)+(m:Int) * 1).toNat=i+m:=by omega
  rw [this]
 rw [e]
 have:=pick_run xs i k
 rw [List.filterMap_map]at this
 have e2:((fun x=>xs[x]?)∘fun x=>i+x)=fun m=>xs[i+m]? :=rfl
 rw [e2]at this
 rw [this]
theorem getItem_tuple_cut{t sl:Addr}{items:Array Value}{vl vu:Value}{lo hi:Option Int}{Q:Value→Shared→Prop}(ht:IsTup s.heap t items)(hs:s.heap.IsSliceOf sl vl vu .none)(pl:IsPart vl lo)(pu:IsPart vu hi)
  (hw: ¬(sIx items.size 0 lo=0∧sIx items.size items.size hi=items.size))
  (h:Q (.ref s.heap.objs.size) {s with heap:=s.heap.push {cls:=.type "tuple",data:=.seq ((items.toList.drop (sIx items.size 0 lo)).take (sIx items.size items.size hi - sIx items.size 0 lo)).toArray}})
  (hsz:items.size≤sizeLine):wpAny (model prog w) A (getItem (.ref t) (.ref sl)) Q E s:=by
 have htake:sizeOk (.seq ((items.toList.drop (sIx items.size 0 lo)).take (sIx items.size items.size hi - sIx items.size 0 lo)).toArray):=by
  show((items.toList.drop (sIx items.size 0 lo)).take (sIx items.size items.size hi - sIx items.size 0 lo)).toArray.size≤sizeLine
  rw [List.size_toArray,List.length_take,List.length_drop,Array.length_toList]
  omega
 have hj:sIx items.size items.size hi≤items.size:=sIx_le _ _ (Nat.le_refl _) hi
 obtain⟨os,hos,hcs,hds⟩:=id hs
 have hTs:s.TypeIs (.ref sl) "slice":=⟨os,hos,hcs⟩
 unfold getItem
 try with_reducible refine wpAny_holding ?_
 first | refine wpAny_bind (wpAny_pure ?_) | skip
 refine wpAny_bind (wpAny_sequenceKey ht.typeIs (by decide) ?_)
 refine wpAny_bind (wpAny_callSpecial?_slot (name:=Str.ofString "__getitem__") ht.typeIs PyProof.Rows.slot_tuple_getitem
  (wpAny_call_entry PyProof.Rows.slot_tuple_getitem ht.typeIs entry_tuple_getitem ?_ (args_tuple_getitem _ _)))
 show wpAny _ _ (Builtin.Tuple.tupleItemsOf (.ref t) >>= _) _ _ s
 refine wpAny_bind (tupleItemsOf_ ht ?_)
 refine wpAny_bind (wpAny_typeOf hTs ?_)
 rw [if_pos (by decide)]
 refine wpAny_bind (sliceApplied_gen hs pl pu ?_)
 have hno: ¬((((sIx items.size 0 lo:Nat):Int)==0&&(1:Int)==1&&(sIx items.size items.size hi - sIx items.size 0 lo)==items.size)=true):=by
  intro q
  rw [Bool.and_eq_true,Bool.and_eq_true]at q
  have q1:((sIx items.size 0 lo:Nat):Int)=0:=eq_of_beq q.1.1
  have q2:sIx items.size items.size hi - sIx items.size 0 lo=items.size:=eq_of_beq q.2
  exact hw ⟨by omega,by omega⟩
 show wpAny _ _ (if(((sIx items.size 0 lo:Nat):Int)==0&&(1:Int)==1&&(sIx items.size items.size hi - sIx items.size 0 lo)==items.size)=true then _ else _) _ _ s
 rw [if_neg hno,yDD]
 first
  | exact wpAny_bind (m:=Builtin.Tuple.tupleExact _) (wpAny_newObj_type (wpAny_pure ⟨_,rfl,wpAny_pure h⟩) htake)
  | exact wpAny_bind (m:=Builtin.Tuple.tupleExact _) (wpAny_newObj_type (wpAny_bind (wpAny_pure (wpAny_pure ⟨_,rfl,wpAny_pure h⟩))) htake)
  | exact wpAny_bind (wpAny_bind (m:=Builtin.Tuple.tupleExact _) (wpAny_newObj_type (wpAny_pure (wpAny_pure ⟨_,rfl,wpAny_pure h⟩)) htake))
  | exact wpAny_bind (wpAny_bind (m:=Builtin.Tuple.tupleExact _) (wpAny_newObj_type (wpAny_pure ⟨_,rfl,wpAny_pure h⟩) htake))
end
end HT
namespace L2
open PySem PySem.Spec PyProof.Rows
abbrev TO:=St→Hp→(Option Int→Hp→Prop)→Prop
def PO(X:Cx)(e:Option Expr)(t:TO):Prop:=
 ∀(pins:List (Addr×Obj))(s:Shared)(σ:St)(H:Hp)(Q:Option Int→Hp→Prop),Inv X pins σ H s→t σ H Q→
  wpAny (model X.prog X.w) X.A (evalPart e X.env) (fun u s'=> ∃o H',Inv X pins σ H' s'∧IsPart u o∧Q o H') X.xe s
def yHE:TO:=fun _ H Q=>Q none H
def tPart(t:TE):TO:=fun σ H Q=>t σ H fun x H1=> ∃i,x=.int i∧Q (some i) H1
section
variable{X:Cx}{e:Expr}{te:TE}{lo hi:Option Expr}{tl th:TO}{pos p2:Pos}
theorem yHF:PO X none yHE:=by
 intro pins s σ H Q I h
 rw [evalPart_none]
 exact wpAny_pure ⟨none,H,I,.none,h⟩
theorem yHG(h:PE X e te):PO X (some e) (tPart te):=by
 intro pins s σ H Q I hw
 rw [evalPart_some]
 refine thn (h pins s σ H _ I hw) fun u s1 ⟨x,H1,I1,r1,q1⟩=>?_
 obtain⟨i,rfl,q⟩:=q1
 obtain⟨t,rfl⟩:=r1
 exact⟨some i,H1,I1,.int i t,q⟩
def SlR(X:Cx)(r:V→Option Int→Option Int→Hp→VK→Prop):Prop:=
 ∀(pins:List (Addr×Obj))(s:Shared)(σ:St)(H:Hp)(x:V)(v vl vu:Value)(lo hi:Option Int)(sl:Addr)(Q:VK),Inv X pins σ H s→RelV x v→s.heap.IsSliceOf sl vl vu .none→IsPart vl lo→IsPart vu hi→r x lo hi H Q→
  ∃T id,typeLookup (.type T) "__getitem__"=pure (some (.builtin id))∧s.TypeIs v T∧wpAny (model X.prog X.w) X.A (getItem v (.ref sl)) (EP X pins σ Q) X.xe s
theorem SlR.or{r r':V→Option Int→Option Int→Hp→VK→Prop}(h:SlR X r)(h':SlR X r'):SlR X (fun x lo hi H Q=>r x lo hi H Q∨r' x lo hi H Q):=by
 intro pins s σ H x v vl vu lo hi sl Q I rx hs pl pu q
 rcases q with q | q
 ·exact h pins s σ H x v vl vu lo hi sl Q I rx hs pl pu q
 ·exact h' pins s σ H x v vl vu lo hi sl Q I rx hs pl pu q
def tSl(r:V→Option Int→Option Int→Hp→VK→Prop)(te:TE)(tl th:TO):TE:=fun σ H Q=>te σ H fun x H1=>tl σ H1 fun l H2=>th σ H2 fun u H3=>r x l u H3 Q
theorem yDE{r:V→Option Int→Option Int→Hp→VK→Prop}(hr:SlR X r)(he:PE X e te)(hl:PO X lo tl)(hu:PO X hi th):PE X (.Subscript e (.Slice lo hi none p2) pos) (tSl r te tl th):=by
 intro pins s σ H Q I h
 refine Subscript_ (thn (he pins s σ H _ I h) fun v s1 ⟨x,H1,I1,r1,q1⟩=>?_)
 refine wpAny_Slice (thn (hl pins s1 σ H1 _ I1 q1) fun vl s2 ⟨l,H2,I2,pl,q2⟩=>thn (hu pins s2 σ H2 _ I2 q2) fun vu s3 ⟨u,H3,I3,pu,q3⟩=>?_)
 rw [evalPart_none]
 refine wpAny_pure ?_
 have I4:Inv X pins σ H3 {s3 with heap:=s3.heap.push {cls:=.type "slice",data:=.fields #[vl,vu,.none]}}:=I3.kept (t':=s3.toks) fun b ob q=>Heap.get?_push_of_some _ q
 obtain⟨T,id,hT,ht,hg⟩:=hr pins {s3 with heap:=s3.heap.push {cls:=.type "slice",data:=.fields #[vl,vu,.none]}} σ H3 x v vl vu l u s3.heap.objs.size Q I4 r1 (Heap.IsSliceOf.new ..) pl pu q3
 show wpAny (model X.prog X.w) X.A (subscriptTail e (.Slice lo hi none p2) v (.ref s3.heap.objs.size)) (EP X pins σ Q) X.xe {s3 with heap:=s3.heap.push {cls:=.type "slice",data:=.fields #[vl,vu,.none]}}
 exact tail_any (ops:=[.ref s3.heap.objs.size,v]) ht hT hg (by with_unfolding_all rfl)
def zTY(xs:List V)(lo hi:Option Int):List V:=(xs.drop (HT.sIx xs.length 0 lo)).take (HT.sIx xs.length xs.length hi - HT.sIx xs.length 0 lo)
theorem zLU(xs:List V)(lo hi:Option Int):(zTY xs lo hi).length≤xs.length:=by
 unfold zTY
 rw [List.length_take,List.length_drop]
 omega
def rSlT(K:PySem.W.Frag):V→Option Int→Option Int→Hp→VK→Prop:=fun x lo hi H Q=> ∃a xs,x=.ref a∧SqT K H a xs∧
 ¬(HT.sIx xs.length 0 lo=0∧HT.sIx xs.length xs.length hi=xs.length)∧ ∀p,H p=none→Q (.ref p) (upd H p (.tup (zTY xs lo hi)))
theorem yLY:SlR X (rSlT X.K):=by
 intro pins s σ H x v vl vu lo hi sl Q I rx hs pl pu h
 obtain⟨a,xs,rfl,hx,hw,q⟩:=h
 cases rx
 obtain⟨its,r,ht,hz⟩:=I.tuple hx
 have hlen:its.toArray.size=xs.length:=by rw [List.size_toArray];exact r.length.symm
 refine⟨"tuple",_,PyProof.Rows.slot_tuple_getitem.lookup,ht.typeIs,?_⟩
 refine HT.getItem_tuple_cut ht hs pl pu (by rw [hlen];exact hw) ?_ (by rw [hlen];exact hz)
 rw [hlen]
 refine⟨.ref s.heap.objs.size,_,I.laid (t':=s.toks) (o:=.tup (zTY xs lo hi)) (fun b ob q=>Heap.get?_push_of_some _ q) (Nat.le_refl _) ?_,rfl,q _ (I.hok.fresh (Nat.le_refl _))⟩
 exact⟨Nat.le_trans (zLU xs lo hi) hz,_,(r.drop (HT.sIx xs.length 0 lo)).take (HT.sIx xs.length xs.length hi - HT.sIx xs.length 0 lo),IsTup.new _ _⟩
def rCatT(K:PySem.W.Frag):R2:=fun x y H Q=> ∃a b xs ys,x=.ref a∧y=.ref b∧SqT K H a xs∧SqT K H b ys∧xs≠[]∧xs.length+ys.length≤sizeLine∧
 (ys=[]→Q (.ref a) H)∧(ys≠[]→ ∀p,H p=none→Q (.ref p) (upd H p (.tup (xs++ys))))
theorem Vals.nil_iff{xs:List V}{us:List Value}(r:Vals xs us):us=[]↔xs=[]:=by
 cases r with
 | nil=>simp
 | cons _ _=>simp
theorem yHH:OpR X (binaryOp .Add) (rCatT X.K):=by
 intro pins s σ H x y v u Q I rx ry h
 obtain⟨a,b,xs,ys,rfl,rfl,ha,hb,hx,hz,q1,q2⟩:=h
 cases rx
 cases ry
 obtain⟨its,r1,p1,_⟩:=I.tuple ha
 obtain⟨its2,r2,p2,_⟩:=I.tuple hb
 refine HT.cat_tup p1 p2 (fun z=>hx (r1.nil_iff.mp z)) (fun z=>⟨.ref a,H,I,rfl,q1 (r2.nil_iff.mp z)⟩) (fun z=>?_) (by rw [←r1.length, ←r2.length];exact hz)
 refine⟨.ref s.heap.objs.size,_,I.laid (t':=s.toks) (o:=.tup (xs++ys)) (fun b ob q=>Heap.get?_push_of_some _ q) (Nat.le_refl _) ?_,rfl,q2 (fun w=>z (r2.nil_iff.mpr w)) _ (I.hok.fresh (Nat.le_refl _))⟩
 exact⟨by rw [List.length_append];exact hz,_,r1.append r2,IsTup.new _ _⟩
end
end L2
namespace L2
open PySem PySem.Spec PyProof.Rows
def ixN(n:Nat)(i:Int):Option Nat:=if 0≤i then(if i<n then some i.toNat else none)else if -(n:Int)≤i then some (i+n).toNat else none
def atI{α:Type}(xs:List α)(i:Int):Option α:=(ixN xs.length i).bind fun j=>xs[j]?
theorem zRR{n:Nat}{i:Int}{j:Nat}(h:ixN n i=some j):seqIndex? i n=some j∧j<n∧ -(n:Int)≤i∧i<n:=by
 unfold ixN at h
 by_cases h0:0≤i
 ·rw [if_pos h0]at h
  by_cases h1:i<n
  ·rw [if_pos h1]at h
   have e:i.toNat=j:=Option.some.inj h
   exact⟨by rw [seqIndex_of h0 h1,e],by omega,by omega,h1⟩
  ·rw [if_neg h1]at h;cases h
 ·rw [if_neg h0]at h
  by_cases h1: -(n:Int)≤i
  ·rw [if_pos h1]at h
   have e:(i+n).toNat=j:=Option.some.inj h
   exact⟨by rw [seqIndex_neg (by omega) h1,e],by omega,h1,by omega⟩
  ·rw [if_neg h1]at h;cases h
theorem zRS{α:Type}{xs:List α}{i:Int}{v:α}(h:atI xs i=some v): ∃j,seqIndex? i xs.length=some j∧xs[j]? =some v∧j<xs.length∧ -(xs.length:Int)≤i∧i<xs.length:=by
 unfold atI at h
 cases e:ixN xs.length i with
 | none=>rw [e]at h;cases h
 | some j=>
  rw [e]at h
  obtain⟨h1,h2,h3,h4⟩:=zRR e
  exact⟨j,h1,h,h2,h3,h4⟩
def zRT(b:Expr):Prop:= ∀o i,subscripted b false o i=operate [o,i] (getItem o i)
def IxR(X:Cx)(r:R2):Prop:=
 ∀(value slice:Expr)(pins:List (Addr×Obj))(s:Shared)(σ:St)(H:Hp)(x y:V)(v u:Value)(Q:VK),Inv X pins σ H s→RelV x v→RelV y u→r x y H Q→
  subscripted slice false v u=operate [v,u] (getItem v u)→wpAny (model X.prog X.w) X.A (subscriptTail value slice v u) (EP X pins σ Q) X.xe s
def MtR(X:Cx)(id:String)(r:V→List V→Hp→VK→Prop):Prop:=
 ∀(pins:List (Addr×Obj))(s:Shared)(σ:St)(H:Hp)(x:V)(xs:List V)(v:Value)(us:List Value)(Q:VK),Inv X pins σ H s→RelV x v→Vals xs us→r x xs H Q→
  wpAny (model X.prog X.w) X.A (call (.builtin id) (v::us)) (EP X pins σ Q) X.xe s
section
variable{X:Cx}{a b:Expr}{ta tb:TE}{pos:Pos}
theorem IxR.or{r r':R2}(h:IxR X r)(h':IxR X r'):IxR X (fun x y H Q=>r x y H Q∨r' x y H Q):=by
 intro value slice pins s σ H x y v u Q I rx ry q hs
 rcases q with q | q
 ·exact h value slice pins s σ H x y v u Q I rx ry q hs
 ·exact h' value slice pins s σ H x y v u Q I rx ry q hs
theorem pe_ix{r:R2}(hr:IxR X r)(ha:PE X a ta)(hb:PE X b tb)(hs:zRT b):PE X (.Subscript a b pos) (tOp r ta tb):=by
 intro pins s σ H Q I h
 exact Subscript_ (binT ha hb I h fun v u s2 x y H2 I2 rx ry q=>hr a b pins s2 σ H2 x y v u Q I2 rx ry q (hs _ _))
def rIxL(K:PySem.W.Frag):R2:=fun x y H Q=> ∃p xs i v,x=.ref p∧y=.int i∧SqL K H p xs∧atI xs i=some v∧Q v H
def rIxT(K:PySem.W.Frag):R2:=fun x y H Q=> ∃p xs i v,x=.ref p∧y=.int i∧SqT K H p xs∧atI xs i=some v∧Q v H
def rIxS:R2:=fun x y H Q=> ∃z i c,x=.str z∧y=.int i∧z.length≤sizeLine∧atI z.cps.toList i=some c∧Q (.str ⟨#[c]⟩) H
theorem yHI:IxR X (rIxL X.K):=by
 intro value slice pins s σ H x y v u Q I rx ry h hs
 obtain⟨p,xs,i,z,rfl,rfl,hq,he,q⟩:=h
 cases rx
 obtain⟨t,rfl⟩:=ry
 obtain⟨its,r,pl,hz⟩:=I.list hq
 obtain⟨j,h1,h2,h3,h4,h5⟩:=zRS he
 obtain⟨w,ew,rw'⟩:=r.get h2
 have hl:=r.length
 have hn:=zIF
 have fin:EP X pins σ Q w s:=⟨z,H,I,rw',q⟩
 by_cases h0:0≤i
 ·have hj:i.toNat=j:=by
   rw [seqIndex_of h0 h5]at h1
   exact Option.some.inj h1
  exact item_listR pl.isList h0 (by omega) (by rw [hj];simpa using ew) fin hs
 ·have hj:(i+(its.toArray.size:Int)).toNat=j:=by
   rw [seqIndex_neg (by omega) h4]at h1
   rw [List.size_toArray, ←hl]
   exact Option.some.inj h1
  exact subscriptTail_builtinR (x:=w) pl.isList.typeIs slot_list_getitem.lookup
   (wpAny_getItem_list_neg (Q:=fun r s'=>r=w∧EP X pins σ Q r s') pl.isList (by omega) (by rw [List.size_toArray]<;>omega) (by omega) (by rw [hj];simpa using ew) ⟨rfl,fin⟩) hs
theorem ix_tup:IxR X (rIxT X.K):=by
 intro value slice pins s σ H x y v u Q I rx ry h hs
 obtain⟨p,xs,i,z,rfl,rfl,hq,he,q⟩:=h
 cases rx
 obtain⟨t,rfl⟩:=ry
 obtain⟨its,r,pl,hz⟩:=I.tuple hq
 obtain⟨j,h1,h2,h3,h4,h5⟩:=zRS he
 obtain⟨w,ew,rw'⟩:=r.get h2
 have hl:=r.length
 have hn:=zIF
 have fin:EP X pins σ Q w s:=⟨z,H,I,rw',q⟩
 exact subscriptTail_builtinR (x:=w) pl.typeIs slot_tuple_getitem.lookup
  (getItem_tuple (j:=j) (Q:=fun r s'=>r=w∧EP X pins σ Q r s') pl (by omega) (by omega) (by rw [List.size_toArray, ←hl];exact h1) (by simpa using ew) ⟨rfl,fin⟩) hs
theorem ix_str:IxR X rIxS:=by
 intro value slice pins s σ H x y v u Q I rx ry h hs
 obtain⟨z,i,c,rfl,rfl,hz,he,q⟩:=h
 obtain⟨t,rfl⟩:=rx
 obtain⟨t',rfl⟩:=ry
 obtain⟨j,h1,h2,h3,h4,h5⟩:=zRS he
 have hl:z.cps.toList.length=z.length:=by simp [Str.length]
 rw [hl]at h1 h4 h5
 have hn:=zIF
 exact tail_any (typeIs_str s z t) slot_str_getitem.lookup (getItem_str (c:=c) (by
  have e1:decide (i< -(2 ^ 63:Int))=false:=decide_eq_false (by omega)
  have e2:decide (i≥2 ^ 63)=false:=decide_eq_false (by omega)
  rw [e1,e2,Bool.or_false]) (by rw [h1];simpa using h2) ⟨.str ⟨#[c]⟩,H,I.tok _,⟨_,rfl⟩,q⟩) hs
def rIx(K:PySem.W.Frag):R2:=fun x y H Q=>rIxL K x y H Q∨rIxT K x y H Q∨rIxS x y H Q
theorem yLZ:IxR X (rIx X.K):=yHI.or (ix_tup.or ix_str)
theorem zWS(its:List Value)(n j:Nat)(u:Value):Obj.mapSeq (·.setIfInBounds j u) {cls:=.type "list",data:=.seq its.toArray n}={cls:=.type "list",data:=.seq (its.set j u).toArray n}:=by
 simp [Obj.mapSeq]
theorem Inv.lst{pins:List (Addr×Obj)}{σ:St}{H:Hp}{s:Shared}{p:Addr}{xs:List V}(I:Inv X pins σ H s)(h:H p=some (.lst xs)):
  ∃(its:List Value)(n:Nat),Vals xs its∧s.heap.get? p=some {cls:=.type "list",data:=.seq its.toArray n}∧xs.length≤sizeLine:=by
 obtain⟨z,its,n,r,e⟩:=I.hok p _ h
 exact⟨its,n,r,e,z⟩
theorem Inv.lstUpd{pins:List (Addr×Obj)}{σ:St}{H:Hp}{s:Shared}{p:Addr}{xs ys:List V}{its its':List Value}{n n':Nat}{f:Obj→Obj}(I:Inv X pins σ H s)(h:H p=some (.lst xs))
  (ho:s.heap.get? p=some {cls:=.type "list",data:=.seq its.toArray n}) (hf:f {cls:=.type "list",data:=.seq its.toArray n}={cls:=.type "list",data:=.seq its'.toArray n'}) (r:Vals ys its') (hz:ys.length≤sizeLine) (t:Nat):
  Inv X pins σ (upd H p (.lst ys)) {s with heap:=s.heap.update p f,toks:=t}:=by
 have e:(s.heap.update p f).get? p=some {cls:=.type "list",data:=.seq its'.toArray n'}:=by
  rw [Heap.get?_update_self f ho (by rw [hf]<;>rfl),hf]
 refine I.write (x:=p) (e:=p) (by rw [h];trivial) (.inl rfl) (fun b u hb q=>(Heap.get?_update_other _ _ (Ne.symm hb)).trans q) ⟨_,e⟩ ?_
 exact⟨hz,its',n',r,e⟩
def rSetL:V→V→V→Hp→(Hp→Prop)→Prop:=fun o i v H Q=> ∃p xs k j,o=.ref p∧i=.int k∧H p=some (.lst xs)∧ixN xs.length k=some j∧Q (upd H p (.lst (xs.set j v)))
theorem set_list:PSet X rSetL:=by
 intro pins s σ H o i v ov iv u Q I ro ri rv h
 obtain⟨p,xs,k,j,rfl,rfl,hp,hj,q⟩:=h
 cases ro
 obtain⟨t,rfl⟩:=ri
 obtain⟨its,n,r,ho,hz⟩:=I.lst hp
 obtain⟨h1,h2,h3,h4⟩:=zRR hj
 have hl:=r.length
 have hn:=zIF
 have I':Inv X pins σ (upd H p (.lst (xs.set j v))) {s with heap:=s.heap.update p (Obj.mapSeq (·.setIfInBounds j u))}:=
  I.lstUpd hp ho (zWS its n j u) (r.set rv j) (by rw [List.length_set];exact hz) s.toks
 by_cases h0:0≤k
 ·have hk:k.toNat=j:=by
   rw [seqIndex_of h0 h4]at h1
   exact Option.some.inj h1
  exact PySem.W.ki_setAt ho h0 (by omega) (by rw [List.size_toArray, ←hl];exact h4) (by rw [hk];exact⟨_,I',q⟩)
 ·have hk:(k+(its.toArray.size:Int)).toNat=j:=by
   rw [seqIndex_neg (by omega) h3]at h1
   rw [List.size_toArray, ←hl]
   exact Option.some.inj h1
  exact PySem.W.ki_setBack ho (by omega) (by rw [List.size_toArray, ←hl];exact h3) (by omega) (by rw [hk];exact⟨_,I',q⟩)
theorem zRU(lo hi:Option Int)(n:Nat):(sliceBounds lo hi none n).1=((HT.sIx n 0 lo:Nat):Int)∧(sliceBounds lo hi none n).2.1=((HT.sIx n n hi:Nat):Int)∧(sliceBounds lo hi none n).2.2=1:=by
 refine⟨?_,?_,rfl⟩
 ·cases lo with
  | none=>simp [sliceBounds,HT.sIx]
  | some i=>
   simp only [sliceBounds,HT.sIx,Option.getD_none,show(1:Int)>0 by decide,if_true]
   by_cases h:i<0
   ·simp only [h,if_true]<;>omega
   ·simp only [h,if_false]<;>omega
 ·cases hi with
  | none=>simp [sliceBounds,HT.sIx]
  | some i=>
   simp only [sliceBounds,HT.sIx,Option.getD_none,show(1:Int)>0 by decide,if_true]
   by_cases h:i<0
   ·simp only [h,if_true]<;>omega
   ·simp only [h,if_false]<;>omega
theorem zPZ(its:List Value)(lo hi:Option Int):slicePick its.toArray lo hi none=((its.drop (HT.sIx its.length 0 lo)).take (HT.sIx its.length its.length hi - HT.sIx its.length 0 lo)).toArray:=by
 obtain⟨h1,h2,h3⟩:=zRU lo hi its.toArray.size
 unfold slicePick
 rw [h1,h2,h3]
 simp only [sliceRange_one,pick_run,List.size_toArray]<;>rfl
def rSlL(K:PySem.W.Frag):V→Option Int→Option Int→Hp→VK→Prop:=fun x lo hi H Q=> ∃a xs,x=.ref a∧SqL K H a xs∧ ∀p,H p=none→Q (.ref p) (upd H p (.lst (zTY xs lo hi)))
theorem yHJ:SlR X (rSlL X.K):=by
 intro pins s σ H x v vl vu lo hi sl Q I rx hs pl pu h
 obtain⟨a,xs,rfl,hx,q⟩:=h
 cases rx
 obtain⟨its,r,ht,hz⟩:=I.list hx
 have hlen:=r.length
 refine⟨"list",_,slot_list_getitem.lookup,ht.isList.typeIs,?_⟩
 refine wpAny_getItem_list_slice ht.isList hs pl pu .none (by simp) ?_ (by rw [List.size_toArray]<;>omega)
 rw [zPZ, ←hlen]
 refine⟨.ref s.heap.objs.size,_,I.laid (t':=s.toks) (o:=.lst (zTY xs lo hi)) (fun b ob q=>Heap.get?_push_of_some _ q) (Nat.le_refl _) ?_,rfl,q _ (I.hok.fresh (Nat.le_refl _))⟩
 exact⟨Nat.le_trans (zLU xs lo hi) hz,_,0,(r.drop (HT.sIx xs.length 0 lo)).take (HT.sIx xs.length xs.length hi - HT.sIx xs.length 0 lo),Heap.get?_push_size _ rfl⟩
def kH:V→Bool
 | .non=>true
 | .bl _=>true
 | .int _=>true
 | .str _=>true
 | _=>false
def eqV:V→V→Bool
 | .non,.non=>true
 | .bl a,.bl b=>a==b
 | .bl a,.int b=>(if a then 1 else 0)==b
 | .int a,.bl b=>a==(if b then 1 else 0)
 | .int a,.int b=>a==b
 | .str a,.str b=>a==b
 | _,_=>false
theorem yMA{A:Around}{s:Shared}{y x:V}{u v:Value}(ry:RelV y u)(rx:RelV x v)(fy:kH y=true)(fx:kH x=true):SeqAt.EqAt A s u v (eqV y x):=by
 cases y with
 | non=>
  cases ry
  cases x with
  | non=>cases rx;exact SeqAt.EqAt.same _
  | bl b=>cases rx;exact SeqAt.EqAt.none_bool b
  | int b=>obtain⟨t,rfl⟩:=rx;exact SeqAt.EqAt.none_int b t
  | str b=>obtain⟨t,rfl⟩:=rx;exact SeqAt.EqAt.none_str b t
  | _=>exact absurd (show false=true from fx) Bool.false_ne_true
 | bl a=>
  cases ry
  cases x with
  | non=>cases rx;exact SeqAt.EqAt.bool_none a
  | bl b=>cases rx;exact SeqAt.EqAt.bool_bool a b
  | int b=>obtain⟨t,rfl⟩:=rx;exact SeqAt.EqAt.bool_int a b t
  | str b=>obtain⟨t,rfl⟩:=rx;exact SeqAt.EqAt.bool_str a b t
  | _=>exact absurd (show false=true from fx) Bool.false_ne_true
 | int a=>
  obtain⟨t',rfl⟩:=ry
  cases x with
  | non=>cases rx;exact SeqAt.EqAt.int_none a t'
  | bl b=>cases rx;exact SeqAt.EqAt.int_bool a t' b
  | int b=>obtain⟨t,rfl⟩:=rx;exact SeqAt.EqAt.int_int a t' b t
  | str b=>obtain⟨t,rfl⟩:=rx;exact SeqAt.EqAt.int_str a t' b t
  | _=>exact absurd (show false=true from fx) Bool.false_ne_true
 | str a=>
  obtain⟨t',rfl⟩:=ry
  cases x with
  | non=>cases rx;exact SeqAt.EqAt.str_none a t'
  | bl b=>cases rx;exact SeqAt.EqAt.str_bool a t' b
  | int b=>obtain⟨t,rfl⟩:=rx;exact SeqAt.EqAt.str_int a t' b t
  | str b=>obtain⟨t,rfl⟩:=rx;exact SeqAt.EqAt.str_str a t' b t
  | _=>exact absurd (show false=true from fx) Bool.false_ne_true
 | _=>exact absurd (show false=true from fy) Bool.false_ne_true
theorem zRV:CallR X (.builtin "len") (fun xs H Q=> ∃p ys,xs=[.ref p]∧(SqL X.K H p ys∨SqT X.K H p ys)∧Q (.int ys.length) H):=by
 intro pins s σ H xs us Q I r h
 obtain⟨p,ys,rfl,hq,q⟩:=h
 obtain⟨u,rfl,rx⟩:=vals1 r
 cases rx
 have hn:=zIF
 rcases hq with hq | hq
 ·obtain⟨its,r',pl,hz⟩:=I.list hq
  have hlen:=r'.length
  exact Calls.call_len_list pl.isList (by simp only [List.size_toArray]<;>omega) ⟨.int ys.length,H,I.tok _,⟨s.toks+1,by rw [List.size_toArray,hlen]⟩,q⟩
 ·obtain⟨its,r',pl,hz⟩:=I.tuple hq
  have hlen:=r'.length
  exact len_tuple pl (by simp only [List.size_toArray]<;>omega) ⟨.int ys.length,H,I.tok _,⟨s.toks+1,by rw [List.size_toArray,hlen]⟩,q⟩
theorem zRW:CallR X (.builtin "len") (fun xs H Q=> ∃z,xs=[.str z]∧z.length≤sizeLine∧Q (.int z.length) H):=by
 intro pins s σ H xs us Q I r h
 obtain⟨z,rfl,hz,q⟩:=h
 obtain⟨u,rfl,t,rfl⟩:=vals1 r
 have hn:=zIF
 exact len_str (by omega) ⟨.int z.length,H,I.tok _,⟨_,rfl⟩,q⟩
theorem CallR.or{f:Value}{r r':List V→Hp→VK→Prop}(h:CallR X f r)(h':CallR X f r'):CallR X f (fun xs H Q=>r xs H Q∨r' xs H Q):=by
 intro pins s σ H xs us Q I rs q
 rcases q with q | q
 ·exact h pins s σ H xs us Q I rs q
 ·exact h' pins s σ H xs us Q I rs q
theorem zJG:CallR X (.type "list") (fun xs H Q=> ∃p ys,xs=[.ref p]∧(SqL X.K H p ys∨SqT X.K H p ys)∧ ∀l,H l=none→Q (.ref l) (upd H l (.lst ys))):=by
 intro pins s σ H xs us Q I r h
 obtain⟨p,ys,rfl,hq,q⟩:=h
 obtain⟨u,rfl,rx⟩:=vals1 r
 cases rx
 have fin: ∀(its:List Value),Vals ys its→ys.length≤sizeLine→ ∀(h':Heap)(c':Nat),(∀b o',s.heap.get? b=some o'→h'.get? b=some o')→
   h'.get? s.heap.objs.size=some {cls:=.type "list",dict:=none,data:=.seq its.toArray c',slots:=#[]}→EP X pins σ Q (.ref s.heap.objs.size) {s with heap:=h'}:=fun its r' hz h' c' kp e=>
  ⟨.ref s.heap.objs.size,_,I.laid (t':=s.toks) kp (Nat.le_refl _) (show ObjOk X.prog X.w _ h' _ (.lst ys)from⟨hz,its,c',r',e⟩),rfl,q _ (I.hok.fresh (Nat.le_refl _))⟩
 rcases hq with hq | hq
 ·obtain⟨its,r',pl,hz⟩:=I.list hq
  have hlen:=r'.length
  obtain⟨o,ho,hc,n,hd⟩:=pl.isList
  exact call_list_seq p (.inl rfl) ho hc hd (fun h' c' kp e=>fin its r' hz h' c' kp e) (by simp only [List.size_toArray]<;>omega)
 ·obtain⟨its,r',pl,hz⟩:=I.tuple hq
  have hlen:=r'.length
  obtain⟨o,ho,hc,n,hd⟩:=pl
  exact call_list_seq p (.inr rfl) ho hc hd (fun h' c' kp e=>fin its r' hz h' c' kp e) (by simp only [List.size_toArray]<;>omega)
theorem xL:CallR X (.type "tuple") (fun xs H Q=> ∃p ys,xs=[.ref p]∧((SqL X.K H p ys∧ ∀l,H l=none→Q (.ref l) (upd H l (.tup ys)))∨(SqT X.K H p ys∧Q (.ref p) H))):=by
 intro pins s σ H xs us Q I r h
 obtain⟨p,ys,rfl,h⟩:=h
 obtain⟨u,rfl,rx⟩:=vals1 r
 cases rx
 rcases h with⟨hq,q⟩ | ⟨hq,q⟩
 ·obtain⟨its,r',pl,hz⟩:=I.list hq
  have hlen:=r'.length
  refine call_tuple_list pl.isList (fun h' kp=>?_) (by simp only [List.size_toArray]<;>omega)
  have I1:Inv X pins σ H {s with heap:=h'}:=I.kept (t':=s.toks) kp
  have I2:Inv X pins σ (upd H h'.objs.size (.tup ys)) {s with heap:=h'.push {cls:=.type "tuple",data:=.seq its.toArray}}:=
   I1.laid (t':=s.toks) (fun b o e=>Heap.get?_push_of_some _ e) (Nat.le_refl _) (show ObjOk X.prog X.w _ _ _ (.tup ys)from⟨hz,its,r',IsTup.new _ _⟩)
  exact⟨.ref h'.objs.size,_,I2,rfl,q _ (I1.hok.fresh (Nat.le_refl _))⟩
 ·obtain⟨its,r',pl,hz⟩:=I.tuple hq
  exact call_tuple_same pl ⟨.ref p,H,I,rfl,q⟩
def tyV(K:PySem.W.Frag)(T:String)(x:V)(H:Hp):Prop:=match x with
 | .str _=>T="str"
 | .int _=>T="int"
 | .ref p=>(T="list"∧ ∃xs,SqL K H p xs)∨(T="tuple"∧ ∃o,K.lookup p=some o∧o.cls=.type "tuple"∧o.dict=none)∨
   (T="dict"∧((∃kvs,H p=some (.dK kvs))∨ ∃kvs,H p=some (.dT kvs)))∨(T="set"∧ ∃S n,H p=some (.set S n))
 | _=>False
theorem yMB{pins:List (Addr×Obj)}{σ:St}{H:Hp}{s:Shared}{T:String}{x:V}{v:Value}(I:Inv X pins σ H s)(r:RelV x v)(ty:tyV X.K T x H):
  s.TypeIs v T∧ ∀a,v=.ref a→ ∃ob,s.heap.get? a=some ob∧ob.dict=none:=by
 cases x with
 | str z=>
  obtain⟨t,rfl⟩:=r
  cases (show T="str" from ty)
  exact⟨typeIs_str s z t,fun _ e=>nomatch e⟩
 | int i=>
  obtain⟨t,rfl⟩:=r
  cases (show T="int" from ty)
  exact⟨typeIs_int s i t,fun _ e=>nomatch e⟩
 | ref p=>
  cases r
  rcases ty with⟨rfl,xs,hq⟩ | ⟨rfl,o,hk,hc,hd⟩ | ⟨rfl,hk⟩ | ⟨rfl,S,n,hk⟩
  ·obtain⟨its,_,pl,_⟩:=I.list hq
   refine⟨pl.isList.typeIs,fun a e=>?_⟩
   cases e
   obtain⟨o,n,e,c,hd,_⟩:=pl
   exact⟨o,e,hd⟩
  ·refine⟨⟨o,I.kIn p o hk,hc⟩,fun a e=>?_⟩
   cases e
   exact⟨o,I.kIn _ o hk,hd⟩
  ·have z: ∃o,s.heap.get? p=some o∧o.ExactDict:=by
    rcases hk with⟨kvs,hk⟩ | ⟨kvs,hk⟩
    ·obtain⟨_,_,_,_,o,_,_,e,ex,_⟩:=I.hok p _ hk
     exact⟨o,e,ex⟩
    ·obtain⟨_,_,_,_,o,_,_,e,ex,_⟩:=I.hok p _ hk
     exact⟨o,e,ex⟩
   obtain⟨o,e,ex⟩:=z
   refine⟨⟨o,e,ex.1⟩,fun a e2=>?_⟩
   cases e2
   exact⟨o,e,ex.2.1⟩
  ·obtain⟨o,_,_,_,e,ex,_⟩:=I.hok p _ hk
   refine⟨⟨o,e,ex.1⟩,fun a e2=>?_⟩
   cases e2
   exact⟨o,e,ex.2.1⟩
 | _=>exact False.elim ty
def tBM(K:PySem.W.Frag)(T:String)(r:V→List V→Hp→VK→Prop)(to:TE)(t:TA):TE:=fun σ H Q=>to σ H fun x H1=>tyV K T x H1∧t σ H1 fun xs H2=>r x xs H2 Q
variable{o e:Expr}{es:List Expr}{to:TE}{t:TA}{name:Str}{apos cpos:Pos}{T id:String}{r:V→List V→Hp→VK→Prop}
theorem pe_bm(pa:PlainAttrs T)(slot:Slot T name id)(hty:typeOf (.builtin id)=pure (.type "method_descriptor"))(hm:MtR X id r)(ho:PE X o to)(ha:PA X (e::es) t)
  (hbase:attributeBase o name X.env (eval o X.env)=eval o X.env:=by rfl)
  (hfew:((backTo cpos (starEach (e::es) X.env)).all (fun x=>!x.1)&&(backToKw cpos (keywordEach [] X.env)).all (fun x=>x.1.isSome)
   &&decide ((e::es).length+([]:List Keyword).length+(if([]:List Keyword).isEmpty then 0 else 1)<30))=true:=by rfl)
  (hline:(apos.endLine==cpos.line)=true:=by rfl) (hs:starEach (e::es) X.env=(false,eval e X.env)::starEach es X.env:=by rfl) (hplain:(backTo cpos (starEach es X.env)).any (·.1)=false:=by rfl):
  PE X (.Call (.Attribute o name apos) (e::es) [] cpos) (tBM X.K T r to t):=by
 intro pins s σ H Q I h
 refine wpAny_Call_method_late hbase hfew hline rfl (thn (ho pins s σ H _ I h) fun v s1 ⟨x,H1,I1,r1,ty,q1⟩=>?_)
 obtain⟨h1,h2⟩:=yMB I1 r1 ty
 refine⟨T,id,pa,slot,hty,h1,h2,?_⟩
 have hA:=ha cpos pins s1 σ H1 _ I1 q1
 rw [hs]at hA ⊢
 refine Calls.callWith_builtin (by show(false || (backTo cpos (starEach es X.env)).any (·.1))=false;rw [hplain]<;>rfl) (Calls.evalArgs_plain ?_)
 exact thn hA fun us s2 ⟨vs,H2,I2,r2,q2⟩=>hm pins s2 σ H2 x vs v us Q I2 r1 r2 q2
end
end L2
namespace L2
open PySem PySem.Spec PyProof.Rows
def MtM(X:Cx)(id:String)(r:V→List V→Hp→VK→Prop):Prop:=
 ∀(pins:List (Addr×Obj))(s:Shared)(σ:St)(H:Hp)(x:V)(xs:List V)(v:Value)(us:List Value)(Q:VK),Inv X pins σ H s→RelV x v→Vals xs us→r x xs H Q→
  wpAny (model X.prog X.w) X.A (call (.builtin id) (v::us)) (EP X pins σ Q) X.xe s
theorem Vals.one: ∀{x:V}{us:List Value},Vals [x] us→ ∃u,us=[u]∧RelV x u
 | _,_,.cons r .nil=>⟨_,rfl,r⟩
theorem Vals.eraseIdx: ∀{xs:List V}{us:List Value}(i:Nat),Vals xs us→Vals (xs.eraseIdx i) (us.eraseIdx i)
 | _,_,_,.nil=>.nil
 | _,_,0,.cons _ t=>t
 | _,_,i+1,.cons r t=>.cons r (Vals.eraseIdx i t)
theorem Vals.rep{xs:List V}{us:List Value}(h:Vals xs us): ∀k:Nat,Vals (List.replicate k xs).flatten (List.replicate k us).flatten
 | 0=>.nil
 | k+1=>by
  rw [List.replicate_succ,List.replicate_succ,List.flatten_cons,List.flatten_cons]
  exact Vals.append h (Vals.rep h k)
theorem zQR{α:Type}: ∀(l:List α)(i:Nat),(l.eraseIdx i).length≤l.length
 | [],_=>Nat.le_refl _
 | _::_,0=>Nat.le_succ _
 | _::r,i+1=>Nat.succ_le_succ (zQR r i)
theorem foldl_rep(its:List Value): ∀(k:Nat)(acc:List Value),
  List.foldl (fun x1 x2=>x1++x2) acc.toArray (List.replicate k its.toArray)=(acc++(List.replicate k its).flatten).toArray
 | 0,acc=>by simp
 | k+1,acc=>by
  have e:acc.toArray++its.toArray=(acc++its).toArray:=by simp
  have e2:(acc++its)++(List.replicate k its).flatten=acc++(List.replicate (k+1) its).flatten:=by
   rw [List.replicate_succ,List.flatten_cons,List.append_assoc]
  rw [←e2, ←foldl_rep its k (acc++its), ←e,List.replicate_succ,List.foldl_cons]
section
variable{X:Cx}{pins:List (Addr×Obj)}{σ:St}{H:Hp}{s:Shared}{l b:Addr}{xs ys zs:List V}
theorem Inv.lset{its its':List Value}{n:Nat}{f:Array Value→Array Value}{t':Nat}(I:Inv X pins σ H s)(hH:H l=some (.lst xs))
  (e:s.heap.get? l=some {cls:=.type "list",data:=.seq its.toArray n}) (hf:f its.toArray=its'.toArray) (hv:Vals ys its') (hz:ys.length≤sizeLine):
  Inv X pins σ (upd H l (.lst ys)) {s with heap:=s.heap.update l (Obj.mapSeq f),toks:=t'}:=by
 have q:=PySem.IsL.update e f
 rw [hf]at q
 refine I.write (x:=l) (e:=l) (by rw [hH];exact trivial) (.inl rfl) (fun b' u hb hu=>(Heap.get?_update_other s.heap (Obj.mapSeq f) (Ne.symm hb)).trans hu) ⟨_,q⟩ ?_
 exact⟨hz,its',_,hv,q⟩
theorem Inv.lnew{its:List Value}{t':Nat}(I:Inv X pins σ H s)(hv:Vals ys its)(hz:ys.length≤sizeLine):
  Inv X pins σ (upd H s.heap.objs.size (.lst ys)) {s with heap:=s.heap.push {cls:=.type "list",data:=.seq its.toArray},toks:=t'}:=
 I.laid (fun _ _ q=>Heap.get?_push_of_some _ q) (Nat.le_refl _) ⟨hz,its,0,hv,Heap.get?_push_size _ rfl⟩
theorem Inv.fresh(I:Inv X pins σ H s):H s.heap.objs.size=none:=I.hok.fresh (Nat.le_refl _)
theorem Inv.lstM(I:Inv X pins σ H s)(hH:H l=some (.lst xs)):xs.length≤sizeLine∧ ∃(its:List Value)(n:Nat),Vals xs its∧xs.length=its.length∧s.heap.get? l=some {cls:=.type "list",data:=.seq its.toArray n}:=by
 obtain⟨z,its,n,r,e⟩:=I.hok l _ hH
 exact⟨z,its,n,r,r.length,e⟩
theorem yDF{n:Nat}(h:n≤sizeLine):Builtin.List.listTooLong n=false:=by
 unfold Builtin.List.listTooLong
 exact decide_eq_false (by omega)
end
section
variable{X:Cx}
def zYQ:V→List V→Hp→VK→Prop:=fun x vs H Q=> ∃l xs y,x=.ref l∧vs=[y]∧H l=some (.lst xs)∧xs.length<sizeLine∧Q .non (upd H l (.lst (xs++[y])))
theorem yAV:MtM X "list.append" zYQ:=by
 intro pins s σ H x vs v us Q I rx rv h
 obtain⟨l,xs,y,rfl,rfl,hH,hz,q⟩:=h
 cases rx
 obtain⟨u,rfl,ru⟩:=rv.one
 obtain⟨z,its,n,r,hl,e⟩:=I.lstM hH
 refine call_meets F.slot_list_append ⟨_,e,rfl⟩ F.entry_list_append (F.args_list_append_2 _ _) (PySem.list_append l its.toArray n u (by rw [List.size_toArray];omega)) ⟨e,?_⟩
 refine⟨.non,_,I.lset (its':=its++[u]) hH e (by simp) (r.append (.cons ru .nil)) ?_,rfl,q⟩
 rw [List.length_append,List.length_singleton]
 omega
def yDG:V→List V→Hp→VK→Prop:=fun x vs H Q=> ∃l xs i k y,x=.ref l∧vs=[.int i]∧H l=some (.lst xs)∧ -(2 ^ 63)≤i∧i<2 ^ 63∧seqIndex? i xs.length=some k∧xs[k]? =some y∧Q y (upd H l (.lst (xs.eraseIdx k)))
theorem yDH:MtM X "list.pop" yDG:=by
 intro pins s σ H x vs v us Q I rx rv h
 obtain⟨l,xs,i,k,y,rfl,rfl,hH,h1,h2,hk,hy,q⟩:=h
 cases rx
 obtain⟨u,rfl,ru⟩:=rv.one
 obtain⟨t,rfl⟩:=ru
 obtain⟨z,its,n,r,hl,e⟩:=I.lstM hH
 obtain⟨w,hw,rw'⟩:=r.get hy
 refine call_meets F.slot_list_pop ⟨_,e,rfl⟩ F.entry_list_pop (F.args_list_pop_2 _ _)
  (MeetsSeq.list_pop_at l its.toArray n i t k w (fitsIndex_both h1 h2) (by rw [List.size_toArray, ←hl];exact hk) (by rw [←Array.getElem?_toList];exact hw) (by rw [List.size_toArray];omega)) ⟨e,?_⟩
 refine⟨y,_,I.lset (its':=its.eraseIdx k) hH e ?_ (r.eraseIdx k) ?_,rw',q⟩
 ·show its.toArray.eraseIdxIfInBounds k=(its.eraseIdx k).toArray
  rw [List.eraseIdxIfInBounds_toArray]
 ·have:=zQR xs k
  omega
def rCat:R2:=fun x y H Q=> ∃l b xs zs,x=.ref l∧y=.ref b∧H l=some (.lst xs)∧H b=some (.lst zs)∧xs.length+zs.length≤sizeLine∧ ∀p,H p=none→Q (.ref p) (upd H p (.lst (xs++zs)))
theorem yMC:OpR X (binaryOp .Add) rCat:=by
 intro pins s σ H x y v u Q I rx ry h
 obtain⟨l,b,xs,zs,rfl,rfl,hH,hB,hz,q⟩:=h
 cases rx
 cases ry
 obtain⟨z,its,n,r,hl,e⟩:=I.lstM hH
 obtain⟨z2,its2,n2,r2,hl2,e2⟩:=I.lstM hB
 refine PySem.P.add_list e e2 ?_ (by rw [List.size_toArray,List.size_toArray];omega)
 have ea:its.toArray++its2.toArray=(its++its2).toArray:=by simp
 rw [ea]
 exact⟨.ref _,_,I.lnew (t':=s.toks) (r.append r2) (by rw [List.length_append];omega),rfl,q _ I.fresh⟩
def rRep:R2:=fun x y H Q=> ∃l k xs,x=.ref l∧y=.int k∧H l=some (.lst xs)∧ -(2 ^ 63)≤k∧k<2 ^ 63∧xs.length * k.toNat≤sizeLine∧
 ∀p,H p=none→Q (.ref p) (upd H p (.lst (List.replicate k.toNat xs).flatten))
theorem len_rep{α:Type}(xs:List α)(k:Nat):(List.replicate k xs).flatten.length=k * xs.length:=by
 induction k with
 | zero=>simp
 | succ k ih=>rw [List.replicate_succ,List.flatten_cons,List.length_append,ih,Nat.succ_mul,Nat.add_comm]
theorem yMD:OpR X (binaryOp .Mult) rRep:=by
 intro pins s σ H x y v u Q I rx ry h
 obtain⟨l,k,xs,rfl,rfl,hH,h1,h2,hz,q⟩:=h
 cases rx
 obtain⟨t,rfl⟩:=ry
 obtain⟨z,its,n,r,hl,e⟩:=I.lstM hH
 have hlen:its.toArray.size * k.toNat≤sizeLine:=by rw [List.size_toArray, ←hl];exact hz
 have hcap: ¬its.toArray.size * k.toNat>(2 ^ 63 - 1) / 8:=by
  have:(sizeLine:Nat)≤(2 ^ 63 - 1) / 8:=by decide
  omega
 have hfit: ¬(!Builtin.List.listFitsIndex k)=true:=by
  rw [fitsIndex_both h1 h2]
  exact Bool.false_ne_true
 have hlong: ¬Builtin.List.listTooLong (its.toArray.size * k.toNat)=true:=by
  rw [yDF hlen]
  exact Bool.false_ne_true
 have hnew:List.foldl (fun x1 x2=>x1++x2) #[] (List.replicate (if its.toArray.isEmpty=true then 0 else k.toNat) its.toArray)=(List.replicate k.toNat its).flatten.toArray:=by
  have f0: ∀m:Nat,List.foldl (fun x1 x2=>x1++x2) #[] (List.replicate m its.toArray)=(List.replicate m its).flatten.toArray:=fun m=>by
   have:=foldl_rep its m []
   rw [List.nil_append]at this
   exact this
  rw [f0]
  cases its with
  | nil=>simp
  | cons a r'=>rw [if_neg (by simp)]
 refine wpAny_binaryOp_repeat_ref (T:="list") (U:="int") (by decide) ⟨_,e,rfl⟩ (fun s'=>typeIs_int s' k t) noFill_list_mul F.fills_int_mul F.slot_int_rmul repeat_list F.slot_int_index.lookup
  (call_meets F.slot_int_rmul (typeIs_int s k t) F.entry_int_rmul (F.args_int_rmul_2 _ _) (int___rmul___int_list k t l its.toArray n)
   ⟨e,rfl,⟨_,e,rfl⟩,call_meets F.slot_list_mul ⟨_,e,rfl⟩ F.entry_list_mul (F.args_list_mul_2 _ _) (AutoListH.list___mul___list_int_3 l its.toArray n k t hfit hcap hlong) ⟨e,?_⟩⟩)
 rw [hnew]
 exact⟨.ref _,_,I.lnew (t':=s.toks) (r.rep k.toNat) (by rw [len_rep,Nat.mul_comm];exact hz),rfl,q _ I.fresh⟩
end
end L2
namespace Att
open PySem PySem.W PySem.Calls PyProof.Rows
theorem zMH{P:Params}{h:Heap}: ∀(ns:List Int)(vs:List Value),WellAll P h vs (ns.map WData.int)→IntsAre vs ns:=by
 intro ns
 induction ns with
 | nil=>
  intro vs w
  rw [List.map_nil]at w
  cases w
  exact .nil
 | cons n ns ih=>
  intro vs w
  rw [List.map_cons]at w
  cases w with
  | cons a b=>
   cases a
   exact .cons _ _ (ih _ b)
theorem yAW{l:OpenLaw}{n:Nat}(hn:l.most=some n){P:Params}{h:Heap}{args:List WData}{vals:List Value}
  (hpre:l.row.toRowW.claim.pre args=true) (hwl:WellAll P h vals args):
  ∃a vs ns,vals=[Value.ref a]∧args=[WData.list (ns.map WData.int)]∧h.get? a=some {cls:=.type "list",data:=.seq vs.toArray}∧IntsAre vs ns∧ns.length≤n:=by
 have hsh:WShape.hasAll [] args [.list .int]=true:=(pre_splitW hpre).1
 have hc:l.pre.holds [] {args:=args}=true:=(pre_splitW hpre).2
 obtain⟨d,r,rfl,h1,h2⟩:=hasAllW_cons hsh
 obtain rfl:=hasAllW_nil h2
 obtain⟨xs,rfl,h3⟩:=hasW_list h1
 obtain⟨ns,rfl⟩:=items_int h3
 have hlen:ns.length≤n:=by
  unfold OpenLaw.pre at hc
  have h4:(WTm.not (.lt (.lit (.int (n:Int))) (.len (.arg 0)))).holds [] {args:=[.list (ns.map .int)]}=true:=by
   have h4:=(holds_andW hc).1
   rw [hn]at h4
   exact h4
  have h5:=condW_of h4 (w_not (w_lt w_lit (w_len_list (w_arg rfl))))
  rw [List.length_map]at h5
  refine Nat.le_of_not_lt fun q=>?_
  have q':(n:Int)<((ns.length:Nat):Int):=by omega
  first
   | (rw [decide_eq_true q']at h5;exact absurd h5 (by decide))
   | (simp at h5;omega)
 cases hwl with
 | cons w1 w2=>
  cases w2
  cases w1 with
  | list ho hall=>exact⟨_,_,ns,rfl,rfl,ho,zMH ns _ hall,hlen⟩
theorem yAX(l:OpenLaw)(args:List WData):l.row.toRowW.claim.post args (.bool true) args=true:=
 postW_of (r:=l.row.toRowW) (X:=(true==true))
  (show WShape.has [] (.bool true) .bool=true by first | rfl | decide | simp [WShape.has,WShape.arms,WShape.armsAll])
  (show(WTm.eq .res (.lit (.bool true))).value [] {args:=args,res:=some (.bool true),after:=args}=some (.bool (true==true))from w_eq_bool (w_res rfl) w_lit) rfl
theorem attach_call{l:OpenLaw}{n:Nat}{q:Program}{loose:List Str}{XP:(Str→Option Value)→Heap→Prop}{YP:World→Heap→Prop}{d:DefRec}
  (hn:l.most=some n) (hdf:d.params.defaults=[])
  (call: ∀(w:World)(s₀ s₁:Shared)(mg mb:Str→Option Value)(fa:Addr)(o:Obj)(pm cd doc:Value)(a:Addr)(vs:List Value)(ns:List Int),
   Ground q loose [] XP w s₀ mg mb s₁.heap→YP w s₁.heap→
   s₁.heap.get? fa=some o→o.data=.func (docDef d.name d.params d.body d.scope pm cd doc)→s₁.heap.CodeRec cd d.name→mg d.name=some (.ref fa)→
   s₁.heap.get? a=some {cls:=.type "list",data:=.seq vs.toArray}→IntsAre vs ns→ns.length≤n→s₁.gens=#[]→
   codeAny (model l.prog w) callerA (.call (.ref fa) ⟨[.ref a],[]⟩) (fun r s'=>r=.ok (.ret (.bool true))∧OldK s₁.heap s'.heap∧s'.os=s₁.os∧AllBare s'.gens) s₁):
  WalkO q loose XP YP l.row.toRowW d [] (fun f vs=>PySem.call f vs):=by
 intro w s₀ s₁ mg mb G Y fa o pm cd doc dV kV ho hd hcd hD hmg hg args vals as hpre hlay hrd hwl hlo
 obtain rfl:dV=.none:=Dflts.none hD hdf
 obtain rfl:kV=.none:=Dflts.noKw hD
 obtain⟨a,vs,ns,rfl,rfl,hobj,hints,hlen⟩:=yAW hn hpre hwl
 refine enter_call (codeAny_mono (call w s₀ s₁ mg mb fa o pm cd doc a vs ns G Y ho (fd_plain hd) hcd hmg hobj hints hlen hg) fun r s' hq=>?_)
 obtain⟨rfl,h2,h3,h4⟩:=hq
 exact⟨.inl ⟨.bool true,.bool true,[],rfl,fun _=>rfl,.bool true,yAX l _,fun _=>⟨List.Pairwise.nil,fun _ hm=>(nomatch hm)⟩⟩,h2,h3,h4⟩
end Att
namespace L2
open PySem PySem.Spec PyProof.Rows
theorem zQS: ∀{vs:List Value}{ns:List Int},IntsAre vs ns→Vals (ns.map V.int) vs
 | _,_,.nil=>.nil
 | _,_,.cons n t h=>.cons ⟨t,rfl⟩ (zQS h)
def Only(H:Hp):Prop:= ∀b,H b=none∨ ∃o xs,H b=some (.frz o (.lst xs))
theorem yDI{P:Program}{w:World}{K:PySem.W.Frag}{mg mb:Str→Option Value}{CX:CXT}{k:Nat}{fa a:Addr}{fd:FuncData}{x:Str}{sp:Sp}{s₁:Shared}{vs:List Value}{ns:List Int}
  (KX:K.In s₁.heap) (hns:s₁.heap.Ns mainGlobals mg) (hb:s₁.heap.Ns builtinsNs mb) (hbb: ∀x:Str,x≠"__name__"→mb x=bootBuiltins x) (hlim:s₁.heap.NoLimit) (hg:s₁.gens=#[])
  (ha:s₁.heap.get? a=some {cls:=.type "list",data:=.seq vs.toArray}) (hi:IntsAre vs ns) (hl:ns.length≤sizeLine) (hr:Room k callerA)
  (F: ∀base:Heap,K.In base→base.Ns mainGlobals mg→FnOk P w K mg base CX k fa fd [x] sp) (hbind: ∀(s:Shared)(u:Value),BindsTo s fd ⟨[u],[]⟩ [(x,u)])
  (hsp: ∀H:Hp,Only H→SqL K H a (ns.map V.int)→sp [.ref a] H (fun v _=>v=.bl true) fun _ _ _=>False)
  (hCX: ∀H e s',CX [] H s₁ (fun _ _ _=>False) e s'→False):
  codeAny (model P w) callerA (.call (.ref fa) ⟨[.ref a],[]⟩) (fun r s'=>r=.ok (.ret (.bool true))∧OldK s₁.heap s'.heap∧s'.os=s₁.os∧AllBare s'.gens) s₁:=by
 have rv:=zQS hi
 have lenV:=hi.length
 have core: ∀H:Hp,Only H→SqL K H a (ns.map V.int)→HOk P w H s₁.heap→(∀b,H b≠none→b=a)→(H a≠none→K.lookup a=none)→
   codeAny (model P w) callerA (.call (.ref fa) ⟨[.ref a],[]⟩) (fun r s'=>r=.ok (.ret (.bool true))∧OldK s₁.heap s'.heap∧s'.os=s₁.os∧AllBare s'.gens) s₁:=by
  intro H hO hS hok hA hK
  have base_of: ∀{b:Addr}{o:Obj},s₁.heap.get? b=some o→H b=none→(zRN s₁.heap H).get? b=some o:=fun e n=>yCQ e n
  have noA: ∀{b:Addr}{o:Obj}{es:Array DictEntry}{ep:Nat},s₁.heap.get? b=some o→o.data=.dict es ep→H b=none:=fun {b o es ep} e d=>by
   cases q:H b with
   | none=>rfl
   | some u=>
    have e':b=a:=hA b (by rw [q];simp)
    subst e'
    rw [ha]at e;cases e
    have d':Data.seq vs.toArray _=Data.dict es ep:=d
    cases d'
  have nsK: ∀{b:Addr}{m:Str→Option Value},s₁.heap.Ns b m→(zRN s₁.heap H).Ns b m:=fun {b m} ⟨o,es,ep,e,d,r⟩=>⟨o,es,ep,base_of e (noA e d),d,r⟩
  have hKb:K.In (zRN s₁.heap H):=fun b o e=>base_of (KX b o e) (by
   cases q:H b with
   | none=>rfl
   | some u=>
    have e':b=a:=hA b (by rw [q];simp)
    subst e'
    rw [hK (by rw [q];simp)]at e;cases e)
  have hM:Mod K mg (zRN s₁.heap H):=⟨hKb,nsK hns,⟨mb,nsK hb,hbb⟩,let ⟨mc,h1,h2⟩:=hlim;⟨mc,nsK h1,h2⟩⟩
  have e0:Env0 P w K mg (zRN s₁.heap H) callerA [] s₁ H:=⟨rfl,hM,fun b o e=>yGT e,Nat.le_of_eq (yAP _ _),trivial,fun b hb=>absurd (show b∈([]:List Addr)from hb) (by simp),hok,.of_eq hg⟩
  refine codeAny_mono ((F _ hKb (nsK hns)).run callerA [] s₁ H ⟨[.ref a],[]⟩ [.ref a] [.ref a] _ _ hr e0 (hbind s₁ (.ref a)) (.cons rfl .nil) (hsp H hO hS)) fun r s' h=>?_
  cases r with
  | error e=>exact(hCX H e s' h).elim
  | ok fl=>
   cases fl with
   | next=>exact False.elim h
   | brk=>exact False.elim h
   | cont=>exact False.elim h
   | ret u=>
    obtain⟨v,H',os,bare,un,hok',r',q⟩:=h
    have q':v=.bl true:=q
    subst q'
    obtain rfl:u=Value.bool true:=r'
    refine⟨rfl,OldK.of_keep fun b o e=>?_,os,bare⟩
    cases q:H b with
    | none=>exact un.keep b o e q (by intro z;exact absurd (show b∈([]:List Addr)from z) (by simp)) (by simp)
    | some u=>
     rcases hO b with z | ⟨ob,xs,z⟩
     ·rw [q]at z;cases z
     ·have z2:=un.frzs b ob _ z
      obtain⟨e1,_⟩:=hok b _ z
      obtain⟨e2,_⟩:=hok' b _ z2
      rw [e]at e1;cases e1
      exact e2
 cases hk:K.lookup a with
 | some o=>
  have e:=KX a o hk
  rw [ha]at e
  cases e
  refine core (fun _=>none) (fun _=>.inl rfl) (.inr ⟨_,vs.toArray,_,hk,rfl,rfl,rfl,by rw [List.size_toArray,lenV];exact hl,by simpa using rv⟩) (fun b u z=>by have z':(none:Option HO)=some u:=z;cases z') (fun b z=>absurd rfl z) fun z=>absurd rfl z
 | none=>
  refine core (fun b=>if b=a then some (.frz {cls:=.type "list",data:=.seq vs.toArray} (.lst (ns.map V.int)))else none) (fun b=>?_) (.inl (.inr ⟨{cls:=.type "list",data:=.seq vs.toArray},if_pos rfl⟩)) (fun b u z=>?_) (fun b z=>?_) fun _=>hk
  ·by_cases hb:b=a
   ·exact .inr ⟨_,_,if_pos hb⟩
   ·exact .inl (if_neg hb)
  ·by_cases hb:b=a
   ·have z':=(if_pos hb).symm.trans z
    cases z'
    subst hb
    exact⟨ha,by rw [List.length_map];exact hl,vs,_,rv,ha⟩
   ·have z':=(if_neg hb).symm.trans z
    cases z'
  ·by_cases hb:b=a
   ·exact hb
   ·exact absurd (if_neg hb) z
end L2
namespace L2
open PySem PySem.Spec PyProof.Rows
theorem walk_of{l:PySem.W.OpenLaw}{n k:Nat}{q:Program}{loose:List Str}{XP:(Str→Option Value)→Heap→Prop}{YP:World→Heap→Prop}{d:DefRec}{K:Params→PySem.W.Frag}{CX:World→CXT}{sp:World→Sp}{x:Str}
  (hn:l.most=some n) (hn2:n≤sizeLine) (hdf:d.params.defaults=[]) (hr:Room k callerA)
  (hY: ∀(w:World)(h:Heap),YP w h→(K w.params).In h)
  (F: ∀(w:World)(mg:Str→Option Value)(fa:Addr)(h:Heap),(K w.params).In h→h.Ns mainGlobals mg→mg d.name=some (.ref fa)→
   ∃fd:FuncData,(∀(s:Shared)(u:Value),BindsTo s fd ⟨[u],[]⟩ [(x,u)])∧
    ∀base:Heap,(K w.params).In base→base.Ns mainGlobals mg→FnOk l.prog w (K w.params) mg base (CX w) k fa fd [x] (sp w))
  (hsp: ∀(w:World)(H:Hp)(a:Addr)(ns:List Int),ns.length≤n→Only H→SqL (K w.params) H a (ns.map V.int)→sp w [.ref a] H (fun v _=>v=.bl true) fun _ _ _=>False)
  (hCX: ∀(w:World)(H:Hp)(s:Shared)(e:Value)(s':Shared),CX w [] H s (fun _ _ _=>False) e s'→False):
  PySem.W.WalkO q loose XP YP l.row.toRowW d [] (fun f vs=>PySem.call f vs):=by
 refine Att.attach_call hn hdf fun w s₀ s₁ mg mb fa o pm cd doc a vs ns G Y ho hd hcd hmg hobj hints hlen hg=>?_
 have KX:=hY w _ Y
 obtain⟨fd,hb,hF⟩:=F w mg fa _ KX G.T.g hmg
 exact yDI KX G.T.g G.T.b G.T.builtins G.T.nolimit hg hobj hints (Nat.le_trans hlen hn2) hr hF hb (fun H hO hS=>hsp w H a ns hlen hO hS) fun H e s'=>hCX w H s₁ e s'
end L2
namespace L2
open PySem PySem.Spec PyProof.Rows
def inClass(s:Stmt)(j:Nat):Stmt:=match s with
 | .ClassDef _ _ _ body _ _ _ _ _ _ _=>body.getD j (.Pass ⟨0,0,0,0⟩)
 | _=>.Pass ⟨0,0,0,0⟩
def zBV(s:Stmt):Arguments:=match s with
 | .FunctionDef _ a _ _ _ _ _ _ _ _=>a
 | _=>{posonlyargs:=[],args:=[],vararg:=none,kwonlyargs:=[],kw_defaults:=[],kwarg:=none,defaults:=[]}
def jR(s:Stmt):List Stmt:=match s with
 | .FunctionDef _ _ b _ _ _ _ _ _ _=>b
 | _=>[]
def zK(s:Stmt):Scope:=match s with
 | .FunctionDef _ _ _ _ _ _ sc _ _ _=>sc
 | _=>{kind:=.function,names:=[],isGenerator:=false,isCoroutine:=false}
abbrev CX0:CXT:=fun _ _ _ _ _ _=>False
abbrev E0:XK:=fun _ _ _=>False
theorem pass0{X:Cx}:zRP CX0 X E0:=fun _ _ _ _ _ _ _ h=>h.elim
structure Fun(K:PySem.W.Frag)(x qual:Str)(st:Stmt)(f:Addr)(fd:FuncData):Prop where
 ex: ∃(oc:Value)(od:Option Addr)(kV doc pm:Value)(an:Option Addr)(cdv ct:Value)(osl:Array (Option Value)),
  fd=PySem.W.fnOf x qual (zBV st) (jR st) (zK st) .none kV doc pm an cdv ct∧K.lookup f=some ⟨oc,od,.func fd,osl⟩∧PySem.W.codeIn K cdv qual=true
 kp:PySem.W.keepIn K (.ref f)=true
section
variable{P:Program}{w:World}{K:PySem.W.Frag}{mg:Str→Option Value}{base:Heap}
theorem Fun.ok{x qual:Str}{st:Stmt}{f:Addr}{fd:FuncData}{N ps:List Str}{k:Nat}{sp:Sp}(F:Fun K x qual st f fd)(S:FnScope N ps (zK st))(len: ∀vs H Q E,sp vs H Q E→vs.length=ps.length)
  (hbody: ∀(cdv:Value)(A:Around)(outer:List Env)(s:Shared)(H:Hp)(vs:List V)(Q:VK)(E:XK),Room k (A.deeper (envOfC qual (zK st) s.heap.objs.size f cdv))→sp vs H Q E→
   ∃t,PSs (zRQ CX0 P w K mg base N qual (zK st) f cdv A outer s H E).nox (jR st) t∧t {nx:=fun _ H'=>Q .non H',rt:=Q} (start N vs) H):FnOk P w K mg base CX0 (k+1) f fd ps sp:=by
 obtain⟨oc,od,kV,doc,pm,an,cdv,ct,osl,rfl,lk,hcd⟩:=F.ex
 refine yKB lk hcd S len fun A outer s H vs Q E hr hsp=>?_
 obtain⟨t,h,q⟩:=hbody cdv A outer s H vs Q E hr hsp
 exact⟨t,h.nox,q⟩
theorem Fun.binds{x qual:Str}{st:Stmt}{f:Addr}{fd:FuncData}{ps:List Str}(F:Fun K x qual st f fd)
  (h: ∀(kV doc pm:Value)(an:Option Addr)(cdv ct:Value)(us:List Value),us.length=ps.length→bindArgs (PySem.W.fnOf x qual (zBV st) (jR st) (zK st) .none kV doc pm an cdv ct) ⟨us,[]⟩=pure (ps.zip us)):Binds K fd ps []:=by
 obtain⟨oc,od,kV,doc,pm,an,cdv,ct,osl,rfl,lk,hcd⟩:=F.ex
 exact .all (h kV doc pm an cdv ct)
theorem yDJ{x qual:Str}{st:Stmt}{f:Addr}{oc:Value}{od an:Option Addr}{osl:Array (Option Value)}{kV doc pm cdv ct:Value}(l:K.lookup f=some ⟨oc,od,.func (PySem.W.fnOf x qual (zBV st) (jR st) (zK st) .none kV doc pm an cdv ct),osl⟩)
  (c:PySem.W.codeIn K cdv qual=true) (k:PySem.W.keepIn K (.ref f)=true):Fun K x qual st f (PySem.W.fnOf x qual (zBV st) (jR st) (zK st) .none kV doc pm an cdv ct):=⟨⟨oc,od,kV,doc,pm,an,cdv,ct,osl,rfl,l,c⟩,k⟩
end
section
variable{X:Cx}
theorem pv(i:Nat){x:Str}{pos:Pos}(hN:X.N[i]? =some x:=by rfl)(hv:Vis X.env.scope x:=by first | exact Or.inl rfl | exact Or.inr (Or.inl rfl) | exact Or.inr (Or.inr rfl))(hd:(x==("__debug__":Str))=false:=by decide)
  (hcd:(x==("__classdict__":Str))=false:=by decide):PE X (.Name x pos) (tVar i):=zNJ hN hv hd hcd
end
end L2
set_option maxHeartbeats 4000000
namespace L2
open PySem PySem.Spec PyProof.Rows
def zBW(env:Env)(l:List (Str×NameKind))(cs:List (Str×Addr)):List (Str×Addr):=
 l.foldl (fun c y=>if y.2==.free then(y.1,(env.cells.lookup y.1).getD 0)::c else c) cs
theorem zRX{α β:Type}{l:List α}{f:α→β→Sem (ForInStep β)}{g:β→α→β}: ∀(c:β),(∀x∈l, ∀c,f x c=pure (.yield (g c x)))→
  forIn l c f=pure (l.foldl g c):=by
 induction l with
 | nil=>intro c _;rfl
 | cons x l ih=>
  intro c h
  rw [List.forIn_cons,h x List.mem_cons_self,pure_bind]
  exact ih _ fun y hy=>h y (List.mem_cons_of_mem _ hy)
theorem zHU{scope:Scope}{env:Env}(h: ∀y∈scope.names,y.2=.free→ ∃c,env.cells.lookup y.1=some c):closureFor scope env=pure (zBW env scope.names []):=by
 unfold closureFor zBW
 dsimp only
 rw [zRX (g:=fun c y=>if y.2==.free then(y.1,(env.cells.lookup y.1).getD 0)::c else c) [] ?_]
 ·rfl
 ·intro y hy c
  obtain⟨n,k⟩:=y
  by_cases hk:k=.free
  ·subst hk
   obtain⟨a,ha⟩:=h _ hy rfl
   have ha':env.cells.lookup n=some a:=ha
   simp [cellOf,ha']
  ·have e:(k==NameKind.free)=false:=by simpa using hk
   simp [e]
theorem zLV{env:Env}: ∀(l:List (Str×NameKind))(cs:List (Str×Addr)),(∀y∈l,y.2=.free→ ∃c,env.cells.lookup y.1=some c)→(∀p∈cs,env.cells.lookup p.1=some p.2)→
  ∀p∈zBW env l cs,env.cells.lookup p.1=some p.2
 | [],_,_,h=>h
 | (n,k)::l,cs,hl,h=>by
  refine zLV l _ (fun y hy=>hl y (List.mem_cons_of_mem _ hy)) fun p hp=>?_
  by_cases hk:k=.free
  ·subst hk
   obtain⟨c,hc⟩:=hl _ List.mem_cons_self rfl
   have hc':env.cells.lookup n=some c:=hc
   have hp':p∈(n,(env.cells.lookup n).getD 0)::cs:=hp
   rcases List.mem_cons.mp hp' with rfl | hp
   ·show env.cells.lookup n=some ((env.cells.lookup n).getD 0)
    rw [hc'];rfl
   ·exact h p hp
  ·have hp':p∈(if(k==NameKind.free)=true then(n,(env.cells.lookup n).getD 0)::cs else cs):=hp
   rw [if_neg (by simpa using hk)]at hp'
   exact h p hp'
theorem zNO{env:Env}: ∀(l:List (Str×NameKind))(cs:List (Str×Addr))(p:Str×Addr),p∈cs→p∈zBW env l cs
 | [],_,_,h=>h
 | (n,k)::l,cs,p,h=>by
  refine zNO l _ p ?_
  show p∈(if(k==.free)=true then(n,(env.cells.lookup n).getD 0)::cs else cs)
  split
  ·exact List.mem_cons_of_mem _ h
  ·exact h
theorem zFM{env:Env}: ∀(l:List (Str×NameKind))(cs:List (Str×Addr))(n:Str),(n,NameKind.free)∈l→ ∃c,(n,c)∈zBW env l cs
 | [],_,_,h=>nomatch h
 | (m,k)::l,cs,n,h=>by
  rcases List.mem_cons.mp h with e | h
  ·have e1:n=m:=congrArg Prod.fst e
   have e2:NameKind.free=k:=congrArg Prod.snd e
   subst e1 e2
   exact⟨(env.cells.lookup n).getD 0,zNO l _ _ List.mem_cons_self⟩
  ·exact zFM l _ n h
theorem zCF{β:Type}: ∀{l:List (Str×β)}{n:Str},(∃c,(n,c)∈l)→ ∃c,l.lookup n=some c
 | [],_,h=>let ⟨_,z⟩:=h;nomatch z
 | (m,b)::l,n,h=>by
  by_cases e:n=m
  ·subst e
   exact⟨b,by simp [List.lookup_cons]⟩
  ·obtain⟨c,hc⟩:=h
   rcases List.mem_cons.mp hc with z | z
   ·cases z;exact absurd rfl e
   ·obtain⟨c',h'⟩:=zCF ⟨c,z⟩
    refine⟨c',?_⟩
    have e':(n==m)=false:=by simpa using e
    simp [List.lookup_cons,e',h']
def zQA(scope osc:Scope):List (Str×NameKind):=scope.names.map fun(n,k)=>if(k==.free&&osc.kind==.function&&osc.names.lookup n==some .cell)then(n,.cell)else(n,k)
def zLW(osc:Scope)(N:List Str)(sc:Scope)(idx:List Nat):Bool:=
 decide (sc.kind=.function)&&sc.names.all (fun y=>decide (y.2≠.cell))&&sc.names.all (fun y=>decide (y.2≠.local) || decide (sc.names.lookup y.1=some .local))&&
 sc.names.all (fun y=>decide (y.2≠.free) || decide (osc.names.lookup y.1=some .cell) || decide (osc.names.lookup y.1=some .free))&&
 idx.all (fun i=>match N[i]? with
  | some y=>(decide (osc.names.lookup y=some .cell) || decide (osc.names.lookup y=some .free))&&(decide ((zQA sc osc).lookup y=some .cell) || decide ((zQA sc osc).lookup y=some .free))
  | none=>false)
def zFN(σ:St)(idx:List Nat):St:=idx.map fun i=>(σ[i]?).join
theorem zBX(σ:St)(idx:List Nat):(zFN σ idx).length=idx.length:=by unfold zFN;rw [List.length_map]
def zY(X:Cx)(sc:Scope)(T:List Str)(idx:List Nat)(C:Addr)(s₂:Shared)(H1:Hp)(fp:List Addr):Cx where
 prog:=X.prog
 w:=X.w
 K:=X.K
 mg:=X.mg
 base:=X.base
 A:=X.A
 N:=T++idx.map fun i=>(X.N[i]?).getD Str.empty
 s₀:=s₂
 H₀:=H1
 env:=compEnvC sc (zBW X.env sc.names []) C X.env
 outer:=X.stack
 stack:=X.stack
 ex:=fp
 fn:=fun _=>false
 calm:=X.calm
 pn:=[]
 xe:=fun _ _=>False
def yDK(wi:TI)(g:TG)(tc:Addr→Shared→Hp→List Addr→TT)(te:Addr→Shared→Hp→List Addr→TE)(nt:Nat)(idx:List Nat):TE:=fun σ H Q=>wi σ H fun J H1=> ∃W:Nat→Nat→List V→Hp→Prop,(∃m,W 0 m [] H1)∧ ∀i m ys H2,W i m ys H2→ys.length≤sizeLine∧
 ((J.stop i H2∧ ∀D,H2 D=none→Q (.ref D) (upd H2 D (.lst ys)))∨
   (J.go i H2∧ys.length<sizeLine∧ ∀x H3,J.yld i H2 x H3→ ∀τ:St,τ.length=nt→g x (τ++zFN σ idx) H3 fun σ4 H4=>(∃τ',σ4=τ'++zFN σ idx∧τ'.length=nt)∧
    ∀C s₂ fp,tc C s₂ H1 fp σ4 H4 fun b H5=>if b=true then te C s₂ H1 fp σ4 H5 fun y H6=> ∃m',m'<m∧W (i+1) m' (ys++[y]) H6 else∃m',m'<m∧W (i+1) m' ys H5))
section
variable{prog:Program}{w:World}{A:Around}{R:Result→Shared→Prop}{s:Shared}
theorem zJH{elt target iter:Expr}{ifs:List Expr}{scope:Scope}{pos:Pos}{it acc:Value}{env:Env}(I:Nat→Shared→Prop)
  (turn: ∀n s,I n s→wpAny (model prog w) A (pyNext it) (fun r s₁=>match r with
   | none=>R (.ok .next) s₁
   | some v=>wpAny (model prog w) A (letOwnedTupleGo target it v) (fun _ s₁'=>wpAny (model prog w) A (assign target env v) (fun _ s₂=>
     wpAny (model prog w) A (forIn ifs true fun c r=>if r=true then do let ok ←isTrue c env (eval c env);pure (ForInStep.yield ok)else pure (ForInStep.yield r)) (fun ok s₃=>
      if ok=true then wpAny (model prog w) A (eval elt env) (fun x s₄=>
       wpAny (model prog w) A (call (.builtin "list.append") [acc,x]) (fun _ s₅=> ∃m,m<n∧I m s₅) (fun _ _=>False) s₄) (fun _ _=>False) s₃
      else∃m,m<n∧I m s₃) (fun _ _=>False) s₂) (fun _ _=>False) s₁') (fun _ _=>False) s₁) (fun _ _=>False) s)
  (n:Nat) (h:I n s):codeAny (model prog w) A (.compLoop (.ListComp elt [⟨target,iter,ifs,0⟩] scope pos) 0 it acc env) R s:=by
 refine codeAny_loop rfl I (fun n s hI=>?_) n h
 show wpAny _ A ((compTurn (.ListComp elt [⟨target,iter,ifs,0⟩] scope pos) 0 it acc env).onRaise (fun x=>do noteFrame x env;theTreesLotGoes x)) _ _ s
 refine wpAny_noted ?_
 rw [compTurn_list]
 have no: ∀{E':Value→Shared→Prop}(v:Value)(s':Shared),False→E' v s':=fun _ _ z=>z.elim
 refine wpAny_bind (wpAny_standAt (wpAny_bind (wpAny_mono (turn n s hI) (fun r s₁ h₁=>?_) (no))))
 cases r with
 | none=>exact wpAny_pure h₁
 | some v=>
  refine wpAny_bind (wpAny_mono h₁ (fun _ s₁' h₁'=>wpAny_bind (wpAny_mono h₁' (fun _ s₂ h₂=>wpAny_bind (wpAny_mono h₂ (fun ok s₃ h₃=>?_) no)) no)) no)
  cases ok with
  | false=>exact wpAny_pure ⟨rfl,h₃⟩
  | true=>
   exact wpAny_bind (wpAny_bind (wpAny_mono h₃ (fun x s₄ h₄=>wpAny_bind (wpAny_mono h₄ (fun _ s₅ h₅=>wpAny_pure (wpAny_pure ⟨rfl,h₅⟩)) no)) no))
end
def yAY(X:Cx)(ifs:List Expr)(t:TT):Prop:=
 ∀(pins:List (Addr×Obj))(s:Shared)(σ:St)(H:Hp)(Q:Bool→Hp→Prop),Inv X pins σ H s→t σ H Q→
  wpAny (model X.prog X.w) X.A (forIn ifs true fun c r=>if r=true then do let ok ←isTrue c X.env (eval c X.env);pure (ForInStep.yield ok)else pure (ForInStep.yield r)) (TP X pins σ Q) X.xe s
def tNoIf:TT:=fun _ H Q=>Q true H
theorem yDL{X:Cx}:yAY X [] tNoIf:=fun _ _ _ H _ I h=>wpAny_tests_nil ⟨H,I,h⟩
theorem yDM{X:Cx}{c:Expr}{t:TT}(h:PT X c t):yAY X [c] t:=fun pins s σ H Q I q=>wpAny_tests_one (h pins s σ H Q I q)
end L2
namespace L2
open PySem PySem.Spec PyProof.Rows
structure CompF(osc:Scope)(N:List Str)(sc:Scope)(idx:List Nat):Prop where
 kind:sc.kind=.function
 nocell: ∀y∈sc.names,y.2≠.cell
 locs: ∀y∈sc.names,y.2=.local→sc.names.lookup y.1=some .local
 frees: ∀y∈sc.names,y.2=.free→osc.names.lookup y.1=some .cell∨osc.names.lookup y.1=some .free
 cap: ∀i∈idx, ∃y,N[i]? =some y∧(osc.names.lookup y=some .cell∨osc.names.lookup y=some .free)∧((zQA sc osc).lookup y=some .cell∨(zQA sc osc).lookup y=some .free)
theorem zYR{osc:Scope}{N:List Str}{sc:Scope}{idx:List Nat}(h:zLW osc N sc idx=true):CompF osc N sc idx:=by
 unfold zLW at h
 simp only [Bool.and_eq_true,List.all_eq_true,decide_eq_true_eq,Bool.or_eq_true]at h
 obtain⟨⟨⟨⟨h1,h2⟩,h3⟩,h4⟩,h5⟩:=h
 refine⟨h1,fun y hy=>h2 y hy,fun y hy e=>?_,fun y hy e=>?_,fun i hi=>?_⟩
 ·rcases h3 y hy with z | z
  ·exact absurd e z
  ·exact z
 ·rcases h4 y hy with(z | z) | z
  ·exact absurd e z
  ·exact .inl z
  ·exact .inr z
 ·have q:=h5 i hi
  cases e:N[i]? with
  | none=>rw [e]at q;cases q
  | some y=>
   rw [e]at q
   simp only [Bool.and_eq_true,decide_eq_true_eq,Bool.or_eq_true]at q
   exact⟨y,rfl,q.1,q.2⟩
theorem zQT{sc osc:Scope}{x:Str}(hno: ∀y∈sc.names,y.2≠.cell)(h:(zQA sc osc).lookup x=some .cell∨(zQA sc osc).lookup x=some .free):(x,NameKind.free)∈sc.names:=by
 have key: ∀k',(k'=.cell∨k'=.free)→(x,k')∈zQA sc osc→(x,NameKind.free)∈sc.names:=by
  intro k' hk' hm
  unfold zQA at hm
  obtain⟨⟨n,k⟩,hy,e⟩:=List.mem_map.mp hm
  dsimp only at e
  split at e
  ·rename_i hc
   cases e
   rw [Bool.and_eq_true,Bool.and_eq_true]at hc
   have:k=.free:=by simpa using hc.1.1
   subst this
   exact hy
  ·cases e
   rcases hk' with rfl | rfl
   ·exact absurd rfl (hno _ hy)
   ·exact hy
 rcases h with h | h
 ·exact key _ (.inl rfl) (PySem.mem_of_lookup h)
 ·exact key _ (.inr rfl) (PySem.mem_of_lookup h)
section
variable{X:Cx}{pins:List (Addr×Obj)}{σ:St}{H1:Hp}{s₂:Shared}{sc:Scope}{T:List Str}{idx:List Nat}{C:Addr}{fp:List Addr}
theorem zNP(I:Inv X pins σ H1 s₂)(F:CompF X.env.scope X.N sc idx): ∀y∈sc.names,y.2=.free→ ∃c,X.env.cells.lookup y.1=some c:=
 fun y hy e=>I.ok.has y.1 (F.frees y hy e)
theorem kL(I:Inv X pins σ H1 s₂)(F:CompF X.env.scope X.N sc idx){x:Str}{c:Addr}(e:(zBW X.env sc.names []).lookup x=some c):X.env.cells.lookup x=some c:=
 zLV sc.names [] (zNP I F) (fun _ z=>nomatch z) (x,c) (PySem.mem_of_lookup e)
theorem yHK(I:Inv X pins σ H1 s₂)(F:CompF X.env.scope X.N sc idx){x:Str}{c:Addr}(hx:(x,NameKind.free)∈sc.names)(e:X.env.cells.lookup x=some c):(zBW X.env sc.names []).lookup x=some c:=by
 obtain⟨c',h'⟩:=zCF (zFM (env:=X.env) sc.names [] x hx)
 rw [h']
 rw [kL I F h']at e
 exact e
theorem yAZ(I:Inv X pins σ H1 s₂)(F:CompF X.env.scope X.N sc idx)(hC:s₂.heap.objs.size≤C)(hfp: ∀b∈fp,zJE X pins H1 b)(hlt: ∀b∈fp,b<s₂.heap.objs.size):(zY X sc T idx C s₂ H1 fp).Ok where
 mod:=I.ok.mod
 kind:=F.kind
 glob:=I.ok.glob
 blt:=I.ok.blt
 above:=hC
 inj:=fun x y c h1 h2=>I.ok.inj x y c (kL I F h1) (kL I F h2)
 has:=fun x hx=>by
  have hx':(zQA sc X.env.scope).lookup x=some .cell∨(zQA sc X.env.scope).lookup x=some .free:=hx
  exact zCF (zFM sc.names [] x (zQT F.nocell hx'))
 cab:=fun x c h _=>nomatch h
 hd:=I.ok.hd
 frames:=I.ok.frames
 stk:=.inl rfl
 exf:=fun b hb=>⟨Nat.ne_of_lt (Nat.lt_of_lt_of_le (hlt b hb) hC),fun x c e=>(hfp b hb).2.2.2.2.1 x c (kL I F e)⟩
 bs:=I.bs
 bsz:=Nat.le_trans I.ok.bsz I.sz
 noex:=fun b o e hb=>by
  rcases (hfp b hb).2.2.2.1 with z | z
  ·exact I.ok.noex b o e z
  ·exact absurd (Nat.lt_of_lt_of_le (Heap.lt_size e) (Nat.le_trans I.ok.bsz z)) (Nat.lt_irrefl _)
 exfs:=fun b hb z=>by
  rcases List.mem_cons.mp (I.stkSub b z)with e | e
  ·exact(hfp b hb).2.1 e
  ·exact(hfp b hb).2.2.1 e
 funs:=I.stack
 frf:=I.stkFree
theorem zNQ{s₄:Shared}{m:Str→Option Value}(I:Inv X pins σ H1 s₂)(F:CompF X.env.scope X.N sc idx)(hC:s₂.heap.objs.size≤C)(hfp: ∀b∈fp,zJE X pins H1 b)(hlt: ∀b∈fp,b<s₂.heap.objs.size)
  (kp: ∀b o,s₂.heap.get? b=some o→s₄.heap.get? b=some o) (ho:s₄.os=s₂.os) (hg:s₄.gens=s₂.gens) (hn:s₄.heap.Ns C m):
  Inv (zY X sc T idx C s₂ H1 fp) [] (T.map (fun _=>none)++zFN σ idx) H1 s₄:=by
 have cellK: ∀c v,s₂.heap.IsCell c v→s₄.heap.IsCell c v:=fun c v ⟨o,h1,h2⟩=>⟨o,kp c o h1,h2⟩
 refine⟨yAZ I F hC hfp hlt,ho,by rw [hg];exact I.bare,Un.kept kp,⟨m,hn,fun i x v e1 e2 e3=>?_⟩,fun x c e=>?_,I.hok.fresh hC,fun x c e=>I.freeC x c (kL I F e),fun p hp=>absurd (show p∈([]:List (Addr×Obj))from hp) (by simp),I.hok.kept kp,?_⟩
 ·have e1':(T++idx.map fun i=>(X.N[i]?).getD Str.empty)[i]? =some x:=e1
  by_cases hi:i<T.length
  ·rw [List.getElem?_append_left (by simpa using hi),List.getElem?_map]at e2
   cases z:T[i]? with
   | none=>rw [z]at e2;cases e2
   | some y=>rw [z]at e2;cases e2
  ·rw [List.getElem?_append_right (by simpa using hi)]at e2
   rw [List.getElem?_append_right (by omega)]at e1'
   rw [List.length_map]at e2
   unfold zFN at e2
   rw [List.getElem?_map]at e1' e2
   cases z:idx[i - T.length]? with
   | none=>rw [z]at e2;cases e2
   | some j=>
    rw [z]at e1' e2
    have hj:j∈idx:=List.mem_of_getElem? z
    obtain⟨y,hy,k1,k2⟩:=F.cap j hj
    have ex:y=x:=by
     have q:(X.N[j]?).getD Str.empty=x:=Option.some.inj e1'
     rw [hy]at q;exact q
    subst ex
    have ev:σ[j]? =some (some v):=by
     have q:(σ[j]?).join=some v:=Option.some.inj e2
     cases w':σ[j]? with
     | none=>rw [w']at q;cases q
     | some a=>rw [w']at q;have q':a=some v:=q;rw [q']
    obtain⟨m0,hn0,hl0⟩:=I.loc
    have vis:Vis X.env.scope y:=k1.elim (fun z=>.inr (.inl z)) fun z=>.inr (.inr z)
    obtain⟨u,r,l⟩:=hl0 j y v hy ev vis
    refine⟨u,r,?_⟩
    rcases l with⟨kl,_⟩ | ⟨_,c,hc,q⟩
    ·have kl':X.env.scope.names.lookup y=some .local:=kl
     rcases k1 with z | z<;>rw [z]at kl'<;>cases kl'
    ·exact .inr ⟨k2,c,yHK I F (zQT F.nocell k2) hc,cellK c _ q⟩
 ·obtain⟨v,q⟩:=I.cell x c (kL I F e)
  exact⟨v,cellK c v q⟩
 ·show(T.map (fun _=>(none:Option V))++zFN σ idx).length=(T++idx.map fun i=>(X.N[i]?).getD Str.empty).length
  rw [List.length_append,List.length_append,List.length_map,List.length_map,zBX]
theorem zNR{σ1:St}{H':Hp}{s':Shared}{h':Heap}{D:Addr}{ys:List V}{its:List Value}{n:Nat}(I:Inv X pins σ H1 s₂)(hC:s₂.heap.objs.size≤C)(hfp: ∀b∈fp,zJE X pins H1 b)
  (J:Inv (zY X sc T idx C s₂ H1 fp) [] σ1 H' s') (hs:Heap.SameBut C s'.heap h') (hD:s₂.heap.objs.size≤D) (hDC:D≠C) (eD:s'.heap.get? D=some {cls:=.type "list",data:=.seq its.toArray n}) (nD:H' D=none) (r:Vals ys its) (hz:ys.length≤sizeLine):
  Inv X pins σ (upd H' D (.lst ys)) {s' with heap:=h'}:=by
 have old: ∀b o,s₂.heap.get? b=some o→b≠C∧b≠D:=fun b o e=>⟨Nat.ne_of_lt (Nat.lt_of_lt_of_le (Heap.lt_size e) hC),Nat.ne_of_lt (Nat.lt_of_lt_of_le (Heap.lt_size e) hD)⟩
 have oldH: ∀b u,H1 b=some u→b≠D:=fun b u e=>Nat.ne_of_lt (Nat.lt_of_lt_of_le (I.hok.lt e) hD)
 have nC:H' C=none:=J.free
 have B:Un (frs X.stack) fp H1 H' s₂.heap s'.heap:=J.base
 have mv: ∀b o,b≠C→s'.heap.get? b=some o→h'.get? b=some o:=fun b o hb e=>(hs.2 b hb).trans e
 refine I.call' (s':={s' with heap:=h'}) (ch:=fp) J.os ⟨fun b o e q hb hx=>?_,fun b o e q hb hx=>?_,fun b o e q hx=>?_,fun b o e hx=>?_,fun b xs e=>?_,fun b o u e=>?_,fun b ps e=>?_⟩ ?_ J.bare fun b hb=>⟨(hfp b hb).2.2.2.1,(hfp b hb).2.1,(hfp b hb).2.2.2.2.1,(hfp b hb).2.2.2.2.2⟩
 ·exact mv b o (old b o e).1 (B.keep b o e q hb hx)
 ·obtain⟨sl,z⟩:=B.slot b o e q hb hx
  exact⟨sl,mv b _ (old b o e).1 z⟩
 ·rw [zS (old b o e).2];exact B.free b o e q hx
 ·obtain⟨o',z⟩:=B.there b o e hx
  exact⟨o',mv b o' (old b o e).1 z⟩
 ·rw [zS (oldH b _ e)];exact B.tups b xs e
 ·rw [zS (oldH b _ e)];exact B.frzs b o u e
 ·obtain⟨more,z⟩:=B.tbls b ps e
  exact⟨more,by rw [zS (oldH b _ e)];exact z⟩
 ·intro b u e
  by_cases hb:b=D
  ·subst hb
   rw [zX]at e;cases e
   exact⟨hz,its,n,r,mv b _ hDC eD⟩
  ·rw [zS hb]at e
   refine(J.hok b u e).stay (fun c v hc q=>mv c v ?_ q) (fun c q=>by rw [zS (yH q nD)];exact q) fun c xs q=>by rw [zS (yH q nD)];exact q
   rcases hc with z | z
   ·rw [z];exact yH e nC
   ·exact yH z nC
end
end L2
namespace L2
open PySem PySem.Spec PyProof.Rows
section
variable{X:Cx}
theorem yHL{elt tg iter:Expr}{ifs:List Expr}{pos:Pos}{sc:Scope}{wi:TI}{g:TG}{tc:Addr→Shared→Hp→List Addr→TT}{te:Addr→Shared→Hp→List Addr→TE}(T:List Str)(idx:List Nat)
  (hi:PI X tg iter wi) (hcalm:X.calm=true) (hB:zLW X.env.scope X.N sc idx=true)
  (hg: ∀C s₂ H1 fp,PG (zY X sc T idx C s₂ H1 fp) tg g)
  (hc: ∀C s₂ H1 fp,yAY (zY X sc T idx C s₂ H1 fp) ifs (tc C s₂ H1 fp))
  (he: ∀C s₂ H1 fp,PE (zY X sc T idx C s₂ H1 fp) elt (te C s₂ H1 fp))
  (hs: ∀x,foldedSetIterable iter X.env x=pure x:=by intro _;rfl):
  PE X (.ListComp elt [⟨tg,iter,ifs,0⟩] sc pos) (yDK wi g tc te T.length idx):=by
 intro pins s σ H Q I h
 rw [eval_ListComp]
 have cf:=zYR hB
 refine wpAny_comprehension_free (use:=none) (cl:=zBW X.env sc.names []) rfl hs (zHU (zNP I cf)) cf.kind cf.locs ?_
 refine thn (hi pins s σ H _ I h) fun v s1 h1=>thn h1 fun itv s2 h2=>?_
 obtain⟨it,fp,tn,J,H2,e,I2,Tn,st2,f2,W,⟨m0,w0⟩,turn⟩:=h2
 subst e
 have hlt: ∀b∈fp,b<s2.heap.objs.size:=fun b hb=>let ⟨o,e,_⟩:=Tn.obj _ _ st2 b hb;Heap.lt_size e
 refine wpAny_newObj_type (wpAny_newFunctionEnv cf.nocell (by intro y hy;simp at hy) (fun h₁ hns₁ hsb₁=>?_) cf.kind)
 dsimp only at hns₁ hsb₁ ⊢
 generalize hH2:s2.heap.push {cls:=.type "list",dict:=none,data:=.seq ([]:List Value).toArray}=HH at hns₁ hsb₁ ⊢
 have hC:HH.objs.size=s2.heap.objs.size+1:=by rw [←hH2,Heap.size_push]
 have hDC:s2.heap.objs.size≠HH.objs.size:=by rw [hC];exact Nat.ne_of_lt (Nat.lt_succ_self _)
 have hCle:s2.heap.objs.size≤HH.objs.size:=by rw [hC];exact Nat.le_succ _
 have old: ∀b o,s2.heap.get? b=some o→h₁.get? b=some o:=fun b o e=>hsb₁.extBut b o (by rw [hC];exact Nat.ne_of_lt (Nat.lt_succ_of_lt (Heap.lt_size e))) (Heap.get?_push_of_some _ (hH2▸Heap.get?_push_of_some _ e))
 have eD0:h₁.get? s2.heap.objs.size=some {cls:=.type "list",data:=.seq ([]:List Value).toArray 0}:=hsb₁.extBut _ _ hDC (Heap.get?_push_of_some _ (hH2▸Heap.get?_push_size _ rfl))
 have nD0:H2 s2.heap.objs.size=none:=I2.hok.fresh (Nat.le_refl _)
 have cD: ∀x c,(zBW X.env sc.names []).lookup x=some c→c≠s2.heap.objs.size:=fun x c e=>by
  obtain⟨v,q⟩:=I2.cell x c (kL I2 cf e)
  exact Nat.ne_of_lt q.lt
 have loop: ∀s4:Shared,s4={s2 with heap:=h₁,toks:=s2.toks+([]:List (Str×Value)).length}→
   codeAny (model X.prog X.w) X.A (.compLoop (.ListComp elt [⟨tg,iter,ifs,0⟩] sc pos) 0 (.ref it) (.ref s2.heap.objs.size) (compEnvC sc (zBW X.env sc.names []) HH.objs.size X.env))
    (compPost (model X.prog X.w) X.A X.xe none (EP X pins σ Q) (.ref s2.heap.objs.size) HH.objs.size) s4:=by
  rintro s4 rfl
  have J0:Inv (zY X sc T idx HH.objs.size s2 H2 fp) [] (T.map (fun _=>none)++zFN σ idx) H2 {s2 with heap:=h₁,toks:=s2.toks+([]:List (Str×Value)).length}:=
   zNQ I2 cf hCle f2 hlt old rfl rfl hns₁
  refine zJH (fun k s'=> ∃(i:Nat)(ys:List V)(its:List Value)(n:Nat)(H':Hp)(τ:St),Inv (zY X sc T idx HH.objs.size s2 H2 fp) [] (τ++zFN σ idx) H' s'∧τ.length=T.length∧tn i s'.heap∧(∀b∈fp,H' b=none)∧
   s'.heap.get? s2.heap.objs.size=some {cls:=.type "list",data:=.seq its.toArray n}∧H' s2.heap.objs.size=none∧Vals ys its∧W i k ys H') ?_ m0
   ⟨0,[],[],0,H2,T.map (fun _=>none),J0,by rw [List.length_map],Tn.keep _ _ _ st2 fun b _ o e=>old b o e,fun b hb=>(f2 b hb).1,eD0,nD0,.nil,w0⟩
  rintro k s3 ⟨i,ys,its,n,H3,τ,I3,hτ,st3,fr3,eD3,nD3,r3,w3⟩
  obtain⟨hz,alt⟩:=turn i k ys H3 w3
  have hDfs:s2.heap.objs.size∉(zY X sc T idx HH.objs.size s2 H2 fp).fs:=fun z=>by
   obtain⟨_,o,ho,_⟩:=I2.stack.mem (show s2.heap.objs.size∈frs X.stack from z)
   exact absurd (Heap.lt_size ho) (Nat.lt_irrefl _)
  have pinD: ∀{H':Hp}{s':Shared},s'.heap.get? s2.heap.objs.size=some {cls:=.type "list",data:=.seq its.toArray n}→H' s2.heap.objs.size=none→
    ∀p∈[(s2.heap.objs.size,({cls:=.type "list",data:=.seq its.toArray n}:Obj))],s'.heap.get? p.1=some p.2∧H' p.1=none∧p.1≠(zY X sc T idx HH.objs.size s2 H2 fp).env.locals∧p.1∉(zY X sc T idx HH.objs.size s2 H2 fp).fs∧ ∀v,p.2.data≠.cell v:=
   fun {H' s'} e1 e2 p hp=>by
    have ep:p=(s2.heap.objs.size,{cls:=.type "list",data:=.seq its.toArray n}):=by simpa using hp
    subst ep
    exact⟨e1,e2,hDC,hDfs,fun v z=>by cases z⟩
  have P3:Inv (zY X sc T idx HH.objs.size s2 H2 fp) [(s2.heap.objs.size,{cls:=.type "list",data:=.seq its.toArray n})] (τ++zFN σ idx) H3 s3:=I3.pins_of (pinD eD3 nD3)
  have stat: ∀{H':Hp},(∀b∈fp,H' b=none)→ ∀b∈fp,zJE (zY X sc T idx HH.objs.size s2 H2 fp) [(s2.heap.objs.size,{cls:=.type "list",data:=.seq its.toArray n})] H' b:=fun {H'} hn b hb=>by
   have hb2:=hlt b hb
   refine⟨hn b hb,Nat.ne_of_lt (Nat.lt_of_lt_of_le hb2 hCle),I3.ok.exfs b hb,.inl hb,fun x c e=>(f2 b hb).2.2.2.2.1 x c (kL I2 cf e),fun p hp=>?_⟩
   have ep:p=(s2.heap.objs.size,({cls:=.type "list",data:=.seq its.toArray n}:Obj)):=by simpa [zY]using hp
   subst ep
   exact Nat.ne_of_gt hb2
  rcases alt with⟨stop,q⟩ | ⟨go,hl2,step⟩
  ·refine thn (Tn.done (zY X sc T idx HH.objs.size s2 H2 fp) rfl rfl rfl hcalm i _ s3 _ H3 (fun _ _=>False) P3 (stat fr3) st3 stop) fun r s4 ⟨hr,I4⟩=>?_
   subst hr
   obtain⟨m,hn,_⟩:=id I4.loc
   refine⟨m,hn,fun h' hs'=>?_⟩
   have eD4:=(I4.pin (s2.heap.objs.size,{cls:=.type "list",data:=.seq its.toArray n}) (by simp)).1
   exact⟨.ref s2.heap.objs.size,_,zNR I2 hCle f2 (I4.pins_of (fun p hp=>nomatch hp)) hs' (Nat.le_refl _) hDC eD4 nD3 r3 hz,rfl,q _ nD3⟩
  ·refine thn (Tn.item (zY X sc T idx HH.objs.size s2 H2 fp) rfl rfl rfl hcalm i _ s3 _ H3 (fun _ _=>False) P3 (stat fr3) st3 go) fun r s4 ⟨u,hr,h4⟩=>?_
   subst hr
   refine thn h4 fun _ s5 ⟨x,H5,I5,r5,y5,st5,fr5⟩=>?_
   have I5':=I5.pinned (stat fr5) (Tn.obj _ _ st5)
   refine thn (hg HH.objs.size s2 H2 fp _ s5 _ H5 x u _ I5' r5 (step x H5 y5 τ hτ)) fun _ s6 ⟨σ6,H6,I6,⟨τ',e6,l6⟩,q6⟩=>?_
   subst e6
   refine thn (hc HH.objs.size s2 H2 fp _ s6 _ H6 _ I6 (q6 HH.objs.size s2 fp)) fun ok s7 ⟨H7,I7,q7⟩=>?_
   have mD:(s2.heap.objs.size,({cls:=.type "list",data:=.seq its.toArray n}:Obj))∈(zY X sc T idx HH.objs.size s2 H2 fp).pn++([(s2.heap.objs.size,{cls:=.type "list",data:=.seq its.toArray n})]++zFL fp s5.heap):=
    List.mem_append_right _ (List.mem_append_left _ (by simp))
   have mF: ∀b∈fp, ∀o,s5.heap.get? b=some o→(b,o)∈(zY X sc T idx HH.objs.size s2 H2 fp).pn++([(s2.heap.objs.size,{cls:=.type "list",data:=.seq its.toArray n})]++zFL fp s5.heap):=fun b hb o e=>
    List.mem_append_right _ (List.mem_append_right _ (zDV hb e))
   cases ok with
   | false=>
    rw [if_neg Bool.false_ne_true]at q7 ⊢
    obtain⟨m',hm',w7⟩:=q7
    refine⟨m',hm',i+1,ys,its,n,H7,τ',I7.pins_of (fun p hp=>nomatch hp),l6,Tn.keep _ _ _ st5 fun b hb o e=>(I7.pin _ (mF b hb o e)).1,fun b hb=>?_,(I7.pin _ mD).1,(I7.pin _ mD).2.1,r3,w7⟩
    obtain⟨o,e,d⟩:=Tn.obj _ _ st5 b hb
    exact(I7.pin _ (mF b hb o e)).2.1
   | true=>
    rw [if_pos rfl]at q7 ⊢
    refine thn (he HH.objs.size s2 H2 fp _ s7 _ H7 _ I7 q7) fun y s8 ⟨yv,H8,I8,r8,m',hm',w8⟩=>?_
    have eD8:=(I8.pin _ mD).1
    have nD8:=(I8.pin _ mD).2.1
    have hl:=r3.length
    have q:=PySem.IsL.update eD8 (fun z=>z.push y)
    rw [show its.toArray.push y=(its++[y]).toArray by simp]at q
    refine call_meets PySem.F.slot_list_append ⟨_,eD8,rfl⟩ PySem.F.entry_list_append (PySem.F.args_list_append_2 _ _) (PySem.list_append s2.heap.objs.size its.toArray n y (by rw [List.size_toArray];omega)) ⟨eD8,?_⟩
    have I9:Inv (zY X sc T idx HH.objs.size s2 H2 fp) [] (τ'++zFN σ idx) H8 s8:=I8.pins_of (fun p hp=>nomatch hp)
    have up: ∀b o,b≠s2.heap.objs.size→s8.heap.get? b=some o→(s8.heap.update s2.heap.objs.size (Obj.mapSeq fun z=>z.push y)).get? b=some o:=fun b o hb e=>(Heap.get?_update_other s8.heap _ (Ne.symm hb)).trans e
    refine⟨m',hm',i+1,ys++[yv],its++[y],_,H8,τ',I9.turned (t':=s8.toks) up nD8 hDC (.inr (Nat.le_refl _)) cD (fun p hp=>nomatch hp),l6,?_,fun b hb=>?_,q,nD8,r3.append (.cons r8 .nil),w8⟩
    ·exact Tn.keep _ _ _ st5 fun b hb o e=>up b o (Nat.ne_of_lt (hlt b hb)) (I8.pin _ (mF b hb o e)).1
    ·obtain⟨o,e,d⟩:=Tn.obj _ _ st5 b hb
     exact(I8.pin _ (mF b hb o e)).2.1
 exact codeAny_compStart_list (loop _ rfl) (Tn.self X.A 0 _ _ _ (Tn.keep _ _ _ st2 fun b _ o e=>old b o e) (loop _ rfl))
end
end L2
namespace L2
open PySem PySem.Spec PyProof.Rows
def mkS(x:List Nat):Str:=⟨x.toArray⟩
theorem jC(x:List Nat):(mkS x).length=x.length:=by simp [mkS,Str.length]
theorem zDW(x:List Nat):(mkS x).cps.toList=x:=by simp [mkS]
theorem zRY{x y:List Nat}(h:mkS x=mkS y):x=y:=by
 have:=congrArg (fun s=>s.cps.toList) h
 simpa [mkS]using this
theorem yHM(x y:List Nat):mkS x++mkS y=mkS (x++y):=by
 show Str.append (mkS x) (mkS y)=_
 simp [Str.append,mkS]
theorem yHN(c:Nat):(⟨#[c]⟩:Str)=mkS [c]:=rfl
def kR{α:Type}(xs:List α)(lo hi:Option Int):List α:=(xs.drop (HT.sIx xs.length 0 lo)).take (HT.sIx xs.length xs.length hi - HT.sIx xs.length 0 lo)
theorem strIdx(lo hi:Option Int)(n:Nat):Builtin.Str.strSliceIndices lo hi 1 n=(List.range (HT.sIx n n hi - HT.sIx n 0 lo)).map (HT.sIx n 0 lo+·):=by
 have e1:(match lo with | none=>(if(1:Int)>0 then(0:Int)else(n:Int) - 1) | some i=>if(1:Int)>0 then max 0 (min (if i<0 then i+(n:Int)else i) (n:Int))else max (-1) (min (if i<0 then i+(n:Int)else i) ((n:Int) - 1)))=((HT.sIx n 0 lo:Nat):Int):=by
  cases lo with
  | none=>simp [HT.sIx]
  | some i=>
   simp only [HT.sIx,show(1:Int)>0 by decide,if_true]
   by_cases h:i<0
   ·simp only [h,if_true];omega
   ·simp only [h,if_false];omega
 have e2:(match hi with | none=>(if(1:Int)>0 then(n:Int)else -1) | some i=>if(1:Int)>0 then max 0 (min (if i<0 then i+(n:Int)else i) (n:Int))else max (-1) (min (if i<0 then i+(n:Int)else i) ((n:Int) - 1)))=((HT.sIx n n hi:Nat):Int):=by
  cases hi with
  | none=>simp [HT.sIx]
  | some i=>
   simp only [HT.sIx,show(1:Int)>0 by decide,if_true]
   by_cases h:i<0
   ·simp only [h,if_true];omega
   ·simp only [h,if_false];omega
 rw [←sliceRange_one]
 unfold Builtin.Str.strSliceIndices
 dsimp only
 rw [←e1, ←e2]
 cases lo<;>cases hi<;>rfl
theorem yBA(x:List Nat)(lo hi:Option Int):Txt.slice (mkS x) lo hi=mkS (kR x lo hi):=by
 unfold Txt.slice
 rw [strIdx,jC]
 have hp:((List.range (HT.sIx x.length x.length hi - HT.sIx x.length 0 lo)).map (HT.sIx x.length 0 lo+·)).filterMap ((mkS x).cps[·]?)=kR x lo hi:=by
  have:=pick_run (mkS x).cps (HT.sIx x.length 0 lo) (HT.sIx x.length x.length hi - HT.sIx x.length 0 lo)
  rw [zDW]at this
  exact this
 rw [hp]
 split
 ·rename_i hc
  rw [Bool.and_eq_true]at hc
  have hl:HT.sIx x.length x.length hi - HT.sIx x.length 0 lo=x.length:=by simpa using hc.2
  have h2:HT.sIx x.length x.length hi≤x.length:=HT.sIx_le _ _ (Nat.le_refl _) _
  have h3:HT.sIx x.length 0 lo≤x.length:=HT.sIx_le _ _ (Nat.zero_le _) _
  have e:HT.sIx x.length 0 lo=0:=by omega
  unfold kR
  rw [hl,e]
  simp
 ·rfl
section
variable{X:Cx}
def rSlS:V→Option Int→Option Int→Hp→VK→Prop:=fun x lo hi H Q=> ∃cs,x=.str (mkS cs)∧cs.length≤sizeLine∧Q (.str (mkS (kR cs lo hi))) H
theorem yME:SlR X rSlS:=by
 intro pins s σ H x v vl vu lo hi sl Q I rx hs pl pu h
 obtain⟨cs,rfl,hz,q⟩:=h
 obtain⟨t,rfl⟩:=rx
 have hl:(Txt.slice (mkS cs) lo hi).length≤sizeLine:=Nat.le_trans (Txt.slice_le _ _ _) (by rw [jC];exact hz)
 rw [←yBA]at q
 refine⟨"str",_,slot_str_getitem.lookup,typeIs_str _ _ _,?_⟩
 obtain⟨o,ho,hc,hd⟩:=hs
 cases pl with
 | none=>
  cases pu with
  | none=>exact wpAny_getItem_str_slice (l:=none) (u:=none) (st:=none) ⟨o,ho,hc,hd⟩ rfl (post_val_or_str ⟨hl,fun t' k=>⟨.str _,H,I.tok _,⟨_,rfl⟩,q⟩⟩)
  | int j uj=>exact wpAny_getItem_str_slice (l:=none) (u:=some (j,uj)) (st:=none) ⟨o,ho,hc,hd⟩ rfl (post_val_or_str ⟨hl,fun t' k=>⟨.str _,H,I.tok _,⟨_,rfl⟩,q⟩⟩)
 | int i ui=>
  cases pu with
  | none=>exact wpAny_getItem_str_slice (l:=some (i,ui)) (u:=none) (st:=none) ⟨o,ho,hc,hd⟩ rfl (post_val_or_str ⟨hl,fun t' k=>⟨.str _,H,I.tok _,⟨_,rfl⟩,q⟩⟩)
  | int j uj=>exact wpAny_getItem_str_slice (l:=some (i,ui)) (u:=some (j,uj)) (st:=none) ⟨o,ho,hc,hd⟩ rfl (post_val_or_str ⟨hl,fun t' k=>⟨.str _,H,I.tok _,⟨_,rfl⟩,q⟩⟩)
theorem zDI:OpR X (compareOp .LtE) (fun x y H Q=> ∃i j,x=.str i∧y=.str j∧Q (.bl (!(j.cps.toList<i.cps.toList))) H):=by
 intro pins s σ H x y v u Q I rx ry h
 obtain⟨i,j,rfl,rfl,q⟩:=h
 obtain⟨t,rfl⟩:=rx
 obtain⟨t',rfl⟩:=ry
 exact PySem.P.le_str ⟨.bl _,H,I,rfl,q⟩
def zNS(cs:List Nat)(k:Int):List Nat:=(List.replicate k.toNat cs).flatten
theorem zKT(cs:List Nat): ∀(k:Nat)(acc:List Nat),List.foldl (fun x1 x2=>x1++x2) acc.toArray (List.replicate k cs.toArray)=(acc++(List.replicate k cs).flatten).toArray
 | 0,acc=>by simp
 | k+1,acc=>by
  rw [List.replicate_succ,List.foldl_cons,List.replicate_succ,List.flatten_cons, ←List.append_assoc, ←zKT cs k (acc++cs)]
  simp
theorem zWT:OpR X (binaryOp .Mult) (fun x y H Q=> ∃cs k,x=.str (mkS cs)∧y=.int k∧0≤k∧k<1000∧cs.length≤1000∧Q (.str (mkS (zNS cs k))) H):=by
 intro pins s σ H x y v u Q I rx ry h
 obtain⟨cs,k,rfl,rfl,h0,h1,hc,q⟩:=h
 obtain⟨t,rfl⟩:=rx
 obtain⟨t',rfl⟩:=ry
 have hs:sizeLine=16777216:=sizeLine_eq
 have hprod:cs.length * k.toNat≤1000 * 1000:=Nat.mul_le_mul hc (by omega)
 have e: ∀b,Q (.str b) H→b=mkS (zNS cs k)→True:=fun _ _ _=>trivial
 refine PySem.P.mul_str (by rw [decide_eq_false (by omega),decide_eq_false (by omega)];rfl) (fun h2 _=>?_) (fun _ _=>?_) ?_
 ·rw [jC]
  have hk:1≤k:=by omega
  have:(1000:Int)≤(2 ^ 63 - 1) / k:=by
   rw [Int.le_ediv_iff_mul_le (by omega)]
   omega
  omega
 ·rw [jC]
  unfold PySem.Builtin.Str.tooLong
  exact decide_eq_false (by omega)
 ·have made: ∀(z:Str),z=mkS (zNS cs k)→z.length≤sizeLine→(Made.str z).post (EP X pins σ Q) s:=fun z ez hz=>⟨hz,by rw [ez];exact⟨.str _,H,I.tok _,⟨_,rfl⟩,q⟩⟩
  have hlen:(zNS cs k).length=k.toNat * cs.length:=by
   unfold zNS;rw [len_rep]
  by_cases hn:k<1
  ·rw [if_pos hn]
   have hk:k.toNat=0:=by omega
   refine made _ ?_ (by decide)
   unfold zNS;rw [hk];rfl
  ·rw [if_neg hn]
   by_cases h3:(k==1 || (mkS cs).length==0)=true
   ·rw [if_pos h3]
    refine⟨.str (mkS cs),H,I,⟨_,rfl⟩,?_⟩
    have:zNS cs k=cs:=by
     unfold zNS
     rw [Bool.or_eq_true]at h3
     rcases h3 with h3 | h3
     ·have:k=1:=by simpa using h3
      subst this
      simp
     ·rw [jC]at h3
      have:cs=[]:=by cases cs with | nil=>rfl | cons _ _=>simp at h3
      subst this
      simp
    rw [this]at q
    exact q
   ·rw [if_neg h3]
    refine made _ ?_ ?_
    ·unfold zNS mkS
     have:=zKT cs k.toNat []
     rw [List.nil_append]at this
     exact congrArg Str.mk this
    ·have e3:(List.foldl (fun x1 x2=>x1++x2) #[] (List.replicate k.toNat (mkS cs).cps))=(zNS cs k).toArray:=by
      have:=zKT cs k.toNat []
      rw [List.nil_append]at this
      exact this
     show(List.foldl (fun x1 x2=>x1++x2) #[] (List.replicate k.toNat (mkS cs).cps)).size≤sizeLine
     rw [e3,List.size_toArray,hlen,Nat.mul_comm]
     omega
theorem zDX:CallR X (.builtin "all") (fun xs H Q=> ∃(a:Addr)(bs:List Bool),xs=[.ref a]∧SqL X.K H a (bs.map V.bl)∧X.calm=true∧Q (.bl (bs.all id)) H):=by
 intro pins s σ H xs us Q I r h
 obtain⟨a,bs,rfl,hq,hc,q⟩:=h
 obtain⟨u,rfl,ru⟩:=vals1 r
 cases ru
 obtain⟨its,rv,pl,hz⟩:=I.list hq
 have hlen:its.length=bs.length:=by rw [←rv.length,List.length_map]
 refine PySem.call_all_walk (wpAny_pyIter_list pl.isList ?_)
 have hI:a≠s.heap.objs.size:=by
  obtain⟨o,ho,_⟩:=pl.isList
  exact Nat.ne_of_lt (Heap.lt_size ho)
 have I1: ∀(h':Heap)(tk:Nat),(∀b o,b∉[s.heap.objs.size]→(s.heap.push {cls:=.type "list_iterator",data:=.fields #[.ref a,.int 0 0]}).get? b=some o→h'.get? b=some o)→Inv X pins σ H {s with heap:=h',toks:=tk}:=fun h' tk k=>
  I.kept fun b o e=>k b o (by simpa using Nat.ne_of_lt (Heap.lt_size e)) (Heap.get?_push_of_some _ e)
 refine⟨s.heap.objs.size,[s.heap.objs.size,a],[s.heap.objs.size],its.toArray.size,_,_,fun i=>bs.getD i false,rfl,PySem.Walks.list (by first | exact I.ok.hd hc | exact(show X.A.in1.handled=none from I.ok.hd hc)) _ a hI its.toArray,⟨⟨_,Heap.get?_push_size _ rfl,rfl,rfl⟩,pl.isList.at fun o e=>Heap.get?_push_of_some _ e⟩,?_,fun h' tk k=>?_⟩
 ·intro i v s' Q' E' hv hQ'
  have hv':its[i]? =some v:=by simpa using hv
  have hi:i<bs.length:=by rw [←hlen];exact(List.getElem?_eq_some_iff.mp hv').1
  have hb:(bs.map V.bl)[i]? =some (V.bl (bs.getD i false)):=by
   rw [List.getElem?_map,List.getElem?_eq_getElem hi]
   simp [List.getD_eq_getElem?_getD,hi]
  obtain⟨u',hu',rv'⟩:=rv.get hb
  rw [hv']at hu'
  cases hu'
  cases rv'
  exact wpAny_truthy_bool hQ'
 ·refine⟨.bl (bs.all id),H,I1 h' tk k,?_,q⟩
  show Value.bool _=Value.bool _
  congr 1
  rw [List.size_toArray,hlen]
  have: ∀(l:List Bool),(List.range l.length).all (fun i=>l.getD i false)=l.all id:=by
   intro l
   rw [Bool.eq_iff_iff,List.all_eq_true,List.all_eq_true]
   constructor
   ·intro h x hx
    obtain⟨i,hi,rfl⟩:=List.getElem_of_mem hx
    have:=h i (List.mem_range.mpr hi)
    simpa [List.getD_eq_getElem?_getD,hi]using this
   ·intro h i hi
    have hi':=List.mem_range.mp hi
    have:=h l[i] (List.getElem_mem hi')
    simpa [List.getD_eq_getElem?_getD,hi']using this
  exact this bs
def Its(x:List Nat):It:=⟨fun i _=>i<x.length,fun i H v H'=>H'=H∧ ∃c,x[i]? =some c∧v=.str (mkS [c]),fun i _=>x.length≤i⟩
def iStr(tl:TE):TI:=fun σ H R=>tl σ H fun v H1=> ∃x,v=.str (mkS x)∧R (Its x) H1
theorem zTZ{P:Program}{w:World}{K:PySem.W.Frag}{tg:Expr}(it:Addr)(ty:String)(x:List Nat)(t:Tok)(hty:ty="str_ascii_iterator"∨ty="str_iterator"):
  Turn P w K tg (Its x) [it] it (fun i h=>h.IsStrIter it ty (mkS x) t i) where
 mem:=by simp
 obj:=fun i h st b hb=>by
  have e:b=it:=by simpa using hb
  subst e
  obtain⟨o,e,c,d⟩:=st
  exact⟨o,e,fun v z=>by rw [d]at z;cases z⟩
 keep:=fun i h h' st k=>let ⟨o,ho,r⟩:=st;⟨o,k it (by simp) o ho,r⟩
 item:=by
  intro X hP hw hK hc i pins s σ H E I hf st hg
  subst hP hw hK
  obtain⟨f0,f1,f2,f3,f4,f5⟩:=hf it (by simp)
  have hi:i<x.length:=hg
  have hxi:(mkS x).cps[i]? =some x[i]:=by simp [mkS,hi]
  have fin: ∀(h':Heap),h'.IsStrIter it ty (mkS x) t (i+1)→Heap.SameBut it s.heap h'→ ∃u,some (Value.str ⟨#[x[i]]⟩ s.toks)=some u∧
    wpAny (model X.prog X.w) X.A (letOwnedTupleGo tg (.ref it) u) (fun _ s2=> ∃y H',Inv X pins σ H' s2∧RelV y u∧(Its x).yld i H y H'∧s2.heap.IsStrIter it ty (mkS x) t (i+1)∧ ∀b∈[it],H' b=none) E {s with heap:=h',toks:=s.toks+1}:=fun h' st' sb=>by
   have I1:Inv X pins σ H {s with heap:=h',toks:=s.toks+1}:=I.turned (fun b o hb e=>(sb.2 b hb).trans e) f0 f1 f3 f4 f5
   obtain⟨o,e,c,d⟩:=id st'
   refine⟨_,rfl,zYO (s:={s with heap:=h',toks:=s.toks+1}) e c d (by rcases hty with rfl | rfl<;>decide) ⟨.str (mkS [x[i]]),H,I1,⟨_,rfl⟩,⟨rfl,x[i],by simp [hi],rfl⟩,st',fun b hb=>(hf b hb).1⟩⟩
  rcases hty with rfl | rfl
  ·exact wpAny_pyNext_ascii_item st hxi fun h' st' sb=>fin h' st' sb
  ·exact wpAny_pyNext_wide_item st hxi fun h' st' sb=>fin h' st' sb
 done:=by
  intro X hP hw hK hc i pins s σ H E I hf st hg
  subst hP hw hK
  obtain⟨f0,f1,f2,f3,f4,f5⟩:=hf it (by simp)
  have hi:x.length≤i:=hg
  have hxi:(mkS x).cps[i]? =none:=by simp [mkS,hi]
  rcases hty with rfl | rfl
  ·exact wpAny_pyNext_ascii_end (I.ok.hd hc) st hxi fun h' eb=>⟨rfl,I.turned (t':=s.toks) (fun b o hb e=>eb b o hb e) f0 f1 f3 f4 f5⟩
  ·exact wpAny_pyNext_wide_end (I.ok.hd hc) st hxi fun h' eb=>⟨rfl,I.turned (t':=s.toks) (fun b o hb e=>eb b o hb e) f0 f1 f3 f4 f5⟩
 self:=fun _ _ _ _ _ st h=>by
  rcases hty with rfl | rfl
  ·exact wpAny_pyIter_striter_ascii st h
  ·exact wpAny_pyIter_striter_wide st h
theorem yMF{tg l:Expr}{tl:TE}(hl:PE X l tl):PI X tg l (iStr tl):=by
 intro pins s σ H R I h
 refine thn (hl pins s σ H _ I h) fun v s1 ⟨x,H1,I1,r1,q1⟩=>?_
 obtain⟨cs,e,q⟩:=q1
 subst e
 obtain⟨t,rfl⟩:=r1
 have fp: ∀(o:Obj), ∀b∈[s1.heap.objs.size],zJE X pins H1 b:=fun o b hb=>by
  have e:b=s1.heap.objs.size:=by simpa using hb
  subst e
  exact I1.fpOk (Nat.le_refl _) (I1.hok.fresh (Nat.le_refl _))
 cases ha:(mkS cs).cps.all (· <128)
 ·refine wpAny_pyIter_wide ha ?_
  exact⟨s1.heap.objs.size,[s1.heap.objs.size],_,_,H1,rfl,I1.kept (t':=s1.toks) fun b o e=>Heap.get?_push_of_some _ e,zTZ _ "str_iterator" cs t (.inr rfl),⟨_,Heap.get?_push_size _ rfl,rfl,rfl⟩,fp default,q⟩
 ·refine wpAny_pyIter_ascii ha ?_
  exact⟨s1.heap.objs.size,[s1.heap.objs.size],_,_,H1,rfl,I1.kept (t':=s1.toks) fun b o e=>Heap.get?_push_of_some _ e,zTZ _ "str_ascii_iterator" cs t (.inl rfl),⟨_,Heap.get?_push_size _ rfl,rfl,rfl⟩,fp default,q⟩
end
end L2
namespace L2
open PySem PySem.Spec PyProof.Rows
section
variable{X:Cx}
theorem yDN{elt tg iter:Expr}{ifs:List Expr}{pos:Pos}{sc:Scope}{wi:TI}{g:TG}{tc:Addr→Shared→Hp→List Addr→TT}{te:Addr→Shared→Hp→List Addr→TE}(T:List Str)(idx:List Nat)
  (hi:PI X tg iter wi) (hcalm:X.calm=true) (hB:zLW X.env.scope X.N sc idx=true)
  (hg: ∀C s₂ H1 fp,PG (zY X sc T idx C s₂ H1 fp) tg g)
  (hc: ∀C s₂ H1 fp,yAY (zY X sc T idx C s₂ H1 fp) ifs (tc C s₂ H1 fp))
  (he: ∀C s₂ H1 fp,PE (zY X sc T idx C s₂ H1 fp) elt (te C s₂ H1 fp))
  (hs: ∀x,foldedSetIterable iter X.env x=pure x:=by intro _;rfl)
  {pins:List (Addr×Obj)} {s:Shared} {σ:St} {H:Hp} {Q:VK} {use:Value→Sem Unit} {Q':Value→Shared→Prop} (I:Inv X pins σ H s) (h:yDK wi g tc te T.length idx σ H Q)
  (fin: ∀(D C:Addr)(s4:Shared)(H':Hp),Inv X pins σ H' s4→zJE X pins H' C→(∃m,s4.heap.Ns C m)→Q (.ref D) H'→
   wpAny (model X.prog X.w) X.A (use (.ref D)) (fun _ s''=> ∃m,s''.heap.Ns C m∧ ∀h',Heap.SameBut C s''.heap h'→Q' .none {s'' with heap:=h'}) X.xe s4):
  wpAny (model X.prog X.w) X.A (comprehension (.ListComp elt [⟨tg,iter,ifs,0⟩] sc pos) sc X.env (firstIterPos [⟨tg,iter,ifs,0⟩] pos) (newList []) false (eval iter X.env) (some use)) Q' X.xe s:=by
 have cf:=zYR hB
 refine wpAny_comprehension_free (use:=some use) (cl:=zBW X.env sc.names []) rfl hs (zHU (zNP I cf)) cf.kind cf.locs ?_
 refine thn (hi pins s σ H _ I h) fun v s1 h1=>thn h1 fun itv s2 h2=>?_
 obtain⟨it,fp,tn,J,H2,e,I2,Tn,st2,f2,W,⟨m0,w0⟩,turn⟩:=h2
 subst e
 have hlt: ∀b∈fp,b<s2.heap.objs.size:=fun b hb=>let ⟨o,e,_⟩:=Tn.obj _ _ st2 b hb;Heap.lt_size e
 refine wpAny_newObj_type (wpAny_newFunctionEnv cf.nocell (by intro y hy;simp at hy) (fun h₁ hns₁ hsb₁=>?_) cf.kind)
 dsimp only at hns₁ hsb₁ ⊢
 generalize hH2:s2.heap.push {cls:=.type "list",dict:=none,data:=.seq ([]:List Value).toArray}=HH at hns₁ hsb₁ ⊢
 have hC:HH.objs.size=s2.heap.objs.size+1:=by rw [←hH2,Heap.size_push]
 have hDC:s2.heap.objs.size≠HH.objs.size:=by rw [hC];exact Nat.ne_of_lt (Nat.lt_succ_self _)
 have hCle:s2.heap.objs.size≤HH.objs.size:=by rw [hC];exact Nat.le_succ _
 have old: ∀b o,s2.heap.get? b=some o→h₁.get? b=some o:=fun b o e=>hsb₁.extBut b o (by rw [hC];exact Nat.ne_of_lt (Nat.lt_succ_of_lt (Heap.lt_size e))) (Heap.get?_push_of_some _ (hH2▸Heap.get?_push_of_some _ e))
 have eD0:h₁.get? s2.heap.objs.size=some {cls:=.type "list",data:=.seq ([]:List Value).toArray 0}:=hsb₁.extBut _ _ hDC (Heap.get?_push_of_some _ (hH2▸Heap.get?_push_size _ rfl))
 have nD0:H2 s2.heap.objs.size=none:=I2.hok.fresh (Nat.le_refl _)
 have cD: ∀x c,(zBW X.env sc.names []).lookup x=some c→c≠s2.heap.objs.size:=fun x c e=>by
  obtain⟨v,q⟩:=I2.cell x c (kL I2 cf e)
  exact Nat.ne_of_lt q.lt
 have loop: ∀s4:Shared,s4={s2 with heap:=h₁,toks:=s2.toks+([]:List (Str×Value)).length}→
   codeAny (model X.prog X.w) X.A (.compLoop (.ListComp elt [⟨tg,iter,ifs,0⟩] sc pos) 0 (.ref it) (.ref s2.heap.objs.size) (compEnvC sc (zBW X.env sc.names []) HH.objs.size X.env))
    (compPost (model X.prog X.w) X.A X.xe (some use) Q' (.ref s2.heap.objs.size) HH.objs.size) s4:=by
  rintro s4 rfl
  have J0:Inv (zY X sc T idx HH.objs.size s2 H2 fp) [] (T.map (fun _=>none)++zFN σ idx) H2 {s2 with heap:=h₁,toks:=s2.toks+([]:List (Str×Value)).length}:=
   zNQ I2 cf hCle f2 hlt old rfl rfl hns₁
  refine zJH (fun k s'=> ∃(i:Nat)(ys:List V)(its:List Value)(n:Nat)(H':Hp)(τ:St),Inv (zY X sc T idx HH.objs.size s2 H2 fp) [] (τ++zFN σ idx) H' s'∧τ.length=T.length∧tn i s'.heap∧(∀b∈fp,H' b=none)∧
   s'.heap.get? s2.heap.objs.size=some {cls:=.type "list",data:=.seq its.toArray n}∧H' s2.heap.objs.size=none∧Vals ys its∧W i k ys H') ?_ m0
   ⟨0,[],[],0,H2,T.map (fun _=>none),J0,by rw [List.length_map],Tn.keep _ _ _ st2 fun b _ o e=>old b o e,fun b hb=>(f2 b hb).1,eD0,nD0,.nil,w0⟩
  rintro k s3 ⟨i,ys,its,n,H3,τ,I3,hτ,st3,fr3,eD3,nD3,r3,w3⟩
  obtain⟨hz,alt⟩:=turn i k ys H3 w3
  have hDfs:s2.heap.objs.size∉(zY X sc T idx HH.objs.size s2 H2 fp).fs:=fun z=>by
   obtain⟨_,o,ho,_⟩:=I2.stack.mem (show s2.heap.objs.size∈frs X.stack from z)
   exact absurd (Heap.lt_size ho) (Nat.lt_irrefl _)
  have pinD: ∀{H':Hp}{s':Shared},s'.heap.get? s2.heap.objs.size=some {cls:=.type "list",data:=.seq its.toArray n}→H' s2.heap.objs.size=none→
    ∀p∈[(s2.heap.objs.size,({cls:=.type "list",data:=.seq its.toArray n}:Obj))],s'.heap.get? p.1=some p.2∧H' p.1=none∧p.1≠(zY X sc T idx HH.objs.size s2 H2 fp).env.locals∧p.1∉(zY X sc T idx HH.objs.size s2 H2 fp).fs∧ ∀v,p.2.data≠.cell v:=
   fun {H' s'} e1 e2 p hp=>by
    have ep:p=(s2.heap.objs.size,{cls:=.type "list",data:=.seq its.toArray n}):=by simpa using hp
    subst ep
    exact⟨e1,e2,hDC,hDfs,fun v z=>by cases z⟩
  have P3:Inv (zY X sc T idx HH.objs.size s2 H2 fp) [(s2.heap.objs.size,{cls:=.type "list",data:=.seq its.toArray n})] (τ++zFN σ idx) H3 s3:=I3.pins_of (pinD eD3 nD3)
  have stat: ∀{H':Hp},(∀b∈fp,H' b=none)→ ∀b∈fp,zJE (zY X sc T idx HH.objs.size s2 H2 fp) [(s2.heap.objs.size,{cls:=.type "list",data:=.seq its.toArray n})] H' b:=fun {H'} hn b hb=>by
   have hb2:=hlt b hb
   refine⟨hn b hb,Nat.ne_of_lt (Nat.lt_of_lt_of_le hb2 hCle),I3.ok.exfs b hb,.inl hb,fun x c e=>(f2 b hb).2.2.2.2.1 x c (kL I2 cf e),fun p hp=>?_⟩
   have ep:p=(s2.heap.objs.size,({cls:=.type "list",data:=.seq its.toArray n}:Obj)):=by simpa [zY]using hp
   subst ep
   exact Nat.ne_of_gt hb2
  rcases alt with⟨stop,q⟩ | ⟨go,hl2,step⟩
  ·refine thn (Tn.done (zY X sc T idx HH.objs.size s2 H2 fp) rfl rfl rfl hcalm i _ s3 _ H3 (fun _ _=>False) P3 (stat fr3) st3 stop) fun r s4 ⟨hr,I4⟩=>?_
   subst hr
   obtain⟨m,hn,_⟩:=id I4.loc
   have eD4:=(I4.pin (s2.heap.objs.size,{cls:=.type "list",data:=.seq its.toArray n}) (by simp)).1
   have J4:=zNR I2 hCle f2 (I4.pins_of (fun p hp=>nomatch hp)) (Heap.SameBut.refl _ _) (Nat.le_refl _) hDC eD4 nD3 r3 hz
   exact fin _ _ s4 _ J4 (I2.fpOk hCle (by rw [zS (Ne.symm hDC)];exact I4.free)) ⟨m,hn⟩ (q _ nD3)
  ·refine thn (Tn.item (zY X sc T idx HH.objs.size s2 H2 fp) rfl rfl rfl hcalm i _ s3 _ H3 (fun _ _=>False) P3 (stat fr3) st3 go) fun r s4 ⟨u,hr,h4⟩=>?_
   subst hr
   refine thn h4 fun _ s5 ⟨x,H5,I5,r5,y5,st5,fr5⟩=>?_
   have I5':=I5.pinned (stat fr5) (Tn.obj _ _ st5)
   refine thn (hg HH.objs.size s2 H2 fp _ s5 _ H5 x u _ I5' r5 (step x H5 y5 τ hτ)) fun _ s6 ⟨σ6,H6,I6,⟨τ',e6,l6⟩,q6⟩=>?_
   subst e6
   refine thn (hc HH.objs.size s2 H2 fp _ s6 _ H6 _ I6 (q6 HH.objs.size s2 fp)) fun ok s7 ⟨H7,I7,q7⟩=>?_
   have mD:(s2.heap.objs.size,({cls:=.type "list",data:=.seq its.toArray n}:Obj))∈(zY X sc T idx HH.objs.size s2 H2 fp).pn++([(s2.heap.objs.size,{cls:=.type "list",data:=.seq its.toArray n})]++zFL fp s5.heap):=
    List.mem_append_right _ (List.mem_append_left _ (by simp))
   have mF: ∀b∈fp, ∀o,s5.heap.get? b=some o→(b,o)∈(zY X sc T idx HH.objs.size s2 H2 fp).pn++([(s2.heap.objs.size,{cls:=.type "list",data:=.seq its.toArray n})]++zFL fp s5.heap):=fun b hb o e=>
    List.mem_append_right _ (List.mem_append_right _ (zDV hb e))
   cases ok with
   | false=>
    rw [if_neg Bool.false_ne_true]at q7 ⊢
    obtain⟨m',hm',w7⟩:=q7
    refine⟨m',hm',i+1,ys,its,n,H7,τ',I7.pins_of (fun p hp=>nomatch hp),l6,Tn.keep _ _ _ st5 fun b hb o e=>(I7.pin _ (mF b hb o e)).1,fun b hb=>?_,(I7.pin _ mD).1,(I7.pin _ mD).2.1,r3,w7⟩
    obtain⟨o,e,d⟩:=Tn.obj _ _ st5 b hb
    exact(I7.pin _ (mF b hb o e)).2.1
   | true=>
    rw [if_pos rfl]at q7 ⊢
    refine thn (he HH.objs.size s2 H2 fp _ s7 _ H7 _ I7 q7) fun y s8 ⟨yv,H8,I8,r8,m',hm',w8⟩=>?_
    have eD8:=(I8.pin _ mD).1
    have nD8:=(I8.pin _ mD).2.1
    have hl:=r3.length
    have q:=PySem.IsL.update eD8 (fun z=>z.push y)
    rw [show its.toArray.push y=(its++[y]).toArray by simp]at q
    refine call_meets PySem.F.slot_list_append ⟨_,eD8,rfl⟩ PySem.F.entry_list_append (PySem.F.args_list_append_2 _ _) (PySem.list_append s2.heap.objs.size its.toArray n y (by rw [List.size_toArray];omega)) ⟨eD8,?_⟩
    have I9:Inv (zY X sc T idx HH.objs.size s2 H2 fp) [] (τ'++zFN σ idx) H8 s8:=I8.pins_of (fun p hp=>nomatch hp)
    have up: ∀b o,b≠s2.heap.objs.size→s8.heap.get? b=some o→(s8.heap.update s2.heap.objs.size (Obj.mapSeq fun z=>z.push y)).get? b=some o:=fun b o hb e=>(Heap.get?_update_other s8.heap _ (Ne.symm hb)).trans e
    refine⟨m',hm',i+1,ys++[yv],its++[y],_,H8,τ',I9.turned (t':=s8.toks) up nD8 hDC (.inr (Nat.le_refl _)) cD (fun p hp=>nomatch hp),l6,?_,fun b hb=>?_,q,nD8,r3.append (.cons r8 .nil),w8⟩
    ·exact Tn.keep _ _ _ st5 fun b hb o e=>up b o (Nat.ne_of_lt (hlt b hb)) (I8.pin _ (mF b hb o e)).1
    ·obtain⟨o,e,d⟩:=Tn.obj _ _ st5 b hb
     exact(I8.pin _ (mF b hb o e)).2.1
 exact codeAny_compStart_list (loop _ rfl) (Tn.self X.A 0 _ _ _ (Tn.keep _ _ _ st2 fun b _ o e=>old b o e) (loop _ rfl))
def PU(X:Cx)(e:Expr)(t:TE):Prop:= ∀(i:Nat)(x:Str)(pos' pos:Pos),X.N.Nodup→X.N[i]? =some x→Loc X.env.scope x→(X.fn x=true∨X.env.scope.names.lookup x=some .local)→
 swapsWith e (some (.Name x pos')) pos.line X.env=pure true→PS X (.Assign [.Name x pos'] e pos) (tAsg t (yCU i))
theorem yHO{elt tg iter:Expr}{ifs:List Expr}{pos:Pos}{sc:Scope}{wi:TI}{g:TG}{tc:Addr→Shared→Hp→List Addr→TT}{te:Addr→Shared→Hp→List Addr→TE}(T:List Str)(idx:List Nat)
  (hi:PI X tg iter wi) (hcalm:X.calm=true) (hB:zLW X.env.scope X.N sc idx=true)
  (hg: ∀C s₂ H1 fp,PG (zY X sc T idx C s₂ H1 fp) tg g)
  (hc: ∀C s₂ H1 fp,yAY (zY X sc T idx C s₂ H1 fp) ifs (tc C s₂ H1 fp))
  (he: ∀C s₂ H1 fp,PE (zY X sc T idx C s₂ H1 fp) elt (te C s₂ H1 fp))
  (hs: ∀x,foldedSetIterable iter X.env x=pure x:=by intro _;rfl):
  PU X (.ListComp elt [⟨tg,iter,ifs,0⟩] sc pos) (yDK wi g tc te T.length idx):=by
 intro i x pos' spos hN hix hx hf hsw pins s σ H D I h
 rw [exec_Assign_Name_used _ _ _ _ hsw]
 refine wpAny_bind (wpAny_standAt (wpAny_bind ?_))
 rw [arm_evalThenUse_ListComp]
 refine wpAny_bind (thn (yDN T idx hi hcalm hB hg hc he hs (use:=assign (.Name x pos') X.env) (Q':=fun _ s'=> ∃σ' H',Inv X pins σ' H' s'∧D.nx σ' H') I h fun Dd C s4 H' I4 fo hm q=>?_) fun _ s' hq=>wpAny_pure (wpAny_pure hq))
 refine wpAny_assign_Name (zQK I4 hN hix hx (show RelV (.ref Dd) (.ref Dd)from rfl) (fun s' I' ⟨a,hs',ha⟩=>?_) hf)
 obtain⟨m,hm⟩:=hm
 have hCa:C≠a:=by
  rintro rfl
  rcases ha with ha | ha
  ·exact fo.2.1 ha
  ·exact fo.2.2.2.2.1 x _ ha rfl
 refine⟨m,hm.sameBut hs' hCa,fun h' hs''=>⟨_,H',?_,q⟩⟩
 exact I'.turned (t':=s'.toks) (fun b o hb e=>(hs''.2 b hb).trans e) fo.1 fo.2.1 fo.2.2.2.1 fo.2.2.2.2.1 fo.2.2.2.2.2
end
end L2
namespace L2
namespace M
open PySem PySem.Spec PyProof.Rows
theorem yMG{A:Around}{s:Shared}{y x:V}{u v:Value}(ry:RelV y u)(rx:RelV x v)(fy:kH y=true)(fx:kH x=true):SeqAt.RcAt A s u v (eqV y x):=by
 cases y with
 | non=>
  cases ry
  cases x with
  | non=>cases rx;exact SeqAt.RcAt.none_none
  | bl b=>cases rx;exact SeqAt.RcAt.none_bool b
  | int b=>obtain⟨t,rfl⟩:=rx;exact SeqAt.RcAt.none_int b t
  | str b=>obtain⟨t,rfl⟩:=rx;exact SeqAt.RcAt.none_str b t
  | _=>exact absurd (show false=true from fx) Bool.false_ne_true
 | bl a=>
  cases ry
  cases x with
  | non=>cases rx;exact SeqAt.RcAt.bool_none a
  | bl b=>cases rx;exact SeqAt.RcAt.bool_bool a b
  | int b=>obtain⟨t,rfl⟩:=rx;exact SeqAt.RcAt.bool_int a b t
  | str b=>obtain⟨t,rfl⟩:=rx;exact SeqAt.RcAt.bool_str a b t
  | _=>exact absurd (show false=true from fx) Bool.false_ne_true
 | int a=>
  obtain⟨t',rfl⟩:=ry
  cases x with
  | non=>cases rx;exact SeqAt.RcAt.int_none a t'
  | bl b=>cases rx;exact SeqAt.RcAt.int_bool a t' b
  | int b=>obtain⟨t,rfl⟩:=rx;exact SeqAt.RcAt.int_int a t' b t
  | str b=>obtain⟨t,rfl⟩:=rx;exact SeqAt.RcAt.int_str a t' b t
  | _=>exact absurd (show false=true from fx) Bool.false_ne_true
 | str a=>
  obtain⟨t',rfl⟩:=ry
  cases x with
  | non=>cases rx;exact SeqAt.RcAt.str_none a t'
  | bl b=>cases rx;exact SeqAt.RcAt.str_bool a t' b
  | int b=>obtain⟨t,rfl⟩:=rx;exact SeqAt.RcAt.str_int a t' b t
  | str b=>obtain⟨t,rfl⟩:=rx;exact SeqAt.RcAt.str_str a t' b t
  | _=>exact absurd (show false=true from fx) Bool.false_ne_true
 | _=>exact absurd (show false=true from fy) Bool.false_ne_true
theorem yMH{A:Around}{s:Shared}{y x:V}{u v:Value}(ry:RelV y u)(rx:RelV x v)(fy:kH y=true)(fx:kH x=true):SeqAt.RcNeAt A s u v (!eqV y x):=by
 cases y with
 | non=>
  cases ry
  cases x with
  | non=>cases rx;exact SeqAt.RcNeAt.none_none
  | bl b=>cases rx;exact SeqAt.RcNeAt.none_bool b
  | int b=>obtain⟨t,rfl⟩:=rx;exact SeqAt.RcNeAt.none_int b t
  | str b=>obtain⟨t,rfl⟩:=rx;exact SeqAt.RcNeAt.none_str b t
  | _=>exact absurd (show false=true from fx) Bool.false_ne_true
 | bl a=>
  cases ry
  cases x with
  | non=>cases rx;exact SeqAt.RcNeAt.bool_none a
  | bl b=>cases rx;exact SeqAt.RcNeAt.bool_bool a b
  | int b=>obtain⟨t,rfl⟩:=rx;exact SeqAt.RcNeAt.bool_int a b t
  | str b=>obtain⟨t,rfl⟩:=rx;exact SeqAt.RcNeAt.bool_str a b t
  | _=>exact absurd (show false=true from fx) Bool.false_ne_true
 | int a=>
  obtain⟨t',rfl⟩:=ry
  cases x with
  | non=>cases rx;exact SeqAt.RcNeAt.int_none a t'
  | bl b=>cases rx;exact SeqAt.RcNeAt.int_bool a t' b
  | int b=>obtain⟨t,rfl⟩:=rx;exact SeqAt.RcNeAt.int_int a t' b t
  | str b=>obtain⟨t,rfl⟩:=rx;exact SeqAt.RcNeAt.int_str a t' b t
  | _=>exact absurd (show false=true from fx) Bool.false_ne_true
 | str a=>
  obtain⟨t',rfl⟩:=ry
  cases x with
  | non=>cases rx;exact SeqAt.RcNeAt.str_none a t'
  | bl b=>cases rx;exact SeqAt.RcNeAt.str_bool a t' b
  | int b=>obtain⟨t,rfl⟩:=rx;exact SeqAt.RcNeAt.str_int a t' b t
  | str b=>obtain⟨t,rfl⟩:=rx;exact SeqAt.RcNeAt.str_str a t' b t
  | _=>exact absurd (show false=true from fx) Bool.false_ne_true
 | _=>exact absurd (show false=true from fy) Bool.false_ne_true
theorem eq_ll{A:Around}{s:Shared}{x:V}{v:Value}{l:Addr}{items:Array Value}(rx:RelV x v)(fx:kH x=true)(hl:s.heap.IsList l items)(hu:A.units<cLine):SeqAt.EqAt A s (.ref l) v false:=by
 cases x with
 | non=>cases rx;exact SeqAt.EqAt.list_none hl hu
 | bl b=>cases rx;exact SeqAt.EqAt.list_bool b hl hu
 | int b=>obtain⟨t,rfl⟩:=rx;exact SeqAt.EqAt.list_int b t hl hu
 | str b=>obtain⟨t,rfl⟩:=rx;exact SeqAt.EqAt.list_str b t hl hu
 | _=>exact absurd (show false=true from fx) Bool.false_ne_true
theorem eq_lr{A:Around}{s:Shared}{x:V}{v:Value}{l:Addr}{items:Array Value}(rx:RelV x v)(fx:kH x=true)(hl:s.heap.IsList l items)(hu:A.units<cLine):SeqAt.EqAt A s v (.ref l) false:=by
 cases x with
 | non=>cases rx;exact SeqAt.EqAt.none_list hl hu
 | bl b=>cases rx;exact SeqAt.EqAt.bool_list b hl hu
 | int b=>obtain⟨t,rfl⟩:=rx;exact SeqAt.EqAt.int_list b t hl hu
 | str b=>obtain⟨t,rfl⟩:=rx;exact SeqAt.EqAt.str_list b t hl hu
 | _=>exact absurd (show false=true from fx) Bool.false_ne_true
theorem yKC{A:Around}{s:Shared}{x:V}{v:Value}{l:Addr}{items:Array Value}(rx:RelV x v)(fx:kH x=true)(hl:s.heap.IsTuple l items)(hu:A.units<cLine):SeqAt.EqAt A s (.ref l) v false:=by
 cases x with
 | non=>cases rx;exact SeqAt.EqAt.tuple_none hl hu
 | bl b=>cases rx;exact SeqAt.EqAt.tuple_bool b hl hu
 | int b=>obtain⟨t,rfl⟩:=rx;exact SeqAt.EqAt.tuple_int b t hl hu
 | str b=>obtain⟨t,rfl⟩:=rx;exact SeqAt.EqAt.tuple_str b t hl hu
 | _=>exact absurd (show false=true from fx) Bool.false_ne_true
theorem yKD{A:Around}{s:Shared}{x:V}{v:Value}{l:Addr}{items:Array Value}(rx:RelV x v)(fx:kH x=true)(hl:s.heap.IsTuple l items)(hu:A.units<cLine):SeqAt.EqAt A s v (.ref l) false:=by
 cases x with
 | non=>cases rx;exact SeqAt.EqAt.none_tuple hl hu
 | bl b=>cases rx;exact SeqAt.EqAt.bool_tuple b hl hu
 | int b=>obtain⟨t,rfl⟩:=rx;exact SeqAt.EqAt.int_tuple b t hl hu
 | str b=>obtain⟨t,rfl⟩:=rx;exact SeqAt.EqAt.str_tuple b t hl hu
 | _=>exact absurd (show false=true from fx) Bool.false_ne_true
theorem rc_ll{A:Around}{s:Shared}{x:V}{v:Value}{l:Addr}{items:Array Value}(rx:RelV x v)(fx:kH x=true)(hl:s.heap.IsList l items)(hu:A.units<cLine):SeqAt.RcAt A s (.ref l) v false:=by
 cases x with
 | non=>cases rx;exact SeqAt.RcAt.list_none hl hu
 | bl b=>cases rx;exact SeqAt.RcAt.list_bool b hl hu
 | int b=>obtain⟨t,rfl⟩:=rx;exact SeqAt.RcAt.list_int b t hl hu
 | str b=>obtain⟨t,rfl⟩:=rx;exact SeqAt.RcAt.list_str b t hl hu
 | _=>exact absurd (show false=true from fx) Bool.false_ne_true
theorem rc_lr{A:Around}{s:Shared}{x:V}{v:Value}{l:Addr}{items:Array Value}(rx:RelV x v)(fx:kH x=true)(hl:s.heap.IsList l items)(hu:A.units<cLine):SeqAt.RcAt A s v (.ref l) false:=by
 cases x with
 | non=>cases rx;exact SeqAt.RcAt.none_list hl hu
 | bl b=>cases rx;exact SeqAt.RcAt.bool_list b hl hu
 | int b=>obtain⟨t,rfl⟩:=rx;exact SeqAt.RcAt.int_list b t hl hu
 | str b=>obtain⟨t,rfl⟩:=rx;exact SeqAt.RcAt.str_list b t hl hu
 | _=>exact absurd (show false=true from fx) Bool.false_ne_true
theorem rc_tl{A:Around}{s:Shared}{x:V}{v:Value}{l:Addr}{items:Array Value}(rx:RelV x v)(fx:kH x=true)(hl:s.heap.IsTuple l items)(hu:A.units<cLine):SeqAt.RcAt A s (.ref l) v false:=by
 cases x with
 | non=>cases rx;exact SeqAt.RcAt.tuple_none hl hu
 | bl b=>cases rx;exact SeqAt.RcAt.tuple_bool b hl hu
 | int b=>obtain⟨t,rfl⟩:=rx;exact SeqAt.RcAt.tuple_int b t hl hu
 | str b=>obtain⟨t,rfl⟩:=rx;exact SeqAt.RcAt.tuple_str b t hl hu
 | _=>exact absurd (show false=true from fx) Bool.false_ne_true
theorem rc_tr{A:Around}{s:Shared}{x:V}{v:Value}{l:Addr}{items:Array Value}(rx:RelV x v)(fx:kH x=true)(hl:s.heap.IsTuple l items)(hu:A.units<cLine):SeqAt.RcAt A s v (.ref l) false:=by
 cases x with
 | non=>cases rx;exact SeqAt.RcAt.none_tuple hl hu
 | bl b=>cases rx;exact SeqAt.RcAt.bool_tuple b hl hu
 | int b=>obtain⟨t,rfl⟩:=rx;exact SeqAt.RcAt.int_tuple b t hl hu
 | str b=>obtain⟨t,rfl⟩:=rx;exact SeqAt.RcAt.str_tuple b t hl hu
 | _=>exact absurd (show false=true from fx) Bool.false_ne_true
theorem rn_ll{A:Around}{s:Shared}{x:V}{v:Value}{l:Addr}{items:Array Value}(rx:RelV x v)(fx:kH x=true)(hl:s.heap.IsList l items)(hu:A.units<cLine):SeqAt.RcNeAt A s (.ref l) v true:=by
 cases x with
 | non=>cases rx;exact SeqAt.RcNeAt.list_none hl hu
 | bl b=>cases rx;exact SeqAt.RcNeAt.list_bool b hl hu
 | int b=>obtain⟨t,rfl⟩:=rx;exact SeqAt.RcNeAt.list_int b t hl hu
 | str b=>obtain⟨t,rfl⟩:=rx;exact SeqAt.RcNeAt.list_str b t hl hu
 | _=>exact absurd (show false=true from fx) Bool.false_ne_true
theorem rn_lr{A:Around}{s:Shared}{x:V}{v:Value}{l:Addr}{items:Array Value}(rx:RelV x v)(fx:kH x=true)(hl:s.heap.IsList l items)(hu:A.units<cLine):SeqAt.RcNeAt A s v (.ref l) true:=by
 cases x with
 | non=>cases rx;exact SeqAt.RcNeAt.none_list hl hu
 | bl b=>cases rx;exact SeqAt.RcNeAt.bool_list b hl hu
 | int b=>obtain⟨t,rfl⟩:=rx;exact SeqAt.RcNeAt.int_list b t hl hu
 | str b=>obtain⟨t,rfl⟩:=rx;exact SeqAt.RcNeAt.str_list b t hl hu
 | _=>exact absurd (show false=true from fx) Bool.false_ne_true
theorem rn_tl{A:Around}{s:Shared}{x:V}{v:Value}{l:Addr}{items:Array Value}(rx:RelV x v)(fx:kH x=true)(hl:s.heap.IsTuple l items)(hu:A.units<cLine):SeqAt.RcNeAt A s (.ref l) v true:=by
 cases x with
 | non=>cases rx;exact SeqAt.RcNeAt.tuple_none hl hu
 | bl b=>cases rx;exact SeqAt.RcNeAt.tuple_bool b hl hu
 | int b=>obtain⟨t,rfl⟩:=rx;exact SeqAt.RcNeAt.tuple_int b t hl hu
 | str b=>obtain⟨t,rfl⟩:=rx;exact SeqAt.RcNeAt.tuple_str b t hl hu
 | _=>exact absurd (show false=true from fx) Bool.false_ne_true
theorem rn_tr{A:Around}{s:Shared}{x:V}{v:Value}{l:Addr}{items:Array Value}(rx:RelV x v)(fx:kH x=true)(hl:s.heap.IsTuple l items)(hu:A.units<cLine):SeqAt.RcNeAt A s v (.ref l) true:=by
 cases x with
 | non=>cases rx;exact SeqAt.RcNeAt.none_tuple hl hu
 | bl b=>cases rx;exact SeqAt.RcNeAt.bool_tuple b hl hu
 | int b=>obtain⟨t,rfl⟩:=rx;exact SeqAt.RcNeAt.int_tuple b t hl hu
 | str b=>obtain⟨t,rfl⟩:=rx;exact SeqAt.RcNeAt.str_tuple b t hl hu
 | _=>exact absurd (show false=true from fx) Bool.false_ne_true
theorem yDO{y:V}(h:kH y=true):eqV y y=true:=by
 cases y<;>first | rfl | (simp [eqV];done) | exact absurd (show false=true from h) Bool.false_ne_true
inductive NK where
 | key (k:Key) | tup (ks:List NK)
noncomputable instance:DecidableEq NK:=fun _ _=>Classical.propDecidable _
section
variable{prog:Program}{w:World}(knd:KeyKind prog w Key)
mutual
def isN(h:Heap):NK→Value→Prop
 | .key k,v=>knd.is k v=true
 | .tup ks,v=> ∃a o items n,v=.ref a∧h.get? a=some o∧o.cls=.type "tuple"∧o.data=.seq items n∧zHR h ks items.toList
def zHR(h:Heap):List NK→List Value→Prop
 | [],vs=>vs=[]
 | k::ks,vs=> ∃v r,vs=v::r∧isN h k v∧zHR h ks r
end
mutual
def zFO:NK→Int
 | .key k=>knd.hash k
 | .tup ks=>reduceHash (Builtin.Tuple.tupleHashOf (zNT ks))
def zNT:List NK→List Int
 | []=>[]
 | k::ks=>zFO k::zNT ks
end
mutual
def zNU:NK→Nat
 | .key _=>1
 | .tup ks=>bP ks+1
def bP:List NK→Nat
 | []=>0
 | k::ks=>zNU k+bP ks
end
mutual
def zMI:NK→Nat
 | .key _=>0
 | .tup ks=>zLX ks+1
def zLX:List NK→Nat
 | []=>0
 | k::ks=>max (zMI k) (zLX ks)
end
variable{knd}
theorem jS{h:Heap}{k:Key}{v:Value}:isN knd h (.key k) v↔knd.is k v=true:=by unfold isN;exact Iff.rfl
theorem kD{h:Heap}{ks:List NK}{v:Value}:isN knd h (.tup ks) v↔ ∃a o items n,v=.ref a∧h.get? a=some o∧o.cls=.type "tuple"∧o.data=.seq items n∧zHR knd h ks items.toList:=by
 conv=>lhs;unfold isN
theorem kS{h:Heap}{vs:List Value}:zHR knd h [] vs↔vs=[]:=by unfold zHR;exact Iff.rfl
theorem xI{h:Heap}{k:NK}{ks:List NK}{vs:List Value}:zHR knd h (k::ks) vs↔ ∃v r,vs=v::r∧isN knd h k v∧zHR knd h ks r:=by
 conv=>lhs;unfold zHR
mutual
theorem zRZ{h:Heap}: ∀{x y:NK}{v:Value},isN knd h x v→isN knd h y v→x=y
 | .key k,.key k',v,hx,hy=>by rw [knd.inj v k k' (jS.mp hx) (jS.mp hy)]
 | .key k,.tup ks,v,hx,hy=>by
  obtain⟨a,o,items,n,rfl,_⟩:=kD.mp hy
  have:=knd.byValue _ _ (jS.mp hx)
  simp [carriedByValue]at this
 | .tup ks,.key k,v,hx,hy=>by
  obtain⟨a,o,items,n,rfl,_⟩:=kD.mp hx
  have:=knd.byValue _ _ (jS.mp hy)
  simp [carriedByValue]at this
 | .tup ks,.tup ks',v,hx,hy=>by
  obtain⟨a,o,items,n,e,ho,_,hd,hi⟩:=kD.mp hx
  obtain⟨a',o',items',n',e',ho',_,hd',hi'⟩:=kD.mp hy
  rw [e]at e'
  cases e'
  obtain rfl:o=o':=Option.some.inj (ho.symm.trans ho')
  rw [hd]at hd'
  injection hd' with h1 _
  subst h1
  rw [zUA hi hi']
theorem zUA{h:Heap}: ∀{xs ys:List NK}{vs:List Value},zHR knd h xs vs→zHR knd h ys vs→xs=ys
 | [],[],_,_,_=>rfl
 | [],y::ys,vs,hx,hy=>by
  obtain⟨v,r,e,_⟩:=xI.mp hy
  rw [kS.mp hx]at e;cases e
 | x::xs,[],vs,hx,hy=>by
  obtain⟨v,r,e,_⟩:=xI.mp hx
  rw [kS.mp hy]at e;cases e
 | x::xs,y::ys,vs,hx,hy=>by
  obtain⟨v,r,e,h1,h2⟩:=xI.mp hx
  obtain⟨v',r',e',h1',h2'⟩:=xI.mp hy
  rw [e]at e'
  cases e'
  rw [zRZ h1 h1',zUA h2 h2']
end
mutual
theorem zUB{h h':Heap}(m: ∀a o items n,h.get? a=some o→o.data=.seq items n→h'.get? a=some o): ∀{x:NK}{v:Value},isN knd h x v→isN knd h' x v
 | .key k,v,hx=>jS.mpr (jS.mp hx)
 | .tup ks,v,hx=>by
  obtain⟨a,o,items,n,e,ho,hc,hd,hi⟩:=kD.mp hx
  exact kD.mpr ⟨a,o,items,n,e,m a o items n ho hd,hc,hd,zQU m hi⟩
theorem zQU{h h':Heap}(m: ∀a o items n,h.get? a=some o→o.data=.seq items n→h'.get? a=some o): ∀{xs:List NK}{vs:List Value},zHR knd h xs vs→zHR knd h' xs vs
 | [],vs,hx=>kS.mpr (kS.mp hx)
 | x::xs,vs,hx=>by
  obtain⟨v,r,e,h1,h2⟩:=xI.mp hx
  exact xI.mpr ⟨v,r,e,zUB m h1,zQU m h2⟩
end
theorem zNV: ∀ks:List NK,zNT knd ks=ks.map (zFO knd)
 | []=>by unfold zNT;rfl
 | k::ks=>by unfold zNT;rw [zNV ks];rfl
theorem zIG:bP []=0:=by rw [bP]
theorem zFP(k:NK)(ks:List NK):bP (k::ks)=zNU k+bP ks:=by rw [bP]
theorem zNW(k:NK)(ks:List NK):zLX (k::ks)=max (zMI k) (zLX ks):=by rw [zLX]
theorem zDJ(ks:List NK):zMI (.tup ks)=zLX ks+1:=by rw [zMI]
theorem zHV: ∀(xs ys:List NK),bP (xs++ys)=bP xs+bP ys
 | [],ys=>by rw [zIG,List.nil_append,Nat.zero_add]
 | x::xs,ys=>by rw [List.cons_append,zFP,zFP,zHV xs ys];omega
theorem zJI{s:Shared}{ks:List NK}{a:Addr}(h:isN knd s.heap (.tup ks) (.ref a)):s.TypeIs (.ref a) "tuple":=by
 obtain⟨a',o,items,n,e,ho,hc,_⟩:=kD.mp h
 cases e
 exact⟨o,ho,hc⟩
theorem zUC: ∀(n:Nat){A:Around}{E:Value→Shared→Prop}{s:Shared}{k:NK}{v:Value}{Q:Int→Shared→Prop},zMI k≤n→A.units+n<cLine→isN knd s.heap k v→Q (zFO knd k) {s with toks:=s.toks+zNU k}→wpAny (model prog w) A (pyHash v) Q E s
 | n,A,E,s,.key k,v,Q,_,_,hk,h=>knd.pyHash (jS.mp hk) (by rw [zFO,zNU]at h;exact h)
 | 0,A,E,s,.tup ks,v,Q,hd,_,_,_=>by rw [zDJ]at hd;omega
 | n+1,A,E,s,.tup ks,v,Q,hdep,hu,hk,h=>by
  obtain⟨a,o,items,m,rfl,ho,hc,hd,hi⟩:=kD.mp hk
  have hT:s.TypeIs (.ref a) "tuple":=⟨o,ho,hc⟩
  rw [zDJ]at hdep
  have hdl: ∀k∈ks,zMI k≤n:=by
   have: ∀ks:List NK,zLX ks≤n→ ∀k∈ks,zMI k≤n:=by
    intro ks
    induction ks with
    | nil=>intro _ k hk;simp at hk
    | cons x xs ih=>
     intro hx k hk
     rw [zNW]at hx
     rcases List.mem_cons.mp hk with rfl | hk
     ·omega
     ·exact ih (by omega) k hk
   exact this ks (by omega)
  rw [zFO,zNU,zNV]at h
  unfold pyHash
  first | unfold pyHashByItsType | skip
  first | refine wpAny_bind (wpAny_cRoomFor_or (.inr (show A.units<cLine by omega)) ?_) | skip
  refine wpAny_bind (wpAny_specialOf hT F.slot_tuple_hash.lookup ?_)
  show wpAny _ _ (if(some (Value.builtin "tuple.__hash__")==some Value.none)=true then _ else _) Q E s
  rw [if_neg (by rw [beq_builtin_none];exact Bool.false_ne_true)]
  refine wpAny_bind (wpAny_specialOf hT F.slot_tuple_hash.lookup ?_)
  show wpAny _ _ (callSpecialIfBoundUnlessNone? (.ref a) "__hash__" _ >>= _) Q E s
  refine wpAny_bind (wpAny_callSpecialIfBoundUnlessNone?_slot hT F.slot_tuple_hash (wpAny_call_entry F.slot_tuple_hash hT F.entry_tuple_hash ?_ (F.args_tuple_hash_1 _)))
  show wpAny _ _ (Builtin.Tuple.tupleItemsOf (.ref a) >>= _) _ _ s
  refine wpAny_bind (wpAny_tupleItemsOf ho hd ?_)
  refine wpAny_bind ?_
  rw [←Array.forIn_toList]
  refine wpAny_forIn_list _
   (fun rest (b:Array Int) s'=> ∃done left,ks=done++left∧zHR knd s.heap left rest∧b.toList=done.map (zFO knd)∧s'={s with toks:=s.toks+bP done})
   _ ?_ ?_ _ _ ⟨[],ks,rfl,hi,rfl,by rw [zIG];rfl⟩
  ·rintro x rest b s' ⟨done,left,rfl,hl,hb,rfl⟩
   cases left with
   | nil=>rw [kS]at hl;cases hl
   | cons k ks'=>
    obtain⟨v,r,e,h1,hl'⟩:=xI.mp hl
    cases e
    refine wpAny_bind (zUC n (hdl k (by simp)) (show A.units+1+n<cLine by omega) h1 ?_)
    have e1:bP (done++[k])=bP done+zNU k:=by rw [zHV,zFP,zIG];rfl
    first
     | exact wpAny_pure ⟨done++[k],ks',by simp,hl',by simp [hb],by simp [Nat.add_assoc,e1]⟩
     | exact wpAny_bind (wpAny_pure (wpAny_pure ⟨done++[k],ks',by simp,hl',by simp [hb],by simp [Nat.add_assoc,e1]⟩))
  ·rintro b s' ⟨done,left,rfl,hl,hb,rfl⟩
   cases left with
   | cons k ks'=>obtain⟨v,r,e,_⟩:=xI.mp hl;cases e
   | nil=>
    rw [List.append_nil]at h
    show wpAny _ _ (retInt (Builtin.Tuple.tupleHashOf b.toList)) _ _ _
    rw [hb]
    refine wpAny_ret_mkInt ?_
    show wpAny _ _ (if(decide (-(2:Int) ^ 63≤Builtin.Tuple.tupleHashOf (done.map (zFO knd)))&&decide (Builtin.Tuple.tupleHashOf (done.map (zFO knd))<2 ^ 63))=true then _ else _) Q E _
    unfold reduceHash at h
    by_cases hr:(decide (-(2:Int) ^ 63≤Builtin.Tuple.tupleHashOf (done.map (zFO knd)))&&decide (Builtin.Tuple.tupleHashOf (done.map (zFO knd))<2 ^ 63))=true
    ·rw [if_pos hr]
     rw [if_pos hr]at h
     exact wpAny_pure (by simpa [Nat.add_assoc]using h)
    ·rw [if_neg hr]
     rw [if_neg hr]at h
     exact wpAny_bind (wpAny_rule (wpAny_pure (by simpa [Nat.add_assoc]using h)))
end
section
variable{prog:Program}{w:World}
abbrev mk(prog:Program)(w:World):KeyKind prog w Key:=jQ prog w
theorem yHP(a b:Key):decide (NK.key a=NK.key b)=decide (a=b):=by
 by_cases h:a=b
 ·subst h;simp
 ·rw [decide_eq_false h,decide_eq_false fun z=>h (NK.key.inj z)]
theorem yMI(a:Key)(b:List NK):decide (NK.key a=NK.tup b)=false:=decide_eq_false fun z=>nomatch z
theorem yMJ(a:Key)(b:List NK):decide (NK.tup b=NK.key a)=false:=decide_eq_false fun z=>nomatch z
theorem yMK(a b:List NK):decide (NK.tup a=NK.tup b)=decide (a=b):=by
 by_cases h:a=b
 ·subst h;simp
 ·rw [decide_eq_false h,decide_eq_false fun z=>h (NK.tup.inj z)]
theorem zUD{k:Key}{v:Value}(h:(mk prog w).is k v=true): ∃x:V,RelV x v∧kH x=true:=by
 rcases xG (show zTV k v=true from h)with⟨i,t,rfl,rfl⟩ | ⟨x,t,rfl,rfl⟩
 ·exact⟨.int i,⟨t,rfl⟩,rfl⟩
 ·exact⟨.str x,⟨t,rfl⟩,rfl⟩
theorem yBB{A:Around}{E:Value→Shared→Prop}{s:Shared}{x y:List NK}{a b:Addr}{P:Fin→Shared→Prop}
  (he: ∀k1∈x, ∀k2 u v (Q:Bool→Shared→Prop),isN (mk prog w) s.heap k1 u→isN (mk prog w) s.heap k2 v→Q (decide (k1=k2)) s→wpAny (model prog w) A (eqBool u v) Q E s)
  (hx:isN (mk prog w) s.heap (.tup x) (.ref a)) (hy:isN (mk prog w) s.heap (.tup y) (.ref b)) (h:P (.done (.ret (.bool (decide (x=y))))) s):
  wpAny (model prog w) A (Builtin.«tuple.__eq__» ⟨[.ref a,.ref b],[]⟩) P E s:=by
 have hTb:=zJI hy
 obtain⟨_,oa,xs,na,e,hoa,_,hda,hia⟩:=kD.mp hx
 cases e
 obtain⟨_,ob,ys,nb,e,hob,_,hdb,hib⟩:=kD.mp hy
 cases e
 show wpAny _ _ (isInstance (.ref b) (.type "tuple") >>= _) _ _ s
 refine wpAny_bind (wpAny_isInstance hTb isSubtype_tuple_tuple ?_)
 simp only [Bool.not_true,Bool.false_eq_true,if_false]
 refine wpAny_bind (wpAny_tupleItemsOf hoa hda ?_)
 refine wpAny_bind (wpAny_tupleItemsOf hob hdb ?_)
 refine wpAny_bind ?_
 refine wpAny_forIn_list _
  (fun rest r s'=>r.1=none∧s'=s∧ ∃x' y' xs' ys',rest=List.zip xs' ys'∧(∀k∈x',k∈x)∧zHR (mk prog w) s.heap x' xs'∧zHR (mk prog w) s.heap y' ys'∧decide (x'=y')=decide (x=y)∧(xs'.length==ys'.length)=(xs.size==ys.size))
  _ ?_ ?_ _ _ ⟨rfl,rfl,x,y,xs.toList,ys.toList,rfl,fun k hk=>hk,hia,hib,rfl,by simp⟩
 ·rintro⟨u,v⟩ rest r s' ⟨hr,rfl,x',y',xs',ys',hz,hm,hx',hy',hdec,hlen⟩
  cases x' with
  | nil=>rw [kS.mp hx']at hz;simp at hz
  | cons k1 x''=>
   cases y' with
   | nil=>rw [kS.mp hy']at hz;simp at hz
   | cons k2 y''=>
    obtain⟨u',xs'',rfl,h1,hx''⟩:=xI.mp hx'
    obtain⟨v',ys'',rfl,h2,hy''⟩:=xI.mp hy'
    simp only [List.zip_cons_cons,List.cons.injEq,Prod.mk.injEq]at hz
    obtain⟨⟨rfl,rfl⟩,rfl⟩:=hz
    refine wpAny_bind (he k1 (hm k1 List.mem_cons_self) k2 _ _ _ h1 h2 ?_)
    by_cases hk:k1=k2
    ·subst hk
     rw [decide_eq_true rfl]
     simp only [Bool.not_true,Bool.false_eq_true,if_false]
     refine wpAny_pure ⟨rfl,rfl,x'',y'',xs'',ys'',rfl,fun k hk=>hm k (List.mem_cons_of_mem _ hk),hx'',hy'',?_,by simpa using hlen⟩
     rw [←hdec]
     by_cases hxy:x''=y''
     ·simp [hxy]
     ·simp [hxy]
    ·rw [decide_eq_false hk]
     simp only [Bool.not_false,if_true]
     have hf:decide (x=y)=false:=by rw [←hdec];simp [hk]
     rw [hf]at h
     exact wpAny_bind (wpAny_pure (wpAny_pure (wpAny_pure h)))
 ·rintro⟨r1,r2⟩ s' ⟨hr,rfl,x',y',xs',ys',hz,hm,hx',hy',hdec,hlen⟩
  simp only at hr
  subst hr
  refine wpAny_pure ?_
  have hfin:(xs.size==ys.size)=decide (x=y):=by
   rw [←hdec, ←hlen]
   cases x' with
   | nil=>
    rw [kS.mp hx']
    cases y' with
    | nil=>rw [kS.mp hy'];simp
    | cons k2 y''=>obtain⟨v',ys'',rfl,h2,hy''⟩:=xI.mp hy';simp
   | cons k1 x''=>
    obtain⟨u',xs'',rfl,h1,hx''⟩:=xI.mp hx'
    cases y' with
    | nil=>rw [kS.mp hy'];simp
    | cons k2 y''=>obtain⟨v',ys'',rfl,h2,hy''⟩:=xI.mp hy';simp at hz
  show P (.done (.ret (.bool (xs.size==ys.size)))) s'
  rw [hfin];exact h
theorem zNX{n:Nat}: ∀{ks:List NK},zLX ks≤n→ ∀k∈ks,zMI k≤n
 | [],_,k,hk=>by simp at hk
 | x::xs,hx,k,hk=>by
  rw [zNW]at hx
  rcases List.mem_cons.mp hk with rfl | hk
  ·omega
  ·exact zNX (by omega) k hk
theorem zUE: ∀(n:Nat){A:Around}{E:Value→Shared→Prop}{s:Shared}{x y:NK}{u v:Value}{Q:Bool→Shared→Prop},zMI x≤n→A.units+n<cLine→isN (mk prog w) s.heap x u→isN (mk prog w) s.heap y v→Q (decide (x=y)) s→wpAny (model prog w) A (eqBool u v) Q E s
 | n,A,E,s,.key a,.key b,u,v,Q,_,_,hx,hy,h=>(mk prog w).eqBool (jS.mp hx) (jS.mp hy) (by rw [yHP]at h;exact h)
 | n,A,E,s,.key a,.tup b,u,v,Q,_,hu,hx,hy,h=>by
  obtain⟨z,rz,fz⟩:=zUD (jS.mp hx)
  obtain⟨l,o,items,m,rfl,ho,hc,hd,_⟩:=kD.mp hy
  rw [yMI]at h
  exact yKD rz fz (items:=items) ⟨o,ho,hc,m,hd⟩ (by omega) prog w E Q h
 | n,A,E,s,.tup a,.key b,u,v,Q,_,hu,hx,hy,h=>by
  obtain⟨z,rz,fz⟩:=zUD (jS.mp hy)
  obtain⟨l,o,items,m,rfl,ho,hc,hd,_⟩:=kD.mp hx
  rw [yMJ]at h
  exact yKC rz fz (items:=items) ⟨o,ho,hc,m,hd⟩ (by omega) prog w E Q h
 | 0,A,E,s,.tup a,.tup b,u,v,Q,hd,_,hx,hy,h=>by rw [zDJ]at hd;omega
 | n+1,A,E,s,.tup x,.tup y,u,v,Q,hd,hu,hx,hy,h=>by
  obtain⟨a,_,_,_,ea,_⟩:=kD.mp hx
  obtain⟨b,_,_,_,eb,_⟩:=kD.mp hy
  subst ea eb
  rw [zDJ]at hd
  rw [yMK]at h
  unfold eqBool
  try with_reducible refine wpAny_holding ?_
  show wpAny _ _ (if(Value.ref a==Value.ref b)=true then _ else _) Q E s
  by_cases hab:(Value.ref a==Value.ref b)=true
  ·rw [if_pos hab]
   have e:a=b:=by have:=eq_of_beq hab;injection this
   subst e
   have:x=y:=NK.tup.inj (zRZ hx hy)
   subst this
   exact wpAny_bind (wpAny_rule (wpAny_pure (by simpa using h)))
  ·rw [if_neg hab]
   refine wpAny_bind (wpAny_richCompare_same_room (op:=.Eq) (zJI hx) (zJI hy) F.slot_tuple_eq
    (wpAny_call_entry F.slot_tuple_eq (zJI hx) F.entry_tuple_eq (yBB (fun k1 hk1 k2 u v Q h1 h2 h3=>zUE n (zNX (by omega) k1 hk1) (show A.units+1+n<cLine by omega) h1 h2 h3) hx hy ⟨_,rfl,(fun e=>nomatch e),wpAny_truthy_bool h⟩) (F.args_tuple_eq_2 _ _)) (by omega))
theorem zYS: ∀(n m:Nat){A:Around}{E:Value→Shared→Prop}{s:Shared}{x:NK}{u:Value}{Q:Bool→Shared→Prop},zMI x≤n→n<m→isN (mk prog w) s.heap x u→Q true s→wpAny (model prog w) A (eqIsQuiet m u) Q E s
 | n,m,A,E,s,.key k,u,Q,_,_,hx,h=>by
  rw [eqIsQuiet_byValue m ((mk prog w).byValue _ _ (jS.mp hx))]
  exact wpAny_pure h
 | 0,m,A,E,s,.tup ks,u,Q,hd,_,hx,h=>by rw [zDJ]at hd;omega
 | n+1,0,A,E,s,.tup ks,u,Q,hd,hm,hx,h=>by omega
 | n+1,m+1,A,E,s,.tup ks,u,Q,hdp,hm,hx,h=>by
  obtain⟨a,o,items,j,rfl,ho,hc,hd,hi⟩:=kD.mp hx
  have hT:s.TypeIs (.ref a) "tuple":=⟨o,ho,hc⟩
  rw [zDJ]at hdp
  unfold eqIsQuiet
  refine wpAny_bind (wpAny_specialOf hT F.slot_tuple_eq.lookup ?_)
  show wpAny _ _ (isInstance (.ref a) (.type "tuple") >>= _) _ _ s
  refine wpAny_bind (wpAny_isInstance hT isSubtype_tuple_tuple ?_)
  simp only [Bool.not_true,Bool.false_eq_true,if_false]
  refine wpAny_bind (wpAny_seqItems ho hd ?_)
  refine wpAny_bind ?_
  show wpAny _ _ (forIn items _ _) _ _ s
  rw [←Array.forIn_toList]
  refine wpAny_forIn_list _ (fun rest r s'=>r.1=none∧s'=s∧ ∃left,(∀k∈left,k∈ks)∧zHR (mk prog w) s.heap left rest) _ ?_ ?_ _ _ ⟨rfl,rfl,ks,fun k hk=>hk,hi⟩
  ·rintro v rest r s' ⟨hr,rfl,left,hm',hl⟩
   cases left with
   | nil=>rw [kS]at hl;cases hl
   | cons k left=>
    obtain⟨v',r',e,h1,h2⟩:=xI.mp hl
    cases e
    refine wpAny_bind (zYS n m (zNX (by omega) k (hm' k List.mem_cons_self)) (by omega) h1 ?_)
    simp only [Bool.not_true,Bool.false_eq_true,if_false]
    exact wpAny_pure ⟨rfl,rfl,left,fun k hk=>hm' k (List.mem_cons_of_mem _ hk),h2⟩
  ·rintro⟨r1,r2⟩ s' ⟨hr,rfl,_⟩
   simp only at hr
   subst hr
   exact wpAny_pure h
end
noncomputable def yDP(prog:Program)(w:World):HeapKind prog w NK where
 is:=fun h k a=>isN (mk prog w) h k (.ref a)∧zMI k≤4
 hash:=zFO (mk prog w)
 draws:=zNU
 room:=fun A=>A.units+4<cLine
 inj:=fun hx hy=>zRZ hx.1 hy.1
 keeps:=fun x ho hd hs=>⟨zUB (fun a o' items n e q=>(hs.2 a fun z=>by
  subst z
  rw [ho]at e;cases e
  rw [hd]at q;cases q).trans e) x.1,x.2⟩
 pyHash:=fun hu hk h=>zUC 4 hk.2 hu hk.1 h
 eqBool:=fun hu hx hy h=>zUE 4 hx.2 hu hx.1 hy.1 h
 quiet:=fun hk h=>zYS 4 8 hk.2 (by decide) hk.1 h
def DN(P:Program)(w:World)(a:Addr)(xs:List (NK×Addr×Value)):HO:=
 .ext fun h=>xs.length≤sizeLine∧(a==sysModules)=false∧ ∃o es ep,h.get? a=some o∧o.ExactDict∧o.data=.dict es ep∧es.toList=xs.map (entryOfKey (yDP P w))∧(xs.map (·.1)).Nodup
end M
end L2
namespace L2
open PySem PySem.Spec PyProof.Rows
def Fly(h:Heap)(e T:Addr)(cls:Value)(d:Option Addr)(fl:Value):Prop:=
 ∃oe vs oT ts,h.get? e=some oe∧oe.cls=cls∧oe.dict=d∧oe.data=.fields vs∧vs[1]? =some (.ref T)∧T≠e∧h.get? T=some oT∧oT.data=.fields ts∧ts[3]? =some fl
def Born(h:Heap)(e:Addr)(cls:Value)(d:Option Addr):Prop:= ∃oe vs,h.get? e=some oe∧oe.cls=cls∧oe.dict=d∧oe.data=.fields vs∧vs[1]? =some .none
structure Mvd(fs:List Addr)(e T:Addr)(h h':Heap):Prop where
 keep: ∀b o,b≠e→b≠T→b∉fs→h.get? b=some o→h'.get? b=some o
 slot: ∀b o,b≠e→b≠T→h.get? b=some o→ ∃sl,h'.get? b=some {o with slots:=sl}
 there: ∀b o,h.get? b=some o→ ∃o',h'.get? b=some o'
theorem Mvd.new{fs:List Addr}{e T T':Addr}{h h1 h2:Heap}(a:Mvd fs e T h h1)(n:h.get? T'=none)(b:Mvd fs e T' h1 h2):Mvd fs e T h h2:=by
 have ne: ∀c o,h.get? c=some o→c≠T':=fun c o q z=>by rw [z,n]at q;cases q
 exact⟨fun c o h1 h2 h3 q=>b.keep c o h1 (ne c o q) h3 (a.keep c o h1 h2 h3 q),fun c o h1 h2 q=>by
  obtain⟨sl,e1⟩:=a.slot c o h1 h2 q
  obtain⟨sl',e2⟩:=b.slot c _ h1 (ne c o q) e1
  exact⟨sl',e2⟩,fun c o q=>let ⟨o',e1⟩:=a.there c o q;b.there c o' e1⟩
theorem zNY(f:Array Value→Array Value)(o:Obj):(Obj.mapFields f o).dict=o.dict:=by
 obtain⟨c,d,dt,sl⟩:=o;cases dt<;>rfl
section
variable{M:Model}{A:Around}{E:Value→Shared→Prop}{s:Shared}{base:Heap}{env:Env}{outer:List Env}{L e T:Addr}{cls:Value}{d:Option Addr}{Q:Unit→Shared→Prop}
theorem yDQ{oe:Obj}{vs:Array Value}{head:Value}{hadNext:Bool}(hfr:A.frames=some (env::outer))(hl:s.heap.FunFrames base (env::outer))(hf:env.frame=some L)
  (he:s.heap.get? e=some oe) (hd:oe.data=.fields vs) (hsz:1<vs.size)
  (h: ∀h' T',s.heap.get? T'=none→Mvd (frs (env::outer)) e e s.heap h'→Fly h' e T' oe.cls oe.dict (rawInt L)→Q () {s with heap:=h'}):
  wpAny M A (do let a ←frameOf env;let pl ←entryPlaceOf L hadNext;let b ←EntryCells.newEntry head a .none (rawInt L) .none pl;setField (.ref e) 1 b) Q E s:=by
 have hene:e∉(env::outer).filterMap (·.frame):=fun hm=>by
  obtain⟨_,o,ho,hnf⟩:=hl.mem hm
  rw [he]at ho;injection ho with ho;subst ho;exact hnf vs hd
 refine wpAny_bind (wpAny_frameOf_fun hfr hl hf fun h₁ hs₁=>?_)
 refine wpAny_bind (wpAny_entryPlaceOf fun pl hpl=>?_)
 unfold EntryCells.newEntry newFields
 refine wpAny_bind (wpAny_newObj_type ?_ (hpl.sizeOk5 _ _ _ _ _))
 have he₁:h₁.get? e=some oe:=(hs₁.2.1 e hene).trans he
 have he₂:=Heap.get?_push_of_some (h:=h₁) {cls:=.type "traceback",dict:=none,data:=.fields ([head,.ref L,.none,rawInt L,.none]++(if pl.isEmpty then List.replicate 6 Value.none else pl)).toArray} he₁
 refine wpAny_setField he₂ hd hsz ?_
 have hTe:h₁.objs.size≠e:=Nat.ne_of_gt (Heap.lt_size he₁)
 have hd₃:=Obj.data_mapFields hd (·.setIfInBounds 1 (Value.ref h₁.objs.size))
 have he₃:=Heap.get?_update_self (Obj.mapFields (·.setIfInBounds 1 (Value.ref h₁.objs.size))) he₂ (Obj.isFreed_of_fields hd₃)
 have hT₃:=(Heap.get?_update_other (h₁.push {cls:=.type "traceback",dict:=none,data:=.fields ([head,.ref L,.none,rawInt L,.none]++(if pl.isEmpty then List.replicate 6 Value.none else pl)).toArray})
  (Obj.mapFields (·.setIfInBounds 1 (Value.ref h₁.objs.size))) (Ne.symm hTe)).trans (Heap.get?_push_size h₁ rfl)
 have keep: ∀b o,b≠e→h₁.get? b=some o→
   ((h₁.push {cls:=.type "traceback",dict:=none,data:=.fields ([head,.ref L,.none,rawInt L,.none]++(if pl.isEmpty then List.replicate 6 Value.none else pl)).toArray}).update e (Obj.mapFields (·.setIfInBounds 1 (Value.ref h₁.objs.size)))).get? b=some o:=
  fun b o hbe hb=>by
   rw [Heap.get?_update_other _ _ (Ne.symm hbe)]
   exact Heap.get?_push_of_some _ hb
 refine h _ h₁.objs.size ?_ ⟨fun b o hbe _ hbf hb=>keep b o hbe ((hs₁.2.1 b hbf).trans hb),fun b o hbe _ hb=>?_,fun b o hb=>?_⟩ ?_
 ·cases q:s.heap.get? h₁.objs.size with
  | none=>rfl
  | some o=>
   obtain⟨sl,hs⟩:=hs₁.2.2 _ o q
   exact absurd (Heap.lt_size hs) (Nat.lt_irrefl _)
 ·obtain⟨sl,hs⟩:=hs₁.2.2 b o hb
  exact⟨sl,keep b _ hbe hs⟩
 ·by_cases hbe:b=e
  ·subst hbe;exact⟨_,he₃⟩
  ·obtain⟨sl,hs⟩:=hs₁.2.2 b o hb
   exact⟨_,keep b _ hbe hs⟩
 ·exact⟨_,_,_,_,he₃,Obj.cls_mapFields _ _,zNY _ _,hd₃,by simp [hsz],hTe,hT₃,rfl,by first | (simp;done) | (rcases hpl with rfl | ⟨_,_,_,_,_,_,_,rfl⟩<;>simp)⟩
theorem zWU(hfr:A.frames=some (env::outer))(hl:s.heap.FunFrames base (env::outer))(hf:env.frame=some L)(hb:Born s.heap e cls d)
  (h: ∀h' T',s.heap.get? T'=none→Mvd (frs (env::outer)) e e s.heap h'→Fly h' e T' cls d (rawInt L)→Q () {s with heap:=h'}):wpAny M A (noteFrame (.ref e) env) Q E s:=by
 obtain⟨oe,vs,he,rfl,rfl,hd,h1⟩:=hb
 unfold noteFrame
 simp only [hf]
 refine wpAny_bind (wpAny_field he hd h1 ?_)
 rw [if_neg (by decide)]
 exact yDQ hfr hl hf he hd (Array.getElem?_eq_some_iff.mp h1).1 h
theorem setT{oT:Obj}{ts:Array Value}{x:Value}{h0:Heap}(hT:h0.get? T=some oT)(hdT:oT.data=.fields ts):Mvd (frs (env::outer)) e T h0 (h0.update T (Obj.mapFields (·.setIfInBounds 3 x))):=by
 have other: ∀b,b≠T→(h0.update T (Obj.mapFields (·.setIfInBounds 3 x))).get? b=h0.get? b:=fun b hb=>Heap.get?_update_other _ _ (Ne.symm hb)
 refine⟨fun b o _ hbT _ hb=>(other b hbT).trans hb,fun b o _ hbT hb=>⟨o.slots,(other b hbT).trans hb⟩,fun b o hb=>?_⟩
 by_cases hbT:b=T
 ·subst hbT
  exact⟨_,Heap.get?_update_self _ hT (Obj.isFreed_of_fields (Obj.data_mapFields hdT _))⟩
 ·exact⟨o,(other b hbT).trans hb⟩
theorem zQV(hfr:A.frames=some (env::outer))(hl:s.heap.FunFrames base (env::outer))(hf:env.frame=some L)(hb:Fly s.heap e T cls d .none)
  (h: ∀h' T',s.heap.get? T'=none→Mvd (frs (env::outer)) e T s.heap h'→Fly h' e T' cls d (rawInt L)→Q () {s with heap:=h'}):wpAny M A (noteFrame (.ref e) env) Q E s:=by
 obtain⟨oe,vs,oT,ts,he,rfl,rfl,hd,h1,hTe,hT,hdT,h3⟩:=hb
 unfold noteFrame
 simp only [hf]
 refine wpAny_bind (wpAny_field he hd h1 ?_)
 rw [if_pos (show(Value.ref T !=Value.none)=true from by simp)]
 refine wpAny_bind (wpAny_field hT hdT h3 ?_)
 rw [if_neg (show¬((Value.none==rawInt L)=true)from by simp [rawInt])]
 refine wpAny_bind (wpAny_setField hT hdT (Array.getElem?_eq_some_iff.mp h3).1 ?_)
 have mv:=setT (env:=env) (outer:=outer) (e:=e) (x:=Value.none) hT hdT
 have other: ∀b,b≠T→(s.heap.update T (Obj.mapFields (·.setIfInBounds 3 Value.none))).get? b=s.heap.get? b:=fun b hb=>Heap.get?_update_other _ _ (Ne.symm hb)
 have noRecord: ∀b o,s.heap.get? b=some o→(∀vs,o.data≠.fields vs)→b≠T:=fun b o hb hnf q=>by
  rw [q,hT]at hb;injection hb with hb;subst hb;exact hnf ts hdT
 refine yDQ (s:={s with heap:=s.heap.update T (Obj.mapFields (·.setIfInBounds 3 Value.none))}) hfr (hl.of_keeps fun b o hb hnf=>⟨o,(other b (noRecord b o hb hnf)).trans hb,rfl⟩) hf ((other e (Ne.symm hTe)).trans he) hd (Array.getElem?_eq_some_iff.mp h1).1
  fun h' T' n m f=>h h' T' ?_ ⟨fun b o hbe hbT hbf hb=>m.keep b o hbe hbe hbf (mv.keep b o hbe hbT hbf hb),fun b o hbe hbT hb=>?_,fun b o hb=>?_⟩ f
 ·cases q:s.heap.get? T' with
  | none=>rfl
  | some o=>
   obtain⟨o',hs⟩:=mv.there _ o q
   have n':(s.heap.update T (Obj.mapFields (·.setIfInBounds 3 Value.none))).get? T'=none:=n
   rw [n']at hs;cases hs
 ·obtain⟨sl,e1⟩:=mv.slot b o hbe hbT hb
  obtain⟨sl',e2⟩:=m.slot b _ hbe hbe e1
  exact⟨sl',e2⟩
 ·obtain⟨o',e1⟩:=mv.there b o hb
  exact m.there b o' e1
theorem zBY{fl:Value}(hb:Fly s.heap e T cls d fl)(h: ∀h',Mvd (frs (env::outer)) e T s.heap h'→Fly h' e T cls d .none→Q () {s with heap:=h'}):wpAny M A (setFlight (.ref e) none) Q E s:=by
 obtain⟨oe,vs,oT,ts,he,rfl,rfl,hd,h1,hTe,hT,hdT,h3⟩:=hb
 have hsz3:3<ts.size:=(Array.getElem?_eq_some_iff.mp h3).1
 unfold setFlight
 refine wpAny_bind (wpAny_field he hd h1 ?_)
 rw [if_pos (show(Value.ref T !=Value.none)=true from by simp)]
 refine wpAny_setField hT hdT hsz3 (h _ (setT hT hdT) ?_)
 exact⟨oe,vs,_,_,(Heap.get?_update_other _ _ hTe).trans he,rfl,rfl,hd,h1,hTe,Heap.get?_update_self _ hT (Obj.isFreed_of_fields (Obj.data_mapFields hdT _)),Obj.data_mapFields hdT _,by simp [hsz3]⟩
theorem zUF(hfr:A.frames=some (env::outer))(hl:s.heap.FunFrames base (env::outer))(hf:env.frame=some L)(hb:Born s.heap e cls d)
  (h: ∀h' T',s.heap.get? T'=none→Mvd (frs (env::outer)) e e s.heap h'→Fly h' e T' cls d .none→Q () {s with heap:=h'}):wpAny M A (leaving env (.ref e)) Q E s:=by
 unfold leaving
 refine wpAny_bind (zWU hfr hl hf hb fun h1 T' n m f=>zBY (env:=env) (outer:=outer) f fun h2 m2 f2=>h h2 T' n (m.new n m2) f2)
theorem zWV(hfr:A.frames=some (env::outer))(hl:s.heap.FunFrames base (env::outer))(hf:env.frame=some L)(hb:Fly s.heap e T cls d .none)
  (h: ∀h' T',s.heap.get? T'=none→Mvd (frs (env::outer)) e T s.heap h'→Fly h' e T' cls d .none→Q () {s with heap:=h'}):wpAny M A (leaving env (.ref e)) Q E s:=by
 unfold leaving
 refine wpAny_bind (zQV hfr hl hf hb fun h1 T' n m f=>zBY (env:=env) (outer:=outer) f fun h2 m2 f2=>h h2 T' n (m.new n m2) f2)
end
end L2
namespace L2
open PySem PySem.Spec PyProof.Rows
theorem ObjOk.here{P:Program}{w:World}{H:Hp}{h:Heap}{a:Addr}{o:HO}(x:ObjOk P w H h a o): ∃ob,h.get? a=some ob:=by
 cases o with
 | lst xs=>obtain⟨_,_,_,_,e⟩:=x;exact⟨_,e⟩
 | tup xs=>obtain⟨_,_,_,ob,e,_⟩:=x;exact⟨_,e⟩
 | dK kvs=>obtain⟨_,_,_,_,o,_,_,e,_⟩:=x;exact⟨_,e⟩
 | dT kvs=>obtain⟨_,_,_,_,o,_,_,e,_⟩:=x;exact⟨_,e⟩
 | set S n=>obtain⟨o,_,_,_,e,_⟩:=x;exact⟨_,e⟩
 | ins C dx fs=>obtain⟨_,_,_,e,_⟩:=x;exact⟨_,e⟩
 | own y=>exact x
 | xd fs=>obtain⟨_,⟨_,_,_,e,_⟩,_⟩:=x;exact⟨_,e⟩
 | rng lo hi=>obtain⟨_,_,_,e⟩:=x;exact⟨_,e⟩
 | frz ob u=>obtain⟨e,_⟩:=x;exact⟨_,e⟩
 | tbl ps=>exact⟨_,(show h.get? a=some _ from x)⟩
 | met f y=>exact⟨_,(show h.get? a=some _ from x)⟩
 | ext φ=>obtain⟨_,e,_⟩:=x;exact e
theorem HOk.none_of{P:Program}{w:World}{H:Hp}{h:Heap}{a:Addr}(x:HOk P w H h)(n:h.get? a=none):H a=none:=by
 cases q:H a with
 | none=>rfl
 | some u=>
  obtain⟨ob,e⟩:=(x a u q).here
  rw [n]at e;cases e
section
variable{X:Cx}{pins:List (Addr×Obj)}{σ:St}{H:Hp}{s:Shared}
theorem Inv.older(J:Inv X pins σ H s)(hex:X.ex=[]){b:Addr}(n:s.heap.get? b=none):X.s₀.heap.get? b=none:=by
 cases q:X.s₀.heap.get? b with
 | none=>rfl
 | some o=>
  obtain⟨o',e⟩:=J.base.there b o q (by rw [hex];simp)
  rw [n]at e;cases e
theorem Inv.moved{e T:Addr}{h':Heap}(J:Inv X pins σ H s)(hex:X.ex=[])(m:Mvd (frs X.stack) e T s.heap h')(ne:X.s₀.heap.get? e=none)(nT:X.s₀.heap.get? T=none)(he:H e=none)(hT:H T=none):
  Un X.fs [] X.H₀ H X.s₀.heap h'∧HOk X.prog X.w H h':=by
 have nex: ∀b:Addr,b∉X.ex:=fun b=>by rw [hex];simp
 have ne1: ∀b o,X.s₀.heap.get? b=some o→b≠e:=fun b o q z=>by rw [z,ne]at q;cases q
 have ne2: ∀b o,X.s₀.heap.get? b=some o→b≠T:=fun b o q z=>by rw [z,nT]at q;cases q
 refine⟨⟨fun b o q n hb _=>?_,fun b o q n hb _=>?_,fun b o q n _=>J.base.free b o q n (nex b),fun b o q _=>?_,J.base.tups,J.base.frzs,J.base.tbls⟩,fun b u q=>(J.hok b u q).stay (fun c v hc r=>?_) (fun _ q=>q) fun _ _ q=>q⟩
 ·refine m.keep b o (ne1 b o q) (ne2 b o q) (fun z=>?_) (J.base.keep b o q n hb (nex b))
  rcases List.mem_cons.mp (J.stkSub b z)with z | z
  ·exact absurd z (Nat.ne_of_lt (Nat.lt_of_lt_of_le (Heap.lt_size q) J.ok.above))
  ·exact hb z
 ·obtain⟨sl,e1⟩:=J.base.slot b o q n hb (nex b)
  obtain⟨sl',e2⟩:=m.slot b _ (ne1 b o q) (ne2 b o q) e1
  exact⟨sl',e2⟩
 ·obtain⟨o',e1⟩:=J.base.there b o q (nex b)
  exact m.there b o' e1
 ·have hc': ∃z,H c=some z:=by
   rcases hc with rfl | hc
   ·exact⟨_,q⟩
   ·exact⟨_,hc⟩
  obtain⟨z,hz⟩:=hc'
  refine m.keep c v (fun y=>by rw [y,he]at hz;cases hz) (fun y=>by rw [y,hT]at hz;cases hz) (fun y=>?_) r
  rw [J.stkFree c y]at hz;cases hz
end
def CXe(P:Program)(w:World):CXT:=fun outer H s E x s'=> ∃e T C d H',x=.ref e∧s'.os=s.os∧AllBare s'.gens∧Un (frs outer) [] H H' s.heap s'.heap∧HOk P w H' s'.heap∧Fly s'.heap e T (.ref C) d .none∧
 s.heap.get? e=none∧s.heap.get? T=none∧H' e=none∧H' T=none∧E (.ref C) d H'
structure XOk(X:Cx)(E:XK):Prop where
 pass:zRP (CXe X.prog X.w) X E
 born: ∀(pins:List (Addr×Obj))(σ:St)(H:Hp)(s:Shared)(e C:Addr)(d:Option Addr),Inv X pins σ H s→Born s.heap e (.ref C) d→X.s₀.heap.get? e=none→H e=none→E (.ref C) d H→X.xe (.ref e) s
section
variable{P:Program}{w:World}{K:PySem.W.Frag}{mg:Str→Option Value}{base:Heap}{N:List Str}{qual:Str}{scope:Scope}{f:Addr}{cd:Value}{A:Around}{outer:List Env}{s:Shared}{H:Hp}{E:XK}
theorem zWW:XOk (zRQ (CXe P w) P w K mg base N qual scope f cd A outer s H E) E:=by
 refine⟨fun pins σ H1 s1 x s2 I h=>?_,fun pins σ H1 s1 e C d J b ne he q=>?_⟩
 ·obtain⟨e,T,C,d,H',rfl,os,bare,un,hok,fl,ne,nT,he,hT,q⟩:=h
  have J:Inv _ pins σ H' s2:=I.call' (ch:=[]) os un hok bare (fun _ z=>nomatch z)
  have ne':=I.older rfl ne
  have nT':=I.older rfl nT
  refine zWV J.ok.frames J.stack rfl fl fun h' T' n m f'=>?_
  obtain⟨u,hk⟩:=J.moved rfl m ne' nT' he hT
  exact⟨e,T',C,d,H',rfl,J.os,J.bare,u,hk,f',ne',J.older rfl n,he,J.hok.none_of n,q⟩
 ·refine zUF J.ok.frames J.stack rfl b fun h' T' n m f'=>?_
  obtain⟨u,hk⟩:=J.moved rfl m ne ne he he
  exact⟨e,T',C,d,H1,rfl,J.os,J.bare,u,hk,f',ne,J.older rfl n,he,J.hok.none_of n,q⟩
end
end L2
namespace L2
open PySem PySem.Spec PyProof.Rows
abbrev bmV:List Value:=[.type "ValueError",.type "Exception",.type "BaseException",.type "object"]
def qn:List Str:=["__class__","__getattribute__","__getattr__","__setattr__","place","number"]
def zDK(h:Heap)(C M:Addr):Prop:=
 ∃nm q N bs hd sn sub ab col dd k0 k1 k2 k3 k5 nw mN,h.get? C=some (excClassObj nm q C N bs (.ref M::bmV) hd sn sub ab col dd k0 k1 k2 k3 k5 nw)∧h.Ns N mN∧(∀n∈qn,mN n=none)∧
  ∃nm q N bs hd sn sub ab col dd k0 k1 k2 k3 k5 nw mN,h.get? M=some (excClassObj nm q M N bs bmV hd sn sub ab col dd k0 k1 k2 k3 k5 nw)∧h.Ns N mN∧(∀n∈qn,mN n=none)
section
variable{Mo:Model}{A:Around}{E:Value→Shared→Prop}{h:Heap}{g:Array GenState}{d:Drawn}{t:Nat}{os:OsState}{C M:Addr}
theorem zDL(O:zDK h C M){base:Value}{Q:Bool→Shared→Prop}(hq:Q ((Value.ref C::.ref M::bmV).contains base) ⟨h,g,d,t,os⟩):wpAny Mo A (isSubtype (.ref C) base) Q E ⟨h,g,d,t,os⟩:=by
 obtain⟨nm,q,N,bs,hd,sn,sub,ab,col,dd,k0,k1,k2,k3,k5,nw,mN,hC,_⟩:=O
 exact wpAny_isSubtype_exc hC hq
theorem zBZ(O:zDK h C M){n:Str}(hn:n∈qn){y:Option Value}(hB:typeLookup (.type "ValueError") n=pure y){Q:Option Value→Shared→Prop}(hq:Q y ⟨h,g,d,t,os⟩):wpAny Mo A (typeLookup (.ref C) n) Q E ⟨h,g,d,t,os⟩:=by
 obtain⟨nm,q,N,bs,hd,sn,sub,ab,col,dd,k0,k1,k2,k3,k5,nw,mN,hC,hN,hmN,_,_,_,_,_,_,_,_,_,_,_,_,_,_,_,_,mM,hM,hNM,hmM⟩:=O
 have hrest:lookupAlong bmV n=pure y:=by
  rw [typeLookup_eq,F.excBase_ValueError.mroIs]at hB
  exact hB
 rw [typeLookup_eq]
 refine wpAny_bind (wpAny_mroOf_exc hC ?_)
 rw [lookupAlong_cons]
 refine wpAny_bind (wpAny_classOwn_exc hC hN ?_)
 rw [hmN n hn,lookupAlong_cons]
 refine wpAny_bind (wpAny_classOwn_exc hM hNM ?_)
 rw [hmM n hn,hrest]
 exact wpAny_pure hq
theorem yDR(O:zDK h C M): ∃o,h.get? C=some o∧o.cls=.type "type"∧ ∃cd,o.data=.cls cd:=by
 obtain⟨_,_,_,_,_,_,_,_,_,_,_,_,_,_,_,_,_,hC,_⟩:=O
 exact⟨_,hC,rfl,_,rfl⟩
end
theorem qn1:("__class__":Str)∈qn:=.head _
theorem qn2:("__getattribute__":Str)∈qn:=.tail _ (.head _)
theorem qn3:("__getattr__":Str)∈qn:=.tail _ (.tail _ (.head _))
theorem yDS:typeLookup (.type "ValueError") "__class__"=pure (some (.builtin "object.__class__")):=by rw [typeLookup_type,builtinLookup_eq_fast];kernel_rfl
theorem yKE:typeLookup (.type "ValueError") "__getattribute__"=pure (some (.builtin "BaseException.__getattribute__")):=by rw [typeLookup_type,builtinLookup_eq_fast];kernel_rfl
theorem zUG:typeLookup (.type "ValueError") "__getattr__"=pure none:=by rw [typeLookup_type,builtinLookup_eq_fast];kernel_rfl
section
variable{prog:Program}{w:World}{A:Around}{E:Value→Shared→Prop}{h:Heap}{g:Array GenState}{d:Drawn}{t:Nat}{os:OsState}{C M a:Addr}{o:Obj}
theorem zWX{R:Result→Shared→Prop}(O:zDK h C M)(hx:h.get? a=some o)(hc:o.cls=.ref C)(hq:R (.ok (.ret (.ref C))) ⟨h,g,d,t,os⟩):
  codeAny (model prog w) A (.call (.builtin "getset_descriptor.__get__") ⟨[.builtin "object.__class__",.ref a,.ref C],[]⟩) R ⟨h,g,d,t,os⟩:=by
 have hT5:(⟨h,g,d,t,os⟩:Shared).TypeIs (.builtin "object.__class__") "getset_descriptor":=F.typeOf_object_class
 have ho:(Value.ref C::.ref M::bmV).contains (.type (".".intercalate ("object.__class__".cutAt '.').dropLast))=true:=by
  rw [F.owner_object_class];simp [List.contains_cons]
 refine codeAny_call_builtin F.slot_gs_get.plain F.entry_gs_get (F.slot_gs_get.check _ _ _ _ _ _ _ _ hT5 (F.args_gs_get _ _ _) ?_)
 repeat (any_goals (first | assumption | (with_reducible refine wpAny_loadPart_at hx ?_;rw [hc]) | (with_reducible refine zDL O ?_;rw [ho]) | wp_step))
 refine⟨Code.quiet_builtin _ (by decide+kernel),codeAny_builtin F.entry_object_class ?_⟩
 repeat (any_goals (first | assumption | (with_reducible refine wpAny_loadPart_at hx ?_;rw [hc]) | wp_step))
theorem zQW{Mo:Model}{nameV:Value}{Q:Unit→Shared→Prop}(O:zDK h C M)(hx:h.get? a=some o)(hc:o.cls=.ref C)(hq:Q () ⟨h,g,d,t,os⟩):wpAny Mo A (checkBuiltinCall "BaseException.__getattribute__" ⟨[.ref a,nameV],[]⟩) Q E ⟨h,g,d,t,os⟩:=by
 have hk:builtinKind "BaseException.__getattribute__"=some .slot:=by decide+kernel
 have hs:splitId "BaseException.__getattribute__"=some ("BaseException","__getattribute__"):=by decide+kernel
 have hb:(Value.ref C::.ref M::bmV).contains (.type "BaseException")=true:=by simp [List.contains_cons]
 have ha:=F.args_bexc_ga (.ref a) nameV
 simp only [checkBuiltinCall,hk,hs]
 refine wpAny_bind ?_
 unfold isInstance
 repeat (first | (with_reducible refine wpAny_loadPart_at hx ?_;rw [hc]) | (with_reducible refine zDL O ?_;rw [hb]) | wp_step)
 exact hq
theorem zSA{tk:Tok}{Q:Fin→Shared→Prop}(O:zDK h C M)(hx:h.get? a=some o)(hc:o.cls=.ref C)(hq:Q (.done (.ret (.ref C))) ⟨h,g,d,t,os⟩):
  wpAny (model prog w) A (Builtin.«object.__getattribute__» ⟨[.ref a,.str "__class__" tk],[]⟩) Q E ⟨h,g,d,t,os⟩:=by
 have hT5:(⟨h,g,d,t,os⟩:Shared).TypeIs (.builtin "object.__class__") "getset_descriptor":=F.typeOf_object_class
 have f5:=F.typeOf_object_class
 have f6:=F.slot_gs_get.lookup
 have f7:=F.slot_gs_set.lookup
 repeat (any_goals (first | assumption | (with_reducible refine wpAny_loadPart_at hx ?_;rw [hc]) | with_reducible refine zBZ O qn1 yDS ?_ | wp_step))
 refine zWX O hx hc ?_
 repeat (any_goals (first | assumption | wp_step))
theorem zUH{tk:Tok}{R:Result→Shared→Prop}(O:zDK h C M)(hx:h.get? a=some o)(hc:o.cls=.ref C)(hq:R (.ok (.ret (.ref C))) ⟨h,g,d,t,os⟩):
  codeAny (model prog w) A (.call (.builtin "BaseException.__getattribute__") ⟨[.ref a,.str "__class__" tk],[]⟩) R ⟨h,g,d,t,os⟩:=
 codeAny_call_builtin F.attrBase_ValueError.ga.plain F.entry_bexc_ga (zQW O hx hc (zSA O hx hc hq))
theorem yBC{tk:Tok}{fill expr:Bool}{Q:Value→Shared→Prop}(O:zDK h C M)(hx:h.get? a=some o)(hc:o.cls=.ref C)(hq:Q (.ref C) ⟨h,g,d,t,os⟩):
  wpAny (model prog w) A (getAttrBy (.ref a) (.str "__class__" tk) fill expr) Q E ⟨h,g,d,t,os⟩:=by
 have f3:=F.attrBase_ValueError.ga.bind (.ref a)
 have hx0:(expr&&onTheHeap (Value.builtin "BaseException.__getattribute__"))=false:=by cases expr<;>rfl
 have hx2:(Value.builtin "BaseException.__getattribute__"==Value.builtin "object.__getattribute__")=false:=by decide+kernel
 have hx1:(onTheHeap (Value.ref C)&&Value.builtin "BaseException.__getattribute__"==Value.builtin "object.__getattribute__")=false:=by rw [hx2];rfl
 repeat (any_goals (first | assumption | (with_reducible refine wpAny_loadPart_at hx ?_;rw [hc]) | with_reducible refine zBZ O qn2 yKE ?_ | with_reducible refine zBZ O qn3 zUG ?_ | wp_step))
 refine zUH O hx hc ?_
 repeat (any_goals (first | assumption | wp_step))
theorem zUI{Q:Option Value→Shared→Prop}(O:zDK h C M)(hx:h.get? a=some o)(hc:o.cls=.ref C)(hq:Q (some (.ref C)) ⟨h,g,d,t+1,os⟩):wpAny (model prog w) A (getAttr? (.ref a) "__class__") Q E ⟨h,g,d,t,os⟩:=by
 unfold getAttr? getAttrBy?
 repeat (any_goals (first | assumption | with_reducible apply yBC O hx hc | wp_step))
theorem yHQ{D:Addr}{dD:Option Addr}{cD:ClassData}{sD:Array (Option Value)}{oC:Obj}{Q:Fin→Shared→Prop}(O:zDK h C M)(hx:h.get? a=some o)(hc:o.cls=.ref C)(hD:h.get? D=some {cls:=.type "type",dict:=dD,data:=.cls cD,slots:=sD})(hC:h.get? C=some oC)(hCc:oC.cls=.type "type")(hCd: ∃cd,oC.data=.cls cd)(hn:(Value.ref C::.ref M::bmV).contains (.ref D)=false)(hq:Q (.done (.ret (.bool false))) ⟨h,g,d,t+1,os⟩):
  wpAny (model prog w) A (Builtin.«isinstance.nested» ⟨[.ref a,.ref D,rawInt 0],[]⟩) Q E ⟨h,g,d,t,os⟩:=by
 have hne:(Value.ref C==Value.ref D)=false:=by
  rw [List.contains_cons,Bool.or_eq_false_iff]at hn
  have:=hn.1
  rw [beq_eq_false_iff_ne]at this ⊢
  exact this.symm
 obtain⟨cd,hCd⟩:=hCd
 obtain⟨c1,c2,c3,c4⟩:=oC
 dsimp only at hCc hCd
 subst hCc hCd
 repeat (any_goals (first | assumption | (with_reducible refine wpAny_loadPart_at hx ?_;rw [hc]) | with_reducible refine wpAny_loadPart_at hD ?_ | with_reducible refine wpAny_loadPart_at hC ?_ | (with_reducible refine zDL O ?_;rw [hn]) | with_reducible apply zUI O hx hc | wp_step))
theorem yBD{Q:Fin→Shared→Prop}(hx:h.get? a=some o)(hc:o.cls=.ref C)(hq:Q (.done (.ret (.bool true))) ⟨h,g,d,t,os⟩):
  wpAny (model prog w) A (Builtin.«isinstance.nested» ⟨[.ref a,.ref C,rawInt 0],[]⟩) Q E ⟨h,g,d,t,os⟩:=by
 repeat (any_goals (first | assumption | (with_reducible refine wpAny_loadPart_at hx ?_;rw [hc]) | wp_step))
theorem yHR{T:String}{Q:Fin→Shared→Prop}(O:zDK h C M)(hx:h.get? a=some o)(hc:o.cls=.ref C)(hty:typeOf (.type T)=pure (.type "type"))(hn:(Value.ref C::.ref M::bmV).contains (.type T)=true)(hq:Q (.done (.ret (.bool true))) ⟨h,g,d,t,os⟩):
  wpAny (model prog w) A (Builtin.«isinstance.nested» ⟨[.ref a,.type T,rawInt 0],[]⟩) Q E ⟨h,g,d,t,os⟩:=by
 have hne:(Value.ref C==Value.type T)=false:=rfl
 repeat (any_goals (first | assumption | (with_reducible refine wpAny_loadPart_at hx ?_;rw [hc]) | (with_reducible refine zDL O ?_;rw [hn]) | wp_step))
end
end L2
namespace L2
namespace M
open PySem PySem.Spec PyProof.Rows
inductive MV where
 | non | bl (b:Bool) | int (i:Int) | str (x:List Nat) | tup (ds:List MV) | scr (ds:List MV) | loc (l:Nat) | typ (n:String)
instance:Inhabited MV:=⟨.non⟩
inductive MO where
 | lst (ds:List MV) | dic (kvs:List (MV×MV)) | ins (c:Str) (fs:List (Str×MV))
abbrev Sto:=List MO
def SqF(K:PySem.W.Frag)(H:Hp)(a:Addr)(xs:List V):Prop:=
 (∃o,H a=some (.frz o (.lst xs)))∨
  ∃(o:Obj)(its:Array Value)(n:Nat),K.lookup a=some o∧o.cls=.type "list"∧o.dict=none∧o.data=.seq its n∧its.size≤sizeLine∧Vals xs its.toList
theorem SqF.l{K:PySem.W.Frag}{H:Hp}{a:Addr}{xs:List V}(h:SqF K H a xs):SqL K H a xs:=by
 rcases h with⟨o,h⟩ | h
 ·exact .inl (.inr ⟨o,h⟩)
 ·exact .inr h
mutual
def Den(K:PySem.W.Frag)(α:List Addr)(H:Hp):MV→V→Prop
 | .non,v=>v=.non
 | .bl b,v=>v=.bl b
 | .int i,v=>v=.int i
 | .str x,v=>v=.str (mkS x)
 | .tup ds,v=> ∃a vs,v=.ref a∧SqT K H a vs∧DenL K α H ds vs
 | .scr ds,v=> ∃a vs,v=.ref a∧SqF K H a vs∧DenL K α H ds vs
 | .loc l,v=> ∃a,v=.ref a∧α[l]? =some a
 | .typ n,v=>v=.ty n
def DenL(K:PySem.W.Frag)(α:List Addr)(H:Hp):List MV→List V→Prop
 | [],vs=>vs=[]
 | d::ds,vs=> ∃v r,vs=v::r∧Den K α H d v∧DenL K α H ds r
end
structure Ex0(α:List Addr)(H:Hp)(α':List Addr)(H':Hp):Prop where
 pre: ∃t,α'=α++t
 tup: ∀b xs,H b=some (.tup xs)→H' b=some (.tup xs)
 frz: ∀b o u,H b=some (.frz o u)→H' b=some (.frz o u)
structure Ext(α:List Addr)(H:Hp)(α':List Addr)(H':Hp):Prop extends Ex0 α H α' H' where
 new: ∀b∈α',b∈α∨H b=none
 keep: ∀b o,H b=some o→b∉α→H' b=some o
 has: ∀b o,H b=some o→ ∃o',H' b=some o'
section
variable{K:PySem.W.Frag}{α α' α'':List Addr}{H H' H'':Hp}
theorem Ext.refl(α:List Addr)(H:Hp):Ext α H α H:=⟨⟨⟨[],by simp⟩,fun _ _ h=>h,fun _ _ _ h=>h⟩,fun b h=>.inl h,fun _ _ h _=>h,fun _ o h=>⟨o,h⟩⟩
theorem Ex0.grow(α t:List Addr)(H:Hp):Ex0 α H (α++t) H:=⟨⟨t,rfl⟩,fun _ _ h=>h,fun _ _ _ h=>h⟩
theorem Ext.free(x:Ext α H α' H'){b:Addr}(h:H' b=none):H b=none:=by
 cases e:H b with
 | none=>rfl
 | some o=>obtain⟨o',h'⟩:=x.has b o e;rw [h]at h';cases h'
theorem Ext.out(x:Ext α H α' H'){b:Addr}{o:HO}(h:H b=some o)(n:b∉α):b∉α':=fun z=>by
 rcases x.new b z with z | z
 ·exact n z
 ·rw [h]at z;cases z
theorem Ext.trans(x:Ext α H α' H')(y:Ext α' H' α'' H''):Ext α H α'' H'' where
 pre:=by
  obtain⟨t,rfl⟩:=x.pre
  obtain⟨u,rfl⟩:=y.pre
  exact⟨t++u,by rw [List.append_assoc]⟩
 new:=fun b h=>(y.new b h).elim (x.new b) fun z=>.inr (x.free z)
 keep:=fun b o h n=>y.keep b o (x.keep b o h n) (x.out h n)
 has:=fun b o h=>let ⟨o',h'⟩:=x.has b o h;y.has b o' h'
 tup:=fun b xs h=>y.tup b xs (x.tup b xs h)
 frz:=fun b o u h=>y.frz b o u (x.frz b o u h)
theorem Ex0.at(x:Ex0 α H α' H'){l:Nat}{a:Addr}(h:α[l]? =some a):α'[l]? =some a:=by
 obtain⟨t,rfl⟩:=x.pre
 rw [List.getElem?_append_left (List.getElem?_eq_some_iff.mp h).1]
 exact h
theorem Ex0.sqT(x:Ex0 α H α' H'){a:Addr}{vs:List V}(q:SqT K H a vs):SqT K H' a vs:=by
 rcases q with(q | ⟨o,q⟩) | q
 ·exact .inl (.inl (x.tup a vs q))
 ·exact .inl (.inr ⟨o,x.frz a o _ q⟩)
 ·exact .inr q
theorem Ex0.sqF(x:Ex0 α H α' H'){a:Addr}{vs:List V}(q:SqF K H a vs):SqF K H' a vs:=by
 rcases q with⟨o,q⟩ | q
 ·exact .inl ⟨o,x.frz a o _ q⟩
 ·exact .inr q
mutual
theorem Den.ex0(x:Ex0 α H α' H'): ∀{d:MV}{v:V},Den K α H d v→Den K α' H' d v
 | .non,_,q=>by unfold Den at q ⊢; exact q
 | .bl _,_,q=>by unfold Den at q ⊢; exact q
 | .int _,_,q=>by unfold Den at q ⊢; exact q
 | .str _,_,q=>by unfold Den at q ⊢; exact q
 | .typ _,_,q=>by unfold Den at q ⊢; exact q
 | .loc _,_,q=>by
  unfold Den at q ⊢
  obtain⟨a,e,h⟩:=q
  exact⟨a,e,x.at h⟩
 | .tup ds,_,q=>by
  unfold Den at q ⊢
  obtain⟨a,vs,e,s,l⟩:=q
  exact⟨a,vs,e,x.sqT s,DenL.ex0 x l⟩
 | .scr ds,_,q=>by
  unfold Den at q ⊢
  obtain⟨a,vs,e,s,l⟩:=q
  exact⟨a,vs,e,x.sqF s,DenL.ex0 x l⟩
theorem DenL.ex0(x:Ex0 α H α' H'): ∀{ds:List MV}{vs:List V},DenL K α H ds vs→DenL K α' H' ds vs
 | [],_,q=>by unfold DenL at q ⊢; exact q
 | d::ds,_,q=>by
  unfold DenL at q ⊢
  obtain⟨v,r,e,a,l⟩:=q
  exact⟨v,r,e,Den.ex0 x a,DenL.ex0 x l⟩
end
theorem Den.ext(x:Ext α H α' H'){d:MV}{v:V}(q:Den K α H d v):Den K α' H' d v:=q.ex0 x.toEx0
theorem DenL.ext(x:Ext α H α' H'){d:List MV}{v:List V}(q:DenL K α H d v):DenL K α' H' d v:=q.ex0 x.toEx0
theorem zDY:Den K α H .non .non:=by unfold Den;rfl
theorem wK(b:Bool):Den K α H (.bl b) (.bl b):=by unfold Den;rfl
theorem xA(i:Int):Den K α H (.int i) (.int i):=by unfold Den;rfl
theorem zAB(x:List Nat):Den K α H (.str x) (.str (mkS x)):=by unfold Den;rfl
theorem zYT(n:String):Den K α H (.typ n) (.ty n):=by unfold Den;rfl
theorem zDZ{ds:List MV}{a:Addr}{vs:List V}(s:SqT K H a vs)(l:DenL K α H ds vs):Den K α H (.tup ds) (.ref a):=by unfold Den;exact⟨a,vs,rfl,s,l⟩
theorem zYU{ds:List MV}{a:Addr}{vs:List V}(s:SqF K H a vs)(l:DenL K α H ds vs):Den K α H (.scr ds) (.ref a):=by unfold Den;exact⟨a,vs,rfl,s,l⟩
theorem zJJ{l:Nat}{a:Addr}(h:α[l]? =some a):Den K α H (.loc l) (.ref a):=by unfold Den;exact⟨a,rfl,h⟩
theorem zAP{v:V}(d:Den K α H .non v):v=.non:=by unfold Den at d;exact d
theorem zDM{b:Bool}{v:V}(d:Den K α H (.bl b) v):v=.bl b:=by unfold Den at d;exact d
theorem hJ{i:Int}{v:V}(d:Den K α H (.int i) v):v=.int i:=by unfold Den at d;exact d
theorem jH{x:List Nat}{v:V}(d:Den K α H (.str x) v):v=.str (mkS x):=by unfold Den at d;exact d
theorem dO{n:String}{v:V}(d:Den K α H (.typ n) v):v=.ty n:=by unfold Den at d;exact d
theorem hU{ds:List MV}{v:V}(d:Den K α H (.tup ds) v): ∃a vs,v=.ref a∧SqT K H a vs∧DenL K α H ds vs:=by unfold Den at d;exact d
theorem dP{ds:List MV}{v:V}(d:Den K α H (.scr ds) v): ∃a vs,v=.ref a∧SqF K H a vs∧DenL K α H ds vs:=by unfold Den at d;exact d
theorem bQ{l:Nat}{v:V}(d:Den K α H (.loc l) v): ∃a,v=.ref a∧α[l]? =some a:=by unfold Den at d;exact d
theorem xP:DenL K α H [] []:=by unfold DenL;rfl
theorem xD{d:MV}{v:V}{ds:List MV}{vs:List V}(a:Den K α H d v)(l:DenL K α H ds vs):DenL K α H (d::ds) (v::vs):=by unfold DenL;exact⟨v,vs,rfl,a,l⟩
theorem DenL.uncons{d:MV}{ds:List MV}{vs:List V}(l:DenL K α H (d::ds) vs): ∃v r,vs=v::r∧Den K α H d v∧DenL K α H ds r:=by unfold DenL at l;exact l
theorem DenL.isnil{vs:List V}(l:DenL K α H [] vs):vs=[]:=by unfold DenL at l;exact l
theorem DenL.length: ∀{ds:List MV}{vs:List V},DenL K α H ds vs→vs.length=ds.length
 | [],_,q=>by rw [q.isnil];rfl
 | d::ds,_,q=>by
  obtain⟨v,r,rfl,_,l⟩:=q.uncons
  rw [List.length_cons,List.length_cons,DenL.length l]
theorem DenL.append: ∀{ds es:List MV}{vs us:List V},DenL K α H ds vs→DenL K α H es us→DenL K α H (ds++es) (vs++us)
 | [],_,_,_,q,l=>by rw [q.isnil];exact l
 | d::ds,_,_,_,q,l=>by
  obtain⟨v,r,rfl,a,l'⟩:=q.uncons
  exact xD a (DenL.append l' l)
theorem DenL.drop: ∀{ds:List MV}{vs:List V}(n:Nat),DenL K α H ds vs→DenL K α H (ds.drop n) (vs.drop n)
 | _,_,0,q=>q
 | [],_,n+1,q=>by rw [q.isnil];exact xP
 | d::ds,_,n+1,q=>by
  obtain⟨v,r,rfl,_,l⟩:=q.uncons
  exact DenL.drop n l
theorem DenL.take: ∀{ds:List MV}{vs:List V}(n:Nat),DenL K α H ds vs→DenL K α H (ds.take n) (vs.take n)
 | _,_,0,q=>xP
 | [],_,n+1,q=>by rw [q.isnil];exact xP
 | d::ds,_,n+1,q=>by
  obtain⟨v,r,rfl,a,l⟩:=q.uncons
  exact xD a (DenL.take n l)
theorem DenL.set{d:MV}{v:V}(a:Den K α H d v): ∀{ds:List MV}{vs:List V}(n:Nat),DenL K α H ds vs→DenL K α H (ds.set n d) (vs.set n v)
 | [],_,_,q=>by rw [q.isnil];exact xP
 | e::ds,_,0,q=>by
  obtain⟨v',r,rfl,a',l⟩:=q.uncons
  exact xD a l
 | e::ds,_,n+1,q=>by
  obtain⟨v',r,rfl,a',l⟩:=q.uncons
  exact xD a' (DenL.set a n l)
theorem DenL.get: ∀{ds:List MV}{vs:List V}{i:Nat}{v:V},DenL K α H ds vs→vs[i]? =some v→ ∃d,ds[i]? =some d∧Den K α H d v
 | [],_,_,_,q,e=>by rw [q.isnil]at e;simp at e
 | d::ds,_,0,_,q,e=>by
  obtain⟨v,r,rfl,a,l⟩:=q.uncons
  simp at e;subst e
  exact⟨d,rfl,a⟩
 | d::ds,_,i+1,_,q,e=>by
  obtain⟨v,r,rfl,a,l⟩:=q.uncons
  obtain⟨d',h1,h2⟩:=DenL.get (i:=i) l (by simpa using e)
  exact⟨d',by simpa using h1,h2⟩
theorem DenL.at{ds:List MV}{vs:List V}{i:Nat}{d:MV}(q:DenL K α H ds vs)(e:ds[i]? =some d): ∃v,vs[i]? =some v∧Den K α H d v:=by
 have hi:i<ds.length:=(List.getElem?_eq_some_iff.mp e).1
 have hv:i<vs.length:=by rw [q.length];exact hi
 obtain⟨d',h1,h2⟩:=q.get (List.getElem?_eq_getElem hv)
 rw [e]at h1;cases h1
 exact⟨_,List.getElem?_eq_getElem hv,h2⟩
theorem DenL.cut{ds:List MV}{vs:List V}(q:DenL K α H ds vs)(lo hi:Option Int):DenL K α H (kR ds lo hi) (zTY vs lo hi):=by
 unfold kR zTY
 rw [q.length]
 exact(q.drop _).take _
theorem zQX: ∀(ns:List Int),DenL K α H (ns.map MV.int) (ns.map V.int)
 | []=>xP
 | b::bs=>xD (xA b) (zQX bs)
end
structure Gm where
 K:PySem.W.Frag
 mg:Str→Option Value
 P:Program
 w:World
abbrev _root_.L2.Cx.g(X:Cx):Gm:=⟨X.K,X.mg,X.prog,X.w⟩
inductive DenF(K:PySem.W.Frag)(α:List Addr)(H:Hp):List (Str×MV)→List (Str×V)→Prop
 | nil:DenF K α H [] []
 | cons {x:Str} {d:MV} {v:V} {fs gs}:Den K α H d v→DenF K α H fs gs→DenF K α H ((x,d)::fs) ((x,v)::gs)
theorem DenF.ex0{K:PySem.W.Frag}{α α':List Addr}{H H':Hp}(x:Ex0 α H α' H'): ∀{fs gs},DenF K α H fs gs→DenF K α' H' fs gs
 | _,_,.nil=>.nil
 | _,_,.cons a l=>.cons (a.ex0 x) (DenF.ex0 x l)
def KeyD:MV→Key→Prop
 | .int i,k=>k=.inl i
 | .str x,k=>k=.inr (mkS x)
 | _,_=>False
inductive DenK(K:PySem.W.Frag)(α:List Addr)(H:Hp):List (MV×MV)→List (Key×V)→Prop
 | nil:DenK K α H [] []
 | cons {k:MV} {k':Key} {d:MV} {v:V} {fs gs}:KeyD k k'→Den K α H d v→DenK K α H fs gs→DenK K α H ((k,d)::fs) ((k',v)::gs)
theorem DenK.ex0{K:PySem.W.Frag}{α α':List Addr}{H H':Hp}(x:Ex0 α H α' H'): ∀{fs gs},DenK K α H fs gs→DenK K α' H' fs gs
 | _,_,.nil=>.nil
 | _,_,.cons k a l=>.cons k (a.ex0 x) (DenK.ex0 x l)
mutual
def nkOf:MV→Option NK
 | .int i=>some (.key (.inl i))
 | .str x=>some (.key (.inr (mkS x)))
 | .tup ds=>(yKF ds).map .tup
 | _=>none
def yKF:List MV→Option (List NK)
 | []=>some []
 | d::ds=>(nkOf d).bind fun k=>(yKF ds).map (k::·)
end
inductive DenN(K:PySem.W.Frag)(α:List Addr)(H:Hp):List (MV×MV)→List (NK×Addr×Value)→Prop
 | nil:DenN K α H [] []
 | cons {k:MV} {nk:NK} {a:Addr} {d:MV} {v:V} {u:Value} {fs xs}:nkOf k=some nk→zMI nk≤4→Den K α H k (.ref a)→Den K α H d v→RelV v u→DenN K α H fs xs→DenN K α H ((k,d)::fs) ((nk,a,u)::xs)
theorem DenN.ex0{K:PySem.W.Frag}{α α':List Addr}{H H':Hp}(x:Ex0 α H α' H'): ∀{fs xs},DenN K α H fs xs→DenN K α' H' fs xs
 | _,_,.nil=>.nil
 | _,_,.cons k e a d r l=>.cons k e (a.ex0 x) (d.ex0 x) r (DenN.ex0 x l)
def ObD(g:Gm)(α:List Addr)(H:Hp)(a:Addr):MO→Prop
 | .lst ds=> ∃vs,H a=some (.lst vs)∧DenL g.K α H ds vs
 | .dic kvs=>(∃ks,H a=some (.dK ks)∧DenK g.K α H kvs ks)∨ ∃xs,H a=some (DN g.P g.w a xs)∧DenN g.K α H kvs xs
 | .ins c fs=> ∃C gs,g.mg c=some (.ref C)∧DenF g.K α H fs gs∧
   ∃oe,H a=some (.ext fun h=>h.get? a=some oe)∧oe.cls=.ref C∧(fs=[]∨ ∃dx od,oe.dict=some dx∧H dx=some (.frz od (.xd gs))∧ ∃vs,oe.data=.fields vs)
theorem ObD.there{g:Gm}{α:List Addr}{H:Hp}{a:Addr}{o:MO}(h:ObD g α H a o): ∃ho,H a=some ho∧(∀xs,ho≠.tup xs)∧ ∀ob u,ho≠.frz ob u:=by
 cases o with
 | lst ds=>obtain⟨vs,h,_⟩:=h;exact⟨_,h,(fun xs z=>by cases z),fun _ _ z=>by cases z⟩
 | dic ds=>
  rcases h with⟨vs,h,_⟩ | ⟨vs,h,_⟩
  ·exact⟨_,h,(fun xs z=>by cases z),fun _ _ z=>by cases z⟩
  ·exact⟨_,h,(fun xs z=>by cases z),fun _ _ z=>by cases z⟩
 | ins c ds=>
  obtain⟨_,_,_,_,_,h,_⟩:=h
  exact⟨_,h,(fun xs z=>by cases z),fun _ _ z=>by cases z⟩
theorem ObD.move{g:Gm}{α α':List Addr}{H H':Hp}{a:Addr}{o:MO}(h:ObD g α H a o)(x:Ex0 α H α' H')(e:H' a=H a):ObD g α' H' a o:=by
 cases o with
 | lst ds=>obtain⟨vs,h,l⟩:=h;exact⟨vs,e.trans h,l.ex0 x⟩
 | dic ds=>
  rcases h with⟨vs,h,l⟩ | ⟨vs,h,l⟩
  ·exact .inl ⟨vs,e.trans h,l.ex0 x⟩
  ·exact .inr ⟨vs,e.trans h,l.ex0 x⟩
 | ins c ds=>
  obtain⟨C,gs,m,l,oe,h,hc,hf⟩:=h
  exact⟨C,gs,m,l.ex0 x,oe,e.trans h,hc,hf.imp id fun⟨dx,od,h1,h2,h3⟩=>⟨dx,od,h1,x.frz _ _ _ h2,h3⟩⟩
structure Wd(g:Gm)(α:List Addr)(S:Sto)(H:Hp):Prop where
 len:α.length=S.length
 nd:α.Nodup
 obj: ∀(l:Nat)(a:Addr)(o:MO),α[l]? =some a→S[l]? =some o→ObD g α H a o
section
variable{g:Gm}{α α':List Addr}{S S':Sto}{H H':Hp}
theorem Wd.of(w:Wd g α S H){l:Nat}{a:Addr}(h:α[l]? =some a): ∃o,S[l]? =some o∧ObD g α H a o:=by
 have hl:l<S.length:=by rw [←w.len];exact(List.getElem?_eq_some_iff.mp h).1
 exact⟨S[l],List.getElem?_eq_getElem hl,w.obj l a _ h (List.getElem?_eq_getElem hl)⟩
theorem Wd.mem(w:Wd g α S H){a:Addr}(h:a∈α): ∃ho,H a=some ho∧(∀xs,ho≠.tup xs)∧ ∀ob u,ho≠.frz ob u:=by
 obtain⟨l,hl⟩:=List.getElem?_of_mem h
 obtain⟨o,_,q⟩:=w.of hl
 exact q.there
theorem Wd.newx(w:Wd g α S H){p:Addr}{o:HO}(hp:H p=none):Ext α H α (upd H p o) where
 pre:=⟨[],by simp⟩
 new:=fun b h=>.inl h
 keep:=fun b o h _=>by rw [zS (yH h hp)];exact h
 has:=fun b o h=>⟨o,by rw [zS (yH h hp)];exact h⟩
 tup:=fun b o h=>by rw [zS (yH h hp)];exact h
 frz:=fun b o u h=>by rw [zS (yH h hp)];exact h
theorem Wd.fresh(w:Wd g α S H){p:Addr}(hp:H p=none):p∉α:=fun z=>by
 obtain⟨_,h,_⟩:=w.mem z;rw [hp]at h;cases h
theorem Wd.new(w:Wd g α S H){p:Addr}{o:HO}(hp:H p=none):Wd g α S (upd H p o):=
 ⟨w.len,w.nd,fun l a ob h1 h2=>(w.obj l a ob h1 h2).move (w.newx hp).toEx0 (zS fun z=>w.fresh hp (by rw [←z];exact List.mem_of_getElem? h1))⟩
theorem Wd.writex(w:Wd g α S H){l:Nat}{a:Addr}{o:HO}(h:α[l]? =some a):Ext α H α (upd H a o) where
 pre:=⟨[],by simp⟩
 new:=fun b h=>.inl h
 keep:=fun b o e n=>by rw [zS fun z=>n (by rw [z];exact List.mem_of_getElem? h)];exact e
 has:=fun b o e=>by
  by_cases z:b=a
  ·subst z;exact⟨_,zX⟩
  ·exact⟨o,by rw [zS z];exact e⟩
 tup:=fun b xs e=>by
  obtain⟨ho,h1,h2,_⟩:=w.mem (List.mem_of_getElem? h)
  rw [zS fun z=>h2 xs (by subst z;rw [e]at h1;exact(Option.some.inj h1).symm)];exact e
 frz:=fun b ob u e=>by
  obtain⟨ho,h1,_,h2⟩:=w.mem (List.mem_of_getElem? h)
  rw [zS fun z=>h2 ob u (by subst z;rw [e]at h1;exact(Option.some.inj h1).symm)];exact e
theorem Wd.ne(w:Wd g α S H){l m:Nat}{a b:Addr}(h:α[l]? =some a)(h':α[m]? =some b)(n:l≠m):a≠b:=by
 rintro rfl
 obtain⟨h1,e1⟩:=List.getElem?_eq_some_iff.mp h
 obtain⟨h2,e2⟩:=List.getElem?_eq_some_iff.mp h'
 exact n ((List.getElem_inj w.nd).mp (e1.trans e2.symm))
theorem Wd.write(w:Wd g α S H){l:Nat}{a:Addr}{o:HO}{ob:MO}(h:α[l]? =some a)(q:ObD g α (upd H a o) a ob):Wd g α (S.set l ob) (upd H a o) where
 len:=by rw [List.length_set];exact w.len
 nd:=w.nd
 obj:=fun m b ob' h1 h2=>by
  by_cases e:l=m
  ·subst e
   rw [h]at h1
   have hl:l<S.length:=by rw [←w.len];exact(List.getElem?_eq_some_iff.mp h).1
   rw [List.getElem?_set_self hl]at h2
   rw [←Option.some.inj h1, ←Option.some.inj h2]
   exact q
  ·rw [List.getElem?_set_ne e]at h2
   exact(w.obj m b ob' h1 h2).move (w.writex h).toEx0 (zS (w.ne h1 h fun z=>e z.symm))
theorem Wd.enterx(w:Wd g α S H){H0:Hp}{α0:List Addr}(x:Ext α0 H0 α H){b:Addr}(h0:H0 b=none)(n:b∉α):Ext α0 H0 (α++[b]) H where
 pre:=let ⟨t,e⟩:=x.pre;⟨t++[b],by rw [e,List.append_assoc]⟩
 new:=fun c hc=>(List.mem_append.mp hc).elim (x.new c) fun z=>.inr (by rw [List.mem_singleton.mp z];exact h0)
 keep:=x.keep
 has:=x.has
 tup:=x.tup
 frz:=x.frz
theorem Wd.enter(w:Wd g α S H){b:Addr}{ds:List MV}{vs:List V}(h:H b=some (.lst vs))(n:b∉α)(l:DenL g.K α H ds vs):Wd g (α++[b]) (S++[.lst ds]) H where
 len:=by rw [List.length_append,List.length_append,w.len];rfl
 nd:=List.nodup_append.mpr ⟨w.nd,by simp,fun a ha c hc=>by rw [List.mem_singleton.mp hc];rintro rfl;exact n ha⟩
 obj:=fun m a o h1 h2=>by
  by_cases hm:m<α.length
  ·rw [List.getElem?_append_left hm]at h1
   rw [List.getElem?_append_left (by rw [←w.len];exact hm)]at h2
   exact(w.obj m a o h1 h2).move (Ex0.grow α [b] H) rfl
  ·have hm':m=α.length:=by
    have:=(List.getElem?_eq_some_iff.mp h1).1
    rw [List.length_append,List.length_singleton]at this
    omega
   subst hm'
   rw [List.getElem?_append_right (Nat.le_refl _),Nat.sub_self]at h1
   rw [List.getElem?_append_right (by rw [w.len];exact Nat.le_refl _),w.len,Nat.sub_self]at h2
   cases h1;cases h2
   exact⟨vs,h,l.ex0 (Ex0.grow α [b] H)⟩
end
end M
end L2
namespace L2
namespace M
open PySem PySem.Spec PyProof.Rows
inductive R(β:Type) where
 | ok (b:β) (S:Sto) | exc (c:Str) (fs:List (Str×MV)) (S:Sto) | no
def R.bind{β γ:Type}:R β→(β→Sto→R γ)→R γ
 | .ok b S,k=>k b S
 | .exc c fs S,_=>.exc c fs S
 | .no,_=>.no
theorem R.bind_ok{β γ:Type}(b:β)(S:Sto)(k:β→Sto→R γ):(R.ok b S).bind k=k b S:=rfl
inductive Er where
 | val (d:MV) | new (ds:List MV)
instance:Inhabited Er:=⟨.val .non⟩
def DenX(K:PySem.W.Frag)(α:List Addr)(H:Hp):Er→V→Prop
 | .val d,v=>Den K α H d v
 | .new ds,v=> ∃b vs,v=.ref b∧H b=some (.lst vs)∧b∉α∧DenL K α H ds vs
def DenE(K:PySem.W.Frag)(H:Hp)(α':List Addr)(H':Hp)(r:Er)(v:V):Prop:=DenX K α' H' r v∧match r with | .new _=> ∀a,v=.ref a→H a=none | _=>True
section
variable{K:PySem.W.Frag}{α α':List Addr}{H H0 H':Hp}
theorem DenX.ext(x:Ext α H α' H'): ∀{r:Er}{v:V},DenX K α H r v→DenX K α' H' r v
 | .val d,_,q=>Den.ext x q
 | .new ds,_,⟨b,vs,e,h,n,l⟩=>⟨b,vs,e,x.keep b _ h n,x.out h n,l.ext x⟩
theorem DenE.val{d:MV}{v:V}(q:Den K α' H' d v):DenE K H α' H' (.val d) v:=⟨q,trivial⟩
theorem DenE.back(hf: ∀b,H b=none→H0 b=none){r:Er}{v:V}(q:DenE K H α' H' r v):DenE K H0 α' H' r v:=by
 refine⟨q.1,?_⟩
 cases r with
 | new ds=>exact fun a e=>hf a (q.2 a e)
 | _=>trivial
theorem DenE.ext{α'':List Addr}{H'':Hp}(x:Ext α' H' α'' H''){r:Er}{v:V}(q:DenE K H α' H' r v):DenE K H α'' H'' r v:=⟨q.1.ext x,q.2⟩
end
section
variable{K:PySem.W.Frag}{α:List Addr}{H:Hp}{v:V}
theorem zIH(d:DenX K α H (.val .non) v):v=.non:=zAP (K:=K) (α:=α) (H:=H) d
theorem zFB{b:Bool}(d:DenX K α H (.val (.bl b)) v):v=.bl b:=zDM (K:=K) (α:=α) (H:=H) d
theorem yV{b:Int}(d:DenX K α H (.val (.int b)) v):v=.int b:=hJ (K:=K) (α:=α) (H:=H) d
theorem kP{b:List Nat}(d:DenX K α H (.val (.str b)) v):v=.str (mkS b):=jH (K:=K) (α:=α) (H:=H) d
theorem yDT{b:String}(d:DenX K α H (.val (.typ b)) v):v=.ty b:=dO (K:=K) (α:=α) (H:=H) d
theorem gH{ds:List MV}(d:DenX K α H (.val (.tup ds)) v): ∃a vs,v=.ref a∧SqT K H a vs∧DenL K α H ds vs:=hU (K:=K) (α:=α) (H:=H) d
theorem zNZ{ds:List MV}(d:DenX K α H (.val (.scr ds)) v): ∃a vs,v=.ref a∧SqF K H a vs∧DenL K α H ds vs:=dP (K:=K) (α:=α) (H:=H) d
theorem dQ{l:Nat}(d:DenX K α H (.val (.loc l)) v): ∃a,v=.ref a∧α[l]? =some a:=bQ (K:=K) (α:=α) (H:=H) d
end
def zHW:List Er→List V→List Addr
 | .new _::rs,.ref b::vs=>b::zHW rs vs
 | _::rs,_::vs=>zHW rs vs
 | _,_=>[]
inductive ArgsE(K:PySem.W.Frag)(H:Hp)(α':List Addr)(H':Hp):List Er→List V→Prop
 | nil:ArgsE K H α' H' [] []
 | cons {r v rs vs}:DenE K H α' H' r v→(∀ds b,r=.new ds→v=.ref b→b∉zHW rs vs)→ArgsE K H α' H' rs vs→ArgsE K H α' H' (r::rs) (v::vs)
theorem ArgsE.nones{K:PySem.W.Frag}{H:Hp}{α':List Addr}{H':Hp}: ∀{rs vs},ArgsE K H α' H' rs vs→ ∀b∈zHW rs vs,H b=none
 | _,_,.nil=>fun b h=>by simp [zHW]at h
 | .val d::_,v::_,.cons a n l=>fun b h=>ArgsE.nones l b (by simpa [zHW]using h)
 | .new ds::_,v::_,.cons a n l=>fun b h=>by
  obtain⟨c,vs,rfl,_⟩:=a.1
  rcases List.mem_cons.mp (show b∈c::zHW _ _ from h)with rfl | h
  ·exact a.2 _ rfl
  ·exact ArgsE.nones l b h
theorem ArgsE.back{K:PySem.W.Frag}{H H0:Hp}{α':List Addr}{H':Hp}(hf: ∀b,H b=none→H0 b=none): ∀{rs vs},ArgsE K H α' H' rs vs→ArgsE K H0 α' H' rs vs
 | _,_,.nil=>.nil
 | _,_,.cons a n l=>.cons (a.back hf) n (ArgsE.back hf l)
theorem ArgsE.length{K:PySem.W.Frag}{H:Hp}{α':List Addr}{H':Hp}: ∀{rs vs},ArgsE K H α' H' rs vs→vs.length=rs.length
 | _,_,.nil=>rfl
 | _,_,.cons _ _ l=>by rw [List.length_cons,List.length_cons,ArgsE.length l]
class Dn (β:Type) (τ:outParam Type) where
 d:Gm→Hp→List Addr→Sto→Hp→β→τ→Prop
 back: ∀{g:Gm}{H H0:Hp}{α':List Addr}{S':Sto}{H':Hp}{b:β}{u:τ},(∀b,H b=none→H0 b=none)→d g H α' S' H' b u→d g H0 α' S' H' b u
instance:Dn Er V:=⟨fun g H α' _ H' r v=>DenE g.K H α' H' r v,fun hf q=>q.back hf⟩
instance:Dn Bool Bool:=⟨fun _ _ _ _ _ b u=>u=b,fun _ q=>q⟩
instance:Dn (List Er) (List V):=⟨fun g H α' _ H' r v=>ArgsE g.K H α' H' r v,fun hf q=>q.back hf⟩
instance:Dn (Option Int) (Option Int):=⟨fun _ _ _ _ _ b u=>u=b,fun _ q=>q⟩
abbrev XW:=Str→List (Str×MV)→Sto→List Addr→Hp→Prop
abbrev W0:XW:=fun _ _ _ _ _=>False
def Post{β τ:Type}[Dn β τ](g:Gm)(W:XW)(α:List Addr)(H:Hp):R β→(τ→Hp→Prop)→Prop
 | .ok b S,Q=> ∀u α' H',Ext α H α' H'→Wd g α' S H'→Dn.d g H α' S H' b u→Q u H'
 | .exc c fs S,_=> ∀α' H',Ext α H α' H'→Wd g α' S H'→W c fs S α' H'
 | .no,_=>False
section
variable{β τ γ υ:Type}[Dn β τ][Dn γ υ]{g:Gm}{W:XW}{α α':List Addr}{H H':Hp}
theorem Post.shift(x:Ext α H α' H'): ∀{m:R β}{Q:τ→Hp→Prop},Post g W α H m Q→Post g W α' H' m Q
 | .ok b S,Q,q=>fun u α2 H2 x2 w2 d2=>q u α2 H2 (x.trans x2) w2 (Dn.back (fun b h=>x.free h) d2)
 | .exc c fs S,_,q=>fun α2 H2 x2 w2=>q α2 H2 (x.trans x2) w2
 | .no,_,q=>q
theorem Post.bind{m:R β}{k:β→Sto→R γ}{Q:υ→Hp→Prop}{Q':τ→Hp→Prop}(q:Post g W α H (m.bind k) Q)
  (f: ∀u b S1 α1 H1,m=.ok b S1→Ext α H α1 H1→Wd g α1 S1 H1→Dn.d g H α1 S1 H1 b u→Post g W α H (k b S1) Q→Q' u H1):Post g W α H m Q':=by
 cases m with
 | ok b S=>exact fun u α1 H1 x w d=>f u b S α1 H1 rfl x w d q
 | exc c fs S=>exact q
 | no=>exact q
theorem Post.here{b:β}{S:Sto}{Q:τ→Hp→Prop}{u:τ}(q:Post g W α H (.ok b S) Q)(w:Wd g α S H)(d:Dn.d g H α S H b u):Q u H:=q u α H (Ext.refl α H) w d
end
theorem Post.val{g:Gm}{W:XW}{α:List Addr}{H:Hp}{d:MV}{S:Sto}{Q:VK}{v:V}(q:Post g W α H (.ok (Er.val d) S) Q)(w:Wd g α S H)(k:Den g.K α H d v):Q v H:=q.here w (DenE.val k)
theorem Post.newl{g:Gm}{W:XW}{α:List Addr}{H:Hp}{ds:List MV}{S:Sto}{Q:VK}{vs:List V}{p:Addr}(q:Post g W α H (.ok (Er.new ds) S) Q)(w:Wd g α S H)(hp:H p=none)(l:DenL g.K α H ds vs):Q (.ref p) (upd H p (.lst vs)):=
 q (.ref p) α _ (w.newx hp) (w.new hp) ⟨⟨p,vs,rfl,zX,w.fresh hp,l.ext (w.newx hp)⟩,fun a e=>by cases e;exact hp⟩
theorem Post.newt{g:Gm}{W:XW}{α:List Addr}{H:Hp}{ds:List MV}{S:Sto}{Q:VK}{vs:List V}{p:Addr}(q:Post g W α H (.ok (Er.val (.tup ds)) S) Q)(w:Wd g α S H)(hp:H p=none)(l:DenL g.K α H ds vs):Q (.ref p) (upd H p (.tup vs)):=
 q (.ref p) α _ (w.newx hp) (w.new hp) (.val (zDZ (.of zX) (l.ext (w.newx hp))))
abbrev Rho:=List (Option MV)
structure Slots(K:PySem.W.Frag)(α:List Addr)(H:Hp)(ρ:Rho)(σ:St):Prop where
 len:σ.length=ρ.length
 slot: ∀(i:Nat)(d:MV),ρ[i]? =some (some d)→ ∃v,σ[i]? =some (some v)∧Den K α H d v
section
variable{K:PySem.W.Frag}{α α':List Addr}{H H':Hp}{ρ:Rho}{σ:St}
theorem Slots.ex0(q:Slots K α H ρ σ)(x:Ex0 α H α' H'):Slots K α' H' ρ σ:=⟨q.len,fun i d e=>let ⟨v,h1,h2⟩:=q.slot i d e;⟨v,h1,h2.ex0 x⟩⟩
theorem Slots.ext(q:Slots K α H ρ σ)(x:Ext α H α' H'):Slots K α' H' ρ σ:=q.ex0 x.toEx0
theorem zYV{α:Type}{l:List α}{i j:Nat}{x y:α}(h:(l.set i x)[j]? =some y):(j=i∧y=x∧i<l.length)∨(j≠i∧l[j]? =some y):=by
 by_cases hj:i=j
 ·subst hj
  by_cases hl:i<l.length
  ·rw [List.getElem?_set_self hl]at h
   exact .inl ⟨rfl,(Option.some.inj h).symm,hl⟩
  ·rw [List.getElem?_eq_none (by rw [List.length_set];omega)]at h;cases h
 ·rw [List.getElem?_set_ne hj]at h
  exact .inr ⟨fun z=>hj z.symm,h⟩
theorem Slots.set(q:Slots K α H ρ σ){i:Nat}{d:MV}{v:V}(h:Den K α H d v):Slots K α H (ρ.set i (some d)) (σ.set i (some v)):=by
 refine⟨by rw [List.length_set,List.length_set];exact q.len,fun j e z=>?_⟩
 rcases zYV z with⟨rfl,e',hl⟩ | ⟨hj,e'⟩
 ·cases e'
  exact⟨v,by rw [List.getElem?_set_self (by rw [q.len];exact hl)],h⟩
 ·obtain⟨u,h1,h2⟩:=q.slot j e e'
  exact⟨u,by rw [List.getElem?_set_ne (Ne.symm hj)];exact h1,h2⟩
end
def Jd(X:Cx)(W:XW){β τ:Type}[Dn β τ](P:(St→Hp→(τ→Hp→Prop)→Prop)→Prop)(f:Rho→Sto→R β):Prop:=
 ∃t,P t∧ ∀α ρ S σ H Q,Wd X.g α S H→Slots X.K α H ρ σ→Post X.g W α H (f ρ S) Q→t σ H Q
abbrev PEm(X:Cx)(W:XW)(e:Expr)(f:Rho→Sto→R Er):Prop:=Jd X W (PE X e) f
abbrev PTm(X:Cx)(W:XW)(e:Expr)(f:Rho→Sto→R Bool):Prop:=Jd X W (PT X e) f
abbrev PWm(X:Cx)(W:XW)(e:Expr)(f:Rho→Sto→R Bool):Prop:=Jd X W (PW X e) f
abbrev PAm(X:Cx)(W:XW)(es:List Expr)(f:Rho→Sto→R (List Er)):Prop:=Jd X W (PA X es) f
abbrev POm(X:Cx)(W:XW)(e:Option Expr)(f:Rho→Sto→R (Option Int)):Prop:=Jd X W (PO X e) f
section
variable{X:Cx}{W:XW}{a b c e:Expr}{es:List Expr}{f g h:Rho→Sto→R Er}{tf tg:Rho→Sto→R Bool}{af:Rho→Sto→R (List Er)}{pos:Pos}
def zE:Option (Option MV)→Sto→R Er
 | some (some d),S=>.ok (.val d) S
 | _,_=>.no
theorem zB(i:Nat){x:Str}(hN:X.N[i]? =some x:=by rfl)(hv:Vis X.env.scope x:=by first | exact Or.inl rfl | exact Or.inr (Or.inl rfl) | exact Or.inr (Or.inr rfl))(hd:(x==("__debug__":Str))=false:=by decide)
  (hcd:(x==("__classdict__":Str))=false:=by decide):PEm X W (.Name x pos) (fun ρ S=>zE (ρ[i]?) S):=by
 refine⟨_,pv i hN hv hd hcd,fun α ρ S σ H Q wd sl q=>?_⟩
 dsimp only at q
 cases z:ρ[i]? with
 | none=>rw [z]at q;exact q.elim
 | some o=>
  cases o with
  | none=>rw [z]at q;exact q.elim
  | some d=>
   rw [z]at q
   obtain⟨v,h1,h2⟩:=sl.slot i d z
   exact⟨v,h1,Post.val q wd h2⟩
theorem zF{i:Int}{j:Nat}:PEm X W (.Constant (.int i) j pos) (fun _ S=>.ok (.val (.int i)) S):=⟨_,yCR,fun α ρ S σ H Q wd sl q=>Post.val q wd (xA i)⟩
theorem nX{i:Bool}{j:Nat}:PEm X W (.Constant (.bool i) j pos) (fun _ S=>.ok (.val (.bl i)) S):=⟨_,pe_bl,fun α ρ S σ H Q wd sl q=>Post.val q wd (wK i)⟩
theorem zCG{j:Nat}:PEm X W (.Constant .none j pos) (fun _ S=>.ok (.val .non) S):=⟨_,yLC,fun α ρ S σ H Q wd sl q=>Post.val q wd zDY⟩
theorem zW{x:Str}{j:Nat}(cs:List Nat)(hx:x=mkS cs:=by rfl):PEm X W (.Constant (.str x) j pos) (fun _ S=>.ok (.val (.str cs)) S):=
 ⟨_,yCS,fun α ρ S σ H Q wd sl q=>Post.val q wd (by rw [hx];exact zAB cs)⟩
theorem zSB{x:Str}{i:Int}{t:Tok}(hg:Gl X x)(hm:X.mg x=some (.int i t))(hd:(x==("__debug__":Str))=false:=by decide):PEm X W (.Name x pos) (fun _ S=>.ok (.val (.int i)) S):=
 ⟨_,zYL (v:=.int i) hg hm ⟨t,rfl⟩ hd,fun α ρ S σ H Q wd sl q=>Post.val q wd (xA i)⟩
theorem cY{x:Str}{T:String}(hg:Gl X x)(hm:X.mg x=none)(hv:bootBuiltins x=some (.type T))(hn:x≠"__name__":=by decide)(hd:(x==("__debug__":Str))=false:=by decide):PEm X W (.Name x pos) (fun _ S=>.ok (.val (.typ T)) S):=
 ⟨_,zYM (v:=.ty T) hg hm hv rfl hn hd,fun α ρ S σ H Q wd sl q=>Post.val q wd (zYT T)⟩
theorem zSC{i:Int}{j:Nat}{p3:Pos}:PEm X W (.UnaryOp .USub (.Constant (.int i) j p3) pos) (fun _ S=>.ok (.val (.int (-i))) S):=
 ⟨_,pe_un yLS yCR,fun α ρ S σ H Q wd sl q=>⟨i,rfl,Post.val q wd (xA (-i))⟩⟩
def Op2(X:Cx)(W:XW)(r:R2)(F:Er→Er→Sto→R Er):Prop:= ∀p q x y α S H Q,Wd X.g α S H→DenX X.K α H p x→DenX X.K α H q y→Post X.g W α H (F p q S) Q→r x y H Q
theorem two{r:R2}{F:Er→Er→Sto→R Er}(hF:Op2 X W r F){ta tb:TE}(fa: ∀α ρ S σ H Q,Wd X.g α S H→Slots X.K α H ρ σ→Post X.g W α H (f ρ S) Q→ta σ H Q)
  (fb: ∀α ρ S σ H Q,Wd X.g α S H→Slots X.K α H ρ σ→Post X.g W α H (g ρ S) Q→tb σ H Q) {α:List Addr} {ρ:Rho} {S:Sto} {σ:St} {H:Hp} {Q:VK} (wd:Wd X.g α S H) (sl:Slots X.K α H ρ σ)
  (q:Post X.g W α H ((f ρ S).bind fun p S1=>(g ρ S1).bind fun q S2=>F p q S2) Q):ta σ H fun x H1=>tb σ H1 fun y H2=>r x y H2 Q:=
 fa α ρ S σ H _ wd sl (q.bind fun u p S1 α1 H1 e1 x1 w1 d1 q1=>fb α1 ρ S1 σ H1 _ w1 (sl.ext x1) ((q1.shift x1).bind fun u2 p2 S2 α2 H2 e2 x2 w2 d2 q2=>
  hF p p2 u u2 α2 S2 H2 Q w2 (d1.1.ext x2) d2.1 (q2.shift x2)))
theorem zQY{op:Operator}{r:R2}{F:Er→Er→Sto→R Er}(ho:OpR X (binaryOp op) r)(hF:Op2 X W r F)(ha:PEm X W a f)(hb:PEm X W b g):PEm X W (.BinOp a op b pos) (fun ρ S=>(f ρ S).bind fun p S1=>(g ρ S1).bind fun q S2=>F p q S2):=by
 obtain⟨ta,ha,fa⟩:=ha
 obtain⟨tb,hb,fb⟩:=hb
 exact⟨_,pe_op ho ha hb,fun α ρ S σ H Q wd sl q=>two hF fa fb wd sl q⟩
theorem zSD{op:CmpOp}{r:R2}{F:Er→Er→Sto→R Er}(ho:OpR X (compareOp op) r)(hF:Op2 X W r F)(ha:PEm X W a f)(hb:PEm X W b g)(hm:behindInMarks op b=false:=by first | exact yCY _ | with_unfolding_all rfl):
  PEm X W (.Compare a [op] [b] pos) (fun ρ S=>(f ρ S).bind fun p S1=>(g ρ S1).bind fun q S2=>F p q S2):=by
 obtain⟨ta,ha,fa⟩:=ha
 obtain⟨tb,hb,fb⟩:=hb
 exact⟨_,yHB ho ha hb hm,fun α ρ S σ H Q wd sl q=>two hF fa fb wd sl q⟩
theorem pm_ix{r:R2}{F:Er→Er→Sto→R Er}(ho:IxR X r)(hF:Op2 X W r F)(ha:PEm X W a f)(hb:PEm X W b g)(hs:zRT b:=by exact fun _ _=>rfl):
  PEm X W (.Subscript a b pos) (fun ρ S=>(f ρ S).bind fun p S1=>(g ρ S1).bind fun q S2=>F p q S2):=by
 obtain⟨ta,ha,fa⟩:=ha
 obtain⟨tb,hb,fb⟩:=hb
 exact⟨_,pe_ix ho ha hb hs,fun α ρ S σ H Q wd sl q=>two hF fa fb wd sl q⟩
def asB:Er→Sto→R Bool
 | .val (.bl b),S=>.ok b S
 | _,_=>.no
theorem zUJ{p:Er}{S:Sto}{α:List Addr}{H:Hp}{Q:Bool→Hp→Prop}(q:Post X.g W α H (asB p S) Q): ∃k,p=.val (.bl k)∧Post X.g W α H (.ok k S) Q:=by
 unfold asB at q
 split at q
 ·exact⟨_,rfl,q⟩
 ·exact q.elim
theorem zOA{β τ:Type}[Dn β τ]{p:Er}{S:Sto}{α:List Addr}{H:Hp}{k:Bool→Sto→R β}{Q:τ→Hp→Prop}(q:Post X.g W α H ((asB p S).bind k) Q): ∃c,p=.val (.bl c)∧Post X.g W α H (k c S) Q:=by
 unfold asB at q
 split at q
 ·exact⟨_,rfl,q⟩
 ·exact q.elim
theorem zFQ{op:CmpOp}{r:R2}{F:Er→Er→Sto→R Er}(ho:OpR X (compareOp op) r)(hF:Op2 X W r F)(ha:PEm X W a f)(hb:PEm X W b g)(hm:behindInMarks op b=false:=by first | exact yCY _ | with_unfolding_all rfl):
  PTm X W (.Compare a [op] [b] pos) (fun ρ S=>((f ρ S).bind fun p S1=>(g ρ S1).bind fun q S2=>F p q S2).bind asB):=by
 obtain⟨ta,ha,fa⟩:=ha
 obtain⟨tb,hb,fb⟩:=hb
 refine⟨_,yHC ho ha hb hm,fun α ρ S σ H Q wd sl q=>?_⟩
 refine two hF fa fb wd sl (Q:=fun x H'=> ∃k,x=.bl k∧Q k H') (q.bind fun u p S1 α1 H1 e1 x1 w1 d1 q1=>?_)
 obtain⟨k,rfl,q2⟩:=zUJ (q1.shift x1)
 exact⟨k,zFB d1.1,q2.here w1 rfl⟩
def chF(F G:Er→Er→Sto→R Er)(p q:Er)(S:Sto)(k:Sto→R Er):R Er:=(F p q S).bind fun z S1=>(asB z S1).bind fun c S2=>if c=true then(k S2).bind fun r S3=>G q r S3 else .ok (.val (.bl false)) S2
theorem chain{r r':R2}{F G:Er→Er→Sto→R Er}(hF:Op2 X W r F)(hG:Op2 X W r' G){ta tb tc:TE}(fa: ∀α ρ S σ H Q,Wd X.g α S H→Slots X.K α H ρ σ→Post X.g W α H (f ρ S) Q→ta σ H Q)
  (fb: ∀α ρ S σ H Q,Wd X.g α S H→Slots X.K α H ρ σ→Post X.g W α H (g ρ S) Q→tb σ H Q) (fc: ∀α ρ S σ H Q,Wd X.g α S H→Slots X.K α H ρ σ→Post X.g W α H (h ρ S) Q→tc σ H Q) {α:List Addr} {ρ:Rho} {S:Sto} {σ:St} {H:Hp} {Q:VK} (wd:Wd X.g α S H) (sl:Slots X.K α H ρ σ)
  (q:Post X.g W α H ((f ρ S).bind fun p S1=>(g ρ S1).bind fun q S2=>chF F G p q S2 fun S3=>h ρ S3) Q):zWL r r' ta tb tc σ H Q:=
 fa α ρ S σ H _ wd sl (q.bind fun u p S1 α1 H1 e1 x1 w1 d1 q1=>fb α1 ρ S1 σ H1 _ w1 (sl.ext x1) ((q1.shift x1).bind fun u2 p2 S2 α2 H2 e2 x2 w2 d2 q2=>by
  refine hF p p2 u u2 α2 S2 H2 _ w2 (d1.1.ext x2) d2.1 (Post.bind (q2.shift x2) fun u3 p3 S3 α3 H3 e3 x3 w3 d3 q3=>?_)
  obtain⟨k,rfl,q4⟩:=zOA (q3.shift x3)
  refine⟨k,zFB d3.1,?_⟩
  cases k with
  | true=>
   rw [if_pos rfl]at q4 ⊢
   exact fc α3 ρ S3 σ H3 _ w3 (((sl.ext x1).ext x2).ext x3) (q4.bind fun u5 p5 S5 α5 H5 e5 x5 w5 d5 q5=>hG p2 p5 u2 u5 α5 S5 H5 Q w5 ((d2.1.ext x3).ext x5) d5.1 (q5.shift x5))
  | false=>
   rw [if_neg Bool.false_ne_true]at q4 ⊢
   exact Post.val q4 w3 (wK false)))
theorem zOB{op op':CmpOp}{r r':R2}{F G:Er→Er→Sto→R Er}(ho:OpR X (compareOp op) r)(ho':OpR X (compareOp op') r')(hF:Op2 X W r F)(hG:Op2 X W r' G)(ha:PEm X W a f)(hb:PEm X W b g)(hc:PEm X W c h)
  (hm:lastMarks [op,op'] [b,c]=false:=by with_unfolding_all rfl):
  PEm X W (.Compare a [op,op'] [b,c] pos) (fun ρ S=>(f ρ S).bind fun p S1=>(g ρ S1).bind fun q S2=>chF F G p q S2 fun S3=>h ρ S3):=by
 obtain⟨ta,ha,fa⟩:=ha
 obtain⟨tb,hb,fb⟩:=hb
 obtain⟨tc,hc,fc⟩:=hc
 exact⟨_,yCZ ho ho' ha hb hc hm,fun α ρ S σ H Q wd sl q=>chain hF hG fa fb fc wd sl q⟩
theorem yDU{op op':CmpOp}{r r':R2}{F G:Er→Er→Sto→R Er}(ho:OpR X (compareOp op) r)(ho':OpR X (compareOp op') r')(hF:Op2 X W r F)(hG:Op2 X W r' G)(ha:PEm X W a f)(hb:PEm X W b g)(hc:PEm X W c h)
  (hm:lastMarks [op,op'] [b,c]=false:=by with_unfolding_all rfl):
  PTm X W (.Compare a [op,op'] [b,c] pos) (fun ρ S=>((f ρ S).bind fun p S1=>(g ρ S1).bind fun q S2=>chF F G p q S2 fun S3=>h ρ S3).bind asB):=by
 obtain⟨ta,ha,fa⟩:=ha
 obtain⟨tb,hb,fb⟩:=hb
 obtain⟨tc,hc,fc⟩:=hc
 refine⟨_,yDA ho ho' ha hb hc hm,fun α ρ S σ H Q wd sl q=>?_⟩
 refine chain hF hG fa fb fc wd sl (Q:=fun x H'=> ∃k,x=.bl k∧Q k H') (q.bind fun u p S1 α1 H1 e1 x1 w1 d1 q1=>?_)
 obtain⟨k,rfl,q2⟩:=zUJ (q1.shift x1)
 exact⟨k,zFB d1.1,q2.here w1 rfl⟩
def gF:Er→Sto→R Bool
 | .val .non,S=>.ok false S
 | .val (.bl b),S=>.ok b S
 | .val (.int i),S=>.ok (i !=0) S
 | .val (.str x),S=>if x.length≤sizeLine then .ok (!x.isEmpty) S else .no
 | .val (.tup ds),S=>.ok (!ds.isEmpty) S
 | .val (.scr ds),S=>.ok (!ds.isEmpty) S
 | .val (.loc l),S=>match S[l]? with
  | some (.lst ds)=>.ok (!ds.isEmpty) S
  | _=>.no
 | .val (.typ _),_=>.no
 | .new ds,S=>.ok (!ds.isEmpty) S
theorem zGZ{ds:List MV}{vs:List V}{K:PySem.W.Frag}{α:List Addr}{H:Hp}(l:DenL K α H ds vs):(!vs.isEmpty)= !ds.isEmpty:=by
 have:=l.length
 cases ds<;>cases vs<;>simp_all
theorem yDV{p:Er}{x:V}{S:Sto}{α:List Addr}{H:Hp}{Q:Bool→Hp→Prop}(wd:Wd X.g α S H)(d:DenX X.K α H p x)(q:Post X.g W α H (gF p S) Q): ∃k,TruV X.K x H k∧Q k H:=by
 match p,d,q with
 | .val .non,d,q=>cases zIH d;exact⟨_,rfl,q.here wd rfl⟩
 | .val (.bl b),d,q=>cases zFB d;exact⟨_,rfl,q.here wd rfl⟩
 | .val (.int i),d,q=>cases yV d;exact⟨_,rfl,q.here wd rfl⟩
 | .val (.typ n),d,q=>exact q.elim
 | .val (.str z),d,q=>
  cases kP d
  have q':Post X.g W α H (if z.length≤sizeLine then R.ok (!z.isEmpty) S else R.no) Q:=q
  split at q'
  ·rename_i hz
   refine⟨_,⟨by rw [jC];exact hz,?_⟩,q'.here wd rfl⟩
   rw [jC]
   cases z with
   | nil=>rfl
   | cons c r=>
    have h0:((r.length:Int)+1)≠0:=by omega
    simp [h0]
  ·exact q'.elim
 | .val (.tup ds),d,q=>
  obtain⟨a,vs,rfl,s,l⟩:=gH d
  exact⟨_,.inr (.inl ⟨vs,s,(zGZ l).symm⟩),q.here wd rfl⟩
 | .val (.scr ds),d,q=>
  obtain⟨a,vs,rfl,s,l⟩:=zNZ d
  exact⟨_,.inl ⟨vs,s.l,(zGZ l).symm⟩,q.here wd rfl⟩
 | .val (.loc n),d,q=>
  obtain⟨a,rfl,h⟩:=dQ d
  obtain⟨o,h1,h2⟩:=wd.of h
  have q':Post X.g W α H (match S[n]? with | some (.lst ds)=>R.ok (!ds.isEmpty) S | _=>R.no) Q:=q
  rw [h1]at q'
  cases o with
  | lst ds=>
   obtain⟨vs,h3,l⟩:=h2
   exact⟨_,.inl ⟨vs,.of h3,(zGZ l).symm⟩,q'.here wd rfl⟩
  | dic ds=>exact q'.elim
  | ins c fs=>exact q'.elim
 | .new ds,⟨a,vs,ex,s,n,l⟩,q=>subst ex;exact⟨_,.inl ⟨vs,.of s,(zGZ l).symm⟩,q.here wd rfl⟩
theorem yE(ha:PEm X W a f)(he: ∀whole,isTrue a X.env whole=(do let v ←whole;standAt a.pos;holding [v] (truthy v)):=by intro _;rfl):PTm X W a (fun ρ S=>(f ρ S).bind gF):=by
 obtain⟨ta,ha,fa⟩:=ha
 exact⟨_,yDB ha he,fun α ρ S σ H Q wd sl q=>fa α ρ S σ H _ wd sl (q.bind fun u p S1 α1 H1 e1 x1 w1 d1 q1=>yDV w1 d1.1 (q1.shift x1))⟩
end
end M
end L2
namespace L2
namespace M
open PySem PySem.Spec PyProof.Rows
section
variable{X:Cx}{W:XW}{a b c e:Expr}{es:List Expr}{f g h:Rho→Sto→R Er}{tf tg:Rho→Sto→R Bool}{af:Rho→Sto→R (List Er)}{pos:Pos}
def zII(p:Er)(S:Sto)(k:Sto→R Er):R Er:=(asB p S).bind fun c S1=>if c=true then k S1 else .ok (.val (.bl false)) S1
theorem zOC{op}(ha:PEm X W a f):PEm X W (.BoolOp op [a] pos) f:=let ⟨t,h,k⟩:=ha;⟨t,yLG h,k⟩
theorem zOD(ha:PEm X W a f)(hb:PEm X W (.BoolOp .And (b::es) pos) g):PEm X W (.BoolOp .And (a::b::es) pos) (fun ρ S=>(f ρ S).bind fun p S1=>zII p S1 fun S2=>g ρ S2):=by
 obtain⟨ta,ha,fa⟩:=ha
 obtain⟨tb,hb,fb⟩:=hb
 refine⟨_,yLH ha hb,fun α ρ S σ H Q wd sl q=>fa α ρ S σ H _ wd sl (q.bind fun u p S1 α1 H1 e1 x1 w1 d1 q1=>?_)⟩
 obtain⟨k,rfl,q2⟩:=zOA (q1.shift x1)
 refine⟨k,zFB d1.1,?_⟩
 cases k with
 | true=>rw [if_pos rfl]at q2 ⊢; exact fb α1 ρ S1 σ H1 _ w1 (sl.ext x1) q2
 | false=>rw [if_neg Bool.false_ne_true]at q2 ⊢; exact Post.val q2 w1 (wK false)
theorem yML(ha:PEm X W a f):PEm X W (.UnaryOp .Not a pos) (fun ρ S=>(f ρ S).bind fun p S1=>(asB p S1).bind fun k S2=>.ok (.val (.bl !k)) S2):=by
 obtain⟨ta,ha,fa⟩:=ha
 refine⟨_,yLI ha,fun α ρ S σ H Q wd sl q=>fa α ρ S σ H _ wd sl (q.bind fun u p S1 α1 H1 e1 x1 w1 d1 q1=>?_)⟩
 obtain⟨k,rfl,q2⟩:=zOA (q1.shift x1)
 exact⟨k,zFB d1.1,Post.val q2 w1 (wK _)⟩
theorem zMX(ha:PTm X W a tf):PWm X W (.BoolOp .And [a] pos) tf:=let ⟨t,h,k⟩:=ha;⟨t,yGV h,k⟩
theorem bR(ha:PTm X W a tf):PWm X W (.BoolOp .Or [a] pos) tf:=let ⟨t,h,k⟩:=ha;⟨t,yLD h,k⟩
theorem zOE(ha:PTm X W a tf)(hb:PWm X W (.BoolOp .And (b::es) pos) tg):PWm X W (.BoolOp .And (a::b::es) pos) (fun ρ S=>(tf ρ S).bind fun k S1=>if k=true then tg ρ S1 else .ok false S1):=by
 obtain⟨ta,ha,fa⟩:=ha
 obtain⟨tb,hb,fb⟩:=hb
 refine⟨_,yLE ha hb,fun α ρ S σ H Q wd sl q=>fa α ρ S σ H _ wd sl (q.bind fun u p S1 α1 H1 e1 x1 w1 d1 q1=>?_)⟩
 cases d1
 cases u with
 | true=>rw [if_pos rfl]at q1 ⊢; exact fb α1 ρ S1 σ H1 _ w1 (sl.ext x1) (q1.shift x1)
 | false=>rw [if_neg Bool.false_ne_true]at q1 ⊢; exact(q1.shift x1).here w1 rfl
theorem kT(ha:PTm X W a tf)(hb:PWm X W (.BoolOp .Or (b::es) pos) tg):PWm X W (.BoolOp .Or (a::b::es) pos) (fun ρ S=>(tf ρ S).bind fun k S1=>if k=true then .ok true S1 else tg ρ S1):=by
 obtain⟨ta,ha,fa⟩:=ha
 obtain⟨tb,hb,fb⟩:=hb
 refine⟨_,pw_or ha hb,fun α ρ S σ H Q wd sl q=>fa α ρ S σ H _ wd sl (q.bind fun u p S1 α1 H1 e1 x1 w1 d1 q1=>?_)⟩
 cases d1
 cases u with
 | true=>rw [if_pos rfl]at q1 ⊢; exact(q1.shift x1).here w1 rfl
 | false=>rw [if_neg Bool.false_ne_true]at q1 ⊢; exact fb α1 ρ S1 σ H1 _ w1 (sl.ext x1) (q1.shift x1)
theorem cZ(h:PWm X W a tf):PTm X W a tf:=let ⟨t,h,k⟩:=h;⟨t,h.pt,k⟩
theorem xU(ha:PTm X W a tf):PTm X W (.UnaryOp .Not a pos) (fun ρ S=>(tf ρ S).bind fun k S1=>.ok (!k) S1):=by
 obtain⟨ta,ha,fa⟩:=ha
 refine⟨_,yLF ha,fun α ρ S σ H Q wd sl q=>fa α ρ S σ H _ wd sl (q.bind fun u p S1 α1 H1 e1 x1 w1 d1 q1=>?_)⟩
 cases d1
 exact(q1.shift x1).here w1 rfl
end
section
variable{K:PySem.W.Frag}{H0:Hp}
def zQ:List Er→Sto→List MV×Sto
 | [],S=>([],S)
 | .val d::rs,S=>((d::(zQ rs S).1),(zQ rs S).2)
 | .new xs::rs,S=>((.loc S.length::(zQ rs (S++[.lst xs])).1),(zQ rs (S++[.lst xs])).2)
theorem ArgsE.grow{H0:Hp}{α:List Addr}{H:Hp}{b:Addr}{rs:List Er}{vs:List V}(q:ArgsE K H0 α H rs vs)(n:b∉zHW rs vs):ArgsE K H0 (α++[b]) H rs vs:=by
 induction q with
 | nil=>exact .nil
 | @cons r v rs vs a m l ih=>
  cases r with
  | val d=>exact .cons ⟨Den.ex0 (Ex0.grow α [b] H) a.1,trivial⟩ m (ih (by simpa [zHW]using n))
  | new ds=>
   obtain⟨⟨c,us,rfl,h1,h2,h3⟩,h4⟩:=a
   have n':b∉c::zHW rs vs:=n
   refine .cons ⟨⟨c,us,rfl,h1,fun z=>?_,h3.ex0 (Ex0.grow α [b] H)⟩,h4⟩ m (ih fun z=>n' (List.mem_cons_of_mem _ z))
   rcases List.mem_append.mp z with z | z
   ·exact h2 z
   ·exact n' (by rw [List.mem_singleton.mp z];exact List.mem_cons_self)
theorem zDN{g:Gm}{H0:Hp}{α0:List Addr}{H:Hp}: ∀{rs:List Er}{vs:List V}{α:List Addr}{S:Sto},Wd g α S H→Ext α0 H0 α H→ArgsE g.K H0 α H rs vs→
  ∃α',Ext α0 H0 α' H∧Ex0 α H α' H∧Wd g α' (zQ rs S).2 H∧DenL g.K α' H (zQ rs S).1 vs
 | _,_,α,S,w,x,.nil=>⟨α,x,⟨⟨[],by simp⟩,fun _ _ h=>h,fun _ _ _ h=>h⟩,w,xP⟩
 | .val d::rs,v::vs,α,S,w,x,.cons a n l=>by
  obtain⟨α',x',y',w',l'⟩:=zDN w x l
  exact⟨α',x',y',w',xD (Den.ex0 y' a.1) l'⟩
 | .new ds::rs,v::vs,α,S,w,x,.cons a n l=>by
  obtain⟨⟨c,us,rfl,h1,h2,h3⟩,h4⟩:=a
  obtain⟨α',x',y',w',l'⟩:=zDN (w.enter h1 h2 h3) (w.enterx x (h4 c rfl) h2) (l.grow (n ds c rfl rfl))
  refine⟨α',x',⟨?_,y'.tup,y'.frz⟩,w',xD (zJJ (y'.at ?_)) l'⟩
  ·obtain⟨t,e⟩:=y'.pre
   exact⟨[c]++t,by rw [e,List.append_assoc]⟩
  ·rw [←w.len,List.getElem?_append_right (Nat.le_refl _),Nat.sub_self];rfl
theorem zHA: ∀(rs:List Er)(S:Sto),(zQ rs S).1.length=rs.length
 | [],S=>rfl
 | .val d::rs,S=>by show(d::(zQ rs S).1).length=_;rw [List.length_cons,zHA rs S];rfl
 | .new ds::rs,S=>by show(_::(zQ rs _).1).length=_;rw [List.length_cons,zHA rs _];rfl
end
section
variable{X:Cx}{W:XW}{a b c e:Expr}{es:List Expr}{f g h:Rho→Sto→R Er}{tf tg:Rho→Sto→R Bool}{af:Rho→Sto→R (List Er)}{pos:Pos}
theorem zC:PAm X W [] (fun _ S=>.ok [] S):=⟨_,zKS,fun α ρ S σ H Q wd sl q=>q.here wd .nil⟩
theorem zA(ha:PEm X W a f)(hr:PAm X W es af)(hs:starEach (a::es) X.env=(false,eval a X.env)::starEach es X.env:=by rfl):PAm X W (a::es) (fun ρ S=>(f ρ S).bind fun p S1=>(af ρ S1).bind fun ps S2=>.ok (p::ps) S2):=by
 obtain⟨ta,ha,fa⟩:=ha
 obtain⟨tr,hr,fr⟩:=hr
 refine⟨_,zAA ha hr hs,fun α ρ S σ H Q wd sl q=>fa α ρ S σ H _ wd sl (q.bind fun u p S1 α1 H1 e1 x1 w1 d1 q1=>fr α1 ρ S1 σ H1 _ w1 (sl.ext x1) ?_)⟩
 have q1':Post X.g W α H ((af ρ S1).bind fun ps S2=>.ok (p::ps) S2) Q:=q1
 cases z:af ρ S1 with
 | ok ps S2=>
  rw [z]at q1'
  intro vs α2 H2 x2 w2 d2
  refine q1' (u::vs) α2 H2 (x1.trans x2) w2 (ArgsE.cons (DenE.ext x2 d1) (fun ds b er eu hb=>?_) (ArgsE.back (fun b h=>x1.free h) d2))
  subst er eu
  obtain⟨⟨c,us,ec,h1,_⟩,_⟩:=d1
  cases ec
  have:=ArgsE.nones d2 _ hb
  rw [h1]at this;cases this
 | exc c fs S2=>rw [z]at q1';exact fun α2 H2 x2 w2=>q1' α2 H2 (x1.trans x2) w2
 | no=>rw [z]at q1';exact q1'
def xV(rs:List Er)(S:Sto):R Er:=if rs.length≤sizeLine then .ok (.val (.tup (zQ rs S).1)) (zQ rs S).2 else .no
def wA(rs:List Er)(S:Sto):R Er:=if rs.length≤sizeLine then .ok (.new (zQ rs S).1) (zQ rs S).2 else .no
theorem yI{x1}(h:PAm X W es af):PEm X W (.Tuple es x1 pos) (fun ρ S=>(af ρ S).bind xV):=by
 obtain⟨t,h,k⟩:=h
 refine⟨_,yLV h,fun α ρ S σ H Q wd sl q=>k α ρ S σ H _ wd sl (q.bind fun vs rs S1 α1 H1 e1 x1 w1 d1 q1=>?_)⟩
 have q1':Post X.g W α H (if rs.length≤sizeLine then R.ok (Er.val (.tup (zQ rs S1).1)) (zQ rs S1).2 else R.no) Q:=q1
 split at q1'
 ·rename_i hz
  obtain⟨α2,x2,y2,w2,l2⟩:=zDN w1 x1 d1
  exact⟨by rw [ArgsE.length d1];exact hz,fun p hp=>(q1'.shift x2).newt w2 hp l2⟩
 ·exact q1'.elim
theorem yP(h:PAm X W es af):PEm X W (.List es pos) (fun ρ S=>(af ρ S).bind wA):=by
 obtain⟨t,h,k⟩:=h
 refine⟨_,yLW h,fun α ρ S σ H Q wd sl q=>k α ρ S σ H _ wd sl (q.bind fun vs rs S1 α1 H1 e1 x1 w1 d1 q1=>?_)⟩
 have q1':Post X.g W α H (if rs.length≤sizeLine then R.ok (Er.new (zQ rs S1).1) (zQ rs S1).2 else R.no) Q:=q1
 split at q1'
 ·rename_i hz
  obtain⟨α2,x2,y2,w2,l2⟩:=zDN w1 x1 d1
  exact⟨by rw [ArgsE.length d1];exact hz,fun p hp=>(q1'.shift x2).newl w2 hp l2⟩
 ·exact q1'.elim
inductive ArgsX(K:PySem.W.Frag)(α:List Addr)(H:Hp):List Er→List V→Prop
 | nil:ArgsX K α H [] []
 | cons {r v rs vs}:DenX K α H r v→ArgsX K α H rs vs→ArgsX K α H (r::rs) (v::vs)
theorem ArgsE.x{K:PySem.W.Frag}{H0:Hp}{α:List Addr}{H:Hp}: ∀{rs vs},ArgsE K H0 α H rs vs→ArgsX K α H rs vs
 | _,_,.nil=>.nil
 | _,_,.cons a _ l=>.cons a.1 (ArgsE.x l)
def zFR(X:Cx)(W:XW)(r:List V→Hp→VK→Prop)(F:List Er→Sto→R Er):Prop:= ∀rs vs α S H Q,Wd X.g α S H→ArgsX X.K α H rs vs→Post X.g W α H (F rs S) Q→r vs H Q
theorem zN{id:String}{r:List V→Hp→VK→Prop}{F:List Er→Sto→R Er}{x:Str}{p:Pos}(hc:CallR X (.builtin id) r)(hF:zFR X W r F)(hg:Gl X x)(hm:X.mg x=none)(hv:bootBuiltins x=some (.builtin id))(ha:PAm X W (e::es) af)
  (hn:x≠"__name__":=by decide) (hdb:(x==("__debug__":Str))=false:=by decide)
  (he:starEach (e::es) X.env=(false,eval e X.env)::starEach es X.env:=by rfl) (hpl:(backTo pos (starEach es X.env)).any (·.1)=false:=by rfl):PEm X W (.Call (.Name x p) (e::es) [] pos) (fun ρ S=>(af ρ S).bind F):=by
 obtain⟨t,ha,k⟩:=ha
 exact⟨_,zJF hc hg hm hv ha hn hdb he hpl,fun α ρ S σ H Q wd sl q=>k α ρ S σ H _ wd sl (q.bind fun vs rs S1 α1 H1 e1 x1 w1 d1 q1=>hF rs vs α1 S1 H1 Q w1 (ArgsE.x d1) (q1.shift x1))⟩
theorem xY{T:String}{r:List V→Hp→VK→Prop}{F:List Er→Sto→R Er}{x:Str}{p:Pos}(hc:CallR X (.type T) r)(hF:zFR X W r F)(hg:Gl X x)(hm:X.mg x=none)(hv:bootBuiltins x=some (.type T))(ha:PAm X W (e::es) af)
  (hn:x≠"__name__":=by decide) (hdb:(x==("__debug__":Str))=false:=by decide)
  (he:starEach (e::es) X.env=(false,eval e X.env)::starEach es X.env:=by rfl) (hpl:(backTo pos (starEach es X.env)).any (·.1)=false:=by rfl):PEm X W (.Call (.Name x p) (e::es) [] pos) (fun ρ S=>(af ρ S).bind F):=by
 obtain⟨t,ha,k⟩:=ha
 exact⟨_,zQQ hc hg hm hv ha hn hdb he hpl,fun α ρ S σ H Q wd sl q=>k α ρ S σ H _ wd sl (q.bind fun vs rs S1 α1 H1 e1 x1 w1 d1 q1=>hF rs vs α1 S1 H1 Q w1 (ArgsE.x d1) (q1.shift x1))⟩
def MtdM(X:Cx)(W:XW)(r:V→List V→Hp→VK→Prop)(F:Er→List Er→Sto→R Er):Prop:= ∀p rs x vs α S H0 H Q α0,Wd X.g α S H→Ext α0 H0 α H→DenX X.K α H p x→ArgsE X.K H0 α H rs vs→Post X.g W α0 H0 (F p rs S) Q→r x vs H Q
def TyM(X:Cx)(T:String)(ty:Er→Sto→Bool):Prop:= ∀p x α S H,Wd X.g α S H→DenX X.K α H p x→ty p S=true→tyV X.K T x H
theorem zYW{T:String}{name:Str}{id:String}{r:V→List V→Hp→VK→Prop}{F:Er→List Er→Sto→R Er}{ty:Er→Sto→Bool}{apos:Pos}(pa:PlainAttrs T)(slot:Slot T name id)(hty:typeOf (.builtin id)=pure (.type "method_descriptor"))(hm:MtR X id r)(hF:MtdM X W r F)(hT:TyM X T ty)
  (ho:PEm X W a f) (ha:PAm X W (e::es) af)
  (hbase:attributeBase a name X.env (eval a X.env)=eval a X.env:=by rfl)
  (hfew:((backTo pos (starEach (e::es) X.env)).all (fun x=>!x.1)&&(backToKw pos (keywordEach [] X.env)).all (fun x=>x.1.isSome)
   &&decide ((e::es).length+([]:List Keyword).length+(if([]:List Keyword).isEmpty then 0 else 1)<30))=true:=by rfl)
  (hline:(apos.endLine==pos.line)=true:=by rfl) (hs:starEach (e::es) X.env=(false,eval e X.env)::starEach es X.env:=by rfl) (hplain:(backTo pos (starEach es X.env)).any (·.1)=false:=by rfl):
  PEm X W (.Call (.Attribute a name apos) (e::es) [] pos) (fun ρ S=>(f ρ S).bind fun p S1=>if ty p S1=true then(af ρ S1).bind fun rs S2=>F p rs S2 else .no):=by
 obtain⟨to,ho,fo⟩:=ho
 obtain⟨t,ha,k⟩:=ha
 refine⟨_,pe_bm pa slot hty hm ho ha hbase hfew hline hs hplain,fun α ρ S σ H Q wd sl q=>fo α ρ S σ H _ wd sl (q.bind fun u p S1 α1 H1 e1 x1 w1 d1 q1=>?_)⟩
 split at q1
 ·rename_i hz
  exact⟨hT p u α1 S1 H1 w1 d1.1 hz,k α1 ρ S1 σ H1 _ w1 (sl.ext x1) ((q1.shift x1).bind fun vs rs S2 α2 H2 e2 x2 w2 d2 q2=>hF p rs u vs α2 S2 H1 H2 Q α1 w2 x2 (d1.1.ext x2) d2 q2)⟩
 ·exact q1.elim
theorem zHB:POm X W none (fun _ S=>.ok none S):=⟨_,yHF,fun α ρ S σ H Q wd sl q=>q.here wd rfl⟩
def asI:Er→Sto→R (Option Int)
 | .val (.int i),S=>.ok (some i) S
 | _,_=>.no
theorem zHC(ha:PEm X W a f):POm X W (some a) (fun ρ S=>(f ρ S).bind asI):=by
 obtain⟨ta,ha,fa⟩:=ha
 refine⟨_,yHG ha,fun α ρ S σ H Q wd sl q=>fa α ρ S σ H _ wd sl (q.bind fun u p S1 α1 H1 e1 x1 w1 d1 q1=>?_)⟩
 unfold asI at q1
 split at q1
 ·exact⟨_,yV d1.1,(q1.shift x1).here w1 rfl⟩
 ·exact q1.elim
def Sl3(X:Cx)(W:XW)(r:V→Option Int→Option Int→Hp→VK→Prop)(F:Er→Option Int→Option Int→Sto→R Er):Prop:= ∀p lo hi x α S H Q,Wd X.g α S H→DenX X.K α H p x→Post X.g W α H (F p lo hi S) Q→r x lo hi H Q
theorem yDW{lo hi:Option Expr}{r:V→Option Int→Option Int→Hp→VK→Prop}{F:Er→Option Int→Option Int→Sto→R Er}{lf hf:Rho→Sto→R (Option Int)}{p2:Pos}(hr:SlR X r)(hF:Sl3 X W r F)(ha:PEm X W a f)(hl:POm X W lo lf)(hh:POm X W hi hf):
  PEm X W (.Subscript a (.Slice lo hi none p2) pos) (fun ρ S=>(f ρ S).bind fun p S1=>(lf ρ S1).bind fun l S2=>(hf ρ S2).bind fun u S3=>F p l u S3):=by
 obtain⟨ta,ha,fa⟩:=ha
 obtain⟨tl,hl,fl⟩:=hl
 obtain⟨th,hh,fh⟩:=hh
 refine⟨_,yDE hr ha hl hh,fun α ρ S σ H Q wd sl q=>fa α ρ S σ H _ wd sl (q.bind fun u p S1 α1 H1 e1 x1 w1 d1 q1=>fl α1 ρ S1 σ H1 _ w1 (sl.ext x1) ((q1.shift x1).bind fun u2 l S2 α2 H2 e2 x2 w2 d2 q2=>
  fh α2 ρ S2 σ H2 _ w2 ((sl.ext x1).ext x2) ((q2.shift x2).bind fun u3 m S3 α3 H3 e3 x3 w3 d3 q3=>?_)))⟩
 cases d2
 cases d3
 exact hF p u2 u3 u α3 S3 H3 Q w3 ((d1.1.ext x2).ext x3) (q3.shift x3)
end
end M
end L2
namespace L2
namespace M
open PySem PySem.Spec PyProof.Rows
inductive Fl where
 | next (ρ:Rho) | ret (r:Er) | brk (ρ:Rho) | cont (ρ:Rho)
def PostS(g:Gm)(W:XW)(α:List Addr)(H:Hp)(D:Ends):R Fl→Prop
 | .ok (.next ρ) S=> ∀σ α' H',Ext α H α' H'→Wd g α' S H'→Slots g.K α' H' ρ σ→D.nx σ H'
 | .ok (.ret r) S=> ∀v α' H',Ext α H α' H'→Wd g α' S H'→DenE g.K H α' H' r v→D.rt v H'
 | .ok (.brk ρ) S=> ∀σ α' H',Ext α H α' H'→Wd g α' S H'→Slots g.K α' H' ρ σ→D.bk σ H'
 | .ok (.cont ρ) S=> ∀σ α' H',Ext α H α' H'→Wd g α' S H'→Slots g.K α' H' ρ σ→D.ct σ H'
 | .exc c fs S=> ∀α' H',Ext α H α' H'→Wd g α' S H'→W c fs S α' H'
 | .no=>False
section
variable{g:Gm}{W:XW}{α α':List Addr}{H H':Hp}{D D':Ends}
theorem PostS.shift(x:Ext α H α' H'): ∀{m:R Fl},PostS g W α H D m→PostS g W α' H' D m
 | .ok (.next ρ) S,q=>fun σ α2 H2 x2 w2 s2=>q σ α2 H2 (x.trans x2) w2 s2
 | .ok (.ret r) S,q=>fun v α2 H2 x2 w2 d2=>q v α2 H2 (x.trans x2) w2 (d2.back fun b h=>x.free h)
 | .ok (.brk ρ) S,q=>fun σ α2 H2 x2 w2 s2=>q σ α2 H2 (x.trans x2) w2 s2
 | .ok (.cont ρ) S,q=>fun σ α2 H2 x2 w2 s2=>q σ α2 H2 (x.trans x2) w2 s2
 | .exc c fs S,q=>fun α2 H2 x2 w2=>q α2 H2 (x.trans x2) w2
 | .no,q=>q
theorem PostS.expr{β τ:Type}[Dn β τ]{m:R β}{k:β→Sto→R Fl}{Q':τ→Hp→Prop}(q:PostS g W α H D (m.bind k))
  (f: ∀u b S1 α1 H1,m=.ok b S1→Ext α H α1 H1→Wd g α1 S1 H1→Dn.d g H α1 S1 H1 b u→PostS g W α H D (k b S1)→Q' u H1):Post g W α H m Q':=by
 cases m with
 | ok b S=>exact fun u α1 H1 x w d=>f u b S α1 H1 rfl x w d q
 | exc c fs S=>exact q
 | no=>exact q
theorem PostS.stmt{m:R Fl}{k:Fl→Sto→R Fl}(q:PostS g W α H D (m.bind k))
  (hn: ∀ρ S σ α1 H1,m=.ok (.next ρ) S→Ext α H α1 H1→Wd g α1 S H1→Slots g.K α1 H1 ρ σ→PostS g W α H D (k (.next ρ) S)→D'.nx σ H1)
  (hr: ∀r S v α1 H1,m=.ok (.ret r) S→Ext α H α1 H1→Wd g α1 S H1→DenE g.K H α1 H1 r v→PostS g W α H D (k (.ret r) S)→D'.rt v H1)
  (hb: ∀ρ S σ α1 H1,m=.ok (.brk ρ) S→Ext α H α1 H1→Wd g α1 S H1→Slots g.K α1 H1 ρ σ→PostS g W α H D (k (.brk ρ) S)→D'.bk σ H1)
  (hc: ∀ρ S σ α1 H1,m=.ok (.cont ρ) S→Ext α H α1 H1→Wd g α1 S H1→Slots g.K α1 H1 ρ σ→PostS g W α H D (k (.cont ρ) S)→D'.ct σ H1):PostS g W α H D' m:=by
 cases m with
 | ok fl S=>
  cases fl with
  | next ρ=>exact fun σ α1 H1 x w s=>hn ρ S σ α1 H1 rfl x w s q
  | ret r=>exact fun v α1 H1 x w d=>hr r S v α1 H1 rfl x w d q
  | brk ρ=>exact fun σ α1 H1 x w s=>hb ρ S σ α1 H1 rfl x w s q
  | cont ρ=>exact fun σ α1 H1 x w s=>hc ρ S σ α1 H1 rfl x w s q
 | exc c fs S=>exact q
 | no=>exact q
end
def PSm(X:Cx)(W:XW)(st:Stmt)(F:Rho→Sto→R Fl):Prop:=
 ∃t,PS X st t∧ ∀α ρ S σ H D,Wd X.g α S H→Slots X.K α H ρ σ→PostS X.g W α H D (F ρ S)→t D σ H
def zMJ(X:Cx)(W:XW)(st:List Stmt)(F:Rho→Sto→R Fl):Prop:=
 ∃t,PSs X st t∧ ∀α ρ S σ H D,Wd X.g α S H→Slots X.K α H ρ σ→PostS X.g W α H D (F ρ S)→t D σ H
def zP(F G:Rho→Sto→R Fl):Rho→Sto→R Fl:=fun ρ S=>(F ρ S).bind fun fl S1=>match fl with
 | .next ρ'=>G ρ' S1
 | .ret r=>.ok (.ret r) S1
 | .brk ρ'=>.ok (.brk ρ') S1
 | .cont ρ'=>.ok (.cont ρ') S1
section
variable{X:Cx}{W:XW}{st:Stmt}{sts as bs:List Stmt}{F G:Rho→Sto→R Fl}{f g:Rho→Sto→R Er}{tf:Rho→Sto→R Bool}{e c:Expr}{pos:Pos}
theorem yB:zMJ X W [] (fun ρ S=>.ok (.next ρ) S):=⟨_,yGW,fun α ρ S σ H D wd sl q=>q σ α H (Ext.refl α H) wd sl⟩
theorem zL(h:PSm X W st F):zMJ X W [st] F:=let ⟨t,h,k⟩:=h;⟨t,yGX h,k⟩
theorem zG(h1:PSm X W st F)(h2:zMJ X W sts G):zMJ X W (st::sts) (zP F G):=by
 obtain⟨t,h1,k1⟩:=h1
 obtain⟨u,h2,k2⟩:=h2
 refine⟨_,yCT h1 h2,fun α ρ S σ H D wd sl q=>k1 α ρ S σ H _ wd sl (q.stmt ?_ ?_ ?_ ?_)⟩
 ·intro ρ1 S1 σ1 α1 H1 e x1 w1 s1 q1
  exact k2 α1 ρ1 S1 σ1 H1 D w1 s1 (PostS.shift x1 q1)
 ·intro r S1 v α1 H1 e x1 w1 d1 q1
  exact q1 v α1 H1 x1 w1 d1
 ·intro ρ1 S1 σ1 α1 H1 e x1 w1 s1 q1
  exact q1 σ1 α1 H1 x1 w1 s1
 ·intro ρ1 S1 σ1 α1 H1 e x1 w1 s1 q1
  exact q1 σ1 α1 H1 x1 w1 s1
theorem zR(he:PEm X W e f):PSm X W (.Return (some e) pos) (fun ρ S=>(f ρ S).bind fun r S1=>.ok (.ret r) S1):=by
 obtain⟨t,he,k⟩:=he
 exact⟨_,yLJ he,fun α ρ S σ H D wd sl q=>k α ρ S σ H _ wd sl (q.expr fun u r S1 α1 H1 e x1 w1 d1 q1=>q1 u α1 H1 x1 w1 d1)⟩
theorem zHD(he:PEm X W e f)(hs:swapsWith e none pos.line X.env=pure false:=by rfl):PSm X W (.Expr e pos) (fun ρ S=>(f ρ S).bind fun _ S1=>.ok (.next ρ) S1):=by
 obtain⟨t,he,k⟩:=he
 exact⟨_,yGY he hs,fun α ρ S σ H D wd sl q=>k α ρ S σ H _ wd sl (q.expr fun u r S1 α1 H1 e x1 w1 d1 q1=>q1 σ α1 H1 x1 w1 (sl.ext x1))⟩
theorem yQ(hc:PTm X W c tf)(ha:zMJ X W as F)(hb:zMJ X W bs G):PSm X W (.If c as bs pos) (fun ρ S=>(tf ρ S).bind fun k S1=>if k=true then F ρ S1 else G ρ S1):=by
 obtain⟨tc,hc,kc⟩:=hc
 obtain⟨ta,ha,ka⟩:=ha
 obtain⟨tb,hb,kb⟩:=hb
 refine⟨_,ps_if hc ha hb,fun α ρ S σ H D wd sl q=>kc α ρ S σ H _ wd sl (q.expr fun u p S1 α1 H1 e x1 w1 d1 q1=>?_)⟩
 cases d1
 cases u with
 | true=>rw [if_pos rfl]at q1 ⊢; exact ka α1 ρ S1 σ H1 D w1 (sl.ext x1) (PostS.shift x1 q1)
 | false=>rw [if_neg Bool.false_ne_true]at q1 ⊢; exact kb α1 ρ S1 σ H1 D w1 (sl.ext x1) (PostS.shift x1 q1)
instance:Dn Rho St:=⟨fun g _ α' _ H' ρ σ=>Slots g.K α' H' ρ σ,fun _ q=>q⟩
def PGm(X:Cx)(W:XW)(tg:Expr)(gf:MV→Rho→Sto→R Rho):Prop:=
 ∃t,PG X tg t∧ ∀α ρ S σ H d v Q,Wd X.g α S H→Slots X.K α H ρ σ→Den X.K α H d v→Post X.g W α H (gf d ρ S) Q→t v σ H Q
def PGsm(X:Cx)(W:XW)(tgs:List Expr)(gf:List MV→Rho→Sto→R Rho):Prop:=
 ∃t,PGs X tgs t∧ ∀α ρ S σ H ds vs Q,Wd X.g α S H→Slots X.K α H ρ σ→DenL X.K α H ds vs→Post X.g W α H (gf ds ρ S) Q→t vs σ H Q
def gNm(i:Nat):MV→Rho→Sto→R Rho:=fun d ρ S=>.ok (ρ.set i (some d)) S
theorem xB(i:Nat){x:Str}(hN:X.N.Nodup)(hi:X.N[i]? =some x:=by rfl)(hx:Loc X.env.scope x:=by first | exact Or.inl rfl | exact Or.inr rfl)(hf:X.fn x=true∨X.env.scope.names.lookup x=some .local:=by first | exact .inl rfl | exact .inr rfl | assumption):
  PGm X W (.Name x pos) (gNm i):=⟨_,zYN hN hi hx hf,fun α ρ S σ H d v Q wd sl de q=>Post.here (b:=ρ.set i (some d)) q wd (sl.set de)⟩
def zAQ:List MV→Rho→Sto→R Rho
 | [],ρ,S=>.ok ρ S
 | _,_,_=>.no
def yW(g1:MV→Rho→Sto→R Rho)(g2:List MV→Rho→Sto→R Rho):List MV→Rho→Sto→R Rho
 | d::ds,ρ,S=>(g1 d ρ S).bind fun ρ1 S1=>g2 ds ρ1 S1
 | _,_,_=>.no
theorem zOF:PGsm X W [] zAQ:=⟨_,yGZ,fun α ρ S σ H ds vs Q wd sl de q=>by
 cases ds with
 | nil=>exact⟨de.isnil,Post.here (b:=ρ) q wd sl⟩
 | cons d ds=>exact q.elim⟩
theorem cS{es:List Expr}{g1:MV→Rho→Sto→R Rho}{g2:List MV→Rho→Sto→R Rho}(h1:PGm X W e g1)(h2:PGsm X W es g2)(hs:(assignEach (e::es) X.env).map (·.2)=assign e X.env::(assignEach es X.env).map (·.2):=by rfl):PGsm X W (e::es) (yW g1 g2):=by
 obtain⟨t1,h1,k1⟩:=h1
 obtain⟨t2,h2,k2⟩:=h2
 refine⟨_,yCV h1 h2 hs,fun α ρ S σ H ds vs Q wd sl de q=>?_⟩
 cases ds with
 | nil=>exact q.elim
 | cons d ds=>
  obtain⟨v,r,rfl,a,l⟩:=de.uncons
  refine⟨v,r,rfl,k1 α ρ S σ H d v _ wd sl a (Post.bind q fun u p S1 α1 H1 e x1 w1 d1 q1=>k2 α1 p S1 u H1 ds r Q w1 d1 (l.ext x1) (q1.shift x1))⟩
def gTp(n:Nat)(g2:List MV→Rho→Sto→R Rho):MV→Rho→Sto→R Rho
 | .tup ds,ρ,S=>if ds.length=n then g2 ds ρ S else .no
 | _,_,_=>.no
theorem zOG{es:List Expr}{k n:Nat}{g2:List MV→Rho→Sto→R Rho}(hc:X.calm=true)(h:PGsm X W es g2)
  (hn:(assignEach es X.env).length=n:=by rfl) (hst:(assignEach es X.env).findIdx? (·.1)=none:=by rfl):PGm X W (.Tuple es k pos) (gTp n g2):=by
 obtain⟨t,h,k⟩:=h
 refine⟨_,yLK hc h hn hst,fun α ρ S σ H d v Q wd sl de q=>?_⟩
 unfold gTp at q
 split at q
 ·split at q
  ·rename_i hl
   obtain⟨a,vs,rfl,s,l⟩:=hU de
   exact⟨a,vs,rfl,s,by rw [l.length];exact hl,k α ρ S σ H _ vs Q wd sl l q⟩
  ·exact q.elim
 ·exact q.elim
def zEA(r:Er)(S:Sto):R MV:=match r with
 | .val d=>.ok d S
 | .new ds=>.ok (.loc S.length) (S++[.lst ds])
theorem zAK{g:Gm}{H0:Hp}{α0 α:List Addr}{H:Hp}{S:Sto}{r:Er}{v:V}(w:Wd g α S H)(x:Ext α0 H0 α H)(d:DenE g.K H0 α H r v):
  ∃d' S' α',zEA r S=.ok d' S'∧Ext α0 H0 α' H∧Ex0 α H α' H∧Wd g α' S' H∧Den g.K α' H d' v:=by
 cases r with
 | val d'=>exact⟨d',S,α,rfl,x,⟨⟨[],by simp⟩,fun _ _ h=>h,fun _ _ _ h=>h⟩,w,d.1⟩
 | new ds=>
  obtain⟨⟨c,us,rfl,h1,h2,h3⟩,h4⟩:=d
  exact⟨.loc S.length,S++[.lst ds],α++[c],rfl,w.enterx x (h4 c rfl) h2,Ex0.grow α [c] H,w.enter h1 h2 h3,zJJ (by rw [←w.len,List.getElem?_append_right (Nat.le_refl _),Nat.sub_self];rfl)⟩
def yN(ρ:Rho)(i:Nat)(r:Er)(S:Sto):R Fl:=(zEA r S).bind fun d S1=>.ok (.next (ρ.set i (some d))) S1
theorem zU(i:Nat){x:Str}{pos':Pos}(hN:X.N.Nodup)(he:PEm X W e f)(hi:X.N[i]? =some x:=by rfl)(hx:Loc X.env.scope x:=by first | exact Or.inl rfl | exact Or.inr rfl)
  (hs:swapsWith e (some (.Name x pos')) pos.line X.env=pure false:=by rfl) (hf:X.fn x=true∨X.env.scope.names.lookup x=some .local:=by first | exact .inl rfl | exact .inr rfl | assumption):
  PSm X W (.Assign [.Name x pos'] e pos) (fun ρ S=>(f ρ S).bind (yN ρ i)):=by
 obtain⟨t,he,k⟩:=he
 refine⟨_,yLM hN hi hx he hs hf,fun α ρ S σ H D wd sl q=>k α ρ S σ H _ wd sl (q.expr fun u r S1 α1 H1 e x1 w1 d1 q1=>?_)⟩
 obtain⟨d',S',α',e1,x',y',w',de⟩:=zAK w1 x1 d1
 unfold yN at q1
 rw [e1]at q1
 exact q1 _ α' H1 x' w' (((sl.ext x1).ex0 y').set de)
def zUK(gf:MV→Rho→Sto→R Rho)(ρ:Rho)(r:Er)(S:Sto):R Fl:=(zEA r S).bind fun d S1=>(gf d ρ S1).bind fun ρ' S2=>.ok (.next ρ') S2
theorem zOH{tg:Expr}{gf:MV→Rho→Sto→R Rho}(he:PEm X W e f)(hg:PGm X W tg gf)(hs:swapsWithSole [tg] e pos.line X.env=pure false:=by rfl)(hw:swappedStores [tg] e X.env=pure none:=by rfl)
  (h1:(assignEach [tg] X.env).map (·.2)=[assign tg X.env]:=by rfl):PSm X W (.Assign [tg] e pos) (fun ρ S=>(f ρ S).bind (zUK gf ρ)):=by
 obtain⟨t,he,k⟩:=he
 obtain⟨tg',hg,kg⟩:=hg
 refine⟨_,yLL he hg hs hw h1,fun α ρ S σ H D wd sl q=>k α ρ S σ H _ wd sl (q.expr fun u r S1 α1 H1 e x1 w1 d1 q1=>?_)⟩
 obtain⟨d',S',α',e1,x',y',w',de⟩:=zAK w1 x1 d1
 unfold zUK at q1
 rw [e1]at q1
 have q1:PostS X.g W α H D ((gf d' ρ S').bind fun ρ' S2=>.ok (.next ρ') S2):=q1
 exact kg α' ρ S' σ H1 d' u _ w' ((sl.ext x1).ex0 y') de ((PostS.shift x' q1).expr fun σ2 ρ2 S2 α2 H2 e2 x2 w2 s2 q2=>q2 σ2 α2 H2 x2 w2 s2)
structure Wk where
 ds:List MV
 gs:List (Nat×List MV)
def stay(gs:List (Nat×List MV))(S:Sto):Prop:= ∀p∈gs,S[p.1]? =some (.lst p.2)
def ItM(g:Gm)(J:It)(P:List Addr→Sto→Hp→Prop)(ds:List MV):Prop:= ∀i α S H,P α S H→Wd g α S H→(i<ds.length→J.go i H∧ ∀x H',J.yld i H x H'→Ext α H α H'∧Wd g α S H'∧P α S H'∧ ∃d,ds[i]? =some d∧Den g.K α H' d x)∧(ds.length≤i→J.stop i H)
structure WkD(g:Gm)(α:List Addr)(S:Sto)(H:Hp)(k:Wk)(J:It)(P:List Addr→Sto→Hp→Prop):Prop where
 it:ItM g J P k.ds
 here:P α S H
 stays: ∀α1 S1 H1 α2 S2 H2,P α1 S1 H1→Ext α1 H1 α2 H2→Wd g α2 S2 H2→stay k.gs S2→P α2 S2 H2
 st:stay k.gs S
instance:Dn Wk It:=⟨fun g _ α S H k J=> ∃P,WkD g α S H k J P,fun _ q=>q⟩
abbrev PIm(X:Cx)(W:XW)(tg iter:Expr)(f:Rho→Sto→R Wk):Prop:=Jd X W (PI X tg iter) f
variable{tg iter:Expr}
theorem zJK{a:Addr}{ds:List MV}:ItM X.g (Itl X.K a) (fun α S H=> ∃vs,SqL X.K H a vs∧DenL X.K α H ds vs) ds:=by
 intro i α S H ⟨vs,s,l⟩ w
 have hl:=l.length
 refine⟨fun hi=>?_,fun hi=>⟨vs,s,by omega⟩⟩
 have hv:i<vs.length:=by omega
 refine⟨⟨vs,vs[i],s,List.getElem?_eq_getElem hv⟩,fun x H' y=>?_⟩
 obtain⟨rfl,y⟩:=y
 obtain⟨d,h1,h2⟩:=l.get (y vs s)
 exact⟨Ext.refl _ _,w,⟨vs,s,l⟩,d,h1,h2⟩
theorem zYX{a:Addr}{ds:List MV}:ItM X.g (Itt X.K a) (fun α S H=> ∃vs,SqT X.K H a vs∧DenL X.K α H ds vs) ds:=by
 intro i α S H ⟨vs,s,l⟩ w
 have hl:=l.length
 refine⟨fun hi=>?_,fun hi=>⟨vs,s,by omega⟩⟩
 have hv:i<vs.length:=by omega
 refine⟨⟨vs,vs[i],s,List.getElem?_eq_getElem hv⟩,fun x H' y=>?_⟩
 obtain⟨rfl,y⟩:=y
 obtain⟨d,h1,h2⟩:=l.get (y vs s)
 exact⟨Ext.refl _ _,w,⟨vs,s,l⟩,d,h1,h2⟩
theorem yHS{x:List Nat}:ItM X.g (Its x) (fun _ _ _=>True) (x.map fun c=>.str [c]):=by
 intro i α S H _ w
 refine⟨fun hi=>⟨show i<x.length by simpa using hi,fun v H' y=>?_⟩,fun hi=>by show x.length≤i;simpa using hi⟩
 obtain⟨rfl,c,h1,h2⟩:=y
 refine⟨Ext.refl _ _,w,trivial,.str [c],by rw [List.getElem?_map,h1];rfl,?_⟩
 rw [h2]
 exact zAB [c]
theorem yBE{lo:Int}{n:Nat}:ItM X.g (Itr lo n) (fun _ _ _=>True) ((List.range n).map fun k=>.int (lo+(k:Nat))):=by
 intro i α S H _ w
 refine⟨fun hi=>⟨show i<n by simpa using hi,fun v H' y=>?_⟩,fun hi=>by show n≤i;simpa using hi⟩
 obtain⟨rfl,y⟩:=y
 have hi':i<n:=by simpa using hi
 refine⟨Ext.refl _ _,w,trivial,.int (lo+i),by rw [List.getElem?_map,List.getElem?_range hi'];rfl,?_⟩
 rw [y]
 exact xA _
def itL:Er→Sto→R Wk
 | .new ds,S=>.ok ⟨ds,[]⟩ S
 | .val (.scr ds),S=>.ok ⟨ds,[]⟩ S
 | .val (.loc l),S=>match S[l]? with
  | some (.lst ds)=>.ok ⟨ds,[(l,ds)]⟩ S
  | _=>.no
 | _,_=>.no
theorem gI{S:Sto}:stay [] S:=fun p h=>by simp at h
theorem zYY(he:PEm X W iter f):PIm X W tg iter (fun ρ S=>(f ρ S).bind itL):=by
 obtain⟨t,he,k⟩:=he
 refine⟨_,yHA he,fun α ρ S σ H Rc wd sl q=>k α ρ S σ H _ wd sl (q.bind fun u p S1 α1 H1 e x1 w1 d1 q1=>?_)⟩
 replace q1:=q1.shift x1
 unfold itL at q1
 split at q1
 ·rename_i S0 ds
  obtain⟨⟨b,vs,rfl,h1,h2,h3⟩,h4⟩:=d1
  refine⟨b,rfl,⟨vs,.of h1⟩,q1.here (u:=Itl X.K b) w1 ⟨fun α2 S2 H2=> ∃vs,SqL X.K H2 b vs∧DenL X.K α2 H2 ds vs∧H2 b=some (.lst vs)∧b∉α2,?_,⟨vs,.of h1,h3,h1,h2⟩,?_,gI⟩⟩
  ·intro i α2 S2 H2 ⟨vs2,a1,a2,a3,a4⟩ w2
   obtain⟨i1,i2⟩:=zJK (X:=X) (a:=b) (ds:=ds) i α2 S2 H2 ⟨vs2,a1,a2⟩ w2
   refine⟨fun hi=>⟨(i1 hi).1,fun x H' y=>?_⟩,i2⟩
   obtain⟨j1,j2,j3,j4⟩:=(i1 hi).2 x H' y
   obtain⟨rfl,_⟩:=y
   exact⟨j1,j2,⟨vs2,a1,a2,a3,a4⟩,j4⟩
  ·intro α2 S2 H2 α3 S3 H3 ⟨vs2,a1,a2,a3,a4⟩ x w3 _
   exact⟨vs2,.of (x.keep b _ a3 a4),a2.ext x,x.keep b _ a3 a4,x.out a3 a4⟩
 ·rename_i S0 ds
  obtain⟨a,vs,rfl,s,l⟩:=zNZ d1.1
  refine⟨a,rfl,⟨vs,s.l⟩,q1.here (u:=Itl X.K a) w1 ⟨fun α2 S2 H2=> ∃vs,SqL X.K H2 a vs∧DenL X.K α2 H2 ds vs∧SqF X.K H2 a vs,?_,⟨vs,s.l,l,s⟩,?_,gI⟩⟩
  ·intro i α2 S2 H2 ⟨vs2,a1,a2,a3⟩ w2
   obtain⟨i1,i2⟩:=zJK (X:=X) (a:=a) (ds:=ds) i α2 S2 H2 ⟨vs2,a1,a2⟩ w2
   refine⟨fun hi=>⟨(i1 hi).1,fun x H' y=>?_⟩,i2⟩
   obtain⟨j1,j2,j3,j4⟩:=(i1 hi).2 x H' y
   obtain⟨rfl,_⟩:=y
   exact⟨j1,j2,⟨vs2,a1,a2,a3⟩,j4⟩
  ·intro α2 S2 H2 α3 S3 H3 ⟨vs2,a1,a2,a3⟩ x w3 _
   exact⟨vs2,(x.sqF a3).l,a2.ext x,x.sqF a3⟩
 ·rename_i S0 n
  obtain⟨a,rfl,h⟩:=dQ d1.1
  obtain⟨o,h1,h2⟩:=w1.of h
  rw [h1]at q1
  cases o with
  | lst ds=>
   obtain⟨vs,h3,l⟩:=h2
   refine⟨a,rfl,⟨vs,.of h3⟩,Post.here (b:=(⟨ds,[(n,ds)]⟩:Wk)) q1 (u:=Itl X.K a) w1 ⟨fun α2 S2 H2=> ∃vs,SqL X.K H2 a vs∧DenL X.K α2 H2 ds vs∧α2[n]? =some a,?_,⟨vs,.of h3,l,h⟩,?_,?_⟩⟩
   ·intro i α2 S2 H2 ⟨vs2,a1,a2,a3⟩ w2
    obtain⟨i1,i2⟩:=zJK (X:=X) (a:=a) (ds:=ds) i α2 S2 H2 ⟨vs2,a1,a2⟩ w2
    refine⟨fun hi=>⟨(i1 hi).1,fun x H' y=>?_⟩,i2⟩
    obtain⟨j1,j2,j3,j4⟩:=(i1 hi).2 x H' y
    obtain⟨rfl,_⟩:=y
    exact⟨j1,j2,⟨vs2,a1,a2,a3⟩,j4⟩
   ·intro α2 S2 H2 α3 S3 H3 ⟨vs2,a1,a2,a3⟩ x w3 hs
    have a3':=x.at a3
    have:=w3.obj n a _ a3' (hs (n,ds) (by simp))
    obtain⟨vs3,b1,b2⟩:=this
    exact⟨vs3,.of b1,b2,a3'⟩
   ·intro p hp
    have:p=(n,ds):=by simpa using hp
    subst this
    exact h1
  | dic ds=>exact q1.elim
  | ins c fs=>exact q1.elim
 ·exact q1.elim
def itT:Er→Sto→R Wk
 | .val (.tup ds),S=>.ok ⟨ds,[]⟩ S
 | _,_=>.no
theorem zSE(he:PEm X W iter f):PIm X W tg iter (fun ρ S=>(f ρ S).bind itT):=by
 obtain⟨t,he,k⟩:=he
 refine⟨_,yLN he,fun α ρ S σ H Rc wd sl q=>k α ρ S σ H _ wd sl (q.bind fun u p S1 α1 H1 e x1 w1 d1 q1=>?_)⟩
 replace q1:=q1.shift x1
 unfold itT at q1
 split at q1
 ·rename_i S0 ds
  obtain⟨a,vs,rfl,s,l⟩:=gH d1.1
  exact⟨a,rfl,⟨vs,s⟩,q1.here (u:=Itt X.K a) w1 ⟨_,zYX,⟨vs,s,l⟩,fun α2 S2 H2 α3 S3 H3 ⟨vs2,a1,a2⟩ x w3 _=>⟨vs2,x.sqT a1,a2.ext x⟩,gI⟩⟩
 ·exact q1.elim
def itS:Er→Sto→R Wk
 | .val (.str x),S=>.ok ⟨x.map fun c=>.str [c],[]⟩ S
 | _,_=>.no
theorem yDX(he:PEm X W iter f):PIm X W tg iter (fun ρ S=>(f ρ S).bind itS):=by
 obtain⟨t,he,k⟩:=he
 refine⟨_,yMF he,fun α ρ S σ H Rc wd sl q=>k α ρ S σ H _ wd sl (q.bind fun u p S1 α1 H1 e x1 w1 d1 q1=>?_)⟩
 replace q1:=q1.shift x1
 unfold itS at q1
 split at q1
 ·rename_i S0 x
  exact⟨x,kP d1.1,q1.here (u:=Its x) w1 ⟨_,yHS,trivial,fun _ _ _ _ _ _ _ _ _ _=>trivial,gI⟩⟩
 ·exact q1.elim
def nY:List Er→Sto→R Wk
 | [.val (.int j)],S=>if -(2 ^ 62)≤j∧j<2 ^ 62 then .ok ⟨(List.range j.toNat).map fun k=>.int (k:Nat),[]⟩ S else .no
 | _,_=>.no
variable{af:Rho→Sto→R (List Er)}{p:Pos}{a b:Expr}
theorem zYZ{K:PySem.W.Frag}{H0:Hp}{α:List Addr}{H:Hp}{r:Er}{vs:List V}(d:ArgsE K H0 α H [r] vs): ∃v,vs=[v]∧DenX K α H r v:=by
 cases d with
 | cons a n l=>cases l;exact⟨_,rfl,a.1⟩
theorem wM(hg:Gl X "range")(hm:X.mg "range"=none)(ha:PAm X W [a] af)(hs:starEach [a] X.env=[(false,eval a X.env)]:=by rfl):PIm X W tg (.Call (.Name "range" p) [a] [] pos) (fun ρ S=>(af ρ S).bind nY):=by
 obtain⟨t,ha,k⟩:=ha
 refine⟨_,yAQ hg hm ha hs,fun α ρ S σ H Rc wd sl q=>k α ρ S σ H _ wd sl (q.bind fun vs rs S1 α1 H1 e x1 w1 d1 q1=>?_)⟩
 replace q1:=q1.shift x1
 unfold nY at q1
 split at q1
 ·split at q1
  ·rename_i S0 j hj
   obtain⟨v,rfl,dv⟩:=zYZ d1
   cases yV dv
   have:=yBE (X:=X) (lo:=0) (n:=j.toNat)
   simp only [Int.zero_add]at this
   exact⟨j,rfl,hj.1,hj.2,q1.here (u:=Itr 0 j.toNat) w1 ⟨_,this,trivial,fun _ _ _ _ _ _ _ _ _ _=>trivial,gI⟩⟩
  ·exact q1.elim
 ·exact q1.elim
open Classical in
noncomputable def kB(gf:MV→Rho→Sto→R Rho)(body:Rho→Sto→R Fl)(gs:List (Nat×List MV)):List MV→Rho→Sto→R Fl
 | [],ρ,S=>.ok (.next ρ) S
 | d::ds,ρ,S=>(gf d ρ S).bind fun ρ0 S0=>(body ρ0 S0).bind fun fl S1=>match fl with
  | .next ρ'=>if stay gs S1 then kB gf body gs ds ρ' S1 else .no
  | .cont ρ'=>if stay gs S1 then kB gf body gs ds ρ' S1 else .no
  | .brk ρ'=>.ok (.next ρ') S1
  | .ret r=>.ok (.ret r) S1
open Classical in
theorem hW{itf:Rho→Sto→R Wk}{gf:MV→Rho→Sto→R Rho}(hp:PassesOwn (model X.prog X.w) X.A X.env X.xe)(hc:X.calm=true)(hi:PIm X W tg iter itf)(hg:PGm X W tg gf)(hb:zMJ X W as F)
  (hs: ∀y,foldedSetIterable iter X.env y=pure y:=by intro _;rfl):PSm X W (.For tg iter as [] pos) (fun ρ S=>(itf ρ S).bind fun k S1=>kB gf F k.gs k.ds ρ S1):=by
 obtain⟨wi,hi,ki⟩:=hi
 obtain⟨tg',hg,kg⟩:=hg
 obtain⟨tb,hb,kb⟩:=hb
 refine⟨_,yLO hp hc hi hg hb hs,fun α ρ S σ H D wd sl q=>ki α ρ S σ H _ wd sl (q.expr fun J k S1 α1 H1 e x1 w1 d1 q1=>?_)⟩
 obtain⟨P,hP⟩:=d1
 have sl1:=sl.ext x1
 replace q1:=PostS.shift x1 q1
 refine⟨fun n m σ2 H2=>m=k.ds.length - n∧n≤k.ds.length∧ ∃α2 ρ2 S2,Wd X.g α2 S2 H2∧Slots X.K α2 H2 ρ2 σ2∧P α2 S2 H2∧PostS X.g W α2 H2 D (kB gf F k.gs (k.ds.drop n) ρ2 S2),⟨_,rfl,Nat.zero_le _,α1,ρ,S1,w1,sl1,hP.here,by simpa using q1⟩,?_⟩
 rintro n m σ2 H2 ⟨rfl,hn,α2,ρ2,S2,w2,sl2,p2,q2⟩
 obtain⟨i1,i2⟩:=hP.it n α2 S2 H2 p2 w2
 by_cases hlt:n<k.ds.length
 ·obtain⟨go,yl⟩:=i1 hlt
  refine .inr ⟨go,fun σ3 H3=> ∃α3 ρ3 S3,Wd X.g α3 S3 H3∧Slots X.K α3 H3 ρ3 σ3∧P α3 S3 H3∧PostS X.g W α3 H3 D (kB gf F k.gs (k.ds.drop (n+1)) ρ3 S3),fun σ3 H3 ⟨α3,ρ3,S3,h3⟩=>⟨k.ds.length - (n+1),by omega,rfl,hlt,α3,ρ3,S3,h3⟩,fun v H3 y=>?_⟩
  obtain⟨x3,w3,p3,d,hd,dv⟩:=yl v H3 y
  have hdrop:k.ds.drop n=d::k.ds.drop (n+1):=by
   rw [List.drop_eq_getElem_cons hlt]
   have:=List.getElem?_eq_getElem hlt
   rw [hd]at this
   rw [←Option.some.inj this]
  rw [hdrop]at q2
  unfold kB at q2
  replace q2:=PostS.shift x3 q2
  refine kg α2 ρ2 S2 σ2 H3 d v _ w3 (sl2.ext x3) dv (q2.expr fun σ4 ρ4 S4 α4 H4 e4 x4 w4 s4 q4=>?_)
  have p4: ∀α5 S5 H5,Ext α4 H4 α5 H5→Wd X.g α5 S5 H5→stay k.gs S5→P α5 S5 H5:=fun α5 S5 H5 x5 w5 s5=>hP.stays α2 S2 H3 α5 S5 H5 p3 (x4.trans x5) w5 s5
  refine kb α4 ρ4 S4 σ4 H4 _ w4 s4 ((PostS.shift x4 q4).stmt ?_ ?_ ?_ ?_)
  ·intro ρ5 S5 σ5 α5 H5 e5 x5 w5 s5 q5
   have q5':PostS X.g W α4 H4 D (if stay k.gs S5 then kB gf F k.gs (k.ds.drop (n+1)) ρ5 S5 else .no):=q5
   split at q5'
   ·rename_i hst
    exact⟨α5,ρ5,S5,w5,s5,p4 α5 S5 H5 x5 w5 hst,PostS.shift x5 q5'⟩
   ·exact q5'.elim
  ·intro r S5 v5 α5 H5 e5 x5 w5 d5 q5
   exact q5 v5 α5 H5 x5 w5 d5
  ·intro ρ5 S5 σ5 α5 H5 e5 x5 w5 s5 q5
   exact q5 σ5 α5 H5 x5 w5 s5
  ·intro ρ5 S5 σ5 α5 H5 e5 x5 w5 s5 q5
   have q5':PostS X.g W α4 H4 D (if stay k.gs S5 then kB gf F k.gs (k.ds.drop (n+1)) ρ5 S5 else .no):=q5
   split at q5'
   ·rename_i hst
    exact⟨α5,ρ5,S5,w5,s5,p4 α5 S5 H5 x5 w5 hst,PostS.shift x5 q5'⟩
   ·exact q5'.elim
 ·have e:n=k.ds.length:=by omega
  subst e
  refine .inl ⟨i2 (Nat.le_refl _),?_⟩
  rw [List.drop_length]at q2
  exact q2 σ2 α2 H2 (Ext.refl _ _) w2 sl2
end
end M
end L2
namespace L2
namespace M
open PySem PySem.Spec PyProof.Rows
def noX{β:Type}:R β→R β
 | .ok b S=>.ok b S
 | _=>.no
theorem bS{β:Type}(b:β)(S:Sto):noX (R.ok b S)=.ok b S:=rfl
theorem Post.bindY{β τ γ υ:Type}[Dn β τ][Dn γ υ]{g:Gm}{W:XW}{α α':List Addr}{H H':Hp}(x:Ext α H α' H'){m:R β}{k:β→Sto→R γ}{Q:υ→Hp→Prop}{Q':τ→Hp→Prop}(q:Post g W α H ((noX m).bind k) Q)
  (f: ∀u b S1 α1 H1,m=.ok b S1→Ext α' H' α1 H1→Wd g α1 S1 H1→Dn.d g H' α1 S1 H1 b u→Post g W α H (k b S1) Q→Q' u H1):Post g W0 α' H' m Q':=by
 cases m with
 | ok b S=>exact fun u α1 H1 x w d=>f u b S α1 H1 rfl x w d q
 | exc c fs S=>exact q.elim
 | no=>exact q
theorem R.bind_assoc{β γ δ:Type}(m:R β)(k1:β→Sto→R γ)(k2:γ→Sto→R δ):(m.bind k1).bind k2=m.bind fun b S=>(k1 b S).bind k2:=by cases m<;>rfl
def blk(nt:Nat)(idx:List Nat)(ρ:Rho):Rho:=List.replicate nt none++idx.map fun i=>(ρ[i]?).join
open Classical in
noncomputable def wB(gf:MV→Rho→Sto→R Rho)(cf:Rho→Sto→R Bool)(ef:Rho→Sto→R Er)(ρb:Rho)(gs:List (Nat×List MV)):List MV→Sto→R (List MV)
 | [],S=>.ok [] S
 | d::ds,S=>(noX (gf d ρb S)).bind fun ρ1 S0=>(noX (cf ρ1 S0)).bind fun k S1=>
  if k=true then(noX (ef ρ1 S1)).bind fun r S2=>(zEA r S2).bind fun y S3=>if stay gs S3 then(wB gf cf ef ρb gs ds S3).bind fun out S4=>.ok (y::out) S4 else .no
  else if stay gs S1 then wB gf cf ef ρb gs ds S1 else .no
theorem yBF{K:PySem.W.Frag}{α:List Addr}{H:Hp}{ρ:Rho}{σ:St}(q:Slots K α H ρ σ)(nt:Nat)(idx:List Nat)(τ:St)(hτ:τ.length=nt):Slots K α H (blk nt idx ρ) (τ++zFN σ idx):=by
 refine⟨by unfold blk;rw [List.length_append,List.length_append,zBX,List.length_map,List.length_replicate,hτ],fun i d e=>?_⟩
 unfold blk at e
 by_cases hi:i<nt
 ·rw [List.getElem?_append_left (by rw [List.length_replicate];exact hi),List.getElem?_replicate]at e
  split at e<;>cases e
 ·rw [List.getElem?_append_right (by rw [List.length_replicate];omega),List.length_replicate,List.getElem?_map]at e
  cases z:idx[i - nt]? with
  | none=>rw [z]at e;cases e
  | some k=>
   rw [z]at e
   have e2:(ρ[k]?).join=some d:=Option.some.inj e
   cases z2:ρ[k]? with
   | none=>rw [z2]at e2;cases e2
   | some o=>
    rw [z2]at e2
    have e3:o=some d:=e2
    subst e3
    obtain⟨v,h1,h2⟩:=q.slot k d z2
    refine⟨v,?_,h2⟩
    rw [List.getElem?_append_right (by omega),hτ]
    unfold zFN
    rw [List.getElem?_map,z]
    show some (σ[k]?).join=some (some v)
    rw [h1];rfl
def Keeps(nt:Nat)(σ:St)(Q:St→Hp→Prop):St→Hp→Prop:=fun σ' H'=>σ'.length=σ.length→(∀j,nt≤j→σ'[j]? =σ[j]?)→Q σ' H'
def PGn(nt:Nat)(X:Cx)(W:XW)(tg:Expr)(gf:MV→Rho→Sto→R Rho):Prop:=
 ∃t,PG X tg t∧ ∀α ρ S σ H d v Q,Wd X.g α S H→Slots X.K α H ρ σ→Den X.K α H d v→Post X.g W α H (gf d ρ S) (Keeps nt σ Q)→t v σ H Q
section
variable{X:Cx}{W:XW}{e:Expr}{pos:Pos}{nt:Nat}
theorem zEB(i:Nat){x:Str}(hN:X.N.Nodup)(hi:X.N[i]? =some x:=by rfl)(hx:Loc X.env.scope x:=by first | exact Or.inl rfl | exact Or.inr rfl)(hf:X.fn x=true∨X.env.scope.names.lookup x=some .local:=by first | exact .inl rfl | exact .inr rfl | assumption)(hlt:i<nt:=by decide):
  PGn nt X W (.Name x pos) (gNm i):=⟨_,zYN hN hi hx hf,fun α ρ S σ H d v Q wd sl de q=>Post.here (b:=ρ.set i (some d)) q wd (sl.set de) (by rw [List.length_set]) fun j hj=>by rw [List.getElem?_set_ne (by omega)]⟩
end
abbrev yDY(X:Cx)(W:XW)(ifs:List Expr)(f:Rho→Sto→R Bool):Prop:=Jd X W (yAY X ifs) f
section
variable{X:Cx}{W:XW}{iter:Expr}{c:Expr}{tf:Rho→Sto→R Bool}{pos:Pos}
theorem zMY:yDY X W [] (fun _ S=>.ok true S):=⟨_,yDL,fun α ρ S σ H Q wd sl q=>q.here wd rfl⟩
theorem zSF(h:PTm X W c tf):yDY X W [c] tf:=let ⟨t,h,k⟩:=h;⟨t,yDM h,k⟩
open Classical in
theorem zZA{elt tg:Expr}{ifs:List Expr}{sc:Scope}{itf:Rho→Sto→R Wk}{cf:Rho→Sto→R Bool}{ef:Rho→Sto→R Er}{gf:MV→Rho→Sto→R Rho}(osc:Scope)(N:List Str)(T:List Str)(idx:List Nat)
  (hi:PIm X W tg iter itf) (hcalm:X.calm=true)
  (hg: ∀C s₂ H1 fp,([]++T++idx.map fun i=>(N[i]?).getD Str.empty).Nodup→PGn T.length (zY X sc T idx C s₂ H1 fp) W0 tg gf)
  (hc: ∀C s₂ H1 fp,yDY (zY X sc T idx C s₂ H1 fp) W0 ifs cf) (he: ∀C s₂ H1 fp,PEm (zY X sc T idx C s₂ H1 fp) W0 elt ef)
  (e1:X.env.scope=osc:=by rfl) (e2:X.N=N:=by rfl) (hB:zLW osc N sc idx=true:=by decide+kernel) (hN:([]++T++idx.map fun i=>(N[i]?).getD Str.empty).Nodup:=by decide+kernel)
  (hs: ∀y,foldedSetIterable iter X.env y=pure y:=by intro _;rfl):
  Jd (β:=Er) (τ:=V) X W (fun t=>PE X (.ListComp elt [⟨tg,iter,ifs,0⟩] sc pos) t∧PU X (.ListComp elt [⟨tg,iter,ifs,0⟩] sc pos) t) (fun ρ S=>(itf ρ S).bind fun k S1=>if k.ds.length<1000000 then(wB gf cf ef (blk T.length idx ρ) k.gs k.ds S1).bind fun out S2=>.ok (.new out) S2 else .no):=by
 obtain⟨wi,hi,ki⟩:=hi
 subst e1 e2
 have big:(1000000:Nat)<sizeLine:=by rw [sizeLine_eq];decide
 have hg': ∃t,(∀C s₂ H1 fp,PG (zY X sc T idx C s₂ H1 fp) tg t)∧ ∀α ρ S σ H d v Q,Wd X.g α S H→Slots X.K α H ρ σ→Den X.K α H d v→Post X.g W0 α H (gf d ρ S) (Keeps T.length σ Q)→t v σ H Q:=by
  refine⟨fun v σ H Q=> ∃α ρ S d,Wd X.g α S H∧Slots X.K α H ρ σ∧Den X.K α H d v∧Post X.g W0 α H (gf d ρ S) (Keeps T.length σ Q),fun C s₂ H1 fp pins s σ H v u Q I r ⟨α,ρ,S,d,h1,h2,h3,h4⟩=>?_,fun α ρ S σ H d v Q h1 h2 h3 h4=>⟨α,ρ,S,d,h1,h2,h3,h4⟩⟩
  obtain⟨t,ht,kt⟩:=hg C s₂ H1 fp hN
  exact ht pins s σ H v u Q I r (kt α ρ S σ H d v Q h1 h2 h3 h4)
 obtain⟨tg',hg1,kg⟩:=hg'
 refine⟨_,⟨yHL T idx hi hcalm hB hg1 (fun C s₂ H1 fp=>(Classical.choose_spec (hc C s₂ H1 fp)).1) (fun C s₂ H1 fp=>(Classical.choose_spec (he C s₂ H1 fp)).1) hs,yHO T idx hi hcalm hB hg1 (fun C s₂ H1 fp=>(Classical.choose_spec (hc C s₂ H1 fp)).1) (fun C s₂ H1 fp=>(Classical.choose_spec (he C s₂ H1 fp)).1) hs⟩,fun α ρ S σ H Q wd sl q=>ki α ρ S σ H _ wd sl (q.bind fun J k S1 α1 H1 e1 x1 w1 d1 q1=>?_)⟩
 obtain⟨P,hP⟩:=d1
 split at q1
 ·rename_i hlen
  refine⟨fun n m ys H2=>m=k.ds.length - n∧n≤k.ds.length∧ys.length≤n∧ ∃α2 S2,Ext α H α2 H2∧Wd X.g α2 S2 H2∧P α2 S2 H2∧ ∃outs,DenL X.K α2 H2 outs ys∧Post X.g W α H ((wB gf cf ef (blk T.length idx ρ) k.gs (k.ds.drop n) S2).bind fun o S'=>.ok (Er.new (outs++o)) S') Q,
   ⟨_,rfl,Nat.zero_le _,Nat.le_refl _,α1,S1,x1,w1,hP.here,[],xP,by simpa using q1⟩,?_⟩
  rintro n m ys H2 ⟨rfl,hn,hy,α2,S2,x2,w2,p2,outs,l,q2⟩
  obtain⟨i1,i2⟩:=hP.it n α2 S2 H2 p2 w2
  refine⟨by omega,?_⟩
  by_cases hlt:n<k.ds.length
  ·obtain⟨go,yl⟩:=i1 hlt
   refine .inr ⟨go,by omega,fun v H3 y τ hτ=>?_⟩
   obtain⟨x3,w3,p3,d,hd,dv⟩:=yl v H3 y
   have hdrop:k.ds.drop n=d::k.ds.drop (n+1):=by
    rw [List.drop_eq_getElem_cons hlt]
    have:=List.getElem?_eq_getElem hlt
    rw [hd]at this
    rw [←Option.some.inj this]
   rw [hdrop]at q2
   unfold wB at q2
   have slb:=yBF (sl.ext (x2.trans x3)) T.length idx τ hτ
   refine kg α2 (blk T.length idx ρ) S2 _ H3 d v _ w3 slb dv ?_
   rw [R.bind_assoc]at q2
   refine q2.bindY (x2.trans x3) fun σ4 ρ4 S4 α4 H4 e4 x4 w4 s4 q4 len4 kp4=>⟨⟨σ4.take T.length,?_,?_⟩,fun C s₂ fp=>?_⟩
   ·refine List.ext_getElem? fun j=>?_
    have hl4:σ4.length=T.length+idx.length:=by rw [len4,List.length_append,zBX,hτ]
    by_cases hj:j<T.length
    ·rw [List.getElem?_append_left (by rw [List.length_take];omega),List.getElem?_take_of_lt hj]
    ·rw [kp4 j (by omega),List.getElem?_append_right (by omega),List.getElem?_append_right (by rw [List.length_take];omega),hτ,List.length_take,Nat.min_eq_left (by omega)]
   ·rw [List.length_take,len4,List.length_append,zBX,hτ];omega
   have x34:Ext α H α4 H4:=(x2.trans x3).trans x4
   have p4: ∀α5 S5 H5,Ext α4 H4 α5 H5→Wd X.g α5 S5 H5→stay k.gs S5→P α5 S5 H5:=fun α5 S5 H5 x5 w5 s5=>hP.stays α2 S2 H3 α5 S5 H5 p3 (x4.trans x5) w5 s5
   rw [R.bind_assoc]at q4
   refine(Classical.choose_spec (hc C s₂ H1 fp)).2 α4 ρ4 S4 σ4 H4 _ w4 s4 (q4.bindY x34 fun b5 b5' S5 α5 H5 e5 x5 w5 d5 q5=>?_)
   cases d5
   cases b5 with
   | false=>
    rw [if_neg Bool.false_ne_true]at q5 ⊢
    split at q5
    ·rename_i hst
     exact⟨k.ds.length - (n+1),by omega,rfl,hlt,by omega,α5,S5,x34.trans x5,w5,p4 α5 S5 H5 x5 w5 hst,outs,(l.ext (x3.trans x4)).ext x5,q5⟩
    ·exact q5.elim
   | true=>
    rw [if_pos rfl,R.bind_assoc]at q5
    rw [if_pos rfl]
    refine(Classical.choose_spec (he C s₂ H1 fp)).2 α5 ρ4 S5 σ4 H5 _ w5 (s4.ext x5) (q5.bindY (x34.trans x5) fun y6 r6 S6 α6 H6 e6 x6 w6 d6 q6=>?_)
    obtain⟨d',S',α',e7,x7,y7,w7,de⟩:=zAK w6 x6 d6
    rw [e7]at q6
    have q6:Post X.g W α H ((if stay k.gs S' then(wB gf cf ef (blk T.length idx ρ) k.gs (k.ds.drop (n+1)) S').bind fun out S4=>.ok (d'::out) S4 else .no).bind fun o S'=>.ok (Er.new (outs++o)) S') Q:=q6
    split at q6
    ·rename_i hst
     refine⟨k.ds.length - (n+1),by omega,rfl,hlt,by rw [List.length_append,List.length_singleton];omega,α',S',(x34.trans x5).trans x7,w7,p4 α' S' H6 (x5.trans x7) w7 hst,outs++[d'],((l.ext (x3.trans x4)).ext (x5.trans x7)).append (xD de xP),?_⟩
     rw [R.bind_assoc]at q6
     have e8:(fun(o:List MV) (S':Sto)=>R.ok (Er.new ((outs++[d'])++o)) S')=(fun(b:List MV) S=>(R.ok (d'::b) S).bind fun o S'=>.ok (Er.new (outs++o)) S'):=by
      funext o S'
      show _=R.ok (Er.new (outs++(d'::o))) S'
      rw [List.append_assoc];rfl
     rw [e8]
     exact q6
    ·exact q6.elim
  ·have e:n=k.ds.length:=by omega
   subst e
   rw [List.drop_length]at q2
   have q3:Post X.g W α H (.ok (Er.new (outs++[])) S2) Q:=q2
   rw [List.append_nil]at q3
   exact .inl ⟨i2 (Nat.le_refl _),fun D hD=>(q3.shift x2).newl w2 hD l⟩
 ·exact q1.elim
open Classical in
theorem zHE{elt tg:Expr}{ifs:List Expr}{sc:Scope}{itf:Rho→Sto→R Wk}{cf:Rho→Sto→R Bool}{ef:Rho→Sto→R Er}{gf:MV→Rho→Sto→R Rho}(osc:Scope)(N:List Str)(T:List Str)(idx:List Nat)
  (hi:PIm X W tg iter itf) (hcalm:X.calm=true)
  (hg: ∀C s₂ H1 fp,([]++T++idx.map fun i=>(N[i]?).getD Str.empty).Nodup→PGn T.length (zY X sc T idx C s₂ H1 fp) W0 tg gf)
  (hc: ∀C s₂ H1 fp,yDY (zY X sc T idx C s₂ H1 fp) W0 ifs cf) (he: ∀C s₂ H1 fp,PEm (zY X sc T idx C s₂ H1 fp) W0 elt ef)
  (e1:X.env.scope=osc:=by rfl) (e2:X.N=N:=by rfl) (hB:zLW osc N sc idx=true:=by decide+kernel) (hN:([]++T++idx.map fun i=>(N[i]?).getD Str.empty).Nodup:=by decide+kernel)
  (hs: ∀y,foldedSetIterable iter X.env y=pure y:=by intro _;rfl):
  PEm X W (.ListComp elt [⟨tg,iter,ifs,0⟩] sc pos) (fun ρ S=>(itf ρ S).bind fun k S1=>if k.ds.length<1000000 then(wB gf cf ef (blk T.length idx ρ) k.gs k.ds S1).bind fun out S2=>.ok (.new out) S2 else .no):=let ⟨t,h,k⟩:=(zZA osc N T idx hi hcalm hg hc he e1 e2 hB hN hs);⟨t,h.1,k⟩
open Classical in
theorem yHT{x:Str}{pos' spos:Pos}(i:Nat)(hNN:X.N.Nodup){elt tg:Expr}{ifs:List Expr}{sc:Scope}{itf:Rho→Sto→R Wk}{cf:Rho→Sto→R Bool}{ef:Rho→Sto→R Er}{gf:MV→Rho→Sto→R Rho}(osc:Scope)(N:List Str)(T:List Str)(idx:List Nat)
  (hi:PIm X W tg iter itf) (hcalm:X.calm=true)
  (hg: ∀C s₂ H1 fp,([]++T++idx.map fun i=>(N[i]?).getD Str.empty).Nodup→PGn T.length (zY X sc T idx C s₂ H1 fp) W0 tg gf)
  (hc: ∀C s₂ H1 fp,yDY (zY X sc T idx C s₂ H1 fp) W0 ifs cf) (he: ∀C s₂ H1 fp,PEm (zY X sc T idx C s₂ H1 fp) W0 elt ef)
  (e1:X.env.scope=osc:=by rfl) (e2:X.N=N:=by rfl) (hB:zLW osc N sc idx=true:=by decide+kernel) (hN:([]++T++idx.map fun i=>(N[i]?).getD Str.empty).Nodup:=by decide+kernel)
  (hs: ∀y,foldedSetIterable iter X.env y=pure y:=by intro _;rfl)
  (hi2:X.N[i]? =some x:=by rfl) (hx:Loc X.env.scope x:=by first | exact Or.inl rfl | exact Or.inr rfl)
  (hsw:swapsWith (.ListComp elt [⟨tg,iter,ifs,0⟩] sc pos) (some (.Name x pos')) spos.line X.env=pure true:=by with_unfolding_all rfl) (hf:X.fn x=true∨X.env.scope.names.lookup x=some .local:=by first | exact .inl rfl | exact .inr rfl | assumption):
  PSm X W (.Assign [.Name x pos'] (.ListComp elt [⟨tg,iter,ifs,0⟩] sc pos) spos) (fun ρ S=>((itf ρ S).bind fun k S1=>if k.ds.length<1000000 then(wB gf cf ef (blk T.length idx ρ) k.gs k.ds S1).bind fun out S2=>.ok (.new out) S2 else .no).bind (yN ρ i)):=by
 obtain⟨t,h,k⟩:=(zZA osc N T idx hi hcalm hg hc he e1 e2 hB hN hs)
 refine⟨_,h.2 i x pos' spos hNN hi2 hx hf hsw,fun α ρ S σ H D wd sl q=>k α ρ S σ H _ wd sl (q.expr fun u r S1 α1 H1 e x1 w1 d1 q1=>?_)⟩
 obtain⟨d',S',α',e1,x',y',w',de⟩:=zAK w1 x1 d1
 unfold yN at q1
 rw [e1]at q1
 exact q1 _ α' H1 x' w' (((sl.ext x1).ex0 y').set de)
end
end M
end L2
namespace L2
namespace M
open PySem PySem.Spec PyProof.Rows
mutual
def lo(n:Nat):MV→Prop
 | .loc l=>l<n
 | .tup ds=>loL n ds
 | .scr ds=>loL n ds
 | _=>True
def loL(n:Nat):List MV→Prop
 | []=>True
 | d::ds=>lo n d∧loL n ds
end
def loO(n:Nat):MO→Prop
 | .lst ds=>loL n ds
 | .dic kvs=> ∀p∈kvs,lo n p.1∧lo n p.2
 | .ins _ fs=> ∀p∈fs,lo n p.2
section
variable{K:PySem.W.Frag}{α t:List Addr}{H:Hp}
mutual
theorem Den.back: ∀{d:MV}{v:V},Den K (α++t) H d v→lo α.length d→Den K α H d v
 | .non,_,q,_=>by cases zAP q;exact zDY
 | .bl _,_,q,_=>by cases zDM q;exact wK _
 | .int _,_,q,_=>by cases hJ q;exact xA _
 | .str _,_,q,_=>by cases jH q;exact zAB _
 | .typ _,_,q,_=>by cases dO q;exact zYT _
 | .loc l,_,q,h=>by
  obtain⟨a,rfl,e⟩:=bQ q
  have hl:l<α.length:=by unfold lo at h;exact h
  rw [List.getElem?_append_left hl]at e
  exact zJJ e
 | .tup ds,_,q,h=>by
  obtain⟨a,vs,rfl,s,l⟩:=hU q
  exact zDZ s (DenL.back l (by unfold lo at h;exact h))
 | .scr ds,_,q,h=>by
  obtain⟨a,vs,rfl,s,l⟩:=dP q
  exact zYU s (DenL.back l (by unfold lo at h;exact h))
theorem DenL.back: ∀{ds:List MV}{vs:List V},DenL K (α++t) H ds vs→loL α.length ds→DenL K α H ds vs
 | [],_,q,_=>by rw [q.isnil];exact xP
 | d::ds,_,q,h=>by
  obtain⟨v,r,rfl,a,l⟩:=q.uncons
  unfold loL at h
  exact xD (Den.back a h.1) (DenL.back l h.2)
end
mutual
theorem Den.lo: ∀{d:MV}{v:V},Den K α H d v→lo α.length d
 | .non,_,q=>by unfold M.lo;trivial
 | .bl _,_,q=>by unfold M.lo;trivial
 | .int _,_,q=>by unfold M.lo;trivial
 | .str _,_,q=>by unfold M.lo;trivial
 | .typ _,_,q=>by unfold M.lo;trivial
 | .loc l,_,q=>by
  obtain⟨a,rfl,e⟩:=bQ q
  unfold M.lo
  exact(List.getElem?_eq_some_iff.mp e).1
 | .tup ds,_,q=>by
  obtain⟨a,vs,rfl,s,l⟩:=hU q
  unfold M.lo
  exact DenL.lo l
 | .scr ds,_,q=>by
  obtain⟨a,vs,rfl,s,l⟩:=dP q
  unfold M.lo
  exact DenL.lo l
theorem DenL.lo: ∀{ds:List MV}{vs:List V},DenL K α H ds vs→loL α.length ds
 | [],_,q=>by unfold loL;trivial
 | d::ds,_,q=>by
  obtain⟨v,r,rfl,a,l⟩:=q.uncons
  unfold loL
  exact⟨Den.lo a,DenL.lo l⟩
end
theorem DenK.back: ∀{fs gs},DenK K (α++t) H fs gs→(∀p∈fs,M.lo α.length p.1∧M.lo α.length p.2)→DenK K α H fs gs
 | _,_,.nil,_=>.nil
 | _,_,.cons k a l,h=>.cons k (a.back (h _ List.mem_cons_self).2) (DenK.back l fun p hp=>h p (List.mem_cons_of_mem _ hp))
theorem KeyD.lo{n:Nat}{k:MV}{k':Key}(h:KeyD k k'):M.lo n k:=by
 unfold KeyD at h
 split at h
 ·unfold M.lo;trivial
 ·unfold M.lo;trivial
 ·exact h.elim
theorem DenK.lo: ∀{fs gs},DenK K α H fs gs→ ∀p∈fs,M.lo α.length p.1∧M.lo α.length p.2
 | _,_,.nil=>fun p h=>by simp at h
 | _,_,.cons k a l=>fun p h=>(List.mem_cons.mp h).elim (fun e=>by subst e;exact⟨k.lo,a.lo⟩) (DenK.lo l p)
theorem DenN.back: ∀{fs xs},DenN K (α++t) H fs xs→(∀p∈fs,M.lo α.length p.1∧M.lo α.length p.2)→DenN K α H fs xs
 | _,_,.nil,_=>.nil
 | _,_,.cons k e a d r l,h=>.cons k e (a.back (h _ List.mem_cons_self).1) (d.back (h _ List.mem_cons_self).2) r (DenN.back l fun p hp=>h p (List.mem_cons_of_mem _ hp))
theorem DenN.lo: ∀{fs xs},DenN K α H fs xs→ ∀p∈fs,M.lo α.length p.1∧M.lo α.length p.2
 | _,_,.nil=>fun p h=>by simp at h
 | _,_,.cons k e a d r l=>fun p h=>(List.mem_cons.mp h).elim (fun z=>by subst z;exact⟨a.lo,d.lo⟩) (DenN.lo l p)
theorem DenF.back: ∀{fs gs},DenF K (α++t) H fs gs→(∀p∈fs,M.lo α.length p.2)→DenF K α H fs gs
 | _,_,.nil,_=>.nil
 | _,_,.cons a l,h=>.cons (a.back (h _ List.mem_cons_self)) (DenF.back l fun p hp=>h p (List.mem_cons_of_mem _ hp))
theorem DenF.lo: ∀{fs gs},DenF K α H fs gs→ ∀p∈fs,M.lo α.length p.2
 | _,_,.nil=>fun p h=>by simp at h
 | _,_,.cons a l=>fun p h=>(List.mem_cons.mp h).elim (fun e=>by subst e;exact a.lo) (DenF.lo l p)
theorem ObD.back{g:Gm}{a:Addr}{o:MO}(q:ObD g (α++t) H a o)(h:loO α.length o):ObD g α H a o:=by
 cases o with
 | lst ds=>obtain⟨vs,h1,l⟩:=q;exact⟨vs,h1,l.back h⟩
 | dic ds=>
  rcases q with⟨vs,h1,l⟩ | ⟨vs,h1,l⟩
  ·exact .inl ⟨vs,h1,l.back h⟩
  ·exact .inr ⟨vs,h1,l.back h⟩
 | ins c fs=>obtain⟨C,gs,m,l,r⟩:=q;exact⟨C,gs,m,l.back h,r⟩
theorem ObD.lo{g:Gm}{a:Addr}{o:MO}(q:ObD g α H a o):loO α.length o:=by
 cases o with
 | lst ds=>obtain⟨vs,h1,l⟩:=q;exact l.lo
 | dic ds=>
  rcases q with⟨vs,h1,l⟩ | ⟨vs,h1,l⟩
  ·exact l.lo
  ·exact l.lo
 | ins c fs=>obtain⟨C,gs,m,l,r⟩:=q;exact l.lo
end
def zQZ(S S2:Sto):Prop:=S.length≤S2.length∧ ∀l,l<S.length→S2[l]? =S[l]? ∨ ∃o,S2[l]? =some o∧loO S.length o
open Classical in
noncomputable def dA(S:Sto)(r:Er)(S2:Sto):R Er:=
 if zQZ S S2 then match r with
  | .val (.loc l)=>if l<S.length then .ok r (S2.take S.length)else match S2[l]? with
   | some (.lst ds)=>if loL S.length ds then .ok (.new ds) (S2.take S.length)else .ok r S2
   | _=>.ok r S2
  | .val d=>if lo S.length d then .ok r (S2.take S.length)else .ok r S2
  | .new ds=>if loL S.length ds then .ok r (S2.take S.length)else .ok r S2
 else .ok r S2
theorem zSG{g:Gm}{α α1 α2 α3:List Addr}{H H1 H3:Hp}{S1 S3:Sto}{r:Er}{v:V}(x1:Ext α H α1 H1)(w1:Wd g α1 S1 H1)(h12: ∃t,α2=α1++t)(x2:Ext α H α2 H1)(x3:Ext α2 H1 α3 H3)(w3:Wd g α3 S3 H3)(d:DenE g.K H1 α3 H3 r v):
  ∃r' S' α',dA S1 r S3=.ok r' S'∧Ext α H α' H3∧Wd g α' S' H3∧DenE g.K H α' H3 r' v:=by
 have x23:=x2.trans x3
 have dfull:DenE g.K H α3 H3 r v:=d.back fun b h=>x1.free h
 unfold dA
 by_cases hc:zQZ S1 S3
 ·rw [if_pos hc]
  obtain⟨t,ht⟩: ∃t,α3=α1++t:=by
   obtain⟨t,e⟩:=h12
   obtain⟨u,e'⟩:=x3.pre
   exact⟨t++u,by rw [e',e,List.append_assoc]⟩
  have hn:α1.length=S1.length:=w1.len
  have xc:Ext α H α1 H3:=⟨⟨x1.pre,x23.tup,x23.frz⟩,x1.new,x23.keep,x23.has⟩
  have wc:Wd g α1 (S3.take S1.length) H3:=by
   refine⟨by rw [List.length_take,hn,Nat.min_eq_left hc.1],w1.nd,fun l a o h1 h2=>?_⟩
   have hl:l<S1.length:=by rw [←hn];exact(List.getElem?_eq_some_iff.mp h1).1
   rw [List.getElem?_take_of_lt hl]at h2
   have h1':α3[l]? =some a:=by rw [ht,List.getElem?_append_left (by rw [hn];exact hl)];exact h1
   have q:=w3.obj l a o h1' h2
   rw [ht]at q
   refine q.back ?_
   rcases hc.2 l hl with e | ⟨o',e,lo'⟩
   ·rw [e]at h2
    exact(w1.obj l a o h1 h2).lo
   ·rw [h2]at e
    cases e
    rw [hn];exact lo'
  have dlo: ∀d,lo S1.length d→Den g.K α3 H3 d v→DenE g.K H α1 H3 (.val d) v:=fun d hd q=>.val ((ht▸q:Den g.K (α1++t) H3 d v).back (by rw [hn];exact hd))
  cases r with
  | new ds=>
   dsimp only
   split
   ·rename_i hl
    obtain⟨⟨b,vs,rfl,h1,h2,h3⟩,h4⟩:=dfull
    exact⟨_,_,α1,rfl,xc,wc,⟨b,vs,rfl,h1,fun z=>h2 (by rw [ht];exact List.mem_append_left _ z),(ht▸h3:DenL g.K (α1++t) H3 ds vs).back (by rw [hn];exact hl)⟩,h4⟩
   ·exact⟨_,_,α3,rfl,x23,w3,dfull⟩
  | val mv=>
   have dd:Den g.K α3 H3 mv v:=dfull.1
   cases mv with
   | loc l=>
    dsimp only
    split
    ·rename_i hl
     exact⟨_,_,α1,rfl,xc,wc,dlo _ (by unfold lo;exact hl) dd⟩
    ·rename_i hl
     obtain⟨a,rfl,ha⟩:=bQ dd
     split
     ·rename_i ds hS
      split
      ·rename_i hlo
       obtain⟨vs,h1,h2⟩:=w3.obj l a _ ha hS
       have hna:a∉α1:=fun z=>by
        obtain⟨m,hm⟩:=List.getElem?_of_mem z
        have hml:m<α1.length:=(List.getElem?_eq_some_iff.mp hm).1
        have hm':α3[m]? =some a:=by rw [ht,List.getElem?_append_left hml];exact hm
        obtain⟨u1,e1⟩:=List.getElem?_eq_some_iff.mp hm'
        obtain⟨u2,e2⟩:=List.getElem?_eq_some_iff.mp ha
        have:=(List.getElem_inj w3.nd).mp (e1.trans e2.symm)
        omega
       refine⟨_,_,α1,rfl,xc,wc,⟨a,vs,rfl,h1,hna,(ht▸h2:DenL g.K (α1++t) H3 ds vs).back (by rw [hn];exact hlo)⟩,fun b e=>?_⟩
       cases e
       rcases x23.new a (List.mem_of_getElem? ha)with z | z
       ·obtain⟨u,eu⟩:=x1.pre
        exact absurd (by rw [eu];exact List.mem_append_left _ z) hna
       ·exact z
      ·exact⟨_,_,α3,rfl,x23,w3,dfull⟩
     ·exact⟨_,_,α3,rfl,x23,w3,dfull⟩
   | non=>dsimp only;split;(· rename_i hl;exact⟨_,_,α1,rfl,xc,wc,dlo _ hl dd⟩);(· exact⟨_,_,α3,rfl,x23,w3,dfull⟩)
   | bl b=>dsimp only;split;(· rename_i hl;exact⟨_,_,α1,rfl,xc,wc,dlo _ hl dd⟩);(· exact⟨_,_,α3,rfl,x23,w3,dfull⟩)
   | int b=>dsimp only;split;(· rename_i hl;exact⟨_,_,α1,rfl,xc,wc,dlo _ hl dd⟩);(· exact⟨_,_,α3,rfl,x23,w3,dfull⟩)
   | str b=>dsimp only;split;(· rename_i hl;exact⟨_,_,α1,rfl,xc,wc,dlo _ hl dd⟩);(· exact⟨_,_,α3,rfl,x23,w3,dfull⟩)
   | typ b=>dsimp only;split;(· rename_i hl;exact⟨_,_,α1,rfl,xc,wc,dlo _ hl dd⟩);(· exact⟨_,_,α3,rfl,x23,w3,dfull⟩)
   | tup b=>dsimp only;split;(· rename_i hl;exact⟨_,_,α1,rfl,xc,wc,dlo _ hl dd⟩);(· exact⟨_,_,α3,rfl,x23,w3,dfull⟩)
   | scr b=>dsimp only;split;(· rename_i hl;exact⟨_,_,α1,rfl,xc,wc,dlo _ hl dd⟩);(· exact⟨_,_,α3,rfl,x23,w3,dfull⟩)
 ·rw [if_neg hc]
  exact⟨_,_,α3,rfl,x23,w3,dfull⟩
def spM(g:Gm)(n:Nat)(F:List MV→Sto→R Er):Sp:=fun vs H Q _=> ∃α S ds,Wd g α S H∧DenL g.K α H ds vs∧ds.length=n∧Post g W0 α H (F ds S) Q
noncomputable def zJ(n:Nat)(F:List MV→Sto→R Er)(rs:List Er)(S:Sto):R Er:=if rs.length=n then(noX (F (zQ rs S).1 (zQ rs S).2)).bind fun r S2=>dA S r S2 else .no
section
variable{X:Cx}{W:XW}{e:Expr}{es:List Expr}{af:Rho→Sto→R (List Er)}{pos:Pos}
theorem yBG{n:Nat}{F:List MV→Sto→R Er}{rs:List Er}{vs:List V}{α α1:List Addr}{H H1:Hp}{S1:Sto}{Q:VK}(x1:Ext α H α1 H1)(w1:Wd X.g α1 S1 H1)(d1:ArgsE X.K H α1 H1 rs vs)(q:Post X.g W α H (zJ n F rs S1) Q):
  spM X.g n F vs H1 Q E0:=by
 unfold zJ at q
 split at q
 ·rename_i hl
  obtain⟨α2,x2,y2,w2,l2⟩:=zDN w1 x1 d1
  refine⟨α2,_,_,w2,l2,by rw [zHA];exact hl,?_⟩
  cases z:F (zQ rs S1).1 (zQ rs S1).2 with
  | ok r S3=>
   rw [z]at q
   intro v α3 H3 x3 w3 d3
   obtain⟨r',S',α',e',x',w',d'⟩:=zSG x1 w1 y2.pre x2 x3 w3 d3
   have q:Post X.g W α H (dA S1 r S3) Q:=q
   rw [e']at q
   exact q v α' H3 x' w' d'
  | exc c fs S3=>rw [z]at q;exact q.elim
  | no=>rw [z]at q;exact q.elim
 ·exact q.elim
theorem yHU{k n:Nat}{fa:Addr}{fd:FuncData}{ps:List Str}{F:List MV→Sto→R Er}{x:Str}{p:Pos}(G:FnOk X.prog X.w X.K X.mg X.base CX0 k fa fd ps (spM X.g n F))(hr:Room k X.A)(hg:Gl X x)(hm:X.mg x=some (.ref fa))
  (hk:PySem.W.keepIn X.K (.ref fa)=true) (hb:Binds X.K fd ps []) (ha:PAm X W (e::es) af) (hdb:(x==("__debug__":Str))=false:=by decide)
  (he:starEach (e::es) X.env=(false,eval e X.env)::starEach es X.env:=by rfl) (hpl:(backTo pos (starEach es X.env)).any (·.1)=false:=by rfl):
  PEm X W (.Call (.Name x p) (e::es) [] pos) (fun ρ S=>(af ρ S).bind fun rs S1=>zJ n F rs S1):=by
 obtain⟨t,ha,kk⟩:=ha
 refine⟨_,yHD G hr hg hm hk hb .nil pass0 ha hdb he hpl,fun α ρ S σ H Q wd sl q=>kk α ρ S σ H _ wd sl (q.bind fun vs rs S1 α1 H1 e1 x1 w1 d1 q1=>?_)⟩
 rw [List.append_nil]
 exact yBG x1 w1 d1 q1
end
def zT(N:List Str)(ds:List MV):Rho:=ds.map some++List.replicate (N.length - ds.length) none
def xT:R Fl→R Er
 | .ok (.next _) S=>.ok (.val .non) S
 | .ok (.ret r) S=>.ok r S
 | .exc c fs S=>.exc c fs S
 | _=>.no
theorem zLY{K:PySem.W.Frag}{α:List Addr}{N:List Str}{H:Hp}{ds:List MV}{vs:List V}(l:DenL K α H ds vs):Slots K α H (zT N ds) (start N vs):=by
 have hlen:=l.length
 refine⟨?_,fun i d e=>?_⟩
 ·unfold start zT
  rw [List.length_append,List.length_append,List.length_map,List.length_map,List.length_replicate,List.length_replicate,hlen]
 ·unfold zT at e
  by_cases hi:i<ds.length
  ·rw [List.getElem?_append_left (by simpa using hi),List.getElem?_map]at e
   cases z:ds[i]? with
   | none=>rw [z]at e;cases e
   | some d'=>
    rw [z]at e
    obtain⟨v,h1,h2⟩:=l.at z
    have e':d'=d:=Option.some.inj (Option.some.inj e)
    subst e'
    refine⟨v,?_,h2⟩
    unfold start
    rw [List.getElem?_append_left (by rw [List.length_map,hlen];exact hi),List.getElem?_map,h1];rfl
  ·rw [List.getElem?_append_right (by simpa using hi),List.getElem?_replicate]at e
   split at e<;>cases e
section
variable{P:Program}{w:World}{K:PySem.W.Frag}{mg:Str→Option Value}{base:Heap}
theorem okM{x qual:Str}{st:Stmt}{f:Addr}{fd:FuncData}{N ps:List Str}{k:Nat}(Fb:Rho→Sto→R Fl)(F:Fun K x qual st f fd)(Sc:FnScope N ps (zK st))
  (hbody: ∀(cdv:Value)(A:Around)(outer:List Env)(s:Shared)(H:Hp)(E:XK),Room k (A.deeper (envOfC qual (zK st) s.heap.objs.size f cdv))→
   zMJ (zRQ CX0 P w K mg base N qual (zK st) f cdv A outer s H E).nox W0 (jR st) Fb):
  FnOk P w K mg base CX0 (k+1) f fd ps (spM ⟨K,mg,P,w⟩ ps.length fun ds S=>xT (Fb (zT N ds) S)):=by
 refine F.ok Sc (fun vs H Q E h=>?_) (fun cdv A outer s H vs Q E hr h=>?_)
 ·obtain⟨α,S,ds,_,l,hl,_⟩:=h
  rw [l.length,hl]
 ·obtain⟨α,S,ds,wd,l,hl,q⟩:=h
  obtain⟨t,ht,kk⟩:=hbody cdv A outer s H E hr
  refine⟨t,ht,kk α (zT N ds) S (start N vs) H _ wd (zLY l) ?_⟩
  dsimp only at q
  cases z:Fb (zT N ds) S with
  | ok fl S'=>
   rw [z]at q
   cases fl with
   | next ρ=>exact fun σ α' H' x' w' s'=>q .non α' H' x' w' (DenE.val zDY)
   | ret r=>exact fun v α' H' x' w' d'=>q v α' H' x' w' d'
   | brk ρ=>exact q.elim
   | cont ρ=>exact q.elim
  | exc c fs S'=>rw [z]at q;exact fun α' H' x' w'=>q α' H' x' w'
  | no=>rw [z]at q;exact q
end
end M
end L2
namespace L2
namespace M
open PySem PySem.Spec PyProof.Rows
inductive Vw where
 | fl (v:V) | tp (ds:List MV) | ls (ds:List MV)
def hX(S:Sto):Er→Option (List MV)
 | .new ds=>some ds
 | .val (.scr ds)=>some ds
 | .val (.loc l)=>match S[l]? with
  | some (.lst ds)=>some ds
  | _=>none
 | _=>none
def vwE(S:Sto):Er→Option Vw
 | .val .non=>some (.fl .non)
 | .val (.bl b)=>some (.fl (.bl b))
 | .val (.int i)=>some (.fl (.int i))
 | .val (.str x)=>some (.fl (.str (mkS x)))
 | .val (.tup ds)=>some (.tp ds)
 | .val (.typ _)=>none
 | r=>(hX S r).map .ls
def prs(e:MV→MV→Option Bool):List MV→List MV→Option (List Bool)
 | d::ds,f::fs=>(e d f).bind fun k=>(prs e ds fs).map (k::·)
 | _,_=>some []
def eqW(e:MV→MV→Option Bool):Vw→Vw→Option Bool
 | .fl x,.fl y=>some (eqV x y)
 | .tp ds,.tp es=>(prs e ds es).map fun bs=>bs.all id&&ds.length==es.length
 | .ls ds,.ls es=>if ds.length=es.length then(prs e ds es).map fun bs=>bs.all id else some false
 | _,_=>some false
theorem zWY(e:MV→MV→Option Bool)(ds es:List MV):eqW e (.tp ds) (.tp es)=(prs e ds es).map fun bs=>bs.all id&&ds.length==es.length:=rfl
theorem zWZ(e:MV→MV→Option Bool)(ds es:List MV):eqW e (.ls ds) (.ls es)=if ds.length=es.length then(prs e ds es).map fun bs=>bs.all id else some false:=rfl
def eqv(S:Sto):Nat→MV→MV→Option Bool
 | 0,_,_=>none
 | n+1,a,b=>(vwE S (.val a)).bind fun x=>(vwE S (.val b)).bind fun y=>eqW (eqv S n) x y
def zKU(S:Sto)(n:Nat)(a b:Er):Option Bool:=(vwE S a).bind fun x=>(vwE S b).bind fun y=>eqW (eqv S n) x y
section
variable{X:Cx}{α:List Addr}{S:Sto}{H:Hp}
theorem zJL{K:PySem.W.Frag}{g:Gm}(hK:g.K=K)(wd:Wd g α S H){r:Er}{ds:List MV}{x:V}(e:hX S r=some ds)(d:DenX K α H r x): ∃a vs,x=.ref a∧SqL K H a vs∧DenL K α H ds vs:=by
 subst hK
 unfold hX at e
 split at e
 ·cases e
  obtain⟨b,vs,rfl,h,_,l⟩:=d
  exact⟨b,vs,rfl,.of h,l⟩
 ·cases e
  obtain⟨a,vs,rfl,s,l⟩:=zNZ d
  exact⟨a,vs,rfl,s.l,l⟩
 ·rename_i n
  obtain⟨a,rfl,h⟩:=dQ d
  split at e
  ·rename_i es hS
   cases e
   obtain⟨vs,h1,l⟩:=wd.obj n a _ h hS
   exact⟨a,vs,rfl,.of h1,l⟩
  ·cases e
 ·cases e
theorem zFC{r:Er}{x y:V}(e:vwE S r=some (.fl y))(d:DenX X.K α H r x):x=y∧kH y=true:=by
 unfold vwE at e
 split at e
 ·cases e;exact⟨zIH d,rfl⟩
 ·cases e;exact⟨zFB d,rfl⟩
 ·cases e;exact⟨yV d,rfl⟩
 ·cases e;exact⟨kP d,rfl⟩
 ·cases e
 ·cases e
 ·cases z:hX S r<;>rw [z]at e<;>cases e
theorem zFD{r:Er}{x:V}{ds:List MV}(e:vwE S r=some (.tp ds))(d:DenX X.K α H r x): ∃a vs,x=.ref a∧SqT X.K H a vs∧DenL X.K α H ds vs:=by
 unfold vwE at e
 split at e
 ·cases e
 ·cases e
 ·cases e
 ·cases e
 ·cases e;exact gH d
 ·cases e
 ·cases z:hX S r<;>rw [z]at e<;>cases e
theorem zFE(wd:Wd X.g α S H){r:Er}{x:V}{ds:List MV}(e:vwE S r=some (.ls ds))(d:DenX X.K α H r x): ∃a vs,x=.ref a∧SqL X.K H a vs∧DenL X.K α H ds vs:=by
 unfold vwE at e
 split at e
 ·cases e
 ·cases e
 ·cases e
 ·cases e
 ·cases e
 ·cases e
 ·cases z:hX S r with
  | none=>rw [z]at e;cases e
  | some es=>rw [z]at e;cases e;exact zJL rfl wd z d
theorem zHF{e:MV→MV→Option Bool}: ∀{ds es:List MV}{bs:List Bool},prs e ds es=some bs→bs.length=min ds.length es.length
 | [],_,_,h=>by simp [prs]at h;subst h;simp
 | _::_,[],_,h=>by simp [prs]at h;subst h;simp
 | d::ds,f::fs,bs,h=>by
  unfold prs at h
  cases z:e d f with
  | none=>rw [z]at h;cases h
  | some k=>
   rw [z]at h
   cases z2:prs e ds fs with
   | none=>simp [z2]at h
   | some cs=>
    simp [z2]at h
    subst h
    simp [zHF z2]
theorem zSH{e:MV→MV→Option Bool}: ∀{ds es:List MV}{bs:List Bool}{j:Nat}{d f:MV},prs e ds es=some bs→ds[j]? =some d→es[j]? =some f→e d f=some (bs.getD j true)
 | [],_,_,_,_,_,h,h1,_=>by simp at h1
 | _::_,[],_,_,_,_,h,_,h2=>by simp at h2
 | d::ds,f::fs,bs,j,d',f',h,h1,h2=>by
  unfold prs at h
  cases z:e d f with
  | none=>rw [z]at h;cases h
  | some k=>
   rw [z]at h
   cases z2:prs e ds fs with
   | none=>simp [z2]at h
   | some cs=>
    simp [z2]at h
    subst h
    cases j with
    | zero=>simp at h1 h2;subst h1 h2;simpa using z
    | succ j=>simpa using zSH z2 (by simpa using h1) (by simpa using h2)
theorem range_all{bs:List Bool}{n:Nat}(h:bs.length=n):(List.range n).all (fun j=>bs.getD j true)=bs.all id:=by
 subst h
 rw [Bool.eq_iff_iff,List.all_eq_true,List.all_eq_true]
 constructor
 ·intro h x hx
  obtain⟨i,hi,rfl⟩:=List.getElem_of_mem hx
  have:=h i (List.mem_range.mpr hi)
  simpa [List.getD_eq_getElem?_getD,hi]using this
 ·intro h i hi
  have hi':=List.mem_range.mp hi
  have:=h bs[i] (List.getElem_mem hi')
  simpa [List.getD_eq_getElem?_getD,hi']using this
variable{pins:List (Addr×Obj)}{σ:St}{s:Shared}
theorem zJM(I:Inv X pins σ H s){a:Addr}{xs ys:List V}(h:SqL X.K H a xs)(h':SqT X.K H a ys):False:=by
 obtain⟨_,_,pl,_⟩:=I.list h
 obtain⟨_,_,pt,_⟩:=I.tuple h'
 obtain⟨o,n,e,c,_,_⟩:=pl
 obtain⟨o',e',c',_⟩:=pt
 rw [e]at e'
 cases e'
 rw [c]at c'
 exact absurd c' (by simp)
theorem yDZ(I:Inv X pins σ H s)(wd:Wd X.g α S H){e:MV→MV→Option Bool}(he: ∀d f v k,Den X.K α H d v→Den X.K α H f v→e d f=some k→k=true){a b:Er}{x:V}{p q:Vw}{k:Bool}
  (ha:vwE S a=some p) (hb:vwE S b=some q) (da:DenX X.K α H a x) (db:DenX X.K α H b x) (h:eqW e p q=some k):k=true:=by
 have hp: ∀{ds es:List MV}{vs:List V}{bs:List Bool},DenL X.K α H ds vs→DenL X.K α H es vs→prs e ds es=some bs→bs.all id=true:=by
  intro ds es vs bs l1 l2 z
  rw [List.all_eq_true]
  intro k hk
  obtain⟨i,hi,rfl⟩:=List.getElem_of_mem hk
  have hl:=zHF z
  have h1:i<ds.length:=by omega
  have h2:i<es.length:=by omega
  obtain⟨v,g1,g2⟩:=l1.at (List.getElem?_eq_getElem h1)
  obtain⟨v',g3,g4⟩:=l2.at (List.getElem?_eq_getElem h2)
  rw [g1]at g3;cases g3
  have:=he _ _ _ _ g2 g4 (zSH z (List.getElem?_eq_getElem h1) (List.getElem?_eq_getElem h2))
  simpa [List.getD_eq_getElem?_getD,hi]using this
 cases p with
 | fl y=>
  obtain⟨rfl,f1⟩:=zFC ha da
  cases q with
  | fl z=>obtain⟨rfl,f2⟩:=zFC hb db;cases h;exact yDO f1
  | tp ds=>obtain⟨a,vs,rfl,_⟩:=zFD hb db;exact absurd (show false=true from f1) Bool.false_ne_true
  | ls ds=>obtain⟨a,vs,rfl,_⟩:=zFE wd hb db;exact absurd (show false=true from f1) Bool.false_ne_true
 | tp ds=>
  obtain⟨a1,vs,rfl,s1,l1⟩:=zFD ha da
  cases q with
  | fl z=>obtain⟨rfl,f2⟩:=zFC hb db;exact absurd (show false=true from f2) Bool.false_ne_true
  | tp es=>
   obtain⟨a2,us,e2,s2,l2⟩:=zFD hb db
   cases e2
   cases I.tuple_inj s1 s2
   rw [zWY]at h
   cases z:prs e ds es with
   | none=>rw [z]at h;cases h
   | some bs=>
    rw [z]at h
    cases h
    show(bs.all id&&ds.length==es.length)=true
    rw [hp l1 l2 z, ←l1.length, ←l2.length];simp
  | ls es=>obtain⟨a2,us,e2,s2,l2⟩:=zFE wd hb db;cases e2;exact(zJM I s2 s1).elim
 | ls ds=>
  obtain⟨a1,vs,rfl,s1,l1⟩:=zFE wd ha da
  cases q with
  | fl z=>obtain⟨rfl,f2⟩:=zFC hb db;exact absurd (show false=true from f2) Bool.false_ne_true
  | tp es=>obtain⟨a2,us,e2,s2,l2⟩:=zFD hb db;cases e2;exact(zJM I s1 s2).elim
  | ls es=>
   obtain⟨a2,us,e2,s2,l2⟩:=zFE wd hb db
   cases e2
   cases I.list_inj s1 s2
   rw [zWZ]at h
   rw [if_pos (by rw [←l1.length, ←l2.length])]at h
   cases z:prs e ds es with
   | none=>rw [z]at h;cases h
   | some bs=>rw [z]at h;cases h;exact hp l1 l2 z
theorem zOI(I:Inv X pins σ H s)(wd:Wd X.g α S H): ∀(n:Nat)(d f:MV)(v:V)(k:Bool),Den X.K α H d v→Den X.K α H f v→eqv S n d f=some k→k=true
 | 0,_,_,_,_,_,_,h=>by cases h
 | n+1,d,f,v,k,h1,h2,h=>by
  unfold eqv at h
  cases za:vwE S (.val d)with
  | none=>rw [za]at h;cases h
  | some p=>
   cases zb:vwE S (.val f)with
   | none=>rw [za,zb]at h;cases h
   | some q=>
    rw [za,zb]at h
    exact yDZ I wd (zOI I wd n) za zb (a:=.val d) (b:=.val f) h1 h2 h
theorem zJN{e:MV→MV→Option Bool}{A:Around}(he: ∀d f x y u v k,Den X.K α H d x→Den X.K α H f y→RelV x u→RelV y v→e d f=some k→SeqAt.EqAt A s u v k)
  {ds es:List MV} {vs us:List V} {its its2:List Value} {bs:List Bool} (l1:DenL X.K α H ds vs) (l2:DenL X.K α H es us) (r1:Vals vs its) (r2:Vals us its2) (z:prs e ds es=some bs):
  ∀j (h1:j<its.toArray.size) (h2:j<its2.toArray.size),SeqAt.EqAt A s its.toArray[j] its2.toArray[j] (bs.getD j true):=by
 intro j h1 h2
 have g1:j<vs.length:=by rw [r1.length];simpa using h1
 have g2:j<us.length:=by rw [r2.length];simpa using h2
 obtain⟨d,d1,d2⟩:=l1.get (List.getElem?_eq_getElem g1)
 obtain⟨f,f1,f2⟩:=l2.get (List.getElem?_eq_getElem g2)
 obtain⟨u,u1,u2⟩:=r1.get (List.getElem?_eq_getElem g1)
 obtain⟨v,v1,v2⟩:=r2.get (List.getElem?_eq_getElem g2)
 have e1:its.toArray[j]=u:=by
  have:its[j]? =some (its[j]'(by simpa using h1)):=List.getElem?_eq_getElem _
  rw [u1]at this
  simpa using(Option.some.inj this).symm
 have e2:its2.toArray[j]=v:=by
  have:its2[j]? =some (its2[j]'(by simpa using h2)):=List.getElem?_eq_getElem _
  rw [v1]at this
  simpa using(Option.some.inj this).symm
 rw [e1,e2]
 exact he d f _ _ u v _ d2 f2 u2 v2 (zSH z d1 f1)
theorem zSI(I:Inv X pins σ H s)(wd:Wd X.g α S H): ∀(n:Nat)(A:Around)(d f:MV)(x y:V)(u v:Value)(k:Bool),A.units+n<cLine→Den X.K α H d x→Den X.K α H f y→RelV x u→RelV y v→eqv S n d f=some k→SeqAt.EqAt A s u v k
 | 0,_,_,_,_,_,_,_,_,_,_,_,_,_,h=>by cases h
 | n+1,A,d,f,x,y,u,v,k,hu,h1,h2,rx,ry,h=>by
  have hu0:A.units<cLine:=by omega
  have hsame:=h
  unfold eqv at h
  cases za:vwE S (.val d)with
  | none=>rw [za]at h;cases h
  | some p=>
   cases zb:vwE S (.val f)with
   | none=>rw [za,zb]at h;cases h
   | some q=>
    rw [za,zb]at h
    have h:eqW (eqv S n) p q=some k:=h
    have he:=fun d f x y u v k a b c d' e=>zSI I wd n A.in1 d f x y u v k (show A.units+1+n<cLine by omega) a b c d' e
    cases p with
    | fl x'=>
     obtain⟨rfl,fx⟩:=zFC za (α:=α) (H:=H) (X:=X) h1
     cases q with
     | fl y'=>obtain⟨rfl,fy⟩:=zFC zb (α:=α) (H:=H) (X:=X) h2;cases h;exact yMA rx ry fx fy
     | tp es=>
      obtain⟨b,us,rfl,s2,l2⟩:=zFD zb (α:=α) (H:=H) (X:=X) h2
      cases ry;cases h
      obtain⟨its,_,pt,_⟩:=I.tuple s2
      exact yKD rx fx pt hu0
     | ls es=>
      obtain⟨b,us,rfl,s2,l2⟩:=zFE wd zb h2
      cases ry;cases h
      obtain⟨its,_,pl,_⟩:=I.list s2
      exact eq_lr rx fx pl.isList hu0
    | tp ds=>
     obtain⟨a,vs,rfl,s1,l1⟩:=zFD za (α:=α) (H:=H) (X:=X) h1
     cases rx
     obtain⟨its,r1,pt,_⟩:=I.tuple s1
     cases q with
     | fl y'=>obtain⟨rfl,fy⟩:=zFC zb (α:=α) (H:=H) (X:=X) h2;cases h;exact yKC ry fy pt hu0
     | tp es=>
      obtain⟨b,us,rfl,s2,l2⟩:=zFD zb (α:=α) (H:=H) (X:=X) h2
      cases ry
      by_cases hab:a=b
      ·subst hab
       rw [zOI I wd (n+1) d f _ k h1 h2 hsame]
       exact SeqAt.EqAt.same _
      ·obtain⟨its2,r2,pt2,_⟩:=I.tuple s2
       rw [zWY]at h
       cases z:prs (eqv S n) ds es with
       | none=>rw [z]at h;cases h
       | some bs=>
        rw [z]at h
        cases h
        have:=SeqAt.RcAt.tuples pt pt2 hu0 (zJN he l1 l2 r1 r2 z)
        have hl:=zHF z
        rw [range_all (by rw [hl];simp [←r1.length, ←r2.length,l1.length,l2.length])]at this
        have e3:(its.toArray.size==its2.toArray.size)=(ds.length==es.length):=by simp [←r1.length, ←r2.length,l1.length,l2.length]
        rw [e3]at this
        exact SeqAt.EqAt.of_refs hab this
     | ls es=>
      obtain⟨b,us,rfl,s2,l2⟩:=zFE wd zb h2
      cases ry;cases h
      obtain⟨its2,_,pl,_⟩:=I.list s2
      exact SeqAt.EqAt.tuple_list pt pl.isList hu0
    | ls ds=>
     obtain⟨a,vs,rfl,s1,l1⟩:=zFE wd za h1
     cases rx
     obtain⟨its,r1,pl,_⟩:=I.list s1
     cases q with
     | fl y'=>obtain⟨rfl,fy⟩:=zFC zb (α:=α) (H:=H) (X:=X) h2;cases h;exact eq_ll ry fy pl.isList hu0
     | tp es=>
      obtain⟨b,us,rfl,s2,l2⟩:=zFD zb (α:=α) (H:=H) (X:=X) h2
      cases ry;cases h
      obtain⟨its2,_,pt,_⟩:=I.tuple s2
      exact SeqAt.EqAt.list_tuple pl.isList pt hu0
     | ls es=>
      obtain⟨b,us,rfl,s2,l2⟩:=zFE wd zb h2
      cases ry
      by_cases hab:a=b
      ·subst hab
       rw [zOI I wd (n+1) d f _ k h1 h2 hsame]
       exact SeqAt.EqAt.same _
      ·obtain⟨its2,r2,pl2,_⟩:=I.list s2
       rw [zWZ]at h
       by_cases hl:ds.length=es.length
       ·rw [if_pos hl]at h
        cases z:prs (eqv S n) ds es with
        | none=>rw [z]at h;cases h
        | some bs=>
         rw [z]at h
         cases h
         have hs:its.toArray.size=its2.toArray.size:=by simp [←r1.length, ←r2.length,l1.length,l2.length,hl]
         have:=SeqAt.RcAt.lists pl.isList pl2.isList hs hu0 (zJN he l1 l2 r1 r2 z)
         have hl':=zHF z
         rw [range_all (by rw [hl'];simp [←r1.length,l1.length,hl])]at this
         exact SeqAt.EqAt.of_refs hab this
       ·rw [if_neg hl]at h
        cases h
        exact SeqAt.EqAt.of_refs hab (SeqAt.RcAt.lists_lengths pl.isList pl2.isList (by simpa [←r1.length, ←r2.length,l1.length,l2.length]using hl) hu0)
theorem yKG{RC:Around→Shared→Value→Value→Bool→Prop}{tr:Bool→Bool}{A:Around}
  (hff: ∀x y u v,RelV x u→RelV y v→kH x=true→kH y=true→RC A s u v (tr (eqV x y)))
  (hfl: ∀x v l items,RelV x v→kH x=true→s.heap.IsList l items→A.units<cLine→RC A s v (.ref l) (tr false)∧RC A s (.ref l) v (tr false))
  (hft: ∀x v l items,RelV x v→kH x=true→s.heap.IsTuple l items→A.units<cLine→RC A s v (.ref l) (tr false)∧RC A s (.ref l) v (tr false))
  (hlt: ∀l b items items2,s.heap.IsList l items→s.heap.IsTuple b items2→A.units<cLine→RC A s (.ref l) (.ref b) (tr false)∧RC A s (.ref b) (.ref l) (tr false))
  (htt: ∀(l b:Addr)(items items2:Array Value)(e:Nat→Bool),s.heap.IsTuple l items→s.heap.IsTuple b items2→A.units<cLine→(∀j (h1:j<items.size) (h2:j<items2.size),SeqAt.EqAt A.in1 s items[j] items2[j] (e j))→RC A s (.ref l) (.ref b) (tr ((List.range (min items.size items2.size)).all e&&items.size==items2.size)))
  (hll: ∀(l b:Addr)(items items2:Array Value)(e:Nat→Bool),s.heap.IsList l items→s.heap.IsList b items2→items.size=items2.size→A.units<cLine→(∀j (h1:j<items.size) (h2:j<items2.size),SeqAt.EqAt A.in1 s items[j] items2[j] (e j))→RC A s (.ref l) (.ref b) (tr ((List.range items.size).all e)))
  (hln: ∀(l b:Addr)(items items2:Array Value),s.heap.IsList l items→s.heap.IsList b items2→(items.size !=items2.size)=true→A.units<cLine→RC A s (.ref l) (.ref b) (tr false))
  (I:Inv X pins σ H s) (wd:Wd X.g α S H) (n:Nat) {a b:Er} {x y:V} {u v:Value} {k:Bool} (hu:A.units+(n+1)<cLine) (h1:DenX X.K α H a x) (h2:DenX X.K α H b y) (rx:RelV x u) (ry:RelV y v) (h:zKU S n a b=some k):RC A s u v (tr k):=by
 have hu0:A.units<cLine:=by omega
 unfold zKU at h
 cases za:vwE S a with
 | none=>rw [za]at h;cases h
 | some p=>
  cases zb:vwE S b with
  | none=>rw [za,zb]at h;cases h
  | some q=>
   rw [za,zb]at h
   have h:eqW (eqv S n) p q=some k:=h
   have he:=fun d f x y u v k a b c d' e=>zSI I wd n A.in1 d f x y u v k (show A.units+1+n<cLine by omega) a b c d' e
   cases p with
   | fl x'=>
    obtain⟨rfl,fx⟩:=zFC za h1
    cases q with
    | fl y'=>obtain⟨rfl,fy⟩:=zFC zb h2;cases h;exact hff _ _ _ _ rx ry fx fy
    | tp es=>
     obtain⟨b,us,rfl,s2,l2⟩:=zFD zb h2
     cases ry;cases h
     obtain⟨its,_,pt,_⟩:=I.tuple s2
     exact(hft _ _ _ _ rx fx pt hu0).1
    | ls es=>
     obtain⟨b,us,rfl,s2,l2⟩:=zFE wd zb h2
     cases ry;cases h
     obtain⟨its,_,pl,_⟩:=I.list s2
     exact(hfl _ _ _ _ rx fx pl.isList hu0).1
   | tp ds=>
    obtain⟨a,vs,rfl,s1,l1⟩:=zFD za h1
    cases rx
    obtain⟨its,r1,pt,_⟩:=I.tuple s1
    cases q with
    | fl y'=>obtain⟨rfl,fy⟩:=zFC zb h2;cases h;exact(hft _ _ _ _ ry fy pt hu0).2
    | tp es=>
     obtain⟨b,us,rfl,s2,l2⟩:=zFD zb h2
     cases ry
     obtain⟨its2,r2,pt2,_⟩:=I.tuple s2
     rw [zWY]at h
     cases z:prs (eqv S n) ds es with
     | none=>rw [z]at h;cases h
     | some bs=>
      rw [z]at h
      cases h
      have:=htt _ _ _ _ _ pt pt2 hu0 (zJN he l1 l2 r1 r2 z)
      have hl:=zHF z
      rw [range_all (by rw [hl];simp [←r1.length, ←r2.length,l1.length,l2.length])]at this
      have e3:(its.toArray.size==its2.toArray.size)=(ds.length==es.length):=by simp [←r1.length, ←r2.length,l1.length,l2.length]
      rw [e3]at this
      exact this
    | ls es=>
     obtain⟨b,us,rfl,s2,l2⟩:=zFE wd zb h2
     cases ry;cases h
     obtain⟨its2,_,pl,_⟩:=I.list s2
     exact(hlt _ _ _ _ pl.isList pt hu0).2
   | ls ds=>
    obtain⟨a,vs,rfl,s1,l1⟩:=zFE wd za h1
    cases rx
    obtain⟨its,r1,pl,_⟩:=I.list s1
    cases q with
    | fl y'=>obtain⟨rfl,fy⟩:=zFC zb h2;cases h;exact(hfl _ _ _ _ ry fy pl.isList hu0).2
    | tp es=>
     obtain⟨b,us,rfl,s2,l2⟩:=zFD zb h2
     cases ry;cases h
     obtain⟨its2,_,pt,_⟩:=I.tuple s2
     exact(hlt _ _ _ _ pl.isList pt hu0).1
    | ls es=>
     obtain⟨b,us,rfl,s2,l2⟩:=zFE wd zb h2
     cases ry
     obtain⟨its2,r2,pl2,_⟩:=I.list s2
     rw [zWZ]at h
     by_cases hl:ds.length=es.length
     ·rw [if_pos hl]at h
      cases z:prs (eqv S n) ds es with
      | none=>rw [z]at h;cases h
      | some bs=>
       rw [z]at h
       cases h
       have hs:its.toArray.size=its2.toArray.size:=by simp [←r1.length, ←r2.length,l1.length,l2.length,hl]
       have:=hll _ _ _ _ _ pl.isList pl2.isList hs hu0 (zJN he l1 l2 r1 r2 z)
       have hl':=zHF z
       rw [range_all (by rw [hl'];simp [←r1.length,l1.length,hl])]at this
       exact this
     ·rw [if_neg hl]at h
      cases h
      exact hln _ _ _ _ pl.isList pl2.isList (by simpa [←r1.length, ←r2.length,l1.length,l2.length]using hl) hu0
theorem yMM(I:Inv X pins σ H s)(wd:Wd X.g α S H)(n:Nat){A:Around}{a b:Er}{x y:V}{u v:Value}{k:Bool}(hu:A.units+(n+1)<cLine)(h1:DenX X.K α H a x)(h2:DenX X.K α H b y)(rx:RelV x u)(ry:RelV y v)(h:zKU S n a b=some k):SeqAt.RcAt A s u v k:=
 yKG (RC:=SeqAt.RcAt) (tr:=id) (fun _ _ _ _ a b c d=>yMG a b c d) (fun _ _ _ _ a b c d=>⟨rc_lr a b c d,rc_ll a b c d⟩) (fun _ _ _ _ a b c d=>⟨rc_tr a b c d,rc_tl a b c d⟩)
  (fun _ _ _ _ a b c=>⟨SeqAt.RcAt.list_tuple a b c,SeqAt.RcAt.tuple_list b a c⟩) (fun _ _ _ _ _ a b c d=>SeqAt.RcAt.tuples a b c d) (fun _ _ _ _ _ a b c d e=>SeqAt.RcAt.lists a b c d e) (fun _ _ _ _ a b c d=>SeqAt.RcAt.lists_lengths a b c d)
  I wd n hu h1 h2 rx ry h
theorem yMN(I:Inv X pins σ H s)(wd:Wd X.g α S H)(n:Nat){A:Around}{a b:Er}{x y:V}{u v:Value}{k:Bool}(hu:A.units+(n+1)<cLine)(h1:DenX X.K α H a x)(h2:DenX X.K α H b y)(rx:RelV x u)(ry:RelV y v)(h:zKU S n a b=some k):SeqAt.RcNeAt A s u v (!k):=
 yKG (RC:=SeqAt.RcNeAt) (tr:=fun b=>!b) (fun _ _ _ _ a b c d=>yMH a b c d) (fun _ _ _ _ a b c d=>⟨rn_lr a b c d,rn_ll a b c d⟩) (fun _ _ _ _ a b c d=>⟨rn_tr a b c d,rn_tl a b c d⟩)
  (fun _ _ _ _ a b c=>⟨SeqAt.RcNeAt.list_tuple a b c,SeqAt.RcNeAt.tuple_list b a c⟩) (fun _ _ _ _ _ a b c d=>SeqAt.RcNeAt.tuples a b c d) (fun _ _ _ _ _ a b c d e=>SeqAt.RcNeAt.lists a b c d e) (fun _ _ _ _ a b c d=>SeqAt.RcNeAt.lists_lengths a b c d)
  I wd n hu h1 h2 rx ry h
mutual
theorem Den.inj(I:Inv X pins σ H s)(wd:Wd X.g α S H): ∀{d f:MV}{v:V},Den X.K α H d v→Den X.K α H f v→d=f
 | .non,f,v,h,h'=>by cases zAP h;cases f<;>first | rfl | (have:=zDM h';cases this;done) | (have:=hJ h';cases this;done) | (have:=jH h';cases this;done) | (have:=dO h';cases this;done) | (obtain⟨_,_,e,_⟩:=hU h';cases e;done) | (obtain⟨_,_,e,_⟩:=dP h';cases e;done) | (obtain⟨_,e,_⟩:=bQ h';cases e;done)
 | .bl b,f,v,h,h'=>by cases zDM h;cases f<;>first | (have:=zDM h';cases this;rfl;done) | (have:=zAP h';cases this;done) | (have:=hJ h';cases this;done) | (have:=jH h';cases this;done) | (have:=dO h';cases this;done) | (obtain⟨_,_,e,_⟩:=hU h';cases e;done) | (obtain⟨_,_,e,_⟩:=dP h';cases e;done) | (obtain⟨_,e,_⟩:=bQ h';cases e;done)
 | .int b,f,v,h,h'=>by cases hJ h;cases f<;>first | (have:=hJ h';cases this;rfl;done) | (have:=zAP h';cases this;done) | (have:=zDM h';cases this;done) | (have:=jH h';cases this;done) | (have:=dO h';cases this;done) | (obtain⟨_,_,e,_⟩:=hU h';cases e;done) | (obtain⟨_,_,e,_⟩:=dP h';cases e;done) | (obtain⟨_,e,_⟩:=bQ h';cases e;done)
 | .str b,f,v,h,h'=>by cases jH h;cases f<;>first | (have:=jH h';rw [zRY (V.str.inj this)];done) | (have:=zAP h';cases this;done) | (have:=zDM h';cases this;done) | (have:=hJ h';cases this;done) | (have:=dO h';cases this;done) | (obtain⟨_,_,e,_⟩:=hU h';cases e;done) | (obtain⟨_,_,e,_⟩:=dP h';cases e;done) | (obtain⟨_,e,_⟩:=bQ h';cases e;done)
 | .typ b,f,v,h,h'=>by cases dO h;cases f<;>first | (have:=dO h';cases this;rfl;done) | (have:=zAP h';cases this;done) | (have:=zDM h';cases this;done) | (have:=hJ h';cases this;done) | (have:=jH h';cases this;done) | (obtain⟨_,_,e,_⟩:=hU h';cases e;done) | (obtain⟨_,_,e,_⟩:=dP h';cases e;done) | (obtain⟨_,e,_⟩:=bQ h';cases e;done)
 | .tup ds,f,v,h,h'=>by
  obtain⟨a,vs,rfl,s1,l1⟩:=hU h
  cases f with
  | tup es=>
   obtain⟨a2,us,e2,s2,l2⟩:=hU h'
   cases e2
   cases I.tuple_inj s1 s2
   rw [DenL.inj I wd l1 l2]
  | scr es=>obtain⟨a2,us,e2,s2,l2⟩:=dP h';cases e2;exact(zJM I s2.l s1).elim
  | loc l=>
   obtain⟨a2,e2,h2⟩:=bQ h'
   cases e2
   obtain⟨ho,k1,k2,k3⟩:=wd.mem (List.mem_of_getElem? h2)
   rcases s1 with(s1 | ⟨o,s1⟩) | ⟨o,its,n,s1,_⟩
   ·rw [k1]at s1;exact absurd (Option.some.inj s1) (k2 _)
   ·rw [k1]at s1;exact absurd (Option.some.inj s1) (k3 _ _)
   ·have:=(I.bs a o (I.mod.kin a o s1)).2;rw [k1]at this;cases this
  | non=>cases zAP h'
  | bl b=>cases zDM h'
  | int b=>cases hJ h'
  | str b=>cases jH h'
  | typ b=>cases dO h'
 | .scr ds,f,v,h,h'=>by
  obtain⟨a,vs,rfl,s1,l1⟩:=dP h
  cases f with
  | scr es=>
   obtain⟨a2,us,e2,s2,l2⟩:=dP h'
   cases e2
   cases I.list_inj s1.l s2.l
   rw [DenL.inj I wd l1 l2]
  | tup es=>obtain⟨a2,us,e2,s2,l2⟩:=hU h';cases e2;exact(zJM I s1.l s2).elim
  | loc l=>
   obtain⟨a2,e2,h2⟩:=bQ h'
   cases e2
   obtain⟨ho,k1,k2,k3⟩:=wd.mem (List.mem_of_getElem? h2)
   rcases s1 with⟨o,s1⟩ | ⟨o,its,n,s1,_⟩
   ·rw [k1]at s1;exact absurd (Option.some.inj s1) (k3 _ _)
   ·have:=(I.bs a o (I.mod.kin a o s1)).2;rw [k1]at this;cases this
  | non=>cases zAP h'
  | bl b=>cases zDM h'
  | int b=>cases hJ h'
  | str b=>cases jH h'
  | typ b=>cases dO h'
 | .loc l,f,v,h,h'=>by
  obtain⟨a,rfl,h1⟩:=bQ h
  obtain⟨ho,k1,k2,k3⟩:=wd.mem (List.mem_of_getElem? h1)
  cases f with
  | loc m=>
   obtain⟨a2,e2,h2⟩:=bQ h'
   cases e2
   by_cases hlm:l=m
   ·rw [hlm]
   ·exact absurd rfl (wd.ne h1 h2 hlm)
  | tup es=>
   obtain⟨a2,us,e2,s1,l2⟩:=hU h'
   cases e2
   rcases s1 with(s1 | ⟨o,s1⟩) | ⟨o,its,n,s1,_⟩
   ·rw [k1]at s1;exact absurd (Option.some.inj s1) (k2 _)
   ·rw [k1]at s1;exact absurd (Option.some.inj s1) (k3 _ _)
   ·have:=(I.bs a o (I.mod.kin a o s1)).2;rw [k1]at this;cases this
  | scr es=>
   obtain⟨a2,us,e2,s1,l2⟩:=dP h'
   cases e2
   rcases s1 with⟨o,s1⟩ | ⟨o,its,n,s1,_⟩
   ·rw [k1]at s1;exact absurd (Option.some.inj s1) (k3 _ _)
   ·have:=(I.bs a o (I.mod.kin a o s1)).2;rw [k1]at this;cases this
  | non=>cases zAP h'
  | bl b=>cases zDM h'
  | int b=>cases hJ h'
  | str b=>cases jH h'
  | typ b=>cases dO h'
theorem DenL.inj(I:Inv X pins σ H s)(wd:Wd X.g α S H): ∀{ds fs:List MV}{vs:List V},DenL X.K α H ds vs→DenL X.K α H fs vs→ds=fs
 | [],fs,vs,h,h'=>by
  cases h.isnil
  cases fs with
  | nil=>rfl
  | cons f fs=>obtain⟨_,_,e,_⟩:=h'.uncons;cases e
 | d::ds,fs,vs,h,h'=>by
  obtain⟨v,r,rfl,a,l⟩:=h.uncons
  cases fs with
  | nil=>cases h'.isnil
  | cons f fs=>
   obtain⟨v',r',e,a',l'⟩:=h'.uncons
   cases e
   rw [Den.inj I wd a a',DenL.inj I wd l l']
end
end
end M
end L2
namespace L2
namespace M
open PySem PySem.Spec PyProof.Rows
inductive LexR(A:Around)(s:Shared):List Value→List Value→Bool→Prop
 | nn:LexR A s [] [] false
 | nc (x xs):LexR A s [] (x::xs) true
 | cn (y ys):LexR A s (y::ys) [] false
 | eq {y x ys xs k}:SeqAt.EqAt A s y x true→LexR A s ys xs k→LexR A s (y::ys) (x::xs) k
 | ne {y x ys xs k}:SeqAt.EqAt A s y x false→(∀(prog:Program)(w:World)(E Q:Value→Shared→Prop),Q (.bool k) s→wpAny (model prog w) A (richCompare .Lt y x) Q E s)→LexR A s (y::ys) (x::xs) k
section
open PySem.SeqAt
open PySem.AutoSeq1 (wpAny_loadPart')
open PySem.MeetsSeq PySem.MeetsSeq2 PySem.MeetsSeq3
theorem zXA(l b:Addr)(its its2:Array Value)(n n2:Nat)(dd dd2:Option Addr)(sl sl2:Array (Option Value))(k:Bool):
  Meets (Builtin.«tuple.__lt__» ⟨[.ref l,.ref b],[]⟩)
   (fun A R s=>s.heap.get? l=some {cls:=.type "tuple",dict:=dd,data:=.seq its n,slots:=sl}∧s.heap.get? b=some {cls:=.type "tuple",dict:=dd2,data:=.seq its2 n2,slots:=sl2}∧
    LexR A.in1 s its.toList its2.toList k∧R (.ok (.ret (.bool k))) s):=
 .of_wp fun prog w A R s h=>by
  obtain⟨hp,g,d,tk,os⟩:=s;obtain⟨hl,hb,hx,h⟩:=h
  have f2:=AutoSeq1.sub_tuple_tuple
  wp_walk using wpAny_loadPart' hl,wpAny_loadPart' hb,wpAny_forIn_list _ (fun rest b s'=>b.1=none∧s'=⟨hp,g,d,tk,os⟩∧ ∃(vs ws:List Value),rest=vs.zip ws∧
   LexR A.in1 ⟨hp,g,d,tk,os⟩ vs ws k∧vs.length+its2.size=ws.length+its.size) _
  case turn=>
   rintro⟨y,x⟩ rest b s' ⟨hb',rfl,vs,ws,hz,hlx,hlen⟩
   cases hlx with
   | nn=>rw [List.zip_nil_left]at hz;cases hz
   | nc x xs=>rw [List.zip_nil_left]at hz;cases hz
   | cn y ys=>rw [List.zip_nil_right]at hz;cases hz
   | @eq y' x' ys xs k' he hr=>
    rw [List.zip_cons_cons]at hz
    injection hz with hyx hrest
    injection hyx with hy hx
    subst hy hx
    simp only [List.length_cons]at hlen
    refine wpAny_bind (he prog w _ _ ?_)
    wp_walk
    exact⟨rfl,rfl,_,_,hrest,hr,by omega⟩
   | @ne y' x' ys xs k' he hr=>
    rw [List.zip_cons_cons]at hz
    injection hz with hyx hrest
    injection hyx with hy hx
    subst hy hx
    refine wpAny_bind (he prog w _ _ ?_)
    have hri:=hr prog w
    wp_walk using hri
    exact⟨_,rfl,by simpa using h⟩
  case fin=>
   rintro⟨b1,b2⟩ s' ⟨hb',rfl,vs,ws,hz,hlx,hlen⟩
   simp only at hb'
   subst hb'
   have hv:k=decide (its.size<its2.size):=by
    cases hlx with
    | nn=>simp only [List.length_nil]at hlen;exact(decide_eq_false (by omega)).symm
    | nc x xs=>simp only [List.length_nil,List.length_cons]at hlen;exact(decide_eq_true (by omega)).symm
    | cn y ys=>simp only [List.length_nil,List.length_cons]at hlen;exact(decide_eq_false (by omega)).symm
    | eq he hr=>rw [List.zip_cons_cons]at hz;cases hz
    | ne he hr=>rw [List.zip_cons_cons]at hz;cases hz
   rw [hv]at h
   wp_walk
   exact⟨_,rfl,by simpa [Builtin.Tuple.tupleCompareSizes]using h⟩
  case h=>
   exact⟨rfl,rfl,its.toList,its2.toList,rfl,hx,by simp;omega⟩
end
theorem yEA{A:Around}{s:Shared}{l b:Addr}{its its2:Array Value}{k:Bool}(hl:IsTup s.heap l its)(hb:IsTup s.heap b its2)(hx:LexR A.in1 s its.toList its2.toList k)(hu:A.units<cLine)(prog:Program)(w:World)(E Q:Value→Shared→Prop)(h:Q (.bool k) s):
  wpAny (model prog w) A (richCompare .Lt (.ref l) (.ref b)) Q E s:=by
 obtain⟨⟨cls,dd,data,sl⟩,ho,hc,n,hd⟩:=id hl
 obtain⟨⟨cls2,dd2,data2,sl2⟩,ho2,hc2,n2,hd2⟩:=id hb
 simp only at hc hd hc2 hd2
 subst hc hd hc2 hd2
 exact richCompare_meets_room (op:=.Lt) ⟨_,ho,rfl⟩ ⟨_,ho2,rfl⟩ PySem.F.slot_tuple_lt PySem.F.entry_tuple_lt (PySem.F.args_tuple_lt_2 _ _) (zXA l b its its2 n n2 dd dd2 sl sl2 k)
  ⟨ho,ho2,hx,show Value.bool k≠Value.notImplemented∧Q (.bool k) s from⟨(fun x=>nomatch x),h⟩⟩ hu
def yEB(e l:MV→MV→Option Bool):List MV→List MV→Option Bool
 | [],[]=>some false
 | [],_::_=>some true
 | _::_,[]=>some false
 | d::ds,f::fs=>(e d f).bind fun k=>if k=true then yEB e l ds fs else l d f
def ltv(S:Sto):Nat→MV→MV→Option Bool
 | 0,_,_=>none
 | n+1,.int i,.int j=>some (decide (i<j))
 | n+1,.str x,.str y=>some (decide (x<y))
 | n+1,.tup ds,.tup es=>yEB (eqv S n) (ltv S n) ds es
 | _,_,_=>none
section
variable{X:Cx}{α:List Addr}{S:Sto}{H:Hp}{pins:List (Addr×Obj)}{σ:St}{s:Shared}
theorem yKH{A:Around}{e l:MV→MV→Option Bool}(he: ∀d f x y u v k,Den X.K α H d x→Den X.K α H f y→RelV x u→RelV y v→e d f=some k→SeqAt.EqAt A s u v k)
  (hl: ∀d f x y u v k,Den X.K α H d x→Den X.K α H f y→RelV x u→RelV y v→l d f=some k→ ∀(prog:Program)(w:World)(E Q:Value→Shared→Prop),Q (.bool k) s→wpAny (model prog w) A (richCompare .Lt u v) Q E s):
  ∀{ds fs:List MV}{vs us:List V}{its its2:List Value}{k:Bool},DenL X.K α H ds vs→DenL X.K α H fs us→Vals vs its→Vals us its2→yEB e l ds fs=some k→LexR A s its its2 k
 | [],[],_,_,_,_,k,l1,l2,r1,r2,h=>by
  cases l1.isnil;cases l2.isnil;cases r1;cases r2;cases h;exact .nn
 | [],f::fs,_,_,_,_,k,l1,l2,r1,r2,h=>by
  cases l1.isnil
  obtain⟨v,r,rfl,a,l⟩:=l2.uncons
  cases r1
  cases r2 with
  | cons a b=>cases h;exact .nc _ _
 | d::ds,[],_,_,_,_,k,l1,l2,r1,r2,h=>by
  cases l2.isnil
  obtain⟨v,r,rfl,a,l⟩:=l1.uncons
  cases r2
  cases r1 with
  | cons a b=>cases h;exact .cn _ _
 | d::ds,f::fs,_,_,_,_,k,l1,l2,r1,r2,h=>by
  obtain⟨v,r,rfl,a,l1'⟩:=l1.uncons
  obtain⟨v2,r3,rfl,a2,l2'⟩:=l2.uncons
  cases r1 with
  | cons b1 c1=>
   cases r2 with
   | cons b2 c2=>
    unfold yEB at h
    cases z:e d f with
    | none=>rw [z]at h;cases h
    | some kk=>
     rw [z]at h
     have h:(if kk=true then yEB e l ds fs else l d f)=some k:=h
     cases kk with
     | true=>
      rw [if_pos rfl]at h
      exact .eq (he d f _ _ _ _ _ a a2 b1 b2 z) (yKH he hl l1' l2' c1 c2 h)
     | false=>
      rw [if_neg Bool.false_ne_true]at h
      exact .ne (he d f _ _ _ _ _ a a2 b1 b2 z) (hl d f _ _ _ _ _ a a2 b1 b2 h)
theorem yEC(I:Inv X pins σ H s)(wd:Wd X.g α S H): ∀(n:Nat)(A:Around)(d f:MV)(x y:V)(u v:Value)(k:Bool),A.units+n<cLine→Den X.K α H d x→Den X.K α H f y→RelV x u→RelV y v→ltv S n d f=some k→
  ∀(prog:Program)(w:World)(E Q:Value→Shared→Prop),Q (.bool k) s→wpAny (model prog w) A (richCompare .Lt u v) Q E s
 | 0,_,_,_,_,_,_,_,_,_,_,_,_,_,h=>by cases h
 | n+1,A,d,f,x,y,u,v,k,hu,h1,h2,rx,ry,h=>by
  intro prog w E Q hq
  unfold ltv at h
  split at h
  ·cases h
  ·cases h
   cases hJ h1;cases hJ h2
   obtain⟨t,rfl⟩:=rx
   obtain⟨t',rfl⟩:=ry
   exact(PyProof.Rows.lt_int hq:wpAny (model prog w) A (compareOp .Lt _ _) Q E s)
  ·cases h
   cases jH h1;cases jH h2
   obtain⟨t,rfl⟩:=rx
   obtain⟨t',rfl⟩:=ry
   refine(PySem.P.lt_str ?_:wpAny (model prog w) A (compareOp .Lt _ _) Q E s)
   rw [zDW,zDW]
   exact hq
  ·rename_i n' ds es hn
   obtain⟨a,vs,rfl,s1,l1⟩:=hU h1
   obtain⟨b,us,rfl,s2,l2⟩:=hU h2
   cases rx;cases ry
   obtain⟨its,r1,pt,_⟩:=I.tuple s1
   obtain⟨its2,r2,pt2,_⟩:=I.tuple s2
   cases hn
   refine yEA pt pt2 ?_ (by omega) prog w E Q hq
   exact yKH (fun d f x y u v k a b c d' e=>zSI I wd n A.in1 d f x y u v k (show A.units+1+n<cLine by omega) a b c d' e)
    (fun d f x y u v k a b c d' e=>yEC I wd n A.in1 d f x y u v k (show A.units+1+n<cLine by omega) a b c d' e) l1 l2 r1 r2 h
  ·cases h
end
end M
end L2
namespace L2
namespace M
open PySem PySem.Spec PyProof.Rows
section
variable{X:Cx}{W:XW}{a b c e:Expr}{es:List Expr}{f g h:Rho→Sto→R Er}{af:Rho→Sto→R (List Er)}{pos:Pos}
def iiF(C:Int→Int→Prop)[∀i j,Decidable (C i j)](g:Int→Int→Int):Er→Er→Sto→R Er
 | .val (.int i),.val (.int j),S=>if C i j then .ok (.val (.int (g i j))) S else .no
 | _,_,_=>.no
def ibF(g:Int→Int→Bool):Er→Er→Sto→R Er
 | .val (.int i),.val (.int j),S=>.ok (.val (.bl (g i j))) S
 | _,_,_=>.no
theorem zXB{C C':Int→Int→Prop}[∀i j,Decidable (C i j)]{g:Int→Int→Int}(h: ∀i j,C i j→C' i j):Op2 X W (rI C' fun i j=>.int (g i j)) (iiF C g):=by
 intro p q x y α S H Q wd dp dq post
 unfold iiF at post
 split at post
 ·split at post
  ·rename_i hc
   exact⟨_,_,yV dp,yV dq,h _ _ hc,Post.val post wd (xA _)⟩
  ·exact post.elim
 ·exact post.elim
theorem yHV{g:Int→Int→Int}:Op2 X W (rI0 fun i j=>.int (g i j)) (iiF (fun _ _=>True) g):=by
 intro p q x y α S H Q wd dp dq post
 unfold iiF at post
 split at post
 ·rw [if_pos trivial]at post
  exact⟨_,_,yV dp,yV dq,Post.val post wd (xA _)⟩
 ·exact post.elim
theorem yED{g:Int→Int→Bool}:Op2 X W (rI0 fun i j=>.bl (g i j)) (ibF g):=by
 intro p q x y α S H Q wd dp dq post
 unfold ibF at post
 split at post
 ·exact⟨_,_,yV dp,yV dq,Post.val post wd (wK _)⟩
 ·exact post.elim
abbrev zXC:=iiF (fun _ _=>True) fun i j=>i - j
theorem zOJ(ha:PEm X W a f)(hb:PEm X W b g):PEm X W (.BinOp a .Sub b pos) (fun ρ S=>(f ρ S).bind fun p S1=>(g ρ S1).bind fun q S2=>zXC p q S2):=zQY yLQ yHV ha hb
def yBH(_ j:Int):Prop:=0<j∧j.natAbs.log2<9000
instance(i j:Int):Decidable (yBH i j):=inferInstanceAs (Decidable (_∧_))
abbrev zOK:=iiF yBH fun i j=>i / j
theorem yEE:OpR X (binaryOp .FloorDiv) (rI yBH fun i j=>.int (i / j)):=opI fun i j _ _ _ _ _ hc q=>by
 have e:i.fdiv j=i / j:=Int.fdiv_eq_ediv_of_nonneg i (Int.le_of_lt hc.1)
 refine floordiv_int (by have:=hc.1;omega) ?_ (.inl (PyProof.noPylong_of_log2 hc.2))
 rw [e]
 exact q
theorem zIJ(ha:PEm X W a f)(hb:PEm X W b g):PEm X W (.BinOp a .FloorDiv b pos) (fun ρ S=>(f ρ S).bind fun p S1=>(g ρ S1).bind fun q S2=>zOK p q S2):=zQY yEE (zXB fun i j h=>h) ha hb
abbrev zEC:=iiF (fun _ j=>0<j) fun i j=>i % j
theorem jI(ha:PEm X W a f)(hb:PEm X W b g):PEm X W (.BinOp a .Mod b pos) (fun ρ S=>(f ρ S).bind fun p S1=>(g ρ S1).bind fun q S2=>zEC p q S2):=zQY yLR (zXB fun i j h=>h) ha hb
def powC(i j:Int):Prop:=0≤j∧(Builtin.Int.intBits i:Int) * j≤2 ^ 27
instance(i j:Int):Decidable (powC i j):=inferInstanceAs (Decidable (_∧_))
abbrev zKV:=iiF powC fun i j=>i ^ j.toNat
theorem yHW:OpR X (binaryOp .Pow) (rI powC fun i j=>.int (i ^ j.toNat)):=opI fun _ _ _ _ _ _ _ hc q=>pow_int hc.1 hc.2 q
theorem zFS(ha:PEm X W a f)(hb:PEm X W b g):PEm X W (.BinOp a .Pow b pos) (fun ρ S=>(f ρ S).bind fun p S1=>(g ρ S1).bind fun q S2=>zKV p q S2):=zQY yHW (zXB fun i j h=>h) ha hb
def shlC(i j:Int):Prop:=0≤j∧j≤1000000∧i.natAbs<2 ^ 64
instance(i j:Int):Decidable (shlC i j):=inferInstanceAs (Decidable (_∧_∧_))
def usubF:Er→Sto→R Er
 | .val (.int i),S=>.ok (.val (.int (-i))) S
 | _,_=>.no
def lsW(S:Sto):Er→Option (List MV)
 | .new ds=>some ds
 | .val (.loc l)=>match S[l]? with
  | some (.lst ds)=>some ds
  | _=>none
 | _=>none
theorem zXD{α:List Addr}{S:Sto}{H:Hp}(wd:Wd X.g α S H){r:Er}{ds:List MV}{x:V}(e:lsW S r=some ds)(d:DenX X.K α H r x): ∃a vs,x=.ref a∧H a=some (.lst vs)∧DenL X.K α H ds vs:=by
 unfold lsW at e
 split at e
 ·cases e
  obtain⟨b,vs,rfl,h,_,l⟩:=d
  exact⟨b,vs,rfl,h,l⟩
 ·rename_i n
  obtain⟨a,rfl,h⟩:=dQ d
  split at e
  ·rename_i es hS
   cases e
   obtain⟨vs,h1,l⟩:=wd.obj n a _ h hS
   exact⟨a,vs,rfl,h1,l⟩
  ·cases e
 ·cases e
def zZB(p q:Er)(S:Sto):R Er:=match lsW S p,lsW S q with
 | some x,some y=>if x.length+y.length≤sizeLine then .ok (.new (x++y)) S else .no
 | _,_=>.no
def yY:Er→Er→Sto→R Er
 | .val (.int i),.val (.int j),S=>.ok (.val (.int (i+j))) S
 | .val (.str x),.val (.str y),S=>if x.length+y.length≤sizeLine then .ok (.val (.str (x++y))) S else .no
 | .val (.tup x),.val (.tup y),S=>if x.length+y.length≤sizeLine then .ok (.val (.tup (x++y))) S else .no
 | p,q,S=>zZB p q S
theorem yEF:OpR X (binaryOp .Add) (fun x y H Q=> ∃a b ys,x=.ref a∧y=.ref b∧SqT X.K H a []∧SqT X.K H b ys∧Q (.ref b) H):=by
 intro pins s σ H x y v u Q I rx ry h
 obtain⟨a,b,ys,rfl,rfl,ha,hb,q⟩:=h
 cases rx
 cases ry
 obtain⟨its,r1,p1,_⟩:=I.tuple ha
 obtain⟨its2,r2,p2,_⟩:=I.tuple hb
 have e0:its=[]:=r1.nil_iff.mpr rfl
 subst e0
 obtain⟨⟨cls,dd,data,sl⟩,ho,hc,n,hd⟩:=id p1
 obtain⟨⟨cls2,dd2,data2,sl2⟩,ho2,hc2,n2,hd2⟩:=id p2
 simp only at hc hd hc2 hd2
 subst hc hd hc2 hd2
 exact concat_meets ⟨_,ho,rfl⟩ ⟨_,ho2,rfl⟩ noFill_tuple_add seq_tuple_add PySem.F.slot_tuple_add PySem.F.entry_tuple_add (PySem.F.args_tuple_add_2 _ _)
  (tuple_addW0 a b _ _ n n2 dd dd2 sl sl2 rfl) ⟨ho,ho2,⟨.ref b,H,I,rfl,q⟩⟩
theorem yD(ha:PEm X W a f)(hb:PEm X W b g):PEm X W (.BinOp a .Add b pos) (fun ρ S=>(f ρ S).bind fun p S1=>(g ρ S1).bind fun q S2=>yY p q S2):=by
 refine zQY (yLP.or (zWN.or (yMC.or (yHH.or yEF)))) ?_ ha hb
 intro p q x y α S H Q wd dp dq post
 unfold yY at post
 split at post
 ·exact .inl ⟨_,_,yV dp,yV dq,Post.val post wd (xA _)⟩
 ·split at post
  ·rename_i hz
   refine .inr (.inl ⟨_,_,kP dp,kP dq,by rw [jC,jC];exact hz,?_⟩)
   rw [yHM]
   exact Post.val post wd (zAB _)
  ·exact post.elim
 ·split at post
  ·rename_i xx yy hz
   obtain⟨a1,vs,rfl,s1,l1⟩:=gH dp
   obtain⟨a2,us,rfl,s2,l2⟩:=gH dq
   by_cases h0:vs=[]
   ·subst h0
    have e0:=l1.length
    refine .inr (.inr (.inr (.inr ⟨a1,a2,us,rfl,rfl,s1,s2,?_⟩)))
    have:xx=[]:=by cases xx with | nil=>rfl | cons _ _=>simp at e0
    subst this
    exact Post.val post wd (zDZ s2 l2)
   ·refine .inr (.inr (.inr (.inl ⟨a1,a2,vs,us,rfl,rfl,s1,s2,h0,by rw [l1.length,l2.length];exact hz,fun h1=>?_,fun h1 p hp=>Post.newt post wd hp (l1.append l2)⟩)))
    subst h1
    have e0:=l2.length
    have:yy=[]:=by cases yy with | nil=>rfl | cons _ _=>simp at e0
    subst this
    rw [List.append_nil]at post
    exact Post.val post wd (zDZ s1 l1)
  ·exact post.elim
 ·unfold zZB at post
  split at post
  ·rename_i ds1 ds2 e1 e2
   split at post
   ·rename_i hz
    obtain⟨a1,vs,rfl,h1,l1⟩:=zXD wd e1 dp
    obtain⟨a2,us,rfl,h2,l2⟩:=zXD wd e2 dq
    exact .inr (.inr (.inl ⟨a1,a2,vs,us,rfl,rfl,h1,h2,by rw [l1.length,l2.length];exact hz,fun p hp=>Post.newl post wd hp (l1.append l2)⟩))
   ·exact post.elim
  ·exact post.elim
def mulC(i j:Int):Prop:=(-(2 ^ 64)<i∧i<2 ^ 64)∨(-(2 ^ 64)<j∧j<2 ^ 64)∨(i.natAbs.log2<4000∧j.natAbs.log2<4000)
theorem zZC{i:Int}(h:i.natAbs.log2<4000):Builtin.Int.intBits i≤2 ^ 20:=by
 have e:(2:Nat) ^ 20=1048576:=by decide
 unfold Builtin.Int.intBits
 split<;>omega
theorem mulC.ok{i j:Int}(h:mulC i j):IntMulOk i j:=by
 rcases h with h | h | ⟨h1,h2⟩
 ·exact CMul.ok (.inl h)
 ·exact CMul.ok (.inr h)
 ·exact .of_bits (zZC h1) (zZC h2)
theorem yHX{X:Cx}:OpR X (binaryOp .Mult) (rI mulC fun i j=>.int (i * j)):=opI fun _ _ _ _ _ _ _ hc q=>mul_int q hc.ok
instance(i j:Int):Decidable (mulC i j):=inferInstanceAs (Decidable (_∨_∨_))
def yKI(p:Er)(k:Int)(S:Sto):R Er:=match lsW S p with
 | some x=>if 0≤k∧k<100000∧x.length * k.toNat≤sizeLine then .ok (.new (List.replicate k.toNat x).flatten) S else .no
 | none=>.no
def zOL:Er→Er→Sto→R Er
 | .val (.int i),.val (.int j),S=>if mulC i j then .ok (.val (.int (i * j))) S else .no
 | .val (.str x),.val (.int k),S=>if 0≤k∧k<1000∧x.length≤1000 then .ok (.val (.str (zNS x k))) S else .no
 | p,.val (.int k),S=>yKI p k S
 | _,_,_=>.no
theorem DenL.rep{K:PySem.W.Frag}{α:List Addr}{H:Hp}{ds:List MV}{vs:List V}(l:DenL K α H ds vs): ∀k:Nat,DenL K α H (List.replicate k ds).flatten (List.replicate k vs).flatten
 | 0=>xP
 | k+1=>by rw [List.replicate_succ,List.flatten_cons,List.replicate_succ,List.flatten_cons];exact l.append (DenL.rep l k)
theorem zKW(ha:PEm X W a f)(hb:PEm X W b g):PEm X W (.BinOp a .Mult b pos) (fun ρ S=>(f ρ S).bind fun p S1=>(g ρ S1).bind fun q S2=>zOL p q S2):=by
 refine zQY (yHX.or (zWT.or yMD)) ?_ ha hb
 intro p q x y α S H Q wd dp dq post
 unfold zOL at post
 split at post
 ·split at post
  ·rename_i hc
   exact .inl ⟨_,_,yV dp,yV dq,hc,Post.val post wd (xA _)⟩
  ·exact post.elim
 ·split at post
  ·rename_i hc
   exact .inr (.inl ⟨_,_,kP dp,yV dq,hc.1,hc.2.1,hc.2.2,Post.val post wd (zAB _)⟩)
  ·exact post.elim
 ·unfold yKI at post
  split at post
  ·rename_i ds e1
   split at post
   ·rename_i hc
    obtain⟨a1,vs,rfl,h1,l1⟩:=zXD wd e1 dp
    exact .inr (.inr ⟨a1,_,vs,rfl,yV dq,h1,by omega,by omega,by rw [l1.length];exact hc.2.2,fun p hp=>Post.newl post wd hp (l1.rep _)⟩)
   ·exact post.elim
  ·exact post.elim
 ·exact post.elim
def zZ:Nat:=40
def eqF(p q:Er)(S:Sto):R Er:=match zKU S zZ p q with
 | some k=>.ok (.val (.bl k)) S
 | none=>.no
def neF(p q:Er)(S:Sto):R Er:=match zKU S zZ p q with
 | some k=>.ok (.val (.bl !k)) S
 | none=>.no
theorem yEG(hu:X.A.units+64<cLine):OpR X (compareOp .Eq) (fun x y H Q=> ∃α S p q k,Wd X.g α S H∧DenX X.K α H p x∧DenX X.K α H q y∧zKU S zZ p q=some k∧Q (.bl k) H):=by
 intro pins s σ H x y v u Q I rx ry h
 obtain⟨α,S,p,q,k,wd,dp,dq,e,hq⟩:=h
 exact yMM I wd zZ (by unfold zZ;omega) dp dq rx ry e X.prog X.w _ _ ⟨.bl k,H,I,rfl,hq⟩
theorem yEH(hu:X.A.units+64<cLine):OpR X (compareOp .NotEq) (fun x y H Q=> ∃α S p q k,Wd X.g α S H∧DenX X.K α H p x∧DenX X.K α H q y∧zKU S zZ p q=some k∧Q (.bl (!k)) H):=by
 intro pins s σ H x y v u Q I rx ry h
 obtain⟨α,S,p,q,k,wd,dp,dq,e,hq⟩:=h
 exact yMN I wd zZ (by unfold zZ;omega) dp dq rx ry e X.prog X.w _ _ ⟨.bl (!k),H,I,rfl,hq⟩
theorem zZD:Op2 X W (fun x y H Q=> ∃α S p q k,Wd X.g α S H∧DenX X.K α H p x∧DenX X.K α H q y∧zKU S zZ p q=some k∧Q (.bl k) H) eqF:=by
 intro p q x y α S H Q wd dp dq post
 unfold eqF at post
 split at post
 ·rename_i k e
  exact⟨α,S,p,q,k,wd,dp,dq,e,Post.val post wd (wK _)⟩
 ·exact post.elim
theorem zZE:Op2 X W (fun x y H Q=> ∃α S p q k,Wd X.g α S H∧DenX X.K α H p x∧DenX X.K α H q y∧zKU S zZ p q=some k∧Q (.bl (!k)) H) neF:=by
 intro p q x y α S H Q wd dp dq post
 unfold neF at post
 split at post
 ·rename_i k e
  exact⟨α,S,p,q,k,wd,dp,dq,e,Post.val post wd (wK _)⟩
 ·exact post.elim
theorem zUL(hu:X.A.units+64<cLine)(ha:PEm X W a f)(hb:PEm X W b g):PEm X W (.Compare a [.Eq] [b] pos) (fun ρ S=>(f ρ S).bind fun p S1=>(g ρ S1).bind fun q S2=>eqF p q S2):=zSD (yEG hu) zZD ha hb
theorem dB(hu:X.A.units+64<cLine)(ha:PEm X W a f)(hb:PEm X W b g):PTm X W (.Compare a [.Eq] [b] pos) (fun ρ S=>((f ρ S).bind fun p S1=>(g ρ S1).bind fun q S2=>eqF p q S2).bind asB):=zFQ (yEG hu) zZD ha hb
theorem pm_ne(hu:X.A.units+64<cLine)(ha:PEm X W a f)(hb:PEm X W b g):PEm X W (.Compare a [.NotEq] [b] pos) (fun ρ S=>(f ρ S).bind fun p S1=>(g ρ S1).bind fun q S2=>neF p q S2):=zSD (yEH hu) zZE ha hb
theorem zLZ(hu:X.A.units+64<cLine)(ha:PEm X W a f)(hb:PEm X W b g):PTm X W (.Compare a [.NotEq] [b] pos) (fun ρ S=>((f ρ S).bind fun p S1=>(g ρ S1).bind fun q S2=>neF p q S2).bind asB):=zFQ (yEH hu) zZE ha hb
def ltF:Er→Er→Sto→R Er
 | .val d,.val f,S=>match ltv S zZ d f with
  | some k=>.ok (.val (.bl k)) S
  | none=>.no
 | _,_,_=>.no
theorem zOM(hu:X.A.units+64<cLine):OpR X (compareOp .Lt) (fun x y H Q=> ∃α S d f k,Wd X.g α S H∧Den X.K α H d x∧Den X.K α H f y∧ltv S zZ d f=some k∧Q (.bl k) H):=by
 intro pins s σ H x y v u Q I rx ry h
 obtain⟨α,S,d,f,k,wd,dp,dq,e,hq⟩:=h
 exact yEC I wd zZ X.A d f x y v u k (by unfold zZ;omega) dp dq rx ry e X.prog X.w _ _ ⟨.bl k,H,I,rfl,hq⟩
theorem zJO:Op2 X W (fun x y H Q=> ∃α S d f k,Wd X.g α S H∧Den X.K α H d x∧Den X.K α H f y∧ltv S zZ d f=some k∧Q (.bl k) H) ltF:=by
 intro p q x y α S H Q wd dp dq post
 unfold ltF at post
 split at post
 ·split at post
  ·rename_i k e
   exact⟨α,S,_,_,k,wd,dp,dq,e,Post.val post wd (wK _)⟩
  ·exact post.elim
 ·exact post.elim
theorem pm_lt(hu:X.A.units+64<cLine)(ha:PEm X W a f)(hb:PEm X W b g):PEm X W (.Compare a [.Lt] [b] pos) (fun ρ S=>(f ρ S).bind fun p S1=>(g ρ S1).bind fun q S2=>ltF p q S2):=zSD (zOM hu) zJO ha hb
theorem zRA(hu:X.A.units+64<cLine)(ha:PEm X W a f)(hb:PEm X W b g):PTm X W (.Compare a [.Lt] [b] pos) (fun ρ S=>((f ρ S).bind fun p S1=>(g ρ S1).bind fun q S2=>ltF p q S2).bind asB):=zFQ (zOM hu) zJO ha hb
abbrev gtF:=ibF fun i j=>decide (j<i)
abbrev geF:=ibF fun i j=>decide (j≤i)
theorem zUM(ha:PEm X W a f)(hb:PEm X W b g):PTm X W (.Compare a [.Gt] [b] pos) (fun ρ S=>((f ρ S).bind fun p S1=>(g ρ S1).bind fun q S2=>gtF p q S2).bind asB):=zFQ op_gt yED ha hb
theorem tm_ge(ha:PEm X W a f)(hb:PEm X W b g):PTm X W (.Compare a [.GtE] [b] pos) (fun ρ S=>((f ρ S).bind fun p S1=>(g ρ S1).bind fun q S2=>geF p q S2).bind asB):=zFQ op_ge yED ha hb
def leF:Er→Er→Sto→R Er
 | .val (.int i),.val (.int j),S=>.ok (.val (.bl (decide (i≤j)))) S
 | .val (.str x),.val (.str y),S=>.ok (.val (.bl (!decide (y<x)))) S
 | _,_,_=>.no
theorem zON:Op2 X W (fun x y H Q=>rI0 (fun i j=>.bl (decide (i≤j))) x y H Q∨(∃i j,x=.str i∧y=.str j∧Q (.bl (!decide (j.cps.toList<i.cps.toList))) H)) leF:=by
 intro p q x y α S H Q wd dp dq post
 unfold leF at post
 split at post
 ·exact .inl ⟨_,_,yV dp,yV dq,Post.val post wd (wK _)⟩
 ·refine .inr ⟨_,_,kP dp,kP dq,?_⟩
  rw [zDW,zDW]
  exact Post.val post wd (wK _)
 ·exact post.elim
theorem zZF(ha:PEm X W a f)(hb:PEm X W b g)(hc:PEm X W c h)(hm:lastMarks [.LtE,.LtE] [b,c]=false:=by with_unfolding_all rfl):PEm X W (.Compare a [.LtE,.LtE] [b,c] pos) (fun ρ S=>(f ρ S).bind fun p S1=>(g ρ S1).bind fun q S2=>chF leF leF p q S2 fun S3=>h ρ S3):=zOB (zTW.or zDI) (zTW.or zDI) zON zON ha hb hc hm
theorem zZG(ha:PEm X W a f)(hb:PEm X W b g)(hc:PEm X W c h)(hm:lastMarks [.LtE,.LtE] [b,c]=false:=by with_unfolding_all rfl):PTm X W (.Compare a [.LtE,.LtE] [b,c] pos) (fun ρ S=>((f ρ S).bind fun p S1=>(g ρ S1).bind fun q S2=>chF leF leF p q S2 fun S3=>h ρ S3).bind asB):=yDU (zTW.or zDI) (zTW.or zDI) zON zON ha hb hc hm
theorem yHY(hu:X.A.units+64<cLine)(ha:PEm X W a f)(hb:PEm X W b g)(hc:PEm X W c h)(hm:lastMarks [.LtE,.Lt] [b,c]=false:=by with_unfolding_all rfl):PEm X W (.Compare a [.LtE,.Lt] [b,c] pos) (fun ρ S=>(f ρ S).bind fun p S1=>(g ρ S1).bind fun q S2=>chF leF ltF p q S2 fun S3=>h ρ S3):=zOB (zTW.or zDI) (zOM hu) zON zJO ha hb hc hm
def yBI:Er→Er→Sto→R Er
 | .val .non,.val .non,S=>.ok (.val (.bl true)) S
 | _,.val .non,S=>.ok (.val (.bl false)) S
 | _,_,_=>.no
theorem yEI{α:List Addr}{H:Hp}{p:Er}{x:V}(d:DenX X.K α H p x)(n:p≠.val .non):decide (x=.non)=false:=by
 cases p with
 | new ds=>obtain⟨b,vs,rfl,_⟩:=d;rfl
 | val m=>
  cases m with
  | non=>exact absurd rfl n
  | bl b=>cases zFB d;rfl
  | int b=>cases yV d;rfl
  | str b=>cases kP d;rfl
  | typ b=>cases yDT d;rfl
  | tup b=>obtain⟨_,_,rfl,_⟩:=gH d;rfl
  | scr b=>obtain⟨_,_,rfl,_⟩:=zNZ d;rfl
  | loc b=>obtain⟨_,rfl,_⟩:=dQ d;rfl
theorem yHZ:Op2 X W (fun x y H Q=>y=.non∧Q (.bl (decide (x=.non))) H) yBI:=by
 intro p q x y α S H Q wd dp dq post
 unfold yBI at post
 split at post
 ·cases zIH dp;exact⟨zIH dq,Post.val post wd (wK _)⟩
 ·rename_i p' S' hn
  rw [yEI dp (fun z=>by first | exact hn z | exact hn z rfl | exact hn _ z | exact hn rfl z)]
  exact⟨zIH dq,Post.val post wd (wK _)⟩
 ·exact post.elim
theorem tm_is(ha:PEm X W a f)(hb:PEm X W b g):PTm X W (.Compare a [.Is] [b] pos) (fun ρ S=>((f ρ S).bind fun p S1=>(g ρ S1).bind fun q S2=>yBI p q S2).bind asB):=zFQ yLT yHZ ha hb
def getL(ds:List MV):Er→Sto→R Er
 | .val (.int i),S=>match atI ds i with | some d=>.ok (.val d) S | none=>.no
 | _,_=>.no
def ixF:Er→Er→Sto→R Er
 | .val (.str x),.val (.int i),S=>if x.length≤sizeLine then match atI x i with | some c=>.ok (.val (.str [c])) S | none=>.no else .no
 | .val (.tup ds),q,S=>getL ds q S
 | p,q,S=>match hX S p with | some ds=>getL ds q S | none=>.no
theorem yIA{K:PySem.W.Frag}{α:List Addr}{H:Hp}{ds:List MV}{vs:List V}{i:Int}{d:MV}(l:DenL K α H ds vs)(e:atI ds i=some d): ∃v,atI vs i=some v∧Den K α H d v:=by
 unfold atI at e ⊢
 rw [l.length]
 cases z:ixN ds.length i with
 | none=>rw [z]at e;cases e
 | some j=>
  rw [z]at e
  obtain⟨v,h1,h2⟩:=l.at (show ds[j]? =some d from e)
  exact⟨v,h1,h2⟩
theorem yG(ha:PEm X W a f)(hb:PEm X W b g)(hs:zRT b:=by exact fun _ _=>rfl):PEm X W (.Subscript a b pos) (fun ρ S=>(f ρ S).bind fun p S1=>(g ρ S1).bind fun q S2=>ixF p q S2):=by
 refine pm_ix yLZ ?_ ha hb hs
 intro p q x y α S H Q wd dp dq post
 have key: ∀{ds:List MV}{vs:List V}{i:Int}{d:MV},DenL X.K α H ds vs→atI ds i=some d→Post X.g W α H (.ok (Er.val d) S) Q→ ∃v,atI vs i=some v∧Q v H:=fun l e post=>by
  obtain⟨v,h1,h2⟩:=yIA l e
  exact⟨v,h1,Post.val post wd h2⟩
 unfold ixF at post
 split at post
 ·split at post
  ·rename_i hz
   split at post
   ·rename_i ch e
    refine .inr (.inr ⟨_,_,ch,kP dp,yV dq,by rw [jC];exact hz,by rw [zDW];exact e,?_⟩)
    exact Post.val post wd (zAB [ch])
   ·exact post.elim
  ·exact post.elim
 ·unfold getL at post
  split at post
  ·split at post
   ·rename_i d e
    obtain⟨a1,vs,rfl,s1,l1⟩:=gH dp
    obtain⟨v,h1,h2⟩:=key l1 e post
    exact .inr (.inl ⟨a1,vs,_,v,rfl,yV dq,s1,h1,h2⟩)
   ·exact post.elim
  ·exact post.elim
 ·split at post
  ·rename_i ds el
   unfold getL at post
   split at post
   ·split at post
    ·rename_i d e
     obtain⟨a1,vs,rfl,s1,l1⟩:=zJL rfl wd el dp
     obtain⟨v,h1,h2⟩:=key l1 e post
     exact .inl ⟨a1,vs,_,v,rfl,yV dq,s1,h1,h2⟩
    ·exact post.elim
   ·exact post.elim
  ·exact post.elim
end
end M
end L2
namespace L2
namespace M
open PySem PySem.Spec PyProof.Rows
theorem zQB{prog:Program}{w:World}{A:Around}{E:Value→Shared→Prop}{s:Shared}{t sl:Addr}{its:Array Value}{vl vu:Value}{lo hi:Option Int}{Q:Value→Shared→Prop}(ht:IsTup s.heap t its)(hs:s.heap.IsSliceOf sl vl vu .none)(pl:IsPart vl lo)(pu:IsPart vu hi)
  (h0:HT.sIx its.size 0 lo=0) (h1:HT.sIx its.size its.size hi=its.size) (h:Q (.ref t) s):wpAny (model prog w) A (getItem (.ref t) (.ref sl)) Q E s:=by
 have hTs:s.TypeIs (.ref sl) "slice":=by obtain⟨os,hos,hcs,_⟩:=id hs;exact⟨os,hos,hcs⟩
 have hTt:=ht.typeIs
 unfold getItem
 try with_reducible refine wpAny_holding ?_
 first | refine wpAny_bind (wpAny_pure ?_) | skip
 refine wpAny_bind (wpAny_sequenceKey hTt (by decide) ?_)
 refine wpAny_bind (wpAny_callSpecial?_slot (name:=Str.ofString "__getitem__") hTt PyProof.Rows.slot_tuple_getitem (wpAny_call_entry PyProof.Rows.slot_tuple_getitem hTt entry_tuple_getitem ?_ (args_tuple_getitem _ _)))
 show wpAny _ _ (Builtin.Tuple.tupleItemsOf (.ref t) >>= _) _ _ s
 refine wpAny_bind (tupleItemsOf_ ht (wpAny_bind (wpAny_typeOf hTs ?_)))
 rw [if_pos (by decide)]
 refine wpAny_bind (HT.sliceApplied_gen hs pl pu ?_)
 show wpAny _ _ (if(((HT.sIx its.size 0 lo:Nat):Int)==0&&(1:Int)==1&&(HT.sIx its.size its.size hi - HT.sIx its.size 0 lo)==its.size)=true then _ else _) _ _ s
 rw [if_pos (by rw [h0,h1];simp)]
 unfold Builtin.Tuple.tupleIsExact
 refine wpAny_bind (wpAny_bind (wpAny_typeOf hTt (wpAny_pure ?_)))
 rw [if_pos (by decide)]
 refine wpAny_bind (wpAny_rule ?_)
 first
  | exact wpAny_pure ⟨_,rfl,wpAny_pure h⟩
  | exact wpAny_bind (wpAny_pure (wpAny_pure ⟨_,rfl,wpAny_pure h⟩))
  | exact wpAny_bind (wpAny_pure ⟨_,rfl,wpAny_pure h⟩)
section
variable{X:Cx}{W:XW}{a b c e:Expr}{es:List Expr}{f g h:Rho→Sto→R Er}{af:Rho→Sto→R (List Er)}{pos:Pos}
theorem yIB:SlR X (fun x lo hi H Q=> ∃a xs,x=.ref a∧SqT X.K H a xs∧HT.sIx xs.length 0 lo=0∧HT.sIx xs.length xs.length hi=xs.length∧Q (.ref a) H):=by
 intro pins s σ H x v vl vu lo hi sl Q I rx hs pl pu h
 obtain⟨a,xs,rfl,hx,h0,h1,q⟩:=h
 cases rx
 obtain⟨its,r,ht,hz⟩:=I.tuple hx
 have hlen:its.toArray.size=xs.length:=by rw [List.size_toArray];exact r.length.symm
 exact⟨"tuple",_,PyProof.Rows.slot_tuple_getitem.lookup,ht.typeIs,zQB ht hs pl pu (by rw [hlen];exact h0) (by rw [hlen];exact h1) ⟨.ref a,H,I,rfl,q⟩⟩
def zOO:Er→Option Int→Option Int→Sto→R Er
 | .val (.str x),lo,hi,S=>if x.length≤sizeLine then .ok (.val (.str (kR x lo hi))) S else .no
 | .val (.tup ds),lo,hi,S=>.ok (.val (.tup (kR ds lo hi))) S
 | p,lo,hi,S=>match hX S p with | some ds=>.ok (.new (kR ds lo hi)) S | none=>.no
theorem yBJ{α:Type}{ds:List α}{lo hi:Option Int}(h0:HT.sIx ds.length 0 lo=0)(h1:HT.sIx ds.length ds.length hi=ds.length):kR ds lo hi=ds:=by
 unfold kR
 rw [h0,h1]
 simp
theorem zKX{lo hi:Option Expr}{lf hf:Rho→Sto→R (Option Int)}{p2:Pos}(ha:PEm X W a f)(hl:POm X W lo lf)(hh:POm X W hi hf):PEm X W (.Subscript a (.Slice lo hi none p2) pos) (fun ρ S=>(f ρ S).bind fun p S1=>(lf ρ S1).bind fun l S2=>(hf ρ S2).bind fun u S3=>zOO p l u S3):=by
 refine yDW (yME.or (yHJ.or (yLY.or yIB))) ?_ ha hl hh
 intro p lo hi x α S H Q wd dp post
 unfold zOO at post
 split at post
 ·split at post
  ·rename_i hz
   exact .inl ⟨_,kP dp,hz,Post.val post wd (zAB _)⟩
  ·exact post.elim
 ·rename_i _ _ _ ds
  obtain⟨a1,vs,rfl,s1,l1⟩:=gH dp
  by_cases hw:HT.sIx vs.length 0 lo=0∧HT.sIx vs.length vs.length hi=vs.length
  ·have e:kR ds lo hi=ds:=yBJ (by rw [←l1.length];exact hw.1) (by rw [←l1.length];exact hw.2)
   rw [e]at post
   exact .inr (.inr (.inr ⟨a1,vs,rfl,s1,hw.1,hw.2,Post.val post wd (zDZ s1 l1)⟩))
  ·exact .inr (.inr (.inl ⟨a1,vs,rfl,s1,hw,fun p hp=>Post.newt post wd hp (l1.cut lo hi)⟩))
 ·split at post
  ·rename_i ds el
   obtain⟨a1,vs,rfl,s1,l1⟩:=zJL rfl wd el dp
   exact .inr (.inl ⟨a1,vs,rfl,s1,fun p hp=>Post.newl post wd hp (l1.cut lo hi)⟩)
  ·exact post.elim
end
end M
end L2
namespace L2
namespace M
open PySem PySem.Spec PyProof.Rows
section
variable{X:Cx}{W:XW}{a b c e:Expr}{es:List Expr}{f g h:Rho→Sto→R Er}{af:Rho→Sto→R (List Er)}{pos:Pos}
def zMK(S:Sto)(n:Nat)(d:MV):List MV→Option (List Bool)
 | []=>some []
 | y::ys=>(eqv S n y d).bind fun k=>(zMK S n d ys).map (k::·)
section
variable{α:List Addr}{S:Sto}{H:Hp}{pins:List (Addr×Obj)}{σ:St}{s:Shared}
noncomputable def zUN(X:Cx)(α:List Addr)(S:Sto)(H:Hp)(n:Nat)(d:MV)(u:Value):Bool:=open Classical in decide (∃y x,Den X.K α H y x∧RelV x u∧eqv S n y d=some true)
open Classical in
theorem yIC(I:Inv X pins σ H s)(wd:Wd X.g α S H){n:Nat}{d y:MV}{x:V}{u:Value}{k:Bool}(dy:Den X.K α H y x)(r:RelV x u)(e:eqv S n y d=some k):zUN X α S H n d u=k:=by
 unfold zUN
 cases k with
 | true=>exact decide_eq_true ⟨y,x,dy,r,e⟩
 | false=>
  refine decide_eq_false fun⟨y',x',dy',r',e'⟩=>?_
  have ex:=r.inj r'
  subst ex
  rw [dy.inj I wd dy']at e
  rw [e]at e'
  cases e'
theorem zJP(I:Inv X pins σ H s)(wd:Wd X.g α S H){n:Nat}{A:Around}{d:MV}{x:V}{v:Value}(hu:A.units+n<cLine)(dd:Den X.K α H d x)(rx:RelV x v): ∀{ys:List MV}{vs:List V}{us:List Value}{bs:List Bool},DenL X.K α H ys vs→Vals vs us→zMK S n d ys=some bs→
  us.map (zUN X α S H n d)=bs∧ ∀u∈us,SeqAt.EqAt A s u v (zUN X α S H n d u)
 | [],_,_,bs,l,r,e=>by
  cases l.isnil;cases r;cases e
  exact⟨rfl,fun u hu=>by cases hu⟩
 | y::ys,_,_,bs,l,r,e=>by
  obtain⟨v',r',rfl,dy,l'⟩:=l.uncons
  cases r with
  | cons r1 r2=>
   unfold zMK at e
   cases z:eqv S n y d with
   | none=>rw [z]at e;cases e
   | some k=>
    rw [z]at e
    cases z2:zMK S n d ys with
    | none=>simp [z2]at e
    | some cs=>
     simp [z2]at e
     subst e
     obtain⟨h1,h2⟩:=zJP I wd hu dd rx l' r2 z2
     have h3:=yIC I wd dy r1 z
     refine⟨by rw [List.map_cons,h1,h3],fun u hu'=>?_⟩
     rcases List.mem_cons.mp hu' with rfl | hu'
     ·rw [h3];exact zSI I wd n A y d _ _ _ _ k hu dy dd r1 rx z
     ·exact h2 u hu'
end
theorem any_map{us:List Value}{f:Value→Bool}{bs:List Bool}(h:us.map f=bs):us.toArray.any f=bs.any id:=by
 subst h
 simp [List.any_map]
def itemsOf(S:Sto):Er→Option (List MV)
 | .val (.tup ds)=>some ds
 | r=>hX S r
theorem zJQ{α:List Addr}{S:Sto}{H:Hp}(wd:Wd X.g α S H){r:Er}{ds:List MV}{x:V}(e:itemsOf S r=some ds)(d:DenX X.K α H r x): ∃a vs,x=.ref a∧(SqL X.K H a vs∨SqT X.K H a vs)∧DenL X.K α H ds vs:=by
 unfold itemsOf at e
 split at e
 ·cases e
  obtain⟨a,vs,rfl,s,l⟩:=gH d
  exact⟨a,vs,rfl,.inr s,l⟩
 ·obtain⟨a,vs,rfl,s,l⟩:=zJL rfl wd e d
  exact⟨a,vs,rfl,.inl s,l⟩
def zFT(neg:Bool)(p q:Er)(S:Sto):R Er:=match p with
 | .val d=>match itemsOf S q with
  | some ys=>match zMK S zZ d ys with
   | some bs=>.ok (.val (.bl (if neg=true then !bs.any id else bs.any id))) S
   | none=>.no
  | none=>.no
 | .new _=>.no
def inF(neg:Bool):Er→Er→Sto→R Er
 | .val (.str [c]),.val (.str y),S=>.ok (.val (.bl (if neg=true then !decide (c∈y)else decide (c∈y)))) S
 | p,q,S=>zFT neg p q S
abbrev yEJ(X:Cx)(neg:Bool):R2:=fun x y H Q=> ∃α S d q ys bs,Wd X.g α S H∧Den X.K α H d x∧DenX X.K α H q y∧itemsOf S q=some ys∧zMK S zZ d ys=some bs∧Q (.bl (if neg=true then !bs.any id else bs.any id)) H
theorem yMO(hu:X.A.units+64<cLine):OpR X (compareOp .In) (yEJ X false):=by
 intro pins s σ H x y v u Q I rx ry h
 obtain⟨α,S,d,q,ys,bs,wd,dd,dq,ei,ea,hq⟩:=h
 obtain⟨a,vs,rfl,sq,l⟩:=zJQ wd ei dq
 cases ry
 rcases sq with sq | sq
 ·obtain⟨its,r,pl,_⟩:=I.list sq
  obtain⟨h1,h2⟩:=zJP I wd (A:=X.A.in1) (by show X.A.units+1+zZ<cLine;unfold zZ;omega) dd rx l r ea
  refine SeqAt.in_listAt (zUN X α S H zZ d) pl.isList (fun w hw=>h2 w (by simpa using hw)) ⟨.bl _,H,I,rfl,?_⟩
  rw [any_map h1]
  exact hq
 ·obtain⟨its,r,pl,_⟩:=I.tuple sq
  obtain⟨h1,h2⟩:=zJP I wd (A:=X.A.in1) (by show X.A.units+1+zZ<cLine;unfold zZ;omega) dd rx l r ea
  refine SeqAt.in_tupleAt (zUN X α S H zZ d) pl (fun w hw=>h2 w (by simpa using hw)) ⟨.bl _,H,I,rfl,?_⟩
  rw [any_map h1]
  exact hq
theorem yBK(hu:X.A.units+64<cLine):OpR X (compareOp .NotIn) (yEJ X true):=by
 intro pins s σ H x y v u Q I rx ry h
 obtain⟨α,S,d,q,ys,bs,wd,dd,dq,ei,ea,hq⟩:=h
 obtain⟨a,vs,rfl,sq,l⟩:=zJQ wd ei dq
 cases ry
 rcases sq with sq | sq
 ·obtain⟨its,r,pl,_⟩:=I.list sq
  obtain⟨h1,h2⟩:=zJP I wd (A:=X.A.in1) (by show X.A.units+1+zZ<cLine;unfold zZ;omega) dd rx l r ea
  refine SeqAt.notIn_listAt (zUN X α S H zZ d) pl.isList (fun w hw=>h2 w (by simpa using hw)) ⟨.bl _,H,I,rfl,?_⟩
  rw [any_map h1]
  exact hq
 ·obtain⟨its,r,pl,_⟩:=I.tuple sq
  obtain⟨h1,h2⟩:=zJP I wd (A:=X.A.in1) (by show X.A.units+1+zZ<cLine;unfold zZ;omega) dd rx l r ea
  refine SeqAt.notIn_tupleAt (zUN X α S H zZ d) pl (fun w hw=>h2 w (by simpa using hw)) ⟨.bl _,H,I,rfl,?_⟩
  rw [any_map h1]
  exact hq
theorem zSJ{neg:Bool}:Op2 X W (fun x y H Q=>(∃i j,x=.str i∧y=.str j∧Q (.bl (if neg=true then !(!(Builtin.Str.occurrences j i 0 j.length 1).isEmpty)else !(Builtin.Str.occurrences j i 0 j.length 1).isEmpty)) H)∨yEJ X neg x y H Q) (inF neg):=by
 intro p q x y α S H Q wd dp dq post
 unfold inF at post
 split at post
 ·refine .inl ⟨_,_,kP dp,kP dq,?_⟩
  rw [←yHN,PySem.StrLaws.found_one,zDW]
  exact Post.val post wd (wK _)
 ·unfold zFT at post
  split at post
  ·rename_i d _
   split at post
   ·rename_i ys ei
    split at post
    ·rename_i bs ea
     exact .inr ⟨α,S,_,q,ys,bs,wd,dp,dq,ei,ea,Post.val post wd (wK _)⟩
    ·exact post.elim
   ·exact post.elim
  ·exact post.elim
theorem OpR.imp{f:Value→Value→Sem Value}{r r':R2}(h:OpR X f r)(i: ∀x y H Q,r' x y H Q→r x y H Q):OpR X f r':=fun pins s σ H x y v u Q I rx ry q=>h pins s σ H x y v u Q I rx ry (i x y H Q q)
theorem yEK(hu:X.A.units+64<cLine):OpR X (compareOp .In) (fun x y H Q=>(∃i j,x=.str i∧y=.str j∧Q (.bl (if(false:Bool)=true then !(!(Builtin.Str.occurrences j i 0 j.length 1).isEmpty)else !(Builtin.Str.occurrences j i 0 j.length 1).isEmpty)) H)∨yEJ X false x y H Q):=
 OpR.imp (yAS.or (yMO hu)) fun x y H Q q=>q.imp (fun q=>q) fun q=>q
theorem yBL(hu:X.A.units+64<cLine):OpR X (compareOp .NotIn) (fun x y H Q=>(∃i j,x=.str i∧y=.str j∧Q (.bl (if(true:Bool)=true then !(!(Builtin.Str.occurrences j i 0 j.length 1).isEmpty)else !(Builtin.Str.occurrences j i 0 j.length 1).isEmpty)) H)∨yEJ X true x y H Q):=
 OpR.imp (zRO.or (yBK hu)) fun x y H Q q=>q.imp (fun q=>q) fun q=>q
theorem pm_in(hu:X.A.units+64<cLine)(ha:PEm X W a f)(hb:PEm X W b g)(hm:behindInMarks .In b=false:=by with_unfolding_all rfl):PEm X W (.Compare a [.In] [b] pos) (fun ρ S=>(f ρ S).bind fun p S1=>(g ρ S1).bind fun q S2=>inF false p q S2):=zSD (yEK hu) zSJ ha hb hm
theorem yEL(hu:X.A.units+64<cLine)(ha:PEm X W a f)(hb:PEm X W b g)(hm:behindInMarks .In b=false:=by with_unfolding_all rfl):PTm X W (.Compare a [.In] [b] pos) (fun ρ S=>((f ρ S).bind fun p S1=>(g ρ S1).bind fun q S2=>inF false p q S2).bind asB):=zFQ (yEK hu) zSJ ha hb hm
theorem zJR(hu:X.A.units+64<cLine)(ha:PEm X W a f)(hb:PEm X W b g)(hm:behindInMarks .NotIn b=false:=by with_unfolding_all rfl):PTm X W (.Compare a [.NotIn] [b] pos) (fun ρ S=>((f ρ S).bind fun p S1=>(g ρ S1).bind fun q S2=>inF true p q S2).bind asB):=zFQ (yBL hu) zSJ ha hb hm
theorem zFF{K:PySem.W.Frag}{α:List Addr}{H:Hp}{r:Er}{vs:List V}(d:ArgsX K α H [r] vs): ∃v,vs=[v]∧DenX K α H r v:=by
 cases d with
 | cons a l=>cases l;exact⟨_,rfl,a⟩
theorem yKJ{K:PySem.W.Frag}{α:List Addr}{H:Hp}{r r':Er}{vs:List V}(d:ArgsX K α H [r,r'] vs): ∃v u,vs=[v,u]∧DenX K α H r v∧DenX K α H r' u:=by
 cases d with
 | cons a l=>obtain⟨u,rfl,l'⟩:=zFF l;exact⟨_,u,rfl,a,l'⟩
def wN:List Er→Sto→R Er
 | [.val (.str x)],S=>if x.length≤sizeLine then .ok (.val (.int x.length)) S else .no
 | [r],S=>match itemsOf S r with | some ds=>.ok (.val (.int ds.length)) S | none=>.no
 | _,_=>.no
theorem yU:zFR X W (fun xs H Q=>(∃z,xs=[.str z]∧z.length≤sizeLine∧Q (.int z.length) H)∨ ∃p ys,xs=[.ref p]∧(SqL X.K H p ys∨SqT X.K H p ys)∧Q (.int ys.length) H) wN:=by
 intro rs vs α S H Q wd d post
 unfold wN at post
 split at post
 ·split at post
  ·rename_i hz
   obtain⟨v,rfl,dv⟩:=zFF d
   cases kP dv
   refine .inl ⟨_,rfl,by rw [jC];exact hz,?_⟩
   rw [jC]
   exact Post.val post wd (xA _)
  ·exact post.elim
 ·split at post
  ·rename_i ds e
   obtain⟨v,rfl,dv⟩:=zFF d
   obtain⟨a,us,rfl,sq,l⟩:=zJQ wd e dv
   refine .inr ⟨a,us,rfl,sq,?_⟩
   rw [l.length]
   exact Post.val post wd (xA _)
  ·exact post.elim
 ·exact post.elim
theorem zV:CallR X (.builtin "len") (fun xs H Q=>(∃z,xs=[.str z]∧z.length≤sizeLine∧Q (.int z.length) H)∨ ∃p ys,xs=[.ref p]∧(SqL X.K H p ys∨SqT X.K H p ys)∧Q (.int ys.length) H):=zRW.or zRV
def absF:List Er→Sto→R Er
 | [.val (.int i)],S=>.ok (.val (.int (if i<0 then -i else i))) S
 | _,_=>.no
theorem yMP:zFR X W (fun xs H Q=> ∃i,xs=[.int i]∧Q (.int (if i<0 then -i else i)) H) absF:=by
 intro rs vs α S H Q wd d post
 unfold absF at post
 split at post
 ·obtain⟨v,rfl,dv⟩:=zFF d
  cases yV dv
  exact⟨_,rfl,Post.val post wd (xA _)⟩
 ·exact post.elim
def zJS:List MV→Option (List Bool)
 | []=>some []
 | .bl b::r=>(zJS r).map (b::·)
 | _::_=>none
theorem zRB{K:PySem.W.Frag}{α:List Addr}{H:Hp}: ∀{ds:List MV}{bs:List Bool}{vs:List V},zJS ds=some bs→DenL K α H ds vs→vs=bs.map V.bl
 | [],_,_,e,l=>by cases e;exact l.isnil
 | d::r,bs,_,e,l=>by
  cases d with
  | bl b=>
   unfold zJS at e
   cases z:zJS r with
   | none=>rw [z]at e;cases e
   | some cs=>
    rw [z]at e
    cases e
    obtain⟨v,us,rfl,dv,l'⟩:=l.uncons
    rw [zDM dv,zRB z l']
    rfl
  | _=>cases e
def zXE:List Er→Sto→R Er
 | [r],S=>match (hX S r).bind zJS with | some bs=>.ok (.val (.bl (bs.all id))) S | none=>.no
 | _,_=>.no
theorem zXF(hc:X.calm=true):zFR X W (fun xs H Q=> ∃(a:Addr)(bs:List Bool),xs=[.ref a]∧SqL X.K H a (bs.map V.bl)∧X.calm=true∧Q (.bl (bs.all id)) H) zXE:=by
 intro rs vs α S H Q wd d post
 unfold zXE at post
 split at post
 ·split at post
  ·rename_i bs e
   obtain⟨v,rfl,dv⟩:=zFF d
   cases z:hX S _ with
   | none=>rw [z]at e;cases e
   | some ds=>
    rw [z]at e
    obtain⟨a1,us,rfl,s,l⟩:=zJL rfl wd z dv
    refine⟨a1,bs,rfl,?_,hc,Post.val post wd (wK _)⟩
    rw [←zRB e l]
    exact s
  ·exact post.elim
 ·exact post.elim
def zCH(S:Sto):Er→Option String
 | .val .non=>some "NoneType"
 | .val (.bl _)=>some "bool"
 | .val (.int _)=>some "int"
 | .val (.str _)=>some "str"
 | .val (.tup _)=>some "tuple"
 | .val (.typ _)=>none
 | r=>(hX S r).map fun _=>"list"
def zQC(t T:String):Bool:=t==T || (t=="bool"&&T=="int")
def known(T:String):Bool:=T=="int" || T=="bool" || T=="str" || T=="tuple" || T=="list"
def gG:List Er→Sto→R Er
 | [r,.val (.typ T)],S=>match zCH S r with
  | some t=>if known T=true then .ok (.val (.bl (zQC t T))) S else .no
  | none=>.no
 | _,_=>.no
theorem bT(K:PySem.W.Frag){t T:String}(ht:t="NoneType"∨t="bool"∨t="int"∨t="str"∨t="tuple"∨t="list")(hT:known T=true):PySem.W.kitOne K (.type t) (.type T)=some (zQC t T):=by
 have hT':T="int"∨T="bool"∨T="str"∨T="tuple"∨T="list":=by
  unfold known at hT
  simp only [Bool.or_eq_true,beq_iff_eq]at hT
  rcases hT with(((h | h) | h) | h) | h
  ·exact .inl h
  ·exact .inr (.inl h)
  ·exact .inr (.inr (.inl h))
  ·exact .inr (.inr (.inr (.inl h)))
  ·exact .inr (.inr (.inr (.inr h)))
 rcases ht with rfl | rfl | rfl | rfl | rfl | rfl<;>rcases hT' with rfl | rfl | rfl | rfl | rfl<;>kernel_rfl
theorem xQ:CallR X (.builtin "isinstance") (fun xs H Q=> ∃α S r x t T,xs=[x,.ty T]∧Wd X.g α S H∧DenX X.K α H r x∧zCH S r=some t∧known T=true∧Q (.bl (zQC t T)) H):=by
 intro pins s σ H xs us Q I rr h
 obtain⟨α,S,r,x,t,T,rfl,wd,d,et,hk,q⟩:=h
 obtain⟨u,w',rfl,rx,rT⟩:=vals2 rr
 cases rT
 have fin: ∀tk,EP X pins σ Q (.bool (zQC t T)) {s with toks:=tk}:=fun tk=>⟨.bl _,H,I.tok _,rfl,q⟩
 unfold zCH at et
 split at et
 ·cases et
  cases zIH d
  cases rx
  exact PySem.W.kia_one PySem.W.kitx_none I.kIn True.intro (bT X.K (.inl rfl) hk) (fun z=>nomatch z) fin
 ·cases et
  cases zFB d
  cases rx
  exact PySem.W.kia_one PySem.W.kitx_bool I.kIn True.intro (bT X.K (.inr (.inl rfl)) hk) (fun z=>nomatch z) fin
 ·cases et
  cases yV d
  obtain⟨t,rfl⟩:=rx
  exact PySem.W.kia_one PySem.W.kitx_int I.kIn True.intro (bT X.K (.inr (.inr (.inl rfl))) hk) (fun z=>nomatch z) fin
 ·cases et
  cases kP d
  obtain⟨t,rfl⟩:=rx
  exact PySem.W.kia_one PySem.W.kitx_str I.kIn True.intro (bT X.K (.inr (.inr (.inr (.inl rfl)))) hk) (fun z=>nomatch z) fin
 ·cases et
  obtain⟨a,vs,rfl,sq,l⟩:=gH d
  cases rx
  obtain⟨its,r1,p1,_⟩:=I.tuple sq
  obtain⟨o,h1,h2,_⟩:=p1
  exact PySem.W.kia_one PySem.W.kitx_tuple I.kIn ⟨o,h1,h2⟩ (bT X.K (.inr (.inr (.inr (.inr (.inl rfl))))) hk) (fun z=>nomatch z) fin
 ·cases et
 ·cases z:hX S r with
  | none=>rw [z]at et;cases et
  | some ds=>
   rw [z]at et
   cases et
   obtain⟨a,vs,rfl,sq,l⟩:=zJL rfl wd z d
   cases rx
   obtain⟨its,r1,p1,_⟩:=I.list sq
   obtain⟨o,h1,h2,_⟩:=p1.isList
   exact PySem.W.kia_one PySem.W.kitx_list I.kIn ⟨o,h1,h2⟩ (bT X.K (.inr (.inr (.inr (.inr (.inr rfl))))) hk) (fun z=>nomatch z) fin
theorem hZ:zFR X W (fun xs H Q=> ∃α S r x t T,xs=[x,.ty T]∧Wd X.g α S H∧DenX X.K α H r x∧zCH S r=some t∧known T=true∧Q (.bl (zQC t T)) H) gG:=by
 intro rs vs α S H Q wd d post
 unfold gG at post
 split at post
 ·split at post
  ·rename_i t et
   split at post
   ·rename_i hk
    obtain⟨v,u,rfl,d1,d2⟩:=yKJ d
    cases yDT d2
    exact⟨α,S,_,v,t,_,rfl,wd,d1,et,hk,Post.val post wd (wK _)⟩
   ·exact post.elim
  ·exact post.elim
 ·exact post.elim
def gJ:List Er→Sto→R Er
 | [.val (.tup ds)],S=>.ok (.val (.tup ds)) S
 | [r],S=>match hX S r with | some ds=>.ok (.val (.tup ds)) S | none=>.no
 | _,_=>.no
theorem dC:zFR X W (fun xs H Q=> ∃p ys,xs=[.ref p]∧((SqL X.K H p ys∧ ∀l,H l=none→Q (.ref l) (upd H l (.tup ys)))∨(SqT X.K H p ys∧Q (.ref p) H))) gJ:=by
 intro rs vs α S H Q wd d post
 unfold gJ at post
 split at post
 ·obtain⟨v,rfl,dv⟩:=zFF d
  obtain⟨a,us,rfl,sq,l⟩:=gH dv
  exact⟨a,us,rfl,.inr ⟨sq,Post.val post wd (zDZ sq l)⟩⟩
 ·split at post
  ·rename_i ds e
   obtain⟨v,rfl,dv⟩:=zFF d
   obtain⟨a,us,rfl,sq,l⟩:=zJL rfl wd e dv
   exact⟨a,us,rfl,.inl ⟨sq,fun p hp=>Post.newt post wd hp l⟩⟩
  ·exact post.elim
 ·exact post.elim
def zUO:List Er→Sto→R Er
 | [r],S=>match itemsOf S r with | some ds=>.ok (.new ds) S | none=>.no
 | _,_=>.no
theorem zZH:zFR X W (fun xs H Q=> ∃p ys,xs=[.ref p]∧(SqL X.K H p ys∨SqT X.K H p ys)∧ ∀l,H l=none→Q (.ref l) (upd H l (.lst ys))) zUO:=by
 intro rs vs α S H Q wd d post
 unfold zUO at post
 split at post
 ·split at post
  ·rename_i ds e
   obtain⟨v,rfl,dv⟩:=zFF d
   obtain⟨a,us,rfl,sq,l⟩:=zJQ wd e dv
   exact⟨a,us,rfl,sq,fun p hp=>Post.newl post wd hp l⟩
  ·exact post.elim
 ·exact post.elim
theorem yS:bootBuiltins "len"=some (.builtin "len"):=by decide+kernel
theorem yMQ:bootBuiltins "abs"=some (.builtin "abs"):=by decide+kernel
theorem zXG:bootBuiltins "all"=some (.builtin "all"):=by decide+kernel
theorem yA:bootBuiltins "isinstance"=some (.builtin "isinstance"):=by decide+kernel
theorem zOP:bootBuiltins "int"=some (.type "int"):=by decide+kernel
theorem zMZ:bootBuiltins "bool"=some (.type "bool"):=by decide+kernel
theorem zXH:bootBuiltins "str"=some (.type "str"):=by decide+kernel
theorem wO:bootBuiltins "tuple"=some (.type "tuple"):=by decide+kernel
theorem zNA:bootBuiltins "list"=some (.type "list"):=by decide+kernel
end
end M
end L2
namespace L2
namespace M
open PySem PySem.Spec PyProof.Rows
def digN(n:Nat):List Nat:=(Nat.toDigits 10 n).map Char.toNat
def decL(i:Int):List Nat:=if i<0 then 45::digN i.natAbs else digN i.natAbs
section
variable{X:Cx}{W:XW}{a b c e o i:Expr}{es:List Expr}{f g h:Rho→Sto→R Er}{af:Rho→Sto→R (List Er)}{pos apos:Pos}
def strF:List Er→Sto→R Er
 | [.val (.int i)],S=>if i.natAbs.log2<1920 then .ok (.val (.str (decL i))) S else .no
 | [.val (.str x)],S=>.ok (.val (.str x)) S
 | _,_=>.no
theorem zUP:CallR X (.type "int") (fun xs H Q=>((∃i,xs=[.int i]∧Q (.int i) H)∨ ∃k,xs=[.bl k]∧Q (.int (if k then 1 else 0)) H)∨ ∃x n,xs=[.str x]∧PySem.intText? x=some n∧x.length≤640∧Q (.int n) H):=by
 refine yAT.or ?_
 intro pins s σ H xs us Q I r h
 obtain⟨x,n,rfl,hn,hl,q⟩:=h
 obtain⟨u,rfl,t,rfl⟩:=vals1 r
 exact PySem.W.KIN.call_text hn hl ⟨.int n,H,I.tok _,⟨_,rfl⟩,q⟩
def intF:List Er→Sto→R Er
 | [.val (.int i)],S=>.ok (.val (.int i)) S
 | [.val (.bl k)],S=>.ok (.val (.int (if k then 1 else 0))) S
 | [.val (.str x)],S=>match PySem.intText? (mkS x)with
  | some n=>if x.length≤640 then .ok (.val (.int n)) S else .no
  | none=>.no
 | _,_=>.no
theorem yMR:zFR X W (fun xs H Q=>((∃i,xs=[.int i]∧Q (.int i) H)∨ ∃k,xs=[.bl k]∧Q (.int (if k then 1 else 0)) H)∨ ∃x n,xs=[.str x]∧PySem.intText? x=some n∧x.length≤640∧Q (.int n) H) intF:=by
 intro rs vs α S H Q wd d post
 unfold intF at post
 split at post
 ·obtain⟨v,rfl,dv⟩:=zFF d
  cases yV dv
  exact .inl (.inl ⟨_,rfl,Post.val post wd (xA _)⟩)
 ·obtain⟨v,rfl,dv⟩:=zFF d
  cases zFB dv
  exact .inl (.inr ⟨_,rfl,Post.val post wd (xA _)⟩)
 ·obtain⟨v,rfl,dv⟩:=zFF d
  cases kP dv
  split at post
  ·rename_i n hn
   split at post
   ·rename_i hz
    exact .inr ⟨_,n,rfl,hn,by rw [jC];exact hz,Post.val post wd (xA _)⟩
   ·exact post.elim
  ·exact post.elim
 ·exact post.elim
def zDO(p:Er)(S:Sto):Bool:=(hX S p).isSome
theorem yEM:TyM X "list" zDO:=by
 intro p x α S H wd d h
 unfold zDO at h
 cases z:hX S p with
 | none=>rw [z]at h;cases h
 | some ds=>
  obtain⟨a,vs,rfl,s,l⟩:=zJL rfl wd z d
  exact .inl ⟨rfl,vs,s⟩
def strIdx(x y:List Nat):Option Nat:=(Builtin.Str.occurrences (mkS x) (mkS y) 0 (mkS x).length 1).head?
def sidxF:Er→List Er→Sto→R Er
 | .val (.str x),[.val (.str y)],S=>match strIdx x y with | some i=>.ok (.val (.int (i:Nat))) S | none=>.no
 | _,_,_=>.no
def yBM(p:Er)(S:Sto)(G:List MV→Option (List MV)):R Er:=match p with
 | .val (.loc l)=>match S[l]? with
  | some (.lst ds)=>match G ds with
   | some es=>.ok (.val .non) (S.set l (.lst es))
   | none=>.no
  | _=>.no
 | _=>.no
theorem yBN{α0 α:List Addr}{H0 H:Hp}{S:Sto}{p:Er}{x:V}{G:List MV→Option (List MV)}{Q:VK}(wd:Wd X.g α S H)(x0:Ext α0 H0 α H)(dp:DenX X.K α H p x)(post:Post X.g W α0 H0 (yBM p S G) Q):
  ∃a vs ds es,x=.ref a∧H a=some (.lst vs)∧DenL X.K α H ds vs∧G ds=some es∧ ∀us,DenL X.K α H es us→Q .non (upd H a (.lst us)):=by
 unfold yBM at post
 split at post
 ·rename_i l
  obtain⟨a,rfl,h⟩:=dQ dp
  obtain⟨ob,h1,h2⟩:=wd.of h
  rw [h1]at post
  cases ob with
  | lst ds=>
   obtain⟨vs,h3,l1⟩:=h2
   have post:Post X.g W α0 H0 (match G ds with | some es=>R.ok (Er.val .non) (S.set l (.lst es)) | none=>R.no) Q:=post
   split at post
   ·rename_i es eg
    refine⟨a,vs,ds,es,rfl,h3,l1,eg,fun us lu=>?_⟩
    have xw:=wd.writex h (o:=.lst us)
    exact(post.shift (x0.trans xw)).val (wd.write h ⟨us,zX,lu.ext xw⟩) zDY
   ·exact post.elim
  | dic _=>exact post.elim
  | ins _ _=>exact post.elim
 ·exact post.elim
def zSK:Er→List Er→Sto→R Er
 | p,[r],S=>(zEA r S).bind fun y S1=>yBM p S1 fun ds=>if ds.length<sizeLine then some (ds++[y])else none
 | _,_,_=>.no
theorem yBO:MtdM X W zYQ zSK:=by
 intro p rs x vs α S H0 H Q α0 wd x0 dp da post
 match rs,da,post with
 | [],_,post=>exact post.elim
 | _::_::_,_,post=>exact post.elim
 | [r],da,post=>
  cases da with
  | cons d n l=>
   cases l
   obtain⟨d',S',α',e',x',y',w',dd⟩:=zAK wd x0 d
   have post:Post X.g W α0 H0 ((zEA r S).bind fun y S1=>yBM p S1 fun ds=>if ds.length<sizeLine then some (ds++[y])else none) Q:=post
   rw [e']at post
   have dp':DenX X.K α' H p x:=by
    cases p with
    | val m=>exact Den.ex0 y' dp
    | new ds=>exact post.elim
   obtain⟨a,us,ds,es,rfl,h1,l1,eg,k⟩:=yBN w' x' dp' post
   split at eg
   ·rename_i hz
    cases eg
    exact⟨a,us,_,rfl,rfl,h1,by rw [l1.length];exact hz,k _ (l1.append (xD dd xP))⟩
   ·cases eg
theorem zAL(ho:PEm X W a f)(ha:PAm X W (e::es) af)
  (hbase:attributeBase a "append" X.env (eval a X.env)=eval a X.env:=by rfl)
  (hfew:((backTo pos (starEach (e::es) X.env)).all (fun x=>!x.1)&&(backToKw pos (keywordEach [] X.env)).all (fun x=>x.1.isSome)
   &&decide ((e::es).length+([]:List Keyword).length+(if([]:List Keyword).isEmpty then 0 else 1)<30))=true:=by rfl)
  (hline:(apos.endLine==pos.line)=true:=by rfl) (hs:starEach (e::es) X.env=(false,eval e X.env)::starEach es X.env:=by rfl) (hplain:(backTo pos (starEach es X.env)).any (·.1)=false:=by rfl):
  PEm X W (.Call (.Attribute a "append" apos) (e::es) [] pos) (fun ρ S=>(f ρ S).bind fun p S1=>if zDO p S1=true then(af ρ S1).bind fun rs S2=>zSK p rs S2 else .no):=
 zYW PySem.F.plainAttrs_list PySem.F.slot_list_append PySem.F.type_list_append yAV yBO yEM ho ha hbase hfew hline hs hplain
def zRC(p q:Er)(d:MV)(ρ:Rho)(S:Sto):R Rho:=match p,q with
 | .val (.loc l),.val (.int k)=>match S[l]? with
  | some (.lst ds)=>match ixN ds.length k with
   | some j=>.ok ρ (S.set l (.lst (ds.set j d)))
   | none=>.no
  | _=>.no
 | _,_=>.no
theorem yEN(ho:PEm X W o f)(hi:PEm X W i g)
  (ha: ∀v,assign (.Subscript o i pos) X.env v=(do
   let ov ←holding [v] (eval o X.env)
   let iv ←holding [v,ov] (eval i X.env)
   standAt pos
   holding [v,ov,iv] (setItem ov iv v)
   release [v,ov,iv] []):=by intro _;rfl):PGm X W (.Subscript o i pos) (fun d ρ S=>(f ρ S).bind fun p S1=>(g ρ S1).bind fun q S2=>zRC p q d ρ S2):=by
 obtain⟨to,ho,fo⟩:=ho
 obtain⟨ti,hi,fi⟩:=hi
 refine⟨_,yCW ho hi set_list ha,fun α ρ S σ H d v Q wd sl de q=>fo α ρ S σ H _ wd sl (q.bind fun u p S1 α1 H1 e1 x1 w1 d1 q1=>fi α1 ρ S1 σ H1 _ w1 (sl.ext x1) ((q1.shift x1).bind fun u2 p2 S2 α2 H2 e2 x2 w2 d2 q2=>?_))⟩
 replace q2:=q2.shift x2
 have d1':=DenX.ext x2 d1.1
 unfold zRC at q2
 split at q2
 ·rename_i l k
  obtain⟨a,rfl,h⟩:=dQ d1'
  cases yV d2.1
  obtain⟨ob,h1,h2⟩:=w2.of h
  rw [h1]at q2
  cases ob with
  | lst ds=>
   obtain⟨vs,h3,l1⟩:=h2
   have q2:Post X.g W α2 H2 (match ixN ds.length k with | some j=>R.ok ρ (S2.set l (.lst (ds.set j d))) | none=>R.no) Q:=q2
   split at q2
   ·rename_i j ej
    have xw:=w2.writex h (o:=.lst (vs.set j v))
    have sl2:=((sl.ext x1).ext x2).ext xw
    exact⟨a,vs,k,j,rfl,rfl,h3,by rw [l1.length];exact ej,q2 σ α2 _ xw (w2.write h ⟨_,zX,(l1.set ((de.ext x1).ext x2) j).ext xw⟩) sl2⟩
   ·exact q2.elim
  | dic _=>exact q2.elim
  | ins _ _=>exact q2.elim
 ·exact q2.elim
end
end M
end L2
namespace L2
namespace M
open PySem PySem.Spec PyProof.Rows
theorem _root_.L2.Inv.turnedL{X:Cx}{pins:List (Addr×Obj)}{σ:St}{H:Hp}{s:Shared}{h':Heap}{t':Nat}{fp:List Addr}(I:Inv X pins σ H s)(k: ∀b o,b∉fp→s.heap.get? b=some o→h'.get? b=some o)
  (hf: ∀b∈fp,zJE X pins H b):Inv X pins σ H {s with heap:=h',toks:=t'}:=by
 have nit: ∀b u,H b=some u→b∉fp:=fun b u e z=>by rw [(hf b z).1]at e;cases e
 refine I.step (g':=s.gens) (d':=s.drawn) (ch:=fp) (fun b hb=>⟨(hf b hb).2.2.2.1,(hf b hb).2.1,(hf b hb).2.2.2.2.1,(hf b hb).2.2.2.2.2⟩) (fun b o _ _ hc e _=>k b o hc e) (fun b o _ _ hc e _=>⟨o.slots,k b o hc e⟩) (fun _ _ _ _ n=>n)
  (fun b o hc e=>⟨o,k b o hc e⟩) (fun _ _ e=>e) (fun _ _ _ e=>e) (fun b ps e=>⟨#[],by rw [e];simp⟩) (fun m hm=>?_) (fun b u e=>?_) I.bare
 ·obtain⟨o,es,ep,ho,r⟩:=hm
  exact⟨o,es,ep,k _ o (fun z=>(hf _ z).2.1 rfl) ho,r⟩
 ·refine(I.hok b u e).stay (fun c v hc q=>k c v ?_ q) (fun _ q=>q) fun _ _ q=>q
  rcases hc with z | z
  ·rw [z];exact nit b u e
  ·exact nit c _ z
def IsSub(k:Bool)(h:Heap)(it l:Addr)(i:Nat):Prop:=if k=true then h.IsListIter it l i else h.IsTupleIter it l i
def zMA(k:Bool)(h:Heap)(l:Addr)(its:Array Value):Prop:=if k=true then h.IsList l its else h.IsTuple l its
def zKY(k:Bool)(l:Addr):Obj:={cls:=.type (if k=true then "list_iterator" else "tuple_iterator"),data:=.fields #[.ref l,.int 0 0]}
theorem IsSub.mk'{k:Bool}{h:Heap}{it l:Addr}(e:h.get? it=some (zKY k l)):IsSub k h it l 0:=by
 cases k with
 | true=>exact⟨_,e,rfl,rfl⟩
 | false=>exact⟨_,e,rfl,rfl⟩
theorem IsSub.there{k:Bool}{h:Heap}{it l:Addr}{i:Nat}(x:IsSub k h it l i): ∃o,h.get? it=some o∧ ∀v,o.data≠.cell v:=by
 cases k with
 | true=>obtain⟨o,e,_,d⟩:=(x:h.IsListIter it l i);exact⟨o,e,fun v z=>by rw [d]at z;cases z⟩
 | false=>obtain⟨o,e,_,d⟩:=(x:h.IsTupleIter it l i);exact⟨o,e,fun v z=>by rw [d]at z;cases z⟩
theorem IsSub.move{k:Bool}{h h':Heap}{it l:Addr}{i:Nat}(x:IsSub k h it l i)(f: ∀o,h.get? it=some o→h'.get? it=some o):IsSub k h' it l i:=by
 cases k with
 | true=>obtain⟨o,e,r⟩:=(x:h.IsListIter it l i);exact⟨o,f o e,r⟩
 | false=>obtain⟨o,e,r⟩:=(x:h.IsTupleIter it l i);exact⟨o,f o e,r⟩
section
variable{prog:Program}{w:World}{A:Around}{E:Value→Shared→Prop}{s:Shared}
theorem zOQ{k:Bool}{l:Addr}{its:Array Value}{Q:Value→Shared→Prop}(hl:zMA k s.heap l its)(h:Q (.ref s.heap.objs.size) {s with heap:=s.heap.push (zKY k l)}):wpAny (model prog w) A (pyIter (.ref l)) Q E s:=by
 cases k with
 | true=>exact wpAny_pyIter_list hl h
 | false=>exact wpAny_pyIter_tuple hl h
theorem yEO{k:Bool}{it l:Addr}{i:Nat}{its:Array Value}{x:Value}{Q:Value→Shared→Prop}(hit:IsSub k s.heap it l i)(hl:zMA k s.heap l its)(hx:its[i]? =some x)
  (hQ: ∀h',IsSub k h' it l (i+1)→Heap.SameBut it s.heap h'→Q x {s with heap:=h'}):wpAny (model prog w) A (Builtin.SmallTypes.nextOf (.ref it)) Q E s:=by
 cases k with
 | true=>exact wpAny_nextOf_list_item hit hl hx hQ
 | false=>
  have hit':s.heap.IsTupleIter it l i:=hit
  obtain⟨o,ho,hc,hd⟩:=id hit'
  obtain⟨ol,hol,_,nl,hdl⟩:=(hl:s.heap.IsTuple l its)
  unfold Builtin.SmallTypes.nextOf
  refine wpAny_bind (wpAny_callSpecial?_slot (name:=Str.ofString "__next__") hit'.typeIs F.slot_tuple_iterator_next (wpAny_call_entry F.slot_tuple_iterator_next hit'.typeIs F.entry_tuple_iterator_next ?_ (F.args_tuple_iterator_next_1 _)))
  show wpAny _ _ (field (.ref it) 0 >>= _) _ _ s
  refine wpAny_bind (wpAny_field ho hd (x:=.ref l) rfl ?_)
  show wpAny _ _ (if(Value.ref l==Value.none)=true then _ else _) _ _ s
  rw [if_neg (show¬((Value.ref l==Value.none)=true)from Bool.false_ne_true)]
  show wpAny _ _ (field (.ref it) 1 >>= _) _ _ s
  refine wpAny_bind (wpAny_field ho hd (x:=.int i 0) rfl ?_)
  show wpAny _ _ (seqItems? (.ref l) >>= _) _ _ s
  refine wpAny_bind (wpAny_seqItems hol hdl ?_)
  simp only [Int.toNat_natCast,hx]
  refine wpAny_bind (wpAny_setField ho hd (by simp) (wpAny_pure ⟨x,rfl,wpAny_pure (hQ _ ?_ (Heap.SameBut.update ..))⟩))
  exact⟨_,Heap.get?_update_self _ ho (Obj.isFreed_of_fields (Obj.data_mapFields hd _)),(Obj.cls_mapFields ..).trans hc,by rw [Obj.data_mapFields hd];simp [rawInt]⟩
theorem yID{k:Bool}{it l:Addr}{i:Nat}{its:Array Value}{Q:Value→Shared→Prop}(hh:A.handled=none)(hit:IsSub k s.heap it l i)(hl:zMA k s.heap l its)(hx:its[i]? =none)
  (hE: ∀h' e,Heap.ExtBut it s.heap h'→(∃o,h'.get? e=some o∧o.cls=.type "StopIteration")→E (.ref e) {s with heap:=h'}):wpAny (model prog w) A (Builtin.SmallTypes.nextOf (.ref it)) Q E s:=by
 cases k with
 | true=>exact wpAny_nextOf_list_end hh hit hl hx hE
 | false=>
  have hit':s.heap.IsTupleIter it l i:=hit
  obtain⟨o,ho,hc,hd⟩:=id hit'
  obtain⟨ol,hol,_,nl,hdl⟩:=(hl:s.heap.IsTuple l its)
  unfold Builtin.SmallTypes.nextOf
  refine wpAny_bind (wpAny_callSpecial?_slot (name:=Str.ofString "__next__") hit'.typeIs F.slot_tuple_iterator_next (wpAny_call_entry F.slot_tuple_iterator_next hit'.typeIs F.entry_tuple_iterator_next ?_ (F.args_tuple_iterator_next_1 _)))
  show wpAny _ _ (field (.ref it) 0 >>= _) _ _ s
  refine wpAny_bind (wpAny_field ho hd (x:=.ref l) rfl ?_)
  show wpAny _ _ (if(Value.ref l==Value.none)=true then _ else _) _ _ s
  rw [if_neg (show¬((Value.ref l==Value.none)=true)from Bool.false_ne_true)]
  show wpAny _ _ (field (.ref it) 1 >>= _) _ _ s
  refine wpAny_bind (wpAny_field ho hd (x:=.int i 0) rfl ?_)
  show wpAny _ _ (seqItems? (.ref l) >>= _) _ _ s
  refine wpAny_bind (wpAny_seqItems hol hdl ?_)
  simp only [Int.toNat_natCast,hx]
  refine wpAny_bind (wpAny_rule (wpAny_bind (wpAny_setField ho hd (by simp) ?_)))
  show wpAny _ _ (newExc (.type "StopIteration") [] >>= _) _ _ _
  refine wpAny_bind ?_
  simp only [newExc,newTuple]
  refine wpAny_bind (wpAny_newObj_type ?_ (by size_fits))
  refine wpAny_bind (m:=firstArgMember _ _) (wpAny_of_eq (a:=Value.none) (by first | rfl | (simp only [firstArgMember];rfl)) ?_)
  refine wpAny_newObj_type ?_ (by size_fits)
  simp only [raiseNew]
  refine wpAny_bind (wpAny_handled ?_)
  first | rw [show A.in1.handled=none from hh] | rw [hh]
  refine wpAny_bind (wpAny_pure (wpAny_throw ?_))
  exact hE _ _ (((Heap.SameBut.update ..).extBut.push _).push _) ⟨_,Heap.get?_push_size _ rfl,rfl⟩
end
def SqK(k:Bool)(K:PySem.W.Frag)(H:Hp)(a:Addr)(xs:List V):Prop:=if k=true then SqL K H a xs else SqT K H a xs
section
variable{X:Cx}{pins:List (Addr×Obj)}{σ:St}{H:Hp}{s:Shared}
theorem _root_.L2.Inv.seqK(I:Inv X pins σ H s){k:Bool}{a:Addr}{xs:List V}(h:SqK k X.K H a xs): ∃its:List Value,Vals xs its∧zMA k s.heap a its.toArray∧xs.length≤sizeLine:=by
 cases k with
 | true=>obtain⟨its,r,p,z⟩:=I.list h;exact⟨its,r,p.isList,z⟩
 | false=>obtain⟨its,r,p,z⟩:=I.tuple h;exact⟨its,r,p,z⟩
theorem _root_.L2.Inv.seqK_inj(I:Inv X pins σ H s){k:Bool}{a:Addr}{xs ys:List V}(h:SqK k X.K H a xs)(h':SqK k X.K H a ys):xs=ys:=by
 cases k with
 | true=>exact I.list_inj h h'
 | false=>exact I.tuple_inj h h'
end
end M
end L2
namespace L2
namespace M
open PySem PySem.Spec PyProof.Rows
structure Sr where
 k:Bool
 ds:List MV
 gs:List (Nat×List MV)
def srcOf(S:Sto):Er→Option Sr
 | .val (.tup ds)=>some ⟨false,ds,[]⟩
 | .new ds=>some ⟨true,ds,[]⟩
 | .val (.scr ds)=>some ⟨true,ds,[]⟩
 | .val (.loc l)=>match S[l]? with
  | some (.lst ds)=>some ⟨true,ds,[(l,ds)]⟩
  | _=>none
 | _=>none
structure SrcD(X:Cx)(q:Sr)(l:Addr)(P:List Addr→Sto→Hp→Prop):Prop where
 get: ∀α S H,P α S H→ ∃vs,SqK q.k X.K H l vs∧DenL X.K α H q.ds vs
 stays: ∀α1 S1 H1 α2 S2 H2,P α1 S1 H1→Ext α1 H1 α2 H2→Wd X.g α2 S2 H2→stay q.gs S2→P α2 S2 H2
 st: ∀α S H,P α S H→stay q.gs S
theorem zXI{X:Cx}{α:List Addr}{S:Sto}{H:Hp}(wd:Wd X.g α S H){r:Er}{x:V}{q:Sr}(e:srcOf S r=some q)(d:DenX X.K α H r x): ∃l P,x=.ref l∧P α S H∧SrcD X q l P:=by
 unfold srcOf at e
 split at e
 ·rename_i ds
  cases e
  obtain⟨a,vs,rfl,s,l⟩:=gH d
  exact⟨a,fun α S H=> ∃vs,SqT X.K H a vs∧DenL X.K α H ds vs,rfl,⟨vs,s,l⟩,fun α S H h=>h,fun α1 S1 H1 α2 S2 H2 ⟨vs,h1,h2⟩ x w _=>⟨vs,x.sqT h1,h2.ext x⟩,fun _ _ _ _=>gI⟩
 ·rename_i ds
  cases e
  obtain⟨b,vs,rfl,h,n,l⟩:=d
  exact⟨b,fun α S H=> ∃vs,H b=some (.lst vs)∧b∉α∧DenL X.K α H ds vs,rfl,⟨vs,h,n,l⟩,fun α S H ⟨vs,h1,_,h2⟩=>⟨vs,(SqL.of h1:SqL X.K H b vs),h2⟩,
   fun α1 S1 H1 α2 S2 H2 ⟨vs,h1,h2,h3⟩ x w _=>⟨vs,x.keep b _ h1 h2,x.out h1 h2,h3.ext x⟩,fun _ _ _ _=>gI⟩
 ·rename_i ds
  cases e
  obtain⟨a,vs,rfl,s,l⟩:=zNZ d
  exact⟨a,fun α S H=> ∃vs,SqF X.K H a vs∧DenL X.K α H ds vs,rfl,⟨vs,s,l⟩,fun α S H ⟨vs,h1,h2⟩=>⟨vs,h1.l,h2⟩,fun α1 S1 H1 α2 S2 H2 ⟨vs,h1,h2⟩ x w _=>⟨vs,x.sqF h1,h2.ext x⟩,fun _ _ _ _=>gI⟩
 ·rename_i n
  split at e
  ·rename_i ds hS
   cases e
   obtain⟨a,rfl,h⟩:=dQ d
   obtain⟨vs,h1,h2⟩:=wd.obj n a _ h hS
   refine⟨a,fun α S H=> ∃vs,H a=some (.lst vs)∧DenL X.K α H ds vs∧α[n]? =some a∧S[n]? =some (.lst ds),rfl,⟨vs,h1,h2,h,hS⟩,fun α S H ⟨vs,h1,h2,_⟩=>⟨vs,(SqL.of h1:SqL X.K H a vs),h2⟩,?_,?_⟩
   ·intro α1 S1 H1 α2 S2 H2 ⟨vs,a1,a2,a3,a4⟩ x w hs
    have hs':=hs (n,ds) (by simp)
    obtain⟨us,b1,b2⟩:=w.obj n a _ (x.at a3) hs'
    exact⟨us,b1,b2,x.at a3,hs'⟩
   ·intro α S H ⟨vs,_,_,_,a4⟩ p hp
    have:p=(n,ds):=by simpa using hp
    subst this
    exact a4
  ·cases e
 ·cases e
section
variable{X:Cx}{W:XW}{a b:Expr}{elts:List Expr}{kt:Nat}{pt p pos:Pos}{ta:TA}{af:Rho→Sto→R (List Er)}
theorem yIE:bootBuiltins "enumerate"=some (.type "enumerate"):=by decide+kernel
end
structure EnSt(k:Bool)(e it l:Addr)(i:Nat)(h:Heap):Prop where
 e: ∃old,IsEnum h e it i old
 s:IsSub k h it l i
section
variable{prog:Program}{w:World}{A:Around}{E:Value→Shared→Prop}{s:Shared}{k:Bool}{e it l:Addr}{i:Nat}{its:Array Value}
theorem yIF{x old:Value}{Q:Value→Shared→Prop}(he:IsEnum s.heap e it i old)(hit:IsSub k s.heap it l i)(hl:zMA k s.heap l its)(hx:its[i]? =some x)(hne:e≠it)
  (hQ: ∀h',IsEnumOut h' e it ((i:Int)+1) x s.heap.objs.size→IsSub k h' it l (i+1)→h'.get? s.heap.objs.size=some {cls:=.type "tuple",data:=.seq #[.int i s.toks,x]}→
   (∀b o,b≠e→b≠it→s.heap.get? b=some o→h'.get? b=some o)→Q (.ref s.heap.objs.size) {s with heap:=h',toks:=s.toks+1}):
  wpAny (model prog w) A (Builtin.«enumerate.__next__» ⟨[.ref e],[]⟩) (fun fin s'=> ∃v,fin=.done (.ret v)∧Q v s') E s:=by
 obtain⟨hp,g,d,tk,os⟩:=s
 show wpAny _ _ (field (.ref e) 2 >>= _) _ _ _
 refine wpAny_bind (wpAny_field he rfl (x:=.ref it) rfl (wpAny_bind (yEO hit hl hx fun ha ita hsa=>?_)))
 replace hsa:Heap.SameBut it hp ha:=hsa
 have ea:IsEnum ha e it i old:=(hsa.2 e hne).trans he
 show wpAny _ _ (field (.ref e) 3 >>= _) _ _ ⟨ha,g,d,tk,os⟩
 refine wpAny_bind (wpAny_field ea rfl (x:=rawInt i) rfl ?_)
 show wpAny _ _ (field (.ref e) 4 >>= _) _ _ ⟨ha,g,d,tk,os⟩
 refine wpAny_bind (wpAny_field ea rfl (x:=.none) rfl ?_)
 show wpAny _ _ (mkInt i >>= _) _ _ ⟨ha,g,d,tk,os⟩
 refine wpAny_bind (wpAny_mkInt ?_)
 show wpAny _ _ (setField (.ref e) 3 (rawInt ((i:Int)+1)) >>= _) _ _ ⟨ha,g,d,tk+1,os⟩
 refine wpAny_bind (wpAny_setField_rec ea (by simp) fun hb eb hsb=>?_)
 replace hsb:Heap.SameBut e ha hb:=hsb
 replace eb:IsEnum hb e it ((i:Int)+1) old:=eb
 show wpAny _ _ (setField (.ref e) 4 .none >>= _) _ _ ⟨hb,g,d,tk+1,os⟩
 refine wpAny_bind (wpAny_setField_rec eb (by simp) fun hc ec hsc=>?_)
 replace hsc:Heap.SameBut e hb hc:=hsc
 replace ec:IsEnum hc e it ((i:Int)+1) old:=ec
 show wpAny _ _ (newTuple [.int i tk,x] >>= _) _ _ ⟨hc,g,d,tk+1,os⟩
 refine wpAny_bind (wpAny_newTuple ?_)
 have hsz:hc.objs.size=hp.objs.size:=by rw [hsc.1,hsb.1,hsa.1]
 have hel:e<hp.objs.size:=Heap.lt_size he
 have ed:IsEnum (hc.push {cls:=.type "tuple",data:=.seq #[.int i tk,x]}) e it ((i:Int)+1) old:=Heap.get?_push_of_some _ ec
 have td:(hc.push {cls:=.type "tuple",data:=.seq #[.int i tk,x]}).get? hp.objs.size=some {cls:=.type "tuple",data:=.seq #[.int i tk,x]}:=by rw [←hsz];exact Heap.get?_push_size _ rfl
 have kd: ∀b o,b≠e→b≠it→hp.get? b=some o→(hc.push {cls:=.type "tuple",data:=.seq #[.int i tk,x]}).get? b=some o:=fun b o n1 n2 q=>
  Heap.get?_push_of_some _ (hsc.extBut b o n1 (hsb.extBut b o n1 (hsa.extBut b o n2 q)))
 have sd:IsSub k (hc.push {cls:=.type "tuple",data:=.seq #[.int i tk,x]}) it l (i+1):=ita.move fun o q=>Heap.get?_push_of_some _ (hsc.extBut _ o (Ne.symm hne) (hsb.extBut _ o (Ne.symm hne) q))
 generalize hc.push {cls:=.type "tuple",data:=.seq #[.int i tk,x]}=hd at ed td kd sd ⊢
 show wpAny _ _ (Builtin.SmallTypes.ownedTupleIsFree (.ref e) >>= _) _ _ ⟨hd,g,d,tk+1,os⟩
 rw [hsz]
 refine wpAny_bind ?_
 unfold Builtin.SmallTypes.ownedTupleIsFree
 refine wpAny_bind (wpAny_field ed rfl (x:=.none) rfl (wpAny_pure ?_))
 simp only [if_true]
 refine wpAny_bind (wpAny_rule (wpAny_bind (wpAny_field ed rfl (x:=old) rfl (wpAny_bind (wpAny_setField_rec ed (by simp) fun hf ef hsf=>?_)))))
 replace hsf:Heap.SameBut e hd hf:=hsf
 replace ef:IsEnum hf e it ((i:Int)+1) x:=ef
 show wpAny _ _ (Builtin.SmallTypes.ownedTupleHandOut (.ref e) (.ref hp.objs.size) >>= _) _ _ ⟨hf,g,d,tk+1,os⟩
 refine wpAny_bind ?_
 unfold Builtin.SmallTypes.ownedTupleHandOut
 refine wpAny_bind (wpAny_setField_rec ef (by simp) fun hg' eg hsg=>?_)
 replace hsg:Heap.SameBut e hf hg':=hsg
 replace eg:IsEnumOut hg' e it ((i:Int)+1) x hp.objs.size:=eg
 refine wpAny_setField_rec eg (by simp) fun hh' eh hsh=>?_
 replace hsh:Heap.SameBut e hg' hh':=hsh
 replace eh:IsEnumOut hh' e it ((i:Int)+1) x hp.objs.size:=eh
 have up: ∀b o,b≠e→hd.get? b=some o→hh'.get? b=some o:=fun b o n q=>hsh.extBut b o n (hsg.extBut b o n (hsf.extBut b o n q))
 exact wpAny_bind (wpAny_letGo (wpAny_pure ⟨_,rfl,hQ hh' eh (sd.move fun o q=>up _ o (Ne.symm hne) q) (up _ _ (Nat.ne_of_gt hel) td) fun b o n1 n2 q=>up b o n1 (kd b o n1 n2 q)⟩))
theorem zXJ(k:Bool)(l:Addr)(its:Array Value):
  Meets (Builtin.«enumerate.__new__» ⟨[.type "enumerate",.ref l],[]⟩) (fun _ R s=>zMA k s.heap l its∧
   R (.ok (.ret (.ref (s.heap.objs.size+1)))) {s with heap:=(s.heap.push (zKY k l)).push {cls:=.type "enumerate",data:=.fields #[.none,.bool false,.ref s.heap.objs.size,rawInt 0,.none,.none]}}):=
 .of_wp fun prog w A R s h=>by
  obtain⟨hp,g,d,tk,os⟩:=s;obtain⟨hl,h⟩:=h
  have hsub:=sub_enumerate
  have hL:zMA k (Shared.heap ⟨hp,g,d,tk,os⟩) l its:=hl
  have z1: ∀(h:Heap)(o:Obj),(h.push o).objs.size=h.objs.size+1:=fun h o=>Heap.size_push ..
  wp_walk
  refine wpAny_stack_any fun st=>wpAny_pure ?_
  split
  ·rename_i c _ _ _ _ _
   cases (c==Value.type "enumerate")
   ·wp_walk using zOQ hL
    exact⟨_,rfl,by simp only [z1];exact h⟩
   ·wp_walk using zOQ hL
    exact⟨_,rfl,by simp only [z1];exact h⟩
  ·wp_walk using zOQ hL
   exact⟨_,rfl,by simp only [z1];exact h⟩
end
end M
end L2
namespace L2
namespace M
open PySem PySem.Spec PyProof.Rows
def zRD(K:PySem.W.Frag)(F:List MV→Sto→R Er):Sp:=fun vs H Q _=> ∃ds,DenL K [] H ds vs∧ds.length=1∧ ∀g:Gm,g.K=K→Post g W0 [] H (F ds []) Q
theorem yEP{g:Gm}{F:List MV→Sto→R Er}: ∀vs H Q E,zRD g.K F vs H Q E→spM g 1 F vs H Q E:=fun vs H Q E ⟨ds,l,hl,q⟩=>⟨[],[],ds,⟨rfl,by simp,fun l a o h=>by simp at h⟩,l,hl,q g rfl⟩
theorem yMS{K:PySem.W.Frag}{H:Hp}{a:Addr}{xs:List V}(hO:Only H)(h:SqL K H a xs):SqF K H a xs:=by
 rcases h with(h | ⟨o,h⟩) | h
 ·rcases hO a with z | ⟨o,ys,z⟩
  ·rw [z]at h;cases h
  ·rw [z]at h;cases h
 ·exact .inl ⟨o,h⟩
 ·exact .inr h
theorem yEQ{K:PySem.W.Frag}{F:List MV→Sto→R Er}{H:Hp}{a:Addr}{ns:List Int}(hO:Only H)(hS:SqL K H a (ns.map V.int))(h: ∃S,F [.scr (ns.map MV.int)] []=.ok (.val (.bl true)) S):zRD K F [.ref a] H (fun v _=>v=.bl true) fun _ _ _=>False:=by
 obtain⟨S,h⟩:=h
 refine⟨_,xD (zYU (yMS hO hS) (zQX ns)) xP,rfl,fun g _=>?_⟩
 rw [h]
 exact fun v α' H' x w d=>zFB d.1
theorem bok{β γ:Type}(b:β)(S:Sto)(k:β→Sto→R γ):(R.ok b S).bind k=k b S:=by
 have h:=R.bind_ok b S k
 exact Eq.trans h rfl
theorem yIG(d:MV)(S:Sto):zE (some (some d)) S=.ok (.val d) S:=rfl
theorem zOR{S T:Sto}:zQZ S (S++T):=⟨by rw [List.length_append];omega,fun l hl=>.inl (List.getElem?_append_left hl)⟩
theorem yER{S:Sto}:zQZ S S:=⟨Nat.le_refl _,fun l hl=>.inl rfl⟩
theorem zED(n:Nat)(i:Int):lo n (.int i):=by unfold lo;trivial
theorem zFU(n:Nat)(i:List Nat):lo n (.str i):=by unfold lo;trivial
theorem zZI(n:Nat)(i:Bool):lo n (.bl i):=by unfold lo;trivial
theorem zSL(n:Nat):lo n .non:=by unfold lo;trivial
theorem zXK{n:Nat}{ds:List MV}(h:loL n ds):lo n (.tup ds):=by unfold lo;exact h
theorem gK{n:Nat}: ∀{ds:List MV},(∀d∈ds,lo n d)→loL n ds
 | [],_=>by unfold loL;trivial
 | d::ds,h=>by unfold loL;exact⟨h d List.mem_cons_self,gK fun e he=>h e (List.mem_cons_of_mem _ he)⟩
theorem zOS{S T:Sto}{d:MV}(h:lo S.length d)(hn: ∀l,d≠.loc l):dA S (.val d) (S++T)=.ok (.val d) S:=by
 unfold dA
 rw [if_pos zOR]
 have e:(S++T).take S.length=S:=by simp
 cases d with
 | loc l=>exact absurd rfl (hn l)
 | _=>dsimp only;rw [if_pos h,e]
theorem yES{S T:Sto}{ds:List MV}(h:loL S.length ds):dA S (.new ds) (S++T)=.ok (.new ds) S:=by
 unfold dA
 rw [if_pos zOR]
 have e:(S++T).take S.length=S:=by simp
 dsimp only
 rw [if_pos h,e]
theorem yET{S T:Sto}{l:Nat}{ds:List MV}(hl:S.length≤l)(hS:(S++T)[l]? =some (.lst ds))(h:loL S.length ds):dA S (.val (.loc l)) (S++T)=.ok (.new ds) S:=by
 unfold dA
 rw [if_pos zOR]
 have e:(S++T).take S.length=S:=by simp
 dsimp only
 rw [if_neg (by omega),hS]
 dsimp only
 rw [if_pos h,e]
theorem zFV{n:Nat}{F:List MV→Sto→R Er}{rs:List Er}{S T:Sto}{d:MV}(hn:rs.length=n)(hF:F (zQ rs S).1 (zQ rs S).2=.ok (.val d) (S++T))(h:lo S.length d)(hd: ∀l,d≠.loc l):zJ n F rs S=.ok (.val d) S:=by
 unfold zJ
 rw [if_pos hn,hF]
 exact zOS h hd
theorem zUQ{n:Nat}{F:List MV→Sto→R Er}{rs:List Er}{S T:Sto}{ds:List MV}(hn:rs.length=n)(hF:F (zQ rs S).1 (zQ rs S).2=.ok (.new ds) (S++T))(h:loL S.length ds):zJ n F rs S=.ok (.new ds) S:=by
 unfold zJ
 rw [if_pos hn,hF]
 exact yES h
theorem yEU{n:Nat}{F:List MV→Sto→R Er}{rs:List Er}{S T:Sto}{l:Nat}{ds:List MV}(hn:rs.length=n)(hF:F (zQ rs S).1 (zQ rs S).2=.ok (.val (.loc l)) (S++T))(hl:S.length≤l)(hS:(S++T)[l]? =some (.lst ds))(h:loL S.length ds):zJ n F rs S=.ok (.new ds) S:=by
 unfold zJ
 rw [if_pos hn,hF]
 exact yET hl hS h
theorem zDP{n:Nat}{F:List MV→Sto→R Er}{rs:List Er}{S:Sto}{d:MV}(hn:rs.length=n)(hF:F (zQ rs S).1 (zQ rs S).2=.ok (.val d) S)(h:lo S.length d)(hd: ∀l,d≠.loc l):zJ n F rs S=.ok (.val d) S:=zFV (T:=[]) hn (by rw [List.append_nil];exact hF) h hd
theorem zUR{gf:MV→Rho→Sto→R Rho}{body:Rho→Sto→R Fl}{gs:List (Nat×List MV)}{L:List MV}(I:Nat→Rho→Sto→Prop)
  (st: ∀i d,L[i]? =some d→ ∀ρ S,I i ρ S→ ∃ρ' S',((gf d ρ S).bind fun ρ0 S0=>body ρ0 S0)=.ok (.next ρ') S'∧stay gs S'∧I (i+1) ρ' S'):
  ∀(n i:Nat){ρ:Rho}{S:Sto},n+i=L.length→I i ρ S→ ∃ρ' S',kB gf body gs (L.drop i) ρ S=.ok (.next ρ') S'∧I L.length ρ' S'
 | 0,i,ρ,S,hn,h=>by
  have e:i=L.length:=by omega
  subst e
  rw [List.drop_length]
  exact⟨ρ,S,rfl,h⟩
 | n+1,i,ρ,S,hn,h=>by
  have hi:i<L.length:=by omega
  obtain⟨ρ1,S1,e,hs,h1⟩:=st i L[i] (List.getElem?_eq_getElem hi) ρ S h
  obtain⟨ρ2,S2,e2,h2⟩:=zUR I st n (i+1) (by omega) h1
  refine⟨ρ2,S2,?_,h2⟩
  rw [List.drop_eq_getElem_cons hi]
  unfold kB
  cases z:gf L[i] ρ S with
  | ok ρ0 S0=>
   rw [z]at e
   have e:body ρ0 S0=.ok (.next ρ1) S1:=e
   rw [bok]
   show(body ρ0 S0).bind _=_
   rw [e,bok]
   dsimp only
   rw [if_pos hs]
   exact e2
  | exc c fs S0=>rw [z]at e;cases e
  | no=>rw [z]at e;cases e
theorem zFW{gf:MV→Rho→Sto→R Rho}{body:Rho→Sto→R Fl}{gs:List (Nat×List MV)}{L:List MV}(I:Nat→Rho→Sto→Prop)
  (st: ∀i d,L[i]? =some d→ ∀ρ S,I i ρ S→ ∃ρ' S',((gf d ρ S).bind fun ρ0 S0=>body ρ0 S0)=.ok (.next ρ') S'∧stay gs S'∧I (i+1) ρ' S') {ρ:Rho} {S:Sto} (h:I 0 ρ S):
  ∃ρ' S',kB gf body gs L ρ S=.ok (.next ρ') S'∧I L.length ρ' S':=zUR I st L.length 0 (by omega) h
end M
end L2
namespace L2
namespace M
open PySem PySem.Spec PyProof.Rows
section
variable{S:Sto}
theorem as_bl(b:Bool)(S:Sto):asB (.val (.bl b)) S=.ok b S:=rfl
theorem as_int(i:Int)(S:Sto):asI (.val (.int i)) S=.ok (some i) S:=rfl
theorem yMT(b:Bool)(S:Sto):gF (.val (.bl b)) S=.ok b S:=rfl
theorem add_int(i j:Int)(S:Sto):yY (.val (.int i)) (.val (.int j)) S=.ok (.val (.int (i+j))) S:=rfl
theorem sub_int(i j:Int)(S:Sto):zXC (.val (.int i)) (.val (.int j)) S=.ok (.val (.int (i - j))) S:=rfl
theorem add_str{x y:List Nat}(h:x.length+y.length≤sizeLine):yY (.val (.str x)) (.val (.str y)) S=.ok (.val (.str (x++y))) S:=if_pos h
theorem zNB{x y:List MV}(h:x.length+y.length≤sizeLine):yY (.val (.tup x)) (.val (.tup y)) S=.ok (.val (.tup (x++y))) S:=if_pos h
theorem zCI{p q:Er}{x y:List MV}(h1:lsW S p=some x)(h2:lsW S q=some y)(h:x.length+y.length≤sizeLine):yY p q S=.ok (.new (x++y)) S:=by
 have e:zZB p q S=.ok (.new (x++y)) S:=by
  unfold zZB
  rw [h1,h2]
  exact if_pos h
 unfold yY
 split
 ·cases h1
 ·cases h1
 ·cases h1
 ·exact e
theorem yMU{g:Int→Int→Bool}(i j:Int)(S:Sto):ibF g (.val (.int i)) (.val (.int j)) S=.ok (.val (.bl (g i j))) S:=rfl
theorem yIH(i j:Int):eqV (.int i) (.int j)=decide (i=j):=by
 show(i==j)=_
 by_cases h:i=j
 ·subst h;simp
 ·rw [decide_eq_false h];simpa using h
theorem yII(x y:List Nat):eqV (.str (mkS x)) (.str (mkS y))=decide (x=y):=by
 show(mkS x==mkS y)=_
 by_cases h:x=y
 ·subst h;simp
 ·rw [decide_eq_false h]
  have:mkS x≠mkS y:=fun z=>h (zRY z)
  simpa using this
theorem zNC(n:Nat)(i j:Int):eqv S (n+1) (.int i) (.int j)=some (decide (i=j)):=by rw [←yIH];rfl
theorem zJT(n:Nat)(x y:List Nat):eqv S (n+1) (.str x) (.str y)=some (decide (x=y)):=by rw [←yII];rfl
theorem yEV(n:Nat)(x:Int)(y:List Nat):eqv S (n+1) (.int x) (.str y)=some false:=rfl
theorem yEW(n:Nat)(x:List Nat)(y:Int):eqv S (n+1) (.str x) (.int y)=some false:=rfl
theorem yEX(n:Nat)(x y:Bool):eqv S (n+1) (.bl x) (.bl y)=some (x==y):=rfl
theorem yIJ(d f:MV):eqF (.val d) (.val f) S=match eqv S (zZ+1) d f with | some k=>.ok (.val (.bl k)) S | none=>.no:=rfl
theorem yIK(d f:MV):neF (.val d) (.val f) S=match eqv S (zZ+1) d f with | some k=>.ok (.val (.bl !k)) S | none=>.no:=rfl
theorem zSM{d f:MV}{k:Bool}(h:eqv S (zZ+1) d f=some k):eqF (.val d) (.val f) S=.ok (.val (.bl k)) S:=by rw [yIJ,h]
theorem zXL{d f:MV}{k:Bool}(h:eqv S (zZ+1) d f=some k):neF (.val d) (.val f) S=.ok (.val (.bl !k)) S:=by rw [yIK,h]
theorem eq_int(i j:Int)(S:Sto):eqF (.val (.int i)) (.val (.int j)) S=.ok (.val (.bl (decide (i=j)))) S:=zSM (zNC _ i j)
theorem eq_str(x y:List Nat)(S:Sto):eqF (.val (.str x)) (.val (.str y)) S=.ok (.val (.bl (decide (x=y)))) S:=zSM (zJT _ x y)
theorem ne_int(i j:Int)(S:Sto):neF (.val (.int i)) (.val (.int j)) S=.ok (.val (.bl (!decide (i=j)))) S:=zXL (zNC _ i j)
theorem lt_int(i j:Int)(S:Sto):ltF (.val (.int i)) (.val (.int j)) S=.ok (.val (.bl (decide (i<j)))) S:=rfl
theorem lt_str(i j:List Nat)(S:Sto):ltF (.val (.str i)) (.val (.str j)) S=.ok (.val (.bl (decide (i<j)))) S:=rfl
theorem zEE{b:Int}(h:0<b)(h2:b<1073741824)(a:Int)(S:Sto):zOK (.val (.int a)) (.val (.int b)) S=.ok (.val (.int (a / b))) S:=by
 refine if_pos ⟨h,?_⟩
 have h3:b.natAbs<2 ^ 30:=by omega
 have:=(Nat.log2_lt (by omega:b.natAbs≠0)).mpr h3
 omega
theorem mod_lit{b:Int}(h:0<b)(a:Int)(S:Sto):zEC (.val (.int a)) (.val (.int b)) S=.ok (.val (.int (a % b))) S:=if_pos h
theorem zND{b:Int}(h: -(2 ^ 64)<b∧b<2 ^ 64)(a:Int)(S:Sto):zOL (.val (.int a)) (.val (.int b)) S=.ok (.val (.int (a * b))) S:=if_pos (Or.inr (Or.inl h))
theorem zUS{a:Int}(h: -(2 ^ 64)<a∧a<2 ^ 64)(b:Int)(S:Sto):zOL (.val (.int a)) (.val (.int b)) S=.ok (.val (.int (a * b))) S:=if_pos (Or.inl h)
theorem yIL(ρ:Rho)(i:Nat)(d:MV)(S:Sto):yN ρ i (.val d) S=.ok (.next (ρ.set i (some d))) S:=rfl
theorem yIM(ρ:Rho)(i:Nat)(ds:List MV)(S:Sto):yN ρ i (.new ds) S=.ok (.next (ρ.set i (some (.loc S.length)))) (S++[.lst ds]):=rfl
theorem yIN(S:Sto):zQ [] S=([],S):=rfl
theorem yIO(d:MV)(rs:List Er)(S:Sto):zQ (.val d::rs) S=(d::(zQ rs S).1,(zQ rs S).2):=rfl
theorem zD{F G:Rho→Sto→R Fl}{ρ ρ':Rho}{S S':Sto}(h:F ρ S=.ok (.next ρ') S'):zP F G ρ S=G ρ' S':=by unfold zP;rw [h];rfl
theorem yC{F G:Rho→Sto→R Fl}{ρ:Rho}{S S':Sto}{r:Er}(h:F ρ S=.ok (.ret r) S'):zP F G ρ S=.ok (.ret r) S':=by unfold zP;rw [h];rfl
theorem gB(S:Sto):stay [] S:=gI
theorem dE{gf:MV→Rho→Sto→R Rho}{b:Rho→Sto→R Fl}{gs:List (Nat×List MV)}{d:MV}{ds:List MV}{ρ ρ0 ρ':Rho}{S0 S':Sto}(hg:gf d ρ S=.ok ρ0 S0)(h:b ρ0 S0=.ok (.next ρ') S')(hs:stay gs S'):kB gf b gs (d::ds) ρ S=kB gf b gs ds ρ' S':=by
 conv=>lhs;unfold kB
 rw [hg,bok,h,bok]
 dsimp only
 rw [if_pos hs]
theorem yIP{gf:MV→Rho→Sto→R Rho}{b:Rho→Sto→R Fl}{gs:List (Nat×List MV)}{d:MV}{ds:List MV}{ρ ρ0:Rho}{S0 S':Sto}{r:Er}(hg:gf d ρ S=.ok ρ0 S0)(h:b ρ0 S0=.ok (.ret r) S'):kB gf b gs (d::ds) ρ S=.ok (.ret r) S':=by
 conv=>lhs;unfold kB
 rw [hg,bok,h,bok]
theorem cT{α:Type}{xs:List α}{i:Int}(h0:0≤i)(h1:i<xs.length): ∃c,atI xs i=some c:=by
 refine⟨xs[i.toNat]'(by omega),?_⟩
 unfold atI ixN
 rw [if_pos h0,if_pos h1]
 exact List.getElem?_eq_getElem _
theorem cU{α:Type}{P:α→Prop}{xs:List α}{i:Int}{e:α}(h: ∀e∈xs,P e)(z:atI xs i=some e):P e:=by
 unfold atI at z
 cases q:ixN xs.length i with
 | none=>rw [q]at z;cases z
 | some j=>rw [q]at z;exact h e (List.mem_of_getElem? (show xs[j]? =some e from z))
theorem ix_str{x:List Nat}{i:Int}{c:Nat}(h:x.length≤sizeLine)(hk:atI x i=some c):ixF (.val (.str x)) (.val (.int i)) S=.ok (.val (.str [c])) S:=by
 show(if x.length≤sizeLine then match atI x i with | some c=>R.ok (Er.val (.str [c])) S | none=>.no else .no)=_
 rw [if_pos h,hk]
theorem ix_tup{ds:List MV}{i:Int}{d:MV}(hk:atI ds i=some d):ixF (.val (.tup ds)) (.val (.int i)) S=.ok (.val d) S:=by
 show(match atI ds i with | some d=>R.ok (Er.val d) S | none=>.no)=_
 rw [hk]
theorem zSN{ds:List MV}{i:Int}{d:MV}(hk:atI ds i=some d):ixF (.new ds) (.val (.int i)) S=.ok (.val d) S:=by
 show(match atI ds i with | some d=>R.ok (Er.val d) S | none=>.no)=_
 rw [hk]
theorem bU{l:Nat}{ds:List MV}{i:Int}{d:MV}(hS:S[l]? =some (.lst ds))(hk:atI ds i=some d):ixF (.val (.loc l)) (.val (.int i)) S=.ok (.val d) S:=by
 have e:hX S (.val (.loc l))=some ds:=by unfold hX;dsimp only;rw [hS]
 show(match hX S (.val (.loc l))with | some ds=>getL ds (.val (.int i)) S | none=>.no)=_
 rw [e]
 show(match atI ds i with | some d=>R.ok (Er.val d) S | none=>.no)=_
 rw [hk]
theorem xC{l:Nat}{ds:List MV}(hS:S[l]? =some (.lst ds)):wN [.val (.loc l)] S=.ok (.val (.int ds.length)) S:=by
 have e:hX S (.val (.loc l))=some ds:=by unfold hX;dsimp only;rw [hS]
 have e2:itemsOf S (.val (.loc l))=some ds:=by unfold itemsOf;exact e
 show(match itemsOf S (.val (.loc l))with | some ds=>R.ok (Er.val (.int ds.length)) S | none=>.no)=_
 rw [e2]
theorem kU{l:Nat}{ds:List MV}(hS:S[l]? =some (.lst ds)):hX S (.val (.loc l))=some ds:=by unfold hX;dsimp only;rw [hS]
theorem cV{l:Nat}{ds:List MV}(hS:S[l]? =some (.lst ds)):lsW S (.val (.loc l))=some ds:=by unfold lsW;dsimp only;rw [hS]
theorem zZJ{l:Nat}{ds:List MV}(hS:S[l]? =some (.lst ds)):itL (.val (.loc l)) S=.ok ⟨ds,[(l,ds)]⟩ S:=by unfold itL;dsimp only;rw [hS]
theorem zJU{l:Nat}{ds:List MV}(hS:S[l]? =some (.lst ds)):stay [(l,ds)] S:=fun p hp=>by
 have:p=(l,ds):=by simpa using hp
 subst this;exact hS
theorem zAR{j:Int}(h: -(2 ^ 62)≤j∧j<2 ^ 62):nY [.val (.int j)] S=.ok ⟨(List.range j.toNat).map fun k=>.int (k:Nat),[]⟩ S:=if_pos h
theorem cut_str{x:List Nat}(h:x.length≤sizeLine)(lo hi:Option Int):zOO (.val (.str x)) lo hi S=.ok (.val (.str (kR x lo hi))) S:=if_pos h
theorem zOT{α:Type}(x:List α)(lo hi:Option Int):(kR x lo hi).length≤x.length:=by
 unfold kR
 rw [List.length_take,List.length_drop]
 omega
theorem zUT{α:Type}{x:List α}{lo hi:Option Int}{a:α}(h:a∈kR x lo hi):a∈x:=List.mem_of_mem_drop (List.mem_of_mem_take h)
theorem yIQ{α:Type}(x:List α)(k:Int)(h0:0≤k):kR x none (some k)=x.take k.toNat:=by
 unfold kR
 have h1:HT.sIx x.length 0 none=0:=rfl
 rw [h1]
 have h2:HT.sIx x.length x.length (some k)=min k.toNat x.length:=by
  unfold HT.sIx
  simp only
  split<;>omega
 rw [h2,List.drop_zero,Nat.sub_zero]
 by_cases hk:k.toNat≤x.length
 ·rw [Nat.min_eq_left hk]
 ·rw [Nat.min_eq_right (by omega),List.take_length,List.take_of_length_le (by omega)]
theorem fits{n:Nat}(h:n≤1000000):n≤sizeLine:=by rw [sizeLine_eq];exact Nat.le_trans h (by decide)
theorem zCJ{rs:List Er}(h:rs.length≤1000000):wA rs S=.ok (.new (zQ rs S).1) (zQ rs S).2:=if_pos (fits h)
theorem zSO{rs:List Er}(h:rs.length≤1000000):xV rs S=.ok (.val (.tup (zQ rs S).1)) (zQ rs S).2:=if_pos (fits h)
theorem lst0(S:Sto):wA [] S=.ok (.new []) S:=zCJ (by simp)
theorem lst1(a:MV)(S:Sto):wA [.val a] S=.ok (.new [a]) S:=zCJ (by simp)
theorem lst2(a b:MV)(S:Sto):wA [.val a,.val b] S=.ok (.new [a,b]) S:=zCJ (by simp)
theorem lst3(a b c:MV)(S:Sto):wA [.val a,.val b,.val c] S=.ok (.new [a,b,c]) S:=zCJ (by simp)
theorem lst6(a b c d e f:MV)(S:Sto):wA [.val a,.val b,.val c,.val d,.val e,.val f] S=.ok (.new [a,b,c,d,e,f]) S:=zCJ (by simp)
theorem tup2(a b:MV)(S:Sto):xV [.val a,.val b] S=.ok (.val (.tup [a,b])) S:=zSO (by simp)
theorem tup3(a b c:MV)(S:Sto):xV [.val a,.val b,.val c] S=.ok (.val (.tup [a,b,c])) S:=zSO (by simp)
theorem yMV(i:Int)(S:Sto):gG [.val (.int i),.val (.typ "str")] S=.ok (.val (.bl false)) S:=rfl
theorem yEY(i:List Nat)(S:Sto):gG [.val (.str i),.val (.typ "str")] S=.ok (.val (.bl true)) S:=rfl
theorem yMW(i:Int)(S:Sto):gG [.val (.int i),.val (.typ "tuple")] S=.ok (.val (.bl false)) S:=rfl
theorem yMX(i:List Nat)(S:Sto):gG [.val (.str i),.val (.typ "tuple")] S=.ok (.val (.bl false)) S:=rfl
theorem zXM(i:List MV)(S:Sto):gG [.val (.tup i),.val (.typ "tuple")] S=.ok (.val (.bl true)) S:=rfl
theorem yMY(i:Bool)(S:Sto):gG [.val (.bl i),.val (.typ "bool")] S=.ok (.val (.bl true)) S:=rfl
theorem zJV{gf:MV→Rho→Sto→R Rho}{cf:Rho→Sto→R Bool}{ef:Rho→Sto→R Er}{ρb:Rho}{gs:List (Nat×List MV)}{F:MV→MV}(hs:stay gs S):
  ∀{ds:List MV},(∀d∈ds, ∃ρ1,gf d ρb S=.ok ρ1 S∧cf ρ1 S=.ok true S∧ef ρ1 S=.ok (.val (F d)) S)→wB gf cf ef ρb gs ds S=.ok (ds.map F) S
 | [],_=>rfl
 | d::ds,st=>by
  obtain⟨ρ1,h1,h2,h3⟩:=st d List.mem_cons_self
  have e:=zJV hs (ds:=ds) fun d hd=>st d (List.mem_cons_of_mem _ hd)
  unfold wB
  rw [h1,bS,bok,h2,bS,bok,if_pos rfl,h3,bS,bok]
  unfold zEA
  rw [bok,if_pos hs,e]
  rfl
def Nm(x:List Nat):Prop:=1≤x.length∧x.length≤8∧ ∀c∈x,97≤c∧c≤122
def Vl:MV→Prop
 | .int i=> -(10 ^ 30)<i∧i<10 ^ 30
 | .str x=>Nm x
 | _=>False
theorem Vl.cases{d:MV}(h:Vl d):(∃i,d=.int i∧ -(10 ^ 30)<i∧i<10 ^ 30)∨ ∃x,d=.str x∧Nm x:=by
 cases d with
 | int i=>exact .inl ⟨i,rfl,h⟩
 | str x=>exact .inr ⟨x,rfl,h⟩
 | _=>exact h.elim
theorem Vl.lo{d:MV}(h:Vl d)(n:Nat):lo n d:=by
 rcases h.cases with⟨i,rfl,_⟩ | ⟨x,rfl,_⟩
 ·exact zED n i
 ·exact zFU n x
end
end M
end L2
namespace L2
namespace M
open PySem PySem.Spec PyProof.Rows
def Ite(K:PySem.W.Frag)(k:Bool)(l:Addr):It:=
 ⟨fun i H=> ∃xs x,SqK k K H l xs∧xs[i]? =some x,
   fun i H v H'=> ∃p x,H p=none∧v=.ref p∧H'=upd H p (.tup [.int (i:Nat),x])∧(∀xs,SqK k K H l xs→xs[i]? =some x),
   fun i H=> ∃xs,SqK k K H l xs∧xs.length≤i⟩
section
variable{prog:Program}{w:World}{A:Around}{E:Value→Shared→Prop}{s:Shared}{k:Bool}{e it l:Addr}{i:Nat}{its:Array Value}
theorem yBP(hl:zMA k s.heap l its){Q:Value→Shared→Prop}
  (h: ∀h',EnSt k (s.heap.objs.size+1) s.heap.objs.size l 0 h'→(∀c o,s.heap.get? c=some o→h'.get? c=some o)→Q (.ref (s.heap.objs.size+1)) {s with heap:=h'}):
  wpAny (model prog w) A (call (.type "enumerate") [.ref l]) Q E s:=by
 refine callType_new F.called_enumerate (by decide) (F.typeCall_enumerate_1 _) (F.newCall_enumerate_1 _) (fun obj=>F.args_object_init_2 obj _) F.entry_enumerate_new (zXJ k l its) ⟨hl,?_⟩
 have hz:(s.heap.push (zKY k l)).objs.size=s.heap.objs.size+1:=Heap.size_push ..
 show _∧_
 have he:IsEnum ((s.heap.push (zKY k l)).push {cls:=.type "enumerate",data:=.fields #[.none,.bool false,.ref s.heap.objs.size,rawInt 0,.none,.none]}) (s.heap.objs.size+1) s.heap.objs.size 0 .none:=by
  have:=Heap.get?_push_size (s.heap.push (zKY k l)) (o:={cls:=.type "enumerate",data:=.fields #[.none,.bool false,.ref s.heap.objs.size,rawInt 0,.none,.none]}) rfl
  rw [hz]at this;exact this
 refine⟨⟨_,he,rfl⟩,h _ ⟨⟨.none,he⟩,IsSub.mk' (Heap.get?_push_of_some _ (Heap.get?_push_size _ rfl))⟩ fun b o x=>Heap.get?_push_of_some _ (Heap.get?_push_of_some _ x)⟩
end
theorem yBQ{P:Program}{w:World}{K:PySem.W.Frag}{elts:List Expr}{kt:Nat}{pt:Pos}{k:Bool}{e it l:Addr}(hne:e≠it):
  Turn P w K (.Tuple elts kt pt) (Ite K k l) [e,it] e (fun i h=>EnSt k e it l i h) where
 mem:=by simp
 obj:=fun i h st b hb=>by
  obtain⟨⟨old,he⟩,hs⟩:=st
  have hb':b=e∨b=it:=by simpa using hb
  rcases hb' with rfl | rfl
  ·exact⟨_,he,fun v q=>by cases q⟩
  ·exact hs.there
 keep:=fun i h h' st kk=>by
  obtain⟨⟨old,he⟩,hs⟩:=st
  exact⟨⟨old,kk e (by simp) _ he⟩,hs.move fun o q=>kk it (by simp) o q⟩
 item:=by
  intro X hP hw hK hc i pins s σ H E I hf st hg
  subst hP hw hK
  obtain⟨xs,x,q1,hx⟩:=hg
  obtain⟨its,r1,p1,_⟩:=I.seqK q1
  obtain⟨u,hu,ru⟩:=r1.get hx
  obtain⟨⟨old,he⟩,hs⟩:=st
  have hT:s.TypeIs (.ref e) "enumerate":=⟨_,he,rfl⟩
  unfold pyNext
  refine wpAny_bind (wpAny_attempt (wpAny_callSpecial?_slot (name:=Str.ofString "__next__") hT F.slot_enumerate_next (wpAny_call_entry F.slot_enumerate_next hT F.entry_enumerate_next
   (yIF he hs p1 (x:=u) (by simpa using hu) hne fun h' a1 a2 a3 a4=>wpAny_pure ⟨_,rfl,?_⟩) (F.args_enumerate_next_1 _))))
  refine wpAny_letOwnedTupleGo_enum a1 fun h2 z2 sb2=>?_
  have hpn:H s.heap.objs.size=none:=I.hok.fresh (Nat.le_refl _)
  have I0:Inv X pins σ (upd H s.heap.objs.size (.tup [.int (i:Nat),x])) {s with heap:=s.heap.push {cls:=.type "tuple",data:=.seq #[.int i s.toks,u]},toks:=s.toks+1}:=
   I.laid (t':=s.toks+1) (o:=.tup [.int (i:Nat),x]) (fun b o e=>Heap.get?_push_of_some _ e) (Nat.le_refl _) ⟨by show 2≤sizeLine;decide,[.int i s.toks,u],.cons ⟨_,rfl⟩ (.cons ru .nil),⟨_,Heap.get?_push_size _ rfl,rfl,_,rfl⟩⟩
  have lt: ∀b∈[e,it],b<s.heap.objs.size:=fun b hb=>by
   have hb':b=e∨b=it:=by simpa using hb
   rcases hb' with rfl | rfl
   ·exact Heap.lt_size he
   ·obtain⟨o,eo,_⟩:=hs.there;exact Heap.lt_size eo
  have fr: ∀b∈[e,it],upd H s.heap.objs.size (.tup [.int (i:Nat),x]) b=none:=fun b hb=>by rw [zS (Nat.ne_of_lt (lt b hb))];exact(hf b hb).1
  have mv: ∀b o,b∉[e,it]→(s.heap.push {cls:=.type "tuple",data:=.seq #[.int i s.toks,u]}).get? b=some o→h2.get? b=some o:=fun b o hb eo=>by
   simp only [List.mem_cons,List.not_mem_nil,or_false,not_or]at hb
   refine sb2.extBut _ _ hb.1 ?_
   by_cases hbs:b=s.heap.objs.size
   ·subst hbs
    rw [Heap.get?_push_size _ rfl]at eo
    cases eo
    exact a3
   ·rw [Heap.get?_push_ne _ _ _ hbs]at eo
    exact a4 b o hb.1 hb.2 eo
  have I2:=I0.turnedL (h':=h2) (t':=s.toks+1) mv fun b hb=>let ⟨_,c2,c3,c4,c5,c6⟩:=hf b hb;⟨fr b hb,c2,c3,c4,c5,c6⟩
  refine⟨.ref s.heap.objs.size,_,I2,rfl,⟨s.heap.objs.size,x,hpn,rfl,rfl,fun zs hz=>?_⟩,⟨⟨u,?_⟩,?_⟩,fr⟩
  ·rw [I.seqK_inj hz q1];exact hx
  ·simpa using z2
  ·exact a2.move fun o eo=>sb2.extBut _ _ (Ne.symm hne) eo
 done:=by
  intro X hP hw hK hc i pins s σ H E I hf st hg
  subst hP hw hK
  obtain⟨xs,q1,hx⟩:=hg
  obtain⟨its,r1,p1,_⟩:=I.seqK q1
  obtain⟨⟨old,he⟩,hs⟩:=st
  have hT:s.TypeIs (.ref e) "enumerate":=⟨_,he,rfl⟩
  have e1:=r1.length
  unfold pyNext
  refine wpAny_bind (wpAny_attempt (wpAny_callSpecial?_slot (name:=Str.ofString "__next__") hT F.slot_enumerate_next (wpAny_call_entry F.slot_enumerate_next hT F.entry_enumerate_next ?_ (F.args_enumerate_next_1 _))))
  show wpAny _ _ (field (.ref e) 2 >>= _) _ _ _
  refine wpAny_bind (wpAny_field he rfl (x:=.ref it) rfl ?_)
  refine wpAny_bind (yID (I.ok.hd hc) hs p1 (by simp;omega) fun h' x hk hx'=>?_)
  obtain⟨o,ho,hcl⟩:=hx'
  refine wpAny_bind (wpAny_isInstance (T:="StopIteration") (b:=true) ⟨o,ho,hcl⟩ isSubtype_stop (wpAny_pure ⟨rfl,?_⟩))
  refine I.turnedL (h':=h') (t':=s.toks) (fun b o hb eo=>?_) hf
  simp only [List.mem_cons,List.not_mem_nil,or_false,not_or]at hb
  exact hk b o hb.2 eo
 self:=fun _ _ _ _ _ st h=>let ⟨⟨_,he⟩,_⟩:=st;wpAny_pyIter_enum he h
def iEnum(K:PySem.W.Frag)(ta:TA):TI:=fun σ H R=>ta σ H fun vs H1=> ∃k l,vs=[.ref l]∧(∃xs,SqK k K H1 l xs)∧R (Ite K k l) H1
section
variable{X:Cx}{W:XW}{a:Expr}{elts:List Expr}{kt:Nat}{pt p pos:Pos}{ta:TA}{af:Rho→Sto→R (List Er)}
theorem yIR(hg:Gl X "enumerate")(hm:X.mg "enumerate"=none)(ha:PA X [a] ta)(hs:starEach [a] X.env=[(false,eval a X.env)]:=by rfl):
  PI X (.Tuple elts kt pt) (.Call (.Name "enumerate" p) [a] [] pos) (iEnum X.K ta):=by
 intro pins s σ H R I h
 refine Call_ (zNK I hg hm yIE (PyProof.Rows.callWith_type1 (thn (ha pos pins s σ H _ I h) fun us s1 ⟨vs,H1,I1,r1,q1⟩=>?_) (by rw [hs];rfl) (by rfl)))
 obtain⟨k,l,rfl,⟨xs,c1⟩,q⟩:=q1
 cases r1 with
 | cons r rr=>
  cases rr
  cases r
  obtain⟨its,v1,p1,_⟩:=I1.seqK c1
  refine yBP p1 fun h' st hk=>let ⟨⟨_,he⟩,_⟩:=id st;wpAny_pyIter_enum he ?_
  have I2:Inv X pins σ H1 {s1 with heap:=h'}:=I1.kept (t':=s1.toks) hk
  refine⟨_,_,_,_,H1,rfl,I2,yBQ (Nat.ne_of_gt (Nat.lt_succ_self _)),st,fun b hb=>?_,q⟩
  have hle:s1.heap.objs.size≤b:=by
   have hb':b=s1.heap.objs.size+1∨b=s1.heap.objs.size:=by simpa using hb
   rcases hb' with h | h<;>rw [h]<;>(first | exact Nat.le_refl _ | exact Nat.le_add_right _ _)
  exact I1.fpOk hle (I1.hok.fresh hle)
def zXN(xs:List MV):List MV:=xs.zipIdx.map fun p=>.tup [.int (p.2:Nat),p.1]
def itE(rs:List Er)(S:Sto):R Wk:=match rs with
 | [p]=>match srcOf S p with
  | some a=>.ok ⟨zXN a.ds,a.gs⟩ S
  | none=>.no
 | _=>.no
theorem yIS(hg:Gl X "enumerate")(hm:X.mg "enumerate"=none)(ha:PAm X W [a] af)(hs:starEach [a] X.env=[(false,eval a X.env)]:=by rfl):
  PIm X W (.Tuple elts kt pt) (.Call (.Name "enumerate" p) [a] [] pos) (fun ρ S=>(af ρ S).bind itE):=by
 obtain⟨t,ha,k⟩:=ha
 refine⟨_,yIR hg hm ha hs,fun α ρ S σ H Rc wd sl q=>k α ρ S σ H _ wd sl (q.bind fun vs rs S1 α1 H1 e x1 w1 d1 q1=>?_)⟩
 replace q1:=q1.shift x1
 unfold itE at q1
 split at q1
 ·rename_i r1
  split at q1
  ·rename_i s1 e1
   obtain⟨u,rfl,du⟩:=zYZ d1
   obtain⟨l1,P1,rfl,p1,D1⟩:=zXI w1 e1 du
   have g1:=D1.get _ _ _ p1
   have hlen:(zXN s1.ds).length=s1.ds.length:=by unfold zXN;rw [List.length_map,List.length_zipIdx]
   refine⟨s1.k,l1,rfl,⟨_,g1.choose_spec.1⟩,q1.here (u:=Ite X.K s1.k l1) w1 ⟨fun α S H=>P1 α S H,?_,p1,?_,?_⟩⟩
   ·intro i α2 S2 H2 b1 w2
    obtain⟨us,c1,c2⟩:=D1.get _ _ _ b1
    have hl:=c2.length
    refine⟨fun hi=>?_,fun hi=>?_⟩
    ·have hi:i<(zXN s1.ds).length:=hi
     have h1:i<us.length:=by omega
     refine⟨⟨us,us[i],c1,List.getElem?_eq_getElem h1⟩,?_⟩
     rintro x H' ⟨pp,xx,hp,rfl,rfl,hx⟩
     obtain⟨d,hd,dd⟩:=c2.get (hx us c1)
     have xn:=w2.newx (o:=.tup [.int (i:Nat),xx]) hp
     have wn:=w2.new (o:=.tup [.int (i:Nat),xx]) hp
     refine⟨xn,wn,D1.stays _ _ _ _ _ _ b1 xn wn (D1.st _ _ _ b1),.tup [.int (i:Nat),d],?_,?_⟩
     ·unfold zXN;rw [List.getElem?_map,List.getElem?_zipIdx,hd];simp
     ·exact zDZ (.of zX) (xD (xA _) (xD (dd.ext xn) xP))
    ·have hi:(zXN s1.ds).length≤i:=hi
     exact⟨us,c1,by omega⟩
   ·intro α1 S1 H1 α2 S2 H2 b1 x w hs
    exact D1.stays _ _ _ _ _ _ b1 x w hs
   ·exact D1.st _ _ _ p1
  ·exact q1.elim
 ·exact q1.elim
end
end M
end L2
namespace L2
namespace M
open PySem PySem.Spec PyProof.Rows
noncomputable instance:DecidableEq MV:=fun _ _=>Classical.propDecidable _
noncomputable def look(kvs:List (MV×MV))(k:MV):Option MV:=(kvs.find? fun p=>decide (p.1=k)).map (·.2)
noncomputable def putK(kvs:List (MV×MV))(k d:MV):List (MV×MV):=if(look kvs k).isSome=true then kvs.map (fun p=>if p.1=k then(p.1,d)else p)else kvs++[(k,d)]
section
variable{X:Cx}{pins:List (Addr×Obj)}{σ:St}{H:Hp}{s:Shared}{α:List Addr}
theorem yBR(p:MV×MV)(kvs:List (MV×MV))(k:MV):look (p::kvs) k=if p.1=k then some p.2 else look kvs k:=by
 unfold look
 rw [List.find?_cons]
 by_cases h:p.1=k
 ·rw [decide_eq_true h,if_pos h];rfl
 ·rw [decide_eq_false h,if_neg h]
end
section
variable{X:Cx}{W:XW}{a b o i:Expr}{f g:Rho→Sto→R Er}{pos:Pos}
theorem yMZ{pins:List (Addr×Obj)}{σ:St}{H:Hp}{s:Shared}(I:Inv X pins σ H s):sysModules<s.heap.objs.size:=Nat.lt_trans (by decide) ((I.mod.glob.keeps I.bk).lt)
theorem Wd.put{gg:Gm}{α:List Addr}{S:Sto}{H:Hp}{p:Addr}{ho:HO}{m:MO}(w:Wd gg α S H)(hp:H p=none)(q:ObD gg (α++[p]) (upd H p ho) p m):Ext α H (α++[p]) (upd H p ho)∧Wd gg (α++[p]) (S++[m]) (upd H p ho):=by
 have x:=w.newx (o:=ho) hp
 have nw:=w.new (o:=ho) hp
 have np:=w.fresh hp
 refine⟨⟨⟨⟨[p],rfl⟩,x.tup,x.frz⟩,fun b hb=>?_,x.keep,x.has⟩,⟨?_,?_,fun l c ob h1 h2=>?_⟩⟩
 ·rcases List.mem_append.mp hb with h | h
  ·exact .inl h
  ·rw [List.mem_singleton.mp h];exact .inr hp
 ·rw [List.length_append,List.length_append,w.len];rfl
 ·exact List.nodup_append.mpr ⟨w.nd,by simp,fun a ha c hc=>by rw [List.mem_singleton.mp hc];rintro rfl;exact np ha⟩
 ·by_cases hl:l<α.length
  ·rw [List.getElem?_append_left hl]at h1
   rw [List.getElem?_append_left (by rw [←w.len];exact hl)]at h2
   exact(nw.obj l c ob h1 h2).move (Ex0.grow α [p] _) rfl
  ·have hl':l=α.length:=by
    have:=(List.getElem?_eq_some_iff.mp h1).1
    rw [List.length_append,List.length_singleton]at this
    omega
   subst hl'
   rw [List.getElem?_append_right (Nat.le_refl _),Nat.sub_self]at h1
   rw [List.getElem?_append_right (by rw [w.len];exact Nat.le_refl _),w.len,Nat.sub_self]at h2
   cases h1;cases h2
   exact q
def yEZ(S:Sto):R Er:=.ok (.val (.loc S.length)) (S++[.dic []])
theorem yFA:PEm X W (.Dict [] [] pos) (fun _ S=>yEZ S):=by
 refine⟨fun σ H Q=> ∀p,H p=none→Q (.ref p) (upd H p (.dK [])),fun pins s σ H Q I h=>?_,fun α ρ S σ H Q wd sl q p hp=>?_⟩
 ·exact wpAny_Dict_empty ⟨.ref s.heap.objs.size,_,I.laid (a:=s.heap.objs.size) (o:=.dK []) (t':=s.toks) (fun _ _ q=>Heap.get?_push_of_some _ q) (Nat.le_refl _)
   ⟨Nat.zero_le _,beq_eq_false_iff_ne.mpr (Ne.symm (Nat.ne_of_lt (yMZ I))),[],.nil,Heap.DictOf.new s.heap⟩,rfl,h _ (I.hok.fresh (Nat.le_refl _))⟩
 ·obtain⟨x,w'⟩:=wd.put (ho:=.dK []) (m:=.dic []) hp (.inl ⟨[],zX,.nil⟩)
  exact q (.ref p) (α++[p]) _ x w' (DenE.val (zJJ (by rw [←wd.len,List.getElem?_append_right (Nat.le_refl _),Nat.sub_self];rfl)))
theorem DenN.length{α:List Addr}{H:Hp}: ∀{kvs xs},DenN X.K α H kvs xs→xs.length=kvs.length
 | _,_,.nil=>rfl
 | _,_,.cons _ _ _ _ _ l=>by rw [List.length_cons,List.length_cons,DenN.length l]
end
end M
end L2
namespace L2
namespace M
open PySem PySem.Spec PyProof.Rows
def FsD(g:Gm)(α:List Addr)(H:Hp)(d:Option Addr)(fs:List (Str×MV)):Prop:=fs=[]∨ ∃dx gs od,d=some dx∧H dx=some (.frz od (.xd gs))∧DenF g.K α H fs gs
abbrev WE(g:Gm)(E:XK):XW:=fun c fs _ α H=> ∀C d,g.mg c=some (.ref C)→FsD g α H d fs→E (.ref C) d H
def zSP:MV→Bool
 | .non=>true
 | .bl _=>true
 | .int _=>true
 | .str _=>true
 | _=>false
theorem yBS{K:PySem.W.Frag}{α α':List Addr}{H:Hp}: ∀{d:MV}{v:V},zSP d=true→Den K α H d v→Den K α' H d v
 | .non,_,_,q=>by cases zAP q;exact zDY
 | .bl _,_,_,q=>by cases zDM q;exact wK _
 | .int _,_,_,q=>by cases hJ q;exact xA _
 | .str _,_,_,q=>by cases jH q;exact zAB _
theorem zOU{K:PySem.W.Frag}{α α':List Addr}{H:Hp}: ∀{fs gs},fs.all (fun p=>zSP p.2)=true→DenF K α H fs gs→DenF K α' H fs gs
 | _,_,_,.nil=>.nil
 | _,_,h,.cons a l=>by
  rw [List.all_cons,Bool.and_eq_true]at h
  exact .cons (yBS h.1 a) (zOU h.2 l)
def XCl(K:PySem.W.Frag)(C:Addr)(bm:List Value)(init:Option Value):Prop:=
 ∃nm q N bs hd sn sub ab col dd k0 k1 k2 k3 k5,K.lookup C=some (excClassObj nm q C N bs bm hd sn sub ab col dd k0 k1 k2 k3 k5 "ValueError.__new__")∧PySem.W.nsOkIn K N=true∧PySem.W.nsIn K N "__init__"=some init∧(∀n∈qn,PySem.W.nsIn K N n=some none)∧hd=true
def XEach(K:PySem.W.Frag)(mg:Str→Option Value)(M:Addr):List (Str×Addr)→Prop
 | []=>True
 | (c,C)::r=>(mg c=some (.ref C)∧ ∃i,XCl K C (.ref M::bmV) i)∧XEach K mg M r
structure XTab(K:PySem.W.Frag)(mg:Str→Option Value)(M:Addr)(cs:List (Str×Addr)):Prop where
 m:mg "MendError"=some (.ref M)
 mc:XCl K M bmV none
 each:XEach K mg M cs
 nd:(M::cs.map (·.2)).Nodup
theorem XEach.at{K:PySem.W.Frag}{mg:Str→Option Value}{M:Addr}: ∀{cs:List (Str×Addr)},XEach K mg M cs→ ∀{c C},(c,C)∈cs→mg c=some (.ref C)∧ ∃i,XCl K C (.ref M::bmV) i
 | (c,C)::r,h,c',C',z=>by
  rcases List.mem_cons.mp z with z | z
  ·cases z;exact h.1
  ·exact XEach.at h.2 z
theorem zJW{K:PySem.W.Frag}{h:Heap}{C M:Addr}{i:Option Value}(X:K.In h)(c:XCl K C (.ref M::bmV) i)(m:XCl K M bmV none):zDK h C M:=by
 obtain⟨_,_,N,_,_,_,_,_,_,_,_,_,_,_,_,l,o,_,q⟩:=c
 obtain⟨_,_,N',_,_,_,_,_,_,_,_,_,_,_,_,l',o',_,q'⟩:=m
 exact⟨_,_,_,_,_,_,_,_,_,_,_,_,_,_,_,_,_,X _ _ l,.of_isNs (PySem.W.isNs_of_in X o),fun n hn=>PySem.W.nsMap_none_of_in X o (q.1 n hn),
  _,_,_,_,_,_,_,_,_,_,_,_,_,_,_,_,_,X _ _ l',.of_isNs (PySem.W.isNs_of_in X o'),fun n hn=>PySem.W.nsMap_none_of_in X o' (q'.1 n hn)⟩
section
variable{X:Cx}{W:XW}{a:Expr}{f:Rho→Sto→R Er}{pos p p2:Pos}{M:Addr}{cs:List (Str×Addr)}{c2:Str}{D:Addr}
def zFK(ns:List Str)(c2:Str):Er→Sto→R Er
 | .val (.loc l),S=>match S[l]? with
  | some (.ins c _)=>if c∈ns then .ok (.val (.bl (decide (c=c2)))) S else .no
  | _=>.no
 | _,_=>.no
def yBT(ns:List Str):Er→Sto→R Er
 | .val (.loc l),S=>match S[l]? with
  | some (.ins c _)=>if c∈ns then .ok (.val (.bl true)) S else .no
  | _=>.no
 | _,_=>.no
def IsX(X:Cx)(M:Addr)(H:Hp)(x:V)(C:Addr):Prop:= ∃aa oe,x=.ref aa∧H aa=some (.ext fun h=>h.get? aa=some oe)∧oe.cls=.ref C∧(∃i,XCl X.K C (.ref M::bmV) i)∧XCl X.K M bmV none
theorem yFB:CallR X (.builtin "isinstance") (fun xs H Q=> ∃x C D,xs=[x,.ref D]∧IsX X M H x C∧(C=D∨(C≠D∧M≠D∧ ∃bm i,XCl X.K D bm i))∧Q (.bl (decide (C=D))) H):=by
 intro pins s σ H xs us Q I r h
 obtain⟨_,C,D,rfl,⟨aa,oe,rfl,hH,hc,⟨i,cC⟩,cM⟩,hD,q⟩:=h
 obtain⟨u1,us,r1,⟨u2,_,r2,r3,rfl⟩,rfl⟩: ∃u1 us',RelV (.ref aa) u1∧(∃u2 us'',RelV (.ref D) u2∧Vals [] us''∧us'=u2::us'')∧us=u1::us':=by
  cases r with
  | cons r1 r=>cases r with
   | cons r2 r=>exact⟨_,_,r1,⟨_,_,r2,r,rfl⟩,rfl⟩
 cases r1;cases r2;cases r3
 have ha:s.heap.get? aa=some oe:=(I.hok aa _ hH).1
 have O:=zJW I.kIn cC cM
 obtain⟨hp,g,d,tk,os⟩:=s
 rcases hD with rfl | ⟨n1,n2,bm,i2,cD⟩
 ·refine PyProof.Rows.call_isinstance_of (yBD ha hc ⟨.bl true,H,I,rfl,?_⟩)
  simpa using q
 ·obtain⟨_,_,_,_,_,_,_,_,_,_,_,_,_,_,_,lD,_⟩:=cD
  obtain⟨oC,hC,hCc,hCd⟩:=yDR O
  refine PyProof.Rows.call_isinstance_of (yHQ O ha hc (I.kIn _ _ lD) hC hCc hCd ?_ ⟨.bl false,H,I.tok _,rfl,?_⟩)
  ·simp only [List.contains_cons,List.contains_nil,Bool.or_eq_false_iff,beq_eq_false_iff_ne]
   exact⟨fun z=>n1 (by cases z;rfl),fun z=>n2 (by cases z;rfl),by simp,by simp,by simp,by simp,trivial⟩
  ·simpa [n1]using q
theorem yFC:CallR X (.builtin "isinstance") (fun xs H Q=> ∃x C,xs=[x,.ty "ValueError"]∧IsX X M H x C∧Q (.bl true) H):=by
 intro pins s σ H xs us Q I r h
 obtain⟨_,C,rfl,⟨aa,oe,rfl,hH,hc,⟨i,cC⟩,cM⟩,q⟩:=h
 obtain⟨u1,us,r1,⟨u2,_,r2,r3,rfl⟩,rfl⟩: ∃u1 us',RelV (.ref aa) u1∧(∃u2 us'',RelV (.ty "ValueError") u2∧Vals [] us''∧us'=u2::us'')∧us=u1::us':=by
  cases r with
  | cons r1 r=>cases r with
   | cons r2 r=>exact⟨_,_,r1,⟨_,_,r2,r,rfl⟩,rfl⟩
 cases r1;cases r2;cases r3
 have ha:s.heap.get? aa=some oe:=(I.hok aa _ hH).1
 have O:=zJW I.kIn cC cM
 obtain⟨hp,g,d,tk,os⟩:=s
 exact PyProof.Rows.call_isinstance_of (yHR O ha hc (by kernel_rfl) (by simp [List.contains_cons]) ⟨.bl true,H,I,rfl,q⟩)
theorem zZK{α:List Addr}{S:Sto}{H:Hp}{r:Er}{x:V}(T:XTab X.K X.mg M cs)(wd:Wd X.g α S H)(d:DenX X.K α H r x){l:Nat}{c:Str}{fs:List (Str×MV)}(e:r=.val (.loc l))(hl:S[l]? =some (.ins c fs))(hc:c∈cs.map (·.1)):
  ∃C,(c,C)∈cs∧IsX X M H x C:=by
 subst e
 obtain⟨aa,rfl,h⟩:=dQ d
 obtain⟨o,h1,C,gs,hm,hf,oe,hH,hcl,_⟩: ∃o,S[l]? =some o∧ObD X.g α H aa (.ins c fs):=⟨_,hl,wd.obj l aa _ h hl⟩
 obtain⟨⟨c',C'⟩,hm',rfl⟩:=List.mem_map.mp hc
 obtain⟨q1,q2⟩:=T.each.at hm'
 have:C=C':=by
  have z:X.mg c'=some (.ref C):=hm
  rw [q1]at z;cases z;rfl
 subst this
 exact⟨C,hm',aa,oe,rfl,hH,hcl,q2,T.mc⟩
theorem XTab.inj{K:PySem.W.Frag}{mg:Str→Option Value}(T:XTab K mg M cs){c c':Str}{C C':Addr}(h:(c,C)∈cs)(h':(c',C')∈cs)(hn:(cs.map (·.1)).Nodup):(C=C'↔c=c'):=by
 constructor
 ·rintro rfl
  have nd:=(List.nodup_cons.mp T.nd).2
  have: ∀(l:List (Str×Addr)),(l.map (·.2)).Nodup→(c,C)∈l→(c',C)∈l→c=c':=by
   intro l
   induction l with
   | nil=>intro _ z;simp at z
   | cons y r ih=>
    intro nd a b
    rw [List.map_cons,List.nodup_cons]at nd
    rcases List.mem_cons.mp a with a1 | a1<;>rcases List.mem_cons.mp b with b1 | b1
    ·rw [←b1]at a1;cases a1;rfl
    ·exact absurd (show y.2∈r.map (·.2)from by rw [←a1];exact List.mem_map.mpr ⟨(c',C),b1,rfl⟩) nd.1
    ·exact absurd (show y.2∈r.map (·.2)from by rw [←b1];exact List.mem_map.mpr ⟨(c,C),a1,rfl⟩) nd.1
    ·exact ih nd.2 a1 b1
  exact this cs nd h h'
 ·rintro rfl
  have a:=(T.each.at h).1
  rw [(T.each.at h').1]at a;cases a;rfl
theorem dR{ns:List Str}(T:XTab X.K X.mg M cs)(hn:(cs.map (·.1)).Nodup)(hD:(c2,D)∈cs)(hz:X.mg "isinstance"=none)(hg:Gl X "isinstance")(hg2:Gl X c2)(ha:PEm X W a f)(hns:cs.map (·.1)=ns:=by rfl)(hd:(c2==("__debug__":Str))=false:=by decide)
  (he:starEach [a,.Name c2 p2] X.env=(false,eval a X.env)::starEach [.Name c2 p2] X.env:=by rfl) (hp2:(backTo pos (starEach [.Name c2 p2] X.env)).any (·.1)=false:=by rfl):
  PEm X W (.Call (.Name "isinstance" p) [a,.Name c2 p2] [] pos) (fun ρ S=>(f ρ S).bind (zFK ns c2)):=by
 subst hns
 obtain⟨ta,ha,fa⟩:=ha
 have mD:=(T.each.at hD).1
 refine⟨_,zJF (yFB (M:=M)) hg hz PyProof.Rows.boot_isinstance (zAA ha (zAA (zYL (v:=.ref D) hg2 mD rfl hd) zKS) he) (by decide) (by decide) he hp2,fun α ρ S σ H Q wd sl q=>fa α ρ S σ H _ wd sl (q.bind fun u r S1 α1 H1 e1 x1 w1 d1 q1=>?_)⟩
 replace q1:=q1.shift x1
 unfold zFK at q1
 split at q1
 ·rename_i l
  split at q1
  ·rename_i c fs hl
   split at q1
   ·rename_i hc
    obtain⟨C,hC,ix⟩:=zZK T w1 d1.1 rfl hl hc
    refine⟨u,C,D,rfl,ix,?_,?_⟩
    ·by_cases z:C=D
     ·exact .inl z
     ·exact .inr ⟨z,fun y=>(List.nodup_cons.mp T.nd).1 (by rw [y];exact List.mem_map.mpr ⟨_,hD,rfl⟩),_,(T.each.at hD).2⟩
    ·have e2:decide (C=D)=decide (c=c2):=decide_eq_decide.mpr (T.inj hC hD hn)
     rw [e2]
     exact Post.val q1 w1 (wK _)
   ·exact q1.elim
  ·exact q1.elim
 ·exact q1.elim
theorem yNA{ns:List Str}(T:XTab X.K X.mg M cs)(hz:X.mg "isinstance"=none)(hz2:X.mg "ValueError"=none)(hg:Gl X "isinstance")(hg2:Gl X "ValueError")(ha:PEm X W a f)(hns:cs.map (·.1)=ns:=by rfl)
  (he:starEach [a,.Name "ValueError" p2] X.env=(false,eval a X.env)::starEach [.Name "ValueError" p2] X.env:=by rfl) (hp2:(backTo pos (starEach [.Name "ValueError" p2] X.env)).any (·.1)=false:=by rfl):
  PEm X W (.Call (.Name "isinstance" p) [a,.Name "ValueError" p2] [] pos) (fun ρ S=>(f ρ S).bind (yBT ns)):=by
 subst hns
 obtain⟨ta,ha,fa⟩:=ha
 refine⟨_,zJF (yFC (M:=M)) hg hz PyProof.Rows.boot_isinstance (zAA ha (zAA (zYM (v:=.ty "ValueError") hg2 hz2 (by decide+kernel) rfl (by decide) (by decide)) zKS) he) (by decide) (by decide) he hp2,fun α ρ S σ H Q wd sl q=>fa α ρ S σ H _ wd sl (q.bind fun u r S1 α1 H1 e1 x1 w1 d1 q1=>?_)⟩
 replace q1:=q1.shift x1
 unfold yBT at q1
 split at q1
 ·rename_i l
  split at q1
  ·rename_i c fs hl
   split at q1
   ·rename_i hc
    obtain⟨C,hC,ix⟩:=zZK T w1 d1.1 rfl hl hc
    exact⟨u,C,rfl,ix,Post.val q1 w1 (wK _)⟩
   ·exact q1.elim
  ·exact q1.elim
 ·exact q1.elim
end
def spX(g:Gm)(n:Nat)(F:List MV→Sto→R Er):Sp:=fun vs H Q E=> ∃α S ds,Wd g α S H∧DenL g.K α H ds vs∧ds.length=n∧Post g (WE g E) α H (F ds S) Q
noncomputable def zHX(n:Nat)(F:List MV→Sto→R Er)(rs:List Er)(S:Sto):R Er:=if rs.length=n then(match F (zQ rs S).1 (zQ rs S).2 with
 | .ok r S2=>dA S r S2
 | .exc c fs S2=>if fs.all (fun p=>zSP p.2)=true then(dA S (.val .non) S2).bind fun _ S3=>.exc c fs S3 else .no
 | .no=>.no)else .no
section
variable{X:Cx}{E:XK}{e:Expr}{es:List Expr}{af:Rho→Sto→R (List Er)}{pos:Pos}
theorem zXO{n:Nat}{F:List MV→Sto→R Er}{rs:List Er}{vs:List V}{α α1:List Addr}{H H1:Hp}{S1:Sto}{Q:VK}(x1:Ext α H α1 H1)(w1:Wd X.g α1 S1 H1)(d1:ArgsE X.K H α1 H1 rs vs)(q:Post X.g (WE X.g E) α H (zHX n F rs S1) Q):
  spX X.g n F vs H1 Q E:=by
 unfold zHX at q
 split at q
 ·rename_i hl
  obtain⟨α2,x2,y2,w2,l2⟩:=zDN w1 x1 d1
  refine⟨α2,_,_,w2,l2,by rw [zHA];exact hl,?_⟩
  cases z:F (zQ rs S1).1 (zQ rs S1).2 with
  | ok r S3=>
   rw [z]at q
   intro v α3 H3 x3 w3 d3
   obtain⟨r',S',α',e',x',w',d'⟩:=zSG x1 w1 y2.pre x2 x3 w3 d3
   have q:Post X.g (WE X.g E) α H (dA S1 r S3) Q:=q
   rw [e']at q
   exact q v α' H3 x' w' d'
  | exc c fs S3=>
   rw [z]at q
   dsimp only at q
   split at q
   ·rename_i hp
    intro α3 H3 x3 w3 C d hC hf
    obtain⟨r',S',α',e',x',w',d'⟩:=zSG (r:=.val .non) (v:=.non) x1 w1 y2.pre x2 x3 w3 (DenE.val zDY)
    rw [e']at q
    exact q α' H3 x' w' C d hC (hf.imp id fun⟨dx,gs,od,h1,h2,h3⟩=>⟨dx,gs,od,h1,h2,zOU hp h3⟩)
   ·exact q.elim
  | no=>rw [z]at q;exact q.elim
 ·exact q.elim
end
section
variable{P:Program}{w:World}{K:PySem.W.Frag}{mg:Str→Option Value}{base:Heap}
theorem okX{x qual:Str}{st:Stmt}{f:Addr}{fd:FuncData}{N ps:List Str}{k:Nat}(Fb:Rho→Sto→R Fl)(F:Fun K x qual st f fd)(Sc:FnScope N ps (zK st))
  (hbody: ∀(cdv:Value)(A:Around)(outer:List Env)(s:Shared)(H:Hp)(E:XK),Room k (A.deeper (envOfC qual (zK st) s.heap.objs.size f cdv))→
   zMJ (zRQ (CXe P w) P w K mg base N qual (zK st) f cdv A outer s H E) (WE ⟨K,mg,P,w⟩ E) (jR st) Fb):
  FnOk P w K mg base (CXe P w) (k+1) f fd ps (spX ⟨K,mg,P,w⟩ ps.length fun ds S=>xT (Fb (zT N ds) S)):=by
 obtain⟨oc,od,kV,doc,pm,an,cdv,ct,osl,rfl,lk,hcd⟩:=F.ex
 refine yKB lk hcd Sc (fun vs H Q E h=>?_) fun A outer s H vs Q E hr h=>?_
 ·obtain⟨α,S,ds,_,l,hl,_⟩:=h
  rw [l.length,hl]
 ·obtain⟨α,S,ds,wd,l,hl,q⟩:=h
  obtain⟨t,ht,kk⟩:=hbody cdv A outer s H E hr
  refine⟨t,ht,kk α (zT N ds) S (start N vs) H _ wd (zLY l) ?_⟩
  dsimp only at q
  cases z:Fb (zT N ds) S with
  | ok fl S'=>
   rw [z]at q
   cases fl with
   | next ρ=>exact fun σ α' H' x' w' s'=>q .non α' H' x' w' (DenE.val zDY)
   | ret r=>exact fun v α' H' x' w' d'=>q v α' H' x' w' d'
   | brk ρ=>exact q.elim
   | cont ρ=>exact q.elim
  | exc c fs S'=>rw [z]at q;exact fun α' H' x' w'=>q α' H' x' w'
  | no=>rw [z]at q;exact q
end
end M
end L2
namespace L2
open PySem PySem.Spec PyProof.Rows
structure Out(X:Cx)(pins:List (Addr×Obj))(H:Hp)(s:Shared)(b:Addr):Prop where
 s0:X.s₀.heap.get? b=none
 h:H b=none
 pin: ∀p∈X.pn++pins,p.1≠b
 fld: ∃o vs,s.heap.get? b=some o∧o.data=.fields vs
section
variable{X:Cx}{pins:List (Addr×Obj)}{σ:St}{H:Hp}{s:Shared}{e T b:Addr}{h':Heap}
theorem Out.ne(o:Out X pins H s b){c:Addr}{oc:Obj}(hc:s.heap.get? c=some oc)(nf: ∀vs,oc.data≠.fields vs):c≠b:=fun z=>by
 obtain⟨ob,vs,h1,h2⟩:=o.fld
 rw [z,h1]at hc;cases hc
 exact nf vs h2
theorem Out.loc(o:Out X pins H s b)(I:Inv X pins σ H s):X.env.locals≠b:=by
 obtain⟨m,⟨oL,es,ep,h1,h2,_⟩,_⟩:=I.loc
 exact o.ne h1 fun vs z=>by rw [h2]at z;cases z
theorem Out.cell(o:Out X pins H s b)(I:Inv X pins σ H s){x:Str}{c:Addr}(hc:X.env.cells.lookup x=some c):c≠b:=by
 obtain⟨v,oc,h1,h2⟩:=I.cell x c hc
 exact o.ne h1 fun vs z=>by rw [h2]at z;cases z
theorem Inv.mvd(J:Inv X pins σ H s)(hex:X.ex=[])(m:Mvd (frs X.stack) e T s.heap h')(oe:Out X pins H s e)(oT:Out X pins H s T):Inv X pins σ H {s with heap:=h'}:=by
 obtain⟨u,hok⟩:=J.moved hex m oe.s0 oT.s0 oe.h oT.h
 have ns: ∀mm,s.heap.Ns X.env.locals mm→h'.Ns X.env.locals mm:=fun mm hn=>by
  obtain⟨o,es,ep,ho,r⟩:=hn
  obtain⟨sl,e1⟩:=m.slot _ o (oe.loc J) (oT.loc J) ho
  exact⟨_,es,ep,e1,r⟩
 have cell: ∀x c,X.env.cells.lookup x=some c→ ∀v,s.heap.IsCell c v→h'.IsCell c v:=fun x c hc v hv=>by
  obtain⟨o,ho,hd⟩:=hv
  obtain⟨sl,e1⟩:=m.slot c o (oe.cell J hc) (oT.cell J hc) ho
  exact⟨_,e1,hd⟩
 refine⟨J.ok,J.os,J.bare,by rw [hex];exact u,?_,fun x c hc=>?_,J.free,J.freeC,fun p hp=>?_,hok,J.len⟩
 ·obtain⟨mm,hn,hl⟩:=J.loc
  refine⟨mm,ns mm hn,fun i x v e1 e2 e3=>?_⟩
  obtain⟨u,r,l⟩:=hl i x v e1 e2 e3
  exact⟨u,r,l.imp id fun⟨k,c,hc,z⟩=>⟨k,c,hc,cell x c hc _ z⟩⟩
 ·obtain⟨v,z⟩:=J.cell x c hc
  exact⟨v,cell x c hc v z⟩
 ·obtain⟨e1,n,ne,nf,dd⟩:=J.pin p hp
  refine⟨m.keep p.1 p.2 (oe.pin p hp) (oT.pin p hp) (fun z=>?_) e1,n,ne,nf,dd⟩
  rcases List.mem_cons.mp (J.stkSub _ z)with z | z
  ·exact ne z
  ·exact nf z
theorem Inv.track{ob:Obj}(J:Inv X pins σ H s)(o:Out X pins H s e)(he:s.heap.get? e=some ob):Inv X pins σ (upd H e (.ext fun h=>h.get? e=some ob)) s:=by
 refine⟨J.ok,J.os,J.bare,⟨J.base.keep,J.base.slot,fun b ob' q n hx=>?_,J.base.there,fun b xs q=>?_,fun b o' u q=>?_,fun b ps q=>?_⟩,J.loc,J.cell,?_,fun x c hc=>?_,fun p hp=>?_,fun b u q=>?_,J.len⟩
 ·rw [zS fun z=>by rw [z,o.s0]at q;cases q]
  exact J.base.free b ob' q n hx
 ·rw [zS (yH (J.base.tups b xs q) o.h)];exact J.base.tups b xs q
 ·rw [zS (yH (J.base.frzs b o' u q) o.h)];exact J.base.frzs b o' u q
 ·obtain⟨mo,z⟩:=J.base.tbls b ps q
  exact⟨mo,by rw [zS (yH z o.h)];exact z⟩
 ·rw [zS (o.loc J)];exact J.free
 ·rw [zS (o.cell J hc)];exact J.freeC x c hc
 ·obtain⟨e1,n,ne,nf,dd⟩:=J.pin p hp
  exact⟨e1,by rw [zS (o.pin p hp)];exact n,ne,nf,dd⟩
 ·by_cases z:b=e
  ·subst z
   rw [zX]at q
   cases q
   exact⟨he,⟨ob,he⟩,fun h1 h2 p k=>k _ p⟩
  ·rw [zS z]at q
   exact(J.hok b u q).stay (fun _ _ _ r=>r) (fun c r=>by rw [zS (yH r o.h)];exact r) fun c xs r=>by rw [zS (yH r o.h)];exact r
abbrev Cx.inH(X:Cx)(v:Value):Cx:={X with A:=X.A.mark (some v),calm:=false,xe:=fun _ _=>False}
theorem Cx.Ok.inH(ok:X.Ok)(v:Value):(X.inH v).Ok:=⟨ok.mod,ok.kind,ok.glob,ok.blt,ok.above,ok.inj,ok.has,ok.cab,fun z=>(by cases z),ok.frames,ok.stk,ok.exf,ok.bs,ok.bsz,ok.noex,ok.exfs,ok.funs,ok.frf⟩
theorem Inv.inH(I:Inv X pins σ H s)(v:Value):Inv (X.inH v) pins σ H s:=⟨I.ok.inH v,I.os,I.bare,I.base,I.loc,I.cell,I.free,I.freeC,I.pin,I.hok,I.len⟩
theorem Inv.outH{v:Value}(ok:X.Ok)(I:Inv (X.inH v) pins σ H s):Inv X pins σ H s:=⟨ok,I.os,I.bare,I.base,I.loc,I.cell,I.free,I.freeC,I.pin,I.hok,I.len⟩
theorem name_goes{M:Model}{A:Around}{E:Value→Shared→Prop}{i:Nat}{x:Str}{pos:Pos}{Q:Unit→Shared→Prop}(I:Inv X pins σ H s)(hN:X.N.Nodup)(hi:X.N[i]? =some x)(hk:X.env.kindOf x=some .local)
  (h: ∀s',Inv X pins (σ.set i none) H s'→Q () s'):wpAny M A (do bindName X.env x .none;unbindBehindTheSuite X.env x pos) Q E s:=by
 obtain⟨m,hn,hl⟩:=id I.loc
 have hcls:(X.env.scope.kind==.class || (X.env.scope.kind==.module&&X.env.locals !=X.env.globals))=false:=by rw [I.ok.kind];rfl
 refine wpAny_nameGoes_keeps hk hn hcls fun h' v hn' hs=>h _ ?_
 have keep: ∀b o,b≠X.env.locals→s.heap.get? b=some o→h'.get? b=some o:=fun b o z q=>(hs.2 b z).trans q
 have neL: ∀b o,X.s₀.heap.get? b=some o→b≠X.env.locals:=fun b o e=>Nat.ne_of_lt (Nat.lt_of_lt_of_le (Heap.lt_size e) I.ok.above)
 obtain⟨oL',_,_,hL',_⟩:=id hn'
 have there: ∀b o,s.heap.get? b=some o→ ∃o',h'.get? b=some o':=fun b o q=>by
  by_cases z:b=X.env.locals
  ·rw [z];exact⟨_,hL'⟩
  ·exact⟨o,keep b o z q⟩
 refine⟨I.ok,I.os,I.bare,⟨fun b o e n hb hx=>keep b o (neL b o e) (I.base.keep b o e n hb hx),fun b o e n hb hx=>?_,I.base.free,fun b o e hx=>?_,I.base.tups,I.base.frzs,I.base.tbls⟩,⟨_,hn',fun j y v' e1 e2 e3=>?_⟩,fun y c e=>?_,I.free,I.freeC,fun p hp=>?_,fun b u q=>?_,by rw [List.length_set];exact I.len⟩
 ·obtain⟨sl,e1⟩:=I.base.slot b o e n hb hx
  exact⟨sl,keep b _ (neL b o e) e1⟩
 ·obtain⟨o',e1⟩:=I.base.there b o e hx
  exact there b o' e1
 ·have hj:j≠i:=fun z=>by
   subst z
   by_cases hl:j<σ.length
   ·rw [List.getElem?_set_self hl]at e2;cases e2
   ·rw [List.getElem?_eq_none (by rw [List.length_set];omega)]at e2;cases e2
  rw [List.getElem?_set_ne (Ne.symm hj)]at e2
  obtain⟨u,r,q⟩:=hl j y v' e1 e2 e3
  refine⟨u,r,?_⟩
  have hy:y≠x:=fun z=>hj (zNI hN e1 (z▸hi))
  rcases q with⟨k,q⟩ | ⟨k,c,e,z⟩
  ·exact .inl ⟨k,by simp [hy,q]⟩
  ·exact .inr ⟨k,c,e,z.sameBut hs (I.cne y c e)⟩
 ·obtain⟨w',z⟩:=I.cell y c e
  exact⟨w',z.sameBut hs (I.cne y c e)⟩
 ·obtain⟨e,n,ne,nf,dd⟩:=I.pin p hp
  exact⟨keep p.1 p.2 ne e,n,ne,nf,dd⟩
 ·refine(I.hok b u q).stay (fun c w' hc r=>keep c w' (fun z=>?_) r) (fun _ q=>q) fun _ _ q=>q
  have: ∃y,H c=some y:=by
   rcases hc with rfl | hc
   ·exact⟨_,q⟩
   ·exact⟨_,hc⟩
  obtain⟨y,hy⟩:=this
  rw [z,I.free]at hy;cases hy
end
theorem tc_nt:isSubtype (.type "type") (.type "tuple")=pure false:=by rw [isSubtype_type];kernel_rfl
theorem zXP{Mo:Model}{A:Around}{E:Value→Shared→Prop}{h:Heap}{g:Array GenState}{d:Drawn}{t:Nat}{os:OsState}{C M e:Addr}{oe:Obj}{Q:Bool→Shared→Prop}(O:zDK h C M)(he:h.get? e=some oe)(hc:oe.cls=.ref C)
  (hq:Q true ⟨h,g,d,t,os⟩):wpAny Mo A (excMatches (.ref e) (.ref M)) Q E ⟨h,g,d,t,os⟩:=by
 have hb:(Value.ref C::.ref M::bmV).contains (.ref M)=true:=by simp [List.contains_cons]
 have f:=tc_nt
 have O':=O
 obtain⟨_,_,_,_,_,_,_,_,_,_,_,_,_,_,_,_,_,_,_,_,_,_,_,_,_,_,_,_,_,_,_,_,_,_,_,_,_,hM,_⟩:=O
 have hm:(Value.ref M::bmV).contains (.type "BaseException")=true:=by simp [List.contains_cons]
 unfold excMatches
 repeat (first | (with_reducible refine wpAny_loadPart_at he ?_;rw [hc]) | with_reducible refine wpAny_loadPart_at hM ?_ | (with_reducible refine zDL O' ?_;rw [hb]) | (with_reducible refine wpAny_isSubtype_exc hM ?_;rw [hm]) | wp_step)
 exact hq
end L2
namespace L2
namespace M
open PySem PySem.Spec PyProof.Rows
theorem Slots.unset{K:PySem.W.Frag}{α:List Addr}{H:Hp}{ρ:Rho}{σ:St}(q:Slots K α H ρ σ)(i:Nat):Slots K α H (ρ.set i none) (σ.set i none):=by
 refine⟨by rw [List.length_set,List.length_set];exact q.len,fun j d e=>?_⟩
 rcases zYV e with⟨_,z,_⟩ | ⟨hj,e'⟩
 ·cases z
 ·obtain⟨v,h1,h2⟩:=q.slot j d e'
  exact⟨v,by rw [List.getElem?_set_ne (Ne.symm hj)];exact h1,h2⟩
def endF(i:Nat):Fl→Sto→R Fl
 | .next ρ,S=>.ok (.next (ρ.set i none)) S
 | .ret r,S=>.ok (.ret r) S
 | .brk ρ,S=>.ok (.brk (ρ.set i none)) S
 | .cont ρ,S=>.ok (.cont (ρ.set i none)) S
def yBU(ns:List Str)(i:Nat)(kn:Er→Sto→R Fl)(Fh:Rho→Sto→R Fl)(ρ:Rho):R Er→R Fl
 | .ok r S=>kn r S
 | .exc c fs S=>if c∈ns then(noX (Fh (ρ.set i (some (.loc S.length))) (S++[.ins c fs]))).bind (endF i)else .no
 | .no=>.no
theorem PostS.exprX{β τ:Type}[Dn β τ]{g:Gm}{W:XW}{α:List Addr}{H:Hp}{D:Ends}{m:R β}{k:β→Sto→R Fl}{Q':τ→Hp→Prop}(q:PostS g W α H D ((noX m).bind k))
  (f: ∀u b S1 α1 H1,m=.ok b S1→Ext α H α1 H1→Wd g α1 S1 H1→Dn.d g H α1 S1 H1 b u→PostS g W α H D (k b S1)→Q' u H1):Post g W0 α H m Q':=by
 cases m with
 | ok b S=>exact fun u α1 H1 x w d=>f u b S α1 H1 rfl x w d q
 | exc c fs S=>exact q.elim
 | no=>exact q
def E2(X:Cx)(W:XW)(ns:List Str)(i:Nat)(Fh:Rho→Sto→R Fl)(ρ:Rho)(α:List Addr)(H:Hp)(D:Ends):XK:=fun cls d H'=> ∃c fs S2 α' C,cls=.ref C∧X.mg c=some (.ref C)∧Ext α H α' H'∧Wd X.g α' S2 H'∧FsD X.g α' H' d fs∧
 PostS X.g W α H D (if c∈ns then(noX (Fh (ρ.set i (some (.loc S2.length))) (S2++[.ins c fs]))).bind (endF i)else .no)
section
variable{X:Cx}{W:XW}{M:Addr}{cs:List (Str×Addr)}{pins:List (Addr×Obj)}{σ:St}{H H1:Hp}{s s1 s':Shared}{i:Nat}{nm:Str}{Fh:Rho→Sto→R Fl}{ρ:Rho}{α:List Addr}{D:Ends}{b0:Stmt}{suite:List Stmt}{mp hpos:Pos}
theorem caught(T:XTab X.K X.mg M cs)(hgm:Gl X "MendError")(hN:X.N.Nodup)(hi:X.N[i]? =some nm)(hk:X.env.kindOf nm=some .local)(hsuite: ∀v,zMJ (X.inH v) W0 (b0::suite) Fh)(hex:X.ex=[])(hstk:X.stack=X.env::X.outer)(hfm:X.env.frame=some X.env.locals)
  (sl:Slots X.K α H ρ σ) (I1:Inv X pins σ H1 s1) {x:Value} (hq:CXe X.prog X.w X.stack H1 s1 (E2 X W (cs.map (·.1)) i Fh ρ α H D) x s'):
  wpAny (model X.prog X.w) X.A (noteFrame x X.env) (fun _ s₂=>wpAny (model X.prog X.w) X.A (setFlight x none) (fun _ s₃=>wpAny (model X.prog X.w) X.A (handleBy x X.env [.ExceptHandler (some (.Name "MendError" mp)) (some nm) (b0::suite) hpos]) (SP X pins D) X.xe s₃) X.xe s₂) X.xe s':=by
 obtain⟨e,Tb,C,d,H',rfl,os,bare,un,hok,fl,ne,nT,he,hT,c,fs,S2,α',C',eC,hmc,xx,w2,hf,q⟩:=hq
 cases eC
 split at q
 ·rename_i hcn
  have J:Inv X pins σ H' s':=I1.call' (ch:=[]) os un hok bare (fun _ z=>nomatch z)
  have hfr:X.A.frames=some (X.env::X.outer):=by rw [←hstk];exact J.ok.frames
  have hl:s'.heap.FunFrames X.base (X.env::X.outer):=by rw [←hstk];exact J.stack
  have oe:Out X pins H' s' e:=by
   obtain⟨ob,vs,_,_,h1,_,_,h2,_⟩:=id fl
   exact⟨I1.older hex ne,he,fun p hp z=>(by have:=(I1.pin p hp).1;rw [z,ne]at this;cases this),ob,vs,h1,h2⟩
  have oT:Out X pins H' s' Tb:=by
   obtain⟨_,_,ob,ts,_,_,_,_,_,_,h1,h2,_⟩:=id fl
   exact⟨I1.older hex nT,hT,fun p hp z=>(by have:=(I1.pin p hp).1;rw [z,nT]at this;cases this),ob,ts,h1,h2⟩
  refine zQV hfr hl hfm fl fun h3 T3 n3 m3 f3=>?_
  rw [←hstk]at m3
  have J3:=J.mvd hex m3 oe oT
  have oe3:Out X pins H' {s' with heap:=h3} e:=by
   obtain⟨ob,vs,_,_,h1,_,_,h2,_⟩:=id f3
   exact⟨oe.s0,oe.h,oe.pin,ob,vs,h1,h2⟩
  have oT3:Out X pins H' {s' with heap:=h3} T3:=by
   obtain⟨_,_,ob,ts,_,_,_,_,_,_,h1,h2,_⟩:=id f3
   exact⟨J.older hex n3,J.hok.none_of n3,fun p hp z=>(by have:=(J.pin p hp).1;rw [z,n3]at this;cases this),ob,ts,h1,h2⟩
  refine zBY (env:=X.env) (outer:=X.outer) f3 fun h4 m4 f4=>?_
  rw [←hstk]at m4
  have J4:=J3.mvd hex m4 oe3 oT3
  have oe4:Out X pins H' {s' with heap:=h4} e:=by
   obtain⟨ob,vs,_,_,h1,_,_,h2,_⟩:=id f4
   exact⟨oe.s0,oe.h,oe.pin,ob,vs,h1,h2⟩
  have oT4:Out X pins H' {s' with heap:=h4} T3:=by
   obtain⟨_,_,ob,ts,_,_,_,_,_,_,h1,h2,_⟩:=id f4
   exact⟨oT3.s0,oT3.h,oT3.pin,ob,ts,h1,h2⟩
  have cls: ∃i,XCl X.K C (.ref M::bmV) i:=by
   obtain⟨⟨c',C'⟩,hm',rfl⟩:=List.mem_map.mp hcn
   obtain⟨q1,q2⟩:=T.each.at hm'
   have:C=C':=by rw [hmc]at q1;cases q1;rfl
   rw [this];exact q2
  obtain⟨ini,cC⟩:=cls
  refine wpAny_handleBy_cons (codeAny_handlers_test (zGY (X:=X.inH (.ref e)) (J4.inH (.ref e)) hgm T.m ?_)) (by intro z;cases z)
  obtain⟨ob4,_,_,_,he4,hc4,_⟩:=id f4
  refine zXP (zJW J4.kIn cC T.mc) he4 hc4 ?_
  refine codeAny_handlers_suite_as ?_
  refine zBY (env:=X.env) (outer:=X.outer) (s:={s' with heap:=h4}) f4 fun h5 m5 f5=>?_
  rw [←hstk]at m5
  have J5:=J4.mvd hex m5 oe4 oT4
  obtain⟨ob,vs,_,_,h1,hcl,hdx,h2,_⟩:=id f5
  have oe5:Out X pins H' {s' with heap:=h5} e:=⟨oe.s0,oe.h,oe.pin,ob,vs,h1,h2⟩
  have J6:=J5.track oe5 h1
  have xw:=w2.put (ho:=.ext fun h=>h.get? e=some ob) (m:=.ins c fs) oe.h (by
   rcases hf with rfl | ⟨dx,gs,od,hd1,hd2,hd3⟩
   ·exact⟨C,[],hmc,.nil,ob,zX,hcl,.inl rfl⟩
   ·have xx0:Ext α' H' α' (upd H' e (.ext fun h=>h.get? e=some ob)):=w2.newx oe.h
    exact⟨C,gs,hmc,(hd3.ex0 xx0.toEx0).ex0 (Ex0.grow _ _ _),ob,zX,hcl,.inr ⟨dx,od,hdx.trans hd1,(by rw [zS (yH hd2 oe.h)];exact hd2),vs,h2⟩⟩)
  refine zJD (X:=X.inH (.ref e)) (J6.inH (.ref e)) hN hi (.inl hk) (v:=.ref e) rfl (fun s7 J7=>?_) (.inr hk)
  obtain⟨th,hth,kh⟩:=hsuite (.ref e)
  let D':Ends:={nx:=fun σ H=>D.nx (σ.set i none) H,rt:=D.rt,bk:=fun σ H=>D.bk (σ.set i none) H,ct:=fun σ H=>D.ct (σ.set i none) H}
  have q':PostS X.g W (α'++[e]) (upd H' e (.ext fun h=>h.get? e=some ob)) D _:=PostS.shift (xx.trans xw.1) q
  have ht:th D' (σ.set i (some (.ref e))) (upd H' e (.ext fun h=>h.get? e=some ob)):=by
   refine kh (α'++[e]) (ρ.set i (some (.loc S2.length))) (S2++[.ins c fs]) _ _ D' xw.2 (((sl.ext xx).ext xw.1).set (zJJ (by rw [←w2.len,List.getElem?_append_right (Nat.le_refl _),Nat.sub_self];rfl))) ?_
   cases z:Fh (ρ.set i (some (.loc S2.length))) (S2++[.ins c fs])with
   | ok fl S8=>
    rw [z]at q'
    cases fl with
    | next ρ8=>exact fun σ8 α8 H8 x8 w8 s8=>q' (σ8.set i none) α8 H8 x8 w8 (s8.unset i)
    | ret r8=>exact fun v8 α8 H8 x8 w8 d8=>q' v8 α8 H8 x8 w8 d8
    | brk ρ8=>exact fun σ8 α8 H8 x8 w8 s8=>q' (σ8.set i none) α8 H8 x8 w8 (s8.unset i)
    | cont ρ8=>exact fun σ8 α8 H8 x8 w8 s8=>q' (σ8.set i none) α8 H8 x8 w8 (s8.unset i)
   | exc c8 fs8 S8=>rw [z]at q';exact q'.elim
   | no=>rw [z]at q';exact q'.elim
  refine wpAny_mono (hth pins s7 _ _ D' J7 ht) (fun f s8 hs=>?_) fun _ _ z=>z.elim
  show wpAny _ _ _ _ _ _
  cases f with
  | next=>
   obtain⟨σ8,H8,I8,q8⟩:=hs
   exact name_goes (I8.outH J.ok) hN hi hk fun s9 I9=>⟨_,H8,I9,q8⟩
  | brk=>
   obtain⟨σ8,H8,I8,q8⟩:=hs
   exact name_goes (I8.outH J.ok) hN hi hk fun s9 I9=>⟨_,H8,I9,q8⟩
  | cont=>
   obtain⟨σ8,H8,I8,q8⟩:=hs
   exact name_goes (I8.outH J.ok) hN hi hk fun s9 I9=>⟨_,H8,I9,q8⟩
  | ret u=>
   obtain⟨v8,σ8,H8,I8,r8,q8⟩:=hs
   exact name_goes (I8.outH J.ok) hN hi hk fun s9 I9=>⟨v8,_,H8,I9,r8,q8⟩
 ·exact q.elim
end
section
variable{X:Cx}{W:XW}{M:Addr}{cs:List (Str×Addr)}{i:Nat}{nm:Str}{Fh:Rho→Sto→R Fl}{b0:Stmt}{suite:List Stmt}{mp hpos cpos epos pos p:Pos}{e:Expr}{es:List Expr}{af:Rho→Sto→R (List Er)}{k n:Nat}{fa:Addr}{fd:FuncData}{ps:List Str}{F:List MV→Sto→R Er}{x:Str}
theorem yFD{pins:List (Addr×Obj)}{σ:St}{H:Hp}{s:Shared}{Q:VK}{E:XK}{Ex:Value→Shared→Prop}{ta:TA}(G:FnOk X.prog X.w X.K X.mg X.base (CXe X.prog X.w) k fa fd ps (spX X.g n F))(hr:Room k X.A)(hg:Gl X x)(hm:X.mg x=some (.ref fa))(hk:PySem.W.keepIn X.K (.ref fa)=true)(hb:Binds X.K fd ps [])
  (ha:PA X.nox (e::es) ta) (I:Inv X pins σ H s) (ht:ta σ H fun vs H1=>spX X.g n F vs H1 Q E) (hx: ∀H1 s1 x s',Inv X pins σ H1 s1→CXe X.prog X.w X.stack H1 s1 E x s'→Ex x s') (hdb:(x==("__debug__":Str))=false)
  (he:starEach (e::es) X.env=(false,eval e X.env)::starEach es X.env) (hpl:(backTo cpos (starEach es X.env)).any (·.1)=false):
  wpAny (model X.prog X.w) X.A (eval (.Call (.Name x p) (e::es) [] cpos) X.env) (EP X pins σ Q) Ex s:=by
 refine wpAny_Call_Name_kw (zGY I hg hm ?_ hdb)
 refine PySem.W.callWith_K (h₀:=X.base) I.ok.mod.kin hk (wpAny_mono (ha cpos pins s σ H _ (I.wish _) ht) (fun us s1 ⟨vs,H1,I1,r,q⟩=>⟨I1.unwish.kIn,?_⟩) fun _ _ z=>z.elim) he hpl
 have I2:=I1.unwish
 have hl:us.length=ps.length:=by rw [←r.length];exact G.len _ _ _ _ q
 refine wpAny_call (codeAny_mono (G.run X.A X.stack s1 H1 ⟨us,[]⟩ us vs Q E hr I2.env0 ?_ r q) fun r s' hq=>?_)
 ·have:=hb s1 us I2.kIn (by rw [List.append_nil];exact hl)
  rw [List.append_nil]at this
  exact this
 ·cases r with
  | error y=>exact hx H1 s1 y s' I2 hq
  | ok fl=>
   cases fl with
   | ret u=>exact I2.after hq
   | next=>exact False.elim hq
   | brk=>exact False.elim hq
   | cont=>exact False.elim hq
theorem yFE{α:List Addr}{H:Hp}{ρ:Rho}{S:Sto}{σ:St}{D:Ends}{Q:VK}{ta:TA}{kn:Er→Sto→R Fl}{ns:List Str}(kk: ∀α ρ S σ H Q,Wd X.g α S H→Slots X.K α H ρ σ→Post X.g W0 α H (af ρ S) Q→ta σ H Q)(wd:Wd X.g α S H)(sl:Slots X.K α H ρ σ)
  (q:PostS X.g W α H D ((noX (af ρ S)).bind fun rs S1=>yBU ns i kn Fh ρ (zHX n F rs S1))) (hkn: ∀r S1 u α1 H1,PostS X.g W α H D (kn r S1)→Ext α H α1 H1→Wd X.g α1 S1 H1→DenE X.K H α1 H1 r u→Q u H1):
  ta σ H fun vs H1=>spX X.g n F vs H1 Q (E2 X W ns i Fh ρ α H D):=by
 refine kk α ρ S σ H _ wd sl (q.exprX fun vs rs S1 α1 H1 e1 x1 w1 d1 q1=>zXO x1 w1 d1 ?_)
 cases z:zHX n F rs S1 with
 | ok r S2=>rw [z]at q1;exact fun u α2 H2 x2 w2 d2=>hkn r S2 u α2 H2 q1 x2 w2 d2
 | exc c fs S2=>rw [z]at q1;exact fun α2 H2 x2 w2 C d hC hf=>⟨c,fs,S2,α2,C,rfl,hC,x2,w2,hf,q1⟩
 | no=>rw [z]at q1;exact q1.elim
end
end M
end L2
namespace L2
namespace M
open PySem PySem.Spec PyProof.Rows
theorem xcl_mk{K:PySem.W.Frag}{C N:Addr}{bm bs sub:List Value}{init:Option Value}{nm q:Str}{hd ab:Bool}{sn:List Str}{col:Option Bool}{dd od:Option Addr}{k0 k1 k2 k3 k5:Option Value}{oc:Value}{es:Array DictEntry}{ep:Nat}{sl:Array (Option Value)}
  (l:K.lookup C=some (excClassObj nm q C N bs bm hd sn sub ab col dd k0 k1 k2 k3 k5 "ValueError.__new__")) (n:K.lookup N=some ⟨oc,od,.dict es ep,sl⟩) (o:(es.toList.all fun e=>match e.key with | .str _ _=>true | _=>false)=true)
  (i:PySem.W.nsIn K N "__init__"=some init) (q1:PySem.W.nsIn K N "__class__"=some none) (q2:PySem.W.nsIn K N "__getattribute__"=some none) (q3:PySem.W.nsIn K N "__getattr__"=some none)
  (q4:PySem.W.nsIn K N "__setattr__"=some none) (q5:PySem.W.nsIn K N "place"=some none) (q6:PySem.W.nsIn K N "number"=some none) (hh:hd=true):XCl K C bm init:=by
 refine⟨nm,q,N,bs,hd,sn,sub,ab,col,dd,k0,k1,k2,k3,k5,l,?_,i,fun y hy=>?_,hh⟩
 ·unfold PySem.W.nsOkIn
  rw [n]
  rw [Array.all_toList]at o
  exact o
 ·simp only [qn,List.mem_cons,List.not_mem_nil,or_false]at hy
  rcases hy with rfl | rfl | rfl | rfl | rfl | rfl<;>assumption
end M
end L2
namespace L2
namespace M
open PySem PySem.Spec PyProof.Rows
section
variable{X:Cx}{W:XW}{tg iter a:Expr}{f:Rho→Sto→R Er}{af:Rho→Sto→R (List Er)}{e:Expr}{es:List Expr}{pos apos:Pos}
def Itq(K:PySem.W.Frag)(k:Bool)(a:Addr):It:=if k=true then Itl K a else Itt K a
def iSeq(K:PySem.W.Frag)(tl:TE):TI:=fun σ H R=>tl σ H fun x H1=> ∃k a,x=.ref a∧(∃xs,SqK k K H1 a xs)∧R (Itq K k a) H1
theorem yNB{l:Expr}{tl:TE}(hl:PE X l tl):PI X tg l (iSeq X.K tl):=by
 intro pins s σ H R I h
 refine thn (hl pins s σ H _ I h) fun v s1 ⟨x,H1,I1,r1,q1⟩=>?_
 obtain⟨k,a,e,⟨xs,hq⟩,q⟩:=q1
 subst e
 cases r1
 cases k with
 | true=>
  obtain⟨its,rv,p,hz⟩:=I1.list (show SqL X.K H1 a xs from hq)
  refine wpAny_pyIter_list p.isList ?_
  refine⟨s1.heap.objs.size,[s1.heap.objs.size],_,_,H1,rfl,I1.kept (t':=s1.toks) fun b o e=>Heap.get?_push_of_some _ e,zQL a _,⟨_,Heap.get?_push_size _ rfl,rfl,rfl⟩,fun b hb=>?_,q⟩
  have e:b=s1.heap.objs.size:=by simpa using hb
  subst e
  exact I1.fpOk (Nat.le_refl _) (I1.hok.fresh (Nat.le_refl _))
 | false=>
  obtain⟨its,rv,p,hz⟩:=I1.tuple (show SqT X.K H1 a xs from hq)
  refine wpAny_pyIter_tuple (show s1.heap.IsTuple a its.toArray from p) ?_
  refine⟨s1.heap.objs.size,[s1.heap.objs.size],_,_,H1,rfl,I1.kept (t':=s1.toks) fun b o e=>Heap.get?_push_of_some _ e,zNL a _,⟨_,Heap.get?_push_size _ rfl,rfl,rfl⟩,fun b hb=>?_,q⟩
  have e:b=s1.heap.objs.size:=by simpa using hb
  subst e
  exact I1.fpOk (Nat.le_refl _) (I1.hok.fresh (Nat.le_refl _))
def itQ(r:Er)(S:Sto):R Wk:=match srcOf S r with
 | some q=>.ok ⟨q.ds,q.gs⟩ S
 | none=>.no
theorem yFF(he:PEm X W iter f):PIm X W tg iter (fun ρ S=>(f ρ S).bind itQ):=by
 obtain⟨t,he,k⟩:=he
 refine⟨_,yNB he,fun α ρ S σ H Rc wd sl q=>k α ρ S σ H _ wd sl (q.bind fun u p S1 α1 H1 e x1 w1 d1 q1=>?_)⟩
 replace q1:=q1.shift x1
 unfold itQ at q1
 split at q1
 ·rename_i q e1
  obtain⟨l1,P1,rfl,p1,D1⟩:=zXI w1 e1 d1.1
  have g1:=D1.get _ _ _ p1
  refine⟨q.k,l1,rfl,⟨_,g1.choose_spec.1⟩,q1.here (u:=Itq X.K q.k l1) w1 ⟨fun α S H=>P1 α S H,?_,p1,fun α1 S1 H1 α2 S2 H2 b1 x w hs=>D1.stays _ _ _ _ _ _ b1 x w hs,D1.st _ _ _ p1⟩⟩
  intro i α2 S2 H2 b1 w2
  obtain⟨us,c1,c2⟩:=D1.get _ _ _ b1
  obtain⟨qk,qd,qg⟩:=q
  cases qk with
  | true=>
   obtain⟨i1,i2⟩:=zJK (X:=X) (a:=l1) (ds:=qd) i α2 S2 H2 ⟨us,c1,c2⟩ w2
   refine⟨fun hi=>⟨(i1 hi).1,fun x H' y=>?_⟩,i2⟩
   obtain⟨j1,j2,j3,j4⟩:=(i1 hi).2 x H' y
   obtain⟨rfl,_⟩:=y
   exact⟨j1,j2,b1,j4⟩
  | false=>
   obtain⟨i1,i2⟩:=zYX (X:=X) (a:=l1) (ds:=qd) i α2 S2 H2 ⟨us,c1,c2⟩ w2
   refine⟨fun hi=>⟨(i1 hi).1,fun x H' y=>?_⟩,i2⟩
   obtain⟨j1,j2,j3,j4⟩:=(i1 hi).2 x H' y
   obtain⟨rfl,_⟩:=y
   exact⟨j1,j2,b1,j4⟩
 ·exact q1.elim
theorem DenL.eraseIdx{K:PySem.W.Frag}{α:List Addr}{H:Hp}: ∀{ds:List MV}{vs:List V}(n:Nat),DenL K α H ds vs→DenL K α H (ds.eraseIdx n) (vs.eraseIdx n)
 | [],_,_,q=>by rw [q.isnil];exact xP
 | d::ds,_,0,q=>by
  obtain⟨v,r,rfl,_,l⟩:=q.uncons
  exact l
 | d::ds,_,n+1,q=>by
  obtain⟨v,r,rfl,a,l⟩:=q.uncons
  exact xD a (DenL.eraseIdx n l)
def yBV(p:Er)(rs:List Er)(S:Sto):R Er:=match p,rs with
 | .val (.loc l),[.val (.int i)]=>match S[l]? with
  | some (.lst ds)=>if -(2 ^ 63)≤i∧i<2 ^ 63 then match ixN ds.length i with
   | some j=>match ds[j]? with
    | some d=>.ok (.val d) (S.set l (.lst (ds.eraseIdx j)))
    | none=>.no
   | none=>.no
   else .no
  | _=>.no
 | _,_=>.no
theorem yNC:MtdM X W yDG yBV:=by
 intro p rs x vs α S H0 H Q α0 wd x0 dp da post
 unfold yBV at post
 split at post
 ·rename_i l i
  obtain⟨a,rfl,h⟩:=dQ dp
  obtain⟨v,rfl,dv⟩:=zYZ da
  cases yV dv
  obtain⟨ob,h1,h2⟩:=wd.of h
  rw [h1]at post
  cases ob with
  | lst ds=>
   obtain⟨us,h3,l1⟩:=h2
   dsimp only at post
   split at post
   ·rename_i hb
    split at post
    ·rename_i j ej
     split at post
     ·rename_i d ed
      obtain⟨y,ey,dy⟩:=l1.at ed
      have xw:=wd.writex h (o:=.lst (us.eraseIdx j))
      refine⟨a,us,i,j,y,rfl,rfl,h3,hb.1,hb.2,by rw [l1.length];exact(zRR ej).1,ey,?_⟩
      exact(post.shift (x0.trans xw)).val (wd.write h ⟨_,zX,(l1.eraseIdx j).ext xw⟩) (dy.ext xw)
     ·exact post.elim
    ·exact post.elim
   ·exact post.elim
  | dic _=>exact post.elim
  | ins _ _=>exact post.elim
 ·exact post.elim
theorem yND(ho:PEm X W a f)(ha:PAm X W (e::es) af)
  (hbase:attributeBase a "pop" X.env (eval a X.env)=eval a X.env:=by rfl)
  (hfew:((backTo pos (starEach (e::es) X.env)).all (fun x=>!x.1)&&(backToKw pos (keywordEach [] X.env)).all (fun x=>x.1.isSome)
   &&decide ((e::es).length+([]:List Keyword).length+(if([]:List Keyword).isEmpty then 0 else 1)<30))=true:=by rfl)
  (hline:(apos.endLine==pos.line)=true:=by rfl) (hs:starEach (e::es) X.env=(false,eval e X.env)::starEach es X.env:=by rfl) (hplain:(backTo pos (starEach es X.env)).any (·.1)=false:=by rfl):
  PEm X W (.Call (.Attribute a "pop" apos) (e::es) [] pos) (fun ρ S=>(f ρ S).bind fun p S1=>if zDO p S1=true then(af ρ S1).bind fun rs S2=>yBV p rs S2 else .no):=
 zYW PySem.F.plainAttrs_list PySem.F.slot_list_pop PySem.F.type_list_pop yDH yNC yEM ho ha hbase hfew hline hs hplain
def zOV:List MV→Option (List String)
 | []=>some []
 | .typ n::r=>if known n=true then(zOV r).map (n::·)else none
 | _=>none
def zUU:List Er→Sto→R Er
 | [r,.val (.tup ts)],S=>match zCH S r with
  | some t=>match zOV ts with
   | some ns=>.ok (.val (.bl (ns.any (zQC t)))) S
   | none=>.no
  | none=>.no
 | _,_=>.no
end
end M
end L2
namespace L2
namespace M
open PySem PySem.Spec PyProof.Rows
section
variable{X:Cx}{W:XW}{a b o i:Expr}{f g:Rho→Sto→R Er}{pos:Pos}{pins:List (Addr×Obj)}{σ:St}{H:Hp}{s:Shared}{α:List Addr}
def Kinds(t:String):Prop:=t="NoneType"∨t="bool"∨t="int"∨t="str"∨t="tuple"∨t="list"
theorem yNE{S:Sto}{r:Er}{x:V}{u:Value}{t:String}(I:Inv X pins σ H s)(wd:Wd X.g α S H)(d:DenX X.K α H r x)(rx:RelV x u)(et:zCH S r=some t):
  ∃Hh:Heap→Prop,PySem.W.KitX X.K u (.type t) Hh∧Hh s.heap∧u≠.builtin "__main__.__loader__#opaque"∧Kinds t:=by
 unfold zCH at et
 split at et
 ·cases et
  cases zIH d
  cases rx
  exact⟨_,PySem.W.kitx_none,True.intro,(fun z=>nomatch z),.inl rfl⟩
 ·cases et
  cases zFB d
  cases rx
  exact⟨_,PySem.W.kitx_bool,True.intro,(fun z=>nomatch z),.inr (.inl rfl)⟩
 ·cases et
  cases yV d
  obtain⟨t,rfl⟩:=rx
  exact⟨_,PySem.W.kitx_int,True.intro,(fun z=>nomatch z),.inr (.inr (.inl rfl))⟩
 ·cases et
  cases kP d
  obtain⟨t,rfl⟩:=rx
  exact⟨_,PySem.W.kitx_str,True.intro,(fun z=>nomatch z),.inr (.inr (.inr (.inl rfl)))⟩
 ·cases et
  obtain⟨a,vs,rfl,sq,l⟩:=gH d
  cases rx
  obtain⟨its,r1,p1,_⟩:=I.tuple sq
  obtain⟨o,h1,h2,_⟩:=p1
  exact⟨_,PySem.W.kitx_tuple,⟨o,h1,h2⟩,(fun z=>nomatch z),.inr (.inr (.inr (.inr (.inl rfl))))⟩
 ·cases et
 ·cases z:hX S r with
  | none=>rw [z]at et;cases et
  | some ds=>
   rw [z]at et
   cases et
   obtain⟨a,vs,rfl,sq,l⟩:=zJL rfl wd z d
   cases rx
   obtain⟨its,r1,p1,_⟩:=I.list sq
   obtain⟨o,h1,h2,_⟩:=p1.isList
   exact⟨_,PySem.W.kitx_list,⟨o,h1,h2⟩,(fun z=>nomatch z),.inr (.inr (.inr (.inr (.inr rfl))))⟩
theorem zZL{t:String}(ht:Kinds t): ∀{ts:List MV}{ns:List String}{vs:List V}{us:List Value},zOV ts=some ns→DenL X.K α H ts vs→Vals vs us→PySem.W.kitAny X.K (.type t) us=some (ns.any (zQC t))
 | [],ns,vs,us,hn,d,r=>by
  cases hn
  rw [d.isnil]at r
  cases r
  rfl
 | x::ts,ns,vs,us,hn,d,r=>by
  obtain⟨v,vr,rfl,dv,l⟩:=d.uncons
  cases x with
  | typ n=>
   unfold zOV at hn
   split at hn
   ·rename_i hk
    cases z:zOV ts with
    | none=>rw [z]at hn;cases hn
    | some ns'=>
     rw [z]at hn
     cases hn
     cases dO dv
     cases r with
     | cons r1 r2=>
      cases r1
      rw [PySem.W.kitAny,bT X.K ht hk,List.any_cons]
      cases hb:zQC t n with
      | true=>rfl
      | false=>exact zZL ht z l r2
   ·cases hn
  | _=>cases hn
theorem yBW:CallR X (.builtin "isinstance") (fun xs H Q=> ∃α S r x y t ts ns,xs=[x,y]∧Wd X.g α S H∧DenX X.K α H r x∧DenX X.K α H (.val (.tup ts)) y∧zCH S r=some t∧zOV ts=some ns∧Q (.bl (ns.any (zQC t))) H):=by
 intro pins s σ H xs us Q I rr h
 obtain⟨α,S,r,x,y,t,ts,ns,rfl,wd,d,dy,et,hn,q⟩:=h
 obtain⟨u,w',rfl,rx,ry⟩:=vals2 rr
 obtain⟨a,vs,rfl,sq,l⟩:=gH dy
 cases ry
 obtain⟨its,r1,p1,_⟩:=I.tuple sq
 obtain⟨Hh,kx,hh,hx,ht⟩:=yNE I wd d rx et
 obtain⟨⟨oc,od,oda,os⟩,h1,h2,n,h3⟩:=p1
 cases h2
 cases h3
 exact PySem.W.kia_tup kx I.kIn hh h1 (zZL ht hn l r1) hx fun tk=>⟨.bl _,H,I.tok _,rfl,q⟩
theorem yIT:zFR X W (fun xs H Q=> ∃α S r x y t ts ns,xs=[x,y]∧Wd X.g α S H∧DenX X.K α H r x∧DenX X.K α H (.val (.tup ts)) y∧zCH S r=some t∧zOV ts=some ns∧Q (.bl (ns.any (zQC t))) H) zUU:=by
 intro rs vs α S H Q wd d post
 unfold zUU at post
 split at post
 ·split at post
  ·rename_i t et
   split at post
   ·rename_i ns hn
    obtain⟨v,u,rfl,d1,d2⟩:=yKJ d
    exact⟨α,S,_,v,u,t,_,ns,rfl,wd,d1,d2,et,hn,Post.val post wd (wK _)⟩
   ·exact post.elim
  ·exact post.elim
 ·exact post.elim
def zUV(kvs:List (Key×V))(k:Key)(v:V):List (Key×V):=if(kvs.any fun kv=>decide (kv.1=k))=true then kvs.map (fun kv=>if kv.1=k then(kv.1,v)else kv)else kvs++[(k,v)]
theorem yFG(kvs:List (Key×V))(k:Key)(v:V):(zUV kvs k v).length≤kvs.length+1:=by
 unfold zUV
 split
 ·rw [List.length_map];exact Nat.le_succ _
 ·rw [List.length_append];exact Nat.le_refl _
theorem yNF{kvs:List (Key×V)}{vs:List (Key×Value)}(r:KV kvs vs)(k:Key):(kvs.any fun kv=>decide (kv.1=k))=vs.any fun kv=>decide (kv.1=k):=by
 unfold KV at r
 induction r with
 | nil=>rfl
 | cons h t ih=>rw [List.any_cons,List.any_cons,ih,h.1]
theorem yIU{kvs:List (Key×V)}{vs:List (Key×Value)}(r:KV kvs vs)(k:Key){y:V}{u:Value}(ry:RelV y u):KV (kvs.map fun kv=>if kv.1=k then(kv.1,y)else kv) (vs.map fun kv=>if kv.1=k then(kv.1,u)else kv):=by
 unfold KV at r ⊢
 induction r with
 | nil=>exact .nil
 | @cons p q ps qs h t ih=>
  rw [List.map_cons,List.map_cons]
  refine .cons ?_ ih
  by_cases e:p.1=k
  ·rw [if_pos e,if_pos (h.1.symm.trans e)];exact⟨h.1,ry⟩
  ·rw [if_neg e,if_neg fun z=>e (h.1.trans z)];exact h
theorem yIV{kvs:List (Key×V)}{vs:List (Key×Value)}(r:KV kvs vs){p:Key×V}{q:Key×Value}(h:p.1=q.1∧RelV p.2 q.2):KV (kvs++[p]) (vs++[q]):=by
 unfold KV at r ⊢
 induction r with
 | nil=>exact .cons h .nil
 | cons h' t ih=>exact .cons h' ih
theorem yNG{kvs:List (Key×V)}{vs:List (Key×Value)}(r:KV kvs vs)(k:Key){y:V}{u:Value}(ry:RelV y u):KV (zUV kvs k y) (stored vs k u):=by
 unfold zUV stored
 rw [yNF r k]
 by_cases e:(vs.any fun kv=>decide (kv.1=k))=true
 ·rw [if_pos e,if_pos e];exact yIU r k ry
 ·rw [if_neg e,if_neg e];exact yIV r ⟨rfl,ry⟩
def dS:MV→Bool
 | .str _=>true
 | _=>false
theorem zZM{k:MV}{a b:Key}(h:KeyD k a)(h':KeyD k b):a=b:=by
 cases k with
 | int i=>exact Eq.trans (show a=.inl i from h) (show b=.inl i from h').symm
 | str x=>exact Eq.trans (show a=.inr (mkS x)from h) (show b=.inr (mkS x)from h').symm
 | _=>exact False.elim h
theorem zUW{k k':MV}{a:Key}(h:KeyD k a)(h':KeyD k' a):k=k':=by
 cases k with
 | int i=>
  have e:a=.inl i:=h
  subst e
  cases k' with
  | int j=>have e':(Sum.inl i:Key)=.inl j:=h';cases e';rfl
  | str y=>have e':(Sum.inl i:Key)=.inr (mkS y):=h';cases e'
  | _=>exact False.elim h'
 | str x=>
  have e:a=.inr (mkS x):=h
  subst e
  cases k' with
  | int j=>have e':(Sum.inr (mkS x):Key)=.inl j:=h';cases e'
  | str y=>
   have e':(Sum.inr (mkS x):Key)=.inr (mkS y):=h'
   injection e' with e'
   rw [zRY e']
  | _=>exact False.elim h'
 | _=>exact False.elim h
theorem zUX: ∀{kvs:List (MV×MV)}{ks:List (Key×V)}{k:MV}{k':Key},DenK X.K α H kvs ks→KeyD k k'→(ks.any fun kv=>decide (kv.1=k'))=(look kvs k).isSome
 | _,_,k,k',.nil,hk=>rfl
 | _,_,k,k',.cons (k:=c) (k':=c') hc a l,hk=>by
  rw [yBR,List.any_cons]
  by_cases h:c=k
  ·subst h
   rw [if_pos rfl,decide_eq_true (zZM hc hk)];rfl
  ·have hn: ¬c'=k':=fun z=>h (zUW hc (z.symm▸hk))
   rw [if_neg h,decide_eq_false hn,Bool.false_or]
   exact zUX l hk
theorem zOW: ∀{kvs:List (MV×MV)}{ks:List (Key×V)}{k d:MV}{k':Key}{v:V},DenK X.K α H kvs ks→KeyD k k'→Den X.K α H d v→DenK X.K α H (kvs.map fun p=>if p.1=k then(p.1,d)else p) (ks.map fun kv=>if kv.1=k' then(kv.1,v)else kv)
 | _,_,k,d,k',v,.nil,hk,hd=>.nil
 | _,_,k,d,k',v,.cons (k:=c) (k':=c') hc a l,hk,hd=>by
  rw [List.map_cons,List.map_cons]
  by_cases h:c=k
  ·subst h
   rw [if_pos rfl,if_pos (zZM hc hk)]
   exact .cons hc hd (zOW l hk hd)
  ·have hn: ¬c'=k':=fun z=>h (zUW hc (z.symm▸hk))
   rw [if_neg h,if_neg hn]
   exact .cons hc a (zOW l hk hd)
theorem DenK.append: ∀{kvs kvs':List (MV×MV)}{xs xs':List (Key×V)},DenK X.K α H kvs xs→DenK X.K α H kvs' xs'→DenK X.K α H (kvs++kvs') (xs++xs')
 | _,_,_,_,.nil,h=>h
 | _,_,_,_,.cons hk a l,h=>.cons hk a (DenK.append l h)
theorem DenK.length: ∀{kvs:List (MV×MV)}{xs:List (Key×V)},DenK X.K α H kvs xs→xs.length=kvs.length
 | _,_,.nil=>rfl
 | _,_,.cons _ _ l=>by rw [List.length_cons,List.length_cons,DenK.length l]
theorem yFH{kvs:List (MV×MV)}{ks:List (Key×V)}{k d:MV}{k':Key}{v:V}(l:DenK X.K α H kvs ks)(hk:KeyD k k')(hd:Den X.K α H d v):DenK X.K α H (putK kvs k d) (zUV ks k' v):=by
 unfold putK zUV
 rw [zUX l hk]
 by_cases h:(look kvs k).isSome=true
 ·rw [if_pos h,if_pos h];exact zOW l hk hd
 ·rw [if_neg h,if_neg h];exact l.append (.cons hk hd .nil)
def DK(X:Cx)(H:Hp)(d:Addr)(ks:List (Key×V)):Prop:=H d=some (.dK ks)∨(ks=[]∧H d=some (DN X.prog X.w d []))
theorem dk_of{kvs:List (MV×MV)}{d:Addr}(ob:ObD X.g α H d (.dic kvs))(hk:kvs.all (fun p=>dS p.1)=true): ∃ks,DK X H d ks∧DenK X.K α H kvs ks:=by
 rcases ob with⟨ks,h,l⟩ | ⟨xs,h,l⟩
 ·exact⟨ks,.inl h,l⟩
 ·cases l with
  | nil=>exact⟨[],.inr ⟨rfl,h⟩,.nil⟩
  | @cons k nk a d v u fs xs hn e ha hd r l=>
   rw [List.all_cons,Bool.and_eq_true]at hk
   cases k with
   | str x=>exact absurd (jH ha) (fun z=>nomatch z)
   | _=>exact absurd hk.1 Bool.false_ne_true
theorem zZN(I:Inv X pins σ H s){ks:List (Key×V)}{d:Addr}(h:DK X H d ks):ks.length≤sizeLine∧(d==sysModules)=false∧ ∃vs,KV ks vs∧s.heap.DictOf (jQ X.prog X.w) d vs:=by
 rcases h with h | ⟨rfl,h⟩
 ·exact(show ObjOk X.prog X.w H s.heap d (.dK ks)from I.hok d _ h)
 ·obtain⟨⟨hz,hs,o,es,ep,ho,hc,hd,he,hn⟩,_⟩:=(show ObjOk X.prog X.w H s.heap d (DN X.prog X.w d [])from I.hok d _ h)
  have he':es.toList=[]:=he
  refine⟨Nat.zero_le _,hs,[],.nil,o,es,ep,ho,hc,hd,fun e hm=>?_,by rw [he'];exact .nil,List.nodup_nil⟩
  rw [←Array.mem_toList_iff,he']at hm
  exact absurd hm (by simp)
def rSetK(X:Cx):TSet:=fun o i v H Q=> ∃(ks:List (Key×V))(d:Addr)(x:List Nat),o=.ref d∧i=.str (mkS x)∧DK X H d ks∧ks.length<sizeLine∧Q (upd H d (.dK (zUV ks (.inr (mkS x)) v)))
theorem yBX:PSet X (rSetK X):=by
 intro pins s σ H o i v ov iv u Q I ro ri rv h
 obtain⟨ks,d,x,rfl,rfl,dd,hz,q⟩:=h
 cases ro
 obtain⟨t,rfl⟩:=ri
 obtain⟨z,hd,vs,rel,dm⟩:=zZN I dd
 have hl:ks.length=vs.length:=Paired.length rel
 have hp:=yFG ks (.inr (mkS x)) v
 refine wpAny_setItem_pairs (knd:=jQ X.prog X.w) (hsz:=by omega) (zLT X.prog X.w (mkS x) t) dm fun h' dm' hs'=>⟨_,?_,q⟩
 have mu:Mut (H d):=by
  rcases dd with z | ⟨_,z⟩<;>rw [z]<;>exact trivial
 have he: ∃q,h'.get? d=some q:=let ⟨q,_,_,hq,_⟩:=dm';⟨q,hq⟩
 exact I.write (t':=_) (x:=d) (e:=d) mu (.inl rfl) (fun b uo hb eo=>(hs'.2 b hb).trans eo) he ⟨by omega,hd,_,yNG rel _ rv,dm'⟩
noncomputable def zMB(S:Sto):Er→Option (Nat×List (MV×MV))
 | .val (.loc l)=>match S[l]? with
  | some (.dic kvs)=>if kvs.all (fun p=>dS p.1)=true then some (l,kvs)else none
  | _=>none
 | _=>none
theorem yFI{S:Sto}(wd:Wd X.g α S H){r:Er}{x:V}{l:Nat}{kvs:List (MV×MV)}(e:zMB S r=some (l,kvs))(d:DenX X.K α H r x):
  ∃c ks,x=.ref c∧α[l]? =some c∧S[l]? =some (.dic kvs)∧DK X H c ks∧DenK X.K α H kvs ks∧kvs.all (fun p=>dS p.1)=true:=by
 unfold zMB at e
 split at e
 ·rename_i n
  obtain⟨c,rfl,h⟩:=dQ d
  split at e
  ·rename_i ks hS
   split at e
   ·rename_i hk
    obtain⟨rfl,rfl⟩:=Prod.mk.inj (Option.some.inj e)
    obtain⟨xs,dd,l⟩:=dk_of (wd.obj _ c _ h hS) hk
    exact⟨c,xs,rfl,h,hS,dd,l,hk⟩
   ·cases e
  ·cases e
 ·cases e
noncomputable def zUY(p q:Er)(d:MV)(ρ:Rho)(S:Sto):R Rho:=match q with
 | .val (.str x)=>match zMB S p with
  | some (l,kvs)=>if kvs.length<1000000 then .ok ρ (S.set l (.dic (putK kvs (.str x) d)))else .no
  | none=>.no
 | _=>.no
theorem yIW(ho:PEm X W o f)(hi:PEm X W i g)
  (ha: ∀v,assign (.Subscript o i pos) X.env v=(do
   let ov ←holding [v] (eval o X.env)
   let iv ←holding [v,ov] (eval i X.env)
   standAt pos
   holding [v,ov,iv] (setItem ov iv v)
   release [v,ov,iv] []):=by intro _;rfl):PGm X W (.Subscript o i pos) (fun d ρ S=>(f ρ S).bind fun p S1=>(g ρ S1).bind fun q S2=>zUY p q d ρ S2):=by
 obtain⟨to,ho,fo⟩:=ho
 obtain⟨ti,hi,fi⟩:=hi
 refine⟨_,yCW ho hi yBX ha,fun α ρ S σ H d v Q wd sl de q=>fo α ρ S σ H _ wd sl (q.bind fun u p S1 α1 H1 e1 x1 w1 d1 q1=>fi α1 ρ S1 σ H1 _ w1 (sl.ext x1) ((q1.shift x1).bind fun u2 p2 S2 α2 H2 e2 x2 w2 d2 q2=>?_))⟩
 replace q2:=q2.shift x2
 have d1':=DenX.ext x2 d1.1
 have de2:=(de.ext x1).ext x2
 unfold zUY at q2
 split at q2
 ·rename_i x
  split at q2
  ·rename_i l kvs e
   split at q2
   ·rename_i hk
    obtain⟨c,ks,rfl,hc,hS,dd,dl,hall⟩:=yFI w2 e d1'
    cases kP d2.1
    refine⟨ks,c,x,rfl,rfl,dd,?_,?_⟩
    ·rw [dl.length]
     exact Nat.lt_of_lt_of_le hk (fits (Nat.le_refl _))
    ·have xw:=w2.writex hc (o:=.dK (zUV ks (.inr (mkS x)) v))
     have sl2:=((sl.ext x1).ext x2).ext xw
     exact q2 σ α2 _ xw (w2.write hc (.inl ⟨_,zX,(yFH (k:=.str x) dl (show KeyD (.str x) (.inr (mkS x))from rfl) de2).ex0 xw.toEx0⟩)) sl2
   ·exact q2.elim
  ·exact q2.elim
 ·exact q2.elim
theorem zXQ:CallR X (.type "list") (fun xs H Q=> ∃d ks,xs=[.ref d]∧DK X H d ks∧X.calm=true∧ ∀l,H l=none→Q (.ref l) (upd H l (.lst (ks.map fun p=>kV p.1)))):=by
 intro pins s σ H xs us Q I r h
 obtain⟨d,ks,rfl,dd,hc,q⟩:=h
 obtain⟨u,rfl,rx⟩:=vals1 r
 cases rx
 obtain⟨z,hd,vs,rel,dm⟩:=zZN I dd
 obtain⟨ep,hat⟩:=dm.dictAt
 have hl:ks.length=vs.length:=Paired.length rel
 refine PySem.W.kdl_call (PySem.W.kdl_dict (knd:=jQ X.prog X.w) (kvs:=vs) (ep:=ep) hd) (I.ok.hd hc) hat (by omega) fun h' tk acc c' hk hS hacc=>?_
 have rv:Vals (ks.map fun p=>kV p.1) acc.toList:=by
  have key: ∀{ks:List (Key×V)}{vs:List (Key×Value)}{us:List Value},KV ks vs→us.length=vs.length→(∀(j:Nat)(v:Value),us[j]? =some v→ ∃(k:Key)(x:Value),vs[j]? =some (k,x)∧(jQ X.prog X.w).is k v=true)→Vals (ks.map fun p=>kV p.1) us:=by
   intro ks vs us kv
   unfold KV at kv
   induction kv generalizing us with
   | nil=>intro hl _;cases us with
    | nil=>exact .nil
    | cons a b=>simp at hl
   | @cons p q ps qs h t ih=>
    intro hl hv
    cases us with
    | nil=>simp at hl
    | cons a b=>
     obtain⟨k,x,e,hi⟩:=hv 0 a rfl
     simp only [List.getElem?_cons_zero,Option.some.injEq]at e
     subst e
     rw [List.map_cons]
     refine .cons ?_ (ih (by simpa using hl) fun j v hj=>by simpa using hv (j+1) v (by simpa using hj))
     rw [h.1]
     rcases xG hi with⟨i,t,e1,e2⟩ | ⟨i,t,e1,e2⟩
     ·subst e2;rw [show k=.inl i from e1];exact⟨t,rfl⟩
     ·subst e2;rw [show k=.inr i from e1];exact⟨t,rfl⟩
  exact key rel (by rw [Array.length_toList];exact hacc.1) fun j v e=>hacc.2 j v (by rw [←Array.getElem?_toList];exact e)
 refine⟨.ref s.heap.objs.size,_,I.laid (t':=tk) hk (Nat.le_refl _) (show ObjOk X.prog X.w _ h' _ (.lst (ks.map fun p=>kV p.1))from⟨by rw [List.length_map];exact z,acc.toList,c',rv,?_⟩),rfl,q _ (I.hok.fresh (Nat.le_refl _))⟩
 rw [Array.toArray_toList]
 exact hS
noncomputable def zOX:List Er→Sto→R Er
 | [r],S=>match zMB S r with | some (_,kvs)=>.ok (.new (kvs.map (·.1))) S | none=>.no
 | _,_=>.no
theorem zRE: ∀{kvs:List (MV×MV)}{ks:List (Key×V)},DenK X.K α H kvs ks→DenL X.K α H (kvs.map (·.1)) (ks.map fun p=>kV p.1)
 | _,_,.nil=>xP
 | _,_,.cons (k:=c) (k':=c') hc a l=>by
  refine xD ?_ (zRE l)
  cases c with
  | int i=>rw [show c'=.inl i from hc];exact xA i
  | str x=>rw [show c'=.inr (mkS x)from hc];exact zAB x
  | _=>exact False.elim hc
theorem yFJ(hc:X.calm=true):zFR X W (fun xs H Q=> ∃d ks,xs=[.ref d]∧DK X H d ks∧X.calm=true∧ ∀l,H l=none→Q (.ref l) (upd H l (.lst (ks.map fun p=>kV p.1)))) zOX:=by
 intro rs vs α S H Q wd d post
 unfold zOX at post
 split at post
 ·split at post
  ·rename_i n kvs e
   obtain⟨v,rfl,dv⟩:=zFF d
   obtain⟨c,ks,rfl,h1,h2,dd,dl,_⟩:=yFI wd e dv
   exact⟨c,ks,rfl,dd,hc,fun l hl=>Post.newl post wd hl (zRE dl)⟩
  ·exact post.elim
 ·exact post.elim
end
end M
end L2
namespace L2
namespace M
open PySem PySem.Spec PyProof.Rows
def inK(k:Key)(l:List Key):Bool:=l.any fun j=>decide (j=k)
def zDQ(val:Nat→Key):Nat→List Key
 | 0=>[]
 | i+1=>if inK (val i) (zDQ val i)=true then zDQ val i else zDQ val i++[val i]
theorem zKZ(val:Nat→Key)(i:Nat):zDQ val (i+1)=if inK (val i) (zDQ val i)=true then zDQ val i else zDQ val i++[val i]:=rfl
theorem zSQ(val:Nat→Key): ∀i,(zDQ val i).length≤i
 | 0=>Nat.le_refl _
 | i+1=>by
  have ih:=zSQ val i
  rw [zKZ]
  split
  ·exact Nat.le_trans ih (Nat.le_succ _)
  ·rw [List.length_append];exact Nat.succ_le_succ ih
theorem yFK(val:Nat→Key)(i:Nat)(k:Key):inK k (zDQ val (i+1))=(inK k (zDQ val i) || decide (k=val i)):=by
 rw [zKZ]
 by_cases h:inK (val i) (zDQ val i)=true
 ·rw [if_pos h]
  by_cases e:k=val i
  ·rw [e,h];rfl
  ·rw [decide_eq_false e,Bool.or_false]
 ·rw [if_neg h]
  unfold inK
  rw [List.any_append,List.any_cons,List.any_nil,Bool.or_false]
  congr 1
  by_cases e:val i=k
  ·rw [decide_eq_true e,decide_eq_true e.symm]
  ·rw [decide_eq_false e,decide_eq_false fun z=>e z.symm]
theorem yFL(val:Nat→Key)(i:Nat):(zDQ val (i+1)).length=if inK (val i) (zDQ val i)=true then(zDQ val i).length else(zDQ val i).length+1:=by
 rw [zKZ]
 split
 ·rfl
 ·rw [List.length_append];rfl
abbrev KSet(P:Program)(w:World)(h:Heap)(D:Addr)(val:Nat→Key)(i:Nat):Prop:=h.SetOf (jQ P w) D (fun k=>inK k (zDQ val i)) (zDQ val i).length
theorem KSet.move{P:Program}{w:World}{h h':Heap}{D:Addr}{val:Nat→Key}{i:Nat}(x:KSet P w h D val i)(m: ∀o,h.get? D=some o→h'.get? D=some o):KSet P w h' D val i:=by
 obtain⟨o,es,ep,t,ho,r⟩:=x
 exact⟨o,es,ep,t,m o ho,r⟩
def StrAt(val:Nat→Key)(i:Nat)(v:Value):Prop:= ∃x t,val i=.inr x∧v=.str x t
theorem StrAt.is{P:Program}{w:World}{val:Nat→Key}{i:Nat}{v:Value}(h:StrAt val i v):(jQ P w).is (val i) v=true∧v.scannable=true:=by
 obtain⟨x,t,e,rfl⟩:=h
 rw [e]
 exact⟨zLT P w x t,rfl⟩
section
variable{P:Program}{w:World}{A:Around}{R:Result→Shared→Prop}{I D:Addr}{fp wr:List Addr}{G:Array GenState→Array GenState→Prop}{n:Nat}{Pv:Nat→Value→Prop}{St:Nat→Shared→Prop}{val:Nat→Key}
theorem zLA(W:PySem.WalksS P w A.in1 I fp wr G n Pv St)(hD:D∉fp)(hv: ∀i v,Pv i v→StrAt val i v)(hb:n+1<scanBound):
  ∀(k i:Nat)(s:Shared),i+k=n→St i s→KSet P w s.heap D val i→
   (∀s',PySem.Moved (D::wr) G s s'→KSet P w s'.heap D val n→R (.ok (.ret .none)) s')→codeAny (model P w) A (.builtin "set.update.loop" ⟨[.ref D,.ref I],[]⟩) R s
 | 0,i,s,hk,st,hs,q=>by
  have e:i=n:=hk
  subst e
  refine codeAny_builtin F.entry_set_update_loop ?_
  rw [Around.under_plainId F.plain_set_update_loop _]
  show wpAny _ A.in1 (pyNext (.ref I) >>= _) _ _ s
  refine wpAny_bind (W.done s _ _ st fun s' m=>?_)
  exact wpAny_pure (q s' (m.mono fun b hb=>.tail _ hb) (hs.move fun o=>m.heap D o fun z=>hD (W.sub _ z)))
 | k+1,i,s,hk,st,hs,q=>by
  refine codeAny_builtin F.entry_set_update_loop ?_
  rw [Around.under_plainId F.plain_set_update_loop _]
  show wpAny _ A.in1 (pyNext (.ref I) >>= _) _ _ s
  refine wpAny_bind (W.item i s _ _ (by omega) st fun v s' hP st' m=>?_)
  obtain⟨hi,hsc⟩:=(hv i v hP).is (P:=P) (w:=w)
  have hs1:KSet P w s'.heap D val i:=hs.move fun o=>m.heap D o fun z=>hD (W.sub _ z)
  have le:=zSQ val i
  show wpAny _ A.in1 (holding [v] (setAdd D v) >>= _) _ _ s'
  refine wpAny_bind (wpAny_holding ?_)
  unfold setAdd
  refine wpAny_holding (wpAny_bind ((jQ P w).pyHash hi ?_))
  refine wpAny_setAddHashed_of (s:={s' with toks:=s'.toks+1}) hi hsc hs1 (by omega) fun h2 sb hs2=>?_
  have hs3:KSet P w h2 D val (i+1):=by
   unfold KSet
   rw [show(fun k=>inK k (zDQ val (i+1)))=(fun k=>inK k (zDQ val i) || decide (k=val i))from funext (yFK val i),yFL]
   exact hs2
  refine wpAny_pure ⟨plainId_quiet F.plain_set_update_loop _,zLA W hD hv hb k (i+1) _ (by omega) (W.frame _ s' _ _ st' (Nat.le_succ _) fun b hb o e=>?_) hs3 fun s2 m2 hs4=>?_⟩
  ·rw [sb.2 b fun z=>hD (z▸hb)];exact e
  ·refine q s2 (PySem.Moved.trans W.gtrans ((m.mono fun b hb=>.tail _ hb).then_heap (Nat.le_succ _) fun b o hb e=>?_) m2) hs4
   rw [sb.2 b fun z=>hb (by rw [z];exact .head _)];exact e
end
section
variable{P:Program}{w:World}{A:Around}{E:Value→Shared→Prop}{s:Shared}
abbrev yO(led:Bool):Obj:={cls:=.type "set",dict:=none,data:=.set #[] 0 (.fresh 0 0 led)}
theorem yKK{h:Heap}{a:Addr}{led:Bool}{val:Nat→Key}(ho:h.get? a=some (yO led)):KSet P w h a val 0:=
 ⟨yO led,#[],0,_,ho,⟨rfl,rfl,rfl⟩,rfl,fun e he=>absurd he (by simp),fun k=>⟨fun z=>absurd (show false=true from z) Bool.false_ne_true,fun⟨e,he,_⟩=>absurd he (by simp)⟩,by unfold scanBound;decide,rfl,rfl⟩
end
end M
end L2
namespace L2
namespace M
open PySem PySem.Spec PyProof.Rows
section
variable{P:Program}{w:World}{A:Around}{E:Value→Shared→Prop}{s:Shared}
theorem call_set_list{l:Addr}{items:Array Value}{val:Nat→Key}{Q:Value→Shared→Prop}(hh:A.handled=none)(hl:s.heap.IsList l items)(hv: ∀(i:Nat)(v:Value),items[i]? =some v→StrAt val i v)(hb:items.size+1<scanBound)
  (h: ∀(h':Heap)(tk:Nat),KSet P w h' s.heap.objs.size val items.size→(∀b o,s.heap.get? b=some o→h'.get? b=some o)→Q (.ref s.heap.objs.size) {s with heap:=h',toks:=tk}):
  wpAny (model P w) A (call (.type "set") [.ref l]) Q E s:=by
 obtain⟨c,tl,hmro⟩:=F.called_set.mro
 have hmade:=F.called_set.made
 have hsub:=F.called_set.sub
 refine wpAny_call (codeAny_of_tree ?_)
 show wpAny _ _ (callAny (.type "set") _) _ _ _
 refine wpAny_pure ⟨Code.quiet_builtin _ (by decide+kernel),codeAny_builtin F.entry_type_call ?_⟩
 rw [Around.under_plain (weight_type_call_type "set" [.ref l] []) rfl]
 have h1:=F.called_set.notType
 have h2:=F.called_set.canCreate
 have hct:=F.typeCall_set_1 (.ref l)
 repeat (any_goals (first | assumption | wp_step))
 refine codeAny_mono (code_set_new_1 (.ref l) (E:=E) (Q₁:=fun ob s1=> ∃led:Bool,ob=.ref s.heap.objs.size∧s1={s with heap:=s.heap.push (yO led)}) fun led=>⟨led,rfl,rfl⟩) fun r s1 hr=>?_
 cases r with
 | error e=>exact hr
 | ok fl=>
  cases fl with
  | ret ob=>
   obtain⟨led,rfl,rfl⟩:=hr
   have g0:(s.heap.push (yO led)).get? s.heap.objs.size=some (yO led):=Heap.get?_push_size _ rfl
   have hT:Shared.TypeIs {s with heap:=s.heap.push (yO led)} (.ref s.heap.objs.size) "set":=⟨_,g0,rfl⟩
   have hli:=F.called_set.init.lookup
   have hbi:=F.called_set.init.bind (.ref s.heap.objs.size)
   repeat (any_goals (first | assumption | wp_step))
   refine codeAny_mono (codeAny_call_builtin (R:=wants (fun r s2=>r=.none∧ ∃h' tk,s2={s with heap:=h',toks:=tk}∧KSet P w h' s.heap.objs.size val items.size∧ ∀b o,s.heap.get? b=some o→h'.get? b=some o) E)
    F.called_set.init.plain F.entry_set_init (check_set_init_1 hT ?_)) fun r2 s2 hr2=>?_
   ·have hl1:(s.heap.push (yO led)).IsList l items:=hl.push _
    obtain⟨⟨oc,od,oda,os⟩,hol,hcl,nl,hdl⟩:=hl
    cases hcl
    cases hdl
    have hol':(s.heap.push (yO led)).get? l=some {cls:=.type "list",dict:=od,data:=.seq items nl,slots:=os}:=Heap.get?_push_of_some _ hol
    have hsls:=PySem.F.sub_list_set
    have hslf:=PySem.F.sub_list_frozenset
    have hne:(Value.type "list"==Value.type "dict")=false:=by decide
    have lt:l<s.heap.objs.size:=Heap.lt_size hol
    unfold Builtin.«set.__init__» noKeywords Builtin.Frozenset.updateFrom
    generalize hPI:pyIter=PI
    wp_walk
    subst hPI
    refine wpAny_pyIter_list hl1 ?_
    refine wpAny_bind (wpAny_runValue ?_)
    have h3:A.in1.in1.in1.handled=none:=by simp [hh]
    have lt2:l<(s.heap.push (yO led)).objs.size:=by rw [Heap.size_push];exact Nat.lt_succ_of_lt lt
    have out:s.heap.objs.size∉[(s.heap.push (yO led)).objs.size,l]:=by
     rw [Heap.size_push]
     intro z
     rcases List.mem_cons.mp z with z | z
     ·exact absurd z (Nat.ne_of_lt (Nat.lt_succ_self _))
     ·exact absurd (List.mem_singleton.mp z) (Nat.ne_of_gt lt)
    refine zLA ((Walks.list h3 _ l (Nat.ne_of_lt lt2) items).toS) (D:=s.heap.objs.size) (val:=val) out hv hb items.size 0 _ (Nat.zero_add _) ⟨⟨_,Heap.get?_push_size _ rfl,rfl,rfl⟩,hl1.push _⟩ ?hS0 ?hR
    case hS0=>
     have gg:((s.heap.push (yO led)).push {cls:=.type "list_iterator",data:=.fields #[.ref l,.int 0 0]}).get? s.heap.objs.size=some (yO led):=Heap.get?_push_of_some _ g0
     exact yKK gg
    case hR=>
     intro s' m hs'
     obtain⟨h',g',d',tk',os'⟩:=s'
     have e1:g'=s.gens:=m.gens
     have e2:d'=s.drawn:=m.drawn
     have e3:os'=s.os:=m.os
     subst e1;subst e2;subst e3
     show wpAny _ _ _ _ _ _
     refine wpAny_pure ?_
     show wpAny _ _ (ret Value.none) _ _ _
     refine wpAny_pure ⟨rfl,h',tk',rfl,hs',fun b o e=>?_⟩
     have hb0:=Heap.lt_size e
     refine m.heap b o (fun z=>?_) (Heap.get?_push_of_some _ (Heap.get?_push_of_some _ e))
     rcases List.mem_cons.mp z with z | z
     ·exact absurd z (Nat.ne_of_lt hb0)
     ·rw [Heap.size_push]at z
      exact absurd (List.mem_singleton.mp z) (Nat.ne_of_lt (Nat.lt_succ_of_lt hb0))
   ·cases r2 with
    | error e=>exact hr2
    | ok fl2=>
     cases fl2 with
     | ret r=>
      obtain⟨rfl,h',tk,rfl,hs',hk'⟩:=hr2
      repeat (any_goals (first | assumption | wp_step))
      exact h _ _ hs' hk'
     | _=>exact hr2.elim
  | _=>exact hr.elim
end
end M
end L2
namespace L2
namespace M
open PySem PySem.Spec PyProof.Rows
section
variable{P:Program}{w:World}{A:Around}{E:Value→Shared→Prop}{s:Shared}
theorem zOY{l:Addr}{items:Array Value}{val:Nat→Key}{Q:Value→Shared→Prop}(hh:A.handled=none)(hl:s.heap.IsTuple l items)(hv: ∀(i:Nat)(v:Value),items[i]? =some v→StrAt val i v)(hb:items.size+1<scanBound)
  (h: ∀(h':Heap)(tk:Nat),KSet P w h' s.heap.objs.size val items.size→(∀b o,s.heap.get? b=some o→h'.get? b=some o)→Q (.ref s.heap.objs.size) {s with heap:=h',toks:=tk}):
  wpAny (model P w) A (call (.type "set") [.ref l]) Q E s:=by
 obtain⟨c,tl,hmro⟩:=F.called_set.mro
 have hmade:=F.called_set.made
 have hsub:=F.called_set.sub
 refine wpAny_call (codeAny_of_tree ?_)
 show wpAny _ _ (callAny (.type "set") _) _ _ _
 refine wpAny_pure ⟨Code.quiet_builtin _ (by decide+kernel),codeAny_builtin F.entry_type_call ?_⟩
 rw [Around.under_plain (weight_type_call_type "set" [.ref l] []) rfl]
 have h1:=F.called_set.notType
 have h2:=F.called_set.canCreate
 have hct:=F.typeCall_set_1 (.ref l)
 repeat (any_goals (first | assumption | wp_step))
 refine codeAny_mono (code_set_new_1 (.ref l) (E:=E) (Q₁:=fun ob s1=> ∃led:Bool,ob=.ref s.heap.objs.size∧s1={s with heap:=s.heap.push (yO led)}) fun led=>⟨led,rfl,rfl⟩) fun r s1 hr=>?_
 cases r with
 | error e=>exact hr
 | ok fl=>
  cases fl with
  | ret ob=>
   obtain⟨led,rfl,rfl⟩:=hr
   have g0:(s.heap.push (yO led)).get? s.heap.objs.size=some (yO led):=Heap.get?_push_size _ rfl
   have hT:Shared.TypeIs {s with heap:=s.heap.push (yO led)} (.ref s.heap.objs.size) "set":=⟨_,g0,rfl⟩
   have hli:=F.called_set.init.lookup
   have hbi:=F.called_set.init.bind (.ref s.heap.objs.size)
   repeat (any_goals (first | assumption | wp_step))
   refine codeAny_mono (codeAny_call_builtin (R:=wants (fun r s2=>r=.none∧ ∃h' tk,s2={s with heap:=h',toks:=tk}∧KSet P w h' s.heap.objs.size val items.size∧ ∀b o,s.heap.get? b=some o→h'.get? b=some o) E)
    F.called_set.init.plain F.entry_set_init (check_set_init_1 hT ?_)) fun r2 s2 hr2=>?_
   ·have hl1:(s.heap.push (yO led)).IsTuple l items:=hl.push _
    obtain⟨⟨oc,od,oda,os⟩,hol,hcl,nl,hdl⟩:=hl
    cases hcl
    cases hdl
    have hol':(s.heap.push (yO led)).get? l=some {cls:=.type "tuple",dict:=od,data:=.seq items nl,slots:=os}:=Heap.get?_push_of_some _ hol
    have hsls:=PySem.F.sub_tuple_set
    have hslf:=PySem.F.sub_tuple_frozenset
    have hne:(Value.type "tuple"==Value.type "dict")=false:=by decide
    have lt:l<s.heap.objs.size:=Heap.lt_size hol
    unfold Builtin.«set.__init__» noKeywords Builtin.Frozenset.updateFrom
    generalize hPI:pyIter=PI
    wp_walk
    subst hPI
    refine wpAny_pyIter_tuple hl1 ?_
    refine wpAny_bind (wpAny_runValue ?_)
    have h3:A.in1.in1.in1.handled=none:=by simp [hh]
    have lt2:l<(s.heap.push (yO led)).objs.size:=by rw [Heap.size_push];exact Nat.lt_succ_of_lt lt
    have out:s.heap.objs.size∉[(s.heap.push (yO led)).objs.size,l]:=by
     rw [Heap.size_push]
     intro z
     rcases List.mem_cons.mp z with z | z
     ·exact absurd z (Nat.ne_of_lt (Nat.lt_succ_self _))
     ·exact absurd (List.mem_singleton.mp z) (Nat.ne_of_gt lt)
    refine zLA ((Walks.tuple h3 _ l (Nat.ne_of_lt lt2) items).toS) (D:=s.heap.objs.size) (val:=val) out hv hb items.size 0 _ (Nat.zero_add _) ⟨⟨_,Heap.get?_push_size _ rfl,rfl,rfl⟩,hl1.push _⟩ ?hS0 ?hR
    case hS0=>
     have gg:((s.heap.push (yO led)).push {cls:=.type "tuple_iterator",data:=.fields #[.ref l,.int 0 0]}).get? s.heap.objs.size=some (yO led):=Heap.get?_push_of_some _ g0
     exact yKK gg
    case hR=>
     intro s' m hs'
     obtain⟨h',g',d',tk',os'⟩:=s'
     have e1:g'=s.gens:=m.gens
     have e2:d'=s.drawn:=m.drawn
     have e3:os'=s.os:=m.os
     subst e1;subst e2;subst e3
     show wpAny _ _ _ _ _ _
     refine wpAny_pure ?_
     show wpAny _ _ (ret Value.none) _ _ _
     refine wpAny_pure ⟨rfl,h',tk',rfl,hs',fun b o e=>?_⟩
     have hb0:=Heap.lt_size e
     refine m.heap b o (fun z=>?_) (Heap.get?_push_of_some _ (Heap.get?_push_of_some _ e))
     rcases List.mem_cons.mp z with z | z
     ·exact absurd z (Nat.ne_of_lt hb0)
     ·rw [Heap.size_push]at z
      exact absurd (List.mem_singleton.mp z) (Nat.ne_of_lt (Nat.lt_succ_of_lt hb0))
   ·cases r2 with
    | error e=>exact hr2
    | ok fl2=>
     cases fl2 with
     | ret r=>
      obtain⟨rfl,h',tk,rfl,hs',hk'⟩:=hr2
      repeat (any_goals (first | assumption | wp_step))
      exact h _ _ hs' hk'
     | _=>exact hr2.elim
  | _=>exact hr.elim
end
end M
end L2
namespace L2
namespace M
open PySem PySem.Spec PyProof.Rows
section
variable{X:Cx}{W:XW}{e:Expr}{af:Rho→Sto→R (List Er)}{p1 p2 pos1 pos2:Pos}
def yBY(ys:List (List Nat))(i:Nat):Key:=.inr (mkS (ys.getD i []))
def diff(ys:List (List Nat)):Nat:=(zDQ (yBY ys) ys.length).length
def setO(P:Program)(w:World)(l:Addr)(ys:List (List Nat)):HO:=.ext fun h=>KSet P w h l (yBY ys) ys.length
theorem zSR: ∀{ys:List (List Nat)}{us:List Value},Vals (ys.map fun x=>V.str (mkS x)) us→us.length=ys.length∧ ∀(i:Nat)(v:Value),us[i]? =some v→StrAt (yBY ys) i v
 | [],us,r=>by
  cases r
  exact⟨rfl,fun i v h=>by simp at h⟩
 | y::ys,us,r=>by
  rw [List.map_cons]at r
  cases r with
  | cons r1 r2=>
   obtain⟨t,rfl⟩:=r1
   obtain⟨h1,h2⟩:=zSR r2
   refine⟨by rw [List.length_cons,List.length_cons,h1],fun i v h=>?_⟩
   cases i with
   | zero=>
    simp at h
    exact⟨mkS y,t,rfl,h.symm⟩
   | succ i=>
    obtain⟨x,t',e1,e2⟩:=h2 i v (by simpa using h)
    exact⟨x,t',e1,e2⟩
theorem yBZ:CallR X (.type "set") (fun xs H Q=> ∃a k ys,xs=[.ref a]∧SqK k X.K H a (ys.map fun x=>V.str (mkS x))∧ys.length<4000∧X.calm=true∧ ∀l,H l=none→Q (.ref l) (upd H l (setO X.prog X.w l ys))):=by
 intro pins s σ H xs us Q I r h
 obtain⟨a,k,ys,rfl,hq,hn,hc,q⟩:=h
 obtain⟨u,rfl,rx⟩:=vals1 r
 cases rx
 have fin: ∀(h':Heap)(tk:Nat)(n:Nat),n=ys.length→KSet X.prog X.w h' s.heap.objs.size (yBY ys) n→(∀b o,s.heap.get? b=some o→h'.get? b=some o)→EP X pins σ Q (.ref s.heap.objs.size) {s with heap:=h',toks:=tk}:=by
  intro h' tk n en hs kp
  subst en
  refine⟨.ref s.heap.objs.size,_,I.laid (o:=setO X.prog X.w s.heap.objs.size ys) (t':=tk) kp (Nat.le_refl _) ⟨hs,?_,fun h1 h2 z mv=>z.move mv⟩,rfl,q _ (I.hok.fresh (Nat.le_refl _))⟩
  obtain⟨o,_,_,_,ho,_⟩:=hs
  exact⟨o,ho⟩
 cases k with
 | true=>
  obtain⟨its,rv,p,hz⟩:=I.list (show SqL X.K H a _ from hq)
  obtain⟨e1,e2⟩:=zSR rv
  have sz:its.toArray.size=ys.length:=by rw [List.size_toArray];exact e1
  exact call_set_list (val:=yBY ys) (I.ok.hd hc) p.isList (fun i v h=>e2 i v (by simpa using h)) (by rw [sz];unfold scanBound;omega) fun h' tk hs kp=>fin h' tk _ sz hs kp
 | false=>
  obtain⟨its,rv,p,hz⟩:=I.tuple (show SqT X.K H a _ from hq)
  obtain⟨e1,e2⟩:=zSR rv
  have sz:its.toArray.size=ys.length:=by rw [List.size_toArray];exact e1
  exact zOY (val:=yBY ys) (I.ok.hd hc) (show s.heap.IsTuple a its.toArray from p) (fun i v h=>e2 i v (by simpa using h)) (by rw [sz];unfold scanBound;omega) fun h' tk hs kp=>fin h' tk _ sz hs kp
theorem yCA:CallR X (.builtin "len") (fun xs H Q=> ∃l ys,xs=[.ref l]∧ys.length<4000∧H l=some (setO X.prog X.w l ys)∧Q (.int (diff ys:Nat)) H):=by
 intro pins s σ H xs us Q I r h
 obtain⟨l,ys,rfl,hn,hl,q⟩:=h
 obtain⟨u,rfl,rx⟩:=vals1 r
 cases rx
 obtain⟨hs,_⟩:=(show ObjOk X.prog X.w H s.heap l (setO X.prog X.w l ys)from I.hok l _ hl)
 obtain⟨o,es,ep,t,ho,hex,hd,hel,hmem,hb,hf,hz⟩:=hs
 have hdz:diff ys=es.size:=hz.symm
 rw [hdz]at q
 have hb':es.size<4096:=hb
 exact call_len_set ho hex hd hf (by omega) ⟨.int (es.size:Nat),H,I.tok _,⟨s.toks+1,rfl⟩,q⟩
def strsOf:List MV→Option (List (List Nat))
 | []=>some []
 | .str x::r=>(strsOf r).map (x::·)
 | _=>none
theorem zUZ{K:PySem.W.Frag}{α:List Addr}{H:Hp}: ∀{ds:List MV}{ys:List (List Nat)}{vs:List V},strsOf ds=some ys→DenL K α H ds vs→vs=ys.map fun x=>V.str (mkS x)
 | [],ys,vs,h,d=>by
  cases h
  rw [d.isnil];rfl
 | x::ds,ys,vs,h,d=>by
  obtain⟨v,r,rfl,dv,l⟩:=d.uncons
  cases x with
  | str x=>
   unfold strsOf at h
   cases z:strsOf ds with
   | none=>rw [z]at h;cases h
   | some zs=>
    rw [z]at h
    cases h
    rw [List.map_cons,jH dv,zUZ z l]
  | _=>cases h
def zMC(rs:List Er)(S:Sto):R Er:=match rs with
 | [r]=>match srcOf S r with
  | some q=>match strsOf q.ds with
   | some ys=>if ys.length<4000 then .ok (.val (.int (diff ys:Nat))) S else .no
   | none=>.no
  | none=>.no
 | _=>.no
theorem yNH:bootBuiltins "set"=some (.type "set"):=by decide+kernel
theorem zZO(hc:X.calm=true)(hg:Gl X "len")(hm:X.mg "len"=none)(hg2:Gl X "set")(hm2:X.mg "set"=none)(ha:PAm X W [e] af)
  (he:starEach [e] X.env=(false,eval e X.env)::starEach [] X.env:=by rfl) (hpl:(backTo pos2 (starEach [] X.env)).any (·.1)=false:=by rfl)
  (he1:starEach [.Call (.Name "set" p2) [e] [] pos2] X.env=(false,eval (.Call (.Name "set" p2) [e] [] pos2) X.env)::starEach [] X.env:=by rfl) (hpl1:(backTo pos1 (starEach [] X.env)).any (·.1)=false:=by rfl):
  PEm X W (.Call (.Name "len" p1) [.Call (.Name "set" p2) [e] [] pos2] [] pos1) (fun ρ S=>(af ρ S).bind zMC):=by
 obtain⟨t,ha,k⟩:=ha
 refine⟨_,zJF yCA hg hm yS (zAA (zQQ yBZ hg2 hm2 yNH ha (by decide) (by decide) he hpl) zKS he1) (by decide) (by decide) he1 hpl1,fun α ρ S σ H Q wd sl q=>k α ρ S σ H _ wd sl (q.bind fun vs rs S1 α1 H1 e1 x1 w1 d1 q1=>?_)⟩
 replace q1:=q1.shift x1
 unfold zMC at q1
 split at q1
 ·rename_i r
  split at q1
  ·rename_i q e1
   split at q1
   ·rename_i ys ey
    split at q1
    ·rename_i hn
     obtain⟨u,rfl,du⟩:=zYZ d1
     obtain⟨l1,P1,rfl,pp,D1⟩:=zXI w1 e1 du
     obtain⟨us,c1,c2⟩:=D1.get _ _ _ pp
     rw [zUZ ey c2]at c1
     exact⟨l1,q.k,ys,rfl,c1,hn,hc,fun l hl=>⟨l,ys,rfl,hn,zX,(q1.shift (w1.newx hl)).val (w1.new hl) (xA _)⟩⟩
    ·exact q1.elim
   ·exact q1.elim
  ·exact q1.elim
 ·exact q1.elim
end
end M
end L2
namespace L2
namespace M
open PySem PySem.Spec PyProof.Rows
def VAt(d:Addr)(us:List Value)(ep:Nat)(h:Heap):Prop:= ∃o es,h.get? d=some o∧o.ExactDict∧o.data=.dict es ep∧es.toList.map (·.val)=us
theorem VAt.size{d:Addr}{us:List Value}{ep:Nat}{h:Heap}(x:VAt d us ep h): ∃o es,h.get? d=some o∧o.ExactDict∧o.data=.dict es ep∧es.size=us.length∧ ∀i (hi:i<es.size),us[i]? =some es[i].val:=by
 obtain⟨o,es,ho,hc,hd,e⟩:=x
 refine⟨o,es,ho,hc,hd,by rw [←e,List.length_map,Array.length_toList],fun i hi=>?_⟩
 rw [←e,List.getElem?_map,Array.getElem?_toList,Array.getElem?_eq_getElem hi]
 rfl
end M
end L2
namespace L2
open PySem PySem.Spec PyProof.Rows
section
variable{prog:Program}{w:World}{A:Around}{E:Value→Shared→Prop}{h:Heap}{g:Array GenState}{d:Drawn}{t:Nat}{os:OsState}
variable{nm q:Str}{C N:Addr}{bs bm bmB:List Value}{hdct:Bool}{sn:List Str}{sub:List Value}{ab:Bool}{col:Option Bool}{dd:Option Addr}{k0 k1 k2 k3 k5:Option Value}{B newId initId:String}
theorem zML(F:ExcBaseFacts B newId initId bmB)(T:OwnTail h bmB bm){mN:Str→Option Value}{rest:List Value}{fI:Addr}{oI:Obj}{Q:Fin→Shared→Prop}
  (hC:h.get? C=some (excClassObj nm q C N bs bm hdct sn sub ab col dd k0 k1 k2 k3 k5 newId)) (hn:h.Ns N mN) (hi:mN "__init__"=some (.ref fI)) (hfI:h.get? fI=some oI) (hfc:oI.cls=.type "function")
  (hq: ∀h' e,Heap.MadeExcOf h h' e (.ref C) rest→wpAny (model prog w) A (call (.ref fI) (.ref e::rest)) (fun r s'=>r=.none∧Q (.done (.ret (.ref e))) s') E ⟨h',g,d,t,os⟩) (hrest:rest.length≤sizeLine):
  wpAny (model prog w) A (Builtin.«type.__call__» ⟨.ref C::rest,[]⟩) Q E ⟨h,g,d,t,os⟩:=by
 repeat (first | with_reducible refine wpAny_loadPart_at hC ?_ | with_reducible refine wpAny_madeBy_exc hC ?_ | wp_step)
 refine codeAny_call_builtin_code (Code.quiet_builtin _ F.quiet) (wpAny_check_new_subT F T hC ?_)
 refine codeAny_exc_new_subT F T hC ?_ hrest
 show wpAny _ _ _ _ _ _
 have hC₁:=Heap.get?_push_of_some {cls:=.ref C,data:=.fields #[.ref h.objs.size,.none,.none,.none,.bool false,.none]} (Heap.get?_push_of_some {cls:=.type "tuple",data:=.seq rest.toArray} hC)
 have hfI₁:=Heap.get?_push_of_some {cls:=.ref C,data:=.fields #[.ref h.objs.size,.none,.none,.none,.bool false,.none]} (Heap.get?_push_of_some {cls:=.type "tuple",data:=.seq rest.toArray} hfI)
 have hn₁:((h.push {cls:=.type "tuple",data:=.seq rest.toArray}).push {cls:=.ref C,data:=.fields #[.ref h.objs.size,.none,.none,.none,.bool false,.none]}).Ns N mN:=
  let ⟨o,es,ep,e,r⟩:=hn;⟨o,es,ep,Heap.get?_push_of_some _ (Heap.get?_push_of_some _ e),r⟩
 have hget:((h.push {cls:=.type "tuple",data:=.seq rest.toArray}).push {cls:=.ref C,data:=.fields #[.ref h.objs.size,.none,.none,.none,.bool false,.none]}).get? (h.objs.size+1)=some {cls:=.ref C,data:=.fields #[.ref h.objs.size,.none,.none,.none,.bool false,.none]}:=by heap_get
 have hcC:(Value.ref C::bm).contains (.ref C)=true:=by simp
 have T₁:=T.keeps (h':=(h.push {cls:=.type "tuple",data:=.seq rest.toArray}).push {cls:=.ref C,data:=.fields #[.ref h.objs.size,.none,.none,.none,.bool false,.none]}) fun b o e=>Heap.get?_push_of_some _ (Heap.get?_push_of_some _ e)
 unfold isInstance
 repeat (first | with_reducible refine wpAny_loadPart_at hget ?_ | (with_reducible refine wpAny_isSubtype_exc hC₁ ?_;rw [hcC]) | wp_step)
 show wpAny _ _ (typeLookup (.ref C) _) _ _ _
 refine wpAny_typeLookup_tail hC₁ hn₁ T₁ F.mroIs F.init.lookup ?_
 rw [hi]
 refine wpAny_holding (wpAny_bind ?_)
 unfold bindSpecial
 refine wpAny_bind (wpAny_typeOf (T:="function") ⟨_,hfI₁,hfc⟩ ?_)
 rw [if_pos (by decide)]
 refine wpAny_pure (wpAny_bind (wpAny_mono (hq _ (h.objs.size+1) ⟨fun b o hb=>Heap.get?_push_of_some _ (Heap.get?_push_of_some _ hb),Heap.get?_none_of_le (Nat.le_succ _),h.objs.size,hget,Heap.get?_none_of_le (Nat.le_refl _),?_⟩) (fun r s' hr=>?_) fun _ _ x=>x))
 ·exact Heap.get?_push_of_some _ (Heap.get?_push_at rfl rfl)
 ·obtain⟨rfl,hQ⟩:=hr
  wp_walk
  exact hQ
theorem zXR(F:ExcBaseFacts B newId initId bmB)(T:OwnTail h bmB bm){mN:Str→Option Value}{rest:List Value}{fI:Addr}{oI:Obj}{Q:Value→Shared→Prop}
  (hC:h.get? C=some (excClassObj nm q C N bs bm hdct sn sub ab col dd k0 k1 k2 k3 k5 newId)) (hn:h.Ns N mN) (hi:mN "__init__"=some (.ref fI)) (hfI:h.get? fI=some oI) (hfc:oI.cls=.type "function")
  (hq: ∀h' e,Heap.MadeExcOf h h' e (.ref C) rest→wpAny (model prog w) (A.under (.builtin "type.__call__" ⟨.ref C::rest,[]⟩)) (call (.ref fI) (.ref e::rest)) (fun r s'=>r=.none∧Q (.ref e) s') E ⟨h',g,d,t,os⟩) (hrest:rest.length≤sizeLine):
  wpAny (model prog w) A (call (.ref C) rest) Q E ⟨h,g,d,t,os⟩:=by
 have f1:=tc_lookup
 have f2:=tc_bind (.ref C)
 have hT:(⟨h,g,d,t,os⟩:Shared).TypeIs (.ref C) "type":=⟨_,hC,rfl⟩
 refine wpAny_call (codeAny_of_tree ?_)
 show wpAny _ _ (callAny (.ref C) _) _ _ _
 repeat (any_goals (first | assumption | with_reducible refine wpAny_loadPart_at hC ?_ | wp_step))
 refine⟨rfl,?_⟩
 refine codeAny_call_builtin_at (Code.quiet_builtin _ (by decide+kernel)) entry_typeCall (wpAny_check_type_call_sub hC (zML (hrest:=hrest) F T hC hn hi hfI hfc fun h' e hm=>?_))
 exact hq h' e hm
end
section
variable{prog:Program}{w:World}{A:Around}{E:Value→Shared→Prop}{s:Shared}{env:Env}
variable{nm q:Str}{C N:Addr}{bs bm bmB:List Value}{hdct:Bool}{sn:List Str}{sub:List Value}{ab:Bool}{col:Option Bool}{dd:Option Addr}{k0 k1 k2 k3 k5:Option Value}{B newId initId:String}
theorem zOZ{M:Model}{x:Sem Value}{Q:Flow→Shared→Prop}(hbase:bm.contains (.type "BaseException")=true)(hh:A.handled=none)
  (h:wpAny M A x (fun v s₁=> ∃e dX vs,v=.ref e∧s₁.heap.get? C=some (excClassObj nm q C N bs bm hdct sn sub ab col dd k0 k1 k2 k3 k5 newId)∧s₁.heap.get? e=some {cls:=.ref C,dict:=dX,data:=.fields #[.ref vs,.none,.none,.none,.bool false,.none]}∧E (.ref e) s₁) E s):
  wpAny M A (raiseStmt env (some x) none) Q E s:=by
 have hcB:(Value.ref C::bm).contains (.type "BaseException")=true:=by rw [List.contains_cons,hbase,Bool.or_true]
 unfold raiseStmt
 refine wpAny_bind (wpAny_mono h (fun v s₁ h₁=>?_) fun _ _ x=>x)
 obtain⟨e,dX,vs,rfl,hC,he,hE⟩:=h₁
 obtain⟨hp,g,d,tk,os⟩:=s₁
 repeat (first | with_reducible refine wpAny_loadPart_at he ?_ | with_reducible refine wpAny_loadPart_at hC ?_ | (with_reducible refine wpAny_isSubtype_exc hC ?_;rw [hcB]) | wp_step)
 exact wpAny_raiseNew_none hh hE
theorem zVA(F:ExcBaseFacts B newId initId bmB){mN:Str→Option Value}{x:Str}{np cpos pos:Pos}{args:List Expr}{fI:Addr}{oI:Obj}{Q:Flow→Shared→Prop}
  (hbase:bm.contains (.type "BaseException")=true) (hh:A.handled=none) (hplain:(backTo cpos (starEach args env)).any (·.1)=false) (hi:mN "__init__"=some (.ref fI)) (hfc:oI.cls=.type "function")
  (h:wpAny (model prog w) A (eval (.Name x np) env) (fun f s₁=>f=.ref C∧wpAny (model prog w) A (evalArgs (.ref C) true (backTo cpos (starEach args env)) [])
   (fun a s₂=>a.kw=[]∧a.pos.length≤sizeLine∧s₂.heap.get? C=some (excClassObj nm q C N bs bm hdct sn sub ab col dd k0 k1 k2 k3 k5 newId)∧s₂.heap.Ns N mN∧OwnTail s₂.heap bmB bm∧s₂.heap.get? fI=some oI∧
    ∀h' e,Heap.MadeExcOf s₂.heap h' e (.ref C) a.pos→wpAny (model prog w) (A.under (.builtin "type.__call__" ⟨.ref C::a.pos,[]⟩)) (call (.ref fI) (.ref e::a.pos))
     (fun r s'=>r=.none∧ ∃dX vs,s'.heap.get? C=some (excClassObj nm q C N bs bm hdct sn sub ab col dd k0 k1 k2 k3 k5 newId)∧s'.heap.get? e=some {cls:=.ref C,dict:=dX,data:=.fields #[.ref vs,.none,.none,.none,.bool false,.none]}∧E (.ref e) s') E {s₂ with heap:=h'}) E s₁) E s):
  wpAny (model prog w) A (exec (.Raise (some (.Call (.Name x np) args [] cpos)) none pos) env) Q E s:=by
 rw [arm_exec_Raise]
 first
  | refine wpAny_bind (wpAny_standAt (zOZ (C:=C) (nm:=nm) (q:=q) (N:=N) (bs:=bs) (bm:=bm) (hdct:=hdct) (sn:=sn) (sub:=sub) (ab:=ab) (col:=col) (dd:=dd) (k0:=k0) (k1:=k1) (k2:=k2) (k3:=k3) (k5:=k5) (newId:=newId) hbase hh (wpAny_bind (wpAny_mono (wpAny_Call_ofName (wpAny_mono h (fun f s₁ h₁=>?_) fun _ _ x=>x)) (fun v s₃ h₃=>wpAny_bind (wpAny_standAt (wpAny_pure h₃))) fun _ _ x=>x))))
  | (simp only [evalOpt,Option.map];refine wpAny_bind (wpAny_standAt (zOZ (C:=C) (nm:=nm) (q:=q) (N:=N) (bs:=bs) (bm:=bm) (hdct:=hdct) (sn:=sn) (sub:=sub) (ab:=ab) (col:=col) (dd:=dd) (k0:=k0) (k1:=k1) (k2:=k2) (k3:=k3) (k5:=k5) (newId:=newId) hbase hh (wpAny_bind (wpAny_mono (wpAny_Call_ofName (wpAny_mono h (fun f s₁ h₁=>?_) fun _ _ x=>x)) (fun v s₃ h₃=>wpAny_bind (wpAny_standAt (wpAny_pure h₃))) fun _ _ x=>x)))))
 obtain⟨rfl,h₁⟩:=h₁
 unfold callWith
 refine wpAny_bind (wpAny_holding (wpAny_mono h₁ (fun a s₂ h₂=>wpAny_bind (wpAny_standAt ?_)) fun _ _ x=>x))
 obtain⟨apos,akw⟩:=a
 obtain⟨hkw,hlen,hC,hn,T,hfI,h₂⟩:=h₂
 obtain rfl:akw=[]:=hkw
 obtain⟨hp,g,d,tk,os⟩:=s₂
 simp only [hplain]
 refine wpAny_bind (wpAny_keeperOf_exc hC ?_)
 refine wpAny_bind (zXR (hrest:=hlen) F T hC hn hi hfI hfc fun h' e hm=>wpAny_mono (h₂ h' e hm) (fun r s' ⟨hr,dX,vs,a1,a2,a4⟩=>⟨hr,wpAny_bind (wpAny_holding (wpAny_point (wpAny_pure ⟨e,dX,vs,rfl,a1,a2,a4⟩)))⟩) fun _ _ z=>z)
end
end L2
namespace L2
open PySem PySem.Spec PyProof.Rows
open Builtin Builtin.ObjectAttr
section
variable{prog:Program}{w:World}{A:Around}{E:Value→Shared→Prop}{h:Heap}{g:Array GenState}{d:Drawn}{t:Nat}{os:OsState}{C M x:Addr}{o:Obj}{v:Value}{name:Str}
variable{nm q:Str}{N:Addr}{bs bm:List Value}{sn:List Str}{sub:List Value}{ab:Bool}{col:Option Bool}{dd:Option Addr}{k0 k1 k2 k3 k5:Option Value}{newId:String}
theorem zXS{Mo:Model}{nameV:Value}{Q:Unit→Shared→Prop}(O:zDK h C M)(hx:h.get? x=some o)(hc:o.cls=.ref C)(hq:Q () ⟨h,g,d,t,os⟩):
  wpAny Mo A (checkBuiltinCall "object.__setattr__" ⟨[.ref x,nameV,v],[]⟩) Q E ⟨h,g,d,t,os⟩:=by
 have SF:=F.store_ValueError
 have hcB:(Value.ref C::.ref M::bmV).contains (.type "object")=true:=by simp [List.contains_cons]
 have ha:=SF.args (.ref x) nameV v
 simp only [checkBuiltinCall,SF.kind,SF.split]
 refine wpAny_bind ?_
 ·unfold isInstance
  repeat (first | (with_reducible refine wpAny_loadPart_at hx ?_;rw [hc]) | (with_reducible refine zDL O ?_;rw [hcB]) | wp_step)
  exact hq
def yKL(h h':Heap)(x:Addr)(o:Obj)(name:Str)(v:Value)(dx:Addr):Prop:=
 h.get? dx=none∧dx≠x∧h'.get? x=some {cls:=o.cls,dict:=some dx,data:=o.data,slots:=o.slots}∧h'.Ns1 dx (fun y=>if y=name then some v else none)∧ ∀b ob,b≠x→h.get? b=some ob→h'.get? b=some ob
theorem zXT{tk:Tok}{Q:Fin→Shared→Prop}(O:zDK h C M)(hC:h.get? C=some (excClassObj nm q C N bs (.ref M::bmV) true sn sub ab col dd k0 k1 k2 k3 k5 newId))(hx:h.get? x=some o)(hc:o.cls=.ref C)(hdn:o.dict=none)(hnc: ∀c,o.data≠.cls c)
  (hn:name∈qn) (hB:typeLookup (.type "ValueError") name=pure none) (hq: ∀h' tk' dx,yKL h h' x o name v dx→Q (.done (.ret .none)) ⟨h',g,d,tk',os⟩):
  wpAny (model prog w) A (Builtin.«object.__setattr__» ⟨[.ref x,.str name tk,v],[]⟩) Q E ⟨h,g,d,t,os⟩:=by
 have hpass:=F.store_ValueError.passes (.ref x)
 unfold Builtin.«object.__setattr__»
 repeat (first | rw [refuse_eq] | (rw [refuseLoop_ref,refuseLoop_ref,hpass]) | (with_reducible refine wpAny_loadPart_at hx ?_;rw [hc]) | with_reducible refine wpAny_mroOf_exc hC ?_ | with_reducible refine zBZ O hn hB ?_ | wp_step)
 rw [hdn,if_neg (by simp [typeHasDict])]
 split
 ·rename_i hcd
  cases hcd
 split
 ·rename_i c hcd
  exact absurd hcd (hnc c)
 ·have hx₁:(h.push {cls:=.type "dict",data:=.dict #[]}).get? x=some o:=Heap.get?_push_of_some _ hx
  have hxs:x≠h.objs.size:=Nat.ne_of_lt (Heap.lt_size hx)
  refine wpAny_bind (wpAny_alloc' ?_)
  refine wpAny_bind (wpAny_update' hx₁ ?_)
  refine wpAny_pure ?_
  have hgd:((h.push {cls:=.type "dict",data:=.dict #[]}).update x fun o=>{cls:=o.cls,dict:=some h.objs.size,data:=o.data,slots:=o.slots}).get? h.objs.size=some {cls:=.type "dict",data:=.dict #[]}:=
   (Heap.get?_update_ne _ _ _ _ hxs.symm).trans (Heap.get?_push_at rfl rfl)
  have hnd:((h.push {cls:=.type "dict",data:=.dict #[]}).update x fun o=>{cls:=o.cls,dict:=some h.objs.size,data:=o.data,slots:=o.slots}).Ns h.objs.size (fun _=>none):=
   ⟨_,#[],_,hgd,rfl,fun e he=>absurd he (by simp),fun _=>rfl⟩
  show wpAny _ _ (storeInDict h.objs.size (.str name tk) name v) _ _ _
  unfold storeInDict newKeyGuard
  refine wpAny_bind (wpAny_pure (wpAny_bind (wpAny_nsSet1 (Heap.Ns1.of_empty hnd) fun h' hn' hs=>?_)))
  obtain⟨oD,esD,epD,hoD,hdD,hcD⟩:=hn'.count (Within.cons name v Within.nil)
  refine wpAny_bind (wpAny_lookBehind hoD (by rw [hdD];exact pastItsLine_dict (Nat.le_trans hcD (by rw [List.length_cons,List.length_nil,sizeLine_eq];omega))) ?_)
  wp_walk
  refine hq h' _ h.objs.size ⟨Heap.get?_none_of_le (Nat.le_refl _),hxs.symm,?_,hn',fun b ob hbx hb=>(hs.2 b (Nat.ne_of_lt (Heap.lt_size hb))).trans ((Heap.get?_update_ne _ _ _ _ hbx).trans (Heap.get?_push_of_some _ hb))⟩
  refine(hs.2 x hxs).trans (Heap.get?_update_self _ hx₁ ?_)
  have hfr:=(Heap.get?_some_iff.mp hx).2
  obtain⟨oc,od,odt,osl⟩:=o
  cases odt<;>first | rfl | exact hfr
theorem yCB{Q:Unit→Shared→Prop}(O:zDK h C M)(hC:h.get? C=some (excClassObj nm q C N bs (.ref M::bmV) true sn sub ab col dd k0 k1 k2 k3 k5 newId))(hx:h.get? x=some o)(hc:o.cls=.ref C)(hdn:o.dict=none)(hnc: ∀c,o.data≠.cls c)
  (hn:name∈qn) (hB:typeLookup (.type "ValueError") name=pure none) (hq: ∀h' tk' dx,yKL h h' x o name v dx→Q () ⟨h',g,d,tk',os⟩):wpAny (model prog w) A (setAttr (.ref x) name v) Q E ⟨h,g,d,t,os⟩:=by
 have f3:=F.store_ValueError.slot.bind (.ref x)
 have q4:("__setattr__":Str)∈qn:=by decide
 unfold setAttr callSpecial? specialOf
 repeat (any_goals (first | assumption | (with_reducible refine wpAny_loadPart_at hx ?_;rw [hc]) | with_reducible refine zBZ O q4 F.store_ValueError.slot.lookup ?_ | wp_step))
 refine codeAny_call_builtin F.store_ValueError.slot.plain F.store_ValueError.entry (zXS O hx hc (zXT O hC hx hc hdn hnc hn hB fun h' tk' dx hs=>?_))
 repeat (any_goals (first | assumption | wp_step))
 exact hq h' tk' dx hs
theorem zXU{tk:Tok}{dx:Addr}{mA:Str→Option Value}{Q:Fin→Shared→Prop}(O:zDK h C M)(hC:h.get? C=some (excClassObj nm q C N bs bm true sn sub ab col dd k0 k1 k2 k3 k5 newId))(hx:h.get? x=some o)(hc:o.cls=.ref C)(hdx:o.dict=some dx)(hnc: ∀c,o.data≠.cls c)(hns:h.Ns1 dx mA)(hv:mA name=some v)
  (hn:name∈qn) (hB:typeLookup (.type "ValueError") name=pure none) (hq:Q (.done (.ret v)) ⟨h,g,d,t,os⟩):
  wpAny (model prog w) A (Builtin.«object.__getattribute__» ⟨[.ref x,.str name tk],[]⟩) Q E ⟨h,g,d,t,os⟩:=by
 repeat (any_goals (first | assumption | (with_reducible refine wpAny_loadPart_at hx ?_;rw [hc]) | with_reducible refine zBZ O hn hB ?_ | wp_step))
 split
 ·rename_i c hcd
  exact absurd hcd (hnc c)
 unfold instanceDict
 repeat (first | (with_reducible refine wpAny_loadPart_at hx ?_;rw [hc]) | with_reducible refine wpAny_loadPart_at hC ?_ | wp_step)
 rw [hdx]
 repeat (first | (with_reducible refine wpAny_nsGet hns.ns ?_;rw [hv]) | wp_step)
 exact hq
theorem yCC{tk:Tok}{dx:Addr}{mA:Str→Option Value}{R:Result→Shared→Prop}(O:zDK h C M)(hC:h.get? C=some (excClassObj nm q C N bs bm true sn sub ab col dd k0 k1 k2 k3 k5 newId))(hx:h.get? x=some o)(hc:o.cls=.ref C)(hdx:o.dict=some dx)(hnc: ∀c,o.data≠.cls c)(hns:h.Ns1 dx mA)(hv:mA name=some v)
  (hn:name∈qn) (hB:typeLookup (.type "ValueError") name=pure none) (hq:R (.ok (.ret v)) ⟨h,g,d,t,os⟩):
  codeAny (model prog w) A (.call (.builtin "BaseException.__getattribute__") ⟨[.ref x,.str name tk],[]⟩) R ⟨h,g,d,t,os⟩:=
 codeAny_call_builtin F.attrBase_ValueError.ga.plain F.entry_bexc_ga (zQW O hx hc (zXU O hC hx hc hdx hnc hns hv hn hB hq))
theorem yIX{tk:Tok}{dx:Addr}{mA:Str→Option Value}{fill expr:Bool}{Q:Value→Shared→Prop}(O:zDK h C M)(hC:h.get? C=some (excClassObj nm q C N bs bm true sn sub ab col dd k0 k1 k2 k3 k5 newId))(hx:h.get? x=some o)(hc:o.cls=.ref C)(hdx:o.dict=some dx)(hnc: ∀c,o.data≠.cls c)(hns:h.Ns1 dx mA)(hv:mA name=some v)
  (hn:name∈qn) (hB:typeLookup (.type "ValueError") name=pure none) (hh:handedOut v=pure v) (hq:Q v ⟨h,g,d,t,os⟩):
  wpAny (model prog w) A (getAttrBy (.ref x) (.str name tk) fill expr) Q E ⟨h,g,d,t,os⟩:=by
 have f3:=F.attrBase_ValueError.ga.bind (.ref x)
 have hx0:(expr&&onTheHeap (Value.builtin "BaseException.__getattribute__"))=false:=by cases expr<;>rfl
 have hx2:(Value.builtin "BaseException.__getattribute__"==Value.builtin "object.__getattribute__")=false:=by decide+kernel
 have hx1:(onTheHeap (Value.ref C)&&Value.builtin "BaseException.__getattribute__"==Value.builtin "object.__getattribute__")=false:=by rw [hx2];rfl
 repeat (any_goals (first | assumption | (with_reducible refine wpAny_loadPart_at hx ?_;rw [hc]) | with_reducible refine zBZ O qn2 yKE ?_ | with_reducible refine zBZ O qn3 zUG ?_ | wp_step))
 refine yCC O hC hx hc hdx hnc hns hv hn hB ?_
 repeat (any_goals (first | assumption | rw [hh] | wp_step))
theorem yCD{dx:Addr}{mA:Str→Option Value}{expr:Bool}{Q:Value→Shared→Prop}(O:zDK h C M)(hC:h.get? C=some (excClassObj nm q C N bs bm true sn sub ab col dd k0 k1 k2 k3 k5 newId))(hx:h.get? x=some o)(hc:o.cls=.ref C)(hdx:o.dict=some dx)(hnc: ∀c,o.data≠.cls c)(hns:h.Ns1 dx mA)(hv:mA name=some v)
  (hn:name∈qn) (hB:typeLookup (.type "ValueError") name=pure none) (hh:handedOut v=pure v) (hq:Q v ⟨h,g,d,t+1,os⟩):wpAny (model prog w) A (getAttr (.ref x) name expr) Q E ⟨h,g,d,t,os⟩:=by
 unfold getAttr
 repeat (any_goals (first | assumption | with_reducible apply yIX O hC hx hc hdx hnc hns hv hn hB hh | wp_step))
end
theorem zJX:typeLookup (.type "ValueError") "place"=pure none:=by rw [typeLookup_type,builtinLookup_eq_fast];kernel_rfl
abbrev exO(C:Addr)(d:Option Addr)(t:Addr):Obj:={cls:=.ref C,dict:=d,data:=.fields #[.ref t,.none,.none,.none,.bool false,.none]}
section
variable{prog:Program}{w:World}{A:Around}{E:Value→Shared→Prop}{h:Heap}{g:Array GenState}{d:Drawn}{t:Nat}{os:OsState}{C M x t0:Addr}{u:Value}
variable{nm q:Str}{N:Addr}{bs bm bmB:List Value}{hdct:Bool}{sn:List Str}{sub:List Value}{ab:Bool}{col:Option Bool}{dd:Option Addr}{k0 k1 k2 k3 k5:Option Value}{B newId initId:String}
theorem zXV(F:ExcBaseFacts B newId initId bmB)(T:OwnTail h bmB bm){Q:Value→Shared→Prop}(hC:h.get? C=some (excClassObj nm q C N bs bm hdct sn sub ab col dd k0 k1 k2 k3 k5 newId))(hx:h.get? x=some (exO C none t0))
  (hq: ∀h' t1,h'.get? x=some (exO C none t1)→(∀b ob,b≠x→h.get? b=some ob→h'.get? b=some ob)→Q .none ⟨h',g,d,t,os⟩):wpAny (model prog w) A (call (.builtin initId) [.ref x,u]) Q E ⟨h,g,d,t,os⟩:=by
 refine wpAny_call (codeAny_call_builtin F.init.plain F.initEntry (wpAny_check_init_subT F T hC hx rfl ?_))
 wp_walk
 refine hq _ (h.objs.size) ?_ fun b ob hb hob=>?_
 ·rw [Heap.get?_update_self _ (Heap.get?_push_of_some _ hx) rfl]
  rfl
 ·rw [Heap.get?_update_other _ _ (Ne.symm hb)]
  exact Heap.get?_push_of_some _ hob
end
end L2
namespace L2
open PySem PySem.Spec PyProof.Rows
abbrev BIG:Nat:=10 ^ 100
inductive JL(par:Str):List Expr→Prop
 | nil:JL par []
 | txt {y:Str} {k:Nat} {pos:Pos} {es:List Expr}:y.length≤200→JL par es→JL par (.Constant (.str y) k pos::es)
 | fld {p pos:Pos} {es:List Expr}:JL par es→JL par (.FormattedValue (.Name par p) (-1) none pos::es)
section
variable{X:Cx}{par:Str}{i:Nat}{pins:List (Addr×Obj)}{σ:St}{H:Hp}
theorem yFM(hN:X.N[i]? =some par)(hv:Vis X.env.scope par)(hd:(par==("__debug__":Str))=false)(hcd:(par==("__classdict__":Str))=false){n:Int}(hs:σ[i]? =some (some (.int n)))(hb:n.natAbs<BIG){Q:Str→Shared→Prop}(hq: ∀y s,y.length≤100000→Inv X pins σ H s→Q y s)
  {es:List Expr} (hj:JL par es): ∀(acc:Str)(s:Shared),acc.length+200 * es.length≤100000→Inv X pins σ H s→Joins (model X.prog X.w) X.A X.xe (evalEach es X.env) acc Q s:=by
 induction hj with
 | nil=>intro acc s hl I;exact hq acc s (by simpa using hl) I
 | @txt y k pos es hy h ih=>
  intro acc s hl I
  rw [List.length_cons]at hl
  have sl:(acc++y).length=acc.length+y.length:=PySem.strLen_append ..
  refine thn (yCS (X:=X) pins s σ H (fun v H'=>v=.str y∧H'=H) I ⟨rfl,rfl⟩) fun u s1 ⟨v,H',I',r,e1,e2⟩=>?_
  subst e1 e2
  obtain⟨tk,rfl⟩:=r
  exact⟨y,tk,rfl,by rw [sl,sizeLine_eq];omega,ih (acc++y) s1 (by rw [sl];omega) I'⟩
 | @fld p pos es h ih=>
  intro acc s hl I
  rw [List.length_cons]at hl
  have len:(Str.ofString (toString n)).length≤101:=by rw [PySem.ofString_length];exact int_text_length_le10 (k:=100) (by decide) hb
  have sl:(acc++(toString n:Str)).length≤acc.length+101:=by
   have:=PySem.strLen_append acc (toString n:Str)
   rw [this];exact Nat.add_le_add_left len _
  have hlog:n.natAbs.log2<1920:=by
   by_cases z:n.natAbs=0
   ·rw [z];decide
   ·exact(Nat.log2_lt z).mpr (Nat.lt_trans hb (by decide+kernel))
  refine wpAny_FormattedValue_plain (thn (zNJ (X:=X) hN hv hd hcd pins s σ H (fun v H'=>v=.int n∧H'=H) I ⟨_,hs,rfl,rfl⟩) fun u s1 ⟨v,H',I',r,e1,e2⟩=>?_)
  subst e1 e2
  obtain⟨tk,rfl⟩:=r
  exact wpAny_formatField_int hlog ⟨_,_,rfl,by rw [sizeLine_eq];omega,ih _ _ (by omega) (I'.tok _)⟩
def tJ(i:Nat):TE:=fun σ H Q=> ∃n,σ[i]? =some (some (.int n))∧n.natAbs<BIG∧ ∀y:Str,Q (.str y) H
theorem yIY{v1 v2:Expr}{vs:List Expr}{pos:Pos}(hN:X.N[i]? =some par)(hv:Vis X.env.scope par)(hd:(par==("__debug__":Str))=false)(hcd:(par==("__classdict__":Str))=false)(h:JL par (v1::v2::vs))(hl:vs.length≤100):PE X (.JoinedStr (v1::v2::vs) pos) (tJ i):=by
 intro pins s σ H Q I ⟨n,hs,hb,q⟩
 refine wpAny_JoinedStr (yFM (pins:=pins) (H:=H) hN hv hd hcd hs hb (fun y s1 hy I1=>⟨by rw [sizeLine_eq];omega,.str y,H,I1.tok _,⟨_,rfl⟩,q y⟩) h _ s ?_ I)
 rw [List.length_cons,List.length_cons]
 show 0+_≤_
 omega
end
def drp(H:Hp)(e:Addr):Hp:=fun b=>if b=e then none else H b
theorem zIK{H:Hp}{e b:Addr}(h:b≠e):drp H e b=H b:=by unfold drp;rw [if_neg h]
theorem zVB{H:Hp}{e:Addr}:drp H e e=none:=by unfold drp;rw [if_pos rfl]
theorem Inv.untrack{X:Cx}{pins:List (Addr×Obj)}{σ:St}{H:Hp}{s:Shared}{e:Addr}{φ:Heap→Prop}(J:Inv X pins σ H s)(he:H e=some (.ext φ)):Inv X pins σ (drp H e) s:=by
 have ne: ∀b u,H b=some u→(∀φ,u≠.ext φ)→b≠e:=fun b u q z y=>by rw [y,he]at q;cases q;exact z _ rfl
 have nn: ∀b,H b=none→drp H e b=none:=fun b q=>by unfold drp;split<;>trivial
 refine⟨J.ok,J.os,J.bare,⟨J.base.keep,J.base.slot,fun b ob q n hx=>nn b (J.base.free b ob q n hx),J.base.there,fun b xs q=>?_,fun b o' u q=>?_,fun b ps q=>?_⟩,J.loc,J.cell,nn _ J.free,fun x c hc=>nn _ (J.freeC x c hc),fun p hp=>?_,fun b u q=>?_,J.len⟩
 ·rw [zIK (ne b _ (J.base.tups b xs q) fun _ z=>by cases z)];exact J.base.tups b xs q
 ·rw [zIK (ne b _ (J.base.frzs b o' u q) fun _ z=>by cases z)];exact J.base.frzs b o' u q
 ·obtain⟨mo,z⟩:=J.base.tbls b ps q
  exact⟨mo,by rw [zIK (ne b _ z fun _ z=>by cases z)];exact z⟩
 ·obtain⟨e1,n,r⟩:=J.pin p hp
  exact⟨e1,nn _ n,r⟩
 ·by_cases z:b=e
  ·rw [z,zVB]at q;cases q
  ·rw [zIK z]at q
   exact(J.hok b u q).stay (fun _ _ _ r=>r) (fun c r=>by rw [zIK (ne c _ r fun _ z=>by cases z)];exact r) fun c xs r=>by rw [zIK (ne c _ r fun _ z=>by cases z)];exact r
namespace M
structure XIn(K:PySem.W.Frag)(M C f:Addr):Prop where
 ex: ∃nm q N bs sn sub ab col dd k0 k1 k2 k3 k5,K.lookup C=some (excClassObj nm q C N bs (.ref M::bmV) true sn sub ab col dd k0 k1 k2 k3 k5 "ValueError.__new__")∧PySem.W.nsOkIn K N=true∧PySem.W.nsIn K N "__init__"=some (some (.ref f))∧ ∀n∈qn,PySem.W.nsIn K N n=some none
 fo: ∃o,K.lookup f=some o∧o.cls=.type "function"
theorem XIn.cl{K:PySem.W.Frag}{M C f:Addr}(x:XIn K M C f):XCl K C (.ref M::bmV) (some (.ref f)):=by
 obtain⟨nm,q,N,bs,sn,sub,ab,col,dd,k0,k1,k2,k3,k5,a,b,c,d⟩:=x.ex
 exact⟨nm,q,N,bs,true,sn,sub,ab,col,dd,k0,k1,k2,k3,k5,a,b,c,d,rfl⟩
structure XMn(K:PySem.W.Frag)(M:Addr):Prop where
 ga:PySem.W.specialIn K (.ref M) "__getattribute__"=some (some (.builtin "type.__getattribute__"))
 rd:PySem.W.readsIn K M (.type "type")=true
 init:PySem.W.findCls K (.ref M) (.type "type") "__init__"=some (.val (.builtin "ValueError.__init__"))
def zZP(C:Addr)(fld:Str):Sp:=fun vs H Q _=> ∃e n t0,vs=[.ref e,.int n]∧n.natAbs<BIG∧H e=some (.ext fun h=>h.get? e=some (exO C none t0))∧
 ∀dx od t1,H dx=none→dx≠e→Q .non (upd (upd H dx (.frz od (.xd [(fld,.int n)]))) e (.ext fun h=>h.get? e=some (exO C (some dx) t1)))
theorem yKM{K:PySem.W.Frag}{h:Heap}{M:Addr}(X:K.In h)(m:XCl K M bmV none):OwnTail h bmV (.ref M::bmV):=by
 obtain⟨_,_,N',_,_,_,_,_,_,_,_,_,_,_,_,lM,oM,iM,_⟩:=m
 exact .own (X _ _ lM) (.of_isNs (PySem.W.isNs_of_in X oM)) (PySem.W.nsMap_none_of_in X oM iM) .base
section
variable{X:Cx}{M C f:Addr}{fld par:Str}{p1 p2 p3 p4 p5 p6 p7 p8 p9 p10:Pos}{v1 v2:Expr}{vs:List Expr}
theorem yFN{pl:Sem Bool}(hM:XCl X.K M bmV none)(XI:XIn X.K M C f)(XM:XMn X.K M)(hmg:X.mg "MendError"=some (.ref M))(hg:Gl X "MendError")(hN0:X.N[0]? =some ("self":Str))(hN1:X.N[1]? =some par)(hv0:Vis X.env.scope "self")(hv1:Vis X.env.scope par)
  (hd:(par==("__debug__":Str))=false) (hcd:(par==("__classdict__":Str))=false) (hj:JL par (v1::v2::vs)) (hl:vs.length≤100) (hf:fld∈qn) (hB:typeLookup (.type "ValueError") fld=pure none) (hcalm:X.calm=true)
  (ht:eval (.Call (.Attribute (.Name "MendError" p1) "__init__" p2) [.Name "self" p3,.JoinedStr (v1::v2::vs) p4] [] p5) X.env=(do
   let ov ←eval (.Name "MendError" p1) X.env
   standAt p2.atName
   let (f,first) ←holding [ov] (getMethod ov "__init__" pl)
   callWith p5 f first (backTo p5 (starEach [.Name "self" p3,.JoinedStr (v1::v2::vs) p4] X.env)) (backToKw p5 (keywordEach [] X.env))))
  (hs1:swapsWith (.Call (.Attribute (.Name "MendError" p1) "__init__" p2) [.Name "self" p3,.JoinedStr (v1::v2::vs) p4] [] p5) none p6.line X.env=pure false) (hs2:swapsWith (.Name par p9) (some (.Attribute (.Name "self" p7) fld p8)) p10.line X.env=pure false)
  (he:starEach [Expr.Name "self" p3,.JoinedStr (v1::v2::vs) p4] X.env=(false,eval (.Name "self" p3) X.env)::starEach [.JoinedStr (v1::v2::vs) p4] X.env:=by rfl) (he2:starEach [Expr.JoinedStr (v1::v2::vs) p4] X.env=(false,eval (.JoinedStr (v1::v2::vs) p4) X.env)::starEach [] X.env:=by rfl)
  (hpl:(backTo p5 (starEach [Expr.JoinedStr (v1::v2::vs) p4] X.env)).any (·.1)=false:=by rfl):
  PSs X [.Expr (.Call (.Attribute (.Name "MendError" p1) "__init__" p2) [.Name "self" p3,.JoinedStr (v1::v2::vs) p4] [] p5) p6,.Assign [.Attribute (.Name "self" p7) fld p8] (.Name par p9) p10]
   (fun D σ H=> ∃e n t0,σ[0]? =some (some (.ref e))∧σ[1]? =some (some (.int n))∧n.natAbs<BIG∧H e=some (.ext fun h=>h.get? e=some (exO C none t0))∧
    ∀dx od t1,H dx=none→dx≠e→D.nx σ (upd (upd H dx (.frz od (.xd [(fld,.int n)]))) e (.ext fun h=>h.get? e=some (exO C (some dx) t1)))):=by
 intro pins s σ H D I ⟨e,n,t0,s0,s1,hb,hH,q⟩
 obtain⟨nm,qq,N,bs,sn,sub,ab,col,dd,k0,k1,k2,k3,k5,lC,oN,iN,qN⟩:=XI.ex
 refine wpAny_execs_cons (wpAny_Expr_any ?_ I.quiet hs1)
 refine PySem.W.methodCall_KW (pl:=pl) (zGY I hg hmg ?_) ht
 refine PySem.W.method_cls I.kIn XM.ga (PySem.W.cls_value I.kIn XM.rd XM.init rfl ?_)
 refine PyProof.Rows.callWith_builtin1 (thn (zAA (zNJ (X:=X) hN0 hv0) (zAA (yIY hN1 hv1 hd hcd hj hl) zKS he2) he p5 pins _ σ H (fun vs H1=> ∃y,vs=[.ref e,.str y]∧H1=H) (I.tok _) ⟨_,s0,n,s1,hb,fun y=>⟨y,rfl,rfl⟩⟩) ?_) he hpl
 rintro us s2 ⟨vs2,H2,I2,r2,y,e2,e3⟩
 subst e2
 rw [e3]at I2
 obtain⟨u1,rfl⟩: ∃u1,us=[.ref e,u1]:=by
  cases r2 with
  | cons r1 r=>cases r with
   | cons r2 r=>cases r;cases r1;exact⟨_,rfl⟩
 have hx2:s2.heap.get? e=some (exO C none t0):=(I2.hok e _ hH).1
 have mu:Mut (H e):=by rw [hH];trivial
 obtain⟨hp2,g2,d2,tk2,os2⟩:=s2
 refine zXV F.excBase_ValueError (yKM I2.kIn hM) (I2.kIn _ _ lC) hx2 fun h3 t1 hx3 k3'=>?_
 have I3:Inv X pins σ (upd H e (.ext fun h=>h.get? e=some (exO C none t1))) ⟨h3,g2,d2,tk2,os2⟩:=
  I2.write (t':=tk2) mu (.inl rfl) (fun b u hb' hu=>k3' b u hb' hu) ⟨_,hx3⟩ ⟨hx3,⟨_,hx3⟩,fun h1 h2 z k=>k _ z⟩
 refine wpAny_execs_cons (plainObj_wpAny_Assign_Attribute ?_ hs2)
 refine thn (zNJ (X:=X) hN1 hv1 hd hcd pins _ σ _ (fun v H'=>v=.int n∧H'=upd H e (.ext fun h=>h.get? e=some (exO C none t1))) I3 ⟨_,s1,rfl,rfl⟩) ?_
 rintro u s4 ⟨v4,H4,I4,r4,e4,e5⟩
 subst e4 e5
 refine thn (zNJ (X:=X) hN0 hv0 (by decide) (by decide) pins _ σ _ (fun v H'=>v=.ref e∧H'=upd H e (.ext fun h=>h.get? e=some (exO C none t1))) I4 ⟨_,s0,rfl,rfl⟩) ?_
 rintro u5 s5 ⟨v5,H5,I5,r5,e6,e7⟩
 subst e6 e7
 cases r5
 have hx5:s5.heap.get? e=some (exO C none t1):=(I5.hok e _ zX).1
 obtain⟨hp5,g5,d5,tk5,os5⟩:=s5
 refine yCB (zJW I5.kIn XI.cl hM) (I5.kIn _ _ lC) hx5 rfl rfl (fun c z=>by cases z) hf hB fun h6 tk6 dx st=>wpAny_execs_nil ?_
 obtain⟨n6,ne6,hx6,ns6,k6⟩:=st
 obtain⟨od,es6,ep6,hd6,r6⟩:=id ns6
 have hHdx:H dx=none:=by
  have:=I5.hok.none_of n6
  rwa [zS ne6]at this
 refine⟨σ,_,?_,q dx od t1 hHdx ne6⟩
 have hin: ∀b,b≠e→(upd (upd H dx (.frz od (.xd [(fld,.int n)]))) e (.ext fun h=>h.get? e=some (exO C (some dx) t1))) b=upd H dx (.frz od (.xd [(fld,.int n)])) b:=fun b hb'=>zS hb'
 have hol: ∀b o,H b=some o→b≠dx:=fun b o z y=>by rw [y,hHdx]at z;cases z
 have base5: ∀b,b≠e→(upd H e (.ext fun h=>h.get? e=some (exO C none t1))) b=H b:=fun b hb'=>zS hb'
 refine I5.un (h':=h6) (t':=tk6) ⟨fun b o z n' _ _=>k6 b o (fun y=>by rw [y,zX]at n';cases n') z,fun b o z n' _ _=>⟨o.slots,k6 b o (fun y=>by rw [y,zX]at n';cases n') z⟩,fun b o z n' _=>?_,fun b o z _=>?_,fun b xs z=>?_,fun b o' u' z=>?_,fun b ps z=>?_⟩ fun b u' z=>?_
 ·have hbe:b≠e:=fun y=>by rw [y,zX]at n';cases n'
  rw [base5 b hbe]at n'
  rw [hin b hbe,zS (fun y=>by rw [y]at z;exact absurd (show hp5.get? dx=some o from z) (by rw [n6];simp))]
  exact n'
 ·by_cases hbe:b=e
  ·exact⟨_,by rw [hbe];exact hx6⟩
  ·exact⟨o,k6 b o hbe z⟩
 ·have hbe:b≠e:=fun y=>by rw [y,zX]at z;cases z
  rw [base5 b hbe]at z
  rw [hin b hbe,zS (hol b _ z)];exact z
 ·have hbe:b≠e:=fun y=>by rw [y,zX]at z;cases z
  rw [base5 b hbe]at z
  rw [hin b hbe,zS (hol b _ z)];exact z
 ·have hbe:b≠e:=fun y=>by rw [y,zX]at z;cases z
  rw [base5 b hbe]at z
  exact⟨#[],by rw [hin b hbe,zS (hol b _ z),z];simp⟩
 ·by_cases hbe:b=e
  ·subst hbe
   rw [zX]at z;cases z
   exact⟨hx6,⟨_,hx6⟩,fun h1 h2 z k=>k _ z⟩
  ·rw [hin b hbe]at z
   by_cases hbd:b=dx
   ·subst hbd
    rw [zX]at z;cases z
    refine⟨hd6,_,ns6,fun y=>?_⟩
    obtain⟨tk,rfl⟩:=r4
    by_cases hy:y=fld
    ·subst hy
     rw [if_pos rfl,List.lookup_cons_self]
     exact⟨tk,rfl⟩
    ·rw [if_neg hy]
     have:(([(fld,V.int n)]:List (Str×V))).lookup y=none:=by
      rw [List.lookup_cons]
      rw [show(y==fld)=false from by simpa using hy]
      rfl
     rw [this];trivial
   ·rw [zS hbd]at z
    have z5:(upd H e (.ext fun h=>h.get? e=some (exO C none t1))) b=some u':=by rw [base5 b hbe];exact z
    have ntr: ∀c o,(upd H e (.ext fun h=>h.get? e=some (exO C none t1))) c=some o→(∀φ,o≠.ext φ)→(upd (upd H dx (.frz od (.xd [(fld,.int n)]))) e (.ext fun h=>h.get? e=some (exO C (some dx) t1))) c=some o:=fun c o w ne=>by
     have hce:c≠e:=fun y=>by rw [y,zX]at w;cases w;exact ne _ rfl
     rw [base5 c hce]at w
     rw [hin c hce,zS (hol c _ w)];exact w
    refine(I5.hok b u' z5).stay (fun c v hc r=>k6 c v ?_ r) (fun c w=>ntr c _ w fun _ y=>by cases y) fun c xs w=>ntr c _ w fun _ y=>by cases y
    rcases hc with rfl | hc
    ·exact hbe
    ·intro y;rw [y,zX]at hc;cases hc
end
section
variable{P:Program}{w:World}{K:PySem.W.Frag}{mg:Str→Option Value}{base:Heap}{qual:Str}{st:Stmt}{f C M:Addr}{fd:FuncData}{fld par:Str}{p1 p2 p3 p4 p5 p6 p7 p8 p9 p10:Pos}{v1 v2:Expr}{vs:List Expr}
theorem yIZ{pl:Env→Sem Bool}(Fu:Fun K "__init__" qual st f fd)(Sc:FnScope ["self",par] ["self",par] (zK st))(hM:XCl K M bmV none)(XI:XIn K M C f)(XM:XMn K M)(hmg:mg "MendError"=some (.ref M))
  (hbd:jR st=[.Expr (.Call (.Attribute (.Name "MendError" p1) "__init__" p2) [.Name "self" p3,.JoinedStr (v1::v2::vs) p4] [] p5) p6,.Assign [.Attribute (.Name "self" p7) fld p8] (.Name par p9) p10])
  (ht: ∀env:Env,eval (.Call (.Attribute (.Name "MendError" p1) "__init__" p2) [.Name "self" p3,.JoinedStr (v1::v2::vs) p4] [] p5) env=(do
   let ov ←eval (.Name "MendError" p1) env
   standAt p2.atName
   let (f,first) ←holding [ov] (getMethod ov "__init__" (pl env))
   callWith p5 f first (backTo p5 (starEach [.Name "self" p3,.JoinedStr (v1::v2::vs) p4] env)) (backToKw p5 (keywordEach [] env))))
  (hs1: ∀env:Env,swapsWith (.Call (.Attribute (.Name "MendError" p1) "__init__" p2) [.Name "self" p3,.JoinedStr (v1::v2::vs) p4] [] p5) none p6.line env=pure false) (hs2: ∀env:Env,swapsWith (.Name par p9) (some (.Attribute (.Name "self" p7) fld p8)) p10.line env=pure false)
  (hg:(zK st).names.lookup ("MendError":Str)=some .globalImplicit) (h0:(zK st).names.lookup ("self":Str)=some .local) (h1:(zK st).names.lookup par=some .local)
  (hd:(par==("__debug__":Str))=false) (hcd:(par==("__classdict__":Str))=false) (hj:JL par (v1::v2::vs)) (hl:vs.length≤100) (hf:fld∈qn) (hB:typeLookup (.type "ValueError") fld=pure none):FnOk P w K mg base CX0 1 f fd ["self",par] (zZP C fld):=by
 refine Fu.ok (k:=0) Sc (fun vs' H Q E ⟨e,n,t0,z,_⟩=>by rw [z];rfl) fun cdv A outer s H vs' Q E hr ⟨e,n,t0,z,hb,hH,q⟩=>?_
 subst z
 rw [hbd]
 exact⟨_,yFN hM XI XM hmg hg rfl rfl (.inl h0) (.inl h1) hd hcd hj hl hf hB rfl (ht _) (hs1 _) (hs2 _),e,n,t0,rfl,rfl,hb,hH,q⟩
end
end M
end L2
namespace L2
namespace M
open PySem PySem.Spec PyProof.Rows
theorem zXW{K:PySem.W.Frag}{h:Heap}{N:Addr}{mg:Str→Option Value}{n:Str}{v:Value}(X:K.In h)(G:h.Ns N mg)(e:PySem.W.nsIn K N n=some (some v)):mg n=some v:=by
 obtain⟨o,es,ep,ho,hd,_,hf⟩:=G
 unfold PySem.W.nsIn at e
 split at e
 ·rename_i c d es' n' sl q
  have:=X _ _ q
  rw [ho]at this
  cases this
  cases hd
  split at e
  ·rename_i en he
   cases e
   rw [←hf]
   unfold nsFind findBy
   rw [←Array.find?_toList,he]
   rfl
  ·split at e<;>cases e
 ·cases e
def raF(x fld:Str):Er→Sto→R Fl
 | .val (.int n),S=>if n.natAbs<BIG then .exc x [(fld,.int n)] S else .no
 | _,_=>.no
section
variable{X:Cx}{E:XK}{e:Expr}{fe:Rho→Sto→R Er}{pos np cpos:Pos}{x fld par:Str}{C M f:Addr}{fd:FuncData}{k:Nat}
theorem zLB(hx:XOk X E)(hg:Gl X x)(hm:X.mg x=some (.ref C))(hM:XCl X.K M bmV none)(XI:XIn X.K M C f)(G:FnOk X.prog X.w X.K X.mg X.base CX0 1 f fd ["self",par] (zZP C fld))(hb:Binds X.K fd ["self",par] [])(hr:Room k X.A)(ha:PEm X (WE X.g E) e fe)
  (hk:2≤k:=by decide) (hex:X.ex=[]:=by rfl) (hcalm:X.calm=true:=by rfl) (hd:(x==("__debug__":Str))=false:=by decide) (he:starEach [e] X.env=(false,eval e X.env)::starEach [] X.env:=by rfl) (hpl:(backTo cpos (starEach [] X.env)).any (·.1)=false:=by rfl):
  PSm X (WE X.g E) (.Raise (some (.Call (.Name x np) [e] [] cpos)) none pos) (fun ρ S=>(fe ρ S).bind (raF x fld)):=by
 obtain⟨ta,ha,fa⟩:=ha
 refine⟨fun D σ H=>ta σ H fun v H1=> ∃n,v=.int n∧n.natAbs<BIG∧ ∀dx od,H1 dx=none→E (.ref C) (some dx) (upd H1 dx (.frz od (.xd [(fld,.int n)]))),fun pins s σ H D I h=>?_,fun α ρ S σ H D wd sl q=>fa α ρ S σ H _ wd sl (q.expr fun v r S1 α1 H1 e1 x1 w1 d1 q1=>?_)⟩
 ·obtain⟨nm,q,N,bs,sn,sub,ab,col,dd,k0,k1,k2,k3,k5,lC,oN,iN,qN⟩:=XI.ex
  obtain⟨oI,lI,cI⟩:=XI.fo
  have XB:=I.mod.kin
  have hN:=Heap.Ns.of_isNs (PySem.W.isNs_of_in XB oN)
  have hni:=zXW XB hN iN
  have T:=yKM XB hM
  refine zVA (C:=C) (nm:=nm) (q:=q) (N:=N) (bs:=bs) (bm:=.ref M::bmV) (hdct:=true) (sn:=sn) (sub:=sub) (ab:=ab) (col:=col) (dd:=dd) (k0:=k0) (k1:=k1) (k2:=k2) (k3:=k3) (k5:=k5) (fI:=f) (oI:=oI)
   F.excBase_ValueError (T.hasType F.excBase_ValueError.hasBase) (I.ok.hd hcalm) (by rw [he];exact hpl) hni cI (zGY I hg hm ⟨rfl,?_⟩ hd)
  have hr':=zAA ha zKS he cpos pins s σ H (fun vs H1=>match vs with | [v]=> ∃n,v=.int n∧n.natAbs<BIG∧ ∀dx od,H1 dx=none→E (.ref C) (some dx) (upd H1 dx (.frz od (.xd [(fld,.int n)]))) | _=>False) I h
  rw [he]at hr' ⊢
  refine Calls.evalArgs_plain (thn hr' fun us s1 ⟨vs,H1,I1,r1,hv⟩=>?_)
  obtain⟨v0,rfl,n,rfl,hn,hE⟩: ∃v0,vs=[v0]∧ ∃n,v0=.int n∧n.natAbs<BIG∧ ∀dx od,H1 dx=none→E (.ref C) (some dx) (upd H1 dx (.frz od (.xd [(fld,.int n)]))):=by
   match vs,hv with
   | [v],hv=>exact⟨v,rfl,hv⟩
  have hlen:us.length=1:=by rw [←r1.length];rfl
  refine⟨rfl,by show us.length≤_;rw [hlen];decide,I1.bk _ _ (XB _ _ lC),hN.keeps I1.bk,T.keeps I1.bk,I1.bk _ _ (XB _ _ lI),fun h' a mk=>?_⟩
  have J1:Inv X pins σ H1 {s1 with heap:=h'}:=I1.kept (t':=s1.toks) mk.keeps
  obtain⟨t0,ht0,_,_⟩:=mk.there
  have oa:Out X pins H1 {s1 with heap:=h'} a:=⟨I1.older hex mk.new,I1.hok.none_of mk.new,fun p hp z=>(by have:=(I1.pin p hp).1;rw [z,mk.new]at this;cases this),_,_,ht0,rfl⟩
  have J2:=J1.track oa ht0
  have rv:Vals [.ref a,.int n] (.ref a::us):=.cons rfl r1
  refine wpAny_call (codeAny_mono (G.run _ X.stack _ _ ⟨.ref a::us,[]⟩ (.ref a::us) [.ref a,.int n] (fun v H'=>v=.non∧ ∃dx od t1,H1 dx=none∧dx≠a∧H'=upd (upd (upd H1 a (.ext fun h=>h.get? a=some (exO C none t0))) dx (.frz od (.xd [(fld,.int n)]))) a (.ext fun h=>h.get? a=some (exO C (some dx) t1))) E0
   ((hr.mono hk).make C us []) (J2.env0.make C us []) ?_ rv ⟨a,n,t0,rfl,hn,zX,fun dx od t1 h1 h2=>⟨rfl,dx,od,t1,by rwa [zS h2]at h1,h2,rfl⟩⟩) fun r s' hq=>?_)
  ·have hh:=hb _ (.ref a::us) J2.kIn (by simp [hlen])
   rw [List.append_nil]at hh
   exact hh
  ·cases r with
   | error y=>exact hq.elim
   | ok fl=>
    cases fl with
    | ret u=>
     obtain⟨v3,H3,I3,r3,e3,dx,od,t1,hdx,hne,e4⟩:=J2.after hq
     subst e3
     have hga:s'.heap.get? a=some (exO C (some dx) t1):=(I3.hok a (.ext fun h=>h.get? a=some (exO C (some dx) t1)) (by rw [e4];exact zX)).1
     have I4:=I3.untrack (e:=a) (by rw [e4];exact zX)
     have eH:drp H3 a=upd H1 dx (.frz od (.xd [(fld,.int n)])):=by
      funext b
      rw [e4]
      by_cases hba:b=a
      ·rw [hba,zVB,zS (Ne.symm hne)];exact oa.h.symm
      ·rw [zIK hba,zS hba]
       by_cases hbd:b=dx
       ·rw [hbd,zX,zX]
       ·rw [zS hbd,zS hba,zS hbd]
     rw [eH]at I4
     exact⟨r3,_,_,I3.kIn _ _ lC,hga,hx.born pins σ _ s' a C (some dx) I4 ⟨_,_,hga,rfl,rfl,rfl,rfl⟩ oa.s0 (by rw [zS (Ne.symm hne)];exact oa.h) (hE dx od hdx)⟩
    | next=>exact False.elim hq
    | brk=>exact False.elim hq
    | cont=>exact False.elim hq
 ·unfold raF at q1
  split at q1
  ·rename_i n
   split at q1
   ·rename_i hn
    exact⟨n,yV d1.1,hn,fun dx od hdx=>q1 α1 _ (x1.trans (w1.newx hdx)) (w1.new hdx) C (some dx) hm (.inr ⟨dx,_,od,rfl,zX,.cons (xA n) .nil⟩)⟩
   ·exact q1.elim
  ·exact q1.elim
end
def zVC(ns:List Str)(fld:Str):Er→Sto→R Er
 | .val (.loc l),S=>match S[l]? with
  | some (.ins c fs)=>if c∈ns then(match fs.lookup fld with
   | some (.int n)=>.ok (.val (.int n)) S
   | _=>.no)else .no
  | _=>.no
 | _,_=>.no
theorem DenF.get{K:PySem.W.Frag}{α:List Addr}{H:Hp}{y:Str}{d:MV}: ∀{fs gs},DenF K α H fs gs→fs.lookup y=some d→ ∃v,gs.lookup y=some v∧Den K α H d v
 | _,_,.nil,h=>by simp at h
 | _,_,.cons (x:=x) a l,h=>by
  rw [List.lookup_cons]at h ⊢
  cases q:y==x with
  | true=>rw [q]at h;cases h;exact⟨_,rfl,a⟩
  | false=>rw [q]at h;exact DenF.get l h
section
variable{X:Cx}{W:XW}{a:Expr}{f:Rho→Sto→R Er}{pos:Pos}{M:Addr}{cs:List (Str×Addr)}{fld:Str}
theorem zXX{ns:List Str}(T:XTab X.K X.mg M cs)(hf:fld∈qn)(hB:typeLookup (.type "ValueError") fld=pure none)(ha:PEm X W a f)(hns:cs.map (·.1)=ns:=by rfl)
  (hbase:attributeBase a fld X.env (eval a X.env)=eval a X.env:=by rfl) (hgo: ∀o r,letTemporaryGo a o r=pure ():=by intro _ _;rfl):PEm X W (.Attribute a fld pos) (fun ρ S=>(f ρ S).bind (zVC ns fld)):=by
 subst hns
 obtain⟨ta,ha,fa⟩:=ha
 refine⟨fun σ H Q=>ta σ H fun v H1=> ∃aa oe dx od gs n C,v=.ref aa∧H1 aa=some (.ext fun h=>h.get? aa=some oe)∧oe.cls=.ref C∧oe.dict=some dx∧H1 dx=some (.frz od (.xd gs))∧gs.lookup fld=some (.int n)∧(∃i,XCl X.K C (.ref M::bmV) i)∧(∀c,oe.data≠.cls c)∧Q (.int n) H1,
  fun pins s σ H Q I h=>?_,fun α ρ S σ H Q wd sl q=>fa α ρ S σ H _ wd sl (q.bind fun u r S1 α1 H1 e1 x1 w1 d1 q1=>?_)⟩
 ·rw [arm_eval_Attribute,hbase]
  refine wpAny_bind (thn (ha pins s σ H _ I h) fun u s1 ⟨v,H1,I1,r1,aa,oe,dx,od,gs,n,C,e1,hH,hc,hdx,hHd,hgs,⟨i,cC⟩,hnc,q⟩=>?_)
  subst e1
  cases r1
  refine wpAny_bind (wpAny_standAt (wpAny_bind (wpAny_holding ?_)))
  have hx:s1.heap.get? aa=some oe:=(I1.hok aa _ hH).1
  obtain⟨_,mA,hns,hrel⟩:=I1.hok dx _ hHd
  have hr2:=hrel fld
  rw [hgs]at hr2
  cases hm:mA fld with
  | none=>rw [hm]at hr2;exact hr2.elim
  | some u=>
   rw [hm]at hr2
   obtain⟨tk,rfl⟩:=hr2
   have O:=zJW I1.kIn cC T.mc
   obtain⟨nm,q',N,bs,hdd,sn,sub,ab,col,dd,k0,k1,k2,k3,k5,lC,_,_,_,rfl⟩:=cC
   have hC:=I1.kIn _ _ lC
   obtain⟨hp,g,d,tk2,os⟩:=s1
   refine yCD O hC hx hc hdx hnc hns hm hf hB rfl ?_
   rw [hgo]
   exact wpAny_bind (wpAny_pure (wpAny_pure ⟨.int n,H1,I1.tok _,⟨tk,rfl⟩,q⟩))
 ·replace q1:=q1.shift x1
  unfold zVC at q1
  split at q1
  ·rename_i l
   split at q1
   ·rename_i c fs hl
    split at q1
    ·rename_i hc
     split at q1
     ·rename_i n hlk
      obtain⟨aa,rfl,hα⟩:=dQ d1.1
      obtain⟨C,gs,hm,hden,oe,hH,hcl,hdx⟩:=w1.obj l aa _ hα hl
      obtain⟨⟨c',C'⟩,hm',rfl⟩:=List.mem_map.mp hc
      obtain⟨z1,z2⟩:=T.each.at hm'
      have:C=C':=by
       have z:X.mg c'=some (.ref C):=hm
       rw [z1]at z;cases z;rfl
      subst this
      rcases hdx with rfl | ⟨dx,od,h1,h2,vs,h3⟩
      ·simp at hlk
      ·obtain⟨v,hv,hd⟩:=hden.get hlk
       rw [hJ hd]at hv
       exact⟨aa,oe,dx,od,gs,n,C,rfl,hH,hcl,h1,h2,hv,z2,(fun c z=>by rw [h3]at z;cases z),Post.val q1 w1 (xA n)⟩
     ·exact q1.elim
    ·exact q1.elim
   ·exact q1.elim
  ·exact q1.elim
end
section
variable{X:Cx}{W:XW}{M:Addr}{cs:List (Str×Addr)}{i j:Nat}{nm y:Str}{Fh:Rho→Sto→R Fl}{b0:Stmt}{suite:List Stmt}{mp hpos cpos epos pos p pos':Pos}{e:Expr}{es:List Expr}{af:Rho→Sto→R (List Er)}{k n:Nat}{fa:Addr}{fd:FuncData}{ps:List Str}{F:List MV→Sto→R Er}{x:Str}
theorem yJA{ns:List Str}(T:XTab X.K X.mg M cs)(hgm:Gl X "MendError")(hN:X.N.Nodup)(G:FnOk X.prog X.w X.K X.mg X.base (CXe X.prog X.w) k fa fd ps (spX X.g n F))(hr:Room k X.A)(hg:Gl X x)(hm:X.mg x=some (.ref fa))(hkp:PySem.W.keepIn X.K (.ref fa)=true)(hb:Binds X.K fd ps [])
  (ha:PAm X.nox W0 (e::es) af) (hsuite: ∀v,zMJ (X.inH v) W0 (b0::suite) Fh) (hns:cs.map (·.1)=ns:=by rfl) (hi:X.N[i]? =some nm:=by rfl) (hk:X.env.kindOf nm=some .local:=by rfl) (hex:X.ex=[]:=by rfl) (hstk:X.stack=X.env::X.outer:=by rfl) (hfm:X.env.frame=some X.env.locals:=by rfl)
  (hj:X.N[j]? =some y:=by rfl) (hy:Loc X.env.scope y:=by first | exact Or.inl rfl | exact Or.inr rfl) (hf:X.fn y=true∨X.env.scope.names.lookup y=some .local:=by first | exact .inl rfl | exact .inr rfl | assumption)
  (hdb:(x==("__debug__":Str))=false:=by decide) (he:starEach (e::es) X.env=(false,eval e X.env)::starEach es X.env:=by rfl) (hpl:(backTo cpos (starEach es X.env)).any (·.1)=false:=by rfl) (hs:swapsWith (.Call (.Name x p) (e::es) [] cpos) (some (.Name y pos')) epos.line X.env=pure false:=by rfl):
  PSm X W (.Try [.Assign [.Name y pos'] (.Call (.Name x p) (e::es) [] cpos) epos] [.ExceptHandler (some (.Name "MendError" mp)) (some nm) (b0::suite) hpos] [] [] pos)
   (fun ρ S=>(noX (af ρ S)).bind fun rs S1=>yBU ns i (yN ρ j) Fh ρ (zHX n F rs S1)):=by
 subst hns
 obtain⟨ta,ha,kk⟩:=ha
 refine⟨fun D σ H=> ∀pins s,Inv X pins σ H s→wpAny (model X.prog X.w) X.A (exec (.Try [.Assign [.Name y pos'] (.Call (.Name x p) (e::es) [] cpos) epos] [.ExceptHandler (some (.Name "MendError" mp)) (some nm) (b0::suite) hpos] [] [] pos) X.env) (SP X pins D) X.xe s,
  fun pins s σ H D I h=>h pins s I,fun α ρ S σ H D wd sl q pins s I=>?_⟩
 rw [arm_exec_Try]
 refine wpAny_bind (wpAny_standAt (wpAny_tryStmt_except (wpAny_execs_cons (wpAny_Assign_Name ?_ hs))))
 have ht:=yFE (Q:=fun u H2=>D.nx (σ.set j (some u)) H2) kk wd sl q fun r S1 u α1 H1 q1 x1 w1 d1=>by
  obtain⟨d',S',α',e1,x',y',w',de⟩:=zAK w1 x1 d1
  unfold yN at q1
  rw [e1]at q1
  exact q1 _ α' H1 x' w' (((sl.ext x1).ex0 y').set de)
 refine thn (yFD G hr hg hm hkp hb ha I ht (fun H1 s1 y s' I1 hq=>caught T hgm hN hi hk hsuite hex hstk hfm sl I1 hq) hdb he hpl) fun u s' ⟨v,H',I',r',q'⟩=>?_
 exact zJD I' hN hj hy r' (fun s2 I2=>wpAny_execs_nil (wpAny_execs_nil ⟨_,H',I2,q'⟩)) hf
end
section
variable{X:Cx}{W:XW}{a b c:Expr}{f g h:Rho→Sto→R Er}{pos:Pos}
theorem yJB(hu:X.A.units+64<cLine)(ha:PEm X W a f)(hb:PEm X W b g)(hc:PEm X W c h)(hm:lastMarks [.Lt,.Lt] [b,c]=false:=by with_unfolding_all rfl):PEm X W (.Compare a [.Lt,.Lt] [b,c] pos) (fun ρ S=>(f ρ S).bind fun p S1=>(g ρ S1).bind fun q S2=>chF ltF ltF p q S2 fun S3=>h ρ S3):=zOB (zOM hu) (zOM hu) zJO zJO ha hb hc hm
end
theorem xin_mk{K:PySem.W.Frag}{C N M f:Addr}{bs sub:List Value}{nm q:Str}{ab:Bool}{sn:List Str}{col:Option Bool}{dd od:Option Addr}{k0 k1 k2 k3 k5:Option Value}{oc:Value}{es:Array DictEntry}{ep:Nat}{sl:Array (Option Value)}{fo:Obj}
  (l:K.lookup C=some (excClassObj nm q C N bs (.ref M::bmV) true sn sub ab col dd k0 k1 k2 k3 k5 "ValueError.__new__")) (n:K.lookup N=some ⟨oc,od,.dict es ep,sl⟩) (o:(es.toList.all fun e=>match e.key with | .str _ _=>true | _=>false)=true)
  (i:PySem.W.nsIn K N "__init__"=some (some (.ref f))) (q1:PySem.W.nsIn K N "__class__"=some none) (q2:PySem.W.nsIn K N "__getattribute__"=some none) (q3:PySem.W.nsIn K N "__getattr__"=some none)
  (q4:PySem.W.nsIn K N "__setattr__"=some none) (q5:PySem.W.nsIn K N "place"=some none) (q6:PySem.W.nsIn K N "number"=some none) (lf:K.lookup f=some fo) (cf:fo.cls=.type "function"):XIn K M C f:=by
 refine⟨⟨nm,q,N,bs,sn,sub,ab,col,dd,k0,k1,k2,k3,k5,l,?_,i,fun y hy=>?_⟩,fo,lf,cf⟩
 ·unfold PySem.W.nsOkIn
  rw [n]
  rw [Array.all_toList]at o
  exact o
 ·simp only [qn,List.mem_cons,List.not_mem_nil,or_false]at hy
  rcases hy with rfl | rfl | rfl | rfl | rfl | rfl<;>assumption
end M
end L2
namespace L2
namespace M
open PySem PySem.Spec PyProof.Rows
structure DefM(K:PySem.W.Frag)(mg:Str→Option Value)(x:Str)(st:Stmt):Prop where
 ex: ∃f fd,mg x=some (.ref f)∧Fun K x x st f fd
theorem def_mk{K:PySem.W.Frag}{mg:Str→Option Value}{h:Heap}{x:Str}{st:Stmt}{g:Addr}{od an:Option Addr}{sl:Array (Option Value)}{oc kV dc pm cd ct:Value}(a:PySem.W.nsIn K mainGlobals x=some (some (.ref g)))
  (l:K.lookup g=some ⟨oc,od,.func (PySem.W.fnOf x x (zBV st) (jR st) (zK st) .none kV dc pm an cd ct),sl⟩) (c:PySem.W.codeIn K cd x=true) (k:PySem.W.keepIn K (.ref g)=true) (X:K.In h) (GG:h.Ns mainGlobals mg):DefM K mg x st:=⟨_,_,PySem.W.mg_of X GG a,yDJ l c k⟩
structure Cal(P:Program)(w:World)(K:PySem.W.Frag)(mg:Str→Option Value)(base:Heap)(CX:CXT)(x:Str)(k:Nat)(ps:List Str)(sp:Sp):Prop where
 ex: ∃fa fd,FnOk P w K mg base CX k fa fd ps sp∧mg x=some (.ref fa)∧PySem.W.keepIn K (.ref fa)=true∧Binds K fd ps []
abbrev CalM(P:Program)(w:World)(K:PySem.W.Frag)(mg:Str→Option Value)(base:Heap)(x:Str)(k n:Nat)(ps:List Str)(F:List MV→Sto→R Er):Prop:=Cal P w K mg base CX0 x k ps (spM ⟨K,mg,P,w⟩ n F)
abbrev CalX(P:Program)(w:World)(K:PySem.W.Frag)(mg:Str→Option Value)(base:Heap)(x:Str)(k n:Nat)(ps:List Str)(F:List MV→Sto→R Er):Prop:=Cal P w K mg base (CXe P w) x k ps (spX ⟨K,mg,P,w⟩ n F)
section
variable{P:Program}{w:World}{K:PySem.W.Frag}{mg:Str→Option Value}{base:Heap}{x:Str}{st:Stmt}{N ps:List Str}{k n:Nat}{F:List MV→Sto→R Er}
abbrev yFO(x:Str)(st:Stmt)(ps:List Str):Prop:= ∀(kV doc pm:Value)(an:Option Addr)(cdv ct:Value)(us:List Value),us.length=ps.length→bindArgs (PySem.W.fnOf x x (zBV st) (jR st) (zK st) .none kV doc pm an cdv ct) ⟨us,[]⟩=pure (ps.zip us)
theorem okC(D:DefM K mg x st)(hb:yFO x st ps)(h: ∀f fd,Fun K x x st f fd→FnOk P w K mg base CX0 k f fd ps (spM ⟨K,mg,P,w⟩ n F)):CalM P w K mg base x k n ps F:=
 let ⟨f,fd,m,Fu⟩:=D.ex;⟨f,fd,h f fd Fu,m,Fu.kp,Fu.binds hb⟩
theorem okCX(D:DefM K mg x st)(hb:yFO x st ps)(h: ∀f fd,Fun K x x st f fd→FnOk P w K mg base (CXe P w) k f fd ps (spX ⟨K,mg,P,w⟩ n F)):CalX P w K mg base x k n ps F:=
 let ⟨f,fd,m,Fu⟩:=D.ex;⟨f,fd,h f fd Fu,m,Fu.kp,Fu.binds hb⟩
theorem yNI{l:PySem.W.OpenLaw}{fa:Addr}{p:Str}(D:DefM K mg x st)(hfa:mg x=some (.ref fa))(hb: ∀(kV doc pm:Value)(an:Option Addr)(cdv ct:Value)(s:Shared)(v:Value),BindsTo s (PySem.W.fnOf x x (zBV st) (jR st) (zK st) .none kV doc pm an cdv ct) ⟨[v],[]⟩ [(p,v)])
  (h: ∀base f fd,Fun K x x st f fd→FnOk l.prog w K mg base CX0 k f fd [p] (spM ⟨K,mg,l.prog,w⟩ 1 F)):
  ∃fd:FuncData,(∀(s:Shared)(v:Value),BindsTo s fd ⟨[v],[]⟩ [(p,v)])∧ ∀base:Heap,K.In base→base.Ns mainGlobals mg→FnOk l.prog w K mg base CX0 k fa fd [p] (zRD K F):=by
 obtain⟨f,fd,m,Fu⟩:=D.ex
 rw [hfa]at m
 cases m
 refine⟨fd,?_,fun base _ _=>(h base fa fd Fu).imp fun vs H Q E=>yEP (g:=⟨K,mg,l.prog,w⟩) vs H Q E⟩
 obtain⟨_,_,_,_,_,_,_,_,_,rfl,_,_⟩:=Fu.ex
 exact hb _ _ _ _ _ _
end
section
variable{X:Cx}{W:XW}{E:XK}{e:Expr}{es:List Expr}{af:Rho→Sto→R (List Er)}{k n:Nat}{ps:List Str}{F:List MV→Sto→R Er}{x:Str}{p pos:Pos}
theorem zH(G:CalM X.prog X.w X.K X.mg X.base x k n ps F)(hr:Room k X.A)(hg:Gl X x)(ha:PAm X W (e::es) af)(hdb:(x==("__debug__":Str))=false:=by decide)
  (he:starEach (e::es) X.env=(false,eval e X.env)::starEach es X.env:=by rfl) (hpl:(backTo pos (starEach es X.env)).any (·.1)=false:=by rfl):PEm X W (.Call (.Name x p) (e::es) [] pos) (fun ρ S=>(af ρ S).bind fun rs S1=>zJ n F rs S1):=
 let ⟨_,_,G,m,kp,b⟩:=G.ex;yHU G hr hg m kp b ha hdb he hpl
variable{M:Addr}{cs:List (Str×Addr)}{i j:Nat}{nm y:Str}{Fh:Rho→Sto→R Fl}{b0:Stmt}{suite:List Stmt}{mp hpos cpos epos pos':Pos}{ns:List Str}
theorem yFP(T:XTab X.K X.mg M cs)(hgm:Gl X "MendError")(hN:X.N.Nodup)(G:CalX X.prog X.w X.K X.mg X.base x k n ps F)(hr:Room k X.A)(hg:Gl X x)(ha:PAm X.nox W0 (e::es) af)(hsuite: ∀v,zMJ (X.inH v) W0 (b0::suite) Fh)(hns:cs.map (·.1)=ns:=by rfl)(hi:X.N[i]? =some nm:=by rfl)(hk:X.env.kindOf nm=some .local:=by rfl)(hex:X.ex=[]:=by rfl)(hstk:X.stack=X.env::X.outer:=by rfl)(hfm:X.env.frame=some X.env.locals:=by rfl)
  (hj:X.N[j]? =some y:=by rfl) (hy:Loc X.env.scope y:=by first | exact Or.inl rfl | exact Or.inr rfl) (hf:X.fn y=true∨X.env.scope.names.lookup y=some .local:=by first | exact .inl rfl | exact .inr rfl | assumption)
  (hdb:(x==("__debug__":Str))=false:=by decide) (he:starEach (e::es) X.env=(false,eval e X.env)::starEach es X.env:=by rfl) (hpl:(backTo cpos (starEach es X.env)).any (·.1)=false:=by rfl) (hs:swapsWith (.Call (.Name x p) (e::es) [] cpos) (some (.Name y pos')) epos.line X.env=pure false:=by rfl):
  PSm X W (.Try [.Assign [.Name y pos'] (.Call (.Name x p) (e::es) [] cpos) epos] [.ExceptHandler (some (.Name "MendError" mp)) (some nm) (b0::suite) hpos] [] [] pos)
   (fun ρ S=>(noX (af ρ S)).bind fun rs S1=>yBU ns i (yN ρ j) Fh ρ (zHX n F rs S1)):=
 let ⟨_,_,G,m,kp,b⟩:=G.ex;yJA T hgm hN G hr hg m kp b ha hsuite hns hi hk hex hstk hfm hj hy hf hdb he hpl hs
end
end M
end L2
namespace L2
namespace M
namespace My
open PySem PySem.Spec PyProof.Rows
local macro_rules
 | `(tactic| simp? [$xs,*] $[$l:location]?)=>`(tactic| simp only [List.getElem?_cons_zero,List.getElem?_cons_succ,yIG,bok,as_int,as_bl,yMT,add_int,sub_int,eq_int,yMU,lst0,lst1,lst2,lst3,lst6,tup2,tup3,yMV,yEY,yMW,yMX,zXM,yMY,yIL,yIM,List.set_cons_zero,List.set_cons_succ,if_true,yIO,yIN,$xs,*] $[$l:location]?)
abbrev bV:List Str:=["thing","least","most"]
abbrev zLC:List Str:=["thing","tables","wide"]
abbrev zIL:List Str:=["atoms","names","atom","term"]
abbrev zHG:List Str:=["things","atoms","standing"]
abbrev zCK:List Str:=["tables","head","atoms","place","atom"]
abbrev zCL:List Str:=["_law_cell","_law_rest","_law_number","_law_total","_law_k","_law_other"]
abbrev zFX:List Str:=["_law_well","_law_many","_law_digit"]
abbrev zFY:List Str:=["_law_well","_law_letters","_law_word_here","_law_k"]
abbrev zFZ:List Str:=["_law_well","_law_many","_law_pool_here","_law_k","_law_way","_law_value"]
abbrev zCM:List Str:=["_law_well","_law_tables_here","_law_k","_law_wide"]
abbrev gC:List Str:=["_law_well","_law_names_here","_law_pool_here"]
abbrev zAC:List Str:=["_law_well","_law_tables_here","_law_names_here","_law_pool_here","_law_many","_law_atoms_here","_law_k","_law_t"]
abbrev dU:List Str:=["_law_atoms_here","_law_found","_law_t","_law_terms","_law_word_here","_law_name"]
abbrev zGA:List Str:=["_law_well","_law_atoms_here","_law_most","_law_there","_law_head_here","_law_k"]
abbrev zEF:List Str:=["_law_well","_law_base","_law_names_here","_law_k","_law_name"]
abbrev zAS:List Str:=["_law_cell","_law_names_here","_law_pool_here","_law_edge","_law_some"]
abbrev zAT:List Str:=["_law_atom","_law_cell","_law_tables_here","_law_names_here","_law_pool_here","_law_t","_law_terms","_law_way","_law_at"]
abbrev zAU:List Str:=["_law_tables_here","_law_thing","_law_t","_law_terms"]
abbrev dW:List Str:=["_law_head_here","_law_cell","_law_names_here","_law_strange"]
abbrev zEG:List Str:=["_law_tables_here","_law_head_here","_law_atoms_here","_law_k","_law_there","_law_named"]
abbrev zEH:List Str:=["_law_tables_here","_law_head_here","_law_atoms_here","_law_error","_law_told","e","_law_some"]
abbrev yFQ:List Str:=["_law_script","_law_tables_here","_law_pool_here","_law_names_here","_law_well","_law_atoms_here","_law_k","_law_head_here","_law_spoil","_law_at","_law_handed","_law_due_here"]
abbrev XNS:List Str:=["TooGreat","NoText","NoPlace","NotPlain","NoTable","NoRule","NoRow","Twice","NoQuestion","Double","TooWide","Ring"]
noncomputable section
abbrev AF:=Rho→Sto→R Fl
abbrev AE:=Rho→Sto→R Er
def zEI:AF:=(fun ρ S=>((((zE (ρ[0]?) S).bind fun a b=>.ok [a,.val (.typ "int")] b).bind gG).bind fun c d=>zII c d fun e=>((((zE (ρ[0]?) e).bind fun g h=>.ok [g,.val (.typ "bool")] h).bind gG).bind fun i j=>(asB i j).bind fun l m=>.ok (.val (.bl !l)) m)).bind fun r n=>.ok (.ret r) n)
def zAV:AF:=(zEI)
def kW(ds:List MV)(S:Sto):R Er:=xT (zAV (zT ["thing"] ds) S)
def cW:Rho→Sto→R Bool:=fun ρ S=>(R.ok true S)
def jM:AE:=fun ρ S=>((zE (ρ[0]?) S).bind fun a b=>chF leF leF (.val (.str [97])) a b fun c=>(R.ok (.val (.str [122])) c))
def zGB:AF:=(fun ρ S=>((((((zE (ρ[0]?) S).bind fun a b=>.ok [a,.val (.typ "str")] b).bind gG).bind gF).bind fun c d=>.ok (!c) d).bind fun e g=>if e=true then .ok true g else((((((zE (ρ[0]?) g).bind fun h i=>.ok [h] i).bind wN).bind fun j l=>chF leF leF (.val (.int 1)) j l fun m=>(R.ok (.val (.int 8)) m)).bind asB).bind fun n o=>.ok (!n) o)).bind fun k p=>if k=true then((fun ρ S=>.ok (.ret (.val (.bl false))) S)) ρ p else(fun ρ S=>.ok (.next ρ) S) ρ p)
def zGC:AF:=(fun ρ S=>(((((zE (ρ[0]?) S).bind itS).bind fun a b=>if a.ds.length<1000000 then(wB (gNm 0) (cW) (jM) (blk 1 [] ρ) a.gs a.ds b).bind fun c d=>.ok (.new c) d else .no).bind fun e g=>.ok [e] g).bind zXE).bind fun r h=>.ok (.ret r) h)
def zLD:AF:=zP (zGB) ((zGC))
def zAM(ds:List MV)(S:Sto):R Er:=xT (zLD (zT ["thing"] ds) S)
def gL:AF:=(fun ρ S=>((((zE (ρ[0]?) S).bind fun a b=>.ok [a] b).bind fun c d=>zJ 1 kW c d).bind gF).bind fun k e=>if k=true then((fun ρ S=>((((zE (ρ[0]?) S).bind fun g h=>.ok [g] h).bind absF).bind fun i j=>(zKV (.val (.int 10)) (.val (.int 30)) j).bind fun l m=>ltF i l m).bind fun r e=>.ok (.ret r) e)) ρ e else(fun ρ S=>.ok (.next ρ) S) ρ e)
def zEJ:AF:=(fun ρ S=>(((zE (ρ[0]?) S).bind fun a b=>.ok [a] b).bind fun c d=>zJ 1 zAM c d).bind fun r e=>.ok (.ret r) e)
def zIM:AF:=zP (gL) ((zEJ))
def zEK(ds:List MV)(S:Sto):R Er:=xT (zIM (zT ["thing"] ds) S)
def zJY:AF:=(fun ρ S=>((((zE (ρ[0]?) S).bind fun a b=>.ok [a,.val (.typ "tuple")] b).bind gG).bind fun c d=>zII c d fun e=>((zE (ρ[1]?) e).bind fun g h=>(((zE (ρ[0]?) h).bind fun i j=>.ok [i] j).bind wN).bind fun l m=>chF leF leF g l m fun n=>(zE (ρ[2]?) n))).bind fun r o=>.ok (.ret r) o)
def zIN:AF:=(zJY)
def kX(ds:List MV)(S:Sto):R Er:=xT (zIN (zT bV ds) S)
def jJ:AF:=(fun ρ S=>((((zE (ρ[0]?) S).bind fun a b=>.ok [a] b).bind fun c d=>zJ 1 kW c d).bind fun e g=>zII e g fun h=>((zE (ρ[0]?) h).bind fun i j=>chF leF ltF (.val (.int 0)) i j fun l=>(zE (ρ[1]?) l))).bind fun r m=>.ok (.ret r) m)
def wC:AF:=(jJ)
def wD(ds:List MV)(S:Sto):R Er:=xT (wC (zT ["thing","bound"] ds) S)
def dF:AF:=(fun ρ S=>(((((zE (ρ[0]?) S).bind fun a b=>.ok [a,.val (.int 2),.val (.int 2)] b).bind fun c d=>zJ 3 kX c d).bind gF).bind fun e g=>.ok (!e) g).bind fun k h=>if k=true then((fun ρ S=>.ok (.ret (.val (.bl false))) S)) ρ h else(fun ρ S=>.ok (.next ρ) S) ρ h)
def dG:AF:=(fun ρ S=>((((zE (ρ[0]?) S).bind fun a b=>ixF a (.val (.int 0)) b).bind fun c d=>eqF c (.val (.str [118,97,114])) d).bind asB).bind fun k e=>if k=true then((fun ρ S=>((((zE (ρ[0]?) S).bind fun g h=>ixF g (.val (.int 1)) h).bind fun i j=>.ok [i] j).bind fun l m=>zJ 1 zAM l m).bind fun r e=>.ok (.ret r) e)) ρ e else(fun ρ S=>.ok (.next ρ) S) ρ e)
def dH:AF:=(fun ρ S=>((((zE (ρ[0]?) S).bind fun a b=>ixF a (.val (.int 0)) b).bind fun c d=>eqF c (.val (.str [105,115])) d).bind fun e g=>zII e g fun h=>((((zE (ρ[0]?) h).bind fun i j=>ixF i (.val (.int 1)) j).bind fun l m=>.ok [l] m).bind fun n o=>zJ 1 zEK n o)).bind fun r p=>.ok (.ret r) p)
def zLE:AF:=zP (dF) (zP (dG) ((dH)))
def zHH(ds:List MV)(S:Sto):R Er:=xT (zLE (zT ["thing"] ds) S)
def zHY:Rho→Sto→R Bool:=fun ρ S=>(R.ok true S)
def zCN:AE:=fun ρ S=>(((zE (ρ[0]?) S).bind fun a b=>.ok [a] b).bind fun c d=>zJ 1 zHH c d)
def dI:AF:=(fun ρ S=>((((((zE (ρ[0]?) S).bind fun a b=>.ok [a,.val (.int 2),.val (.int 2)] b).bind fun c d=>zJ 3 kX c d).bind gF).bind fun e g=>.ok (!e) g).bind fun h i=>if h=true then .ok true i else((((((zE (ρ[0]?) i).bind fun j l=>ixF j (.val (.int 0)) l).bind fun m n=>((((zE (ρ[1]?) n).bind fun o p=>.ok [o] p).bind wN).bind fun q s=>.ok [q] s).bind fun t u=>.ok (m::t) u).bind fun v w=>zJ 2 wD v w).bind gF).bind fun x y=>.ok (!x) y)).bind fun k z=>if k=true then((fun ρ S=>.ok (.ret (.val (.bl false))) S)) ρ z else(fun ρ S=>.ok (.next ρ) S) ρ z)
def zGD:AF:=(fun ρ S=>(((zE (ρ[1]?) S).bind fun a b=>((zE (ρ[0]?) b).bind fun c d=>ixF c (.val (.int 0)) d).bind fun e g=>ixF a e g).bind fun h i=>ixF h (.val (.int 0)) i).bind (yN ρ 2))
def dJ:AF:=(fun ρ S=>(((((zE (ρ[0]?) S).bind fun a b=>ixF a (.val (.int 1)) b).bind fun c d=>((zE (ρ[2]?) d).bind fun e g=>((zE (ρ[2]?) g).bind fun h i=>.ok [h] i).bind fun j l=>.ok (e::j) l).bind fun m n=>.ok (c::m) n).bind fun o p=>zJ 3 kX o p).bind fun q s=>zII q s fun t=>((((((zE (ρ[0]?) t).bind fun u v=>ixF u (.val (.int 1)) v).bind itT).bind fun w x=>if w.ds.length<1000000 then(wB (gNm 0) (zHY) (zCN) (blk 1 [] ρ) w.gs w.ds x).bind fun y z=>.ok (.new y) z else .no).bind fun A B=>.ok [A] B).bind zXE)).bind fun r D=>.ok (.ret r) D)
def zLF:AF:=zP (dI) (zP (zGD) ((dJ)))
def zHI(ds:List MV)(S:Sto):R Er:=xT (zLF (zT zLC ds) S)
noncomputable def zAW:Rho→Sto→R Fl:=(fun ρ S=>((((zE (ρ[3]?) S).bind fun p266 S267=>ixF p266 (.val (.int 0)) S267).bind fun p270 S271=>eqF p270 (.val (.str [118,97,114])) S271).bind asB).bind fun k S1=>if k=true then((fun ρ S=>(R.ok (.val (.bl true)) S).bind (zUK (fun d275 ρ S274=>(zE (ρ[1]?) S274).bind fun p277 S278=>((zE (ρ[3]?) S278).bind fun p281 S282=>ixF p281 (.val (.int 1)) S282).bind fun q279 S280=>zUY p277 q279 d275 ρ S280) ρ))) ρ S1 else(fun ρ S=>.ok (.next ρ) S) ρ S1)
noncomputable def zAD:Rho→Sto→R Fl:=(zAW)
noncomputable def zGE:Rho→Sto→R Fl:=(fun ρ S=>(((zE (ρ[2]?) S).bind fun p262 S263=>ixF p262 (.val (.int 1)) S263).bind itT).bind fun k S1=>kB (gNm 3) (zAD) k.gs k.ds ρ S1)
noncomputable def zEL:Rho→Sto→R Fl:=(zGE)
def zEM:AF:=(fun ρ S=>(yEZ S).bind (yN ρ 1))
def zEN:AF:=(fun ρ S=>((zE (ρ[0]?) S).bind itQ).bind fun k a=>kB (gNm 2) (zEL) k.gs k.ds ρ a)
def zEO:AF:=(fun ρ S=>(((zE (ρ[1]?) S).bind fun a b=>.ok [a] b).bind zOX).bind fun r c=>.ok (.ret r) c)
def zPA:AF:=zP (zEM) (zP (zEN) ((zEO)))
def bW(ds:List MV)(S:Sto):R Er:=xT (zPA (zT zIL ds) S)
def zHZ:Rho→Sto→R Bool:=fun ρ S=>(R.ok true S)
def zCO:AE:=fun ρ S=>((zE (ρ[0]?) S).bind fun a b=>(zE (ρ[1]?) b).bind fun c d=>inF false a c d)
def zGF:AF:=(fun ρ S=>(((zE (ρ[1]?) S).bind fun a b=>.ok [a] b).bind fun c d=>zJ 1 bW c d).bind (yN ρ 2))
def zGG:AF:=(fun ρ S=>((((((zE (ρ[0]?) S).bind fun a b=>.ok [a] b).bind wN).bind fun c d=>gtF c (.val (.int 4)) d).bind asB).bind fun e g=>if e=true then .ok true g else(((((((zE (ρ[0]?) g).bind itQ).bind fun h i=>if h.ds.length<1000000 then(wB (gNm 0) (zHZ) (zCO) (blk 1 [2] ρ) h.gs h.ds i).bind fun j l=>.ok (.new j) l else .no).bind fun m n=>.ok [m] n).bind zXE).bind gF).bind fun o p=>.ok (!o) p)).bind fun k q=>if k=true then((fun ρ S=>.ok (.ret (.val (.bl false))) S)) ρ q else(fun ρ S=>.ok (.next ρ) S) ρ q)
def zGH:AF:=(fun ρ S=>((((zE (ρ[0]?) S).bind fun a b=>.ok [a] b).bind zMC).bind fun c d=>(((zE (ρ[0]?) d).bind fun e g=>.ok [e] g).bind wN).bind fun h i=>eqF c h i).bind fun r j=>.ok (.ret r) j)
def zRF:AF:=zP (zGF) (zP (zGG) ((zGH)))
def zAN(ds:List MV)(S:Sto):R Er:=xT (zRF (zT zHG ds) S)
def zPB:AF:=(fun ρ S=>(((zE (ρ[0]?) S).bind fun a b=>((xV [.val (.typ "list"),.val (.typ "tuple")] b).bind fun c d=>.ok [c] d).bind fun e g=>.ok (a::e) g).bind zUU).bind fun r h=>.ok (.ret r) h)
def zPC:AF:=(zPB)
def zGI(ds:List MV)(S:Sto):R Er:=xT (zPC (zT ["thing"] ds) S)
noncomputable def gM:Rho→Sto→R Fl:=(fun ρ S=>(((((zE (ρ[4]?) S).bind fun p361 S362=>((zE (ρ[0]?) S362).bind fun p365 S366=>.ok [p365] S366).bind fun l363 S364=>.ok (p361::l363) S364).bind fun r359 S360=>zJ 2 zHI r359 S360).bind gF).bind fun k369 S370=>.ok (!k369) S370).bind fun k S1=>if k=true then((fun ρ S=>(zE (ρ[3]?) S).bind (raF "NoQuestion" "place"))) ρ S1 else(fun ρ S=>.ok (.next ρ) S) ρ S1)
noncomputable def jT:Rho→Sto→R Fl:=(gM)
def dY:AF:=(fun ρ S=>(((((zE (ρ[2]?) S).bind fun a b=>.ok [a] b).bind fun c d=>zJ 1 zGI c d).bind gF).bind fun e g=>.ok (!e) g).bind fun k h=>if k=true then((fun ρ S=>(R.ok (.val (.int 0)) S).bind (raF "NoQuestion" "place"))) ρ h else(fun ρ S=>.ok (.next ρ) S) ρ h)
def kI:AF:=(fun ρ S=>(((zE (ρ[2]?) S).bind fun a b=>.ok [a] b).bind itE).bind fun k c=>kB (gTp 2 (yW (gNm 3) (yW (gNm 4) zAQ))) (jT) k.gs k.ds ρ c)
def dZ:AF:=(fun ρ S=>(((((((zE (ρ[2]?) S).bind fun a b=>.ok [a] b).bind wN).bind fun c d=>chF leF leF (.val (.int 1)) c d fun e=>(R.ok (.val (.int 4)) e)).bind asB).bind fun g h=>.ok (!g) h).bind fun i j=>if i=true then .ok true j else((((((zE (ρ[1]?) j).bind fun l m=>.ok [l] m).bind fun n o=>zJ 1 zGI n o).bind gF).bind fun p q=>.ok (!p) q).bind fun s t=>if s=true then .ok true t else(((((zE (ρ[1]?) t).bind fun u v=>((zE (ρ[2]?) v).bind fun w x=>.ok [w] x).bind fun y z=>.ok (u::y) z).bind fun A B=>zJ 2 zAN A B).bind gF).bind fun D G=>.ok (!D) G))).bind fun k I=>if k=true then((fun ρ S=>(((zE (ρ[2]?) S).bind fun J L=>.ok [J] L).bind wN).bind (raF "NoQuestion" "place"))) ρ I else(fun ρ S=>.ok (.next ρ) S) ρ I)
def nA:AF:=(fun ρ S=>(((((zE (ρ[1]?) S).bind fun a b=>.ok [a] b).bind gJ).bind fun c d=>((((zE (ρ[2]?) d).bind fun e g=>.ok [e] g).bind gJ).bind fun h i=>.ok [h] i).bind fun j l=>.ok (c::j) l).bind xV).bind fun r m=>.ok (.ret r) m)
def zIA:AF:=zP (dY) (zP (kI) (zP (dZ) ((nA))))
def wL(ds:List MV)(S:Sto):R Er:=xT (zIA (zT zCK ds) S)
def bX:AF:=(fun ρ S=>(((zE (ρ[1]?) S).bind fun a b=>(((zE (ρ[0]?) b).bind fun c d=>.ok [c] d).bind wN).bind fun e g=>ltF a e g).bind asB).bind fun k h=>if k=true then((fun ρ S=>((zE (ρ[0]?) S).bind fun i j=>(zE (ρ[1]?) j).bind fun l m=>ixF i l m).bind fun r h=>.ok (.ret r) h)) ρ h else(fun ρ S=>.ok (.next ρ) S) ρ h)
def zLG:AF:=(fun ρ S=>.ok (.ret (.val (.int 0))) S)
def zAX:AF:=zP (bX) ((zLG))
def yF(ds:List MV)(S:Sto):R Er:=xT (zAX (zT ["_law_script","_law_k"] ds) S)
noncomputable def gN:Rho→Sto→R Fl:=(fun ρ S=>(((((zE (ρ[2]?) S).bind fun p462 S463=>zOL p462 (.val (.int 48271)) S463).bind fun p466 S467=>((zE (ρ[4]?) S467).bind fun q472 S473=>zOL (.val (.int 7919)) q472 S473).bind fun q468 S469=>yY p466 q468 S469).bind fun p474 S475=>yY p474 (.val (.int 11)) S475).bind fun p478 S479=>zEC p478 (.val (.int 2147483647)) S479).bind (yN ρ 2))
noncomputable def gO:Rho→Sto→R Fl:=(fun ρ S=>(((zE (ρ[2]?) S).bind fun p482 S483=>(zE (ρ[2]?) S483).bind fun q484 S485=>zOL p482 q484 S485).bind fun p486 S487=>zEC p486 (.val (.int 2147483629)) S487).bind (yN ρ 5))
noncomputable def gP:Rho→Sto→R Fl:=(fun ρ S=>(((zE (ρ[3]?) S).bind fun p490 S491=>zOL p490 (.val (.int 2147483587)) S491).bind fun p494 S495=>(((zE (ρ[5]?) S495).bind fun p498 S499=>zOL p498 (.val (.int 69621)) S499).bind fun p502 S503=>zEC p502 (.val (.int 2147483587)) S503).bind fun q496 S497=>yY p494 q496 S497).bind (yN ρ 3))
noncomputable def nB:Rho→Sto→R Fl:=zP (gN) (zP (gO) ((gP)))
def nE:AF:=(fun ρ S=>((zE (ρ[0]?) S).bind fun a b=>zOK a (.val (.int 2)) b).bind (yN ρ 1))
def nF:AF:=(fun ρ S=>((((zE (ρ[0]?) S).bind fun a b=>zEC a (.val (.int 2)) b).bind fun c d=>eqF c (.val (.int 0)) d).bind asB).bind fun k e=>if k=true then((fun ρ S=>(((zE (ρ[1]?) S).bind fun g h=>.ok [g] h).bind wA).bind fun r e=>.ok (.ret r) e)) ρ e else(fun ρ S=>.ok (.next ρ) S) ρ e)
def nG:AF:=(fun ρ S=>((zE (ρ[1]?) S).bind fun a b=>zEC a (.val (.int 2147483647)) b).bind (yN ρ 2))
def nH:AF:=(fun ρ S=>(R.ok (.val (.int 0)) S).bind (yN ρ 3))
def nI:AF:=(fun ρ S=>(nY [.val (.int 16)] S).bind fun k a=>kB (gNm 4) (nB) k.gs k.ds ρ a)
def nJ:AF:=(fun ρ S=>(((zE (ρ[3]?) S).bind fun a b=>.ok [a] b).bind wA).bind fun r c=>.ok (.ret r) c)
def zCP:AF:=zP (nE) (zP (nF) (zP (nG) (zP (nH) (zP (nI) ((nJ))))))
def yJ(ds:List MV)(S:Sto):R Er:=xT (zCP (zT zCL ds) S)
def zCQ:AF:=(fun ρ S=>(((zE (ρ[0]?) S).bind fun a b=>ixF a (.val (.int 0)) b).bind fun c d=>(zE (ρ[1]?) d).bind fun e g=>zEC c e g).bind (yN ρ 2))
def zCR:AF:=(fun ρ S=>(((zE (ρ[0]?) S).bind fun a b=>ixF a (.val (.int 0)) b).bind fun c d=>(zE (ρ[1]?) d).bind fun e g=>zOK c e g).bind (zUK (fun h ρ i=>(zE (ρ[0]?) i).bind fun j l=>zRC j (.val (.int 0)) h ρ l) ρ))
def zQD:AF:=(fun ρ S=>(zE (ρ[2]?) S).bind fun r a=>.ok (.ret r) a)
def zMD:AF:=zP (zCQ) (zP (zCR) ((zQD)))
def zM(ds:List MV)(S:Sto):R Er:=xT (zMD (zT zFX ds) S)
noncomputable def zFG:Rho→Sto→R Fl:=(fun ρ S=>((zE (ρ[2]?) S).bind fun p551 S552=>((zE (ρ[1]?) S552).bind fun p555 S556=>(((zE (ρ[0]?) S556).bind fun p561 S562=>.ok [p561,.val (.int 26)] S562).bind fun r559 S560=>zJ 2 zM r559 S560).bind fun q557 S558=>ixF p555 q557 S558).bind fun q553 S554=>yY p551 q553 S554).bind (yN ρ 2))
noncomputable def zCS:Rho→Sto→R Fl:=(zFG)
def zIB:AF:=(fun ρ S=>(R.ok (.val (.str [97,98,99,100,101,102,103,104,105,106,107,108,109,110,111,112,113,114,115,116,117,118,119,120,121,122])) S).bind (yN ρ 1))
def zIC:AF:=(fun ρ S=>(R.ok (.val (.str [])) S).bind (yN ρ 2))
def zCT:AF:=(fun ρ S=>((((((zE (ρ[0]?) S).bind fun a b=>.ok [a,.val (.int 8)] b).bind fun c d=>zJ 2 zM c d).bind fun e g=>yY (.val (.int 1)) e g).bind fun h i=>.ok [h] i).bind nY).bind fun k j=>kB (gNm 3) (zCS) k.gs k.ds ρ j)
def zQE:AF:=(fun ρ S=>(zE (ρ[2]?) S).bind fun r a=>.ok (.ret r) a)
def zME:AF:=zP (zIB) (zP (zIC) (zP (zCT) ((zQE))))
def wE(ds:List MV)(S:Sto):R Er:=xT (zME (zT zFY ds) S)
noncomputable def nK:Rho→Sto→R Fl:=(fun ρ S=>(((zE (ρ[0]?) S).bind fun p575 S576=>.ok [p575,.val (.int 4)] S576).bind fun r573 S574=>zJ 2 zM r573 S574).bind (yN ρ 4))
noncomputable def nL:Rho→Sto→R Fl:=(fun ρ S=>((((zE (ρ[0]?) S).bind fun p585 S586=>.ok [p585,.val (.int 9)] S586).bind fun r583 S584=>zJ 2 zM r583 S584).bind fun p593 S594=>zXC p593 (.val (.int 4)) S594).bind (yN ρ 5))
noncomputable def jU:Rho→Sto→R Fl:=(fun ρ S=>(((zE (ρ[4]?) S).bind fun p597 S598=>eqF p597 (.val (.int 1)) S598).bind asB).bind fun k S1=>if k=true then((fun ρ S=>(((((zE (ρ[0]?) S).bind fun p603 S604=>((((zKV (.val (.int 10)) (.val (.int 30)) S604).bind fun q609 S610=>zOL (.val (.int 2)) q609 S610).bind fun p615 S616=>zXC p615 (.val (.int 1)) S616).bind fun p619 S620=>.ok [p619] S620).bind fun l605 S606=>.ok (p603::l605) S606).bind fun r601 S602=>zJ 2 zM r601 S602).bind fun p623 S624=>(zKV (.val (.int 10)) (.val (.int 30)) S624).bind fun q625 S626=>zXC p623 q625 S626).bind fun p631 S632=>yY p631 (.val (.int 1)) S632).bind (yN ρ 5))) ρ S1 else(fun ρ S=>.ok (.next ρ) S) ρ S1)
noncomputable def jV:Rho→Sto→R Fl:=(fun ρ S=>(((zE (ρ[4]?) S).bind fun p635 S636=>gtF p635 (.val (.int 1)) S636).bind asB).bind fun k S1=>if k=true then((fun ρ S=>(((zE (ρ[0]?) S).bind fun p641 S642=>.ok [p641] S642).bind fun r639 S640=>zJ 1 wE r639 S640).bind (yN ρ 5))) ρ S1 else(fun ρ S=>.ok (.next ρ) S) ρ S1)
noncomputable def nM:Rho→Sto→R Fl:=(fun ρ S=>(((zE (ρ[5]?) S).bind fun p645 S646=>(zE (ρ[2]?) S646).bind fun q647 S648=>inF true p645 q647 S648).bind asB).bind fun k S1=>if k=true then((fun ρ S=>((zE (ρ[2]?) S).bind fun p649 S650=>if zDO p649 S650=true then((zE (ρ[5]?) S650).bind fun p653 S654=>.ok [p653] S654).bind fun r651 S652=>zSK p649 r651 S652 else .no).bind fun _ S1=>.ok (.next ρ) S1)) ρ S1 else(fun ρ S=>.ok (.next ρ) S) ρ S1)
noncomputable def jN:Rho→Sto→R Fl:=zP (nK) (zP (nL) (zP (jU) (zP (jV) ((nM)))))
def zCU:AF:=(fun ρ S=>(wA [] S).bind (yN ρ 2))
def zCV:AF:=(fun ρ S=>(((zE (ρ[1]?) S).bind fun a b=>.ok [a] b).bind nY).bind fun k c=>kB (gNm 3) (jN) k.gs k.ds ρ c)
def zCW:AF:=(fun ρ S=>(zE (ρ[2]?) S).bind fun r a=>.ok (.ret r) a)
def zMF:AF:=zP (zCU) (zP (zCV) ((zCW)))
def gD(ds:List MV)(S:Sto):R Er:=xT (zMF (zT zFZ ds) S)
noncomputable def gQ:Rho→Sto→R Fl:=(fun ρ S=>((((zE (ρ[0]?) S).bind fun p681 S682=>.ok [p681,.val (.int 3)] S682).bind fun r679 S680=>zJ 2 zM r679 S680).bind fun q677 S678=>yY (.val (.int 1)) q677 S678).bind (yN ρ 3))
noncomputable def gR:Rho→Sto→R Fl:=(fun ρ S=>((zE (ρ[1]?) S).bind fun p689 S690=>if zDO p689 S690=true then((((zE (ρ[3]?) S690).bind fun p693 S694=>((((zE (ρ[0]?) S694).bind fun p699 S700=>(((zE (ρ[3]?) S700).bind fun p703 S704=>yY p703 (.val (.int 1)) S704).bind fun p707 S708=>.ok [p707] S708).bind fun l701 S702=>.ok (p699::l701) S702).bind fun r697 S698=>zJ 2 zM r697 S698).bind fun p711 S712=>.ok [p711] S712).bind fun l695 S696=>.ok (p693::l695) S696).bind xV).bind fun p715 S716=>.ok [p715] S716).bind fun r691 S692=>zSK p689 r691 S692 else .no).bind fun _ S1=>.ok (.next ρ) S1)
noncomputable def jW:Rho→Sto→R Fl:=zP (gQ) ((gR))
def nN:AF:=(fun ρ S=>(wA [] S).bind (yN ρ 1))
def nO:AF:=(fun ρ S=>((((((zE (ρ[0]?) S).bind fun a b=>.ok [a,.val (.int 3)] b).bind fun c d=>zJ 2 zM c d).bind fun e g=>yY (.val (.int 1)) e g).bind fun h i=>.ok [h] i).bind nY).bind fun k j=>kB (gNm 2) (jW) k.gs k.ds ρ j)
def nP:AF:=(fun ρ S=>(zE (ρ[1]?) S).bind fun r a=>.ok (.ret r) a)
def zID:AF:=zP (nN) (zP (nO) ((nP)))
def kM(ds:List MV)(S:Sto):R Er:=xT (zID (zT zCM ds) S)
def zCX:AF:=(fun ρ S=>(((((zE (ρ[0]?) S).bind fun a b=>.ok [a,.val (.int 4)] b).bind fun c d=>zJ 2 zM c d).bind fun e g=>eqF e (.val (.int 0)) g).bind asB).bind fun k h=>if k=true then((fun ρ S=>(((((zE (ρ[2]?) S).bind fun i j=>(((zE (ρ[0]?) j).bind fun l m=>((((zE (ρ[2]?) m).bind fun n o=>.ok [n] o).bind wN).bind fun p q=>.ok [p] q).bind fun s t=>.ok (l::s) t).bind fun u v=>zJ 2 zM u v).bind fun w x=>ixF i w x).bind fun y z=>.ok [y] z).bind fun A B=>.ok ((.val (.str [105,115]))::A) B).bind xV).bind fun r h=>.ok (.ret r) h)) ρ h else(fun ρ S=>.ok (.next ρ) S) ρ h)
def zCY:AF:=(fun ρ S=>(((((zE (ρ[1]?) S).bind fun a b=>(((zE (ρ[0]?) b).bind fun c d=>((((zE (ρ[1]?) d).bind fun e g=>.ok [e] g).bind wN).bind fun h i=>.ok [h] i).bind fun j l=>.ok (c::j) l).bind fun m n=>zJ 2 zM m n).bind fun o p=>ixF a o p).bind fun q s=>.ok [q] s).bind fun t u=>.ok ((.val (.str [118,97,114]))::t) u).bind xV).bind fun r v=>.ok (.ret r) v)
def zGJ:AF:=zP (zCX) ((zCY))
def kC(ds:List MV)(S:Sto):R Er:=xT (zGJ (zT gC ds) S)
def bY:Rho→Sto→R Bool:=fun ρ S=>(R.ok true S)
def jD:AE:=fun ρ S=>(((zE (ρ[1]?) S).bind fun a b=>((zE (ρ[2]?) b).bind fun c d=>((zE (ρ[3]?) d).bind fun e g=>.ok [e] g).bind fun h i=>.ok (c::h) i).bind fun j l=>.ok (a::j) l).bind fun m n=>zJ 3 kC m n)
noncomputable def bZ:Rho→Sto→R Fl:=(fun ρ S=>(((zE (ρ[0]?) S).bind fun p791 S792=>((((zE (ρ[1]?) S792).bind fun p795 S796=>.ok [p795] S796).bind wN).bind fun p799 S800=>.ok [p799] S800).bind fun l793 S794=>.ok (p791::l793) S794).bind fun r789 S790=>zJ 2 zM r789 S790).bind (yN ρ 7))
noncomputable def cA:Rho→Sto→R Fl:=(fun ρ S=>((zE (ρ[5]?) S).bind fun p803 S804=>if zDO p803 S804=true then((((zE (ρ[7]?) S804).bind fun p807 S808=>(((((((((zE (ρ[1]?) S808).bind fun p811 S812=>(zE (ρ[7]?) S812).bind fun q813 S814=>ixF p811 q813 S814).bind fun p815 S816=>ixF p815 (.val (.int 0)) S816).bind fun p819 S820=>.ok [p819] S820).bind nY).bind fun k823 S824=>if k823.ds.length<1000000 then(wB (gNm 0) (bY) (jD) (blk 1 [0,2,3] ρ) k823.gs k823.ds S824).bind fun o825 S826=>.ok (.new o825) S826 else .no).bind fun p841 S842=>.ok [p841] S842).bind gJ).bind fun p845 S846=>.ok [p845] S846).bind fun l809 S810=>.ok (p807::l809) S810).bind xV).bind fun p849 S850=>.ok [p849] S850).bind fun r805 S806=>zSK p803 r805 S806 else .no).bind fun _ S1=>.ok (.next ρ) S1)
noncomputable def zAY:Rho→Sto→R Fl:=zP (bZ) ((cA))
def zAZ:AF:=(fun ρ S=>(wA [] S).bind (yN ρ 5))
def zBA:AF:=(fun ρ S=>(((zE (ρ[4]?) S).bind fun a b=>.ok [a] b).bind nY).bind fun k c=>kB (gNm 6) (zAY) k.gs k.ds ρ c)
def zBB:AF:=(fun ρ S=>(zE (ρ[5]?) S).bind fun r a=>.ok (.ret r) a)
def zJZ:AF:=zP (zAZ) (zP (zBA) ((zBB)))
def jE(ds:List MV)(S:Sto):R Er:=xT (zJZ (zT zAC ds) S)
noncomputable def jK:Rho→Sto→R Fl:=(fun ρ S=>((((zE (ρ[4]?) S).bind fun p853 S854=>eqF p853 (.val (.str [118,97,114])) S854).bind asB).bind fun k857 S858=>if k857=true then(((zE (ρ[5]?) S858).bind fun p859 S860=>(zE (ρ[1]?) S860).bind fun q861 S862=>inF true p859 q861 S862).bind asB)else .ok false S858).bind fun k S1=>if k=true then((fun ρ S=>((zE (ρ[1]?) S).bind fun p863 S864=>if zDO p863 S864=true then((zE (ρ[5]?) S864).bind fun p867 S868=>.ok [p867] S868).bind fun r865 S866=>zSK p863 r865 S866 else .no).bind fun _ S1=>.ok (.next ρ) S1)) ρ S1 else(fun ρ S=>.ok (.next ρ) S) ρ S1)
noncomputable def xJ:Rho→Sto→R Fl:=(jK)
noncomputable def nZ:Rho→Sto→R Fl:=(fun ρ S=>((zE (ρ[3]?) S).bind itT).bind fun k S1=>kB (gTp 2 (yW (gNm 4) (yW (gNm 5) zAQ))) (xJ) k.gs k.ds ρ S1)
noncomputable def gS:Rho→Sto→R Fl:=(nZ)
def gT:AF:=(fun ρ S=>(wA [] S).bind (yN ρ 1))
def gU:AF:=(fun ρ S=>((zE (ρ[0]?) S).bind itL).bind fun k a=>kB (gTp 2 (yW (gNm 2) (yW (gNm 3) zAQ))) (gS) k.gs k.ds ρ a)
def gV:AF:=(fun ρ S=>(zE (ρ[1]?) S).bind fun r a=>.ok (.ret r) a)
def zFH:AF:=zP (gT) (zP (gU) ((gV)))
def yZ(ds:List MV)(S:Sto):R Er:=xT (zFH (zT dU ds) S)
noncomputable def nQ:Rho→Sto→R Fl:=(fun ρ S=>(((zE (ρ[3]?) S).bind fun p895 S896=>(wA [] S896).bind fun q897 S898=>neF p895 q897 S898).bind asB).bind fun k S1=>if k=true then((fun ρ S=>((zE (ρ[4]?) S).bind fun p899 S900=>if zDO p899 S900=true then(((zE (ρ[3]?) S900).bind fun p903 S904=>if zDO p903 S904=true then((((zE (ρ[0]?) S904).bind fun p909 S910=>((((zE (ρ[3]?) S910).bind fun p913 S914=>.ok [p913] S914).bind wN).bind fun p917 S918=>.ok [p917] S918).bind fun l911 S912=>.ok (p909::l911) S912).bind fun r907 S908=>zJ 2 zM r907 S908).bind fun p921 S922=>.ok [p921] S922).bind fun r905 S906=>yBV p903 r905 S906 else .no).bind fun p925 S926=>.ok [p925] S926).bind fun r901 S902=>zSK p899 r901 S902 else .no).bind fun _ S1=>.ok (.next ρ) S1)) ρ S1 else(fun ρ S=>.ok (.next ρ) S) ρ S1)
noncomputable def jO:Rho→Sto→R Fl:=(nQ)
def zCZ:AF:=(fun ρ S=>(((zE (ρ[1]?) S).bind fun a b=>.ok [a] b).bind fun c d=>zJ 1 yZ c d).bind (yN ρ 3))
def zDA:AF:=(fun ρ S=>(wA [] S).bind (yN ρ 4))
def zDB:AF:=(fun ρ S=>(((((zE (ρ[0]?) S).bind fun a b=>(((zE (ρ[2]?) b).bind fun c d=>yY c (.val (.int 1)) d).bind fun e g=>.ok [e] g).bind fun h i=>.ok (a::h) i).bind fun j l=>zJ 2 zM j l).bind fun m n=>.ok [m] n).bind nY).bind fun k o=>kB (gNm 5) (jO) k.gs k.ds ρ o)
def zDC:AF:=(fun ρ S=>(zE (ρ[4]?) S).bind fun r a=>.ok (.ret r) a)
def zMG:AF:=zP (zCZ) (zP (zDA) (zP (zDB) ((zDC))))
def gE(ds:List MV)(S:Sto):R Er:=xT (zMG (zT zGA ds) S)
noncomputable def cB:Rho→Sto→R Fl:=(fun ρ S=>(((zE (ρ[0]?) S).bind fun p985 S986=>.ok [p985] S986).bind fun r983 S984=>zJ 1 wE r983 S984).bind (yN ρ 4))
noncomputable def jF:Rho→Sto→R Fl:=(fun ρ S=>(((zE (ρ[4]?) S).bind fun p989 S990=>(zE (ρ[2]?) S990).bind fun q991 S992=>inF false p989 q991 S992).bind asB).bind fun k S1=>if k=true then((fun ρ S=>(((((zE (ρ[1]?) S).bind fun q995 S996=>yY (.val (.str [98])) q995 S996).bind fun p997 S998=>((((zE (ρ[1]?) S998).bind fun q1003 S1004=>yY (.val (.str [98])) q1003 S1004).bind fun p1005 S1006=>yY p1005 (.val (.str [97])) S1006).bind fun p1009 S1010=>.ok [p1009] S1010).bind fun l999 S1000=>.ok (p997::l999) S1000).bind wA).bind fun p1013 S1014=>(zE (ρ[3]?) S1014).bind fun q1015 S1016=>ixF p1013 q1015 S1016).bind (yN ρ 4))) ρ S1 else(fun ρ S=>.ok (.next ρ) S) ρ S1)
noncomputable def cE:Rho→Sto→R Fl:=(fun ρ S=>((zE (ρ[2]?) S).bind fun p1017 S1018=>if zDO p1017 S1018=true then((zE (ρ[4]?) S1018).bind fun p1021 S1022=>.ok [p1021] S1022).bind fun r1019 S1020=>zSK p1017 r1019 S1020 else .no).bind fun _ S1=>.ok (.next ρ) S1)
noncomputable def gW:Rho→Sto→R Fl:=zP (cB) (zP (jF) ((cE)))
def zBC:AF:=(fun ρ S=>((((zE (ρ[0]?) S).bind fun a b=>.ok [a] b).bind fun c d=>zJ 1 wE c d).bind fun e g=>(asI (.val (.int 6)) g).bind fun h i=>zOO e none h i).bind (yN ρ 1))
def zBD:AF:=(fun ρ S=>(((((zE (ρ[0]?) S).bind fun a b=>.ok [a,.val (.int 2)] b).bind fun c d=>zJ 2 zM c d).bind fun e g=>eqF e (.val (.int 0)) g).bind asB).bind fun k h=>if k=true then((fun ρ S=>(((zE (ρ[1]?) S).bind fun i j=>(((zE (ρ[1]?) j).bind fun l m=>yY l (.val (.str [97])) m).bind fun n o=>(((zE (ρ[1]?) o).bind fun p q=>yY (.val (.str [98])) p q).bind fun s t=>.ok [s] t).bind fun u v=>.ok (n::u) v).bind fun w x=>.ok (i::w) x).bind wA).bind fun r h=>.ok (.ret r) h)) ρ h else(fun ρ S=>.ok (.next ρ) S) ρ h)
def zBE:AF:=(fun ρ S=>(((zE (ρ[1]?) S).bind fun a b=>.ok [a] b).bind wA).bind (yN ρ 2))
def zBF:AF:=(fun ρ S=>(nY [.val (.int 2)] S).bind fun k a=>kB (gNm 3) (gW) k.gs k.ds ρ a)
def zBG:AF:=(fun ρ S=>(zE (ρ[2]?) S).bind fun r a=>.ok (.ret r) a)
def zEP:AF:=zP (zBC) (zP (zBD) (zP (zBE) (zP (zBF) ((zBG)))))
def wF(ds:List MV)(S:Sto):R Er:=xT (zEP (zT zEF ds) S)
def cF:AF:=(fun ρ S=>(zKV (.val (.int 10)) (.val (.int 30)) S).bind (yN ρ 3))
def cG:AF:=(fun ρ S=>(((xV [.val (.str [118,97,114]),.val (.str [])] S).bind fun a b=>((xV [.val (.str [118,97,114]),.val (.str [65,98])] b).bind fun c d=>((xV [.val (.str [118,97,114]),.val (.str [97,98,99,100,101,102,103,104,105])] d).bind fun e g=>((xV [.val (.str [118,97,114]),.val (.int 5)] g).bind fun h i=>((xV [.val (.str [118,97,114]),.val (.bl true)] i).bind fun j l=>((xV [.val (.str [118,97,114]),.val .non] l).bind fun m n=>((xV [.val (.str [105,115]),.val (.str [])] n).bind fun o p=>.ok [o] p).bind fun q s=>.ok (m::q) s).bind fun t u=>.ok (j::t) u).bind fun v w=>.ok (h::v) w).bind fun x y=>.ok (e::x) y).bind fun z A=>.ok (c::z) A).bind fun B D=>.ok (a::B) D).bind wA).bind (yN ρ 4))
def cH:AF:=(fun ρ S=>((zE (ρ[4]?) S).bind fun a b=>(((xV [.val (.str [105,115]),.val (.str [65,98])] b).bind fun c d=>(((((zE (ρ[3]?) d).bind fun e g=>.ok [e] g).bind fun h i=>.ok ((.val (.str [105,115]))::h) i).bind xV).bind fun j l=>((((((zE (ρ[3]?) l).bind fun m n=>zXC (.val (.int 0)) m n).bind fun o p=>.ok [o] p).bind fun q s=>.ok ((.val (.str [105,115]))::q) s).bind xV).bind fun t u=>((xV [.val (.str [105,115]),.val (.bl true)] u).bind fun v w=>((xV [.val (.str [105,115]),.val .non] w).bind fun x y=>(((((xV [.val (.int 1)] y).bind fun z A=>.ok [z] A).bind fun B D=>.ok ((.val (.str [105,115]))::B) D).bind xV).bind fun G I=>((xV [.val (.str [105,102]),.val (.int 1)] I).bind fun J L=>.ok [J] L).bind fun M N=>.ok (G::M) N).bind fun O P=>.ok (x::O) P).bind fun Q T=>.ok (v::Q) T).bind fun U V=>.ok (t::U) V).bind fun X Y=>.ok (j::X) Y).bind fun Z a0=>.ok (c::Z) a0).bind wA).bind fun a1 a2=>yY a a1 a2).bind (yN ρ 4))
def cJ:AF:=(fun ρ S=>((zE (ρ[4]?) S).bind fun a b=>(((((((zE (ρ[1]?) b).bind fun c d=>ixF c (.val (.int 0)) d).bind fun e g=>.ok [e,.val (.int 1)] g).bind fun h i=>.ok ((.val (.str [118,97,114]))::h) i).bind xV).bind fun j l=>(((((zE (ρ[1]?) l).bind fun m n=>ixF m (.val (.int 0)) n).bind fun o p=>.ok [o] p).bind xV).bind fun q s=>(((zE (ρ[1]?) s).bind fun t u=>ixF t (.val (.int 0)) u).bind fun v w=>((xV [] w).bind fun x y=>.ok [x] y).bind fun z A=>.ok (v::z) A).bind fun B D=>.ok (q::B) D).bind fun G I=>.ok (j::G) I).bind wA).bind fun J L=>yY a J L).bind (yN ρ 4))
def cK:AF:=(fun ρ S=>((zE (ρ[4]?) S).bind fun a b=>((zE (ρ[0]?) b).bind fun c d=>zEC c (.val (.int 18)) d).bind fun e g=>ixF a e g).bind fun r h=>.ok (.ret r) h)
def zGK:AF:=zP (cF) (zP (cG) (zP (cH) (zP (cJ) ((cK)))))
def wP(ds:List MV)(S:Sto):R Er:=xT (zGK (zT zAS ds) S)
def zDR:AF:=(fun ρ S=>(zE (ρ[0]?) S).bind (zUK (gTp 2 (yW (gNm 5) (yW (gNm 6) zAQ))) ρ))
def cL:AF:=(fun ρ S=>((zE (ρ[1]?) S).bind fun a b=>zEC a (.val (.int 5)) b).bind (yN ρ 7))
def cN:AF:=(fun ρ S=>(((zE (ρ[1]?) S).bind fun a b=>zOK a (.val (.int 5)) b).bind fun c d=>(((zE (ρ[6]?) d).bind fun e g=>.ok [e] g).bind wN).bind fun h i=>zEC c h i).bind (yN ρ 8))
def wQ:AF:=(fun ρ S=>(((zE (ρ[7]?) S).bind fun a b=>eqF a (.val (.int 0)) b).bind asB).bind fun k c=>if k=true then((fun ρ S=>((((((((zE (ρ[2]?) S).bind fun d e=>.ok [d] e).bind wN).bind fun g h=>(((zKV (.val (.int 10)) (.val (.int 40)) h).bind fun i j=>(((((xV [.val (.int 0)] j).bind fun l m=>.ok [l,.val (.bl false)] m).bind fun n o=>.ok ((.val (.str [48]))::n) o).bind fun p q=>.ok ((.val .non)::p) q).bind fun s t=>.ok ((.val (.bl true))::s) t).bind fun u v=>.ok (i::u) v).bind fun w x=>.ok ((.val (.int (-1)))::w) x).bind fun y z=>.ok (g::y) z).bind wA).bind fun A B=>(((zE (ρ[1]?) B).bind fun D G=>zOK D (.val (.int 5)) G).bind fun I J=>zEC I (.val (.int 8)) J).bind fun L M=>ixF A L M).bind fun N O=>((zE (ρ[6]?) O).bind fun P Q=>.ok [P] Q).bind fun T U=>.ok (N::T) U).bind xV).bind fun r c=>.ok (.ret r) c)) ρ c else(fun ρ S=>.ok (.next ρ) S) ρ c)
def wR:AF:=(fun ρ S=>(((zE (ρ[7]?) S).bind fun a b=>eqF a (.val (.int 1)) b).bind asB).bind fun k c=>if k=true then((fun ρ S=>(((zE (ρ[5]?) S).bind fun d e=>((((zE (ρ[6]?) e).bind fun g h=>((zE (ρ[8]?) h).bind asI).bind fun i j=>zOO g none i j).bind fun l m=>((zE (ρ[6]?) m).bind fun n o=>(((zE (ρ[8]?) o).bind fun p q=>yY p (.val (.int 1)) q).bind asI).bind fun s t=>zOO n s none t).bind fun u v=>yY l u v).bind fun w x=>.ok [w] x).bind fun y z=>.ok (d::y) z).bind xV).bind fun r c=>.ok (.ret r) c)) ρ c else(fun ρ S=>.ok (.next ρ) S) ρ c)
def wS:AF:=(fun ρ S=>(((zE (ρ[7]?) S).bind fun a b=>eqF a (.val (.int 2)) b).bind asB).bind fun k c=>if k=true then((fun ρ S=>(((zE (ρ[5]?) S).bind fun d e=>(((zE (ρ[6]?) e).bind fun g h=>(((xV [.val (.str [105,115]),.val (.int 1)] h).bind fun i j=>.ok [i] j).bind xV).bind fun l m=>yY g l m).bind fun n o=>.ok [n] o).bind fun p q=>.ok (d::p) q).bind xV).bind fun r c=>.ok (.ret r) c)) ρ c else(fun ρ S=>.ok (.next ρ) S) ρ c)
def wT:AF:=(fun ρ S=>(((zE (ρ[7]?) S).bind fun a b=>eqF a (.val (.int 3)) b).bind asB).bind fun k c=>if k=true then((fun ρ S=>(((zE (ρ[5]?) S).bind fun d e=>(((((zE (ρ[6]?) e).bind fun g h=>((zE (ρ[8]?) h).bind asI).bind fun i j=>zOO g none i j).bind fun l m=>((((((zE (ρ[1]?) m).bind fun n o=>zOK n (.val (.int 15)) o).bind fun p q=>((zE (ρ[3]?) q).bind fun s t=>((zE (ρ[4]?) t).bind fun u v=>.ok [u] v).bind fun w x=>.ok (s::w) x).bind fun y z=>.ok (p::y) z).bind fun A B=>zJ 3 wP A B).bind fun D G=>.ok [D] G).bind xV).bind fun I J=>yY l I J).bind fun L M=>((zE (ρ[6]?) M).bind fun N O=>(((zE (ρ[8]?) O).bind fun P Q=>yY P (.val (.int 1)) Q).bind asI).bind fun T U=>zOO N T none U).bind fun V X=>yY L V X).bind fun Y Z=>.ok [Y] Z).bind fun a0 a1=>.ok (d::a0) a1).bind xV).bind fun r c=>.ok (.ret r) c)) ρ c else(fun ρ S=>.ok (.next ρ) S) ρ c)
def cO:AF:=(fun ρ S=>((((((zE (ρ[5]?) S).bind fun a b=>.ok [a] b).bind xV).bind fun c d=>((((zE (ρ[5]?) d).bind fun e g=>((zE (ρ[6]?) g).bind fun h i=>((zE (ρ[6]?) i).bind fun j l=>.ok [j] l).bind fun m n=>.ok (h::m) n).bind fun o p=>.ok (e::o) p).bind xV).bind fun q s=>((zE (ρ[5]?) s).bind fun t u=>((zE (ρ[6]?) u).bind fun v w=>((xV [] w).bind fun x y=>((((zE (ρ[6]?) y).bind fun z A=>((zE (ρ[5]?) A).bind fun B D=>.ok [B] D).bind fun G I=>.ok (z::G) I).bind xV).bind fun J L=>((((zE (ρ[5]?) L).bind fun M N=>.ok [M,.val .non] N).bind xV).bind fun O P=>.ok [O] P).bind fun Q T=>.ok (J::Q) T).bind fun U V=>.ok (x::U) V).bind fun X Y=>.ok (v::X) Y).bind fun Z a0=>.ok (t::Z) a0).bind fun a1 a2=>.ok (q::a1) a2).bind fun a3 a4=>.ok (c::a3) a4).bind wA).bind fun a5 a6=>(((zE (ρ[1]?) a6).bind fun a7 a8=>zOK a7 (.val (.int 5)) a8).bind fun a9 b0=>zEC a9 (.val (.int 7)) b0).bind fun b1 b2=>ixF a5 b1 b2).bind fun r b3=>.ok (.ret r) b3)
def zGL:AF:=zP (zDR) (zP (cL) (zP (cN) (zP (wQ) (zP (wR) (zP (wS) (zP (wT) ((cO))))))))
def xR(ds:List MV)(S:Sto):R Er:=xT (zGL (zT zAT ds) S)
def xS:Rho→Sto→R Bool:=fun ρ S=>(((zE (ρ[0]?) S).bind fun a b=>inF true a (.val (.str [97,98,99,100,101,102,103,104,105,106,107,108,109,110,111,112,113,114,115,116,117,118,119,120,121,122])) b).bind asB)
def kE:AE:=fun ρ S=>(zE (ρ[0]?) S)
def cP:AF:=(fun ρ S=>((((((zE (ρ[0]?) S).bind fun a b=>.ok [a,.val (.typ "str")] b).bind gG).bind gF).bind fun c d=>.ok (!c) d).bind fun e g=>if e=true then .ok true g else((((((zE (ρ[0]?) g).bind fun h i=>.ok [h] i).bind wN).bind fun j l=>ltF j (.val (.int 1)) l).bind asB).bind fun m n=>if m=true then .ok true n else(((((zE (ρ[0]?) n).bind fun o p=>.ok [o] p).bind wN).bind fun q s=>gtF q (.val (.int 8)) s).bind asB))).bind fun k t=>if k=true then((fun ρ S=>.ok (.ret (.val (.bl false))) S)) ρ t else(fun ρ S=>.ok (.next ρ) S) ρ t)
def cQ:AF:=(fun ρ S=>((((zE (ρ[0]?) S).bind itS).bind fun a b=>if a.ds.length<1000000 then(wB (gNm 0) (xS) (kE) (blk 1 [] ρ) a.gs a.ds b).bind fun c d=>.ok (.new c) d else .no).bind fun e g=>(wA [] g).bind fun h i=>eqF e h i).bind fun r j=>.ok (.ret r) j)
def zBH:AF:=zP (cP) ((cQ))
def gX(ds:List MV)(S:Sto):R Er:=xT (zBH (zT ["_law_thing"] ds) S)
def wU:AF:=(fun ρ S=>((((((zE (ρ[0]?) S).bind fun a b=>.ok [a,.val (.typ "tuple")] b).bind gG).bind gF).bind fun c d=>.ok (!c) d).bind fun e g=>if e=true then .ok true g else((((((zE (ρ[0]?) g).bind fun h i=>.ok [h] i).bind wN).bind fun j l=>neF j (.val (.int 2)) l).bind asB).bind fun m n=>if m=true then .ok true n else((((zE (ρ[0]?) n).bind fun o p=>ixF o (.val (.int 0)) p).bind fun q s=>(xV [.val (.str [118,97,114]),.val (.str [105,115])] s).bind fun t u=>inF true q t u).bind asB))).bind fun k v=>if k=true then((fun ρ S=>.ok (.ret (.val (.bl false))) S)) ρ v else(fun ρ S=>.ok (.next ρ) S) ρ v)
def xE:AF:=(fun ρ S=>(((((zE (ρ[0]?) S).bind fun a b=>ixF a (.val (.int 0)) b).bind fun c d=>eqF c (.val (.str [105,115])) d).bind asB).bind fun e g=>if e=true then((((((zE (ρ[0]?) g).bind fun h i=>ixF h (.val (.int 1)) i).bind fun j l=>.ok [j,.val (.typ "int")] l).bind gG).bind gF).bind fun m n=>if m=true then((((((zE (ρ[0]?) n).bind fun o p=>ixF o (.val (.int 1)) p).bind fun q s=>.ok [q,.val (.typ "bool")] s).bind gG).bind gF).bind fun t u=>.ok (!t) u)else .ok false n)else .ok false g).bind fun k v=>if k=true then((fun ρ S=>(((zKV (.val (.int 10)) (.val (.int 30)) S).bind fun w x=>zXC (.val (.int 0)) w x).bind fun y z=>((zE (ρ[0]?) z).bind fun A B=>ixF A (.val (.int 1)) B).bind fun D G=>chF ltF ltF y D G fun I=>(zKV (.val (.int 10)) (.val (.int 30)) I)).bind fun r v=>.ok (.ret r) v)) ρ v else(fun ρ S=>.ok (.next ρ) S) ρ v)
def wV:AF:=(fun ρ S=>((((zE (ρ[0]?) S).bind fun a b=>ixF a (.val (.int 1)) b).bind fun c d=>.ok [c] d).bind fun e g=>zJ 1 gX e g).bind fun r h=>.ok (.ret r) h)
def zBI:AF:=zP (wU) (zP (xE) ((wV)))
def gY(ds:List MV)(S:Sto):R Er:=xT (zBI (zT ["_law_thing"] ds) S)
def gA:Rho→Sto→R Bool:=fun ρ S=>(((((zE (ρ[0]?) S).bind fun a b=>.ok [a] b).bind fun c d=>zJ 1 gY c d).bind gF).bind fun e g=>.ok (!e) g)
def zBJ:AE:=fun ρ S=>(zE (ρ[0]?) S)
def wW:AF:=(fun ρ S=>((((((zE (ρ[1]?) S).bind fun a b=>.ok [a,.val (.typ "tuple")] b).bind gG).bind gF).bind fun c d=>.ok (!c) d).bind fun e g=>if e=true then .ok true g else((((((zE (ρ[1]?) g).bind fun h i=>.ok [h] i).bind wN).bind fun j l=>neF j (.val (.int 2)) l).bind asB).bind fun m n=>if m=true then .ok true n else((((((zE (ρ[1]?) n).bind fun o p=>ixF o (.val (.int 1)) p).bind fun q s=>.ok [q,.val (.typ "tuple")] s).bind gG).bind gF).bind fun t u=>.ok (!t) u))).bind fun k v=>if k=true then((fun ρ S=>.ok (.ret (.val (.bl false))) S)) ρ v else(fun ρ S=>.ok (.next ρ) S) ρ v)
def zDS:AF:=(fun ρ S=>(zE (ρ[1]?) S).bind (zUK (gTp 2 (yW (gNm 2) (yW (gNm 3) zAQ))) ρ))
def yM:AF:=(fun ρ S=>((((((zE (ρ[2]?) S).bind fun a b=>.ok [a,.val (.typ "int")] b).bind gG).bind gF).bind fun c d=>.ok (!c) d).bind fun e g=>if e=true then .ok true g else(((((zE (ρ[2]?) g).bind fun h i=>.ok [h,.val (.typ "bool")] i).bind gG).bind gF).bind fun j l=>if j=true then .ok true l else((((zE (ρ[2]?) l).bind fun m n=>ltF m (.val (.int 0)) n).bind asB).bind fun o p=>if o=true then .ok true p else((((zE (ρ[2]?) p).bind fun q s=>(((zE (ρ[0]?) s).bind fun t u=>.ok [t] u).bind wN).bind fun v w=>geF q v w).bind asB).bind fun x y=>if x=true then .ok true y else(((((zE (ρ[3]?) y).bind fun z A=>.ok [z] A).bind wN).bind fun B D=>(((zE (ρ[0]?) D).bind fun G I=>(zE (ρ[2]?) I).bind fun J L=>ixF G J L).bind fun M N=>ixF M (.val (.int 0)) N).bind fun O P=>neF B O P).bind asB))))).bind fun k Q=>if k=true then((fun ρ S=>.ok (.ret (.val (.bl false))) S)) ρ Q else(fun ρ S=>.ok (.next ρ) S) ρ Q)
def cR:AF:=(fun ρ S=>((((zE (ρ[3]?) S).bind itT).bind fun a b=>if a.ds.length<1000000 then(wB (gNm 0) (gA) (zBJ) (blk 1 [] ρ) a.gs a.ds b).bind fun c d=>.ok (.new c) d else .no).bind fun e g=>(wA [] g).bind fun h i=>eqF e h i).bind fun r j=>.ok (.ret r) j)
def zBK:AF:=zP (wW) (zP (zDS) (zP (yM) ((cR))))
def wX(ds:List MV)(S:Sto):R Er:=xT (zBK (zT zAU ds) S)
def gZ:AF:=(fun ρ S=>((((((zE (ρ[2]?) S).bind fun a b=>ixF a (.val (.int 0)) b).bind fun c d=>yY (.val (.str [99])) c d).bind fun e g=>.ok [e,.val (.str []),.val (.str [65,98]),.val (.str [97,98,99,100,101,102,103,104,105]),.val (.int 5),.val .non,.val (.bl true)] g).bind wA).bind fun h i=>(((zE (ρ[1]?) i).bind fun j l=>zOK j (.val (.int 5)) l).bind fun m n=>zEC m (.val (.int 7)) n).bind fun o p=>ixF h o p).bind (yN ρ 3))
def wG:AF:=(fun ρ S=>((((zE (ρ[1]?) S).bind fun a b=>zEC a (.val (.int 5)) b).bind fun c d=>eqF c (.val (.int 0)) d).bind asB).bind fun k e=>if k=true then((fun ρ S=>((zE (ρ[0]?) S).bind fun g h=>(((zE (ρ[3]?) h).bind fun i j=>.ok [i] j).bind wA).bind fun l m=>yY g l m).bind fun r e=>.ok (.ret r) e)) ρ e else(fun ρ S=>.ok (.next ρ) S) ρ e)
def wH:AF:=(fun ρ S=>((((zE (ρ[1]?) S).bind fun a b=>zEC a (.val (.int 5)) b).bind fun c d=>eqF c (.val (.int 1)) d).bind asB).bind fun k e=>if k=true then((fun ρ S=>((((zE (ρ[3]?) S).bind fun g h=>.ok [g] h).bind wA).bind fun i j=>(zE (ρ[0]?) j).bind fun l m=>yY i l m).bind fun r e=>.ok (.ret r) e)) ρ e else(fun ρ S=>.ok (.next ρ) S) ρ e)
def wI:AF:=(fun ρ S=>(((((zE (ρ[1]?) S).bind fun a b=>zEC a (.val (.int 5)) b).bind fun c d=>eqF c (.val (.int 2)) d).bind asB).bind fun e g=>if e=true then(((zE (ρ[0]?) g).bind fun h i=>(wA [] i).bind fun j l=>neF h j l).bind asB)else .ok false g).bind fun k m=>if k=true then((fun ρ S=>((zE (ρ[0]?) S).bind fun n o=>((zE (ρ[0]?) o).bind fun p q=>(asI (.val (.int 1)) q).bind fun s t=>zOO p none s t).bind fun u v=>yY n u v).bind fun r m=>.ok (.ret r) m)) ρ m else(fun ρ S=>.ok (.next ρ) S) ρ m)
def wJ:AF:=(fun ρ S=>((((zE (ρ[1]?) S).bind fun a b=>zEC a (.val (.int 5)) b).bind fun c d=>eqF c (.val (.int 3)) d).bind asB).bind fun k e=>if k=true then((fun ρ S=>((zE (ρ[0]?) S).bind fun g h=>(((((zE (ρ[2]?) h).bind fun i j=>ixF i (.val (.int 0)) j).bind fun l m=>yY (.val (.str [100])) l m).bind fun n o=>((((zE (ρ[2]?) o).bind fun p q=>ixF p (.val (.int 0)) q).bind fun s t=>yY (.val (.str [101])) s t).bind fun u v=>((((zE (ρ[2]?) v).bind fun w x=>ixF w (.val (.int 0)) x).bind fun y z=>yY (.val (.str [102])) y z).bind fun A B=>((((zE (ρ[2]?) B).bind fun D G=>ixF D (.val (.int 0)) G).bind fun I J=>yY (.val (.str [103])) I J).bind fun L M=>((((zE (ρ[2]?) M).bind fun N O=>ixF N (.val (.int 0)) O).bind fun P Q=>yY (.val (.str [104])) P Q).bind fun T U=>.ok [T] U).bind fun V X=>.ok (L::V) X).bind fun Y Z=>.ok (A::Y) Z).bind fun a0 a1=>.ok (u::a0) a1).bind fun a2 a3=>.ok (n::a2) a3).bind wA).bind fun a4 a5=>yY g a4 a5).bind fun r e=>.ok (.ret r) e)) ρ e else(fun ρ S=>.ok (.next ρ) S) ρ e)
def zCA:AF:=(fun ρ S=>(zE (ρ[0]?) S).bind fun r a=>.ok (.ret r) a)
def nR:AF:=zP (gZ) (zP (wG) (zP (wH) (zP (wI) (zP (wJ) ((zCA))))))
def yR(ds:List MV)(S:Sto):R Er:=xT (nR (zT dW ds) S)
noncomputable def zBL:Rho→Sto→R Fl:=(fun ρ S=>(((((zE (ρ[0]?) S).bind fun p1980 S1981=>(((zE (ρ[2]?) S1981).bind fun p1984 S1985=>(zE (ρ[3]?) S1985).bind fun q1986 S1987=>ixF p1984 q1986 S1987).bind fun p1988 S1989=>.ok [p1988] S1989).bind fun l1982 S1983=>.ok (p1980::l1982) S1983).bind fun r1978 S1979=>zJ 2 wX r1978 S1979).bind gF).bind fun k1992 S1993=>.ok (!k1992) S1993).bind fun k S1=>if k=true then((fun ρ S=>(zE (ρ[3]?) S).bind fun r S1=>.ok (.ret r) S1)) ρ S1 else(fun ρ S=>.ok (.next ρ) S) ρ S1)
noncomputable def zAE:Rho→Sto→R Fl:=(zBL)
def zBM:Rho→Sto→R Bool:=fun ρ S=>(((((zE (ρ[0]?) S).bind fun a b=>.ok [a,.val (.typ "str")] b).bind gG).bind gF).bind fun c d=>if c=true then(((zE (ρ[0]?) d).bind fun e g=>(zE (ρ[1]?) g).bind fun h i=>inF false e h i).bind asB)else .ok false d)
def zGM:AE:=fun ρ S=>(zE (ρ[0]?) S)
def bA:AF:=(fun ρ S=>(((((zE (ρ[2]?) S).bind fun a b=>.ok [a] b).bind wN).bind fun c d=>.ok [c] d).bind nY).bind fun k e=>kB (gNm 3) (zAE) k.gs k.ds ρ e)
def zEQ:AF:=(fun ρ S=>(((zE (ρ[2]?) S).bind fun a b=>.ok [a] b).bind fun c d=>zJ 1 yZ c d).bind (yN ρ 4))
def zER:AF:=(fun ρ S=>(((zE (ρ[1]?) S).bind itL).bind fun a b=>if a.ds.length<1000000 then(wB (gNm 0) (zBM) (zGM) (blk 1 [4] ρ) a.gs a.ds b).bind fun c d=>.ok (.new c) d else .no).bind (yN ρ 5))
def zAF:AF:=(fun ρ S=>((((((zE (ρ[2]?) S).bind fun a b=>.ok [a] b).bind wN).bind fun c d=>ltF c (.val (.int 1)) d).bind asB).bind fun e g=>if e=true then .ok true g else((((((zE (ρ[2]?) g).bind fun h i=>.ok [h] i).bind wN).bind fun j l=>gtF j (.val (.int 4)) l).bind asB).bind fun m n=>if m=true then .ok true n else(((((zE (ρ[1]?) n).bind fun o p=>.ok [o] p).bind wN).bind fun q s=>gtF q (.val (.int 4)) s).bind asB))).bind fun k t=>if k=true then((fun ρ S=>(((zE (ρ[2]?) S).bind fun u v=>.ok [u] v).bind wN).bind fun r t=>.ok (.ret r) t)) ρ t else(fun ρ S=>.ok (.next ρ) S) ρ t)
def jG:AF:=(fun ρ S=>((((((zE (ρ[5]?) S).bind fun a b=>.ok [a] b).bind wN).bind fun c d=>(((zE (ρ[1]?) d).bind fun e g=>.ok [e] g).bind wN).bind fun h i=>ltF c h i).bind asB).bind fun j l=>if j=true then .ok true l else(((((zE (ρ[5]?) l).bind fun m n=>.ok [m] n).bind zMC).bind fun o p=>(((zE (ρ[5]?) p).bind fun q s=>.ok [q] s).bind wN).bind fun t u=>ltF o t u).bind asB)).bind fun k v=>if k=true then((fun ρ S=>(((zE (ρ[2]?) S).bind fun w x=>.ok [w] x).bind wN).bind fun r v=>.ok (.ret r) v)) ρ v else(fun ρ S=>.ok (.next ρ) S) ρ v)
def zKA:AF:=(fun ρ S=>.ok (.ret (.val .non)) S)
def zIO:AF:=zP (bA) (zP (zEQ) (zP (zER) (zP (zAF) (zP (jG) ((zKA))))))
def kF(ds:List MV)(S:Sto):R Er:=xT (zIO (zT zEG ds) S)
noncomputable def zLH:Rho→Sto→R Fl:=(fun ρ S=>(zE (ρ[5]?) S).bind (yN ρ 3))
noncomputable def zGN:Rho→Sto→R Fl:=(zLH)
def zGO:AF:=(fun ρ S=>(R.ok (.val .non) S).bind (yN ρ 3))
def zGP:AF:=(fun ρ S=>(R.ok (.val .non) S).bind (yN ρ 4))
def bB:AF:=(fun ρ S=>(noX (((zE (ρ[0]?) S).bind fun a b=>((zE (ρ[1]?) b).bind fun c d=>((zE (ρ[2]?) d).bind fun e g=>.ok [e] g).bind fun h i=>.ok (c::h) i).bind fun j l=>.ok (a::j) l):R (List Er))).bind fun rs m=>yBU XNS 5 (yN ρ 4) zGN ρ (zHX 3 wL rs m))
def wY:AF:=(fun ρ S=>(((zE (ρ[3]?) S).bind fun a b=>yBI a (.val .non) b).bind asB).bind fun k c=>if k=true then((fun ρ S=>((wA [.val .non,.val (.int (-1))] S).bind fun d e=>((((zE (ρ[4]?) e).bind fun g h=>(((((zE (ρ[1]?) h).bind fun i j=>.ok [i] j).bind gJ).bind fun l m=>((((zE (ρ[2]?) m).bind fun n o=>.ok [n] o).bind gJ).bind fun p q=>.ok [p] q).bind fun s t=>.ok (l::s) t).bind xV).bind fun u v=>neF g u v).bind fun w x=>.ok [w] x).bind intF).bind fun y z=>ixF d y z).bind fun r c=>.ok (.ret r) c)) ρ c else(fun ρ S=>.ok (.next ρ) S) ρ c)
def bC:AF:=(fun ρ S=>((((zE (ρ[3]?) S).bind (zFK XNS "Double")).bind fun a b=>(((zE (ρ[3]?) b).bind (zFK XNS "NoPlace")).bind fun c d=>(((zE (ρ[3]?) d).bind (zFK XNS "NoRow")).bind fun e g=>(((zE (ρ[3]?) g).bind (zFK XNS "NoRule")).bind fun h i=>.ok [h] i).bind fun j l=>.ok (e::j) l).bind fun m n=>.ok (c::m) n).bind fun o p=>.ok (a::o) p).bind wA).bind (yN ρ 6))
def bD:AF:=(fun ρ S=>((zE (ρ[6]?) S).bind fun a b=>((((zE (ρ[3]?) b).bind (zFK XNS "NotPlain")).bind fun c d=>(((zE (ρ[3]?) d).bind (zFK XNS "NoTable")).bind fun e g=>(((zE (ρ[3]?) g).bind (zFK XNS "NoText")).bind fun h i=>.ok [h] i).bind fun j l=>.ok (e::j) l).bind fun m n=>.ok (c::m) n).bind wA).bind fun o p=>yY a o p).bind (yN ρ 6))
def bE:AF:=(fun ρ S=>((zE (ρ[6]?) S).bind fun a b=>((((zE (ρ[3]?) b).bind (zFK XNS "Ring")).bind fun c d=>(((zE (ρ[3]?) d).bind (zFK XNS "TooGreat")).bind fun e g=>(((zE (ρ[3]?) g).bind (zFK XNS "TooWide")).bind fun h i=>.ok [h] i).bind fun j l=>.ok (e::j) l).bind fun m n=>.ok (c::m) n).bind wA).bind fun o p=>yY a o p).bind (yN ρ 6))
def bF:AF:=(fun ρ S=>((((zE (ρ[6]?) S).bind fun a b=>inF false (.val (.bl true)) a b).bind asB).bind fun c d=>if c=true then .ok true d else((((zE (ρ[3]?) d).bind (zFK XNS "Twice")).bind gF).bind fun e g=>if e=true then .ok true g else((((zE (ρ[3]?) g).bind (zFK XNS "NoQuestion")).bind gF).bind fun h i=>.ok (!h) i))).bind fun k j=>if k=true then((fun ρ S=>.ok (.ret (.val (.int (-2)))) S)) ρ j else(fun ρ S=>.ok (.next ρ) S) ρ j)
def bG:AF:=(fun ρ S=>(((((zE (ρ[3]?) S).bind (yBT XNS)).bind gF).bind fun a b=>.ok (!a) b).bind fun c d=>if c=true then .ok true d else(((((((zE (ρ[3]?) d).bind (zVC XNS "place")).bind fun e g=>.ok [e,.val (.typ "int")] g).bind gG).bind gF).bind fun h i=>.ok (!h) i).bind fun j l=>if j=true then .ok true l else(((((zE (ρ[3]?) l).bind (zVC XNS "place")).bind fun m n=>.ok [m,.val (.typ "bool")] n).bind gG).bind gF))).bind fun k o=>if k=true then((fun ρ S=>.ok (.ret (.val (.int (-3)))) S)) ρ o else(fun ρ S=>.ok (.next ρ) S) ρ o)
def jX:AF:=(fun ρ S=>((zE (ρ[3]?) S).bind (zVC XNS "place")).bind fun r a=>.ok (.ret r) a)
def zES:AF:=zP (zGO) (zP (zGP) (zP (bB) (zP (wY) (zP (bC) (zP (bD) (zP (bE) (zP (bF) (zP (bG) ((jX))))))))))
def xK(ds:List MV)(S:Sto):R Er:=xT (zES (zT zEH ds) S)
noncomputable def zRG:Rho→Sto→R Fl:=(fun ρ S=>((zE (ρ[5]?) S).bind fun p2358 S2359=>(((((((zE (ρ[0]?) S2359).bind fun p2368 S2369=>(((zE (ρ[6]?) S2369).bind fun q2374 S2375=>yY (.val (.int 6)) q2374 S2375).bind fun p2376 S2377=>.ok [p2376] S2377).bind fun l2370 S2371=>.ok (p2368::l2370) S2371).bind fun r2366 S2367=>zJ 2 yF r2366 S2367).bind fun p2380 S2381=>.ok [p2380] S2381).bind fun r2364 S2365=>zJ 1 yJ r2364 S2365).bind fun p2384 S2385=>((zE (ρ[1]?) S2385).bind fun p2388 S2389=>((zE (ρ[3]?) S2389).bind fun p2392 S2393=>((zE (ρ[2]?) S2393).bind fun p2396 S2397=>.ok [p2396,.val (.int 1)] S2397).bind fun l2394 S2395=>.ok (p2392::l2394) S2395).bind fun l2390 S2391=>.ok (p2388::l2390) S2391).bind fun l2386 S2387=>.ok (p2384::l2386) S2387).bind fun r2362 S2363=>zJ 5 jE r2362 S2363).bind fun q2360 S2361=>yY p2358 q2360 S2361).bind (yN ρ 5))
noncomputable def zSS:Rho→Sto→R Fl:=(zRG)
noncomputable def zHJ:Rho→Sto→R Fl:=(fun ρ S=>(((zE (ρ[5]?) S).bind fun p2470 S2471=>(wA [] S2471).bind fun q2472 S2473=>neF p2470 q2472 S2473).bind asB).bind fun k S1=>if k=true then(zP (fun ρ S=>(((((zE (ρ[0]?) S).bind fun p2478 S2479=>(((zE (ρ[6]?) S2479).bind fun q2484 S2485=>yY (.val (.int 4)) q2484 S2485).bind fun p2486 S2487=>.ok [p2486] S2487).bind fun l2480 S2481=>.ok (p2478::l2480) S2481).bind fun r2476 S2477=>zJ 2 yF r2476 S2477).bind fun p2490 S2491=>.ok [p2490] S2491).bind fun r2474 S2475=>zJ 1 yJ r2474 S2475).bind (yN ρ 8)) (zP (fun ρ S=>(((zE (ρ[8]?) S).bind fun p2496 S2497=>((((zE (ρ[5]?) S2497).bind fun p2500 S2501=>.ok [p2500] S2501).bind wN).bind fun p2504 S2505=>.ok [p2504] S2505).bind fun l2498 S2499=>.ok (p2496::l2498) S2499).bind fun r2494 S2495=>zJ 2 zM r2494 S2495).bind (yN ρ 9)) ((fun ρ S=>((((zE (ρ[1]?) S).bind fun p2510 S2511=>(((zE (ρ[5]?) S2511).bind fun p2514 S2515=>(zE (ρ[9]?) S2515).bind fun q2516 S2517=>ixF p2514 q2516 S2517).bind fun p2518 S2519=>.ok [p2518] S2519).bind fun l2512 S2513=>.ok (p2510::l2512) S2513).bind fun r2508 S2509=>zJ 2 wX r2508 S2509).bind gF).bind fun k S1=>if k=true then((fun ρ S=>((((zE (ρ[5]?) S).bind fun p2524 S2525=>(zE (ρ[9]?) S2525).bind fun q2526 S2527=>ixF p2524 q2526 S2527).bind fun p2528 S2529=>((((zE (ρ[8]?) S2529).bind fun p2534 S2535=>((zKV (.val (.int 10)) (.val (.int 9)) S2535).bind fun p2542 S2543=>.ok [p2542] S2543).bind fun l2536 S2537=>.ok (p2534::l2536) S2537).bind fun r2532 S2533=>zJ 2 zM r2532 S2533).bind fun p2546 S2547=>((zE (ρ[1]?) S2547).bind fun p2550 S2551=>((zE (ρ[3]?) S2551).bind fun p2554 S2555=>((zE (ρ[2]?) S2555).bind fun p2558 S2559=>.ok [p2558] S2559).bind fun l2556 S2557=>.ok (p2554::l2556) S2557).bind fun l2552 S2553=>.ok (p2550::l2552) S2553).bind fun l2548 S2549=>.ok (p2546::l2548) S2549).bind fun l2530 S2531=>.ok (p2528::l2530) S2531).bind fun r2522 S2523=>zJ 5 xR r2522 S2523).bind (zUK (fun d2563 ρ S2562=>(zE (ρ[5]?) S2562).bind fun p2565 S2566=>(zE (ρ[9]?) S2566).bind fun q2567 S2568=>zRC p2565 q2567 d2563 ρ S2568) ρ))) ρ S1 else(fun ρ S=>.ok (.next ρ) S) ρ S1)))) ρ S1 else(fun ρ S=>.ok (.next ρ) S) ρ S1)
noncomputable def zHK:Rho→Sto→R Fl:=(zHJ)
def zST:AF:=(fun ρ S=>(((((((((zE (ρ[0]?) S).bind fun a b=>.ok [a,.val (.int 0)] b).bind fun c d=>zJ 2 yF c d).bind fun e g=>.ok [e] g).bind fun h i=>zJ 1 yJ h i).bind fun j l=>.ok [j] l).bind fun m n=>zJ 1 kM m n).bind fun o p=>.ok [o] p).bind gJ).bind (yN ρ 1))
def zSU:AF:=(fun ρ S=>(((((((zE (ρ[0]?) S).bind fun a b=>.ok [a,.val (.int 1)] b).bind fun c d=>zJ 2 yF c d).bind fun e g=>.ok [e] g).bind fun h i=>zJ 1 yJ h i).bind fun j l=>.ok [j,.val (.int 4)] l).bind fun m n=>zJ 2 gD m n).bind (yN ρ 2))
def zSV:AF:=(fun ρ S=>(((((((zE (ρ[0]?) S).bind fun a b=>.ok [a,.val (.int 2)] b).bind fun c d=>zJ 2 yF c d).bind fun e g=>.ok [e] g).bind fun h i=>zJ 1 yJ h i).bind fun j l=>.ok [j] l).bind fun m n=>zJ 1 wF m n).bind (yN ρ 3))
def zSW:AF:=(fun ρ S=>((zE (ρ[3]?) S).bind fun a b=>(((((zE (ρ[3]?) b).bind fun c d=>ixF c (.val (.int 0)) d).bind fun e g=>yY (.val (.str [99])) e g).bind fun h i=>((((zE (ρ[3]?) i).bind fun j l=>ixF j (.val (.int 0)) l).bind fun m n=>yY (.val (.str [100])) m n).bind fun o p=>((((zE (ρ[3]?) p).bind fun q s=>ixF q (.val (.int 0)) s).bind fun t u=>yY (.val (.str [101])) t u).bind fun v w=>.ok [v] w).bind fun x y=>.ok (o::x) y).bind fun z A=>.ok (h::z) A).bind wA).bind fun B D=>yY a B D).bind (yN ρ 3))
def zSX:AF:=(fun ρ S=>(((((zE (ρ[0]?) S).bind fun a b=>.ok [a,.val (.int 3)] b).bind fun c d=>zJ 2 yF c d).bind fun e g=>.ok [e] g).bind fun h i=>zJ 1 yJ h i).bind (yN ρ 4))
def zSY:AF:=(fun ρ S=>(wA [] S).bind (yN ρ 5))
def zSZ:AF:=(fun ρ S=>(((((zE (ρ[4]?) S).bind fun a b=>.ok [a,.val (.int 7)] b).bind fun c d=>zJ 2 zM c d).bind fun e g=>.ok [e] g).bind nY).bind fun k h=>kB (gNm 6) (zSS) k.gs k.ds ρ h)
def zTA:AF:=(fun ρ S=>(((zE (ρ[4]?) S).bind fun a b=>((zE (ρ[5]?) b).bind fun c d=>.ok [c,.val (.int 6)] d).bind fun e g=>.ok (a::e) g).bind fun h i=>zJ 3 gE h i).bind (yN ρ 7))
def zKB:AF:=(fun ρ S=>(((((zE (ρ[4]?) S).bind fun a b=>.ok [a,.val (.int 3)] b).bind fun c d=>zJ 2 zM c d).bind fun e g=>eqF e (.val (.int 1)) g).bind asB).bind fun k h=>if k=true then((fun ρ S=>(((zE (ρ[7]?) S).bind fun i j=>((((zE (ρ[4]?) j).bind fun l m=>.ok [l,.val (.int 35)] m).bind fun n o=>zJ 2 zM n o).bind fun p q=>((zE (ρ[3]?) q).bind fun s t=>.ok [s] t).bind fun u v=>.ok (p::u) v).bind fun w x=>.ok (i::w) x).bind fun y z=>zJ 3 yR y z).bind (yN ρ 7))) ρ h else(fun ρ S=>.ok (.next ρ) S) ρ h)
def zPD:AF:=(fun ρ S=>(((((zE (ρ[4]?) S).bind fun a b=>.ok [a,.val (.int 3)] b).bind fun c d=>zJ 2 zM c d).bind fun e g=>.ok [e] g).bind nY).bind fun k h=>kB (gNm 6) (zHK) k.gs k.ds ρ h)
def zKC:AF:=(fun ρ S=>(((((zE (ρ[7]?) S).bind fun a b=>.ok [a] b).bind zUO).bind fun c d=>((((zE (ρ[5]?) d).bind fun e g=>.ok [e] g).bind zUO).bind fun h i=>.ok [h] i).bind fun j l=>.ok (c::j) l).bind wA).bind (yN ρ 10))
def zKD:AF:=(fun ρ S=>(((zE (ρ[1]?) S).bind fun a b=>((zE (ρ[7]?) b).bind fun c d=>((zE (ρ[5]?) d).bind fun e g=>.ok [e] g).bind fun h i=>.ok (c::h) i).bind fun j l=>.ok (a::j) l).bind fun m n=>zJ 3 kF m n).bind (yN ρ 11))
def zKE:AF:=(fun ρ S=>((((((zE (ρ[1]?) S).bind fun a b=>(((zE (ρ[10]?) b).bind fun c d=>ixF c (.val (.int 0)) d).bind fun e g=>(((zE (ρ[10]?) g).bind fun h i=>ixF h (.val (.int 1)) i).bind fun j l=>.ok [j] l).bind fun m n=>.ok (e::m) n).bind fun o p=>.ok (a::o) p).bind fun q s=>zJ 3 xK q s).bind fun t u=>(zE (ρ[11]?) u).bind fun v w=>neF t v w).bind asB).bind fun x y=>if x=true then .ok true y else(((zE (ρ[10]?) y).bind fun z A=>(((zE (ρ[7]?) A).bind fun B D=>((zE (ρ[5]?) D).bind fun G I=>.ok [G] I).bind fun J L=>.ok (B::J) L).bind wA).bind fun M N=>neF z M N).bind asB)).bind fun k O=>if k=true then((fun ρ S=>.ok (.ret (.val (.bl false))) S)) ρ O else(fun ρ S=>.ok (.next ρ) S) ρ O)
def zKF:AF:=(fun ρ S=>((((zE (ρ[1]?) S).bind fun a b=>((((zE (ρ[7]?) b).bind fun c d=>.ok [c] d).bind gJ).bind fun e g=>((((zE (ρ[5]?) g).bind fun h i=>.ok [h] i).bind gJ).bind fun j l=>.ok [j] l).bind fun m n=>.ok (e::m) n).bind fun o p=>.ok (a::o) p).bind fun q s=>zJ 3 xK q s).bind fun t u=>(zE (ρ[11]?) u).bind fun v w=>eqF t v w).bind fun r x=>.ok (.ret r) x)
def yKN:AF:=zP (zST) (zP (zSU) (zP (zSV) (zP (zSW) (zP (zSX) (zP (zSY) (zP (zSZ) (zP (zTA) (zP (zKB) (zP (zPD) (zP (zKC) (zP (zKD) (zP (zKE) ((zKF))))))))))))))
def zRH(ds:List MV)(S:Sto):R Er:=xT (yKN (zT yFQ ds) S)
end
def abc:List Nat:=[97,98,99,100,101,102,103,104,105,106,107,108,109,110,111,112,113,114,115,116,117,118,119,120,121,122]
theorem pp30(S:Sto):zKV (.val (.int 10)) (.val (.int 30)) S=.ok (.val (.int (10 ^ 30))) S:=rfl
theorem yFR(S:Sto):zKV (.val (.int 10)) (.val (.int 30)) S=.ok (.val (.int (10 ^ 30))) S:=rfl
theorem yJC{b:Int}(h:yBH 0 b)(a:Int)(S:Sto):zOK (.val (.int a)) (.val (.int b)) S=.ok (.val (.int (a / b))) S:=if_pos (show yBH a b from h)
theorem yNJ{a:Int}(h:0≤a∧a<4294967296)(S:Sto):zOL (.val (.int a)) (.val (.int a)) S=.ok (.val (.int (a * a))) S:=
 zND ⟨Int.lt_of_lt_of_le (by decide) h.1,Int.lt_trans h.2 (by decide)⟩ a S
theorem zHL{S:Sto}{l:Nat}{ds:List MV}{d:MV}(hS:S[l]? =some (.lst ds))(hz:ds.length<1000000):zSK (.val (.loc l)) [.val d] S=.ok (.val .non) (S.set l (.lst (ds++[d]))):=by
 show yBM (.val (.loc l)) S (fun ds=>if ds.length<sizeLine then some (ds++[d])else none)=_
 unfold yBM
 dsimp only
 rw [hS]
 dsimp only
 rw [if_pos (Nat.lt_of_lt_of_le hz (fits (Nat.le_refl _)))]
theorem zET{S:Sto}{l:Nat}{ds:List MV}(hS:S[l]? =some (.lst ds)):zDO (.val (.loc l)) S=true:=by
 unfold zDO
 rw [kU hS];rfl
theorem zVD{S:Sto}{l:Nat}{ds:List MV}{k:Int}{j:Nat}{d:MV}{ρ:Rho}(hS:S[l]? =some (.lst ds))(hj:ixN ds.length k=some j):zRC (.val (.loc l)) (.val (.int k)) d ρ S=.ok ρ (S.set l (.lst (ds.set j d))):=by
 unfold zRC
 dsimp only
 rw [hS]
 dsimp only
 rw [hj]
theorem get_set{S:Sto}{l:Nat}{o o':MO}(h:S[l]? =some o):(S.set l o')[l]? =some o':=List.getElem?_set_self (List.getElem?_eq_some_iff.mp h).1
theorem zLI{S:Sto}{l:Nat}{ds:List MV}(hS:S[l]? =some (.lst ds)):gJ [.val (.loc l)] S=.ok (.val (.tup ds)) S:=by
 show(match hX S (.val (.loc l))with | some ds=>R.ok (Er.val (.tup ds)) S | none=>.no)=_
 rw [kU hS]
theorem zAG(ds:List MV)(S:Sto):wN [.val (.tup ds)] S=.ok (.val (.int ds.length)) S:=rfl
theorem zTB(gf:MV→Rho→Sto→R Rho)(ρ:Rho)(d:MV)(S:Sto):zUK gf ρ (.val d) S=(gf d ρ S).bind fun ρ' S2=>.ok (.next ρ') S2:=rfl
def tbl(p:Int×Int):MV:=.tup [.int p.1,.int p.2]
mutual
def pd:MV→Bool
 | .int _=>true
 | .str _=>true
 | .tup ds=>pdL ds
 | _=>false
def pdL:List MV→Bool
 | []=>true
 | d::ds=>pd d&&pdL ds
end
mutual
def dpt:MV→Nat
 | .tup ds=>zPE ds+1
 | _=>0
def zPE:List MV→Nat
 | []=>0
 | d::ds=>max (dpt d) (zPE ds)
end
theorem zIP(ds:List MV):pd (.tup ds)=pdL ds:=by rw [pd]
theorem zKG:pdL []=true:=by rw [pdL]
theorem kY(d:MV)(ds:List MV):pdL (d::ds)=(pd d&&pdL ds):=by rw [pdL]
theorem jY(ds:List MV):dpt (.tup ds)=zPE ds+1:=by rw [dpt]
theorem xZ(d:MV)(ds:List MV):zPE (d::ds)=max (dpt d) (zPE ds):=by rw [zPE]
theorem zDT:zPE []=0:=by rw [zPE]
theorem zXY(i:Int):pd (.int i)=true:=by rw [pd]
theorem zDD(i:List Nat):pd (.str i)=true:=by rw [pd]
theorem zKH(i:Int):dpt (.int i)=0:=by simp [dpt]
theorem zAH(i:List Nat):dpt (.str i)=0:=by simp [dpt]
theorem zZQ: ∀{ds:List MV},(∀d∈ds,pd d=true)→pdL ds=true
 | [],_=>zKG
 | d::ds,h=>by rw [kY,h d List.mem_cons_self,zZQ fun e he=>h e (List.mem_cons_of_mem _ he)];rfl
theorem zTC: ∀{ds:List MV},pdL ds=true→ ∀d∈ds,pd d=true
 | [],_,d,h=>by simp at h
 | e::ds,hp,d,h=>by
  rw [kY,Bool.and_eq_true]at hp
  rcases List.mem_cons.mp h with rfl | h
  ·exact hp.1
  ·exact zTC hp.2 d h
theorem zKI: ∀{ds:List MV}{n:Nat},(∀d∈ds,dpt d≤n)→zPE ds≤n
 | [],n,_=>by rw [zDT];exact Nat.zero_le _
 | d::ds,n,h=>by
  rw [xZ]
  have h1:=h d List.mem_cons_self
  have h2:=zKI fun e he=>h e (List.mem_cons_of_mem _ he)
  omega
theorem zKJ: ∀{ds:List MV}, ∀d∈ds,dpt d≤zPE ds
 | [],d,h=>by simp at h
 | e::ds,d,h=>by
  rw [xZ]
  rcases List.mem_cons.mp h with rfl | h
  ·exact Nat.le_max_left _ _
  ·exact Nat.le_trans (zKJ d h) (Nat.le_max_right _ _)
theorem zVE{d:MV}(h:pd d=true):(∃i,d=.int i)∨(∃x,d=.str x)∨ ∃ds,d=.tup ds∧pdL ds=true:=by
 cases d with
 | int i=>exact .inl ⟨i,rfl⟩
 | str x=>exact .inr (.inl ⟨x,rfl⟩)
 | tup ds=>exact .inr (.inr ⟨ds,rfl,by rw [←zIP];exact h⟩)
 | _=>rw [pd]at h<;>first | cases h | (intros;simp)
theorem dec_is{p:Prop}[Decidable p]{q:Prop}[Decidable q](h:p↔q):decide p=decide q:=by
 by_cases hq:q
 ·rw [decide_eq_true hq,decide_eq_true (h.mpr hq)]
 ·rw [decide_eq_false hq,decide_eq_false fun z=>hq (h.mp z)]
theorem zVF{e:MV→MV→Option Bool}: ∀{ds es:List MV},(∀d∈ds, ∀f∈es,e d f=some (decide (d=f)))→ ∃bs,prs e ds es=some bs∧(bs.all id&&ds.length==es.length)=decide (ds=es)
 | [],[],_=>⟨[],rfl,by simp⟩
 | [],_::_,_=>⟨[],rfl,by simp⟩
 | _::_,[],_=>⟨[],rfl,by simp⟩
 | d::ds,f::es,h=>by
  obtain⟨bs,h1,h2⟩:=zVF (e:=e) (ds:=ds) (es:=es) fun a ha b hb=>h a (List.mem_cons_of_mem _ ha) b (List.mem_cons_of_mem _ hb)
  refine⟨decide (d=f)::bs,?_,?_⟩
  ·unfold prs
   rw [h d List.mem_cons_self f List.mem_cons_self,h1]
   rfl
  ·by_cases hd:d=f
   ·subst hd
    rw [List.all_cons,decide_eq_true rfl]
    simp only [id,Bool.true_and,List.length_cons]
    rw [show(ds.length+1==es.length+1)=(ds.length==es.length) by simp,h2]
    exact dec_is (by simp)
   ·rw [List.all_cons,decide_eq_false hd]
    rw [decide_eq_false (show¬(d::ds=f::es)from fun z=>hd (List.cons.inj z).1)]
    rfl
theorem zVG{S:Sto}: ∀(n:Nat){d e:MV},pd d=true→pd e=true→dpt d<n→eqv S n d e=some (decide (d=e))
 | 0,d,e,_,_,h=>by omega
 | n+1,d,e,hd,he,h=>by
  rcases zVE hd with⟨i,rfl⟩ | ⟨x,rfl⟩ | ⟨ds,rfl,pds⟩<;>rcases zVE he with⟨j,rfl⟩ | ⟨y,rfl⟩ | ⟨es,rfl,pes⟩
  ·rw [zNC];exact congrArg some (dec_is (by simp))
  ·rw [yEV,decide_eq_false (by simp)]
  ·rw [decide_eq_false (by simp)];rfl
  ·rw [yEW,decide_eq_false (by simp)]
  ·rw [zJT];exact congrArg some (dec_is (by simp))
  ·rw [decide_eq_false (by simp)];rfl
  ·rw [decide_eq_false (by simp)];rfl
  ·rw [decide_eq_false (by simp)];rfl
  ·rw [jY]at h
   obtain⟨bs,h1,h2⟩:=zVF (e:=eqv S n) (ds:=ds) (es:=es) fun a ha b hb=>zVG n (zTC pds a ha) (zTC pes b hb) (by have:=zKJ a ha;omega)
   show((prs (eqv S n) ds es).map fun bs=>bs.all id&&ds.length==es.length)=_
   rw [h1]
   show some (bs.all id&&ds.length==es.length)=_
   rw [h2]
   exact congrArg some (dec_is (by simp))
theorem zVH{S:Sto}{d:MV}(hd:pd d=true): ∀{ys:List MV},(∀y∈ys,pd y=true∧dpt y<40)→zMK S zZ d ys=some (ys.map fun y=>decide (y=d))
 | [],_=>rfl
 | y::ys,h=>by
  have h1:=h y List.mem_cons_self
  unfold zMK
  rw [zVG zZ h1.1 hd (by unfold zZ;exact h1.2),zVH hd fun z hz=>h z (List.mem_cons_of_mem _ hz)]
  rfl
theorem le_int(i j:Int)(S:Sto):leF (.val (.int i)) (.val (.int j)) S=.ok (.val (.bl (decide (i≤j)))) S:=rfl
theorem le_str(i j:List Nat)(S:Sto):leF (.val (.str i)) (.val (.str j)) S=.ok (.val (.bl (!decide (j<i)))) S:=rfl
theorem yFS(i:Int)(S:Sto):gG [.val (.int i),.val (.typ "int")] S=.ok (.val (.bl true)) S:=rfl
theorem yFT(i:Int)(S:Sto):gG [.val (.int i),.val (.typ "bool")] S=.ok (.val (.bl false)) S:=rfl
theorem yNK(i:List Nat)(S:Sto):gG [.val (.str i),.val (.typ "int")] S=.ok (.val (.bl false)) S:=rfl
theorem yL{n:Nat}{F:List MV→Sto→R Er}{rs:List Er}{S:Sto}{b:Bool}(hn:rs.length=n)(hF:F (zQ rs S).1 (zQ rs S).2=.ok (.val (.bl b)) S):zJ n F rs S=.ok (.val (.bl b)) S:=zDP hn hF (zZI _ _) (fun l=>by simp)
theorem zGQ(i:Int)(S:Sto):zJ 1 kW [.val (.int i)] S=.ok (.val (.bl true)) S:=yL rfl (by
 show xT (zAV [some (.int i)] S)=_
 unfold zAV zEI
 simp? [yFS,yFT,zII]
 rfl)
theorem zVI(i:List Nat)(S:Sto):zJ 1 kW [.val (.str i)] S=.ok (.val (.bl false)) S:=yL rfl (by
 show xT (zAV [some (.str i)] S)=_
 unfold zAV zEI
 simp? [yNK,zII]
 rfl)
theorem yJD(ds:List MV)(a b:Int)(S:Sto):zJ 3 kX [.val (.tup ds),.val (.int a),.val (.int b)] S=.ok (.val (.bl (decide (a≤ds.length)&&decide ((ds.length:Int)≤b)))) S:=yL rfl (by
 show xT (zIN [some (.tup ds),some (.int a),some (.int b)] S)=_
 unfold zIN zJY
 simp? [zII,zAG,chF,le_int]
 cases decide (a≤(ds.length:Int))<;>rfl)
theorem yJE(i b:Int)(S:Sto):zJ 2 wD [.val (.int i),.val (.int b)] S=.ok (.val (.bl (decide (0≤i)&&decide (i<b)))) S:=yL rfl (by
 show xT (wC [some (.int i),some (.int b)] S)=_
 unfold wC jJ
 simp? [zGQ,zII,chF,le_int,lt_int]
 cases decide (0≤i)<;>rfl)
def SqM(S:Sto)(m:MV)(ds:List MV):Prop:=m=.tup ds∨ ∃l,m=.loc l∧S[l]? =some (.lst ds)
theorem SqM.len{S:Sto}{m:MV}{ds:List MV}(h:SqM S m ds):wN [.val m] S=.ok (.val (.int ds.length)) S:=by
 rcases h with rfl | ⟨l,rfl,hS⟩
 ·rfl
 ·exact xC hS
theorem SqM.app{S T:Sto}{m:MV}{ds:List MV}(h:SqM S m ds):SqM (S++T) m ds:=by
 rcases h with h | ⟨l,h,hS⟩
 ·exact .inl h
 ·exact .inr ⟨l,h,by rw [List.getElem?_append_left (List.getElem?_eq_some_iff.mp hS).1];exact hS⟩
section
variable{S:Sto}
theorem SqM.tuple{m:MV}{ds:List MV}(h:SqM S m ds):gJ [.val m] S=.ok (.val (.tup ds)) S:=by
 rcases h with rfl | ⟨l,rfl,hS⟩
 ·rfl
 ·exact zLI hS
end
abbrev Wl(S:Sto)(l:Nat)(x:Int):Sto:=S.set l (.lst [.int x])
theorem yFU{S:Sto}{l:Nat}(h:l<S.length)(x:Int):(Wl S l x)[l]? =some (.lst [.int x]):=List.getElem?_set_self h
theorem zFI{S:Sto}{l m:Nat}(h:l≠m)(x:Int):(Wl S l x)[m]? =S[m]? :=List.getElem?_set_ne h
theorem yKO(S:Sto)(l:Nat)(x y:Int):(Wl S l x).set l (.lst [.int y])=Wl S l y:=List.set_set ..
theorem kZ(S:Sto)(l:Nat)(x:Int):(Wl S l x).length=S.length:=List.length_set ..
theorem zGR(S:Sto)(x:Int):S++[.lst [.int x]]=Wl (S++[.lst []]) S.length x:=by simp [Wl]
theorem kQ{S:Sto}{l:Nat}(h:l<S.length)(x:Int)(T:Sto):Wl S l x++T=Wl (S++T) l x:=by
 unfold Wl
 rw [List.set_append_left _ _ h]
theorem zTD{S:Sto}{l:Nat}(h:l<S.length)(x:Int)(o o':MO):(Wl (S++[o]) l x).set S.length o'=Wl (S++[o']) l x:=by
 unfold Wl
 rw [List.set_append_left _ _ h,List.set_append_left _ _ h]
 rw [List.set_append_right _ _ (by rw [List.length_set];exact Nat.le_refl _),List.length_set,Nat.sub_self]
 rfl
theorem zNE{S:Sto}{l:Nat}(h:l<S.length)(x:Int)(o:MO):(Wl (S++[o]) l x)[S.length]? =some o:=by
 rw [zFI (Nat.ne_of_lt h)];simp
theorem yNL{S:Sto}{l:Nat}(x:Int)(T:Sto):zQZ S (Wl S l x++T):=by
 refine⟨by rw [List.length_append,kZ];exact Nat.le_add_right _ _,fun m hm=>?_⟩
 rw [List.getElem?_append_left (by rw [kZ];exact hm)]
 by_cases e:l=m
 ·subst e
  exact .inr ⟨_,yFU hm x,gK fun e he=>by rw [List.mem_singleton.mp he];exact zED _ _⟩
 ·exact .inl (zFI e x)
theorem zZR{S:Sto}{l:Nat}(y x:Int)(T:Sto):zQZ (Wl S l y) (Wl S l x++T):=by
 have:=yNL (S:=Wl S l y) (l:=l) x T
 rw [show Wl (Wl S l y) l x=Wl S l x from yKO S l y x]at this
 exact this
theorem zZS(S:Sto)(l:Nat)(x:Int)(T:Sto){n:Nat}(h:n=S.length):(Wl S l x++T).take n=Wl S l x:=by
 rw [h,List.take_append_of_le_length (by rw [kZ];exact Nat.le_refl _),List.take_of_length_le (by rw [kZ];exact Nat.le_refl _)]
theorem zNF{n:Nat}{F:List MV→Sto→R Er}{rs:List Er}{S T:Sto}{l:Nat}{x y:Int}{d:MV}(hn:rs.length=n)(hF:F (zQ rs (Wl S l x)).1 (zQ rs (Wl S l x)).2=.ok (.val d) (Wl S l y++T))(h:lo S.length d)(hd: ∀l,d≠.loc l):zJ n F rs (Wl S l x)=.ok (.val d) (Wl S l y):=by
 unfold zJ
 rw [if_pos hn,hF,bS,bok]
 unfold dA
 rw [if_pos (zZR x y T)]
 have e:=zZS S l y T (n:=(Wl S l x).length) (kZ S l x)
 have h':lo (Wl S l x).length d:=by rw [kZ];exact h
 cases d with
 | loc m=>exact absurd rfl (hd m)
 | _=>dsimp only;rw [if_pos h',e]
theorem zVJ{n:Nat}{F:List MV→Sto→R Er}{rs:List Er}{S T:Sto}{l m:Nat}{x y:Int}{ds:List MV}(hn:rs.length=n)(hF:F (zQ rs (Wl S l x)).1 (zQ rs (Wl S l x)).2=.ok (.val (.loc m)) (Wl S l y++T))(hm:S.length≤m)(hS:(Wl S l y++T)[m]? =some (.lst ds))(h:loL S.length ds):zJ n F rs (Wl S l x)=.ok (.new ds) (Wl S l y):=by
 unfold zJ
 rw [if_pos hn,hF,bS,bok]
 unfold dA
 rw [if_pos (zZR x y T)]
 dsimp only
 rw [kZ,if_neg (by omega),hS]
 dsimp only
 rw [if_pos h,zZS S l y T rfl]
theorem dL{n:Nat}{F:List MV→Sto→R Er}{rs:List Er}{S T:Sto}{r:Er}{ds:List MV}{as:List MV}{S2:Sto}(hn:rs.length=n)(hE:zQ rs S=(as,S2))(hF:F as S2=.ok r (S++T))(hr:r=.new ds∨ ∃l,r=.val (.loc l)∧S.length≤l∧(S++T)[l]? =some (.lst ds))(h:loL S.length ds):zJ n F rs S=.ok (.new ds) S:=by
 have hF':F (zQ rs S).1 (zQ rs S).2=.ok r (S++T):=by rw [hE];exact hF
 rcases hr with rfl | ⟨l,rfl,h1,h2⟩
 ·exact zUQ hn hF' h
 ·exact yEU hn hF' h1 h2 h
section
variable{S:Sto}{l:Nat}{x:Int}
theorem zVK{n:Int}(hl:l<S.length)(h0:0<n)(hd: ∀(a:Int)(S:Sto),zOK (.val (.int a)) (.val (.int n)) S=.ok (.val (.int (a / n))) S):zJ 2 zM [.val (.loc l),.val (.int n)] (Wl S l x)=.ok (.val (.int (x % n))) (Wl S l (x / n)):=by
 have hs:zT zFX [.loc l,.int n]=[some (.loc l),some (.int n),none]:=rfl
 have ha:atI [MV.int x] 0=some (.int x):=rfl
 have hS:=yFU hl x
 have e1:zCQ [some (.loc l),some (.int n),none] (Wl S l x)=.ok (.next [some (.loc l),some (.int n),some (.int (x % n))]) (Wl S l x):=by
  unfold zCQ
  simp? [bU hS ha,mod_lit h0]
 have e2:zCR [some (.loc l),some (.int n),some (.int (x % n))] (Wl S l x)=.ok (.next [some (.loc l),some (.int n),some (.int (x % n))]) (Wl S l (x / n)):=by
  unfold zCR
  simp? [bU hS ha,hd,zTB,zVD hS (show ixN [MV.int x].length 0=some 0 from rfl)]
  exact congrArg _ (yKO S l x (x / n))
 refine zNF (T:=[]) rfl ?_ (zED _ _) (fun l=>by simp)
 show zM [.loc l,.int n] (Wl S l x)=_
 unfold zM zMD
 rw [hs,zD e1,zD e2,List.append_nil]
 rfl
theorem xF{n:Int}(hl:l<S.length)(h0:0<n)(h1:n<1073741824):zJ 2 zM [.val (.loc l),.val (.int n)] (Wl S l x)=.ok (.val (.int (x % n))) (Wl S l (x / n)):=zVK hl h0 (zEE h0 h1)
theorem zTE(hl:l<S.length): ∃y z,Nm y∧zJ 1 wE [.val (.loc l)] (Wl S l x)=.ok (.val (.str y)) (Wl S l z):=by
 have hm0:0≤x % 8:=Int.emod_nonneg _ (by decide)
 have hm1:x % 8<8:=Int.emod_lt_of_pos _ (by decide)
 have hn:((List.range (1+x % 8).toNat).map fun k=>MV.int (k:Nat)).length=(1+x % 8).toNat:=by rw [List.length_map,List.length_range]
 have e1:zIB [some (.loc l),none,none,none] (Wl S l x)=.ok (.next [some (.loc l),some (.str abc),none,none]) (Wl S l x):=rfl
 have e2:zIC [some (.loc l),some (.str abc),none,none] (Wl S l x)=.ok (.next [some (.loc l),some (.str abc),some (.str []),none]) (Wl S l x):=rfl
 obtain⟨ρ',S',e,y,z,k',hρ,hS',hyl,hy⟩:=zFW (L:=(List.range (1+x % 8).toNat).map fun k=>MV.int (k:Nat)) (gf:=gNm 3) (body:=zCS) (gs:=[]) (S:=Wl S l (x / 8)) (ρ:=[some (.loc l),some (.str abc),some (.str []),none])
  (fun i ρ S'=> ∃(y:List Nat)(z:Int)(k':Option MV),ρ=[some (.loc l),some (.str abc),some (.str y),k']∧S'=Wl S l z∧y.length=i∧ ∀c∈y,97≤c∧c≤122) (fun i d hi ρ S1 ⟨y,z,k',hρ,hS1,hyl,hy⟩=>by
   subst hρ hS1
   have hil:i<8:=by have:=(List.getElem?_eq_some_iff.mp hi).1;omega
   obtain⟨k,hk⟩:=cT (xs:=abc) (i:=z % 26) (Int.emod_nonneg _ (by decide)) (by have:=Int.emod_lt_of_pos z (show(0:Int)<26 by decide);show z % 26<26;exact this)
   refine⟨[some (.loc l),some (.str abc),some (.str (y++[k])),some d],Wl S l (z / 26),?_,gB _,y++[k],z / 26,some d,rfl,rfl,by rw [List.length_append,hyl];rfl,fun c hc=>?_⟩
   ·rw [show gNm 3 d [some (.loc l),some (.str abc),some (.str y),k'] (Wl S l z)=.ok [some (.loc l),some (.str abc),some (.str y),some d] (Wl S l z)from rfl,bok]
    unfold zCS zFG
    simp? [xF hl (show(0:Int)<26 by decide) (by decide),ix_str (show abc.length≤sizeLine by rw [sizeLine_eq];decide) hk]
    rw [add_str (fits (by rw [List.length_singleton];omega))]
    rfl
   ·rcases List.mem_append.mp hc with h | h
    ·exact hy c h
    ·rw [List.mem_singleton.mp h];exact cU (P:=fun k=>97≤k∧k≤122) (by decide) hk) ⟨[],x / 8,none,rfl,rfl,rfl,by simp⟩
 subst hρ hS'
 rw [hn]at hyl
 have e3:zCT [some (.loc l),some (.str abc),some (.str []),none] (Wl S l x)=.ok (.next [some (.loc l),some (.str abc),some (.str y),k']) (Wl S l z):=by
  unfold zCT
  simp? [xF hl (show(0:Int)<8 by decide) (by decide)]
  rw [zAR (by omega),bok]
  exact e
 refine⟨y,z,⟨by omega,by omega,hy⟩,zNF (T:=[]) rfl ?_ (zFU _ _) (fun l=>by simp)⟩
 have hs:zT zFY [.loc l]=[some (.loc l),none,none,none]:=rfl
 show wE [.loc l] (Wl S l x)=_
 unfold wE zME
 rw [hs,zD e1,zD e2,zD e3,List.append_nil]
 rfl
end
theorem zAO(c:Int)(S:Sto): ∃t,zJ 1 yJ [.val (.int c)] S=.ok (.new [.int t]) S:=by
 have hs:zT zCL [.int c]=[some (.int c),none,none,none,none,none]:=rfl
 have e1:nE [some (.int c),none,none,none,none,none] S=.ok (.next [some (.int c),some (.int (c / 2)),none,none,none,none]) S:=by
  unfold nE
  simp? [zEE (show(0:Int)<2 by decide) (show(2:Int)<1073741824 by decide)]
 have e2:nF [some (.int c),some (.int (c / 2)),none,none,none,none] S=if decide (c % 2=0)=true then .ok (.ret (.new [.int (c / 2)])) S else .ok (.next [some (.int c),some (.int (c / 2)),none,none,none,none]) S:=by
  unfold nF
  simp? [mod_lit (show(0:Int)<2 by decide)]
 have fin: ∀t,yJ [.int c] S=.ok (.new [.int t]) S→ ∃t,zJ 1 yJ [.val (.int c)] S=.ok (.new [.int t]) S:=fun t h=>⟨t,dL (T:=[]) rfl rfl (by rw [List.append_nil];exact h) (.inl rfl) (gK fun e he=>by rw [List.mem_singleton.mp he];exact zED _ _)⟩
 cases hb:decide (c % 2=0)with
 | true=>
  rw [hb,if_pos rfl]at e2
  refine fin (c / 2) ?_
  unfold yJ zCP
  rw [hs,zD e1,yC e2]
  rfl
 | false=>
  rw [hb,if_neg Bool.false_ne_true]at e2
  have e3:nG [some (.int c),some (.int (c / 2)),none,none,none,none] S=.ok (.next [some (.int c),some (.int (c / 2)),some (.int (c / 2 % 2147483647)),none,none,none]) S:=by
   unfold nG
   simp? [mod_lit (show(0:Int)<2147483647 by decide)]
  have e4:nH [some (.int c),some (.int (c / 2)),some (.int (c / 2 % 2147483647)),none,none,none] S=.ok (.next [some (.int c),some (.int (c / 2)),some (.int (c / 2 % 2147483647)),some (.int 0),none,none]) S:=by
   unfold nH
   simp? [bok]
  obtain⟨ρ',S',e,n,t,k',o',hρ,hS'⟩:=zFW (L:=(List.range 16).map fun k=>MV.int (k:Nat)) (gf:=gNm 4) (body:=nB) (gs:=[]) (S:=S) (ρ:=[some (.int c),some (.int (c / 2)),some (.int (c / 2 % 2147483647)),some (.int 0),none,none])
   (fun i ρ S'=> ∃(n t:Int)(k' o':Option MV),ρ=[some (.int c),some (.int (c / 2)),some (.int n),some (.int t),k',o']∧S'=S) (fun i d hi ρ S1 ⟨n,t,k',o',hρ,hS1⟩=>by
    subst hρ hS1
    obtain⟨k,_,rfl⟩:=List.mem_map.mp (List.mem_of_getElem? hi)
    have h0:0≤(n * 48271+7919 * ((k:Nat):Int)+11) % 2147483647:=Int.emod_nonneg _ (by decide)
    have h1:(n * 48271+7919 * ((k:Nat):Int)+11) % 2147483647<2147483647:=Int.emod_lt_of_pos _ (by decide)
    have b1:gN [some (.int c),some (.int (c / 2)),some (.int n),some (.int t),some (.int (k:Nat)),o'] S1=.ok (.next [some (.int c),some (.int (c / 2)),some (.int ((n * 48271+7919 * ((k:Nat):Int)+11) % 2147483647)),some (.int t),some (.int (k:Nat)),o']) S1:=by
     unfold gN
     simp? [zND (show -(2 ^ 64)<(48271:Int)∧(48271:Int)<2 ^ 64 by decide),zUS (show -(2 ^ 64)<(7919:Int)∧(7919:Int)<2 ^ 64 by decide),mod_lit (show(0:Int)<2147483647 by decide)]
    generalize (n * 48271+7919 * ((k:Nat):Int)+11) % 2147483647=m at h0 h1 b1
    have b2:gO [some (.int c),some (.int (c / 2)),some (.int m),some (.int t),some (.int (k:Nat)),o'] S1=.ok (.next [some (.int c),some (.int (c / 2)),some (.int m),some (.int t),some (.int (k:Nat)),some (.int (m * m % 2147483629))]) S1:=by
     unfold gO
     simp? [yNJ (a:=m) ⟨h0,by omega⟩,mod_lit (show(0:Int)<2147483629 by decide)]
    have b3:gP [some (.int c),some (.int (c / 2)),some (.int m),some (.int t),some (.int (k:Nat)),some (.int (m * m % 2147483629))] S1=.ok (.next [some (.int c),some (.int (c / 2)),some (.int m),some (.int (t * 2147483587+m * m % 2147483629 * 69621 % 2147483587)),some (.int (k:Nat)),some (.int (m * m % 2147483629))]) S1:=by
     unfold gP
     simp? [zND (show -(2 ^ 64)<(2147483587:Int)∧(2147483587:Int)<2 ^ 64 by decide),zND (show -(2 ^ 64)<(69621:Int)∧(69621:Int)<2 ^ 64 by decide),mod_lit (show(0:Int)<2147483587 by decide)]
    refine⟨[some (.int c),some (.int (c / 2)),some (.int m),some (.int (t * 2147483587+m * m % 2147483629 * 69621 % 2147483587)),some (.int (k:Nat)),some (.int (m * m % 2147483629))],S1,?_,gB _,m,_,_,_,rfl,rfl⟩
    rw [show gNm 4 (.int (k:Nat)) [some (.int c),some (.int (c / 2)),some (.int n),some (.int t),k',o'] S1=.ok [some (.int c),some (.int (c / 2)),some (.int n),some (.int t),some (.int (k:Nat)),o'] S1 from rfl,bok]
    unfold nB
    rw [zD b1,zD b2,b3]) ⟨_,_,_,_,rfl,rfl⟩
  subst hρ hS'
  have e5:nI [some (.int c),some (.int (c / 2)),some (.int (c / 2 % 2147483647)),some (.int 0),none,none] S'=.ok (.next [some (.int c),some (.int (c / 2)),some (.int n),some (.int t),k',o']) S':=by
   unfold nI
   simp? [zAR (S:=S') (j:=16) (by decide)]
   exact e
  have e6:nJ [some (.int c),some (.int (c / 2)),some (.int n),some (.int t),k',o'] S'=.ok (.ret (.new [.int t])) S':=by
   unfold nJ
   simp? [bok]
  refine fin t ?_
  unfold yJ zCP
  rw [hs,zD e1,zD e2,zD e3,zD e4,zD e5,e6]
  rfl
theorem zLJ(S:Sto)(a b:MO):(S++[a,b])[S.length+1]? =some b:=by
 rw [List.getElem?_append_right (by omega),show S.length+1 - S.length=1 by omega]
 rfl
theorem yKP{d:MV}(h:Vl d):pd d=true∧dpt d<40:=by
 rcases h.cases with⟨i,rfl,_⟩ | ⟨x,rfl,_⟩
 ·exact⟨zXY i,by rw [zKH];decide⟩
 ·exact⟨zDD x,by rw [zAH];decide⟩
theorem yJF(neg:Bool)(p:Er)(l:Nat)(S:Sto):inF neg p (.val (.loc l)) S=zFT neg p (.val (.loc l)) S:=by
 unfold inF
 split
 ·rename_i h;cases h
 ·rfl
theorem zTF{S:Sto}{l:Nat}{d:MV}{ys:List MV}(neg:Bool)(hS:S[l]? =some (.lst ys))(hd:pd d=true)(h: ∀y∈ys,pd y=true∧dpt y<40):inF neg (.val d) (.val (.loc l)) S=.ok (.val (.bl (if neg=true then !decide (d∈ys)else decide (d∈ys)))) S:=by
 have e1:itemsOf S (.val (.loc l))=some ys:=by unfold itemsOf;exact kU hS
 rw [yJF]
 unfold zFT
 dsimp only
 rw [e1]
 dsimp only
 rw [zVH hd h]
 dsimp only
 have ha:(ys.map fun y=>decide (y=d)).any id=decide (d∈ys):=by
  rw [List.any_map]
  by_cases hm:d∈ys
  ·rw [decide_eq_true hm,List.any_eq_true]
   exact⟨d,hm,by simp⟩
  ·rw [decide_eq_false hm]
   rw [List.any_eq_false]
   intro y hy
   simp only [Function.comp,id,decide_eq_true_eq]
   rintro rfl
   exact hm hy
 rw [ha]
theorem gt_int(i j:Int)(S:Sto):gtF (.val (.int i)) (.val (.int j)) S=.ok (.val (.bl (decide (j<i)))) S:=rfl
abbrev PP(l m:Nat)(k w v:Option MV):Rho:=[some (.loc l),some (.int 4),some (.loc m),k,w,v]
section
variable{S:Sto}{l m:Nat}{x:Int}{vs:List MV}{k w v:Option MV}
theorem po3{n v:Int}(hl:l<S.length)(hv:Vl (.int v)): ∃v' z,Vl (.int v')∧jU (PP l m k (some (.int n)) (some (.int v))) (Wl S l x)=.ok (.next (PP l m k (some (.int n)) (some (.int v')))) (Wl S l z):=by
 have h0:0≤x % (2 * 10 ^ 30 - 1):=Int.emod_nonneg _ (by decide)
 have h1:x % (2 * 10 ^ 30 - 1)<2 * 10 ^ 30 - 1:=Int.emod_lt_of_pos _ (by decide)
 have e:jU (PP l m k (some (.int n)) (some (.int v))) (Wl S l x)=if decide (n=1)=true then .ok (.next (PP l m k (some (.int n)) (some (.int (x % (2 * 10 ^ 30 - 1) - 10 ^ 30+1))))) (Wl S l (x / (2 * 10 ^ 30 - 1)))else .ok (.next (PP l m k (some (.int n)) (some (.int v)))) (Wl S l x):=by
  unfold jU
  simp? [pp30,zUS (show -(2 ^ 64)<(2:Int)∧(2:Int)<2 ^ 64 by decide),zVK (x:=x) hl (show(0:Int)<2 * 10 ^ 30 - 1 by decide) (yJC (show yBH 0 (2 * 10 ^ 30 - 1) by decide+kernel))]
 by_cases h:n=1
 ·rw [decide_eq_true h,if_pos rfl]at e
  exact⟨_,_,⟨by omega,by omega⟩,e⟩
 ·rw [decide_eq_false h,if_neg Bool.false_ne_true]at e
  exact⟨v,x,hv,e⟩
theorem po4{n:Int}{v:MV}(hl:l<S.length)(hv:Vl v): ∃v' z,Vl v'∧jV (PP l m k (some (.int n)) (some v)) (Wl S l x)=.ok (.next (PP l m k (some (.int n)) (some v'))) (Wl S l z):=by
 obtain⟨y,z,hy,hc⟩:=zTE (S:=S) (l:=l) (x:=x) hl
 have e:jV (PP l m k (some (.int n)) (some v)) (Wl S l x)=if decide (1<n)=true then .ok (.next (PP l m k (some (.int n)) (some (.str y)))) (Wl S l z)else .ok (.next (PP l m k (some (.int n)) (some v))) (Wl S l x):=by
  unfold jV
  simp? [gt_int,hc]
 by_cases h:1<n
 ·rw [decide_eq_true h,if_pos rfl]at e
  exact⟨_,_,show Vl (.str y)from hy,e⟩
 ·rw [decide_eq_false h,if_neg Bool.false_ne_true]at e
  exact⟨v,x,hv,e⟩
theorem yCE(hl:l<S.length)(hV: ∀d∈vs,Vl d)(hn:vs.length<1000): ∃vs' w' v' z,(∀d∈vs',Vl d)∧vs'.length≤vs.length+1∧1≤vs'.length∧jN (PP l S.length k w v) (Wl (S++[.lst vs]) l x)=.ok (.next (PP l S.length k w' v')) (Wl (S++[.lst vs']) l z):=by
 have hl2:l<(S++[MO.lst vs]).length:=by rw [List.length_append];omega
 have hv0:Vl (.int (x / 4 % 9 - 4)):=by
  have h0:0≤x / 4 % 9:=Int.emod_nonneg _ (by decide)
  have h1:x / 4 % 9<9:=Int.emod_lt_of_pos _ (by decide)
  exact⟨by omega,by omega⟩
 have e1:nK (PP l S.length k w v) (Wl (S++[.lst vs]) l x)=.ok (.next (PP l S.length k (some (.int (x % 4))) v)) (Wl (S++[.lst vs]) l (x / 4)):=by
  unfold nK
  simp? [xF hl2 (show(0:Int)<4 by decide) (by decide)]
 have e2:nL (PP l S.length k (some (.int (x % 4))) v) (Wl (S++[.lst vs]) l (x / 4))=.ok (.next (PP l S.length k (some (.int (x % 4))) (some (.int (x / 4 % 9 - 4))))) (Wl (S++[.lst vs]) l (x / 4 / 9)):=by
  unfold nL
  simp? [xF hl2 (show(0:Int)<9 by decide) (by decide)]
 obtain⟨v3,z3,hv3,e3⟩:=po3 (m:=S.length) (k:=k) (n:=x % 4) (x:=x / 4 / 9) hl2 hv0
 obtain⟨v4,z4,hv4,e4⟩:=po4 (m:=S.length) (k:=k) (n:=x % 4) (x:=z3) hl2 hv3
 have hS:(Wl (S++[.lst vs]) l z4)[S.length]? =some (.lst vs):=zNE hl z4 _
 have e5:nM (PP l S.length k (some (.int (x % 4))) (some v4)) (Wl (S++[.lst vs]) l z4)=if(!decide (v4∈vs))=true then .ok (.next (PP l S.length k (some (.int (x % 4))) (some v4))) (Wl (S++[.lst (vs++[v4])]) l z4)else .ok (.next (PP l S.length k (some (.int (x % 4))) (some v4))) (Wl (S++[.lst vs]) l z4):=by
  unfold nM
  simp? [zTF true hS (yKP hv4).1 fun y hy=>yKP (hV y hy),zET hS,zHL hS (show vs.length<1000000 by omega),zTD hl]
 by_cases h:v4∈vs
 ·rw [decide_eq_true h,Bool.not_true,if_neg Bool.false_ne_true]at e5
  refine⟨vs,some (.int (x % 4)),some v4,z4,hV,Nat.le_succ _,List.length_pos_of_mem h,?_⟩
  unfold jN
  rw [zD e1,zD e2,zD e3,zD e4,e5]
 ·rw [decide_eq_false h,Bool.not_false,if_pos rfl]at e5
  refine⟨vs++[v4],some (.int (x % 4)),some v4,z4,fun d hd=>?_,by rw [List.length_append];exact Nat.le_refl _,by rw [List.length_append];exact Nat.le_add_left _ _,?_⟩
  ·rcases List.mem_append.mp hd with hd | hd
   ·exact hV d hd
   ·rw [List.mem_singleton.mp hd];exact hv4
  ·unfold jN
   rw [zD e1,zD e2,zD e3,zD e4,e5]
end
theorem yJG(t:Int)(S:Sto): ∃vs,(∀d∈vs,Vl d)∧1≤vs.length∧vs.length≤4∧zJ 2 gD [.new [.int t],.val (.int 4)] S=.ok (.new vs) S:=by
 have hlS:S.length<(S++[MO.lst []]).length:=by rw [List.length_append];exact Nat.lt_succ_self _
 have hs:zT zFZ [.loc S.length,.int 4]=[some (.loc S.length),some (.int 4),none,none,none,none]:=rfl
 have e1:zCU [some (.loc S.length),some (.int 4),none,none,none,none] (Wl (S++[.lst []]) S.length t)=.ok (.next (PP S.length (S.length+1) none none none)) (Wl (S++[.lst []]++[.lst []]) S.length t):=by
  unfold zCU
  simp? [kZ,kQ hlS]
  rw [List.length_append]
  rfl
 obtain⟨ρ',S',e,vs,z,k',w',v',hρ,hS',hV,h1,h2⟩:=zFW (L:=(List.range 4).map fun k=>MV.int (k:Nat)) (gf:=gNm 3) (body:=jN) (gs:=[]) (S:=Wl (S++[.lst []]++[.lst []]) S.length t) (ρ:=PP S.length (S.length+1) none none none)
  (fun i ρ S'=> ∃(vs:List MV)(z:Int)(k' w' v':Option MV),ρ=PP S.length (S.length+1) k' w' v'∧S'=Wl (S++[.lst []]++[.lst vs]) S.length z∧(∀d∈vs,Vl d)∧vs.length≤i∧(i=0∨1≤vs.length)) (fun i d hi ρ S1 ⟨vs,z,k',w',v',hρ,hS1,hV,h1,h2⟩=>by
   subst hρ hS1
   have hil:i<4:=(List.getElem?_eq_some_iff.mp hi).1
   obtain⟨vs',w2,v2,z2,hV',h1',h2',hb⟩:=yCE (S:=S++[.lst []]) (l:=S.length) (x:=z) (vs:=vs) (k:=some d) (w:=w') (v:=v') hlS hV (by omega)
   rw [List.length_append]at hb
   refine⟨PP S.length (S.length+1) (some d) w2 v2,_,?_,gB _,vs',z2,some d,w2,v2,rfl,rfl,hV',by omega,.inr h2'⟩
   rw [show gNm 3 d (PP S.length (S.length+1) k' w' v') (Wl (S++[.lst []]++[.lst vs]) S.length z)=.ok (PP S.length (S.length+1) (some d) w' v') (Wl (S++[.lst []]++[.lst vs]) S.length z)from rfl,bok]
   exact hb) ⟨[],t,none,none,none,rfl,rfl,by simp,Nat.le_refl _,.inl rfl⟩
 subst hρ hS'
 have e2:zCV (PP S.length (S.length+1) none none none) (Wl (S++[.lst []]++[.lst []]) S.length t)=.ok (.next (PP S.length (S.length+1) k' w' v')) (Wl (S++[.lst []]++[.lst vs]) S.length z):=by
  unfold zCV
  simp? [zAR (S:=Wl (S++[.lst []]++[.lst []]) S.length t) (j:=4) (by decide)]
  exact e
 have e3:zCW (PP S.length (S.length+1) k' w' v') (Wl (S++[.lst []]++[.lst vs]) S.length z)=.ok (.ret (.val (.loc (S.length+1)))) (Wl (S++[.lst []]++[.lst vs]) S.length z):=by
  unfold zCW
  simp? [bok]
 have hF:gD [.loc S.length,.int 4] (S++[.lst [.int t]])=.ok (.val (.loc (S.length+1))) (S++[.lst [.int z],.lst vs]):=by
  rw [zGR]
  unfold gD zMF
  rw [hs,zD e1,zD e2,e3]
  show R.ok _ _=_
  congr 1
  rw [←kQ hlS, ←zGR,List.append_assoc]
  rfl
 refine⟨vs,hV,h2.elim (fun z=>absurd z (by decide)) id,h1,dL rfl (show zQ [.new [.int t],.val (.int 4)] S=([.loc S.length,.int 4],S++[.lst [.int t]])from rfl) hF (.inr ⟨_,rfl,Nat.le_succ _,?_⟩) (gK fun d hd=>(hV d hd).lo _)⟩
 exact zLJ S _ _
def TOk(ts:List (Int×Int)):Prop:=1≤ts.length∧ts.length≤3∧ ∀p∈ts,1≤p.1∧p.1≤3∧0≤p.2∧p.2≤p.1
abbrev T4(l m:Nat)(k w:Option MV):Rho:=[some (.loc l),some (.loc m),k,w]
theorem yFV{S:Sto}{l:Nat}{x:Int}{k w:Option MV}{ts:List (Int×Int)}(hl:l<S.length)(hn:ts.length<1000):
  ∃p w' z,(1≤p.1∧p.1≤3∧0≤p.2∧p.2≤p.1)∧jW (T4 l S.length k w) (Wl (S++[.lst (ts.map tbl)]) l x)=.ok (.next (T4 l S.length k w')) (Wl (S++[.lst ((ts++[p]).map tbl)]) l z):=by
 have hl2:l<(S++[MO.lst (ts.map tbl)]).length:=by rw [List.length_append];omega
 have h0:0≤x % 3:=Int.emod_nonneg _ (by decide)
 have h1:x % 3<3:=Int.emod_lt_of_pos _ (by decide)
 have hp:(0:Int)<1+x % 3+1:=by omega
 have h2:0≤x / 3 % (1+x % 3+1):=Int.emod_nonneg _ (by omega)
 have h3:x / 3 % (1+x % 3+1)<1+x % 3+1:=Int.emod_lt_of_pos _ hp
 have e1:gQ (T4 l S.length k w) (Wl (S++[.lst (ts.map tbl)]) l x)=.ok (.next (T4 l S.length k (some (.int (1+x % 3))))) (Wl (S++[.lst (ts.map tbl)]) l (x / 3)):=by
  unfold gQ
  simp? [xF hl2 (show(0:Int)<3 by decide) (by decide)]
 have hS: ∀z,(Wl (S++[.lst (ts.map tbl)]) l z)[S.length]? =some (.lst (ts.map tbl)):=fun z=>zNE hl z _
 have e2:gR (T4 l S.length k (some (.int (1+x % 3)))) (Wl (S++[.lst (ts.map tbl)]) l (x / 3))=.ok (.next (T4 l S.length k (some (.int (1+x % 3))))) (Wl (S++[.lst ((ts++[(1+x % 3,x / 3 % (1+x % 3+1))]).map tbl)]) l (x / 3 / (1+x % 3+1))):=by
  unfold gR
  simp? [zET (hS (x / 3)),xF (x:=x / 3) hl2 hp (by omega),zHL (hS (x / 3 / (1+x % 3+1))) (show(ts.map tbl).length<1000000 by rw [List.length_map];omega),zTD hl]
  rw [List.map_append]
  rfl
 refine⟨(1+x % 3,x / 3 % (1+x % 3+1)),some (.int (1+x % 3)),x / 3 / (1+x % 3+1),⟨by show 1≤1+x % 3;omega,by show 1+x % 3≤3;omega,h2,by show x / 3 % (1+x % 3+1)≤1+x % 3;omega⟩,?_⟩
 unfold jW
 rw [zD e1,e2]
theorem yCF(t:Int)(S:Sto): ∃ts,TOk ts∧zJ 1 kM [.new [.int t]] S=.ok (.new (ts.map tbl)) S:=by
 have hlS:S.length<(S++[MO.lst []]).length:=by rw [List.length_append];exact Nat.lt_succ_self _
 have hm0:0≤t % 3:=Int.emod_nonneg _ (by decide)
 have hm1:t % 3<3:=Int.emod_lt_of_pos _ (by decide)
 have hs:zT zCM [.loc S.length]=[some (.loc S.length),none,none,none]:=rfl
 have e1:nN [some (.loc S.length),none,none,none] (Wl (S++[.lst []]) S.length t)=.ok (.next (T4 S.length (S.length+1) none none)) (Wl (S++[.lst []]++[.lst []]) S.length t):=by
  unfold nN
  simp? [kZ,kQ hlS]
  rw [List.length_append]
  rfl
 have hlen:((List.range (1+t % 3).toNat).map fun k=>MV.int (k:Nat)).length=(1+t % 3).toNat:=by rw [List.length_map,List.length_range]
 obtain⟨ρ',S',e,ts,z,k',w',hρ,hS',hT,h1⟩:=zFW (L:=(List.range (1+t % 3).toNat).map fun k=>MV.int (k:Nat)) (gf:=gNm 2) (body:=jW) (gs:=[]) (S:=Wl (S++[.lst []]++[.lst []]) S.length (t / 3)) (ρ:=T4 S.length (S.length+1) none none)
  (fun i ρ S'=> ∃(ts:List (Int×Int))(z:Int)(k' w':Option MV),ρ=T4 S.length (S.length+1) k' w'∧S'=Wl (S++[.lst []]++[.lst (ts.map tbl)]) S.length z∧(∀p∈ts,1≤p.1∧p.1≤3∧0≤p.2∧p.2≤p.1)∧ts.length=i) (fun i d hi ρ S1 ⟨ts,z,k',w',hρ,hS1,hT,h1⟩=>by
   subst hρ hS1
   have hil:i<4:=by have:=(List.getElem?_eq_some_iff.mp hi).1;omega
   obtain⟨p,w2,z2,hp,hb⟩:=yFV (S:=S++[.lst []]) (l:=S.length) (x:=z) (ts:=ts) (k:=some d) (w:=w') hlS (by omega)
   rw [List.length_append]at hb
   refine⟨T4 S.length (S.length+1) (some d) w2,_,?_,gB _,ts++[p],z2,some d,w2,rfl,rfl,fun q hq=>?_,by rw [List.length_append,h1];rfl⟩
   ·rw [show gNm 2 d (T4 S.length (S.length+1) k' w') (Wl (S++[.lst []]++[.lst (ts.map tbl)]) S.length z)=.ok (T4 S.length (S.length+1) (some d) w') (Wl (S++[.lst []]++[.lst (ts.map tbl)]) S.length z)from rfl,bok]
    exact hb
   ·rcases List.mem_append.mp hq with h | h
    ·exact hT q h
    ·rw [List.mem_singleton.mp h];exact hp) ⟨[],t / 3,none,none,rfl,rfl,by simp,rfl⟩
 subst hρ hS'
 rw [hlen]at h1
 have hl3:S.length<(S++[MO.lst []]++[MO.lst []]).length:=by simp only [List.length_append,List.length_cons,List.length_nil];omega
 have e2:nO (T4 S.length (S.length+1) none none) (Wl (S++[.lst []]++[.lst []]) S.length t)=.ok (.next (T4 S.length (S.length+1) k' w')) (Wl (S++[.lst []]++[.lst (ts.map tbl)]) S.length z):=by
  unfold nO
  simp? [xF hl3 (show(0:Int)<3 by decide) (by decide),zAR (S:=Wl (S++[.lst []]++[.lst []]) S.length (t / 3)) (j:=1+t % 3) (by omega)]
  exact e
 have e3:nP (T4 S.length (S.length+1) k' w') (Wl (S++[.lst []]++[.lst (ts.map tbl)]) S.length z)=.ok (.ret (.val (.loc (S.length+1)))) (Wl (S++[.lst []]++[.lst (ts.map tbl)]) S.length z):=by
  unfold nP
  simp? [bok]
 have hF:kM [.loc S.length] (S++[.lst [.int t]])=.ok (.val (.loc (S.length+1))) (S++[.lst [.int z],.lst (ts.map tbl)]):=by
  rw [zGR]
  unfold kM zID
  rw [hs,zD e1,zD e2,e3]
  show R.ok _ _=_
  congr 1
  rw [←kQ hlS, ←zGR,List.append_assoc]
  rfl
 refine⟨ts,⟨by omega,by omega,hT⟩,dL rfl (show zQ [.new [.int t]] S=([.loc S.length],S++[.lst [.int t]])from rfl) hF (.inr ⟨_,rfl,Nat.le_succ _,zLJ S _ _⟩) (gK fun d hd=>?_)⟩
 obtain⟨p,_,rfl⟩:=List.mem_map.mp hd
 exact zXK (gK fun e he=>by simp at he;rcases he with rfl | rfl<;>exact zED _ _)
theorem zTG{b:List Nat}(h:Nm b)(h6:b.length≤6):Nm ([98]++b):=⟨by simp,by simp only [List.length_append,List.length_singleton];omega,fun c hc=>by
 rcases List.mem_append.mp hc with z | z
 ·rw [List.mem_singleton.mp z];decide
 ·exact h.2.2 c z⟩
theorem zZT{b:List Nat}(h:Nm b)(h7:b.length≤7):Nm (b++[97]):=⟨by simp,by simp only [List.length_append,List.length_singleton];omega,fun c hc=>by
 rcases List.mem_append.mp hc with z | z
 ·exact h.2.2 c z
 ·rw [List.mem_singleton.mp z];decide⟩
abbrev N5(l m:Nat)(b:List Nat)(k w:Option MV):Rho:=[some (.loc l),some (.str b),some (.loc m),k,w]
theorem adds{x y:List Nat}(h:x.length+y.length≤1000)(S:Sto):yY (.val (.str x)) (.val (.str y)) S=.ok (.val (.str (x++y))) S:=add_str (fits (by omega))
theorem yNM{p q:MV}{j:Nat}(h:j<2):atI [p,q] (j:Int)=some p∨atI [p,q] (j:Int)=some q:=by
 match j,h with
 | 0,_=>exact .inl rfl
 | 1,_=>exact .inr rfl
theorem yJH{S:Sto}{l:Nat}{x:Int}{b:List Nat}{w:Option MV}{us:List (List Nat)}{j:Nat}(hl:l<S.length)(hn:us.length<1000)(hb:Nm b)(h6:b.length≤6)(hj:j<2):
  ∃y w' z,Nm y∧gW (N5 l S.length b (some (.int (j:Nat))) w) (Wl (S++[.lst (us.map MV.str)]) l x)=.ok (.next (N5 l S.length b (some (.int (j:Nat))) w')) (Wl (S++[.lst ((us++[y]).map MV.str)]) l z):=by
 have hl2:l<(S++[MO.lst (us.map MV.str)]).length:=by rw [List.length_append];omega
 obtain⟨y,z,hy,hc⟩:=zTE (S:=S++[.lst (us.map MV.str)]) (l:=l) (x:=x) hl2
 have hS:(Wl (S++[.lst (us.map MV.str)]) l z)[S.length]? =some (.lst (us.map MV.str)):=zNE hl z _
 have e1:cB (N5 l S.length b (some (.int (j:Nat))) w) (Wl (S++[.lst (us.map MV.str)]) l x)=.ok (.next (N5 l S.length b (some (.int (j:Nat))) (some (.str y)))) (Wl (S++[.lst (us.map MV.str)]) l z):=by
  unfold cB
  simp? [hc]
 have e2: ∃y',Nm y'∧jF (N5 l S.length b (some (.int (j:Nat))) (some (.str y))) (Wl (S++[.lst (us.map MV.str)]) l z)=.ok (.next (N5 l S.length b (some (.int (j:Nat))) (some (.str y')))) (Wl (S++[.lst (us.map MV.str)]) l z):=by
  obtain⟨r,hr,hk⟩: ∃r,Nm r∧atI [MV.str ([98]++b),.str ([98]++b++[97])] (j:Int)=some (.str r):=by
   rcases yNM (p:=MV.str ([98]++b)) (q:=.str ([98]++b++[97])) hj with h | h
   ·exact⟨_,zTG hb h6,h⟩
   ·exact⟨_,zZT (zTG hb h6) (by simp only [List.length_append,List.length_singleton];omega),h⟩
  have e:jF (N5 l S.length b (some (.int (j:Nat))) (some (.str y))) (Wl (S++[.lst (us.map MV.str)]) l z)=if decide (MV.str y∈us.map MV.str)=true then .ok (.next (N5 l S.length b (some (.int (j:Nat))) (some (.str r)))) (Wl (S++[.lst (us.map MV.str)]) l z)else .ok (.next (N5 l S.length b (some (.int (j:Nat))) (some (.str y)))) (Wl (S++[.lst (us.map MV.str)]) l z):=by
   unfold jF
   simp? [zTF false hS (zDD y) (fun d hd=>by obtain⟨u,_,rfl⟩:=List.mem_map.mp hd;exact⟨zDD u,by rw [zAH];decide⟩),adds (x:=[98]) (y:=b) (by simp only [List.length_singleton];omega),adds (x:=[98]++b) (y:=[97]) (by simp only [List.length_append,List.length_singleton];omega),zSN (S:=Wl (S++[.lst (us.map MV.str)]) l z) hk,Bool.false_eq_true,if_false]
  by_cases h:MV.str y∈us.map MV.str
  ·rw [decide_eq_true h,if_pos rfl]at e
   exact⟨r,hr,e⟩
  ·rw [decide_eq_false h,if_neg Bool.false_ne_true]at e
   exact⟨y,hy,e⟩
 obtain⟨y',hy',e2⟩:=e2
 have e3:cE (N5 l S.length b (some (.int (j:Nat))) (some (.str y'))) (Wl (S++[.lst (us.map MV.str)]) l z)=.ok (.next (N5 l S.length b (some (.int (j:Nat))) (some (.str y')))) (Wl (S++[.lst ((us++[y']).map MV.str)]) l z):=by
  unfold cE
  simp? [zET hS,zHL hS (show(us.map MV.str).length<1000000 by rw [List.length_map];omega),zTD hl]
  rw [List.map_append]
  rfl
 refine⟨y',some (.str y'),z,hy',?_⟩
 unfold gW
 rw [zD e1,zD e2,e3]
theorem yFW(t:Int)(S:Sto): ∃ys:List (List Nat),ys.length=3∧(∀y∈ys,Nm y)∧(∃b r,ys=b::r∧b.length≤6)∧zJ 1 wF [.new [.int t]] S=.ok (.new (ys.map MV.str)) S:=by
 have hlS:S.length<(S++[MO.lst []]).length:=by rw [List.length_append];exact Nat.lt_succ_self _
 have hs:zT zEF [.loc S.length]=[some (.loc S.length),none,none,none,none]:=rfl
 obtain⟨w,z,hw,hc⟩:=zTE (S:=S++[.lst []]) (l:=S.length) (x:=t) hlS
 have hb:Nm (w.take 6):=⟨by have:=hw.1;rw [List.length_take];omega,by rw [List.length_take];omega,fun c h=>hw.2.2 c (List.mem_of_mem_take h)⟩
 have h6:(w.take 6).length≤6:=by rw [List.length_take];exact Nat.min_le_left _ _
 have c1:kR w none (some 6)=w.take 6:=yIQ _ _ (by decide)
 have e1:zBC [some (.loc S.length),none,none,none,none] (Wl (S++[.lst []]) S.length t)=.ok (.next [some (.loc S.length),some (.str (w.take 6)),none,none,none]) (Wl (S++[.lst []]) S.length z):=by
  unfold zBC
  simp? [hc,cut_str (S:=Wl (S++[.lst []]) S.length z) (fits (show w.length≤1000000 by have:=hw.2.1;omega)),c1]
 generalize w.take 6=b at hb h6 e1
 have e2:zBD [some (.loc S.length),some (.str b),none,none,none] (Wl (S++[.lst []]) S.length z)=if decide (z % 2=0)=true then .ok (.ret (.new [.str b,.str (b++[97]),.str ([98]++b)])) (Wl (S++[.lst []]) S.length (z / 2))else .ok (.next [some (.loc S.length),some (.str b),none,none,none]) (Wl (S++[.lst []]) S.length (z / 2)):=by
  unfold zBD
  simp? [xF hlS (show(0:Int)<2 by decide) (by decide),adds (x:=b) (y:=[97]) (by simp only [List.length_singleton];omega),adds (x:=[98]) (y:=b) (by simp only [List.length_singleton];omega)]
 have lo3: ∀ys:List (List Nat),loL S.length (ys.map MV.str):=fun ys=>gK fun d hd=>by obtain⟨u,_,rfl⟩:=List.mem_map.mp hd;exact zFU _ _
 by_cases h:z % 2=0
 ·rw [decide_eq_true h,if_pos rfl]at e2
  have hF:wF [.loc S.length] (S++[.lst [.int t]])=.ok (.new ([b,b++[97],[98]++b].map MV.str)) (S++[.lst [.int (z / 2)]]):=by
   rw [zGR,zGR]
   unfold wF zEP
   rw [hs,zD e1,yC e2]
   rfl
  refine⟨[b,b++[97],[98]++b],rfl,fun y hy=>?_,⟨b,_,rfl,h6⟩,dL rfl (show zQ [.new [.int t]] S=([.loc S.length],S++[.lst [.int t]])from rfl) hF (.inl rfl) (lo3 _)⟩
  simp only [List.mem_cons,List.not_mem_nil,or_false]at hy
  rcases hy with rfl | rfl | rfl
  ·exact hb
  ·exact zZT hb (by omega)
  ·exact zTG hb h6
 ·rw [decide_eq_false h,if_neg Bool.false_ne_true]at e2
  have e3:zBE [some (.loc S.length),some (.str b),none,none,none] (Wl (S++[.lst []]) S.length (z / 2))=.ok (.next (N5 S.length (S.length+1) b none none)) (Wl (S++[.lst []]++[.lst ([b].map MV.str)]) S.length (z / 2)):=by
   unfold zBE
   simp? [kZ,kQ hlS]
   rw [List.length_append]
   rfl
  obtain⟨ρ',S',e,ys,z',k',w',hρ,hS',hY,h1,r,hr⟩:=zFW (L:=(List.range 2).map fun k=>MV.int (k:Nat)) (gf:=gNm 3) (body:=gW) (gs:=[]) (S:=Wl (S++[.lst []]++[.lst ([b].map MV.str)]) S.length (z / 2)) (ρ:=N5 S.length (S.length+1) b none none)
   (fun i ρ S'=> ∃(ys:List (List Nat))(z:Int)(k' w':Option MV),ρ=N5 S.length (S.length+1) b k' w'∧S'=Wl (S++[.lst []]++[.lst (ys.map MV.str)]) S.length z∧(∀y∈ys,Nm y)∧ys.length=i+1∧ ∃r,ys=b::r) (fun i d hi ρ S1 ⟨ys,z,k',w',hρ,hS1,hY,h1,r,hr⟩=>by
    subst hρ hS1
    have hil:i<2:=(List.getElem?_eq_some_iff.mp hi).1
    obtain⟨j,hj,rfl⟩:=List.mem_map.mp (List.mem_of_getElem? hi)
    rw [List.mem_range]at hj
    obtain⟨y,w2,z2,hy,hbt⟩:=yJH (S:=S++[.lst []]) (l:=S.length) (x:=z) (b:=b) (us:=ys) (j:=j) (w:=w') hlS (by omega) hb h6 hj
    rw [List.length_append]at hbt
    refine⟨N5 S.length (S.length+1) b (some (.int (j:Nat))) w2,_,?_,gB _,ys++[y],z2,some (.int (j:Nat)),w2,rfl,rfl,fun q hq=>?_,by rw [List.length_append,h1];rfl,r++[y],by rw [hr];rfl⟩
    ·rw [show gNm 3 (.int (j:Nat)) (N5 S.length (S.length+1) b k' w') (Wl (S++[.lst []]++[.lst (ys.map MV.str)]) S.length z)=.ok (N5 S.length (S.length+1) b (some (.int (j:Nat))) w') (Wl (S++[.lst []]++[.lst (ys.map MV.str)]) S.length z)from rfl,bok]
     exact hbt
    ·rcases List.mem_append.mp hq with h | h
     ·exact hY q h
     ·rw [List.mem_singleton.mp h];exact hy) ⟨[b],z / 2,none,none,rfl,rfl,fun y hy=>by rw [List.mem_singleton.mp hy];exact hb,rfl,[],rfl⟩
  subst hρ hS'
  have e4:zBF (N5 S.length (S.length+1) b none none) (Wl (S++[.lst []]++[.lst ([b].map MV.str)]) S.length (z / 2))=.ok (.next (N5 S.length (S.length+1) b k' w')) (Wl (S++[.lst []]++[.lst (ys.map MV.str)]) S.length z'):=by
   unfold zBF
   simp? [zAR (S:=Wl (S++[.lst []]++[.lst ([b].map MV.str)]) S.length (z / 2)) (j:=2) (by decide)]
   exact e
  have e5:zBG (N5 S.length (S.length+1) b k' w') (Wl (S++[.lst []]++[.lst (ys.map MV.str)]) S.length z')=.ok (.ret (.val (.loc (S.length+1)))) (Wl (S++[.lst []]++[.lst (ys.map MV.str)]) S.length z'):=by
   unfold zBG
   simp? [bok]
  have hF:wF [.loc S.length] (S++[.lst [.int t]])=.ok (.val (.loc (S.length+1))) (S++[.lst [.int z'],.lst (ys.map MV.str)]):=by
   rw [zGR]
   unfold wF zEP
   rw [hs,zD e1,zD e2,zD e3,zD e4,e5]
   show R.ok _ _=_
   congr 1
   rw [←kQ hlS, ←zGR,List.append_assoc]
   rfl
  exact⟨ys,h1,hY,⟨b,r,hr,h6⟩,dL rfl (show zQ [.new [.int t]] S=([.loc S.length],S++[.lst [.int t]])from rfl) hF (.inr ⟨_,rfl,Nat.le_succ _,zLJ S _ _⟩) (lo3 _)⟩
abbrev VAR:List Nat:=[118,97,114]
abbrev IS:List Nat:=[105,115]
def zPF(d:MV):Prop:=(∃x,Nm x∧d=.tup [.str VAR,.str x])∨ ∃v,Vl v∧d=.tup [.str IS,v]
def zHS(ts:List (Int×Int))(a:MV):Prop:= ∃(t:Int)(tms:List MV)(p:Int×Int),a=.tup [.int t,.tup tms]∧0≤t∧t<ts.length∧atI (ts.map tbl) t=some (tbl p)∧(tms.length:Int)=p.1∧1≤p.1∧p.1≤3∧ ∀d∈tms,zPF d
mutual
theorem zZU{n:Nat}: ∀{d:MV},pd d=true→lo n d
 | .int i,_=>zED n i
 | .str x,_=>zFU n x
 | .tup ds,h=>zXK (yFX (by rw [zIP]at h;exact h))
 | .non,_=>zSL n
 | .bl b,_=>zZI n b
 | .scr ds,h=>by unfold pd at h;cases h
 | .loc l,h=>by unfold pd at h;cases h
 | .typ t,h=>by unfold pd at h;cases h
theorem yFX{n:Nat}: ∀{ds:List MV},pdL ds=true→loL n ds
 | [],_=>gK fun d hd=>by simp at hd
 | d::ds,h=>by
  rw [kY,Bool.and_eq_true]at h
  unfold loL
  exact⟨zZU h.1,yFX h.2⟩
end
theorem zZV{d:MV}(h:zPF d):pd d=true∧dpt d≤1:=by
 rcases h with⟨x,_,rfl⟩ | ⟨v,hv,rfl⟩
 ·exact⟨by rw [zIP,kY,kY,zKG,zDD,zDD];rfl,by rw [jY,xZ,xZ,zDT,zAH,zAH];decide⟩
 ·rcases hv.cases with⟨i,rfl,_⟩ | ⟨x,rfl,_⟩
  ·exact⟨by rw [zIP,kY,kY,zKG,zDD,zXY];rfl,by rw [jY,xZ,xZ,zDT,zAH,zKH];decide⟩
  ·exact⟨by rw [zIP,kY,kY,zKG,zDD,zDD];rfl,by rw [jY,xZ,xZ,zDT,zAH,zAH];decide⟩
theorem at_pd{ts:List (Int×Int)}{a:MV}(h:zHS ts a):pd a=true∧dpt a≤3:=by
 obtain⟨t,tms,p,rfl,_,_,_,_,_,_,hT⟩:=h
 have h1:pdL tms=true:=zZQ fun d hd=>(zZV (hT d hd)).1
 have h2:zPE tms≤1:=zKI fun d hd=>(zZV (hT d hd)).2
 refine⟨by rw [zIP,kY,kY,zKG,zXY,zIP,h1];rfl,?_⟩
 rw [jY,xZ,xZ,zDT,zKH,jY]
 omega
section
variable{S:Sto}{l p q:Nat}{x:Int}{vs:List MV}{ys:List (List Nat)}{ts:List (Int×Int)}
theorem yJI(hl:l<S.length)(np:l≠p)(nq:l≠q)(hp:S[p]? =some (.lst vs))(hq:S[q]? =some (.lst (ys.map MV.str)))(hV: ∀d∈vs,Vl d)(h1:1≤vs.length)(h2:vs.length≤4)(hy3:ys.length=6)(hN: ∀y∈ys,Nm y):
  ∃tm z,zPF tm∧zJ 3 kC [.val (.loc l),.val (.loc q),.val (.loc p)] (Wl S l x)=.ok (.val tm) (Wl S l z):=by
 have hs:zT gC [.loc l,.loc q,.loc p]=[some (.loc l),some (.loc q),some (.loc p)]:=rfl
 have gp: ∀z,(Wl S l z)[p]? =some (.lst vs):=fun z=>(zFI np z).trans hp
 have gq: ∀z,(Wl S l z)[q]? =some (.lst (ys.map MV.str)):=fun z=>(zFI nq z).trans hq
 have v0:(0:Int)<(vs.length:Int):=by omega
 obtain⟨v,hv⟩:=cT (xs:=vs) (i:=x / 4 % (vs.length:Int)) (Int.emod_nonneg _ (by omega)) (Int.emod_lt_of_pos _ v0)
 obtain⟨d,hd⟩:=cT (xs:=ys.map MV.str) (i:=x / 4 % (((ys.map MV.str).length:Nat):Int)) (Int.emod_nonneg _ (by rw [List.length_map,hy3];decide)) (Int.emod_lt_of_pos _ (by rw [List.length_map,hy3];decide))
 obtain⟨y,hy,rfl⟩: ∃y,Nm y∧d=.str y:=cU (P:=fun d=> ∃y,Nm y∧d=.str y) (fun e he=>by obtain⟨u,hu,rfl⟩:=List.mem_map.mp he;exact⟨u,hN u hu,rfl⟩) hd
 have e1:zCX [some (.loc l),some (.loc q),some (.loc p)] (Wl S l x)=if decide (x % 4=0)=true then .ok (.ret (.val (.tup [.str IS,v]))) (Wl S l (x / 4 / (vs.length:Int)))else .ok (.next [some (.loc l),some (.loc q),some (.loc p)]) (Wl S l (x / 4)):=by
  unfold zCX
  simp? [xF (x:=x) hl (show(0:Int)<4 by decide) (by decide),xC (gp (x / 4)),xF (x:=x / 4) (n:=(vs.length:Int)) hl v0 (by omega),bU (gp (x / 4 / (vs.length:Int))) hv]
 have e2:zCY [some (.loc l),some (.loc q),some (.loc p)] (Wl S l (x / 4))=.ok (.ret (.val (.tup [.str VAR,.str y]))) (Wl S l (x / 4 / (((ys.map MV.str).length:Nat):Int))):=by
  unfold zCY
  simp? [xC (gq (x / 4)),xF (x:=x / 4) (n:=(((ys.map MV.str).length:Nat):Int)) hl (by rw [List.length_map,hy3];decide) (by rw [List.length_map,hy3];decide),bU (gq (x / 4 / (((ys.map MV.str).length:Nat):Int))) hd]
 by_cases h:x % 4=0
 ·rw [decide_eq_true h,if_pos rfl]at e1
  have ok:zPF (.tup [.str IS,v]):=.inr ⟨v,cU hV hv,rfl⟩
  refine⟨_,x / 4 / (vs.length:Int),ok,zNF (T:=[]) rfl ?_ (zZU (zZV ok).1) (fun l=>by simp)⟩
  show kC [.loc l,.loc q,.loc p] (Wl S l x)=_
  unfold kC zGJ
  rw [hs,yC e1,List.append_nil]
  rfl
 ·rw [decide_eq_false h,if_neg Bool.false_ne_true]at e1
  have ok:zPF (.tup [.str VAR,.str y]):=.inl ⟨y,hy,rfl⟩
  refine⟨_,x / 4 / (((ys.map MV.str).length:Nat):Int),ok,zNF (T:=[]) rfl ?_ (zZU (zZV ok).1) (fun l=>by simp)⟩
  show kC [.loc l,.loc q,.loc p] (Wl S l x)=_
  unfold kC zGJ
  rw [hs,zD e1,e2,List.append_nil]
  rfl
theorem zVL(hl:l<S.length)(np:l≠p)(nq:l≠q)(hp:S[p]? =some (.lst vs))(hq:S[q]? =some (.lst (ys.map MV.str)))(hV: ∀d∈vs,Vl d)(h1:1≤vs.length)(h2:vs.length≤4)(hy3:ys.length=6)(hN: ∀y∈ys,Nm y):
  ∀(L:List MV)(x:Int), ∃out z,out.length=L.length∧(∀d∈out,zPF d)∧wB (gNm 0) bY jD [none,some (.loc l),some (.loc q),some (.loc p)] [] L (Wl S l x)=.ok out (Wl S l z)
 | [],x=>⟨[],x,rfl,by simp,rfl⟩
 | d::L,x=>by
  obtain⟨tm,z1,htm,hc⟩:=yJI (x:=x) hl np nq hp hq hV h1 h2 hy3 hN
  obtain⟨out,z,hlen,hT,ih⟩:=zVL hl np nq hp hq hV h1 h2 hy3 hN L z1
  refine⟨tm::out,z,by rw [List.length_cons,List.length_cons,hlen],fun e he=>(List.mem_cons.mp he).elim (fun z=>z▸htm) (hT e),?_⟩
  have g:gNm 0 d [none,some (.loc l),some (.loc q),some (.loc p)] (Wl S l x)=.ok [some d,some (.loc l),some (.loc q),some (.loc p)] (Wl S l x):=rfl
  have c:bY [some d,some (.loc l),some (.loc q),some (.loc p)] (Wl S l x)=.ok true (Wl S l x):=rfl
  have e:jD [some d,some (.loc l),some (.loc q),some (.loc p)] (Wl S l x)=.ok (.val tm) (Wl S l z1):=by
   unfold jD
   simp? [hc]
  unfold wB
  rw [g,bS,bok,c,bS,bok,if_pos rfl,e,bS,bok]
  unfold zEA
  rw [bok,if_pos (gB _),ih]
  rfl
abbrev A8(l p q m:Nat)(tt:MV)(k t:Option MV):Rho:=[some (.loc l),some tt,some (.loc q),some (.loc p),some (.int 1),some (.loc m),k,t]
theorem yFY(t:Int)(hp:S[p]? =some (.lst vs))(hq:S[q]? =some (.lst (ys.map MV.str)))(hV: ∀d∈vs,Vl d)(h1:1≤vs.length)(h2:vs.length≤4)(hy3:ys.length=6)(hN: ∀y∈ys,Nm y)(hT:TOk ts):
  ∃a,zHS ts a∧zJ 5 jE [.new [.int t],.val (.tup (ts.map tbl)),.val (.loc q),.val (.loc p),.val (.int 1)] S=.ok (.new [a]) S:=by
 have hlS:S.length<(S++[MO.lst []]).length:=by rw [List.length_append];exact Nat.lt_succ_self _
 have hl3:S.length<(S++[MO.lst []]++[MO.lst []]).length:=by simp only [List.length_append,List.length_cons,List.length_nil];omega
 have np:S.length≠p:=Nat.ne_of_gt (List.getElem?_eq_some_iff.mp hp).1
 have nq:S.length≠q:=Nat.ne_of_gt (List.getElem?_eq_some_iff.mp hq).1
 have hp3:(S++[MO.lst []]++[MO.lst []])[p]? =some (.lst vs):=by
  rw [List.append_assoc,List.getElem?_append_left (List.getElem?_eq_some_iff.mp hp).1];exact hp
 have hq3:(S++[MO.lst []]++[MO.lst []])[q]? =some (.lst (ys.map MV.str)):=by
  rw [List.append_assoc,List.getElem?_append_left (List.getElem?_eq_some_iff.mp hq).1];exact hq
 have tl:(((ts.map tbl).length:Nat):Int)=ts.length:=by rw [List.length_map]
 have t0:(0:Int)<(((ts.map tbl).length:Nat):Int):=by have:=hT.1;omega
 have t1:(((ts.map tbl).length:Nat):Int)<1073741824:=by have:=hT.2.1;omega
 have i0:0≤t % (((ts.map tbl).length:Nat):Int):=Int.emod_nonneg _ (by omega)
 have i1:t % (((ts.map tbl).length:Nat):Int)<(((ts.map tbl).length:Nat):Int):=Int.emod_lt_of_pos _ t0
 obtain⟨d,hd⟩:=cT (xs:=ts.map tbl) (i:=t % (((ts.map tbl).length:Nat):Int)) i0 i1
 obtain⟨pp,hpp,rfl⟩: ∃pp,(1≤pp.1∧pp.1≤3∧0≤pp.2∧pp.2≤pp.1)∧d=tbl pp:=cU (P:=fun d=> ∃pp,(1≤pp.1∧pp.1≤3∧0≤pp.2∧pp.2≤pp.1)∧d=tbl pp) (fun e he=>by obtain⟨u,hu,rfl⟩:=List.mem_map.mp he;exact⟨u,hT.2.2 u hu,rfl⟩) hd
 generalize hi:t % (((ts.map tbl).length:Nat):Int)=i at i0 i1 hd
 obtain⟨out,z,hlen,hTm,hcomp⟩:=zVL hl3 np nq hp3 hq3 hV h1 h2 hy3 hN ((List.range pp.1.toNat).map fun k=>MV.int (k:Nat)) (t / (((ts.map tbl).length:Nat):Int))
 rw [List.length_map,List.length_range]at hlen
 have ok:zHS ts (.tup [.int i,.tup out]):=⟨i,out,pp,rfl,i0,by omega,hd,by omega,hpp.1,hpp.2.1,hTm⟩
 have hs:zT zAC [.loc S.length,.tup (ts.map tbl),.loc q,.loc p,.int 1]=[some (.loc S.length),some (.tup (ts.map tbl)),some (.loc q),some (.loc p),some (.int 1),none,none,none]:=rfl
 have e1:zAZ [some (.loc S.length),some (.tup (ts.map tbl)),some (.loc q),some (.loc p),some (.int 1),none,none,none] (Wl (S++[.lst []]) S.length t)=.ok (.next (A8 S.length p q (S.length+1) (.tup (ts.map tbl)) none none)) (Wl (S++[.lst []]++[.lst []]) S.length t):=by
  unfold zAZ
  simp? [kZ,kQ hlS]
  rw [List.length_append]
  rfl
 have b1:bZ (A8 S.length p q (S.length+1) (.tup (ts.map tbl)) (some (.int 0)) none) (Wl (S++[.lst []]++[.lst []]) S.length t)=.ok (.next (A8 S.length p q (S.length+1) (.tup (ts.map tbl)) (some (.int 0)) (some (.int i)))) (Wl (S++[.lst []]++[.lst []]) S.length (t / (((ts.map tbl).length:Nat):Int))):=by
  unfold bZ
  simp? [zAG,xF (x:=t) hl3 t0 t1,hi]
 have lastS: ∀z,(Wl (S++[MO.lst []]++[MO.lst []]) S.length z)[S.length+1]? =some (.lst []):=fun z=>by
  have:=zNE (S:=S++[MO.lst []]) (l:=S.length) hlS z (.lst [])
  rw [List.length_append]at this
  exact this
 have put: ∀z o,(Wl (S++[MO.lst []]++[MO.lst []]) S.length z).set (S.length+1) o=Wl (S++[MO.lst []]++[o]) S.length z:=fun z o=>by
  have:=zTD (S:=S++[MO.lst []]) (l:=S.length) hlS z (.lst []) o
  rw [List.length_append]at this
  exact this
 have rn: ∀S:Sto,nY [.val (.int pp.1)] S=.ok ⟨(List.range pp.1.toNat).map fun k=>.int (k:Nat),[]⟩ S:=fun S=>zAR (by have:=hpp.1;have:=hpp.2.1;omega)
 have hrl:((List.range pp.1.toNat).map fun k=>MV.int (k:Nat)).length<1000000:=by rw [List.length_map,List.length_range];omega
 have ti: ∀S:Sto,ixF (.val (tbl pp)) (.val (.int 0)) S=.ok (.val (.int pp.1)) S:=fun S=>rfl
 have tn: ∀(o:List MV)(S:Sto),gJ [.new o] S=.ok (.val (.tup o)) S:=fun o S=>rfl
 have b2:cA (A8 S.length p q (S.length+1) (.tup (ts.map tbl)) (some (.int 0)) (some (.int i))) (Wl (S++[.lst []]++[.lst []]) S.length (t / (((ts.map tbl).length:Nat):Int)))=.ok (.next (A8 S.length p q (S.length+1) (.tup (ts.map tbl)) (some (.int 0)) (some (.int i)))) (Wl (S++[.lst []]++[.lst [.tup [.int i,.tup out]]]) S.length z):=by
  unfold cA
  simp? [zET (lastS (t / (((ts.map tbl).length:Nat):Int))),ix_tup (S:=Wl (S++[.lst []]++[.lst []]) S.length (t / (((ts.map tbl).length:Nat):Int))) hd,ti,rn,hrl,show blk 1 [0,2,3] (A8 S.length p q (S.length+1) (.tup (ts.map tbl)) (some (.int 0)) (some (.int i)))=[none,some (.loc S.length),some (.loc q),some (.loc p)]from rfl,hcomp,tn,zHL (lastS z) (show([]:List MV).length<1000000 by decide),put,List.nil_append]
 have e2:zBA (A8 S.length p q (S.length+1) (.tup (ts.map tbl)) none none) (Wl (S++[.lst []]++[.lst []]) S.length t)=.ok (.next (A8 S.length p q (S.length+1) (.tup (ts.map tbl)) (some (.int 0)) (some (.int i)))) (Wl (S++[.lst []]++[.lst [.tup [.int i,.tup out]]]) S.length z):=by
  unfold zBA
  simp? [zAR (S:=Wl (S++[.lst []]++[.lst []]) S.length t) (j:=1) (by decide)]
  show kB (gNm 6) zAY [] [.int 0] (A8 S.length p q (S.length+1) (.tup (ts.map tbl)) none none) _=_
  rw [dE (show gNm 6 (.int 0) (A8 S.length p q (S.length+1) (.tup (ts.map tbl)) none none) (Wl (S++[.lst []]++[.lst []]) S.length t)=.ok (A8 S.length p q (S.length+1) (.tup (ts.map tbl)) (some (.int 0)) none) (Wl (S++[.lst []]++[.lst []]) S.length t)from rfl) (by unfold zAY;rw [zD b1,b2]) (gB _)]
  rfl
 have e3:zBB (A8 S.length p q (S.length+1) (.tup (ts.map tbl)) (some (.int 0)) (some (.int i))) (Wl (S++[.lst []]++[.lst [.tup [.int i,.tup out]]]) S.length z)=.ok (.ret (.val (.loc (S.length+1)))) (Wl (S++[.lst []]++[.lst [.tup [.int i,.tup out]]]) S.length z):=by
  unfold zBB
  simp? [bok]
 have hF:jE [.loc S.length,.tup (ts.map tbl),.loc q,.loc p,.int 1] (S++[.lst [.int t]])=.ok (.val (.loc (S.length+1))) (S++[.lst [.int z],.lst [.tup [.int i,.tup out]]]):=by
  rw [zGR]
  unfold jE zJZ
  rw [hs,zD e1,zD e2,e3]
  show R.ok _ _=_
  congr 1
  rw [←kQ hlS, ←zGR,List.append_assoc]
  rfl
 exact⟨_,ok,dL rfl (show zQ [.new [.int t],.val (.tup (ts.map tbl)),.val (.loc q),.val (.loc p),.val (.int 1)] S=([.loc S.length,.tup (ts.map tbl),.loc q,.loc p,.int 1],S++[.lst [.int t]])from rfl) hF (.inr ⟨_,rfl,Nat.le_succ _,zLJ S _ _⟩) (gK fun d hd=>by rw [List.mem_singleton.mp hd];exact zZU (at_pd ok).1)⟩
end
def vn:MV→Option (List Nat)
 | .tup [.str w,.str x]=>if w=VAR then some x else none
 | _=>none
def tmsOf:MV→List MV
 | .tup [_,.tup tms]=>tms
 | _=>[]
def zHT(as:List MV):List (List Nat):=as.flatMap fun a=>(tmsOf a).filterMap vn
theorem zPG(x:List Nat):vn (.tup [.str VAR,.str x])=some x:=by simp [vn]
abbrev N6(a m:Nat)(t u w n:Option MV):Rho:=[some (.loc a),some (.loc m),t,u,w,n]
theorem yKQ(v:MV):vn (.tup [.str IS,v])=none:=by
 cases v with
 | str y=>simp [vn]
 | _=>rfl
theorem yKR(S:Sto):eqF (.val (.str VAR)) (.val (.str VAR)) S=.ok (.val (.bl true)) S:=by rw [eq_str,decide_eq_true rfl]
theorem yKS(S:Sto):eqF (.val (.str IS)) (.val (.str VAR)) S=.ok (.val (.bl false)) S:=by rw [eq_str,decide_eq_false (by decide)]
theorem yKT(S:Sto):eqF (.val (.str IS)) (.val (.str IS)) S=.ok (.val (.bl true)) S:=by rw [eq_str,decide_eq_true rfl]
theorem jZ(S:Sto)(o:MO):(S++[o])[S.length]? =some o:=by simp
theorem zVM(S:Sto)(o o':MO):(S++[o]).set S.length o'=S++[o']:=by simp
theorem yJJ{fs:List (List Nat)}: ∀y∈fs.map MV.str,pd y=true∧dpt y<40:=fun d hd=>by obtain⟨u,_,rfl⟩:=List.mem_map.mp hd;exact⟨zDD u,by rw [zAH];decide⟩
theorem zZW{x:List Nat}{fs:List (List Nat)}:MV.str x∈fs.map MV.str↔x∈fs:=⟨fun h=>by obtain⟨u,hu,e⟩:=List.mem_map.mp h;cases e;exact hu,fun h=>List.mem_map.mpr ⟨x,h,rfl⟩⟩
theorem yFZ{S:Sto}{a:Nat}{t u w n:Option MV}{d:MV}{fs:List (List Nat)}(hd:zPF d)(hn:fs.Nodup)(hl:fs.length<1000):
  ∃(fs':List (List Nat))(w' n':Option MV),fs'.Nodup∧fs'.length≤fs.length+1∧(∀x,x∈fs'↔x∈fs∨vn d=some x)∧((gTp 2 (yW (gNm 4) (yW (gNm 5) zAQ)) d (N6 a S.length t u w n) (S++[.lst (fs.map MV.str)])).bind fun ρ0 S0=>xJ ρ0 S0)=.ok (.next (N6 a S.length t u w' n')) (S++[.lst (fs'.map MV.str)]):=by
 have hS:=jZ S (.lst (fs.map MV.str))
 rcases hd with⟨x,hx,rfl⟩ | ⟨v,hv,rfl⟩
 ·rw [show gTp 2 (yW (gNm 4) (yW (gNm 5) zAQ)) (.tup [.str VAR,.str x]) (N6 a S.length t u w n) (S++[.lst (fs.map MV.str)])=.ok (N6 a S.length t u (some (.str VAR)) (some (.str x))) (S++[.lst (fs.map MV.str)])from rfl,bok]
  have e:xJ (N6 a S.length t u (some (.str VAR)) (some (.str x))) (S++[.lst (fs.map MV.str)])=if(!decide (MV.str x∈fs.map MV.str))=true then .ok (.next (N6 a S.length t u (some (.str VAR)) (some (.str x)))) (S++[.lst ((fs++[x]).map MV.str)])else .ok (.next (N6 a S.length t u (some (.str VAR)) (some (.str x)))) (S++[.lst (fs.map MV.str)]):=by
   unfold xJ jK
   simp? [yKR,zTF true hS (zDD x) yJJ,zET hS,zHL hS (show(fs.map MV.str).length<1000000 by rw [List.length_map];omega),zVM,List.map_append,List.map_cons,List.map_nil]
  by_cases h:MV.str x∈fs.map MV.str
  ·rw [decide_eq_true h,Bool.not_true,if_neg Bool.false_ne_true]at e
   exact⟨fs,_,_,hn,Nat.le_succ _,fun y=>⟨.inl,fun z=>z.elim id fun z=>by rw [zPG]at z;cases z;exact zZW.mp h⟩,e⟩
  ·rw [decide_eq_false h,Bool.not_false,if_pos rfl]at e
   refine⟨fs++[x],_,_,?_,by rw [List.length_append];exact Nat.le_refl _,fun y=>?_,e⟩
   ·exact List.nodup_append.mpr ⟨hn,by simp,fun y hy z hz=>by rw [List.mem_singleton.mp hz];rintro rfl;exact h (zZW.mpr hy)⟩
   ·rw [List.mem_append,List.mem_singleton,zPG,Option.some_inj]
    exact⟨fun z=>z.imp id Eq.symm,fun z=>z.imp id Eq.symm⟩
 ·rw [show gTp 2 (yW (gNm 4) (yW (gNm 5) zAQ)) (.tup [.str IS,v]) (N6 a S.length t u w n) (S++[.lst (fs.map MV.str)])=.ok (N6 a S.length t u (some (.str IS)) (some v)) (S++[.lst (fs.map MV.str)])from rfl,bok]
  refine⟨fs,some (.str IS),some v,hn,Nat.le_succ _,fun y=>⟨.inl,fun z=>z.elim id fun z=>by rw [yKQ]at z;cases z⟩,?_⟩
  unfold xJ jK
  simp? [yKS,Bool.false_eq_true,if_false]
theorem zRI{S:Sto}{a:Nat}{t u:Option MV}: ∀(tms:List MV),(∀d∈tms,zPF d)→ ∀(fs:List (List Nat))(w n:Option MV),fs.Nodup→fs.length+tms.length<1000→
  ∃(fs':List (List Nat))(w' n':Option MV),fs'.Nodup∧fs'.length≤fs.length+tms.length∧(∀x,x∈fs'↔x∈fs∨x∈tms.filterMap vn)∧kB (gTp 2 (yW (gNm 4) (yW (gNm 5) zAQ))) xJ [] tms (N6 a S.length t u w n) (S++[.lst (fs.map MV.str)])=.ok (.next (N6 a S.length t u w' n')) (S++[.lst (fs'.map MV.str)])
 | [],_,fs,w,n,hn,_=>⟨fs,w,n,hn,Nat.le_refl _,fun x=>by simp,rfl⟩
 | d::tms,hT,fs,w,n,hn,hl=>by
  rw [List.length_cons]at hl
  obtain⟨f1,w1,n1,a1,a2,a3,a4⟩:=yFZ (S:=S) (a:=a) (t:=t) (u:=u) (w:=w) (n:=n) (hT d List.mem_cons_self) hn (by omega)
  obtain⟨f2,w2,n2,b1,b2,b3,b4⟩:=zRI tms (fun e he=>hT e (List.mem_cons_of_mem _ he)) f1 w1 n1 a1 (by omega)
  refine⟨f2,w2,n2,b1,by rw [List.length_cons];omega,fun x=>?_,?_⟩
  ·rw [b3 x,a3 x,List.mem_filterMap,List.mem_filterMap]
   constructor
   ·rintro((h | h) | ⟨e,he,h⟩)
    ·exact .inl h
    ·exact .inr ⟨d,List.mem_cons_self,h⟩
    ·exact .inr ⟨e,List.mem_cons_of_mem _ he,h⟩
   ·rintro(h | ⟨e,he,h⟩)
    ·exact .inl (.inl h)
    ·rcases List.mem_cons.mp he with rfl | he
     ·exact .inl (.inr h)
     ·exact .inr ⟨e,he,h⟩
  ·cases z:gTp 2 (yW (gNm 4) (yW (gNm 5) zAQ)) d (N6 a S.length t u w n) (S++[.lst (fs.map MV.str)])with
   | ok ρ0 S0=>
    rw [z,bok]at a4
    rw [dE z a4 (gB _)]
    exact b4
   | exc c fs S0=>rw [z]at a4;cases a4
   | no=>rw [z]at a4;cases a4
theorem zRJ{ts:List (Int×Int)}{S:Sto}{a:Nat}{as0:List MV}(hS:S[a]? =some (.lst as0)): ∀(as:List MV),(∀d∈as,zHS ts d)→ ∀(fs:List (List Nat))(t u w n:Option MV),fs.Nodup→fs.length+3 * as.length<1000→
  ∃(fs':List (List Nat))(t' u' w' n':Option MV),fs'.Nodup∧fs'.length≤fs.length+3 * as.length∧(∀x,x∈fs'↔x∈fs∨x∈zHT as)∧kB (gTp 2 (yW (gNm 2) (yW (gNm 3) zAQ))) gS [(a,as0)] as (N6 a S.length t u w n) (S++[.lst (fs.map MV.str)])=.ok (.next (N6 a S.length t' u' w' n')) (S++[.lst (fs'.map MV.str)])
 | [],_,fs,t,u,w,n,hn,_=>⟨fs,t,u,w,n,hn,Nat.le_refl _,fun x=>by simp [zHT],rfl⟩
 | d::as,hA,fs,t,u,w,n,hn,hl=>by
  rw [List.length_cons]at hl
  obtain⟨ti,tms,p,rfl,_,_,_,h3,h4,h5,hT⟩:=hA d List.mem_cons_self
  obtain⟨f1,w1,n1,a1,a2,a3,a4⟩:=zRI (S:=S) (a:=a) (t:=some (.int ti)) (u:=some (.tup tms)) tms hT fs w n hn (by omega)
  obtain⟨f2,t2,u2,w2,n2,b1,b2,b3,b4⟩:=zRJ hS as (fun e he=>hA e (List.mem_cons_of_mem _ he)) f1 (some (.int ti)) (some (.tup tms)) w1 n1 a1 (by omega)
  refine⟨f2,t2,u2,w2,n2,b1,by rw [List.length_cons];omega,fun x=>?_,?_⟩
  ·rw [b3 x,a3 x]
   unfold zHT
   rw [List.flatMap_cons,List.mem_append]
   exact or_assoc
  ·rw [dE (show gTp 2 (yW (gNm 2) (yW (gNm 3) zAQ)) (.tup [.int ti,.tup tms]) (N6 a S.length t u w n) (S++[.lst (fs.map MV.str)])=.ok (N6 a S.length (some (.int ti)) (some (.tup tms)) w n) (S++[.lst (fs.map MV.str)])from rfl) (ρ':=N6 a S.length (some (.int ti)) (some (.tup tms)) w1 n1) (S':=S++[.lst (f1.map MV.str)]) ?_ (zJU (by rw [List.getElem?_append_left (List.getElem?_eq_some_iff.mp hS).1];exact hS))]
   ·exact b4
   ·unfold gS nZ
    simp? [show∀(ds:List MV)(S:Sto),itT (.val (.tup ds)) S=.ok ⟨ds,[]⟩ S from fun ds S=>rfl]
    exact a4
theorem yGA{ts:List (Int×Int)}{S:Sto}{a:Nat}{as:List MV}(hS:S[a]? =some (.lst as))(hA: ∀d∈as,zHS ts d)(hl:as.length≤6):
  ∃fs:List (List Nat),fs.Nodup∧fs.length≤18∧(∀x,x∈fs↔x∈zHT as)∧zJ 1 yZ [.val (.loc a)] S=.ok (.new (fs.map MV.str)) S:=by
 have hs:zT dU [.loc a]=[some (.loc a),none,none,none,none,none]:=rfl
 have e1:gT [some (.loc a),none,none,none,none,none] S=.ok (.next (N6 a S.length none none none none)) (S++[.lst []]):=by
  unfold gT
  simp? [bok]
 obtain⟨fs,t',u',w',n',h1,h2,h3,h4⟩:=zRJ hS as hA [] none none none none List.nodup_nil (by simp only [List.length_nil];omega)
 have hS2:(S++[MO.lst []])[a]? =some (.lst as):=by rw [List.getElem?_append_left (List.getElem?_eq_some_iff.mp hS).1];exact hS
 have e2:gU (N6 a S.length none none none none) (S++[.lst []])=.ok (.next (N6 a S.length t' u' w' n')) (S++[.lst (fs.map MV.str)]):=by
  unfold gU
  simp? [zZJ hS2]
  exact h4
 have e3:gV (N6 a S.length t' u' w' n') (S++[.lst (fs.map MV.str)])=.ok (.ret (.val (.loc S.length))) (S++[.lst (fs.map MV.str)]):=by
  unfold gV
  simp? [bok]
 have hF:yZ [.loc a] S=.ok (.val (.loc S.length)) (S++[.lst (fs.map MV.str)]):=by
  unfold yZ zFH
  rw [hs,zD e1,zD e2,e3]
  rfl
 exact⟨fs,h1,by rw [List.length_nil]at h2;omega,fun x=>by rw [h3 x];simp,dL rfl (show zQ [.val (.loc a)] S=([.loc a],S)from rfl) hF (.inr ⟨_,rfl,Nat.le_refl _,jZ S _⟩) (gK fun d hd=>by obtain⟨u,_,rfl⟩:=List.mem_map.mp hd;exact zFU _ _)⟩
theorem zZX: ∀(fs:List (List Nat))(i:Nat)(h:i<fs.length),(fs[i]::fs.eraseIdx i).Perm fs
 | _::_,0,_=>List.Perm.refl _
 | c::fs,i+1,h=>(List.Perm.swap ..).trans ((zZX fs i (Nat.lt_of_succ_lt_succ h)).cons c)
theorem yGB: ∀(fs:List (List Nat))(i:Nat),(fs.map MV.str).eraseIdx i=(fs.eraseIdx i).map MV.str
 | [],_=>rfl
 | _::_,0=>rfl
 | c::fs,i+1=>congrArg (MV.str c::·) (yGB fs i)
theorem zIQ{S:Sto}{l:Nat}{ds:List MV}(hS:S[l]? =some (.lst ds)):neF (.val (.loc l)) (.new []) S=.ok (.val (.bl (!ds.isEmpty))) S:=by
 have e:vwE S (.val (.loc l))=some (.ls ds):=by
  show(hX S (.val (.loc l))).map Vw.ls=_
  rw [kU hS];rfl
 unfold neF zKU
 rw [e]
 cases ds with
 | nil=>rfl
 | cons d ds=>rfl
theorem yJK{S:Sto}{l:Nat}{ds:List MV}{i:Int}{d:MV}(hS:S[l]? =some (.lst ds))(h0:0≤i)(h1:i<ds.length)(hl:ds.length<1000)(hd:ds[i.toNat]? =some d):yBV (.val (.loc l)) [.val (.int i)] S=.ok (.val d) (S.set l (.lst (ds.eraseIdx i.toNat))):=by
 have hx:ixN ds.length i=some i.toNat:=by
  unfold ixN
  rw [if_pos h0,if_pos h1]
 unfold yBV
 dsimp only
 rw [hS]
 dsimp only
 rw [if_pos ⟨by omega,by omega⟩,hx]
 dsimp only
 rw [hd]
section
variable{S:Sto}{l:Nat}{a b:MO}{x:Int}
theorem w2_a(h:l<S.length):(Wl (S++[a,b]) l x)[S.length]? =some a:=by
 rw [zFI (Nat.ne_of_lt h)];simp
theorem w2_b(h:l<S.length):(Wl (S++[a,b]) l x)[S.length+1]? =some b:=by
 rw [zFI (Nat.ne_of_lt (Nat.lt_succ_of_lt h)),zLJ]
theorem w2_pa(h:l<S.length)(a':MO):(Wl (S++[a,b]) l x).set S.length a'=Wl (S++[a',b]) l x:=by
 unfold Wl
 rw [List.set_append_left _ _ h,List.set_append_left _ _ h,List.set_append_right _ _ (by rw [List.length_set];exact Nat.le_refl _),List.length_set,Nat.sub_self]
 rfl
theorem w2_pb(h:l<S.length)(b':MO):(Wl (S++[a,b]) l x).set (S.length+1) b'=Wl (S++[a,b']) l x:=by
 unfold Wl
 rw [List.set_append_left _ _ h,List.set_append_left _ _ h,List.set_append_right _ _ (by rw [List.length_set];exact Nat.le_succ _),List.length_set,Nat.add_sub_cancel_left]
 rfl
end
abbrev H6(l a m:Nat)(k:Option MV):Rho:=[some (.loc l),some (.loc a),some (.int 6),some (.loc m),some (.loc (m+1)),k]
theorem yCG{S:Sto}{l a:Nat}{x:Int}{k:Option MV}{fs hs:List (List Nat)}(hl:l<S.length)(hf:fs.length≤18)(hh:hs.length<1000):
  ∃(fs' hs':List (List Nat))(z:Int),(hs'++fs').Perm (hs++fs)∧hs'.length≤hs.length+1∧fs'.length≤18∧jO (H6 l a S.length k) (Wl (S++[.lst (fs.map MV.str),.lst (hs.map MV.str)]) l x)=.ok (.next (H6 l a S.length k)) (Wl (S++[.lst (fs'.map MV.str),.lst (hs'.map MV.str)]) l z):=by
 have hl2:l<(S++[MO.lst (fs.map MV.str),MO.lst (hs.map MV.str)]).length:=by rw [List.length_append];omega
 have hA: ∀z,(Wl (S++[.lst (fs.map MV.str),.lst (hs.map MV.str)]) l z)[S.length]? =some (.lst (fs.map MV.str)):=fun z=>w2_a hl
 have hB: ∀z,(Wl (S++[.lst (fs.map MV.str),.lst (hs.map MV.str)]) l z)[S.length+1]? =some (.lst (hs.map MV.str)):=fun z=>w2_b hl
 by_cases h:fs=[]
 ·subst h
  have hne:(!(([]:List (List Nat)).map MV.str).isEmpty)=false:=rfl
  refine⟨[],hs,x,List.Perm.refl _,Nat.le_succ _,by simp,?_⟩
  unfold jO nQ
  simp? [zIQ (hA x),hne,Bool.false_eq_true,if_false]
 ·have f0:0<fs.length:=List.length_pos_iff.mpr h
  have m0:(0:Int)<(((fs.map MV.str).length:Nat):Int):=by rw [List.length_map];omega
  have i0:0≤x % (((fs.map MV.str).length:Nat):Int):=Int.emod_nonneg _ (by omega)
  have i1:x % (((fs.map MV.str).length:Nat):Int)<(((fs.map MV.str).length:Nat):Int):=Int.emod_lt_of_pos _ m0
  have i2:(x % (((fs.map MV.str).length:Nat):Int)).toNat<fs.length:=by rw [List.length_map]at i0 i1 ⊢; omega
  generalize hi:x % (((fs.map MV.str).length:Nat):Int)=i at i0 i1 i2
  have hd:(fs.map MV.str)[i.toNat]? =some (.str fs[i.toNat]):=by rw [List.getElem?_map,List.getElem?_eq_getElem i2];rfl
  have hne:(!(fs.map MV.str).isEmpty)=true:=by
   cases fs with
   | nil=>exact absurd rfl h
   | cons c r=>rfl
  have he:(fs.map MV.str).eraseIdx i.toNat=(fs.eraseIdx i.toNat).map MV.str:=yGB ..
  refine⟨fs.eraseIdx i.toNat,hs++[fs[i.toNat]],x / (((fs.map MV.str).length:Nat):Int),?_,by rw [List.length_append];exact Nat.le_refl _,Nat.le_trans (List.length_eraseIdx_le ..) hf,?_⟩
  ·rw [List.append_assoc]
   exact List.Perm.append_left hs (zZX fs _ i2)
  ·unfold jO nQ
   simp? [zIQ (hA x),hne,zET (hB x),zET (hA x),xC (hA x),xF (x:=x) hl2 m0 (by rw [List.length_map];omega),hi,yJK (hA (x / (((fs.map MV.str).length:Nat):Int))) i0 i1 (by rw [List.length_map];omega) hd,he,w2_pa hl]
   rw [zHL (w2_b hl) (by rw [List.length_map];omega),bok,w2_pb hl,List.map_append]
   rfl
theorem yJL{ts:List (Int×Int)}{S:Sto}{l a:Nat}{x:Int}{as:List MV}(hl:l<S.length)(hla:l≠a)(hS:S[a]? =some (.lst as))(hA: ∀d∈as,zHS ts d)(h4:as.length≤6):
  ∃(hs:List (List Nat))(z:Int),hs.Nodup∧hs.length≤6∧(∀y∈hs,y∈zHT as)∧zJ 3 gE [.val (.loc l),.val (.loc a),.val (.int 6)] (Wl S l x)=.ok (.new (hs.map MV.str)) (Wl S l z):=by
 have hst:zT zGA [.loc l,.loc a,.int 6]=[some (.loc l),some (.loc a),some (.int 6),none,none,none]:=rfl
 obtain⟨fs,f1,f2,f3,hc⟩:=yGA (S:=Wl S l x) ((zFI hla x).trans hS) hA h4
 have e1:zCZ [some (.loc l),some (.loc a),some (.int 6),none,none,none] (Wl S l x)=.ok (.next [some (.loc l),some (.loc a),some (.int 6),some (.loc S.length),none,none]) (Wl (S++[.lst (fs.map MV.str)]) l x):=by
  unfold zCZ
  simp? [hc,kZ,kQ hl]
 have hl1:l<(S++[MO.lst (fs.map MV.str)]).length:=by rw [List.length_append];omega
 have e2:zDA [some (.loc l),some (.loc a),some (.int 6),some (.loc S.length),none,none] (Wl (S++[.lst (fs.map MV.str)]) l x)=.ok (.next (H6 l a S.length none)) (Wl (S++[.lst (fs.map MV.str),.lst []]) l x):=by
  unfold zDA
  simp? [kZ,kQ hl1]
  rw [List.length_append,List.append_assoc]
  rfl
 have hl2:l<(S++[MO.lst (fs.map MV.str),MO.lst []]).length:=by rw [List.length_append];omega
 have q0:0≤x % 7:=Int.emod_nonneg _ (by decide)
 have q1:x % 7<7:=Int.emod_lt_of_pos _ (by decide)
 obtain⟨ρ',S',e,fs',hs,z,k',hρ,hS',hp,hz,_⟩:=zFW (L:=(List.range (x % 7).toNat).map fun k=>MV.int (k:Nat)) (gf:=gNm 5) (body:=jO) (gs:=[]) (S:=Wl (S++[.lst (fs.map MV.str),.lst []]) l (x / 7)) (ρ:=H6 l a S.length none)
  (fun i ρ S'=> ∃(fs' hs:List (List Nat))(z:Int)(k':Option MV),ρ=H6 l a S.length k'∧S'=Wl (S++[.lst (fs'.map MV.str),.lst (hs.map MV.str)]) l z∧(hs++fs').Perm fs∧hs.length≤i∧fs'.length≤18) (fun i d hi ρ S1 ⟨fs',hs,z,k',hρ,hS1,hp,hz,hf⟩=>by
   subst hρ hS1
   have hil:i<7:=by have:=(List.getElem?_eq_some_iff.mp hi).1;rw [List.length_map,List.length_range]at this;omega
   obtain⟨f2,h2,z2,p2,l2,l3,hb⟩:=yCG (S:=S) (l:=l) (a:=a) (x:=z) (k:=some d) (fs:=fs') (hs:=hs) hl hf (by omega)
   refine⟨H6 l a S.length (some d),_,?_,gB _,f2,h2,z2,some d,rfl,rfl,p2.trans hp,by omega,l3⟩
   rw [show gNm 5 d (H6 l a S.length k') (Wl (S++[.lst (fs'.map MV.str),.lst (hs.map MV.str)]) l z)=.ok (H6 l a S.length (some d)) (Wl (S++[.lst (fs'.map MV.str),.lst (hs.map MV.str)]) l z)from rfl,bok]
   exact hb) ⟨fs,[],x / 7,none,rfl,rfl,List.Perm.refl _,Nat.le_refl _,f2⟩
 subst hρ hS'
 rw [List.length_map,List.length_range]at hz
 have e3:zDB (H6 l a S.length none) (Wl (S++[.lst (fs.map MV.str),.lst []]) l x)=.ok (.next (H6 l a S.length k')) (Wl (S++[.lst (fs'.map MV.str),.lst (hs.map MV.str)]) l z):=by
  unfold zDB
  simp? [show(6:Int)+1=7 from rfl,xF (x:=x) hl2 (show(0:Int)<7 by decide) (by decide),zAR (S:=Wl (S++[.lst (fs.map MV.str),.lst []]) l (x / 7)) (j:=x % 7) (by omega)]
  exact e
 have e4:zDC (H6 l a S.length k') (Wl (S++[.lst (fs'.map MV.str),.lst (hs.map MV.str)]) l z)=.ok (.ret (.val (.loc (S.length+1)))) (Wl (S++[.lst (fs'.map MV.str),.lst (hs.map MV.str)]) l z):=by
  unfold zDC
  simp? [bok]
 have nd:=(hp.nodup_iff.mpr f1)
 refine⟨hs,z,(List.nodup_append.mp nd).1,by omega,fun y hy=>(f3 y).mp (hp.mem_iff.mp (List.mem_append_left _ hy)),zVJ (T:=[.lst (fs'.map MV.str),.lst (hs.map MV.str)]) (m:=S.length+1) rfl ?_ (Nat.le_succ _) ?_ (gK fun d hd=>by obtain⟨u,_,rfl⟩:=List.mem_map.mp hd;exact zFU _ _)⟩
 ·show gE [.loc l,.loc a,.int 6] (Wl S l x)=_
  unfold gE zMG
  rw [hst,zD e1,zD e2,zD e3,e4,kQ hl]
  rfl
 ·rw [kQ hl]
  exact w2_b hl
theorem zMM(a b:MV)(S:Sto):ixF (.val (.tup [a,b])) (.val (.int 0)) S=.ok (.val a) S:=rfl
theorem zKK(a b:MV)(S:Sto):ixF (.val (.tup [a,b])) (.val (.int 1)) S=.ok (.val b) S:=rfl
theorem yJM{S:Sto}{m:MV}{ds:List MV}(h:SqM S m ds):zUU [.val m,.val (.tup [.typ "list",.typ "tuple"])] S=.ok (.val (.bl true)) S:=by
 rcases h with rfl | ⟨l,rfl,hS⟩
 ·rfl
 ·have e:zCH S (.val (.loc l))=some "list":=by
   show(hX S (.val (.loc l))).map (fun _=>"list")=_
   rw [kU hS];rfl
  unfold zUU
  dsimp only
  rw [e]
  rfl
theorem zVN{S:Sto}{m:MV}{ds:List MV}(h:SqM S m ds):zJ 1 zGI [.val m] S=.ok (.val (.bl true)) S:=yL rfl (by
 show xT (zPC [some m] S)=_
 unfold zPC zPB
 simp? [yJM h]
 rfl)
theorem SqM.itQ{S:Sto}{m:MV}{ds:List MV}(h:SqM S m ds): ∃gs,(∀T,stay gs (S++T))∧ ∀T,itQ (.val m) (S++T)=.ok ⟨ds,gs⟩ (S++T):=by
 rcases h with rfl | ⟨l,rfl,hS⟩
 ·exact⟨[],fun T=>gB _,fun T=>rfl⟩
 ·have hT: ∀T,(S++T)[l]? =some (.lst ds):=fun T=>by rw [List.getElem?_append_left (List.getElem?_eq_some_iff.mp hS).1];exact hS
  refine⟨[(l,ds)],fun T=>zJU (hT T),fun T=>?_⟩
  have e:srcOf (S++T) (.val (.loc l))=some ⟨true,ds,[(l,ds)]⟩:=by
   unfold srcOf
   dsimp only
   rw [hT T]
  unfold L2.M.itQ
  rw [e]
theorem yGC{kvs:List (MV×MV)}{k:MV}(h:(look kvs k).isSome=true):k∈kvs.map (·.1):=by
 unfold look at h
 rw [Option.isSome_map]at h
 obtain⟨p,hp⟩:=Option.isSome_iff_exists.mp h
 have h1:=List.find?_some hp
 exact List.mem_map.mpr ⟨p,List.mem_of_find?_eq_some hp,of_decide_eq_true h1⟩
theorem yGD(kvs:List (MV×MV))(k d:MV):(∀j∈kvs.map (·.1),j∈(putK kvs k d).map (·.1))∧k∈(putK kvs k d).map (·.1)∧(∀j∈(putK kvs k d).map (·.1),j=k∨j∈kvs.map (·.1))∧(putK kvs k d).length≤kvs.length+1∧(dS k=true→kvs.all (fun p=>dS p.1)=true→(putK kvs k d).all (fun p=>dS p.1)=true):=by
 unfold putK
 by_cases h:(look kvs k).isSome=true
 ·rw [if_pos h]
  have e:(kvs.map fun p=>if p.1=k then(p.1,d)else p).map (·.1)=kvs.map (·.1):=by
   rw [List.map_map]
   refine List.map_congr_left fun p _=>?_
   show(if p.1=k then(p.1,d)else p).1=p.1
   split<;>rfl
  refine⟨fun j hj=>by rw [e];exact hj,by rw [e];exact yGC h,fun j hj=>.inr (by rw [e]at hj;exact hj),by rw [List.length_map];exact Nat.le_succ _,fun _ ha=>?_⟩
  rw [List.all_eq_true]at ha ⊢
  intro p hp
  have:p.1∈kvs.map (·.1):=by rw [←e];exact List.mem_map_of_mem hp
  obtain⟨q,hq,eq⟩:=List.mem_map.mp this
  rw [←eq]
  exact ha q hq
 ·rw [if_neg h,List.map_append]
  refine⟨fun j hj=>List.mem_append_left _ hj,List.mem_append_right _ (List.mem_singleton.mpr rfl),fun j hj=>(List.mem_append.mp hj).elim .inr fun z=>.inl (List.mem_singleton.mp z),by rw [List.length_append];exact Nat.le_refl _,fun hk ha=>?_⟩
  rw [List.all_append,ha]
  simp [hk]
theorem yCH{S:Sto}{kvs:List (MV×MV)}{x:List Nat}{d:MV}{ρ:Rho}(ha:kvs.all (fun p=>dS p.1)=true)(hl:kvs.length<1000000):zUY (.val (.loc S.length)) (.val (.str x)) d ρ (S++[.dic kvs])=.ok ρ (S++[.dic (putK kvs (.str x) d)]):=by
 have e:zMB (S++[.dic kvs]) (.val (.loc S.length))=some (S.length,kvs):=by
  unfold zMB
  dsimp only
  rw [jZ]
  dsimp only
  rw [if_pos ha]
 unfold zUY
 dsimp only
 rw [e]
 dsimp only
 rw [if_pos hl,zVM]
abbrev D4(m:MV)(n:Nat)(a t:Option MV):Rho:=[some m,some (.loc n),a,t]
theorem zLK{S:Sto}{m:MV}{a:Option MV}: ∀(tms:List MV),(∀d∈tms,zPF d)→ ∀(kvs:List (MV×MV))(t:Option MV),kvs.all (fun p=>dS p.1)=true→kvs.length+tms.length<1000→
  ∃(kvs':List (MV×MV))(t':Option MV),kvs'.all (fun p=>dS p.1)=true∧kvs'.length≤kvs.length+tms.length∧(∀j∈kvs.map (·.1),j∈kvs'.map (·.1))∧(∀x∈tms.filterMap vn,MV.str x∈kvs'.map (·.1))∧(∀j∈kvs'.map (·.1),j∈kvs.map (·.1)∨ ∃x∈tms.filterMap vn,j=MV.str x)∧kB (gNm 3) zAD [] tms (D4 m S.length a t) (S++[.dic kvs])=.ok (.next (D4 m S.length a t')) (S++[.dic kvs'])
 | [],_,kvs,t,ha,_=>⟨kvs,t,ha,Nat.le_refl _,fun j hj=>hj,fun x hx=>by simp at hx,fun j hj=>.inl hj,rfl⟩
 | d::tms,hT,kvs,t,ha,hl=>by
  rw [List.length_cons]at hl
  rcases hT d List.mem_cons_self with⟨x,hx,rfl⟩ | ⟨v,hv,rfl⟩
  ·obtain⟨p1,p2,p5,p3,p4⟩:=yGD kvs (.str x) (.bl true)
   obtain⟨k2,t2,b1,b2,b3,b4,b6,b5⟩:=zLK tms (fun e he=>hT e (List.mem_cons_of_mem _ he)) (putK kvs (.str x) (.bl true)) (some (.tup [.str VAR,.str x])) (p4 rfl ha) (by omega)
   refine⟨k2,t2,b1,by rw [List.length_cons];omega,fun j hj=>b3 j (p1 j hj),fun y hy=>?_,fun j hj=>?_,?_⟩
   ·rw [List.filterMap_cons,zPG]at hy
    rcases List.mem_cons.mp hy with rfl | hy
    ·exact b3 _ p2
    ·exact b4 y hy
   ·rw [List.filterMap_cons,zPG]
    rcases b6 j hj with z | ⟨y,hy,z⟩
    ·rcases p5 j z with z | z
     ·exact .inr ⟨x,List.mem_cons_self,z⟩
     ·exact .inl z
    ·exact .inr ⟨y,List.mem_cons_of_mem _ hy,z⟩
   ·rw [dE (show gNm 3 (.tup [.str VAR,.str x]) (D4 m S.length a t) (S++[.dic kvs])=.ok (D4 m S.length a (some (.tup [.str VAR,.str x]))) (S++[.dic kvs])from rfl) (ρ':=D4 m S.length a (some (.tup [.str VAR,.str x]))) (S':=S++[.dic (putK kvs (.str x) (.bl true))]) ?_ (gB _)]
    ·exact b5
    ·unfold zAD zAW
     simp? [zMM,zKK,yKR,zTB,yCH ha (show kvs.length<1000000 by omega)]
  ·obtain⟨k2,t2,b1,b2,b3,b4,b6,b5⟩:=zLK tms (fun e he=>hT e (List.mem_cons_of_mem _ he)) kvs (some (.tup [.str IS,v])) ha (by omega)
   have hv0:vn (.tup [.str IS,v])=none:=by
    cases v with
    | str y=>simp [vn]
    | _=>rfl
   refine⟨k2,t2,b1,by rw [List.length_cons];omega,b3,fun y hy=>?_,fun j hj=>by rw [List.filterMap_cons,hv0];exact b6 j hj,?_⟩
   ·rw [List.filterMap_cons,hv0]at hy
    exact b4 y hy
   ·rw [dE (show gNm 3 (.tup [.str IS,v]) (D4 m S.length a t) (S++[.dic kvs])=.ok (D4 m S.length a (some (.tup [.str IS,v]))) (S++[.dic kvs])from rfl) (ρ':=D4 m S.length a (some (.tup [.str IS,v]))) (S':=S++[.dic kvs]) ?_ (gB _)]
    ·exact b5
    ·unfold zAD zAW
     simp? [zMM,zKK,yKS,Bool.false_eq_true,if_false]
theorem zRK{ts:List (Int×Int)}{S:Sto}{m:MV}{gs:List (Nat×List MV)}(hg: ∀T,stay gs (S++T)): ∀(as:List MV),(∀d∈as,zHS ts d)→ ∀(kvs:List (MV×MV))(a t:Option MV),kvs.all (fun p=>dS p.1)=true→kvs.length+3 * as.length<1000→
  ∃(kvs':List (MV×MV))(a' t':Option MV),kvs'.all (fun p=>dS p.1)=true∧(∀j∈kvs.map (·.1),j∈kvs'.map (·.1))∧(∀x∈zHT as,MV.str x∈kvs'.map (·.1))∧(∀j∈kvs'.map (·.1),j∈kvs.map (·.1)∨ ∃x∈zHT as,j=MV.str x)∧kB (gNm 2) zEL gs as (D4 m S.length a t) (S++[.dic kvs])=.ok (.next (D4 m S.length a' t')) (S++[.dic kvs'])
 | [],_,kvs,a,t,ha,_=>⟨kvs,a,t,ha,fun j hj=>hj,fun x hx=>by simp [zHT]at hx,fun j hj=>.inl hj,rfl⟩
 | d::as,hA,kvs,a,t,ha,hl=>by
  rw [List.length_cons]at hl
  obtain⟨ti,tms,p,rfl,_,_,_,h3,h4,h5,hT⟩:=hA d List.mem_cons_self
  obtain⟨k1,t1,a1,a2,a3,a4,a6,a5⟩:=zLK (S:=S) (m:=m) (a:=some (.tup [.int ti,.tup tms])) tms hT kvs t ha (by omega)
  obtain⟨k2,a2',t2,b1,b2,b3,b6,b4⟩:=zRK hg as (fun e he=>hA e (List.mem_cons_of_mem _ he)) k1 (some (.tup [.int ti,.tup tms])) t1 a1 (by omega)
  refine⟨k2,a2',t2,b1,fun j hj=>b2 j (a3 j hj),fun x hx=>?_,fun j hj=>?_,?_⟩
  ·unfold zHT at hx
   rw [List.flatMap_cons,List.mem_append]at hx
   rcases hx with h | h
   ·exact b2 _ (a4 x h)
   ·exact b3 x h
  ·unfold zHT
   rw [List.flatMap_cons]
   rcases b6 j hj with z | ⟨x,hx,z⟩
   ·rcases a6 j z with z | ⟨x,hx,z⟩
    ·exact .inl z
    ·exact .inr ⟨x,List.mem_append_left _ hx,z⟩
   ·exact .inr ⟨x,List.mem_append_right _ hx,z⟩
  ·rw [dE (show gNm 2 (.tup [.int ti,.tup tms]) (D4 m S.length a t) (S++[.dic kvs])=.ok (D4 m S.length (some (.tup [.int ti,.tup tms])) t) (S++[.dic kvs])from rfl) (ρ':=D4 m S.length (some (.tup [.int ti,.tup tms])) t1) (S':=S++[.dic k1]) ?_ (hg _)]
   ·exact b4
   ·unfold zEL zGE
    simp? [zKK,show∀(ds:List MV)(S:Sto),itT (.val (.tup ds)) S=.ok ⟨ds,[]⟩ S from fun ds S=>rfl]
    exact a5
theorem c_nin{ts:List (Int×Int)}{S:Sto}{m:MV}{as:List MV}(h:SqM S m as)(hA: ∀d∈as,zHS ts d)(hl:as.length≤4):
  ∃ks:List MV,(∀k,k∈ks↔ ∃x∈zHT as,k=MV.str x)∧zJ 1 bW [.val m] S=.ok (.new ks) S:=by
 obtain⟨gs,hg,hit⟩:=h.itQ
 obtain⟨kvs,a',t',h1,_,h3,h6,h4⟩:=zRK (m:=m) hg as hA [] none none rfl (by simp only [List.length_nil];omega)
 have hs:zT zIL [m]=[some m,none,none,none]:=rfl
 have e1:zEM [some m,none,none,none] S=.ok (.next (D4 m S.length none none)) (S++[.dic []]):=by
  unfold zEM
  simp? [yEZ]
 have e2:zEN (D4 m S.length none none) (S++[.dic []])=.ok (.next (D4 m S.length a' t')) (S++[.dic kvs]):=by
  unfold zEN
  simp? [hit]
  exact h4
 have hk:zOX [.val (.loc S.length)] (S++[.dic kvs])=.ok (.new (kvs.map (·.1))) (S++[.dic kvs]):=by
  have e:zMB (S++[.dic kvs]) (.val (.loc S.length))=some (S.length,kvs):=by
   unfold zMB
   dsimp only
   rw [jZ]
   dsimp only
   rw [if_pos h1]
  unfold zOX
  dsimp only
  rw [e]
 have e3:zEO (D4 m S.length a' t') (S++[.dic kvs])=.ok (.ret (.new (kvs.map (·.1)))) (S++[.dic kvs]):=by
  unfold zEO
  simp? [hk]
 have hF:bW [m] S=.ok (.new (kvs.map (·.1))) (S++[.dic kvs]):=by
  unfold bW zPA
  rw [hs,zD e1,zD e2,e3]
  rfl
 have hall: ∀k∈kvs.map (·.1),dS k=true:=fun k hk=>by
  obtain⟨p,hp,rfl⟩:=List.mem_map.mp hk
  exact List.all_eq_true.mp h1 p hp
 refine⟨kvs.map (·.1),fun k=>⟨fun hk=>(h6 k hk).elim (fun z=>by simp at z) id,fun⟨x,hx,e⟩=>e▸h3 x hx⟩,dL rfl (show zQ [.val m] S=([m],S)from rfl) hF (.inl rfl) (gK fun d hd=>?_)⟩
 have:=hall d hd
 cases d with
 | str x=>exact zFU _ _
 | _=>exact absurd this Bool.false_ne_true
mutual
def pq:MV→Bool
 | .int _=>true
 | .str x=>decide (x.length≤1000)
 | .bl _=>true
 | .non=>true
 | .tup ds=>pqL ds&&decide (ds.length≤1000)
 | _=>false
def pqL:List MV→Bool
 | []=>true
 | d::ds=>pq d&&pqL ds
end
theorem yGE(i:Int):pq (.int i)=true:=by rw [pq]
theorem pq_bl(i:Bool):pq (.bl i)=true:=by rw [pq]
theorem yGF:pq .non=true:=by rw [pq]
theorem yNN{x:List Nat}(h:x.length≤1000):pq (.str x)=true:=by rw [pq];exact decide_eq_true h
theorem zTH(ds:List MV):pq (.tup ds)=(pqL ds&&decide (ds.length≤1000)):=by rw [pq]
theorem yJN:pqL []=true:=by rw [pqL]
theorem zKL(d:MV)(ds:List MV):pqL (d::ds)=(pq d&&pqL ds):=by rw [pqL]
theorem zZY: ∀{ds:List MV},(∀d∈ds,pq d=true)→pqL ds=true
 | [],_=>yJN
 | d::ds,h=>by rw [zKL,h d List.mem_cons_self,zZY fun e he=>h e (List.mem_cons_of_mem _ he)];rfl
theorem zZZ: ∀{ds:List MV},pqL ds=true→ ∀d∈ds,pq d=true
 | [],_,d,h=>by simp at h
 | e::ds,hp,d,h=>by
  rw [zKL,Bool.and_eq_true]at hp
  rcases List.mem_cons.mp h with rfl | h
  ·exact hp.1
  ·exact zZZ hp.2 d h
theorem zTI{ds:List MV}(h: ∀d∈ds,pq d=true)(hl:ds.length≤1000):pq (.tup ds)=true:=by rw [zTH,zZY h,decide_eq_true hl];rfl
theorem wZ{d:MV}(h:pq d=true):(∃i,d=.int i)∨(∃x,d=.str x∧x.length≤1000)∨(∃b,d=.bl b)∨d=.non∨ ∃ds,d=.tup ds∧(∀e∈ds,pq e=true)∧ds.length≤1000:=by
 cases d with
 | int i=>exact .inl ⟨i,rfl⟩
 | str x=>rw [pq]at h;exact .inr (.inl ⟨x,rfl,of_decide_eq_true h⟩)
 | bl b=>exact .inr (.inr (.inl ⟨b,rfl⟩))
 | non=>exact .inr (.inr (.inr (.inl rfl)))
 | tup ds=>
  rw [zTH,Bool.and_eq_true]at h
  exact .inr (.inr (.inr (.inr ⟨ds,rfl,zZZ h.1,of_decide_eq_true h.2⟩)))
 | _=>rw [pq]at h<;>first | cases h | (intros;simp)
theorem yGG{n:Nat}: ∀(k:Nat){d:MV},dpt d<k→pq d=true→lo n d
 | 0,d,h,_=>by omega
 | k+1,d,hk,h=>by
  rcases wZ h with⟨i,rfl⟩ | ⟨x,rfl,_⟩ | ⟨b,rfl⟩ | rfl | ⟨ds,rfl,hp,_⟩
  ·exact zED _ _
  ·exact zFU _ _
  ·exact zZI _ _
  ·exact zSL _
  ·rw [jY]at hk
   exact zXK (gK fun e he=>yGG k (by have:=zKJ e he;omega) (hp e he))
theorem zVO{d:MV}(h:pq d=true)(l:Nat):d≠.loc l:=by
 rintro rfl
 rw [pq]at h<;>first | cases h | (intros;simp)
theorem zPH{e:MV→MV→Option Bool}: ∀{ds:List MV},(∀d∈ds,e d d=some true)→prs e ds ds=some (ds.map fun _=>true)
 | [],_=>rfl
 | d::ds,h=>by
  unfold prs
  rw [h d List.mem_cons_self,zPH fun a ha=>h a (List.mem_cons_of_mem _ ha)]
  rfl
theorem zRL(ds:List MV):(ds.map fun _=>true).all id=true:=by
 rw [List.all_eq_true]
 intro b hb
 obtain⟨_,_,rfl⟩:=List.mem_map.mp hb
 rfl
theorem eqv_refl{S:Sto}: ∀(n:Nat){d:MV},pq d=true→dpt d<n→eqv S n d d=some true
 | 0,d,_,h=>by omega
 | n+1,d,hd,h=>by
  rcases wZ hd with⟨i,rfl⟩ | ⟨x,rfl,_⟩ | ⟨b,rfl⟩ | rfl | ⟨ds,rfl,hp,_⟩
  ·rw [zNC,decide_eq_true rfl]
  ·rw [zJT,decide_eq_true rfl]
  ·rw [yEX,beq_self_eq_true]
  ·rfl
  ·rw [jY]at h
   show((prs (eqv S n) ds ds).map fun bs=>bs.all id&&ds.length==ds.length)=_
   rw [zPH fun d hd=>eqv_refl n (hp d hd) (by have:=zKJ d hd;omega)]
   show some ((ds.map fun _=>true).all id&&ds.length==ds.length)=_
   rw [zRL,beq_self_eq_true]
   rfl
theorem yNO{S:Sto}(n:Nat){d:MV}(y:List Nat)(h:pq d=true):eqv S (n+1) d (.str y)=some (decide (d=.str y)):=by
 rcases wZ h with⟨i,rfl⟩ | ⟨x,rfl,_⟩ | ⟨b,rfl⟩ | rfl | ⟨ds,rfl,_⟩
 ·rw [yEV,decide_eq_false (by simp)]
 ·rw [zJT];exact congrArg some (dec_is (by simp))
 ·rw [decide_eq_false (by simp)];rfl
 ·rw [decide_eq_false (by simp)];rfl
 ·rw [decide_eq_false (by simp)];rfl
theorem yNP{S:Sto}(n:Nat){d:MV}(y:List Nat)(h:pq d=true):eqv S (n+1) (.str y) d=some (decide (MV.str y=d)):=by
 rcases wZ h with⟨i,rfl⟩ | ⟨x,rfl,_⟩ | ⟨b,rfl⟩ | rfl | ⟨ds,rfl,_⟩
 ·rw [yEW,decide_eq_false (by simp)]
 ·rw [zJT];exact congrArg some (dec_is (by simp))
 ·rw [decide_eq_false (by simp)];rfl
 ·rw [decide_eq_false (by simp)];rfl
 ·rw [decide_eq_false (by simp)];rfl
theorem yAA{d:MV}(y:List Nat)(h:pq d=true)(S:Sto):eqF (.val d) (.val (.str y)) S=.ok (.val (.bl (decide (d=.str y)))) S:=zSM (yNO _ y h)
theorem yGH{S:Sto}{d:MV}(h:pq d=true): ∀(ys:List (List Nat)),zMK S zZ d (ys.map MV.str)=some (ys.map fun y=>decide (MV.str y=d))
 | []=>rfl
 | y::ys=>by
  rw [List.map_cons]
  unfold zMK
  rw [show zZ=39+1 from rfl,yNP 39 y h, ←show zZ=39+1 from rfl,yGH h ys]
  rfl
theorem yNQ(ys:List (List Nat))(d:MV):(ys.map fun y=>decide (MV.str y=d)).any id=decide (d∈ys.map MV.str):=by
 rw [List.any_map]
 by_cases h:d∈ys.map MV.str
 ·rw [decide_eq_true h,List.any_eq_true]
  obtain⟨y,hy,e⟩:=List.mem_map.mp h
  exact⟨y,hy,by simp [e]⟩
 ·rw [decide_eq_false h,List.any_eq_false]
  intro y hy
  simp only [Function.comp,id,decide_eq_true_eq]
  exact fun e=>h (List.mem_map.mpr ⟨y,hy,e⟩)
theorem yNR{S:Sto}{d:MV}{q:Er}{ys:List (List Nat)}(neg:Bool)(h:pq d=true)(hq:itemsOf S q=some (ys.map MV.str)):zFT neg (.val d) q S=.ok (.val (.bl (if neg=true then !decide (d∈ys.map MV.str)else decide (d∈ys.map MV.str)))) S:=by
 unfold zFT
 dsimp only
 rw [hq]
 dsimp only
 rw [yGH h]
 dsimp only
 rw [yNQ]
theorem yKU{S:Sto}{d:MV}{q:Er}{ys:List (List Nat)}(neg:Bool)(h:pq d=true)(hq:itemsOf S q=some (ys.map MV.str))(hn: ∀y,q≠.val (.str y)):inF neg (.val d) q S=.ok (.val (.bl (if neg=true then !decide (d∈ys.map MV.str)else decide (d∈ys.map MV.str)))) S:=by
 rw [←yNR neg h hq]
 unfold inF
 split
 ·exact absurd rfl (hn _)
 ·rfl
def isI:MV→Bool
 | .int _=>true
 | _=>false
theorem yAB{d:MV}(h:pq d=true)(S:Sto):zJ 1 kW [.val d] S=.ok (.val (.bl (isI d))) S:=by
 rcases wZ h with⟨i,rfl⟩ | ⟨x,rfl,_⟩ | ⟨b,rfl⟩ | rfl | ⟨ds,rfl,_⟩
 ·exact zGQ i S
 ·exact zVI x S
 ·exact yL rfl rfl
 ·exact yL rfl rfl
 ·exact yL rfl rfl
def oKc(c:Nat):Bool:=decide (97≤c)&&decide (c≤122)
def nmB(x:List Nat):Bool:=decide (1≤x.length)&&decide (x.length≤8)&&x.all oKc
theorem yAC{x:List Nat}:nmB x=true↔Nm x:=by
 unfold nmB Nm oKc
 simp only [Bool.and_eq_true,decide_eq_true_eq,List.all_eq_true,and_assoc]
def nmD:MV→Bool
 | .str x=>nmB x
 | _=>false
theorem le_a(c:Nat):(!decide ([c]<[97]))=decide (97≤c):=by
 rw [←decide_not]
 refine decide_eq_decide.mpr ?_
 rw [List.cons_lt_cons_iff]
 simp
theorem le_z(c:Nat):(!decide ([122]<[c]))=decide (c≤122):=by
 rw [←decide_not]
 refine decide_eq_decide.mpr ?_
 rw [List.cons_lt_cons_iff]
 simp
theorem zTJ{α:Type}(f:α→Bool)(xs:List α)(S:Sto):zXE [.new (xs.map fun x=>.bl (f x))] S=.ok (.val (.bl (xs.all f))) S:=by
 have h: ∀xs:List α,zJS (xs.map fun x=>.bl (f x))=some (xs.map f):=by
  intro xs
  induction xs with
  | nil=>rfl
  | cons x xs ih=>rw [List.map_cons,List.map_cons];unfold zJS;rw [ih];rfl
 show(match (some (xs.map fun x=>MV.bl (f x))).bind zJS with | some bs=>R.ok (Er.val (.bl (bs.all id))) S | none=>.no)=_
 rw [show(some (xs.map fun x=>MV.bl (f x))).bind zJS=some (xs.map f)from h xs]
 show R.ok (Er.val (.bl ((xs.map f).all id))) S=_
 rw [List.all_map]
 rfl
theorem yGI{d:MV}(h:pq d=true)(S:Sto):zJ 1 zAM [.val d] S=.ok (.val (.bl (nmD d))) S:=by
 rcases wZ h with⟨i,rfl⟩ | ⟨x,rfl,hx⟩ | ⟨b,rfl⟩ | rfl | ⟨ds,rfl,_⟩
 ·exact yL rfl rfl
 ·refine yL rfl ?_
  have hl: ∀S,wN [.val (.str x)] S=.ok (.val (.int x.length)) S:=fun S=>if_pos (fits (by omega))
  have e1:zGB [some (.str x)] S=if(decide (1≤x.length)&&decide (x.length≤8))=true then .ok (.next [some (.str x)]) S else .ok (.ret (.val (.bl false))) S:=by
   unfold zGB
   simp? [hl,chF,le_int]
   by_cases h1:1≤x.length
   ·by_cases h2:x.length≤8
    ·simp only [decide_eq_true h1,decide_eq_true h2,decide_eq_true (show(1:Int)≤(x.length:Int) by omega),decide_eq_true (show(x.length:Int)≤8 by omega)];rfl
    ·simp only [decide_eq_true h1,decide_eq_false h2,decide_eq_true (show(1:Int)≤(x.length:Int) by omega),decide_eq_false (show¬(x.length:Int)≤8 by omega)];rfl
   ·simp only [decide_eq_false h1,decide_eq_false (show¬(1:Int)≤(x.length:Int) by omega)];rfl
  have hc:wB (gNm 0) cW jM (blk 1 [] [some (.str x)]) [] (x.map fun c=>.str [c]) S=.ok (x.map fun c=>MV.bl (oKc c)) S:=by
   have:=zJV (gf:=gNm 0) (cf:=cW) (ef:=jM) (ρb:=blk 1 [] [some (.str x)]) (gs:=[]) (ds:=x.map fun c=>MV.str [c]) (F:=fun d=>match d with | .str [c]=>.bl (oKc c) | _=>.non) (gB S) fun d hd=>by
    obtain⟨c,hc,rfl⟩:=List.mem_map.mp hd
    refine⟨[some (.str [c])],rfl,rfl,?_⟩
    unfold jM oKc
    simp? [chF,le_str,le_a,le_z]
    cases decide (97≤c)<;>rfl
   rw [this,List.map_map]
   rfl
  have e2:zGC [some (.str x)] S=.ok (.ret (.val (.bl (x.all oKc)))) S:=by
   unfold zGC
   simp? [bok]
   show(((((if(x.map fun c=>MV.str [c]).length<1000000 then(wB (gNm 0) cW jM (blk 1 [] [some (.str x)]) [] (x.map fun c=>.str [c]) S).bind fun o S=>R.ok (Er.new o) S else .no).bind fun p S1=>R.ok [p] S1).bind zXE).bind fun r S1=>R.ok (Fl.ret r) S1))=_
   rw [if_pos (by rw [List.length_map];omega),hc,bok,bok,bok,zTJ]
   rfl
  show xT (zLD [some (.str x)] S)=.ok (.val (.bl (nmB x))) S
  unfold zLD nmB
  cases h8:decide (1≤x.length)&&decide (x.length≤8)with
  | true=>
   rw [h8,if_pos rfl]at e1
   rw [zD e1,e2]
   rfl
  | false=>
   rw [h8,if_neg Bool.false_ne_true]at e1
   rw [yC e1]
   rfl
 ·exact yL rfl rfl
 ·exact yL rfl rfl
 ·exact yL rfl rfl
def vlD:MV→Bool
 | .int i=>decide (-(10 ^ 30)<i)&&decide (i<10 ^ 30)
 | .str x=>nmB x
 | _=>false
theorem yJO{d:MV}:vlD d=true↔Vl d:=by
 cases d with
 | int i=>simp [vlD,Vl]
 | str x=>exact yAC
 | _=>exact⟨fun z=>absurd z Bool.false_ne_true,fun z=>z.elim⟩
theorem yJP{d:MV}(h:pq d=true)(S:Sto):zJ 1 zEK [.val d] S=.ok (.val (.bl (vlD d))) S:=by
 refine yL rfl ?_
 have e2:zEJ [some d] S=.ok (.ret (.val (.bl (nmD d)))) S:=by
  unfold zEJ
  simp? [yGI h]
 show xT (zIM [some d] S)=_
 unfold zIM
 cases hi:isI d with
 | false=>
  have e1:gL [some d] S=.ok (.next [some d]) S:=by
   unfold gL
   simp? [yAB h,hi,Bool.false_eq_true,if_false]
  rw [zD e1,e2]
  cases d<;>first | rfl | cases hi
 | true=>
  obtain⟨i,rfl⟩: ∃i,d=.int i:=by cases d<;>first | exact⟨_,rfl⟩ | cases hi
  have habs:absF [.val (.int i)] S=.ok (.val (.int (if i<0 then -i else i))) S:=rfl
  have hlt:decide ((if i<0 then -i else i)<(10:Int) ^ 30)=vlD (.int i):=by
   show _=(decide (-(10 ^ 30)<i)&&decide (i<10 ^ 30))
   rw [←Bool.decide_and]
   exact decide_eq_decide.mpr (by split<;>omega)
  rw [yC (show gL [some (.int i)] S=.ok (.ret (.val (.bl (vlD (.int i))))) S by
   unfold gL
   simp? [zGQ,habs,yFR,lt_int,hlt])]
  rfl
def inT(a b:Int):MV→Bool
 | .tup ds=>decide (a≤ds.length)&&decide ((ds.length:Int)≤b)
 | _=>false
theorem zNG{d:MV}(h:pq d=true)(a b:Int)(S:Sto):zJ 3 kX [.val d,.val (.int a),.val (.int b)] S=.ok (.val (.bl (inT a b d))) S:=by
 rcases wZ h with⟨i,rfl⟩ | ⟨x,rfl,_⟩ | ⟨k,rfl⟩ | rfl | ⟨ds,rfl,_⟩
 ·exact yL rfl rfl
 ·exact yL rfl rfl
 ·exact yL rfl rfl
 ·exact yL rfl rfl
 ·exact yJD ds a b S
def inB(b:Int):MV→Bool
 | .int i=>decide (0≤i)&&decide (i<b)
 | _=>false
theorem yJQ{d:MV}(h:pq d=true)(b:Int)(S:Sto):zJ 2 wD [.val d,.val (.int b)] S=.ok (.val (.bl (inB b d))) S:=by
 cases hi:isI d with
 | false=>
  have e:inB b d=false:=by cases d<;>first | rfl | cases hi
  rw [e]
  refine yL rfl ?_
  show xT (wC [some d,some (.int b)] S)=_
  unfold wC jJ
  simp? [yAB h,hi,zII]
  rfl
 | true=>
  obtain⟨i,rfl⟩: ∃i,d=.int i:=by cases d<;>first | exact⟨_,rfl⟩ | cases hi
  exact yJE i b S
def pr:MV→Option (MV×MV)
 | .tup [a,b]=>some (a,b)
 | _=>none
theorem zPI{d a b:MV}(h:pr d=some (a,b)):d=.tup [a,b]:=by
 unfold pr at h
 split at h
 ·cases h;rfl
 ·cases h
theorem yKV{d:MV}:inT 2 2 d=(pr d).isSome:=by
 cases d with
 | tup ds=>
  match ds with
  | []=>rfl
  | [_]=>rfl
  | [_,_]=>rfl
  | _::_::_::r=>
   show(decide ((2:Int)≤((r.length+3:Nat):Int))&&decide (((r.length+3:Nat):Int)≤2))=false
   rw [decide_eq_false (show¬(((r.length+3:Nat):Int)≤2) by omega),Bool.and_false]
 | _=>rfl
theorem yAD{d a b:MV}(h:pq d=true)(e:pr d=some (a,b)):pq a=true∧pq b=true:=by
 rw [zPI e,zTH,zKL,zKL,Bool.and_eq_true,Bool.and_eq_true,Bool.and_eq_true]at h
 exact⟨h.1.1,h.1.2.1⟩
noncomputable def tmD(d:MV):Bool:=match pr d with
 | some (a,b)=>if a=.str VAR then nmD b else if a=.str IS then vlD b else false
 | none=>false
theorem yNS{d:MV}(h:pq d=true)(S:Sto):zJ 1 zHH [.val d] S=.ok (.val (.bl (tmD d))) S:=by
 refine yL rfl ?_
 show xT (zLE [some d] S)=_
 unfold zLE tmD
 have jt:=zNG h 2 2 S
 rw [yKV]at jt
 cases hp:pr d with
 | none=>
  rw [hp]at jt
  have e1:dF [some d] S=.ok (.ret (.val (.bl false))) S:=by
   unfold dF
   simp? [jt,Option.isSome_none,Bool.not_false]
  rw [yC e1]
  rfl
 | some ab=>
  obtain⟨a,b⟩:=ab
  rw [hp]at jt
  obtain⟨ha,hb⟩:=yAD h hp
  have hd:=zPI hp
  subst hd
  have e1:dF [some (.tup [a,b])] S=.ok (.next [some (.tup [a,b])]) S:=by
   unfold dF
   simp? [jt,Option.isSome_some,Bool.not_true,Bool.false_eq_true,if_false]
  rw [zD e1]
  by_cases h1:a=.str VAR
  ·have e2:dG [some (.tup [a,b])] S=.ok (.ret (.val (.bl (nmD b)))) S:=by
    unfold dG
    simp? [zMM,zKK,yAA VAR ha,decide_eq_true h1,yGI hb]
   rw [yC e2]
   show R.ok _ S=_
   dsimp only
   rw [if_pos h1]
  ·have e2:dG [some (.tup [a,b])] S=.ok (.next [some (.tup [a,b])]) S:=by
    unfold dG
    simp? [zMM,zKK,yAA VAR ha,decide_eq_false h1,Bool.false_eq_true,if_false]
   rw [zD e2]
   by_cases h2:a=.str IS
   ·have e3:dH [some (.tup [a,b])] S=.ok (.ret (.val (.bl (vlD b)))) S:=by
     unfold dH
     simp? [zMM,zKK,yAA IS ha,decide_eq_true h2,zII,yJP hb]
    rw [e3]
    show R.ok _ S=_
    dsimp only
    rw [if_neg h1,if_pos h2]
   ·have e3:dH [some (.tup [a,b])] S=.ok (.ret (.val (.bl false))) S:=by
     unfold dH
     simp? [zMM,zKK,yAA IS ha,decide_eq_false h2,zII]
     rfl
    rw [e3]
    show R.ok _ S=_
    dsimp only
    rw [if_neg h1,if_neg h2]
def zLL:MV→Option (List MV)
 | .tup ds=>some ds
 | _=>none
noncomputable def atP(ts:List (Int×Int))(t:Int)(b:MV):Bool:=if 0≤t∧t<ts.length then(match ts[t.toNat]?,zLL b with
  | some p,some tms=>decide ((tms.length:Int)=p.1)&&tms.all tmD
  | _,_=>false)else false
noncomputable def atQ(ts:List (Int×Int)):MV→MV→Bool
 | .int t,b=>atP ts t b
 | _,_=>false
noncomputable def atD(ts:List (Int×Int))(d:MV):Bool:=match pr d with
 | some (a,b)=>atQ ts a b
 | none=>false
theorem yGJ{ts:List (Int×Int)}{t:Int}(h0:0≤t)(h1:t<ts.length): ∃p,ts[t.toNat]? =some p∧atI (ts.map tbl) t=some (tbl p)∧p∈ts:=by
 have hl:t.toNat<ts.length:=by omega
 refine⟨ts[t.toNat],List.getElem?_eq_getElem hl,?_,List.getElem_mem hl⟩
 unfold atI ixN
 rw [if_pos h0,if_pos (by rw [List.length_map];exact h1)]
 simp only [Option.bind_some,List.getElem?_map]
 rw [List.getElem?_eq_getElem hl]
 rfl
theorem tm_ok{d:MV}(h:tmD d=true):zPF d:=by
 unfold tmD at h
 cases hp:pr d with
 | none=>rw [hp]at h;cases h
 | some ab=>
  obtain⟨a,b⟩:=ab
  rw [hp]at h
  dsimp only at h
  rw [zPI hp]
  split at h
  ·rename_i ha
   subst ha
   cases b with
   | str x=>exact .inl ⟨x,yAC.mp h,rfl⟩
   | _=>cases h
  ·split at h
   ·rename_i ha
    subst ha
    exact .inr ⟨b,yJO.mp h,rfl⟩
   ·cases h
theorem yGK{ts:List (Int×Int)}{d:MV}(hT:TOk ts)(h:atD ts d=true):zHS ts d:=by
 unfold atD at h
 cases hp:pr d with
 | none=>rw [hp]at h;cases h
 | some ab=>
  obtain⟨a,b⟩:=ab
  rw [hp]at h
  cases a with
  | int t=>
   have h:atP ts t b=true:=h
   unfold atP at h
   split at h
   ·rename_i ht
    obtain⟨p,h1,h2,h3⟩:=yGJ ht.1 ht.2
    rw [h1]at h
    cases b with
    | tup tms=>
     simp only [zLL,Bool.and_eq_true,decide_eq_true_eq,List.all_eq_true]at h
     exact⟨t,tms,p,zPI hp,ht.1,ht.2,h2,h.1,(hT.2.2 p h3).1,(hT.2.2 p h3).2.1,fun d hd=>tm_ok (h.2 d hd)⟩
    | _=>cases h
   ·cases h
  | _=>cases h
theorem yAE(ds:List MV)(S:Sto):itT (.val (.tup ds)) S=.ok ⟨ds,[]⟩ S:=rfl
theorem zNH{b:MV}{ds:List MV}(h:zLL b=some ds):b=.tup ds:=by
 cases b<;>first | (cases h;rfl) | cases h
theorem yGL{a b:Int}{d:MV}(h:zLL d=none):inT a b d=false:=by
 cases d<;>first | rfl | cases h
theorem yNT{ts:List (Int×Int)}{d:MV}(hT:TOk ts)(h:pq d=true)(S:Sto):zJ 2 zHI [.val d,.val (.tup (ts.map tbl))] S=.ok (.val (.bl (atD ts d))) S:=by
 refine yL rfl ?_
 show xT (zLF [some d,some (.tup (ts.map tbl)),none] S)=_
 unfold zLF atD
 have jt:=zNG h 2 2 S
 rw [yKV]at jt
 have tl:(((ts.map tbl).length:Nat):Int)=ts.length:=by rw [List.length_map]
 cases hp:pr d with
 | none=>
  rw [hp]at jt
  have e1:dI [some d,some (.tup (ts.map tbl)),none] S=.ok (.ret (.val (.bl false))) S:=by
   unfold dI
   simp? [jt,Option.isSome_none,Bool.not_false]
  rw [yC e1]
  rfl
 | some ab=>
  obtain⟨a,b⟩:=ab
  rw [hp]at jt
  obtain⟨ha,hb⟩:=yAD h hp
  have hd:=zPI hp
  subst hd
  have e1:dI [some (.tup [a,b]),some (.tup (ts.map tbl)),none] S=if inB ts.length a=true then .ok (.next [some (.tup [a,b]),some (.tup (ts.map tbl)),none]) S else .ok (.ret (.val (.bl false))) S:=by
   unfold dI
   simp? [jt,Option.isSome_some,Bool.not_true,Bool.false_eq_true,if_false,zMM,zAG,tl,yJQ ha]
   cases inB ts.length a<;>rfl
  cases hB:inB ts.length a with
  | false=>
   rw [hB,if_neg Bool.false_ne_true]at e1
   rw [yC e1]
   have:atQ ts a b=false:=by
    cases a with
    | int t=>
     show atP ts t b=false
     unfold atP
     rw [if_neg]
     intro z
     simp [inB,z.1,z.2]at hB
    | _=>rfl
   dsimp only
   rw [this]
   rfl
  | true=>
   rw [hB,if_pos rfl]at e1
   rw [zD e1]
   obtain⟨t,rfl⟩: ∃t,a=.int t:=by cases a<;>first | exact⟨_,rfl⟩ | cases hB
   have h01:0≤t∧t<ts.length:=by simpa [inB]using hB
   obtain⟨p,q1,q2,q3⟩:=yGJ h01.1 h01.2
   have hp3:=hT.2.2 p q3
   have e2:zGD [some (.tup [.int t,b]),some (.tup (ts.map tbl)),none] S=.ok (.next [some (.tup [.int t,b]),some (.tup (ts.map tbl)),some (.int p.1)]) S:=by
    unfold zGD
    simp? [zMM,ix_tup (S:=S) q2,show∀S:Sto,ixF (.val (tbl p)) (.val (.int 0)) S=.ok (.val (.int p.1)) S from fun S=>rfl]
   rw [zD e2]
   have ea:atQ ts (.int t) b=(match zLL b with | some tms=>decide ((tms.length:Int)=p.1)&&tms.all tmD | none=>false):=by
    show atP ts t b=_
    unfold atP
    rw [if_pos h01,q1]
    cases zLL b<;>rfl
   dsimp only
   rw [ea]
   cases hb1:zLL b with
   | none=>
    have e3:dJ [some (.tup [.int t,b]),some (.tup (ts.map tbl)),some (.int p.1)] S=.ok (.ret (.val (.bl false))) S:=by
     unfold dJ
     simp? [zKK,zNG hb,yGL hb1,zII]
     rfl
    rw [e3]
    rfl
   | some tms=>
    have hbe:=zNH hb1
    subst hbe
    rcases wZ hb with⟨_,z⟩ | ⟨_,z,_⟩ | ⟨_,z⟩ | z | ⟨ds,z,htm,hlen⟩
    ·cases z
    ·cases z
    ·cases z
    ·cases z
    cases z
    have hin:inT p.1 p.1 (.tup tms)=decide ((tms.length:Int)=p.1):=by
     show(decide (p.1≤(tms.length:Int))&&decide ((tms.length:Int)≤p.1))=_
     rw [←Bool.decide_and]
     exact decide_eq_decide.mpr (by omega)
    have hc:wB (gNm 0) zHY zCN [none] [] tms S=.ok (tms.map fun d=>MV.bl (tmD d)) S:=zJV (F:=fun d=>.bl (tmD d)) (gB _) fun d hd=>⟨[some d],rfl,rfl,by
     unfold zCN
     simp? [yNS (htm d hd) S]⟩
    have hlt:tms.length<1000000:=by omega
    have e3:dJ [some (.tup [.int t,.tup tms]),some (.tup (ts.map tbl)),some (.int p.1)] S=.ok (.ret (.val (.bl (decide ((tms.length:Int)=p.1)&&tms.all tmD)))) S:=by
     unfold dJ
     simp? [zKK,zNG hb,hin,zII]
     cases decide ((tms.length:Int)=p.1)with
     | false=>rfl
     | true=>
      simp? [yAE,hlt,show blk 1 [] [some (.tup [.int t,.tup tms]),some (.tup (ts.map tbl)),some (.int p.1)]=[none]from rfl,hc,zTJ,Bool.true_and]
    rw [e3]
    rfl
theorem zCB{S:Sto}{gf:MV→Rho→Sto→R Rho}{cf:Rho→Sto→R Bool}{ef:Rho→Sto→R Er}{ρb:Rho}{gs:List (Nat×List MV)}{p:MV→Bool}(hs:stay gs S):
  ∀{ds:List MV},(∀d∈ds, ∃ρ1,gf d ρb S=.ok ρ1 S∧cf ρ1 S=.ok (p d) S∧ef ρ1 S=.ok (.val d) S)→wB gf cf ef ρb gs ds S=.ok (ds.filter p) S
 | [],_=>rfl
 | d::ds,st=>by
  obtain⟨ρ1,h1,h2,h3⟩:=st d List.mem_cons_self
  have e:=zCB hs (p:=p) (ds:=ds) fun d hd=>st d (List.mem_cons_of_mem _ hd)
  unfold wB
  cases hp:p d with
  | true=>
   rw [h1,bS,bok,h2,bS,bok,hp,if_pos rfl,h3,bS,bok]
   unfold zEA
   rw [bok,if_pos hs,e,List.filter_cons_of_pos hp]
   rfl
  | false=>
   rw [h1,bS,bok,h2,bS,bok,hp,if_neg Bool.false_ne_true,if_pos hs,e,List.filter_cons_of_neg (by rw [hp];exact Bool.false_ne_true)]
theorem yAF(ds:List MV)(S:Sto):eqF (.new ds) (.new []) S=.ok (.val (.bl ds.isEmpty)) S:=by
 cases ds<;>rfl
theorem zVP{α:Type}(p:α→Bool)(xs:List α):(xs.filter fun x=>!p x).isEmpty=xs.all p:=by
 induction xs with
 | nil=>rfl
 | cons x xs ih=>
  rw [List.all_cons]
  cases h:p x with
  | true=>rw [List.filter_cons_of_neg (by rw [h];simp),ih];rfl
  | false=>rw [List.filter_cons_of_pos (by rw [h];rfl)];rfl
theorem yAG(c:Nat):decide (c∈abc)=oKc c:=by
 unfold oKc
 rw [←Bool.decide_and]
 refine decide_eq_decide.mpr ?_
 simp only [abc,List.mem_cons,List.not_mem_nil,or_false]
 omega
theorem yAH{d:MV}(h:pq d=true)(S:Sto):zJ 1 gX [.val d] S=.ok (.val (.bl (nmD d))) S:=by
 rcases wZ h with⟨i,rfl⟩ | ⟨x,rfl,hx⟩ | ⟨b,rfl⟩ | rfl | ⟨ds,rfl,_⟩
 ·exact yL rfl rfl
 ·refine yL rfl ?_
  have hl: ∀S,wN [.val (.str x)] S=.ok (.val (.int x.length)) S:=fun S=>if_pos (fits (by omega))
  have e1:cP [some (.str x)] S=if(decide (1≤x.length)&&decide (x.length≤8))=true then .ok (.next [some (.str x)]) S else .ok (.ret (.val (.bl false))) S:=by
   unfold cP
   simp? [yEY,hl,lt_int,gt_int,Bool.not_true,Bool.false_eq_true,if_false]
   by_cases h1:1≤x.length
   ·by_cases h2:x.length≤8
    ·simp only [decide_eq_true h1,decide_eq_true h2,decide_eq_false (show¬(x.length:Int)<1 by omega),decide_eq_false (show¬(8:Int)<x.length by omega)];rfl
    ·simp only [decide_eq_true h1,decide_eq_false h2,decide_eq_false (show¬(x.length:Int)<1 by omega),decide_eq_true (show(8:Int)<x.length by omega)];rfl
   ·simp only [decide_eq_false h1,decide_eq_true (show(x.length:Int)<1 by omega)];rfl
  have hc:wB (gNm 0) xS kE (blk 1 [] [some (.str x)]) [] (x.map fun c=>.str [c]) S=.ok ((x.filter fun c=>!oKc c).map fun c=>MV.str [c]) S:=by
   have:=zCB (gf:=gNm 0) (cf:=xS) (ef:=kE) (ρb:=blk 1 [] [some (.str x)]) (gs:=[]) (ds:=x.map fun c=>MV.str [c]) (p:=fun d=>match d with | .str [c]=>!oKc c | _=>false) (gB S) fun d hd=>by
    obtain⟨c,hc,rfl⟩:=List.mem_map.mp hd
    refine⟨[some (.str [c])],rfl,?_,rfl⟩
    unfold xS
    simp? [show∀S:Sto,inF true (.val (.str [c])) (.val (.str abc)) S=.ok (.val (.bl (!decide (c∈abc)))) S from fun S=>rfl,yAG]
    show(inF true (.val (.str [c])) (.val (.str abc)) S).bind asB=_
    rw [show inF true (.val (.str [c])) (.val (.str abc)) S=.ok (.val (.bl (!decide (c∈abc)))) S from rfl,yAG]
    rfl
   rw [this,List.filter_map]
   rfl
  have e2:cQ [some (.str x)] S=.ok (.ret (.val (.bl (x.all oKc)))) S:=by
   unfold cQ
   simp? [bok]
   show(((if(x.map fun c=>MV.str [c]).length<1000000 then(wB (gNm 0) xS kE (blk 1 [] [some (.str x)]) [] (x.map fun c=>.str [c]) S).bind fun o S=>R.ok (Er.new o) S else .no).bind fun p S1=>eqF p (.new []) S1).bind fun r S1=>R.ok (Fl.ret r) S1)=_
   rw [if_pos (by rw [List.length_map];omega),hc,bok,bok,yAF,List.isEmpty_map,zVP]
   rfl
  show xT (zBH [some (.str x)] S)=.ok (.val (.bl (nmB x))) S
  unfold zBH nmB
  cases h8:decide (1≤x.length)&&decide (x.length≤8)with
  | true=>
   rw [h8,if_pos rfl]at e1
   rw [zD e1,e2]
   rfl
  | false=>
   rw [h8,if_neg Bool.false_ne_true]at e1
   rw [yC e1]
   rfl
 ·exact yL rfl rfl
 ·exact yL rfl rfl
 ·exact yL rfl rfl
theorem ge_int(i j:Int)(S:Sto):geF (.val (.int i)) (.val (.int j)) S=.ok (.val (.bl (decide (j≤i)))) S:=rfl
theorem vi_in{S:Sto}{a:MV}(h:pq a=true):inF true (.val a) (.val (.tup [.str VAR,.str IS])) S=.ok (.val (.bl (!(decide (a=.str VAR) || decide (a=.str IS))))) S:=by
 rw [yKU (ys:=[VAR,IS]) true h rfl (fun y=>by simp),if_pos rfl]
 congr 4
 rw [←Bool.decide_or]
 exact decide_eq_decide.mpr (by simp)
theorem yAI{d:MV}(h:pq d=true)(S:Sto): ∃k1 k2,gG [.val d,.val (.typ "int")] S=.ok (.val (.bl k1)) S∧gG [.val d,.val (.typ "bool")] S=.ok (.val (.bl k2)) S∧(k1&& !k2)=isI d:=by
 rcases wZ h with⟨i,rfl⟩ | ⟨x,rfl,_⟩ | ⟨b,rfl⟩ | rfl | ⟨ds,rfl,_⟩
 ·exact⟨true,false,rfl,rfl,rfl⟩
 ·exact⟨false,false,rfl,rfl,rfl⟩
 ·exact⟨true,true,rfl,rfl,rfl⟩
 ·exact⟨false,false,rfl,rfl,rfl⟩
 ·exact⟨false,false,rfl,rfl,rfl⟩
theorem zKM{d:MV}(h:pq d=true)(S:Sto):gG [.val d,.val (.typ "tuple")] S=.ok (.val (.bl (zLL d).isSome)) S:=by
 rcases wZ h with⟨i,rfl⟩ | ⟨x,rfl,_⟩ | ⟨b,rfl⟩ | rfl | ⟨ds,rfl,_⟩<;>rfl
theorem yJR{d:MV}(h:pq d=true)(S:Sto):gG [.val d,.val (.typ "str")] S=.ok (.val (.bl (match d with | .str _=>true | _=>false))) S:=by
 rcases wZ h with⟨i,rfl⟩ | ⟨x,rfl,_⟩ | ⟨b,rfl⟩ | rfl | ⟨ds,rfl,_⟩<;>rfl
theorem yGM{ds:List MV}:pr (.tup ds)=none↔ ¬((ds.length:Int)=2):=by
 match ds with
 | []=>exact⟨fun _=>by simp,fun _=>rfl⟩
 | [_]=>exact⟨fun _=>by simp,fun _=>rfl⟩
 | [a,b]=>exact⟨fun z=>(by have z:some (a,b)=none:=z;cases z),fun z=>absurd rfl z⟩
 | _::_::_::r=>exact⟨fun _=>by simp only [List.length_cons];omega,fun _=>rfl⟩
theorem yJS{d:MV}(h:pq d=true)(S:Sto):zJ 1 gY [.val d] S=.ok (.val (.bl (tmD d))) S:=by
 refine yL rfl ?_
 show xT (zBI [some d] S)=_
 unfold zBI tmD
 cases hp:pr d with
 | none=>
  have e1:wU [some d] S=.ok (.ret (.val (.bl false))) S:=by
   unfold wU
   cases ht:zLL d with
   | none=>simp? [zKM h,ht,Option.isSome_none,Bool.not_false]
   | some ds=>
    have hd:=zNH ht
    subst hd
    have hn:=yGM.mp hp
    simp? [zKM h,ht,Option.isSome_some,Bool.not_true,Bool.false_eq_true,if_false,zAG,ne_int,decide_eq_false hn,Bool.not_false]
  rw [yC e1]
  rfl
 | some ab=>
  obtain⟨a,b⟩:=ab
  obtain⟨ha,hb⟩:=yAD h hp
  have hd:=zPI hp
  subst hd
  have l2: ∀S,wN [.val (.tup [a,b])] S=.ok (.val (.int 2)) S:=fun S=>rfl
  have e1:wU [some (.tup [a,b])] S=if(decide (a=.str VAR) || decide (a=.str IS))=true then .ok (.next [some (.tup [a,b])]) S else .ok (.ret (.val (.bl false))) S:=by
   unfold wU
   simp? [zXM,Bool.not_true,Bool.false_eq_true,if_false,l2,ne_int,decide_eq_true (show(2:Int)=2 from rfl),zMM,vi_in ha]
   cases (decide (a=.str VAR) || decide (a=.str IS))<;>rfl
  by_cases h1:a=.str VAR
  ·subst h1
   rw [decide_eq_true rfl,Bool.true_or,if_pos rfl]at e1
   have e2:xE [some (.tup [.str VAR,b])] S=.ok (.next [some (.tup [.str VAR,b])]) S:=by
    unfold xE
    simp? [zMM,eq_str,decide_eq_false (show¬VAR=IS by decide),Bool.false_eq_true,if_false]
   have e3:wV [some (.tup [.str VAR,b])] S=.ok (.ret (.val (.bl (nmD b)))) S:=by
    unfold wV
    simp? [zKK,yAH hb]
   rw [zD e1,zD e2,e3]
   show R.ok _ S=_
   dsimp only
   rw [if_pos rfl]
  ·by_cases h2:a=.str IS
   ·subst h2
    rw [decide_eq_true (show MV.str IS=.str IS from rfl),Bool.or_true,if_pos rfl]at e1
    obtain⟨k1,k2,i1,i2,i3⟩:=yAI hb S
    rw [zD e1]
    cases hi:isI b with
    | true=>
     rw [hi,Bool.and_eq_true]at i3
     obtain⟨r1,r2⟩:=i3
     have r2:k2=false:=by simpa using r2
     subst r1 r2
     obtain⟨i,rfl⟩: ∃i,b=.int i:=by cases b<;>first | exact⟨_,rfl⟩ | cases hi
     have e2:xE [some (.tup [.str IS,.int i])] S=.ok (.ret (.val (.bl (vlD (.int i))))) S:=by
      unfold xE
      simp? [zMM,zKK,yKT,i1,i2,Bool.not_false,yFR,sub_int,chF,lt_int]
      rw [show(0:Int) - 10 ^ 30= -(10 ^ 30) by omega]
      show _=R.ok (Fl.ret (Er.val (.bl (decide (-(10 ^ 30)<i)&&decide (i<10 ^ 30))))) S
      cases decide (-(10 ^ 30)<i)<;>rfl
     rw [yC e2]
     show R.ok _ S=_
     dsimp only
     rw [if_neg h1,if_pos rfl]
    | false=>
     have e2:xE [some (.tup [.str IS,b])] S=.ok (.next [some (.tup [.str IS,b])]) S:=by
      rw [hi]at i3
      unfold xE
      simp? [zMM,zKK,yKT,i1,i2]
      cases k1 with
      | false=>rfl
      | true=>
       cases k2 with
       | false=>cases i3
       | true=>rfl
     have e3:wV [some (.tup [.str IS,b])] S=.ok (.ret (.val (.bl (nmD b)))) S:=by
      unfold wV
      simp? [zKK,yAH hb]
     rw [zD e2,e3]
     show R.ok _ S=_
     dsimp only
     rw [if_neg h1,if_pos rfl]
     cases b<;>first | rfl | cases hi
   ·rw [decide_eq_false h1,decide_eq_false h2,Bool.or_false,if_neg Bool.false_ne_true]at e1
    rw [yC e1]
    show R.ok _ S=_
    dsimp only
    rw [if_neg h1,if_neg h2]
theorem yAJ{ts:List (Int×Int)}{d:MV}(hT:TOk ts)(h:pq d=true)(S:Sto):zJ 2 wX [.val (.tup (ts.map tbl)),.val d] S=.ok (.val (.bl (atD ts d))) S:=by
 refine yL rfl ?_
 show xT (zBK [some (.tup (ts.map tbl)),some d,none,none] S)=_
 unfold zBK atD
 have tl:(((ts.map tbl).length:Nat):Int)=ts.length:=by rw [List.length_map]
 cases hp:pr d with
 | none=>
  have e1:wW [some (.tup (ts.map tbl)),some d,none,none] S=.ok (.ret (.val (.bl false))) S:=by
   unfold wW
   cases ht:zLL d with
   | none=>simp? [zKM h,ht,Option.isSome_none,Bool.not_false]
   | some ds=>
    have hd:=zNH ht
    subst hd
    have hn:=yGM.mp hp
    simp? [zKM h,ht,Option.isSome_some,Bool.not_true,Bool.false_eq_true,if_false,zAG,ne_int,decide_eq_false hn,Bool.not_false]
  rw [yC e1]
  rfl
 | some ab=>
  obtain⟨a,b⟩:=ab
  obtain⟨ha,hb⟩:=yAD h hp
  have hd:=zPI hp
  subst hd
  have l2: ∀S,wN [.val (.tup [a,b])] S=.ok (.val (.int 2)) S:=fun S=>rfl
  have e1:wW [some (.tup (ts.map tbl)),some (.tup [a,b]),none,none] S=if(zLL b).isSome=true then .ok (.next [some (.tup (ts.map tbl)),some (.tup [a,b]),none,none]) S else .ok (.ret (.val (.bl false))) S:=by
   unfold wW
   simp? [zXM,Bool.not_true,Bool.false_eq_true,if_false,l2,ne_int,decide_eq_true (show(2:Int)=2 from rfl),zKK,zKM hb]
   cases (zLL b).isSome<;>rfl
  cases hb1:zLL b with
  | none=>
   rw [hb1,Option.isSome_none,if_neg Bool.false_ne_true]at e1
   rw [yC e1]
   have:atQ ts a b=false:=by
    cases a with
    | int t=>
     show atP ts t b=false
     unfold atP
     rw [hb1]
     split
     ·cases ts[t.toNat]? <;>rfl
     ·rfl
    | _=>rfl
   dsimp only
   rw [this]
   rfl
  | some tms=>
   rw [hb1,Option.isSome_some,if_pos rfl]at e1
   have hbe:=zNH hb1
   subst hbe
   rcases wZ hb with⟨_,z⟩ | ⟨_,z,_⟩ | ⟨_,z⟩ | z | ⟨ds,z,htm,hlen⟩
   ·cases z
   ·cases z
   ·cases z
   ·cases z
   cases z
   have e2:zDS [some (.tup (ts.map tbl)),some (.tup [a,.tup tms]),none,none] S=.ok (.next [some (.tup (ts.map tbl)),some (.tup [a,.tup tms]),some a,some (.tup tms)]) S:=rfl
   obtain⟨k1,k2,i1,i2,i3⟩:=yAI ha S
   rw [zD e1,zD e2]
   cases hi:isI a with
   | false=>
    have e3:yM [some (.tup (ts.map tbl)),some (.tup [a,.tup tms]),some a,some (.tup tms)] S=.ok (.ret (.val (.bl false))) S:=by
     rw [hi]at i3
     unfold yM
     simp? [i1,i2]
     cases k1 with
     | false=>rfl
     | true=>
      cases k2 with
      | false=>cases i3
      | true=>rfl
    rw [yC e3]
    cases a<;>first | rfl | cases hi
   | true=>
    rw [hi,Bool.and_eq_true]at i3
    obtain⟨r1,r2⟩:=i3
    have r2:k2=false:=by simpa using r2
    subst r1 r2
    obtain⟨t,rfl⟩: ∃t,a=.int t:=by cases a<;>first | exact⟨_,rfl⟩ | cases hi
    dsimp only
    rw [show atQ ts (.int t) (.tup tms)=atP ts t (.tup tms)from rfl]
    unfold atP
    rw [hb1]
    by_cases h0:t<0
    ·have e3:yM [some (.tup (ts.map tbl)),some (.tup [.int t,.tup tms]),some (.int t),some (.tup tms)] S=.ok (.ret (.val (.bl false))) S:=by
      unfold yM
      simp? [i1,i2,Bool.not_true,Bool.false_eq_true,if_false,lt_int,decide_eq_true h0]
     rw [yC e3,if_neg (by omega)]
     rfl
    ·by_cases h1:(ts.length:Int)≤t
     ·have e3:yM [some (.tup (ts.map tbl)),some (.tup [.int t,.tup tms]),some (.int t),some (.tup tms)] S=.ok (.ret (.val (.bl false))) S:=by
       unfold yM
       simp? [i1,i2,Bool.not_true,Bool.false_eq_true,if_false,lt_int,decide_eq_false h0,zAG,tl,ge_int,decide_eq_true h1]
      rw [yC e3,if_neg (by omega)]
      rfl
     ·obtain⟨p,q1,q2,q3⟩:=yGJ (ts:=ts) (t:=t) (by omega) (by omega)
      have e3:yM [some (.tup (ts.map tbl)),some (.tup [.int t,.tup tms]),some (.int t),some (.tup tms)] S=if decide ((tms.length:Int)=p.1)=true then .ok (.next [some (.tup (ts.map tbl)),some (.tup [.int t,.tup tms]),some (.int t),some (.tup tms)]) S else .ok (.ret (.val (.bl false))) S:=by
       unfold yM
       simp? [i1,i2,Bool.not_true,Bool.false_eq_true,if_false,lt_int,decide_eq_false h0,zAG,tl,ge_int,decide_eq_false h1,ix_tup (S:=S) q2,show∀S:Sto,ixF (.val (tbl p)) (.val (.int 0)) S=.ok (.val (.int p.1)) S from fun S=>rfl,ne_int]
       cases decide ((tms.length:Int)=p.1)<;>rfl
      rw [if_pos (by omega),q1]
      dsimp only
      cases hlp:decide ((tms.length:Int)=p.1)with
      | false=>
       rw [hlp,if_neg Bool.false_ne_true]at e3
       rw [yC e3,Bool.false_and]
       rfl
      | true=>
       rw [hlp,if_pos rfl]at e3
       have hc:wB (gNm 0) gA zBJ [none] [] tms S=.ok (tms.filter fun d=>!tmD d) S:=zCB (p:=fun d=>!tmD d) (gB _) fun d hd=>⟨[some d],rfl,by
        unfold gA
        simp? [yJS (htm d hd) S],rfl⟩
       have hlt:tms.length<1000000:=by omega
       have e4:cR [some (.tup (ts.map tbl)),some (.tup [.int t,.tup tms]),some (.int t),some (.tup tms)] S=.ok (.ret (.val (.bl (tms.all tmD)))) S:=by
        unfold cR
        simp? [yAE,hlt,show blk 1 [] [some (.tup (ts.map tbl)),some (.tup [.int t,.tup tms]),some (.int t),some (.tup tms)]=[none]from rfl,hc,yAF,zVP]
       rw [zD e3,e4,Bool.true_and]
       rfl
theorem strs_map: ∀(hs:List (List Nat)),strsOf (hs.map MV.str)=some hs
 | []=>rfl
 | h::hs=>by
  show(strsOf (hs.map MV.str)).map (h::·)=_
  rw [strs_map hs];rfl
theorem yJT(ys:List (List Nat)):diff ys≤ys.length:=zSQ _ _
theorem zVQ{S:Sto}{m:MV}{hs:List (List Nat)}(h:SqM S m (hs.map MV.str))(hl:hs.length<4000):zMC [.val m] S=.ok (.val (.int (diff hs:Nat))) S:=by
 have e: ∃q:Sr,srcOf S (.val m)=some q∧q.ds=hs.map MV.str:=by
  rcases h with rfl | ⟨l,rfl,hS⟩
  ·exact⟨_,rfl,rfl⟩
  ·refine⟨⟨true,hs.map MV.str,[(l,hs.map MV.str)]⟩,?_,rfl⟩
   unfold srcOf
   dsimp only
   rw [hS]
 obtain⟨q,e1,e2⟩:=e
 unfold zMC
 dsimp only
 rw [e1]
 dsimp only
 rw [e2,strs_map]
 dsimp only
 rw [if_pos hl]
theorem SqM.itE{S:Sto}{m:MV}{ds:List MV}(h:SqM S m ds): ∃gs,stay gs S∧itE [.val m] S=.ok ⟨zXN ds,gs⟩ S:=by
 rcases h with rfl | ⟨l,rfl,hS⟩
 ·exact⟨[],gB _,rfl⟩
 ·refine⟨[(l,ds)],zJU hS,?_⟩
  have e:srcOf S (.val (.loc l))=some ⟨true,ds,[(l,ds)]⟩:=by
   unfold srcOf
   dsimp only
   rw [hS]
  unfold L2.M.itE
  dsimp only
  rw [e]
noncomputable def inN(as:List MV)(d:MV):Bool:=decide (d∈(zHT as).map MV.str)
noncomputable def cnt(ds:List MV):Nat:=match strsOf ds with
 | some ys=>diff ys
 | none=>0
noncomputable def hdB(as hds:List MV):Bool:=decide (hds.length≤4)&&hds.all (inN as)&&decide (cnt hds=hds.length)
theorem all_strs{as:List MV}: ∀{hds:List MV},hds.all (inN as)=true→ ∃ys:List (List Nat),hds=ys.map MV.str
 | [],_=>⟨[],rfl⟩
 | d::hds,h=>by
  rw [List.all_cons,Bool.and_eq_true]at h
  obtain⟨ys,rfl⟩:=all_strs h.2
  obtain⟨x,_,rfl⟩:=List.mem_map.mp (of_decide_eq_true h.1)
  exact⟨x::ys,rfl⟩
section
variable{ts:List (Int×Int)}{S:Sto}{hm am:MV}{hds as:List MV}
theorem yKW{S:Sto}{l:Nat}{ks:List MV}{d:MV}(hS:S[l]? =some (.lst ks))(hk: ∀k,k∈ks↔ ∃x∈zHT as,k=MV.str x)(h:pq d=true):inF false (.val d) (.val (.loc l)) S=.ok (.val (.bl (inN as d))) S:=by
 obtain⟨ys,rfl⟩: ∃ys:List (List Nat),ks=ys.map MV.str:=by
  refine all_strs (as:=as) (List.all_eq_true.mpr fun k hk'=>?_)
  obtain⟨x,hx,rfl⟩:=(hk k).mp hk'
  exact decide_eq_true (List.mem_map.mpr ⟨x,hx,rfl⟩)
 have e1:itemsOf S (.val (.loc l))=some (ys.map MV.str):=by unfold itemsOf;exact kU hS
 rw [yKU false h e1 (fun y=>by simp),if_neg Bool.false_ne_true]
 unfold inN
 congr 4
 refine propext ⟨fun z=>?_,fun z=>?_⟩
 ·obtain⟨x,hx,e⟩:=(hk d).mp z
  exact List.mem_map.mpr ⟨x,hx,e.symm⟩
 ·obtain⟨x,hx,e⟩:=List.mem_map.mp z
  exact(hk d).mpr ⟨x,hx,e.symm⟩
theorem yNU(h:SqM S hm hds)(ha:SqM S am as)(hA: ∀d∈as,zHS ts d)(h4:as.length≤4)(hP: ∀d∈hds,pq d=true)(hl:hds.length≤1000):zJ 2 zAN [.val hm,.val am] S=.ok (.val (.bl (hdB as hds))) S:=by
 obtain⟨ks,hk,hc⟩:=c_nin ha hA h4
 have hst:zT zHG [hm,am]=[some hm,some am,none]:=rfl
 have e1:zGF [some hm,some am,none] S=.ok (.next [some hm,some am,some (.loc S.length)]) (S++[.lst ks]):=by
  unfold zGF
  simp? [hc]
 obtain⟨gs,hg,hit⟩:=h.itQ
 have hlen:wN [.val hm] (S++[.lst ks])=.ok (.val (.int ((hds.length:Nat):Int))) (S++[.lst ks]):=(h.app (T:=[.lst ks])).len
 have hcm:wB (gNm 0) zHZ zCO [none,some (.loc S.length)] gs hds (S++[.lst ks])=.ok (hds.map fun d=>MV.bl (inN as d)) (S++[.lst ks]):=zJV (F:=fun d=>.bl (inN as d)) (hg _) fun d hd=>⟨[some d,some (.loc S.length)],rfl,rfl,by
  unfold zCO
  simp? [yKW (jZ S (.lst ks)) hk (hP d hd)]⟩
 have hlt:hds.length<1000000:=by omega
 have e2:zGG [some hm,some am,some (.loc S.length)] (S++[.lst ks])=if(decide (hds.length≤4)&&hds.all (inN as))=true then .ok (.next [some hm,some am,some (.loc S.length)]) (S++[.lst ks])else .ok (.ret (.val (.bl false))) (S++[.lst ks]):=by
  unfold zGG
  by_cases h4':hds.length≤4
  ·simp? [hlen,gt_int,decide_eq_false (show¬(4:Int)<(hds.length:Nat) by omega),hit,hlt,show blk 1 [2] [some hm,some am,some (.loc S.length)]=[none,some (.loc S.length)]from rfl,hcm,zTJ,Bool.false_eq_true,if_false,decide_eq_true h4']
   cases hds.all (inN as)<;>rfl
  ·simp? [hlen,gt_int,decide_eq_true (show(4:Int)<(hds.length:Nat) by omega),decide_eq_false h4']
   rfl
 refine zFV (T:=[.lst ks]) rfl ?_ (zZI _ _) (fun l=>by simp)
 show zAN [hm,am] S=_
 unfold zAN zRF hdB
 rw [hst,zD e1]
 cases hb:decide (hds.length≤4)&&hds.all (inN as)with
 | false=>
  rw [hb,if_neg Bool.false_ne_true]at e2
  rw [yC e2,Bool.false_and]
  rfl
 | true=>
  rw [hb,if_pos rfl]at e2
  rw [Bool.and_eq_true]at hb
  obtain⟨ys,rfl⟩:=all_strs hb.2
  rw [List.length_map]at hl
  have hls:zMC [.val hm] (S++[.lst ks])=.ok (.val (.int (diff ys:Nat))) (S++[.lst ks]):=zVQ (h.app (T:=[.lst ks])) (by omega)
  have e3:zGH [some hm,some am,some (.loc S.length)] (S++[.lst ks])=.ok (.ret (.val (.bl (decide (cnt (ys.map MV.str)=(ys.map MV.str).length))))) (S++[.lst ks]):=by
   unfold zGH cnt
   simp? [hls,hlen,strs_map,eq_int]
   congr 5
   exact propext ⟨fun z=>by omega,fun z=>by omega⟩
  rw [zD e2,e3,Bool.true_and]
  rfl
noncomputable def zIE(ts:List (Int×Int)):List MV→Nat→Option Nat
 | [],_=>none
 | a::as,n=>if atD ts a=true then zIE ts as (n+1)else some n
theorem zIR{ts:List (Int×Int)}: ∀{as:List MV}{n:Nat},zIE ts as n=none→ ∀a∈as,atD ts a=true
 | [],_,_,a,h=>by simp at h
 | b::as,n,h,a,ha=>by
  unfold zIE at h
  split at h
  ·rcases List.mem_cons.mp ha with rfl | ha
   ·assumption
   ·exact zIR h a ha
  ·cases h
noncomputable def okQ(as hds:List MV):Bool:=decide (1≤as.length)&&decide (as.length≤4)&&hdB as hds
noncomputable def zVR(ts:List (Int×Int))(hds as:List MV):Option Nat:=match zIE ts as 0 with
 | some k=>some k
 | none=>if okQ as hds=true then none else some as.length
theorem yJU{gf:MV→Rho→Sto→R Rho}{b:Rho→Sto→R Fl}{gs:List (Nat×List MV)}{d:MV}{ds:List MV}{ρ ρ0:Rho}{S S0 S':Sto}{c:Str}{fs:List (Str×MV)}(hg:gf d ρ S=.ok ρ0 S0)(h:b ρ0 S0=.exc c fs S'):kB gf b gs (d::ds) ρ S=.exc c fs S':=by
 unfold kB
 rw [hg,bok,h]
 rfl
theorem yAK{F G:Rho→Sto→R Fl}{ρ:Rho}{S S':Sto}{c:Str}{fs:List (Str×MV)}(h:F ρ S=.exc c fs S'):zP F G ρ S=.exc c fs S':=by
 unfold zP
 rw [h]
 rfl
abbrev NQ(k:Nat):List (Str×MV):=[("place",.int (k:Nat))]
theorem yAL{k:Nat}(h:k≤1000000)(S:Sto):raF "NoQuestion" "place" (.val (.int (k:Nat))) S=.exc "NoQuestion" (NQ k) S:=if_pos (show(k:Int).natAbs<BIG from Nat.lt_of_le_of_lt (by omega:(k:Int).natAbs≤1000000) (by decide+kernel))
abbrev Q5(tt hm am:MV)(p a:Option MV):Rho:=[some tt,some hm,some am,p,a]
theorem yGN{gs:List (Nat×List MV)}(hT:TOk ts)(hg:stay gs S): ∀(L:List MV)(n:Nat),(∀d∈L,pq d=true)→n+L.length≤1000000→ ∀(p a:Option MV), ∃p' a',kB (gTp 2 (yW (gNm 3) (yW (gNm 4) zAQ))) jT gs ((L.zipIdx n).map fun p=>.tup [.int (p.2:Nat),p.1]) (Q5 (.tup (ts.map tbl)) hm am p a) S=
   match zIE ts L n with
   | none=>.ok (.next (Q5 (.tup (ts.map tbl)) hm am p' a')) S
   | some k=>.exc "NoQuestion" (NQ k) S
 | [],n,_,_,p,a=>⟨p,a,rfl⟩
 | d::L,n,hL,hn,p,a=>by
  rw [List.length_cons]at hn
  obtain⟨p',a',ih⟩:=yGN hT hg L (n+1) (fun e he=>hL e (List.mem_cons_of_mem _ he)) (by omega) (some (.int (n:Nat))) (some d)
  refine⟨p',a',?_⟩
  have ja:=yNT hT (hL d List.mem_cons_self) S
  have g:gTp 2 (yW (gNm 3) (yW (gNm 4) zAQ)) (.tup [.int (n:Nat),d]) (Q5 (.tup (ts.map tbl)) hm am p a) S=.ok (Q5 (.tup (ts.map tbl)) hm am (some (.int (n:Nat))) (some d)) S:=rfl
  rw [List.zipIdx_cons,List.map_cons]
  unfold zIE
  cases hd:atD ts d with
  | true=>
   rw [hd]at ja
   rw [if_pos rfl,dE g (ρ':=Q5 (.tup (ts.map tbl)) hm am (some (.int (n:Nat))) (some d)) (S':=S) ?_ hg]
   ·exact ih
   ·unfold jT gM
    simp? [ja,Bool.not_true,Bool.false_eq_true,if_false]
  | false=>
   rw [hd]at ja
   rw [if_neg Bool.false_ne_true]
   refine yJU g ?_
   unfold jT gM
   simp? [ja,Bool.not_false,yAL (show n≤1000000 by omega)]
theorem q_gen(hT:TOk ts)(h:SqM S hm hds)(ha:SqM S am as)(hA: ∀d∈as,pq d=true)(hl:as.length≤1000)(hP: ∀d∈hds,pq d=true)(hl2:hds.length≤1000):
  wL [.tup (ts.map tbl),hm,am] S=match zVR ts hds as with
   | none=>.ok (.val (.tup [.tup hds,.tup as])) S
   | some k=>.exc "NoQuestion" (NQ k) S:=by
 have hst:zT zCK [.tup (ts.map tbl),hm,am]=[some (.tup (ts.map tbl)),some hm,some am,none,none]:=rfl
 have e1:dY (Q5 (.tup (ts.map tbl)) hm am none none) S=.ok (.next (Q5 (.tup (ts.map tbl)) hm am none none)) S:=by
  unfold dY
  simp? [zVN ha,Bool.not_true,Bool.false_eq_true,if_false]
 obtain⟨gs,hg,hit⟩:=ha.itE
 obtain⟨p',a',hlp⟩:=yGN (ts:=ts) (hm:=hm) (am:=am) hT hg as 0 hA (by omega) none none
 unfold wL zIA zVR
 rw [hst,zD e1]
 cases hb:zIE ts as 0 with
 | some k=>
  rw [hb]at hlp
  rw [yAK (show kI (Q5 (.tup (ts.map tbl)) hm am none none) S=.exc "NoQuestion" (NQ k) S by
   unfold kI
   simp? [hit]
   exact hlp)]
  rfl
 | none=>
  rw [hb]at hlp
  have hG: ∀d∈as,zHS ts d:=fun d hd=>yGK hT (zIR hb d hd)
  rw [zD (show kI (Q5 (.tup (ts.map tbl)) hm am none none) S=.ok (.next (Q5 (.tup (ts.map tbl)) hm am p' a')) S by
   unfold kI
   simp? [hit]
   exact hlp)]
  have e3:dZ (Q5 (.tup (ts.map tbl)) hm am p' a') S=if okQ as hds=true then .ok (.next (Q5 (.tup (ts.map tbl)) hm am p' a')) S else .exc "NoQuestion" (NQ as.length) S:=by
   unfold dZ okQ
   by_cases h1:1≤as.length
   ·by_cases h4:as.length≤4
    ·simp? [ha.len,chF,le_int,decide_eq_true (show(1:Int)≤(as.length:Nat) by omega),decide_eq_true (show((as.length:Nat):Int)≤4 by omega),zVN h,yNU h ha hG h4 hP hl2,Bool.not_true,Bool.false_eq_true,if_false,decide_eq_true h1,decide_eq_true h4,yAL (show as.length≤1000000 by omega)]
     cases hdB as hds<;>rfl
    ·simp? [ha.len,chF,le_int,decide_eq_true (show(1:Int)≤(as.length:Nat) by omega),decide_eq_false (show¬((as.length:Nat):Int)≤4 by omega),Bool.not_false,decide_eq_true h1,decide_eq_false h4,yAL (show as.length≤1000000 by omega)]
     rfl
   ·simp? [ha.len,chF,le_int,decide_eq_false (show¬(1:Int)≤(as.length:Nat) by omega),Bool.not_false,Bool.false_eq_true,if_false,Bool.false_and,decide_eq_false h1,yAL (show as.length≤1000000 by omega)]
  dsimp only
  cases hq:okQ as hds with
  | true=>
   rw [hq,if_pos rfl]at e3
   have e4:nA (Q5 (.tup (ts.map tbl)) hm am p' a') S=.ok (.ret (.val (.tup [.tup hds,.tup as]))) S:=by
    unfold nA
    simp? [h.tuple,ha.tuple]
   rw [zD e3,e4]
   rfl
  | false=>
   rw [hq,if_neg Bool.false_ne_true]at e3
   rw [yAK e3]
   rfl
abbrev D6(tt:MV)(h a:Nat)(k t n:Option MV):Rho:=[some tt,some (.loc h),some (.loc a),k,t,n]
theorem zVS{h a:Nat}(hT:TOk ts)(hS:S[a]? =some (.lst as))(hA: ∀d∈as,pq d=true): ∀(R' P:List MV),as=P++R'→ ∀k:Option MV, ∃k',kB (gNm 3) zAE [] ((List.range' P.length R'.length).map fun k=>MV.int (k:Nat)) (D6 (.tup (ts.map tbl)) h a k none none) S=
   match zIE ts R' P.length with
   | none=>.ok (.next (D6 (.tup (ts.map tbl)) h a k' none none)) S
   | some j=>.ok (.ret (.val (.int (j:Nat)))) S
 | [],P,_,k=>⟨k,rfl⟩
 | d::R',P,e,k=>by
  obtain⟨k',ih⟩:=zVS hT hS hA R' (P++[d]) (by rw [e,List.append_assoc];rfl) (some (.int (P.length:Nat)))
  rw [List.length_append]at ih
  refine⟨k',?_⟩
  have hd:as[P.length]? =some d:=by rw [e,List.getElem?_append_right (Nat.le_refl _),Nat.sub_self];rfl
  have hix:atI as (P.length:Nat)=some d:=by
   unfold atI ixN
   rw [if_pos (by omega),if_pos (by have:=(List.getElem?_eq_some_iff.mp hd).1;omega)]
   exact hd
  have ja:=yAJ hT (hA d (List.mem_of_getElem? hd)) S
  rw [List.length_cons,List.range'_succ,List.map_cons]
  have g:gNm 3 (.int (P.length:Nat)) (D6 (.tup (ts.map tbl)) h a k none none) S=.ok (D6 (.tup (ts.map tbl)) h a (some (.int (P.length:Nat))) none none) S:=rfl
  unfold zIE
  cases hd:atD ts d with
  | true=>
   rw [hd]at ja
   rw [if_pos rfl,dE g (ρ':=D6 (.tup (ts.map tbl)) h a (some (.int (P.length:Nat))) none none) (S':=S) ?_ (gB _)]
   ·exact ih
   ·unfold zAE zBL
    simp? [bU hS hix,ja,Bool.not_true,Bool.false_eq_true,if_false]
  | false=>
   rw [hd]at ja
   rw [if_neg Bool.false_ne_true]
   refine yIP g ?_
   unfold zAE zBL
   simp? [bU hS hix,ja,Bool.not_false]
noncomputable def dM(ts:List (Int×Int))(hds as:List MV):MV:=match zVR ts hds as with
 | none=>.non
 | some k=>.int (k:Nat)
theorem zTK{n:Nat}:lo n (dM ts hds as):=by
 unfold dM
 split
 ·exact zSL _
 ·exact zED _ _
theorem zHM(l:Nat):dM ts hds as≠.loc l:=by
 unfold dM
 split<;>simp
theorem yNV{h a:Nat}(hT:TOk ts)(hH:S[h]? =some (.lst hds))(hS:S[a]? =some (.lst as))(hA: ∀d∈as,pq d=true)(hl:as.length≤6)(hP: ∀d∈hds,pq d=true)(hl2:hds.length≤1000):
  zJ 3 kF [.val (.tup (ts.map tbl)),.val (.loc h),.val (.loc a)] S=.ok (.val (dM ts hds as)) S:=by
 have hst:zT zEG [.tup (ts.map tbl),.loc h,.loc a]=D6 (.tup (ts.map tbl)) h a none none none:=rfl
 obtain⟨k',hlp⟩:=zVS (h:=h) hT hS hA as [] rfl none
 have rn:nY [.val (.int ((as.length:Nat):Int))] S=.ok ⟨(List.range' 0 as.length).map fun k=>.int (k:Nat),[]⟩ S:=by
  rw [zAR (by omega),Int.toNat_natCast,List.range_eq_range']
 cases hb:zIE ts as 0 with
 | some k=>
  rw [show([]:List MV).length=0 from rfl,hb]at hlp
  have e1:bA (D6 (.tup (ts.map tbl)) h a none none none) S=.ok (.ret (.val (.int (k:Nat)))) S:=by
   unfold bA
   simp? [xC hS,rn]
   exact hlp
  refine zDP rfl ?_ zTK zHM
  show kF [.tup (ts.map tbl),.loc h,.loc a] S=_
  unfold kF zIO dM zVR
  rw [hst,yC e1,hb]
  rfl
 | none=>
  rw [show([]:List MV).length=0 from rfl,hb]at hlp
  have e1:bA (D6 (.tup (ts.map tbl)) h a none none none) S=.ok (.next (D6 (.tup (ts.map tbl)) h a k' none none)) S:=by
   unfold bA
   simp? [xC hS,rn]
   exact hlp
  have hG: ∀d∈as,zHS ts d:=fun d hd=>yGK hT (zIR hb d hd)
  obtain⟨fs,f1,f2,f3,hc⟩:=yGA hS hG hl
  have e2:zEQ (D6 (.tup (ts.map tbl)) h a k' none none) S=.ok (.next (D6 (.tup (ts.map tbl)) h a k' (some (.loc S.length)) none)) (S++[.lst (fs.map MV.str)]):=by
   unfold zEQ
   simp? [hc]
  have hk: ∀k,k∈fs.map MV.str↔ ∃x∈zHT as,k=MV.str x:=fun k=>⟨fun z=>by
   obtain⟨x,hx,e⟩:=List.mem_map.mp z
   exact⟨x,(f3 x).mp hx,e.symm⟩,fun⟨x,hx,e⟩=>List.mem_map.mpr ⟨x,(f3 x).mpr hx,e.symm⟩⟩
  have hH2:(S++[MO.lst (fs.map MV.str)])[h]? =some (.lst hds):=by rw [List.getElem?_append_left (List.getElem?_eq_some_iff.mp hH).1];exact hH
  have hcm:wB (gNm 0) zBM zGM [none,some (.loc S.length)] [(h,hds)] hds (S++[.lst (fs.map MV.str)])=.ok (hds.filter (inN as)) (S++[.lst (fs.map MV.str)]):=zCB (p:=inN as) (zJU hH2) fun d hd=>⟨[some d,some (.loc S.length)],rfl,by
   unfold zBM
   simp? [yJR (hP d hd),yKW (jZ S (.lst (fs.map MV.str))) hk (hP d hd)]
   have hno: ∀d:MV,(∀x,d≠.str x)→inN as d=false:=fun d hd=>decide_eq_false fun z=>by
    obtain⟨x,_,e⟩:=List.mem_map.mp z
    exact hd x e.symm
   cases d with
   | str x=>rfl
   | _=>(rw [hno _ (fun x=>by simp)];rfl),rfl⟩
  have hlt:hds.length<1000000:=by omega
  have e3:zER (D6 (.tup (ts.map tbl)) h a k' (some (.loc S.length)) none) (S++[.lst (fs.map MV.str)])=.ok (.next (D6 (.tup (ts.map tbl)) h a k' (some (.loc S.length)) (some (.loc (S.length+1))))) (S++[.lst (fs.map MV.str),.lst (hds.filter (inN as))]):=by
   unfold zER
   simp? [zZJ hH2,hlt,show blk 1 [4] (D6 (.tup (ts.map tbl)) h a k' (some (.loc S.length)) none)=[none,some (.loc S.length)]from rfl,hcm]
   rw [List.length_append,List.append_assoc]
   rfl
  generalize hS3:S++[.lst (fs.map MV.str),.lst (hds.filter (inN as))]=S3 at e3
  have a3:S3[a]? =some (.lst as):=by rw [←hS3,List.getElem?_append_left (List.getElem?_eq_some_iff.mp hS).1];exact hS
  have h3:S3[h]? =some (.lst hds):=by rw [←hS3,List.getElem?_append_left (List.getElem?_eq_some_iff.mp hH).1];exact hH
  have n3:S3[S.length+1]? =some (.lst (hds.filter (inN as))):=by rw [←hS3];exact zLJ S _ _
  have e4:zAF (D6 (.tup (ts.map tbl)) h a k' (some (.loc S.length)) (some (.loc (S.length+1)))) S3=if(decide (1≤as.length)&&decide (as.length≤4)&&decide (hds.length≤4))=true then .ok (.next (D6 (.tup (ts.map tbl)) h a k' (some (.loc S.length)) (some (.loc (S.length+1))))) S3 else .ok (.ret (.val (.int (as.length:Nat)))) S3:=by
   unfold zAF
   by_cases h1:1≤as.length
   ·by_cases h4:as.length≤4
    ·by_cases h5:hds.length≤4
     ·simp? [xC a3,xC h3,lt_int,gt_int,decide_eq_true h1,decide_eq_true h4,decide_eq_true h5,decide_eq_false (show¬((as.length:Nat):Int)<1 by omega),decide_eq_false (show¬(4:Int)<(as.length:Nat) by omega),decide_eq_false (show¬(4:Int)<(hds.length:Nat) by omega),Bool.false_eq_true,if_false,Bool.and_true]
     ·simp? [xC a3,xC h3,lt_int,gt_int,decide_eq_true h1,decide_eq_true h4,decide_eq_false h5,decide_eq_false (show¬((as.length:Nat):Int)<1 by omega),decide_eq_false (show¬(4:Int)<(as.length:Nat) by omega),decide_eq_true (show(4:Int)<(hds.length:Nat) by omega),Bool.false_eq_true,if_false,Bool.and_false]
    ·simp? [xC a3,xC h3,lt_int,gt_int,decide_eq_true h1,decide_eq_false h4,decide_eq_false (show¬((as.length:Nat):Int)<1 by omega),decide_eq_true (show(4:Int)<(as.length:Nat) by omega),Bool.false_eq_true,if_false,Bool.and_false,Bool.false_and]
   ·simp? [xC a3,xC h3,lt_int,gt_int,decide_eq_false h1,decide_eq_true (show((as.length:Nat):Int)<1 by omega),Bool.false_eq_true,if_false,Bool.false_and]
  have fin: ∀d,zP zAF (zP jG zKA) (D6 (.tup (ts.map tbl)) h a k' (some (.loc S.length)) (some (.loc (S.length+1)))) S3=.ok (.ret (.val d)) S3→d=dM ts hds as→zJ 3 kF [.val (.tup (ts.map tbl)),.val (.loc h),.val (.loc a)] S=.ok (.val (dM ts hds as)) S:=fun d hh hd=>by
   subst hd
   refine zFV (T:=[.lst (fs.map MV.str),.lst (hds.filter (inN as))]) rfl ?_ zTK zHM
   show kF [.tup (ts.map tbl),.loc h,.loc a] S=_
   unfold kF zIO
   rw [hst,zD e1,zD e2,zD e3,hh,hS3]
   rfl
  have dv: ∀b,okQ as hds=b→dM ts hds as=if b=true then .non else .int (as.length:Nat):=fun b hq=>by
   unfold dM zVR
   rw [hb]
   dsimp only
   rw [hq]
   cases b<;>rfl
  cases hq:decide (1≤as.length)&&decide (as.length≤4)&&decide (hds.length≤4)with
  | false=>
   rw [hq,if_neg Bool.false_ne_true]at e4
   refine fin _ (by rw [yC e4]) ?_
   rw [dv false ?_]
   ·rfl
   ·unfold okQ hdB
    cases h8:decide (1≤as.length)&&decide (as.length≤4)with
    | false=>rfl
    | true=>
     rw [h8,Bool.true_and]at hq
     rw [hq]
     rfl
  | true=>
   rw [hq,if_pos rfl]at e4
   rw [Bool.and_eq_true]at hq
   have okq:okQ as hds=(hds.all (inN as)&&decide (cnt hds=hds.length)):=by
    unfold okQ hdB
    rw [hq.1,hq.2]
    rfl
   have flt:(hds.filter (inN as)).length≤hds.length:=List.length_filter_le _ _
   cases hal:hds.all (inN as)with
   | true=>
    have hfe:hds.filter (inN as)=hds:=List.filter_eq_self.mpr (List.all_eq_true.mp hal)
    obtain⟨ys,hys⟩:=all_strs hal
    rw [hfe]at n3
    have hls:zMC [.val (.loc (S.length+1))] S3=.ok (.val (.int (diff ys:Nat))) S3:=zVQ (.inr ⟨_,rfl,by rw [n3,hys]⟩) (by have:=congrArg List.length hys;rw [List.length_map]at this;omega)
    have hcn:cnt hds=diff ys:=by unfold cnt;rw [hys,strs_map]
    have hle:diff ys≤hds.length:=by rw [hys,List.length_map];exact yJT ys
    have e5:jG (D6 (.tup (ts.map tbl)) h a k' (some (.loc S.length)) (some (.loc (S.length+1)))) S3=if decide (cnt hds=hds.length)=true then .ok (.next (D6 (.tup (ts.map tbl)) h a k' (some (.loc S.length)) (some (.loc (S.length+1))))) S3 else .ok (.ret (.val (.int (as.length:Nat)))) S3:=by
     unfold jG
     simp? [xC n3,xC h3,xC a3,lt_int,decide_eq_false (show¬((hds.length:Nat):Int)<(hds.length:Nat) by omega),Bool.false_eq_true,if_false,hls]
     by_cases hd:cnt hds=hds.length
     ·simp only [decide_eq_true hd,decide_eq_false (show¬((diff ys:Nat):Int)<(hds.length:Nat) by omega)];rfl
     ·simp only [decide_eq_false hd,decide_eq_true (show((diff ys:Nat):Int)<(hds.length:Nat) by omega)];rfl
    rw [hal,Bool.true_and]at okq
    cases hd:decide (cnt hds=hds.length)with
    | true=>
     rw [hd,if_pos rfl]at e5
     refine fin .non (by rw [zD e4,zD e5];rfl) ?_
     rw [dv true (okq.trans hd)]
     rfl
    | false=>
     rw [hd,if_neg Bool.false_ne_true]at e5
     refine fin _ (by rw [zD e4,yC e5]) ?_
     rw [dv false (okq.trans hd)]
     rfl
   | false=>
    have hlt2:(hds.filter (inN as)).length<hds.length:=by
     refine Nat.lt_of_le_of_ne flt fun z=>?_
     have:=List.filter_eq_self.mp (List.Sublist.eq_of_length List.filter_sublist z)
     rw [List.all_eq_true.mpr this]at hal
     cases hal
    have e5:jG (D6 (.tup (ts.map tbl)) h a k' (some (.loc S.length)) (some (.loc (S.length+1)))) S3=.ok (.ret (.val (.int (as.length:Nat)))) S3:=by
     unfold jG
     simp? [xC n3,xC h3,xC a3,lt_int,decide_eq_true (show(((hds.filter (inN as)).length:Nat):Int)<(hds.length:Nat) by omega)]
    refine fin _ (by rw [zD e4,yC e5]) ?_
    rw [dv false (by rw [okq,hal];rfl)]
    rfl
end
theorem yGO{S:Sto}{n:Nat}{fs:List (Str×MV)}{c:Str}{b:Bool}(h:S[n]? =some (.ins "NoQuestion" fs))(hb:decide (("NoQuestion":Str)=c)=b):zFK XNS c (.val (.loc n)) S=.ok (.val (.bl b)) S:=by
 unfold zFK
 dsimp only
 rw [h]
 dsimp only
 rw [if_pos (by decide),hb]
theorem yNW{S:Sto}{n:Nat}{fs:List (Str×MV)}(h:S[n]? =some (.ins "NoQuestion" fs)):yBT XNS (.val (.loc n)) S=.ok (.val (.bl true)) S:=by
 unfold yBT
 dsimp only
 rw [h]
 dsimp only
 rw [if_pos (by decide)]
theorem yNX{S:Sto}{n k:Nat}(h:S[n]? =some (.ins "NoQuestion" (NQ k))):zVC XNS "place" (.val (.loc n)) S=.ok (.val (.int (k:Nat))) S:=by
 unfold zVC
 dsimp only
 rw [h]
 dsimp only
 rw [if_pos (by decide)]
 rfl
theorem zRM{S:Sto}: ∀n:Nat,zMK S zZ (.bl true) (List.replicate n (.bl false))=some (List.replicate n false)
 | 0=>rfl
 | n+1=>by
  rw [List.replicate_succ]
  unfold zMK
  rw [show zZ=39+1 from rfl,yEX, ←show zZ=39+1 from rfl,zRM n]
  rfl
theorem yCI{S:Sto}{m n:Nat}(h:S[m]? =some (.lst (List.replicate n (.bl false)))):inF false (.val (.bl true)) (.val (.loc m)) S=.ok (.val (.bl false)) S:=by
 have e1:itemsOf S (.val (.loc m))=some (List.replicate n (.bl false)):=by unfold itemsOf;exact kU h
 show zFT false (.val (.bl true)) (.val (.loc m)) S=_
 unfold zFT
 dsimp only
 rw [e1]
 dsimp only
 rw [zRM]
 dsimp only
 rw [if_neg Bool.false_ne_true,show(List.replicate n false).any id=false by simp]
theorem lst4(a b c d:MV)(S:Sto):wA [.val a,.val b,.val c,.val d] S=.ok (.new [a,b,c,d]) S:=zCJ (by simp)
abbrev P7(tt hm am:MV)(e t x s:Option MV):Rho:=[some tt,some hm,some am,e,t,x,s]
theorem yCJ{tt hm am:MV}{B:Sto}{k n:Nat}(hn:B.length=n): ∃T,zP wY (zP bC (zP bD (zP bE (zP bF (zP bG jX))))) (P7 tt hm am (some (.loc n)) (some .non) none none) (B++[.ins "NoQuestion" (NQ k)])=.ok (.ret (.val (.int (k:Nat)))) (B++T):=by
 have H: ∀L:Sto,(B++(.ins "NoQuestion" (NQ k)::L))[n]? =some (.ins "NoQuestion" (NQ k)):=fun L=>by
  rw [List.getElem?_append_right (by omega),hn,Nat.sub_self];rfl
 have ne: ∀(c:Str)(L:Sto),decide (("NoQuestion":Str)=c)=false→zFK XNS c (.val (.loc n)) (B++(.ins "NoQuestion" (NQ k)::L))=.ok (.val (.bl false)) (B++(.ins "NoQuestion" (NQ k)::L)):=fun c L hb=>yGO (H L) hb
 have ye: ∀L:Sto,zFK XNS "NoQuestion" (.val (.loc n)) (B++(.ins "NoQuestion" (NQ k)::L))=.ok (.val (.bl true)) (B++(.ins "NoQuestion" (NQ k)::L)):=fun L=>yGO (H L) (by decide)
 have vv: ∀L:Sto,yBT XNS (.val (.loc n)) (B++(.ins "NoQuestion" (NQ k)::L))=.ok (.val (.bl true)) (B++(.ins "NoQuestion" (NQ k)::L)):=fun L=>yNW (H L)
 have ff: ∀L:Sto,zVC XNS "place" (.val (.loc n)) (B++(.ins "NoQuestion" (NQ k)::L))=.ok (.val (.int (k:Nat))) (B++(.ins "NoQuestion" (NQ k)::L)):=fun L=>yNX (H L)
 have e4:wY (P7 tt hm am (some (.loc n)) (some .non) none none) (B++[.ins "NoQuestion" (NQ k)])=.ok (.next (P7 tt hm am (some (.loc n)) (some .non) none none)) (B++[.ins "NoQuestion" (NQ k)]):=by
  unfold wY
  simp? [show∀S:Sto,yBI (.val (.loc n)) (.val .non) S=.ok (.val (.bl false)) S from fun S=>rfl,Bool.false_eq_true,if_false]
 have l1:(B++[MO.ins "NoQuestion" (NQ k)]).length=n+1:=by rw [List.length_append,hn];rfl
 have l2: ∀a,(B++[MO.ins "NoQuestion" (NQ k),a]).length=n+2:=fun a=>by rw [List.length_append,hn];rfl
 have l3: ∀a b,(B++[MO.ins "NoQuestion" (NQ k),a,b]).length=n+3:=fun a b=>by rw [List.length_append,hn];rfl
 have ap: ∀(L:Sto)(a:MO),B++L++[a]=B++(L++[a]):=fun L a=>List.append_assoc ..
 have e5:bC (P7 tt hm am (some (.loc n)) (some .non) none none) (B++[.ins "NoQuestion" (NQ k)])=.ok (.next (P7 tt hm am (some (.loc n)) (some .non) none (some (.loc (n+1))))) (B++[.ins "NoQuestion" (NQ k),.lst (List.replicate 4 (.bl false))]):=by
  unfold bC
  simp? [ne "Double" [] (by decide),ne "NoPlace" [] (by decide),ne "NoRow" [] (by decide),ne "NoRule" [] (by decide),lst4,l1,ap]
  rfl
 have g5:(B++[MO.ins "NoQuestion" (NQ k),.lst (List.replicate 4 (.bl false))])[n+1]? =some (.lst (List.replicate 4 (.bl false))):=by
  rw [List.getElem?_append_right (by omega),hn,Nat.add_sub_cancel_left];rfl
 have e6:bD (P7 tt hm am (some (.loc n)) (some .non) none (some (.loc (n+1)))) (B++[.ins "NoQuestion" (NQ k),.lst (List.replicate 4 (.bl false))])=.ok (.next (P7 tt hm am (some (.loc n)) (some .non) none (some (.loc (n+2))))) (B++[.ins "NoQuestion" (NQ k),.lst (List.replicate 4 (.bl false)),.lst (List.replicate 7 (.bl false))]):=by
  have ad:yY (.val (.loc (n+1))) (.new [.bl false,.bl false,.bl false]) (B++[.ins "NoQuestion" (NQ k),.lst (List.replicate 4 (.bl false))])=.ok (.new (List.replicate 7 (.bl false))) (B++[.ins "NoQuestion" (NQ k),.lst (List.replicate 4 (.bl false))]):=zCI (cV g5) rfl (fits (by decide))
  unfold bD
  simp? [ne "NotPlain" [.lst (List.replicate 4 (.bl false))] (by decide),ne "NoTable" [.lst (List.replicate 4 (.bl false))] (by decide),ne "NoText" [.lst (List.replicate 4 (.bl false))] (by decide),ad,l2,ap]
  rfl
 have g6:(B++[MO.ins "NoQuestion" (NQ k),.lst (List.replicate 4 (.bl false)),.lst (List.replicate 7 (.bl false))])[n+2]? =some (.lst (List.replicate 7 (.bl false))):=by
  rw [List.getElem?_append_right (by omega),hn,Nat.add_sub_cancel_left];rfl
 have e7:bE (P7 tt hm am (some (.loc n)) (some .non) none (some (.loc (n+2)))) (B++[.ins "NoQuestion" (NQ k),.lst (List.replicate 4 (.bl false)),.lst (List.replicate 7 (.bl false))])=.ok (.next (P7 tt hm am (some (.loc n)) (some .non) none (some (.loc (n+3))))) (B++[.ins "NoQuestion" (NQ k),.lst (List.replicate 4 (.bl false)),.lst (List.replicate 7 (.bl false)),.lst (List.replicate 10 (.bl false))]):=by
  have ad:yY (.val (.loc (n+2))) (.new [.bl false,.bl false,.bl false]) (B++[.ins "NoQuestion" (NQ k),.lst (List.replicate 4 (.bl false)),.lst (List.replicate 7 (.bl false))])=.ok (.new (List.replicate 10 (.bl false))) (B++[.ins "NoQuestion" (NQ k),.lst (List.replicate 4 (.bl false)),.lst (List.replicate 7 (.bl false))]):=zCI (cV g6) rfl (fits (by decide))
  unfold bE
  simp? [ne "Ring" [.lst (List.replicate 4 (.bl false)),.lst (List.replicate 7 (.bl false))] (by decide),ne "TooGreat" [.lst (List.replicate 4 (.bl false)),.lst (List.replicate 7 (.bl false))] (by decide),ne "TooWide" [.lst (List.replicate 4 (.bl false)),.lst (List.replicate 7 (.bl false))] (by decide),ad,l3,ap]
  rfl
 generalize hL:([.lst (List.replicate 4 (.bl false)),.lst (List.replicate 7 (.bl false)),.lst (List.replicate 10 (.bl false))]:Sto)=L at e7
 have g7:(B++(MO.ins "NoQuestion" (NQ k)::L))[n+3]? =some (.lst (List.replicate 10 (.bl false))):=by
  rw [List.getElem?_append_right (by omega),hn,Nat.add_sub_cancel_left, ←hL];rfl
 have e8:bF (P7 tt hm am (some (.loc n)) (some .non) none (some (.loc (n+3)))) (B++(.ins "NoQuestion" (NQ k)::L))=.ok (.next (P7 tt hm am (some (.loc n)) (some .non) none (some (.loc (n+3))))) (B++(.ins "NoQuestion" (NQ k)::L)):=by
  unfold bF
  simp? [yCI g7,ne "Twice" L (by decide),ye L,Bool.not_true,Bool.false_eq_true,if_false]
 have e9:bG (P7 tt hm am (some (.loc n)) (some .non) none (some (.loc (n+3)))) (B++(.ins "NoQuestion" (NQ k)::L))=.ok (.next (P7 tt hm am (some (.loc n)) (some .non) none (some (.loc (n+3))))) (B++(.ins "NoQuestion" (NQ k)::L)):=by
  unfold bG
  simp? [vv L,ff L,yFS,yFT,Bool.not_true,Bool.false_eq_true,if_false]
 have e10:jX (P7 tt hm am (some (.loc n)) (some .non) none (some (.loc (n+3)))) (B++(.ins "NoQuestion" (NQ k)::L))=.ok (.ret (.val (.int (k:Nat)))) (B++(.ins "NoQuestion" (NQ k)::L)):=by
  unfold jX
  simp? [ff L]
 exact⟨_,by rw [zD e4,zD e5,zD e6,zD e7,zD e8,zD e9,e10]⟩
theorem zVT{ts:List (Int×Int)}{S:Sto}{hm am:MV}{hds as:List MV}(hT:TOk ts)(h:SqM S hm hds)(ha:SqM S am as)(hA: ∀d∈as,pq d=true∧dpt d≤6)(hl:as.length≤1000)(hP: ∀d∈hds,pq d=true∧dpt d≤6)(hl2:hds.length≤1000):
  zJ 3 xK [.val (.tup (ts.map tbl)),.val hm,.val am] S=.ok (.val (dM ts hds as)) S:=by
 have hst:zT zEH [.tup (ts.map tbl),hm,am]=P7 (.tup (ts.map tbl)) hm am none none none none:=rfl
 have qg:=q_gen hT h ha (fun d hd=>(hA d hd).1) hl (fun d hd=>(hP d hd).1) hl2
 have e1:zGO (P7 (.tup (ts.map tbl)) hm am none none none none) S=.ok (.next (P7 (.tup (ts.map tbl)) hm am (some .non) none none none)) S:=rfl
 have e2:zGP (P7 (.tup (ts.map tbl)) hm am (some .non) none none none) S=.ok (.next (P7 (.tup (ts.map tbl)) hm am (some .non) (some .non) none none)) S:=rfl
 have pqt:pq (.tup [.tup hds,.tup as])=true:=zTI (fun d hd=>by
  simp only [List.mem_cons,List.not_mem_nil,or_false]at hd
  rcases hd with rfl | rfl
  ·exact zTI (fun d hd=>(hP d hd).1) hl2
  ·exact zTI (fun d hd=>(hA d hd).1) hl) (by simp)
 have dpq:dpt (.tup [.tup hds,.tup as])≤8:=by
  rw [jY,xZ,xZ,zDT,jY,jY]
  have h1:=zKI (ds:=hds) (n:=6) fun d hd=>(hP d hd).2
  have h2:=zKI (ds:=as) (n:=6) fun d hd=>(hA d hd).2
  omega
 have e3:bB (P7 (.tup (ts.map tbl)) hm am (some .non) (some .non) none none) S=yBU XNS 5 (yN (P7 (.tup (ts.map tbl)) hm am (some .non) (some .non) none none) 4) zGN (P7 (.tup (ts.map tbl)) hm am (some .non) (some .non) none none) (zHX 3 wL [.val (.tup (ts.map tbl)),.val hm,.val am] S):=rfl
 have cx:zHX 3 wL [.val (.tup (ts.map tbl)),.val hm,.val am] S=match zVR ts hds as with
   | none=>.ok (.val (.tup [.tup hds,.tup as])) S
   | some k=>.exc "NoQuestion" (NQ k) S:=by
  unfold zHX
  rw [if_pos (show [Er.val (.tup (ts.map tbl)),Er.val hm,Er.val am].length=3 from rfl),show(zQ [.val (.tup (ts.map tbl)),.val hm,.val am] S).1=[.tup (ts.map tbl),hm,am]from rfl,show(zQ [.val (.tup (ts.map tbl)),.val hm,.val am] S).2=S from rfl,qg]
  cases zVR ts hds as with
  | none=>
   dsimp only
   have:=zOS (S:=S) (T:=[]) (yGG (n:=S.length) 9 (by omega) pqt) (fun l=>by simp)
   rw [List.append_nil]at this
   exact this
  | some k=>
   dsimp only
   rw [if_pos (show((NQ k).all fun p=>zSP p.2)=true from rfl)]
   have:=zOS (S:=S) (T:=[]) (zSL S.length) (fun l=>by simp)
   rw [List.append_nil]at this
   rw [this]
   rfl
 rw [cx]at e3
 cases hdue:zVR ts hds as with
 | none=>
  rw [hdue]at e3
  have e3':bB (P7 (.tup (ts.map tbl)) hm am (some .non) (some .non) none none) S=.ok (.next (P7 (.tup (ts.map tbl)) hm am (some .non) (some (.tup [.tup hds,.tup as])) none none)) S:=e3
  have nn:neF (.val (.tup [.tup hds,.tup as])) (.val (.tup [.tup hds,.tup as])) S=.ok (.val (.bl false)) S:=zXL (eqv_refl (zZ+1) pqt (by unfold zZ;omega))
  have e4:wY (P7 (.tup (ts.map tbl)) hm am (some .non) (some (.tup [.tup hds,.tup as])) none none) S=.ok (.ret (.val .non)) S:=by
   unfold wY
   simp? [show∀S:Sto,yBI (.val .non) (.val .non) S=.ok (.val (.bl true)) S from fun S=>rfl,h.tuple,ha.tuple,nn,show∀S:Sto,intF [.val (.bl false)] S=.ok (.val (.int 0)) S from fun S=>rfl,show∀S:Sto,ixF (.new [.non,.int (-1)]) (.val (.int 0)) S=.ok (.val .non) S from fun S=>rfl]
  refine zDP rfl ?_ zTK zHM
  show xK [.tup (ts.map tbl),hm,am] S=_
  unfold xK zES dM
  rw [hst,zD e1,zD e2,zD e3',yC e4,hdue]
  rfl
 | some k=>
  rw [hdue]at e3
  have e3':bB (P7 (.tup (ts.map tbl)) hm am (some .non) (some .non) none none) S=.ok (.next (P7 (.tup (ts.map tbl)) hm am (some (.loc S.length)) (some .non) none none)) (S++[.ins "NoQuestion" (NQ k)]):=by
   rw [e3]
   unfold yBU
   dsimp only
   rw [if_pos (by decide)]
   rfl
  obtain⟨T,he⟩:=yCJ (tt:=.tup (ts.map tbl)) (hm:=hm) (am:=am) (B:=S) (k:=k) rfl
  refine zFV (T:=T) rfl ?_ zTK zHM
  show xK [.tup (ts.map tbl),hm,am] S=_
  unfold xK zES dM
  rw [hst,zD e1,zD e2,zD e3',he,hdue]
  rfl
theorem tup0(S:Sto):xV [] S=.ok (.val (.tup [])) S:=zSO (by simp)
theorem yCK(a:MV)(S:Sto):xV [.val a] S=.ok (.val (.tup [a])) S:=zSO (by simp)
theorem lst5(a b c d e:MV)(S:Sto):wA [.val a,.val b,.val c,.val d,.val e] S=.ok (.new [a,b,c,d,e]) S:=zCJ (by simp)
theorem lst7(a b c d e f g:MV)(S:Sto):wA [.val a,.val b,.val c,.val d,.val e,.val f,.val g] S=.ok (.new [a,b,c,d,e,f,g]) S:=zCJ (by simp)
theorem lst8(a b c d e f g h:MV)(S:Sto):wA [.val a,.val b,.val c,.val d,.val e,.val f,.val g,.val h] S=.ok (.new [a,b,c,d,e,f,g,h]) S:=zCJ (by simp)
def Td(n:Nat)(d:MV):Prop:=pq d=true∧dpt d≤n
theorem Td.up{n m:Nat}{d:MV}(h:Td n d)(hn:n≤m):Td m d:=⟨h.1,Nat.le_trans h.2 hn⟩
theorem xW(n:Nat)(i:Int):Td n (.int i):=⟨yGE i,by rw [zKH];exact Nat.zero_le _⟩
theorem zVU(n:Nat)(i:Bool):Td n (.bl i):=⟨pq_bl i,by simp [dpt]⟩
theorem zPJ(n:Nat):Td n .non:=⟨yGF,by simp [dpt]⟩
theorem xX(n:Nat){x:List Nat}(h:x.length≤1000):Td n (.str x):=⟨yNN h,by rw [zAH];exact Nat.zero_le _⟩
theorem jA{n:Nat}{ds:List MV}(h: ∀d∈ds,Td n d)(hl:ds.length≤1000):Td (n+1) (.tup ds):=⟨zTI (fun d hd=>(h d hd).1) hl,by rw [jY];exact Nat.succ_le_succ (zKI fun d hd=>(h d hd).2)⟩
theorem yAM:Td 2 (.tup []):=jA (n:=1) (by simp) (by simp)
theorem Td.lo{n:Nat}{d:MV}(h:Td n d)(k:Nat):lo k d:=yGG (n+1) (Nat.lt_succ_of_le h.2) h.1
theorem yKX{d:MV}(h:zPF d):Td 1 d:=by
 rcases h with⟨x,hx,rfl⟩ | ⟨v,hv,rfl⟩
 ·refine jA (n:=0) (fun e he=>?_) (by simp)
  simp only [List.mem_cons,List.not_mem_nil,or_false]at he
  rcases he with rfl | rfl
  ·exact xX 0 (by decide)
  ·exact xX 0 (by have:=hx.2.1;omega)
 ·refine jA (n:=0) (fun e he=>?_) (by simp)
  simp only [List.mem_cons,List.not_mem_nil,or_false]at he
  rcases he with rfl | rfl
  ·exact xX 0 (by decide)
  ·rcases hv.cases with⟨i,rfl,_⟩ | ⟨x,rfl,hx⟩
   ·exact xW 0 i
   ·exact xX 0 (by have:=hx.2.1;omega)
theorem td_at{ts:List (Int×Int)}{a:MV}(h:zHS ts a):Td 3 a:=by
 obtain⟨t,tms,p,rfl,_,_,_,hl,_,h3,hT⟩:=h
 refine jA (n:=2) (fun e he=>?_) (by simp)
 simp only [List.mem_cons,List.not_mem_nil,or_false]at he
 rcases he with rfl | rfl
 ·exact xW 2 t
 ·exact jA (n:=1) (fun d hd=>yKX (hT d hd)) (by omega)
abbrev T1:List MV:=[.tup [.str VAR,.str []],.tup [.str VAR,.str [65,98]],.tup [.str VAR,.str [97,98,99,100,101,102,103,104,105]],.tup [.str VAR,.int 5],.tup [.str VAR,.bl true],.tup [.str VAR,.non],.tup [.str IS,.str []]]
abbrev T2:List MV:=[.tup [.str IS,.str [65,98]],.tup [.str IS,.int (10 ^ 30)],.tup [.str IS,.int (0 - 10 ^ 30)],.tup [.str IS,.bl true],.tup [.str IS,.non],.tup [.str IS,.tup [.int 1]],.tup [.str [105,102],.int 1]]
abbrev T3(y:List Nat):List MV:=[.tup [.str VAR,.str y,.int 1],.tup [.str y],.str y,.tup []]
theorem zIS{a b:MV}(h1:Td 1 a)(h2:Td 1 b):Td 2 (.tup [a,b]):=jA (n:=1) (fun e he=>by
 simp only [List.mem_cons,List.not_mem_nil,or_false]at he
 rcases he with rfl | rfl<;>assumption) (by simp)
theorem yJV{y:List Nat}(hy:y.length≤1000): ∀d∈T1++T2++T3 y,Td 2 d:=by
 intro d hd
 simp only [T1,T2,T3,List.cons_append,List.nil_append,List.mem_cons,List.not_mem_nil,or_false]at hd
 have v:Td 1 (.str VAR):=xX 1 (by decide)
 have i:Td 1 (.str IS):=xX 1 (by decide)
 rcases hd with rfl | rfl | rfl | rfl | rfl | rfl | rfl | rfl | rfl | rfl | rfl | rfl | rfl | rfl | rfl | rfl | rfl | rfl
 ·exact zIS v (xX 1 (by decide))
 ·exact zIS v (xX 1 (by decide))
 ·exact zIS v (xX 1 (by decide))
 ·exact zIS v (xW 1 _)
 ·exact zIS v (zVU 1 _)
 ·exact zIS v (zPJ 1)
 ·exact zIS i (xX 1 (by decide))
 ·exact zIS i (xX 1 (by decide))
 ·exact zIS i (xW 1 _)
 ·exact zIS i (xW 1 _)
 ·exact zIS i (zVU 1 _)
 ·exact zIS i (zPJ 1)
 ·exact zIS i (jA (n:=0) (fun e he=>by rw [List.mem_singleton.mp he];exact xW 0 _) (by simp))
 ·exact zIS (xX 1 (by decide)) (xW 1 _)
 ·refine jA (n:=1) (fun e he=>?_) (by simp)
  simp only [List.mem_cons,List.not_mem_nil,or_false]at he
  rcases he with rfl | rfl | rfl
  ·exact v
  ·exact xX 1 hy
  ·exact xW 1 _
 ·exact jA (n:=1) (fun e he=>by rw [List.mem_singleton.mp he];exact xX 1 hy) (by simp)
 ·exact xX 2 hy
 ·exact yAM
theorem at0{α:Type}(d:α)(r:List α):atI (d::r) 0=some d:=by
 unfold atI ixN
 rw [if_pos (Int.le_refl 0),if_pos (by rw [List.length_cons];omega)]
 rfl
theorem nt_ok{S:Sto}{p q:Nat}{y:List Nat}{r:List MV}(c:Int)(hq:S[q]? =some (.lst (.str y::r)))(hy:y.length≤1000): ∃d,Td 2 d∧zJ 3 wP [.val (.int c),.val (.loc q),.val (.loc p)] S=.ok (.val d) S:=by
 have hst:zT zAS [.int c,.loc q,.loc p]=[some (.int c),some (.loc q),some (.loc p),none,none]:=rfl
 have e1:cF [some (.int c),some (.loc q),some (.loc p),none,none] S=.ok (.next [some (.int c),some (.loc q),some (.loc p),some (.int (10 ^ 30)),none]) S:=by
  unfold cF
  simp? [yFR]
 have e2:cG [some (.int c),some (.loc q),some (.loc p),some (.int (10 ^ 30)),none] S=.ok (.next [some (.int c),some (.loc q),some (.loc p),some (.int (10 ^ 30)),some (.loc S.length)]) (S++[.lst T1]):=by
  unfold cG
  simp? [lst7]
 have ad1:yY (.val (.loc S.length)) (.new T2) (S++[.lst T1])=.ok (.new (T1++T2)) (S++[.lst T1]):=zCI (cV (jZ S _)) rfl (fits (by decide))
 have e3:cH [some (.int c),some (.loc q),some (.loc p),some (.int (10 ^ 30)),some (.loc S.length)] (S++[.lst T1])=.ok (.next [some (.int c),some (.loc q),some (.loc p),some (.int (10 ^ 30)),some (.loc (S++[MO.lst T1]).length)]) (S++[.lst T1]++[.lst (T1++T2)]):=by
  unfold cH
  simp? [lst7,yCK,ad1]
 have hq2:(S++[MO.lst T1]++[MO.lst (T1++T2)])[q]? =some (.lst (.str y::r)):=by
  rw [List.append_assoc,List.getElem?_append_left (List.getElem?_eq_some_iff.mp hq).1];exact hq
 have ix0:ixF (.val (.loc q)) (.val (.int 0)) (S++[.lst T1]++[.lst (T1++T2)])=.ok (.val (.str y)) (S++[.lst T1]++[.lst (T1++T2)]):=bU hq2 (at0 _ _)
 have ad2:yY (.val (.loc (S++[MO.lst T1]).length)) (.new (T3 y)) (S++[.lst T1]++[.lst (T1++T2)])=.ok (.new (T1++T2++T3 y)) (S++[.lst T1]++[.lst (T1++T2)]):=zCI (cV (jZ _ _)) rfl (fits (by simp))
 have e4:cJ [some (.int c),some (.loc q),some (.loc p),some (.int (10 ^ 30)),some (.loc (S++[MO.lst T1]).length)] (S++[.lst T1]++[.lst (T1++T2)])=.ok (.next [some (.int c),some (.loc q),some (.loc p),some (.int (10 ^ 30)),some (.loc (S++[MO.lst T1]++[MO.lst (T1++T2)]).length)]) (S++[.lst T1]++[.lst (T1++T2)]++[.lst (T1++T2++T3 y)]):=by
  unfold cJ
  simp? [ix0,yCK,tup0,lst4,ad2]
 have hl:(T1++T2++T3 y).length=18:=rfl
 obtain⟨d,hd⟩:=cT (xs:=T1++T2++T3 y) (i:=c % 18) (Int.emod_nonneg _ (by decide)) (by rw [hl];exact Int.emod_lt_of_pos _ (by decide))
 have e5:cK [some (.int c),some (.loc q),some (.loc p),some (.int (10 ^ 30)),some (.loc (S++[MO.lst T1]++[MO.lst (T1++T2)]).length)] (S++[.lst T1]++[.lst (T1++T2)]++[.lst (T1++T2++T3 y)])=.ok (.ret (.val d)) (S++[.lst T1]++[.lst (T1++T2)]++[.lst (T1++T2++T3 y)]):=by
  unfold cK
  simp? [mod_lit (show(0:Int)<18 by decide),bU (jZ (S++[.lst T1]++[.lst (T1++T2)]) (.lst (T1++T2++T3 y))) hd]
 have td:Td 2 d:=cU (P:=Td 2) (yJV hy) hd
 refine⟨d,td,zFV (T:=[.lst T1,.lst (T1++T2),.lst (T1++T2++T3 y)]) rfl ?_ (td.lo _) (zVO td.1)⟩
 show wP [.int c,.loc q,.loc p] S=_
 unfold wP zGK
 rw [hst,zD e1,zD e2,zD e3,zD e4,e5,List.append_assoc,List.append_assoc]
 rfl
abbrev A9(a:MV)(c:Int)(tt:MV)(q p:Nat)(t:Int)(tms:List MV)(w n:Option MV):Rho:=[some a,some (.int c),some tt,some (.loc q),some (.loc p),some (.int t),some (.tup tms),w,n]
abbrev L8(n:Int):List MV:=[.int n,.int (-1),.int (10 ^ 40),.bl true,.non,.str [48],.tup [.int 0],.bl false]
abbrev L7(t:Int)(tms:List MV):List MV:=[.tup [.int t],.tup [.int t,.tup tms,.tup tms],.int t,.tup tms,.tup [],.tup [.tup tms,.int t],.tup [.int t,.non]]
theorem yAN(ds:List MV)(l h:Option Int)(S:Sto):zOO (.val (.tup ds)) l h S=.ok (.val (.tup (kR ds l h))) S:=rfl
theorem na_ok{ts:List (Int×Int)}{S:Sto}{p q:Nat}{y:List Nat}{r:List MV}{a:MV}(c:Int)(hA:zHS ts a)(hT:TOk ts)(hq:S[q]? =some (.lst (.str y::r)))(hy:y.length≤1000):
  ∃d,Td 6 d∧zJ 5 xR [.val a,.val (.int c),.val (.tup (ts.map tbl)),.val (.loc q),.val (.loc p)] S=.ok (.val d) S:=by
 obtain⟨t,tms,pp,rfl,_,_,_,hl,h1,h3,hTm⟩:=hA
 have tdm: ∀d∈tms,Td 2 d:=fun d hd=>(yKX (hTm d hd)).up (by decide)
 have td2:Td 3 (.tup tms):=jA (n:=2) tdm (by omega)
 have hst:zT zAT [.tup [.int t,.tup tms],.int c,.tup (ts.map tbl),.loc q,.loc p]=[some (.tup [.int t,.tup tms]),some (.int c),some (.tup (ts.map tbl)),some (.loc q),some (.loc p),none,none,none,none]:=rfl
 have e1:zDR [some (.tup [.int t,.tup tms]),some (.int c),some (.tup (ts.map tbl)),some (.loc q),some (.loc p),none,none,none,none] S=.ok (.next (A9 (.tup [.int t,.tup tms]) c (.tup (ts.map tbl)) q p t tms none none)) S:=rfl
 have e2:cL (A9 (.tup [.int t,.tup tms]) c (.tup (ts.map tbl)) q p t tms none none) S=.ok (.next (A9 (.tup [.int t,.tup tms]) c (.tup (ts.map tbl)) q p t tms (some (.int (c % 5))) none)) S:=by
  unfold cL
  simp? [mod_lit (show(0:Int)<5 by decide)]
 have l0:(0:Int)<((tms.length:Nat):Int):=by omega
 generalize hn:c / 5 % ((tms.length:Nat):Int)=n
 have e3:cN (A9 (.tup [.int t,.tup tms]) c (.tup (ts.map tbl)) q p t tms (some (.int (c % 5))) none) S=.ok (.next (A9 (.tup [.int t,.tup tms]) c (.tup (ts.map tbl)) q p t tms (some (.int (c % 5))) (some (.int n)))) S:=by
  unfold cN
  simp? [zEE (show(0:Int)<5 by decide) (show(5:Int)<1073741824 by decide),zAG,mod_lit l0,hn]
 have fin: ∀d,Td 6 d→zP wQ (zP wR (zP wS (zP wT cO))) (A9 (.tup [.int t,.tup tms]) c (.tup (ts.map tbl)) q p t tms (some (.int (c % 5))) (some (.int n))) S=.ok (.ret (.val d)) S→ ∃d,Td 6 d∧zJ 5 xR [.val (.tup [.int t,.tup tms]),.val (.int c),.val (.tup (ts.map tbl)),.val (.loc q),.val (.loc p)] S=.ok (.val d) S:=fun d td hh=>by
  refine⟨d,td,zDP rfl ?_ (td.lo _) (zVO td.1)⟩
  show xR [.tup [.int t,.tup tms],.int c,.tup (ts.map tbl),.loc q,.loc p] S=_
  unfold xR zGL
  rw [hst,zD e1,zD e2,zD e3,hh]
  rfl
 have tdp: ∀x y:MV,Td 5 x→Td 5 y→Td 6 (.tup [x,y]):=fun x y hx hy=>jA (n:=5) (fun e he=>by
  simp only [List.mem_cons,List.not_mem_nil,or_false]at he
  rcases he with rfl | rfl<;>assumption) (by simp)
 have tlen:((ts.map tbl).length:Nat)=ts.length:=List.length_map ..
 generalize hw:c % 5=w at *
 by_cases w0:w=0
 ·obtain⟨d,hd⟩:=cT (xs:=L8 (((ts.map tbl).length:Nat):Int)) (i:=c / 5 % 8) (Int.emod_nonneg _ (by decide)) (Int.emod_lt_of_pos _ (by decide))
  have td:Td 5 d:=cU (P:=Td 5) (fun e he=>by
   simp only [List.mem_cons,List.not_mem_nil,or_false]at he
   rcases he with rfl | rfl | rfl | rfl | rfl | rfl | rfl | rfl
   ·exact xW 5 _
   ·exact xW 5 _
   ·exact xW 5 _
   ·exact zVU 5 _
   ·exact zPJ 5
   ·exact xX 5 (by decide)
   ·exact(jA (n:=4) (fun e he=>by rw [List.mem_singleton.mp he];exact xW 4 _) (by simp))
   ·exact zVU 5 _) hd
  refine fin (.tup [d,.tup tms]) (tdp _ _ td (td2.up (by decide))) (yC ?_)
  unfold wQ
  simp? [decide_eq_true w0,zAG,show∀S:Sto,zKV (.val (.int 10)) (.val (.int 40)) S=.ok (.val (.int (10 ^ 40))) S from fun S=>rfl,yCK,lst8,zEE (show(0:Int)<5 by decide) (show(5:Int)<1073741824 by decide),mod_lit (show(0:Int)<8 by decide),zSN (S:=S) hd]
 have f4:wQ (A9 (.tup [.int t,.tup tms]) c (.tup (ts.map tbl)) q p t tms (some (.int w)) (some (.int n))) S=.ok (.next (A9 (.tup [.int t,.tup tms]) c (.tup (ts.map tbl)) q p t tms (some (.int w)) (some (.int n)))) S:=by
  unfold wQ
  simp? [decide_eq_false w0,Bool.false_eq_true,if_false]
 have cutm: ∀l h, ∀d∈kR tms l h,Td 2 d:=fun l h d hd=>tdm d (zUT hd)
 have cutl: ∀l h,(kR tms l h).length≤3:=fun l h=>Nat.le_trans (zOT _ _ _) (by omega)
 by_cases w1:w=1
 ·refine fin (.tup [.int t,.tup (kR tms none (some n)++kR tms (some (n+1)) none)]) (tdp _ _ (xW 5 _) ((jA (n:=2) (fun e he=>(List.mem_append.mp he).elim (cutm _ _ e) (cutm _ _ e)) (by have:=cutl none (some n);have:=cutl (some (n+1)) none;rw [List.length_append];omega)).up (by decide))) ?_
  rw [zD f4]
  refine yC ?_
  unfold wR
  simp? [decide_eq_true w1,yAN,zNB (S:=S) (x:=kR tms none (some n)) (y:=kR tms (some (n+1)) none) (fits (by have:=cutl none (some n);have:=cutl (some (n+1)) none;omega))]
 have f5:wR (A9 (.tup [.int t,.tup tms]) c (.tup (ts.map tbl)) q p t tms (some (.int w)) (some (.int n))) S=.ok (.next (A9 (.tup [.int t,.tup tms]) c (.tup (ts.map tbl)) q p t tms (some (.int w)) (some (.int n)))) S:=by
  unfold wR
  simp? [decide_eq_false w1,Bool.false_eq_true,if_false]
 by_cases w2:w=2
 ·refine fin (.tup [.int t,.tup (tms++[.tup [.str IS,.int 1]])]) (tdp _ _ (xW 5 _) ((jA (n:=2) (fun e he=>(List.mem_append.mp he).elim (tdm e) fun z=>by rw [List.mem_singleton.mp z];exact zIS (xX 1 (by decide)) (xW 1 _)) (by rw [List.length_append,List.length_singleton];omega)).up (by decide))) ?_
  rw [zD f4,zD f5]
  refine yC ?_
  unfold wS
  simp? [decide_eq_true w2,yCK,zNB (S:=S) (x:=tms) (y:=[.tup [.str IS,.int 1]]) (fits (by rw [List.length_singleton];omega))]
 have f6:wS (A9 (.tup [.int t,.tup tms]) c (.tup (ts.map tbl)) q p t tms (some (.int w)) (some (.int n))) S=.ok (.next (A9 (.tup [.int t,.tup tms]) c (.tup (ts.map tbl)) q p t tms (some (.int w)) (some (.int n)))) S:=by
  unfold wS
  simp? [decide_eq_false w2,Bool.false_eq_true,if_false]
 by_cases w3:w=3
 ·obtain⟨d,td,hnt⟩:=nt_ok (p:=p) (c / 15) hq hy
  have la:(kR tms none (some n)).length+[d].length≤4:=by have:=cutl none (some n);rw [List.length_singleton];omega
  refine fin (.tup [.int t,.tup (kR tms none (some n)++[d]++kR tms (some (n+1)) none)]) (tdp _ _ (xW 5 _) ((jA (n:=2) (fun e he=>(List.mem_append.mp he).elim (fun z=>(List.mem_append.mp z).elim (cutm _ _ e) fun z=>by rw [List.mem_singleton.mp z];exact td) (cutm _ _ e)) (by have:=cutl (some (n+1)) none;rw [List.length_append,List.length_append];omega)).up (by decide))) ?_
  rw [zD f4,zD f5,zD f6]
  refine yC ?_
  unfold wT
  simp? [decide_eq_true w3,yAN,zEE (show(0:Int)<15 by decide) (show(15:Int)<1073741824 by decide),hnt,yCK,zNB (S:=S) (x:=kR tms none (some n)) (y:=[d]) (fits (by omega)),zNB (S:=S) (x:=kR tms none (some n)++[d]) (y:=kR tms (some (n+1)) none) (fits (by have:=cutl (some (n+1)) none;rw [List.length_append];omega))]
 have f7:wT (A9 (.tup [.int t,.tup tms]) c (.tup (ts.map tbl)) q p t tms (some (.int w)) (some (.int n))) S=.ok (.next (A9 (.tup [.int t,.tup tms]) c (.tup (ts.map tbl)) q p t tms (some (.int w)) (some (.int n)))) S:=by
  unfold wT
  simp? [decide_eq_false w3,Bool.false_eq_true,if_false]
 obtain⟨d,hd⟩:=cT (xs:=L7 t tms) (i:=c / 5 % 7) (Int.emod_nonneg _ (by decide)) (Int.emod_lt_of_pos _ (by decide))
 have td:Td 6 d:=cU (P:=Td 6) (fun e he=>by
  simp only [List.mem_cons,List.not_mem_nil,or_false]at he
  rcases he with rfl | rfl | rfl | rfl | rfl | rfl | rfl
  ·exact jA (n:=5) (fun e he=>by rw [List.mem_singleton.mp he];exact xW 5 _) (by simp)
  ·refine jA (n:=5) (fun e he=>?_) (by simp)
   simp only [List.mem_cons,List.not_mem_nil,or_false]at he
   rcases he with rfl | rfl | rfl
   ·exact xW 5 _
   ·exact td2.up (by decide)
   ·exact td2.up (by decide)
  ·exact xW 6 _
  ·exact td2.up (by decide)
  ·exact yAM.up (by decide)
  ·exact tdp _ _ (td2.up (by decide)) (xW 5 _)
  ·exact tdp _ _ (xW 5 _) (zPJ 5)) hd
 refine fin d td ?_
 rw [zD f4,zD f5,zD f6,zD f7]
 unfold cO
 simp? [yCK,tup0,lst7,zEE (show(0:Int)<5 by decide) (show(5:Int)<1073741824 by decide),mod_lit (show(0:Int)<7 by decide),zSN (S:=S) hd]
theorem yGP{n:Nat}{F:List MV→Sto→R Er}{rs:List Er}{S:Sto}{h:Nat}(hn:rs.length=n)(hF:F (zQ rs S).1 (zQ rs S).2=.ok (.val (.loc h)) S)(hl:h<S.length):zJ n F rs S=.ok (.val (.loc h)) S:=by
 unfold zJ
 rw [if_pos hn,hF]
 show dA S (.val (.loc h)) S=_
 unfold dA
 rw [if_pos yER]
 dsimp only
 rw [if_pos hl,List.take_length]
theorem yJW{S:Sto}{l:Nat}{ds:List MV}(hS:S[l]? =some (.lst ds))(a b:Option Int):zOO (.val (.loc l)) a b S=.ok (.new (kR ds a b)) S:=by
 show(match hX S (.val (.loc l))with | some ds=>R.ok (Er.new (kR ds a b)) S | none=>.no)=_
 rw [kU hS]
abbrev B4(h:Nat)(c:Int)(q:Nat)(s:Option MV):Rho:=[some (.loc h),some (.int c),some (.loc q),s]
abbrev S7(y:List Nat):List MV:=[.str ([99]++y),.str [],.str [65,98],.str [97,98,99,100,101,102,103,104,105],.int 5,.non,.bl true]
abbrev D5(y:List Nat):List MV:=[.str ([100]++y),.str ([101]++y),.str ([102]++y),.str ([103]++y),.str ([104]++y)]
theorem bh_ok{S:Sto}{h q:Nat}{hds r:List MV}{y:List Nat}(c:Int)(hH:S[h]? =some (.lst hds))(hq:S[q]? =some (.lst (.str y::r)))(hy:y.length≤900)(hP: ∀d∈hds,Td 6 d)(hl:hds.length≤6):
  ∃e hds',zJ 3 yR [.val (.loc h),.val (.int c),.val (.loc q)] S=.ok e S∧(e=.new hds'∨(e=.val (.loc h)∧hds'=hds))∧(∀d∈hds',Td 6 d)∧hds'.length≤20:=by
 have hst:zT dW [.loc h,.int c,.loc q]=B4 h c q none:=rfl
 have ix0:ixF (.val (.loc q)) (.val (.int 0)) S=.ok (.val (.str y)) S:=bU hq (at0 _ _)
 have ads: ∀k:Nat,yY (.val (.str [k])) (.val (.str y)) S=.ok (.val (.str ([k]++y))) S:=fun k=>add_str (fits (by rw [List.length_singleton];omega))
 have ln: ∀k:Nat,Td 6 (.str ([k]++y)):=fun k=>xX 6 (by rw [List.length_append,List.length_singleton];omega)
 obtain⟨d,hd⟩:=cT (xs:=S7 y) (i:=c / 5 % 7) (Int.emod_nonneg _ (by decide)) (Int.emod_lt_of_pos _ (by decide))
 have td:Td 6 d:=cU (P:=Td 6) (fun e he=>by
  simp only [List.mem_cons,List.not_mem_nil,or_false]at he
  rcases he with rfl | rfl | rfl | rfl | rfl | rfl | rfl
  ·exact ln 99
  ·exact xX 6 (by decide)
  ·exact xX 6 (by decide)
  ·exact xX 6 (by decide)
  ·exact xW 6 _
  ·exact zPJ 6
  ·exact zVU 6 _) hd
 have e1:gZ (B4 h c q none) S=.ok (.next (B4 h c q (some d))) S:=by
  unfold gZ
  simp? [ix0,ads,lst7,zEE (show(0:Int)<5 by decide) (show(5:Int)<1073741824 by decide),mod_lit (show(0:Int)<7 by decide),zSN (S:=S) hd]
 have new: ∀hds',zP wG (zP wH (zP wI (zP wJ zCA))) (B4 h c q (some d)) S=.ok (.ret (.new hds')) S→(∀d∈hds',Td 6 d)→hds'.length≤20→ ∃e hds',zJ 3 yR [.val (.loc h),.val (.int c),.val (.loc q)] S=.ok e S∧(e=.new hds'∨(e=.val (.loc h)∧hds'=hds))∧(∀d∈hds',Td 6 d)∧hds'.length≤20:=fun hds' hh ht hl'=>
  ⟨.new hds',hds',zUQ (T:=[]) rfl (by
   show yR [.loc h,.int c,.loc q] S=_
   unfold yR nR
   rw [hst,zD e1,hh,List.append_nil]
   rfl) (gK fun d hd=>(ht d hd).lo _),.inl rfl,ht,hl'⟩
 have tl: ∀(xs:List MV),(∀d∈xs,Td 6 d)→ ∀d∈hds++xs,Td 6 d:=fun xs hx d hd=>(List.mem_append.mp hd).elim (hP d) (hx d)
 generalize hw:c % 5=w
 have m5: ∀S:Sto,zEC (.val (.int c)) (.val (.int 5)) S=.ok (.val (.int w)) S:=fun S=>by rw [←hw];exact mod_lit (by decide) c S
 by_cases w0:w=0
 ·refine new (hds++[d]) (yC ?_) (tl _ fun e he=>by rw [List.mem_singleton.mp he];exact td) (by rw [List.length_append,List.length_singleton];omega)
  unfold wG
  simp? [m5,decide_eq_true w0,zCI (S:=S) (p:=.val (.loc h)) (q:=.new [d]) (cV hH) rfl (fits (by rw [List.length_singleton];omega))]
 have f2:wG (B4 h c q (some d)) S=.ok (.next (B4 h c q (some d))) S:=by
  unfold wG
  simp? [m5,decide_eq_false w0,Bool.false_eq_true,if_false]
 by_cases w1:w=1
 ·refine new ([d]++hds) (by
   rw [zD f2]
   refine yC ?_
   unfold wH
   simp? [m5,decide_eq_true w1,zCI (S:=S) (p:=.new [d]) (q:=.val (.loc h)) rfl (cV hH) (fits (by rw [List.length_singleton];omega))]) (fun e he=>(List.mem_append.mp he).elim (fun z=>by rw [List.mem_singleton.mp z];exact td) (hP e)) (by rw [List.length_append,List.length_singleton];omega)
 have f3:wH (B4 h c q (some d)) S=.ok (.next (B4 h c q (some d))) S:=by
  unfold wH
  simp? [m5,decide_eq_false w1,Bool.false_eq_true,if_false]
 by_cases w2:w=2∧hds.isEmpty=false
 ·refine new (hds++kR hds none (some 1)) (by
   rw [zD f2,zD f3]
   refine yC ?_
   unfold wI
   simp? [m5,decide_eq_true w2.1,zIQ hH,w2.2,Bool.not_false,yJW hH,zCI (S:=S) (p:=.val (.loc h)) (q:=.new (kR hds none (some 1))) (cV hH) rfl (fits (by have:=zOT hds none (some 1);omega))]) (tl _ fun e he=>hP e (zUT he)) (by have:=zOT hds none (some 1);rw [List.length_append];omega)
 have f4:wI (B4 h c q (some d)) S=.ok (.next (B4 h c q (some d))) S:=by
  unfold wI
  by_cases z:w=2
  ·have hemp:hds.isEmpty=true:=by
    cases h8:hds.isEmpty with
    | true=>rfl
    | false=>exact absurd ⟨z,h8⟩ w2
   simp? [m5,decide_eq_true z,zIQ hH,hemp,Bool.not_true,Bool.false_eq_true,if_false]
  ·simp? [m5,decide_eq_false z,Bool.false_eq_true,if_false]
 by_cases w3:w=3
 ·refine new (hds++D5 y) (by
   rw [zD f2,zD f3,zD f4]
   refine yC ?_
   unfold wJ
   simp? [m5,decide_eq_true w3,ix0,ads,lst5,zCI (S:=S) (p:=.val (.loc h)) (q:=.new (D5 y)) (cV hH) rfl (fits (by show hds.length+5≤_;omega))]) (tl _ fun e he=>by
   simp only [List.mem_cons,List.not_mem_nil,or_false]at he
   rcases he with rfl | rfl | rfl | rfl | rfl<;>exact ln _) (by rw [List.length_append];show hds.length+5≤_;omega)
 have f5:wJ (B4 h c q (some d)) S=.ok (.next (B4 h c q (some d))) S:=by
  unfold wJ
  simp? [m5,decide_eq_false w3,Bool.false_eq_true,if_false]
 refine⟨.val (.loc h),hds,yGP rfl ?_ (List.getElem?_eq_some_iff.mp hH).1,.inr ⟨rfl,rfl⟩,hP,by omega⟩
 show yR [.loc h,.int c,.loc q] S=_
 unfold yR nR
 rw [hst,zD e1,zD f2,zD f3,zD f4,zD f5]
 rfl
theorem zHN(ns:List Int)(k:Int)(hk:0≤k)(S:Sto): ∃c,zJ 2 yF [.val (.scr (ns.map MV.int)),.val (.int k)] S=.ok (.val (.int c)) S:=by
 have hlen:wN [.val (.scr (ns.map MV.int))] S=.ok (.val (.int ns.length)) S:=by
  show R.ok (Er.val (.int (((ns.map MV.int).length:Nat):Int))) S=_
  rw [List.length_map]
 have e1:bX [some (.scr (ns.map MV.int)),some (.int k)] S=if decide (k<ns.length)=true then(ixF (.val (.scr (ns.map MV.int))) (.val (.int k)) S).bind fun r S1=>.ok (.ret r) S1 else .ok (.next [some (.scr (ns.map MV.int)),some (.int k)]) S:=by
  unfold bX
  simp? [hlen,lt_int]
 have fin: ∀c,yF [.scr (ns.map MV.int),.int k] S=.ok (.val (.int c)) S→ ∃c,zJ 2 yF [.val (.scr (ns.map MV.int)),.val (.int k)] S=.ok (.val (.int c)) S:=fun c h=>⟨c,zDP rfl h (zED _ _) (fun l=>by simp)⟩
 have hs:zT ["_law_script","_law_k"] [.scr (ns.map MV.int),.int k]=[some (.scr (ns.map MV.int)),some (.int k)]:=rfl
 by_cases hlt:k<ns.length
 ·obtain⟨d,hd⟩:=cT (xs:=ns.map MV.int) (i:=k) hk (by rw [List.length_map];exact hlt)
  obtain⟨c,rfl⟩: ∃c,d=.int c:=cU (P:=fun d=> ∃c,d=.int c) (fun e he=>by obtain⟨c,_,rfl⟩:=List.mem_map.mp he;exact⟨c,rfl⟩) hd
  have hix:ixF (.val (.scr (ns.map MV.int))) (.val (.int k)) S=.ok (.val (.int c)) S:=by
   show(match atI (ns.map MV.int) k with | some d=>R.ok (Er.val d) S | none=>.no)=_
   rw [hd]
  refine fin c ?_
  rw [decide_eq_true hlt,if_pos rfl,hix,bok]at e1
  unfold yF zAX
  rw [hs,yC e1]
  rfl
 ·refine fin 0 ?_
  rw [decide_eq_false hlt,if_neg Bool.false_ne_true]at e1
  unfold yF zAX
  rw [hs,zD e1]
  rfl
theorem zXZ{B L:Sto}{n i:Nat}(h:B.length=n):(B++L)[n+i]? =L[i]? :=by
 rw [List.getElem?_append_right (by omega),h,Nat.add_sub_cancel_left]
theorem zIT{B L:Sto}{m:Nat}{o:MO}(h:B[m]? =some o):(B++L)[m]? =some o:=by
 rw [List.getElem?_append_left (List.getElem?_eq_some_iff.mp h).1];exact h
theorem zVV{S:Sto}{l:Nat}{ds:List MV}(hS:S[l]? =some (.lst ds)):zUO [.val (.loc l)] S=.ok (.new ds) S:=by
 show(match hX S (.val (.loc l))with | some ds=>R.ok (Er.new ds) S | none=>.no)=_
 rw [kU hS]
theorem yGQ{S:Sto}{u n k:Nat}{ds:List MV}(hu:S[u]? =some (.lst ds))(hn:S[n]? =some (.lst ds))(hp: ∀d∈ds,pq d=true∧dpt d<k):eqv S (k+1) (.loc u) (.loc n)=some true:=by
 have e: ∀l,S[l]? =some (.lst ds)→vwE S (.val (.loc l))=some (.ls ds):=fun l h=>by
  show(hX S (.val (.loc l))).map Vw.ls=_
  rw [kU h];rfl
 unfold eqv
 rw [e u hu,e n hn]
 show(if ds.length=ds.length then(prs (eqv S k) ds ds).map fun bs=>bs.all id else some false)=_
 rw [if_pos rfl,zPH fun d hd=>eqv_refl k (hp d hd).1 (hp d hd).2]
 show some ((ds.map fun _=>true).all id)=_
 rw [zRL]
theorem yJX{S:Sto}{l u v n m:Nat}{ds es:List MV}(hl:S[l]? =some (.lst [.loc u,.loc v]))(hu:S[u]? =some (.lst ds))(hn:S[n]? =some (.lst ds))(hv:S[v]? =some (.lst es))(hm:S[m]? =some (.lst es))(hd: ∀d∈ds,pq d=true∧dpt d<39)(he: ∀d∈es,pq d=true∧dpt d<39):
  neF (.val (.loc l)) (.new [.loc n,.loc m]) S=.ok (.val (.bl false)) S:=by
 have e:vwE S (.val (.loc l))=some (.ls [.loc u,.loc v]):=by
  show(hX S (.val (.loc l))).map Vw.ls=_
  rw [kU hl];rfl
 have q:zKU S zZ (.val (.loc l)) (.new [.loc n,.loc m])=some true:=by
  unfold zKU
  rw [e]
  show((eqv S 40 (.loc u) (.loc n)).bind fun k=>((eqv S 40 (.loc v) (.loc m)).bind fun k=>(some ([]:List Bool)).map (k::·)).map (k::·)).map (fun bs=>bs.all id)=_
  rw [yGQ hu hn hd,yGQ hv hm he]
  rfl
 unfold neF
 rw [q]
 rfl
abbrev LW(q tt:MV)(m:Nat)(k h sp at' hd du:Option MV):Rho:=[some q,some tt,some (.loc 0),some (.loc 2),some (.loc 3),some (.loc m),k,h,sp,at',hd,du]
theorem yNY{ts:List (Int×Int)}{hds as:List MV}:pq (dM ts hds as)=true∧dpt (dM ts hds as)=0:=by
 unfold dM
 split
 ·exact⟨yGF,by simp [dpt]⟩
 ·exact⟨yGE _,zKH _⟩
section
variable{ts:List (Int×Int)}{hds as:List MV}{B:Sto}{n m h:Nat}{q:MV}{k sp at':Option MV}
theorem yJY(hT:TOk ts)(hn:B.length=n)(hm:B[m]? =some (.lst as))(hh:B[h]? =some (.lst hds))(hA: ∀d∈as,Td 6 d)(hl:as.length≤6)(hP: ∀d∈hds,Td 6 d)(hl2:hds.length≤20):
  ∃S,zP zKC (zP zKD (zP zKE zKF)) (LW q (.tup (ts.map tbl)) m k (some (.loc h)) sp at' none none) B=.ok (.ret (.val (.bl true))) S:=by
 have two:wA [.new hds,.new as] B=.ok (.new [.loc n,.loc (n+1)]) (B++[.lst hds,.lst as]):=by
  rw [zCJ (by simp)]
  show R.ok (Er.new [.loc B.length,.loc (B++[MO.lst hds]).length]) (B++[.lst hds]++[.lst as])=_
  rw [List.length_append,hn,List.append_assoc]
  rfl
 have l2:(B++[MO.lst hds,MO.lst as]).length=n+2:=by rw [List.length_append,hn];rfl
 have e11:zKC (LW q (.tup (ts.map tbl)) m k (some (.loc h)) sp at' none none) B=.ok (.next (LW q (.tup (ts.map tbl)) m k (some (.loc h)) sp at' (some (.loc (n+2))) none)) (B++[.lst hds,.lst as,.lst [.loc n,.loc (n+1)]]):=by
  unfold zKC
  simp? [zVV hh,zVV hm,two,l2]
  rw [List.append_assoc]
  rfl
 generalize hS:B++[.lst hds,.lst as,.lst [.loc n,.loc (n+1)]]=S at e11
 have gh:S[h]? =some (.lst hds):=by rw [←hS];exact zIT hh
 have gm:S[m]? =some (.lst as):=by rw [←hS];exact zIT hm
 have g0:S[n]? =some (.lst hds):=by rw [←hS];exact zXZ (i:=0) hn
 have g1:S[n+1]? =some (.lst as):=by rw [←hS];exact zXZ (i:=1) hn
 have g2:S[n+2]? =some (.lst [.loc n,.loc (n+1)]):=by rw [←hS];exact zXZ (i:=2) hn
 have hd:=yNV hT gh gm (fun d hd=>(hA d hd).1) hl (fun d hd=>(hP d hd).1) (by omega)
 have e12:zKD (LW q (.tup (ts.map tbl)) m k (some (.loc h)) sp at' (some (.loc (n+2))) none) S=.ok (.next (LW q (.tup (ts.map tbl)) m k (some (.loc h)) sp at' (some (.loc (n+2))) (some (dM ts hds as)))) S:=by
  unfold zKD
  simp? [hd]
 have p1:=zVT (S:=S) (hm:=.loc n) (am:=.loc (n+1)) hT (.inr ⟨_,rfl,g0⟩) (.inr ⟨_,rfl,g1⟩) hA (by omega) hP (by omega)
 have p2:=zVT (S:=S) (hm:=.tup hds) (am:=.tup as) hT (.inl rfl) (.inl rfl) hA (by omega) hP (by omega)
 have dq:=yNY (ts:=ts) (hds:=hds) (as:=as)
 have er:eqv S (zZ+1) (dM ts hds as) (dM ts hds as)=some true:=eqv_refl _ dq.1 (by rw [dq.2];exact Nat.succ_pos _)
 have nd:neF (.val (dM ts hds as)) (.val (dM ts hds as)) S=.ok (.val (.bl false)) S:=zXL er
 have ed:eqF (.val (dM ts hds as)) (.val (dM ts hds as)) S=.ok (.val (.bl true)) S:=zSM er
 have j0:ixF (.val (.loc (n+2))) (.val (.int 0)) S=.ok (.val (.loc n)) S:=bU g2 rfl
 have j1:ixF (.val (.loc (n+2))) (.val (.int 1)) S=.ok (.val (.loc (n+1))) S:=bU g2 rfl
 have nt:neF (.val (.loc (n+2))) (.new [.loc h,.loc m]) S=.ok (.val (.bl false)) S:=yJX g2 g0 gh g1 gm (fun d hd=>⟨(hP d hd).1,Nat.lt_of_le_of_lt (hP d hd).2 (by decide)⟩) fun d hd=>⟨(hA d hd).1,Nat.lt_of_le_of_lt (hA d hd).2 (by decide)⟩
 have e13:zKE (LW q (.tup (ts.map tbl)) m k (some (.loc h)) sp at' (some (.loc (n+2))) (some (dM ts hds as))) S=.ok (.next (LW q (.tup (ts.map tbl)) m k (some (.loc h)) sp at' (some (.loc (n+2))) (some (dM ts hds as)))) S:=by
  unfold zKE
  simp? [j0,j1,p1,nd,nt,Bool.false_eq_true,if_false]
 have e14:zKF (LW q (.tup (ts.map tbl)) m k (some (.loc h)) sp at' (some (.loc (n+2))) (some (dM ts hds as))) S=.ok (.ret (.val (.bl true))) S:=by
  unfold zKF
  simp? [zLI gh,zLI gm,p2,ed]
 exact⟨S,by rw [zD e11,zD e12,zD e13,e14]⟩
theorem zYA{ns:List Int}{S:Sto}{y:List Nat}{r:List MV}(j:Nat)(hT:TOk ts)(hm:S[m]? =some (.lst as))(hh:S[h]? =some (.lst hds))(h2:S[2]? =some (.lst (.str y::r)))(hy:y.length≤1000)(n1:m≠h)(n2:m≠2)(hA: ∀d∈as,Td 6 d)(hl:as.length≤6):
  ∃S' as' sp2 at2,S'[m]? =some (.lst as')∧S'[h]? =some (.lst hds)∧S'[2]? =some (.lst (.str y::r))∧(∀d∈as',Td 6 d)∧as'.length=as.length∧
   zHK (LW (.scr (ns.map MV.int)) (.tup (ts.map tbl)) m (some (.int (j:Nat))) (some (.loc h)) sp at' none none) S=.ok (.next (LW (.scr (ns.map MV.int)) (.tup (ts.map tbl)) m (some (.int (j:Nat))) (some (.loc h)) sp2 at2 none none)) S':=by
 by_cases he:as=[]
 ·refine⟨S,as,sp,at',hm,hh,h2,hA,rfl,?_⟩
  unfold zHK zHJ
  simp? [zIQ hm,show(!as.isEmpty)=false by rw [he];rfl,Bool.false_eq_true,if_false]
 ·have l0:0<as.length:=List.length_pos_iff.mpr he
  obtain⟨c,hc⟩:=zHN ns (4+(j:Nat)) (by omega) S
  obtain⟨t,ht⟩:=zAO c S
  have old: ∀{l:Nat}{o:MO}(z:Int),S[l]? =some o→(Wl (S++[.lst []]) S.length z)[l]? =some o:=fun {l o} z hl=>by
   have:=(List.getElem?_eq_some_iff.mp hl).1
   rw [zFI (by omega)]
   exact zIT hl
  have hl1:S.length<(S++[MO.lst []]).length:=by rw [List.length_append];exact Nat.lt_succ_self _
  have n0:(0:Int)<((as.length:Nat):Int):=by omega
  generalize hat:t % ((as.length:Nat):Int)=at2
  have a0:0≤at2:=by rw [←hat];exact Int.emod_nonneg _ (by omega)
  have a1:at2<((as.length:Nat):Int):=by rw [←hat];exact Int.emod_lt_of_pos _ n0
  obtain⟨a,ha⟩:=cT (xs:=as) a0 a1
  have tda:Td 6 a:=cU (P:=Td 6) hA ha
  have ja:=yAJ hT tda.1 (Wl (S++[.lst []]) S.length (t / ((as.length:Nat):Int)))
  have ix: ∀z,ixF (.val (.loc m)) (.val (.int at2)) (Wl (S++[.lst []]) S.length z)=.ok (.val a) (Wl (S++[.lst []]) S.length z):=fun z=>bU (old z hm) ha
  have wi:S++[.lst [.int t]]=Wl (S++[.lst []]) S.length t:=zGR S t
  cases hd:atD ts a with
  | false=>
   rw [hd]at ja
   refine⟨Wl (S++[.lst []]) S.length (t / ((as.length:Nat):Int)),as,some (.loc S.length),some (.int at2),old _ hm,old _ hh,old _ h2,hA,rfl,?_⟩
   unfold zHK zHJ
   simp? [zIQ hm,show(!as.isEmpty)=true by cases as<;>first | exact absurd rfl he | rfl]
   rw [zD (ρ':=LW (.scr (ns.map MV.int)) (.tup (ts.map tbl)) m (some (.int (j:Nat))) (some (.loc h)) (some (.loc S.length)) at' none none) (S':=Wl (S++[.lst []]) S.length t) (by simp? [hc,ht,wi]),
    zD (ρ':=LW (.scr (ns.map MV.int)) (.tup (ts.map tbl)) m (some (.int (j:Nat))) (some (.loc h)) (some (.loc S.length)) (some (.int at2)) none none) (S':=Wl (S++[.lst []]) S.length (t / ((as.length:Nat):Int))) (by simp? [xC (old t hm),xF (x:=t) hl1 n0 (by omega),hat])]
   simp? [ix,ja,Bool.false_eq_true,if_false]
  | true=>
   rw [hd]at ja
   have hok:=yGK hT hd
   generalize hz:t / ((as.length:Nat):Int)=z at *
   obtain⟨d,td,hna⟩:=na_ok (S:=Wl (S++[.lst []]) S.length (z / 1000000000)) (p:=0) (q:=2) (z % 1000000000) hok hT (old _ h2) hy
   have hj:ixN as.length at2=some at2.toNat:=by
    unfold ixN
    rw [if_pos a0,if_pos a1]
   have keep: ∀{l:Nat}{o:MO},m≠l→S[l]? =some o→((Wl (S++[.lst []]) S.length (z / 1000000000)).set m (.lst (as.set at2.toNat d)))[l]? =some o:=fun {l o} hne hl=>by
    rw [List.getElem?_set_ne hne];exact old _ hl
   refine⟨(Wl (S++[.lst []]) S.length (z / 1000000000)).set m (.lst (as.set at2.toNat d)),as.set at2.toNat d,some (.loc S.length),some (.int at2),get_set (old _ hm),keep n1 hh,keep n2 h2,fun e he=>(List.mem_or_eq_of_mem_set he).elim (hA e) fun z=>z▸td,List.length_set ..,?_⟩
   unfold zHK zHJ
   simp? [zIQ hm,show(!as.isEmpty)=true by cases as<;>first | exact absurd rfl he | rfl]
   rw [zD (ρ':=LW (.scr (ns.map MV.int)) (.tup (ts.map tbl)) m (some (.int (j:Nat))) (some (.loc h)) (some (.loc S.length)) at' none none) (S':=Wl (S++[.lst []]) S.length t) (by simp? [hc,ht,wi]),
    zD (ρ':=LW (.scr (ns.map MV.int)) (.tup (ts.map tbl)) m (some (.int (j:Nat))) (some (.loc h)) (some (.loc S.length)) (some (.int at2)) none none) (S':=Wl (S++[.lst []]) S.length z) (by simp? [xC (old t hm),xF (x:=t) hl1 n0 (by omega),hat,hz])]
   simp? [ix,ja,show∀S:Sto,zKV (.val (.int 10)) (.val (.int 9)) S=.ok (.val (.int 1000000000)) S from fun S=>rfl,xF (x:=z) hl1 (show(0:Int)<1000000000 by decide) (by decide),hna,zTB,zVD (old (z / 1000000000) hm) hj]
end
theorem yJZ{ts:List (Int×Int)}{as:List MV}(hA: ∀d∈as,zHS ts d){x:List Nat}(h:x∈zHT as):Nm x:=by
 unfold zHT at h
 obtain⟨a,ha,hx⟩:=List.mem_flatMap.mp h
 obtain⟨t,tms,p,rfl,_,_,_,_,_,_,hT⟩:=hA a ha
 obtain⟨d,hd,hv⟩:=List.mem_filterMap.mp hx
 rcases hT d hd with⟨y,hy,rfl⟩ | ⟨v,_,rfl⟩
 ·rw [zPG]at hv;cases hv;exact hy
 ·rw [yKQ]at hv;cases hv
theorem nm6{ys:List (List Nat)}(h3:ys.length=3)(hN: ∀y∈ys,Nm y){b:List Nat}{r:List (List Nat)}(e:ys=b::r)(h6:b.length≤6):(ys++[[99]++b,[100]++b,[101]++b]).length=6∧ ∀y∈ys++[[99]++b,[100]++b,[101]++b],Nm y:=by
 have hb:Nm b:=hN b (by rw [e];exact List.mem_cons_self)
 have pre: ∀k:Nat,97≤k∧k≤122→Nm ([k]++b):=fun k hk=>⟨by simp,by rw [List.length_append,List.length_singleton];omega,fun c hc=>by
  rcases List.mem_append.mp hc with z | z
  ·rw [List.mem_singleton.mp z];exact hk
  ·exact hb.2.2 c z⟩
 refine⟨by rw [List.length_append,h3];rfl,fun y hy=>?_⟩
 rcases List.mem_append.mp hy with z | z
 ·exact hN y z
 ·simp only [List.mem_cons,List.not_mem_nil,or_false]at z
  rcases z with rfl | rfl | rfl
  ·exact pre 99 (by decide)
  ·exact pre 100 (by decide)
  ·exact pre 101 (by decide)
theorem yGR(ns:List Int)(h:ns.length≤63): ∃S,zRH [.scr (ns.map MV.int)] []=.ok (.val (.bl true)) S:=by
 have hst:zT yFQ [.scr (ns.map MV.int)]=[some (.scr (ns.map MV.int)),none,none,none,none,none,none,none,none,none,none,none]:=rfl
 obtain⟨c0,hc0⟩:=zHN ns 0 (by decide) []
 obtain⟨t0,ht0⟩:=zAO c0 []
 obtain⟨ts,hT,hts⟩:=yCF t0 []
 have tn: ∀(o:List MV)(S:Sto),gJ [.new o] S=.ok (.val (.tup o)) S:=fun o S=>rfl
 have e1:zST [some (.scr (ns.map MV.int)),none,none,none,none,none,none,none,none,none,none,none] []=.ok (.next [some (.scr (ns.map MV.int)),some (.tup (ts.map tbl)),none,none,none,none,none,none,none,none,none,none]) []:=by
  unfold zST
  simp? [hc0,ht0,hts,tn]
 obtain⟨c1,hc1⟩:=zHN ns 1 (by decide) []
 obtain⟨t1,ht1⟩:=zAO c1 []
 obtain⟨vs,hV,hv1,hv4,hpool⟩:=yJG t1 []
 have e2:zSU [some (.scr (ns.map MV.int)),some (.tup (ts.map tbl)),none,none,none,none,none,none,none,none,none,none] []=.ok (.next [some (.scr (ns.map MV.int)),some (.tup (ts.map tbl)),some (.loc 0),none,none,none,none,none,none,none,none,none]) [.lst vs]:=by
  unfold zSU
  simp? [hc1,ht1,hpool]
  rfl
 obtain⟨c2,hc2⟩:=zHN ns 2 (by decide) [.lst vs]
 obtain⟨t2,ht2⟩:=zAO c2 [.lst vs]
 obtain⟨y3,h3,hN3,⟨b,r,hbr,h6⟩,hnames⟩:=yFW t2 [.lst vs]
 have e3:zSV [some (.scr (ns.map MV.int)),some (.tup (ts.map tbl)),some (.loc 0),none,none,none,none,none,none,none,none,none] [.lst vs]=.ok (.next [some (.scr (ns.map MV.int)),some (.tup (ts.map tbl)),some (.loc 0),some (.loc 1),none,none,none,none,none,none,none,none]) [.lst vs,.lst (y3.map MV.str)]:=by
  unfold zSV
  simp? [hc2,ht2,hnames]
  rfl
 obtain⟨hy6,hN⟩:=nm6 h3 hN3 hbr h6
 have ix0:ixF (.val (.loc 1)) (.val (.int 0)) [.lst vs,.lst (y3.map MV.str)]=.ok (.val (.str b)) [.lst vs,.lst (y3.map MV.str)]:=bU rfl (by rw [hbr];exact at0 _ _)
 have ads: ∀k:Nat,yY (.val (.str [k])) (.val (.str b)) [.lst vs,.lst (y3.map MV.str)]=.ok (.val (.str ([k]++b))) [.lst vs,.lst (y3.map MV.str)]:=fun k=>add_str (fits (by rw [List.length_singleton];omega))
 generalize hys:y3++[[99]++b,[100]++b,[101]++b]=ys at hy6 hN
 have ad:yY (.val (.loc 1)) (.new [.str ([99]++b),.str ([100]++b),.str ([101]++b)]) [.lst vs,.lst (y3.map MV.str)]=.ok (.new (ys.map MV.str)) [.lst vs,.lst (y3.map MV.str)]:=by
  rw [zCI (x:=y3.map MV.str) (y:=[.str ([99]++b),.str ([100]++b),.str ([101]++b)]) (cV rfl) rfl (fits (by rw [List.length_map,h3];show 3+3≤_;decide)), ←hys,List.map_append]
  rfl
 have e4:zSW [some (.scr (ns.map MV.int)),some (.tup (ts.map tbl)),some (.loc 0),some (.loc 1),none,none,none,none,none,none,none,none] [.lst vs,.lst (y3.map MV.str)]=.ok (.next [some (.scr (ns.map MV.int)),some (.tup (ts.map tbl)),some (.loc 0),some (.loc 2),none,none,none,none,none,none,none,none]) [.lst vs,.lst (y3.map MV.str),.lst (ys.map MV.str)]:=by
  unfold zSW
  simp? [ix0,ads,ad]
  rfl
 obtain⟨c3,hc3⟩:=zHN ns 3 (by decide) [.lst vs,.lst (y3.map MV.str),.lst (ys.map MV.str)]
 obtain⟨x,hx⟩:=zAO c3 [.lst vs,.lst (y3.map MV.str),.lst (ys.map MV.str)]
 have e5:zSX [some (.scr (ns.map MV.int)),some (.tup (ts.map tbl)),some (.loc 0),some (.loc 2),none,none,none,none,none,none,none,none] [.lst vs,.lst (y3.map MV.str),.lst (ys.map MV.str)]=.ok (.next [some (.scr (ns.map MV.int)),some (.tup (ts.map tbl)),some (.loc 0),some (.loc 2),some (.loc 3),none,none,none,none,none,none,none]) [.lst vs,.lst (y3.map MV.str),.lst (ys.map MV.str),.lst [.int x]]:=by
  unfold zSX
  simp? [hc3,hx]
  rfl
 have e6:zSY [some (.scr (ns.map MV.int)),some (.tup (ts.map tbl)),some (.loc 0),some (.loc 2),some (.loc 3),none,none,none,none,none,none,none] [.lst vs,.lst (y3.map MV.str),.lst (ys.map MV.str),.lst [.int x]]=.ok (.next (LW (.scr (ns.map MV.int)) (.tup (ts.map tbl)) 4 none none none none none none)) (Wl ([.lst vs,.lst (y3.map MV.str),.lst (ys.map MV.str),.lst [],.lst []]++[]) 3 x):=by
  unfold zSY
  simp? [bok]
  rfl
 have q0:0≤x % 7:=Int.emod_nonneg _ (by decide)
 have q1:x % 7<7:=Int.emod_lt_of_pos _ (by decide)
 have l3: ∀T:Sto,3<([MO.lst vs,.lst (y3.map MV.str),.lst (ys.map MV.str),.lst [],.lst []]++T).length:=fun T=>by rw [List.length_append];exact Nat.lt_of_lt_of_le (by decide) (Nat.le_add_right 5 _)
 obtain⟨ρ',S',e,T,m,as,k',hρ,hS',hm,hm3,hm2,hal,hA⟩:=zFW (L:=(List.range (x % 7).toNat).map fun k=>MV.int (k:Nat)) (gf:=gNm 6) (body:=zSS) (gs:=[]) (S:=Wl ([.lst vs,.lst (y3.map MV.str),.lst (ys.map MV.str),.lst [],.lst []]++[]) 3 (x / 7)) (ρ:=LW (.scr (ns.map MV.int)) (.tup (ts.map tbl)) 4 none none none none none none)
  (fun i ρ S'=> ∃(T:Sto)(m:Nat)(as:List MV)(k':Option MV),ρ=LW (.scr (ns.map MV.int)) (.tup (ts.map tbl)) m k' none none none none none∧S'=Wl ([.lst vs,.lst (y3.map MV.str),.lst (ys.map MV.str),.lst [],.lst []]++T) 3 (x / 7)∧S'[m]? =some (.lst as)∧3≠m∧m≠2∧as.length=i∧ ∀d∈as,zHS ts d) (fun i d hi ρ S1 ⟨T,m,as,k',hρ,hS1,hm,hm3,hm2,hal,hA⟩=>by
   subst hρ
   have hil:i<7:=by have:=(List.getElem?_eq_some_iff.mp hi).1;rw [List.length_map,List.length_range]at this;omega
   obtain⟨j,_,rfl⟩:=List.mem_map.mp (List.mem_of_getElem? hi)
   have g0:S1[0]? =some (.lst vs):=by rw [hS1];rfl
   have g1:S1[2]? =some (.lst (ys.map MV.str)):=by rw [hS1];rfl
   have len:3<S1.length:=by rw [hS1,kZ];exact l3 T
   obtain⟨c,hc⟩:=zHN ns (6+(j:Nat)) (by omega) S1
   obtain⟨t,ht⟩:=zAO c S1
   obtain⟨a,ha,hat⟩:=yFY (S:=S1) (p:=0) (q:=2) t g0 g1 hV hv1 hv4 hy6 hN hT
   have ad:yY (.val (.loc m)) (.new [a]) S1=.ok (.new (as++[a])) S1:=zCI (cV hm) rfl (fits (by simp only [List.length_singleton];omega))
   refine⟨LW (.scr (ns.map MV.int)) (.tup (ts.map tbl)) S1.length (some (.int (j:Nat))) none none none none none,S1++[.lst (as++[a])],?_,gB _,T++[.lst (as++[a])],S1.length,as++[a],some (.int (j:Nat)),rfl,?_,jZ _ _,by omega,by omega,by rw [List.length_append,hal];rfl,fun d hd=>?_⟩
   ·rw [show gNm 6 (.int (j:Nat)) (LW (.scr (ns.map MV.int)) (.tup (ts.map tbl)) m k' none none none none none) S1=.ok (LW (.scr (ns.map MV.int)) (.tup (ts.map tbl)) m (some (.int (j:Nat))) none none none none none) S1 from rfl,bok]
    unfold zSS zRG
    simp? [hc,ht,hat,ad]
   ·rw [hS1,kQ (l3 T),List.append_assoc]
   ·rcases List.mem_append.mp hd with z | z
    ·exact hA d z
    ·rw [List.mem_singleton.mp z];exact ha) ⟨[],4,[],none,rfl,rfl,rfl,by decide,by decide,rfl,by simp⟩
 rw [List.length_map,List.length_range]at hal
 generalize hB:[MO.lst vs,.lst (y3.map MV.str),.lst (ys.map MV.str),.lst [],.lst []]=B0 at *
 have e7:zSZ (LW (.scr (ns.map MV.int)) (.tup (ts.map tbl)) 4 none none none none none none) (Wl (B0++[]) 3 x)=.ok (.next (LW (.scr (ns.map MV.int)) (.tup (ts.map tbl)) m k' none none none none none)) (Wl (B0++T) 3 (x / 7)):=by
  unfold zSZ
  simp? [xF (x:=x) (l3 []) (show(0:Int)<7 by decide) (by decide),zAR (S:=Wl (B0++[]) 3 (x / 7)) (j:=x % 7) (by omega)]
  rw [←hρ, ←hS']
  exact e
 have hm':(B0++T)[m]? =some (.lst as):=by rw [←zFI hm3 (x / 7), ←hS'];exact hm
 have hml:m<(B0++T).length:=(List.getElem?_eq_some_iff.mp hm').1
 have hg2:(B0++T)[2]? =some (.lst (ys.map MV.str)):=by rw [←hB];rfl
 obtain⟨hs,z,_,h6s,hin,hhead⟩:=yJL (S:=B0++T) (l:=3) (a:=m) (x:=x / 7) (l3 T) hm3 hm' hA (by omega)
 have e8:zTA (LW (.scr (ns.map MV.int)) (.tup (ts.map tbl)) m k' none none none none none) (Wl (B0++T) 3 (x / 7))=.ok (.next (LW (.scr (ns.map MV.int)) (.tup (ts.map tbl)) m k' (some (.loc (B0++T).length)) none none none none)) (Wl (B0++T++[.lst (hs.map MV.str)]) 3 z):=by
  unfold zTA
  simp? [hhead,kZ,kQ (l3 T)]
 generalize hC:B0++T++[MO.lst (hs.map MV.str)]=C at e8
 have l3C:3<C.length:=by rw [←hC,List.length_append];have:=l3 T;omega
 have gm: ∀z,(Wl C 3 z)[m]? =some (.lst as):=fun z=>by rw [zFI hm3, ←hC];exact zIT hm'
 have gh: ∀z,(Wl C 3 z)[(B0++T).length]? =some (.lst (hs.map MV.str)):=fun z=>by rw [zFI (by have:=l3 T;omega), ←hC];exact jZ _ _
 have g2: ∀z,(Wl C 3 z)[2]? =some (.lst (ys.map MV.str)):=fun z=>by rw [zFI (by decide), ←hC];exact zIT hg2
 have hcl:C.length=(B0++T).length+1:=by rw [←hC,List.length_append];rfl
 have tdh: ∀d∈hs.map MV.str,Td 6 d:=fun d hd=>by
  obtain⟨u,hu,rfl⟩:=List.mem_map.mp hd
  exact xX 6 (by have:=(yJZ hA (hin u hu)).2.1;omega)
 have tda: ∀d∈as,Td 6 d:=fun d hd=>(td_at (hA d hd)).up (by decide)
 have f9: ∃(D:Sto)(hl:Nat)(hds:List MV)(z':Int),zKB (LW (.scr (ns.map MV.int)) (.tup (ts.map tbl)) m k' (some (.loc (B0++T).length)) none none none none) (Wl C 3 z)=.ok (.next (LW (.scr (ns.map MV.int)) (.tup (ts.map tbl)) m k' (some (.loc hl)) none none none none)) (Wl D 3 z')∧
   3<D.length∧(∀z,(Wl D 3 z)[m]? =some (.lst as))∧(∀z,(Wl D 3 z)[hl]? =some (.lst hds))∧(∀z,(Wl D 3 z)[2]? =some (.lst (ys.map MV.str)))∧m≠hl∧(∀d∈hds,Td 6 d)∧hds.length≤20:=by
  have tk:zJ 2 zM [.val (.loc 3),.val (.int 3)] (Wl C 3 z)=.ok (.val (.int (z % 3))) (Wl C 3 (z / 3)):=xF l3C (by decide) (by decide)
  by_cases h1:z % 3=1
  ·have tk2:zJ 2 zM [.val (.loc 3),.val (.int 35)] (Wl C 3 (z / 3))=.ok (.val (.int (z / 3 % 35))) (Wl C 3 (z / 3 / 35)):=xF l3C (by decide) (by decide)
   obtain⟨er,hds,hbh,hcase,ht,hl20⟩:=bh_ok (S:=Wl C 3 (z / 3 / 35)) (h:=(B0++T).length) (q:=2) (y:=b) (r:=(ys.map MV.str).tail) (z / 3 % 35) (gh _) (by rw [g2, ←hys,hbr];rfl) (by omega) tdh (by rw [List.length_map];exact h6s)
   rcases hcase with rfl | ⟨rfl,rfl⟩
   ·refine⟨C++[.lst hds],C.length,hds,z / 3 / 35,?_,by rw [List.length_append];omega,fun z=>?_,fun z=>?_,fun z=>?_,by omega,ht,hl20⟩
    ·unfold zKB
     simp? [tk,decide_eq_true h1,tk2,hbh,kZ,kQ l3C]
    ·rw [←kQ l3C];exact zIT (gm z)
    ·rw [←kQ l3C]
     have:=jZ (Wl C 3 z) (.lst hds)
     rw [kZ]at this
     exact this
    ·rw [←kQ l3C];exact zIT (g2 z)
   ·refine⟨C,(B0++T).length,hs.map MV.str,z / 3 / 35,?_,l3C,gm,gh,g2,by omega,ht,hl20⟩
    unfold zKB
    simp? [tk,decide_eq_true h1,tk2,hbh]
  ·refine⟨C,(B0++T).length,hs.map MV.str,z / 3,?_,l3C,gm,gh,g2,by omega,tdh,by rw [List.length_map];omega⟩
   unfold zKB
   simp? [tk,decide_eq_false h1,Bool.false_eq_true,if_false]
 obtain⟨D,hl,hds,z',e9,l3D,dm,dh,d2,nmh,tdh2,hl20⟩:=f9
 have r0:0≤z' % 3:=Int.emod_nonneg _ (by decide)
 have r1:z' % 3<3:=Int.emod_lt_of_pos _ (by decide)
 have y2: ∀z,(Wl D 3 z)[2]? =some (.lst (.str b::(ys.map MV.str).tail)):=fun z=>by rw [d2, ←hys,hbr];rfl
 obtain⟨ρ2,S2,e2',as2,k2,sp2,at2,hρ2,hm2',hh2,_,tda2,hal2⟩:=zFW (L:=(List.range (z' % 3).toNat).map fun k=>MV.int (k:Nat)) (gf:=gNm 6) (body:=zHK) (gs:=[]) (S:=Wl D 3 (z' / 3)) (ρ:=LW (.scr (ns.map MV.int)) (.tup (ts.map tbl)) m k' (some (.loc hl)) none none none none)
  (fun i ρ S'=> ∃(as':List MV)(k2 sp2 at2:Option MV),ρ=LW (.scr (ns.map MV.int)) (.tup (ts.map tbl)) m k2 (some (.loc hl)) sp2 at2 none none∧S'[m]? =some (.lst as')∧S'[hl]? =some (.lst hds)∧S'[2]? =some (.lst (.str b::(ys.map MV.str).tail))∧(∀d∈as',Td 6 d)∧as'.length=as.length) (fun i d hi ρ S1 ⟨as',k2,sp2,at2,hρ,hm',hh',h2',ht',hl'⟩=>by
   subst hρ
   obtain⟨j,_,rfl⟩:=List.mem_map.mp (List.mem_of_getElem? hi)
   obtain⟨S3,as3,sp3,at3,q1,q2,q3,q4,q5,q6⟩:=zYA (ns:=ns) (ts:=ts) (S:=S1) (m:=m) (h:=hl) (sp:=sp2) (at':=at2) j hT hm' hh' h2' (by omega) nmh hm2 ht' (by omega)
   refine⟨_,S3,?_,gB _,as3,some (.int (j:Nat)),sp3,at3,rfl,q1,q2,q3,q4,q5.trans hl'⟩
   rw [show gNm 6 (.int (j:Nat)) (LW (.scr (ns.map MV.int)) (.tup (ts.map tbl)) m k2 (some (.loc hl)) sp2 at2 none none) S1=.ok (LW (.scr (ns.map MV.int)) (.tup (ts.map tbl)) m (some (.int (j:Nat))) (some (.loc hl)) sp2 at2 none none) S1 from rfl,bok]
   exact q6) ⟨as,k',none,none,rfl,dm _,dh _,y2 _,tda,rfl⟩
 have e10:zPD (LW (.scr (ns.map MV.int)) (.tup (ts.map tbl)) m k' (some (.loc hl)) none none none none) (Wl D 3 z')=.ok (.next (LW (.scr (ns.map MV.int)) (.tup (ts.map tbl)) m k2 (some (.loc hl)) sp2 at2 none none)) S2:=by
  unfold zPD
  simp? [xF (x:=z') l3D (show(0:Int)<3 by decide) (by decide),zAR (S:=Wl D 3 (z' / 3)) (j:=z' % 3) (by omega)]
  rw [←hρ2]
  exact e2'
 obtain⟨Sf,hf⟩:=yJY (ts:=ts) (q:=.scr (ns.map MV.int)) (k:=k2) (sp:=sp2) (at':=at2) (B:=S2) hT rfl hm2' hh2 tda2 (by omega) tdh2 hl20
 refine⟨Sf,?_⟩
 unfold zRH yKN
 rw [hst,zD e1,zD e2,zD e3,zD e4,zD e5,zD e6,zD e7,zD e8,zD e9,zD e10,hf]
 rfl
section
variable{P:Program}{w:World}{K:PySem.W.Frag}{mg:Str→Option Value}{base:Heap}
abbrev XCS(xl:Nat→Addr):List (Str×Addr):=[("TooGreat",xl 0),("NoText",xl 1),("NoPlace",xl 2),("NotPlain",xl 3),("NoTable",xl 4),("NoRule",xl 5),("NoRow",xl 6),("Twice",xl 7),("NoQuestion",xl 8),("Double",xl 9),("TooWide",xl 10),("Ring",xl 11)]
theorem xnd{xl:Nat→Addr}:((XCS xl).map (·.1)).Nodup:=show XNS.Nodup from by decide
def top(i:Nat):Stmt:=PySem.Challenge.pw_mendsure_k31_what_is_no_question.main.body.getD i (.Pass ⟨0,0,0,0⟩)
abbrev jP:Stmt:=inClass (top 10) 0
theorem zPK:FnScope ["self","place"] ["self","place"] (zK jP):=⟨rfl,rfl,rfl,by decide+kernel,rfl,by decide+kernel,by decide+kernel⟩
abbrev zIU:Stmt:=top 16
theorem zVW:FnScope ["thing"] ["thing"] (zK zIU):=⟨rfl,rfl,rfl,by decide+kernel,rfl,by decide+kernel,by decide+kernel⟩
theorem zVX(D:DefM K mg "is_whole" zIU)(zFJ:mg "int"=none)(zI:mg "isinstance"=none)(zBT:mg "bool"=none):(CalM P w K mg base) "is_whole" 1 1 ["thing"] kW:=
 by have h:=okC (P:=P) (w:=w) (base:=base) D (fun _ _ _ _ _ _ us hl=>match us,hl with | [_],_=>rfl) fun f fd F=>okM (k:=0) _ F zVW fun cdv A outer s H E hr=>(zL (zR (zOD (zN xQ hZ rfl zI yA (zA (zB 0) (zA (cY rfl zFJ zOP) zC))) (zOC (yML (zN xQ hZ rfl zI yA (zA (zB 0) (zA (cY rfl zBT zMZ) zC))))))))
    exact h
abbrev zHO:Stmt:=top 17
theorem zYB:FnScope ["thing"] ["thing"] (zK zHO):=⟨rfl,rfl,rfl,by decide+kernel,rfl,by decide+kernel,by decide+kernel⟩
theorem zYC(D:DefM K mg "is_name" zHO)(zKP:mg "str"=none)(zI:mg "isinstance"=none)(yK:mg "len"=none){zBU:Tok}(jB:mg "MOST_LETTERS"=some (.int 8 zBU))(zKO:mg "all"=none):(CalM P w K mg base) "is_name" 1 1 ["thing"] zAM:=
 by have h:=okC (P:=P) (w:=w) (base:=base) D (fun _ _ _ _ _ _ us hl=>match us,hl with | [_],_=>rfl) fun f fd F=>okM (k:=0) _ F zYB fun cdv A outer s H E hr=>(zG (yQ (cZ (kT (xU (yE (zN xQ hZ rfl zI yA (zA (zB 0) (zA (cY rfl zKP zXH) zC))))) (bR (xU (zZG zF (zN zV yU rfl yK yS (zA (zB 0) zC)) (zSB rfl jB)))))) (zL (zR nX)) yB) (zL (zR (zN zDX (zXF rfl) rfl zKO zXG (zA (zHE (zK zHO) ["thing"] ["sign"] [] (yDX (zB 0)) rfl (fun _ _ _ _ hN=>(zEB 0 hN)) (fun _ _ _ _=>zMY) (fun _ _ _ _=>(zZF (zW [97]) (zB 0) (zW [122])))) zC)))))
    exact h
abbrev zIV:Stmt:=top 18
theorem zVY:FnScope ["thing"] ["thing"] (zK zIV):=⟨rfl,rfl,rfl,by decide+kernel,rfl,by decide+kernel,by decide+kernel⟩
theorem zVZ(D:DefM K mg "is_value" zIV)(zJC:(CalM P w K mg base) "is_whole" 1 1 ["thing"] kW)(zWE:mg "abs"=none)(zLQ:(CalM P w K mg base) "is_name" 1 1 ["thing"] zAM):(CalM P w K mg base) "is_value" 2 1 ["thing"] zEK:=
 by have h:=okC (P:=P) (w:=w) (base:=base) D (fun _ _ _ _ _ _ us hl=>match us,hl with | [_],_=>rfl) fun f fd F=>okM (k:=1) _ F zVY fun cdv A outer s H E hr=>(zG (yQ (yE (zH zJC (hr.mono (by decide)) rfl (zA (zB 0) zC))) (zL (zR (pm_lt hr.units (zN yDC yMP rfl zWE yMQ (zA (zB 0) zC)) (zFS zF zF)))) yB) (zL (zR (zH zLQ (hr.mono (by decide)) rfl (zA (zB 0) zC)))))
    exact h
abbrev zIW:Stmt:=top 20
theorem zWA:FnScope bV bV (zK zIW):=⟨rfl,rfl,rfl,by decide+kernel,rfl,by decide+kernel,by decide+kernel⟩
theorem zWB(D:DefM K mg "is_tuple" zIW)(yT:mg "tuple"=none)(zI:mg "isinstance"=none)(yK:mg "len"=none):(CalM P w K mg base) "is_tuple" 1 3 bV kX:=
 by have h:=okC (P:=P) (w:=w) (base:=base) D (fun _ _ _ _ _ _ us hl=>match us,hl with | [_,_,_],_=>rfl) fun f fd F=>okM (k:=0) _ F zWA fun cdv A outer s H E hr=>(zL (zR (zOD (zN xQ hZ rfl zI yA (zA (zB 0) (zA (cY rfl yT wO) zC))) (zOC (zZF (zB 1) (zN zV yU rfl yK yS (zA (zB 0) zC)) (zB 2))))))
    exact h
abbrev bH:Stmt:=top 21
theorem zIX:FnScope ["thing","bound"] ["thing","bound"] (zK bH):=⟨rfl,rfl,rfl,by decide+kernel,rfl,by decide+kernel,by decide+kernel⟩
theorem zIY(D:DefM K mg "is_number_below" bH)(zJC:(CalM P w K mg base) "is_whole" 1 1 ["thing"] kW):(CalM P w K mg base) "is_number_below" 2 2 ["thing","bound"] wD:=
 by have h:=okC (P:=P) (w:=w) (base:=base) D (fun _ _ _ _ _ _ us hl=>match us,hl with | [_,_],_=>rfl) fun f fd F=>okM (k:=1) _ F zIX fun cdv A outer s H E hr=>(zL (zR (zOD (zH zJC (hr.mono (by decide)) rfl (zA (zB 0) zC)) (zOC (yHY hr.units zF (zB 0) (zB 1))))))
    exact h
abbrev zLM:Stmt:=top 25
theorem zYD:FnScope ["thing"] ["thing"] (zK zLM):=⟨rfl,rfl,rfl,by decide+kernel,rfl,by decide+kernel,by decide+kernel⟩
theorem zYE(D:DefM K mg "is_term" zLM)(zEX:(CalM P w K mg base) "is_tuple" 1 3 bV kX)(zLQ:(CalM P w K mg base) "is_name" 1 1 ["thing"] zAM)(zYH:(CalM P w K mg base) "is_value" 2 1 ["thing"] zEK):(CalM P w K mg base) "is_term" 3 1 ["thing"] zHH:=
 by have h:=okC (P:=P) (w:=w) (base:=base) D (fun _ _ _ _ _ _ us hl=>match us,hl with | [_],_=>rfl) fun f fd F=>okM (k:=2) _ F zYD fun cdv A outer s H E hr=>(zG (yQ (xU (yE (zH zEX (hr.mono (by decide)) rfl (zA (zB 0) (zA zF (zA zF zC)))))) (zL (zR nX)) yB) (zG (yQ (dB hr.units (yG (zB 0) zF) (zW [118,97,114])) (zL (zR (zH zLQ (hr.mono (by decide)) rfl (zA (yG (zB 0) zF) zC)))) yB) (zL (zR (zOD (zUL hr.units (yG (zB 0) zF) (zW [105,115])) (zOC (zH zYH (hr.mono (by decide)) rfl (zA (yG (zB 0) zF) zC))))))))
    exact h
abbrev zHP:Stmt:=top 26
theorem zPL:FnScope zLC ["thing","tables"] (zK zHP):=⟨rfl,rfl,rfl,by decide+kernel,rfl,by decide+kernel,by decide+kernel⟩
theorem zYF(D:DefM K mg "is_atom" zHP)(zEX:(CalM P w K mg base) "is_tuple" 1 3 bV kX)(zKR:(CalM P w K mg base) "is_number_below" 2 2 ["thing","bound"] wD)(yK:mg "len"=none)(yCP:(CalM P w K mg base) "is_term" 3 1 ["thing"] zHH)(zKO:mg "all"=none):(CalM P w K mg base) "is_atom" 4 2 ["thing","tables"] zHI:=
 by have h:=okC (P:=P) (w:=w) (base:=base) D (fun _ _ _ _ _ _ us hl=>match us,hl with | [_,_],_=>rfl) fun f fd F=>okM (k:=3) _ F zPL fun cdv A outer s H E hr=>(zG (yQ (cZ (kT (xU (yE (zH zEX (hr.mono (by decide)) rfl (zA (zB 0) (zA zF (zA zF zC)))))) (bR (xU (yE (zH zKR (hr.mono (by decide)) rfl (zA (yG (zB 0) zF) (zA (zN zV yU rfl yK yS (zA (zB 1) zC)) zC)))))))) (zL (zR nX)) yB) (zG (zU 2 zPL.nd (yG (yG (zB 1) (yG (zB 0) zF)) zF)) (zL (zR (zOD (zH zEX (hr.mono (by decide)) rfl (zA (yG (zB 0) zF) (zA (zB 2) (zA (zB 2) zC)))) (zOC (zN zDX (zXF rfl) rfl zKO zXG (zA (zHE (zK zHP) zLC ["term"] [] (zSE (yG (zB 0) zF)) rfl (fun _ _ _ _ hN=>(zEB 0 hN)) (fun _ _ _ _=>zMY) (fun _ _ _ _=>(zH yCP (hr.mono (by decide)) rfl (zA (zB 0) zC)))) zC))))))))
    exact h
abbrev zIZ:Stmt:=top 27
theorem zCC:FnScope zIL ["atoms"] (zK zIZ):=⟨rfl,rfl,rfl,by decide+kernel,rfl,by decide+kernel,by decide+kernel⟩
theorem zWC(D:DefM K mg "names_in" zIZ)(zDH:mg "list"=none):(CalM P w K mg base) "names_in" 1 1 ["atoms"] bW:=
 by have h:=okC (P:=P) (w:=w) (base:=base) D (fun _ _ _ _ _ _ us hl=>match us,hl with | [_],_=>rfl) fun f fd F=>okM (k:=0) _ F zCC fun cdv A outer s H E hr=>(zG (zU 1 zCC.nd yFA) (zG (hW PassesOwn.never rfl (yFF (zB 0)) (xB 2 zCC.nd) (zL (hW PassesOwn.never rfl (zSE (yG (zB 2) zF)) (xB 3 zCC.nd) (zL (yQ (dB hr.units (yG (zB 3) zF) (zW [118,97,114])) (zL (zOH nX (yIW (zB 1) (yG (zB 3) zF)))) yB))))) (zL (zR (xY zXQ (yFJ rfl) rfl zDH zNA (zA (zB 1) zC))))))
    exact h
abbrev zHQ:Stmt:=top 28
theorem zPM:FnScope zHG ["things","atoms"] (zK zHQ):=⟨rfl,rfl,rfl,by decide+kernel,rfl,by decide+kernel,by decide+kernel⟩
theorem zYG(D:DefM K mg "is_head" zHQ)(zYI:(CalM P w K mg base) "names_in" 1 1 ["atoms"] bW)(yK:mg "len"=none){zEZ:Tok}(bM:mg "MOST_NAMES"=some (.int 4 zEZ))(zKO:mg "all"=none)(zPX:mg "set"=none):(CalM P w K mg base) "is_head" 2 2 ["things","atoms"] zAN:=
 by have h:=okC (P:=P) (w:=w) (base:=base) D (fun _ _ _ _ _ _ us hl=>match us,hl with | [_,_],_=>rfl) fun f fd F=>okM (k:=1) _ F zPM fun cdv A outer s H E hr=>(zG (zU 2 zPM.nd (zH zYI (hr.mono (by decide)) rfl (zA (zB 1) zC))) (zG (yQ (cZ (kT (zUM (zN zV yU rfl yK yS (zA (zB 0) zC)) (zSB rfl bM)) (bR (xU (yE (zN zDX (zXF rfl) rfl zKO zXG (zA (zHE (zK zHQ) zHG ["thing"] [2] (yFF (zB 0)) rfl (fun _ _ _ _ hN=>(zEB 0 hN)) (fun _ _ _ _=>zMY) (fun _ _ _ _=>(pm_in hr.units (zB 0) (zB 1)))) zC))))))) (zL (zR nX)) yB) (zL (zR (zUL hr.units (zZO rfl rfl yK rfl zPX (zA (zB 0) zC)) (zN zV yU rfl yK yS (zA (zB 0) zC)))))))
    exact h
abbrev zPN:Stmt:=top 29
theorem yCL:FnScope ["thing"] ["thing"] (zK zPN):=⟨rfl,rfl,rfl,by decide+kernel,rfl,by decide+kernel,by decide+kernel⟩
theorem yCM(D:DefM K mg "listed" zPN)(zDH:mg "list"=none)(yT:mg "tuple"=none)(zI:mg "isinstance"=none):(CalM P w K mg base) "listed" 1 1 ["thing"] zGI:=
 by have h:=okC (P:=P) (w:=w) (base:=base) D (fun _ _ _ _ _ _ us hl=>match us,hl with | [_],_=>rfl) fun f fd F=>okM (k:=0) _ F yCL fun cdv A outer s H E hr=>(zL (zR (zN yBW yIT rfl zI yA (zA (zB 0) (zA (yI (zA (cY rfl zDH zNA) (zA (cY rfl yT wO) zC))) zC)))))
    exact h
abbrev zDE:Stmt:=top 30
theorem zBN:FnScope zCK ["tables","head","atoms"] (zK zDE):=⟨rfl,rfl,rfl,by decide+kernel,rfl,by decide+kernel,by decide+kernel⟩
theorem zPO(D:DefM K mg "question_of" zDE){xM:Addr}{xl:Nat→Addr}(XT:XTab K mg xM (XCS xl))(zWI:(CalM P w K mg base) "listed" 1 1 ["thing"] zGI){f_NoQuestion:Addr}{fdI_NoQuestion:FuncData}(y_NoQuestion:XIn K xM (xl 8) f_NoQuestion)(GI_NoQuestion:FnOk P w K mg base CX0 1 f_NoQuestion fdI_NoQuestion ["self","place"] (zZP (xl 8) "place"))(bI_NoQuestion:Binds K fdI_NoQuestion ["self","place"] [])(dN:mg "enumerate"=none)(yCN:(CalM P w K mg base) "is_atom" 4 2 ["thing","tables"] zHI)(yK:mg "len"=none){zEY:Tok}(bO:mg "MOST_ATOMS"=some (.int 4 zEY))(yCO:(CalM P w K mg base) "is_head" 2 2 ["things","atoms"] zAN)(yT:mg "tuple"=none):(CalX P w K mg base) "question_of" 5 3 ["tables","head","atoms"] wL:=
 by have h:=okCX (P:=P) (w:=w) (base:=base) D (fun _ _ _ _ _ _ us hl=>match us,hl with | [_,_,_],_=>rfl) fun f fd F=>okX (k:=4) _ F zBN fun cdv A outer s H E hr=>(zG (yQ (xU (yE (zH zWI (hr.mono (by decide)) rfl (zA (zB 2) zC)))) (zL (zLB zWW rfl (XT.each.at (.tail _ (.tail _ (.tail _ (.tail _ (.tail _ (.tail _ (.tail _ (.tail _ (.head _)))))))))).1 XT.mc y_NoQuestion GI_NoQuestion bI_NoQuestion hr zF)) yB) (zG (hW PassesOwn.leaving rfl (yIS rfl dN (zA (zB 2) zC)) (zOG (n:=2) rfl (cS (xB 3 zBN.nd) (cS (xB 4 zBN.nd) zOF))) (zL (yQ (xU (yE (zH yCN (hr.mono (by decide)) rfl (zA (zB 4) (zA (zB 0) zC))))) (zL (zLB zWW rfl (XT.each.at (.tail _ (.tail _ (.tail _ (.tail _ (.tail _ (.tail _ (.tail _ (.tail _ (.head _)))))))))).1 XT.mc y_NoQuestion GI_NoQuestion bI_NoQuestion hr (zB 3))) yB))) (zG (yQ (cZ (kT (xU (zZG zF (zN zV yU rfl yK yS (zA (zB 2) zC)) (zSB rfl bO))) (kT (xU (yE (zH zWI (hr.mono (by decide)) rfl (zA (zB 1) zC)))) (bR (xU (yE (zH yCO (hr.mono (by decide)) rfl (zA (zB 1) (zA (zB 2) zC))))))))) (zL (zLB zWW rfl (XT.each.at (.tail _ (.tail _ (.tail _ (.tail _ (.tail _ (.tail _ (.tail _ (.tail _ (.head _)))))))))).1 XT.mc y_NoQuestion GI_NoQuestion bI_NoQuestion hr (zN zV yU rfl yK yS (zA (zB 2) zC)))) yB) (zL (zR (yI (zA (xY xL dC rfl yT wO (zA (zB 1) zC)) (zA (xY xL dC rfl yT wO (zA (zB 2) zC)) zC))))))))
    exact h
abbrev zBO:Stmt:=top 32
theorem zMN:FnScope ["_law_script","_law_k"] ["_law_script","_law_k"] (zK zBO):=⟨rfl,rfl,rfl,by decide+kernel,rfl,by decide+kernel,by decide+kernel⟩
theorem zMO(D:DefM K mg "_law_cell_at" zBO)(yK:mg "len"=none):(CalM P w K mg base) "_law_cell_at" 1 2 ["_law_script","_law_k"] yF:=
 by have h:=okC (P:=P) (w:=w) (base:=base) D (fun _ _ _ _ _ _ us hl=>match us,hl with | [_,_],_=>rfl) fun f fd F=>okM (k:=0) _ F zMN fun cdv A outer s H E hr=>(zG (yQ (zRA hr.units (zB 1) (zN zV yU rfl yK yS (zA (zB 0) zC))) (zL (zR (yG (zB 0) (zB 1)))) yB) (zL (zR zF)))
    exact h
abbrev zDF:Stmt:=top 33
theorem xH:FnScope zCL ["_law_cell"] (zK zDF):=⟨rfl,rfl,rfl,by decide+kernel,rfl,by decide+kernel,by decide+kernel⟩
theorem zPP(D:DefM K mg "_law_digits" zDF)(yX:mg "range"=none):(CalM P w K mg base) "_law_digits" 1 1 ["_law_cell"] yJ:=
 by have h:=okC (P:=P) (w:=w) (base:=base) D (fun _ _ _ _ _ _ us hl=>match us,hl with | [_],_=>rfl) fun f fd F=>okM (k:=0) _ F xH fun cdv A outer s H E hr=>(zG (zU 1 xH.nd (zIJ (zB 0) zF)) (zG (yQ (dB hr.units (jI (zB 0) zF) zF) (zL (zR (yP (zA (zB 1) zC)))) yB) (zG (zU 2 xH.nd (jI (zB 1) zF)) (zG (zU 3 xH.nd zF) (zG (hW PassesOwn.never rfl (wM rfl yX (zA zF zC)) (xB 4 xH.nd) (zG (zU 2 xH.nd (jI (yD (yD (zKW (zB 2) zF) (zKW zF (zB 4))) zF) zF)) (zG (zU 5 xH.nd (jI (zKW (zB 2) (zB 2)) zF)) (zL (zU 3 xH.nd (yD (zKW (zB 3) zF) (jI (zKW (zB 5) zF) zF))))))) (zL (zR (yP (zA (zB 3) zC)))))))))
    exact h
abbrev zGS:Stmt:=top 34
theorem zKN:FnScope zFX ["_law_well","_law_many"] (zK zGS):=⟨rfl,rfl,rfl,by decide+kernel,rfl,by decide+kernel,by decide+kernel⟩
theorem zTL(D:DefM K mg "_law_take" zGS):(CalM P w K mg base) "_law_take" 1 2 ["_law_well","_law_many"] zM:=
 by have h:=okC (P:=P) (w:=w) (base:=base) D (fun _ _ _ _ _ _ us hl=>match us,hl with | [_,_],_=>rfl) fun f fd F=>okM (k:=0) _ F zKN fun cdv A outer s H E hr=>(zG (zU 2 zKN.nd (jI (yG (zB 0) zF) (zB 1))) (zG (zOH (zIJ (yG (zB 0) zF) (zB 1)) (yEN (zB 0) zF)) (zL (zR (zB 2)))))
    exact h
abbrev zGT:Stmt:=top 35
theorem bI:FnScope zFY ["_law_well"] (zK zGT):=⟨rfl,rfl,rfl,by decide+kernel,rfl,by decide+kernel,by decide+kernel⟩
theorem zTM(D:DefM K mg "_law_word" zGT)(yX:mg "range"=none)(zO:(CalM P w K mg base) "_law_take" 1 2 ["_law_well","_law_many"] zM):(CalM P w K mg base) "_law_word" 2 1 ["_law_well"] wE:=
 by have h:=okC (P:=P) (w:=w) (base:=base) D (fun _ _ _ _ _ _ us hl=>match us,hl with | [_],_=>rfl) fun f fd F=>okM (k:=1) _ F bI fun cdv A outer s H E hr=>(zG (zU 1 bI.nd (zW [97,98,99,100,101,102,103,104,105,106,107,108,109,110,111,112,113,114,115,116,117,118,119,120,121,122])) (zG (zU 2 bI.nd (zW [])) (zG (hW PassesOwn.never rfl (wM rfl yX (zA (yD zF (zH zO (hr.mono (by decide)) rfl (zA (zB 0) (zA zF zC)))) zC)) (xB 3 bI.nd) (zL (zU 2 bI.nd (yD (zB 2) (yG (zB 1) (zH zO (hr.mono (by decide)) rfl (zA (zB 0) (zA zF zC)))))))) (zL (zR (zB 2))))))
    exact h
abbrev zGU:Stmt:=top 36
theorem kG:FnScope zFZ ["_law_well","_law_many"] (zK zGU):=⟨rfl,rfl,rfl,by decide+kernel,rfl,by decide+kernel,by decide+kernel⟩
theorem zTN(D:DefM K mg "_law_pool" zGU)(yX:mg "range"=none)(zO:(CalM P w K mg base) "_law_take" 1 2 ["_law_well","_law_many"] zM)(zCE:(CalM P w K mg base) "_law_word" 2 1 ["_law_well"] wE):(CalM P w K mg base) "_law_pool" 3 2 ["_law_well","_law_many"] gD:=
 by have h:=okC (P:=P) (w:=w) (base:=base) D (fun _ _ _ _ _ _ us hl=>match us,hl with | [_,_],_=>rfl) fun f fd F=>okM (k:=2) _ F kG fun cdv A outer s H E hr=>(zG (zU 2 kG.nd (yP zC)) (zG (hW PassesOwn.never rfl (wM rfl yX (zA (zB 1) zC)) (xB 3 kG.nd) (zG (zU 4 kG.nd (zH zO (hr.mono (by decide)) rfl (zA (zB 0) (zA zF zC)))) (zG (zU 5 kG.nd (zOJ (zH zO (hr.mono (by decide)) rfl (zA (zB 0) (zA zF zC))) zF)) (zG (yQ (dB hr.units (zB 4) zF) (zL (zU 5 kG.nd (yD (zOJ (zH zO (hr.mono (by decide)) rfl (zA (zB 0) (zA (zOJ (zKW zF (zFS zF zF)) zF) zC))) (zFS zF zF)) zF))) yB) (zG (yQ (zUM (zB 4) zF) (zL (zU 5 kG.nd (zH zCE (hr.mono (by decide)) rfl (zA (zB 0) zC)))) yB) (zL (yQ (zJR hr.units (zB 5) (zB 2)) (zL (zHD (zAL (zB 2) (zA (zB 5) zC)))) yB))))))) (zL (zR (zB 2)))))
    exact h
abbrev zDG:Stmt:=top 37
theorem bJ:FnScope zCM ["_law_well"] (zK zDG):=⟨rfl,rfl,rfl,by decide+kernel,rfl,by decide+kernel,by decide+kernel⟩
theorem zPQ(D:DefM K mg "_law_tables" zDG)(yX:mg "range"=none)(zO:(CalM P w K mg base) "_law_take" 1 2 ["_law_well","_law_many"] zM):(CalM P w K mg base) "_law_tables" 2 1 ["_law_well"] kM:=
 by have h:=okC (P:=P) (w:=w) (base:=base) D (fun _ _ _ _ _ _ us hl=>match us,hl with | [_],_=>rfl) fun f fd F=>okM (k:=1) _ F bJ fun cdv A outer s H E hr=>(zG (zU 1 bJ.nd (yP zC)) (zG (hW PassesOwn.never rfl (wM rfl yX (zA (yD zF (zH zO (hr.mono (by decide)) rfl (zA (zB 0) (zA zF zC)))) zC)) (xB 2 bJ.nd) (zG (zU 3 bJ.nd (yD zF (zH zO (hr.mono (by decide)) rfl (zA (zB 0) (zA zF zC))))) (zL (zHD (zAL (zB 1) (zA (yI (zA (zB 3) (zA (zH zO (hr.mono (by decide)) rfl (zA (zB 0) (zA (yD (zB 3) zF) zC))) zC))) zC)))))) (zL (zR (zB 1)))))
    exact h
abbrev zGV:Stmt:=top 38
theorem zTO:FnScope gC gC (zK zGV):=⟨rfl,rfl,rfl,by decide+kernel,rfl,by decide+kernel,by decide+kernel⟩
theorem zTP(D:DefM K mg "_law_term" zGV)(zO:(CalM P w K mg base) "_law_take" 1 2 ["_law_well","_law_many"] zM)(yK:mg "len"=none):(CalM P w K mg base) "_law_term" 2 3 gC kC:=
 by have h:=okC (P:=P) (w:=w) (base:=base) D (fun _ _ _ _ _ _ us hl=>match us,hl with | [_,_,_],_=>rfl) fun f fd F=>okM (k:=1) _ F zTO fun cdv A outer s H E hr=>(zG (yQ (dB hr.units (zH zO (hr.mono (by decide)) rfl (zA (zB 0) (zA zF zC))) zF) (zL (zR (yI (zA (zW [105,115]) (zA (yG (zB 2) (zH zO (hr.mono (by decide)) rfl (zA (zB 0) (zA (zN zV yU rfl yK yS (zA (zB 2) zC)) zC)))) zC))))) yB) (zL (zR (yI (zA (zW [118,97,114]) (zA (yG (zB 1) (zH zO (hr.mono (by decide)) rfl (zA (zB 0) (zA (zN zV yU rfl yK yS (zA (zB 1) zC)) zC)))) zC))))))
    exact h
abbrev zAI:Stmt:=top 39
theorem cX:FnScope zAC ["_law_well","_law_tables_here","_law_names_here","_law_pool_here","_law_many"] (zK zAI):=⟨rfl,rfl,rfl,by decide+kernel,rfl,by decide+kernel,by decide+kernel⟩
theorem zQF(D:DefM K mg "_law_atoms" zAI)(yX:mg "range"=none)(zO:(CalM P w K mg base) "_law_take" 1 2 ["_law_well","_law_many"] zM)(yK:mg "len"=none)(zWF:(CalM P w K mg base) "_law_term" 2 3 gC kC)(yT:mg "tuple"=none):(CalM P w K mg base) "_law_atoms" 3 5 ["_law_well","_law_tables_here","_law_names_here","_law_pool_here","_law_many"] jE:=
 by have h:=okC (P:=P) (w:=w) (base:=base) D (fun _ _ _ _ _ _ us hl=>match us,hl with | [_,_,_,_,_],_=>rfl) fun f fd F=>okM (k:=2) _ F cX fun cdv A outer s H E hr=>(zG (zU 5 cX.nd (yP zC)) (zG (hW PassesOwn.never rfl (wM rfl yX (zA (zB 4) zC)) (xB 6 cX.nd) (zG (zU 7 cX.nd (zH zO (hr.mono (by decide)) rfl (zA (zB 0) (zA (zN zV yU rfl yK yS (zA (zB 1) zC)) zC)))) (zL (zHD (zAL (zB 5) (zA (yI (zA (zB 7) (zA (xY xL dC rfl yT wO (zA (zHE (zK zAI) zAC ["_law_j"] [0,2,3] (wM rfl yX (zA (yG (yG (zB 1) (zB 7)) zF) zC)) rfl (fun _ _ _ _ hN=>(zEB 0 hN)) (fun _ _ _ _=>zMY) (fun _ _ _ _=>(zH zWF (hr.mono (by decide)) rfl (zA (zB 1) (zA (zB 2) (zA (zB 3) zC)))))) zC)) zC))) zC)))))) (zL (zR (zB 5)))))
    exact h
abbrev nS:Stmt:=top 40
theorem xO:FnScope dU ["_law_atoms_here"] (zK nS):=⟨rfl,rfl,rfl,by decide+kernel,rfl,by decide+kernel,by decide+kernel⟩
theorem zLN(D:DefM K mg "_law_names_in" nS):(CalM P w K mg base) "_law_names_in" 1 1 ["_law_atoms_here"] yZ:=
 by have h:=okC (P:=P) (w:=w) (base:=base) D (fun _ _ _ _ _ _ us hl=>match us,hl with | [_],_=>rfl) fun f fd F=>okM (k:=0) _ F xO fun cdv A outer s H E hr=>(zG (zU 1 xO.nd (yP zC)) (zG (hW PassesOwn.never rfl (zYY (zB 0)) (zOG (n:=2) rfl (cS (xB 2 xO.nd) (cS (xB 3 xO.nd) zOF))) (zL (hW PassesOwn.never rfl (zSE (zB 3)) (zOG (n:=2) rfl (cS (xB 4 xO.nd) (cS (xB 5 xO.nd) zOF))) (zL (yQ (cZ (zOE (dB hr.units (zB 4) (zW [118,97,114])) (zMX (zJR hr.units (zB 5) (zB 1))))) (zL (zHD (zAL (zB 1) (zA (zB 5) zC)))) yB))))) (zL (zR (zB 1)))))
    exact h
abbrev zGW:Stmt:=top 41
theorem zAJ:FnScope zGA ["_law_well","_law_atoms_here","_law_most"] (zK zGW):=⟨rfl,rfl,rfl,by decide+kernel,rfl,by decide+kernel,by decide+kernel⟩
theorem zTQ(D:DefM K mg "_law_head" zGW)(nW:(CalM P w K mg base) "_law_names_in" 1 1 ["_law_atoms_here"] yZ)(yX:mg "range"=none)(zO:(CalM P w K mg base) "_law_take" 1 2 ["_law_well","_law_many"] zM)(yK:mg "len"=none):(CalM P w K mg base) "_law_head" 2 3 ["_law_well","_law_atoms_here","_law_most"] gE:=
 by have h:=okC (P:=P) (w:=w) (base:=base) D (fun _ _ _ _ _ _ us hl=>match us,hl with | [_,_,_],_=>rfl) fun f fd F=>okM (k:=1) _ F zAJ fun cdv A outer s H E hr=>(zG (zU 3 zAJ.nd (zH nW (hr.mono (by decide)) rfl (zA (zB 1) zC))) (zG (zU 4 zAJ.nd (yP zC)) (zG (hW PassesOwn.never rfl (wM rfl yX (zA (zH zO (hr.mono (by decide)) rfl (zA (zB 0) (zA (yD (zB 2) zF) zC))) zC)) (xB 5 zAJ.nd) (zL (yQ (zLZ hr.units (zB 3) (yP zC)) (zL (zHD (zAL (zB 4) (zA (yND (zB 3) (zA (zH zO (hr.mono (by decide)) rfl (zA (zB 0) (zA (zN zV yU rfl yK yS (zA (zB 3) zC)) zC))) zC)) zC)))) yB))) (zL (zR (zB 4))))))
    exact h
abbrev zEU:Stmt:=top 42
theorem kN:FnScope zEF ["_law_well"] (zK zEU):=⟨rfl,rfl,rfl,by decide+kernel,rfl,by decide+kernel,by decide+kernel⟩
theorem zQG(D:DefM K mg "_law_names" zEU)(zCE:(CalM P w K mg base) "_law_word" 2 1 ["_law_well"] wE)(zO:(CalM P w K mg base) "_law_take" 1 2 ["_law_well","_law_many"] zM)(yX:mg "range"=none):(CalM P w K mg base) "_law_names" 3 1 ["_law_well"] wF:=
 by have h:=okC (P:=P) (w:=w) (base:=base) D (fun _ _ _ _ _ _ us hl=>match us,hl with | [_],_=>rfl) fun f fd F=>okM (k:=2) _ F kN fun cdv A outer s H E hr=>(zG (zU 1 kN.nd (zKX (zH zCE (hr.mono (by decide)) rfl (zA (zB 0) zC)) zHB (zHC zF))) (zG (yQ (dB hr.units (zH zO (hr.mono (by decide)) rfl (zA (zB 0) (zA zF zC))) zF) (zL (zR (yP (zA (zB 1) (zA (yD (zB 1) (zW [97])) (zA (yD (zW [98]) (zB 1)) zC)))))) yB) (zG (zU 2 kN.nd (yP (zA (zB 1) zC))) (zG (hW PassesOwn.never rfl (wM rfl yX (zA zF zC)) (xB 3 kN.nd) (zG (zU 4 kN.nd (zH zCE (hr.mono (by decide)) rfl (zA (zB 0) zC))) (zG (yQ (yEL hr.units (zB 4) (zB 2)) (zL (zU 4 kN.nd (yG (yP (zA (yD (zW [98]) (zB 1)) (zA (yD (yD (zW [98]) (zB 1)) (zW [97])) zC))) (zB 3)))) yB) (zL (zHD (zAL (zB 2) (zA (zB 4) zC))))))) (zL (zR (zB 2)))))))
    exact h
abbrev zBP:Stmt:=top 43
theorem kJ:FnScope zAS ["_law_cell","_law_names_here","_law_pool_here"] (zK zBP):=⟨rfl,rfl,rfl,by decide+kernel,rfl,by decide+kernel,by decide+kernel⟩
theorem zMP(D:DefM K mg "_law_no_term" zBP):(CalM P w K mg base) "_law_no_term" 1 3 ["_law_cell","_law_names_here","_law_pool_here"] wP:=
 by have h:=okC (P:=P) (w:=w) (base:=base) D (fun _ _ _ _ _ _ us hl=>match us,hl with | [_,_,_],_=>rfl) fun f fd F=>okM (k:=0) _ F kJ fun cdv A outer s H E hr=>(zG (zU 3 kJ.nd (zFS zF zF)) (zG (zU 4 kJ.nd (yP (zA (yI (zA (zW [118,97,114]) (zA (zW []) zC))) (zA (yI (zA (zW [118,97,114]) (zA (zW [65,98]) zC))) (zA (yI (zA (zW [118,97,114]) (zA (zW [97,98,99,100,101,102,103,104,105]) zC))) (zA (yI (zA (zW [118,97,114]) (zA zF zC))) (zA (yI (zA (zW [118,97,114]) (zA nX zC))) (zA (yI (zA (zW [118,97,114]) (zA zCG zC))) (zA (yI (zA (zW [105,115]) (zA (zW []) zC))) zC))))))))) (zG (zU 4 kJ.nd (yD (zB 4) (yP (zA (yI (zA (zW [105,115]) (zA (zW [65,98]) zC))) (zA (yI (zA (zW [105,115]) (zA (zB 3) zC))) (zA (yI (zA (zW [105,115]) (zA (zOJ zF (zB 3)) zC))) (zA (yI (zA (zW [105,115]) (zA nX zC))) (zA (yI (zA (zW [105,115]) (zA zCG zC))) (zA (yI (zA (zW [105,115]) (zA (yI (zA zF zC)) zC))) (zA (yI (zA (zW [105,102]) (zA zF zC))) zC)))))))))) (zG (zU 4 kJ.nd (yD (zB 4) (yP (zA (yI (zA (zW [118,97,114]) (zA (yG (zB 1) zF) (zA zF zC)))) (zA (yI (zA (yG (zB 1) zF) zC)) (zA (yG (zB 1) zF) (zA (yI zC) zC))))))) (zL (zR (yG (zB 4) (jI (zB 0) zF))))))))
    exact h
abbrev zBQ:Stmt:=top 44
theorem kK:FnScope zAT ["_law_atom","_law_cell","_law_tables_here","_law_names_here","_law_pool_here"] (zK zBQ):=⟨rfl,rfl,rfl,by decide+kernel,rfl,by decide+kernel,by decide+kernel⟩
theorem zMQ(D:DefM K mg "_law_no_atom" zBQ)(yK:mg "len"=none)(zPY:(CalM P w K mg base) "_law_no_term" 1 3 ["_law_cell","_law_names_here","_law_pool_here"] wP):(CalM P w K mg base) "_law_no_atom" 2 5 ["_law_atom","_law_cell","_law_tables_here","_law_names_here","_law_pool_here"] xR:=
 by have h:=okC (P:=P) (w:=w) (base:=base) D (fun _ _ _ _ _ _ us hl=>match us,hl with | [_,_,_,_,_],_=>rfl) fun f fd F=>okM (k:=1) _ F kK fun cdv A outer s H E hr=>(zG (zOH (zB 0) (zOG (n:=2) rfl (cS (xB 5 kK.nd) (cS (xB 6 kK.nd) zOF)))) (zG (zU 7 kK.nd (jI (zB 1) zF)) (zG (zU 8 kK.nd (jI (zIJ (zB 1) zF) (zN zV yU rfl yK yS (zA (zB 6) zC)))) (zG (yQ (dB hr.units (zB 7) zF) (zL (zR (yI (zA (yG (yP (zA (zN zV yU rfl yK yS (zA (zB 2) zC)) (zA zSC (zA (zFS zF zF) (zA nX (zA zCG (zA (zW [48]) (zA (yI (zA zF zC)) (zA nX zC))))))))) (jI (zIJ (zB 1) zF) zF)) (zA (zB 6) zC))))) yB) (zG (yQ (dB hr.units (zB 7) zF) (zL (zR (yI (zA (zB 5) (zA (yD (zKX (zB 6) zHB (zHC (zB 8))) (zKX (zB 6) (zHC (yD (zB 8) zF)) zHB)) zC))))) yB) (zG (yQ (dB hr.units (zB 7) zF) (zL (zR (yI (zA (zB 5) (zA (yD (zB 6) (yI (zA (yI (zA (zW [105,115]) (zA zF zC))) zC))) zC))))) yB) (zG (yQ (dB hr.units (zB 7) zF) (zL (zR (yI (zA (zB 5) (zA (yD (yD (zKX (zB 6) zHB (zHC (zB 8))) (yI (zA (zH zPY (hr.mono (by decide)) rfl (zA (zIJ (zB 1) zF) (zA (zB 3) (zA (zB 4) zC)))) zC))) (zKX (zB 6) (zHC (yD (zB 8) zF)) zHB)) zC))))) yB) (zL (zR (yG (yP (zA (yI (zA (zB 5) zC)) (zA (yI (zA (zB 5) (zA (zB 6) (zA (zB 6) zC)))) (zA (zB 5) (zA (zB 6) (zA (yI zC) (zA (yI (zA (zB 6) (zA (zB 5) zC))) (zA (yI (zA (zB 5) (zA zCG zC))) zC)))))))) (jI (zIJ (zB 1) zF) zF)))))))))))
    exact h
abbrev bK:Stmt:=top 45
theorem zMR:FnScope ["_law_thing"] ["_law_thing"] (zK bK):=⟨rfl,rfl,rfl,by decide+kernel,rfl,by decide+kernel,by decide+kernel⟩
theorem zMS(D:DefM K mg "_law_is_name" bK)(zKP:mg "str"=none)(zI:mg "isinstance"=none)(yK:mg "len"=none):(CalM P w K mg base) "_law_is_name" 1 1 ["_law_thing"] gX:=
 by have h:=okC (P:=P) (w:=w) (base:=base) D (fun _ _ _ _ _ _ us hl=>match us,hl with | [_],_=>rfl) fun f fd F=>okM (k:=0) _ F zMR fun cdv A outer s H E hr=>(zG (yQ (cZ (kT (xU (yE (zN xQ hZ rfl zI yA (zA (zB 0) (zA (cY rfl zKP zXH) zC))))) (kT (zRA hr.units (zN zV yU rfl yK yS (zA (zB 0) zC)) zF) (bR (zUM (zN zV yU rfl yK yS (zA (zB 0) zC)) zF))))) (zL (zR nX)) yB) (zL (zR (zUL hr.units (zHE (zK bK) ["_law_thing"] ["_law_sign"] [] (yDX (zB 0)) rfl (fun _ _ _ _ hN=>(zEB 0 hN)) (fun _ _ _ _=>(zSF (zJR hr.units (zB 0) (zW [97,98,99,100,101,102,103,104,105,106,107,108,109,110,111,112,113,114,115,116,117,118,119,120,121,122])))) (fun _ _ _ _=>(zB 0))) (yP zC)))))
    exact h
abbrev zBR:Stmt:=top 46
theorem zMT:FnScope ["_law_thing"] ["_law_thing"] (zK zBR):=⟨rfl,rfl,rfl,by decide+kernel,rfl,by decide+kernel,by decide+kernel⟩
theorem zMU(D:DefM K mg "_law_is_term" zBR)(yT:mg "tuple"=none)(zI:mg "isinstance"=none)(yK:mg "len"=none)(zFJ:mg "int"=none)(zBT:mg "bool"=none)(zPW:(CalM P w K mg base) "_law_is_name" 1 1 ["_law_thing"] gX):(CalM P w K mg base) "_law_is_term" 2 1 ["_law_thing"] gY:=
 by have h:=okC (P:=P) (w:=w) (base:=base) D (fun _ _ _ _ _ _ us hl=>match us,hl with | [_],_=>rfl) fun f fd F=>okM (k:=1) _ F zMT fun cdv A outer s H E hr=>(zG (yQ (cZ (kT (xU (yE (zN xQ hZ rfl zI yA (zA (zB 0) (zA (cY rfl yT wO) zC))))) (kT (zLZ hr.units (zN zV yU rfl yK yS (zA (zB 0) zC)) zF) (bR (zJR hr.units (yG (zB 0) zF) (yI (zA (zW [118,97,114]) (zA (zW [105,115]) zC)))))))) (zL (zR nX)) yB) (zG (yQ (cZ (zOE (dB hr.units (yG (zB 0) zF) (zW [105,115])) (zOE (yE (zN xQ hZ rfl zI yA (zA (yG (zB 0) zF) (zA (cY rfl zFJ zOP) zC)))) (zMX (xU (yE (zN xQ hZ rfl zI yA (zA (yG (zB 0) zF) (zA (cY rfl zBT zMZ) zC))))))))) (zL (zR (yJB hr.units (zOJ zF (zFS zF zF)) (yG (zB 0) zF) (zFS zF zF)))) yB) (zL (zR (zH zPW (hr.mono (by decide)) rfl (zA (yG (zB 0) zF) zC))))))
    exact h
abbrev bL:Stmt:=top 47
theorem nU:FnScope zAU ["_law_tables_here","_law_thing"] (zK bL):=⟨rfl,rfl,rfl,by decide+kernel,rfl,by decide+kernel,by decide+kernel⟩
theorem zMV(D:DefM K mg "_law_is_atom" bL)(yT:mg "tuple"=none)(zI:mg "isinstance"=none)(yK:mg "len"=none)(zFJ:mg "int"=none)(zBT:mg "bool"=none)(zPU:(CalM P w K mg base) "_law_is_term" 2 1 ["_law_thing"] gY):(CalM P w K mg base) "_law_is_atom" 3 2 ["_law_tables_here","_law_thing"] wX:=
 by have h:=okC (P:=P) (w:=w) (base:=base) D (fun _ _ _ _ _ _ us hl=>match us,hl with | [_,_],_=>rfl) fun f fd F=>okM (k:=2) _ F nU fun cdv A outer s H E hr=>(zG (yQ (cZ (kT (xU (yE (zN xQ hZ rfl zI yA (zA (zB 1) (zA (cY rfl yT wO) zC))))) (kT (zLZ hr.units (zN zV yU rfl yK yS (zA (zB 1) zC)) zF) (bR (xU (yE (zN xQ hZ rfl zI yA (zA (yG (zB 1) zF) (zA (cY rfl yT wO) zC))))))))) (zL (zR nX)) yB) (zG (zOH (zB 1) (zOG (n:=2) rfl (cS (xB 2 nU.nd) (cS (xB 3 nU.nd) zOF)))) (zG (yQ (cZ (kT (xU (yE (zN xQ hZ rfl zI yA (zA (zB 2) (zA (cY rfl zFJ zOP) zC))))) (kT (yE (zN xQ hZ rfl zI yA (zA (zB 2) (zA (cY rfl zBT zMZ) zC)))) (kT (zRA hr.units (zB 2) zF) (kT (tm_ge (zB 2) (zN zV yU rfl yK yS (zA (zB 0) zC))) (bR (zLZ hr.units (zN zV yU rfl yK yS (zA (zB 3) zC)) (yG (yG (zB 0) (zB 2)) zF)))))))) (zL (zR nX)) yB) (zL (zR (zUL hr.units (zHE (zK bL) zAU ["_law_term_here"] [] (zSE (zB 3)) rfl (fun _ _ _ _ hN=>(zEB 0 hN)) (fun _ _ _ _=>(zSF (xU (yE (zH zPU (hr.mono (by decide)) rfl (zA (zB 0) zC)))))) (fun _ _ _ _=>(zB 0))) (yP zC)))))))
    exact h
abbrev nV:Stmt:=top 48
theorem zDU:FnScope dW ["_law_head_here","_law_cell","_law_names_here"] (zK nV):=⟨rfl,rfl,rfl,by decide+kernel,rfl,by decide+kernel,by decide+kernel⟩
theorem zLO(D:DefM K mg "_law_bad_head" nV):(CalM P w K mg base) "_law_bad_head" 1 3 ["_law_head_here","_law_cell","_law_names_here"] yR:=
 by have h:=okC (P:=P) (w:=w) (base:=base) D (fun _ _ _ _ _ _ us hl=>match us,hl with | [_,_,_],_=>rfl) fun f fd F=>okM (k:=0) _ F zDU fun cdv A outer s H E hr=>(zG (zU 3 zDU.nd (yG (yP (zA (yD (zW [99]) (yG (zB 2) zF)) (zA (zW []) (zA (zW [65,98]) (zA (zW [97,98,99,100,101,102,103,104,105]) (zA zF (zA zCG (zA nX zC)))))))) (jI (zIJ (zB 1) zF) zF))) (zG (yQ (dB hr.units (jI (zB 1) zF) zF) (zL (zR (yD (zB 0) (yP (zA (zB 3) zC))))) yB) (zG (yQ (dB hr.units (jI (zB 1) zF) zF) (zL (zR (yD (yP (zA (zB 3) zC)) (zB 0)))) yB) (zG (yQ (cZ (zOE (dB hr.units (jI (zB 1) zF) zF) (zMX (zLZ hr.units (zB 0) (yP zC))))) (zL (zR (yD (zB 0) (zKX (zB 0) zHB (zHC zF))))) yB) (zG (yQ (dB hr.units (jI (zB 1) zF) zF) (zL (zR (yD (zB 0) (yP (zA (yD (zW [100]) (yG (zB 2) zF)) (zA (yD (zW [101]) (yG (zB 2) zF)) (zA (yD (zW [102]) (yG (zB 2) zF)) (zA (yD (zW [103]) (yG (zB 2) zF)) (zA (yD (zW [104]) (yG (zB 2) zF)) zC))))))))) yB) (zL (zR (zB 0))))))))
    exact h
abbrev zEV:Stmt:=top 49
theorem zCD:FnScope zEG ["_law_tables_here","_law_head_here","_law_atoms_here"] (zK zEV):=⟨rfl,rfl,rfl,by decide+kernel,rfl,by decide+kernel,by decide+kernel⟩
theorem zWD(D:DefM K mg "_law_due" zEV)(yX:mg "range"=none)(yK:mg "len"=none)(zBS:(CalM P w K mg base) "_law_is_atom" 3 2 ["_law_tables_here","_law_thing"] wX)(nW:(CalM P w K mg base) "_law_names_in" 1 1 ["_law_atoms_here"] yZ)(zKP:mg "str"=none)(zI:mg "isinstance"=none)(zPX:mg "set"=none):(CalM P w K mg base) "_law_due" 4 3 ["_law_tables_here","_law_head_here","_law_atoms_here"] kF:=
 by have h:=okC (P:=P) (w:=w) (base:=base) D (fun _ _ _ _ _ _ us hl=>match us,hl with | [_,_,_],_=>rfl) fun f fd F=>okM (k:=3) _ F zCD fun cdv A outer s H E hr=>(zG (hW PassesOwn.never rfl (wM rfl yX (zA (zN zV yU rfl yK yS (zA (zB 2) zC)) zC)) (xB 3 zCD.nd) (zL (yQ (xU (yE (zH zBS (hr.mono (by decide)) rfl (zA (zB 0) (zA (yG (zB 2) (zB 3)) zC))))) (zL (zR (zB 3))) yB))) (zG (zU 4 zCD.nd (zH nW (hr.mono (by decide)) rfl (zA (zB 2) zC))) (zG (yHT 5 zCD.nd (zK zEV) zEG ["_law_name"] [4] (zYY (zB 1)) rfl (fun _ _ _ _ hN=>(zEB 0 hN)) (fun _ _ _ _=>(zSF (cZ (zOE (yE (zN xQ hZ rfl zI yA (zA (zB 0) (zA (cY rfl zKP zXH) zC)))) (zMX (yEL hr.units (zB 0) (zB 1))))))) (fun _ _ _ _=>(zB 0))) (zG (yQ (cZ (kT (zRA hr.units (zN zV yU rfl yK yS (zA (zB 2) zC)) zF) (kT (zUM (zN zV yU rfl yK yS (zA (zB 2) zC)) zF) (bR (zUM (zN zV yU rfl yK yS (zA (zB 1) zC)) zF))))) (zL (zR (zN zV yU rfl yK yS (zA (zB 2) zC)))) yB) (zG (yQ (cZ (kT (zRA hr.units (zN zV yU rfl yK yS (zA (zB 5) zC)) (zN zV yU rfl yK yS (zA (zB 1) zC))) (bR (zRA hr.units (zZO rfl rfl yK rfl zPX (zA (zB 5) zC)) (zN zV yU rfl yK yS (zA (zB 5) zC)))))) (zL (zR (zN zV yU rfl yK yS (zA (zB 2) zC)))) yB) (zL (zR zCG)))))))
    exact h
abbrev zEW:Stmt:=top 50
theorem xN:FnScope zEH ["_law_tables_here","_law_head_here","_law_atoms_here"] (zK zEW):=⟨rfl,rfl,rfl,by decide+kernel,rfl,by decide+kernel,by decide+kernel⟩
theorem zQH(D:DefM K mg "_law_place" zEW){xM:Addr}{xl:Nat→Addr}(XT:XTab K mg xM (XCS xl))(zQI:(CalX P w K mg base) "question_of" 5 3 ["tables","head","atoms"] wL)(yT:mg "tuple"=none)(zFJ:mg "int"=none)(zI:mg "isinstance"=none)(bN:mg "ValueError"=none)(zBT:mg "bool"=none):(CalM P w K mg base) "_law_place" 6 3 ["_law_tables_here","_law_head_here","_law_atoms_here"] xK:=
 by have h:=okC (P:=P) (w:=w) (base:=base) D (fun _ _ _ _ _ _ us hl=>match us,hl with | [_,_,_],_=>rfl) fun f fd F=>okM (k:=5) _ F xN fun cdv A outer s H E hr=>(zG (zU 3 xN.nd zCG) (zG (zU 4 xN.nd zCG) (zG (yFP (i:=5) (j:=4) XT rfl xN.nd zQI (hr.mono (by decide)) rfl (zA (zB 0) (zA (zB 1) (zA (zB 2) zC))) (fun _=>(zL (zU 3 xN.nd (zB 5))))) (zG (yQ (tm_is (zB 3) zCG) (zL (zR (yG (yP (zA zCG (zA zSC zC))) (xY zUP yMR rfl zFJ zOP (zA (pm_ne hr.units (zB 4) (yI (zA (xY xL dC rfl yT wO (zA (zB 1) zC)) (zA (xY xL dC rfl yT wO (zA (zB 2) zC)) zC)))) zC))))) yB) (zG (zU 6 xN.nd (yP (zA (dR XT xnd (.tail _ (.tail _ (.tail _ (.tail _ (.tail _ (.tail _ (.tail _ (.tail _ (.tail _ (.head _)))))))))) zI rfl rfl (zB 3)) (zA (dR XT xnd (.tail _ (.tail _ (.head _))) zI rfl rfl (zB 3)) (zA (dR XT xnd (.tail _ (.tail _ (.tail _ (.tail _ (.tail _ (.tail _ (.head _))))))) zI rfl rfl (zB 3)) (zA (dR XT xnd (.tail _ (.tail _ (.tail _ (.tail _ (.tail _ (.head _)))))) zI rfl rfl (zB 3)) zC)))))) (zG (zU 6 xN.nd (yD (zB 6) (yP (zA (dR XT xnd (.tail _ (.tail _ (.tail _ (.head _)))) zI rfl rfl (zB 3)) (zA (dR XT xnd (.tail _ (.tail _ (.tail _ (.tail _ (.head _))))) zI rfl rfl (zB 3)) (zA (dR XT xnd (.tail _ (.head _)) zI rfl rfl (zB 3)) zC)))))) (zG (zU 6 xN.nd (yD (zB 6) (yP (zA (dR XT xnd (.tail _ (.tail _ (.tail _ (.tail _ (.tail _ (.tail _ (.tail _ (.tail _ (.tail _ (.tail _ (.tail _ (.head _)))))))))))) zI rfl rfl (zB 3)) (zA (dR XT xnd (.head _) zI rfl rfl (zB 3)) (zA (dR XT xnd (.tail _ (.tail _ (.tail _ (.tail _ (.tail _ (.tail _ (.tail _ (.tail _ (.tail _ (.tail _ (.head _))))))))))) zI rfl rfl (zB 3)) zC)))))) (zG (yQ (cZ (kT (yEL hr.units nX (zB 6)) (kT (yE (dR XT xnd (.tail _ (.tail _ (.tail _ (.tail _ (.tail _ (.tail _ (.tail _ (.head _)))))))) zI rfl rfl (zB 3))) (bR (xU (yE (dR XT xnd (.tail _ (.tail _ (.tail _ (.tail _ (.tail _ (.tail _ (.tail _ (.tail _ (.head _))))))))) zI rfl rfl (zB 3)))))))) (zL (zR zSC)) yB) (zG (yQ (cZ (kT (xU (yE (yNA XT zI bN rfl rfl (zB 3)))) (kT (xU (yE (zN xQ hZ rfl zI yA (zA (zXX XT (by decide) zJX (zB 3)) (zA (cY rfl zFJ zOP) zC))))) (bR (yE (zN xQ hZ rfl zI yA (zA (zXX XT (by decide) zJX (zB 3)) (zA (cY rfl zBT zMZ) zC)))))))) (zL (zR zSC)) yB) (zL (zR (zXX XT (by decide) zJX (zB 3)))))))))))))
    exact h
abbrev yGS:Stmt:=top 51
theorem jL:FnScope yFQ ["_law_script"] (zK yGS):=⟨rfl,rfl,rfl,by decide+kernel,rfl,by decide+kernel,by decide+kernel⟩
theorem yNZ{f:Addr}{fd:FuncData}(F:Fun K "law" "law" yGS f fd)(zQJ:(CalM P w K mg base) "_law_tables" 2 1 ["_law_well"] kM)(kO:(CalM P w K mg base) "_law_digits" 1 1 ["_law_cell"] yJ)(kA:(CalM P w K mg base) "_law_cell_at" 1 2 ["_law_script","_law_k"] yF)(yT:mg "tuple"=none)(zWH:(CalM P w K mg base) "_law_pool" 3 2 ["_law_well","_law_many"] gD)(zTR:(CalM P w K mg base) "_law_names" 3 1 ["_law_well"] wF)(yX:mg "range"=none)(zO:(CalM P w K mg base) "_law_take" 1 2 ["_law_well","_law_many"] zM)(zTU:(CalM P w K mg base) "_law_atoms" 3 5 ["_law_well","_law_tables_here","_law_names_here","_law_pool_here","_law_many"] jE)(zWG:(CalM P w K mg base) "_law_head" 2 3 ["_law_well","_law_atoms_here","_law_most"] gE)(zMW:(CalM P w K mg base) "_law_bad_head" 1 3 ["_law_head_here","_law_cell","_law_names_here"] yR)(yK:mg "len"=none)(zBS:(CalM P w K mg base) "_law_is_atom" 3 2 ["_law_tables_here","_law_thing"] wX)(zPS:(CalM P w K mg base) "_law_no_atom" 2 5 ["_law_atom","_law_cell","_law_tables_here","_law_names_here","_law_pool_here"] xR)(zDH:mg "list"=none)(zYJ:(CalM P w K mg base) "_law_due" 4 3 ["_law_tables_here","_law_head_here","_law_atoms_here"] kF)(zKQ:(CalM P w K mg base) "_law_place" 6 3 ["_law_tables_here","_law_head_here","_law_atoms_here"] xK):FnOk P w K mg base CX0 7 f fd ["_law_script"] (spM ⟨K,mg,P,w⟩ 1 zRH):=
 by have h:=okM (P:=P) (w:=w) (mg:=mg) (base:=base) (k:=6) _ F jL fun cdv A outer s H E hr=>(zG (zU 1 jL.nd (xY xL dC rfl yT wO (zA (zH zQJ (hr.mono (by decide)) rfl (zA (zH kO (hr.mono (by decide)) rfl (zA (zH kA (hr.mono (by decide)) rfl (zA (zB 0) (zA zF zC))) zC)) zC)) zC))) (zG (zU 2 jL.nd (zH zWH (hr.mono (by decide)) rfl (zA (zH kO (hr.mono (by decide)) rfl (zA (zH kA (hr.mono (by decide)) rfl (zA (zB 0) (zA zF zC))) zC)) (zA zF zC)))) (zG (zU 3 jL.nd (zH zTR (hr.mono (by decide)) rfl (zA (zH kO (hr.mono (by decide)) rfl (zA (zH kA (hr.mono (by decide)) rfl (zA (zB 0) (zA zF zC))) zC)) zC))) (zG (zU 3 jL.nd (yD (zB 3) (yP (zA (yD (zW [99]) (yG (zB 3) zF)) (zA (yD (zW [100]) (yG (zB 3) zF)) (zA (yD (zW [101]) (yG (zB 3) zF)) zC)))))) (zG (zU 4 jL.nd (zH kO (hr.mono (by decide)) rfl (zA (zH kA (hr.mono (by decide)) rfl (zA (zB 0) (zA zF zC))) zC))) (zG (zU 5 jL.nd (yP zC)) (zG (hW PassesOwn.never rfl (wM rfl yX (zA (zH zO (hr.mono (by decide)) rfl (zA (zB 4) (zA zF zC))) zC)) (xB 6 jL.nd) (zL (zU 5 jL.nd (yD (zB 5) (zH zTU (hr.mono (by decide)) rfl (zA (zH kO (hr.mono (by decide)) rfl (zA (zH kA (hr.mono (by decide)) rfl (zA (zB 0) (zA (yD zF (zB 6)) zC))) zC)) (zA (zB 1) (zA (zB 3) (zA (zB 2) (zA zF zC)))))))))) (zG (zU 7 jL.nd (zH zWG (hr.mono (by decide)) rfl (zA (zB 4) (zA (zB 5) (zA zF zC))))) (zG (yQ (dB hr.units (zH zO (hr.mono (by decide)) rfl (zA (zB 4) (zA zF zC))) zF) (zL (zU 7 jL.nd (zH zMW (hr.mono (by decide)) rfl (zA (zB 7) (zA (zH zO (hr.mono (by decide)) rfl (zA (zB 4) (zA zF zC))) (zA (zB 3) zC)))))) yB) (zG (hW PassesOwn.never rfl (wM rfl yX (zA (zH zO (hr.mono (by decide)) rfl (zA (zB 4) (zA zF zC))) zC)) (xB 6 jL.nd) (zL (yQ (zLZ hr.units (zB 5) (yP zC)) (zG (zU 8 jL.nd (zH kO (hr.mono (by decide)) rfl (zA (zH kA (hr.mono (by decide)) rfl (zA (zB 0) (zA (yD zF (zB 6)) zC))) zC))) (zG (zU 9 jL.nd (zH zO (hr.mono (by decide)) rfl (zA (zB 8) (zA (zN zV yU rfl yK yS (zA (zB 5) zC)) zC)))) (zL (yQ (yE (zH zBS (hr.mono (by decide)) rfl (zA (zB 1) (zA (yG (zB 5) (zB 9)) zC)))) (zL (zOH (zH zPS (hr.mono (by decide)) rfl (zA (yG (zB 5) (zB 9)) (zA (zH zO (hr.mono (by decide)) rfl (zA (zB 8) (zA (zFS zF zF) zC))) (zA (zB 1) (zA (zB 3) (zA (zB 2) zC)))))) (yEN (zB 5) (zB 9)))) yB)))) yB))) (zG (zU 10 jL.nd (yP (zA (xY zJG zZH rfl zDH zNA (zA (zB 7) zC)) (zA (xY zJG zZH rfl zDH zNA (zA (zB 5) zC)) zC)))) (zG (zU 11 jL.nd (zH zYJ (hr.mono (by decide)) rfl (zA (zB 1) (zA (zB 7) (zA (zB 5) zC))))) (zG (yQ (cZ (kT (zLZ hr.units (zH zKQ (hr.mono (by decide)) rfl (zA (zB 1) (zA (yG (zB 10) zF) (zA (yG (zB 10) zF) zC)))) (zB 11)) (bR (zLZ hr.units (zB 10) (yP (zA (zB 7) (zA (zB 5) zC))))))) (zL (zR nX)) yB) (zL (zR (zUL hr.units (zH zKQ (hr.mono (by decide)) rfl (zA (zB 1) (zA (xY xL dC rfl yT wO (zA (zB 7) zC)) (zA (xY xL dC rfl yT wO (zA (zB 5) zC)) zC)))) (zB 11)))))))))))))))))
    exact h
end
theorem all_mk{l:PySem.W.OpenLaw}{w:World}{K:PySem.W.Frag}{h:Heap}{mg:Str→Option Value}{fa:Addr}(X:K.In h)(GG:h.Ns mainGlobals mg)(hfa:mg "law"=some (.ref fa))
  (D0:DefM K mg "is_whole" zIU)
  (D1:DefM K mg "is_name" zHO)
  (D2:DefM K mg "is_value" zIV)
  (D3:DefM K mg "is_tuple" zIW)
  (D4:DefM K mg "is_number_below" bH)
  (D5:DefM K mg "is_term" zLM)
  (D6:DefM K mg "is_atom" zHP)
  (D7:DefM K mg "names_in" zIZ)
  (D8:DefM K mg "is_head" zHQ)
  (D9:DefM K mg "listed" zPN)
  (D10:DefM K mg "question_of" zDE)
  (D11:DefM K mg "_law_cell_at" zBO)
  (D12:DefM K mg "_law_digits" zDF)
  (D13:DefM K mg "_law_take" zGS)
  (D14:DefM K mg "_law_word" zGT)
  (D15:DefM K mg "_law_pool" zGU)
  (D16:DefM K mg "_law_tables" zDG)
  (D17:DefM K mg "_law_term" zGV)
  (D18:DefM K mg "_law_atoms" zAI)
  (D19:DefM K mg "_law_names_in" nS)
  (D20:DefM K mg "_law_head" zGW)
  (D21:DefM K mg "_law_names" zEU)
  (D22:DefM K mg "_law_no_term" zBP)
  (D23:DefM K mg "_law_no_atom" zBQ)
  (D24:DefM K mg "_law_is_name" bK)
  (D25:DefM K mg "_law_is_term" zBR)
  (D26:DefM K mg "_law_is_atom" bL)
  (D27:DefM K mg "_law_bad_head" nV)
  (D28:DefM K mg "_law_due" zEV)
  (D29:DefM K mg "_law_place" zEW)
  (D30:DefM K mg "law" yGS)
  {zEY:Tok} (bO:PySem.W.nsIn K mainGlobals "MOST_ATOMS"=some (some (.int 4 zEY)))
  {zBU:Tok} (jB:PySem.W.nsIn K mainGlobals "MOST_LETTERS"=some (some (.int 8 zBU)))
  {zEZ:Tok} (bM:PySem.W.nsIn K mainGlobals "MOST_NAMES"=some (some (.int 4 zEZ)))
  {C_MendError:Addr} {i_MendError:Option Value} (zGX:PySem.W.nsIn K mainGlobals "MendError"=some (some (.ref C_MendError))) (x_MendError:XCl K C_MendError bmV i_MendError)
  {C_TooGreat:Addr} {i_TooGreat:Option Value} (zJA:PySem.W.nsIn K mainGlobals "TooGreat"=some (some (.ref C_TooGreat))) (x_TooGreat:XCl K C_TooGreat (.ref C_MendError::bmV) i_TooGreat)
  {C_NoText:Addr} {i_NoText:Option Value} (zPR:PySem.W.nsIn K mainGlobals "NoText"=some (some (.ref C_NoText))) (x_NoText:XCl K C_NoText (.ref C_MendError::bmV) i_NoText)
  {C_NoPlace:Addr} {i_NoPlace:Option Value} (zLP:PySem.W.nsIn K mainGlobals "NoPlace"=some (some (.ref C_NoPlace))) (x_NoPlace:XCl K C_NoPlace (.ref C_MendError::bmV) i_NoPlace)
  {C_NotPlain:Addr} {i_NotPlain:Option Value} (zJB:PySem.W.nsIn K mainGlobals "NotPlain"=some (some (.ref C_NotPlain))) (x_NotPlain:XCl K C_NotPlain (.ref C_MendError::bmV) i_NotPlain)
  {C_NoTable:Addr} {i_NoTable:Option Value} (zLS:PySem.W.nsIn K mainGlobals "NoTable"=some (some (.ref C_NoTable))) (x_NoTable:XCl K C_NoTable (.ref C_MendError::bmV) i_NoTable)
  {C_NoRule:Addr} {i_NoRule:Option Value} (zPT:PySem.W.nsIn K mainGlobals "NoRule"=some (some (.ref C_NoRule))) (x_NoRule:XCl K C_NoRule (.ref C_MendError::bmV) i_NoRule)
  {C_NoRow:Addr} {i_NoRow:Option Value} (zTT:PySem.W.nsIn K mainGlobals "NoRow"=some (some (.ref C_NoRow))) (x_NoRow:XCl K C_NoRow (.ref C_MendError::bmV) i_NoRow)
  {C_Twice:Addr} {i_Twice:Option Value} (zTS:PySem.W.nsIn K mainGlobals "Twice"=some (some (.ref C_Twice))) (x_Twice:XCl K C_Twice (.ref C_MendError::bmV) i_Twice)
  {C_NoQuestion:Addr} {i_NoQuestion:Option Value} (zFA:PySem.W.nsIn K mainGlobals "NoQuestion"=some (some (.ref C_NoQuestion))) (x_NoQuestion:XCl K C_NoQuestion (.ref C_MendError::bmV) i_NoQuestion)
  {C_Double:Addr} {i_Double:Option Value} (zPV:PySem.W.nsIn K mainGlobals "Double"=some (some (.ref C_Double))) (x_Double:XCl K C_Double (.ref C_MendError::bmV) i_Double)
  {C_TooWide:Addr} {i_TooWide:Option Value} (zLR:PySem.W.nsIn K mainGlobals "TooWide"=some (some (.ref C_TooWide))) (x_TooWide:XCl K C_TooWide (.ref C_MendError::bmV) i_TooWide)
  {C_Ring:Addr} {i_Ring:Option Value} (zYK:PySem.W.nsIn K mainGlobals "Ring"=some (some (.ref C_Ring))) (x_Ring:XCl K C_Ring (.ref C_MendError::bmV) i_Ring)
  (j_MendError:i_MendError=none)
  (j_TooGreat:i_TooGreat=none)
  (j_NoText:i_NoText=none)
  (j_NoPlace:i_NoPlace=none)
  (j_NotPlain:i_NotPlain=none)
  {I_NoQuestion:Addr} {odI_NoQuestion anI_NoQuestion:Option Addr} {slI_NoQuestion:Array (Option Value)} {ocI_NoQuestion kVI_NoQuestion dcI_NoQuestion pmI_NoQuestion cdI_NoQuestion ctI_NoQuestion:Value} (y_NoQuestion:XIn K C_MendError C_NoQuestion I_NoQuestion) (lI_NoQuestion:K.lookup I_NoQuestion=some ⟨ocI_NoQuestion,odI_NoQuestion,.func (PySem.W.fnOf "__init__" "NoQuestion.__init__" (zBV jP) (jR jP) (zK jP) .none kVI_NoQuestion dcI_NoQuestion pmI_NoQuestion anI_NoQuestion cdI_NoQuestion ctI_NoQuestion),slI_NoQuestion⟩) (cI_NoQuestion:PySem.W.codeIn K cdI_NoQuestion "NoQuestion.__init__"=true) (kI_NoQuestion:PySem.W.keepIn K (.ref I_NoQuestion)=true)
  (xm:XMn K C_MendError)
  (xd:[C_MendError,C_TooGreat,C_NoText,C_NoPlace,C_NotPlain,C_NoTable,C_NoRule,C_NoRow,C_Twice,C_NoQuestion,C_Double,C_TooWide,C_Ring].Nodup)
  (bN:PySem.W.nsIn K mainGlobals "ValueError"=some none)
  (zWE:PySem.W.nsIn K mainGlobals "abs"=some none)
  (zKO:PySem.W.nsIn K mainGlobals "all"=some none)
  (zBT:PySem.W.nsIn K mainGlobals "bool"=some none)
  (dN:PySem.W.nsIn K mainGlobals "enumerate"=some none)
  (zFJ:PySem.W.nsIn K mainGlobals "int"=some none)
  (zI:PySem.W.nsIn K mainGlobals "isinstance"=some none)
  (yK:PySem.W.nsIn K mainGlobals "len"=some none)
  (zDH:PySem.W.nsIn K mainGlobals "list"=some none)
  (yX:PySem.W.nsIn K mainGlobals "range"=some none)
  (zPX:PySem.W.nsIn K mainGlobals "set"=some none)
  (zKP:PySem.W.nsIn K mainGlobals "str"=some none)
  (yT:PySem.W.nsIn K mainGlobals "tuple"=some none)
  : ∃fd:FuncData,(∀(s:Shared)(v:Value),BindsTo s fd ⟨[v],[]⟩ [("_law_script",v)])∧ ∀base:Heap,K.In base→base.Ns mainGlobals mg→FnOk l.prog w K mg base CX0 7 fa fd ["_law_script"] (zRD K zRH):=by
 have Z_ValueError:=PySem.W.mg_none_of X GG bN
 have Z_abs:=PySem.W.mg_none_of X GG zWE
 have Z_all:=PySem.W.mg_none_of X GG zKO
 have Z_bool:=PySem.W.mg_none_of X GG zBT
 have Z_enumerate:=PySem.W.mg_none_of X GG dN
 have Z_int:=PySem.W.mg_none_of X GG zFJ
 have Z_isinstance:=PySem.W.mg_none_of X GG zI
 have Z_len:=PySem.W.mg_none_of X GG yK
 have Z_list:=PySem.W.mg_none_of X GG zDH
 have Z_range:=PySem.W.mg_none_of X GG yX
 have Z_set:=PySem.W.mg_none_of X GG zPX
 have Z_str:=PySem.W.mg_none_of X GG zKP
 have Z_tuple:=PySem.W.mg_none_of X GG yT
 have M_MOST_ATOMS:=PySem.W.mg_of X GG bO
 have M_MOST_LETTERS:=PySem.W.mg_of X GG jB
 have M_MOST_NAMES:=PySem.W.mg_of X GG bM
 subst j_MendError
 subst j_TooGreat
 subst j_NoText
 subst j_NoPlace
 subst j_NotPlain
 let xl:Nat→Addr:=fun n=>[C_TooGreat,C_NoText,C_NoPlace,C_NotPlain,C_NoTable,C_NoRule,C_NoRow,C_Twice,C_NoQuestion,C_Double,C_TooWide,C_Ring].getD n 0
 have XT:XTab K mg C_MendError (XCS xl):=⟨PySem.W.mg_of X GG zGX,x_MendError,⟨⟨PySem.W.mg_of X GG zJA,_,x_TooGreat⟩,⟨PySem.W.mg_of X GG zPR,_,x_NoText⟩,⟨PySem.W.mg_of X GG zLP,_,x_NoPlace⟩,⟨PySem.W.mg_of X GG zJB,_,x_NotPlain⟩,⟨PySem.W.mg_of X GG zLS,_,x_NoTable⟩,⟨PySem.W.mg_of X GG zPT,_,x_NoRule⟩,⟨PySem.W.mg_of X GG zTT,_,x_NoRow⟩,⟨PySem.W.mg_of X GG zTS,_,x_Twice⟩,⟨PySem.W.mg_of X GG zFA,_,x_NoQuestion⟩,⟨PySem.W.mg_of X GG zPV,_,x_Double⟩,⟨PySem.W.mg_of X GG zLR,_,x_TooWide⟩,⟨PySem.W.mg_of X GG zYK,_,x_Ring⟩,trivial⟩,xd⟩
 have FI_NoQuestion:=yDJ (st:=jP) lI_NoQuestion cI_NoQuestion kI_NoQuestion
 have bI_NoQuestion:=FI_NoQuestion.binds (ps:=["self","place"]) fun _ _ _ _ _ _ us hl=>match us,hl with | [_,_],_=>rfl
 refine yNI D30 hfa (fun _ _ _ _ _ _ s v=>.of_eq rfl) fun base f fd F=>?_
 have GI_NoQuestion:FnOk l.prog w K mg base CX0 1 I_NoQuestion _ ["self","place"] (zZP C_NoQuestion "place"):=yIZ FI_NoQuestion zPK x_MendError y_NoQuestion xm XT.m rfl (fun _=>rfl) (fun _=>rfl) (fun _=>rfl) rfl rfl rfl (by decide) (by decide) (.txt (by decide) (.fld (.nil))) (by decide) (by decide) zJX
 have G0:=zVX (P:=l.prog) (w:=w) (mg:=mg) (base:=base) D0 Z_int Z_isinstance Z_bool
 have G1:=zYC (P:=l.prog) (w:=w) (mg:=mg) (base:=base) D1 Z_str Z_isinstance Z_len M_MOST_LETTERS Z_all
 have G2:=zVZ (P:=l.prog) (w:=w) (mg:=mg) (base:=base) D2 G0 Z_abs G1
 have G3:=zWB (P:=l.prog) (w:=w) (mg:=mg) (base:=base) D3 Z_tuple Z_isinstance Z_len
 have G4:=zIY (P:=l.prog) (w:=w) (mg:=mg) (base:=base) D4 G0
 have G5:=zYE (P:=l.prog) (w:=w) (mg:=mg) (base:=base) D5 G3 G1 G2
 have G6:=zYF (P:=l.prog) (w:=w) (mg:=mg) (base:=base) D6 G3 G4 Z_len G5 Z_all
 have G7:=zWC (P:=l.prog) (w:=w) (mg:=mg) (base:=base) D7 Z_list
 have G8:=zYG (P:=l.prog) (w:=w) (mg:=mg) (base:=base) D8 G7 Z_len M_MOST_NAMES Z_all Z_set
 have G9:=yCM (P:=l.prog) (w:=w) (mg:=mg) (base:=base) D9 Z_list Z_tuple Z_isinstance
 have G10:=zPO (P:=l.prog) (w:=w) (mg:=mg) (base:=base) D10 XT G9 y_NoQuestion GI_NoQuestion bI_NoQuestion Z_enumerate G6 Z_len M_MOST_ATOMS G8 Z_tuple
 have G11:=zMO (P:=l.prog) (w:=w) (mg:=mg) (base:=base) D11 Z_len
 have G12:=zPP (P:=l.prog) (w:=w) (mg:=mg) (base:=base) D12 Z_range
 have G13:=zTL (P:=l.prog) (w:=w) (mg:=mg) (base:=base) D13
 have G14:=zTM (P:=l.prog) (w:=w) (mg:=mg) (base:=base) D14 Z_range G13
 have G15:=zTN (P:=l.prog) (w:=w) (mg:=mg) (base:=base) D15 Z_range G13 G14
 have G16:=zPQ (P:=l.prog) (w:=w) (mg:=mg) (base:=base) D16 Z_range G13
 have G17:=zTP (P:=l.prog) (w:=w) (mg:=mg) (base:=base) D17 G13 Z_len
 have G18:=zQF (P:=l.prog) (w:=w) (mg:=mg) (base:=base) D18 Z_range G13 Z_len G17 Z_tuple
 have G19:=zLN (P:=l.prog) (w:=w) (mg:=mg) (base:=base) D19
 have G20:=zTQ (P:=l.prog) (w:=w) (mg:=mg) (base:=base) D20 G19 Z_range G13 Z_len
 have G21:=zQG (P:=l.prog) (w:=w) (mg:=mg) (base:=base) D21 G14 G13 Z_range
 have G22:=zMP (P:=l.prog) (w:=w) (mg:=mg) (base:=base) D22
 have G23:=zMQ (P:=l.prog) (w:=w) (mg:=mg) (base:=base) D23 Z_len G22
 have G24:=zMS (P:=l.prog) (w:=w) (mg:=mg) (base:=base) D24 Z_str Z_isinstance Z_len
 have G25:=zMU (P:=l.prog) (w:=w) (mg:=mg) (base:=base) D25 Z_tuple Z_isinstance Z_len Z_int Z_bool G24
 have G26:=zMV (P:=l.prog) (w:=w) (mg:=mg) (base:=base) D26 Z_tuple Z_isinstance Z_len Z_int Z_bool G25
 have G27:=zLO (P:=l.prog) (w:=w) (mg:=mg) (base:=base) D27
 have G28:=zWD (P:=l.prog) (w:=w) (mg:=mg) (base:=base) D28 Z_range Z_len G26 G19 Z_str Z_isinstance Z_set
 have G29:=zQH (P:=l.prog) (w:=w) (mg:=mg) (base:=base) D29 XT G10 Z_tuple Z_int Z_isinstance Z_ValueError Z_bool
 exact yNZ (P:=l.prog) (w:=w) (mg:=mg) (base:=base) F G16 G12 G11 Z_tuple G15 G21 Z_range G13 G18 G20 G27 Z_len G26 G23 Z_list G28 G29
theorem walk{l:PySem.W.OpenLaw}{q:Program}{loose:List Str}{XP:(Str→Option Value)→Heap→Prop}{YP:World→Heap→Prop}{d:DefRec}{K:Params→PySem.W.Frag}(hn:l.most=some 63)(hdf:d.params.defaults=[])
  (hY: ∀(w:World)(h:Heap),YP w h→(K w.params).In h)
  (F: ∀(w:World)(mg:Str→Option Value)(fa:Addr)(h:Heap),(K w.params).In h→h.Ns mainGlobals mg→mg d.name=some (.ref fa)→
   ∃fd:FuncData,(∀(s:Shared)(u:Value),BindsTo s fd ⟨[u],[]⟩ [("_law_script",u)])∧ ∀base:Heap,(K w.params).In base→base.Ns mainGlobals mg→FnOk l.prog w (K w.params) mg base CX0 7 fa fd ["_law_script"] (zRD (K w.params) zRH)):
  PySem.W.WalkO q loose XP YP l.row.toRowW d [] (fun f vs=>PySem.call f vs):=
 L2.walk_of (n:=63) (k:=7) (x:="_law_script") (CX:=fun _=>CX0) (sp:=fun w=>zRD (K w.params) zRH) hn (by decide) hdf ⟨rfl,by decide,by decide⟩ hY F
  (fun w H a ns hl hO hS=>yEQ hO hS (yGR ns hl)) fun _ _ _ _ _ z=>z
end My
end M
end L2
noncomputable def zTw:PySem.Params→PySem.Heap:=fun P=>{PySem.W.boot_heap P with objs:=#[]}
noncomputable def PySem.W.Fast.tw5369315105343168506:=zTw
theorem PySem.W.Fast.te5369315105343168506:PySem.W.Fast.tw5369315105343168506=zTw:=rfl
noncomputable def PySem.W.Fast.tw8293153357918642324:=zTw
theorem PySem.W.Fast.te8293153357918642324:PySem.W.Fast.tw8293153357918642324=zTw:=rfl
noncomputable def PySem.W.Fast.tw5432789732044871108:=zTw
theorem PySem.W.Fast.te5432789732044871108:PySem.W.Fast.tw5432789732044871108=zTw:=rfl
noncomputable def PySem.W.Fast.tw8860429732493748287:=zTw
theorem PySem.W.Fast.te8860429732493748287:PySem.W.Fast.tw8860429732493748287=zTw:=rfl
noncomputable def PySem.W.Fast.tw16678952574918963857:=zTw
theorem PySem.W.Fast.te16678952574918963857:PySem.W.Fast.tw16678952574918963857=zTw:=rfl
noncomputable def PySem.W.Fast.tw437881818200661785:=zTw
theorem PySem.W.Fast.te437881818200661785:PySem.W.Fast.tw437881818200661785=zTw:=rfl
noncomputable def PySem.W.Fast.tw12443660416154664436:=zTw
theorem PySem.W.Fast.te12443660416154664436:PySem.W.Fast.tw12443660416154664436=zTw:=rfl
noncomputable def PySem.W.Fast.tw16526197309613608899:=zTw
theorem PySem.W.Fast.te16526197309613608899:PySem.W.Fast.tw16526197309613608899=zTw:=rfl
noncomputable def PySem.W.Fast.tw17895341552199617146:=zTw
theorem PySem.W.Fast.te17895341552199617146:PySem.W.Fast.tw17895341552199617146=zTw:=rfl
noncomputable def PySem.W.Fast.tw1917338071286831840:=zTw
theorem PySem.W.Fast.te1917338071286831840:PySem.W.Fast.tw1917338071286831840=zTw:=rfl
noncomputable def PySem.W.Fast.tw3385604930119985213:=zTw
theorem PySem.W.Fast.te3385604930119985213:PySem.W.Fast.tw3385604930119985213=zTw:=rfl
noncomputable def PySem.W.Fast.tw5866542685468481099:=zTw
theorem PySem.W.Fast.te5866542685468481099:PySem.W.Fast.tw5866542685468481099=zTw:=rfl
noncomputable def PySem.W.Fast.tw17864280929111614119:=zTw
theorem PySem.W.Fast.te17864280929111614119:PySem.W.Fast.tw17864280929111614119=zTw:=rfl
noncomputable def PySem.W.Fast.tw14325038617177001990:=zTw
theorem PySem.W.Fast.te14325038617177001990:PySem.W.Fast.tw14325038617177001990=zTw:=rfl
noncomputable def PySem.W.Fast.tw16881337902640487652:=zTw
theorem PySem.W.Fast.te16881337902640487652:PySem.W.Fast.tw16881337902640487652=zTw:=rfl
noncomputable def PySem.W.Fast.tw3133156808410998505:=zTw
theorem PySem.W.Fast.te3133156808410998505:PySem.W.Fast.tw3133156808410998505=zTw:=rfl
noncomputable def PySem.W.Fast.tw11119618032775187032:=zTw
theorem PySem.W.Fast.te11119618032775187032:PySem.W.Fast.tw11119618032775187032=zTw:=rfl
noncomputable def PySem.W.Fast.tw3262197941706001164:=zTw
theorem PySem.W.Fast.te3262197941706001164:PySem.W.Fast.tw3262197941706001164=zTw:=rfl
noncomputable def PySem.W.Fast.tw14987960733195037039:=zTw
theorem PySem.W.Fast.te14987960733195037039:PySem.W.Fast.tw14987960733195037039=zTw:=rfl
open PySem PySem.W PyProof.Rows
set_option maxRecDepth 100000 in
set_option maxHeartbeats 0 in
theorem PySem.Challenge.cw_mendsure_k31_what_is_no_question_holds : PySem.Challenge.rw_mendsure_k31_what_is_no_question.Holds := by
 w_on; o_law; k_head; (case hw => w_witness2)
 k_fill
 refine L2.M.My.walk (l := PySem.Challenge.rw_mendsure_k31_what_is_no_question) rfl rfl (fun w h Y => PySem.W.kIn_of Y) ?F
 case F =>
  intro w mg fa h KX G hmg
  refine' L2.M.My.all_mk KX G hmg ?D0 ?D1 ?D2 ?D3 ?D4 ?D5 ?D6 ?D7 ?D8 ?D9 ?D10 ?D11 ?D12 ?D13 ?D14 ?D15 ?D16 ?D17 ?D18 ?D19 ?D20 ?D21 ?D22 ?D23 ?D24 ?D25 ?D26 ?D27 ?D28 ?D29 ?D30 ?bO ?jB ?bM ?zGX ?x_MendError ?zJA ?x_TooGreat ?zPR ?x_NoText ?zLP ?x_NoPlace ?zJB ?x_NotPlain ?zLS ?x_NoTable ?zPT ?x_NoRule ?zTT ?x_NoRow ?zTS ?x_Twice ?zFA ?x_NoQuestion ?zPV ?x_Double ?zLR ?x_TooWide ?zYK ?x_Ring ?j_MendError ?j_TooGreat ?j_NoText ?j_NoPlace ?j_NotPlain ?y_NoQuestion ?lI_NoQuestion ?cI_NoQuestion ?kI_NoQuestion ?xm ?xd ?bN ?zWE ?zKO ?zBT ?dN ?zFJ ?zI ?yK ?zDH ?yX ?zPX ?zKP ?yT
  (case D0 => exact L2.M.def_mk (by k_is) (by k_is) (by k_is) (by k_is) KX G)
  (case D1 => exact L2.M.def_mk (by k_is) (by k_is) (by k_is) (by k_is) KX G)
  (case D2 => exact L2.M.def_mk (by k_is) (by k_is) (by k_is) (by k_is) KX G)
  (case D3 => exact L2.M.def_mk (by k_is) (by k_is) (by k_is) (by k_is) KX G)
  (case D4 => exact L2.M.def_mk (by k_is) (by k_is) (by k_is) (by k_is) KX G)
  (case D5 => exact L2.M.def_mk (by k_is) (by k_is) (by k_is) (by k_is) KX G)
  (case D6 => exact L2.M.def_mk (by k_is) (by k_is) (by k_is) (by k_is) KX G)
  (case D7 => exact L2.M.def_mk (by k_is) (by k_is) (by k_is) (by k_is) KX G)
  (case D8 => exact L2.M.def_mk (by k_is) (by k_is) (by k_is) (by k_is) KX G)
  (case D9 => exact L2.M.def_mk (by k_is) (by k_is) (by k_is) (by k_is) KX G)
  (case D10 => exact L2.M.def_mk (by k_is) (by k_is) (by k_is) (by k_is) KX G)
  (case D11 => exact L2.M.def_mk (by k_is) (by k_is) (by k_is) (by k_is) KX G)
  (case D12 => exact L2.M.def_mk (by k_is) (by k_is) (by k_is) (by k_is) KX G)
  (case D13 => exact L2.M.def_mk (by k_is) (by k_is) (by k_is) (by k_is) KX G)
  (case D14 => exact L2.M.def_mk (by k_is) (by k_is) (by k_is) (by k_is) KX G)
  (case D15 => exact L2.M.def_mk (by k_is) (by k_is) (by k_is) (by k_is) KX G)
  (case D16 => exact L2.M.def_mk (by k_is) (by k_is) (by k_is) (by k_is) KX G)
  (case D17 => exact L2.M.def_mk (by k_is) (by k_is) (by k_is) (by k_is) KX G)
  (case D18 => exact L2.M.def_mk (by k_is) (by k_is) (by k_is) (by k_is) KX G)
  (case D19 => exact L2.M.def_mk (by k_is) (by k_is) (by k_is) (by k_is) KX G)
  (case D20 => exact L2.M.def_mk (by k_is) (by k_is) (by k_is) (by k_is) KX G)
  (case D21 => exact L2.M.def_mk (by k_is) (by k_is) (by k_is) (by k_is) KX G)
  (case D22 => exact L2.M.def_mk (by k_is) (by k_is) (by k_is) (by k_is) KX G)
  (case D23 => exact L2.M.def_mk (by k_is) (by k_is) (by k_is) (by k_is) KX G)
  (case D24 => exact L2.M.def_mk (by k_is) (by k_is) (by k_is) (by k_is) KX G)
  (case D25 => exact L2.M.def_mk (by k_is) (by k_is) (by k_is) (by k_is) KX G)
  (case D26 => exact L2.M.def_mk (by k_is) (by k_is) (by k_is) (by k_is) KX G)
  (case D27 => exact L2.M.def_mk (by k_is) (by k_is) (by k_is) (by k_is) KX G)
  (case D28 => exact L2.M.def_mk (by k_is) (by k_is) (by k_is) (by k_is) KX G)
  (case D29 => exact L2.M.def_mk (by k_is) (by k_is) (by k_is) (by k_is) KX G)
  (case D30 => exact L2.M.def_mk (by k_is) (by k_is) (by k_is) (by k_is) KX G)
  (case bO => k_is)
  (case jB => k_is)
  (case bM => k_is)
  (case zGX => k_is)
  (case x_MendError => exact L2.M.xcl_mk (by k_is) (by k_is) rfl (by k_is) (by k_is) (by k_is) (by k_is) (by k_is) (by k_is) (by k_is) rfl)
  (case zJA => k_is)
  (case x_TooGreat => exact L2.M.xcl_mk (by k_is) (by k_is) rfl (by k_is) (by k_is) (by k_is) (by k_is) (by k_is) (by k_is) (by k_is) rfl)
  (case zPR => k_is)
  (case x_NoText => exact L2.M.xcl_mk (by k_is) (by k_is) rfl (by k_is) (by k_is) (by k_is) (by k_is) (by k_is) (by k_is) (by k_is) rfl)
  (case zLP => k_is)
  (case x_NoPlace => exact L2.M.xcl_mk (by k_is) (by k_is) rfl (by k_is) (by k_is) (by k_is) (by k_is) (by k_is) (by k_is) (by k_is) rfl)
  (case zJB => k_is)
  (case x_NotPlain => exact L2.M.xcl_mk (by k_is) (by k_is) rfl (by k_is) (by k_is) (by k_is) (by k_is) (by k_is) (by k_is) (by k_is) rfl)
  (case zLS => k_is)
  (case x_NoTable => exact L2.M.xcl_mk (by k_is) (by k_is) rfl (by k_is) (by k_is) (by k_is) (by k_is) (by k_is) (by k_is) (by k_is) rfl)
  (case zPT => k_is)
  (case x_NoRule => exact L2.M.xcl_mk (by k_is) (by k_is) rfl (by k_is) (by k_is) (by k_is) (by k_is) (by k_is) (by k_is) (by k_is) rfl)
  (case zTT => k_is)
  (case x_NoRow => exact L2.M.xcl_mk (by k_is) (by k_is) rfl (by k_is) (by k_is) (by k_is) (by k_is) (by k_is) (by k_is) (by k_is) rfl)
  (case zTS => k_is)
  (case x_Twice => exact L2.M.xcl_mk (by k_is) (by k_is) rfl (by k_is) (by k_is) (by k_is) (by k_is) (by k_is) (by k_is) (by k_is) rfl)
  (case zFA => k_is)
  (case x_NoQuestion => exact L2.M.xcl_mk (by k_is) (by k_is) rfl (by k_is) (by k_is) (by k_is) (by k_is) (by k_is) (by k_is) (by k_is) rfl)
  (case zPV => k_is)
  (case x_Double => exact L2.M.xcl_mk (by k_is) (by k_is) rfl (by k_is) (by k_is) (by k_is) (by k_is) (by k_is) (by k_is) (by k_is) rfl)
  (case zLR => k_is)
  (case x_TooWide => exact L2.M.xcl_mk (by k_is) (by k_is) rfl (by k_is) (by k_is) (by k_is) (by k_is) (by k_is) (by k_is) (by k_is) rfl)
  (case zYK => k_is)
  (case x_Ring => exact L2.M.xcl_mk (by k_is) (by k_is) rfl (by k_is) (by k_is) (by k_is) (by k_is) (by k_is) (by k_is) (by k_is) rfl)
  (case j_MendError => rfl)
  (case j_TooGreat => rfl)
  (case j_NoText => rfl)
  (case j_NoPlace => rfl)
  (case j_NotPlain => rfl)
  (case y_NoQuestion => exact L2.M.xin_mk (by k_is) (by k_is) rfl (by k_is) (by k_is) (by k_is) (by k_is) (by k_is) (by k_is) (by k_is) (by k_is) rfl)
  (case lI_NoQuestion => k_is)
  (case cI_NoQuestion => k_is)
  (case kI_NoQuestion => k_is)
  (case xm => exact ⟨by k_is, by k_is, by k_is⟩)
  (case xd => decide)
  (case bN => k_is)
  (case zWE => k_is)
  (case zKO => k_is)
  (case zBT => k_is)
  (case dN => k_is)
  (case zFJ => k_is)
  (case zI => k_is)
  (case yK => k_is)
  (case zDH => k_is)
  (case yX => k_is)
  (case zPX => k_is)
  (case zKP => k_is)
  (case yT => k_is)
