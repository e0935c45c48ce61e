import PyProof.Rows.All
import Wide.All
import OpenK.AllK
import Wide.FinOn
import Lean
import PyProof.EqAt
import PyProof.EqKinds
import PyProof.TupleCall
import PySem.Challenge.RW_mendsure_k09_tables_and_rows_judged
set_option Elab.async false
set_option linter.all false
set_option maxRecDepth 100000
namespace L2
open PySem PySem.Spec PyProof.Rows
abbrev Key:=Sum Int Str
def zMT:Key→Value→Bool
 | .inl k,v=>Value.isInt k v
 | .inr x,v=>Value.isStrOf x v
def keyH(w:World):Key→Int
 | .inl k=>hashInt k
 | .inr x=>hashStr w x
theorem xR: ∀{k:Key}{v:Value},zMT k v=true→(∃i t,k=Sum.inl i∧v=Value.int i t)∨(∃x t,k=Sum.inr x∧v=Value.str x t)
 | .inl i,v,h=>by
  obtain⟨t,e⟩:=Value.isInt_shape (k:=i) (v:=v) h
  exact .inl ⟨i,t,rfl,e⟩
 | .inr x,v,h=>by
  obtain⟨t,e⟩:=Value.isStrOf_shape (x:=x) (v:=v) h
  exact .inr ⟨x,t,rfl,e⟩
theorem yKO(a b:Int):decide ((Sum.inl a:Key)=Sum.inl b)=(a==b):=by
 by_cases e:a=b
 ·subst e;simp
 ·have h: ¬(Sum.inl a:Key)=Sum.inl b:=fun q=>e (Sum.inl.inj q)
  rw [decide_eq_false h]
  exact(beq_eq_false_iff_ne.mpr e).symm
theorem yKP(a b:Str):decide ((Sum.inr a:Key)=Sum.inr b)=decide (a=b):=by
 by_cases e:a=b
 ·subst e;simp
 ·have h: ¬(Sum.inr a:Key)=Sum.inr b:=fun q=>e (Sum.inr.inj q)
  rw [decide_eq_false h,decide_eq_false e]
theorem yKQ(a:Int)(b:Str):decide ((Sum.inl a:Key)=Sum.inr b)=false:=decide_eq_false (fun q=>nomatch q)
theorem yKR(a:Str)(b:Int):decide ((Sum.inr a:Key)=Sum.inl b)=false:=decide_eq_false (fun q=>nomatch q)
def zLZ(prog:Program)(w:World):PySem.KeyKind prog w Key where
 is:=zMT
 hash:=keyH w
 inj:=fun v a b ha hb=>by
  rcases xR ha with⟨i,t,rfl,rfl⟩ | ⟨x,t,rfl,rfl⟩
  ·rcases xR hb with⟨j,u,rfl,e⟩ | ⟨y,u,rfl,e⟩
   ·injection e with e1 _;rw [e1]
   ·exact nomatch e
  ·rcases xR hb with⟨j,u,rfl,e⟩ | ⟨y,u,rfl,e⟩
   ·exact nomatch e
   ·injection e with e1 _;rw [e1]
 byValue:=fun k v h=>by
  rcases xR h with⟨i,t,rfl,rfl⟩ | ⟨x,t,rfl,rfl⟩<;>rfl
 pyHash:=fun hv h=>by
  rcases xR hv with⟨i,t,rfl,rfl⟩ | ⟨x,t,rfl,rfl⟩
  ·exact wpAny_pyHash_int h
  ·exact wpAny_pyHash_str h
 eqBool:=fun hu hv h=>by
  rcases xR hu with⟨i,t,rfl,rfl⟩ | ⟨x,t,rfl,rfl⟩
  ·rcases xR hv with⟨j,u,rfl,rfl⟩ | ⟨y,u,rfl,rfl⟩
   ·rw [yKO]at h;exact wpAny_eqBool_int h
   ·rw [yKQ]at h;exact SeqAt.EqAt.int_str i t y u _ _ _ _ h
  ·rcases xR hv with⟨j,u,rfl,rfl⟩ | ⟨y,u,rfl,rfl⟩
   ·rw [yKR]at h;exact SeqAt.EqAt.str_int x t j u _ _ _ _ h
   ·rw [yKP]at h;exact wpAny_eqBool_str h
 «strs»:=fun k x t v h=>by
  rcases xR h with⟨i,u,rfl,e⟩ | ⟨y,u,rfl,e⟩
  ·exact nomatch e
  ·injection e with e1 _
   subst e1
   cases v<;>rfl
end L2
namespace L2
open PySem PySem.Spec PyProof.Rows
inductive V where
 | non | bl (b:Bool) | int (i:Int) | str (x:Str) | byt (b:Array UInt8) | flt (b:UInt64) | ref (a:Addr) | ty (n:String)
 deriving DecidableEq
def RelV:V→Value→Prop
 | .non,u=>u=Value.none
 | .bl b,u=>u=Value.bool b
 | .int i,u=> ∃t,u=Value.int i t
 | .str x,u=> ∃t,u=Value.str x t
 | .byt b,u=> ∃t,u=Value.bytes b t
 | .flt b,u=> ∃t,u=Value.float b t
 | .ref a,u=>u=Value.ref a
 | .ty n,u=>u=Value.type n
abbrev Vals:List V→List Value→Prop:=Paired RelV
theorem Vals.length{xs:List V}{us:List Value}(r:Vals xs us):xs.length=us.length:=Paired.length r
theorem Vals.get: ∀{xs:List V}{us:List Value}{i:Nat}{x:V},Vals xs us→xs[i]? =some x→ ∃u,us[i]? =some u∧RelV x u
 | _,_,_,_,.nil,e=>by simp at e
 | _,_,0,_,.cons r _,e=>by simp at e;subst e;exact⟨_,rfl,r⟩
 | _,_,i+1,x,.cons _ t,e=>by
  obtain⟨u,h1,h2⟩:=Vals.get (i:=i) (x:=x) t (by simpa using e)
  exact⟨u,by simpa using h1,h2⟩
theorem Vals.set{x:V}{u:Value}(r:RelV x u): ∀{xs:List V}{us:List Value}(i:Nat),Vals xs us→Vals (xs.set i x) (us.set i u)
 | _,_,_,.nil=>.nil
 | _,_,0,.cons _ t=>.cons r t
 | _,_,i+1,.cons q t=>.cons q (Vals.set r i t)
theorem Vals.append: ∀{xs ys:List V}{us ws:List Value},Vals xs us→Vals ys ws→Vals (xs++ys) (us++ws)
 | _,_,_,_,.nil,s=>s
 | _,_,_,_,.cons r t,s=>.cons r (Vals.append t s)
theorem Vals.take: ∀{xs:List V}{us:List Value}(n:Nat),Vals xs us→Vals (xs.take n) (us.take n)
 | _,_,0,_=>.nil
 | _,_,_+1,.nil=>.nil
 | _,_,n+1,.cons r t=>.cons r (Vals.take n t)
theorem Vals.drop: ∀{xs:List V}{us:List Value}(n:Nat),Vals xs us→Vals (xs.drop n) (us.drop n)
 | _,_,0,r=>r
 | _,_,_+1,.nil=>.nil
 | _,_,n+1,.cons _ t=>Vals.drop n t
def RelO:Option V→Option Value→Prop
 | some v,some u=>RelV v u
 | none,none=>True
 | _,_=>False
def KV{κ:Type}:List (κ×V)→List (κ×Value)→Prop:=Paired fun(p:κ×V) (q:κ×Value)=>p.1=q.1∧RelV p.2 q.2
def kV:Key→V
 | .inl i=>.int i
 | .inr x=>.str x
inductive HO where
 | lst (xs:List V)
 | tup (xs:List V)
 | dK (kvs:List (Key×V)) | dT (kvs:List (List Key×V))
 | set (S:Int→Bool) (n:Nat)
 | ins (C dx:Addr) (fs:List (Str×V))
 | own (x:Addr)
 | xd (fs:List (Str×V))
 | met (f x:Addr)
 | rng (lo hi:Int)
 | frz (o:Obj) (u:HO)
 | tbl (ps:Array Value)
 | ext (φ:Heap→Prop)
abbrev Hp:=Addr→Option HO
def upd(H:Hp)(a:Addr)(o:HO):Hp:=fun b=>if b=a then some o else H b
theorem zZ{H:Hp}{a:Addr}{o:HO}:upd H a o a=some o:=by unfold upd;rw [if_pos rfl]
theorem zP{H:Hp}{a b:Addr}{o:HO}(h:b≠a):upd H a o b=H b:=by unfold upd;rw [if_neg h]
theorem yF{H:Hp}{a b:Addr}{o:HO}(h:H a=some o)(h':H b=none):a≠b:=by
 intro e;subst e;rw [h]at h';cases h'
section
variable(P:Program)(w:World)
def ObjOk(H:Hp)(h:Heap)(a:Addr):HO→Prop
 | .lst xs=>xs.length≤sizeLine∧ ∃(its:List Value)(n:Nat),Vals xs its∧h.get? a=some {cls:=.type "list",data:=.seq its.toArray n}
 | .tup xs=>xs.length≤sizeLine∧ ∃its:List Value,Vals xs its∧IsTup h a its.toArray
 | .dK kvs=>kvs.length≤sizeLine∧(a==sysModules)=false∧ ∃vs,KV kvs vs∧h.DictOf (zLZ P w) a vs
 | .dT kvs=>kvs.length≤sizeLine∧(a==sysModules)=false∧ ∃xs:List (List Key×Addr×Value),
   Paired (fun(p:List Key×V) (q:List Key×Addr×Value)=>p.1=q.1∧H q.2.1=some (.tup (p.1.map kV))∧RelV p.2 q.2.2) kvs xs∧
   ∃o es ep,h.get? a=some o∧o.ExactDict∧o.data=.dict es ep∧es.toList=xs.map (entryOfKey (tupleKind (zLZ P w)))∧(xs.map (·.1)).Nodup
 | .set S n=>h.SetOf (intKind P w) a S n
 | .ins C dx fs=>H dx=some (.own a)∧fs.length≤1000∧dx≠a∧h.get? a=some (PySem.W.instObj C dx)∧
   ∃mA,h.Ns1 dx mA∧(∀f,RelO (fs.lookup f) (mA f))∧PySem.Within mA (fs.map (·.1))
 | .own _=> ∃o,h.get? a=some o
 | .xd fs=> ∃mA,h.Ns1 a mA∧ ∀f,RelO (fs.lookup f) (mA f)
 | .rng lo hi=> ∃t u v,h.get? a=some {cls:=.type "range",data:=.fields #[.int lo t,.int hi u,.int 1 v]}
 | .frz o u=>h.get? a=some o∧ObjOk H h a u
 | .tbl ps=>h.get? a=some {cls:=.none,data:=.fields ps}
 | .met f x=>h.get? a=some (PySem.W.methodObj (.ref f) (.ref x))
 | .ext φ=>φ h∧(∃o,h.get? a=some o)∧ ∀h1 h2:Heap,φ h1→(∀o,h1.get? a=some o→h2.get? a=some o)→φ h2
def HOk(H:Hp)(h:Heap):Prop:= ∀a o,H a=some o→ObjOk P w H h a o
end
section
variable{P:Program}{w:World}{H H':Hp}{h h':Heap}{a:Addr}{o:HO}
theorem ObjOk.lt(x:ObjOk P w H h a o):a<h.objs.size:=by
 cases o with
 | lst xs=>obtain⟨_,_,_,_,e⟩:=x;exact Heap.lt_size e
 | tup xs=>obtain⟨_,_,_,p⟩:=x;exact p.lt
 | dK kvs=>obtain⟨_,_,_,_,o,_,_,e,_⟩:=x;exact Heap.lt_size e
 | dT kvs=>obtain⟨_,_,_,_,o,_,_,e,_⟩:=x;exact Heap.lt_size e
 | set S n=>obtain⟨o,_,_,_,e,_⟩:=x;exact Heap.lt_size e
 | ins C dx fs=>obtain⟨_,_,_,e,_⟩:=x;exact Heap.lt_size e
 | own y=>obtain⟨_,e⟩:=x;exact Heap.lt_size e
 | xd fs=>obtain⟨_,⟨_,_,_,e,_⟩,_⟩:=x;exact Heap.lt_size e
 | rng lo hi=>obtain⟨_,_,_,e⟩:=x;exact Heap.lt_size e
 | frz ob u=>obtain⟨e,_⟩:=x;exact Heap.lt_size e
 | tbl ps=>exact Heap.lt_size (show h.get? a=some _ from x)
 | met f y=>exact Heap.lt_size (show h.get? a=some _ from x)
 | ext φ=>obtain⟨_,⟨_,e⟩,_⟩:=x;exact Heap.lt_size e
theorem Paired.mapP{α β:Type}{F G:α→β→Prop}: ∀{l₁:List α}{l₂:List β},Paired F l₁ l₂→(∀a b,F a b→G a b)→Paired G l₁ l₂
 | _,_,.nil,_=>.nil
 | _,_,.cons r t,f=>.cons (f _ _ r) (Paired.mapP t f)
theorem ObjOk.stay(x:ObjOk P w H h a o)(k: ∀b u,(b=a∨H b=some (.own a))→h.get? b=some u→h'.get? b=some u)
  (ho: ∀b,H b=some (.own a)→H' b=some (.own a)) (ht: ∀b xs,H b=some (.tup xs)→H' b=some (.tup xs)):ObjOk P w H' h' a o:=by
 induction o with
 | lst xs=>obtain⟨z,its,n,r,e⟩:=x;exact⟨z,its,n,r,k _ _ (.inl rfl) e⟩
 | tup xs=>obtain⟨z,its,r,ob,e,c⟩:=x;exact⟨z,its,r,ob,k _ _ (.inl rfl) e,c⟩
 | dK kvs=>obtain⟨z,y,vs,r,ob,es,ep,e,c⟩:=x;exact⟨z,y,vs,r,ob,es,ep,k _ _ (.inl rfl) e,c⟩
 | dT kvs=>
  obtain⟨z,y,xs,r,ob,es,ep,e,c⟩:=x
  exact⟨z,y,xs,Paired.mapP r fun p q z=>⟨z.1,ht _ _ z.2.1,z.2.2⟩,ob,es,ep,k _ _ (.inl rfl) e,c⟩
 | set S n=>obtain⟨ob,es,ep,t,e,c⟩:=x;exact⟨ob,es,ep,t,k _ _ (.inl rfl) e,c⟩
 | ins C dx fs=>
  obtain⟨d,z,ne,e,mA,⟨od,es,ep,e2,c⟩,r⟩:=x
  exact⟨ho _ d,z,ne,k _ _ (.inl rfl) e,mA,⟨od,es,ep,k _ _ (.inr d) e2,c⟩,r⟩
 | own y=>obtain⟨ob,e⟩:=x;exact⟨ob,k _ _ (.inl rfl) e⟩
 | xd fs=>obtain⟨mA,⟨od,es,ep,e,c⟩,r⟩:=x;exact⟨mA,⟨od,es,ep,k _ _ (.inl rfl) e,c⟩,r⟩
 | rng lo hi=>obtain⟨t,u,v,e⟩:=x;exact⟨t,u,v,k _ _ (.inl rfl) e⟩
 | frz ob u ih=>obtain⟨e,q⟩:=x;exact⟨k _ _ (.inl rfl) e,ih q⟩
 | tbl ps=>
  have e:h.get? a=some {cls:=.none,data:=.fields ps}:=x
  show h'.get? a=some {cls:=.none,data:=.fields ps}
  exact k a _ (.inl rfl) e
 | met f y=>
  have e:h.get? a=some (PySem.W.methodObj (.ref f) (.ref y)):=x
  show h'.get? a=some (PySem.W.methodObj (.ref f) (.ref y))
  exact k a _ (.inl rfl) e
 | ext φ=>obtain⟨p,⟨o,e⟩,st⟩:=x;exact⟨st _ _ p fun o q=>k _ _ (.inl rfl) q,⟨o,k _ _ (.inl rfl) e⟩,st⟩
theorem HOk.lt(x:HOk P w H h)(e:H a=some o):a<h.objs.size:=(x a o e).lt
theorem HOk.fresh(x:HOk P w H h)(e:h.objs.size≤a):H a=none:=by
 cases q:H a with
 | none=>rfl
 | some u=>exact absurd (Nat.lt_of_lt_of_le (x.lt q) e) (Nat.lt_irrefl _)
theorem HOk.kept(x:HOk P w H h)(k: ∀b u,h.get? b=some u→h'.get? b=some u):HOk P w H h':=fun a o e=>
 (x a o e).stay (fun b u _ q=>k b u q) (fun _ q=>q) fun _ _ q=>q
theorem HOk.laid(x:HOk P w H h)(k: ∀b u,h.get? b=some u→h'.get? b=some u)(hp:h.objs.size≤a)(new:ObjOk P w (upd H a o) h' a o):HOk P w (upd H a o) h':=fun b u e=>by
 have hn:=x.fresh hp
 by_cases hb:b=a
 ·subst hb;rw [zZ]at e;cases e;exact new
 ·rw [zP hb]at e
  exact(x b u e).stay (fun c v _ q=>k c v q) (fun c q=>by rw [zP (yF q hn)];exact q) fun c xs q=>by rw [zP (yF q hn)];exact q
end
def Rd(H:Hp)(a:Addr)(u:HO):Prop:=H a=some u∨ ∃o,H a=some (.frz o u)
theorem Rd.ok{P:Program}{w:World}{H:Hp}{h:Heap}{a:Addr}{u:HO}(r:Rd H a u)(x:HOk P w H h):ObjOk P w H h a u:=by
 rcases r with r | ⟨o,r⟩
 ·exact x a u r
 ·obtain⟨_,q⟩:=x a _ r
  exact q
def Mut:Option HO→Prop
 | some (.lst _)=>True
 | some (.dK _)=>True
 | some (.dT _)=>True
 | some (.set _ _)=>True
 | some (.ins _ _ _)=>True
 | some (.ext _)=>True
 | _=>False
section
variable{P:Program}{w:World}{H:Hp}{h h':Heap}{x e:Addr}{o':HO}
theorem HOk.write(ok:HOk P w H h)(mu:Mut (H x))(he:e=x∨H e=some (.own x))(k: ∀b u,b≠e→h.get? b=some u→h'.get? b=some u)(heo: ∃u,h'.get? e=some u)
  (new:ObjOk P w (upd H x o') h' x o'):HOk P w (upd H x o') h':=fun b u q=>by
 have nown: ∀c y,H c=some (.own y)→c≠x:=fun c y r z=>by subst z;rw [r]at mu;exact mu
 have ntup: ∀c xs,H c=some (.tup xs)→c≠x:=fun c xs r z=>by subst z;rw [r]at mu;exact mu
 by_cases hb:b=x
 ·subst hb;rw [zZ]at q;cases q;exact new
 ·rw [zP hb]at q
  by_cases hbe:b=e
  ·have q':H b=some (.own x):=by
    rcases he with z | z
    ·exact absurd (hbe.trans z) hb
    ·rw [hbe];exact z
   rw [q]at q';cases q'
   obtain⟨v,hv⟩:=heo
   exact⟨v,by rw [hbe];exact hv⟩
  ·refine(ok b u q).stay (fun c v hc r=>k c v ?_ r) (fun c r=>by rw [zP (nown c b r)];exact r) fun c xs r=>by rw [zP (ntup c xs r)];exact r
   rcases hc with rfl | hc
   ·exact hbe
   ·rintro rfl
    rcases he with z | z
    ·exact nown c b hc z
    ·rw [hc]at z;cases z;exact hb rfl
end
structure Un(fs ex:List Addr)(H H':Hp)(h h':Heap):Prop where
 keep: ∀b o,h.get? b=some o→H b=none→b∉fs→b∉ex→h'.get? b=some o
 slot: ∀b o,h.get? b=some o→H b=none→b∈fs→b∉ex→ ∃sl,h'.get? b=some {o with slots:=sl}
 free: ∀b o,h.get? b=some o→H b=none→b∉ex→H' b=none
 there: ∀b o,h.get? b=some o→b∉ex→ ∃o',h'.get? b=some o'
 tups: ∀b xs,H b=some (.tup xs)→H' b=some (.tup xs)
 frzs: ∀b o u,H b=some (.frz o u)→H' b=some (.frz o u)
 tbls: ∀b ps,H b=some (.tbl ps)→ ∃more,H' b=some (.tbl (ps++more))
section
variable{fs fs' ex ex':List Addr}{H H1 H2:Hp}{h h1 h2 h':Heap}{a x e:Addr}{o:HO}
theorem Un.any(u:Un fs ex H H1 h h1){b:Addr}{ob:Obj}(q:h.get? b=some ob)(n:H b=none)(hx:b∉ex): ∃sl,h1.get? b=some {ob with slots:=sl}:=by
 by_cases hb:b∈fs
 ·exact u.slot b ob q n hb hx
 ·exact⟨ob.slots,u.keep b ob q n hb hx⟩
theorem Un.kept(k: ∀b u,h.get? b=some u→h'.get? b=some u):Un fs ex H H h h':=
 ⟨fun b ob q _ _ _=>k b ob q,fun b ob q _ _ _=>⟨ob.slots,k b ob q⟩,fun _ _ _ n _=>n,fun b ob q _=>⟨ob,k b ob q⟩,fun _ _ q=>q,fun _ _ _ q=>q,fun _ ps q=>⟨#[],by rw [q];simp⟩⟩
theorem Un.refl:Un fs ex H H h h:=Un.kept fun _ _ q=>q
theorem Un.laid(k: ∀b u,h.get? b=some u→h'.get? b=some u)(hp:h.objs.size≤a)(hn:H a=none):Un fs ex H (upd H a o) h h' where
 keep:=fun b u q _ _ _=>k b u q
 slot:=fun b u q _ _ _=>⟨u.slots,k b u q⟩
 free:=fun b u q n _=>by rw [zP (Nat.ne_of_lt (Nat.lt_of_lt_of_le (Heap.lt_size q) hp))];exact n
 there:=fun b u q _=>⟨u,k b u q⟩
 tups:=fun b xs q=>by rw [zP (yF q hn)];exact q
 frzs:=fun b u xs q=>by rw [zP (yF q hn)];exact q
 tbls:=fun b ps q=>⟨#[],by rw [zP (yF q hn),q];simp⟩
theorem Un.write(mu:Mut (H x))(he:e=x∨H e=some (.own x))(k: ∀b u,b≠e→h.get? b=some u→h'.get? b=some u)(heo: ∃u,h'.get? e=some u):Un fs ex H (upd H x o) h h':=by
 have hx: ∀b,H b=none→b≠x:=fun b n z=>by subst z;rw [n]at mu;exact mu
 have hb: ∀b,H b=none→b≠e:=fun b n z=>by
  subst z
  rcases he with r | r
  ·exact hx b n r
  ·rw [n]at r;cases r
 have hm: ∀b u,H b=some u→ ¬Mut (some u)→b≠x:=fun b u q nm z=>by subst z;rw [q]at mu;exact nm mu
 refine⟨fun b u q n _ _=>k b u (hb b n) q,fun b u q n _ _=>⟨u.slots,k b u (hb b n) q⟩,fun b u q n _=>by rw [zP (hx b n)];exact n,fun b u q _=>?_,
  fun b xs q=>by rw [zP (hm b _ q fun z=>z)];exact q,fun b u xs q=>by rw [zP (hm b _ q fun z=>z)];exact q,fun b ps q=>⟨#[],by rw [zP (hm b _ q fun z=>z),q];simp⟩⟩
 by_cases hbe:b=e
 ·subst hbe;exact heo
 ·exact⟨u,k b u hbe q⟩
end
def trk(h:Heap)(H:Hp):List Addr:=(List.range h.objs.size).filter fun a=>(H a).isSome
def zRJ(h:Heap)(H:Hp):Heap:=PySem.W.hideAll h (trk h H)
theorem yBB(h:Heap)(H:Hp):(zRJ h H).objs.size=h.objs.size:=PySem.W.hideAll_size _ _
theorem yCX{h:Heap}{H:Hp}{b:Addr}{o:Obj}(e:h.get? b=some o)(n:H b=none):(zRJ h H).get? b=some o:=
 PySem.W.hideAll_get _ e fun hm=>by
  have q:(H b).isSome=true:=(List.mem_filter.mp hm).2
  rw [n]at q;simp at q
theorem yGV{h:Heap}{H:Hp}{b:Addr}{o:Obj}(e:(zRJ h H).get? b=some o):h.get? b=some o∧H b=none:=by
 have e':h.get? b=some o:=PySem.W.of_hideAll (trk h H) e
 refine⟨e',?_⟩
 cases q:H b with
 | none=>rfl
 | some x=>
  have hm:b∈trk h H:=List.mem_filter.mpr ⟨List.mem_range.mpr (Heap.lt_size e'),by simp [q]⟩
  have z:(zRJ h H).get? b=none:=PySem.W.hideAll_none (trk h H) hm
  rw [z]at e;cases e
def yGW(g h:Heap)(L:Addr):List (Addr×Obj):=(List.range h.objs.size).filterMap fun a=>if a=L∨(g.get? a).isSome=true then none else(h.get? a).map fun o=>(a,o)
def rest(g h:Heap)(L d:Addr):List (Addr×Obj):=(yGW g h L).filter fun p=>decide (p.1≠d)
end L2
namespace L2
open PySem PySem.Spec PyProof.Rows
structure Mod(K:PySem.W.Frag)(mg:Str→Option Value)(base:Heap):Prop where
 kin:K.In base
 glob:base.Ns mainGlobals mg
 blt: ∃mb,base.Ns builtinsNs mb∧ ∀x:Str,x≠"__name__"→mb x=bootBuiltins x
 nolimit:base.NoLimit
structure Cx where
 prog:Program
 w:World
 K:PySem.W.Frag
 mg:Str→Option Value
 base:Heap
 A:Around
 N:List Str
 s₀:Shared
 H₀:Hp
 env:Env
 outer:List Env
 stack:List Env
 ex:List Addr
 fn:Str→Bool
 calm:Bool
 pn:List (Addr×Obj)
 xe:Value→Shared→Prop
def frs(l:List Env):List Addr:=l.filterMap (·.frame)
abbrev Cx.fs(X:Cx):List Addr:=frs X.outer
def Vis(sc:Scope)(x:Str):Prop:=sc.names.lookup x=some .local∨sc.names.lookup x=some .cell∨sc.names.lookup x=some .free
def Loc(sc:Scope)(x:Str):Prop:=sc.names.lookup x=some .local∨sc.names.lookup x=some .cell
def Look(env:Env)(h:Heap)(m:Str→Option Value)(x:Str)(u:Value):Prop:=
 (env.kindOf x=some .local∧m x=some u)∨((env.kindOf x=some .cell∨env.kindOf x=some .free)∧ ∃c,env.cells.lookup x=some c∧h.IsCell c (some u))
structure Cx.Ok(X:Cx):Prop where
 mod:Mod X.K X.mg X.base
 kind:X.env.scope.kind=.function
 glob:X.env.globals=mainGlobals
 blt:X.env.builtins=builtinsNs
 above:X.s₀.heap.objs.size≤X.env.locals
 inj: ∀x y c,X.env.cells.lookup x=some c→X.env.cells.lookup y=some c→x=y
 has: ∀x,(X.env.kindOf x=some .cell∨X.env.kindOf x=some .free)→ ∃c,X.env.cells.lookup x=some c
 cab: ∀x c,X.fn x=true→X.env.cells.lookup x=some c→X.s₀.heap.objs.size≤c
 hd:X.calm=true→X.A.handled=none
 frames:X.A.frames=some X.stack
 stk:X.stack=X.outer∨(X.stack=X.env::X.outer∧X.env.frame=some X.env.locals)
 exf: ∀b∈X.ex,b≠X.env.locals∧ ∀x c,X.env.cells.lookup x=some c→c≠b
 bs: ∀b o,X.base.get? b=some o→X.s₀.heap.get? b=some o∧X.H₀ b=none
 bsz:X.base.objs.size≤X.s₀.heap.objs.size
 noex: ∀b o,X.base.get? b=some o→b∉X.ex
 exfs: ∀b∈X.ex,b∉X.fs
 funs:X.s₀.heap.FunFrames X.base X.outer
 frf: ∀b∈X.fs,X.H₀ b=none
structure Inv(X:Cx)(pins:List (Addr×Obj))(σ:List (Option V))(H:Hp)(s:Shared):Prop where
 ok:X.Ok
 os:s.os=X.s₀.os
 bare:AllBare s.gens
 base:Un X.fs X.ex X.H₀ H X.s₀.heap s.heap
 loc: ∃m,s.heap.Ns X.env.locals m∧ ∀(i:Nat)(x:Str)(v:V),X.N[i]? =some x→σ[i]? =some (some v)→Vis X.env.scope x→ ∃u,RelV v u∧Look X.env s.heap m x u
 cell: ∀x c,X.env.cells.lookup x=some c→ ∃v,s.heap.IsCell c v
 free:H X.env.locals=none
 freeC: ∀x c,X.env.cells.lookup x=some c→H c=none
 pin: ∀p∈X.pn++pins,s.heap.get? p.1=some p.2∧H p.1=none∧p.1≠X.env.locals∧p.1∉X.fs∧ ∀v,p.2.data≠.cell v
 hok:HOk X.prog X.w H s.heap
 len:σ.length=X.N.length
section
variable{X:Cx}{pins:List (Addr×Obj)}{σ:List (Option V)}{H H':Hp}{s:Shared}{h':Heap}
theorem Cx.Ok.nofr(ok:X.Ok){b:Addr}{o:Obj}(e:X.base.get? b=some o):b∉X.fs:=fun hb=>by
 have:=(ok.funs.mem hb).1
 rw [e]at this;cases this
theorem Inv.bs(I:Inv X pins σ H s): ∀b o,X.base.get? b=some o→s.heap.get? b=some o∧H b=none:=fun b o e=>
 ⟨I.base.keep b o (I.ok.bs b o e).1 (I.ok.bs b o e).2 (I.ok.nofr e) (I.ok.noex b o e),I.base.free b o (I.ok.bs b o e).1 (I.ok.bs b o e).2 (I.ok.noex b o e)⟩
theorem Inv.bk(I:Inv X pins σ H s): ∀b o,X.base.get? b=some o→s.heap.get? b=some o:=fun b o e=>(I.bs b o e).1
theorem Inv.mod(I:Inv X pins σ H s):Mod X.K X.mg X.base:=I.ok.mod
theorem Inv.kIn(I:Inv X pins σ H s):X.K.In s.heap:=I.ok.mod.kin.keeps I.bk
theorem Inv.lt(I:Inv X pins σ H s):X.env.locals<s.heap.objs.size:=let ⟨_,hn,_⟩:=I.loc;hn.lt
theorem Inv.sz(I:Inv X pins σ H s):X.s₀.heap.objs.size≤s.heap.objs.size:=Nat.le_trans I.ok.above (Nat.le_of_lt I.lt)
theorem Inv.nofs(I:Inv X pins σ H s){a:Addr}(h:s.heap.objs.size≤a):a∉X.fs:=fun hb=>by
 obtain⟨_,o,ho,_⟩:=I.ok.funs.mem hb
 exact absurd (Nat.lt_of_lt_of_le (Heap.lt_size ho) (Nat.le_trans I.sz h)) (Nat.lt_irrefl _)
theorem Inv.cne(I:Inv X pins σ H s): ∀x c,X.env.cells.lookup x=some c→c≠X.env.locals:=fun x c e z=>by
 obtain⟨v,o,ho,hd⟩:=I.cell x c e
 obtain⟨m,⟨o',es,ep,ho',hd',_⟩,_⟩:=I.loc
 rw [z,ho']at ho;cases ho;rw [hd']at hd;cases hd
theorem Inv.funs(I:Inv X pins σ H s):s.heap.FunFrames X.base X.outer:=by
 have all: ∀(l:List Env),(∀b∈frs l,b∈X.fs)→X.s₀.heap.FunFrames X.base l→s.heap.FunFrames X.base l:=by
  intro l
  induction l with
  | nil=>intro _ _;trivial
  | cons env r ih=>
   intro hs hl
   obtain⟨hk,⟨L,o,hf,hn,ho,hd⟩,hr⟩:=hl
   have hL:L∈X.fs:=hs L (by unfold frs;rw [List.filterMap_cons,hf];exact List.mem_cons_self)
   obtain⟨sl,e⟩:=I.base.slot L o ho (I.ok.frf L hL) hL fun z=>I.ok.exfs L z hL
   exact⟨hk,⟨L,_,hf,hn,e,hd⟩,ih (fun b hb=>hs b (by unfold frs;rw [List.filterMap_cons,hf];exact List.mem_cons_of_mem _ hb)) hr⟩
 exact all X.outer (fun _ hb=>hb) I.ok.funs
theorem Inv.stack(I:Inv X pins σ H s):s.heap.FunFrames X.base X.stack:=by
 rcases I.ok.stk with e | ⟨e,hf⟩
 ·rw [e];exact I.funs
 ·rw [e]
  obtain⟨m,hn,_⟩:=I.loc
  refine .cons (by rw [I.ok.kind];decide) hf hn ?_ I.funs
  exact Heap.get?_none_of_le (Nat.le_trans I.ok.bsz I.ok.above)
theorem Inv.stkSub(I:Inv X pins σ H s): ∀b∈frs X.stack,b∈X.env.locals::X.fs:=fun b hb=>by
 rcases I.ok.stk with e | ⟨e,hf⟩
 ·rw [e]at hb;exact List.mem_cons_of_mem _ hb
 ·rw [e]at hb
  unfold frs at hb
  rw [List.filterMap_cons,hf]at hb
  exact hb
theorem Inv.stkFree(I:Inv X pins σ H s): ∀b∈frs X.stack,H b=none:=fun b hb=>by
 rcases List.mem_cons.mp (I.stkSub b hb)with e | hb
 ·rw [e];exact I.free
 ·obtain⟨_,o,ho,_⟩:=I.ok.funs.mem hb
  exact I.base.free b o ho (I.ok.frf b hb) fun z=>I.ok.exfs b z hb
theorem Inv.step{g':Array GenState}{t':Nat}{d':Drawn}{ch:List Addr}(I:Inv X pins σ H s)
  (hch: ∀b∈ch,(b∈X.ex∨X.s₀.heap.objs.size≤b)∧b≠X.env.locals∧(∀x c,X.env.cells.lookup x=some c→c≠b)∧ ∀p∈X.pn++pins,p.1≠b)
  (keep: ∀b o,b≠X.env.locals→b∉X.fs→b∉ch→s.heap.get? b=some o→H b=none→h'.get? b=some o)
  (slot: ∀b o,b≠X.env.locals→b∈X.fs→b∉ch→s.heap.get? b=some o→H b=none→ ∃sl,h'.get? b=some {o with slots:=sl}) (free: ∀b o,b∉ch→s.heap.get? b=some o→H b=none→H' b=none)
  (there: ∀b o,b∉ch→s.heap.get? b=some o→ ∃o',h'.get? b=some o')
  (tups: ∀b xs,H b=some (.tup xs)→H' b=some (.tup xs)) (frzs: ∀b o u,H b=some (.frz o u)→H' b=some (.frz o u)) (tbls: ∀b ps,H b=some (.tbl ps)→ ∃more,H' b=some (.tbl (ps++more)))
  (ns: ∀m,s.heap.Ns X.env.locals m→h'.Ns X.env.locals m) (hok:HOk X.prog X.w H' h') (hg:AllBare g'):
  Inv X pins σ H' {s with heap:=h',gens:=g',drawn:=d',toks:=t'}:=by
 have neL: ∀b o,X.s₀.heap.get? b=some o→b≠X.env.locals:=fun b o e=>Nat.ne_of_lt (Nat.lt_of_lt_of_le (Heap.lt_size e) I.ok.above)
 have neC: ∀b o,X.s₀.heap.get? b=some o→b∉X.ex→b∉ch:=fun b o e hx hb=>by
  rcases (hch b hb).1 with z | z
  ·exact hx z
  ·exact absurd (Nat.lt_of_lt_of_le (Heap.lt_size e) z) (Nat.lt_irrefl _)
 have cellK: ∀x c,X.env.cells.lookup x=some c→ ∀v,s.heap.IsCell c v→h'.IsCell c v:=fun x c e v ⟨o,ho,hd⟩=>by
  have nch:c∉ch:=fun z=>(hch c z).2.2.1 x c e rfl
  by_cases hc:c∈X.fs
  ·obtain⟨sl,q⟩:=slot c o (I.cne x c e) hc nch ho (I.freeC x c e)
   exact⟨_,q,hd⟩
  ·exact⟨o,keep c o (I.cne x c e) hc nch ho (I.freeC x c e),hd⟩
 refine⟨I.ok,I.os,hg,⟨fun b o e n hb hx=>?_,fun b o e n hb hx=>?_,fun b o e n hx=>?_,fun b o e hx=>?_,fun b xs e=>tups b xs (I.base.tups b xs e),fun b o xs e=>frzs b o xs (I.base.frzs b o xs e),fun b ps e=>?_⟩,?_,fun x c e=>?_,?_,fun x c e=>?_,fun p hp=>?_,hok,I.len⟩
 ·exact keep b o (neL b o e) hb (neC b o e hx) (I.base.keep b o e n hb hx) (I.base.free b o e n hx)
 ·obtain⟨sl,e1⟩:=I.base.slot b o e n hb hx
  obtain⟨sl',e2⟩:=slot b _ (neL b o e) hb (neC b o e hx) e1 (I.base.free b o e n hx)
  exact⟨sl',e2⟩
 ·obtain⟨o',e1⟩:=I.base.there b o e hx
  exact free b o' (neC b o e hx) e1 (I.base.free b o e n hx)
 ·obtain⟨o',e1⟩:=I.base.there b o e hx
  exact there b o' (neC b o e hx) e1
 ·obtain⟨m1,e1⟩:=I.base.tbls b ps e
  obtain⟨m2,e2⟩:=tbls b _ e1
  exact⟨m1++m2,by rw [e2,Array.append_assoc]⟩
 ·obtain⟨m,hn,hl⟩:=I.loc
  refine⟨m,ns m hn,fun i x v e1 e2 e3=>?_⟩
  obtain⟨u,r,l⟩:=hl i x v e1 e2 e3
  refine⟨u,r,?_⟩
  rcases l with l | ⟨k,c,e,z⟩
  ·exact .inl l
  ·exact .inr ⟨k,c,e,cellK x c e _ z⟩
 ·obtain⟨v,z⟩:=I.cell x c e
  exact⟨v,cellK x c e v z⟩
 ·obtain⟨m,⟨o,_,_,ho,_⟩,_⟩:=I.loc
  exact free _ o (fun z=>(hch _ z).2.1 rfl) ho I.free
 ·obtain⟨v,o,ho,hd⟩:=I.cell x c e
  exact free c o (fun z=>(hch c z).2.2.1 x c e rfl) ho (I.freeC x c e)
 ·obtain⟨e,n,ne,nf,d⟩:=I.pin p hp
  have nch:p.1∉ch:=fun z=>(hch p.1 z).2.2.2 p hp rfl
  exact⟨keep p.1 p.2 ne nf nch e n,free p.1 p.2 nch e n,ne,nf,d⟩
theorem Inv.un{t':Nat}(I:Inv X pins σ H s)(u:Un X.fs [] H H' s.heap h')(hok:HOk X.prog X.w H' h'):Inv X pins σ H' {s with heap:=h',toks:=t'}:=by
 obtain⟨m,⟨o,es,ep,ho,r⟩,_⟩:=id I.loc
 obtain⟨sl,hL⟩:=u.any ho I.free (by simp)
 exact I.step (g':=s.gens) (d':=s.drawn) (ch:=[]) (fun _ z=>nomatch z) (fun b o _ hb _ e n=>u.keep b o e n hb (by simp)) (fun b o _ hb _ e n=>u.slot b o e n hb (by simp)) (fun b o _ e n=>u.free b o e n (by simp)) (fun b o _ e=>u.there b o e (by simp)) u.tups u.frzs u.tbls (fun m' hm=>by
  obtain⟨o',es',ep',ho',r'⟩:=hm
  rw [ho]at ho';cases ho'
  exact⟨_,es',ep',hL,r'⟩) hok I.bare
theorem Inv.call{g':Array GenState}{t':Nat}{d':Drawn}{ch:List Addr}(I:Inv X pins σ H s)(u:Un (frs X.stack) ch H H' s.heap h')(hok:HOk X.prog X.w H' h')(hg:AllBare g')
  (hch: ∀b∈ch,(b∈X.ex∨X.s₀.heap.objs.size≤b)∧b≠X.env.locals∧(∀x c,X.env.cells.lookup x=some c→c≠b)∧ ∀p∈X.pn++pins,p.1≠b):
  Inv X pins σ H' {s with heap:=h',gens:=g',drawn:=d',toks:=t'}:=by
 obtain⟨m,⟨o,es,ep,ho,r⟩,_⟩:=id I.loc
 obtain⟨sl,hL⟩:=u.any ho I.free fun z=>(hch _ z).2.1 rfl
 exact I.step (ch:=ch) hch (fun b o hL hb hc e n=>u.keep b o e n (fun z=>(List.mem_cons.mp (I.stkSub b z)).elim hL hb) hc) (fun b o _ _ hc e n=>u.any e n hc) (fun b o hc e n=>u.free b o e n hc) (fun b o hc e=>u.there b o e hc) u.tups u.frzs u.tbls (fun m' hm=>by
  obtain⟨o',es',ep',ho',r'⟩:=hm
  rw [ho]at ho';cases ho'
  exact⟨_,es',ep',hL,r'⟩) hok hg
theorem Inv.turned{t':Nat}{it:Addr}(I:Inv X pins σ H s)(k: ∀b o,b≠it→s.heap.get? b=some o→h'.get? b=some o)(hn:H it=none)(hL:it≠X.env.locals)
  (h1:it∈X.ex∨X.s₀.heap.objs.size≤it) (h2: ∀x c,X.env.cells.lookup x=some c→c≠it) (h3: ∀p∈X.pn++pins,p.1≠it):Inv X pins σ H {s with heap:=h',toks:=t'}:=by
 have nit: ∀b u,H b=some u→b≠it:=fun b u e z=>by rw [z,hn]at e;cases e
 refine I.step (g':=s.gens) (d':=s.drawn) (ch:=[it]) (fun b hb=>?_) (fun b o _ _ hc e _=>k b o (fun z=>hc (by simp [z])) e) (fun b o _ _ hc e _=>⟨o.slots,k b o (fun z=>hc (by simp [z])) e⟩) (fun _ _ _ _ n=>n)
  (fun b o hc e=>⟨o,k b o (fun z=>hc (by simp [z])) e⟩) (fun _ _ e=>e) (fun _ _ _ e=>e) (fun b ps e=>⟨#[],by rw [e];simp⟩) (fun m hm=>?_) (fun b u e=>?_) I.bare
 ·have e:b=it:=by simpa using hb
  subst e
  exact⟨h1,hL,h2,h3⟩
 ·obtain⟨o,es,ep,ho,r⟩:=hm
  exact⟨o,es,ep,k _ o (Ne.symm hL) ho,r⟩
 ·refine(I.hok b u e).stay (fun c v hc q=>k c v ?_ q) (fun _ q=>q) fun _ _ q=>q
  rcases hc with z | z
  ·rw [z];exact nit b u e
  ·exact nit c _ z
theorem Inv.tok(I:Inv X pins σ H s)(t:Nat):Inv X pins σ H {s with toks:=t}:=I.un (h':=s.heap) (t':=t) Un.refl I.hok
theorem Inv.kept{t':Nat}(I:Inv X pins σ H s)(k: ∀b u,s.heap.get? b=some u→h'.get? b=some u):Inv X pins σ H {s with heap:=h',toks:=t'}:=I.un (Un.kept k) (I.hok.kept k)
theorem Inv.laid{a:Addr}{o:HO}{t':Nat}(I:Inv X pins σ H s)(k: ∀b u,s.heap.get? b=some u→h'.get? b=some u)(hp:s.heap.objs.size≤a)(new:ObjOk X.prog X.w (upd H a o) h' a o):
  Inv X pins σ (upd H a o) {s with heap:=h',toks:=t'}:=I.un (Un.laid k hp (I.hok.fresh hp)) (I.hok.laid k hp new)
theorem Inv.write{x e:Addr}{o:HO}{t':Nat}(I:Inv X pins σ H s)(mu:Mut (H x))(he:e=x∨H e=some (.own x))(k: ∀b u,b≠e→s.heap.get? b=some u→h'.get? b=some u)(heo: ∃u,h'.get? e=some u)
  (new:ObjOk X.prog X.w (upd H x o) h' x o):Inv X pins σ (upd H x o) {s with heap:=h',toks:=t'}:=I.un (Un.write mu he k heo) (I.hok.write mu he k heo new)
theorem Inv.pins_of{pins':List (Addr×Obj)}(I:Inv X pins σ H s)(h: ∀p∈pins',s.heap.get? p.1=some p.2∧H p.1=none∧p.1≠X.env.locals∧p.1∉X.fs∧ ∀v,p.2.data≠.cell v):Inv X pins' σ H s:=
 ⟨I.ok,I.os,I.bare,I.base,I.loc,I.cell,I.free,I.freeC,fun p hp=>(List.mem_append.mp hp).elim (fun z=>I.pin p (List.mem_append_left _ z)) (h p),I.hok,I.len⟩
theorem zMU{N:List Str}(hN:N.Nodup){i j:Nat}{x:Str}(a:N[i]? =some x)(b:N[j]? =some x):i=j:=by
 obtain⟨h1,e1⟩:=List.getElem?_eq_some_iff.mp a
 obtain⟨h2,e2⟩:=List.getElem?_eq_some_iff.mp b
 exact(List.getElem_inj hN).mp (e1.trans e2.symm)
theorem zQG{M:Model}{A:Around}{E:Value→Shared→Prop}{i:Nat}{x:Str}{v:V}{u:Value}{Q:Unit→Shared→Prop}(I:Inv X pins σ H s)(hN:X.N.Nodup)(hi:X.N[i]? =some x)(hx:Loc X.env.scope x)(r:RelV v u)
  (h: ∀s',Inv X pins (σ.set i (some v)) H s'→(∃a,Heap.SameBut a s.heap s'.heap∧(a=X.env.locals∨X.env.cells.lookup x=some a))→Q () s') (hf:X.fn x=true∨X.env.scope.names.lookup x=some .local:=by first | exact .inl rfl | exact .inr rfl | assumption):wpAny M A (storeName X.env x u) Q E s:=by
 obtain⟨m,hn,hl⟩:=id I.loc
 have hcls:(X.env.scope.kind==.class || (X.env.scope.kind==.module&&X.env.locals !=X.env.globals))=false:=by rw [I.ok.kind];rfl
 have hiσ:i<σ.length:=by rw [I.len];exact(List.getElem?_eq_some_iff.mp hi).1
 have cne:=I.cne
 have tracked: ∀{a:Addr}{h':Heap},(∃o,s.heap.get? a=some o∧H a=none)→Heap.SameBut a s.heap h'→HOk X.prog X.w H h':=fun {a h'} ha hs b ob e=>by
  obtain⟨_,_,hfree⟩:=ha
  refine(I.hok b ob e).stay (fun c w' hc q=>(hs.2 c ?_).trans q) (fun _ q=>q) fun _ _ q=>q
  rintro rfl
  rcases hc with rfl | hc
  ·rw [hfree]at e;cases e
  ·rw [hfree]at hc;cases hc
 rcases hx with hk | hk
 ·refine wpAny_storeName_local hk hn (fun h' hn' hs=>?_) hcls
  obtain⟨oL,_,_,hoL,_⟩:=id hn
  refine h _ ⟨I.ok,I.os,I.bare,⟨fun b o e n hb hx=>?_,fun b o e n hb hx=>?_,I.base.free,fun b o e hx=>?_,I.base.tups,I.base.frzs,I.base.tbls⟩,⟨_,hn',fun j y v' e1 e2 e3=>?_⟩,fun y c e=>?_,I.free,I.freeC,fun p hp=>?_,tracked ⟨oL,hoL,I.free⟩ hs,by simpa using I.len⟩ ⟨_,hs,.inl rfl⟩
  ·exact(hs.2 b (Nat.ne_of_lt (Nat.lt_of_lt_of_le (Heap.lt_size e) I.ok.above))).trans (I.base.keep b o e n hb hx)
  ·obtain⟨sl,e1⟩:=I.base.slot b o e n hb hx
   exact⟨sl,(hs.2 b (Nat.ne_of_lt (Nat.lt_of_lt_of_le (Heap.lt_size e) I.ok.above))).trans e1⟩
  ·obtain⟨o',e1⟩:=I.base.there b o e hx
   exact⟨o',(hs.2 b (Nat.ne_of_lt (Nat.lt_of_lt_of_le (Heap.lt_size e) I.ok.above))).trans e1⟩
  ·by_cases hj:j=i
   ·subst hj
    rw [hi]at e1;cases e1
    rw [List.getElem?_set_self hiσ]at e2
    cases e2
    exact⟨u,r,.inl ⟨hk,by simp⟩⟩
   ·rw [List.getElem?_set_ne (Ne.symm hj)]at e2
    obtain⟨u',r',q⟩:=hl j y v' e1 e2 e3
    refine⟨u',r',?_⟩
    rcases q with⟨k,e⟩ | ⟨k,c,e,z⟩
    ·refine .inl ⟨k,?_⟩
     have:y≠x:=fun e=>hj (zMU hN e1 (e▸hi))
     simp [this,e]
    ·exact .inr ⟨k,c,e,z.sameBut hs (cne y c e)⟩
  ·obtain⟨w',z⟩:=I.cell y c e
   exact⟨w',z.sameBut hs (cne y c e)⟩
  ·obtain⟨e,n,ne,nf,d⟩:=I.pin p hp
   exact⟨(hs.2 p.1 ne).trans e,n,ne,nf,d⟩
 ·have hfn:X.fn x=true:=by
   rcases hf with z | z
   ·exact z
   ·rw [z]at hk;cases hk
  obtain⟨c,hc⟩:=I.ok.has x (.inl hk)
  obtain⟨w',z⟩:=I.cell x c hc
  refine wpAny_storeName_cell I.ok.kind hk hc z (fun h' hc' hs=>?_)
  obtain⟨oc,hoc,hocd⟩:=id z
  refine h {s with heap:=h'} ⟨I.ok,I.os,I.bare,⟨fun b o e n hb hx=>?_,fun b o e n hb hx=>?_,I.base.free,fun b o e hx=>?_,I.base.tups,I.base.frzs,I.base.tbls⟩,⟨m,hn.sameBut hs (Ne.symm (cne x c hc)),fun j y v' e1 e2 e3=>?_⟩,fun y c' e=>?_,I.free,I.freeC,fun p hp=>?_,tracked ⟨oc,hoc,I.freeC x c hc⟩ hs,by simpa using I.len⟩ ⟨c,hs,.inr hc⟩
  ·exact(hs.2 b (Nat.ne_of_lt (Nat.lt_of_lt_of_le (Heap.lt_size e) (I.ok.cab x c hfn hc)))).trans (I.base.keep b o e n hb hx)
  ·obtain⟨sl,e1⟩:=I.base.slot b o e n hb hx
   exact⟨sl,(hs.2 b (Nat.ne_of_lt (Nat.lt_of_lt_of_le (Heap.lt_size e) (I.ok.cab x c hfn hc)))).trans e1⟩
  ·obtain⟨o',e1⟩:=I.base.there b o e hx
   exact⟨o',(hs.2 b (Nat.ne_of_lt (Nat.lt_of_lt_of_le (Heap.lt_size e) (I.ok.cab x c hfn hc)))).trans e1⟩
  ·by_cases hj:j=i
   ·subst hj
    rw [hi]at e1;cases e1
    rw [List.getElem?_set_self hiσ]at e2
    cases e2
    exact⟨u,r,.inr ⟨.inl hk,c,hc,hc'⟩⟩
   ·rw [List.getElem?_set_ne (Ne.symm hj)]at e2
    obtain⟨u',r',q⟩:=hl j y v' e1 e2 e3
    refine⟨u',r',?_⟩
    rcases q with q | ⟨k,c',e,z'⟩
    ·exact .inl q
    ·refine .inr ⟨k,c',e,z'.sameBut hs ?_⟩
     rintro rfl
     exact hj (zMU hN e1 (I.ok.inj _ _ _ e hc▸hi))
  ·by_cases hcc:c'=c
   ·subst hcc;exact⟨_,hc'⟩
   ·obtain⟨w2,z2⟩:=I.cell y c' e
    exact⟨w2,z2.sameBut hs hcc⟩
  ·obtain⟨e,n,ne,nf,d⟩:=I.pin p hp
   refine⟨(hs.2 p.1 ?_).trans e,n,ne,nf,d⟩
   intro q
   rw [q,hoc]at e
   have q':oc=p.2:=Option.some.inj e
   exact d w' (by rw [←q'];exact hocd)
theorem zMV{M:Model}{A:Around}{E:Value→Shared→Prop}{i:Nat}{x:Str}{v:V}{u:Value}{Q:Unit→Shared→Prop}(I:Inv X pins σ H s)(hN:X.N.Nodup)(hi:X.N[i]? =some x)(hx:Loc X.env.scope x)(r:RelV v u)
  (h: ∀s',Inv X pins (σ.set i (some v)) H s'→Q () s') (hf:X.fn x=true∨X.env.scope.names.lookup x=some .local:=by first | exact .inl rfl | exact .inr rfl | assumption):wpAny M A (storeName X.env x u) Q E s:=
 zQG I hN hi hx r (fun s' I' _=>h s' I') hf
theorem Inv.call'{s':Shared}{ch:List Addr}(I:Inv X pins σ H s)(ho:s'.os=s.os)(u:Un (frs X.stack) ch H H' s.heap s'.heap)(hok:HOk X.prog X.w H' s'.heap)(hg:AllBare s'.gens)
  (hch: ∀b∈ch,(b∈X.ex∨X.s₀.heap.objs.size≤b)∧b≠X.env.locals∧(∀x c,X.env.cells.lookup x=some c→c≠b)∧ ∀p∈X.pn++pins,p.1≠b):Inv X pins σ H' s':=by
 obtain⟨h',g',d',t',o'⟩:=s'
 have e:o'=s.os:=ho
 subst e
 exact I.call (g':=g') (t':=t') (d':=d') u hok hg hch
end
abbrev XK:=Value→Option Addr→Hp→Prop
abbrev St:=List (Option V)
abbrev VK:=V→Hp→Prop
abbrev TE:=St→Hp→VK→Prop
abbrev TT:=St→Hp→(Bool→Hp→Prop)→Prop
abbrev TA:=St→Hp→(List V→Hp→Prop)→Prop
structure Ends where
 nx:St→Hp→Prop
 rt:VK
 bk:St→Hp→Prop:=fun _ _=>False
 ct:St→Hp→Prop:=fun _ _=>False
abbrev TS:=Ends→St→Hp→Prop
def EP(X:Cx)(pins:List (Addr×Obj))(σ:St)(Q:VK)(u:Value)(s':Shared):Prop:= ∃v H',Inv X pins σ H' s'∧RelV v u∧Q v H'
def TP(X:Cx)(pins:List (Addr×Obj))(σ:St)(Q:Bool→Hp→Prop)(b:Bool)(s':Shared):Prop:= ∃H',Inv X pins σ H' s'∧Q b H'
def AP(X:Cx)(pins:List (Addr×Obj))(σ:St)(Q:List V→Hp→Prop)(us:List Value)(s':Shared):Prop:= ∃vs H',Inv X pins σ H' s'∧Vals vs us∧Q vs H'
def SP(X:Cx)(pins:List (Addr×Obj))(D:Ends)(f:Flow)(s':Shared):Prop:=
 match f with
 | .next=> ∃σ' H',Inv X pins σ' H' s'∧D.nx σ' H'
 | .brk=> ∃σ' H',Inv X pins σ' H' s'∧D.bk σ' H'
 | .cont=> ∃σ' H',Inv X pins σ' H' s'∧D.ct σ' H'
 | .ret u=> ∃v σ' H',Inv X pins σ' H' s'∧RelV v u∧D.rt v H'
def PE(X:Cx)(e:Expr)(t:TE):Prop:=
 ∀(pins:List (Addr×Obj))(s:Shared)(σ:St)(H:Hp)(Q:VK),Inv X pins σ H s→t σ H Q→wpAny (model X.prog X.w) X.A (eval e X.env) (EP X pins σ Q) X.xe s
def PT(X:Cx)(e:Expr)(t:TT):Prop:=
 ∀(pins:List (Addr×Obj))(s:Shared)(σ:St)(H:Hp)(Q:Bool→Hp→Prop),Inv X pins σ H s→t σ H Q→wpAny (model X.prog X.w) X.A (isTrue e X.env (eval e X.env)) (TP X pins σ Q) X.xe s
def PW(X:Cx)(e:Expr)(t:TT):Prop:=
 ∀(whole:Sem Value)(pins:List (Addr×Obj))(s:Shared)(σ:St)(H:Hp)(Q:Bool→Hp→Prop),Inv X pins σ H s→t σ H Q→wpAny (model X.prog X.w) X.A (isTrue e X.env whole) (TP X pins σ Q) X.xe s
theorem PW.pt{X:Cx}{e:Expr}{t:TT}(h:PW X e t):PT X e t:=h _
def PA(X:Cx)(es:List Expr)(t:TA):Prop:=
 ∀(pos:Pos)(pins:List (Addr×Obj))(s:Shared)(σ:St)(H:Hp)(Q:List V→Hp→Prop),Inv X pins σ H s→t σ H Q→wpAny (model X.prog X.w) X.A (spliced (backTo pos (starEach es X.env))) (AP X pins σ Q) X.xe s
def PS(X:Cx)(st:Stmt)(t:TS):Prop:=
 ∀(pins:List (Addr×Obj))(s:Shared)(σ:St)(H:Hp)(D:Ends),Inv X pins σ H s→t D σ H→wpAny (model X.prog X.w) X.A (exec st X.env) (SP X pins D) X.xe s
def PSs(X:Cx)(st:List Stmt)(t:TS):Prop:=
 ∀(pins:List (Addr×Obj))(s:Shared)(σ:St)(H:Hp)(D:Ends),Inv X pins σ H s→t D σ H→wpAny (model X.prog X.w) X.A (execs st X.env) (SP X pins D) X.xe s
theorem thn{α:Type}{t:Sem α}{Q Q':α→Shared→Prop}{M:Model}{A:Around}{E:Value→Shared→Prop}{s:Shared}(h:wpAny M A t Q E s)(hQ: ∀a s,Q a s→Q' a s):wpAny M A t Q' E s:=wpAny_mono h hQ fun _ _ x=>x
end L2
namespace L2
open PySem PySem.Spec PyProof.Rows
section
variable{X:Cx}
def tVar(i:Nat):TE:=fun σ H Q=> ∃v,σ[i]? =some (some v)∧Q v H
def tC(v:V):TE:=fun _ H Q=>Q v H
theorem zMW{i:Nat}{x:Str}{pos:Pos}(hN:X.N[i]? =some x)(hv:Vis X.env.scope x)(hd:(x==("__debug__":Str))=false:=by decide)(hcd:(x==("__classdict__":Str))=false:=by decide):PE X (.Name x pos) (tVar i):=by
 intro pins s σ H Q I h
 obtain⟨v,e,h⟩:=h
 obtain⟨m,hn,hl⟩:=I.loc
 obtain⟨u,r,l⟩:=hl i x v hN e hv
 have fin:EP X pins σ Q u s:=⟨v,H,I,r,h⟩
 rcases l with⟨hk,hm⟩ | ⟨hk,c,hc,hcell⟩
 ·exact wpAny_Name (wpAny_loadName_local I.ok.kind hk hn hm fin) hd
 ·rcases hk with hk | hk
  ·exact wpAny_Name (wpAny_loadName_cell I.ok.kind hk hc hcell fin) hd
  ·exact wpAny_Name (wpAny_loadName_free I.ok.kind hk hc hcell fin hcd) hd
theorem yCY{i j pos}:PE X (.Constant (.int i) j pos) (tC (.int i)):=fun _ _ _ H _ I h=>wpAny_Constant_int ⟨.int i,H,I.tok _,⟨_,rfl⟩,h⟩
theorem pe_bl{b j pos}:PE X (.Constant (.bool b) j pos) (tC (.bl b)):=fun _ _ _ H _ I h=>Constant_bool ⟨.bl b,H,I,rfl,h⟩
theorem yKS{j pos}:PE X (.Constant .none j pos) (tC .non):=fun _ _ _ H _ I h=>Constant_none ⟨.non,H,I,rfl,h⟩
theorem yCZ{x j pos}:PE X (.Constant (.str x) j pos) (tC (.str x)):=fun _ _ _ H _ I h=>Calls.Constant_str ⟨.str x,H,I.tok _,⟨_,rfl⟩,h⟩
def Gl(X:Cx)(x:Str):Prop:=X.env.kindOf x=some .globalImplicit
theorem zAK{E:Value→Shared→Prop}{pins:List (Addr×Obj)}{s:Shared}{σ:St}{H:Hp}{x:Str}{u:Value}{pos:Pos}{Q:Value→Shared→Prop}(I:Inv X pins σ H s)(hg:Gl X x)(hm:X.mg x=some u)(h:Q u s)
  (hd:(x==("__debug__":Str))=false:=by decide):wpAny (model X.prog X.w) X.A (eval (.Name x pos) X.env) Q E s:=
 Calls.Name_function_global I.ok.kind hg (Calls.loadGlobal_global (by rw [I.ok.glob];exact I.mod.glob.keeps I.bk) hm h) hd
theorem zJW{E:Value→Shared→Prop}{pins:List (Addr×Obj)}{s:Shared}{σ:St}{H:Hp}{x:Str}{u:Value}{pos:Pos}{Q:Value→Shared→Prop}(I:Inv X pins σ H s)(hg:Gl X x)(hm:X.mg x=none)(hv:bootBuiltins x=some u)(h:Q u s)
  (hn:x≠"__name__":=by decide) (hd:(x==("__debug__":Str))=false:=by decide):wpAny (model X.prog X.w) X.A (eval (.Name x pos) X.env) Q E s:=by
 obtain⟨mb,h1,h2⟩:=I.mod.blt
 exact Calls.Name_function_global I.ok.kind hg (Calls.loadGlobal_builtin (by rw [I.ok.glob];exact I.mod.glob.keeps I.bk) hm (by rw [I.ok.blt];exact h1.keeps I.bk) ((h2 x hn).trans hv) h) hd
theorem zRK{x:Str}{v:V}{u:Value}{pos:Pos}(hg:Gl X x)(hm:X.mg x=some u)(r:RelV v u)(hd:(x==("__debug__":Str))=false:=by decide):PE X (.Name x pos) (tC v):=
 fun _ _ _ H _ I h=>zAK I hg hm ⟨v,H,I,r,h⟩ hd
theorem zZB{x:Str}{v:V}{u:Value}{pos:Pos}(hg:Gl X x)(hm:X.mg x=none)(hv:bootBuiltins x=some u)(r:RelV v u)(hn:x≠"__name__":=by decide)(hd:(x==("__debug__":Str))=false:=by decide):PE X (.Name x pos) (tC v):=
 fun _ _ _ H _ I h=>zJW I hg hm hv ⟨v,H,I,r,h⟩ hn hd
variable{a b:Expr}{ta tb:TE}{pos:Pos}
variable{tA tB':TT}{rest:List Expr}
def tAnd(t u:TT):TT:=fun σ H Q=>t σ H fun c H1=>if c=true then u σ H1 Q else Q false H1
def tOr(t u:TT):TT:=fun σ H Q=>t σ H fun c H1=>if c=true then Q true H1 else u σ H1 Q
def tNot(t:TT):TT:=fun σ H Q=>t σ H fun c H1=>Q (!c) H1
theorem yGX(ha:PT X a tA):PW X (.BoolOp .And [a] pos) tA:=by
 intro wh pins s σ H Q I h
 refine isTrue_and (thn (ha pins s σ H Q I h) fun c s1 e=>?_)
 cases c with
 | true=>exact isTrue_and_nil e
 | false=>exact e
theorem yKT(ha:PT X a tA):PW X (.BoolOp .Or [a] pos) tA:=by
 intro wh pins s σ H Q I h
 refine isTrue_or (thn (ha pins s σ H Q I h) fun c s1 e=>?_)
 cases c with
 | false=>exact isTrue_or_nil e
 | true=>exact e
theorem yKU(ha:PT X a tA)(hb:PW X (.BoolOp .And (b::rest) pos) tB'):PW X (.BoolOp .And (a::b::rest) pos) (tAnd tA tB'):=by
 intro wh pins s σ H Q I h
 refine isTrue_and (thn (ha pins s σ H _ I h) fun c s1 ⟨H1,I1,q1⟩=>?_)
 cases c with
 | true=>exact hb wh pins s1 σ H1 Q I1 q1
 | false=>exact⟨H1,I1,q1⟩
theorem pw_or(ha:PT X a tA)(hb:PW X (.BoolOp .Or (b::rest) pos) tB'):PW X (.BoolOp .Or (a::b::rest) pos) (tOr tA tB'):=by
 intro wh pins s σ H Q I h
 refine isTrue_or (thn (ha pins s σ H _ I h) fun c s1 ⟨H1,I1,q1⟩=>?_)
 cases c with
 | true=>exact⟨H1,I1,q1⟩
 | false=>exact hb wh pins s1 σ H1 Q I1 q1
theorem yKV(ha:PT X a tA):PT X (.UnaryOp .Not a pos) (tNot tA):=by
 intro pins s σ H Q I h
 exact isTrue_not (ha pins s σ H (fun c H1=>Q (!c) H1) I h)
def tAndV(ta tb:TE):TE:=fun σ H Q=>ta σ H fun x H1=> ∃c,x=.bl c∧if c=true then tb σ H1 Q else Q (.bl false) H1
def tOrV(ta tb:TE):TE:=fun σ H Q=>ta σ H fun x H1=> ∃c,x=.bl c∧if c=true then Q (.bl true) H1 else tb σ H1 Q
def tNotV(ta:TE):TE:=fun σ H Q=>ta σ H fun x H1=> ∃c,x=.bl c∧Q (.bl (!c)) H1
theorem yKW{op}{t:TE}(h:PE X a t):PE X (.BoolOp op [a] pos) t:=fun pins s σ H Q I hw=>BoolOp_one (h pins s σ H Q I hw)
theorem yKX(ha:PE X a ta)(hb:PE X (.BoolOp .And (b::rest) pos) tb):PE X (.BoolOp .And (a::b::rest) pos) (tAndV ta tb):=by
 intro pins s σ H Q I h
 refine BoolOp_and (thn (ha pins s σ H _ I h) fun v s1 ⟨x,H1,I1,r1,q1⟩=>?_)
 obtain⟨c,rfl,q1⟩:=q1
 cases r1
 refine wpAny_truthy_bool ?_
 cases c with
 | true=>exact hb pins s1 σ H1 Q I1 q1
 | false=>exact⟨.bl false,H1,I1,rfl,q1⟩
theorem pe_or(ha:PE X a ta)(hb:PE X (.BoolOp .Or (b::rest) pos) tb):PE X (.BoolOp .Or (a::b::rest) pos) (tOrV ta tb):=by
 intro pins s σ H Q I h
 refine BoolOp_or (thn (ha pins s σ H _ I h) fun v s1 ⟨x,H1,I1,r1,q1⟩=>?_)
 obtain⟨c,rfl,q1⟩:=q1
 cases r1
 refine wpAny_truthy_bool ?_
 cases c with
 | false=>exact hb pins s1 σ H1 Q I1 q1
 | true=>exact⟨.bl true,H1,I1,rfl,q1⟩
theorem yKY(ha:PE X a ta):PE X (.UnaryOp .Not a pos) (tNotV ta):=by
 intro pins s σ H Q I h
 refine UnaryOp_ (thn (ha pins s σ H _ I h) fun v s1 ⟨x,H1,I1,r1,q1⟩=>?_)
 obtain⟨c,rfl,q1⟩:=q1
 cases r1
 exact not_of (wpAny_truthy_bool ⟨.bl (!c),H1,I1,rfl,q1⟩)
end
end L2
namespace L2
open PySem PySem.Spec PyProof.Rows
def SqL(K:PySem.W.Frag)(H:Hp)(a:Addr)(xs:List V):Prop:=
 Rd H a (.lst xs)∨
  ∃(o:Obj)(its:Array Value)(n:Nat),K.lookup a=some o∧o.cls=.type "list"∧o.dict=none∧o.data=.seq its n∧its.size≤sizeLine∧Vals xs its.toList
def SqT(K:PySem.W.Frag)(H:Hp)(a:Addr)(xs:List V):Prop:=
 Rd H a (.tup xs)∨
  ∃(o:Obj)(its:Array Value)(n:Nat),K.lookup a=some o∧o.cls=.type "tuple"∧o.data=.seq its n∧its.size≤sizeLine∧Vals xs its.toList
def absV:Value→Option V
 | .none=>some .non
 | .bool b=>some (.bl b)
 | .int i _=>some (.int i)
 | .str x _=>some (.str x)
 | .bytes b _=>some (.byt b)
 | .float b _=>some (.flt b)
 | .ref a=>some (.ref a)
 | .type n=>some (.ty n)
 | _=>none
theorem RelV.abs{x:V}{u:Value}(r:RelV x u):absV u=some x:=by
 cases x with
 | non=>cases r;rfl
 | bl _=>cases r;rfl
 | int _=>obtain⟨t,rfl⟩:=r;rfl
 | str _=>obtain⟨t,rfl⟩:=r;rfl
 | byt _=>obtain⟨t,rfl⟩:=r;rfl
 | flt _=>obtain⟨t,rfl⟩:=r;rfl
 | ref _=>cases r;rfl
 | ty _=>cases r;rfl
theorem RelV.inj{x y:V}{u:Value}(r:RelV x u)(q:RelV y u):x=y:=Option.some.inj (r.abs.symm.trans q.abs)
theorem Vals.inj: ∀{xs ys:List V}{us:List Value},Vals xs us→Vals ys us→xs=ys
 | _,_,_,.nil,.nil=>rfl
 | _,_,_,.cons r t,.cons r' t'=>by rw [r.inj r',Vals.inj t t']
section
variable{X:Cx}{pins:List (Addr×Obj)}{σ:St}{H:Hp}{s:Shared}{a:Addr}{xs ys:List V}
theorem SqL.of{K:PySem.W.Frag}(h:H a=some (.lst xs)):SqL K H a xs:=.inl (.inl h)
theorem SqT.of{K:PySem.W.Frag}(h:H a=some (.tup xs)):SqT K H a xs:=.inl (.inl h)
theorem Inv.list(I:Inv X pins σ H s)(h:SqL X.K H a xs): ∃its:List Value,Vals xs its∧PlainL s.heap a its.toArray∧xs.length≤sizeLine:=by
 rcases h with h | ⟨o,its,n,hk,hc,hd,hs,hz,r⟩
 ·obtain⟨z,its,n,r,e⟩:=h.ok I.hok
  exact⟨its,r,⟨_,n,e,rfl,rfl,rfl⟩,z⟩
 ·refine⟨its.toList,r,⟨o,n,I.kIn a o hk,hc,hd,by simpa using hs⟩,?_⟩
  have e:=r.length
  simp only [Array.length_toList]at e
  omega
theorem Inv.tuple(I:Inv X pins σ H s)(h:SqT X.K H a xs): ∃its:List Value,Vals xs its∧IsTup s.heap a its.toArray∧xs.length≤sizeLine:=by
 rcases h with h | ⟨o,its,n,hk,hc,hs,hz,r⟩
 ·obtain⟨z,its,r,p⟩:=h.ok I.hok
  exact⟨its,r,p,z⟩
 ·refine⟨its.toList,r,⟨o,I.kIn a o hk,hc,n,by simpa using hs⟩,?_⟩
  have e:=r.length
  simp only [Array.length_toList]at e
  omega
theorem Inv.list_inj(I:Inv X pins σ H s)(h:SqL X.K H a xs)(h':SqL X.K H a ys):xs=ys:=by
 obtain⟨its,r,⟨o,n,e,_,_,d⟩,_⟩:=I.list h
 obtain⟨its',r',⟨o',n',e',_,_,d'⟩,_⟩:=I.list h'
 rw [e]at e';cases e'
 rw [d]at d'
 injection d' with d1 _
 have:its=its':=by simpa using congrArg Array.toList d1
 subst this
 exact r.inj r'
theorem Inv.tuple_inj(I:Inv X pins σ H s)(h:SqT X.K H a xs)(h':SqT X.K H a ys):xs=ys:=by
 obtain⟨its,r,⟨o,e,_,n,d⟩,_⟩:=I.tuple h
 obtain⟨its',r',⟨o',e',_,n',d'⟩,_⟩:=I.tuple h'
 rw [e]at e';cases e'
 rw [d]at d'
 injection d' with d1 _
 have:its=its':=by simpa using congrArg Array.toList d1
 subst this
 exact r.inj r'
end
abbrev Cx.wish(X:Cx)(E:Value→Shared→Prop):Cx:={X with xe:=E}
abbrev Cx.nox(X:Cx):Cx:=X.wish fun _ _=>False
theorem Cx.Ok.wish{X:Cx}(ok:X.Ok)(E:Value→Shared→Prop):(X.wish E).Ok:=
 ⟨ok.mod,ok.kind,ok.glob,ok.blt,ok.above,ok.inj,ok.has,ok.cab,ok.hd,ok.frames,ok.stk,ok.exf,ok.bs,ok.bsz,ok.noex,ok.exfs,ok.funs,ok.frf⟩
theorem Cx.Ok.unwish{X:Cx}{E:Value→Shared→Prop}(ok:(X.wish E).Ok):X.Ok:=
 ⟨ok.mod,ok.kind,ok.glob,ok.blt,ok.above,ok.inj,ok.has,ok.cab,ok.hd,ok.frames,ok.stk,ok.exf,ok.bs,ok.bsz,ok.noex,ok.exfs,ok.funs,ok.frf⟩
section
variable{X:Cx}{pins:List (Addr×Obj)}{σ:St}{H:Hp}{s:Shared}{E:Value→Shared→Prop}
theorem Inv.wish(I:Inv X pins σ H s)(E:Value→Shared→Prop):Inv (X.wish E) pins σ H s:=⟨I.ok.wish E,I.os,I.bare,I.base,I.loc,I.cell,I.free,I.freeC,I.pin,I.hok,I.len⟩
theorem Inv.unwish(I:Inv (X.wish E) pins σ H s):Inv X pins σ H s:=⟨I.ok.unwish,I.os,I.bare,I.base,I.loc,I.cell,I.free,I.freeC,I.pin,I.hok,I.len⟩
theorem SP.unwish{D:Ends}{f:Flow}{s':Shared}(h:SP (X.wish E) pins D f s'):SP X pins D f s':=by
 cases f with
 | next=>obtain⟨σ',H',I,q⟩:=h;exact⟨σ',H',I.unwish,q⟩
 | brk=>obtain⟨σ',H',I,q⟩:=h;exact⟨σ',H',I.unwish,q⟩
 | cont=>obtain⟨σ',H',I,q⟩:=h;exact⟨σ',H',I.unwish,q⟩
 | ret u=>obtain⟨v,σ',H',I,r,q⟩:=h;exact⟨v,σ',H',I.unwish,r,q⟩
theorem PSs.nox{st:List Stmt}{t:TS}(h:PSs X.nox st t):PSs X st t:=fun pins s σ H D I hw=>
 wpAny_mono (h pins s σ H D (I.wish _) hw) (fun _ _ q=>q.unwish) fun _ _ z=>False.elim z
end
section
variable{X:Cx}{st:Stmt}{rest:List Stmt}{t u:TS}{e:Expr}{te:TE}{pos:Pos}
def tNext:TS:=fun D σ H=>D.nx σ H
def tSeq(t u:TS):TS:=fun D σ H=>t {D with nx:=u D} σ H
theorem yGY:PSs X [] tNext:=fun _ _ σ H _ I h=>wpAny_execs_nil ⟨σ,H,I,h⟩
theorem yDA(h1:PS X st t)(h2:PSs X rest u):PSs X (st::rest) (tSeq t u):=by
 intro pins s σ H D I h
 refine wpAny_execs_cons (thn (h1 pins s σ H {D with nx:=u D} I h) fun f s1 q=>?_)
 cases f with
 | next=>
  obtain⟨σ',H',I',q⟩:=q
  exact h2 pins s1 σ' H' D I' q
 | ret v=>exact q
 | brk=>exact q
 | cont=>exact q
theorem yGZ(h1:PS X st t):PSs X [st] t:=by
 intro pins s σ H D I h
 refine wpAny_execs_cons (thn (h1 pins s σ H D I h) fun f s1 q=>?_)
 cases f with
 | next=>exact wpAny_execs_nil q
 | ret v=>exact q
 | brk=>exact q
 | cont=>exact q
theorem Inv.quiet{pins:List (Addr×Obj)}{σ:St}{H:Hp}{s:Shared}(I:Inv X pins σ H s):interactive X.env=false:=by simp [interactive,I.ok.kind]
def tDrop(te:TE):TS:=fun D σ H=>te σ H fun _ H1=>D.nx σ H1
theorem yHA(he:PE X e te)(hs:swapsWith e none pos.line X.env=pure false:=by rfl):PS X (.Expr e pos) (tDrop te):=by
 intro pins s σ H D I h
 exact wpAny_Expr_any (thn (he pins s σ H _ I h) fun v s1 ⟨x,H1,I1,r1,q1⟩=>⟨σ,H1,I1,q1⟩) I.quiet hs
def tRet(te:TE):TS:=fun D σ H=>te σ H D.rt
theorem yKZ(he:PE X e te):PS X (.Return (some e) pos) (tRet te):=by
 intro pins s σ H D I h
 exact wpAny_Return_some (thn (he pins s σ H _ I h) fun v s1 ⟨x,H1,I1,r1,q1⟩=>⟨x,σ,H1,I1,r1,q1⟩)
def tIfS(c:TT)(t u:TS):TS:=fun D σ H=>c σ H fun b H1=>if b=true then t D σ H1 else u D σ H1
theorem ps_if{c:Expr}{a b:List Stmt}{tc:TT}(hc:PT X c tc)(ha:PSs X a t)(hb:PSs X b u):PS X (.If c a b pos) (tIfS tc t u):=by
 intro pins s σ H D I h
 refine wpAny_If (thn (hc pins s σ H _ I h) fun d s1 ⟨H1,I1,q1⟩=>?_)
 cases d with
 | true=>exact ha pins s1 σ H1 D I1 q1
 | false=>exact hb pins s1 σ H1 D I1 q1
end
abbrev TG:=V→St→Hp→(St→Hp→Prop)→Prop
abbrev TGs:=List V→St→Hp→(St→Hp→Prop)→Prop
def PG(X:Cx)(target:Expr)(t:TG):Prop:=
 ∀(pins:List (Addr×Obj))(s:Shared)(σ:St)(H:Hp)(v:V)(u:Value)(Q:St→Hp→Prop),Inv X pins σ H s→RelV v u→t v σ H Q→
  wpAny (model X.prog X.w) X.A (assign target X.env u) (fun _ s'=> ∃σ' H',Inv X pins σ' H' s'∧Q σ' H') X.xe s
def PGs(X:Cx)(ts:List Expr)(t:TGs):Prop:=
 ∀(pins:List (Addr×Obj))(s:Shared)(σ:St)(H:Hp)(vs:List V)(us:List Value)(Q:St→Hp→Prop),Inv X pins σ H s→Vals vs us→t vs σ H Q→
  wpAny (model X.prog X.w) X.A (assignInOrder ((assignEach ts X.env).map (·.2)) us) (fun _ s'=> ∃σ' H',Inv X pins σ' H' s'∧Q σ' H') X.xe s
abbrev TSet:=V→V→V→Hp→(Hp→Prop)→Prop
def PSet(X:Cx)(t:TSet):Prop:=
 ∀(pins:List (Addr×Obj))(s:Shared)(σ:St)(H:Hp)(o i v:V)(ov iv u:Value)(Q:Hp→Prop),Inv X pins σ H s→RelV o ov→RelV i iv→RelV v u→t o i v H Q→
  wpAny (model X.prog X.w) X.A (setItem ov iv u) (fun _ s'=> ∃H',Inv X pins σ H' s'∧Q H') X.xe s
section
variable{X:Cx}{pos:Pos}
def yDB(i:Nat):TG:=fun v σ H Q=>Q (σ.set i (some v)) H
theorem zZC{i:Nat}{x:Str}(hN:X.N.Nodup)(hi:X.N[i]? =some x)(hx:Loc X.env.scope x)(hf:X.fn x=true∨X.env.scope.names.lookup x=some .local:=by first | exact .inl rfl | exact .inr rfl | assumption):PG X (.Name x pos) (yDB i):=by
 intro pins s σ H v u Q I r h
 exact wpAny_assign_Name (zMV I hN hi hx r (fun s' I'=>⟨_,H,I',h⟩) hf)
def gNil:TGs:=fun vs σ H Q=>vs=[]∧Q σ H
def gCons(t:TG)(u:TGs):TGs:=fun vs σ H Q=> ∃v r,vs=v::r∧t v σ H fun σ' H'=>u r σ' H' Q
theorem zZD:PGs X [] gNil:=by
 intro pins s σ H vs us Q I r h
 obtain⟨e,h⟩:=h
 subst e
 cases r
 exact assignInOrder_nil ⟨σ,H,I,h⟩
theorem zUC{e:Expr}{es:List Expr}{t:TG}{u:TGs}(h1:PG X e t)(h2:PGs X es u)
  (hs:(assignEach (e::es) X.env).map (·.2)=assign e X.env::(assignEach es X.env).map (·.2):=by rfl):PGs X (e::es) (gCons t u):=by
 intro pins s σ H vs us Q I r h
 obtain⟨v,vr,e1,h⟩:=h
 subst e1
 cases r with
 | cons r rr=>
  rw [hs]
  refine assignInOrder_cons (thn (h1 pins s σ H _ _ _ I r h) fun _ s1 ⟨σ1,H1,I1,q1⟩=>?_)
  exact h2 pins s1 σ1 H1 _ _ Q I1 rr q1
def gTup(K:PySem.W.Frag)(n:Nat)(t:TGs):TG:=fun v σ H Q=> ∃a xs,v=.ref a∧SqT K H a xs∧xs.length=n∧t xs σ H Q
theorem yDC{es:List Expr}{k:Nat}{t:TGs}{n:Nat}(hc:X.calm=true)(h:PGs X es t)
  (hn:(assignEach es X.env).length=n:=by rfl) (hst:(assignEach es X.env).findIdx? (·.1)=none:=by rfl):PG X (.Tuple es k pos) (gTup X.K n t):=by
 intro pins s σ H v u Q I r hw
 obtain⟨a,xs,e1,hq,hl,hw⟩:=hw
 subst e1
 cases r
 obtain⟨its,rv,ht,hz⟩:=I.tuple hq
 refine assign_Tuple_tuple (I.ok.hd hc) ht (by simp [hn, ←hl,rv.length]) hst fun h' hx=>?_
 have I1:Inv X pins σ H {s with heap:=h'}:=I.kept (t':=s.toks) fun b o e=>hx b o (Nat.ne_of_lt (Heap.lt_size e)) e
 exact h pins _ σ H xs _ Q I1 (by simpa using rv) hw
def gSub(to ti:TE)(t:TSet):TG:=fun v σ H Q=>to σ H fun o H1=>ti σ H1 fun i H2=>t o i v H2 fun H3=>Q σ H3
theorem yLA{o i:Expr}{to ti:TE}{t:TSet}(ho:PE X o to)(hi:PE X i ti)(hs:PSet X t)
  (ha: ∀v,assign (.Subscript o i pos) X.env v=(do
   let ov ←holding [v] (eval o X.env)
   let iv ←holding [v,ov] (eval i X.env)
   standAt pos
   holding [v,ov,iv] (setItem ov iv v)
   release [v,ov,iv] []):=by intro _;rfl):PG X (.Subscript o i pos) (gSub to ti t):=by
 intro pins s σ H v u Q I r h
 rw [ha]
 refine wpAny_bind (wpAny_holding (thn (ho pins s σ H _ I h) fun ov s1 ⟨x,H1,I1,r1,q1⟩=>?_))
 refine wpAny_bind (wpAny_holding (thn (hi pins s1 σ H1 _ I1 q1) fun iv s2 ⟨y,H2,I2,r2,q2⟩=>?_))
 refine wpAny_bind (wpAny_standAt (wpAny_bind (wpAny_holding (thn (hs pins s2 σ H2 x y v ov iv u _ I2 r1 r2 r q2) fun _ s3 ⟨H3,I3,q3⟩=>?_))))
 exact wpAny_release ⟨σ,H3,I3,q3⟩
def tAsg(te:TE)(g:TG):TS:=fun D σ H=>te σ H fun x H1=>g x σ H1 D.nx
theorem yLB{tg e:Expr}{te:TE}{g:TG}(he:PE X e te)(hg:PG X tg g)(hs:swapsWithSole [tg] e pos.line X.env=pure false:=by rfl)(hw:swappedStores [tg] e X.env=pure none:=by rfl)
  (h1:(assignEach [tg] X.env).map (·.2)=[assign tg X.env]:=by rfl):PS X (.Assign [tg] e pos) (tAsg te g):=by
 intro pins s σ H D I h
 refine wpAny_Assign_stores (thn (he pins s σ H _ I h) fun v s1 ⟨x,H1,I1,r1,q1⟩=>?_) hs hw
 rw [h1]
 exact thn (hg pins s1 σ H1 x v _ I1 r1 q1) fun _ s2 q=>q
theorem yLC{i:Nat}{x:Str}{e:Expr}{te:TE}{pos':Pos}(hN:X.N.Nodup)(hi:X.N[i]? =some x)(hx:Loc X.env.scope x)(he:PE X e te)(hs:swapsWith e (some (.Name x pos')) pos.line X.env=pure false:=by rfl)(hf:X.fn x=true∨X.env.scope.names.lookup x=some .local:=by first | exact .inl rfl | exact .inr rfl | assumption):
  PS X (.Assign [.Name x pos'] e pos) (tAsg te (yDB i)):=by
 intro pins s σ H D I h
 refine wpAny_Assign_Name (thn (he pins s σ H _ I h) fun v s1 ⟨y,H1,I1,r1,q1⟩=>?_) hs
 exact zMV I1 hN hi hx r1 (fun s2 I2=>⟨_,H1,I2,q1⟩) hf
end
structure It where
 go:Nat→Hp→Prop
 yld:Nat→Hp→V→Hp→Prop
 stop:Nat→Hp→Prop
def zGU(X:Cx)(pins:List (Addr×Obj))(H:Hp)(b:Addr):Prop:=
 H b=none∧b≠X.env.locals∧b∉X.fs∧(b∈X.ex∨X.s₀.heap.objs.size≤b)∧(∀x c,X.env.cells.lookup x=some c→c≠b)∧ ∀p∈X.pn++pins,p.1≠b
theorem Inv.fpOk{X:Cx}{pins:List (Addr×Obj)}{σ:St}{H H':Hp}{s:Shared}{b:Addr}(I:Inv X pins σ H s)(hb:s.heap.objs.size≤b)(hn:H' b=none):zGU X pins H' b:=by
 refine⟨hn,Nat.ne_of_gt (Nat.lt_of_lt_of_le I.lt hb),I.nofs hb,.inr (Nat.le_trans I.sz hb),fun x c e z=>?_,fun p hp z=>?_⟩
 ·obtain⟨v,q⟩:=I.cell x c e
  exact absurd (Nat.lt_of_lt_of_le q.lt (by rw [z];exact hb)) (Nat.lt_irrefl _)
 ·exact absurd (Nat.lt_of_lt_of_le (Heap.lt_size (I.pin p hp).1) (by rw [z];exact hb)) (Nat.lt_irrefl _)
structure Turn(P:Program)(w:World)(K:PySem.W.Frag)(tg:Expr)(J:It)(fp:List Addr)(it:Addr)(tn:Nat→Heap→Prop):Prop where
 mem:it∈fp
 obj: ∀i h,tn i h→ ∀b∈fp, ∃o,h.get? b=some o∧ ∀v,o.data≠.cell v
 keep: ∀i h h',tn i h→(∀b∈fp, ∀o,h.get? b=some o→h'.get? b=some o)→tn i h'
 item: ∀(X:Cx),X.prog=P→X.w=w→X.K=K→X.calm=true→ ∀(i:Nat)(pins:List (Addr×Obj))(s:Shared)(σ:St)(H:Hp)(E:Value→Shared→Prop),Inv X pins σ H s→(∀b∈fp,zGU X pins H b)→tn i s.heap→J.go i H→
  wpAny (model P w) X.A (pyNext (.ref it)) (fun r s1=> ∃u,r=some u∧
   wpAny (model P w) X.A (letOwnedTupleGo tg (.ref it) u) (fun _ s2=> ∃x H',Inv X pins σ H' s2∧RelV x u∧J.yld i H x H'∧tn (i+1) s2.heap∧ ∀b∈fp,H' b=none) E s1) E s
 done: ∀(X:Cx),X.prog=P→X.w=w→X.K=K→X.calm=true→ ∀(i:Nat)(pins:List (Addr×Obj))(s:Shared)(σ:St)(H:Hp)(E:Value→Shared→Prop),Inv X pins σ H s→(∀b∈fp,zGU X pins H b)→tn i s.heap→J.stop i H→
  wpAny (model P w) X.A (pyNext (.ref it)) (fun r s1=>r=none∧Inv X pins σ H s1) E s
 self: ∀(A:Around)(i:Nat)(s:Shared)(Q:Value→Shared→Prop)(E:Value→Shared→Prop),tn i s.heap→Q (.ref it) s→wpAny (model P w) A (pyIter (.ref it)) Q E s
abbrev TI:=St→Hp→(It→Hp→Prop)→Prop
def PIE(X:Cx)(pins:List (Addr×Obj))(σ:St)(tg:Expr)(R:It→Hp→Prop)(itv:Value)(s2:Shared):Prop:=
 ∃(it:Addr)(fp:List Addr)(tn:Nat→Heap→Prop)(J:It)(H':Hp),itv=.ref it∧Inv X pins σ H' s2∧Turn X.prog X.w X.K tg J fp it tn∧tn 0 s2.heap∧(∀b∈fp,zGU X pins H' b)∧R J H'
def PI(X:Cx)(tg iter:Expr)(wi:TI):Prop:=
 ∀(pins:List (Addr×Obj))(s:Shared)(σ:St)(H:Hp)(R:It→Hp→Prop),Inv X pins σ H s→wi σ H R→
  wpAny (model X.prog X.w) X.A (eval iter X.env) (fun v s1=>wpAny (model X.prog X.w) X.A (pyIter v) (PIE X pins σ tg R) X.xe s1) X.xe s
theorem zZE{M:Model}{A:Around}{E:Value→Shared→Prop}{s:Shared}{tg:Expr}{it:Addr}{u:Value}{o:Obj}{n:String}{vs:Array Value}{Q:Unit→Shared→Prop}(ho:s.heap.get? it=some o)(hc:o.cls=.type n)(hd:o.data=.fields vs)
  (hn:["enumerate","zip","dict_itemiterator","dict_reverseitemiterator","odict_iterator","itertools.zip_longest","itertools.pairwise"].contains n=false) (hQ:Q () s):wpAny M A (letOwnedTupleGo tg (.ref it) u) Q E s:=by
 unfold letOwnedTupleGo
 cases tg<;>first
  | exact wpAny_pure hQ
  | (cases u<;>first
    | exact wpAny_pure hQ
    | (refine wpAny_bind (wpAny_load ho ?_)
       rw [hc,hd]
       show wpAny M A (if(["enumerate","zip","dict_itemiterator","dict_reverseitemiterator","odict_iterator","itertools.zip_longest","itertools.pairwise"].contains n&&vs[0]? ==some (rawInt _))=true then _ else _) Q E s
       rw [if_neg (by intro h;rw [hn,Bool.false_and]at h;cases h)]
       exact wpAny_pure hQ))
def Itl(K:PySem.W.Frag)(a:Addr):It:=
 ⟨fun i H=> ∃xs x,SqL K H a xs∧xs[i]? =some x,fun i H x H'=>H'=H∧ ∀xs,SqL K H a xs→xs[i]? =some x,fun i H=> ∃xs,SqL K H a xs∧xs.length≤i⟩
def Itt(K:PySem.W.Frag)(a:Addr):It:=
 ⟨fun i H=> ∃xs x,SqT K H a xs∧xs[i]? =some x,fun i H x H'=>H'=H∧ ∀xs,SqT K H a xs→xs[i]? =some x,fun i H=> ∃xs,SqT K H a xs∧xs.length≤i⟩
def Itr(lo:Int)(n:Nat):It:=⟨fun i _=>i<n,fun i H x H'=>H'=H∧x=.int (lo+i),fun i _=>n≤i⟩
theorem yBC{P:Program}{w:World}{K:PySem.W.Frag}{tg:Expr}(a it:Addr):Turn P w K tg (Itl K a) [it] it (fun i h=>h.IsListIter it a i) where
 mem:=by simp
 obj:=fun i h st b hb=>by
  have e:b=it:=by simpa using hb
  subst e
  obtain⟨o,e,c,d⟩:=st
  exact⟨o,e,fun v z=>by rw [d]at z;cases z⟩
 keep:=fun i h h' st k=>st.at fun o e=>k it (by simp) o e
 item:=by
  intro X hP hw hK hc i pins s σ H E I hf st hg
  subst hP hw hK
  obtain⟨xs,x,hq,hx⟩:=hg
  obtain⟨its,rv,p,hz⟩:=I.list hq
  obtain⟨u,hu,ru⟩:=rv.get hx
  obtain⟨f0,f1,f2,f3,f4,f5⟩:=hf it (by simp)
  refine wpAny_pyNext_list_item st p.isList (x:=u) (by simpa using hu) fun h' st' sb=>?_
  have I1:Inv X pins σ H {s with heap:=h'}:=I.turned (t':=s.toks) (fun b o hb e=>(sb.2 b hb).trans e) f0 f1 f3 f4 f5
  obtain⟨o,e,c,d⟩:=id st'
  exact⟨u,rfl,zZE (s:={s with heap:=h'}) e c d (by decide) ⟨x,H,I1,ru,⟨rfl,fun ys hy=>by rw [I.list_inj hy hq];exact hx⟩,st',fun b hb=>(hf b hb).1⟩⟩
 done:=by
  intro X hP hw hK hc i pins s σ H E I hf st hg
  subst hP hw hK
  obtain⟨xs,hq,hx⟩:=hg
  obtain⟨its,rv,p,hz⟩:=I.list hq
  obtain⟨f0,f1,f2,f3,f4,f5⟩:=hf it (by simp)
  have hl:=rv.length
  exact wpAny_pyNext_list_end (I.ok.hd hc) st p.isList (by simp;omega) fun h' eb=>⟨rfl,I.turned (t':=s.toks) (fun b o hb e=>eb b o hb e) f0 f1 f3 f4 f5⟩
 self:=fun _ _ _ _ _ st h=>wpAny_pyIter_listiter st h
theorem zWT{P:Program}{w:World}{K:PySem.W.Frag}{tg:Expr}(a it:Addr):Turn P w K tg (Itt K a) [it] it (fun i h=>h.IsTupleIter it a i) where
 mem:=by simp
 obj:=fun i h st b hb=>by
  have e:b=it:=by simpa using hb
  subst e
  obtain⟨o,e,c,d⟩:=st
  exact⟨o,e,fun v z=>by rw [d]at z;cases z⟩
 keep:=fun i h h' st k=>st.at fun o e=>k it (by simp) o e
 item:=by
  intro X hP hw hK hc i pins s σ H E I hf st hg
  subst hP hw hK
  obtain⟨xs,x,hq,hx⟩:=hg
  obtain⟨its,rv,p,hz⟩:=I.tuple hq
  obtain⟨u,hu,ru⟩:=rv.get hx
  obtain⟨f0,f1,f2,f3,f4,f5⟩:=hf it (by simp)
  refine wpAny_pyNext_tuple_item st (show s.heap.IsTuple a its.toArray from p) (x:=u) (by simpa using hu) fun h' st' sb=>?_
  have I1:Inv X pins σ H {s with heap:=h'}:=I.turned (t':=s.toks) (fun b o hb e=>(sb.2 b hb).trans e) f0 f1 f3 f4 f5
  obtain⟨o,e,c,d⟩:=id st'
  exact⟨u,rfl,zZE (s:={s with heap:=h'}) e c d (by decide) ⟨x,H,I1,ru,⟨rfl,fun ys hy=>by rw [I.tuple_inj hy hq];exact hx⟩,st',fun b hb=>(hf b hb).1⟩⟩
 done:=by
  intro X hP hw hK hc i pins s σ H E I hf st hg
  subst hP hw hK
  obtain⟨xs,hq,hx⟩:=hg
  obtain⟨its,rv,p,hz⟩:=I.tuple hq
  obtain⟨f0,f1,f2,f3,f4,f5⟩:=hf it (by simp)
  have hl:=rv.length
  exact wpAny_pyNext_tuple_end (I.ok.hd hc) st (show s.heap.IsTuple a its.toArray from p) (by simp;omega) fun h' eb=>⟨rfl,I.turned (t':=s.toks) (fun b o hb e=>eb b o hb e) f0 f1 f3 f4 f5⟩
 self:=fun _ _ _ _ _ st h=>wpAny_pyIter_tupleiter st h
theorem zWU{P:Program}{w:World}{K:PySem.W.Frag}{tg:Expr}(it:Addr)(lo:Int)(n:Nat):Turn P w K tg (Itr lo n) [it] it (fun i h=>IsRangeIter h it (lo+(i:Nat) * 1) ((n:Int) - (i:Nat)) 1) where
 mem:=by simp
 obj:=fun i h st b hb=>by
  have e:b=it:=by simpa using hb
  subst e
  exact⟨_,st,fun v z=>by
   have z':Data.fields _=Data.cell v:=z
   cases z'⟩
 keep:=fun i h h' st k=>k it (by simp) _ st
 item:=by
  intro X hP hw hK hc i pins s σ H E I hf st hg
  subst hP hw hK
  obtain⟨f0,f1,f2,f3,f4,f5⟩:=hf it (by simp)
  have W:=Walks.range (prog:=X.prog) (w:=X.w) (I.ok.hd hc) it lo 1 n
  refine W.item i s _ _ hg st fun v h' tk hv st' kk=>?_
  obtain⟨t,rfl⟩:=hv
  have I1:Inv X pins σ H {s with heap:=h',toks:=tk}:=I.turned (fun b o hb e=>kk b o (by simpa using hb) e) f0 f1 f3 f4 f5
  refine⟨_,rfl,zZE (s:={s with heap:=h',toks:=tk}) (n:="range_iterator") st' rfl rfl (by decide) ⟨.int (lo+i),H,I1,⟨t,?_⟩,⟨rfl,rfl⟩,st',fun b hb=>(hf b hb).1⟩⟩
  rw [Int.mul_one]
 done:=by
  intro X hP hw hK hc i pins s σ H E I hf st hg
  subst hP hw hK
  obtain⟨f0,f1,f2,f3,f4,f5⟩:=hf it (by simp)
  exact wpAny_pyNext_range_end (I.ok.hd hc) st (by have:n≤i:=hg;omega) fun h' eb=>⟨rfl,I.turned (t':=s.toks) (fun b o hb e=>eb b o hb e) f0 f1 f3 f4 f5⟩
 self:=fun _ _ _ _ _ st h=>wpAny_pyIter_rangeiter st h
end L2
namespace L2
open PySem PySem.Spec PyProof.Rows
section
variable{X:Cx}{tg:Expr}
def iList(K:PySem.W.Frag)(tl:TE):TI:=fun σ H R=>tl σ H fun x H1=> ∃a,x=.ref a∧(∃xs,SqL K H1 a xs)∧R (Itl K a) H1
def iTup(K:PySem.W.Frag)(tl:TE):TI:=fun σ H R=>tl σ H fun x H1=> ∃a,x=.ref a∧(∃xs,SqT K H1 a xs)∧R (Itt K a) H1
theorem yHB{l:Expr}{tl:TE}(hl:PE X l tl):PI X tg l (iList X.K tl):=by
 intro pins s σ H R I h
 refine thn (hl pins s σ H _ I h) fun v s1 ⟨x,H1,I1,r1,q1⟩=>?_
 obtain⟨a,e,⟨xs,hq⟩,q⟩:=q1
 subst e
 cases r1
 obtain⟨its,rv,p,hz⟩:=I1.list hq
 refine wpAny_pyIter_list p.isList ?_
 refine⟨s1.heap.objs.size,[s1.heap.objs.size],_,_,H1,rfl,I1.kept (t':=s1.toks) fun b o e=>Heap.get?_push_of_some _ e,yBC a _,⟨_,Heap.get?_push_size _ rfl,rfl,rfl⟩,fun b hb=>?_,q⟩
 have e:b=s1.heap.objs.size:=by simpa using hb
 subst e
 exact I1.fpOk (Nat.le_refl _) (I1.hok.fresh (Nat.le_refl _))
theorem yLD{l:Expr}{tl:TE}(hl:PE X l tl):PI X tg l (iTup X.K tl):=by
 intro pins s σ H R I h
 refine thn (hl pins s σ H _ I h) fun v s1 ⟨x,H1,I1,r1,q1⟩=>?_
 obtain⟨a,e,⟨xs,hq⟩,q⟩:=q1
 subst e
 cases r1
 obtain⟨its,rv,p,hz⟩:=I1.tuple hq
 refine wpAny_pyIter_tuple (show s1.heap.IsTuple a its.toArray from p) ?_
 refine⟨s1.heap.objs.size,[s1.heap.objs.size],_,_,H1,rfl,I1.kept (t':=s1.toks) fun b o e=>Heap.get?_push_of_some _ e,zWT a _,⟨_,Heap.get?_push_size _ rfl,rfl,rfl⟩,fun b hb=>?_,q⟩
 have e:b=s1.heap.objs.size:=by simpa using hb
 subst e
 exact I1.fpOk (Nat.le_refl _) (I1.hok.fresh (Nat.le_refl _))
theorem yDD{pins:List (Addr×Obj)}{σ:St}{H:Hp}{s:Shared}{R:It→Hp→Prop}{E:Value→Shared→Prop}{lo hi:Int}{t u v:Tok}{tk:Nat}(I:Inv X pins σ H s)(h1: -(2 ^ 62)≤lo)(h2:lo<2 ^ 62)(h3: -(2 ^ 62)≤hi)(h4:hi<2 ^ 62)
  (q:R (Itr lo (hi - lo).toNat) H):wpAny (model X.prog X.w) X.A (pyIter (.ref s.heap.objs.size)) (PIE X pins σ tg R) E {s with heap:=s.heap.push {cls:=.type "range",data:=.fields #[.int lo t,.int hi u,.int 1 v]},toks:=tk}:=by
 refine wpAny_pyIter_range (IsRange.new ..) (small_one h1 h2 h3 h4) ?_
 have I1:Inv X pins σ H {s with heap:=s.heap.push {cls:=.type "range",data:=.fields #[.int lo t,.int hi u,.int 1 v]},toks:=tk}:=I.kept fun b o e=>Heap.get?_push_of_some _ e
 refine⟨(s.heap.push {cls:=.type "range",data:=.fields #[.int lo t,.int hi u,.int 1 v]}).objs.size,[(s.heap.push {cls:=.type "range",data:=.fields #[.int lo t,.int hi u,.int 1 v]}).objs.size],_,_,H,rfl,
  I1.kept (t':=tk) fun b o e=>Heap.get?_push_of_some _ e,zWU _ lo (hi - lo).toNat,?_,fun b hb=>?_,q⟩
 ·have e1:lo+((0:Nat):Int) * 1=lo:=by simp
  have e2:(((hi - lo).toNat:Nat):Int) - ((0:Nat):Int)=Builtin.Range.rangeSize lo hi 1:=by rw [rangeSize_one];split<;>omega
  show IsRangeIter _ _ (lo+((0:Nat):Int) * 1) ((((hi - lo).toNat:Nat):Int) - ((0:Nat):Int)) 1
  rw [e1,e2]
  exact Heap.get?_push_size _ rfl
 ·have e:b=(s.heap.push {cls:=.type "range",data:=.fields #[.int lo t,.int hi u,.int 1 v]}).objs.size:=by simpa using hb
  subst e
  exact I1.fpOk (Nat.le_refl _) (I1.hok.fresh (Nat.le_refl _))
def iRng1(ta:TA):TI:=fun σ H R=>ta σ H fun vs H1=> ∃j:Int,vs=[.int j]∧ -(2 ^ 62)≤j∧j<2 ^ 62∧R (Itr 0 j.toNat) H1
theorem yBD{a:Expr}{ta:TA}{p pos:Pos}(hg:Gl X "range")(hm:X.mg "range"=none)(ha:PA X [a] ta)(hs:starEach [a] X.env=[(false,eval a X.env)]:=by rfl):PI X tg (.Call (.Name "range" p) [a] [] pos) (iRng1 ta):=by
 intro pins s σ H R I h
 refine Call_ (zJW I hg hm boot_range (PyProof.Rows.callWith_type1 (thn (ha pos pins s σ H _ I h) fun us s1 ⟨vs,H1,I1,r1,q1⟩=>?_) hs rfl))
 obtain⟨j,e,q1,q2,q⟩:=q1
 subst e
 cases r1 with
 | cons r rr=>
  cases rr
  obtain⟨t,rfl⟩:=r
  exact call_range_1 (yDD I1 (by omega) (by omega) q1 q2 (by simpa using q))
def tFor(wi:TI)(g:TG)(tb:TS):TS:=fun D σ H=>wi σ H fun J H1=> ∃W:Nat→Nat→St→Hp→Prop,(∃m,W 0 m σ H1)∧ ∀i m σ H,W i m σ H→
 (J.stop i H∧D.nx σ H)∨(J.go i H∧ ∃N:St→Hp→Prop,(∀σ' H',N σ' H'→ ∃m',m'<m∧W (i+1) m' σ' H')∧ ∀x H',J.yld i H x H'→g x σ H' fun σ2 H2=>tb {D with nx:=N,ct:=N,bk:=D.nx} σ2 H2)
def zEF(fp:List Addr)(h:Heap):List (Addr×Obj):=fp.filterMap fun b=>(h.get? b).map fun o=>(b,o)
theorem zCE{fp:List Addr}{h:Heap}{b:Addr}{o:Obj}(hb:b∈fp)(e:h.get? b=some o):(b,o)∈zEF fp h:=List.mem_filterMap.mpr ⟨b,hb,by rw [e];rfl⟩
theorem yBE{fp:List Addr}{h:Heap}{p:Addr×Obj}(hp:p∈zEF fp h):p.1∈fp∧h.get? p.1=some p.2:=by
 obtain⟨b,hb,e⟩:=List.mem_filterMap.mp hp
 cases q:h.get? b with
 | none=>rw [q]at e;cases e
 | some o=>
  rw [q]at e
  have e':(b,o)=p:=Option.some.inj e
  subst e'
  exact⟨hb,q⟩
theorem Inv.pinned{pins:List (Addr×Obj)}{σ:St}{H:Hp}{s:Shared}{fp:List Addr}(I:Inv X pins σ H s)(hf: ∀b∈fp,zGU X pins H b)(ho: ∀b∈fp, ∃o,s.heap.get? b=some o∧ ∀v,o.data≠.cell v):Inv X (pins++zEF fp s.heap) σ H s:=
 I.pins_of fun p hp=>(List.mem_append.mp hp).elim (fun z=>I.pin p (List.mem_append_right _ z)) fun z=>by
  obtain⟨hb,e⟩:=yBE z
  obtain⟨f0,f1,f2,_⟩:=hf p.1 hb
  obtain⟨o,e',d⟩:=ho p.1 hb
  rw [e]at e';cases e'
  exact⟨e,f0,f1,f2,d⟩
theorem Inv.unpinned{pins pl:List (Addr×Obj)}{σ:St}{H:Hp}{s:Shared}(I:Inv X (pins++pl) σ H s):Inv X pins σ H s:=I.pins_of fun p hp=>I.pin p (List.mem_append_right _ (List.mem_append_left _ hp))
theorem yLE{iter:Expr}{body:List Stmt}{wi:TI}{g:TG}{tb:TS}{pos:Pos}(hp:PassesOwn (model X.prog X.w) X.A X.env X.xe)(hc:X.calm=true)(hi:PI X tg iter wi)(hg:PG X tg g)(hb:PSs X body tb)
  (hs: ∀x,foldedSetIterable iter X.env x=pure x:=by intro _;rfl):PS X (.For tg iter body [] pos) (tFor wi g tb):=by
 intro pins s σ H D I h
 refine wpAny_For (thn (hi pins s σ H _ I h) fun v s1 h1=>thn h1 fun itv s2 h2=>?_) hs
 obtain⟨it,fp,tn,J,H2,e,I2,T,st2,f2,W,⟨m0,w0⟩,turn⟩:=h2
 subst e
 have stat: ∀{H':Hp},(∀b∈fp,H' b=none)→ ∀b∈fp,zGU X pins H' b:=fun hn b hb=>⟨hn b hb,(f2 b hb).2⟩
 refine codeAny_forLoop_any (fun n s'=> ∃i σ' H',Inv X pins σ' H' s'∧tn i s'.heap∧(∀b∈fp,H' b=none)∧W i n σ' H') ?_ m0 ⟨0,σ,H2,I2,st2,fun b hb=>(f2 b hb).1,w0⟩
 rintro n s3 ⟨i,σ3,H3,I3,st3,fr3,w3⟩
 rcases turn i n σ3 H3 w3 with⟨stop,qn⟩ | ⟨go,N,hN,step⟩
 ·refine wpAny_passesOwn hp (thn (T.done X rfl rfl rfl hc i pins s3 σ3 H3 X.xe I3 (stat fr3) st3 stop) fun r s4 ⟨hr,I4⟩=>?_)
  subst hr
  exact wpAny_execs_nil ⟨σ3,H3,I4,qn⟩
 ·refine wpAny_passesOwn hp (thn (T.item X rfl rfl rfl hc i pins s3 σ3 H3 X.xe I3 (stat fr3) st3 go) fun r s4 ⟨u,hr,h4⟩=>?_)
  subst hr
  refine wpAny_passesOwn hp (thn h4 fun _ s5 ⟨x,H5,I5,r5,y5,st5,fr5⟩=>?_)
  have I5':=I5.pinned (stat fr5) (T.obj _ _ st5)
  refine wpAny_passesOwn hp (thn (hg _ s5 σ3 H5 x u _ I5' r5 (step x H5 y5)) fun _ s6 ⟨σ6,H6,I6,q6⟩=>?_)
  refine wpAny_passesOwn hp (thn (hb _ s6 σ6 H6 _ I6 q6) fun f s7 q7=>?_)
  have again: ∀{σ7:St}{H7:Hp},Inv X (pins++zEF fp s5.heap) σ7 H7 s7→N σ7 H7→ ∃m,m<n∧ ∃i σ' H',Inv X pins σ' H' s7∧tn i s7.heap∧(∀b∈fp,H' b=none)∧W i m σ' H':=fun {σ7 H7} I7 n7=>by
   obtain⟨m',hm,w7⟩:=hN σ7 H7 n7
   refine⟨m',hm,i+1,σ7,H7,I7.unpinned,T.keep _ _ _ st5 fun b hb o e=>(I7.pin (b,o) (List.mem_append_right _ (List.mem_append_right _ (zCE hb e)))).1,fun b hb=>?_,w7⟩
   obtain⟨o,e,d⟩:=T.obj _ _ st5 b hb
   exact(I7.pin (b,o) (List.mem_append_right _ (List.mem_append_right _ (zCE hb e)))).2.1
  cases f with
  | next=>obtain⟨σ7,H7,I7,n7⟩:=q7;exact again I7 n7
  | cont=>obtain⟨σ7,H7,I7,n7⟩:=q7;exact again I7 n7
  | brk=>obtain⟨σ7,H7,I7,q7⟩:=q7;exact⟨σ7,H7,I7.unpinned,q7⟩
  | ret v=>obtain⟨x7,σ7,H7,I7,r7,q7⟩:=q7;exact⟨x7,σ7,H7,I7.unpinned,r7,q7⟩
end
end L2
namespace L2
open PySem PySem.Spec PyProof.Rows
abbrev R2:=V→V→Hp→VK→Prop
def OpR(X:Cx)(f:Value→Value→Sem Value)(r:R2):Prop:=
 ∀(pins:List (Addr×Obj))(s:Shared)(σ:St)(H:Hp)(x y:V)(v u:Value)(Q:VK),Inv X pins σ H s→RelV x v→RelV y u→r x y H Q→
  wpAny (model X.prog X.w) X.A (f v u) (EP X pins σ Q) X.xe s
def UnR(X:Cx)(f:Value→Sem Value)(r:V→Hp→VK→Prop):Prop:=
 ∀(pins:List (Addr×Obj))(s:Shared)(σ:St)(H:Hp)(x:V)(v:Value)(Q:VK),Inv X pins σ H s→RelV x v→r x H Q→
  wpAny (model X.prog X.w) X.A (f v) (EP X pins σ Q) X.xe s
def CallR(X:Cx)(f:Value)(r:List V→Hp→VK→Prop):Prop:=
 ∀(pins:List (Addr×Obj))(s:Shared)(σ:St)(H:Hp)(xs:List V)(us:List Value)(Q:VK),Inv X pins σ H s→Vals xs us→r xs H Q→
  wpAny (model X.prog X.w) X.A (call f us) (EP X pins σ Q) X.xe s
def TruR(X:Cx)(r:V→Hp→(Bool→Hp→Prop)→Prop):Prop:=
 ∀(pins:List (Addr×Obj))(s:Shared)(σ:St)(H:Hp)(x:V)(v:Value)(Q:Bool→Hp→Prop),Inv X pins σ H s→RelV x v→r x H Q→
  wpAny (model X.prog X.w) X.A (truthy v) (TP X pins σ Q) X.xe s
def tOp(r:R2)(ta tb:TE):TE:=fun σ H Q=>ta σ H fun x H1=>tb σ H1 fun y H2=>r x y H2 Q
def tUn(r:V→Hp→VK→Prop)(ta:TE):TE:=fun σ H Q=>ta σ H fun x H1=>r x H1 Q
def rI(C:Int→Int→Prop)(g:Int→Int→V):R2:=fun x y H Q=> ∃i j,x=.int i∧y=.int j∧C i j∧Q (g i j) H
def rI0(g:Int→Int→V):R2:=fun x y H Q=> ∃i j,x=.int i∧y=.int j∧Q (g i j) H
def rU(g:Int→V):V→Hp→VK→Prop:=fun x H Q=> ∃i,x=.int i∧Q (g i) H
section
variable{X:Cx}{a b c:Expr}{ta tb tc:TE}{pos:Pos}
theorem binT(ha:PE X a ta)(hb:PE X b tb){pins:List (Addr×Obj)}{s:Shared}{σ:St}{H:Hp}{R:V→V→Hp→Prop}(I:Inv X pins σ H s)
  (h:ta σ H fun x H1=>tb σ H1 fun y H2=>R x y H2) {Q:Value→Shared→Prop} {f:Value→Value→Sem Value}
  (hf: ∀v u s2 x y H2,Inv X pins σ H2 s2→RelV x v→RelV y u→R x y H2→wpAny (model X.prog X.w) X.A (f v u) Q X.xe s2):
  wpAny (model X.prog X.w) X.A (eval a X.env) (fun v s₁=>wpAny (model X.prog X.w) X.A (eval b X.env) (fun u s₂=>wpAny (model X.prog X.w) X.A (f v u) Q X.xe s₂) X.xe s₁) X.xe s:=by
 refine thn (ha pins s σ H _ I h) fun v s1 ⟨x,H1,I1,r1,q1⟩=>?_
 refine thn (hb pins s1 σ H1 _ I1 q1) fun u s2 ⟨y,H2,I2,r2,q2⟩=>?_
 exact hf v u s2 x y H2 I2 r1 r2 q2
theorem pe_op{op:Operator}{r:R2}(ho:OpR X (binaryOp op) r)(ha:PE X a ta)(hb:PE X b tb):PE X (.BinOp a op b pos) (tOp r ta tb):=by
 intro pins s σ H Q I h
 exact wpAny_BinOp (binT ha hb I h fun v u s2 x y H2 I2 rx ry q=>ho pins s2 σ H2 x y v u Q I2 rx ry q)
theorem pe_un{op:UnaryOp}{r:V→Hp→VK→Prop}(ho:UnR X (unaryOp op) r)(ha:PE X a ta):PE X (.UnaryOp op a pos) (tUn r ta):=by
 intro pins s σ H Q I h
 exact UnaryOp_ (thn (ha pins s σ H _ I h) fun v s1 ⟨x,H1,I1,r1,q1⟩=>ho pins s1 σ H1 x v Q I1 r1 q1)
theorem opI{f:Value→Value→Sem Value}{C:Int→Int→Prop}{g:Int→Int→Int}
  (rule: ∀(i j:Int)(t u:Tok)(s:Shared)(Q:Value→Shared→Prop)(E:Value→Shared→Prop),C i j→Q (.int (g i j) s.toks) {s with toks:=s.toks+1}→wpAny (model X.prog X.w) X.A (f (.int i t) (.int j u)) Q E s):
  OpR X f (rI C fun i j=>.int (g i j)):=by
 intro pins s σ H x y v u Q I rx ry h
 obtain⟨i,j,rfl,rfl,hc,q⟩:=h
 obtain⟨t,rfl⟩:=rx
 obtain⟨t',rfl⟩:=ry
 exact rule i j t t' s _ _ hc ⟨.int (g i j),H,I.tok _,⟨_,rfl⟩,q⟩
theorem opI0{f:Value→Value→Sem Value}{g:Int→Int→Int}
  (rule: ∀(i j:Int)(t u:Tok)(s:Shared)(Q:Value→Shared→Prop)(E:Value→Shared→Prop),Q (.int (g i j) s.toks) {s with toks:=s.toks+1}→wpAny (model X.prog X.w) X.A (f (.int i t) (.int j u)) Q E s):
  OpR X f (rI0 fun i j=>.int (g i j)):=by
 intro pins s σ H x y v u Q I rx ry h
 obtain⟨i,j,rfl,rfl,q⟩:=h
 obtain⟨t,rfl⟩:=rx
 obtain⟨t',rfl⟩:=ry
 exact rule i j t t' s _ _ ⟨.int (g i j),H,I.tok _,⟨_,rfl⟩,q⟩
theorem opB0{f:Value→Value→Sem Value}{g:Int→Int→Bool}
  (rule: ∀(i j:Int)(t u:Tok)(s:Shared)(Q:Value→Shared→Prop)(E:Value→Shared→Prop),Q (.bool (g i j)) s→wpAny (model X.prog X.w) X.A (f (.int i t) (.int j u)) Q E s):
  OpR X f (rI0 fun i j=>.bl (g i j)):=by
 intro pins s σ H x y v u Q I rx ry h
 obtain⟨i,j,rfl,rfl,q⟩:=h
 obtain⟨t,rfl⟩:=rx
 obtain⟨t',rfl⟩:=ry
 exact rule i j t t' s _ _ ⟨.bl (g i j),H,I,rfl,q⟩
def CMul(i j:Int):Prop:=(-(2 ^ 64)<i∧i<2 ^ 64)∨(-(2 ^ 64)<j∧j<2 ^ 64)
theorem CMul.ok{i j:Int}(h:CMul i j):IntMulOk i j:=by
 rcases h with⟨h1,h2⟩ | ⟨h1,h2⟩
 ·exact .of_left (intBits_le_64 h1 h2)
 ·exact .of_right (intBits_le_64 h1 h2)
theorem yLF:OpR X (binaryOp .Add) (rI0 fun i j=>.int (i+j)):=opI0 fun _ _ _ _ _ _ _ q=>add_int q
theorem yLG:OpR X (binaryOp .Sub) (rI0 fun i j=>.int (i - j)):=opI0 fun _ _ _ _ _ _ _ q=>sub_int q
theorem yLH:OpR X (binaryOp .Mod) (rI (fun _ j=>0<j) fun i j=>.int (i % j)):=opI fun i j _ _ _ _ _ hc q=>by
 have h1:(0:Int)<j:=hc
 exact mod_int' (by omega) (by rw [Int.fmod_eq_emod_of_nonneg i (by omega)];exact q)
theorem unI{f:Value→Sem Value}{g:Int→Int}
  (rule: ∀(i:Int)(t:Tok)(s:Shared)(Q:Value→Shared→Prop)(E:Value→Shared→Prop),Q (.int (g i) s.toks) {s with toks:=s.toks+1}→wpAny (model X.prog X.w) X.A (f (.int i t)) Q E s):
  UnR X f (rU fun i=>.int (g i)):=by
 intro pins s σ H x v Q I rx h
 obtain⟨i,rfl,q⟩:=h
 obtain⟨t,rfl⟩:=rx
 exact rule i t s _ _ ⟨.int (g i),H,I.tok _,⟨_,rfl⟩,q⟩
theorem yLI:UnR X (unaryOp .USub) (rU fun i=>.int (-i)):=unI fun _ _ _ _ _ q=>neg_int q
end
section
variable{X:Cx}{a b c:Expr}{ta tb tc:TE}{pos:Pos}
theorem zRL{pins:List (Addr×Obj)}{σ:St}{H:Hp}{s:Shared}{Q:VK}{k k':Bool}(I:Inv X pins σ H s)(q:Q (.bl k) H)(e:k=k'):EP X pins σ Q (.bool k') s:=by
 subst e
 exact⟨.bl k,H,I,rfl,q⟩
theorem zMX:OpR X (compareOp .LtE) (rI0 fun i j=>.bl (decide (i≤j))):=opB0 fun _ _ _ _ _ _ _ q=>le_int q
theorem op_gt:OpR X (compareOp .Gt) (rI0 fun i j=>.bl (decide (j<i))):=opB0 fun _ _ _ _ _ _ _ q=>gt_int q
theorem yBF:OpR X (compareOp .In) (fun x y H Q=> ∃i j,x=.str i∧y=.str j∧Q (.bl (!(Builtin.Str.occurrences j i 0 j.length 1).isEmpty)) H):=by
 intro pins s σ H x y v u Q I rx ry h
 obtain⟨i,j,rfl,rfl,q⟩:=h
 obtain⟨t,rfl⟩:=rx
 obtain⟨t',rfl⟩:=ry
 exact in_str (zRL I q rfl)
theorem yDE:OpR X (compareOp .Is) (fun x y H Q=>y=.non∧Q (.bl (decide (x=.non))) H):=by
 intro pins s σ H x y v u Q I rx ry h
 obtain⟨rfl,q⟩:=h
 cases ry
 refine is_none_gen (zRL I q ?_)
 cases x<;>first
  | (cases rx;rfl)
  | (obtain⟨t,rfl⟩:=rx;rfl)
theorem yHC:OpR X (compareOp .IsNot) (fun x y H Q=>y=.non∧Q (.bl (!decide (x=.non))) H):=by
 intro pins s σ H x y v u Q I rx ry h
 obtain⟨rfl,q⟩:=h
 cases ry
 refine isnot_none_gen (zRL I q ?_)
 cases x<;>first
  | (cases rx;rfl)
  | (obtain⟨t,rfl⟩:=rx;rfl)
theorem zRM:OpR X (compareOp .NotIn) (fun x y H Q=> ∃i j,x=.str i∧y=.str j∧Q (.bl (!(!(Builtin.Str.occurrences j i 0 j.length 1).isEmpty))) H):=by
 intro pins s σ H x y v u Q I rx ry h
 obtain⟨i,j,rfl,rfl,q⟩:=h
 obtain⟨t,rfl⟩:=rx
 obtain⟨t',rfl⟩:=ry
 exact notIn_str (zRL I q rfl)
theorem OpR.or{f:Value→Value→Sem Value}{r r':R2}(h:OpR X f r)(h':OpR X f r'):OpR X f (fun x y H Q=>r x y H Q∨r' x y H Q):=by
 intro pins s σ H x y v u Q I rx ry q
 rcases q with q | q
 ·exact h pins s σ H x y v u Q I rx ry q
 ·exact h' pins s σ H x y v u Q I rx ry q
theorem yDF(b:Expr){op:CmpOp}(h:op≠.In:=by decide)(h2:op≠.NotIn:=by decide):behindInMarks op b=false:=by
 have e1:(op==CmpOp.In)=false:=by cases op<;>first | rfl | exact absurd rfl h
 have e2:(op==CmpOp.NotIn)=false:=by cases op<;>first | rfl | exact absurd rfl h2
 cases b<;>simp [behindInMarks,e1,e2]
theorem yHD{op:CmpOp}{r:R2}(ho:OpR X (compareOp op) r)(ha:PE X a ta)(hb:PE X b tb)(hm:behindInMarks op b=false):PE X (.Compare a [op] [b] pos) (tOp r ta tb):=by
 intro pins s σ H Q I h
 exact wpAny_Compare1 (binT ha hb I h fun v u s2 x y H2 I2 rx ry q=>ho pins s2 σ H2 x y v u Q I2 rx ry q) hm
def yJV(t:TE):TT:=fun σ H Q=>t σ H fun x H'=> ∃k,x=.bl k∧Q k H'
theorem yHE{op:CmpOp}{r:R2}(ho:OpR X (compareOp op) r)(ha:PE X a ta)(hb:PE X b tb)(hm:behindInMarks op b=false):PT X (.Compare a [op] [b] pos) (yJV (tOp r ta tb)):=by
 intro pins s σ H Q I h
 refine wpAny_isTrue_Compare1 (thn (ha pins s σ H _ I h) fun v s1 ⟨x,H1,I1,r1,q1⟩=>thn (hb pins s1 σ H1 _ I1 q1) fun u s2 ⟨y,H2,I2,r2,q2⟩=>
  thn (ho pins s2 σ H2 x y v u _ I2 r1 r2 q2) fun c s3 ⟨z,H3,I3,r3,k,e,q3⟩=>?_) hm
 subst e
 cases r3
 exact wpAny_truthy_bool ⟨H3,I3,q3⟩
def zWV(r r':R2)(ta tb tc:TE):TE:=fun σ H Q=>ta σ H fun x H1=>tb σ H1 fun y H2=>r x y H2 fun z H3=> ∃k,z=.bl k∧
 (if k=true then tc σ H3 fun w' H4=>r' y w' H4 Q else Q (.bl false) H3)
theorem yDG{op op':CmpOp}{r r':R2}(ho:OpR X (compareOp op) r)(ho':OpR X (compareOp op') r')(ha:PE X a ta)(hb:PE X b tb)(hc:PE X c tc)
  (hm:lastMarks [op,op'] [b,c]=false:=by with_unfolding_all rfl):PE X (.Compare a [op,op'] [b,c] pos) (zWV r r' ta tb tc):=by
 intro pins s σ H Q I h
 refine Compare_chain (thn (ha pins s σ H _ I h) fun v s1 ⟨x,H1,I1,r1,q1⟩=>chain_link (thn (hb pins s1 σ H1 _ I1 q1) fun u s2 ⟨y,H2,I2,r2,q2⟩=>
  thn (ho pins s2 σ H2 x y v u _ I2 r1 r2 q2) fun d s3 ⟨z,H3,I3,r3,k,e,q3⟩=>?_)) hm
 subst e
 cases r3
 refine wpAny_truthy_bool ?_
 cases k with
 | false=>exact ite_ff ⟨.bl false,H3,I3,rfl,q3⟩
 | true=>exact ite_tt (chain_last (thn (hc pins s3 σ H3 _ I3 q3) fun w' s4 ⟨z',H4,I4,r4,q4⟩=>ho' pins s4 σ H4 y z' u w' Q I4 r2 r4 q4))
theorem yDH{op op':CmpOp}{r r':R2}(ho:OpR X (compareOp op) r)(ho':OpR X (compareOp op') r')(ha:PE X a ta)(hb:PE X b tb)(hc:PE X c tc)
  (hm:lastMarks [op,op'] [b,c]=false:=by with_unfolding_all rfl):PT X (.Compare a [op,op'] [b,c] pos) (yJV (zWV r r' ta tb tc)):=by
 intro pins s σ H Q I h
 refine isTrue_chain (thn (ha pins s σ H _ I h) fun v s1 ⟨x,H1,I1,r1,q1⟩=>test_link (thn (hb pins s1 σ H1 _ I1 q1) fun u s2 ⟨y,H2,I2,r2,q2⟩=>
  thn (ho pins s2 σ H2 x y v u _ I2 r1 r2 q2) fun d s3 ⟨z,H3,I3,r3,k,e,q3⟩=>?_)) hm
 subst e
 cases r3
 refine wpAny_truthy_bool ?_
 cases k with
 | false=>
  obtain⟨k',e',q'⟩:=q3
  cases e'
  exact ite_ff ⟨H3,I3,q'⟩
 | true=>
  refine ite_tt (test_last (thn (hc pins s3 σ H3 _ I3 q3) fun w' s4 ⟨z',H4,I4,r4,q4⟩=>thn (ho' pins s4 σ H4 y z' u w' _ I4 r2 r4 q4) fun d' s5 ⟨z2,H5,I5,r5,k2,e2,q5⟩=>?_))
  subst e2
  cases r5
  exact wpAny_truthy_bool ⟨H5,I5,q5⟩
def TruV(K:PySem.W.Frag)(x:V)(H:Hp)(k:Bool):Prop:=
 match x with
 | .non=>k=false
 | .bl b=>k=b
 | .int i=>k=(i !=0)
 | .str y=>y.length≤sizeLine∧k=((y.length:Int) !=0)
 | .byt y=>y.size≤sizeLine∧k=((y.size:Int) !=0)
 | .ref p=>(∃xs,SqL K H p xs∧k= !xs.isEmpty)∨(∃xs,SqT K H p xs∧k= !xs.isEmpty)∨ ∃kvs,H p=some (.dK kvs)∧k= !kvs.isEmpty
 | _=>False
theorem zWW{κ:Type}{kvs:List (κ×V)}{vs:List (κ×Value)}(r:KV kvs vs):(!vs.isEmpty)= !kvs.isEmpty:=by
 cases r<;>rfl
theorem zMY{xs:List V}{its:List Value}(r:Vals xs its):(!its.toArray.isEmpty)= !xs.isEmpty:=by
 cases r<;>simp
theorem zJX:(sizeLine:Nat)<2 ^ 63:=by rw [sizeLine_eq];decide
theorem yLJ:TruR X (fun x H Q=> ∃k,TruV X.K x H k∧Q k H):=by
 intro pins s σ H x v Q I rx h
 obtain⟨k,e,q⟩:=h
 have hl:=zJX
 have hs:sizeLine=16777216:=sizeLine_eq
 cases x with
 | non=>
  cases rx
  have e':k=false:=e
  subst e'
  exact truthy_none ⟨H,I,q⟩
 | bl b=>
  cases rx
  have e':k=b:=e
  subst e'
  exact wpAny_truthy_bool ⟨H,I,q⟩
 | int i=>
  obtain⟨t,rfl⟩:=rx
  have e':k=(i !=0):=e
  subst e'
  exact PySem.P.truthy_int ⟨H,I,q⟩
 | str y=>
  obtain⟨t,rfl⟩:=rx
  obtain⟨hy,e'⟩:y.length≤sizeLine∧k=((y.length:Int) !=0):=e
  subst e'
  exact PySem.P.truthy_str (by omega) ⟨H,I.tok _,q⟩
 | byt y=>
  obtain⟨t,rfl⟩:=rx
  obtain⟨hy,e'⟩:y.size≤sizeLine∧k=((y.size:Int) !=0):=e
  subst e'
  exact PySem.W.truthy_bytes (by omega) ⟨H,I.tok _,q⟩
 | ref p=>
  cases rx
  have e':(∃xs,SqL X.K H p xs∧k= !xs.isEmpty)∨(∃xs,SqT X.K H p xs∧k= !xs.isEmpty)∨ ∃kvs,H p=some (.dK kvs)∧k= !kvs.isEmpty:=e
  rcases e' with⟨xs,hx,e'⟩ | ⟨xs,hx,e'⟩ | ⟨kvs,hx,e'⟩
  ·subst e'
   obtain⟨its,r,pl,hz⟩:=I.list hx
   have hlen:=r.length
   exact wpAny_truthy_list pl.isList (by simp only [List.size_toArray];omega) ⟨H,I.tok _,by rw [zMY r];exact q⟩
  ·subst e'
   obtain⟨its,r,pl,hz⟩:=I.tuple hx
   have hlen:=r.length
   exact truthy_tuple pl (by simp only [List.size_toArray];omega) ⟨H,I.tok _,by rw [zMY r];exact q⟩
  ·subst e'
   obtain⟨hz,hS,vs,r,m⟩:kvs.length≤sizeLine∧(p==sysModules)=false∧ ∃vs,KV kvs vs∧s.heap.DictOf (zLZ X.prog X.w) p vs:=I.hok p _ hx
   have hlen:kvs.length=vs.length:=Paired.length r
   exact wpAny_truthy_dict hS m (by omega) ⟨H,I.tok _,by rw [zWW r];exact q⟩
 | _=>exact(show False from e).elim
theorem yDI(ha:PE X a ta)(he: ∀whole,isTrue a X.env whole=(do let v ←whole;standAt a.pos;holding [v] (truthy v))):
  PT X a (fun σ H Q=>ta σ H fun x H'=> ∃k,TruV X.K x H' k∧Q k H'):=by
 intro pins s σ H Q I h
 exact isTrue_plain (thn (ha pins s σ H _ I h) fun v s1 ⟨x,H1,I1,r1,q1⟩=>yLJ pins s1 σ H1 x v Q I1 r1 q1) (he _)
theorem zWX:OpR X (binaryOp .Add) (fun x y H Q=> ∃i j,x=.str i∧y=.str j∧i.length+j.length≤sizeLine∧Q (.str (i++j)) H):=by
 intro pins s σ H x y v u Q I rx ry h
 obtain⟨i,j,rfl,rfl,hz,q⟩:=h
 obtain⟨t,rfl⟩:=rx
 obtain⟨t',rfl⟩:=ry
 exact add_str (fun t' tk=>⟨.str (i++j),H,I.tok _,⟨_,rfl⟩,q⟩) hz
theorem vals1{x:V}{us:List Value}(r:Vals [x] us): ∃u,us=[u]∧RelV x u:=by
 cases r with
 | cons r1 r2=>cases r2;exact⟨_,rfl,r1⟩
theorem vals2{x y:V}{us:List Value}(r:Vals [x,y] us): ∃u w',us=[u,w']∧RelV x u∧RelV y w':=by
 cases r with
 | cons r1 r2=>
  cases r2 with
  | cons r3 r4=>cases r4;exact⟨_,_,rfl,r1,r3⟩
theorem zUD:CallR X (.builtin "abs") (fun xs H Q=> ∃i,xs=[.int i]∧Q (.int (if i<0 then -i else i)) H):=by
 intro pins s σ H xs us Q I r h
 obtain⟨i,rfl,q⟩:=h
 obtain⟨u,rfl,t,rfl⟩:=vals1 r
 exact call_abs_int fun u tk=>⟨.int (if i<0 then -i else i),H,I.tok _,⟨_,rfl⟩,q⟩
theorem yBG(hc:X.calm=true):CallR X (.builtin "max") (fun xs H Q=> ∃i j,xs=[.int i,.int j]∧Q (.int (if j>i then j else i)) H):=by
 intro pins s σ H xs us Q I r h
 obtain⟨i,j,rfl,q⟩:=h
 obtain⟨u,w',rfl,⟨t,rfl⟩,⟨t',rfl⟩⟩:=vals2 r
 refine max_two_ints (I.ok.hd hc) fun h' tk k=>⟨_,H,I.kept k,?_,q⟩
 by_cases hj:j>i
 ·rw [if_pos hj,if_pos hj];exact⟨_,rfl⟩
 ·rw [if_neg hj,if_neg hj];exact⟨_,rfl⟩
end
end L2
namespace L2
open PySem PySem.Spec PyProof.Rows
structure Room(k:Nat)(A:Around):Prop where
 hd:A.handled=none
 dp:A.depth+3 * k+5<recursionLimit
 un:A.units+16 * k+200<cLine
theorem Room.mono{j k:Nat}{A:Around}(r:Room k A)(h:j≤k):Room j A:=⟨r.hd,by have:=r.dp;omega,by have:=r.un;omega⟩
theorem Room.deeper{k:Nat}{A:Around}(r:Room (k+1) A)(env:Env):Room k (A.deeper env):=
 ⟨r.hd,by have:=r.dp;show A.depth+1+3 * k+5<_;omega,by have:=r.un;show A.units+3+16 * k+200<_;omega⟩
theorem zWY{A:Around}{C:Addr}{us:List Value}{kw:List (Str×Value)}:(A.under (.builtin "type.__call__" ⟨.ref C::us,kw⟩)).depth=A.depth+1:=by
 first | rfl | simp [Around.under,Code.weight,Code.isCreation,Code.isGuard,Code.isCaller,Code.frames,Code.isFrame,guardIds]
theorem zWZ{A:Around}{C:Addr}{us:List Value}{kw:List (Str×Value)}:(A.under (.builtin "type.__call__" ⟨.ref C::us,kw⟩)).units=A.units+1:=by
 first | rfl | simp [Around.under,Code.cUnits,Code.frames,Code.isFrame]
theorem Room.make{k:Nat}{A:Around}(r:Room (k+1) A)(C:Addr)(us:List Value)(kw:List (Str×Value)):Room k (A.under (.builtin "type.__call__" ⟨.ref C::us,kw⟩)):=
 ⟨r.hd,by have:=r.dp;rw [zWY];omega,by have:=r.un;rw [zWZ];omega⟩
theorem Room.depth{k:Nat}{A:Around}(r:Room k A):A.depth<recursionLimit:=by have:=r.dp;omega
theorem Room.units{k:Nat}{A:Around}(r:Room k A):A.units+64<cLine:=by have:=r.un;omega
def tNil:TA:=fun _ H Q=>Q [] H
def tCons(ta:TE)(tr:TA):TA:=fun σ H Q=>ta σ H fun x H1=>tr σ H1 fun xs H2=>Q (x::xs) H2
section
variable{X:Cx}{e:Expr}{es:List Expr}{te:TE}{t:TA}{pos:Pos}
theorem zMZ:PA X [] tNil:=fun _ _ _ _ H Q I h=>Calls.spliced_nil ⟨[],H,I,.nil,h⟩
theorem zAL(ha:PE X e te)(hr:PA X es t)(hs:starEach (e::es) X.env=(false,eval e X.env)::starEach es X.env:=by rfl):PA X (e::es) (tCons te t):=by
 intro pos pins s σ H Q I h
 rw [hs]
 show wpAny _ _ (spliced ((false,eval e X.env)::backTo pos (starEach es X.env))) _ _ s
 refine Calls.spliced_cons (thn (ha pins s σ H _ I h) fun u s1 ⟨x,H1,I1,r1,q1⟩=>?_)
 exact thn (hr pos pins s1 σ H1 _ I1 q1) fun us s2 ⟨xs,H2,I2,r2,q2⟩=>⟨x::xs,H2,I2,.cons r1 r2,q2⟩
def tTup(t:TA):TE:=fun σ H Q=>t σ H fun xs H1=>xs.length≤sizeLine∧ ∀p,H1 p=none→Q (.ref p) (upd H1 p (.tup xs))
def tLst(t:TA):TE:=fun σ H Q=>t σ H fun xs H1=>xs.length≤sizeLine∧ ∀p,H1 p=none→Q (.ref p) (upd H1 p (.lst xs))
theorem yLK{x1}(h:PA X es t):PE X (.Tuple es x1 pos) (tTup t):=by
 intro pins s σ H Q I hq
 refine wpAny_Tuple_spliced (thn (h pos pins s σ H _ I hq) fun us s1 ⟨xs,H1,I1,r,z,q⟩=>⟨by rw [←r.length];exact z,?_⟩)
 have hf:H1 s1.heap.objs.size=none:=I1.hok.fresh (Nat.le_refl _)
 refine⟨.ref s1.heap.objs.size,upd H1 s1.heap.objs.size (.tup xs),I1.laid (t':=s1.toks) (fun b u e=>Heap.get?_push_of_some _ e) (Nat.le_refl _) ?_,rfl,q _ hf⟩
 exact⟨z,us,r,⟨_,Heap.get?_push_size _ rfl,rfl,_,rfl⟩⟩
theorem yLL(h:PA X es t):PE X (.List es pos) (tLst t):=by
 intro pins s σ H Q I hq
 refine wpAny_List_spliced (thn (h pos pins s σ H _ I hq) fun us s1 ⟨xs,H1,I1,r,z,q⟩=>⟨by rw [←r.length];exact z,?_⟩)
 have hf:H1 s1.heap.objs.size=none:=I1.hok.fresh (Nat.le_refl _)
 refine⟨.ref s1.heap.objs.size,upd H1 s1.heap.objs.size (.lst xs),I1.laid (t':=s1.toks) (fun b u e=>Heap.get?_push_of_some _ e) (Nat.le_refl _) ?_,rfl,q _ hf⟩
 exact⟨z,us,0,r,Heap.get?_push_size _ rfl⟩
end
abbrev Sp:=List V→Hp→VK→XK→Prop
abbrev CXT:=List Env→Hp→Shared→XK→Value→Shared→Prop
structure Env0(P:Program)(w:World)(K:PySem.W.Frag)(mg:Str→Option Value)(base:Heap)(A:Around)(outer:List Env)(s:Shared)(H:Hp):Prop where
 frames:A.frames=some outer
 mod:Mod K mg base
 bs: ∀b o,base.get? b=some o→s.heap.get? b=some o∧H b=none
 bsz:base.objs.size≤s.heap.objs.size
 funs:s.heap.FunFrames base outer
 frf: ∀b∈frs outer,H b=none
 hok:HOk P w H s.heap
 bare:AllBare s.gens
def CE(outer:List Env)(P:Program)(w:World)(H:Hp)(s:Shared)(Q:VK)(u:Value)(s':Shared):Prop:=
 ∃v H',s'.os=s.os∧AllBare s'.gens∧Un (frs outer) [] H H' s.heap s'.heap∧HOk P w H' s'.heap∧RelV v u∧Q v H'
def CR(CX:CXT)(outer:List Env)(P:Program)(w:World)(H:Hp)(s:Shared)(Q:VK)(E:XK)(r:Result)(s':Shared):Prop:=
 match r with
 | .ok (.ret u)=>CE outer P w H s Q u s'
 | .ok _=>False
 | .error e=>CX outer H s E e s'
structure FnOk(P:Program)(w:World)(K:PySem.W.Frag)(mg:Str→Option Value)(base:Heap)(CX:CXT)(k:Nat)(f:Addr)(fd:FuncData)(ps:List Str)(sp:Sp):Prop where
 len: ∀vs H Q E,sp vs H Q E→vs.length=ps.length
 run: ∀(A:Around)(outer:List Env)(s:Shared)(H:Hp)(args:Args)(us:List Value)(vs:List V)(Q:VK)(E:XK),Room k A→Env0 P w K mg base A outer s H→BindsTo s fd args (ps.zip us)→Vals vs us→sp vs H Q E→
  codeAny (model P w) A (.call (.ref f) args) (CR CX outer P w H s Q E) s
theorem FnOk.imp{P:Program}{w:World}{K:PySem.W.Frag}{mg:Str→Option Value}{base:Heap}{CX:CXT}{k:Nat}{f:Addr}{fd:FuncData}{ps:List Str}{sp sp':Sp}(F:FnOk P w K mg base CX k f fd ps sp)
  (h: ∀vs H Q E,sp' vs H Q E→sp vs H Q E):FnOk P w K mg base CX k f fd ps sp':=
 ⟨fun vs H Q E q=>F.len vs H Q E (h _ _ _ _ q),fun A outer s H args us vs Q E hr he hb hv hs=>F.run A outer s H args us vs Q E hr he hb hv (h _ _ _ _ hs)⟩
theorem Env0.make{P:Program}{w:World}{K:PySem.W.Frag}{mg:Str→Option Value}{base:Heap}{A:Around}{outer:List Env}{s:Shared}{H:Hp}(e:Env0 P w K mg base A outer s H)(C:Addr)(us:List Value)(kw:List (Str×Value)):
  Env0 P w K mg base (A.under (.builtin "type.__call__" ⟨.ref C::us,kw⟩)) outer s H:=⟨by first | exact e.frames | (simpa [Around.under,Code.envs,Code.isFrame,pushEnvs]using e.frames),e.mod,e.bs,e.bsz,e.funs,e.frf,e.hok,e.bare⟩
section
variable{X:Cx}{pins:List (Addr×Obj)}{σ:St}{H:Hp}{s s':Shared}
theorem Inv.env0(I:Inv X pins σ H s):Env0 X.prog X.w X.K X.mg X.base X.A X.stack s H:=
 ⟨I.ok.frames,I.ok.mod,I.bs,Nat.le_trans I.ok.bsz I.sz,I.stack,I.stkFree,I.hok,I.bare⟩
theorem Inv.after{Q:VK}{u:Value}(I:Inv X pins σ H s)(h:CE X.stack X.prog X.w H s Q u s'):EP X pins σ Q u s':=by
 obtain⟨v,H',os,bare,un,hok,r,q⟩:=h
 obtain⟨hh,g,d,t,os'⟩:=s'
 obtain rfl:os'=s.os:=os
 exact⟨v,H',I.call (h':=hh) (g':=g) (d':=d) (t':=t) (ch:=[]) un hok bare (fun b z=>absurd z (by simp)),r,q⟩
end
def tCall(sp:Sp)(dvs:List V)(E:XK)(t:TA):TE:=fun σ H Q=>t σ H fun vs H1=>sp (vs++dvs) H1 Q E
def Binds(K:PySem.W.Frag)(fd:FuncData)(ps:List Str)(ds:List Value):Prop:=
 ∀(s:Shared)(us:List Value),K.In s.heap→(us++ds).length=ps.length→BindsTo s fd ⟨us,[]⟩ (ps.zip (us++ds))
theorem Binds.all{K:PySem.W.Frag}{fd:FuncData}{ps:List Str}(h: ∀us:List Value,us.length=ps.length→bindArgs fd ⟨us,[]⟩=pure (ps.zip us)):Binds K fd ps []:=fun s us _ hl=>by
 rw [List.append_nil]at hl ⊢
 exact .of_eq (h us hl)
def zRN(CX:CXT)(X:Cx)(E:XK):Prop:= ∀(pins:List (Addr×Obj))(σ:St)(H:Hp)(s:Shared)(e:Value)(s':Shared),Inv X pins σ H s→CX X.stack H s E e s'→X.xe e s'
section
variable{X:Cx}{CX:CXT}{k:Nat}{f C:Addr}{fd:FuncData}{ps:List Str}{sp:Sp}{dvs:List V}{ds:List Value}{E:XK}{x m:Str}{p pos apos:Pos}{e o:Expr}{es:List Expr}{ta:TE}{t:TA}
theorem yLM{pins:List (Addr×Obj)}{σ:St}{H:Hp}{s:Shared}{Q:VK}{us:List Value}{vs:List V}(F:FnOk X.prog X.w X.K X.mg X.base CX k f fd ps sp)(hr:Room k X.A)(hb:Binds X.K fd ps ds)(hd:Vals dvs ds)(hx:zRN CX X E)
  (I:Inv X pins σ H s) (r:Vals vs us) (h:sp (vs++dvs) H Q E):wpAny (model X.prog X.w) X.A (call (.ref f) us) (EP X pins σ Q) X.xe s:=by
 have r2:Vals (vs++dvs) (us++ds):=r.append hd
 have hl:(us++ds).length=ps.length:=by rw [←r2.length];exact F.len _ _ _ _ h
 refine wpAny_call (codeAny_mono (F.run X.A X.stack s H ⟨us,[]⟩ (us++ds) (vs++dvs) Q E hr I.env0 (hb s us I.kIn hl) r2 h) fun r s' hq=>?_)
 cases r with
 | error e=>exact hx pins σ H s e s' I hq
 | ok fl=>
  cases fl with
  | ret u=>exact I.after hq
  | next=>exact False.elim hq
  | brk=>exact False.elim hq
  | cont=>exact False.elim hq
theorem zZF(F:FnOk X.prog X.w X.K X.mg X.base CX k f fd ps sp)(hr:Room k X.A)(hg:Gl X x)(hm:X.mg x=some (.ref f))(hk:PySem.W.keepIn X.K (.ref f)=true)(hb:Binds X.K fd ps ds)(hd:Vals dvs ds)(hx:zRN CX X E)
  (ha:PA X (e::es) t) (hdb:(x==("__debug__":Str))=false:=by decide) (he:starEach (e::es) X.env=(false,eval e X.env)::starEach es X.env:=by rfl) (hpl:(backTo pos (starEach es X.env)).any (·.1)=false:=by rfl):
  PE X (.Call (.Name x p) (e::es) [] pos) (tCall sp dvs E t):=by
 intro pins s σ H Q I h
 refine wpAny_Call_Name_kw (zAK I hg hm ?_ hdb)
 refine PySem.W.callWith_K (h₀:=X.base) I.ok.mod.kin hk (thn (ha pos pins s σ H _ I h) fun us s1 ⟨vs,H1,I1,r,q⟩=>⟨I1.kIn,?_⟩) he hpl
 exact yLM F hr hb hd hx I1 r q
end
structure FnScope(N P:List Str)(sc:Scope):Prop where
 kind:sc.kind=.function
 co:sc.isCoroutine=false
 gen:sc.isGenerator=false
 nd:N.Nodup
 pre:N.take P.length=P
 par: ∀x∈P,sc.names.lookup x=some .local∨sc.names.lookup x=some .cell
 nofree: ∀y∈sc.names,y.2≠.free
theorem zQH{kindOf:Str→Option NameKind}{x:Str}: ∀{binds:List (Str×Value)}{m:Str→Option Value},(∀v,(x,v)∉binds)→bindL kindOf binds m x=m x
 | [],_,_=>rfl
 | (n,v)::r,m,h=>by
  unfold bindL
  rw [zQH fun w hw=>h w (List.mem_cons_of_mem _ hw)]
  split
  ·have:x≠n:=by rintro rfl;exact h v List.mem_cons_self
   simp [this]
  ·rfl
theorem zQI{kindOf:Str→Option NameKind}{x:Str}: ∀{binds:List (Str×Value)}{m:Str→Option Value},(∀v,(x,v)∉binds)→bindC kindOf binds m x=m x
 | [],_,_=>rfl
 | (n,v)::r,m,h=>by
  unfold bindC
  rw [zQI fun w hw=>h w (List.mem_cons_of_mem _ hw)]
  split
  ·rfl
  ·have:x≠n:=by rintro rfl;exact h v List.mem_cons_self
   simp [this]
theorem zQJ{kindOf:Str→Option NameKind}{x:Str}{v:Value}: ∀{P:List Str}{vs:List Value}{i:Nat}{m:Str→Option Value},P.Nodup→P[i]? =some x→vs[i]? =some v→kindOf x=some .local→
  bindL kindOf (P.zip vs) m x=some v
 | [],_,_,_,_,h,_,_=>by simp at h
 | _::_,[],_,_,_,_,h,_=>by simp at h
 | p::P,w::vs,0,m,nd,h1,h2,hk=>by
  simp at h1 h2;subst h1;subst h2
  show bindL kindOf ((p,w)::P.zip vs) m p=_
  unfold bindL
  rw [zQH fun v hv=>(List.nodup_cons.mp nd).1 (List.of_mem_zip hv).1,if_pos hk]
  simp
 | p::P,w::vs,i+1,m,nd,h1,h2,hk=>by
  show bindL kindOf ((p,w)::P.zip vs) m x=_
  unfold bindL
  exact zQJ (i:=i) (List.nodup_cons.mp nd).2 (by simpa using h1) (by simpa using h2) hk
theorem zQK{kindOf:Str→Option NameKind}{x:Str}{v:Value}: ∀{P:List Str}{vs:List Value}{i:Nat}{m:Str→Option Value},P.Nodup→P[i]? =some x→vs[i]? =some v→kindOf x≠some .local→
  bindC kindOf (P.zip vs) m x=some v
 | [],_,_,_,_,h,_,_=>by simp at h
 | _::_,[],_,_,_,_,h,_=>by simp at h
 | p::P,w::vs,0,m,nd,h1,h2,hk=>by
  simp at h1 h2;subst h1;subst h2
  show bindC kindOf ((p,w)::P.zip vs) m p=_
  unfold bindC
  rw [zQI fun v hv=>(List.nodup_cons.mp nd).1 (List.of_mem_zip hv).1,if_neg hk]
  simp
 | p::P,w::vs,i+1,m,nd,h1,h2,hk=>by
  show bindC kindOf ((p,w)::P.zip vs) m x=_
  unfold bindC
  exact zQK (i:=i) (List.nodup_cons.mp nd).2 (by simpa using h1) (by simpa using h2) hk
def start(N:List Str)(vs:List V):St:=vs.map some++List.replicate (N.length - vs.length) none
def zNA(CX:CXT)(P:Program)(w:World)(K:PySem.W.Frag)(mg:Str→Option Value)(base:Heap)(N:List Str)(qual:Str)(scope:Scope)(f:Addr)(cd:Value)(A:Around)(outer:List Env)(s:Shared)(H:Hp)(E:XK):Cx where
 prog:=P
 w:=w
 K:=K
 mg:=mg
 base:=base
 A:=A.deeper (envOfC qual scope s.heap.objs.size f cd)
 N:=N
 s₀:=s
 H₀:=H
 env:=envOfC qual scope s.heap.objs.size f cd
 outer:=outer
 stack:=envOfC qual scope s.heap.objs.size f cd::outer
 ex:=[]
 calm:=true
 fn:=fun _=>true
 pn:=[]
 xe:=fun e s'=>wpAny (model P w) (A.deeper (envOfC qual scope s.heap.objs.size f cd)) (leaving (envOfC qual scope s.heap.objs.size f cd) e) (fun _ s''=>CX outer H s E e s'') (fun e' s''=>CX outer H s E e' s'') s'
theorem zUE{sc:Scope}{n:Nat}{x:Str}(h:sc.names.lookup x=some .cell): ∃c,(cellsFrom n sc.names []).lookup x=some c:=by
 have q:=PySem.W.cellsFrom_some sc.names n [] (.inl h)
 exact Option.isSome_iff_exists.mp q
theorem zQL{CX:CXT}{P:Program}{w:World}{K:PySem.W.Frag}{mg:Str→Option Value}{base:Heap}{N ps:List Str}{qual:Str}{scope:Scope}{f:Addr}{cd:Value}{A:Around}{outer:List Env}{s s1:Shared}{H:Hp}{E:XK}{us:List Value}{vs:List V}
  (S:FnScope N ps scope) (hd:A.handled=none) (e0:Env0 P w K mg base A outer s H) (hl:vs.length=ps.length) (r:Vals vs us)
  (x:InCallC s s.heap.objs.size (bindL (envOfC qual scope s.heap.objs.size f cd).kindOf (ps.zip us) fun _=>none) (cellsFrom (s.heap.objs.size+1) scope.names []) (bindC (envOfC qual scope s.heap.objs.size f cd).kindOf (ps.zip us) fun _=>none) s1):
  Inv (zNA CX P w K mg base N qual scope f cd A outer s H E) [] (start N vs) H s1:=by
 have hpl:ps.length≤N.length:=by have:=congrArg List.length S.pre;rw [List.length_take]at this;omega
 obtain⟨h1,tk,rfl,hk⟩:=x.done
 have noA: ∀b:Addr,b∉(zNA CX P w K mg base N qual scope f cd A outer s H E).ex:=fun b z=>absurd (show b∈([]:List Addr)from z) (by simp)
 refine⟨⟨e0.mod,S.kind,rfl,rfl,Nat.le_refl _,fun y z c h1 h2=>?_,fun y hy=>?_,fun y c _ h=>?_,fun _=>hd,Around.frames_deeper e0.frames,.inr ⟨rfl,rfl⟩,fun b z=>absurd z (noA b),e0.bs,e0.bsz,fun b _ _=>noA b,fun b z=>absurd z (noA b),e0.funs,e0.frf⟩,
  rfl,e0.bare,Un.kept hk,⟨_,x.toInCall.ns,fun i y v h1 h2 h3=>?_⟩,fun y c h=>⟨_,x.cell y c h⟩,e0.hok.fresh (Nat.le_refl _),fun y c h=>?_,fun p hp=>absurd (show p∈([]:List (Addr×Obj))from hp) (by simp),e0.hok.kept hk,?_⟩
 ·exact name_of_addr x.apart (PySem.mem_of_lookup h1) (PySem.mem_of_lookup h2)
 ·have hy:scope.names.lookup y=some .cell∨scope.names.lookup y=some .free:=hy
  rcases hy with hy | hy
  ·exact zUE hy
  ·exact absurd rfl (S.nofree _ (PySem.mem_of_lookup hy))
 ·exact Nat.le_of_lt (x.above y c (PySem.mem_of_lookup h))
 ·have hi:i<vs.length:=by
   unfold start at h2
   by_cases hi:i<vs.length
   ·exact hi
   ·rw [List.getElem?_append_right (by simpa using hi)]at h2
    rw [List.getElem?_replicate]at h2
    split at h2<;>cases h2
  have ha:vs[i]? =some v:=by
   unfold start at h2
   rw [List.getElem?_append_left (by simpa using hi),List.getElem?_map]at h2
   cases e:vs[i]? with
   | none=>rw [e]at h2;cases h2
   | some a=>rw [e]at h2;cases h2;rfl
  obtain⟨u,hu,rv⟩:=r.get ha
  have hp:ps[i]? =some y:=by
   rw [←S.pre,List.getElem?_take_of_lt (by omega)];exact h1
  have ndP:ps.Nodup:=by rw [←S.pre];exact S.nd.sublist (List.take_sublist _ _)
  refine⟨u,rv,?_⟩
  rcases S.par y (List.mem_of_getElem? hp)with k | k
  ·exact .inl ⟨k,zQJ ndP hp hu k⟩
  ·obtain⟨c,e⟩:=zUE (n:=s.heap.objs.size+1) k
   refine .inr ⟨.inl k,c,e,?_⟩
   have q:=x.cell y c e
   rw [zQK ndP hp hu (by show scope.names.lookup y≠_;rw [k];decide)]at q
   exact q
 ·exact e0.hok.fresh (Nat.le_of_lt (x.above y c (PySem.mem_of_lookup h)))
 ·unfold start
  show _=N.length
  rw [List.length_append,List.length_map,List.length_replicate]
  omega
theorem yJW{CX:CXT}{P:Program}{w:World}{K:PySem.W.Frag}{mg:Str→Option Value}{base:Heap}{k:Nat}{f:Addr}{name qual:Str}{params:Arguments}{body:List Stmt}{scope:Scope}{dV kV doc pm cdv ct oc:Value}{an od:Option Addr}
  {osl:Array (Option Value)} {N ps:List Str} {sp:Sp} (lk:K.lookup f=some ⟨oc,od,.func (PySem.W.fnOf name qual params body scope dV kV doc pm an cdv ct),osl⟩) (hcd:PySem.W.codeIn K cdv qual=true) (S:FnScope N ps scope)
  (len: ∀vs H Q E,sp vs H Q E→vs.length=ps.length)
  (hbody: ∀(A:Around)(outer:List Env)(s:Shared)(H:Hp)(vs:List V)(Q:VK)(E:XK),Room k (A.deeper (envOfC qual scope s.heap.objs.size f cdv))→sp vs H Q E→
   ∃t,PSs (zNA CX P w K mg base N qual scope f cdv A outer s H E) body t∧t {nx:=fun _ H'=>Q .non H',rt:=Q} (start N vs) H):
  FnOk P w K mg base CX (k+1) f (PySem.W.fnOf name qual params body scope dV kV doc pm an cdv ct) ps sp:=by
 refine⟨len,fun A outer s H args us vs Q E hr e0 hb r hsp=>?_⟩
 have hl:=len _ _ _ _ hsp
 have KX:K.In s.heap:=e0.mod.kin.keeps fun b o e=>(e0.bs b o e).1
 have lim:s.heap.NoLimit:=e0.mod.nolimit.keeps fun b o e=>(e0.bs b o e).1
 have hkind: ∀y∈ps.zip us,scope.names.lookup y.1=some .local∨(scope.names.lookup y.1=some .cell∧((cellsFrom (s.heap.objs.size+1) scope.names []).lookup y.1).isSome=true):=fun⟨n,v⟩ hy=>by
  rcases S.par n (List.of_mem_zip hy).1 with q | q
  ·exact .inl q
  ·exact .inr ⟨q,PySem.W.cellsFrom_some _ _ _ (.inl q)⟩
 refine codeAny_call_function hr.depth (KX _ _ lk) rfl S.co S.gen rfl (PySem.W.codeRec_of KX hcd) (hb _ _ _ _ ?_)
 refine wpAny_newFunctionEnv_cells S.kind hkind fun env he s1 x=>?_
 subst he
 refine⟨lim.keeps x.toInCall.keep,codeAny_func ?_⟩
 obtain⟨t,ht,hq⟩:=hbody A outer s H vs Q E (hr.deeper _) hsp
 have I:Inv (zNA CX P w K mg base N qual scope f cdv A outer s H E) [] (start N vs) H s1:=zQL S hr.hd e0 hl r x
 refine wpAny_mono (ht [] s1 (start N vs) H _ I hq) (fun fl s' hs=>?_) fun e s' hs=>hs
 have fin: ∀{σ':St}{H':Hp}{v:V}{u:Value},Inv (zNA CX P w K mg base N qual scope f cdv A outer s H E) [] σ' H' s'→RelV v u→Q v H'→CE outer P w H s Q u s':=
  fun {σ' H' v u} J rv q=>⟨v,H',J.os,J.bare,J.base,J.hok,rv,q⟩
 cases fl with
 | ret u=>
  obtain⟨v,σ',H',J,rv,q⟩:=hs
  exact fin J rv q
 | next=>
  obtain⟨σ',H',J,q⟩:=hs
  exact fin (v:=V.non) (u:=Value.none) J rfl q
 | brk=>
  obtain⟨_,_,_,q⟩:=hs
  exact False.elim q
 | cont=>
  obtain⟨_,_,_,q⟩:=hs
  exact False.elim q
end L2
namespace L2
open PySem PySem.Spec PyProof.Rows
section
variable{X:Cx}{x:Str}{p pos:Pos}{e:Expr}{es:List Expr}{t:TA}{id T:String}{r:List V→Hp→VK→Prop}
def tCB(r:List V→Hp→VK→Prop)(t:TA):TE:=fun σ H Q=>t σ H fun vs H1=>r vs H1 Q
theorem zNB(hc:CallR X (.builtin id) r)(hg:Gl X x)(hm:X.mg x=none)(hv:bootBuiltins x=some (.builtin id))(ha:PA X (e::es) t)(hn:x≠"__name__":=by decide)(hdb:(x==("__debug__":Str))=false:=by decide)
  (he:starEach (e::es) X.env=(false,eval e X.env)::starEach es X.env:=by rfl) (hpl:(backTo pos (starEach es X.env)).any (·.1)=false:=by rfl):PE X (.Call (.Name x p) (e::es) [] pos) (tCB r t):=by
 intro pins s σ H Q I h
 refine wpAny_Call_Name_kw (zJW I hg hm hv ?_ hn hdb)
 exact PyProof.Rows.callWith_builtin1 (thn (ha pos pins s σ H _ I h) fun us s1 ⟨vs,H1,I1,r1,q1⟩=>hc pins s1 σ H1 vs us Q I1 r1 q1) he hpl
theorem yBH(hc:CallR X (.type T) r)(hg:Gl X x)(hm:X.mg x=none)(hv:bootBuiltins x=some (.type T))(ha:PA X (e::es) t)(hn:x≠"__name__":=by decide)(hdb:(x==("__debug__":Str))=false:=by decide)
  (he:starEach (e::es) X.env=(false,eval e X.env)::starEach es X.env:=by rfl) (hpl:(backTo pos (starEach es X.env)).any (·.1)=false:=by rfl):PE X (.Call (.Name x p) (e::es) [] pos) (tCB r t):=by
 intro pins s σ H Q I h
 refine wpAny_Call_Name_kw (zJW I hg hm hv ?_ hn hdb)
 exact PyProof.Rows.callWith_type1 (thn (ha pos pins s σ H _ I h) fun us s1 ⟨vs,H1,I1,r1,q1⟩=>hc pins s1 σ H1 vs us Q I1 r1 q1) he hpl
end
end L2
namespace HT
open PySem PyProof.Rows
section
variable{prog:Program}{w:World}{A:Around}{E:Value→Shared→Prop}{s:Shared}
theorem cat_tup{t b:Addr}{vs ws:List Value}{Q:Value→Shared→Prop}(ht:IsTup s.heap t vs.toArray)(hb:IsTup s.heap b ws.toArray)(hv:vs≠[])
  (h1:ws=[]→Q (.ref t) s) (h2:ws≠[]→Q (.ref s.heap.objs.size) {s with heap:=s.heap.push {cls:=.type "tuple",data:=.seq (vs++ws).toArray}})
  (hsz:vs.length+ws.length≤sizeLine):wpAny (model prog w) A (binaryOp .Add (.ref t) (.ref b)) Q E s:=by
 obtain⟨⟨cls,dd,data,sl⟩,ho,hc,n,hd⟩:=id ht
 obtain⟨⟨cls2,dd2,data2,sl2⟩,ho2,hc2,n2,hd2⟩:=id hb
 simp only at hc hd hc2 hd2
 subst hc hd hc2 hd2
 have e:vs.toArray++ws.toArray=(vs++ws).toArray:=by simp
 by_cases hw:ws=[]
 ·exact concat_meets ⟨_,ho,rfl⟩ ⟨_,ho2,rfl⟩ noFill_tuple_add seq_tuple_add PySem.F.slot_tuple_add PySem.F.entry_tuple_add (PySem.F.args_tuple_add_2 _ _)
   (tuple_addW1 t b vs.toArray ws.toArray n n2 dd dd2 sl sl2 (by simpa using hv) (by simp [hw])) ⟨ho,ho2,h1 hw⟩
 ·refine concat_meets ⟨_,ho,rfl⟩ ⟨_,ho2,rfl⟩ noFill_tuple_add seq_tuple_add PySem.F.slot_tuple_add PySem.F.entry_tuple_add (PySem.F.args_tuple_add_2 _ _)
   (tuple_addW2 t b vs.toArray ws.toArray n n2 dd dd2 sl sl2 (by simpa using hv) (by simpa using hw) (by rw [List.size_toArray,List.size_toArray];exact hsz)) ⟨ho,ho2,?_⟩
  rw [e]
  exact h2 hw
def sIx(n d:Nat):Option Int→Nat
 | none=>d
 | some v=>if v<0 then(v+(n:Int)).toNat else min v.toNat n
theorem sIx_none(n d:Nat):sIx n d none=d:=rfl
theorem sIx_nat(n d k:Nat):sIx n d (some (k:Int))=min k n:=by
 show(if(k:Int)<0 then((k:Int)+(n:Int)).toNat else min (k:Int).toNat n)=min k n
 rw [if_neg (by omega),Int.toNat_natCast]
theorem sIx_le(n d:Nat)(hd:d≤n)(o:Option Int):sIx n d o≤n:=by
 cases o with
 | none=>exact hd
 | some v=>
  show(if v<0 then(v+(n:Int)).toNat else min v.toNat n)≤n
  by_cases hv:v<0
  ·rw [if_pos hv];omega
  ·rw [if_neg hv];exact Nat.min_le_right _ _
theorem zZG(v:Int)(n d:Nat):(if v<0 then max (v+(n:Int)) 0 else min v (n:Int))=((sIx n d (some v):Nat):Int):=by
 show(if v<0 then max (v+(n:Int)) 0 else min v (n:Int))=(((if v<0 then(v+(n:Int)).toNat else min v.toNat n):Nat):Int)
 by_cases hv:v<0
 ·simp only [if_pos hv];omega
 ·simp only [if_neg hv];omega
theorem zXA(lo hi:Option Int)(n:Nat):Builtin.Slice.sliceAdjust lo hi 1 (n:Int)=(((sIx n 0 lo:Nat):Int),((sIx n n hi:Nat):Int)):=by
 have h1: ¬((1:Int)<0):=by omega
 unfold Builtin.Slice.sliceAdjust
 simp only [h1,if_false]
 refine Prod.ext ?_ ?_
 ·cases lo with
  | none=>rfl
  | some v=>exact zZG v n 0
 ·cases hi with
  | none=>rfl
  | some v=>exact zZG v n n
theorem zXB(i j:Nat):Builtin.Slice.slicePlaces (i:Int) (j:Int) 1=j - i:=by
 unfold Builtin.Slice.slicePlaces
 have h1:(1:Int)>0:=by omega
 simp only [h1,if_true,Int.ediv_one]
 split<;>omega
theorem zNC{v:Value}{o:Option Int}{Q:Option Int→Shared→Prop}(p:IsPart v o)(h:Q o s):wpAny (model prog w) A (Builtin.Slice.slicePartIndex v) Q E s:=by
 cases p with
 | none=>exact slicePart_none h
 | int i t=>exact slicePart_int h
theorem sliceApplied_gen{sl:Addr}{vl vu:Value}{lo hi:Option Int}{n:Nat}{Q:Int×Int×Nat→Shared→Prop}(hs:s.heap.IsSliceOf sl vl vu .none)(pl:IsPart vl lo)(pu:IsPart vu hi)
  (h:Q (((sIx n 0 lo:Nat):Int),1,sIx n n hi - sIx n 0 lo) s):wpAny (model prog w) A (Builtin.Slice.sliceApplied (.ref sl) (pure (n:Int))) Q E s:=by
 obtain⟨os,hos,hcs,hds⟩:=id hs
 unfold Builtin.Slice.sliceApplied Builtin.Slice.sliceFields
 refine wpAny_bind (wpAny_bind (wpAny_field hos hds (x:=vl) rfl (wpAny_bind (wpAny_field hos hds (x:=vu) rfl (wpAny_bind (wpAny_field hos hds (x:=.none) rfl (wpAny_pure ?_)))))))
 refine wpAny_bind (slicePart_none ?_)
 show wpAny _ _ (if((1:Int)==0)=true then _ else _) _ _ s
 rw [if_neg (by decide)]
 refine wpAny_bind (zNC pl (wpAny_bind (zNC pu (wpAny_bind (wpAny_pure ?_)))))
 show wpAny _ _ (match Builtin.Slice.sliceAdjust lo hi 1 (n:Int)with | (lo,hi)=>pure (lo,(1:Int),Builtin.Slice.slicePlaces lo hi 1)) _ _ s
 rw [zXA lo hi n]
 show wpAny _ _ (pure (((sIx n 0 lo:Nat):Int),(1:Int),Builtin.Slice.slicePlaces ((sIx n 0 lo:Nat):Int) ((sIx n n hi:Nat):Int) 1)) _ _ s
 rw [zXB]
 exact wpAny_pure h
theorem yDJ(xs:Array Value)(i k:Nat):((List.range k).filterMap fun(m:Nat)=>xs[((i:Int)+(m:Int) * 1).toNat]?).toArray=((xs.toList.drop i).take k).toArray:=by
 have e:(fun(m:Nat)=>xs[((i:Int)+(m:Int) * 1).toNat]?)=fun m=>xs[i+m]? :=by
  funext m
  have:((i:Int)+(m:Int) * 1).toNat=i+m:=by omega
  rw [this]
 rw [e]
 have:=pick_run xs i k
 rw [List.filterMap_map]at this
 have e2:((fun x=>xs[x]?)∘fun x=>i+x)=fun m=>xs[i+m]? :=rfl
 rw [e2]at this
 rw [this]
theorem getItem_tuple_cut{t sl:Addr}{items:Array Value}{vl vu:Value}{lo hi:Option Int}{Q:Value→Shared→Prop}(ht:IsTup s.heap t items)(hs:s.heap.IsSliceOf sl vl vu .none)(pl:IsPart vl lo)(pu:IsPart vu hi)
  (hw: ¬(sIx items.size 0 lo=0∧sIx items.size items.size hi=items.size))
  (h:Q (.ref s.heap.objs.size) {s with heap:=s.heap.push {cls:=.type "tuple",data:=.seq ((items.toList.drop (sIx items.size 0 lo)).take (sIx items.size items.size hi - sIx items.size 0 lo)).toArray}})
  (hsz:items.size≤sizeLine):wpAny (model prog w) A (getItem (.ref t) (.ref sl)) Q E s:=by
 have htake:sizeOk (.seq ((items.toList.drop (sIx items.size 0 lo)).take (sIx items.size items.size hi - sIx items.size 0 lo)).toArray):=by
  show((items.toList.drop (sIx items.size 0 lo)).take (sIx items.size items.size hi - sIx items.size 0 lo)).toArray.size≤sizeLine
  rw [List.size_toArray,List.length_take,List.length_drop,Array.length_toList]
  omega
 have hj:sIx items.size items.size hi≤items.size:=sIx_le _ _ (Nat.le_refl _) hi
 obtain⟨os,hos,hcs,hds⟩:=id hs
 have hTs:s.TypeIs (.ref sl) "slice":=⟨os,hos,hcs⟩
 unfold getItem
 try with_reducible refine wpAny_holding ?_
 first | refine wpAny_bind (wpAny_pure ?_) | skip
 refine wpAny_bind (wpAny_sequenceKey ht.typeIs (by decide) ?_)
 refine wpAny_bind (wpAny_callSpecial?_slot (name:=Str.ofString "__getitem__") ht.typeIs PyProof.Rows.slot_tuple_getitem
  (wpAny_call_entry PyProof.Rows.slot_tuple_getitem ht.typeIs entry_tuple_getitem ?_ (args_tuple_getitem _ _)))
 show wpAny _ _ (Builtin.Tuple.tupleItemsOf (.ref t) >>= _) _ _ s
 refine wpAny_bind (tupleItemsOf_ ht ?_)
 refine wpAny_bind (wpAny_typeOf hTs ?_)
 rw [if_pos (by decide)]
 refine wpAny_bind (sliceApplied_gen hs pl pu ?_)
 have hno: ¬((((sIx items.size 0 lo:Nat):Int)==0&&(1:Int)==1&&(sIx items.size items.size hi - sIx items.size 0 lo)==items.size)=true):=by
  intro q
  rw [Bool.and_eq_true,Bool.and_eq_true]at q
  have q1:((sIx items.size 0 lo:Nat):Int)=0:=eq_of_beq q.1.1
  have q2:sIx items.size items.size hi - sIx items.size 0 lo=items.size:=eq_of_beq q.2
  exact hw ⟨by omega,by omega⟩
 show wpAny _ _ (if(((sIx items.size 0 lo:Nat):Int)==0&&(1:Int)==1&&(sIx items.size items.size hi - sIx items.size 0 lo)==items.size)=true then _ else _) _ _ s
 rw [if_neg hno,yDJ]
 first
  | exact wpAny_bind (m:=Builtin.Tuple.tupleExact _) (wpAny_newObj_type (wpAny_pure ⟨_,rfl,wpAny_pure h⟩) htake)
  | exact wpAny_bind (m:=Builtin.Tuple.tupleExact _) (wpAny_newObj_type (wpAny_bind (wpAny_pure (wpAny_pure ⟨_,rfl,wpAny_pure h⟩))) htake)
  | exact wpAny_bind (wpAny_bind (m:=Builtin.Tuple.tupleExact _) (wpAny_newObj_type (wpAny_pure (wpAny_pure ⟨_,rfl,wpAny_pure h⟩)) htake))
  | exact wpAny_bind (wpAny_bind (m:=Builtin.Tuple.tupleExact _) (wpAny_newObj_type (wpAny_pure ⟨_,rfl,wpAny_pure h⟩) htake))
end
end HT
namespace L2
open PySem PySem.Spec PyProof.Rows
abbrev TO:=St→Hp→(Option Int→Hp→Prop)→Prop
def PO(X:Cx)(e:Option Expr)(t:TO):Prop:=
 ∀(pins:List (Addr×Obj))(s:Shared)(σ:St)(H:Hp)(Q:Option Int→Hp→Prop),Inv X pins σ H s→t σ H Q→
  wpAny (model X.prog X.w) X.A (evalPart e X.env) (fun u s'=> ∃o H',Inv X pins σ H' s'∧IsPart u o∧Q o H') X.xe s
def yHF:TO:=fun _ H Q=>Q none H
def tPart(t:TE):TO:=fun σ H Q=>t σ H fun x H1=> ∃i,x=.int i∧Q (some i) H1
section
variable{X:Cx}{e:Expr}{te:TE}{lo hi:Option Expr}{tl th:TO}{pos p2:Pos}
theorem yHG:PO X none yHF:=by
 intro pins s σ H Q I h
 rw [evalPart_none]
 exact wpAny_pure ⟨none,H,I,.none,h⟩
theorem yHH(h:PE X e te):PO X (some e) (tPart te):=by
 intro pins s σ H Q I hw
 rw [evalPart_some]
 refine thn (h pins s σ H _ I hw) fun u s1 ⟨x,H1,I1,r1,q1⟩=>?_
 obtain⟨i,rfl,q⟩:=q1
 obtain⟨t,rfl⟩:=r1
 exact⟨some i,H1,I1,.int i t,q⟩
def SlR(X:Cx)(r:V→Option Int→Option Int→Hp→VK→Prop):Prop:=
 ∀(pins:List (Addr×Obj))(s:Shared)(σ:St)(H:Hp)(x:V)(v vl vu:Value)(lo hi:Option Int)(sl:Addr)(Q:VK),Inv X pins σ H s→RelV x v→s.heap.IsSliceOf sl vl vu .none→IsPart vl lo→IsPart vu hi→r x lo hi H Q→
  ∃T id,typeLookup (.type T) "__getitem__"=pure (some (.builtin id))∧s.TypeIs v T∧wpAny (model X.prog X.w) X.A (getItem v (.ref sl)) (EP X pins σ Q) X.xe s
theorem SlR.or{r r':V→Option Int→Option Int→Hp→VK→Prop}(h:SlR X r)(h':SlR X r'):SlR X (fun x lo hi H Q=>r x lo hi H Q∨r' x lo hi H Q):=by
 intro pins s σ H x v vl vu lo hi sl Q I rx hs pl pu q
 rcases q with q | q
 ·exact h pins s σ H x v vl vu lo hi sl Q I rx hs pl pu q
 ·exact h' pins s σ H x v vl vu lo hi sl Q I rx hs pl pu q
def tSl(r:V→Option Int→Option Int→Hp→VK→Prop)(te:TE)(tl th:TO):TE:=fun σ H Q=>te σ H fun x H1=>tl σ H1 fun l H2=>th σ H2 fun u H3=>r x l u H3 Q
theorem yDK{r:V→Option Int→Option Int→Hp→VK→Prop}(hr:SlR X r)(he:PE X e te)(hl:PO X lo tl)(hu:PO X hi th):PE X (.Subscript e (.Slice lo hi none p2) pos) (tSl r te tl th):=by
 intro pins s σ H Q I h
 refine Subscript_ (thn (he pins s σ H _ I h) fun v s1 ⟨x,H1,I1,r1,q1⟩=>?_)
 refine wpAny_Slice (thn (hl pins s1 σ H1 _ I1 q1) fun vl s2 ⟨l,H2,I2,pl,q2⟩=>thn (hu pins s2 σ H2 _ I2 q2) fun vu s3 ⟨u,H3,I3,pu,q3⟩=>?_)
 rw [evalPart_none]
 refine wpAny_pure ?_
 have I4:Inv X pins σ H3 {s3 with heap:=s3.heap.push {cls:=.type "slice",data:=.fields #[vl,vu,.none]}}:=I3.kept (t':=s3.toks) fun b ob q=>Heap.get?_push_of_some _ q
 obtain⟨T,id,hT,ht,hg⟩:=hr pins {s3 with heap:=s3.heap.push {cls:=.type "slice",data:=.fields #[vl,vu,.none]}} σ H3 x v vl vu l u s3.heap.objs.size Q I4 r1 (Heap.IsSliceOf.new ..) pl pu q3
 show wpAny (model X.prog X.w) X.A (subscriptTail e (.Slice lo hi none p2) v (.ref s3.heap.objs.size)) (EP X pins σ Q) X.xe {s3 with heap:=s3.heap.push {cls:=.type "slice",data:=.fields #[vl,vu,.none]}}
 exact tail_any (ops:=[.ref s3.heap.objs.size,v]) ht hT hg (by with_unfolding_all rfl)
def zUF(xs:List V)(lo hi:Option Int):List V:=(xs.drop (HT.sIx xs.length 0 lo)).take (HT.sIx xs.length xs.length hi - HT.sIx xs.length 0 lo)
theorem zLF(xs:List V)(lo hi:Option Int):(zUF xs lo hi).length≤xs.length:=by
 unfold zUF
 rw [List.length_take,List.length_drop]
 omega
def rSlT(K:PySem.W.Frag):V→Option Int→Option Int→Hp→VK→Prop:=fun x lo hi H Q=> ∃a xs,x=.ref a∧SqT K H a xs∧
 ¬(HT.sIx xs.length 0 lo=0∧HT.sIx xs.length xs.length hi=xs.length)∧ ∀p,H p=none→Q (.ref p) (upd H p (.tup (zUF xs lo hi)))
theorem yLN:SlR X (rSlT X.K):=by
 intro pins s σ H x v vl vu lo hi sl Q I rx hs pl pu h
 obtain⟨a,xs,rfl,hx,hw,q⟩:=h
 cases rx
 obtain⟨its,r,ht,hz⟩:=I.tuple hx
 have hlen:its.toArray.size=xs.length:=by rw [List.size_toArray];exact r.length.symm
 refine⟨"tuple",_,PyProof.Rows.slot_tuple_getitem.lookup,ht.typeIs,?_⟩
 refine HT.getItem_tuple_cut ht hs pl pu (by rw [hlen];exact hw) ?_ (by rw [hlen];exact hz)
 rw [hlen]
 refine⟨.ref s.heap.objs.size,_,I.laid (t':=s.toks) (o:=.tup (zUF xs lo hi)) (fun b ob q=>Heap.get?_push_of_some _ q) (Nat.le_refl _) ?_,rfl,q _ (I.hok.fresh (Nat.le_refl _))⟩
 exact⟨Nat.le_trans (zLF xs lo hi) hz,_,(r.drop (HT.sIx xs.length 0 lo)).take (HT.sIx xs.length xs.length hi - HT.sIx xs.length 0 lo),IsTup.new _ _⟩
def rCatT(K:PySem.W.Frag):R2:=fun x y H Q=> ∃a b xs ys,x=.ref a∧y=.ref b∧SqT K H a xs∧SqT K H b ys∧xs≠[]∧xs.length+ys.length≤sizeLine∧
 (ys=[]→Q (.ref a) H)∧(ys≠[]→ ∀p,H p=none→Q (.ref p) (upd H p (.tup (xs++ys))))
theorem Vals.nil_iff{xs:List V}{us:List Value}(r:Vals xs us):us=[]↔xs=[]:=by
 cases r with
 | nil=>simp
 | cons _ _=>simp
theorem yHI:OpR X (binaryOp .Add) (rCatT X.K):=by
 intro pins s σ H x y v u Q I rx ry h
 obtain⟨a,b,xs,ys,rfl,rfl,ha,hb,hx,hz,q1,q2⟩:=h
 cases rx
 cases ry
 obtain⟨its,r1,p1,_⟩:=I.tuple ha
 obtain⟨its2,r2,p2,_⟩:=I.tuple hb
 refine HT.cat_tup p1 p2 (fun z=>hx (r1.nil_iff.mp z)) (fun z=>⟨.ref a,H,I,rfl,q1 (r2.nil_iff.mp z)⟩) (fun z=>?_) (by rw [←r1.length, ←r2.length];exact hz)
 refine⟨.ref s.heap.objs.size,_,I.laid (t':=s.toks) (o:=.tup (xs++ys)) (fun b ob q=>Heap.get?_push_of_some _ q) (Nat.le_refl _) ?_,rfl,q2 (fun w=>z (r2.nil_iff.mpr w)) _ (I.hok.fresh (Nat.le_refl _))⟩
 exact⟨by rw [List.length_append];exact hz,_,r1.append r2,IsTup.new _ _⟩
end
end L2
namespace L2
open PySem PySem.Spec PyProof.Rows
def ixN(n:Nat)(i:Int):Option Nat:=if 0≤i then(if i<n then some i.toNat else none)else if -(n:Int)≤i then some (i+n).toNat else none
def atI{α:Type}(xs:List α)(i:Int):Option α:=(ixN xs.length i).bind fun j=>xs[j]?
theorem yHJ{n:Nat}{i:Int}{j:Nat}(h:ixN n i=some j):seqIndex? i n=some j∧j<n∧ -(n:Int)≤i∧i<n:=by
 unfold ixN at h
 by_cases h0:0≤i
 ·rw [if_pos h0]at h
  by_cases h1:i<n
  ·rw [if_pos h1]at h
   have e:i.toNat=j:=Option.some.inj h
   exact⟨by rw [seqIndex_of h0 h1,e],by omega,by omega,h1⟩
  ·rw [if_neg h1]at h;cases h
 ·rw [if_neg h0]at h
  by_cases h1: -(n:Int)≤i
  ·rw [if_pos h1]at h
   have e:(i+n).toNat=j:=Option.some.inj h
   exact⟨by rw [seqIndex_neg (by omega) h1,e],by omega,h1,by omega⟩
  ·rw [if_neg h1]at h;cases h
theorem zRO{α:Type}{xs:List α}{i:Int}{v:α}(h:atI xs i=some v): ∃j,seqIndex? i xs.length=some j∧xs[j]? =some v∧j<xs.length∧ -(xs.length:Int)≤i∧i<xs.length:=by
 unfold atI at h
 cases e:ixN xs.length i with
 | none=>rw [e]at h;cases h
 | some j=>
  rw [e]at h
  obtain⟨h1,h2,h3,h4⟩:=yHJ e
  exact⟨j,h1,h,h2,h3,h4⟩
def zRP(b:Expr):Prop:= ∀o i,subscripted b false o i=operate [o,i] (getItem o i)
def IxR(X:Cx)(r:R2):Prop:=
 ∀(value slice:Expr)(pins:List (Addr×Obj))(s:Shared)(σ:St)(H:Hp)(x y:V)(v u:Value)(Q:VK),Inv X pins σ H s→RelV x v→RelV y u→r x y H Q→
  subscripted slice false v u=operate [v,u] (getItem v u)→wpAny (model X.prog X.w) X.A (subscriptTail value slice v u) (EP X pins σ Q) X.xe s
def MtR(X:Cx)(id:String)(r:V→List V→Hp→VK→Prop):Prop:=
 ∀(pins:List (Addr×Obj))(s:Shared)(σ:St)(H:Hp)(x:V)(xs:List V)(v:Value)(us:List Value)(Q:VK),Inv X pins σ H s→RelV x v→Vals xs us→r x xs H Q→
  wpAny (model X.prog X.w) X.A (call (.builtin id) (v::us)) (EP X pins σ Q) X.xe s
section
variable{X:Cx}{a b:Expr}{ta tb:TE}{pos:Pos}
theorem IxR.or{r r':R2}(h:IxR X r)(h':IxR X r'):IxR X (fun x y H Q=>r x y H Q∨r' x y H Q):=by
 intro value slice pins s σ H x y v u Q I rx ry q hs
 rcases q with q | q
 ·exact h value slice pins s σ H x y v u Q I rx ry q hs
 ·exact h' value slice pins s σ H x y v u Q I rx ry q hs
theorem pe_ix{r:R2}(hr:IxR X r)(ha:PE X a ta)(hb:PE X b tb)(hs:zRP b):PE X (.Subscript a b pos) (tOp r ta tb):=by
 intro pins s σ H Q I h
 exact Subscript_ (binT ha hb I h fun v u s2 x y H2 I2 rx ry q=>hr a b pins s2 σ H2 x y v u Q I2 rx ry q (hs _ _))
def rIxL(K:PySem.W.Frag):R2:=fun x y H Q=> ∃p xs i v,x=.ref p∧y=.int i∧SqL K H p xs∧atI xs i=some v∧Q v H
def rIxT(K:PySem.W.Frag):R2:=fun x y H Q=> ∃p xs i v,x=.ref p∧y=.int i∧SqT K H p xs∧atI xs i=some v∧Q v H
def rIxS:R2:=fun x y H Q=> ∃z i c,x=.str z∧y=.int i∧z.length≤sizeLine∧atI z.cps.toList i=some c∧Q (.str ⟨#[c]⟩) H
theorem yHK:IxR X (rIxL X.K):=by
 intro value slice pins s σ H x y v u Q I rx ry h hs
 obtain⟨p,xs,i,z,rfl,rfl,hq,he,q⟩:=h
 cases rx
 obtain⟨t,rfl⟩:=ry
 obtain⟨its,r,pl,hz⟩:=I.list hq
 obtain⟨j,h1,h2,h3,h4,h5⟩:=zRO he
 obtain⟨w,ew,rw'⟩:=r.get h2
 have hl:=r.length
 have hn:=zJX
 have fin:EP X pins σ Q w s:=⟨z,H,I,rw',q⟩
 by_cases h0:0≤i
 ·have hj:i.toNat=j:=by
   rw [seqIndex_of h0 h5]at h1
   exact Option.some.inj h1
  exact item_listR pl.isList h0 (by omega) (by rw [hj];simpa using ew) fin hs
 ·have hj:(i+(its.toArray.size:Int)).toNat=j:=by
   rw [seqIndex_neg (by omega) h4]at h1
   rw [List.size_toArray, ←hl]
   exact Option.some.inj h1
  exact subscriptTail_builtinR (x:=w) pl.isList.typeIs slot_list_getitem.lookup
   (wpAny_getItem_list_neg (Q:=fun r s'=>r=w∧EP X pins σ Q r s') pl.isList (by omega) (by rw [List.size_toArray]<;>omega) (by omega) (by rw [hj];simpa using ew) ⟨rfl,fin⟩) hs
theorem ix_tup:IxR X (rIxT X.K):=by
 intro value slice pins s σ H x y v u Q I rx ry h hs
 obtain⟨p,xs,i,z,rfl,rfl,hq,he,q⟩:=h
 cases rx
 obtain⟨t,rfl⟩:=ry
 obtain⟨its,r,pl,hz⟩:=I.tuple hq
 obtain⟨j,h1,h2,h3,h4,h5⟩:=zRO he
 obtain⟨w,ew,rw'⟩:=r.get h2
 have hl:=r.length
 have hn:=zJX
 have fin:EP X pins σ Q w s:=⟨z,H,I,rw',q⟩
 exact subscriptTail_builtinR (x:=w) pl.typeIs slot_tuple_getitem.lookup
  (getItem_tuple (j:=j) (Q:=fun r s'=>r=w∧EP X pins σ Q r s') pl (by omega) (by omega) (by rw [List.size_toArray, ←hl];exact h1) (by simpa using ew) ⟨rfl,fin⟩) hs
theorem ix_str:IxR X rIxS:=by
 intro value slice pins s σ H x y v u Q I rx ry h hs
 obtain⟨z,i,c,rfl,rfl,hz,he,q⟩:=h
 obtain⟨t,rfl⟩:=rx
 obtain⟨t',rfl⟩:=ry
 obtain⟨j,h1,h2,h3,h4,h5⟩:=zRO he
 have hl:z.cps.toList.length=z.length:=by simp [Str.length]
 rw [hl]at h1 h4 h5
 have hn:=zJX
 exact tail_any (typeIs_str s z t) slot_str_getitem.lookup (getItem_str (c:=c) (by
  have e1:decide (i< -(2 ^ 63:Int))=false:=decide_eq_false (by omega)
  have e2:decide (i≥2 ^ 63)=false:=decide_eq_false (by omega)
  rw [e1,e2,Bool.or_false]) (by rw [h1];simpa using h2) ⟨.str ⟨#[c]⟩,H,I.tok _,⟨_,rfl⟩,q⟩) hs
def rIx(K:PySem.W.Frag):R2:=fun x y H Q=>rIxL K x y H Q∨rIxT K x y H Q∨rIxS x y H Q
theorem yLO:IxR X (rIx X.K):=yHK.or (ix_tup.or ix_str)
theorem Inv.lst{pins:List (Addr×Obj)}{σ:St}{H:Hp}{s:Shared}{p:Addr}{xs:List V}(I:Inv X pins σ H s)(h:H p=some (.lst xs)):
  ∃(its:List Value)(n:Nat),Vals xs its∧s.heap.get? p=some {cls:=.type "list",data:=.seq its.toArray n}∧xs.length≤sizeLine:=by
 obtain⟨z,its,n,r,e⟩:=I.hok p _ h
 exact⟨its,n,r,e,z⟩
theorem zRQ(lo hi:Option Int)(n:Nat):(sliceBounds lo hi none n).1=((HT.sIx n 0 lo:Nat):Int)∧(sliceBounds lo hi none n).2.1=((HT.sIx n n hi:Nat):Int)∧(sliceBounds lo hi none n).2.2=1:=by
 refine⟨?_,?_,rfl⟩
 ·cases lo with
  | none=>simp [sliceBounds,HT.sIx]
  | some i=>
   simp only [sliceBounds,HT.sIx,Option.getD_none,show(1:Int)>0 by decide,if_true]
   by_cases h:i<0
   ·simp only [h,if_true]<;>omega
   ·simp only [h,if_false]<;>omega
 ·cases hi with
  | none=>simp [sliceBounds,HT.sIx]
  | some i=>
   simp only [sliceBounds,HT.sIx,Option.getD_none,show(1:Int)>0 by decide,if_true]
   by_cases h:i<0
   ·simp only [h,if_true]<;>omega
   ·simp only [h,if_false]<;>omega
theorem zPL(its:List Value)(lo hi:Option Int):slicePick its.toArray lo hi none=((its.drop (HT.sIx its.length 0 lo)).take (HT.sIx its.length its.length hi - HT.sIx its.length 0 lo)).toArray:=by
 obtain⟨h1,h2,h3⟩:=zRQ lo hi its.toArray.size
 unfold slicePick
 rw [h1,h2,h3]
 simp only [sliceRange_one,pick_run,List.size_toArray]<;>rfl
def rSlL(K:PySem.W.Frag):V→Option Int→Option Int→Hp→VK→Prop:=fun x lo hi H Q=> ∃a xs,x=.ref a∧SqL K H a xs∧ ∀p,H p=none→Q (.ref p) (upd H p (.lst (zUF xs lo hi)))
theorem yHL:SlR X (rSlL X.K):=by
 intro pins s σ H x v vl vu lo hi sl Q I rx hs pl pu h
 obtain⟨a,xs,rfl,hx,q⟩:=h
 cases rx
 obtain⟨its,r,ht,hz⟩:=I.list hx
 have hlen:=r.length
 refine⟨"list",_,slot_list_getitem.lookup,ht.isList.typeIs,?_⟩
 refine wpAny_getItem_list_slice ht.isList hs pl pu .none (by simp) ?_ (by rw [List.size_toArray]<;>omega)
 rw [zPL, ←hlen]
 refine⟨.ref s.heap.objs.size,_,I.laid (t':=s.toks) (o:=.lst (zUF xs lo hi)) (fun b ob q=>Heap.get?_push_of_some _ q) (Nat.le_refl _) ?_,rfl,q _ (I.hok.fresh (Nat.le_refl _))⟩
 exact⟨Nat.le_trans (zLF xs lo hi) hz,_,0,(r.drop (HT.sIx xs.length 0 lo)).take (HT.sIx xs.length xs.length hi - HT.sIx xs.length 0 lo),Heap.get?_push_size _ rfl⟩
def kI:V→Bool
 | .non=>true
 | .bl _=>true
 | .int _=>true
 | .str _=>true
 | _=>false
def eqV:V→V→Bool
 | .non,.non=>true
 | .bl a,.bl b=>a==b
 | .bl a,.int b=>(if a then 1 else 0)==b
 | .int a,.bl b=>a==(if b then 1 else 0)
 | .int a,.int b=>a==b
 | .str a,.str b=>a==b
 | _,_=>false
theorem yLP{A:Around}{s:Shared}{y x:V}{u v:Value}(ry:RelV y u)(rx:RelV x v)(fy:kI y=true)(fx:kI x=true):SeqAt.EqAt A s u v (eqV y x):=by
 cases y with
 | non=>
  cases ry
  cases x with
  | non=>cases rx;exact SeqAt.EqAt.same _
  | bl b=>cases rx;exact SeqAt.EqAt.none_bool b
  | int b=>obtain⟨t,rfl⟩:=rx;exact SeqAt.EqAt.none_int b t
  | str b=>obtain⟨t,rfl⟩:=rx;exact SeqAt.EqAt.none_str b t
  | _=>exact absurd (show false=true from fx) Bool.false_ne_true
 | bl a=>
  cases ry
  cases x with
  | non=>cases rx;exact SeqAt.EqAt.bool_none a
  | bl b=>cases rx;exact SeqAt.EqAt.bool_bool a b
  | int b=>obtain⟨t,rfl⟩:=rx;exact SeqAt.EqAt.bool_int a b t
  | str b=>obtain⟨t,rfl⟩:=rx;exact SeqAt.EqAt.bool_str a b t
  | _=>exact absurd (show false=true from fx) Bool.false_ne_true
 | int a=>
  obtain⟨t',rfl⟩:=ry
  cases x with
  | non=>cases rx;exact SeqAt.EqAt.int_none a t'
  | bl b=>cases rx;exact SeqAt.EqAt.int_bool a t' b
  | int b=>obtain⟨t,rfl⟩:=rx;exact SeqAt.EqAt.int_int a t' b t
  | str b=>obtain⟨t,rfl⟩:=rx;exact SeqAt.EqAt.int_str a t' b t
  | _=>exact absurd (show false=true from fx) Bool.false_ne_true
 | str a=>
  obtain⟨t',rfl⟩:=ry
  cases x with
  | non=>cases rx;exact SeqAt.EqAt.str_none a t'
  | bl b=>cases rx;exact SeqAt.EqAt.str_bool a t' b
  | int b=>obtain⟨t,rfl⟩:=rx;exact SeqAt.EqAt.str_int a t' b t
  | str b=>obtain⟨t,rfl⟩:=rx;exact SeqAt.EqAt.str_str a t' b t
  | _=>exact absurd (show false=true from fx) Bool.false_ne_true
 | _=>exact absurd (show false=true from fy) Bool.false_ne_true
theorem zRR:CallR X (.builtin "len") (fun xs H Q=> ∃p ys,xs=[.ref p]∧(SqL X.K H p ys∨SqT X.K H p ys)∧Q (.int ys.length) H):=by
 intro pins s σ H xs us Q I r h
 obtain⟨p,ys,rfl,hq,q⟩:=h
 obtain⟨u,rfl,rx⟩:=vals1 r
 cases rx
 have hn:=zJX
 rcases hq with hq | hq
 ·obtain⟨its,r',pl,hz⟩:=I.list hq
  have hlen:=r'.length
  exact Calls.call_len_list pl.isList (by simp only [List.size_toArray]<;>omega) ⟨.int ys.length,H,I.tok _,⟨s.toks+1,by rw [List.size_toArray,hlen]⟩,q⟩
 ·obtain⟨its,r',pl,hz⟩:=I.tuple hq
  have hlen:=r'.length
  exact len_tuple pl (by simp only [List.size_toArray]<;>omega) ⟨.int ys.length,H,I.tok _,⟨s.toks+1,by rw [List.size_toArray,hlen]⟩,q⟩
theorem zRS:CallR X (.builtin "len") (fun xs H Q=> ∃z,xs=[.str z]∧z.length≤sizeLine∧Q (.int z.length) H):=by
 intro pins s σ H xs us Q I r h
 obtain⟨z,rfl,hz,q⟩:=h
 obtain⟨u,rfl,t,rfl⟩:=vals1 r
 have hn:=zJX
 exact len_str (by omega) ⟨.int z.length,H,I.tok _,⟨_,rfl⟩,q⟩
theorem CallR.or{f:Value}{r r':List V→Hp→VK→Prop}(h:CallR X f r)(h':CallR X f r'):CallR X f (fun xs H Q=>r xs H Q∨r' xs H Q):=by
 intro pins s σ H xs us Q I rs q
 rcases q with q | q
 ·exact h pins s σ H xs us Q I rs q
 ·exact h' pins s σ H xs us Q I rs q
theorem zIB:CallR X (.type "list") (fun xs H Q=> ∃p ys,xs=[.ref p]∧(SqL X.K H p ys∨SqT X.K H p ys)∧ ∀l,H l=none→Q (.ref l) (upd H l (.lst ys))):=by
 intro pins s σ H xs us Q I r h
 obtain⟨p,ys,rfl,hq,q⟩:=h
 obtain⟨u,rfl,rx⟩:=vals1 r
 cases rx
 have fin: ∀(its:List Value),Vals ys its→ys.length≤sizeLine→ ∀(h':Heap)(c':Nat),(∀b o',s.heap.get? b=some o'→h'.get? b=some o')→
   h'.get? s.heap.objs.size=some {cls:=.type "list",dict:=none,data:=.seq its.toArray c',slots:=#[]}→EP X pins σ Q (.ref s.heap.objs.size) {s with heap:=h'}:=fun its r' hz h' c' kp e=>
  ⟨.ref s.heap.objs.size,_,I.laid (t':=s.toks) kp (Nat.le_refl _) (show ObjOk X.prog X.w _ h' _ (.lst ys)from⟨hz,its,c',r',e⟩),rfl,q _ (I.hok.fresh (Nat.le_refl _))⟩
 rcases hq with hq | hq
 ·obtain⟨its,r',pl,hz⟩:=I.list hq
  have hlen:=r'.length
  obtain⟨o,ho,hc,n,hd⟩:=pl.isList
  exact call_list_seq p (.inl rfl) ho hc hd (fun h' c' kp e=>fin its r' hz h' c' kp e) (by simp only [List.size_toArray]<;>omega)
 ·obtain⟨its,r',pl,hz⟩:=I.tuple hq
  have hlen:=r'.length
  obtain⟨o,ho,hc,n,hd⟩:=pl
  exact call_list_seq p (.inr rfl) ho hc hd (fun h' c' kp e=>fin its r' hz h' c' kp e) (by simp only [List.size_toArray]<;>omega)
theorem kN:CallR X (.type "tuple") (fun xs H Q=> ∃p ys,xs=[.ref p]∧((SqL X.K H p ys∧ ∀l,H l=none→Q (.ref l) (upd H l (.tup ys)))∨(SqT X.K H p ys∧Q (.ref p) H))):=by
 intro pins s σ H xs us Q I r h
 obtain⟨p,ys,rfl,h⟩:=h
 obtain⟨u,rfl,rx⟩:=vals1 r
 cases rx
 rcases h with⟨hq,q⟩ | ⟨hq,q⟩
 ·obtain⟨its,r',pl,hz⟩:=I.list hq
  have hlen:=r'.length
  refine call_tuple_list pl.isList (fun h' kp=>?_) (by simp only [List.size_toArray]<;>omega)
  have I1:Inv X pins σ H {s with heap:=h'}:=I.kept (t':=s.toks) kp
  have I2:Inv X pins σ (upd H h'.objs.size (.tup ys)) {s with heap:=h'.push {cls:=.type "tuple",data:=.seq its.toArray}}:=
   I1.laid (t':=s.toks) (fun b o e=>Heap.get?_push_of_some _ e) (Nat.le_refl _) (show ObjOk X.prog X.w _ _ _ (.tup ys)from⟨hz,its,r',IsTup.new _ _⟩)
  exact⟨.ref h'.objs.size,_,I2,rfl,q _ (I1.hok.fresh (Nat.le_refl _))⟩
 ·obtain⟨its,r',pl,hz⟩:=I.tuple hq
  exact call_tuple_same pl ⟨.ref p,H,I,rfl,q⟩
def tyV(K:PySem.W.Frag)(T:String)(x:V)(H:Hp):Prop:=match x with
 | .str _=>T="str"
 | .int _=>T="int"
 | .ref p=>(T="list"∧ ∃xs,SqL K H p xs)∨(T="tuple"∧ ∃o,K.lookup p=some o∧o.cls=.type "tuple"∧o.dict=none)∨
   (T="dict"∧((∃kvs,H p=some (.dK kvs))∨ ∃kvs,H p=some (.dT kvs)))∨(T="set"∧ ∃S n,H p=some (.set S n))
 | _=>False
theorem yLQ{pins:List (Addr×Obj)}{σ:St}{H:Hp}{s:Shared}{T:String}{x:V}{v:Value}(I:Inv X pins σ H s)(r:RelV x v)(ty:tyV X.K T x H):
  s.TypeIs v T∧ ∀a,v=.ref a→ ∃ob,s.heap.get? a=some ob∧ob.dict=none:=by
 cases x with
 | str z=>
  obtain⟨t,rfl⟩:=r
  cases (show T="str" from ty)
  exact⟨typeIs_str s z t,fun _ e=>nomatch e⟩
 | int i=>
  obtain⟨t,rfl⟩:=r
  cases (show T="int" from ty)
  exact⟨typeIs_int s i t,fun _ e=>nomatch e⟩
 | ref p=>
  cases r
  rcases ty with⟨rfl,xs,hq⟩ | ⟨rfl,o,hk,hc,hd⟩ | ⟨rfl,hk⟩ | ⟨rfl,S,n,hk⟩
  ·obtain⟨its,_,pl,_⟩:=I.list hq
   refine⟨pl.isList.typeIs,fun a e=>?_⟩
   cases e
   obtain⟨o,n,e,c,hd,_⟩:=pl
   exact⟨o,e,hd⟩
  ·refine⟨⟨o,I.kIn p o hk,hc⟩,fun a e=>?_⟩
   cases e
   exact⟨o,I.kIn _ o hk,hd⟩
  ·have z: ∃o,s.heap.get? p=some o∧o.ExactDict:=by
    rcases hk with⟨kvs,hk⟩ | ⟨kvs,hk⟩
    ·obtain⟨_,_,_,_,o,_,_,e,ex,_⟩:=I.hok p _ hk
     exact⟨o,e,ex⟩
    ·obtain⟨_,_,_,_,o,_,_,e,ex,_⟩:=I.hok p _ hk
     exact⟨o,e,ex⟩
   obtain⟨o,e,ex⟩:=z
   refine⟨⟨o,e,ex.1⟩,fun a e2=>?_⟩
   cases e2
   exact⟨o,e,ex.2.1⟩
  ·obtain⟨o,_,_,_,e,ex,_⟩:=I.hok p _ hk
   refine⟨⟨o,e,ex.1⟩,fun a e2=>?_⟩
   cases e2
   exact⟨o,e,ex.2.1⟩
 | _=>exact False.elim ty
def tBM(K:PySem.W.Frag)(T:String)(r:V→List V→Hp→VK→Prop)(to:TE)(t:TA):TE:=fun σ H Q=>to σ H fun x H1=>tyV K T x H1∧t σ H1 fun xs H2=>r x xs H2 Q
variable{o e:Expr}{es:List Expr}{to:TE}{t:TA}{name:Str}{apos cpos:Pos}{T id:String}{r:V→List V→Hp→VK→Prop}
theorem pe_bm(pa:PlainAttrs T)(slot:Slot T name id)(hty:typeOf (.builtin id)=pure (.type "method_descriptor"))(hm:MtR X id r)(ho:PE X o to)(ha:PA X (e::es) t)
  (hbase:attributeBase o name X.env (eval o X.env)=eval o X.env:=by rfl)
  (hfew:((backTo cpos (starEach (e::es) X.env)).all (fun x=>!x.1)&&(backToKw cpos (keywordEach [] X.env)).all (fun x=>x.1.isSome)
   &&decide ((e::es).length+([]:List Keyword).length+(if([]:List Keyword).isEmpty then 0 else 1)<30))=true:=by rfl)
  (hline:(apos.endLine==cpos.line)=true:=by rfl) (hs:starEach (e::es) X.env=(false,eval e X.env)::starEach es X.env:=by rfl) (hplain:(backTo cpos (starEach es X.env)).any (·.1)=false:=by rfl):
  PE X (.Call (.Attribute o name apos) (e::es) [] cpos) (tBM X.K T r to t):=by
 intro pins s σ H Q I h
 refine wpAny_Call_method_late hbase hfew hline rfl (thn (ho pins s σ H _ I h) fun v s1 ⟨x,H1,I1,r1,ty,q1⟩=>?_)
 obtain⟨h1,h2⟩:=yLQ I1 r1 ty
 refine⟨T,id,pa,slot,hty,h1,h2,?_⟩
 have hA:=ha cpos pins s1 σ H1 _ I1 q1
 rw [hs]at hA ⊢
 refine Calls.callWith_builtin (by show(false || (backTo cpos (starEach es X.env)).any (·.1))=false;rw [hplain]<;>rfl) (Calls.evalArgs_plain ?_)
 exact thn hA fun us s2 ⟨vs,H2,I2,r2,q2⟩=>hm pins s2 σ H2 x vs v us Q I2 r1 r2 q2
end
end L2
namespace L2
open PySem PySem.Spec PyProof.Rows
def MtM(X:Cx)(id:String)(r:V→List V→Hp→VK→Prop):Prop:=
 ∀(pins:List (Addr×Obj))(s:Shared)(σ:St)(H:Hp)(x:V)(xs:List V)(v:Value)(us:List Value)(Q:VK),Inv X pins σ H s→RelV x v→Vals xs us→r x xs H Q→
  wpAny (model X.prog X.w) X.A (call (.builtin id) (v::us)) (EP X pins σ Q) X.xe s
theorem Vals.one: ∀{x:V}{us:List Value},Vals [x] us→ ∃u,us=[u]∧RelV x u
 | _,_,.cons r .nil=>⟨_,rfl,r⟩
theorem Vals.rep{xs:List V}{us:List Value}(h:Vals xs us): ∀k:Nat,Vals (List.replicate k xs).flatten (List.replicate k us).flatten
 | 0=>.nil
 | k+1=>by
  rw [List.replicate_succ,List.replicate_succ,List.flatten_cons,List.flatten_cons]
  exact Vals.append h (Vals.rep h k)
theorem foldl_rep(its:List Value): ∀(k:Nat)(acc:List Value),
  List.foldl (fun x1 x2=>x1++x2) acc.toArray (List.replicate k its.toArray)=(acc++(List.replicate k its).flatten).toArray
 | 0,acc=>by simp
 | k+1,acc=>by
  have e:acc.toArray++its.toArray=(acc++its).toArray:=by simp
  have e2:(acc++its)++(List.replicate k its).flatten=acc++(List.replicate (k+1) its).flatten:=by
   rw [List.replicate_succ,List.flatten_cons,List.append_assoc]
  rw [←e2, ←foldl_rep its k (acc++its), ←e,List.replicate_succ,List.foldl_cons]
section
variable{X:Cx}{pins:List (Addr×Obj)}{σ:St}{H:Hp}{s:Shared}{l b:Addr}{xs ys zs:List V}
theorem Inv.lset{its its':List Value}{n:Nat}{f:Array Value→Array Value}{t':Nat}(I:Inv X pins σ H s)(hH:H l=some (.lst xs))
  (e:s.heap.get? l=some {cls:=.type "list",data:=.seq its.toArray n}) (hf:f its.toArray=its'.toArray) (hv:Vals ys its') (hz:ys.length≤sizeLine):
  Inv X pins σ (upd H l (.lst ys)) {s with heap:=s.heap.update l (Obj.mapSeq f),toks:=t'}:=by
 have q:=PySem.IsL.update e f
 rw [hf]at q
 refine I.write (x:=l) (e:=l) (by rw [hH];exact trivial) (.inl rfl) (fun b' u hb hu=>(Heap.get?_update_other s.heap (Obj.mapSeq f) (Ne.symm hb)).trans hu) ⟨_,q⟩ ?_
 exact⟨hz,its',_,hv,q⟩
theorem Inv.lnew{its:List Value}{t':Nat}(I:Inv X pins σ H s)(hv:Vals ys its)(hz:ys.length≤sizeLine):
  Inv X pins σ (upd H s.heap.objs.size (.lst ys)) {s with heap:=s.heap.push {cls:=.type "list",data:=.seq its.toArray},toks:=t'}:=
 I.laid (fun _ _ q=>Heap.get?_push_of_some _ q) (Nat.le_refl _) ⟨hz,its,0,hv,Heap.get?_push_size _ rfl⟩
theorem Inv.fresh(I:Inv X pins σ H s):H s.heap.objs.size=none:=I.hok.fresh (Nat.le_refl _)
theorem Inv.lstM(I:Inv X pins σ H s)(hH:H l=some (.lst xs)):xs.length≤sizeLine∧ ∃(its:List Value)(n:Nat),Vals xs its∧xs.length=its.length∧s.heap.get? l=some {cls:=.type "list",data:=.seq its.toArray n}:=by
 obtain⟨z,its,n,r,e⟩:=I.hok l _ hH
 exact⟨z,its,n,r,r.length,e⟩
theorem yDL{n:Nat}(h:n≤sizeLine):Builtin.List.listTooLong n=false:=by
 unfold Builtin.List.listTooLong
 exact decide_eq_false (by omega)
end
section
variable{X:Cx}
def zZH:V→List V→Hp→VK→Prop:=fun x vs H Q=> ∃l xs y,x=.ref l∧vs=[y]∧H l=some (.lst xs)∧xs.length<sizeLine∧Q .non (upd H l (.lst (xs++[y])))
theorem yBI:MtM X "list.append" zZH:=by
 intro pins s σ H x vs v us Q I rx rv h
 obtain⟨l,xs,y,rfl,rfl,hH,hz,q⟩:=h
 cases rx
 obtain⟨u,rfl,ru⟩:=rv.one
 obtain⟨z,its,n,r,hl,e⟩:=I.lstM hH
 refine call_meets F.slot_list_append ⟨_,e,rfl⟩ F.entry_list_append (F.args_list_append_2 _ _) (PySem.list_append l its.toArray n u (by rw [List.size_toArray];omega)) ⟨e,?_⟩
 refine⟨.non,_,I.lset (its':=its++[u]) hH e (by simp) (r.append (.cons ru .nil)) ?_,rfl,q⟩
 rw [List.length_append,List.length_singleton]
 omega
def rCat:R2:=fun x y H Q=> ∃l b xs zs,x=.ref l∧y=.ref b∧H l=some (.lst xs)∧H b=some (.lst zs)∧xs.length+zs.length≤sizeLine∧ ∀p,H p=none→Q (.ref p) (upd H p (.lst (xs++zs)))
theorem yLR:OpR X (binaryOp .Add) rCat:=by
 intro pins s σ H x y v u Q I rx ry h
 obtain⟨l,b,xs,zs,rfl,rfl,hH,hB,hz,q⟩:=h
 cases rx
 cases ry
 obtain⟨z,its,n,r,hl,e⟩:=I.lstM hH
 obtain⟨z2,its2,n2,r2,hl2,e2⟩:=I.lstM hB
 refine PySem.P.add_list e e2 ?_ (by rw [List.size_toArray,List.size_toArray];omega)
 have ea:its.toArray++its2.toArray=(its++its2).toArray:=by simp
 rw [ea]
 exact⟨.ref _,_,I.lnew (t':=s.toks) (r.append r2) (by rw [List.length_append];omega),rfl,q _ I.fresh⟩
def rRep:R2:=fun x y H Q=> ∃l k xs,x=.ref l∧y=.int k∧H l=some (.lst xs)∧ -(2 ^ 63)≤k∧k<2 ^ 63∧xs.length * k.toNat≤sizeLine∧
 ∀p,H p=none→Q (.ref p) (upd H p (.lst (List.replicate k.toNat xs).flatten))
theorem len_rep{α:Type}(xs:List α)(k:Nat):(List.replicate k xs).flatten.length=k * xs.length:=by
 induction k with
 | zero=>simp
 | succ k ih=>rw [List.replicate_succ,List.flatten_cons,List.length_append,ih,Nat.succ_mul,Nat.add_comm]
theorem yLS:OpR X (binaryOp .Mult) rRep:=by
 intro pins s σ H x y v u Q I rx ry h
 obtain⟨l,k,xs,rfl,rfl,hH,h1,h2,hz,q⟩:=h
 cases rx
 obtain⟨t,rfl⟩:=ry
 obtain⟨z,its,n,r,hl,e⟩:=I.lstM hH
 have hlen:its.toArray.size * k.toNat≤sizeLine:=by rw [List.size_toArray, ←hl];exact hz
 have hcap: ¬its.toArray.size * k.toNat>(2 ^ 63 - 1) / 8:=by
  have:(sizeLine:Nat)≤(2 ^ 63 - 1) / 8:=by decide
  omega
 have hfit: ¬(!Builtin.List.listFitsIndex k)=true:=by
  rw [fitsIndex_both h1 h2]
  exact Bool.false_ne_true
 have hlong: ¬Builtin.List.listTooLong (its.toArray.size * k.toNat)=true:=by
  rw [yDL hlen]
  exact Bool.false_ne_true
 have hnew:List.foldl (fun x1 x2=>x1++x2) #[] (List.replicate (if its.toArray.isEmpty=true then 0 else k.toNat) its.toArray)=(List.replicate k.toNat its).flatten.toArray:=by
  have f0: ∀m:Nat,List.foldl (fun x1 x2=>x1++x2) #[] (List.replicate m its.toArray)=(List.replicate m its).flatten.toArray:=fun m=>by
   have:=foldl_rep its m []
   rw [List.nil_append]at this
   exact this
  rw [f0]
  cases its with
  | nil=>simp
  | cons a r'=>rw [if_neg (by simp)]
 refine wpAny_binaryOp_repeat_ref (T:="list") (U:="int") (by decide) ⟨_,e,rfl⟩ (fun s'=>typeIs_int s' k t) noFill_list_mul F.fills_int_mul F.slot_int_rmul repeat_list F.slot_int_index.lookup
  (call_meets F.slot_int_rmul (typeIs_int s k t) F.entry_int_rmul (F.args_int_rmul_2 _ _) (int___rmul___int_list k t l its.toArray n)
   ⟨e,rfl,⟨_,e,rfl⟩,call_meets F.slot_list_mul ⟨_,e,rfl⟩ F.entry_list_mul (F.args_list_mul_2 _ _) (AutoListH.list___mul___list_int_3 l its.toArray n k t hfit hcap hlong) ⟨e,?_⟩⟩)
 rw [hnew]
 exact⟨.ref _,_,I.lnew (t':=s.toks) (r.rep k.toNat) (by rw [len_rep,Nat.mul_comm];exact hz),rfl,q _ I.fresh⟩
end
end L2
namespace Att
open PySem PySem.W PySem.Calls PyProof.Rows
theorem zLO{P:Params}{h:Heap}: ∀(ns:List Int)(vs:List Value),WellAll P h vs (ns.map WData.int)→IntsAre vs ns:=by
 intro ns
 induction ns with
 | nil=>
  intro vs w
  rw [List.map_nil]at w
  cases w
  exact .nil
 | cons n ns ih=>
  intro vs w
  rw [List.map_cons]at w
  cases w with
  | cons a b=>
   cases a
   exact .cons _ _ (ih _ b)
theorem yBJ{l:OpenLaw}{n:Nat}(hn:l.most=some n){P:Params}{h:Heap}{args:List WData}{vals:List Value}
  (hpre:l.row.toRowW.claim.pre args=true) (hwl:WellAll P h vals args):
  ∃a vs ns,vals=[Value.ref a]∧args=[WData.list (ns.map WData.int)]∧h.get? a=some {cls:=.type "list",data:=.seq vs.toArray}∧IntsAre vs ns∧ns.length≤n:=by
 have hsh:WShape.hasAll [] args [.list .int]=true:=(pre_splitW hpre).1
 have hc:l.pre.holds [] {args:=args}=true:=(pre_splitW hpre).2
 obtain⟨d,r,rfl,h1,h2⟩:=hasAllW_cons hsh
 obtain rfl:=hasAllW_nil h2
 obtain⟨xs,rfl,h3⟩:=hasW_list h1
 obtain⟨ns,rfl⟩:=items_int h3
 have hlen:ns.length≤n:=by
  unfold OpenLaw.pre at hc
  have h4:(WTm.not (.lt (.lit (.int (n:Int))) (.len (.arg 0)))).holds [] {args:=[.list (ns.map .int)]}=true:=by
   have h4:=(holds_andW hc).1
   rw [hn]at h4
   exact h4
  have h5:=condW_of h4 (w_not (w_lt w_lit (w_len_list (w_arg rfl))))
  rw [List.length_map]at h5
  refine Nat.le_of_not_lt fun q=>?_
  have q':(n:Int)<((ns.length:Nat):Int):=by omega
  first
   | (rw [decide_eq_true q']at h5;exact absurd h5 (by decide))
   | (simp at h5;omega)
 cases hwl with
 | cons w1 w2=>
  cases w2
  cases w1 with
  | list ho hall=>exact⟨_,_,ns,rfl,rfl,ho,zLO ns _ hall,hlen⟩
theorem yBK(l:OpenLaw)(args:List WData):l.row.toRowW.claim.post args (.bool true) args=true:=
 postW_of (r:=l.row.toRowW) (X:=(true==true))
  (show WShape.has [] (.bool true) .bool=true by first | rfl | decide | simp [WShape.has,WShape.arms,WShape.armsAll])
  (show(WTm.eq .res (.lit (.bool true))).value [] {args:=args,res:=some (.bool true),after:=args}=some (.bool (true==true))from w_eq_bool (w_res rfl) w_lit) rfl
theorem attach_call{l:OpenLaw}{n:Nat}{q:Program}{loose:List Str}{XP:(Str→Option Value)→Heap→Prop}{YP:World→Heap→Prop}{d:DefRec}
  (hn:l.most=some n) (hdf:d.params.defaults=[])
  (call: ∀(w:World)(s₀ s₁:Shared)(mg mb:Str→Option Value)(fa:Addr)(o:Obj)(pm cd doc:Value)(a:Addr)(vs:List Value)(ns:List Int),
   Ground q loose [] XP w s₀ mg mb s₁.heap→YP w s₁.heap→
   s₁.heap.get? fa=some o→o.data=.func (docDef d.name d.params d.body d.scope pm cd doc)→s₁.heap.CodeRec cd d.name→mg d.name=some (.ref fa)→
   s₁.heap.get? a=some {cls:=.type "list",data:=.seq vs.toArray}→IntsAre vs ns→ns.length≤n→s₁.gens=#[]→
   codeAny (model l.prog w) callerA (.call (.ref fa) ⟨[.ref a],[]⟩) (fun r s'=>r=.ok (.ret (.bool true))∧OldK s₁.heap s'.heap∧s'.os=s₁.os∧AllBare s'.gens) s₁):
  WalkO q loose XP YP l.row.toRowW d [] (fun f vs=>PySem.call f vs):=by
 intro w s₀ s₁ mg mb G Y fa o pm cd doc dV kV ho hd hcd hD hmg hg args vals as hpre hlay hrd hwl hlo
 obtain rfl:dV=.none:=Dflts.none hD hdf
 obtain rfl:kV=.none:=Dflts.noKw hD
 obtain⟨a,vs,ns,rfl,rfl,hobj,hints,hlen⟩:=yBJ hn hpre hwl
 refine enter_call (codeAny_mono (call w s₀ s₁ mg mb fa o pm cd doc a vs ns G Y ho (fd_plain hd) hcd hmg hobj hints hlen hg) fun r s' hq=>?_)
 obtain⟨rfl,h2,h3,h4⟩:=hq
 exact⟨.inl ⟨.bool true,.bool true,[],rfl,fun _=>rfl,.bool true,yBK l _,fun _=>⟨List.Pairwise.nil,fun _ hm=>(nomatch hm)⟩⟩,h2,h3,h4⟩
end Att
namespace L2
open PySem PySem.Spec PyProof.Rows
theorem zQM: ∀{vs:List Value}{ns:List Int},IntsAre vs ns→Vals (ns.map V.int) vs
 | _,_,.nil=>.nil
 | _,_,.cons n t h=>.cons ⟨t,rfl⟩ (zQM h)
def yDM(H:Hp):Prop:= ∀b,H b=none∨ ∃o xs,H b=some (.frz o (.lst xs))
theorem yDN{P:Program}{w:World}{K:PySem.W.Frag}{mg mb:Str→Option Value}{CX:CXT}{k:Nat}{fa a:Addr}{fd:FuncData}{x:Str}{sp:Sp}{s₁:Shared}{vs:List Value}{ns:List Int}
  (KX:K.In s₁.heap) (hns:s₁.heap.Ns mainGlobals mg) (hb:s₁.heap.Ns builtinsNs mb) (hbb: ∀x:Str,x≠"__name__"→mb x=bootBuiltins x) (hlim:s₁.heap.NoLimit) (hg:s₁.gens=#[])
  (ha:s₁.heap.get? a=some {cls:=.type "list",data:=.seq vs.toArray}) (hi:IntsAre vs ns) (hl:ns.length≤sizeLine) (hr:Room k callerA)
  (F: ∀base:Heap,K.In base→base.Ns mainGlobals mg→FnOk P w K mg base CX k fa fd [x] sp) (hbind: ∀(s:Shared)(u:Value),BindsTo s fd ⟨[u],[]⟩ [(x,u)])
  (hsp: ∀H:Hp,yDM H→SqL K H a (ns.map V.int)→sp [.ref a] H (fun v _=>v=.bl true) fun _ _ _=>False)
  (hCX: ∀H e s',CX [] H s₁ (fun _ _ _=>False) e s'→False):
  codeAny (model P w) callerA (.call (.ref fa) ⟨[.ref a],[]⟩) (fun r s'=>r=.ok (.ret (.bool true))∧OldK s₁.heap s'.heap∧s'.os=s₁.os∧AllBare s'.gens) s₁:=by
 have rv:=zQM hi
 have lenV:=hi.length
 have core: ∀H:Hp,yDM H→SqL K H a (ns.map V.int)→HOk P w H s₁.heap→(∀b,H b≠none→b=a)→(H a≠none→K.lookup a=none)→
   codeAny (model P w) callerA (.call (.ref fa) ⟨[.ref a],[]⟩) (fun r s'=>r=.ok (.ret (.bool true))∧OldK s₁.heap s'.heap∧s'.os=s₁.os∧AllBare s'.gens) s₁:=by
  intro H hO hS hok hA hK
  have base_of: ∀{b:Addr}{o:Obj},s₁.heap.get? b=some o→H b=none→(zRJ s₁.heap H).get? b=some o:=fun e n=>yCX e n
  have noA: ∀{b:Addr}{o:Obj}{es:Array DictEntry}{ep:Nat},s₁.heap.get? b=some o→o.data=.dict es ep→H b=none:=fun {b o es ep} e d=>by
   cases q:H b with
   | none=>rfl
   | some u=>
    have e':b=a:=hA b (by rw [q];simp)
    subst e'
    rw [ha]at e;cases e
    have d':Data.seq vs.toArray _=Data.dict es ep:=d
    cases d'
  have nsK: ∀{b:Addr}{m:Str→Option Value},s₁.heap.Ns b m→(zRJ s₁.heap H).Ns b m:=fun {b m} ⟨o,es,ep,e,d,r⟩=>⟨o,es,ep,base_of e (noA e d),d,r⟩
  have hKb:K.In (zRJ s₁.heap H):=fun b o e=>base_of (KX b o e) (by
   cases q:H b with
   | none=>rfl
   | some u=>
    have e':b=a:=hA b (by rw [q];simp)
    subst e'
    rw [hK (by rw [q];simp)]at e;cases e)
  have hM:Mod K mg (zRJ s₁.heap H):=⟨hKb,nsK hns,⟨mb,nsK hb,hbb⟩,let ⟨mc,h1,h2⟩:=hlim;⟨mc,nsK h1,h2⟩⟩
  have e0:Env0 P w K mg (zRJ s₁.heap H) callerA [] s₁ H:=⟨rfl,hM,fun b o e=>yGV e,Nat.le_of_eq (yBB _ _),trivial,fun b hb=>absurd (show b∈([]:List Addr)from hb) (by simp),hok,.of_eq hg⟩
  refine codeAny_mono ((F _ hKb (nsK hns)).run callerA [] s₁ H ⟨[.ref a],[]⟩ [.ref a] [.ref a] _ _ hr e0 (hbind s₁ (.ref a)) (.cons rfl .nil) (hsp H hO hS)) fun r s' h=>?_
  cases r with
  | error e=>exact(hCX H e s' h).elim
  | ok fl=>
   cases fl with
   | next=>exact False.elim h
   | brk=>exact False.elim h
   | cont=>exact False.elim h
   | ret u=>
    obtain⟨v,H',os,bare,un,hok',r',q⟩:=h
    have q':v=.bl true:=q
    subst q'
    obtain rfl:u=Value.bool true:=r'
    refine⟨rfl,OldK.of_keep fun b o e=>?_,os,bare⟩
    cases q:H b with
    | none=>exact un.keep b o e q (by intro z;exact absurd (show b∈([]:List Addr)from z) (by simp)) (by simp)
    | some u=>
     rcases hO b with z | ⟨ob,xs,z⟩
     ·rw [q]at z;cases z
     ·have z2:=un.frzs b ob _ z
      obtain⟨e1,_⟩:=hok b _ z
      obtain⟨e2,_⟩:=hok' b _ z2
      rw [e]at e1;cases e1
      exact e2
 cases hk:K.lookup a with
 | some o=>
  have e:=KX a o hk
  rw [ha]at e
  cases e
  refine core (fun _=>none) (fun _=>.inl rfl) (.inr ⟨_,vs.toArray,_,hk,rfl,rfl,rfl,by rw [List.size_toArray,lenV];exact hl,by simpa using rv⟩) (fun b u z=>by have z':(none:Option HO)=some u:=z;cases z') (fun b z=>absurd rfl z) fun z=>absurd rfl z
 | none=>
  refine core (fun b=>if b=a then some (.frz {cls:=.type "list",data:=.seq vs.toArray} (.lst (ns.map V.int)))else none) (fun b=>?_) (.inl (.inr ⟨{cls:=.type "list",data:=.seq vs.toArray},if_pos rfl⟩)) (fun b u z=>?_) (fun b z=>?_) fun _=>hk
  ·by_cases hb:b=a
   ·exact .inr ⟨_,_,if_pos hb⟩
   ·exact .inl (if_neg hb)
  ·by_cases hb:b=a
   ·have z':=(if_pos hb).symm.trans z
    cases z'
    subst hb
    exact⟨ha,by rw [List.length_map];exact hl,vs,_,rv,ha⟩
   ·have z':=(if_neg hb).symm.trans z
    cases z'
  ·by_cases hb:b=a
   ·exact hb
   ·exact absurd (if_neg hb) z
end L2
namespace L2
open PySem PySem.Spec PyProof.Rows
theorem walk_of{l:PySem.W.OpenLaw}{n k:Nat}{q:Program}{loose:List Str}{XP:(Str→Option Value)→Heap→Prop}{YP:World→Heap→Prop}{d:DefRec}{K:Params→PySem.W.Frag}{CX:World→CXT}{sp:World→Sp}{x:Str}
  (hn:l.most=some n) (hn2:n≤sizeLine) (hdf:d.params.defaults=[]) (hr:Room k callerA)
  (hY: ∀(w:World)(h:Heap),YP w h→(K w.params).In h)
  (F: ∀(w:World)(mg:Str→Option Value)(fa:Addr)(h:Heap),(K w.params).In h→h.Ns mainGlobals mg→mg d.name=some (.ref fa)→
   ∃fd:FuncData,(∀(s:Shared)(u:Value),BindsTo s fd ⟨[u],[]⟩ [(x,u)])∧
    ∀base:Heap,(K w.params).In base→base.Ns mainGlobals mg→FnOk l.prog w (K w.params) mg base (CX w) k fa fd [x] (sp w))
  (hsp: ∀(w:World)(H:Hp)(a:Addr)(ns:List Int),ns.length≤n→yDM H→SqL (K w.params) H a (ns.map V.int)→sp w [.ref a] H (fun v _=>v=.bl true) fun _ _ _=>False)
  (hCX: ∀(w:World)(H:Hp)(s:Shared)(e:Value)(s':Shared),CX w [] H s (fun _ _ _=>False) e s'→False):
  PySem.W.WalkO q loose XP YP l.row.toRowW d [] (fun f vs=>PySem.call f vs):=by
 refine Att.attach_call hn hdf fun w s₀ s₁ mg mb fa o pm cd doc a vs ns G Y ho hd hcd hmg hobj hints hlen hg=>?_
 have KX:=hY w _ Y
 obtain⟨fd,hb,hF⟩:=F w mg fa _ KX G.T.g hmg
 exact yDN KX G.T.g G.T.b G.T.builtins G.T.nolimit hg hobj hints (Nat.le_trans hlen hn2) hr hF hb (fun H hO hS=>hsp w H a ns hlen hO hS) fun H e s'=>hCX w H s₁ e s'
end L2
namespace L2
open PySem PySem.Spec PyProof.Rows
def inClass(s:Stmt)(j:Nat):Stmt:=match s with
 | .ClassDef _ _ _ body _ _ _ _ _ _ _=>body.getD j (.Pass ⟨0,0,0,0⟩)
 | _=>.Pass ⟨0,0,0,0⟩
def gI(s:Stmt):Arguments:=match s with
 | .FunctionDef _ a _ _ _ _ _ _ _ _=>a
 | _=>{posonlyargs:=[],args:=[],vararg:=none,kwonlyargs:=[],kw_defaults:=[],kwarg:=none,defaults:=[]}
def wG(s:Stmt):List Stmt:=match s with
 | .FunctionDef _ _ b _ _ _ _ _ _ _=>b
 | _=>[]
def zG(s:Stmt):Scope:=match s with
 | .FunctionDef _ _ _ _ _ _ sc _ _ _=>sc
 | _=>{kind:=.function,names:=[],isGenerator:=false,isCoroutine:=false}
abbrev CX0:CXT:=fun _ _ _ _ _ _=>False
abbrev E0:XK:=fun _ _ _=>False
theorem pass0{X:Cx}:zRN CX0 X E0:=fun _ _ _ _ _ _ _ h=>h.elim
structure Fun(K:PySem.W.Frag)(x qual:Str)(st:Stmt)(f:Addr)(fd:FuncData):Prop where
 ex: ∃(oc:Value)(od:Option Addr)(kV doc pm:Value)(an:Option Addr)(cdv ct:Value)(osl:Array (Option Value)),
  fd=PySem.W.fnOf x qual (gI st) (wG st) (zG st) .none kV doc pm an cdv ct∧K.lookup f=some ⟨oc,od,.func fd,osl⟩∧PySem.W.codeIn K cdv qual=true
 kp:PySem.W.keepIn K (.ref f)=true
section
variable{P:Program}{w:World}{K:PySem.W.Frag}{mg:Str→Option Value}{base:Heap}
theorem Fun.ok{x qual:Str}{st:Stmt}{f:Addr}{fd:FuncData}{N ps:List Str}{k:Nat}{sp:Sp}(F:Fun K x qual st f fd)(S:FnScope N ps (zG st))(len: ∀vs H Q E,sp vs H Q E→vs.length=ps.length)
  (hbody: ∀(cdv:Value)(A:Around)(outer:List Env)(s:Shared)(H:Hp)(vs:List V)(Q:VK)(E:XK),Room k (A.deeper (envOfC qual (zG st) s.heap.objs.size f cdv))→sp vs H Q E→
   ∃t,PSs (zNA CX0 P w K mg base N qual (zG st) f cdv A outer s H E).nox (wG st) t∧t {nx:=fun _ H'=>Q .non H',rt:=Q} (start N vs) H):FnOk P w K mg base CX0 (k+1) f fd ps sp:=by
 obtain⟨oc,od,kV,doc,pm,an,cdv,ct,osl,rfl,lk,hcd⟩:=F.ex
 refine yJW lk hcd S len fun A outer s H vs Q E hr hsp=>?_
 obtain⟨t,h,q⟩:=hbody cdv A outer s H vs Q E hr hsp
 exact⟨t,h.nox,q⟩
theorem Fun.binds{x qual:Str}{st:Stmt}{f:Addr}{fd:FuncData}{ps:List Str}(F:Fun K x qual st f fd)
  (h: ∀(kV doc pm:Value)(an:Option Addr)(cdv ct:Value)(us:List Value),us.length=ps.length→bindArgs (PySem.W.fnOf x qual (gI st) (wG st) (zG st) .none kV doc pm an cdv ct) ⟨us,[]⟩=pure (ps.zip us)):Binds K fd ps []:=by
 obtain⟨oc,od,kV,doc,pm,an,cdv,ct,osl,rfl,lk,hcd⟩:=F.ex
 exact .all (h kV doc pm an cdv ct)
theorem zND{x qual:Str}{st:Stmt}{f:Addr}{oc:Value}{od an:Option Addr}{osl:Array (Option Value)}{kV doc pm cdv ct:Value}(l:K.lookup f=some ⟨oc,od,.func (PySem.W.fnOf x qual (gI st) (wG st) (zG st) .none kV doc pm an cdv ct),osl⟩)
  (c:PySem.W.codeIn K cdv qual=true) (k:PySem.W.keepIn K (.ref f)=true):Fun K x qual st f (PySem.W.fnOf x qual (gI st) (wG st) (zG st) .none kV doc pm an cdv ct):=⟨⟨oc,od,kV,doc,pm,an,cdv,ct,osl,rfl,l,c⟩,k⟩
end
section
variable{X:Cx}
theorem pv(i:Nat){x:Str}{pos:Pos}(hN:X.N[i]? =some x:=by rfl)(hv:Vis X.env.scope x:=by first | exact Or.inl rfl | exact Or.inr (Or.inl rfl) | exact Or.inr (Or.inr rfl))(hd:(x==("__debug__":Str))=false:=by decide)
  (hcd:(x==("__classdict__":Str))=false:=by decide):PE X (.Name x pos) (tVar i):=zMW hN hv hd hcd
end
def Same(H H':Hp):Prop:= ∀b o,H b=some o→H' b=some o
theorem Same.seq{K:PySem.W.Frag}{H H':Hp}{a:Addr}{xs:List V}(e:Same H H')(h:SqL K H a xs):SqL K H' a xs:=by
 rcases h with(h | ⟨o,h⟩) | h
 ·exact .inl (.inl (e _ _ h))
 ·exact .inl (.inr ⟨o,e _ _ h⟩)
 ·exact .inr h
end L2
set_option maxHeartbeats 4000000
namespace L2
open PySem PySem.Spec PyProof.Rows
def zAM(env:Env)(l:List (Str×NameKind))(cs:List (Str×Addr)):List (Str×Addr):=
 l.foldl (fun c y=>if y.2==.free then(y.1,(env.cells.lookup y.1).getD 0)::c else c) cs
theorem zRT{α β:Type}{l:List α}{f:α→β→Sem (ForInStep β)}{g:β→α→β}: ∀(c:β),(∀x∈l, ∀c,f x c=pure (.yield (g c x)))→
  forIn l c f=pure (l.foldl g c):=by
 induction l with
 | nil=>intro c _;rfl
 | cons x l ih=>
  intro c h
  rw [List.forIn_cons,h x List.mem_cons_self,pure_bind]
  exact ih _ fun y hy=>h y (List.mem_cons_of_mem _ hy)
theorem zGJ{scope:Scope}{env:Env}(h: ∀y∈scope.names,y.2=.free→ ∃c,env.cells.lookup y.1=some c):closureFor scope env=pure (zAM env scope.names []):=by
 unfold closureFor zAM
 dsimp only
 rw [zRT (g:=fun c y=>if y.2==.free then(y.1,(env.cells.lookup y.1).getD 0)::c else c) [] ?_]
 ·rfl
 ·intro y hy c
  obtain⟨n,k⟩:=y
  by_cases hk:k=.free
  ·subst hk
   obtain⟨a,ha⟩:=h _ hy rfl
   have ha':env.cells.lookup n=some a:=ha
   simp [cellOf,ha']
  ·have e:(k==NameKind.free)=false:=by simpa using hk
   simp [e]
theorem zLG{env:Env}: ∀(l:List (Str×NameKind))(cs:List (Str×Addr)),(∀y∈l,y.2=.free→ ∃c,env.cells.lookup y.1=some c)→(∀p∈cs,env.cells.lookup p.1=some p.2)→
  ∀p∈zAM env l cs,env.cells.lookup p.1=some p.2
 | [],_,_,h=>h
 | (n,k)::l,cs,hl,h=>by
  refine zLG l _ (fun y hy=>hl y (List.mem_cons_of_mem _ hy)) fun p hp=>?_
  by_cases hk:k=.free
  ·subst hk
   obtain⟨c,hc⟩:=hl _ List.mem_cons_self rfl
   have hc':env.cells.lookup n=some c:=hc
   have hp':p∈(n,(env.cells.lookup n).getD 0)::cs:=hp
   rcases List.mem_cons.mp hp' with rfl | hp
   ·show env.cells.lookup n=some ((env.cells.lookup n).getD 0)
    rw [hc'];rfl
   ·exact h p hp
  ·have hp':p∈(if(k==NameKind.free)=true then(n,(env.cells.lookup n).getD 0)::cs else cs):=hp
   rw [if_neg (by simpa using hk)]at hp'
   exact h p hp'
theorem zNE{env:Env}: ∀(l:List (Str×NameKind))(cs:List (Str×Addr))(p:Str×Addr),p∈cs→p∈zAM env l cs
 | [],_,_,h=>h
 | (n,k)::l,cs,p,h=>by
  refine zNE l _ p ?_
  show p∈(if(k==.free)=true then(n,(env.cells.lookup n).getD 0)::cs else cs)
  split
  ·exact List.mem_cons_of_mem _ h
  ·exact h
theorem zEG{env:Env}: ∀(l:List (Str×NameKind))(cs:List (Str×Addr))(n:Str),(n,NameKind.free)∈l→ ∃c,(n,c)∈zAM env l cs
 | [],_,_,h=>nomatch h
 | (m,k)::l,cs,n,h=>by
  rcases List.mem_cons.mp h with e | h
  ·have e1:n=m:=congrArg Prod.fst e
   have e2:NameKind.free=k:=congrArg Prod.snd e
   subst e1 e2
   exact⟨(env.cells.lookup n).getD 0,zNE l _ _ List.mem_cons_self⟩
  ·exact zEG l _ n h
theorem zAU{β:Type}: ∀{l:List (Str×β)}{n:Str},(∃c,(n,c)∈l)→ ∃c,l.lookup n=some c
 | [],_,h=>let ⟨_,z⟩:=h;nomatch z
 | (m,b)::l,n,h=>by
  by_cases e:n=m
  ·subst e
   exact⟨b,by simp [List.lookup_cons]⟩
  ·obtain⟨c,hc⟩:=h
   rcases List.mem_cons.mp hc with z | z
   ·cases z;exact absurd rfl e
   ·obtain⟨c',h'⟩:=zAU ⟨c,z⟩
    refine⟨c',?_⟩
    have e':(n==m)=false:=by simpa using e
    simp [List.lookup_cons,e',h']
def zPM(scope osc:Scope):List (Str×NameKind):=scope.names.map fun(n,k)=>if(k==.free&&osc.kind==.function&&osc.names.lookup n==some .cell)then(n,.cell)else(n,k)
def zNF(osc:Scope)(N:List Str)(sc:Scope)(idx:List Nat):Bool:=
 decide (sc.kind=.function)&&sc.names.all (fun y=>decide (y.2≠.cell))&&sc.names.all (fun y=>decide (y.2≠.local) || decide (sc.names.lookup y.1=some .local))&&
 sc.names.all (fun y=>decide (y.2≠.free) || decide (osc.names.lookup y.1=some .cell) || decide (osc.names.lookup y.1=some .free))&&
 idx.all (fun i=>match N[i]? with
  | some y=>(decide (osc.names.lookup y=some .cell) || decide (osc.names.lookup y=some .free))&&(decide ((zPM sc osc).lookup y=some .cell) || decide ((zPM sc osc).lookup y=some .free))
  | none=>false)
def zEH(σ:St)(idx:List Nat):St:=idx.map fun i=>(σ[i]?).join
theorem zAN(σ:St)(idx:List Nat):(zEH σ idx).length=idx.length:=by unfold zEH;rw [List.length_map]
def yB(X:Cx)(sc:Scope)(T:List Str)(idx:List Nat)(C:Addr)(s₂:Shared)(H1:Hp)(fp:List Addr):Cx where
 prog:=X.prog
 w:=X.w
 K:=X.K
 mg:=X.mg
 base:=X.base
 A:=X.A
 N:=T++idx.map fun i=>(X.N[i]?).getD Str.empty
 s₀:=s₂
 H₀:=H1
 env:=compEnvC sc (zAM X.env sc.names []) C X.env
 outer:=X.stack
 stack:=X.stack
 ex:=fp
 fn:=fun _=>false
 calm:=X.calm
 pn:=[]
 xe:=fun _ _=>False
def yDO(wi:TI)(g:TG)(tc:Addr→Shared→Hp→List Addr→TT)(te:Addr→Shared→Hp→List Addr→TE)(nt:Nat)(idx:List Nat):TE:=fun σ H Q=>wi σ H fun J H1=> ∃W:Nat→Nat→List V→Hp→Prop,(∃m,W 0 m [] H1)∧ ∀i m ys H2,W i m ys H2→ys.length≤sizeLine∧
 ((J.stop i H2∧ ∀D,H2 D=none→Q (.ref D) (upd H2 D (.lst ys)))∨
   (J.go i H2∧ys.length<sizeLine∧ ∀x H3,J.yld i H2 x H3→ ∀τ:St,τ.length=nt→g x (τ++zEH σ idx) H3 fun σ4 H4=>(∃τ',σ4=τ'++zEH σ idx∧τ'.length=nt)∧
    ∀C s₂ fp,tc C s₂ H1 fp σ4 H4 fun b H5=>if b=true then te C s₂ H1 fp σ4 H5 fun y H6=> ∃m',m'<m∧W (i+1) m' (ys++[y]) H6 else∃m',m'<m∧W (i+1) m' ys H5))
section
variable{prog:Program}{w:World}{A:Around}{R:Result→Shared→Prop}{s:Shared}
theorem zIC{elt target iter:Expr}{ifs:List Expr}{scope:Scope}{pos:Pos}{it acc:Value}{env:Env}(I:Nat→Shared→Prop)
  (turn: ∀n s,I n s→wpAny (model prog w) A (pyNext it) (fun r s₁=>match r with
   | none=>R (.ok .next) s₁
   | some v=>wpAny (model prog w) A (letOwnedTupleGo target it v) (fun _ s₁'=>wpAny (model prog w) A (assign target env v) (fun _ s₂=>
     wpAny (model prog w) A (forIn ifs true fun c r=>if r=true then do let ok ←isTrue c env (eval c env);pure (ForInStep.yield ok)else pure (ForInStep.yield r)) (fun ok s₃=>
      if ok=true then wpAny (model prog w) A (eval elt env) (fun x s₄=>
       wpAny (model prog w) A (call (.builtin "list.append") [acc,x]) (fun _ s₅=> ∃m,m<n∧I m s₅) (fun _ _=>False) s₄) (fun _ _=>False) s₃
      else∃m,m<n∧I m s₃) (fun _ _=>False) s₂) (fun _ _=>False) s₁') (fun _ _=>False) s₁) (fun _ _=>False) s)
  (n:Nat) (h:I n s):codeAny (model prog w) A (.compLoop (.ListComp elt [⟨target,iter,ifs,0⟩] scope pos) 0 it acc env) R s:=by
 refine codeAny_loop rfl I (fun n s hI=>?_) n h
 show wpAny _ A ((compTurn (.ListComp elt [⟨target,iter,ifs,0⟩] scope pos) 0 it acc env).onRaise (fun x=>do noteFrame x env;theTreesLotGoes x)) _ _ s
 refine wpAny_noted ?_
 rw [compTurn_list]
 have no: ∀{E':Value→Shared→Prop}(v:Value)(s':Shared),False→E' v s':=fun _ _ z=>z.elim
 refine wpAny_bind (wpAny_standAt (wpAny_bind (wpAny_mono (turn n s hI) (fun r s₁ h₁=>?_) (no))))
 cases r with
 | none=>exact wpAny_pure h₁
 | some v=>
  refine wpAny_bind (wpAny_mono h₁ (fun _ s₁' h₁'=>wpAny_bind (wpAny_mono h₁' (fun _ s₂ h₂=>wpAny_bind (wpAny_mono h₂ (fun ok s₃ h₃=>?_) no)) no)) no)
  cases ok with
  | false=>exact wpAny_pure ⟨rfl,h₃⟩
  | true=>
   exact wpAny_bind (wpAny_bind (wpAny_mono h₃ (fun x s₄ h₄=>wpAny_bind (wpAny_mono h₄ (fun _ s₅ h₅=>wpAny_pure (wpAny_pure ⟨rfl,h₅⟩)) no)) no))
end
def yBL(X:Cx)(ifs:List Expr)(t:TT):Prop:=
 ∀(pins:List (Addr×Obj))(s:Shared)(σ:St)(H:Hp)(Q:Bool→Hp→Prop),Inv X pins σ H s→t σ H Q→
  wpAny (model X.prog X.w) X.A (forIn ifs true fun c r=>if r=true then do let ok ←isTrue c X.env (eval c X.env);pure (ForInStep.yield ok)else pure (ForInStep.yield r)) (TP X pins σ Q) X.xe s
def tNoIf:TT:=fun _ H Q=>Q true H
theorem yDP{X:Cx}:yBL X [] tNoIf:=fun _ _ _ H _ I h=>wpAny_tests_nil ⟨H,I,h⟩
theorem yDQ{X:Cx}{c:Expr}{t:TT}(h:PT X c t):yBL X [c] t:=fun pins s σ H Q I q=>wpAny_tests_one (h pins s σ H Q I q)
end L2
namespace L2
open PySem PySem.Spec PyProof.Rows
structure CompF(osc:Scope)(N:List Str)(sc:Scope)(idx:List Nat):Prop where
 kind:sc.kind=.function
 nocell: ∀y∈sc.names,y.2≠.cell
 locs: ∀y∈sc.names,y.2=.local→sc.names.lookup y.1=some .local
 frees: ∀y∈sc.names,y.2=.free→osc.names.lookup y.1=some .cell∨osc.names.lookup y.1=some .free
 cap: ∀i∈idx, ∃y,N[i]? =some y∧(osc.names.lookup y=some .cell∨osc.names.lookup y=some .free)∧((zPM sc osc).lookup y=some .cell∨(zPM sc osc).lookup y=some .free)
theorem zZI{osc:Scope}{N:List Str}{sc:Scope}{idx:List Nat}(h:zNF osc N sc idx=true):CompF osc N sc idx:=by
 unfold zNF at h
 simp only [Bool.and_eq_true,List.all_eq_true,decide_eq_true_eq,Bool.or_eq_true]at h
 obtain⟨⟨⟨⟨h1,h2⟩,h3⟩,h4⟩,h5⟩:=h
 refine⟨h1,fun y hy=>h2 y hy,fun y hy e=>?_,fun y hy e=>?_,fun i hi=>?_⟩
 ·rcases h3 y hy with z | z
  ·exact absurd e z
  ·exact z
 ·rcases h4 y hy with(z | z) | z
  ·exact absurd e z
  ·exact .inl z
  ·exact .inr z
 ·have q:=h5 i hi
  cases e:N[i]? with
  | none=>rw [e]at q;cases q
  | some y=>
   rw [e]at q
   simp only [Bool.and_eq_true,decide_eq_true_eq,Bool.or_eq_true]at q
   exact⟨y,rfl,q.1,q.2⟩
theorem zQN{sc osc:Scope}{x:Str}(hno: ∀y∈sc.names,y.2≠.cell)(h:(zPM sc osc).lookup x=some .cell∨(zPM sc osc).lookup x=some .free):(x,NameKind.free)∈sc.names:=by
 have key: ∀k',(k'=.cell∨k'=.free)→(x,k')∈zPM sc osc→(x,NameKind.free)∈sc.names:=by
  intro k' hk' hm
  unfold zPM at hm
  obtain⟨⟨n,k⟩,hy,e⟩:=List.mem_map.mp hm
  dsimp only at e
  split at e
  ·rename_i hc
   cases e
   rw [Bool.and_eq_true,Bool.and_eq_true]at hc
   have:k=.free:=by simpa using hc.1.1
   subst this
   exact hy
  ·cases e
   rcases hk' with rfl | rfl
   ·exact absurd rfl (hno _ hy)
   ·exact hy
 rcases h with h | h
 ·exact key _ (.inl rfl) (PySem.mem_of_lookup h)
 ·exact key _ (.inr rfl) (PySem.mem_of_lookup h)
section
variable{X:Cx}{pins:List (Addr×Obj)}{σ:St}{H1:Hp}{s₂:Shared}{sc:Scope}{T:List Str}{idx:List Nat}{C:Addr}{fp:List Addr}
theorem zNG(I:Inv X pins σ H1 s₂)(F:CompF X.env.scope X.N sc idx): ∀y∈sc.names,y.2=.free→ ∃c,X.env.cells.lookup y.1=some c:=
 fun y hy e=>I.ok.has y.1 (F.frees y hy e)
theorem kO(I:Inv X pins σ H1 s₂)(F:CompF X.env.scope X.N sc idx){x:Str}{c:Addr}(e:(zAM X.env sc.names []).lookup x=some c):X.env.cells.lookup x=some c:=
 zLG sc.names [] (zNG I F) (fun _ z=>nomatch z) (x,c) (PySem.mem_of_lookup e)
theorem yHM(I:Inv X pins σ H1 s₂)(F:CompF X.env.scope X.N sc idx){x:Str}{c:Addr}(hx:(x,NameKind.free)∈sc.names)(e:X.env.cells.lookup x=some c):(zAM X.env sc.names []).lookup x=some c:=by
 obtain⟨c',h'⟩:=zAU (zEG (env:=X.env) sc.names [] x hx)
 rw [h']
 rw [kO I F h']at e
 exact e
theorem yBM(I:Inv X pins σ H1 s₂)(F:CompF X.env.scope X.N sc idx)(hC:s₂.heap.objs.size≤C)(hfp: ∀b∈fp,zGU X pins H1 b)(hlt: ∀b∈fp,b<s₂.heap.objs.size):(yB X sc T idx C s₂ H1 fp).Ok where
 mod:=I.ok.mod
 kind:=F.kind
 glob:=I.ok.glob
 blt:=I.ok.blt
 above:=hC
 inj:=fun x y c h1 h2=>I.ok.inj x y c (kO I F h1) (kO I F h2)
 has:=fun x hx=>by
  have hx':(zPM sc X.env.scope).lookup x=some .cell∨(zPM sc X.env.scope).lookup x=some .free:=hx
  exact zAU (zEG sc.names [] x (zQN F.nocell hx'))
 cab:=fun x c h _=>nomatch h
 hd:=I.ok.hd
 frames:=I.ok.frames
 stk:=.inl rfl
 exf:=fun b hb=>⟨Nat.ne_of_lt (Nat.lt_of_lt_of_le (hlt b hb) hC),fun x c e=>(hfp b hb).2.2.2.2.1 x c (kO I F e)⟩
 bs:=I.bs
 bsz:=Nat.le_trans I.ok.bsz I.sz
 noex:=fun b o e hb=>by
  rcases (hfp b hb).2.2.2.1 with z | z
  ·exact I.ok.noex b o e z
  ·exact absurd (Nat.lt_of_lt_of_le (Heap.lt_size e) (Nat.le_trans I.ok.bsz z)) (Nat.lt_irrefl _)
 exfs:=fun b hb z=>by
  rcases List.mem_cons.mp (I.stkSub b z)with e | e
  ·exact(hfp b hb).2.1 e
  ·exact(hfp b hb).2.2.1 e
 funs:=I.stack
 frf:=I.stkFree
theorem zNH{s₄:Shared}{m:Str→Option Value}(I:Inv X pins σ H1 s₂)(F:CompF X.env.scope X.N sc idx)(hC:s₂.heap.objs.size≤C)(hfp: ∀b∈fp,zGU X pins H1 b)(hlt: ∀b∈fp,b<s₂.heap.objs.size)
  (kp: ∀b o,s₂.heap.get? b=some o→s₄.heap.get? b=some o) (ho:s₄.os=s₂.os) (hg:s₄.gens=s₂.gens) (hn:s₄.heap.Ns C m):
  Inv (yB X sc T idx C s₂ H1 fp) [] (T.map (fun _=>none)++zEH σ idx) H1 s₄:=by
 have cellK: ∀c v,s₂.heap.IsCell c v→s₄.heap.IsCell c v:=fun c v ⟨o,h1,h2⟩=>⟨o,kp c o h1,h2⟩
 refine⟨yBM I F hC hfp hlt,ho,by rw [hg];exact I.bare,Un.kept kp,⟨m,hn,fun i x v e1 e2 e3=>?_⟩,fun x c e=>?_,I.hok.fresh hC,fun x c e=>I.freeC x c (kO I F e),fun p hp=>absurd (show p∈([]:List (Addr×Obj))from hp) (by simp),I.hok.kept kp,?_⟩
 ·have e1':(T++idx.map fun i=>(X.N[i]?).getD Str.empty)[i]? =some x:=e1
  by_cases hi:i<T.length
  ·rw [List.getElem?_append_left (by simpa using hi),List.getElem?_map]at e2
   cases z:T[i]? with
   | none=>rw [z]at e2;cases e2
   | some y=>rw [z]at e2;cases e2
  ·rw [List.getElem?_append_right (by simpa using hi)]at e2
   rw [List.getElem?_append_right (by omega)]at e1'
   rw [List.length_map]at e2
   unfold zEH at e2
   rw [List.getElem?_map]at e1' e2
   cases z:idx[i - T.length]? with
   | none=>rw [z]at e2;cases e2
   | some j=>
    rw [z]at e1' e2
    have hj:j∈idx:=List.mem_of_getElem? z
    obtain⟨y,hy,k1,k2⟩:=F.cap j hj
    have ex:y=x:=by
     have q:(X.N[j]?).getD Str.empty=x:=Option.some.inj e1'
     rw [hy]at q;exact q
    subst ex
    have ev:σ[j]? =some (some v):=by
     have q:(σ[j]?).join=some v:=Option.some.inj e2
     cases w':σ[j]? with
     | none=>rw [w']at q;cases q
     | some a=>rw [w']at q;have q':a=some v:=q;rw [q']
    obtain⟨m0,hn0,hl0⟩:=I.loc
    have vis:Vis X.env.scope y:=k1.elim (fun z=>.inr (.inl z)) fun z=>.inr (.inr z)
    obtain⟨u,r,l⟩:=hl0 j y v hy ev vis
    refine⟨u,r,?_⟩
    rcases l with⟨kl,_⟩ | ⟨_,c,hc,q⟩
    ·have kl':X.env.scope.names.lookup y=some .local:=kl
     rcases k1 with z | z<;>rw [z]at kl'<;>cases kl'
    ·exact .inr ⟨k2,c,yHM I F (zQN F.nocell k2) hc,cellK c _ q⟩
 ·obtain⟨v,q⟩:=I.cell x c (kO I F e)
  exact⟨v,cellK c v q⟩
 ·show(T.map (fun _=>(none:Option V))++zEH σ idx).length=(T++idx.map fun i=>(X.N[i]?).getD Str.empty).length
  rw [List.length_append,List.length_append,List.length_map,List.length_map,zAN]
theorem zNI{σ1:St}{H':Hp}{s':Shared}{h':Heap}{D:Addr}{ys:List V}{its:List Value}{n:Nat}(I:Inv X pins σ H1 s₂)(hC:s₂.heap.objs.size≤C)(hfp: ∀b∈fp,zGU X pins H1 b)
  (J:Inv (yB X sc T idx C s₂ H1 fp) [] σ1 H' s') (hs:Heap.SameBut C s'.heap h') (hD:s₂.heap.objs.size≤D) (hDC:D≠C) (eD:s'.heap.get? D=some {cls:=.type "list",data:=.seq its.toArray n}) (nD:H' D=none) (r:Vals ys its) (hz:ys.length≤sizeLine):
  Inv X pins σ (upd H' D (.lst ys)) {s' with heap:=h'}:=by
 have old: ∀b o,s₂.heap.get? b=some o→b≠C∧b≠D:=fun b o e=>⟨Nat.ne_of_lt (Nat.lt_of_lt_of_le (Heap.lt_size e) hC),Nat.ne_of_lt (Nat.lt_of_lt_of_le (Heap.lt_size e) hD)⟩
 have oldH: ∀b u,H1 b=some u→b≠D:=fun b u e=>Nat.ne_of_lt (Nat.lt_of_lt_of_le (I.hok.lt e) hD)
 have nC:H' C=none:=J.free
 have B:Un (frs X.stack) fp H1 H' s₂.heap s'.heap:=J.base
 have mv: ∀b o,b≠C→s'.heap.get? b=some o→h'.get? b=some o:=fun b o hb e=>(hs.2 b hb).trans e
 refine I.call' (s':={s' with heap:=h'}) (ch:=fp) J.os ⟨fun b o e q hb hx=>?_,fun b o e q hb hx=>?_,fun b o e q hx=>?_,fun b o e hx=>?_,fun b xs e=>?_,fun b o u e=>?_,fun b ps e=>?_⟩ ?_ J.bare fun b hb=>⟨(hfp b hb).2.2.2.1,(hfp b hb).2.1,(hfp b hb).2.2.2.2.1,(hfp b hb).2.2.2.2.2⟩
 ·exact mv b o (old b o e).1 (B.keep b o e q hb hx)
 ·obtain⟨sl,z⟩:=B.slot b o e q hb hx
  exact⟨sl,mv b _ (old b o e).1 z⟩
 ·rw [zP (old b o e).2];exact B.free b o e q hx
 ·obtain⟨o',z⟩:=B.there b o e hx
  exact⟨o',mv b o' (old b o e).1 z⟩
 ·rw [zP (oldH b _ e)];exact B.tups b xs e
 ·rw [zP (oldH b _ e)];exact B.frzs b o u e
 ·obtain⟨more,z⟩:=B.tbls b ps e
  exact⟨more,by rw [zP (oldH b _ e)];exact z⟩
 ·intro b u e
  by_cases hb:b=D
  ·subst hb
   rw [zZ]at e;cases e
   exact⟨hz,its,n,r,mv b _ hDC eD⟩
  ·rw [zP hb]at e
   refine(J.hok b u e).stay (fun c v hc q=>mv c v ?_ q) (fun c q=>by rw [zP (yF q nD)];exact q) fun c xs q=>by rw [zP (yF q nD)];exact q
   rcases hc with z | z
   ·rw [z];exact yF e nC
   ·exact yF z nC
end
end L2
namespace L2
open PySem PySem.Spec PyProof.Rows
section
variable{X:Cx}
theorem yHN{elt tg iter:Expr}{ifs:List Expr}{pos:Pos}{sc:Scope}{wi:TI}{g:TG}{tc:Addr→Shared→Hp→List Addr→TT}{te:Addr→Shared→Hp→List Addr→TE}(T:List Str)(idx:List Nat)
  (hi:PI X tg iter wi) (hcalm:X.calm=true) (hB:zNF X.env.scope X.N sc idx=true)
  (hg: ∀C s₂ H1 fp,PG (yB X sc T idx C s₂ H1 fp) tg g)
  (hc: ∀C s₂ H1 fp,yBL (yB X sc T idx C s₂ H1 fp) ifs (tc C s₂ H1 fp))
  (he: ∀C s₂ H1 fp,PE (yB X sc T idx C s₂ H1 fp) elt (te C s₂ H1 fp))
  (hs: ∀x,foldedSetIterable iter X.env x=pure x:=by intro _;rfl):
  PE X (.ListComp elt [⟨tg,iter,ifs,0⟩] sc pos) (yDO wi g tc te T.length idx):=by
 intro pins s σ H Q I h
 rw [eval_ListComp]
 have cf:=zZI hB
 refine wpAny_comprehension_free (use:=none) (cl:=zAM X.env sc.names []) rfl hs (zGJ (zNG I cf)) cf.kind cf.locs ?_
 refine thn (hi pins s σ H _ I h) fun v s1 h1=>thn h1 fun itv s2 h2=>?_
 obtain⟨it,fp,tn,J,H2,e,I2,Tn,st2,f2,W,⟨m0,w0⟩,turn⟩:=h2
 subst e
 have hlt: ∀b∈fp,b<s2.heap.objs.size:=fun b hb=>let ⟨o,e,_⟩:=Tn.obj _ _ st2 b hb;Heap.lt_size e
 refine wpAny_newObj_type (wpAny_newFunctionEnv cf.nocell (by intro y hy;simp at hy) (fun h₁ hns₁ hsb₁=>?_) cf.kind)
 dsimp only at hns₁ hsb₁ ⊢
 generalize hH2:s2.heap.push {cls:=.type "list",dict:=none,data:=.seq ([]:List Value).toArray}=HH at hns₁ hsb₁ ⊢
 have hC:HH.objs.size=s2.heap.objs.size+1:=by rw [←hH2,Heap.size_push]
 have hDC:s2.heap.objs.size≠HH.objs.size:=by rw [hC];exact Nat.ne_of_lt (Nat.lt_succ_self _)
 have hCle:s2.heap.objs.size≤HH.objs.size:=by rw [hC];exact Nat.le_succ _
 have old: ∀b o,s2.heap.get? b=some o→h₁.get? b=some o:=fun b o e=>hsb₁.extBut b o (by rw [hC];exact Nat.ne_of_lt (Nat.lt_succ_of_lt (Heap.lt_size e))) (Heap.get?_push_of_some _ (hH2▸Heap.get?_push_of_some _ e))
 have eD0:h₁.get? s2.heap.objs.size=some {cls:=.type "list",data:=.seq ([]:List Value).toArray 0}:=hsb₁.extBut _ _ hDC (Heap.get?_push_of_some _ (hH2▸Heap.get?_push_size _ rfl))
 have nD0:H2 s2.heap.objs.size=none:=I2.hok.fresh (Nat.le_refl _)
 have cD: ∀x c,(zAM X.env sc.names []).lookup x=some c→c≠s2.heap.objs.size:=fun x c e=>by
  obtain⟨v,q⟩:=I2.cell x c (kO I2 cf e)
  exact Nat.ne_of_lt q.lt
 have loop: ∀s4:Shared,s4={s2 with heap:=h₁,toks:=s2.toks+([]:List (Str×Value)).length}→
   codeAny (model X.prog X.w) X.A (.compLoop (.ListComp elt [⟨tg,iter,ifs,0⟩] sc pos) 0 (.ref it) (.ref s2.heap.objs.size) (compEnvC sc (zAM X.env sc.names []) HH.objs.size X.env))
    (compPost (model X.prog X.w) X.A X.xe none (EP X pins σ Q) (.ref s2.heap.objs.size) HH.objs.size) s4:=by
  rintro s4 rfl
  have J0:Inv (yB X sc T idx HH.objs.size s2 H2 fp) [] (T.map (fun _=>none)++zEH σ idx) H2 {s2 with heap:=h₁,toks:=s2.toks+([]:List (Str×Value)).length}:=
   zNH I2 cf hCle f2 hlt old rfl rfl hns₁
  refine zIC (fun k s'=> ∃(i:Nat)(ys:List V)(its:List Value)(n:Nat)(H':Hp)(τ:St),Inv (yB X sc T idx HH.objs.size s2 H2 fp) [] (τ++zEH σ idx) H' s'∧τ.length=T.length∧tn i s'.heap∧(∀b∈fp,H' b=none)∧
   s'.heap.get? s2.heap.objs.size=some {cls:=.type "list",data:=.seq its.toArray n}∧H' s2.heap.objs.size=none∧Vals ys its∧W i k ys H') ?_ m0
   ⟨0,[],[],0,H2,T.map (fun _=>none),J0,by rw [List.length_map],Tn.keep _ _ _ st2 fun b _ o e=>old b o e,fun b hb=>(f2 b hb).1,eD0,nD0,.nil,w0⟩
  rintro k s3 ⟨i,ys,its,n,H3,τ,I3,hτ,st3,fr3,eD3,nD3,r3,w3⟩
  obtain⟨hz,alt⟩:=turn i k ys H3 w3
  have hDfs:s2.heap.objs.size∉(yB X sc T idx HH.objs.size s2 H2 fp).fs:=fun z=>by
   obtain⟨_,o,ho,_⟩:=I2.stack.mem (show s2.heap.objs.size∈frs X.stack from z)
   exact absurd (Heap.lt_size ho) (Nat.lt_irrefl _)
  have pinD: ∀{H':Hp}{s':Shared},s'.heap.get? s2.heap.objs.size=some {cls:=.type "list",data:=.seq its.toArray n}→H' s2.heap.objs.size=none→
    ∀p∈[(s2.heap.objs.size,({cls:=.type "list",data:=.seq its.toArray n}:Obj))],s'.heap.get? p.1=some p.2∧H' p.1=none∧p.1≠(yB X sc T idx HH.objs.size s2 H2 fp).env.locals∧p.1∉(yB X sc T idx HH.objs.size s2 H2 fp).fs∧ ∀v,p.2.data≠.cell v:=
   fun {H' s'} e1 e2 p hp=>by
    have ep:p=(s2.heap.objs.size,{cls:=.type "list",data:=.seq its.toArray n}):=by simpa using hp
    subst ep
    exact⟨e1,e2,hDC,hDfs,fun v z=>by cases z⟩
  have P3:Inv (yB X sc T idx HH.objs.size s2 H2 fp) [(s2.heap.objs.size,{cls:=.type "list",data:=.seq its.toArray n})] (τ++zEH σ idx) H3 s3:=I3.pins_of (pinD eD3 nD3)
  have stat: ∀{H':Hp},(∀b∈fp,H' b=none)→ ∀b∈fp,zGU (yB X sc T idx HH.objs.size s2 H2 fp) [(s2.heap.objs.size,{cls:=.type "list",data:=.seq its.toArray n})] H' b:=fun {H'} hn b hb=>by
   have hb2:=hlt b hb
   refine⟨hn b hb,Nat.ne_of_lt (Nat.lt_of_lt_of_le hb2 hCle),I3.ok.exfs b hb,.inl hb,fun x c e=>(f2 b hb).2.2.2.2.1 x c (kO I2 cf e),fun p hp=>?_⟩
   have ep:p=(s2.heap.objs.size,({cls:=.type "list",data:=.seq its.toArray n}:Obj)):=by simpa [yB]using hp
   subst ep
   exact Nat.ne_of_gt hb2
  rcases alt with⟨stop,q⟩ | ⟨go,hl2,step⟩
  ·refine thn (Tn.done (yB X sc T idx HH.objs.size s2 H2 fp) rfl rfl rfl hcalm i _ s3 _ H3 (fun _ _=>False) P3 (stat fr3) st3 stop) fun r s4 ⟨hr,I4⟩=>?_
   subst hr
   obtain⟨m,hn,_⟩:=id I4.loc
   refine⟨m,hn,fun h' hs'=>?_⟩
   have eD4:=(I4.pin (s2.heap.objs.size,{cls:=.type "list",data:=.seq its.toArray n}) (by simp)).1
   exact⟨.ref s2.heap.objs.size,_,zNI I2 hCle f2 (I4.pins_of (fun p hp=>nomatch hp)) hs' (Nat.le_refl _) hDC eD4 nD3 r3 hz,rfl,q _ nD3⟩
  ·refine thn (Tn.item (yB X sc T idx HH.objs.size s2 H2 fp) rfl rfl rfl hcalm i _ s3 _ H3 (fun _ _=>False) P3 (stat fr3) st3 go) fun r s4 ⟨u,hr,h4⟩=>?_
   subst hr
   refine thn h4 fun _ s5 ⟨x,H5,I5,r5,y5,st5,fr5⟩=>?_
   have I5':=I5.pinned (stat fr5) (Tn.obj _ _ st5)
   refine thn (hg HH.objs.size s2 H2 fp _ s5 _ H5 x u _ I5' r5 (step x H5 y5 τ hτ)) fun _ s6 ⟨σ6,H6,I6,⟨τ',e6,l6⟩,q6⟩=>?_
   subst e6
   refine thn (hc HH.objs.size s2 H2 fp _ s6 _ H6 _ I6 (q6 HH.objs.size s2 fp)) fun ok s7 ⟨H7,I7,q7⟩=>?_
   have mD:(s2.heap.objs.size,({cls:=.type "list",data:=.seq its.toArray n}:Obj))∈(yB X sc T idx HH.objs.size s2 H2 fp).pn++([(s2.heap.objs.size,{cls:=.type "list",data:=.seq its.toArray n})]++zEF fp s5.heap):=
    List.mem_append_right _ (List.mem_append_left _ (by simp))
   have mF: ∀b∈fp, ∀o,s5.heap.get? b=some o→(b,o)∈(yB X sc T idx HH.objs.size s2 H2 fp).pn++([(s2.heap.objs.size,{cls:=.type "list",data:=.seq its.toArray n})]++zEF fp s5.heap):=fun b hb o e=>
    List.mem_append_right _ (List.mem_append_right _ (zCE hb e))
   cases ok with
   | false=>
    rw [if_neg Bool.false_ne_true]at q7 ⊢
    obtain⟨m',hm',w7⟩:=q7
    refine⟨m',hm',i+1,ys,its,n,H7,τ',I7.pins_of (fun p hp=>nomatch hp),l6,Tn.keep _ _ _ st5 fun b hb o e=>(I7.pin _ (mF b hb o e)).1,fun b hb=>?_,(I7.pin _ mD).1,(I7.pin _ mD).2.1,r3,w7⟩
    obtain⟨o,e,d⟩:=Tn.obj _ _ st5 b hb
    exact(I7.pin _ (mF b hb o e)).2.1
   | true=>
    rw [if_pos rfl]at q7 ⊢
    refine thn (he HH.objs.size s2 H2 fp _ s7 _ H7 _ I7 q7) fun y s8 ⟨yv,H8,I8,r8,m',hm',w8⟩=>?_
    have eD8:=(I8.pin _ mD).1
    have nD8:=(I8.pin _ mD).2.1
    have hl:=r3.length
    have q:=PySem.IsL.update eD8 (fun z=>z.push y)
    rw [show its.toArray.push y=(its++[y]).toArray by simp]at q
    refine call_meets PySem.F.slot_list_append ⟨_,eD8,rfl⟩ PySem.F.entry_list_append (PySem.F.args_list_append_2 _ _) (PySem.list_append s2.heap.objs.size its.toArray n y (by rw [List.size_toArray];omega)) ⟨eD8,?_⟩
    have I9:Inv (yB X sc T idx HH.objs.size s2 H2 fp) [] (τ'++zEH σ idx) H8 s8:=I8.pins_of (fun p hp=>nomatch hp)
    have up: ∀b o,b≠s2.heap.objs.size→s8.heap.get? b=some o→(s8.heap.update s2.heap.objs.size (Obj.mapSeq fun z=>z.push y)).get? b=some o:=fun b o hb e=>(Heap.get?_update_other s8.heap _ (Ne.symm hb)).trans e
    refine⟨m',hm',i+1,ys++[yv],its++[y],_,H8,τ',I9.turned (t':=s8.toks) up nD8 hDC (.inr (Nat.le_refl _)) cD (fun p hp=>nomatch hp),l6,?_,fun b hb=>?_,q,nD8,r3.append (.cons r8 .nil),w8⟩
    ·exact Tn.keep _ _ _ st5 fun b hb o e=>up b o (Nat.ne_of_lt (hlt b hb)) (I8.pin _ (mF b hb o e)).1
    ·obtain⟨o,e,d⟩:=Tn.obj _ _ st5 b hb
     exact(I8.pin _ (mF b hb o e)).2.1
 exact codeAny_compStart_list (loop _ rfl) (Tn.self X.A 0 _ _ _ (Tn.keep _ _ _ st2 fun b _ o e=>old b o e) (loop _ rfl))
end
end L2
namespace L2
open PySem PySem.Spec PyProof.Rows
def mkS(x:List Nat):Str:=⟨x.toArray⟩
theorem jV(x:List Nat):(mkS x).length=x.length:=by simp [mkS,Str.length]
theorem zCF(x:List Nat):(mkS x).cps.toList=x:=by simp [mkS]
theorem zRU{x y:List Nat}(h:mkS x=mkS y):x=y:=by
 have:=congrArg (fun s=>s.cps.toList) h
 simpa [mkS]using this
theorem yHO(x y:List Nat):mkS x++mkS y=mkS (x++y):=by
 show Str.append (mkS x) (mkS y)=_
 simp [Str.append,mkS]
theorem yHP(c:Nat):(⟨#[c]⟩:Str)=mkS [c]:=rfl
def dG{α:Type}(xs:List α)(lo hi:Option Int):List α:=(xs.drop (HT.sIx xs.length 0 lo)).take (HT.sIx xs.length xs.length hi - HT.sIx xs.length 0 lo)
theorem strIdx(lo hi:Option Int)(n:Nat):Builtin.Str.strSliceIndices lo hi 1 n=(List.range (HT.sIx n n hi - HT.sIx n 0 lo)).map (HT.sIx n 0 lo+·):=by
 have e1:(match lo with | none=>(if(1:Int)>0 then(0:Int)else(n:Int) - 1) | some i=>if(1:Int)>0 then max 0 (min (if i<0 then i+(n:Int)else i) (n:Int))else max (-1) (min (if i<0 then i+(n:Int)else i) ((n:Int) - 1)))=((HT.sIx n 0 lo:Nat):Int):=by
  cases lo with
  | none=>simp [HT.sIx]
  | some i=>
   simp only [HT.sIx,show(1:Int)>0 by decide,if_true]
   by_cases h:i<0
   ·simp only [h,if_true];omega
   ·simp only [h,if_false];omega
 have e2:(match hi with | none=>(if(1:Int)>0 then(n:Int)else -1) | some i=>if(1:Int)>0 then max 0 (min (if i<0 then i+(n:Int)else i) (n:Int))else max (-1) (min (if i<0 then i+(n:Int)else i) ((n:Int) - 1)))=((HT.sIx n n hi:Nat):Int):=by
  cases hi with
  | none=>simp [HT.sIx]
  | some i=>
   simp only [HT.sIx,show(1:Int)>0 by decide,if_true]
   by_cases h:i<0
   ·simp only [h,if_true];omega
   ·simp only [h,if_false];omega
 rw [←sliceRange_one]
 unfold Builtin.Str.strSliceIndices
 dsimp only
 rw [←e1, ←e2]
 cases lo<;>cases hi<;>rfl
theorem yBN(x:List Nat)(lo hi:Option Int):Txt.slice (mkS x) lo hi=mkS (dG x lo hi):=by
 unfold Txt.slice
 rw [strIdx,jV]
 have hp:((List.range (HT.sIx x.length x.length hi - HT.sIx x.length 0 lo)).map (HT.sIx x.length 0 lo+·)).filterMap ((mkS x).cps[·]?)=dG x lo hi:=by
  have:=pick_run (mkS x).cps (HT.sIx x.length 0 lo) (HT.sIx x.length x.length hi - HT.sIx x.length 0 lo)
  rw [zCF]at this
  exact this
 rw [hp]
 split
 ·rename_i hc
  rw [Bool.and_eq_true]at hc
  have hl:HT.sIx x.length x.length hi - HT.sIx x.length 0 lo=x.length:=by simpa using hc.2
  have h2:HT.sIx x.length x.length hi≤x.length:=HT.sIx_le _ _ (Nat.le_refl _) _
  have h3:HT.sIx x.length 0 lo≤x.length:=HT.sIx_le _ _ (Nat.zero_le _) _
  have e:HT.sIx x.length 0 lo=0:=by omega
  unfold dG
  rw [hl,e]
  simp
 ·rfl
section
variable{X:Cx}
def rSlS:V→Option Int→Option Int→Hp→VK→Prop:=fun x lo hi H Q=> ∃cs,x=.str (mkS cs)∧cs.length≤sizeLine∧Q (.str (mkS (dG cs lo hi))) H
theorem yLT:SlR X rSlS:=by
 intro pins s σ H x v vl vu lo hi sl Q I rx hs pl pu h
 obtain⟨cs,rfl,hz,q⟩:=h
 obtain⟨t,rfl⟩:=rx
 have hl:(Txt.slice (mkS cs) lo hi).length≤sizeLine:=Nat.le_trans (Txt.slice_le _ _ _) (by rw [jV];exact hz)
 rw [←yBN]at q
 refine⟨"str",_,slot_str_getitem.lookup,typeIs_str _ _ _,?_⟩
 obtain⟨o,ho,hc,hd⟩:=hs
 cases pl with
 | none=>
  cases pu with
  | none=>exact wpAny_getItem_str_slice (l:=none) (u:=none) (st:=none) ⟨o,ho,hc,hd⟩ rfl (post_val_or_str ⟨hl,fun t' k=>⟨.str _,H,I.tok _,⟨_,rfl⟩,q⟩⟩)
  | int j uj=>exact wpAny_getItem_str_slice (l:=none) (u:=some (j,uj)) (st:=none) ⟨o,ho,hc,hd⟩ rfl (post_val_or_str ⟨hl,fun t' k=>⟨.str _,H,I.tok _,⟨_,rfl⟩,q⟩⟩)
 | int i ui=>
  cases pu with
  | none=>exact wpAny_getItem_str_slice (l:=some (i,ui)) (u:=none) (st:=none) ⟨o,ho,hc,hd⟩ rfl (post_val_or_str ⟨hl,fun t' k=>⟨.str _,H,I.tok _,⟨_,rfl⟩,q⟩⟩)
  | int j uj=>exact wpAny_getItem_str_slice (l:=some (i,ui)) (u:=some (j,uj)) (st:=none) ⟨o,ho,hc,hd⟩ rfl (post_val_or_str ⟨hl,fun t' k=>⟨.str _,H,I.tok _,⟨_,rfl⟩,q⟩⟩)
theorem gX:OpR X (compareOp .LtE) (fun x y H Q=> ∃i j,x=.str i∧y=.str j∧Q (.bl (!(j.cps.toList<i.cps.toList))) H):=by
 intro pins s σ H x y v u Q I rx ry h
 obtain⟨i,j,rfl,rfl,q⟩:=h
 obtain⟨t,rfl⟩:=rx
 obtain⟨t',rfl⟩:=ry
 exact PySem.P.le_str ⟨.bl _,H,I,rfl,q⟩
def zNJ(cs:List Nat)(k:Int):List Nat:=(List.replicate k.toNat cs).flatten
theorem zJY(cs:List Nat): ∀(k:Nat)(acc:List Nat),List.foldl (fun x1 x2=>x1++x2) acc.toArray (List.replicate k cs.toArray)=(acc++(List.replicate k cs).flatten).toArray
 | 0,acc=>by simp
 | k+1,acc=>by
  rw [List.replicate_succ,List.foldl_cons,List.replicate_succ,List.flatten_cons, ←List.append_assoc, ←zJY cs k (acc++cs)]
  simp
theorem zXC:OpR X (binaryOp .Mult) (fun x y H Q=> ∃cs k,x=.str (mkS cs)∧y=.int k∧0≤k∧k<1000∧cs.length≤1000∧Q (.str (mkS (zNJ cs k))) H):=by
 intro pins s σ H x y v u Q I rx ry h
 obtain⟨cs,k,rfl,rfl,h0,h1,hc,q⟩:=h
 obtain⟨t,rfl⟩:=rx
 obtain⟨t',rfl⟩:=ry
 have hs:sizeLine=16777216:=sizeLine_eq
 have hprod:cs.length * k.toNat≤1000 * 1000:=Nat.mul_le_mul hc (by omega)
 have e: ∀b,Q (.str b) H→b=mkS (zNJ cs k)→True:=fun _ _ _=>trivial
 refine PySem.P.mul_str (by rw [decide_eq_false (by omega),decide_eq_false (by omega)];rfl) (fun h2 _=>?_) (fun _ _=>?_) ?_
 ·rw [jV]
  have hk:1≤k:=by omega
  have:(1000:Int)≤(2 ^ 63 - 1) / k:=by
   rw [Int.le_ediv_iff_mul_le (by omega)]
   omega
  omega
 ·rw [jV]
  unfold PySem.Builtin.Str.tooLong
  exact decide_eq_false (by omega)
 ·have made: ∀(z:Str),z=mkS (zNJ cs k)→z.length≤sizeLine→(Made.str z).post (EP X pins σ Q) s:=fun z ez hz=>⟨hz,by rw [ez];exact⟨.str _,H,I.tok _,⟨_,rfl⟩,q⟩⟩
  have hlen:(zNJ cs k).length=k.toNat * cs.length:=by
   unfold zNJ;rw [len_rep]
  by_cases hn:k<1
  ·rw [if_pos hn]
   have hk:k.toNat=0:=by omega
   refine made _ ?_ (by decide)
   unfold zNJ;rw [hk];rfl
  ·rw [if_neg hn]
   by_cases h3:(k==1 || (mkS cs).length==0)=true
   ·rw [if_pos h3]
    refine⟨.str (mkS cs),H,I,⟨_,rfl⟩,?_⟩
    have:zNJ cs k=cs:=by
     unfold zNJ
     rw [Bool.or_eq_true]at h3
     rcases h3 with h3 | h3
     ·have:k=1:=by simpa using h3
      subst this
      simp
     ·rw [jV]at h3
      have:cs=[]:=by cases cs with | nil=>rfl | cons _ _=>simp at h3
      subst this
      simp
    rw [this]at q
    exact q
   ·rw [if_neg h3]
    refine made _ ?_ ?_
    ·unfold zNJ mkS
     have:=zJY cs k.toNat []
     rw [List.nil_append]at this
     exact congrArg Str.mk this
    ·have e3:(List.foldl (fun x1 x2=>x1++x2) #[] (List.replicate k.toNat (mkS cs).cps))=(zNJ cs k).toArray:=by
      have:=zJY cs k.toNat []
      rw [List.nil_append]at this
      exact this
     show(List.foldl (fun x1 x2=>x1++x2) #[] (List.replicate k.toNat (mkS cs).cps)).size≤sizeLine
     rw [e3,List.size_toArray,hlen,Nat.mul_comm]
     omega
theorem jG:CallR X (.builtin "all") (fun xs H Q=> ∃(a:Addr)(bs:List Bool),xs=[.ref a]∧SqL X.K H a (bs.map V.bl)∧X.calm=true∧Q (.bl (bs.all id)) H):=by
 intro pins s σ H xs us Q I r h
 obtain⟨a,bs,rfl,hq,hc,q⟩:=h
 obtain⟨u,rfl,ru⟩:=vals1 r
 cases ru
 obtain⟨its,rv,pl,hz⟩:=I.list hq
 have hlen:its.length=bs.length:=by rw [←rv.length,List.length_map]
 refine PySem.call_all_walk (wpAny_pyIter_list pl.isList ?_)
 have hI:a≠s.heap.objs.size:=by
  obtain⟨o,ho,_⟩:=pl.isList
  exact Nat.ne_of_lt (Heap.lt_size ho)
 have I1: ∀(h':Heap)(tk:Nat),(∀b o,b∉[s.heap.objs.size]→(s.heap.push {cls:=.type "list_iterator",data:=.fields #[.ref a,.int 0 0]}).get? b=some o→h'.get? b=some o)→Inv X pins σ H {s with heap:=h',toks:=tk}:=fun h' tk k=>
  I.kept fun b o e=>k b o (by simpa using Nat.ne_of_lt (Heap.lt_size e)) (Heap.get?_push_of_some _ e)
 refine⟨s.heap.objs.size,[s.heap.objs.size,a],[s.heap.objs.size],its.toArray.size,_,_,fun i=>bs.getD i false,rfl,PySem.Walks.list (by first | exact I.ok.hd hc | exact(show X.A.in1.handled=none from I.ok.hd hc)) _ a hI its.toArray,⟨⟨_,Heap.get?_push_size _ rfl,rfl,rfl⟩,pl.isList.at fun o e=>Heap.get?_push_of_some _ e⟩,?_,fun h' tk k=>?_⟩
 ·intro i v s' Q' E' hv hQ'
  have hv':its[i]? =some v:=by simpa using hv
  have hi:i<bs.length:=by rw [←hlen];exact(List.getElem?_eq_some_iff.mp hv').1
  have hb:(bs.map V.bl)[i]? =some (V.bl (bs.getD i false)):=by
   rw [List.getElem?_map,List.getElem?_eq_getElem hi]
   simp [List.getD_eq_getElem?_getD,hi]
  obtain⟨u',hu',rv'⟩:=rv.get hb
  rw [hv']at hu'
  cases hu'
  cases rv'
  exact wpAny_truthy_bool hQ'
 ·refine⟨.bl (bs.all id),H,I1 h' tk k,?_,q⟩
  show Value.bool _=Value.bool _
  congr 1
  rw [List.size_toArray,hlen]
  have: ∀(l:List Bool),(List.range l.length).all (fun i=>l.getD i false)=l.all id:=by
   intro l
   rw [Bool.eq_iff_iff,List.all_eq_true,List.all_eq_true]
   constructor
   ·intro h x hx
    obtain⟨i,hi,rfl⟩:=List.getElem_of_mem hx
    have:=h i (List.mem_range.mpr hi)
    simpa [List.getD_eq_getElem?_getD,hi]using this
   ·intro h i hi
    have hi':=List.mem_range.mp hi
    have:=h l[i] (List.getElem_mem hi')
    simpa [List.getD_eq_getElem?_getD,hi']using this
  exact this bs
def Its(x:List Nat):It:=⟨fun i _=>i<x.length,fun i H v H'=>H'=H∧ ∃c,x[i]? =some c∧v=.str (mkS [c]),fun i _=>x.length≤i⟩
def iStr(tl:TE):TI:=fun σ H R=>tl σ H fun v H1=> ∃x,v=.str (mkS x)∧R (Its x) H1
theorem zUG{P:Program}{w:World}{K:PySem.W.Frag}{tg:Expr}(it:Addr)(ty:String)(x:List Nat)(t:Tok)(hty:ty="str_ascii_iterator"∨ty="str_iterator"):
  Turn P w K tg (Its x) [it] it (fun i h=>h.IsStrIter it ty (mkS x) t i) where
 mem:=by simp
 obj:=fun i h st b hb=>by
  have e:b=it:=by simpa using hb
  subst e
  obtain⟨o,e,c,d⟩:=st
  exact⟨o,e,fun v z=>by rw [d]at z;cases z⟩
 keep:=fun i h h' st k=>let ⟨o,ho,r⟩:=st;⟨o,k it (by simp) o ho,r⟩
 item:=by
  intro X hP hw hK hc i pins s σ H E I hf st hg
  subst hP hw hK
  obtain⟨f0,f1,f2,f3,f4,f5⟩:=hf it (by simp)
  have hi:i<x.length:=hg
  have hxi:(mkS x).cps[i]? =some x[i]:=by simp [mkS,hi]
  have fin: ∀(h':Heap),h'.IsStrIter it ty (mkS x) t (i+1)→Heap.SameBut it s.heap h'→ ∃u,some (Value.str ⟨#[x[i]]⟩ s.toks)=some u∧
    wpAny (model X.prog X.w) X.A (letOwnedTupleGo tg (.ref it) u) (fun _ s2=> ∃y H',Inv X pins σ H' s2∧RelV y u∧(Its x).yld i H y H'∧s2.heap.IsStrIter it ty (mkS x) t (i+1)∧ ∀b∈[it],H' b=none) E {s with heap:=h',toks:=s.toks+1}:=fun h' st' sb=>by
   have I1:Inv X pins σ H {s with heap:=h',toks:=s.toks+1}:=I.turned (fun b o hb e=>(sb.2 b hb).trans e) f0 f1 f3 f4 f5
   obtain⟨o,e,c,d⟩:=id st'
   refine⟨_,rfl,zZE (s:={s with heap:=h',toks:=s.toks+1}) e c d (by rcases hty with rfl | rfl<;>decide) ⟨.str (mkS [x[i]]),H,I1,⟨_,rfl⟩,⟨rfl,x[i],by simp [hi],rfl⟩,st',fun b hb=>(hf b hb).1⟩⟩
  rcases hty with rfl | rfl
  ·exact wpAny_pyNext_ascii_item st hxi fun h' st' sb=>fin h' st' sb
  ·exact wpAny_pyNext_wide_item st hxi fun h' st' sb=>fin h' st' sb
 done:=by
  intro X hP hw hK hc i pins s σ H E I hf st hg
  subst hP hw hK
  obtain⟨f0,f1,f2,f3,f4,f5⟩:=hf it (by simp)
  have hi:x.length≤i:=hg
  have hxi:(mkS x).cps[i]? =none:=by simp [mkS,hi]
  rcases hty with rfl | rfl
  ·exact wpAny_pyNext_ascii_end (I.ok.hd hc) st hxi fun h' eb=>⟨rfl,I.turned (t':=s.toks) (fun b o hb e=>eb b o hb e) f0 f1 f3 f4 f5⟩
  ·exact wpAny_pyNext_wide_end (I.ok.hd hc) st hxi fun h' eb=>⟨rfl,I.turned (t':=s.toks) (fun b o hb e=>eb b o hb e) f0 f1 f3 f4 f5⟩
 self:=fun _ _ _ _ _ st h=>by
  rcases hty with rfl | rfl
  ·exact wpAny_pyIter_striter_ascii st h
  ·exact wpAny_pyIter_striter_wide st h
theorem yLU{tg l:Expr}{tl:TE}(hl:PE X l tl):PI X tg l (iStr tl):=by
 intro pins s σ H R I h
 refine thn (hl pins s σ H _ I h) fun v s1 ⟨x,H1,I1,r1,q1⟩=>?_
 obtain⟨cs,e,q⟩:=q1
 subst e
 obtain⟨t,rfl⟩:=r1
 have fp: ∀(o:Obj), ∀b∈[s1.heap.objs.size],zGU X pins H1 b:=fun o b hb=>by
  have e:b=s1.heap.objs.size:=by simpa using hb
  subst e
  exact I1.fpOk (Nat.le_refl _) (I1.hok.fresh (Nat.le_refl _))
 cases ha:(mkS cs).cps.all (· <128)
 ·refine wpAny_pyIter_wide ha ?_
  exact⟨s1.heap.objs.size,[s1.heap.objs.size],_,_,H1,rfl,I1.kept (t':=s1.toks) fun b o e=>Heap.get?_push_of_some _ e,zUG _ "str_iterator" cs t (.inr rfl),⟨_,Heap.get?_push_size _ rfl,rfl,rfl⟩,fp default,q⟩
 ·refine wpAny_pyIter_ascii ha ?_
  exact⟨s1.heap.objs.size,[s1.heap.objs.size],_,_,H1,rfl,I1.kept (t':=s1.toks) fun b o e=>Heap.get?_push_of_some _ e,zUG _ "str_ascii_iterator" cs t (.inl rfl),⟨_,Heap.get?_push_size _ rfl,rfl,rfl⟩,fp default,q⟩
end
end L2
namespace L2
open PySem PySem.Spec PyProof.Rows
section
variable{X:Cx}
theorem yDR{elt tg iter:Expr}{ifs:List Expr}{pos:Pos}{sc:Scope}{wi:TI}{g:TG}{tc:Addr→Shared→Hp→List Addr→TT}{te:Addr→Shared→Hp→List Addr→TE}(T:List Str)(idx:List Nat)
  (hi:PI X tg iter wi) (hcalm:X.calm=true) (hB:zNF X.env.scope X.N sc idx=true)
  (hg: ∀C s₂ H1 fp,PG (yB X sc T idx C s₂ H1 fp) tg g)
  (hc: ∀C s₂ H1 fp,yBL (yB X sc T idx C s₂ H1 fp) ifs (tc C s₂ H1 fp))
  (he: ∀C s₂ H1 fp,PE (yB X sc T idx C s₂ H1 fp) elt (te C s₂ H1 fp))
  (hs: ∀x,foldedSetIterable iter X.env x=pure x:=by intro _;rfl)
  {pins:List (Addr×Obj)} {s:Shared} {σ:St} {H:Hp} {Q:VK} {use:Value→Sem Unit} {Q':Value→Shared→Prop} (I:Inv X pins σ H s) (h:yDO wi g tc te T.length idx σ H Q)
  (fin: ∀(D C:Addr)(s4:Shared)(H':Hp),Inv X pins σ H' s4→zGU X pins H' C→(∃m,s4.heap.Ns C m)→Q (.ref D) H'→
   wpAny (model X.prog X.w) X.A (use (.ref D)) (fun _ s''=> ∃m,s''.heap.Ns C m∧ ∀h',Heap.SameBut C s''.heap h'→Q' .none {s'' with heap:=h'}) X.xe s4):
  wpAny (model X.prog X.w) X.A (comprehension (.ListComp elt [⟨tg,iter,ifs,0⟩] sc pos) sc X.env (firstIterPos [⟨tg,iter,ifs,0⟩] pos) (newList []) false (eval iter X.env) (some use)) Q' X.xe s:=by
 have cf:=zZI hB
 refine wpAny_comprehension_free (use:=some use) (cl:=zAM X.env sc.names []) rfl hs (zGJ (zNG I cf)) cf.kind cf.locs ?_
 refine thn (hi pins s σ H _ I h) fun v s1 h1=>thn h1 fun itv s2 h2=>?_
 obtain⟨it,fp,tn,J,H2,e,I2,Tn,st2,f2,W,⟨m0,w0⟩,turn⟩:=h2
 subst e
 have hlt: ∀b∈fp,b<s2.heap.objs.size:=fun b hb=>let ⟨o,e,_⟩:=Tn.obj _ _ st2 b hb;Heap.lt_size e
 refine wpAny_newObj_type (wpAny_newFunctionEnv cf.nocell (by intro y hy;simp at hy) (fun h₁ hns₁ hsb₁=>?_) cf.kind)
 dsimp only at hns₁ hsb₁ ⊢
 generalize hH2:s2.heap.push {cls:=.type "list",dict:=none,data:=.seq ([]:List Value).toArray}=HH at hns₁ hsb₁ ⊢
 have hC:HH.objs.size=s2.heap.objs.size+1:=by rw [←hH2,Heap.size_push]
 have hDC:s2.heap.objs.size≠HH.objs.size:=by rw [hC];exact Nat.ne_of_lt (Nat.lt_succ_self _)
 have hCle:s2.heap.objs.size≤HH.objs.size:=by rw [hC];exact Nat.le_succ _
 have old: ∀b o,s2.heap.get? b=some o→h₁.get? b=some o:=fun b o e=>hsb₁.extBut b o (by rw [hC];exact Nat.ne_of_lt (Nat.lt_succ_of_lt (Heap.lt_size e))) (Heap.get?_push_of_some _ (hH2▸Heap.get?_push_of_some _ e))
 have eD0:h₁.get? s2.heap.objs.size=some {cls:=.type "list",data:=.seq ([]:List Value).toArray 0}:=hsb₁.extBut _ _ hDC (Heap.get?_push_of_some _ (hH2▸Heap.get?_push_size _ rfl))
 have nD0:H2 s2.heap.objs.size=none:=I2.hok.fresh (Nat.le_refl _)
 have cD: ∀x c,(zAM X.env sc.names []).lookup x=some c→c≠s2.heap.objs.size:=fun x c e=>by
  obtain⟨v,q⟩:=I2.cell x c (kO I2 cf e)
  exact Nat.ne_of_lt q.lt
 have loop: ∀s4:Shared,s4={s2 with heap:=h₁,toks:=s2.toks+([]:List (Str×Value)).length}→
   codeAny (model X.prog X.w) X.A (.compLoop (.ListComp elt [⟨tg,iter,ifs,0⟩] sc pos) 0 (.ref it) (.ref s2.heap.objs.size) (compEnvC sc (zAM X.env sc.names []) HH.objs.size X.env))
    (compPost (model X.prog X.w) X.A X.xe (some use) Q' (.ref s2.heap.objs.size) HH.objs.size) s4:=by
  rintro s4 rfl
  have J0:Inv (yB X sc T idx HH.objs.size s2 H2 fp) [] (T.map (fun _=>none)++zEH σ idx) H2 {s2 with heap:=h₁,toks:=s2.toks+([]:List (Str×Value)).length}:=
   zNH I2 cf hCle f2 hlt old rfl rfl hns₁
  refine zIC (fun k s'=> ∃(i:Nat)(ys:List V)(its:List Value)(n:Nat)(H':Hp)(τ:St),Inv (yB X sc T idx HH.objs.size s2 H2 fp) [] (τ++zEH σ idx) H' s'∧τ.length=T.length∧tn i s'.heap∧(∀b∈fp,H' b=none)∧
   s'.heap.get? s2.heap.objs.size=some {cls:=.type "list",data:=.seq its.toArray n}∧H' s2.heap.objs.size=none∧Vals ys its∧W i k ys H') ?_ m0
   ⟨0,[],[],0,H2,T.map (fun _=>none),J0,by rw [List.length_map],Tn.keep _ _ _ st2 fun b _ o e=>old b o e,fun b hb=>(f2 b hb).1,eD0,nD0,.nil,w0⟩
  rintro k s3 ⟨i,ys,its,n,H3,τ,I3,hτ,st3,fr3,eD3,nD3,r3,w3⟩
  obtain⟨hz,alt⟩:=turn i k ys H3 w3
  have hDfs:s2.heap.objs.size∉(yB X sc T idx HH.objs.size s2 H2 fp).fs:=fun z=>by
   obtain⟨_,o,ho,_⟩:=I2.stack.mem (show s2.heap.objs.size∈frs X.stack from z)
   exact absurd (Heap.lt_size ho) (Nat.lt_irrefl _)
  have pinD: ∀{H':Hp}{s':Shared},s'.heap.get? s2.heap.objs.size=some {cls:=.type "list",data:=.seq its.toArray n}→H' s2.heap.objs.size=none→
    ∀p∈[(s2.heap.objs.size,({cls:=.type "list",data:=.seq its.toArray n}:Obj))],s'.heap.get? p.1=some p.2∧H' p.1=none∧p.1≠(yB X sc T idx HH.objs.size s2 H2 fp).env.locals∧p.1∉(yB X sc T idx HH.objs.size s2 H2 fp).fs∧ ∀v,p.2.data≠.cell v:=
   fun {H' s'} e1 e2 p hp=>by
    have ep:p=(s2.heap.objs.size,{cls:=.type "list",data:=.seq its.toArray n}):=by simpa using hp
    subst ep
    exact⟨e1,e2,hDC,hDfs,fun v z=>by cases z⟩
  have P3:Inv (yB X sc T idx HH.objs.size s2 H2 fp) [(s2.heap.objs.size,{cls:=.type "list",data:=.seq its.toArray n})] (τ++zEH σ idx) H3 s3:=I3.pins_of (pinD eD3 nD3)
  have stat: ∀{H':Hp},(∀b∈fp,H' b=none)→ ∀b∈fp,zGU (yB X sc T idx HH.objs.size s2 H2 fp) [(s2.heap.objs.size,{cls:=.type "list",data:=.seq its.toArray n})] H' b:=fun {H'} hn b hb=>by
   have hb2:=hlt b hb
   refine⟨hn b hb,Nat.ne_of_lt (Nat.lt_of_lt_of_le hb2 hCle),I3.ok.exfs b hb,.inl hb,fun x c e=>(f2 b hb).2.2.2.2.1 x c (kO I2 cf e),fun p hp=>?_⟩
   have ep:p=(s2.heap.objs.size,({cls:=.type "list",data:=.seq its.toArray n}:Obj)):=by simpa [yB]using hp
   subst ep
   exact Nat.ne_of_gt hb2
  rcases alt with⟨stop,q⟩ | ⟨go,hl2,step⟩
  ·refine thn (Tn.done (yB X sc T idx HH.objs.size s2 H2 fp) rfl rfl rfl hcalm i _ s3 _ H3 (fun _ _=>False) P3 (stat fr3) st3 stop) fun r s4 ⟨hr,I4⟩=>?_
   subst hr
   obtain⟨m,hn,_⟩:=id I4.loc
   have eD4:=(I4.pin (s2.heap.objs.size,{cls:=.type "list",data:=.seq its.toArray n}) (by simp)).1
   have J4:=zNI I2 hCle f2 (I4.pins_of (fun p hp=>nomatch hp)) (Heap.SameBut.refl _ _) (Nat.le_refl _) hDC eD4 nD3 r3 hz
   exact fin _ _ s4 _ J4 (I2.fpOk hCle (by rw [zP (Ne.symm hDC)];exact I4.free)) ⟨m,hn⟩ (q _ nD3)
  ·refine thn (Tn.item (yB X sc T idx HH.objs.size s2 H2 fp) rfl rfl rfl hcalm i _ s3 _ H3 (fun _ _=>False) P3 (stat fr3) st3 go) fun r s4 ⟨u,hr,h4⟩=>?_
   subst hr
   refine thn h4 fun _ s5 ⟨x,H5,I5,r5,y5,st5,fr5⟩=>?_
   have I5':=I5.pinned (stat fr5) (Tn.obj _ _ st5)
   refine thn (hg HH.objs.size s2 H2 fp _ s5 _ H5 x u _ I5' r5 (step x H5 y5 τ hτ)) fun _ s6 ⟨σ6,H6,I6,⟨τ',e6,l6⟩,q6⟩=>?_
   subst e6
   refine thn (hc HH.objs.size s2 H2 fp _ s6 _ H6 _ I6 (q6 HH.objs.size s2 fp)) fun ok s7 ⟨H7,I7,q7⟩=>?_
   have mD:(s2.heap.objs.size,({cls:=.type "list",data:=.seq its.toArray n}:Obj))∈(yB X sc T idx HH.objs.size s2 H2 fp).pn++([(s2.heap.objs.size,{cls:=.type "list",data:=.seq its.toArray n})]++zEF fp s5.heap):=
    List.mem_append_right _ (List.mem_append_left _ (by simp))
   have mF: ∀b∈fp, ∀o,s5.heap.get? b=some o→(b,o)∈(yB X sc T idx HH.objs.size s2 H2 fp).pn++([(s2.heap.objs.size,{cls:=.type "list",data:=.seq its.toArray n})]++zEF fp s5.heap):=fun b hb o e=>
    List.mem_append_right _ (List.mem_append_right _ (zCE hb e))
   cases ok with
   | false=>
    rw [if_neg Bool.false_ne_true]at q7 ⊢
    obtain⟨m',hm',w7⟩:=q7
    refine⟨m',hm',i+1,ys,its,n,H7,τ',I7.pins_of (fun p hp=>nomatch hp),l6,Tn.keep _ _ _ st5 fun b hb o e=>(I7.pin _ (mF b hb o e)).1,fun b hb=>?_,(I7.pin _ mD).1,(I7.pin _ mD).2.1,r3,w7⟩
    obtain⟨o,e,d⟩:=Tn.obj _ _ st5 b hb
    exact(I7.pin _ (mF b hb o e)).2.1
   | true=>
    rw [if_pos rfl]at q7 ⊢
    refine thn (he HH.objs.size s2 H2 fp _ s7 _ H7 _ I7 q7) fun y s8 ⟨yv,H8,I8,r8,m',hm',w8⟩=>?_
    have eD8:=(I8.pin _ mD).1
    have nD8:=(I8.pin _ mD).2.1
    have hl:=r3.length
    have q:=PySem.IsL.update eD8 (fun z=>z.push y)
    rw [show its.toArray.push y=(its++[y]).toArray by simp]at q
    refine call_meets PySem.F.slot_list_append ⟨_,eD8,rfl⟩ PySem.F.entry_list_append (PySem.F.args_list_append_2 _ _) (PySem.list_append s2.heap.objs.size its.toArray n y (by rw [List.size_toArray];omega)) ⟨eD8,?_⟩
    have I9:Inv (yB X sc T idx HH.objs.size s2 H2 fp) [] (τ'++zEH σ idx) H8 s8:=I8.pins_of (fun p hp=>nomatch hp)
    have up: ∀b o,b≠s2.heap.objs.size→s8.heap.get? b=some o→(s8.heap.update s2.heap.objs.size (Obj.mapSeq fun z=>z.push y)).get? b=some o:=fun b o hb e=>(Heap.get?_update_other s8.heap _ (Ne.symm hb)).trans e
    refine⟨m',hm',i+1,ys++[yv],its++[y],_,H8,τ',I9.turned (t':=s8.toks) up nD8 hDC (.inr (Nat.le_refl _)) cD (fun p hp=>nomatch hp),l6,?_,fun b hb=>?_,q,nD8,r3.append (.cons r8 .nil),w8⟩
    ·exact Tn.keep _ _ _ st5 fun b hb o e=>up b o (Nat.ne_of_lt (hlt b hb)) (I8.pin _ (mF b hb o e)).1
    ·obtain⟨o,e,d⟩:=Tn.obj _ _ st5 b hb
     exact(I8.pin _ (mF b hb o e)).2.1
 exact codeAny_compStart_list (loop _ rfl) (Tn.self X.A 0 _ _ _ (Tn.keep _ _ _ st2 fun b _ o e=>old b o e) (loop _ rfl))
def PU(X:Cx)(e:Expr)(t:TE):Prop:= ∀(i:Nat)(x:Str)(pos' pos:Pos),X.N.Nodup→X.N[i]? =some x→Loc X.env.scope x→(X.fn x=true∨X.env.scope.names.lookup x=some .local)→
 swapsWith e (some (.Name x pos')) pos.line X.env=pure true→PS X (.Assign [.Name x pos'] e pos) (tAsg t (yDB i))
theorem yHQ{elt tg iter:Expr}{ifs:List Expr}{pos:Pos}{sc:Scope}{wi:TI}{g:TG}{tc:Addr→Shared→Hp→List Addr→TT}{te:Addr→Shared→Hp→List Addr→TE}(T:List Str)(idx:List Nat)
  (hi:PI X tg iter wi) (hcalm:X.calm=true) (hB:zNF X.env.scope X.N sc idx=true)
  (hg: ∀C s₂ H1 fp,PG (yB X sc T idx C s₂ H1 fp) tg g)
  (hc: ∀C s₂ H1 fp,yBL (yB X sc T idx C s₂ H1 fp) ifs (tc C s₂ H1 fp))
  (he: ∀C s₂ H1 fp,PE (yB X sc T idx C s₂ H1 fp) elt (te C s₂ H1 fp))
  (hs: ∀x,foldedSetIterable iter X.env x=pure x:=by intro _;rfl):
  PU X (.ListComp elt [⟨tg,iter,ifs,0⟩] sc pos) (yDO wi g tc te T.length idx):=by
 intro i x pos' spos hN hix hx hf hsw pins s σ H D I h
 rw [exec_Assign_Name_used _ _ _ _ hsw]
 refine wpAny_bind (wpAny_standAt (wpAny_bind ?_))
 rw [arm_evalThenUse_ListComp]
 refine wpAny_bind (thn (yDR T idx hi hcalm hB hg hc he hs (use:=assign (.Name x pos') X.env) (Q':=fun _ s'=> ∃σ' H',Inv X pins σ' H' s'∧D.nx σ' H') I h fun Dd C s4 H' I4 fo hm q=>?_) fun _ s' hq=>wpAny_pure (wpAny_pure hq))
 refine wpAny_assign_Name (zQG I4 hN hix hx (show RelV (.ref Dd) (.ref Dd)from rfl) (fun s' I' ⟨a,hs',ha⟩=>?_) hf)
 obtain⟨m,hm⟩:=hm
 have hCa:C≠a:=by
  rintro rfl
  rcases ha with ha | ha
  ·exact fo.2.1 ha
  ·exact fo.2.2.2.2.1 x _ ha rfl
 refine⟨m,hm.sameBut hs' hCa,fun h' hs''=>⟨_,H',?_,q⟩⟩
 exact I'.turned (t':=s'.toks) (fun b o hb e=>(hs''.2 b hb).trans e) fo.1 fo.2.1 fo.2.2.2.1 fo.2.2.2.2.1 fo.2.2.2.2.2
end
end L2
namespace L2
namespace M
open PySem PySem.Spec PyProof.Rows
theorem yLV{A:Around}{s:Shared}{y x:V}{u v:Value}(ry:RelV y u)(rx:RelV x v)(fy:kI y=true)(fx:kI x=true):SeqAt.RcAt A s u v (eqV y x):=by
 cases y with
 | non=>
  cases ry
  cases x with
  | non=>cases rx;exact SeqAt.RcAt.none_none
  | bl b=>cases rx;exact SeqAt.RcAt.none_bool b
  | int b=>obtain⟨t,rfl⟩:=rx;exact SeqAt.RcAt.none_int b t
  | str b=>obtain⟨t,rfl⟩:=rx;exact SeqAt.RcAt.none_str b t
  | _=>exact absurd (show false=true from fx) Bool.false_ne_true
 | bl a=>
  cases ry
  cases x with
  | non=>cases rx;exact SeqAt.RcAt.bool_none a
  | bl b=>cases rx;exact SeqAt.RcAt.bool_bool a b
  | int b=>obtain⟨t,rfl⟩:=rx;exact SeqAt.RcAt.bool_int a b t
  | str b=>obtain⟨t,rfl⟩:=rx;exact SeqAt.RcAt.bool_str a b t
  | _=>exact absurd (show false=true from fx) Bool.false_ne_true
 | int a=>
  obtain⟨t',rfl⟩:=ry
  cases x with
  | non=>cases rx;exact SeqAt.RcAt.int_none a t'
  | bl b=>cases rx;exact SeqAt.RcAt.int_bool a t' b
  | int b=>obtain⟨t,rfl⟩:=rx;exact SeqAt.RcAt.int_int a t' b t
  | str b=>obtain⟨t,rfl⟩:=rx;exact SeqAt.RcAt.int_str a t' b t
  | _=>exact absurd (show false=true from fx) Bool.false_ne_true
 | str a=>
  obtain⟨t',rfl⟩:=ry
  cases x with
  | non=>cases rx;exact SeqAt.RcAt.str_none a t'
  | bl b=>cases rx;exact SeqAt.RcAt.str_bool a t' b
  | int b=>obtain⟨t,rfl⟩:=rx;exact SeqAt.RcAt.str_int a t' b t
  | str b=>obtain⟨t,rfl⟩:=rx;exact SeqAt.RcAt.str_str a t' b t
  | _=>exact absurd (show false=true from fx) Bool.false_ne_true
 | _=>exact absurd (show false=true from fy) Bool.false_ne_true
theorem yLW{A:Around}{s:Shared}{y x:V}{u v:Value}(ry:RelV y u)(rx:RelV x v)(fy:kI y=true)(fx:kI x=true):SeqAt.RcNeAt A s u v (!eqV y x):=by
 cases y with
 | non=>
  cases ry
  cases x with
  | non=>cases rx;exact SeqAt.RcNeAt.none_none
  | bl b=>cases rx;exact SeqAt.RcNeAt.none_bool b
  | int b=>obtain⟨t,rfl⟩:=rx;exact SeqAt.RcNeAt.none_int b t
  | str b=>obtain⟨t,rfl⟩:=rx;exact SeqAt.RcNeAt.none_str b t
  | _=>exact absurd (show false=true from fx) Bool.false_ne_true
 | bl a=>
  cases ry
  cases x with
  | non=>cases rx;exact SeqAt.RcNeAt.bool_none a
  | bl b=>cases rx;exact SeqAt.RcNeAt.bool_bool a b
  | int b=>obtain⟨t,rfl⟩:=rx;exact SeqAt.RcNeAt.bool_int a b t
  | str b=>obtain⟨t,rfl⟩:=rx;exact SeqAt.RcNeAt.bool_str a b t
  | _=>exact absurd (show false=true from fx) Bool.false_ne_true
 | int a=>
  obtain⟨t',rfl⟩:=ry
  cases x with
  | non=>cases rx;exact SeqAt.RcNeAt.int_none a t'
  | bl b=>cases rx;exact SeqAt.RcNeAt.int_bool a t' b
  | int b=>obtain⟨t,rfl⟩:=rx;exact SeqAt.RcNeAt.int_int a t' b t
  | str b=>obtain⟨t,rfl⟩:=rx;exact SeqAt.RcNeAt.int_str a t' b t
  | _=>exact absurd (show false=true from fx) Bool.false_ne_true
 | str a=>
  obtain⟨t',rfl⟩:=ry
  cases x with
  | non=>cases rx;exact SeqAt.RcNeAt.str_none a t'
  | bl b=>cases rx;exact SeqAt.RcNeAt.str_bool a t' b
  | int b=>obtain⟨t,rfl⟩:=rx;exact SeqAt.RcNeAt.str_int a t' b t
  | str b=>obtain⟨t,rfl⟩:=rx;exact SeqAt.RcNeAt.str_str a t' b t
  | _=>exact absurd (show false=true from fx) Bool.false_ne_true
 | _=>exact absurd (show false=true from fy) Bool.false_ne_true
theorem eq_ll{A:Around}{s:Shared}{x:V}{v:Value}{l:Addr}{items:Array Value}(rx:RelV x v)(fx:kI x=true)(hl:s.heap.IsList l items)(hu:A.units<cLine):SeqAt.EqAt A s (.ref l) v false:=by
 cases x with
 | non=>cases rx;exact SeqAt.EqAt.list_none hl hu
 | bl b=>cases rx;exact SeqAt.EqAt.list_bool b hl hu
 | int b=>obtain⟨t,rfl⟩:=rx;exact SeqAt.EqAt.list_int b t hl hu
 | str b=>obtain⟨t,rfl⟩:=rx;exact SeqAt.EqAt.list_str b t hl hu
 | _=>exact absurd (show false=true from fx) Bool.false_ne_true
theorem eq_lr{A:Around}{s:Shared}{x:V}{v:Value}{l:Addr}{items:Array Value}(rx:RelV x v)(fx:kI x=true)(hl:s.heap.IsList l items)(hu:A.units<cLine):SeqAt.EqAt A s v (.ref l) false:=by
 cases x with
 | non=>cases rx;exact SeqAt.EqAt.none_list hl hu
 | bl b=>cases rx;exact SeqAt.EqAt.bool_list b hl hu
 | int b=>obtain⟨t,rfl⟩:=rx;exact SeqAt.EqAt.int_list b t hl hu
 | str b=>obtain⟨t,rfl⟩:=rx;exact SeqAt.EqAt.str_list b t hl hu
 | _=>exact absurd (show false=true from fx) Bool.false_ne_true
theorem yJX{A:Around}{s:Shared}{x:V}{v:Value}{l:Addr}{items:Array Value}(rx:RelV x v)(fx:kI x=true)(hl:s.heap.IsTuple l items)(hu:A.units<cLine):SeqAt.EqAt A s (.ref l) v false:=by
 cases x with
 | non=>cases rx;exact SeqAt.EqAt.tuple_none hl hu
 | bl b=>cases rx;exact SeqAt.EqAt.tuple_bool b hl hu
 | int b=>obtain⟨t,rfl⟩:=rx;exact SeqAt.EqAt.tuple_int b t hl hu
 | str b=>obtain⟨t,rfl⟩:=rx;exact SeqAt.EqAt.tuple_str b t hl hu
 | _=>exact absurd (show false=true from fx) Bool.false_ne_true
theorem yJY{A:Around}{s:Shared}{x:V}{v:Value}{l:Addr}{items:Array Value}(rx:RelV x v)(fx:kI x=true)(hl:s.heap.IsTuple l items)(hu:A.units<cLine):SeqAt.EqAt A s v (.ref l) false:=by
 cases x with
 | non=>cases rx;exact SeqAt.EqAt.none_tuple hl hu
 | bl b=>cases rx;exact SeqAt.EqAt.bool_tuple b hl hu
 | int b=>obtain⟨t,rfl⟩:=rx;exact SeqAt.EqAt.int_tuple b t hl hu
 | str b=>obtain⟨t,rfl⟩:=rx;exact SeqAt.EqAt.str_tuple b t hl hu
 | _=>exact absurd (show false=true from fx) Bool.false_ne_true
theorem rc_ll{A:Around}{s:Shared}{x:V}{v:Value}{l:Addr}{items:Array Value}(rx:RelV x v)(fx:kI x=true)(hl:s.heap.IsList l items)(hu:A.units<cLine):SeqAt.RcAt A s (.ref l) v false:=by
 cases x with
 | non=>cases rx;exact SeqAt.RcAt.list_none hl hu
 | bl b=>cases rx;exact SeqAt.RcAt.list_bool b hl hu
 | int b=>obtain⟨t,rfl⟩:=rx;exact SeqAt.RcAt.list_int b t hl hu
 | str b=>obtain⟨t,rfl⟩:=rx;exact SeqAt.RcAt.list_str b t hl hu
 | _=>exact absurd (show false=true from fx) Bool.false_ne_true
theorem rc_lr{A:Around}{s:Shared}{x:V}{v:Value}{l:Addr}{items:Array Value}(rx:RelV x v)(fx:kI x=true)(hl:s.heap.IsList l items)(hu:A.units<cLine):SeqAt.RcAt A s v (.ref l) false:=by
 cases x with
 | non=>cases rx;exact SeqAt.RcAt.none_list hl hu
 | bl b=>cases rx;exact SeqAt.RcAt.bool_list b hl hu
 | int b=>obtain⟨t,rfl⟩:=rx;exact SeqAt.RcAt.int_list b t hl hu
 | str b=>obtain⟨t,rfl⟩:=rx;exact SeqAt.RcAt.str_list b t hl hu
 | _=>exact absurd (show false=true from fx) Bool.false_ne_true
theorem rc_tl{A:Around}{s:Shared}{x:V}{v:Value}{l:Addr}{items:Array Value}(rx:RelV x v)(fx:kI x=true)(hl:s.heap.IsTuple l items)(hu:A.units<cLine):SeqAt.RcAt A s (.ref l) v false:=by
 cases x with
 | non=>cases rx;exact SeqAt.RcAt.tuple_none hl hu
 | bl b=>cases rx;exact SeqAt.RcAt.tuple_bool b hl hu
 | int b=>obtain⟨t,rfl⟩:=rx;exact SeqAt.RcAt.tuple_int b t hl hu
 | str b=>obtain⟨t,rfl⟩:=rx;exact SeqAt.RcAt.tuple_str b t hl hu
 | _=>exact absurd (show false=true from fx) Bool.false_ne_true
theorem rc_tr{A:Around}{s:Shared}{x:V}{v:Value}{l:Addr}{items:Array Value}(rx:RelV x v)(fx:kI x=true)(hl:s.heap.IsTuple l items)(hu:A.units<cLine):SeqAt.RcAt A s v (.ref l) false:=by
 cases x with
 | non=>cases rx;exact SeqAt.RcAt.none_tuple hl hu
 | bl b=>cases rx;exact SeqAt.RcAt.bool_tuple b hl hu
 | int b=>obtain⟨t,rfl⟩:=rx;exact SeqAt.RcAt.int_tuple b t hl hu
 | str b=>obtain⟨t,rfl⟩:=rx;exact SeqAt.RcAt.str_tuple b t hl hu
 | _=>exact absurd (show false=true from fx) Bool.false_ne_true
theorem rn_ll{A:Around}{s:Shared}{x:V}{v:Value}{l:Addr}{items:Array Value}(rx:RelV x v)(fx:kI x=true)(hl:s.heap.IsList l items)(hu:A.units<cLine):SeqAt.RcNeAt A s (.ref l) v true:=by
 cases x with
 | non=>cases rx;exact SeqAt.RcNeAt.list_none hl hu
 | bl b=>cases rx;exact SeqAt.RcNeAt.list_bool b hl hu
 | int b=>obtain⟨t,rfl⟩:=rx;exact SeqAt.RcNeAt.list_int b t hl hu
 | str b=>obtain⟨t,rfl⟩:=rx;exact SeqAt.RcNeAt.list_str b t hl hu
 | _=>exact absurd (show false=true from fx) Bool.false_ne_true
theorem rn_lr{A:Around}{s:Shared}{x:V}{v:Value}{l:Addr}{items:Array Value}(rx:RelV x v)(fx:kI x=true)(hl:s.heap.IsList l items)(hu:A.units<cLine):SeqAt.RcNeAt A s v (.ref l) true:=by
 cases x with
 | non=>cases rx;exact SeqAt.RcNeAt.none_list hl hu
 | bl b=>cases rx;exact SeqAt.RcNeAt.bool_list b hl hu
 | int b=>obtain⟨t,rfl⟩:=rx;exact SeqAt.RcNeAt.int_list b t hl hu
 | str b=>obtain⟨t,rfl⟩:=rx;exact SeqAt.RcNeAt.str_list b t hl hu
 | _=>exact absurd (show false=true from fx) Bool.false_ne_true
theorem rn_tl{A:Around}{s:Shared}{x:V}{v:Value}{l:Addr}{items:Array Value}(rx:RelV x v)(fx:kI x=true)(hl:s.heap.IsTuple l items)(hu:A.units<cLine):SeqAt.RcNeAt A s (.ref l) v true:=by
 cases x with
 | non=>cases rx;exact SeqAt.RcNeAt.tuple_none hl hu
 | bl b=>cases rx;exact SeqAt.RcNeAt.tuple_bool b hl hu
 | int b=>obtain⟨t,rfl⟩:=rx;exact SeqAt.RcNeAt.tuple_int b t hl hu
 | str b=>obtain⟨t,rfl⟩:=rx;exact SeqAt.RcNeAt.tuple_str b t hl hu
 | _=>exact absurd (show false=true from fx) Bool.false_ne_true
theorem rn_tr{A:Around}{s:Shared}{x:V}{v:Value}{l:Addr}{items:Array Value}(rx:RelV x v)(fx:kI x=true)(hl:s.heap.IsTuple l items)(hu:A.units<cLine):SeqAt.RcNeAt A s v (.ref l) true:=by
 cases x with
 | non=>cases rx;exact SeqAt.RcNeAt.none_tuple hl hu
 | bl b=>cases rx;exact SeqAt.RcNeAt.bool_tuple b hl hu
 | int b=>obtain⟨t,rfl⟩:=rx;exact SeqAt.RcNeAt.int_tuple b t hl hu
 | str b=>obtain⟨t,rfl⟩:=rx;exact SeqAt.RcNeAt.str_tuple b t hl hu
 | _=>exact absurd (show false=true from fx) Bool.false_ne_true
theorem yDS{y:V}(h:kI y=true):eqV y y=true:=by
 cases y<;>first | rfl | (simp [eqV];done) | exact absurd (show false=true from h) Bool.false_ne_true
inductive NK where
 | key (k:Key) | tup (ks:List NK)
noncomputable instance:DecidableEq NK:=fun _ _=>Classical.propDecidable _
section
variable{prog:Program}{w:World}(knd:KeyKind prog w Key)
mutual
def isN(h:Heap):NK→Value→Prop
 | .key k,v=>knd.is k v=true
 | .tup ks,v=> ∃a o items n,v=.ref a∧h.get? a=some o∧o.cls=.type "tuple"∧o.data=.seq items n∧zEI h ks items.toList
def zEI(h:Heap):List NK→List Value→Prop
 | [],vs=>vs=[]
 | k::ks,vs=> ∃v r,vs=v::r∧isN h k v∧zEI h ks r
end
mutual
def zEJ:NK→Int
 | .key k=>knd.hash k
 | .tup ks=>reduceHash (Builtin.Tuple.tupleHashOf (zNK ks))
def zNK:List NK→List Int
 | []=>[]
 | k::ks=>zEJ k::zNK ks
end
mutual
def zNL:NK→Nat
 | .key _=>1
 | .tup ks=>gY ks+1
def gY:List NK→Nat
 | []=>0
 | k::ks=>zNL k+gY ks
end
mutual
def zAJ:NK→Nat
 | .key _=>0
 | .tup ks=>zGK ks+1
def zGK:List NK→Nat
 | []=>0
 | k::ks=>max (zAJ k) (zGK ks)
end
variable{knd}
theorem kW{h:Heap}{k:Key}{v:Value}:isN knd h (.key k) v↔knd.is k v=true:=by unfold isN;exact Iff.rfl
theorem wQ{h:Heap}{ks:List NK}{v:Value}:isN knd h (.tup ks) v↔ ∃a o items n,v=.ref a∧h.get? a=some o∧o.cls=.type "tuple"∧o.data=.seq items n∧zEI knd h ks items.toList:=by
 conv=>lhs;unfold isN
theorem kJ{h:Heap}{vs:List Value}:zEI knd h [] vs↔vs=[]:=by unfold zEI;exact Iff.rfl
theorem xA{h:Heap}{k:NK}{ks:List NK}{vs:List Value}:zEI knd h (k::ks) vs↔ ∃v r,vs=v::r∧isN knd h k v∧zEI knd h ks r:=by
 conv=>lhs;unfold zEI
mutual
theorem zRV{h:Heap}: ∀{x y:NK}{v:Value},isN knd h x v→isN knd h y v→x=y
 | .key k,.key k',v,hx,hy=>by rw [knd.inj v k k' (kW.mp hx) (kW.mp hy)]
 | .key k,.tup ks,v,hx,hy=>by
  obtain⟨a,o,items,n,rfl,_⟩:=wQ.mp hy
  have:=knd.byValue _ _ (kW.mp hx)
  simp [carriedByValue]at this
 | .tup ks,.key k,v,hx,hy=>by
  obtain⟨a,o,items,n,rfl,_⟩:=wQ.mp hx
  have:=knd.byValue _ _ (kW.mp hy)
  simp [carriedByValue]at this
 | .tup ks,.tup ks',v,hx,hy=>by
  obtain⟨a,o,items,n,e,ho,_,hd,hi⟩:=wQ.mp hx
  obtain⟨a',o',items',n',e',ho',_,hd',hi'⟩:=wQ.mp hy
  rw [e]at e'
  cases e'
  obtain rfl:o=o':=Option.some.inj (ho.symm.trans ho')
  rw [hd]at hd'
  injection hd' with h1 _
  subst h1
  rw [zUH hi hi']
theorem zUH{h:Heap}: ∀{xs ys:List NK}{vs:List Value},zEI knd h xs vs→zEI knd h ys vs→xs=ys
 | [],[],_,_,_=>rfl
 | [],y::ys,vs,hx,hy=>by
  obtain⟨v,r,e,_⟩:=xA.mp hy
  rw [kJ.mp hx]at e;cases e
 | x::xs,[],vs,hx,hy=>by
  obtain⟨v,r,e,_⟩:=xA.mp hx
  rw [kJ.mp hy]at e;cases e
 | x::xs,y::ys,vs,hx,hy=>by
  obtain⟨v,r,e,h1,h2⟩:=xA.mp hx
  obtain⟨v',r',e',h1',h2'⟩:=xA.mp hy
  rw [e]at e'
  cases e'
  rw [zRV h1 h1',zUH h2 h2']
end
mutual
theorem zUI{h h':Heap}(m: ∀a o items n,h.get? a=some o→o.data=.seq items n→h'.get? a=some o): ∀{x:NK}{v:Value},isN knd h x v→isN knd h' x v
 | .key k,v,hx=>kW.mpr (kW.mp hx)
 | .tup ks,v,hx=>by
  obtain⟨a,o,items,n,e,ho,hc,hd,hi⟩:=wQ.mp hx
  exact wQ.mpr ⟨a,o,items,n,e,m a o items n ho hd,hc,hd,zQO m hi⟩
theorem zQO{h h':Heap}(m: ∀a o items n,h.get? a=some o→o.data=.seq items n→h'.get? a=some o): ∀{xs:List NK}{vs:List Value},zEI knd h xs vs→zEI knd h' xs vs
 | [],vs,hx=>kJ.mpr (kJ.mp hx)
 | x::xs,vs,hx=>by
  obtain⟨v,r,e,h1,h2⟩:=xA.mp hx
  exact xA.mpr ⟨v,r,e,zUI m h1,zQO m h2⟩
end
theorem zNM: ∀ks:List NK,zNK knd ks=ks.map (zEJ knd)
 | []=>by unfold zNK;rfl
 | k::ks=>by unfold zNK;rw [zNM ks];rfl
theorem zGV:gY []=0:=by rw [gY]
theorem zEK(k:NK)(ks:List NK):gY (k::ks)=zNL k+gY ks:=by rw [gY]
theorem zGW(k:NK)(ks:List NK):zGK (k::ks)=max (zAJ k) (zGK ks):=by rw [zGK]
theorem dH(ks:List NK):zAJ (.tup ks)=zGK ks+1:=by rw [zAJ]
theorem zGL: ∀(xs ys:List NK),gY (xs++ys)=gY xs+gY ys
 | [],ys=>by rw [zGV,List.nil_append,Nat.zero_add]
 | x::xs,ys=>by rw [List.cons_append,zEK,zEK,zGL xs ys];omega
theorem zID{s:Shared}{ks:List NK}{a:Addr}(h:isN knd s.heap (.tup ks) (.ref a)):s.TypeIs (.ref a) "tuple":=by
 obtain⟨a',o,items,n,e,ho,hc,_⟩:=wQ.mp h
 cases e
 exact⟨o,ho,hc⟩
theorem zUJ: ∀(n:Nat){A:Around}{E:Value→Shared→Prop}{s:Shared}{k:NK}{v:Value}{Q:Int→Shared→Prop},zAJ k≤n→A.units+n<cLine→isN knd s.heap k v→Q (zEJ knd k) {s with toks:=s.toks+zNL k}→wpAny (model prog w) A (pyHash v) Q E s
 | n,A,E,s,.key k,v,Q,_,_,hk,h=>knd.pyHash (kW.mp hk) (by rw [zEJ,zNL]at h;exact h)
 | 0,A,E,s,.tup ks,v,Q,hd,_,_,_=>by rw [dH]at hd;omega
 | n+1,A,E,s,.tup ks,v,Q,hdep,hu,hk,h=>by
  obtain⟨a,o,items,m,rfl,ho,hc,hd,hi⟩:=wQ.mp hk
  have hT:s.TypeIs (.ref a) "tuple":=⟨o,ho,hc⟩
  rw [dH]at hdep
  have hdl: ∀k∈ks,zAJ k≤n:=by
   have: ∀ks:List NK,zGK ks≤n→ ∀k∈ks,zAJ k≤n:=by
    intro ks
    induction ks with
    | nil=>intro _ k hk;simp at hk
    | cons x xs ih=>
     intro hx k hk
     rw [zGW]at hx
     rcases List.mem_cons.mp hk with rfl | hk
     ·omega
     ·exact ih (by omega) k hk
   exact this ks (by omega)
  rw [zEJ,zNL,zNM]at h
  unfold pyHash
  first | unfold pyHashByItsType | skip
  first | refine wpAny_bind (wpAny_cRoomFor_or (.inr (show A.units<cLine by omega)) ?_) | skip
  refine wpAny_bind (wpAny_specialOf hT F.slot_tuple_hash.lookup ?_)
  show wpAny _ _ (if(some (Value.builtin "tuple.__hash__")==some Value.none)=true then _ else _) Q E s
  rw [if_neg (by rw [beq_builtin_none];exact Bool.false_ne_true)]
  refine wpAny_bind (wpAny_specialOf hT F.slot_tuple_hash.lookup ?_)
  show wpAny _ _ (callSpecialIfBoundUnlessNone? (.ref a) "__hash__" _ >>= _) Q E s
  refine wpAny_bind (wpAny_callSpecialIfBoundUnlessNone?_slot hT F.slot_tuple_hash (wpAny_call_entry F.slot_tuple_hash hT F.entry_tuple_hash ?_ (F.args_tuple_hash_1 _)))
  show wpAny _ _ (Builtin.Tuple.tupleItemsOf (.ref a) >>= _) _ _ s
  refine wpAny_bind (wpAny_tupleItemsOf ho hd ?_)
  refine wpAny_bind ?_
  rw [←Array.forIn_toList]
  refine wpAny_forIn_list _
   (fun rest (b:Array Int) s'=> ∃done left,ks=done++left∧zEI knd s.heap left rest∧b.toList=done.map (zEJ knd)∧s'={s with toks:=s.toks+gY done})
   _ ?_ ?_ _ _ ⟨[],ks,rfl,hi,rfl,by rw [zGV];rfl⟩
  ·rintro x rest b s' ⟨done,left,rfl,hl,hb,rfl⟩
   cases left with
   | nil=>rw [kJ]at hl;cases hl
   | cons k ks'=>
    obtain⟨v,r,e,h1,hl'⟩:=xA.mp hl
    cases e
    refine wpAny_bind (zUJ n (hdl k (by simp)) (show A.units+1+n<cLine by omega) h1 ?_)
    have e1:gY (done++[k])=gY done+zNL k:=by rw [zGL,zEK,zGV];rfl
    first
     | exact wpAny_pure ⟨done++[k],ks',by simp,hl',by simp [hb],by simp [Nat.add_assoc,e1]⟩
     | exact wpAny_bind (wpAny_pure (wpAny_pure ⟨done++[k],ks',by simp,hl',by simp [hb],by simp [Nat.add_assoc,e1]⟩))
  ·rintro b s' ⟨done,left,rfl,hl,hb,rfl⟩
   cases left with
   | cons k ks'=>obtain⟨v,r,e,_⟩:=xA.mp hl;cases e
   | nil=>
    rw [List.append_nil]at h
    show wpAny _ _ (retInt (Builtin.Tuple.tupleHashOf b.toList)) _ _ _
    rw [hb]
    refine wpAny_ret_mkInt ?_
    show wpAny _ _ (if(decide (-(2:Int) ^ 63≤Builtin.Tuple.tupleHashOf (done.map (zEJ knd)))&&decide (Builtin.Tuple.tupleHashOf (done.map (zEJ knd))<2 ^ 63))=true then _ else _) Q E _
    unfold reduceHash at h
    by_cases hr:(decide (-(2:Int) ^ 63≤Builtin.Tuple.tupleHashOf (done.map (zEJ knd)))&&decide (Builtin.Tuple.tupleHashOf (done.map (zEJ knd))<2 ^ 63))=true
    ·rw [if_pos hr]
     rw [if_pos hr]at h
     exact wpAny_pure (by simpa [Nat.add_assoc]using h)
    ·rw [if_neg hr]
     rw [if_neg hr]at h
     exact wpAny_bind (wpAny_rule (wpAny_pure (by simpa [Nat.add_assoc]using h)))
end
section
variable{prog:Program}{w:World}
abbrev mk(prog:Program)(w:World):KeyKind prog w Key:=zLZ prog w
theorem yHR(a b:Key):decide (NK.key a=NK.key b)=decide (a=b):=by
 by_cases h:a=b
 ·subst h;simp
 ·rw [decide_eq_false h,decide_eq_false fun z=>h (NK.key.inj z)]
theorem yLX(a:Key)(b:List NK):decide (NK.key a=NK.tup b)=false:=decide_eq_false fun z=>nomatch z
theorem yLY(a:Key)(b:List NK):decide (NK.tup b=NK.key a)=false:=decide_eq_false fun z=>nomatch z
theorem yLZ(a b:List NK):decide (NK.tup a=NK.tup b)=decide (a=b):=by
 by_cases h:a=b
 ·subst h;simp
 ·rw [decide_eq_false h,decide_eq_false fun z=>h (NK.tup.inj z)]
theorem zUK{k:Key}{v:Value}(h:(mk prog w).is k v=true): ∃x:V,RelV x v∧kI x=true:=by
 rcases xR (show zMT k v=true from h)with⟨i,t,rfl,rfl⟩ | ⟨x,t,rfl,rfl⟩
 ·exact⟨.int i,⟨t,rfl⟩,rfl⟩
 ·exact⟨.str x,⟨t,rfl⟩,rfl⟩
theorem yBO{A:Around}{E:Value→Shared→Prop}{s:Shared}{x y:List NK}{a b:Addr}{P:Fin→Shared→Prop}
  (he: ∀k1∈x, ∀k2 u v (Q:Bool→Shared→Prop),isN (mk prog w) s.heap k1 u→isN (mk prog w) s.heap k2 v→Q (decide (k1=k2)) s→wpAny (model prog w) A (eqBool u v) Q E s)
  (hx:isN (mk prog w) s.heap (.tup x) (.ref a)) (hy:isN (mk prog w) s.heap (.tup y) (.ref b)) (h:P (.done (.ret (.bool (decide (x=y))))) s):
  wpAny (model prog w) A (Builtin.«tuple.__eq__» ⟨[.ref a,.ref b],[]⟩) P E s:=by
 have hTb:=zID hy
 obtain⟨_,oa,xs,na,e,hoa,_,hda,hia⟩:=wQ.mp hx
 cases e
 obtain⟨_,ob,ys,nb,e,hob,_,hdb,hib⟩:=wQ.mp hy
 cases e
 show wpAny _ _ (isInstance (.ref b) (.type "tuple") >>= _) _ _ s
 refine wpAny_bind (wpAny_isInstance hTb isSubtype_tuple_tuple ?_)
 simp only [Bool.not_true,Bool.false_eq_true,if_false]
 refine wpAny_bind (wpAny_tupleItemsOf hoa hda ?_)
 refine wpAny_bind (wpAny_tupleItemsOf hob hdb ?_)
 refine wpAny_bind ?_
 refine wpAny_forIn_list _
  (fun rest r s'=>r.1=none∧s'=s∧ ∃x' y' xs' ys',rest=List.zip xs' ys'∧(∀k∈x',k∈x)∧zEI (mk prog w) s.heap x' xs'∧zEI (mk prog w) s.heap y' ys'∧decide (x'=y')=decide (x=y)∧(xs'.length==ys'.length)=(xs.size==ys.size))
  _ ?_ ?_ _ _ ⟨rfl,rfl,x,y,xs.toList,ys.toList,rfl,fun k hk=>hk,hia,hib,rfl,by simp⟩
 ·rintro⟨u,v⟩ rest r s' ⟨hr,rfl,x',y',xs',ys',hz,hm,hx',hy',hdec,hlen⟩
  cases x' with
  | nil=>rw [kJ.mp hx']at hz;simp at hz
  | cons k1 x''=>
   cases y' with
   | nil=>rw [kJ.mp hy']at hz;simp at hz
   | cons k2 y''=>
    obtain⟨u',xs'',rfl,h1,hx''⟩:=xA.mp hx'
    obtain⟨v',ys'',rfl,h2,hy''⟩:=xA.mp hy'
    simp only [List.zip_cons_cons,List.cons.injEq,Prod.mk.injEq]at hz
    obtain⟨⟨rfl,rfl⟩,rfl⟩:=hz
    refine wpAny_bind (he k1 (hm k1 List.mem_cons_self) k2 _ _ _ h1 h2 ?_)
    by_cases hk:k1=k2
    ·subst hk
     rw [decide_eq_true rfl]
     simp only [Bool.not_true,Bool.false_eq_true,if_false]
     refine wpAny_pure ⟨rfl,rfl,x'',y'',xs'',ys'',rfl,fun k hk=>hm k (List.mem_cons_of_mem _ hk),hx'',hy'',?_,by simpa using hlen⟩
     rw [←hdec]
     by_cases hxy:x''=y''
     ·simp [hxy]
     ·simp [hxy]
    ·rw [decide_eq_false hk]
     simp only [Bool.not_false,if_true]
     have hf:decide (x=y)=false:=by rw [←hdec];simp [hk]
     rw [hf]at h
     exact wpAny_bind (wpAny_pure (wpAny_pure (wpAny_pure h)))
 ·rintro⟨r1,r2⟩ s' ⟨hr,rfl,x',y',xs',ys',hz,hm,hx',hy',hdec,hlen⟩
  simp only at hr
  subst hr
  refine wpAny_pure ?_
  have hfin:(xs.size==ys.size)=decide (x=y):=by
   rw [←hdec, ←hlen]
   cases x' with
   | nil=>
    rw [kJ.mp hx']
    cases y' with
    | nil=>rw [kJ.mp hy'];simp
    | cons k2 y''=>obtain⟨v',ys'',rfl,h2,hy''⟩:=xA.mp hy';simp
   | cons k1 x''=>
    obtain⟨u',xs'',rfl,h1,hx''⟩:=xA.mp hx'
    cases y' with
    | nil=>rw [kJ.mp hy'];simp
    | cons k2 y''=>obtain⟨v',ys'',rfl,h2,hy''⟩:=xA.mp hy';simp at hz
  show P (.done (.ret (.bool (xs.size==ys.size)))) s'
  rw [hfin];exact h
theorem zNN{n:Nat}: ∀{ks:List NK},zGK ks≤n→ ∀k∈ks,zAJ k≤n
 | [],_,k,hk=>by simp at hk
 | x::xs,hx,k,hk=>by
  rw [zGW]at hx
  rcases List.mem_cons.mp hk with rfl | hk
  ·omega
  ·exact zNN (by omega) k hk
theorem zUL: ∀(n:Nat){A:Around}{E:Value→Shared→Prop}{s:Shared}{x y:NK}{u v:Value}{Q:Bool→Shared→Prop},zAJ x≤n→A.units+n<cLine→isN (mk prog w) s.heap x u→isN (mk prog w) s.heap y v→Q (decide (x=y)) s→wpAny (model prog w) A (eqBool u v) Q E s
 | n,A,E,s,.key a,.key b,u,v,Q,_,_,hx,hy,h=>(mk prog w).eqBool (kW.mp hx) (kW.mp hy) (by rw [yHR]at h;exact h)
 | n,A,E,s,.key a,.tup b,u,v,Q,_,hu,hx,hy,h=>by
  obtain⟨z,rz,fz⟩:=zUK (kW.mp hx)
  obtain⟨l,o,items,m,rfl,ho,hc,hd,_⟩:=wQ.mp hy
  rw [yLX]at h
  exact yJY rz fz (items:=items) ⟨o,ho,hc,m,hd⟩ (by omega) prog w E Q h
 | n,A,E,s,.tup a,.key b,u,v,Q,_,hu,hx,hy,h=>by
  obtain⟨z,rz,fz⟩:=zUK (kW.mp hy)
  obtain⟨l,o,items,m,rfl,ho,hc,hd,_⟩:=wQ.mp hx
  rw [yLY]at h
  exact yJX rz fz (items:=items) ⟨o,ho,hc,m,hd⟩ (by omega) prog w E Q h
 | 0,A,E,s,.tup a,.tup b,u,v,Q,hd,_,hx,hy,h=>by rw [dH]at hd;omega
 | n+1,A,E,s,.tup x,.tup y,u,v,Q,hd,hu,hx,hy,h=>by
  obtain⟨a,_,_,_,ea,_⟩:=wQ.mp hx
  obtain⟨b,_,_,_,eb,_⟩:=wQ.mp hy
  subst ea eb
  rw [dH]at hd
  rw [yLZ]at h
  unfold eqBool
  try with_reducible refine wpAny_holding ?_
  show wpAny _ _ (if(Value.ref a==Value.ref b)=true then _ else _) Q E s
  by_cases hab:(Value.ref a==Value.ref b)=true
  ·rw [if_pos hab]
   have e:a=b:=by have:=eq_of_beq hab;injection this
   subst e
   have:x=y:=NK.tup.inj (zRV hx hy)
   subst this
   exact wpAny_bind (wpAny_rule (wpAny_pure (by simpa using h)))
  ·rw [if_neg hab]
   refine wpAny_bind (wpAny_richCompare_same_room (op:=.Eq) (zID hx) (zID hy) F.slot_tuple_eq
    (wpAny_call_entry F.slot_tuple_eq (zID hx) F.entry_tuple_eq (yBO (fun k1 hk1 k2 u v Q h1 h2 h3=>zUL n (zNN (by omega) k1 hk1) (show A.units+1+n<cLine by omega) h1 h2 h3) hx hy ⟨_,rfl,(fun e=>nomatch e),wpAny_truthy_bool h⟩) (F.args_tuple_eq_2 _ _)) (by omega))
theorem zZJ: ∀(n m:Nat){A:Around}{E:Value→Shared→Prop}{s:Shared}{x:NK}{u:Value}{Q:Bool→Shared→Prop},zAJ x≤n→n<m→isN (mk prog w) s.heap x u→Q true s→wpAny (model prog w) A (eqIsQuiet m u) Q E s
 | n,m,A,E,s,.key k,u,Q,_,_,hx,h=>by
  rw [eqIsQuiet_byValue m ((mk prog w).byValue _ _ (kW.mp hx))]
  exact wpAny_pure h
 | 0,m,A,E,s,.tup ks,u,Q,hd,_,hx,h=>by rw [dH]at hd;omega
 | n+1,0,A,E,s,.tup ks,u,Q,hd,hm,hx,h=>by omega
 | n+1,m+1,A,E,s,.tup ks,u,Q,hdp,hm,hx,h=>by
  obtain⟨a,o,items,j,rfl,ho,hc,hd,hi⟩:=wQ.mp hx
  have hT:s.TypeIs (.ref a) "tuple":=⟨o,ho,hc⟩
  rw [dH]at hdp
  unfold eqIsQuiet
  refine wpAny_bind (wpAny_specialOf hT F.slot_tuple_eq.lookup ?_)
  show wpAny _ _ (isInstance (.ref a) (.type "tuple") >>= _) _ _ s
  refine wpAny_bind (wpAny_isInstance hT isSubtype_tuple_tuple ?_)
  simp only [Bool.not_true,Bool.false_eq_true,if_false]
  refine wpAny_bind (wpAny_seqItems ho hd ?_)
  refine wpAny_bind ?_
  show wpAny _ _ (forIn items _ _) _ _ s
  rw [←Array.forIn_toList]
  refine wpAny_forIn_list _ (fun rest r s'=>r.1=none∧s'=s∧ ∃left,(∀k∈left,k∈ks)∧zEI (mk prog w) s.heap left rest) _ ?_ ?_ _ _ ⟨rfl,rfl,ks,fun k hk=>hk,hi⟩
  ·rintro v rest r s' ⟨hr,rfl,left,hm',hl⟩
   cases left with
   | nil=>rw [kJ]at hl;cases hl
   | cons k left=>
    obtain⟨v',r',e,h1,h2⟩:=xA.mp hl
    cases e
    refine wpAny_bind (zZJ n m (zNN (by omega) k (hm' k List.mem_cons_self)) (by omega) h1 ?_)
    simp only [Bool.not_true,Bool.false_eq_true,if_false]
    exact wpAny_pure ⟨rfl,rfl,left,fun k hk=>hm' k (List.mem_cons_of_mem _ hk),h2⟩
  ·rintro⟨r1,r2⟩ s' ⟨hr,rfl,_⟩
   simp only at hr
   subst hr
   exact wpAny_pure h
end
noncomputable def zEL(prog:Program)(w:World):HeapKind prog w NK where
 is:=fun h k a=>isN (mk prog w) h k (.ref a)∧zAJ k≤4
 hash:=zEJ (mk prog w)
 draws:=zNL
 room:=fun A=>A.units+4<cLine
 inj:=fun hx hy=>zRV hx.1 hy.1
 keeps:=fun x ho hd hs=>⟨zUI (fun a o' items n e q=>(hs.2 a fun z=>by
  subst z
  rw [ho]at e;cases e
  rw [hd]at q;cases q).trans e) x.1,x.2⟩
 pyHash:=fun hu hk h=>zUJ 4 hk.2 hu hk.1 h
 eqBool:=fun hu hx hy h=>zUL 4 hx.2 hu hx.1 hy.1 h
 quiet:=fun hk h=>zZJ 4 8 hk.2 (by decide) hk.1 h
def DN(P:Program)(w:World)(a:Addr)(xs:List (NK×Addr×Value)):HO:=
 .ext fun h=>xs.length≤sizeLine∧(a==sysModules)=false∧ ∃o es ep,h.get? a=some o∧o.ExactDict∧o.data=.dict es ep∧es.toList=xs.map (entryOfKey (zEL P w))∧(xs.map (·.1)).Nodup
end M
end L2
namespace L2
open PySem PySem.Spec PyProof.Rows
def Fly(h:Heap)(e T:Addr)(cls:Value)(d:Option Addr)(fl:Value):Prop:=
 ∃oe vs oT ts,h.get? e=some oe∧oe.cls=cls∧oe.dict=d∧oe.data=.fields vs∧vs[1]? =some (.ref T)∧T≠e∧h.get? T=some oT∧oT.data=.fields ts∧ts[3]? =some fl
def Born(h:Heap)(e:Addr)(cls:Value)(d:Option Addr):Prop:= ∃oe vs,h.get? e=some oe∧oe.cls=cls∧oe.dict=d∧oe.data=.fields vs∧vs[1]? =some .none
structure Mvd(fs:List Addr)(e T:Addr)(h h':Heap):Prop where
 keep: ∀b o,b≠e→b≠T→b∉fs→h.get? b=some o→h'.get? b=some o
 slot: ∀b o,b≠e→b≠T→h.get? b=some o→ ∃sl,h'.get? b=some {o with slots:=sl}
 there: ∀b o,h.get? b=some o→ ∃o',h'.get? b=some o'
theorem Mvd.new{fs:List Addr}{e T T':Addr}{h h1 h2:Heap}(a:Mvd fs e T h h1)(n:h.get? T'=none)(b:Mvd fs e T' h1 h2):Mvd fs e T h h2:=by
 have ne: ∀c o,h.get? c=some o→c≠T':=fun c o q z=>by rw [z,n]at q;cases q
 exact⟨fun c o h1 h2 h3 q=>b.keep c o h1 (ne c o q) h3 (a.keep c o h1 h2 h3 q),fun c o h1 h2 q=>by
  obtain⟨sl,e1⟩:=a.slot c o h1 h2 q
  obtain⟨sl',e2⟩:=b.slot c _ h1 (ne c o q) e1
  exact⟨sl',e2⟩,fun c o q=>let ⟨o',e1⟩:=a.there c o q;b.there c o' e1⟩
theorem zNO(f:Array Value→Array Value)(o:Obj):(Obj.mapFields f o).dict=o.dict:=by
 obtain⟨c,d,dt,sl⟩:=o;cases dt<;>rfl
section
variable{M:Model}{A:Around}{E:Value→Shared→Prop}{s:Shared}{base:Heap}{env:Env}{outer:List Env}{L e T:Addr}{cls:Value}{d:Option Addr}{Q:Unit→Shared→Prop}
theorem yDT{oe:Obj}{vs:Array Value}{head:Value}{hadNext:Bool}(hfr:A.frames=some (env::outer))(hl:s.heap.FunFrames base (env::outer))(hf:env.frame=some L)
  (he:s.heap.get? e=some oe) (hd:oe.data=.fields vs) (hsz:1<vs.size)
  (h: ∀h' T',s.heap.get? T'=none→Mvd (frs (env::outer)) e e s.heap h'→Fly h' e T' oe.cls oe.dict (rawInt L)→Q () {s with heap:=h'}):
  wpAny M A (do let a ←frameOf env;let pl ←entryPlaceOf L hadNext;let b ←EntryCells.newEntry head a .none (rawInt L) .none pl;setField (.ref e) 1 b) Q E s:=by
 have hene:e∉(env::outer).filterMap (·.frame):=fun hm=>by
  obtain⟨_,o,ho,hnf⟩:=hl.mem hm
  rw [he]at ho;injection ho with ho;subst ho;exact hnf vs hd
 refine wpAny_bind (wpAny_frameOf_fun hfr hl hf fun h₁ hs₁=>?_)
 refine wpAny_bind (wpAny_entryPlaceOf fun pl hpl=>?_)
 unfold EntryCells.newEntry newFields
 refine wpAny_bind (wpAny_newObj_type ?_ (hpl.sizeOk5 _ _ _ _ _))
 have he₁:h₁.get? e=some oe:=(hs₁.2.1 e hene).trans he
 have he₂:=Heap.get?_push_of_some (h:=h₁) {cls:=.type "traceback",dict:=none,data:=.fields ([head,.ref L,.none,rawInt L,.none]++(if pl.isEmpty then List.replicate 6 Value.none else pl)).toArray} he₁
 refine wpAny_setField he₂ hd hsz ?_
 have hTe:h₁.objs.size≠e:=Nat.ne_of_gt (Heap.lt_size he₁)
 have hd₃:=Obj.data_mapFields hd (·.setIfInBounds 1 (Value.ref h₁.objs.size))
 have he₃:=Heap.get?_update_self (Obj.mapFields (·.setIfInBounds 1 (Value.ref h₁.objs.size))) he₂ (Obj.isFreed_of_fields hd₃)
 have hT₃:=(Heap.get?_update_other (h₁.push {cls:=.type "traceback",dict:=none,data:=.fields ([head,.ref L,.none,rawInt L,.none]++(if pl.isEmpty then List.replicate 6 Value.none else pl)).toArray})
  (Obj.mapFields (·.setIfInBounds 1 (Value.ref h₁.objs.size))) (Ne.symm hTe)).trans (Heap.get?_push_size h₁ rfl)
 have keep: ∀b o,b≠e→h₁.get? b=some o→
   ((h₁.push {cls:=.type "traceback",dict:=none,data:=.fields ([head,.ref L,.none,rawInt L,.none]++(if pl.isEmpty then List.replicate 6 Value.none else pl)).toArray}).update e (Obj.mapFields (·.setIfInBounds 1 (Value.ref h₁.objs.size)))).get? b=some o:=
  fun b o hbe hb=>by
   rw [Heap.get?_update_other _ _ (Ne.symm hbe)]
   exact Heap.get?_push_of_some _ hb
 refine h _ h₁.objs.size ?_ ⟨fun b o hbe _ hbf hb=>keep b o hbe ((hs₁.2.1 b hbf).trans hb),fun b o hbe _ hb=>?_,fun b o hb=>?_⟩ ?_
 ·cases q:s.heap.get? h₁.objs.size with
  | none=>rfl
  | some o=>
   obtain⟨sl,hs⟩:=hs₁.2.2 _ o q
   exact absurd (Heap.lt_size hs) (Nat.lt_irrefl _)
 ·obtain⟨sl,hs⟩:=hs₁.2.2 b o hb
  exact⟨sl,keep b _ hbe hs⟩
 ·by_cases hbe:b=e
  ·subst hbe;exact⟨_,he₃⟩
  ·obtain⟨sl,hs⟩:=hs₁.2.2 b o hb
   exact⟨_,keep b _ hbe hs⟩
 ·exact⟨_,_,_,_,he₃,Obj.cls_mapFields _ _,zNO _ _,hd₃,by simp [hsz],hTe,hT₃,rfl,by first | (simp;done) | (rcases hpl with rfl | ⟨_,_,_,_,_,_,_,rfl⟩<;>simp)⟩
theorem zXD(hfr:A.frames=some (env::outer))(hl:s.heap.FunFrames base (env::outer))(hf:env.frame=some L)(hb:Born s.heap e cls d)
  (h: ∀h' T',s.heap.get? T'=none→Mvd (frs (env::outer)) e e s.heap h'→Fly h' e T' cls d (rawInt L)→Q () {s with heap:=h'}):wpAny M A (noteFrame (.ref e) env) Q E s:=by
 obtain⟨oe,vs,he,rfl,rfl,hd,h1⟩:=hb
 unfold noteFrame
 simp only [hf]
 refine wpAny_bind (wpAny_field he hd h1 ?_)
 rw [if_neg (by decide)]
 exact yDT hfr hl hf he hd (Array.getElem?_eq_some_iff.mp h1).1 h
theorem setT{oT:Obj}{ts:Array Value}{x:Value}{h0:Heap}(hT:h0.get? T=some oT)(hdT:oT.data=.fields ts):Mvd (frs (env::outer)) e T h0 (h0.update T (Obj.mapFields (·.setIfInBounds 3 x))):=by
 have other: ∀b,b≠T→(h0.update T (Obj.mapFields (·.setIfInBounds 3 x))).get? b=h0.get? b:=fun b hb=>Heap.get?_update_other _ _ (Ne.symm hb)
 refine⟨fun b o _ hbT _ hb=>(other b hbT).trans hb,fun b o _ hbT hb=>⟨o.slots,(other b hbT).trans hb⟩,fun b o hb=>?_⟩
 by_cases hbT:b=T
 ·subst hbT
  exact⟨_,Heap.get?_update_self _ hT (Obj.isFreed_of_fields (Obj.data_mapFields hdT _))⟩
 ·exact⟨o,(other b hbT).trans hb⟩
theorem zQP(hfr:A.frames=some (env::outer))(hl:s.heap.FunFrames base (env::outer))(hf:env.frame=some L)(hb:Fly s.heap e T cls d .none)
  (h: ∀h' T',s.heap.get? T'=none→Mvd (frs (env::outer)) e T s.heap h'→Fly h' e T' cls d (rawInt L)→Q () {s with heap:=h'}):wpAny M A (noteFrame (.ref e) env) Q E s:=by
 obtain⟨oe,vs,oT,ts,he,rfl,rfl,hd,h1,hTe,hT,hdT,h3⟩:=hb
 unfold noteFrame
 simp only [hf]
 refine wpAny_bind (wpAny_field he hd h1 ?_)
 rw [if_pos (show(Value.ref T !=Value.none)=true from by simp)]
 refine wpAny_bind (wpAny_field hT hdT h3 ?_)
 rw [if_neg (show¬((Value.none==rawInt L)=true)from by simp [rawInt])]
 refine wpAny_bind (wpAny_setField hT hdT (Array.getElem?_eq_some_iff.mp h3).1 ?_)
 have mv:=setT (env:=env) (outer:=outer) (e:=e) (x:=Value.none) hT hdT
 have other: ∀b,b≠T→(s.heap.update T (Obj.mapFields (·.setIfInBounds 3 Value.none))).get? b=s.heap.get? b:=fun b hb=>Heap.get?_update_other _ _ (Ne.symm hb)
 have noRecord: ∀b o,s.heap.get? b=some o→(∀vs,o.data≠.fields vs)→b≠T:=fun b o hb hnf q=>by
  rw [q,hT]at hb;injection hb with hb;subst hb;exact hnf ts hdT
 refine yDT (s:={s with heap:=s.heap.update T (Obj.mapFields (·.setIfInBounds 3 Value.none))}) hfr (hl.of_keeps fun b o hb hnf=>⟨o,(other b (noRecord b o hb hnf)).trans hb,rfl⟩) hf ((other e (Ne.symm hTe)).trans he) hd (Array.getElem?_eq_some_iff.mp h1).1
  fun h' T' n m f=>h h' T' ?_ ⟨fun b o hbe hbT hbf hb=>m.keep b o hbe hbe hbf (mv.keep b o hbe hbT hbf hb),fun b o hbe hbT hb=>?_,fun b o hb=>?_⟩ f
 ·cases q:s.heap.get? T' with
  | none=>rfl
  | some o=>
   obtain⟨o',hs⟩:=mv.there _ o q
   have n':(s.heap.update T (Obj.mapFields (·.setIfInBounds 3 Value.none))).get? T'=none:=n
   rw [n']at hs;cases hs
 ·obtain⟨sl,e1⟩:=mv.slot b o hbe hbT hb
  obtain⟨sl',e2⟩:=m.slot b _ hbe hbe e1
  exact⟨sl',e2⟩
 ·obtain⟨o',e1⟩:=mv.there b o hb
  exact m.there b o' e1
theorem zAO{fl:Value}(hb:Fly s.heap e T cls d fl)(h: ∀h',Mvd (frs (env::outer)) e T s.heap h'→Fly h' e T cls d .none→Q () {s with heap:=h'}):wpAny M A (setFlight (.ref e) none) Q E s:=by
 obtain⟨oe,vs,oT,ts,he,rfl,rfl,hd,h1,hTe,hT,hdT,h3⟩:=hb
 have hsz3:3<ts.size:=(Array.getElem?_eq_some_iff.mp h3).1
 unfold setFlight
 refine wpAny_bind (wpAny_field he hd h1 ?_)
 rw [if_pos (show(Value.ref T !=Value.none)=true from by simp)]
 refine wpAny_setField hT hdT hsz3 (h _ (setT hT hdT) ?_)
 exact⟨oe,vs,_,_,(Heap.get?_update_other _ _ hTe).trans he,rfl,rfl,hd,h1,hTe,Heap.get?_update_self _ hT (Obj.isFreed_of_fields (Obj.data_mapFields hdT _)),Obj.data_mapFields hdT _,by simp [hsz3]⟩
theorem zUM(hfr:A.frames=some (env::outer))(hl:s.heap.FunFrames base (env::outer))(hf:env.frame=some L)(hb:Born s.heap e cls d)
  (h: ∀h' T',s.heap.get? T'=none→Mvd (frs (env::outer)) e e s.heap h'→Fly h' e T' cls d .none→Q () {s with heap:=h'}):wpAny M A (leaving env (.ref e)) Q E s:=by
 unfold leaving
 refine wpAny_bind (zXD hfr hl hf hb fun h1 T' n m f=>zAO (env:=env) (outer:=outer) f fun h2 m2 f2=>h h2 T' n (m.new n m2) f2)
theorem zXE(hfr:A.frames=some (env::outer))(hl:s.heap.FunFrames base (env::outer))(hf:env.frame=some L)(hb:Fly s.heap e T cls d .none)
  (h: ∀h' T',s.heap.get? T'=none→Mvd (frs (env::outer)) e T s.heap h'→Fly h' e T' cls d .none→Q () {s with heap:=h'}):wpAny M A (leaving env (.ref e)) Q E s:=by
 unfold leaving
 refine wpAny_bind (zQP hfr hl hf hb fun h1 T' n m f=>zAO (env:=env) (outer:=outer) f fun h2 m2 f2=>h h2 T' n (m.new n m2) f2)
end
end L2
namespace L2
open PySem PySem.Spec PyProof.Rows
theorem ObjOk.here{P:Program}{w:World}{H:Hp}{h:Heap}{a:Addr}{o:HO}(x:ObjOk P w H h a o): ∃ob,h.get? a=some ob:=by
 cases o with
 | lst xs=>obtain⟨_,_,_,_,e⟩:=x;exact⟨_,e⟩
 | tup xs=>obtain⟨_,_,_,ob,e,_⟩:=x;exact⟨_,e⟩
 | dK kvs=>obtain⟨_,_,_,_,o,_,_,e,_⟩:=x;exact⟨_,e⟩
 | dT kvs=>obtain⟨_,_,_,_,o,_,_,e,_⟩:=x;exact⟨_,e⟩
 | set S n=>obtain⟨o,_,_,_,e,_⟩:=x;exact⟨_,e⟩
 | ins C dx fs=>obtain⟨_,_,_,e,_⟩:=x;exact⟨_,e⟩
 | own y=>exact x
 | xd fs=>obtain⟨_,⟨_,_,_,e,_⟩,_⟩:=x;exact⟨_,e⟩
 | rng lo hi=>obtain⟨_,_,_,e⟩:=x;exact⟨_,e⟩
 | frz ob u=>obtain⟨e,_⟩:=x;exact⟨_,e⟩
 | tbl ps=>exact⟨_,(show h.get? a=some _ from x)⟩
 | met f y=>exact⟨_,(show h.get? a=some _ from x)⟩
 | ext φ=>obtain⟨_,e,_⟩:=x;exact e
theorem HOk.none_of{P:Program}{w:World}{H:Hp}{h:Heap}{a:Addr}(x:HOk P w H h)(n:h.get? a=none):H a=none:=by
 cases q:H a with
 | none=>rfl
 | some u=>
  obtain⟨ob,e⟩:=(x a u q).here
  rw [n]at e;cases e
section
variable{X:Cx}{pins:List (Addr×Obj)}{σ:St}{H:Hp}{s:Shared}
theorem Inv.older(J:Inv X pins σ H s)(hex:X.ex=[]){b:Addr}(n:s.heap.get? b=none):X.s₀.heap.get? b=none:=by
 cases q:X.s₀.heap.get? b with
 | none=>rfl
 | some o=>
  obtain⟨o',e⟩:=J.base.there b o q (by rw [hex];simp)
  rw [n]at e;cases e
theorem Inv.moved{e T:Addr}{h':Heap}(J:Inv X pins σ H s)(hex:X.ex=[])(m:Mvd (frs X.stack) e T s.heap h')(ne:X.s₀.heap.get? e=none)(nT:X.s₀.heap.get? T=none)(he:H e=none)(hT:H T=none):
  Un X.fs [] X.H₀ H X.s₀.heap h'∧HOk X.prog X.w H h':=by
 have nex: ∀b:Addr,b∉X.ex:=fun b=>by rw [hex];simp
 have ne1: ∀b o,X.s₀.heap.get? b=some o→b≠e:=fun b o q z=>by rw [z,ne]at q;cases q
 have ne2: ∀b o,X.s₀.heap.get? b=some o→b≠T:=fun b o q z=>by rw [z,nT]at q;cases q
 refine⟨⟨fun b o q n hb _=>?_,fun b o q n hb _=>?_,fun b o q n _=>J.base.free b o q n (nex b),fun b o q _=>?_,J.base.tups,J.base.frzs,J.base.tbls⟩,fun b u q=>(J.hok b u q).stay (fun c v hc r=>?_) (fun _ q=>q) fun _ _ q=>q⟩
 ·refine m.keep b o (ne1 b o q) (ne2 b o q) (fun z=>?_) (J.base.keep b o q n hb (nex b))
  rcases List.mem_cons.mp (J.stkSub b z)with z | z
  ·exact absurd z (Nat.ne_of_lt (Nat.lt_of_lt_of_le (Heap.lt_size q) J.ok.above))
  ·exact hb z
 ·obtain⟨sl,e1⟩:=J.base.slot b o q n hb (nex b)
  obtain⟨sl',e2⟩:=m.slot b _ (ne1 b o q) (ne2 b o q) e1
  exact⟨sl',e2⟩
 ·obtain⟨o',e1⟩:=J.base.there b o q (nex b)
  exact m.there b o' e1
 ·have hc': ∃z,H c=some z:=by
   rcases hc with rfl | hc
   ·exact⟨_,q⟩
   ·exact⟨_,hc⟩
  obtain⟨z,hz⟩:=hc'
  refine m.keep c v (fun y=>by rw [y,he]at hz;cases hz) (fun y=>by rw [y,hT]at hz;cases hz) (fun y=>?_) r
  rw [J.stkFree c y]at hz;cases hz
end
def CXe(P:Program)(w:World):CXT:=fun outer H s E x s'=> ∃e T C d H',x=.ref e∧s'.os=s.os∧AllBare s'.gens∧Un (frs outer) [] H H' s.heap s'.heap∧HOk P w H' s'.heap∧Fly s'.heap e T (.ref C) d .none∧
 s.heap.get? e=none∧s.heap.get? T=none∧H' e=none∧H' T=none∧E (.ref C) d H'
structure XOk(X:Cx)(E:XK):Prop where
 pass:zRN (CXe X.prog X.w) X E
 born: ∀(pins:List (Addr×Obj))(σ:St)(H:Hp)(s:Shared)(e C:Addr)(d:Option Addr),Inv X pins σ H s→Born s.heap e (.ref C) d→X.s₀.heap.get? e=none→H e=none→E (.ref C) d H→X.xe (.ref e) s
section
variable{P:Program}{w:World}{K:PySem.W.Frag}{mg:Str→Option Value}{base:Heap}{N:List Str}{qual:Str}{scope:Scope}{f:Addr}{cd:Value}{A:Around}{outer:List Env}{s:Shared}{H:Hp}{E:XK}
theorem zAV:XOk (zNA (CXe P w) P w K mg base N qual scope f cd A outer s H E) E:=by
 refine⟨fun pins σ H1 s1 x s2 I h=>?_,fun pins σ H1 s1 e C d J b ne he q=>?_⟩
 ·obtain⟨e,T,C,d,H',rfl,os,bare,un,hok,fl,ne,nT,he,hT,q⟩:=h
  have J:Inv _ pins σ H' s2:=I.call' (ch:=[]) os un hok bare (fun _ z=>nomatch z)
  have ne':=I.older rfl ne
  have nT':=I.older rfl nT
  refine zXE J.ok.frames J.stack rfl fl fun h' T' n m f'=>?_
  obtain⟨u,hk⟩:=J.moved rfl m ne' nT' he hT
  exact⟨e,T',C,d,H',rfl,J.os,J.bare,u,hk,f',ne',J.older rfl n,he,J.hok.none_of n,q⟩
 ·refine zUM J.ok.frames J.stack rfl b fun h' T' n m f'=>?_
  obtain⟨u,hk⟩:=J.moved rfl m ne ne he he
  exact⟨e,T',C,d,H1,rfl,J.os,J.bare,u,hk,f',ne,J.older rfl n,he,J.hok.none_of n,q⟩
end
end L2
namespace L2
open PySem PySem.Spec PyProof.Rows
abbrev bmV:List Value:=[.type "ValueError",.type "Exception",.type "BaseException",.type "object"]
def qn:List Str:=["__class__","__getattribute__","__getattr__","__setattr__","place","number"]
def zBM(h:Heap)(C M:Addr):Prop:=
 ∃nm q N bs hd sn sub ab col dd k0 k1 k2 k3 k5 nw mN,h.get? C=some (excClassObj nm q C N bs (.ref M::bmV) hd sn sub ab col dd k0 k1 k2 k3 k5 nw)∧h.Ns N mN∧(∀n∈qn,mN n=none)∧
  ∃nm q N bs hd sn sub ab col dd k0 k1 k2 k3 k5 nw mN,h.get? M=some (excClassObj nm q M N bs bmV hd sn sub ab col dd k0 k1 k2 k3 k5 nw)∧h.Ns N mN∧(∀n∈qn,mN n=none)
section
variable{Mo:Model}{A:Around}{E:Value→Shared→Prop}{h:Heap}{g:Array GenState}{d:Drawn}{t:Nat}{os:OsState}{C M:Addr}
theorem zBN(O:zBM h C M){base:Value}{Q:Bool→Shared→Prop}(hq:Q ((Value.ref C::.ref M::bmV).contains base) ⟨h,g,d,t,os⟩):wpAny Mo A (isSubtype (.ref C) base) Q E ⟨h,g,d,t,os⟩:=by
 obtain⟨nm,q,N,bs,hd,sn,sub,ab,col,dd,k0,k1,k2,k3,k5,nw,mN,hC,_⟩:=O
 exact wpAny_isSubtype_exc hC hq
theorem zAP(O:zBM h C M){n:Str}(hn:n∈qn){y:Option Value}(hB:typeLookup (.type "ValueError") n=pure y){Q:Option Value→Shared→Prop}(hq:Q y ⟨h,g,d,t,os⟩):wpAny Mo A (typeLookup (.ref C) n) Q E ⟨h,g,d,t,os⟩:=by
 obtain⟨nm,q,N,bs,hd,sn,sub,ab,col,dd,k0,k1,k2,k3,k5,nw,mN,hC,hN,hmN,_,_,_,_,_,_,_,_,_,_,_,_,_,_,_,_,mM,hM,hNM,hmM⟩:=O
 have hrest:lookupAlong bmV n=pure y:=by
  rw [typeLookup_eq,F.excBase_ValueError.mroIs]at hB
  exact hB
 rw [typeLookup_eq]
 refine wpAny_bind (wpAny_mroOf_exc hC ?_)
 rw [lookupAlong_cons]
 refine wpAny_bind (wpAny_classOwn_exc hC hN ?_)
 rw [hmN n hn,lookupAlong_cons]
 refine wpAny_bind (wpAny_classOwn_exc hM hNM ?_)
 rw [hmM n hn,hrest]
 exact wpAny_pure hq
theorem yDU(O:zBM h C M): ∃o,h.get? C=some o∧o.cls=.type "type"∧ ∃cd,o.data=.cls cd:=by
 obtain⟨_,_,_,_,_,_,_,_,_,_,_,_,_,_,_,_,_,hC,_⟩:=O
 exact⟨_,hC,rfl,_,rfl⟩
end
theorem qn1:("__class__":Str)∈qn:=.head _
theorem qn2:("__getattribute__":Str)∈qn:=.tail _ (.head _)
theorem qn3:("__getattr__":Str)∈qn:=.tail _ (.tail _ (.head _))
theorem yDV:typeLookup (.type "ValueError") "__class__"=pure (some (.builtin "object.__class__")):=by rw [typeLookup_type,builtinLookup_eq_fast];kernel_rfl
theorem yJZ:typeLookup (.type "ValueError") "__getattribute__"=pure (some (.builtin "BaseException.__getattribute__")):=by rw [typeLookup_type,builtinLookup_eq_fast];kernel_rfl
theorem zUN:typeLookup (.type "ValueError") "__getattr__"=pure none:=by rw [typeLookup_type,builtinLookup_eq_fast];kernel_rfl
section
variable{prog:Program}{w:World}{A:Around}{E:Value→Shared→Prop}{h:Heap}{g:Array GenState}{d:Drawn}{t:Nat}{os:OsState}{C M a:Addr}{o:Obj}
theorem zXF{R:Result→Shared→Prop}(O:zBM h C M)(hx:h.get? a=some o)(hc:o.cls=.ref C)(hq:R (.ok (.ret (.ref C))) ⟨h,g,d,t,os⟩):
  codeAny (model prog w) A (.call (.builtin "getset_descriptor.__get__") ⟨[.builtin "object.__class__",.ref a,.ref C],[]⟩) R ⟨h,g,d,t,os⟩:=by
 have hT5:(⟨h,g,d,t,os⟩:Shared).TypeIs (.builtin "object.__class__") "getset_descriptor":=F.typeOf_object_class
 have ho:(Value.ref C::.ref M::bmV).contains (.type (".".intercalate ("object.__class__".cutAt '.').dropLast))=true:=by
  rw [F.owner_object_class];simp [List.contains_cons]
 refine codeAny_call_builtin F.slot_gs_get.plain F.entry_gs_get (F.slot_gs_get.check _ _ _ _ _ _ _ _ hT5 (F.args_gs_get _ _ _) ?_)
 repeat (any_goals (first | assumption | (with_reducible refine wpAny_loadPart_at hx ?_;rw [hc]) | (with_reducible refine zBN O ?_;rw [ho]) | wp_step))
 refine⟨Code.quiet_builtin _ (by decide+kernel),codeAny_builtin F.entry_object_class ?_⟩
 repeat (any_goals (first | assumption | (with_reducible refine wpAny_loadPart_at hx ?_;rw [hc]) | wp_step))
theorem zQQ{Mo:Model}{nameV:Value}{Q:Unit→Shared→Prop}(O:zBM h C M)(hx:h.get? a=some o)(hc:o.cls=.ref C)(hq:Q () ⟨h,g,d,t,os⟩):wpAny Mo A (checkBuiltinCall "BaseException.__getattribute__" ⟨[.ref a,nameV],[]⟩) Q E ⟨h,g,d,t,os⟩:=by
 have hk:builtinKind "BaseException.__getattribute__"=some .slot:=by decide+kernel
 have hs:splitId "BaseException.__getattribute__"=some ("BaseException","__getattribute__"):=by decide+kernel
 have hb:(Value.ref C::.ref M::bmV).contains (.type "BaseException")=true:=by simp [List.contains_cons]
 have ha:=F.args_bexc_ga (.ref a) nameV
 simp only [checkBuiltinCall,hk,hs]
 refine wpAny_bind ?_
 unfold isInstance
 repeat (first | (with_reducible refine wpAny_loadPart_at hx ?_;rw [hc]) | (with_reducible refine zBN O ?_;rw [hb]) | wp_step)
 exact hq
theorem zRW{tk:Tok}{Q:Fin→Shared→Prop}(O:zBM h C M)(hx:h.get? a=some o)(hc:o.cls=.ref C)(hq:Q (.done (.ret (.ref C))) ⟨h,g,d,t,os⟩):
  wpAny (model prog w) A (Builtin.«object.__getattribute__» ⟨[.ref a,.str "__class__" tk],[]⟩) Q E ⟨h,g,d,t,os⟩:=by
 have hT5:(⟨h,g,d,t,os⟩:Shared).TypeIs (.builtin "object.__class__") "getset_descriptor":=F.typeOf_object_class
 have f5:=F.typeOf_object_class
 have f6:=F.slot_gs_get.lookup
 have f7:=F.slot_gs_set.lookup
 repeat (any_goals (first | assumption | (with_reducible refine wpAny_loadPart_at hx ?_;rw [hc]) | with_reducible refine zAP O qn1 yDV ?_ | wp_step))
 refine zXF O hx hc ?_
 repeat (any_goals (first | assumption | wp_step))
theorem zUO{tk:Tok}{R:Result→Shared→Prop}(O:zBM h C M)(hx:h.get? a=some o)(hc:o.cls=.ref C)(hq:R (.ok (.ret (.ref C))) ⟨h,g,d,t,os⟩):
  codeAny (model prog w) A (.call (.builtin "BaseException.__getattribute__") ⟨[.ref a,.str "__class__" tk],[]⟩) R ⟨h,g,d,t,os⟩:=
 codeAny_call_builtin F.attrBase_ValueError.ga.plain F.entry_bexc_ga (zQQ O hx hc (zRW O hx hc hq))
theorem yBP{tk:Tok}{fill expr:Bool}{Q:Value→Shared→Prop}(O:zBM h C M)(hx:h.get? a=some o)(hc:o.cls=.ref C)(hq:Q (.ref C) ⟨h,g,d,t,os⟩):
  wpAny (model prog w) A (getAttrBy (.ref a) (.str "__class__" tk) fill expr) Q E ⟨h,g,d,t,os⟩:=by
 have f3:=F.attrBase_ValueError.ga.bind (.ref a)
 have hx0:(expr&&onTheHeap (Value.builtin "BaseException.__getattribute__"))=false:=by cases expr<;>rfl
 have hx2:(Value.builtin "BaseException.__getattribute__"==Value.builtin "object.__getattribute__")=false:=by decide+kernel
 have hx1:(onTheHeap (Value.ref C)&&Value.builtin "BaseException.__getattribute__"==Value.builtin "object.__getattribute__")=false:=by rw [hx2];rfl
 repeat (any_goals (first | assumption | (with_reducible refine wpAny_loadPart_at hx ?_;rw [hc]) | with_reducible refine zAP O qn2 yJZ ?_ | with_reducible refine zAP O qn3 zUN ?_ | wp_step))
 refine zUO O hx hc ?_
 repeat (any_goals (first | assumption | wp_step))
theorem zUP{Q:Option Value→Shared→Prop}(O:zBM h C M)(hx:h.get? a=some o)(hc:o.cls=.ref C)(hq:Q (some (.ref C)) ⟨h,g,d,t+1,os⟩):wpAny (model prog w) A (getAttr? (.ref a) "__class__") Q E ⟨h,g,d,t,os⟩:=by
 unfold getAttr? getAttrBy?
 repeat (any_goals (first | assumption | with_reducible apply yBP O hx hc | wp_step))
theorem yHS{D:Addr}{dD:Option Addr}{cD:ClassData}{sD:Array (Option Value)}{oC:Obj}{Q:Fin→Shared→Prop}(O:zBM h C M)(hx:h.get? a=some o)(hc:o.cls=.ref C)(hD:h.get? D=some {cls:=.type "type",dict:=dD,data:=.cls cD,slots:=sD})(hC:h.get? C=some oC)(hCc:oC.cls=.type "type")(hCd: ∃cd,oC.data=.cls cd)(hn:(Value.ref C::.ref M::bmV).contains (.ref D)=false)(hq:Q (.done (.ret (.bool false))) ⟨h,g,d,t+1,os⟩):
  wpAny (model prog w) A (Builtin.«isinstance.nested» ⟨[.ref a,.ref D,rawInt 0],[]⟩) Q E ⟨h,g,d,t,os⟩:=by
 have hne:(Value.ref C==Value.ref D)=false:=by
  rw [List.contains_cons,Bool.or_eq_false_iff]at hn
  have:=hn.1
  rw [beq_eq_false_iff_ne]at this ⊢
  exact this.symm
 obtain⟨cd,hCd⟩:=hCd
 obtain⟨c1,c2,c3,c4⟩:=oC
 dsimp only at hCc hCd
 subst hCc hCd
 repeat (any_goals (first | assumption | (with_reducible refine wpAny_loadPart_at hx ?_;rw [hc]) | with_reducible refine wpAny_loadPart_at hD ?_ | with_reducible refine wpAny_loadPart_at hC ?_ | (with_reducible refine zBN O ?_;rw [hn]) | with_reducible apply zUP O hx hc | wp_step))
theorem yBQ{Q:Fin→Shared→Prop}(hx:h.get? a=some o)(hc:o.cls=.ref C)(hq:Q (.done (.ret (.bool true))) ⟨h,g,d,t,os⟩):
  wpAny (model prog w) A (Builtin.«isinstance.nested» ⟨[.ref a,.ref C,rawInt 0],[]⟩) Q E ⟨h,g,d,t,os⟩:=by
 repeat (any_goals (first | assumption | (with_reducible refine wpAny_loadPart_at hx ?_;rw [hc]) | wp_step))
theorem yHT{T:String}{Q:Fin→Shared→Prop}(O:zBM h C M)(hx:h.get? a=some o)(hc:o.cls=.ref C)(hty:typeOf (.type T)=pure (.type "type"))(hn:(Value.ref C::.ref M::bmV).contains (.type T)=true)(hq:Q (.done (.ret (.bool true))) ⟨h,g,d,t,os⟩):
  wpAny (model prog w) A (Builtin.«isinstance.nested» ⟨[.ref a,.type T,rawInt 0],[]⟩) Q E ⟨h,g,d,t,os⟩:=by
 have hne:(Value.ref C==Value.type T)=false:=rfl
 repeat (any_goals (first | assumption | (with_reducible refine wpAny_loadPart_at hx ?_;rw [hc]) | (with_reducible refine zBN O ?_;rw [hn]) | wp_step))
end
end L2
namespace L2
namespace M
open PySem PySem.Spec PyProof.Rows
inductive MV where
 | non | bl (b:Bool) | int (i:Int) | str (x:List Nat) | tup (ds:List MV) | scr (ds:List MV) | loc (l:Nat) | typ (n:String)
instance:Inhabited MV:=⟨.non⟩
inductive MO where
 | lst (ds:List MV) | dic (kvs:List (MV×MV)) | ins (c:Str) (fs:List (Str×MV))
abbrev Sto:=List MO
def SqF(K:PySem.W.Frag)(H:Hp)(a:Addr)(xs:List V):Prop:=
 (∃o,H a=some (.frz o (.lst xs)))∨
  ∃(o:Obj)(its:Array Value)(n:Nat),K.lookup a=some o∧o.cls=.type "list"∧o.dict=none∧o.data=.seq its n∧its.size≤sizeLine∧Vals xs its.toList
theorem SqF.l{K:PySem.W.Frag}{H:Hp}{a:Addr}{xs:List V}(h:SqF K H a xs):SqL K H a xs:=by
 rcases h with⟨o,h⟩ | h
 ·exact .inl (.inr ⟨o,h⟩)
 ·exact .inr h
mutual
def Den(K:PySem.W.Frag)(α:List Addr)(H:Hp):MV→V→Prop
 | .non,v=>v=.non
 | .bl b,v=>v=.bl b
 | .int i,v=>v=.int i
 | .str x,v=>v=.str (mkS x)
 | .tup ds,v=> ∃a vs,v=.ref a∧SqT K H a vs∧DenL K α H ds vs
 | .scr ds,v=> ∃a vs,v=.ref a∧SqF K H a vs∧DenL K α H ds vs
 | .loc l,v=> ∃a,v=.ref a∧α[l]? =some a
 | .typ n,v=>v=.ty n
def DenL(K:PySem.W.Frag)(α:List Addr)(H:Hp):List MV→List V→Prop
 | [],vs=>vs=[]
 | d::ds,vs=> ∃v r,vs=v::r∧Den K α H d v∧DenL K α H ds r
end
structure Ex0(α:List Addr)(H:Hp)(α':List Addr)(H':Hp):Prop where
 pre: ∃t,α'=α++t
 tup: ∀b xs,H b=some (.tup xs)→H' b=some (.tup xs)
 frz: ∀b o u,H b=some (.frz o u)→H' b=some (.frz o u)
structure Ext(α:List Addr)(H:Hp)(α':List Addr)(H':Hp):Prop extends Ex0 α H α' H' where
 new: ∀b∈α',b∈α∨H b=none
 keep: ∀b o,H b=some o→b∉α→H' b=some o
 has: ∀b o,H b=some o→ ∃o',H' b=some o'
section
variable{K:PySem.W.Frag}{α α' α'':List Addr}{H H' H'':Hp}
theorem Ext.refl(α:List Addr)(H:Hp):Ext α H α H:=⟨⟨⟨[],by simp⟩,fun _ _ h=>h,fun _ _ _ h=>h⟩,fun b h=>.inl h,fun _ _ h _=>h,fun _ o h=>⟨o,h⟩⟩
theorem Ex0.grow(α t:List Addr)(H:Hp):Ex0 α H (α++t) H:=⟨⟨t,rfl⟩,fun _ _ h=>h,fun _ _ _ h=>h⟩
theorem Ext.free(x:Ext α H α' H'){b:Addr}(h:H' b=none):H b=none:=by
 cases e:H b with
 | none=>rfl
 | some o=>obtain⟨o',h'⟩:=x.has b o e;rw [h]at h';cases h'
theorem Ext.out(x:Ext α H α' H'){b:Addr}{o:HO}(h:H b=some o)(n:b∉α):b∉α':=fun z=>by
 rcases x.new b z with z | z
 ·exact n z
 ·rw [h]at z;cases z
theorem Ext.trans(x:Ext α H α' H')(y:Ext α' H' α'' H''):Ext α H α'' H'' where
 pre:=by
  obtain⟨t,rfl⟩:=x.pre
  obtain⟨u,rfl⟩:=y.pre
  exact⟨t++u,by rw [List.append_assoc]⟩
 new:=fun b h=>(y.new b h).elim (x.new b) fun z=>.inr (x.free z)
 keep:=fun b o h n=>y.keep b o (x.keep b o h n) (x.out h n)
 has:=fun b o h=>let ⟨o',h'⟩:=x.has b o h;y.has b o' h'
 tup:=fun b xs h=>y.tup b xs (x.tup b xs h)
 frz:=fun b o u h=>y.frz b o u (x.frz b o u h)
theorem Ex0.at(x:Ex0 α H α' H'){l:Nat}{a:Addr}(h:α[l]? =some a):α'[l]? =some a:=by
 obtain⟨t,rfl⟩:=x.pre
 rw [List.getElem?_append_left (List.getElem?_eq_some_iff.mp h).1]
 exact h
theorem Ex0.sqT(x:Ex0 α H α' H'){a:Addr}{vs:List V}(q:SqT K H a vs):SqT K H' a vs:=by
 rcases q with(q | ⟨o,q⟩) | q
 ·exact .inl (.inl (x.tup a vs q))
 ·exact .inl (.inr ⟨o,x.frz a o _ q⟩)
 ·exact .inr q
theorem Ex0.sqF(x:Ex0 α H α' H'){a:Addr}{vs:List V}(q:SqF K H a vs):SqF K H' a vs:=by
 rcases q with⟨o,q⟩ | q
 ·exact .inl ⟨o,x.frz a o _ q⟩
 ·exact .inr q
mutual
theorem Den.ex0(x:Ex0 α H α' H'): ∀{d:MV}{v:V},Den K α H d v→Den K α' H' d v
 | .non,_,q=>by unfold Den at q ⊢; exact q
 | .bl _,_,q=>by unfold Den at q ⊢; exact q
 | .int _,_,q=>by unfold Den at q ⊢; exact q
 | .str _,_,q=>by unfold Den at q ⊢; exact q
 | .typ _,_,q=>by unfold Den at q ⊢; exact q
 | .loc _,_,q=>by
  unfold Den at q ⊢
  obtain⟨a,e,h⟩:=q
  exact⟨a,e,x.at h⟩
 | .tup ds,_,q=>by
  unfold Den at q ⊢
  obtain⟨a,vs,e,s,l⟩:=q
  exact⟨a,vs,e,x.sqT s,DenL.ex0 x l⟩
 | .scr ds,_,q=>by
  unfold Den at q ⊢
  obtain⟨a,vs,e,s,l⟩:=q
  exact⟨a,vs,e,x.sqF s,DenL.ex0 x l⟩
theorem DenL.ex0(x:Ex0 α H α' H'): ∀{ds:List MV}{vs:List V},DenL K α H ds vs→DenL K α' H' ds vs
 | [],_,q=>by unfold DenL at q ⊢; exact q
 | d::ds,_,q=>by
  unfold DenL at q ⊢
  obtain⟨v,r,e,a,l⟩:=q
  exact⟨v,r,e,Den.ex0 x a,DenL.ex0 x l⟩
end
theorem Den.ext(x:Ext α H α' H'){d:MV}{v:V}(q:Den K α H d v):Den K α' H' d v:=q.ex0 x.toEx0
theorem DenL.ext(x:Ext α H α' H'){d:List MV}{v:List V}(q:DenL K α H d v):DenL K α' H' d v:=q.ex0 x.toEx0
theorem cR:Den K α H .non .non:=by unfold Den;rfl
theorem xH(b:Bool):Den K α H (.bl b) (.bl b):=by unfold Den;rfl
theorem xJ(i:Int):Den K α H (.int i) (.int i):=by unfold Den;rfl
theorem cS(x:List Nat):Den K α H (.str x) (.str (mkS x)):=by unfold Den;rfl
theorem zZK(n:String):Den K α H (.typ n) (.ty n):=by unfold Den;rfl
theorem cT{ds:List MV}{a:Addr}{vs:List V}(s:SqT K H a vs)(l:DenL K α H ds vs):Den K α H (.tup ds) (.ref a):=by unfold Den;exact⟨a,vs,rfl,s,l⟩
theorem zZL{ds:List MV}{a:Addr}{vs:List V}(s:SqF K H a vs)(l:DenL K α H ds vs):Den K α H (.scr ds) (.ref a):=by unfold Den;exact⟨a,vs,rfl,s,l⟩
theorem zIE{l:Nat}{a:Addr}(h:α[l]? =some a):Den K α H (.loc l) (.ref a):=by unfold Den;exact⟨a,rfl,h⟩
theorem dI{v:V}(d:Den K α H .non v):v=.non:=by unfold Den at d;exact d
theorem zBO{b:Bool}{v:V}(d:Den K α H (.bl b) v):v=.bl b:=by unfold Den at d;exact d
theorem jN{i:Int}{v:V}(d:Den K α H (.int i) v):v=.int i:=by unfold Den at d;exact d
theorem jW{x:List Nat}{v:V}(d:Den K α H (.str x) v):v=.str (mkS x):=by unfold Den at d;exact d
theorem dJ{n:String}{v:V}(d:Den K α H (.typ n) v):v=.ty n:=by unfold Den at d;exact d
theorem kR{ds:List MV}{v:V}(d:Den K α H (.tup ds) v): ∃a vs,v=.ref a∧SqT K H a vs∧DenL K α H ds vs:=by unfold Den at d;exact d
theorem cK{ds:List MV}{v:V}(d:Den K α H (.scr ds) v): ∃a vs,v=.ref a∧SqF K H a vs∧DenL K α H ds vs:=by unfold Den at d;exact d
theorem gZ{l:Nat}{v:V}(d:Den K α H (.loc l) v): ∃a,v=.ref a∧α[l]? =some a:=by unfold Den at d;exact d
theorem xW:DenL K α H [] []:=by unfold DenL;rfl
theorem yY{d:MV}{v:V}{ds:List MV}{vs:List V}(a:Den K α H d v)(l:DenL K α H ds vs):DenL K α H (d::ds) (v::vs):=by unfold DenL;exact⟨v,vs,rfl,a,l⟩
theorem DenL.uncons{d:MV}{ds:List MV}{vs:List V}(l:DenL K α H (d::ds) vs): ∃v r,vs=v::r∧Den K α H d v∧DenL K α H ds r:=by unfold DenL at l;exact l
theorem DenL.isnil{vs:List V}(l:DenL K α H [] vs):vs=[]:=by unfold DenL at l;exact l
theorem DenL.length: ∀{ds:List MV}{vs:List V},DenL K α H ds vs→vs.length=ds.length
 | [],_,q=>by rw [q.isnil];rfl
 | d::ds,_,q=>by
  obtain⟨v,r,rfl,_,l⟩:=q.uncons
  rw [List.length_cons,List.length_cons,DenL.length l]
theorem DenL.append: ∀{ds es:List MV}{vs us:List V},DenL K α H ds vs→DenL K α H es us→DenL K α H (ds++es) (vs++us)
 | [],_,_,_,q,l=>by rw [q.isnil];exact l
 | d::ds,_,_,_,q,l=>by
  obtain⟨v,r,rfl,a,l'⟩:=q.uncons
  exact yY a (DenL.append l' l)
theorem DenL.drop: ∀{ds:List MV}{vs:List V}(n:Nat),DenL K α H ds vs→DenL K α H (ds.drop n) (vs.drop n)
 | _,_,0,q=>q
 | [],_,n+1,q=>by rw [q.isnil];exact xW
 | d::ds,_,n+1,q=>by
  obtain⟨v,r,rfl,_,l⟩:=q.uncons
  exact DenL.drop n l
theorem DenL.take: ∀{ds:List MV}{vs:List V}(n:Nat),DenL K α H ds vs→DenL K α H (ds.take n) (vs.take n)
 | _,_,0,q=>xW
 | [],_,n+1,q=>by rw [q.isnil];exact xW
 | d::ds,_,n+1,q=>by
  obtain⟨v,r,rfl,a,l⟩:=q.uncons
  exact yY a (DenL.take n l)
theorem DenL.set{d:MV}{v:V}(a:Den K α H d v): ∀{ds:List MV}{vs:List V}(n:Nat),DenL K α H ds vs→DenL K α H (ds.set n d) (vs.set n v)
 | [],_,_,q=>by rw [q.isnil];exact xW
 | e::ds,_,0,q=>by
  obtain⟨v',r,rfl,a',l⟩:=q.uncons
  exact yY a l
 | e::ds,_,n+1,q=>by
  obtain⟨v',r,rfl,a',l⟩:=q.uncons
  exact yY a' (DenL.set a n l)
theorem DenL.get: ∀{ds:List MV}{vs:List V}{i:Nat}{v:V},DenL K α H ds vs→vs[i]? =some v→ ∃d,ds[i]? =some d∧Den K α H d v
 | [],_,_,_,q,e=>by rw [q.isnil]at e;simp at e
 | d::ds,_,0,_,q,e=>by
  obtain⟨v,r,rfl,a,l⟩:=q.uncons
  simp at e;subst e
  exact⟨d,rfl,a⟩
 | d::ds,_,i+1,_,q,e=>by
  obtain⟨v,r,rfl,a,l⟩:=q.uncons
  obtain⟨d',h1,h2⟩:=DenL.get (i:=i) l (by simpa using e)
  exact⟨d',by simpa using h1,h2⟩
theorem DenL.at{ds:List MV}{vs:List V}{i:Nat}{d:MV}(q:DenL K α H ds vs)(e:ds[i]? =some d): ∃v,vs[i]? =some v∧Den K α H d v:=by
 have hi:i<ds.length:=(List.getElem?_eq_some_iff.mp e).1
 have hv:i<vs.length:=by rw [q.length];exact hi
 obtain⟨d',h1,h2⟩:=q.get (List.getElem?_eq_getElem hv)
 rw [e]at h1;cases h1
 exact⟨_,List.getElem?_eq_getElem hv,h2⟩
theorem DenL.cut{ds:List MV}{vs:List V}(q:DenL K α H ds vs)(lo hi:Option Int):DenL K α H (dG ds lo hi) (zUF vs lo hi):=by
 unfold dG zUF
 rw [q.length]
 exact(q.drop _).take _
theorem zQR: ∀(ns:List Int),DenL K α H (ns.map MV.int) (ns.map V.int)
 | []=>xW
 | b::bs=>yY (xJ b) (zQR bs)
end
structure Gm where
 K:PySem.W.Frag
 mg:Str→Option Value
 P:Program
 w:World
abbrev _root_.L2.Cx.g(X:Cx):Gm:=⟨X.K,X.mg,X.prog,X.w⟩
inductive DenF(K:PySem.W.Frag)(α:List Addr)(H:Hp):List (Str×MV)→List (Str×V)→Prop
 | nil:DenF K α H [] []
 | cons {x:Str} {d:MV} {v:V} {fs gs}:Den K α H d v→DenF K α H fs gs→DenF K α H ((x,d)::fs) ((x,v)::gs)
theorem DenF.ex0{K:PySem.W.Frag}{α α':List Addr}{H H':Hp}(x:Ex0 α H α' H'): ∀{fs gs},DenF K α H fs gs→DenF K α' H' fs gs
 | _,_,.nil=>.nil
 | _,_,.cons a l=>.cons (a.ex0 x) (DenF.ex0 x l)
def KeyD:MV→Key→Prop
 | .int i,k=>k=.inl i
 | .str x,k=>k=.inr (mkS x)
 | _,_=>False
inductive DenK(K:PySem.W.Frag)(α:List Addr)(H:Hp):List (MV×MV)→List (Key×V)→Prop
 | nil:DenK K α H [] []
 | cons {k:MV} {k':Key} {d:MV} {v:V} {fs gs}:KeyD k k'→Den K α H d v→DenK K α H fs gs→DenK K α H ((k,d)::fs) ((k',v)::gs)
theorem DenK.ex0{K:PySem.W.Frag}{α α':List Addr}{H H':Hp}(x:Ex0 α H α' H'): ∀{fs gs},DenK K α H fs gs→DenK K α' H' fs gs
 | _,_,.nil=>.nil
 | _,_,.cons k a l=>.cons k (a.ex0 x) (DenK.ex0 x l)
mutual
def kK:MV→Option NK
 | .int i=>some (.key (.inl i))
 | .str x=>some (.key (.inr (mkS x)))
 | .tup ds=>(jP ds).map .tup
 | _=>none
def jP:List MV→Option (List NK)
 | []=>some []
 | d::ds=>(kK d).bind fun k=>(jP ds).map (k::·)
end
inductive DenN(K:PySem.W.Frag)(α:List Addr)(H:Hp):List (MV×MV)→List (NK×Addr×Value)→Prop
 | nil:DenN K α H [] []
 | cons {k:MV} {nk:NK} {a:Addr} {d:MV} {v:V} {u:Value} {fs xs}:kK k=some nk→zAJ nk≤4→Den K α H k (.ref a)→Den K α H d v→RelV v u→DenN K α H fs xs→DenN K α H ((k,d)::fs) ((nk,a,u)::xs)
theorem DenN.ex0{K:PySem.W.Frag}{α α':List Addr}{H H':Hp}(x:Ex0 α H α' H'): ∀{fs xs},DenN K α H fs xs→DenN K α' H' fs xs
 | _,_,.nil=>.nil
 | _,_,.cons k e a d r l=>.cons k e (a.ex0 x) (d.ex0 x) r (DenN.ex0 x l)
def ObD(g:Gm)(α:List Addr)(H:Hp)(a:Addr):MO→Prop
 | .lst ds=> ∃vs,H a=some (.lst vs)∧DenL g.K α H ds vs
 | .dic kvs=>(∃ks,H a=some (.dK ks)∧DenK g.K α H kvs ks)∨ ∃xs,H a=some (DN g.P g.w a xs)∧DenN g.K α H kvs xs
 | .ins c fs=> ∃C gs,g.mg c=some (.ref C)∧DenF g.K α H fs gs∧
   ∃oe,H a=some (.ext fun h=>h.get? a=some oe)∧oe.cls=.ref C∧(fs=[]∨ ∃dx od,oe.dict=some dx∧H dx=some (.frz od (.xd gs))∧ ∃vs,oe.data=.fields vs)
theorem ObD.there{g:Gm}{α:List Addr}{H:Hp}{a:Addr}{o:MO}(h:ObD g α H a o): ∃ho,H a=some ho∧(∀xs,ho≠.tup xs)∧ ∀ob u,ho≠.frz ob u:=by
 cases o with
 | lst ds=>obtain⟨vs,h,_⟩:=h;exact⟨_,h,(fun xs z=>by cases z),fun _ _ z=>by cases z⟩
 | dic ds=>
  rcases h with⟨vs,h,_⟩ | ⟨vs,h,_⟩
  ·exact⟨_,h,(fun xs z=>by cases z),fun _ _ z=>by cases z⟩
  ·exact⟨_,h,(fun xs z=>by cases z),fun _ _ z=>by cases z⟩
 | ins c ds=>
  obtain⟨_,_,_,_,_,h,_⟩:=h
  exact⟨_,h,(fun xs z=>by cases z),fun _ _ z=>by cases z⟩
theorem ObD.move{g:Gm}{α α':List Addr}{H H':Hp}{a:Addr}{o:MO}(h:ObD g α H a o)(x:Ex0 α H α' H')(e:H' a=H a):ObD g α' H' a o:=by
 cases o with
 | lst ds=>obtain⟨vs,h,l⟩:=h;exact⟨vs,e.trans h,l.ex0 x⟩
 | dic ds=>
  rcases h with⟨vs,h,l⟩ | ⟨vs,h,l⟩
  ·exact .inl ⟨vs,e.trans h,l.ex0 x⟩
  ·exact .inr ⟨vs,e.trans h,l.ex0 x⟩
 | ins c ds=>
  obtain⟨C,gs,m,l,oe,h,hc,hf⟩:=h
  exact⟨C,gs,m,l.ex0 x,oe,e.trans h,hc,hf.imp id fun⟨dx,od,h1,h2,h3⟩=>⟨dx,od,h1,x.frz _ _ _ h2,h3⟩⟩
structure Wd(g:Gm)(α:List Addr)(S:Sto)(H:Hp):Prop where
 len:α.length=S.length
 nd:α.Nodup
 obj: ∀(l:Nat)(a:Addr)(o:MO),α[l]? =some a→S[l]? =some o→ObD g α H a o
section
variable{g:Gm}{α α':List Addr}{S S':Sto}{H H':Hp}
theorem Wd.of(w:Wd g α S H){l:Nat}{a:Addr}(h:α[l]? =some a): ∃o,S[l]? =some o∧ObD g α H a o:=by
 have hl:l<S.length:=by rw [←w.len];exact(List.getElem?_eq_some_iff.mp h).1
 exact⟨S[l],List.getElem?_eq_getElem hl,w.obj l a _ h (List.getElem?_eq_getElem hl)⟩
theorem Wd.mem(w:Wd g α S H){a:Addr}(h:a∈α): ∃ho,H a=some ho∧(∀xs,ho≠.tup xs)∧ ∀ob u,ho≠.frz ob u:=by
 obtain⟨l,hl⟩:=List.getElem?_of_mem h
 obtain⟨o,_,q⟩:=w.of hl
 exact q.there
theorem Wd.newx(w:Wd g α S H){p:Addr}{o:HO}(hp:H p=none):Ext α H α (upd H p o) where
 pre:=⟨[],by simp⟩
 new:=fun b h=>.inl h
 keep:=fun b o h _=>by rw [zP (yF h hp)];exact h
 has:=fun b o h=>⟨o,by rw [zP (yF h hp)];exact h⟩
 tup:=fun b o h=>by rw [zP (yF h hp)];exact h
 frz:=fun b o u h=>by rw [zP (yF h hp)];exact h
theorem Wd.fresh(w:Wd g α S H){p:Addr}(hp:H p=none):p∉α:=fun z=>by
 obtain⟨_,h,_⟩:=w.mem z;rw [hp]at h;cases h
theorem Wd.new(w:Wd g α S H){p:Addr}{o:HO}(hp:H p=none):Wd g α S (upd H p o):=
 ⟨w.len,w.nd,fun l a ob h1 h2=>(w.obj l a ob h1 h2).move (w.newx hp).toEx0 (zP fun z=>w.fresh hp (by rw [←z];exact List.mem_of_getElem? h1))⟩
theorem Wd.writex(w:Wd g α S H){l:Nat}{a:Addr}{o:HO}(h:α[l]? =some a):Ext α H α (upd H a o) where
 pre:=⟨[],by simp⟩
 new:=fun b h=>.inl h
 keep:=fun b o e n=>by rw [zP fun z=>n (by rw [z];exact List.mem_of_getElem? h)];exact e
 has:=fun b o e=>by
  by_cases z:b=a
  ·subst z;exact⟨_,zZ⟩
  ·exact⟨o,by rw [zP z];exact e⟩
 tup:=fun b xs e=>by
  obtain⟨ho,h1,h2,_⟩:=w.mem (List.mem_of_getElem? h)
  rw [zP fun z=>h2 xs (by subst z;rw [e]at h1;exact(Option.some.inj h1).symm)];exact e
 frz:=fun b ob u e=>by
  obtain⟨ho,h1,_,h2⟩:=w.mem (List.mem_of_getElem? h)
  rw [zP fun z=>h2 ob u (by subst z;rw [e]at h1;exact(Option.some.inj h1).symm)];exact e
theorem Wd.ne(w:Wd g α S H){l m:Nat}{a b:Addr}(h:α[l]? =some a)(h':α[m]? =some b)(n:l≠m):a≠b:=by
 rintro rfl
 obtain⟨h1,e1⟩:=List.getElem?_eq_some_iff.mp h
 obtain⟨h2,e2⟩:=List.getElem?_eq_some_iff.mp h'
 exact n ((List.getElem_inj w.nd).mp (e1.trans e2.symm))
theorem Wd.write(w:Wd g α S H){l:Nat}{a:Addr}{o:HO}{ob:MO}(h:α[l]? =some a)(q:ObD g α (upd H a o) a ob):Wd g α (S.set l ob) (upd H a o) where
 len:=by rw [List.length_set];exact w.len
 nd:=w.nd
 obj:=fun m b ob' h1 h2=>by
  by_cases e:l=m
  ·subst e
   rw [h]at h1
   have hl:l<S.length:=by rw [←w.len];exact(List.getElem?_eq_some_iff.mp h).1
   rw [List.getElem?_set_self hl]at h2
   rw [←Option.some.inj h1, ←Option.some.inj h2]
   exact q
  ·rw [List.getElem?_set_ne e]at h2
   exact(w.obj m b ob' h1 h2).move (w.writex h).toEx0 (zP (w.ne h1 h fun z=>e z.symm))
theorem Wd.enterx(w:Wd g α S H){H0:Hp}{α0:List Addr}(x:Ext α0 H0 α H){b:Addr}(h0:H0 b=none)(n:b∉α):Ext α0 H0 (α++[b]) H where
 pre:=let ⟨t,e⟩:=x.pre;⟨t++[b],by rw [e,List.append_assoc]⟩
 new:=fun c hc=>(List.mem_append.mp hc).elim (x.new c) fun z=>.inr (by rw [List.mem_singleton.mp z];exact h0)
 keep:=x.keep
 has:=x.has
 tup:=x.tup
 frz:=x.frz
theorem Wd.enter(w:Wd g α S H){b:Addr}{ds:List MV}{vs:List V}(h:H b=some (.lst vs))(n:b∉α)(l:DenL g.K α H ds vs):Wd g (α++[b]) (S++[.lst ds]) H where
 len:=by rw [List.length_append,List.length_append,w.len];rfl
 nd:=List.nodup_append.mpr ⟨w.nd,by simp,fun a ha c hc=>by rw [List.mem_singleton.mp hc];rintro rfl;exact n ha⟩
 obj:=fun m a o h1 h2=>by
  by_cases hm:m<α.length
  ·rw [List.getElem?_append_left hm]at h1
   rw [List.getElem?_append_left (by rw [←w.len];exact hm)]at h2
   exact(w.obj m a o h1 h2).move (Ex0.grow α [b] H) rfl
  ·have hm':m=α.length:=by
    have:=(List.getElem?_eq_some_iff.mp h1).1
    rw [List.length_append,List.length_singleton]at this
    omega
   subst hm'
   rw [List.getElem?_append_right (Nat.le_refl _),Nat.sub_self]at h1
   rw [List.getElem?_append_right (by rw [w.len];exact Nat.le_refl _),w.len,Nat.sub_self]at h2
   cases h1;cases h2
   exact⟨vs,h,l.ex0 (Ex0.grow α [b] H)⟩
end
end M
end L2
namespace L2
namespace M
open PySem PySem.Spec PyProof.Rows
inductive R(β:Type) where
 | ok (b:β) (S:Sto) | exc (c:Str) (fs:List (Str×MV)) (S:Sto) | no
def R.bind{β γ:Type}:R β→(β→Sto→R γ)→R γ
 | .ok b S,k=>k b S
 | .exc c fs S,_=>.exc c fs S
 | .no,_=>.no
theorem R.bind_ok{β γ:Type}(b:β)(S:Sto)(k:β→Sto→R γ):(R.ok b S).bind k=k b S:=rfl
inductive Er where
 | val (d:MV) | new (ds:List MV)
instance:Inhabited Er:=⟨.val .non⟩
def DenX(K:PySem.W.Frag)(α:List Addr)(H:Hp):Er→V→Prop
 | .val d,v=>Den K α H d v
 | .new ds,v=> ∃b vs,v=.ref b∧H b=some (.lst vs)∧b∉α∧DenL K α H ds vs
def DenE(K:PySem.W.Frag)(H:Hp)(α':List Addr)(H':Hp)(r:Er)(v:V):Prop:=DenX K α' H' r v∧match r with | .new _=> ∀a,v=.ref a→H a=none | _=>True
section
variable{K:PySem.W.Frag}{α α':List Addr}{H H0 H':Hp}
theorem DenX.ext(x:Ext α H α' H'): ∀{r:Er}{v:V},DenX K α H r v→DenX K α' H' r v
 | .val d,_,q=>Den.ext x q
 | .new ds,_,⟨b,vs,e,h,n,l⟩=>⟨b,vs,e,x.keep b _ h n,x.out h n,l.ext x⟩
theorem DenE.val{d:MV}{v:V}(q:Den K α' H' d v):DenE K H α' H' (.val d) v:=⟨q,trivial⟩
theorem DenE.back(hf: ∀b,H b=none→H0 b=none){r:Er}{v:V}(q:DenE K H α' H' r v):DenE K H0 α' H' r v:=by
 refine⟨q.1,?_⟩
 cases r with
 | new ds=>exact fun a e=>hf a (q.2 a e)
 | _=>trivial
theorem DenE.ext{α'':List Addr}{H'':Hp}(x:Ext α' H' α'' H''){r:Er}{v:V}(q:DenE K H α' H' r v):DenE K H α'' H'' r v:=⟨q.1.ext x,q.2⟩
end
section
variable{K:PySem.W.Frag}{α:List Addr}{H:Hp}{v:V}
theorem zCG(d:DenX K α H (.val .non) v):v=.non:=dI (K:=K) (α:=α) (H:=H) d
theorem zEM{b:Bool}(d:DenX K α H (.val (.bl b)) v):v=.bl b:=zBO (K:=K) (α:=α) (H:=H) d
theorem xB{b:Int}(d:DenX K α H (.val (.int b)) v):v=.int b:=jN (K:=K) (α:=α) (H:=H) d
theorem jX{b:List Nat}(d:DenX K α H (.val (.str b)) v):v=.str (mkS b):=jW (K:=K) (α:=α) (H:=H) d
theorem yDW{b:String}(d:DenX K α H (.val (.typ b)) v):v=.ty b:=dJ (K:=K) (α:=α) (H:=H) d
theorem cL{ds:List MV}(d:DenX K α H (.val (.tup ds)) v): ∃a vs,v=.ref a∧SqT K H a vs∧DenL K α H ds vs:=kR (K:=K) (α:=α) (H:=H) d
theorem zNP{ds:List MV}(d:DenX K α H (.val (.scr ds)) v): ∃a vs,v=.ref a∧SqF K H a vs∧DenL K α H ds vs:=cK (K:=K) (α:=α) (H:=H) d
theorem zAW{l:Nat}(d:DenX K α H (.val (.loc l)) v): ∃a,v=.ref a∧α[l]? =some a:=gZ (K:=K) (α:=α) (H:=H) d
end
def zGM:List Er→List V→List Addr
 | .new _::rs,.ref b::vs=>b::zGM rs vs
 | _::rs,_::vs=>zGM rs vs
 | _,_=>[]
inductive ArgsE(K:PySem.W.Frag)(H:Hp)(α':List Addr)(H':Hp):List Er→List V→Prop
 | nil:ArgsE K H α' H' [] []
 | cons {r v rs vs}:DenE K H α' H' r v→(∀ds b,r=.new ds→v=.ref b→b∉zGM rs vs)→ArgsE K H α' H' rs vs→ArgsE K H α' H' (r::rs) (v::vs)
theorem ArgsE.nones{K:PySem.W.Frag}{H:Hp}{α':List Addr}{H':Hp}: ∀{rs vs},ArgsE K H α' H' rs vs→ ∀b∈zGM rs vs,H b=none
 | _,_,.nil=>fun b h=>by simp [zGM]at h
 | .val d::_,v::_,.cons a n l=>fun b h=>ArgsE.nones l b (by simpa [zGM]using h)
 | .new ds::_,v::_,.cons a n l=>fun b h=>by
  obtain⟨c,vs,rfl,_⟩:=a.1
  rcases List.mem_cons.mp (show b∈c::zGM _ _ from h)with rfl | h
  ·exact a.2 _ rfl
  ·exact ArgsE.nones l b h
theorem ArgsE.back{K:PySem.W.Frag}{H H0:Hp}{α':List Addr}{H':Hp}(hf: ∀b,H b=none→H0 b=none): ∀{rs vs},ArgsE K H α' H' rs vs→ArgsE K H0 α' H' rs vs
 | _,_,.nil=>.nil
 | _,_,.cons a n l=>.cons (a.back hf) n (ArgsE.back hf l)
theorem ArgsE.length{K:PySem.W.Frag}{H:Hp}{α':List Addr}{H':Hp}: ∀{rs vs},ArgsE K H α' H' rs vs→vs.length=rs.length
 | _,_,.nil=>rfl
 | _,_,.cons _ _ l=>by rw [List.length_cons,List.length_cons,ArgsE.length l]
class Dn (β:Type) (τ:outParam Type) where
 d:Gm→Hp→List Addr→Sto→Hp→β→τ→Prop
 back: ∀{g:Gm}{H H0:Hp}{α':List Addr}{S':Sto}{H':Hp}{b:β}{u:τ},(∀b,H b=none→H0 b=none)→d g H α' S' H' b u→d g H0 α' S' H' b u
instance:Dn Er V:=⟨fun g H α' _ H' r v=>DenE g.K H α' H' r v,fun hf q=>q.back hf⟩
instance:Dn Bool Bool:=⟨fun _ _ _ _ _ b u=>u=b,fun _ q=>q⟩
instance:Dn (List Er) (List V):=⟨fun g H α' _ H' r v=>ArgsE g.K H α' H' r v,fun hf q=>q.back hf⟩
instance:Dn (Option Int) (Option Int):=⟨fun _ _ _ _ _ b u=>u=b,fun _ q=>q⟩
abbrev XW:=Str→List (Str×MV)→Sto→List Addr→Hp→Prop
abbrev W0:XW:=fun _ _ _ _ _=>False
def Post{β τ:Type}[Dn β τ](g:Gm)(W:XW)(α:List Addr)(H:Hp):R β→(τ→Hp→Prop)→Prop
 | .ok b S,Q=> ∀u α' H',Ext α H α' H'→Wd g α' S H'→Dn.d g H α' S H' b u→Q u H'
 | .exc c fs S,_=> ∀α' H',Ext α H α' H'→Wd g α' S H'→W c fs S α' H'
 | .no,_=>False
section
variable{β τ γ υ:Type}[Dn β τ][Dn γ υ]{g:Gm}{W:XW}{α α':List Addr}{H H':Hp}
theorem Post.shift(x:Ext α H α' H'): ∀{m:R β}{Q:τ→Hp→Prop},Post g W α H m Q→Post g W α' H' m Q
 | .ok b S,Q,q=>fun u α2 H2 x2 w2 d2=>q u α2 H2 (x.trans x2) w2 (Dn.back (fun b h=>x.free h) d2)
 | .exc c fs S,_,q=>fun α2 H2 x2 w2=>q α2 H2 (x.trans x2) w2
 | .no,_,q=>q
theorem Post.bind{m:R β}{k:β→Sto→R γ}{Q:υ→Hp→Prop}{Q':τ→Hp→Prop}(q:Post g W α H (m.bind k) Q)
  (f: ∀u b S1 α1 H1,m=.ok b S1→Ext α H α1 H1→Wd g α1 S1 H1→Dn.d g H α1 S1 H1 b u→Post g W α H (k b S1) Q→Q' u H1):Post g W α H m Q':=by
 cases m with
 | ok b S=>exact fun u α1 H1 x w d=>f u b S α1 H1 rfl x w d q
 | exc c fs S=>exact q
 | no=>exact q
theorem Post.here{b:β}{S:Sto}{Q:τ→Hp→Prop}{u:τ}(q:Post g W α H (.ok b S) Q)(w:Wd g α S H)(d:Dn.d g H α S H b u):Q u H:=q u α H (Ext.refl α H) w d
end
theorem Post.val{g:Gm}{W:XW}{α:List Addr}{H:Hp}{d:MV}{S:Sto}{Q:VK}{v:V}(q:Post g W α H (.ok (Er.val d) S) Q)(w:Wd g α S H)(k:Den g.K α H d v):Q v H:=q.here w (DenE.val k)
theorem Post.newl{g:Gm}{W:XW}{α:List Addr}{H:Hp}{ds:List MV}{S:Sto}{Q:VK}{vs:List V}{p:Addr}(q:Post g W α H (.ok (Er.new ds) S) Q)(w:Wd g α S H)(hp:H p=none)(l:DenL g.K α H ds vs):Q (.ref p) (upd H p (.lst vs)):=
 q (.ref p) α _ (w.newx hp) (w.new hp) ⟨⟨p,vs,rfl,zZ,w.fresh hp,l.ext (w.newx hp)⟩,fun a e=>by cases e;exact hp⟩
theorem Post.newt{g:Gm}{W:XW}{α:List Addr}{H:Hp}{ds:List MV}{S:Sto}{Q:VK}{vs:List V}{p:Addr}(q:Post g W α H (.ok (Er.val (.tup ds)) S) Q)(w:Wd g α S H)(hp:H p=none)(l:DenL g.K α H ds vs):Q (.ref p) (upd H p (.tup vs)):=
 q (.ref p) α _ (w.newx hp) (w.new hp) (.val (cT (.of zZ) (l.ext (w.newx hp))))
abbrev Rho:=List (Option MV)
structure Slots(K:PySem.W.Frag)(α:List Addr)(H:Hp)(ρ:Rho)(σ:St):Prop where
 len:σ.length=ρ.length
 slot: ∀(i:Nat)(d:MV),ρ[i]? =some (some d)→ ∃v,σ[i]? =some (some v)∧Den K α H d v
section
variable{K:PySem.W.Frag}{α α':List Addr}{H H':Hp}{ρ:Rho}{σ:St}
theorem Slots.ex0(q:Slots K α H ρ σ)(x:Ex0 α H α' H'):Slots K α' H' ρ σ:=⟨q.len,fun i d e=>let ⟨v,h1,h2⟩:=q.slot i d e;⟨v,h1,h2.ex0 x⟩⟩
theorem Slots.ext(q:Slots K α H ρ σ)(x:Ext α H α' H'):Slots K α' H' ρ σ:=q.ex0 x.toEx0
theorem zZM{α:Type}{l:List α}{i j:Nat}{x y:α}(h:(l.set i x)[j]? =some y):(j=i∧y=x∧i<l.length)∨(j≠i∧l[j]? =some y):=by
 by_cases hj:i=j
 ·subst hj
  by_cases hl:i<l.length
  ·rw [List.getElem?_set_self hl]at h
   exact .inl ⟨rfl,(Option.some.inj h).symm,hl⟩
  ·rw [List.getElem?_eq_none (by rw [List.length_set];omega)]at h;cases h
 ·rw [List.getElem?_set_ne hj]at h
  exact .inr ⟨fun z=>hj z.symm,h⟩
theorem Slots.set(q:Slots K α H ρ σ){i:Nat}{d:MV}{v:V}(h:Den K α H d v):Slots K α H (ρ.set i (some d)) (σ.set i (some v)):=by
 refine⟨by rw [List.length_set,List.length_set];exact q.len,fun j e z=>?_⟩
 rcases zZM z with⟨rfl,e',hl⟩ | ⟨hj,e'⟩
 ·cases e'
  exact⟨v,by rw [List.getElem?_set_self (by rw [q.len];exact hl)],h⟩
 ·obtain⟨u,h1,h2⟩:=q.slot j e e'
  exact⟨u,by rw [List.getElem?_set_ne (Ne.symm hj)];exact h1,h2⟩
end
def Jd(X:Cx)(W:XW){β τ:Type}[Dn β τ](P:(St→Hp→(τ→Hp→Prop)→Prop)→Prop)(f:Rho→Sto→R β):Prop:=
 ∃t,P t∧ ∀α ρ S σ H Q,Wd X.g α S H→Slots X.K α H ρ σ→Post X.g W α H (f ρ S) Q→t σ H Q
abbrev PEm(X:Cx)(W:XW)(e:Expr)(f:Rho→Sto→R Er):Prop:=Jd X W (PE X e) f
abbrev PTm(X:Cx)(W:XW)(e:Expr)(f:Rho→Sto→R Bool):Prop:=Jd X W (PT X e) f
abbrev PWm(X:Cx)(W:XW)(e:Expr)(f:Rho→Sto→R Bool):Prop:=Jd X W (PW X e) f
abbrev PAm(X:Cx)(W:XW)(es:List Expr)(f:Rho→Sto→R (List Er)):Prop:=Jd X W (PA X es) f
abbrev POm(X:Cx)(W:XW)(e:Option Expr)(f:Rho→Sto→R (Option Int)):Prop:=Jd X W (PO X e) f
section
variable{X:Cx}{W:XW}{a b c e:Expr}{es:List Expr}{f g h:Rho→Sto→R Er}{tf tg:Rho→Sto→R Bool}{af:Rho→Sto→R (List Er)}{pos:Pos}
def zE:Option (Option MV)→Sto→R Er
 | some (some d),S=>.ok (.val d) S
 | _,_=>.no
theorem zB(i:Nat){x:Str}(hN:X.N[i]? =some x:=by rfl)(hv:Vis X.env.scope x:=by first | exact Or.inl rfl | exact Or.inr (Or.inl rfl) | exact Or.inr (Or.inr rfl))(hd:(x==("__debug__":Str))=false:=by decide)
  (hcd:(x==("__classdict__":Str))=false:=by decide):PEm X W (.Name x pos) (fun ρ S=>zE (ρ[i]?) S):=by
 refine⟨_,pv i hN hv hd hcd,fun α ρ S σ H Q wd sl q=>?_⟩
 dsimp only at q
 cases z:ρ[i]? with
 | none=>rw [z]at q;exact q.elim
 | some o=>
  cases o with
  | none=>rw [z]at q;exact q.elim
  | some d=>
   rw [z]at q
   obtain⟨v,h1,h2⟩:=sl.slot i d z
   exact⟨v,h1,Post.val q wd h2⟩
theorem zC{i:Int}{j:Nat}:PEm X W (.Constant (.int i) j pos) (fun _ S=>.ok (.val (.int i)) S):=⟨_,yCY,fun α ρ S σ H Q wd sl q=>Post.val q wd (xJ i)⟩
theorem kX{i:Bool}{j:Nat}:PEm X W (.Constant (.bool i) j pos) (fun _ S=>.ok (.val (.bl i)) S):=⟨_,pe_bl,fun α ρ S σ H Q wd sl q=>Post.val q wd (xH i)⟩
theorem zAX{j:Nat}:PEm X W (.Constant .none j pos) (fun _ S=>.ok (.val .non) S):=⟨_,yKS,fun α ρ S σ H Q wd sl q=>Post.val q wd cR⟩
theorem wT{x:Str}{j:Nat}(cs:List Nat)(hx:x=mkS cs:=by rfl):PEm X W (.Constant (.str x) j pos) (fun _ S=>.ok (.val (.str cs)) S):=
 ⟨_,yCZ,fun α ρ S σ H Q wd sl q=>Post.val q wd (by rw [hx];exact cS cs)⟩
theorem zCH{x:Str}{i:Int}{t:Tok}(hg:Gl X x)(hm:X.mg x=some (.int i t))(hd:(x==("__debug__":Str))=false:=by decide):PEm X W (.Name x pos) (fun _ S=>.ok (.val (.int i)) S):=
 ⟨_,zRK (v:=.int i) hg hm ⟨t,rfl⟩ hd,fun α ρ S σ H Q wd sl q=>Post.val q wd (xJ i)⟩
theorem jQ{x:Str}{T:String}(hg:Gl X x)(hm:X.mg x=none)(hv:bootBuiltins x=some (.type T))(hn:x≠"__name__":=by decide)(hd:(x==("__debug__":Str))=false:=by decide):PEm X W (.Name x pos) (fun _ S=>.ok (.val (.typ T)) S):=
 ⟨_,zZB (v:=.ty T) hg hm hv rfl hn hd,fun α ρ S σ H Q wd sl q=>Post.val q wd (zZK T)⟩
theorem zJZ{i:Int}{j:Nat}{p3:Pos}:PEm X W (.UnaryOp .USub (.Constant (.int i) j p3) pos) (fun _ S=>.ok (.val (.int (-i))) S):=
 ⟨_,pe_un yLI yCY,fun α ρ S σ H Q wd sl q=>⟨i,rfl,Post.val q wd (xJ (-i))⟩⟩
def Op2(X:Cx)(W:XW)(r:R2)(F:Er→Er→Sto→R Er):Prop:= ∀p q x y α S H Q,Wd X.g α S H→DenX X.K α H p x→DenX X.K α H q y→Post X.g W α H (F p q S) Q→r x y H Q
theorem two{r:R2}{F:Er→Er→Sto→R Er}(hF:Op2 X W r F){ta tb:TE}(fa: ∀α ρ S σ H Q,Wd X.g α S H→Slots X.K α H ρ σ→Post X.g W α H (f ρ S) Q→ta σ H Q)
  (fb: ∀α ρ S σ H Q,Wd X.g α S H→Slots X.K α H ρ σ→Post X.g W α H (g ρ S) Q→tb σ H Q) {α:List Addr} {ρ:Rho} {S:Sto} {σ:St} {H:Hp} {Q:VK} (wd:Wd X.g α S H) (sl:Slots X.K α H ρ σ)
  (q:Post X.g W α H ((f ρ S).bind fun p S1=>(g ρ S1).bind fun q S2=>F p q S2) Q):ta σ H fun x H1=>tb σ H1 fun y H2=>r x y H2 Q:=
 fa α ρ S σ H _ wd sl (q.bind fun u p S1 α1 H1 e1 x1 w1 d1 q1=>fb α1 ρ S1 σ H1 _ w1 (sl.ext x1) ((q1.shift x1).bind fun u2 p2 S2 α2 H2 e2 x2 w2 d2 q2=>
  hF p p2 u u2 α2 S2 H2 Q w2 (d1.1.ext x2) d2.1 (q2.shift x2)))
theorem zQS{op:Operator}{r:R2}{F:Er→Er→Sto→R Er}(ho:OpR X (binaryOp op) r)(hF:Op2 X W r F)(ha:PEm X W a f)(hb:PEm X W b g):PEm X W (.BinOp a op b pos) (fun ρ S=>(f ρ S).bind fun p S1=>(g ρ S1).bind fun q S2=>F p q S2):=by
 obtain⟨ta,ha,fa⟩:=ha
 obtain⟨tb,hb,fb⟩:=hb
 exact⟨_,pe_op ho ha hb,fun α ρ S σ H Q wd sl q=>two hF fa fb wd sl q⟩
theorem zRX{op:CmpOp}{r:R2}{F:Er→Er→Sto→R Er}(ho:OpR X (compareOp op) r)(hF:Op2 X W r F)(ha:PEm X W a f)(hb:PEm X W b g)(hm:behindInMarks op b=false:=by first | exact yDF _ | with_unfolding_all rfl):
  PEm X W (.Compare a [op] [b] pos) (fun ρ S=>(f ρ S).bind fun p S1=>(g ρ S1).bind fun q S2=>F p q S2):=by
 obtain⟨ta,ha,fa⟩:=ha
 obtain⟨tb,hb,fb⟩:=hb
 exact⟨_,yHD ho ha hb hm,fun α ρ S σ H Q wd sl q=>two hF fa fb wd sl q⟩
theorem pm_ix{r:R2}{F:Er→Er→Sto→R Er}(ho:IxR X r)(hF:Op2 X W r F)(ha:PEm X W a f)(hb:PEm X W b g)(hs:zRP b:=by exact fun _ _=>rfl):
  PEm X W (.Subscript a b pos) (fun ρ S=>(f ρ S).bind fun p S1=>(g ρ S1).bind fun q S2=>F p q S2):=by
 obtain⟨ta,ha,fa⟩:=ha
 obtain⟨tb,hb,fb⟩:=hb
 exact⟨_,pe_ix ho ha hb hs,fun α ρ S σ H Q wd sl q=>two hF fa fb wd sl q⟩
def asB:Er→Sto→R Bool
 | .val (.bl b),S=>.ok b S
 | _,_=>.no
theorem zUQ{p:Er}{S:Sto}{α:List Addr}{H:Hp}{Q:Bool→Hp→Prop}(q:Post X.g W α H (asB p S) Q): ∃k,p=.val (.bl k)∧Post X.g W α H (.ok k S) Q:=by
 unfold asB at q
 split at q
 ·exact⟨_,rfl,q⟩
 ·exact q.elim
theorem zIF{β τ:Type}[Dn β τ]{p:Er}{S:Sto}{α:List Addr}{H:Hp}{k:Bool→Sto→R β}{Q:τ→Hp→Prop}(q:Post X.g W α H ((asB p S).bind k) Q): ∃c,p=.val (.bl c)∧Post X.g W α H (k c S) Q:=by
 unfold asB at q
 split at q
 ·exact⟨_,rfl,q⟩
 ·exact q.elim
theorem zCI{op:CmpOp}{r:R2}{F:Er→Er→Sto→R Er}(ho:OpR X (compareOp op) r)(hF:Op2 X W r F)(ha:PEm X W a f)(hb:PEm X W b g)(hm:behindInMarks op b=false:=by first | exact yDF _ | with_unfolding_all rfl):
  PTm X W (.Compare a [op] [b] pos) (fun ρ S=>((f ρ S).bind fun p S1=>(g ρ S1).bind fun q S2=>F p q S2).bind asB):=by
 obtain⟨ta,ha,fa⟩:=ha
 obtain⟨tb,hb,fb⟩:=hb
 refine⟨_,yHE ho ha hb hm,fun α ρ S σ H Q wd sl q=>?_⟩
 refine two hF fa fb wd sl (Q:=fun x H'=> ∃k,x=.bl k∧Q k H') (q.bind fun u p S1 α1 H1 e1 x1 w1 d1 q1=>?_)
 obtain⟨k,rfl,q2⟩:=zUQ (q1.shift x1)
 exact⟨k,zEM d1.1,q2.here w1 rfl⟩
def chF(F G:Er→Er→Sto→R Er)(p q:Er)(S:Sto)(k:Sto→R Er):R Er:=(F p q S).bind fun z S1=>(asB z S1).bind fun c S2=>if c=true then(k S2).bind fun r S3=>G q r S3 else .ok (.val (.bl false)) S2
theorem chain{r r':R2}{F G:Er→Er→Sto→R Er}(hF:Op2 X W r F)(hG:Op2 X W r' G){ta tb tc:TE}(fa: ∀α ρ S σ H Q,Wd X.g α S H→Slots X.K α H ρ σ→Post X.g W α H (f ρ S) Q→ta σ H Q)
  (fb: ∀α ρ S σ H Q,Wd X.g α S H→Slots X.K α H ρ σ→Post X.g W α H (g ρ S) Q→tb σ H Q) (fc: ∀α ρ S σ H Q,Wd X.g α S H→Slots X.K α H ρ σ→Post X.g W α H (h ρ S) Q→tc σ H Q) {α:List Addr} {ρ:Rho} {S:Sto} {σ:St} {H:Hp} {Q:VK} (wd:Wd X.g α S H) (sl:Slots X.K α H ρ σ)
  (q:Post X.g W α H ((f ρ S).bind fun p S1=>(g ρ S1).bind fun q S2=>chF F G p q S2 fun S3=>h ρ S3) Q):zWV r r' ta tb tc σ H Q:=
 fa α ρ S σ H _ wd sl (q.bind fun u p S1 α1 H1 e1 x1 w1 d1 q1=>fb α1 ρ S1 σ H1 _ w1 (sl.ext x1) ((q1.shift x1).bind fun u2 p2 S2 α2 H2 e2 x2 w2 d2 q2=>by
  refine hF p p2 u u2 α2 S2 H2 _ w2 (d1.1.ext x2) d2.1 (Post.bind (q2.shift x2) fun u3 p3 S3 α3 H3 e3 x3 w3 d3 q3=>?_)
  obtain⟨k,rfl,q4⟩:=zIF (q3.shift x3)
  refine⟨k,zEM d3.1,?_⟩
  cases k with
  | true=>
   rw [if_pos rfl]at q4 ⊢
   exact fc α3 ρ S3 σ H3 _ w3 (((sl.ext x1).ext x2).ext x3) (q4.bind fun u5 p5 S5 α5 H5 e5 x5 w5 d5 q5=>hG p2 p5 u2 u5 α5 S5 H5 Q w5 ((d2.1.ext x3).ext x5) d5.1 (q5.shift x5))
  | false=>
   rw [if_neg Bool.false_ne_true]at q4 ⊢
   exact Post.val q4 w3 (xH false)))
theorem zIG{op op':CmpOp}{r r':R2}{F G:Er→Er→Sto→R Er}(ho:OpR X (compareOp op) r)(ho':OpR X (compareOp op') r')(hF:Op2 X W r F)(hG:Op2 X W r' G)(ha:PEm X W a f)(hb:PEm X W b g)(hc:PEm X W c h)
  (hm:lastMarks [op,op'] [b,c]=false:=by with_unfolding_all rfl):
  PEm X W (.Compare a [op,op'] [b,c] pos) (fun ρ S=>(f ρ S).bind fun p S1=>(g ρ S1).bind fun q S2=>chF F G p q S2 fun S3=>h ρ S3):=by
 obtain⟨ta,ha,fa⟩:=ha
 obtain⟨tb,hb,fb⟩:=hb
 obtain⟨tc,hc,fc⟩:=hc
 exact⟨_,yDG ho ho' ha hb hc hm,fun α ρ S σ H Q wd sl q=>chain hF hG fa fb fc wd sl q⟩
theorem zUR{op op':CmpOp}{r r':R2}{F G:Er→Er→Sto→R Er}(ho:OpR X (compareOp op) r)(ho':OpR X (compareOp op') r')(hF:Op2 X W r F)(hG:Op2 X W r' G)(ha:PEm X W a f)(hb:PEm X W b g)(hc:PEm X W c h)
  (hm:lastMarks [op,op'] [b,c]=false:=by with_unfolding_all rfl):
  PTm X W (.Compare a [op,op'] [b,c] pos) (fun ρ S=>((f ρ S).bind fun p S1=>(g ρ S1).bind fun q S2=>chF F G p q S2 fun S3=>h ρ S3).bind asB):=by
 obtain⟨ta,ha,fa⟩:=ha
 obtain⟨tb,hb,fb⟩:=hb
 obtain⟨tc,hc,fc⟩:=hc
 refine⟨_,yDH ho ho' ha hb hc hm,fun α ρ S σ H Q wd sl q=>?_⟩
 refine chain hF hG fa fb fc wd sl (Q:=fun x H'=> ∃k,x=.bl k∧Q k H') (q.bind fun u p S1 α1 H1 e1 x1 w1 d1 q1=>?_)
 obtain⟨k,rfl,q2⟩:=zUQ (q1.shift x1)
 exact⟨k,zEM d1.1,q2.here w1 rfl⟩
def kL:Er→Sto→R Bool
 | .val .non,S=>.ok false S
 | .val (.bl b),S=>.ok b S
 | .val (.int i),S=>.ok (i !=0) S
 | .val (.str x),S=>if x.length≤sizeLine then .ok (!x.isEmpty) S else .no
 | .val (.tup ds),S=>.ok (!ds.isEmpty) S
 | .val (.scr ds),S=>.ok (!ds.isEmpty) S
 | .val (.loc l),S=>match S[l]? with
  | some (.lst ds)=>.ok (!ds.isEmpty) S
  | _=>.no
 | .val (.typ _),_=>.no
 | .new ds,S=>.ok (!ds.isEmpty) S
theorem zFT{ds:List MV}{vs:List V}{K:PySem.W.Frag}{α:List Addr}{H:Hp}(l:DenL K α H ds vs):(!vs.isEmpty)= !ds.isEmpty:=by
 have:=l.length
 cases ds<;>cases vs<;>simp_all
theorem yDX{p:Er}{x:V}{S:Sto}{α:List Addr}{H:Hp}{Q:Bool→Hp→Prop}(wd:Wd X.g α S H)(d:DenX X.K α H p x)(q:Post X.g W α H (kL p S) Q): ∃k,TruV X.K x H k∧Q k H:=by
 match p,d,q with
 | .val .non,d,q=>cases zCG d;exact⟨_,rfl,q.here wd rfl⟩
 | .val (.bl b),d,q=>cases zEM d;exact⟨_,rfl,q.here wd rfl⟩
 | .val (.int i),d,q=>cases xB d;exact⟨_,rfl,q.here wd rfl⟩
 | .val (.typ n),d,q=>exact q.elim
 | .val (.str z),d,q=>
  cases jX d
  have q':Post X.g W α H (if z.length≤sizeLine then R.ok (!z.isEmpty) S else R.no) Q:=q
  split at q'
  ·rename_i hz
   refine⟨_,⟨by rw [jV];exact hz,?_⟩,q'.here wd rfl⟩
   rw [jV]
   cases z with
   | nil=>rfl
   | cons c r=>
    have h0:((r.length:Int)+1)≠0:=by omega
    simp [h0]
  ·exact q'.elim
 | .val (.tup ds),d,q=>
  obtain⟨a,vs,rfl,s,l⟩:=cL d
  exact⟨_,.inr (.inl ⟨vs,s,(zFT l).symm⟩),q.here wd rfl⟩
 | .val (.scr ds),d,q=>
  obtain⟨a,vs,rfl,s,l⟩:=zNP d
  exact⟨_,.inl ⟨vs,s.l,(zFT l).symm⟩,q.here wd rfl⟩
 | .val (.loc n),d,q=>
  obtain⟨a,rfl,h⟩:=zAW d
  obtain⟨o,h1,h2⟩:=wd.of h
  have q':Post X.g W α H (match S[n]? with | some (.lst ds)=>R.ok (!ds.isEmpty) S | _=>R.no) Q:=q
  rw [h1]at q'
  cases o with
  | lst ds=>
   obtain⟨vs,h3,l⟩:=h2
   exact⟨_,.inl ⟨vs,.of h3,(zFT l).symm⟩,q'.here wd rfl⟩
  | dic ds=>exact q'.elim
  | ins c fs=>exact q'.elim
 | .new ds,⟨a,vs,ex,s,n,l⟩,q=>subst ex;exact⟨_,.inl ⟨vs,.of s,(zFT l).symm⟩,q.here wd rfl⟩
theorem zW(ha:PEm X W a f)(he: ∀whole,isTrue a X.env whole=(do let v ←whole;standAt a.pos;holding [v] (truthy v)):=by intro _;rfl):PTm X W a (fun ρ S=>(f ρ S).bind kL):=by
 obtain⟨ta,ha,fa⟩:=ha
 exact⟨_,yDI ha he,fun α ρ S σ H Q wd sl q=>fa α ρ S σ H _ wd sl (q.bind fun u p S1 α1 H1 e1 x1 w1 d1 q1=>yDX w1 d1.1 (q1.shift x1))⟩
end
end M
end L2
namespace L2
namespace M
open PySem PySem.Spec PyProof.Rows
section
variable{X:Cx}{W:XW}{a b c e:Expr}{es:List Expr}{f g h:Rho→Sto→R Er}{tf tg:Rho→Sto→R Bool}{af:Rho→Sto→R (List Er)}{pos:Pos}
def wU(p:Er)(S:Sto)(k:Sto→R Er):R Er:=(asB p S).bind fun c S1=>if c=true then k S1 else .ok (.val (.bl false)) S1
def orF(p:Er)(S:Sto)(k:Sto→R Er):R Er:=(asB p S).bind fun c S1=>if c=true then .ok (.val (.bl true)) S1 else k S1
theorem wJ{op}(ha:PEm X W a f):PEm X W (.BoolOp op [a] pos) f:=let ⟨t,h,k⟩:=ha;⟨t,yKW h,k⟩
theorem wE(ha:PEm X W a f)(hb:PEm X W (.BoolOp .And (b::es) pos) g):PEm X W (.BoolOp .And (a::b::es) pos) (fun ρ S=>(f ρ S).bind fun p S1=>wU p S1 fun S2=>g ρ S2):=by
 obtain⟨ta,ha,fa⟩:=ha
 obtain⟨tb,hb,fb⟩:=hb
 refine⟨_,yKX ha hb,fun α ρ S σ H Q wd sl q=>fa α ρ S σ H _ wd sl (q.bind fun u p S1 α1 H1 e1 x1 w1 d1 q1=>?_)⟩
 obtain⟨k,rfl,q2⟩:=zIF (q1.shift x1)
 refine⟨k,zEM d1.1,?_⟩
 cases k with
 | true=>rw [if_pos rfl]at q2 ⊢; exact fb α1 ρ S1 σ H1 _ w1 (sl.ext x1) q2
 | false=>rw [if_neg Bool.false_ne_true]at q2 ⊢; exact Post.val q2 w1 (xH false)
theorem pm_or(ha:PEm X W a f)(hb:PEm X W (.BoolOp .Or (b::es) pos) g):PEm X W (.BoolOp .Or (a::b::es) pos) (fun ρ S=>(f ρ S).bind fun p S1=>orF p S1 fun S2=>g ρ S2):=by
 obtain⟨ta,ha,fa⟩:=ha
 obtain⟨tb,hb,fb⟩:=hb
 refine⟨_,pe_or ha hb,fun α ρ S σ H Q wd sl q=>fa α ρ S σ H _ wd sl (q.bind fun u p S1 α1 H1 e1 x1 w1 d1 q1=>?_)⟩
 obtain⟨k,rfl,q2⟩:=zIF (q1.shift x1)
 refine⟨k,zEM d1.1,?_⟩
 cases k with
 | true=>rw [if_pos rfl]at q2 ⊢; exact Post.val q2 w1 (xH true)
 | false=>rw [if_neg Bool.false_ne_true]at q2 ⊢; exact fb α1 ρ S1 σ H1 _ w1 (sl.ext x1) q2
theorem zRY(ha:PEm X W a f):PEm X W (.UnaryOp .Not a pos) (fun ρ S=>(f ρ S).bind fun p S1=>(asB p S1).bind fun k S2=>.ok (.val (.bl !k)) S2):=by
 obtain⟨ta,ha,fa⟩:=ha
 refine⟨_,yKY ha,fun α ρ S σ H Q wd sl q=>fa α ρ S σ H _ wd sl (q.bind fun u p S1 α1 H1 e1 x1 w1 d1 q1=>?_)⟩
 obtain⟨k,rfl,q2⟩:=zIF (q1.shift x1)
 exact⟨k,zEM d1.1,Post.val q2 w1 (xH _)⟩
theorem zRZ(ha:PTm X W a tf):PWm X W (.BoolOp .And [a] pos) tf:=let ⟨t,h,k⟩:=ha;⟨t,yGX h,k⟩
theorem bA(ha:PTm X W a tf):PWm X W (.BoolOp .Or [a] pos) tf:=let ⟨t,h,k⟩:=ha;⟨t,yKT h,k⟩
theorem zXG(ha:PTm X W a tf)(hb:PWm X W (.BoolOp .And (b::es) pos) tg):PWm X W (.BoolOp .And (a::b::es) pos) (fun ρ S=>(tf ρ S).bind fun k S1=>if k=true then tg ρ S1 else .ok false S1):=by
 obtain⟨ta,ha,fa⟩:=ha
 obtain⟨tb,hb,fb⟩:=hb
 refine⟨_,yKU ha hb,fun α ρ S σ H Q wd sl q=>fa α ρ S σ H _ wd sl (q.bind fun u p S1 α1 H1 e1 x1 w1 d1 q1=>?_)⟩
 cases d1
 cases u with
 | true=>rw [if_pos rfl]at q1 ⊢; exact fb α1 ρ S1 σ H1 _ w1 (sl.ext x1) (q1.shift x1)
 | false=>rw [if_neg Bool.false_ne_true]at q1 ⊢; exact(q1.shift x1).here w1 rfl
theorem gW(ha:PTm X W a tf)(hb:PWm X W (.BoolOp .Or (b::es) pos) tg):PWm X W (.BoolOp .Or (a::b::es) pos) (fun ρ S=>(tf ρ S).bind fun k S1=>if k=true then .ok true S1 else tg ρ S1):=by
 obtain⟨ta,ha,fa⟩:=ha
 obtain⟨tb,hb,fb⟩:=hb
 refine⟨_,pw_or ha hb,fun α ρ S σ H Q wd sl q=>fa α ρ S σ H _ wd sl (q.bind fun u p S1 α1 H1 e1 x1 w1 d1 q1=>?_)⟩
 cases d1
 cases u with
 | true=>rw [if_pos rfl]at q1 ⊢; exact(q1.shift x1).here w1 rfl
 | false=>rw [if_neg Bool.false_ne_true]at q1 ⊢; exact fb α1 ρ S1 σ H1 _ w1 (sl.ext x1) (q1.shift x1)
theorem cQ(h:PWm X W a tf):PTm X W a tf:=let ⟨t,h,k⟩:=h;⟨t,h.pt,k⟩
theorem yX(ha:PTm X W a tf):PTm X W (.UnaryOp .Not a pos) (fun ρ S=>(tf ρ S).bind fun k S1=>.ok (!k) S1):=by
 obtain⟨ta,ha,fa⟩:=ha
 refine⟨_,yKV ha,fun α ρ S σ H Q wd sl q=>fa α ρ S σ H _ wd sl (q.bind fun u p S1 α1 H1 e1 x1 w1 d1 q1=>?_)⟩
 cases d1
 exact(q1.shift x1).here w1 rfl
end
section
variable{K:PySem.W.Frag}{H0:Hp}
def zY:List Er→Sto→List MV×Sto
 | [],S=>([],S)
 | .val d::rs,S=>((d::(zY rs S).1),(zY rs S).2)
 | .new xs::rs,S=>((.loc S.length::(zY rs (S++[.lst xs])).1),(zY rs (S++[.lst xs])).2)
theorem ArgsE.grow{H0:Hp}{α:List Addr}{H:Hp}{b:Addr}{rs:List Er}{vs:List V}(q:ArgsE K H0 α H rs vs)(n:b∉zGM rs vs):ArgsE K H0 (α++[b]) H rs vs:=by
 induction q with
 | nil=>exact .nil
 | @cons r v rs vs a m l ih=>
  cases r with
  | val d=>exact .cons ⟨Den.ex0 (Ex0.grow α [b] H) a.1,trivial⟩ m (ih (by simpa [zGM]using n))
  | new ds=>
   obtain⟨⟨c,us,rfl,h1,h2,h3⟩,h4⟩:=a
   have n':b∉c::zGM rs vs:=n
   refine .cons ⟨⟨c,us,rfl,h1,fun z=>?_,h3.ex0 (Ex0.grow α [b] H)⟩,h4⟩ m (ih fun z=>n' (List.mem_cons_of_mem _ z))
   rcases List.mem_append.mp z with z | z
   ·exact h2 z
   ·exact n' (by rw [List.mem_singleton.mp z];exact List.mem_cons_self)
theorem zBP{g:Gm}{H0:Hp}{α0:List Addr}{H:Hp}: ∀{rs:List Er}{vs:List V}{α:List Addr}{S:Sto},Wd g α S H→Ext α0 H0 α H→ArgsE g.K H0 α H rs vs→
  ∃α',Ext α0 H0 α' H∧Ex0 α H α' H∧Wd g α' (zY rs S).2 H∧DenL g.K α' H (zY rs S).1 vs
 | _,_,α,S,w,x,.nil=>⟨α,x,⟨⟨[],by simp⟩,fun _ _ h=>h,fun _ _ _ h=>h⟩,w,xW⟩
 | .val d::rs,v::vs,α,S,w,x,.cons a n l=>by
  obtain⟨α',x',y',w',l'⟩:=zBP w x l
  exact⟨α',x',y',w',yY (Den.ex0 y' a.1) l'⟩
 | .new ds::rs,v::vs,α,S,w,x,.cons a n l=>by
  obtain⟨⟨c,us,rfl,h1,h2,h3⟩,h4⟩:=a
  obtain⟨α',x',y',w',l'⟩:=zBP (w.enter h1 h2 h3) (w.enterx x (h4 c rfl) h2) (l.grow (n ds c rfl rfl))
  refine⟨α',x',⟨?_,y'.tup,y'.frz⟩,w',yY (zIE (y'.at ?_)) l'⟩
  ·obtain⟨t,e⟩:=y'.pre
   exact⟨[c]++t,by rw [e,List.append_assoc]⟩
  ·rw [←w.len,List.getElem?_append_right (Nat.le_refl _),Nat.sub_self];rfl
theorem zFU: ∀(rs:List Er)(S:Sto),(zY rs S).1.length=rs.length
 | [],S=>rfl
 | .val d::rs,S=>by show(d::(zY rs S).1).length=_;rw [List.length_cons,zFU rs S];rfl
 | .new ds::rs,S=>by show(_::(zY rs _).1).length=_;rw [List.length_cons,zFU rs _];rfl
end
section
variable{X:Cx}{W:XW}{a b c e:Expr}{es:List Expr}{f g h:Rho→Sto→R Er}{tf tg:Rho→Sto→R Bool}{af:Rho→Sto→R (List Er)}{pos:Pos}
theorem zD:PAm X W [] (fun _ S=>.ok [] S):=⟨_,zMZ,fun α ρ S σ H Q wd sl q=>q.here wd .nil⟩
theorem zA(ha:PEm X W a f)(hr:PAm X W es af)(hs:starEach (a::es) X.env=(false,eval a X.env)::starEach es X.env:=by rfl):PAm X W (a::es) (fun ρ S=>(f ρ S).bind fun p S1=>(af ρ S1).bind fun ps S2=>.ok (p::ps) S2):=by
 obtain⟨ta,ha,fa⟩:=ha
 obtain⟨tr,hr,fr⟩:=hr
 refine⟨_,zAL ha hr hs,fun α ρ S σ H Q wd sl q=>fa α ρ S σ H _ wd sl (q.bind fun u p S1 α1 H1 e1 x1 w1 d1 q1=>fr α1 ρ S1 σ H1 _ w1 (sl.ext x1) ?_)⟩
 have q1':Post X.g W α H ((af ρ S1).bind fun ps S2=>.ok (p::ps) S2) Q:=q1
 cases z:af ρ S1 with
 | ok ps S2=>
  rw [z]at q1'
  intro vs α2 H2 x2 w2 d2
  refine q1' (u::vs) α2 H2 (x1.trans x2) w2 (ArgsE.cons (DenE.ext x2 d1) (fun ds b er eu hb=>?_) (ArgsE.back (fun b h=>x1.free h) d2))
  subst er eu
  obtain⟨⟨c,us,ec,h1,_⟩,_⟩:=d1
  cases ec
  have:=ArgsE.nones d2 _ hb
  rw [h1]at this;cases this
 | exc c fs S2=>rw [z]at q1';exact fun α2 H2 x2 w2=>q1' α2 H2 (x1.trans x2) w2
 | no=>rw [z]at q1';exact q1'
def wP(rs:List Er)(S:Sto):R Er:=if rs.length≤sizeLine then .ok (.val (.tup (zY rs S).1)) (zY rs S).2 else .no
def wZ(rs:List Er)(S:Sto):R Er:=if rs.length≤sizeLine then .ok (.new (zY rs S).1) (zY rs S).2 else .no
theorem yJ{x1}(h:PAm X W es af):PEm X W (.Tuple es x1 pos) (fun ρ S=>(af ρ S).bind wP):=by
 obtain⟨t,h,k⟩:=h
 refine⟨_,yLK h,fun α ρ S σ H Q wd sl q=>k α ρ S σ H _ wd sl (q.bind fun vs rs S1 α1 H1 e1 x1 w1 d1 q1=>?_)⟩
 have q1':Post X.g W α H (if rs.length≤sizeLine then R.ok (Er.val (.tup (zY rs S1).1)) (zY rs S1).2 else R.no) Q:=q1
 split at q1'
 ·rename_i hz
  obtain⟨α2,x2,y2,w2,l2⟩:=zBP w1 x1 d1
  exact⟨by rw [ArgsE.length d1];exact hz,fun p hp=>(q1'.shift x2).newt w2 hp l2⟩
 ·exact q1'.elim
theorem yZ(h:PAm X W es af):PEm X W (.List es pos) (fun ρ S=>(af ρ S).bind wZ):=by
 obtain⟨t,h,k⟩:=h
 refine⟨_,yLL h,fun α ρ S σ H Q wd sl q=>k α ρ S σ H _ wd sl (q.bind fun vs rs S1 α1 H1 e1 x1 w1 d1 q1=>?_)⟩
 have q1':Post X.g W α H (if rs.length≤sizeLine then R.ok (Er.new (zY rs S1).1) (zY rs S1).2 else R.no) Q:=q1
 split at q1'
 ·rename_i hz
  obtain⟨α2,x2,y2,w2,l2⟩:=zBP w1 x1 d1
  exact⟨by rw [ArgsE.length d1];exact hz,fun p hp=>(q1'.shift x2).newl w2 hp l2⟩
 ·exact q1'.elim
inductive ArgsX(K:PySem.W.Frag)(α:List Addr)(H:Hp):List Er→List V→Prop
 | nil:ArgsX K α H [] []
 | cons {r v rs vs}:DenX K α H r v→ArgsX K α H rs vs→ArgsX K α H (r::rs) (v::vs)
theorem ArgsE.x{K:PySem.W.Frag}{H0:Hp}{α:List Addr}{H:Hp}: ∀{rs vs},ArgsE K H0 α H rs vs→ArgsX K α H rs vs
 | _,_,.nil=>.nil
 | _,_,.cons a _ l=>.cons a.1 (ArgsE.x l)
def zIH(X:Cx)(W:XW)(r:List V→Hp→VK→Prop)(F:List Er→Sto→R Er):Prop:= ∀rs vs α S H Q,Wd X.g α S H→ArgsX X.K α H rs vs→Post X.g W α H (F rs S) Q→r vs H Q
theorem zK{id:String}{r:List V→Hp→VK→Prop}{F:List Er→Sto→R Er}{x:Str}{p:Pos}(hc:CallR X (.builtin id) r)(hF:zIH X W r F)(hg:Gl X x)(hm:X.mg x=none)(hv:bootBuiltins x=some (.builtin id))(ha:PAm X W (e::es) af)
  (hn:x≠"__name__":=by decide) (hdb:(x==("__debug__":Str))=false:=by decide)
  (he:starEach (e::es) X.env=(false,eval e X.env)::starEach es X.env:=by rfl) (hpl:(backTo pos (starEach es X.env)).any (·.1)=false:=by rfl):PEm X W (.Call (.Name x p) (e::es) [] pos) (fun ρ S=>(af ρ S).bind F):=by
 obtain⟨t,ha,k⟩:=ha
 exact⟨_,zNB hc hg hm hv ha hn hdb he hpl,fun α ρ S σ H Q wd sl q=>k α ρ S σ H _ wd sl (q.bind fun vs rs S1 α1 H1 e1 x1 w1 d1 q1=>hF rs vs α1 S1 H1 Q w1 (ArgsE.x d1) (q1.shift x1))⟩
theorem gC{T:String}{r:List V→Hp→VK→Prop}{F:List Er→Sto→R Er}{x:Str}{p:Pos}(hc:CallR X (.type T) r)(hF:zIH X W r F)(hg:Gl X x)(hm:X.mg x=none)(hv:bootBuiltins x=some (.type T))(ha:PAm X W (e::es) af)
  (hn:x≠"__name__":=by decide) (hdb:(x==("__debug__":Str))=false:=by decide)
  (he:starEach (e::es) X.env=(false,eval e X.env)::starEach es X.env:=by rfl) (hpl:(backTo pos (starEach es X.env)).any (·.1)=false:=by rfl):PEm X W (.Call (.Name x p) (e::es) [] pos) (fun ρ S=>(af ρ S).bind F):=by
 obtain⟨t,ha,k⟩:=ha
 exact⟨_,yBH hc hg hm hv ha hn hdb he hpl,fun α ρ S σ H Q wd sl q=>k α ρ S σ H _ wd sl (q.bind fun vs rs S1 α1 H1 e1 x1 w1 d1 q1=>hF rs vs α1 S1 H1 Q w1 (ArgsE.x d1) (q1.shift x1))⟩
def MtdM(X:Cx)(W:XW)(r:V→List V→Hp→VK→Prop)(F:Er→List Er→Sto→R Er):Prop:= ∀p rs x vs α S H0 H Q α0,Wd X.g α S H→Ext α0 H0 α H→DenX X.K α H p x→ArgsE X.K H0 α H rs vs→Post X.g W α0 H0 (F p rs S) Q→r x vs H Q
def TyM(X:Cx)(T:String)(ty:Er→Sto→Bool):Prop:= ∀p x α S H,Wd X.g α S H→DenX X.K α H p x→ty p S=true→tyV X.K T x H
theorem yHU{T:String}{name:Str}{id:String}{r:V→List V→Hp→VK→Prop}{F:Er→List Er→Sto→R Er}{ty:Er→Sto→Bool}{apos:Pos}(pa:PlainAttrs T)(slot:Slot T name id)(hty:typeOf (.builtin id)=pure (.type "method_descriptor"))(hm:MtR X id r)(hF:MtdM X W r F)(hT:TyM X T ty)
  (ho:PEm X W a f) (ha:PAm X W (e::es) af)
  (hbase:attributeBase a name X.env (eval a X.env)=eval a X.env:=by rfl)
  (hfew:((backTo pos (starEach (e::es) X.env)).all (fun x=>!x.1)&&(backToKw pos (keywordEach [] X.env)).all (fun x=>x.1.isSome)
   &&decide ((e::es).length+([]:List Keyword).length+(if([]:List Keyword).isEmpty then 0 else 1)<30))=true:=by rfl)
  (hline:(apos.endLine==pos.line)=true:=by rfl) (hs:starEach (e::es) X.env=(false,eval e X.env)::starEach es X.env:=by rfl) (hplain:(backTo pos (starEach es X.env)).any (·.1)=false:=by rfl):
  PEm X W (.Call (.Attribute a name apos) (e::es) [] pos) (fun ρ S=>(f ρ S).bind fun p S1=>if ty p S1=true then(af ρ S1).bind fun rs S2=>F p rs S2 else .no):=by
 obtain⟨to,ho,fo⟩:=ho
 obtain⟨t,ha,k⟩:=ha
 refine⟨_,pe_bm pa slot hty hm ho ha hbase hfew hline hs hplain,fun α ρ S σ H Q wd sl q=>fo α ρ S σ H _ wd sl (q.bind fun u p S1 α1 H1 e1 x1 w1 d1 q1=>?_)⟩
 split at q1
 ·rename_i hz
  exact⟨hT p u α1 S1 H1 w1 d1.1 hz,k α1 ρ S1 σ H1 _ w1 (sl.ext x1) ((q1.shift x1).bind fun vs rs S2 α2 H2 e2 x2 w2 d2 q2=>hF p rs u vs α2 S2 H1 H2 Q α1 w2 x2 (d1.1.ext x2) d2 q2)⟩
 ·exact q1.elim
theorem zSA:POm X W none (fun _ S=>.ok none S):=⟨_,yHG,fun α ρ S σ H Q wd sl q=>q.here wd rfl⟩
def asI:Er→Sto→R (Option Int)
 | .val (.int i),S=>.ok (some i) S
 | _,_=>.no
theorem cU(ha:PEm X W a f):POm X W (some a) (fun ρ S=>(f ρ S).bind asI):=by
 obtain⟨ta,ha,fa⟩:=ha
 refine⟨_,yHH ha,fun α ρ S σ H Q wd sl q=>fa α ρ S σ H _ wd sl (q.bind fun u p S1 α1 H1 e1 x1 w1 d1 q1=>?_)⟩
 unfold asI at q1
 split at q1
 ·exact⟨_,xB d1.1,(q1.shift x1).here w1 rfl⟩
 ·exact q1.elim
def Sl3(X:Cx)(W:XW)(r:V→Option Int→Option Int→Hp→VK→Prop)(F:Er→Option Int→Option Int→Sto→R Er):Prop:= ∀p lo hi x α S H Q,Wd X.g α S H→DenX X.K α H p x→Post X.g W α H (F p lo hi S) Q→r x lo hi H Q
theorem yDY{lo hi:Option Expr}{r:V→Option Int→Option Int→Hp→VK→Prop}{F:Er→Option Int→Option Int→Sto→R Er}{lf hf:Rho→Sto→R (Option Int)}{p2:Pos}(hr:SlR X r)(hF:Sl3 X W r F)(ha:PEm X W a f)(hl:POm X W lo lf)(hh:POm X W hi hf):
  PEm X W (.Subscript a (.Slice lo hi none p2) pos) (fun ρ S=>(f ρ S).bind fun p S1=>(lf ρ S1).bind fun l S2=>(hf ρ S2).bind fun u S3=>F p l u S3):=by
 obtain⟨ta,ha,fa⟩:=ha
 obtain⟨tl,hl,fl⟩:=hl
 obtain⟨th,hh,fh⟩:=hh
 refine⟨_,yDK hr ha hl hh,fun α ρ S σ H Q wd sl q=>fa α ρ S σ H _ wd sl (q.bind fun u p S1 α1 H1 e1 x1 w1 d1 q1=>fl α1 ρ S1 σ H1 _ w1 (sl.ext x1) ((q1.shift x1).bind fun u2 l S2 α2 H2 e2 x2 w2 d2 q2=>
  fh α2 ρ S2 σ H2 _ w2 ((sl.ext x1).ext x2) ((q2.shift x2).bind fun u3 m S3 α3 H3 e3 x3 w3 d3 q3=>?_)))⟩
 cases d2
 cases d3
 exact hF p u2 u3 u α3 S3 H3 Q w3 ((d1.1.ext x2).ext x3) (q3.shift x3)
end
end M
end L2
namespace L2
namespace M
open PySem PySem.Spec PyProof.Rows
inductive Fl where
 | next (ρ:Rho) | ret (r:Er) | brk (ρ:Rho) | cont (ρ:Rho)
def PostS(g:Gm)(W:XW)(α:List Addr)(H:Hp)(D:Ends):R Fl→Prop
 | .ok (.next ρ) S=> ∀σ α' H',Ext α H α' H'→Wd g α' S H'→Slots g.K α' H' ρ σ→D.nx σ H'
 | .ok (.ret r) S=> ∀v α' H',Ext α H α' H'→Wd g α' S H'→DenE g.K H α' H' r v→D.rt v H'
 | .ok (.brk ρ) S=> ∀σ α' H',Ext α H α' H'→Wd g α' S H'→Slots g.K α' H' ρ σ→D.bk σ H'
 | .ok (.cont ρ) S=> ∀σ α' H',Ext α H α' H'→Wd g α' S H'→Slots g.K α' H' ρ σ→D.ct σ H'
 | .exc c fs S=> ∀α' H',Ext α H α' H'→Wd g α' S H'→W c fs S α' H'
 | .no=>False
section
variable{g:Gm}{W:XW}{α α':List Addr}{H H':Hp}{D D':Ends}
theorem PostS.shift(x:Ext α H α' H'): ∀{m:R Fl},PostS g W α H D m→PostS g W α' H' D m
 | .ok (.next ρ) S,q=>fun σ α2 H2 x2 w2 s2=>q σ α2 H2 (x.trans x2) w2 s2
 | .ok (.ret r) S,q=>fun v α2 H2 x2 w2 d2=>q v α2 H2 (x.trans x2) w2 (d2.back fun b h=>x.free h)
 | .ok (.brk ρ) S,q=>fun σ α2 H2 x2 w2 s2=>q σ α2 H2 (x.trans x2) w2 s2
 | .ok (.cont ρ) S,q=>fun σ α2 H2 x2 w2 s2=>q σ α2 H2 (x.trans x2) w2 s2
 | .exc c fs S,q=>fun α2 H2 x2 w2=>q α2 H2 (x.trans x2) w2
 | .no,q=>q
theorem PostS.expr{β τ:Type}[Dn β τ]{m:R β}{k:β→Sto→R Fl}{Q':τ→Hp→Prop}(q:PostS g W α H D (m.bind k))
  (f: ∀u b S1 α1 H1,m=.ok b S1→Ext α H α1 H1→Wd g α1 S1 H1→Dn.d g H α1 S1 H1 b u→PostS g W α H D (k b S1)→Q' u H1):Post g W α H m Q':=by
 cases m with
 | ok b S=>exact fun u α1 H1 x w d=>f u b S α1 H1 rfl x w d q
 | exc c fs S=>exact q
 | no=>exact q
theorem PostS.stmt{m:R Fl}{k:Fl→Sto→R Fl}(q:PostS g W α H D (m.bind k))
  (hn: ∀ρ S σ α1 H1,m=.ok (.next ρ) S→Ext α H α1 H1→Wd g α1 S H1→Slots g.K α1 H1 ρ σ→PostS g W α H D (k (.next ρ) S)→D'.nx σ H1)
  (hr: ∀r S v α1 H1,m=.ok (.ret r) S→Ext α H α1 H1→Wd g α1 S H1→DenE g.K H α1 H1 r v→PostS g W α H D (k (.ret r) S)→D'.rt v H1)
  (hb: ∀ρ S σ α1 H1,m=.ok (.brk ρ) S→Ext α H α1 H1→Wd g α1 S H1→Slots g.K α1 H1 ρ σ→PostS g W α H D (k (.brk ρ) S)→D'.bk σ H1)
  (hc: ∀ρ S σ α1 H1,m=.ok (.cont ρ) S→Ext α H α1 H1→Wd g α1 S H1→Slots g.K α1 H1 ρ σ→PostS g W α H D (k (.cont ρ) S)→D'.ct σ H1):PostS g W α H D' m:=by
 cases m with
 | ok fl S=>
  cases fl with
  | next ρ=>exact fun σ α1 H1 x w s=>hn ρ S σ α1 H1 rfl x w s q
  | ret r=>exact fun v α1 H1 x w d=>hr r S v α1 H1 rfl x w d q
  | brk ρ=>exact fun σ α1 H1 x w s=>hb ρ S σ α1 H1 rfl x w s q
  | cont ρ=>exact fun σ α1 H1 x w s=>hc ρ S σ α1 H1 rfl x w s q
 | exc c fs S=>exact q
 | no=>exact q
end
def PSm(X:Cx)(W:XW)(st:Stmt)(F:Rho→Sto→R Fl):Prop:=
 ∃t,PS X st t∧ ∀α ρ S σ H D,Wd X.g α S H→Slots X.K α H ρ σ→PostS X.g W α H D (F ρ S)→t D σ H
def zKA(X:Cx)(W:XW)(st:List Stmt)(F:Rho→Sto→R Fl):Prop:=
 ∃t,PSs X st t∧ ∀α ρ S σ H D,Wd X.g α S H→Slots X.K α H ρ σ→PostS X.g W α H D (F ρ S)→t D σ H
def yA(F G:Rho→Sto→R Fl):Rho→Sto→R Fl:=fun ρ S=>(F ρ S).bind fun fl S1=>match fl with
 | .next ρ'=>G ρ' S1
 | .ret r=>.ok (.ret r) S1
 | .brk ρ'=>.ok (.brk ρ') S1
 | .cont ρ'=>.ok (.cont ρ') S1
section
variable{X:Cx}{W:XW}{st:Stmt}{sts as bs:List Stmt}{F G:Rho→Sto→R Fl}{f g:Rho→Sto→R Er}{tf:Rho→Sto→R Bool}{e c:Expr}{pos:Pos}
theorem zX:zKA X W [] (fun ρ S=>.ok (.next ρ) S):=⟨_,yGY,fun α ρ S σ H D wd sl q=>q σ α H (Ext.refl α H) wd sl⟩
theorem zJ(h:PSm X W st F):zKA X W [st] F:=let ⟨t,h,k⟩:=h;⟨t,yGZ h,k⟩
theorem zI(h1:PSm X W st F)(h2:zKA X W sts G):zKA X W (st::sts) (yA F G):=by
 obtain⟨t,h1,k1⟩:=h1
 obtain⟨u,h2,k2⟩:=h2
 refine⟨_,yDA h1 h2,fun α ρ S σ H D wd sl q=>k1 α ρ S σ H _ wd sl (q.stmt ?_ ?_ ?_ ?_)⟩
 ·intro ρ1 S1 σ1 α1 H1 e x1 w1 s1 q1
  exact k2 α1 ρ1 S1 σ1 H1 D w1 s1 (PostS.shift x1 q1)
 ·intro r S1 v α1 H1 e x1 w1 d1 q1
  exact q1 v α1 H1 x1 w1 d1
 ·intro ρ1 S1 σ1 α1 H1 e x1 w1 s1 q1
  exact q1 σ1 α1 H1 x1 w1 s1
 ·intro ρ1 S1 σ1 α1 H1 e x1 w1 s1 q1
  exact q1 σ1 α1 H1 x1 w1 s1
theorem zN(he:PEm X W e f):PSm X W (.Return (some e) pos) (fun ρ S=>(f ρ S).bind fun r S1=>.ok (.ret r) S1):=by
 obtain⟨t,he,k⟩:=he
 exact⟨_,yKZ he,fun α ρ S σ H D wd sl q=>k α ρ S σ H _ wd sl (q.expr fun u r S1 α1 H1 e x1 w1 d1 q1=>q1 u α1 H1 x1 w1 d1)⟩
theorem zFV(he:PEm X W e f)(hs:swapsWith e none pos.line X.env=pure false:=by rfl):PSm X W (.Expr e pos) (fun ρ S=>(f ρ S).bind fun _ S1=>.ok (.next ρ) S1):=by
 obtain⟨t,he,k⟩:=he
 exact⟨_,yHA he hs,fun α ρ S σ H D wd sl q=>k α ρ S σ H _ wd sl (q.expr fun u r S1 α1 H1 e x1 w1 d1 q1=>q1 σ α1 H1 x1 w1 (sl.ext x1))⟩
theorem yG(hc:PTm X W c tf)(ha:zKA X W as F)(hb:zKA X W bs G):PSm X W (.If c as bs pos) (fun ρ S=>(tf ρ S).bind fun k S1=>if k=true then F ρ S1 else G ρ S1):=by
 obtain⟨tc,hc,kc⟩:=hc
 obtain⟨ta,ha,ka⟩:=ha
 obtain⟨tb,hb,kb⟩:=hb
 refine⟨_,ps_if hc ha hb,fun α ρ S σ H D wd sl q=>kc α ρ S σ H _ wd sl (q.expr fun u p S1 α1 H1 e x1 w1 d1 q1=>?_)⟩
 cases d1
 cases u with
 | true=>rw [if_pos rfl]at q1 ⊢; exact ka α1 ρ S1 σ H1 D w1 (sl.ext x1) (PostS.shift x1 q1)
 | false=>rw [if_neg Bool.false_ne_true]at q1 ⊢; exact kb α1 ρ S1 σ H1 D w1 (sl.ext x1) (PostS.shift x1 q1)
instance:Dn Rho St:=⟨fun g _ α' _ H' ρ σ=>Slots g.K α' H' ρ σ,fun _ q=>q⟩
def PGm(X:Cx)(W:XW)(tg:Expr)(gf:MV→Rho→Sto→R Rho):Prop:=
 ∃t,PG X tg t∧ ∀α ρ S σ H d v Q,Wd X.g α S H→Slots X.K α H ρ σ→Den X.K α H d v→Post X.g W α H (gf d ρ S) Q→t v σ H Q
def PGsm(X:Cx)(W:XW)(tgs:List Expr)(gf:List MV→Rho→Sto→R Rho):Prop:=
 ∃t,PGs X tgs t∧ ∀α ρ S σ H ds vs Q,Wd X.g α S H→Slots X.K α H ρ σ→DenL X.K α H ds vs→Post X.g W α H (gf ds ρ S) Q→t vs σ H Q
def gNm(i:Nat):MV→Rho→Sto→R Rho:=fun d ρ S=>.ok (ρ.set i (some d)) S
theorem kA(i:Nat){x:Str}(hN:X.N.Nodup)(hi:X.N[i]? =some x:=by rfl)(hx:Loc X.env.scope x:=by first | exact Or.inl rfl | exact Or.inr rfl)(hf:X.fn x=true∨X.env.scope.names.lookup x=some .local:=by first | exact .inl rfl | exact .inr rfl | assumption):
  PGm X W (.Name x pos) (gNm i):=⟨_,zZC hN hi hx hf,fun α ρ S σ H d v Q wd sl de q=>Post.here (b:=ρ.set i (some d)) q wd (sl.set de)⟩
def jR:List MV→Rho→Sto→R Rho
 | [],ρ,S=>.ok ρ S
 | _,_,_=>.no
def yC(g1:MV→Rho→Sto→R Rho)(g2:List MV→Rho→Sto→R Rho):List MV→Rho→Sto→R Rho
 | d::ds,ρ,S=>(g1 d ρ S).bind fun ρ1 S1=>g2 ds ρ1 S1
 | _,_,_=>.no
theorem zNQ:PGsm X W [] jR:=⟨_,zZD,fun α ρ S σ H ds vs Q wd sl de q=>by
 cases ds with
 | nil=>exact⟨de.isnil,Post.here (b:=ρ) q wd sl⟩
 | cons d ds=>exact q.elim⟩
theorem bN{es:List Expr}{g1:MV→Rho→Sto→R Rho}{g2:List MV→Rho→Sto→R Rho}(h1:PGm X W e g1)(h2:PGsm X W es g2)(hs:(assignEach (e::es) X.env).map (·.2)=assign e X.env::(assignEach es X.env).map (·.2):=by rfl):PGsm X W (e::es) (yC g1 g2):=by
 obtain⟨t1,h1,k1⟩:=h1
 obtain⟨t2,h2,k2⟩:=h2
 refine⟨_,zUC h1 h2 hs,fun α ρ S σ H ds vs Q wd sl de q=>?_⟩
 cases ds with
 | nil=>exact q.elim
 | cons d ds=>
  obtain⟨v,r,rfl,a,l⟩:=de.uncons
  refine⟨v,r,rfl,k1 α ρ S σ H d v _ wd sl a (Post.bind q fun u p S1 α1 H1 e x1 w1 d1 q1=>k2 α1 p S1 u H1 ds r Q w1 d1 (l.ext x1) (q1.shift x1))⟩
def gTp(n:Nat)(g2:List MV→Rho→Sto→R Rho):MV→Rho→Sto→R Rho
 | .tup ds,ρ,S=>if ds.length=n then g2 ds ρ S else .no
 | _,_,_=>.no
theorem zNR{es:List Expr}{k n:Nat}{g2:List MV→Rho→Sto→R Rho}(hc:X.calm=true)(h:PGsm X W es g2)
  (hn:(assignEach es X.env).length=n:=by rfl) (hst:(assignEach es X.env).findIdx? (·.1)=none:=by rfl):PGm X W (.Tuple es k pos) (gTp n g2):=by
 obtain⟨t,h,k⟩:=h
 refine⟨_,yDC hc h hn hst,fun α ρ S σ H d v Q wd sl de q=>?_⟩
 unfold gTp at q
 split at q
 ·split at q
  ·rename_i hl
   obtain⟨a,vs,rfl,s,l⟩:=kR de
   exact⟨a,vs,rfl,s,by rw [l.length];exact hl,k α ρ S σ H _ vs Q wd sl l q⟩
  ·exact q.elim
 ·exact q.elim
def zAY(r:Er)(S:Sto):R MV:=match r with
 | .val d=>.ok d S
 | .new ds=>.ok (.loc S.length) (S++[.lst ds])
theorem zFW{g:Gm}{H0:Hp}{α0 α:List Addr}{H:Hp}{S:Sto}{r:Er}{v:V}(w:Wd g α S H)(x:Ext α0 H0 α H)(d:DenE g.K H0 α H r v):
  ∃d' S' α',zAY r S=.ok d' S'∧Ext α0 H0 α' H∧Ex0 α H α' H∧Wd g α' S' H∧Den g.K α' H d' v:=by
 cases r with
 | val d'=>exact⟨d',S,α,rfl,x,⟨⟨[],by simp⟩,fun _ _ h=>h,fun _ _ _ h=>h⟩,w,d.1⟩
 | new ds=>
  obtain⟨⟨c,us,rfl,h1,h2,h3⟩,h4⟩:=d
  exact⟨.loc S.length,S++[.lst ds],α++[c],rfl,w.enterx x (h4 c rfl) h2,Ex0.grow α [c] H,w.enter h1 h2 h3,zIE (by rw [←w.len,List.getElem?_append_right (Nat.le_refl _),Nat.sub_self];rfl)⟩
def kM(ρ:Rho)(i:Nat)(r:Er)(S:Sto):R Fl:=(zAY r S).bind fun d S1=>.ok (.next (ρ.set i (some d))) S1
theorem yH(i:Nat){x:Str}{pos':Pos}(hN:X.N.Nodup)(he:PEm X W e f)(hi:X.N[i]? =some x:=by rfl)(hx:Loc X.env.scope x:=by first | exact Or.inl rfl | exact Or.inr rfl)
  (hs:swapsWith e (some (.Name x pos')) pos.line X.env=pure false:=by rfl) (hf:X.fn x=true∨X.env.scope.names.lookup x=some .local:=by first | exact .inl rfl | exact .inr rfl | assumption):
  PSm X W (.Assign [.Name x pos'] e pos) (fun ρ S=>(f ρ S).bind (kM ρ i)):=by
 obtain⟨t,he,k⟩:=he
 refine⟨_,yLC hN hi hx he hs hf,fun α ρ S σ H D wd sl q=>k α ρ S σ H _ wd sl (q.expr fun u r S1 α1 H1 e x1 w1 d1 q1=>?_)⟩
 obtain⟨d',S',α',e1,x',y',w',de⟩:=zFW w1 x1 d1
 unfold kM at q1
 rw [e1]at q1
 exact q1 _ α' H1 x' w' (((sl.ext x1).ex0 y').set de)
def asgF(gf:MV→Rho→Sto→R Rho)(ρ:Rho)(r:Er)(S:Sto):R Fl:=(zAY r S).bind fun d S1=>(gf d ρ S1).bind fun ρ' S2=>.ok (.next ρ') S2
theorem yMA{tg:Expr}{gf:MV→Rho→Sto→R Rho}(he:PEm X W e f)(hg:PGm X W tg gf)(hs:swapsWithSole [tg] e pos.line X.env=pure false:=by rfl)(hw:swappedStores [tg] e X.env=pure none:=by rfl)
  (h1:(assignEach [tg] X.env).map (·.2)=[assign tg X.env]:=by rfl):PSm X W (.Assign [tg] e pos) (fun ρ S=>(f ρ S).bind (asgF gf ρ)):=by
 obtain⟨t,he,k⟩:=he
 obtain⟨tg',hg,kg⟩:=hg
 refine⟨_,yLB he hg hs hw h1,fun α ρ S σ H D wd sl q=>k α ρ S σ H _ wd sl (q.expr fun u r S1 α1 H1 e x1 w1 d1 q1=>?_)⟩
 obtain⟨d',S',α',e1,x',y',w',de⟩:=zFW w1 x1 d1
 unfold asgF at q1
 rw [e1]at q1
 have q1:PostS X.g W α H D ((gf d' ρ S').bind fun ρ' S2=>.ok (.next ρ') S2):=q1
 exact kg α' ρ S' σ H1 d' u _ w' ((sl.ext x1).ex0 y') de ((PostS.shift x' q1).expr fun σ2 ρ2 S2 α2 H2 e2 x2 w2 s2 q2=>q2 σ2 α2 H2 x2 w2 s2)
structure Wk where
 ds:List MV
 gs:List (Nat×List MV)
def stay(gs:List (Nat×List MV))(S:Sto):Prop:= ∀p∈gs,S[p.1]? =some (.lst p.2)
def ItM(g:Gm)(J:It)(P:List Addr→Sto→Hp→Prop)(ds:List MV):Prop:= ∀i α S H,P α S H→Wd g α S H→(i<ds.length→J.go i H∧ ∀x H',J.yld i H x H'→Ext α H α H'∧Wd g α S H'∧P α S H'∧ ∃d,ds[i]? =some d∧Den g.K α H' d x)∧(ds.length≤i→J.stop i H)
structure WkD(g:Gm)(α:List Addr)(S:Sto)(H:Hp)(k:Wk)(J:It)(P:List Addr→Sto→Hp→Prop):Prop where
 it:ItM g J P k.ds
 here:P α S H
 stays: ∀α1 S1 H1 α2 S2 H2,P α1 S1 H1→Ext α1 H1 α2 H2→Wd g α2 S2 H2→stay k.gs S2→P α2 S2 H2
 st:stay k.gs S
instance:Dn Wk It:=⟨fun g _ α S H k J=> ∃P,WkD g α S H k J P,fun _ q=>q⟩
abbrev PIm(X:Cx)(W:XW)(tg iter:Expr)(f:Rho→Sto→R Wk):Prop:=Jd X W (PI X tg iter) f
variable{tg iter:Expr}
theorem zNS{a:Addr}{ds:List MV}:ItM X.g (Itl X.K a) (fun α S H=> ∃vs,SqL X.K H a vs∧DenL X.K α H ds vs) ds:=by
 intro i α S H ⟨vs,s,l⟩ w
 have hl:=l.length
 refine⟨fun hi=>?_,fun hi=>⟨vs,s,by omega⟩⟩
 have hv:i<vs.length:=by omega
 refine⟨⟨vs,vs[i],s,List.getElem?_eq_getElem hv⟩,fun x H' y=>?_⟩
 obtain⟨rfl,y⟩:=y
 obtain⟨d,h1,h2⟩:=l.get (y vs s)
 exact⟨Ext.refl _ _,w,⟨vs,s,l⟩,d,h1,h2⟩
theorem yHV{a:Addr}{ds:List MV}:ItM X.g (Itt X.K a) (fun α S H=> ∃vs,SqT X.K H a vs∧DenL X.K α H ds vs) ds:=by
 intro i α S H ⟨vs,s,l⟩ w
 have hl:=l.length
 refine⟨fun hi=>?_,fun hi=>⟨vs,s,by omega⟩⟩
 have hv:i<vs.length:=by omega
 refine⟨⟨vs,vs[i],s,List.getElem?_eq_getElem hv⟩,fun x H' y=>?_⟩
 obtain⟨rfl,y⟩:=y
 obtain⟨d,h1,h2⟩:=l.get (y vs s)
 exact⟨Ext.refl _ _,w,⟨vs,s,l⟩,d,h1,h2⟩
theorem yHW{x:List Nat}:ItM X.g (Its x) (fun _ _ _=>True) (x.map fun c=>.str [c]):=by
 intro i α S H _ w
 refine⟨fun hi=>⟨show i<x.length by simpa using hi,fun v H' y=>?_⟩,fun hi=>by show x.length≤i;simpa using hi⟩
 obtain⟨rfl,c,h1,h2⟩:=y
 refine⟨Ext.refl _ _,w,trivial,.str [c],by rw [List.getElem?_map,h1];rfl,?_⟩
 rw [h2]
 exact cS [c]
theorem yBR{lo:Int}{n:Nat}:ItM X.g (Itr lo n) (fun _ _ _=>True) ((List.range n).map fun k=>.int (lo+(k:Nat))):=by
 intro i α S H _ w
 refine⟨fun hi=>⟨show i<n by simpa using hi,fun v H' y=>?_⟩,fun hi=>by show n≤i;simpa using hi⟩
 obtain⟨rfl,y⟩:=y
 have hi':i<n:=by simpa using hi
 refine⟨Ext.refl _ _,w,trivial,.int (lo+i),by rw [List.getElem?_map,List.getElem?_range hi'];rfl,?_⟩
 rw [y]
 exact xJ _
def itL:Er→Sto→R Wk
 | .new ds,S=>.ok ⟨ds,[]⟩ S
 | .val (.scr ds),S=>.ok ⟨ds,[]⟩ S
 | .val (.loc l),S=>match S[l]? with
  | some (.lst ds)=>.ok ⟨ds,[(l,ds)]⟩ S
  | _=>.no
 | _,_=>.no
theorem gJ{S:Sto}:stay [] S:=fun p h=>by simp at h
theorem zSB(he:PEm X W iter f):PIm X W tg iter (fun ρ S=>(f ρ S).bind itL):=by
 obtain⟨t,he,k⟩:=he
 refine⟨_,yHB he,fun α ρ S σ H Rc wd sl q=>k α ρ S σ H _ wd sl (q.bind fun u p S1 α1 H1 e x1 w1 d1 q1=>?_)⟩
 replace q1:=q1.shift x1
 unfold itL at q1
 split at q1
 ·rename_i S0 ds
  obtain⟨⟨b,vs,rfl,h1,h2,h3⟩,h4⟩:=d1
  refine⟨b,rfl,⟨vs,.of h1⟩,q1.here (u:=Itl X.K b) w1 ⟨fun α2 S2 H2=> ∃vs,SqL X.K H2 b vs∧DenL X.K α2 H2 ds vs∧H2 b=some (.lst vs)∧b∉α2,?_,⟨vs,.of h1,h3,h1,h2⟩,?_,gJ⟩⟩
  ·intro i α2 S2 H2 ⟨vs2,a1,a2,a3,a4⟩ w2
   obtain⟨i1,i2⟩:=zNS (X:=X) (a:=b) (ds:=ds) i α2 S2 H2 ⟨vs2,a1,a2⟩ w2
   refine⟨fun hi=>⟨(i1 hi).1,fun x H' y=>?_⟩,i2⟩
   obtain⟨j1,j2,j3,j4⟩:=(i1 hi).2 x H' y
   obtain⟨rfl,_⟩:=y
   exact⟨j1,j2,⟨vs2,a1,a2,a3,a4⟩,j4⟩
  ·intro α2 S2 H2 α3 S3 H3 ⟨vs2,a1,a2,a3,a4⟩ x w3 _
   exact⟨vs2,.of (x.keep b _ a3 a4),a2.ext x,x.keep b _ a3 a4,x.out a3 a4⟩
 ·rename_i S0 ds
  obtain⟨a,vs,rfl,s,l⟩:=zNP d1.1
  refine⟨a,rfl,⟨vs,s.l⟩,q1.here (u:=Itl X.K a) w1 ⟨fun α2 S2 H2=> ∃vs,SqL X.K H2 a vs∧DenL X.K α2 H2 ds vs∧SqF X.K H2 a vs,?_,⟨vs,s.l,l,s⟩,?_,gJ⟩⟩
  ·intro i α2 S2 H2 ⟨vs2,a1,a2,a3⟩ w2
   obtain⟨i1,i2⟩:=zNS (X:=X) (a:=a) (ds:=ds) i α2 S2 H2 ⟨vs2,a1,a2⟩ w2
   refine⟨fun hi=>⟨(i1 hi).1,fun x H' y=>?_⟩,i2⟩
   obtain⟨j1,j2,j3,j4⟩:=(i1 hi).2 x H' y
   obtain⟨rfl,_⟩:=y
   exact⟨j1,j2,⟨vs2,a1,a2,a3⟩,j4⟩
  ·intro α2 S2 H2 α3 S3 H3 ⟨vs2,a1,a2,a3⟩ x w3 _
   exact⟨vs2,(x.sqF a3).l,a2.ext x,x.sqF a3⟩
 ·rename_i S0 n
  obtain⟨a,rfl,h⟩:=zAW d1.1
  obtain⟨o,h1,h2⟩:=w1.of h
  rw [h1]at q1
  cases o with
  | lst ds=>
   obtain⟨vs,h3,l⟩:=h2
   refine⟨a,rfl,⟨vs,.of h3⟩,Post.here (b:=(⟨ds,[(n,ds)]⟩:Wk)) q1 (u:=Itl X.K a) w1 ⟨fun α2 S2 H2=> ∃vs,SqL X.K H2 a vs∧DenL X.K α2 H2 ds vs∧α2[n]? =some a,?_,⟨vs,.of h3,l,h⟩,?_,?_⟩⟩
   ·intro i α2 S2 H2 ⟨vs2,a1,a2,a3⟩ w2
    obtain⟨i1,i2⟩:=zNS (X:=X) (a:=a) (ds:=ds) i α2 S2 H2 ⟨vs2,a1,a2⟩ w2
    refine⟨fun hi=>⟨(i1 hi).1,fun x H' y=>?_⟩,i2⟩
    obtain⟨j1,j2,j3,j4⟩:=(i1 hi).2 x H' y
    obtain⟨rfl,_⟩:=y
    exact⟨j1,j2,⟨vs2,a1,a2,a3⟩,j4⟩
   ·intro α2 S2 H2 α3 S3 H3 ⟨vs2,a1,a2,a3⟩ x w3 hs
    have a3':=x.at a3
    have:=w3.obj n a _ a3' (hs (n,ds) (by simp))
    obtain⟨vs3,b1,b2⟩:=this
    exact⟨vs3,.of b1,b2,a3'⟩
   ·intro p hp
    have:p=(n,ds):=by simpa using hp
    subst this
    exact h1
  | dic ds=>exact q1.elim
  | ins c fs=>exact q1.elim
 ·exact q1.elim
def itT:Er→Sto→R Wk
 | .val (.tup ds),S=>.ok ⟨ds,[]⟩ S
 | _,_=>.no
theorem zGX(he:PEm X W iter f):PIm X W tg iter (fun ρ S=>(f ρ S).bind itT):=by
 obtain⟨t,he,k⟩:=he
 refine⟨_,yLD he,fun α ρ S σ H Rc wd sl q=>k α ρ S σ H _ wd sl (q.bind fun u p S1 α1 H1 e x1 w1 d1 q1=>?_)⟩
 replace q1:=q1.shift x1
 unfold itT at q1
 split at q1
 ·rename_i S0 ds
  obtain⟨a,vs,rfl,s,l⟩:=cL d1.1
  exact⟨a,rfl,⟨vs,s⟩,q1.here (u:=Itt X.K a) w1 ⟨_,yHV,⟨vs,s,l⟩,fun α2 S2 H2 α3 S3 H3 ⟨vs2,a1,a2⟩ x w3 _=>⟨vs2,x.sqT a1,a2.ext x⟩,gJ⟩⟩
 ·exact q1.elim
def itS:Er→Sto→R Wk
 | .val (.str x),S=>.ok ⟨x.map fun c=>.str [c],[]⟩ S
 | _,_=>.no
theorem yDZ(he:PEm X W iter f):PIm X W tg iter (fun ρ S=>(f ρ S).bind itS):=by
 obtain⟨t,he,k⟩:=he
 refine⟨_,yLU he,fun α ρ S σ H Rc wd sl q=>k α ρ S σ H _ wd sl (q.bind fun u p S1 α1 H1 e x1 w1 d1 q1=>?_)⟩
 replace q1:=q1.shift x1
 unfold itS at q1
 split at q1
 ·rename_i S0 x
  exact⟨x,jX d1.1,q1.here (u:=Its x) w1 ⟨_,yHW,trivial,fun _ _ _ _ _ _ _ _ _ _=>trivial,gJ⟩⟩
 ·exact q1.elim
def zEN:List Er→Sto→R Wk
 | [.val (.int j)],S=>if -(2 ^ 62)≤j∧j<2 ^ 62 then .ok ⟨(List.range j.toNat).map fun k=>.int (k:Nat),[]⟩ S else .no
 | _,_=>.no
variable{af:Rho→Sto→R (List Er)}{p:Pos}{a b:Expr}
theorem yEA{K:PySem.W.Frag}{H0:Hp}{α:List Addr}{H:Hp}{r:Er}{vs:List V}(d:ArgsE K H0 α H [r] vs): ∃v,vs=[v]∧DenX K α H r v:=by
 cases d with
 | cons a n l=>cases l;exact⟨_,rfl,a.1⟩
theorem args2{K:PySem.W.Frag}{H0:Hp}{α:List Addr}{H:Hp}{r r':Er}{vs:List V}(d:ArgsE K H0 α H [r,r'] vs): ∃v u,vs=[v,u]∧DenX K α H r v∧DenX K α H r' u:=by
 cases d with
 | cons a n l=>obtain⟨u,rfl,l'⟩:=yEA l;exact⟨_,u,rfl,a.1,l'⟩
theorem gD(hg:Gl X "range")(hm:X.mg "range"=none)(ha:PAm X W [a] af)(hs:starEach [a] X.env=[(false,eval a X.env)]:=by rfl):PIm X W tg (.Call (.Name "range" p) [a] [] pos) (fun ρ S=>(af ρ S).bind zEN):=by
 obtain⟨t,ha,k⟩:=ha
 refine⟨_,yBD hg hm ha hs,fun α ρ S σ H Rc wd sl q=>k α ρ S σ H _ wd sl (q.bind fun vs rs S1 α1 H1 e x1 w1 d1 q1=>?_)⟩
 replace q1:=q1.shift x1
 unfold zEN at q1
 split at q1
 ·split at q1
  ·rename_i S0 j hj
   obtain⟨v,rfl,dv⟩:=yEA d1
   cases xB dv
   have:=yBR (X:=X) (lo:=0) (n:=j.toNat)
   simp only [Int.zero_add]at this
   exact⟨j,rfl,hj.1,hj.2,q1.here (u:=Itr 0 j.toNat) w1 ⟨_,this,trivial,fun _ _ _ _ _ _ _ _ _ _=>trivial,gJ⟩⟩
  ·exact q1.elim
 ·exact q1.elim
open Classical in
noncomputable def wK(gf:MV→Rho→Sto→R Rho)(body:Rho→Sto→R Fl)(gs:List (Nat×List MV)):List MV→Rho→Sto→R Fl
 | [],ρ,S=>.ok (.next ρ) S
 | d::ds,ρ,S=>(gf d ρ S).bind fun ρ0 S0=>(body ρ0 S0).bind fun fl S1=>match fl with
  | .next ρ'=>if stay gs S1 then wK gf body gs ds ρ' S1 else .no
  | .cont ρ'=>if stay gs S1 then wK gf body gs ds ρ' S1 else .no
  | .brk ρ'=>.ok (.next ρ') S1
  | .ret r=>.ok (.ret r) S1
open Classical in
theorem zAZ{itf:Rho→Sto→R Wk}{gf:MV→Rho→Sto→R Rho}(hp:PassesOwn (model X.prog X.w) X.A X.env X.xe)(hc:X.calm=true)(hi:PIm X W tg iter itf)(hg:PGm X W tg gf)(hb:zKA X W as F)
  (hs: ∀y,foldedSetIterable iter X.env y=pure y:=by intro _;rfl):PSm X W (.For tg iter as [] pos) (fun ρ S=>(itf ρ S).bind fun k S1=>wK gf F k.gs k.ds ρ S1):=by
 obtain⟨wi,hi,ki⟩:=hi
 obtain⟨tg',hg,kg⟩:=hg
 obtain⟨tb,hb,kb⟩:=hb
 refine⟨_,yLE hp hc hi hg hb hs,fun α ρ S σ H D wd sl q=>ki α ρ S σ H _ wd sl (q.expr fun J k S1 α1 H1 e x1 w1 d1 q1=>?_)⟩
 obtain⟨P,hP⟩:=d1
 have sl1:=sl.ext x1
 replace q1:=PostS.shift x1 q1
 refine⟨fun n m σ2 H2=>m=k.ds.length - n∧n≤k.ds.length∧ ∃α2 ρ2 S2,Wd X.g α2 S2 H2∧Slots X.K α2 H2 ρ2 σ2∧P α2 S2 H2∧PostS X.g W α2 H2 D (wK gf F k.gs (k.ds.drop n) ρ2 S2),⟨_,rfl,Nat.zero_le _,α1,ρ,S1,w1,sl1,hP.here,by simpa using q1⟩,?_⟩
 rintro n m σ2 H2 ⟨rfl,hn,α2,ρ2,S2,w2,sl2,p2,q2⟩
 obtain⟨i1,i2⟩:=hP.it n α2 S2 H2 p2 w2
 by_cases hlt:n<k.ds.length
 ·obtain⟨go,yl⟩:=i1 hlt
  refine .inr ⟨go,fun σ3 H3=> ∃α3 ρ3 S3,Wd X.g α3 S3 H3∧Slots X.K α3 H3 ρ3 σ3∧P α3 S3 H3∧PostS X.g W α3 H3 D (wK gf F k.gs (k.ds.drop (n+1)) ρ3 S3),fun σ3 H3 ⟨α3,ρ3,S3,h3⟩=>⟨k.ds.length - (n+1),by omega,rfl,hlt,α3,ρ3,S3,h3⟩,fun v H3 y=>?_⟩
  obtain⟨x3,w3,p3,d,hd,dv⟩:=yl v H3 y
  have hdrop:k.ds.drop n=d::k.ds.drop (n+1):=by
   rw [List.drop_eq_getElem_cons hlt]
   have:=List.getElem?_eq_getElem hlt
   rw [hd]at this
   rw [←Option.some.inj this]
  rw [hdrop]at q2
  unfold wK at q2
  replace q2:=PostS.shift x3 q2
  refine kg α2 ρ2 S2 σ2 H3 d v _ w3 (sl2.ext x3) dv (q2.expr fun σ4 ρ4 S4 α4 H4 e4 x4 w4 s4 q4=>?_)
  have p4: ∀α5 S5 H5,Ext α4 H4 α5 H5→Wd X.g α5 S5 H5→stay k.gs S5→P α5 S5 H5:=fun α5 S5 H5 x5 w5 s5=>hP.stays α2 S2 H3 α5 S5 H5 p3 (x4.trans x5) w5 s5
  refine kb α4 ρ4 S4 σ4 H4 _ w4 s4 ((PostS.shift x4 q4).stmt ?_ ?_ ?_ ?_)
  ·intro ρ5 S5 σ5 α5 H5 e5 x5 w5 s5 q5
   have q5':PostS X.g W α4 H4 D (if stay k.gs S5 then wK gf F k.gs (k.ds.drop (n+1)) ρ5 S5 else .no):=q5
   split at q5'
   ·rename_i hst
    exact⟨α5,ρ5,S5,w5,s5,p4 α5 S5 H5 x5 w5 hst,PostS.shift x5 q5'⟩
   ·exact q5'.elim
  ·intro r S5 v5 α5 H5 e5 x5 w5 d5 q5
   exact q5 v5 α5 H5 x5 w5 d5
  ·intro ρ5 S5 σ5 α5 H5 e5 x5 w5 s5 q5
   exact q5 σ5 α5 H5 x5 w5 s5
  ·intro ρ5 S5 σ5 α5 H5 e5 x5 w5 s5 q5
   have q5':PostS X.g W α4 H4 D (if stay k.gs S5 then wK gf F k.gs (k.ds.drop (n+1)) ρ5 S5 else .no):=q5
   split at q5'
   ·rename_i hst
    exact⟨α5,ρ5,S5,w5,s5,p4 α5 S5 H5 x5 w5 hst,PostS.shift x5 q5'⟩
   ·exact q5'.elim
 ·have e:n=k.ds.length:=by omega
  subst e
  refine .inl ⟨i2 (Nat.le_refl _),?_⟩
  rw [List.drop_length]at q2
  exact q2 σ2 α2 H2 (Ext.refl _ _) w2 sl2
end
end M
end L2
namespace L2
namespace M
open PySem PySem.Spec PyProof.Rows
def noX{β:Type}:R β→R β
 | .ok b S=>.ok b S
 | _=>.no
theorem kY{β:Type}(b:β)(S:Sto):noX (R.ok b S)=.ok b S:=rfl
theorem Post.bindY{β τ γ υ:Type}[Dn β τ][Dn γ υ]{g:Gm}{W:XW}{α α':List Addr}{H H':Hp}(x:Ext α H α' H'){m:R β}{k:β→Sto→R γ}{Q:υ→Hp→Prop}{Q':τ→Hp→Prop}(q:Post g W α H ((noX m).bind k) Q)
  (f: ∀u b S1 α1 H1,m=.ok b S1→Ext α' H' α1 H1→Wd g α1 S1 H1→Dn.d g H' α1 S1 H1 b u→Post g W α H (k b S1) Q→Q' u H1):Post g W0 α' H' m Q':=by
 cases m with
 | ok b S=>exact fun u α1 H1 x w d=>f u b S α1 H1 rfl x w d q
 | exc c fs S=>exact q.elim
 | no=>exact q
theorem R.bind_assoc{β γ δ:Type}(m:R β)(k1:β→Sto→R γ)(k2:γ→Sto→R δ):(m.bind k1).bind k2=m.bind fun b S=>(k1 b S).bind k2:=by cases m<;>rfl
def blk(nt:Nat)(idx:List Nat)(ρ:Rho):Rho:=List.replicate nt none++idx.map fun i=>(ρ[i]?).join
open Classical in
noncomputable def yU(gf:MV→Rho→Sto→R Rho)(cf:Rho→Sto→R Bool)(ef:Rho→Sto→R Er)(ρb:Rho)(gs:List (Nat×List MV)):List MV→Sto→R (List MV)
 | [],S=>.ok [] S
 | d::ds,S=>(noX (gf d ρb S)).bind fun ρ1 S0=>(noX (cf ρ1 S0)).bind fun k S1=>
  if k=true then(noX (ef ρ1 S1)).bind fun r S2=>(zAY r S2).bind fun y S3=>if stay gs S3 then(yU gf cf ef ρb gs ds S3).bind fun out S4=>.ok (y::out) S4 else .no
  else if stay gs S1 then yU gf cf ef ρb gs ds S1 else .no
theorem yBS{K:PySem.W.Frag}{α:List Addr}{H:Hp}{ρ:Rho}{σ:St}(q:Slots K α H ρ σ)(nt:Nat)(idx:List Nat)(τ:St)(hτ:τ.length=nt):Slots K α H (blk nt idx ρ) (τ++zEH σ idx):=by
 refine⟨by unfold blk;rw [List.length_append,List.length_append,zAN,List.length_map,List.length_replicate,hτ],fun i d e=>?_⟩
 unfold blk at e
 by_cases hi:i<nt
 ·rw [List.getElem?_append_left (by rw [List.length_replicate];exact hi),List.getElem?_replicate]at e
  split at e<;>cases e
 ·rw [List.getElem?_append_right (by rw [List.length_replicate];omega),List.length_replicate,List.getElem?_map]at e
  cases z:idx[i - nt]? with
  | none=>rw [z]at e;cases e
  | some k=>
   rw [z]at e
   have e2:(ρ[k]?).join=some d:=Option.some.inj e
   cases z2:ρ[k]? with
   | none=>rw [z2]at e2;cases e2
   | some o=>
    rw [z2]at e2
    have e3:o=some d:=e2
    subst e3
    obtain⟨v,h1,h2⟩:=q.slot k d z2
    refine⟨v,?_,h2⟩
    rw [List.getElem?_append_right (by omega),hτ]
    unfold zEH
    rw [List.getElem?_map,z]
    show some (σ[k]?).join=some (some v)
    rw [h1];rfl
def Keeps(nt:Nat)(σ:St)(Q:St→Hp→Prop):St→Hp→Prop:=fun σ' H'=>σ'.length=σ.length→(∀j,nt≤j→σ'[j]? =σ[j]?)→Q σ' H'
def PGn(nt:Nat)(X:Cx)(W:XW)(tg:Expr)(gf:MV→Rho→Sto→R Rho):Prop:=
 ∃t,PG X tg t∧ ∀α ρ S σ H d v Q,Wd X.g α S H→Slots X.K α H ρ σ→Den X.K α H d v→Post X.g W α H (gf d ρ S) (Keeps nt σ Q)→t v σ H Q
def PGsn(nt:Nat)(X:Cx)(W:XW)(tgs:List Expr)(gf:List MV→Rho→Sto→R Rho):Prop:=
 ∃t,PGs X tgs t∧ ∀α ρ S σ H ds vs Q,Wd X.g α S H→Slots X.K α H ρ σ→DenL X.K α H ds vs→Post X.g W α H (gf ds ρ S) (Keeps nt σ Q)→t vs σ H Q
section
variable{X:Cx}{W:XW}{e:Expr}{pos:Pos}{nt:Nat}
theorem wR(i:Nat){x:Str}(hN:X.N.Nodup)(hi:X.N[i]? =some x:=by rfl)(hx:Loc X.env.scope x:=by first | exact Or.inl rfl | exact Or.inr rfl)(hf:X.fn x=true∨X.env.scope.names.lookup x=some .local:=by first | exact .inl rfl | exact .inr rfl | assumption)(hlt:i<nt:=by decide):
  PGn nt X W (.Name x pos) (gNm i):=⟨_,zZC hN hi hx hf,fun α ρ S σ H d v Q wd sl de q=>Post.here (b:=ρ.set i (some d)) q wd (sl.set de) (by rw [List.length_set]) fun j hj=>by rw [List.getElem?_set_ne (by omega)]⟩
theorem yMB:PGsn nt X W [] jR:=⟨_,zZD,fun α ρ S σ H ds vs Q wd sl de q=>by
 cases ds with
 | nil=>exact⟨de.isnil,Post.here (b:=ρ) q wd sl rfl fun _ _=>rfl⟩
 | cons d ds=>exact q.elim⟩
theorem Post.keeps{g:Gm}{W:XW}{α:List Addr}{H:Hp}{m:R Rho}{σ σ1:St}{Q:St→Hp→Prop}(h1:σ1.length=σ.length)(h2: ∀j,nt≤j→σ1[j]? =σ[j]?)(q:Post g W α H m (Keeps nt σ Q)):Post g W α H m (Keeps nt σ1 Q):=by
 cases m with
 | ok b S=>exact fun u α1 H1 x w d k1 k2=>q u α1 H1 x w d (k1.trans h1) fun j hj=>(k2 j hj).trans (h2 j hj)
 | exc c fs S=>exact q
 | no=>exact q
theorem zZN{es:List Expr}{g1:MV→Rho→Sto→R Rho}{g2:List MV→Rho→Sto→R Rho}(h1:PGn nt X W e g1)(h2:PGsn nt X W es g2)(hs:(assignEach (e::es) X.env).map (·.2)=assign e X.env::(assignEach es X.env).map (·.2):=by rfl):PGsn nt X W (e::es) (yC g1 g2):=by
 obtain⟨t1,h1,k1⟩:=h1
 obtain⟨t2,h2,k2⟩:=h2
 refine⟨_,zUC h1 h2 hs,fun α ρ S σ H ds vs Q wd sl de q=>?_⟩
 cases ds with
 | nil=>exact q.elim
 | cons d ds=>
  obtain⟨v,r,rfl,a,l⟩:=de.uncons
  refine⟨v,r,rfl,k1 α ρ S σ H d v _ wd sl a (Post.bind q fun u p S1 α1 H1 e x1 w1 d1 q1 k1 k2'=>k2 α1 p S1 u H1 ds r Q w1 d1 (l.ext x1) (Post.keeps k1 k2' (q1.shift x1)))⟩
theorem yMC{es:List Expr}{k n:Nat}{g2:List MV→Rho→Sto→R Rho}(hc:X.calm=true)(h:PGsn nt X W es g2)
  (hn:(assignEach es X.env).length=n:=by rfl) (hst:(assignEach es X.env).findIdx? (·.1)=none:=by rfl):PGn nt X W (.Tuple es k pos) (gTp n g2):=by
 obtain⟨t,h,k⟩:=h
 refine⟨_,yDC hc h hn hst,fun α ρ S σ H d v Q wd sl de q=>?_⟩
 unfold gTp at q
 split at q
 ·split at q
  ·rename_i hl
   obtain⟨a,vs,rfl,s,l⟩:=kR de
   exact⟨a,vs,rfl,s,by rw [l.length];exact hl,k α ρ S σ H _ vs Q wd sl l q⟩
  ·exact q.elim
 ·exact q.elim
end
abbrev PIfm(X:Cx)(W:XW)(ifs:List Expr)(f:Rho→Sto→R Bool):Prop:=Jd X W (yBL X ifs) f
section
variable{X:Cx}{W:XW}{iter:Expr}{c:Expr}{tf:Rho→Sto→R Bool}{pos:Pos}
theorem bO:PIfm X W [] (fun _ S=>.ok true S):=⟨_,yDP,fun α ρ S σ H Q wd sl q=>q.here wd rfl⟩
theorem zII(h:PTm X W c tf):PIfm X W [c] tf:=let ⟨t,h,k⟩:=h;⟨t,yDQ h,k⟩
open Classical in
theorem yHX{elt tg:Expr}{ifs:List Expr}{sc:Scope}{itf:Rho→Sto→R Wk}{cf:Rho→Sto→R Bool}{ef:Rho→Sto→R Er}{gf:MV→Rho→Sto→R Rho}(osc:Scope)(N:List Str)(T:List Str)(idx:List Nat)
  (hi:PIm X W tg iter itf) (hcalm:X.calm=true)
  (hg: ∀C s₂ H1 fp,([]++T++idx.map fun i=>(N[i]?).getD Str.empty).Nodup→PGn T.length (yB X sc T idx C s₂ H1 fp) W0 tg gf)
  (hc: ∀C s₂ H1 fp,PIfm (yB X sc T idx C s₂ H1 fp) W0 ifs cf) (he: ∀C s₂ H1 fp,PEm (yB X sc T idx C s₂ H1 fp) W0 elt ef)
  (e1:X.env.scope=osc:=by rfl) (e2:X.N=N:=by rfl) (hB:zNF osc N sc idx=true:=by decide+kernel) (hN:([]++T++idx.map fun i=>(N[i]?).getD Str.empty).Nodup:=by decide+kernel)
  (hs: ∀y,foldedSetIterable iter X.env y=pure y:=by intro _;rfl):
  Jd (β:=Er) (τ:=V) X W (fun t=>PE X (.ListComp elt [⟨tg,iter,ifs,0⟩] sc pos) t∧PU X (.ListComp elt [⟨tg,iter,ifs,0⟩] sc pos) t) (fun ρ S=>(itf ρ S).bind fun k S1=>if k.ds.length<1000000 then(yU gf cf ef (blk T.length idx ρ) k.gs k.ds S1).bind fun out S2=>.ok (.new out) S2 else .no):=by
 obtain⟨wi,hi,ki⟩:=hi
 subst e1 e2
 have big:(1000000:Nat)<sizeLine:=by rw [sizeLine_eq];decide
 have hg': ∃t,(∀C s₂ H1 fp,PG (yB X sc T idx C s₂ H1 fp) tg t)∧ ∀α ρ S σ H d v Q,Wd X.g α S H→Slots X.K α H ρ σ→Den X.K α H d v→Post X.g W0 α H (gf d ρ S) (Keeps T.length σ Q)→t v σ H Q:=by
  refine⟨fun v σ H Q=> ∃α ρ S d,Wd X.g α S H∧Slots X.K α H ρ σ∧Den X.K α H d v∧Post X.g W0 α H (gf d ρ S) (Keeps T.length σ Q),fun C s₂ H1 fp pins s σ H v u Q I r ⟨α,ρ,S,d,h1,h2,h3,h4⟩=>?_,fun α ρ S σ H d v Q h1 h2 h3 h4=>⟨α,ρ,S,d,h1,h2,h3,h4⟩⟩
  obtain⟨t,ht,kt⟩:=hg C s₂ H1 fp hN
  exact ht pins s σ H v u Q I r (kt α ρ S σ H d v Q h1 h2 h3 h4)
 obtain⟨tg',hg1,kg⟩:=hg'
 refine⟨_,⟨yHN T idx hi hcalm hB hg1 (fun C s₂ H1 fp=>(Classical.choose_spec (hc C s₂ H1 fp)).1) (fun C s₂ H1 fp=>(Classical.choose_spec (he C s₂ H1 fp)).1) hs,yHQ T idx hi hcalm hB hg1 (fun C s₂ H1 fp=>(Classical.choose_spec (hc C s₂ H1 fp)).1) (fun C s₂ H1 fp=>(Classical.choose_spec (he C s₂ H1 fp)).1) hs⟩,fun α ρ S σ H Q wd sl q=>ki α ρ S σ H _ wd sl (q.bind fun J k S1 α1 H1 e1 x1 w1 d1 q1=>?_)⟩
 obtain⟨P,hP⟩:=d1
 split at q1
 ·rename_i hlen
  refine⟨fun n m ys H2=>m=k.ds.length - n∧n≤k.ds.length∧ys.length≤n∧ ∃α2 S2,Ext α H α2 H2∧Wd X.g α2 S2 H2∧P α2 S2 H2∧ ∃outs,DenL X.K α2 H2 outs ys∧Post X.g W α H ((yU gf cf ef (blk T.length idx ρ) k.gs (k.ds.drop n) S2).bind fun o S'=>.ok (Er.new (outs++o)) S') Q,
   ⟨_,rfl,Nat.zero_le _,Nat.le_refl _,α1,S1,x1,w1,hP.here,[],xW,by simpa using q1⟩,?_⟩
  rintro n m ys H2 ⟨rfl,hn,hy,α2,S2,x2,w2,p2,outs,l,q2⟩
  obtain⟨i1,i2⟩:=hP.it n α2 S2 H2 p2 w2
  refine⟨by omega,?_⟩
  by_cases hlt:n<k.ds.length
  ·obtain⟨go,yl⟩:=i1 hlt
   refine .inr ⟨go,by omega,fun v H3 y τ hτ=>?_⟩
   obtain⟨x3,w3,p3,d,hd,dv⟩:=yl v H3 y
   have hdrop:k.ds.drop n=d::k.ds.drop (n+1):=by
    rw [List.drop_eq_getElem_cons hlt]
    have:=List.getElem?_eq_getElem hlt
    rw [hd]at this
    rw [←Option.some.inj this]
   rw [hdrop]at q2
   unfold yU at q2
   have slb:=yBS (sl.ext (x2.trans x3)) T.length idx τ hτ
   refine kg α2 (blk T.length idx ρ) S2 _ H3 d v _ w3 slb dv ?_
   rw [R.bind_assoc]at q2
   refine q2.bindY (x2.trans x3) fun σ4 ρ4 S4 α4 H4 e4 x4 w4 s4 q4 len4 kp4=>⟨⟨σ4.take T.length,?_,?_⟩,fun C s₂ fp=>?_⟩
   ·refine List.ext_getElem? fun j=>?_
    have hl4:σ4.length=T.length+idx.length:=by rw [len4,List.length_append,zAN,hτ]
    by_cases hj:j<T.length
    ·rw [List.getElem?_append_left (by rw [List.length_take];omega),List.getElem?_take_of_lt hj]
    ·rw [kp4 j (by omega),List.getElem?_append_right (by omega),List.getElem?_append_right (by rw [List.length_take];omega),hτ,List.length_take,Nat.min_eq_left (by omega)]
   ·rw [List.length_take,len4,List.length_append,zAN,hτ];omega
   have x34:Ext α H α4 H4:=(x2.trans x3).trans x4
   have p4: ∀α5 S5 H5,Ext α4 H4 α5 H5→Wd X.g α5 S5 H5→stay k.gs S5→P α5 S5 H5:=fun α5 S5 H5 x5 w5 s5=>hP.stays α2 S2 H3 α5 S5 H5 p3 (x4.trans x5) w5 s5
   rw [R.bind_assoc]at q4
   refine(Classical.choose_spec (hc C s₂ H1 fp)).2 α4 ρ4 S4 σ4 H4 _ w4 s4 (q4.bindY x34 fun b5 b5' S5 α5 H5 e5 x5 w5 d5 q5=>?_)
   cases d5
   cases b5 with
   | false=>
    rw [if_neg Bool.false_ne_true]at q5 ⊢
    split at q5
    ·rename_i hst
     exact⟨k.ds.length - (n+1),by omega,rfl,hlt,by omega,α5,S5,x34.trans x5,w5,p4 α5 S5 H5 x5 w5 hst,outs,(l.ext (x3.trans x4)).ext x5,q5⟩
    ·exact q5.elim
   | true=>
    rw [if_pos rfl,R.bind_assoc]at q5
    rw [if_pos rfl]
    refine(Classical.choose_spec (he C s₂ H1 fp)).2 α5 ρ4 S5 σ4 H5 _ w5 (s4.ext x5) (q5.bindY (x34.trans x5) fun y6 r6 S6 α6 H6 e6 x6 w6 d6 q6=>?_)
    obtain⟨d',S',α',e7,x7,y7,w7,de⟩:=zFW w6 x6 d6
    rw [e7]at q6
    have q6:Post X.g W α H ((if stay k.gs S' then(yU gf cf ef (blk T.length idx ρ) k.gs (k.ds.drop (n+1)) S').bind fun out S4=>.ok (d'::out) S4 else .no).bind fun o S'=>.ok (Er.new (outs++o)) S') Q:=q6
    split at q6
    ·rename_i hst
     refine⟨k.ds.length - (n+1),by omega,rfl,hlt,by rw [List.length_append,List.length_singleton];omega,α',S',(x34.trans x5).trans x7,w7,p4 α' S' H6 (x5.trans x7) w7 hst,outs++[d'],((l.ext (x3.trans x4)).ext (x5.trans x7)).append (yY de xW),?_⟩
     rw [R.bind_assoc]at q6
     have e8:(fun(o:List MV) (S':Sto)=>R.ok (Er.new ((outs++[d'])++o)) S')=(fun(b:List MV) S=>(R.ok (d'::b) S).bind fun o S'=>.ok (Er.new (outs++o)) S'):=by
      funext o S'
      show _=R.ok (Er.new (outs++(d'::o))) S'
      rw [List.append_assoc];rfl
     rw [e8]
     exact q6
    ·exact q6.elim
  ·have e:n=k.ds.length:=by omega
   subst e
   rw [List.drop_length]at q2
   have q3:Post X.g W α H (.ok (Er.new (outs++[])) S2) Q:=q2
   rw [List.append_nil]at q3
   exact .inl ⟨i2 (Nat.le_refl _),fun D hD=>(q3.shift x2).newl w2 hD l⟩
 ·exact q1.elim
open Classical in
theorem kB{elt tg:Expr}{ifs:List Expr}{sc:Scope}{itf:Rho→Sto→R Wk}{cf:Rho→Sto→R Bool}{ef:Rho→Sto→R Er}{gf:MV→Rho→Sto→R Rho}(osc:Scope)(N:List Str)(T:List Str)(idx:List Nat)
  (hi:PIm X W tg iter itf) (hcalm:X.calm=true)
  (hg: ∀C s₂ H1 fp,([]++T++idx.map fun i=>(N[i]?).getD Str.empty).Nodup→PGn T.length (yB X sc T idx C s₂ H1 fp) W0 tg gf)
  (hc: ∀C s₂ H1 fp,PIfm (yB X sc T idx C s₂ H1 fp) W0 ifs cf) (he: ∀C s₂ H1 fp,PEm (yB X sc T idx C s₂ H1 fp) W0 elt ef)
  (e1:X.env.scope=osc:=by rfl) (e2:X.N=N:=by rfl) (hB:zNF osc N sc idx=true:=by decide+kernel) (hN:([]++T++idx.map fun i=>(N[i]?).getD Str.empty).Nodup:=by decide+kernel)
  (hs: ∀y,foldedSetIterable iter X.env y=pure y:=by intro _;rfl):
  PEm X W (.ListComp elt [⟨tg,iter,ifs,0⟩] sc pos) (fun ρ S=>(itf ρ S).bind fun k S1=>if k.ds.length<1000000 then(yU gf cf ef (blk T.length idx ρ) k.gs k.ds S1).bind fun out S2=>.ok (.new out) S2 else .no):=let ⟨t,h,k⟩:=(yHX osc N T idx hi hcalm hg hc he e1 e2 hB hN hs);⟨t,h.1,k⟩
open Classical in
end
end M
end L2
namespace L2
namespace M
open PySem PySem.Spec PyProof.Rows
mutual
def lo(n:Nat):MV→Prop
 | .loc l=>l<n
 | .tup ds=>loL n ds
 | .scr ds=>loL n ds
 | _=>True
def loL(n:Nat):List MV→Prop
 | []=>True
 | d::ds=>lo n d∧loL n ds
end
def loO(n:Nat):MO→Prop
 | .lst ds=>loL n ds
 | .dic kvs=> ∀p∈kvs,lo n p.1∧lo n p.2
 | .ins _ fs=> ∀p∈fs,lo n p.2
section
variable{K:PySem.W.Frag}{α t:List Addr}{H:Hp}
mutual
theorem Den.back: ∀{d:MV}{v:V},Den K (α++t) H d v→lo α.length d→Den K α H d v
 | .non,_,q,_=>by cases dI q;exact cR
 | .bl _,_,q,_=>by cases zBO q;exact xH _
 | .int _,_,q,_=>by cases jN q;exact xJ _
 | .str _,_,q,_=>by cases jW q;exact cS _
 | .typ _,_,q,_=>by cases dJ q;exact zZK _
 | .loc l,_,q,h=>by
  obtain⟨a,rfl,e⟩:=gZ q
  have hl:l<α.length:=by unfold lo at h;exact h
  rw [List.getElem?_append_left hl]at e
  exact zIE e
 | .tup ds,_,q,h=>by
  obtain⟨a,vs,rfl,s,l⟩:=kR q
  exact cT s (DenL.back l (by unfold lo at h;exact h))
 | .scr ds,_,q,h=>by
  obtain⟨a,vs,rfl,s,l⟩:=cK q
  exact zZL s (DenL.back l (by unfold lo at h;exact h))
theorem DenL.back: ∀{ds:List MV}{vs:List V},DenL K (α++t) H ds vs→loL α.length ds→DenL K α H ds vs
 | [],_,q,_=>by rw [q.isnil];exact xW
 | d::ds,_,q,h=>by
  obtain⟨v,r,rfl,a,l⟩:=q.uncons
  unfold loL at h
  exact yY (Den.back a h.1) (DenL.back l h.2)
end
mutual
theorem Den.lo: ∀{d:MV}{v:V},Den K α H d v→lo α.length d
 | .non,_,q=>by unfold M.lo;trivial
 | .bl _,_,q=>by unfold M.lo;trivial
 | .int _,_,q=>by unfold M.lo;trivial
 | .str _,_,q=>by unfold M.lo;trivial
 | .typ _,_,q=>by unfold M.lo;trivial
 | .loc l,_,q=>by
  obtain⟨a,rfl,e⟩:=gZ q
  unfold M.lo
  exact(List.getElem?_eq_some_iff.mp e).1
 | .tup ds,_,q=>by
  obtain⟨a,vs,rfl,s,l⟩:=kR q
  unfold M.lo
  exact DenL.lo l
 | .scr ds,_,q=>by
  obtain⟨a,vs,rfl,s,l⟩:=cK q
  unfold M.lo
  exact DenL.lo l
theorem DenL.lo: ∀{ds:List MV}{vs:List V},DenL K α H ds vs→loL α.length ds
 | [],_,q=>by unfold loL;trivial
 | d::ds,_,q=>by
  obtain⟨v,r,rfl,a,l⟩:=q.uncons
  unfold loL
  exact⟨Den.lo a,DenL.lo l⟩
end
theorem DenK.back: ∀{fs gs},DenK K (α++t) H fs gs→(∀p∈fs,M.lo α.length p.1∧M.lo α.length p.2)→DenK K α H fs gs
 | _,_,.nil,_=>.nil
 | _,_,.cons k a l,h=>.cons k (a.back (h _ List.mem_cons_self).2) (DenK.back l fun p hp=>h p (List.mem_cons_of_mem _ hp))
theorem KeyD.lo{n:Nat}{k:MV}{k':Key}(h:KeyD k k'):M.lo n k:=by
 unfold KeyD at h
 split at h
 ·unfold M.lo;trivial
 ·unfold M.lo;trivial
 ·exact h.elim
theorem DenK.lo: ∀{fs gs},DenK K α H fs gs→ ∀p∈fs,M.lo α.length p.1∧M.lo α.length p.2
 | _,_,.nil=>fun p h=>by simp at h
 | _,_,.cons k a l=>fun p h=>(List.mem_cons.mp h).elim (fun e=>by subst e;exact⟨k.lo,a.lo⟩) (DenK.lo l p)
theorem DenN.back: ∀{fs xs},DenN K (α++t) H fs xs→(∀p∈fs,M.lo α.length p.1∧M.lo α.length p.2)→DenN K α H fs xs
 | _,_,.nil,_=>.nil
 | _,_,.cons k e a d r l,h=>.cons k e (a.back (h _ List.mem_cons_self).1) (d.back (h _ List.mem_cons_self).2) r (DenN.back l fun p hp=>h p (List.mem_cons_of_mem _ hp))
theorem DenN.lo: ∀{fs xs},DenN K α H fs xs→ ∀p∈fs,M.lo α.length p.1∧M.lo α.length p.2
 | _,_,.nil=>fun p h=>by simp at h
 | _,_,.cons k e a d r l=>fun p h=>(List.mem_cons.mp h).elim (fun z=>by subst z;exact⟨a.lo,d.lo⟩) (DenN.lo l p)
theorem DenF.back: ∀{fs gs},DenF K (α++t) H fs gs→(∀p∈fs,M.lo α.length p.2)→DenF K α H fs gs
 | _,_,.nil,_=>.nil
 | _,_,.cons a l,h=>.cons (a.back (h _ List.mem_cons_self)) (DenF.back l fun p hp=>h p (List.mem_cons_of_mem _ hp))
theorem DenF.lo: ∀{fs gs},DenF K α H fs gs→ ∀p∈fs,M.lo α.length p.2
 | _,_,.nil=>fun p h=>by simp at h
 | _,_,.cons a l=>fun p h=>(List.mem_cons.mp h).elim (fun e=>by subst e;exact a.lo) (DenF.lo l p)
theorem ObD.back{g:Gm}{a:Addr}{o:MO}(q:ObD g (α++t) H a o)(h:loO α.length o):ObD g α H a o:=by
 cases o with
 | lst ds=>obtain⟨vs,h1,l⟩:=q;exact⟨vs,h1,l.back h⟩
 | dic ds=>
  rcases q with⟨vs,h1,l⟩ | ⟨vs,h1,l⟩
  ·exact .inl ⟨vs,h1,l.back h⟩
  ·exact .inr ⟨vs,h1,l.back h⟩
 | ins c fs=>obtain⟨C,gs,m,l,r⟩:=q;exact⟨C,gs,m,l.back h,r⟩
theorem ObD.lo{g:Gm}{a:Addr}{o:MO}(q:ObD g α H a o):loO α.length o:=by
 cases o with
 | lst ds=>obtain⟨vs,h1,l⟩:=q;exact l.lo
 | dic ds=>
  rcases q with⟨vs,h1,l⟩ | ⟨vs,h1,l⟩
  ·exact l.lo
  ·exact l.lo
 | ins c fs=>obtain⟨C,gs,m,l,r⟩:=q;exact l.lo
end
def yEB(S S2:Sto):Prop:=S.length≤S2.length∧ ∀l,l<S.length→S2[l]? =S[l]? ∨ ∃o,S2[l]? =some o∧loO S.length o
open Classical in
noncomputable def zDX(S:Sto)(r:Er)(S2:Sto):R Er:=
 if yEB S S2 then match r with
  | .val (.loc l)=>if l<S.length then .ok r (S2.take S.length)else match S2[l]? with
   | some (.lst ds)=>if loL S.length ds then .ok (.new ds) (S2.take S.length)else .ok r S2
   | _=>.ok r S2
  | .val d=>if lo S.length d then .ok r (S2.take S.length)else .ok r S2
  | .new ds=>if loL S.length ds then .ok r (S2.take S.length)else .ok r S2
 else .ok r S2
theorem zSC{g:Gm}{α α1 α2 α3:List Addr}{H H1 H3:Hp}{S1 S3:Sto}{r:Er}{v:V}(x1:Ext α H α1 H1)(w1:Wd g α1 S1 H1)(h12: ∃t,α2=α1++t)(x2:Ext α H α2 H1)(x3:Ext α2 H1 α3 H3)(w3:Wd g α3 S3 H3)(d:DenE g.K H1 α3 H3 r v):
  ∃r' S' α',zDX S1 r S3=.ok r' S'∧Ext α H α' H3∧Wd g α' S' H3∧DenE g.K H α' H3 r' v:=by
 have x23:=x2.trans x3
 have dfull:DenE g.K H α3 H3 r v:=d.back fun b h=>x1.free h
 unfold zDX
 by_cases hc:yEB S1 S3
 ·rw [if_pos hc]
  obtain⟨t,ht⟩: ∃t,α3=α1++t:=by
   obtain⟨t,e⟩:=h12
   obtain⟨u,e'⟩:=x3.pre
   exact⟨t++u,by rw [e',e,List.append_assoc]⟩
  have hn:α1.length=S1.length:=w1.len
  have xc:Ext α H α1 H3:=⟨⟨x1.pre,x23.tup,x23.frz⟩,x1.new,x23.keep,x23.has⟩
  have wc:Wd g α1 (S3.take S1.length) H3:=by
   refine⟨by rw [List.length_take,hn,Nat.min_eq_left hc.1],w1.nd,fun l a o h1 h2=>?_⟩
   have hl:l<S1.length:=by rw [←hn];exact(List.getElem?_eq_some_iff.mp h1).1
   rw [List.getElem?_take_of_lt hl]at h2
   have h1':α3[l]? =some a:=by rw [ht,List.getElem?_append_left (by rw [hn];exact hl)];exact h1
   have q:=w3.obj l a o h1' h2
   rw [ht]at q
   refine q.back ?_
   rcases hc.2 l hl with e | ⟨o',e,lo'⟩
   ·rw [e]at h2
    exact(w1.obj l a o h1 h2).lo
   ·rw [h2]at e
    cases e
    rw [hn];exact lo'
  have dlo: ∀d,lo S1.length d→Den g.K α3 H3 d v→DenE g.K H α1 H3 (.val d) v:=fun d hd q=>.val ((ht▸q:Den g.K (α1++t) H3 d v).back (by rw [hn];exact hd))
  cases r with
  | new ds=>
   dsimp only
   split
   ·rename_i hl
    obtain⟨⟨b,vs,rfl,h1,h2,h3⟩,h4⟩:=dfull
    exact⟨_,_,α1,rfl,xc,wc,⟨b,vs,rfl,h1,fun z=>h2 (by rw [ht];exact List.mem_append_left _ z),(ht▸h3:DenL g.K (α1++t) H3 ds vs).back (by rw [hn];exact hl)⟩,h4⟩
   ·exact⟨_,_,α3,rfl,x23,w3,dfull⟩
  | val mv=>
   have dd:Den g.K α3 H3 mv v:=dfull.1
   cases mv with
   | loc l=>
    dsimp only
    split
    ·rename_i hl
     exact⟨_,_,α1,rfl,xc,wc,dlo _ (by unfold lo;exact hl) dd⟩
    ·rename_i hl
     obtain⟨a,rfl,ha⟩:=gZ dd
     split
     ·rename_i ds hS
      split
      ·rename_i hlo
       obtain⟨vs,h1,h2⟩:=w3.obj l a _ ha hS
       have hna:a∉α1:=fun z=>by
        obtain⟨m,hm⟩:=List.getElem?_of_mem z
        have hml:m<α1.length:=(List.getElem?_eq_some_iff.mp hm).1
        have hm':α3[m]? =some a:=by rw [ht,List.getElem?_append_left hml];exact hm
        obtain⟨u1,e1⟩:=List.getElem?_eq_some_iff.mp hm'
        obtain⟨u2,e2⟩:=List.getElem?_eq_some_iff.mp ha
        have:=(List.getElem_inj w3.nd).mp (e1.trans e2.symm)
        omega
       refine⟨_,_,α1,rfl,xc,wc,⟨a,vs,rfl,h1,hna,(ht▸h2:DenL g.K (α1++t) H3 ds vs).back (by rw [hn];exact hlo)⟩,fun b e=>?_⟩
       cases e
       rcases x23.new a (List.mem_of_getElem? ha)with z | z
       ·obtain⟨u,eu⟩:=x1.pre
        exact absurd (by rw [eu];exact List.mem_append_left _ z) hna
       ·exact z
      ·exact⟨_,_,α3,rfl,x23,w3,dfull⟩
     ·exact⟨_,_,α3,rfl,x23,w3,dfull⟩
   | non=>dsimp only;split;(· rename_i hl;exact⟨_,_,α1,rfl,xc,wc,dlo _ hl dd⟩);(· exact⟨_,_,α3,rfl,x23,w3,dfull⟩)
   | bl b=>dsimp only;split;(· rename_i hl;exact⟨_,_,α1,rfl,xc,wc,dlo _ hl dd⟩);(· exact⟨_,_,α3,rfl,x23,w3,dfull⟩)
   | int b=>dsimp only;split;(· rename_i hl;exact⟨_,_,α1,rfl,xc,wc,dlo _ hl dd⟩);(· exact⟨_,_,α3,rfl,x23,w3,dfull⟩)
   | str b=>dsimp only;split;(· rename_i hl;exact⟨_,_,α1,rfl,xc,wc,dlo _ hl dd⟩);(· exact⟨_,_,α3,rfl,x23,w3,dfull⟩)
   | typ b=>dsimp only;split;(· rename_i hl;exact⟨_,_,α1,rfl,xc,wc,dlo _ hl dd⟩);(· exact⟨_,_,α3,rfl,x23,w3,dfull⟩)
   | tup b=>dsimp only;split;(· rename_i hl;exact⟨_,_,α1,rfl,xc,wc,dlo _ hl dd⟩);(· exact⟨_,_,α3,rfl,x23,w3,dfull⟩)
   | scr b=>dsimp only;split;(· rename_i hl;exact⟨_,_,α1,rfl,xc,wc,dlo _ hl dd⟩);(· exact⟨_,_,α3,rfl,x23,w3,dfull⟩)
 ·rw [if_neg hc]
  exact⟨_,_,α3,rfl,x23,w3,dfull⟩
def spM(g:Gm)(n:Nat)(F:List MV→Sto→R Er):Sp:=fun vs H Q _=> ∃α S ds,Wd g α S H∧DenL g.K α H ds vs∧ds.length=n∧Post g W0 α H (F ds S) Q
noncomputable def zM(n:Nat)(F:List MV→Sto→R Er)(rs:List Er)(S:Sto):R Er:=if rs.length=n then(noX (F (zY rs S).1 (zY rs S).2)).bind fun r S2=>zDX S r S2 else .no
section
variable{X:Cx}{W:XW}{e:Expr}{es:List Expr}{af:Rho→Sto→R (List Er)}{pos:Pos}
theorem zQT{n:Nat}{F:List MV→Sto→R Er}{rs:List Er}{vs:List V}{α α1:List Addr}{H H1:Hp}{S1:Sto}{Q:VK}(x1:Ext α H α1 H1)(w1:Wd X.g α1 S1 H1)(d1:ArgsE X.K H α1 H1 rs vs)(q:Post X.g W α H (zM n F rs S1) Q):
  spM X.g n F vs H1 Q E0:=by
 unfold zM at q
 split at q
 ·rename_i hl
  obtain⟨α2,x2,y2,w2,l2⟩:=zBP w1 x1 d1
  refine⟨α2,_,_,w2,l2,by rw [zFU];exact hl,?_⟩
  cases z:F (zY rs S1).1 (zY rs S1).2 with
  | ok r S3=>
   rw [z]at q
   intro v α3 H3 x3 w3 d3
   obtain⟨r',S',α',e',x',w',d'⟩:=zSC x1 w1 y2.pre x2 x3 w3 d3
   have q:Post X.g W α H (zDX S1 r S3) Q:=q
   rw [e']at q
   exact q v α' H3 x' w' d'
  | exc c fs S3=>rw [z]at q;exact q.elim
  | no=>rw [z]at q;exact q.elim
 ·exact q.elim
theorem zZO{k n:Nat}{fa:Addr}{fd:FuncData}{ps:List Str}{F:List MV→Sto→R Er}{x:Str}{p:Pos}(G:FnOk X.prog X.w X.K X.mg X.base CX0 k fa fd ps (spM X.g n F))(hr:Room k X.A)(hg:Gl X x)(hm:X.mg x=some (.ref fa))
  (hk:PySem.W.keepIn X.K (.ref fa)=true) (hb:Binds X.K fd ps []) (ha:PAm X W (e::es) af) (hdb:(x==("__debug__":Str))=false:=by decide)
  (he:starEach (e::es) X.env=(false,eval e X.env)::starEach es X.env:=by rfl) (hpl:(backTo pos (starEach es X.env)).any (·.1)=false:=by rfl):
  PEm X W (.Call (.Name x p) (e::es) [] pos) (fun ρ S=>(af ρ S).bind fun rs S1=>zM n F rs S1):=by
 obtain⟨t,ha,kk⟩:=ha
 refine⟨_,zZF G hr hg hm hk hb .nil pass0 ha hdb he hpl,fun α ρ S σ H Q wd sl q=>kk α ρ S σ H _ wd sl (q.bind fun vs rs S1 α1 H1 e1 x1 w1 d1 q1=>?_)⟩
 rw [List.append_nil]
 exact zQT x1 w1 d1 q1
end
def zS(N:List Str)(ds:List MV):Rho:=ds.map some++List.replicate (N.length - ds.length) none
def yO:R Fl→R Er
 | .ok (.next _) S=>.ok (.val .non) S
 | .ok (.ret r) S=>.ok r S
 | .exc c fs S=>.exc c fs S
 | _=>.no
theorem zEO{K:PySem.W.Frag}{α:List Addr}{N:List Str}{H:Hp}{ds:List MV}{vs:List V}(l:DenL K α H ds vs):Slots K α H (zS N ds) (start N vs):=by
 have hlen:=l.length
 refine⟨?_,fun i d e=>?_⟩
 ·unfold start zS
  rw [List.length_append,List.length_append,List.length_map,List.length_map,List.length_replicate,List.length_replicate,hlen]
 ·unfold zS at e
  by_cases hi:i<ds.length
  ·rw [List.getElem?_append_left (by simpa using hi),List.getElem?_map]at e
   cases z:ds[i]? with
   | none=>rw [z]at e;cases e
   | some d'=>
    rw [z]at e
    obtain⟨v,h1,h2⟩:=l.at z
    have e':d'=d:=Option.some.inj (Option.some.inj e)
    subst e'
    refine⟨v,?_,h2⟩
    unfold start
    rw [List.getElem?_append_left (by rw [List.length_map,hlen];exact hi),List.getElem?_map,h1];rfl
  ·rw [List.getElem?_append_right (by simpa using hi),List.getElem?_replicate]at e
   split at e<;>cases e
section
variable{P:Program}{w:World}{K:PySem.W.Frag}{mg:Str→Option Value}{base:Heap}
theorem okM{x qual:Str}{st:Stmt}{f:Addr}{fd:FuncData}{N ps:List Str}{k:Nat}(Fb:Rho→Sto→R Fl)(F:Fun K x qual st f fd)(Sc:FnScope N ps (zG st))
  (hbody: ∀(cdv:Value)(A:Around)(outer:List Env)(s:Shared)(H:Hp)(E:XK),Room k (A.deeper (envOfC qual (zG st) s.heap.objs.size f cdv))→
   zKA (zNA CX0 P w K mg base N qual (zG st) f cdv A outer s H E).nox W0 (wG st) Fb):
  FnOk P w K mg base CX0 (k+1) f fd ps (spM ⟨K,mg,P,w⟩ ps.length fun ds S=>yO (Fb (zS N ds) S)):=by
 refine F.ok Sc (fun vs H Q E h=>?_) (fun cdv A outer s H vs Q E hr h=>?_)
 ·obtain⟨α,S,ds,_,l,hl,_⟩:=h
  rw [l.length,hl]
 ·obtain⟨α,S,ds,wd,l,hl,q⟩:=h
  obtain⟨t,ht,kk⟩:=hbody cdv A outer s H E hr
  refine⟨t,ht,kk α (zS N ds) S (start N vs) H _ wd (zEO l) ?_⟩
  dsimp only at q
  cases z:Fb (zS N ds) S with
  | ok fl S'=>
   rw [z]at q
   cases fl with
   | next ρ=>exact fun σ α' H' x' w' s'=>q .non α' H' x' w' (DenE.val cR)
   | ret r=>exact fun v α' H' x' w' d'=>q v α' H' x' w' d'
   | brk ρ=>exact q.elim
   | cont ρ=>exact q.elim
  | exc c fs S'=>rw [z]at q;exact fun α' H' x' w'=>q α' H' x' w'
  | no=>rw [z]at q;exact q
end
end M
end L2
namespace L2
namespace M
open PySem PySem.Spec PyProof.Rows
inductive Vw where
 | fl (v:V) | tp (ds:List MV) | ls (ds:List MV)
def gH(S:Sto):Er→Option (List MV)
 | .new ds=>some ds
 | .val (.scr ds)=>some ds
 | .val (.loc l)=>match S[l]? with
  | some (.lst ds)=>some ds
  | _=>none
 | _=>none
def vwE(S:Sto):Er→Option Vw
 | .val .non=>some (.fl .non)
 | .val (.bl b)=>some (.fl (.bl b))
 | .val (.int i)=>some (.fl (.int i))
 | .val (.str x)=>some (.fl (.str (mkS x)))
 | .val (.tup ds)=>some (.tp ds)
 | .val (.typ _)=>none
 | r=>(gH S r).map .ls
def prs(e:MV→MV→Option Bool):List MV→List MV→Option (List Bool)
 | d::ds,f::fs=>(e d f).bind fun k=>(prs e ds fs).map (k::·)
 | _,_=>some []
def eqW(e:MV→MV→Option Bool):Vw→Vw→Option Bool
 | .fl x,.fl y=>some (eqV x y)
 | .tp ds,.tp es=>(prs e ds es).map fun bs=>bs.all id&&ds.length==es.length
 | .ls ds,.ls es=>if ds.length=es.length then(prs e ds es).map fun bs=>bs.all id else some false
 | _,_=>some false
theorem zXH(e:MV→MV→Option Bool)(ds es:List MV):eqW e (.tp ds) (.tp es)=(prs e ds es).map fun bs=>bs.all id&&ds.length==es.length:=rfl
theorem zXI(e:MV→MV→Option Bool)(ds es:List MV):eqW e (.ls ds) (.ls es)=if ds.length=es.length then(prs e ds es).map fun bs=>bs.all id else some false:=rfl
def eqv(S:Sto):Nat→MV→MV→Option Bool
 | 0,_,_=>none
 | n+1,a,b=>(vwE S (.val a)).bind fun x=>(vwE S (.val b)).bind fun y=>eqW (eqv S n) x y
def zGD(S:Sto)(n:Nat)(a b:Er):Option Bool:=(vwE S a).bind fun x=>(vwE S b).bind fun y=>eqW (eqv S n) x y
section
variable{X:Cx}{α:List Addr}{S:Sto}{H:Hp}
theorem zLH{K:PySem.W.Frag}{g:Gm}(hK:g.K=K)(wd:Wd g α S H){r:Er}{ds:List MV}{x:V}(e:gH S r=some ds)(d:DenX K α H r x): ∃a vs,x=.ref a∧SqL K H a vs∧DenL K α H ds vs:=by
 subst hK
 unfold gH at e
 split at e
 ·cases e
  obtain⟨b,vs,rfl,h,_,l⟩:=d
  exact⟨b,vs,rfl,.of h,l⟩
 ·cases e
  obtain⟨a,vs,rfl,s,l⟩:=zNP d
  exact⟨a,vs,rfl,s.l,l⟩
 ·rename_i n
  obtain⟨a,rfl,h⟩:=zAW d
  split at e
  ·rename_i es hS
   cases e
   obtain⟨vs,h1,l⟩:=wd.obj n a _ h hS
   exact⟨a,vs,rfl,.of h1,l⟩
  ·cases e
 ·cases e
theorem zDY{r:Er}{x y:V}(e:vwE S r=some (.fl y))(d:DenX X.K α H r x):x=y∧kI y=true:=by
 unfold vwE at e
 split at e
 ·cases e;exact⟨zCG d,rfl⟩
 ·cases e;exact⟨zEM d,rfl⟩
 ·cases e;exact⟨xB d,rfl⟩
 ·cases e;exact⟨jX d,rfl⟩
 ·cases e
 ·cases e
 ·cases z:gH S r<;>rw [z]at e<;>cases e
theorem zDZ{r:Er}{x:V}{ds:List MV}(e:vwE S r=some (.tp ds))(d:DenX X.K α H r x): ∃a vs,x=.ref a∧SqT X.K H a vs∧DenL X.K α H ds vs:=by
 unfold vwE at e
 split at e
 ·cases e
 ·cases e
 ·cases e
 ·cases e
 ·cases e;exact cL d
 ·cases e
 ·cases z:gH S r<;>rw [z]at e<;>cases e
theorem zEA(wd:Wd X.g α S H){r:Er}{x:V}{ds:List MV}(e:vwE S r=some (.ls ds))(d:DenX X.K α H r x): ∃a vs,x=.ref a∧SqL X.K H a vs∧DenL X.K α H ds vs:=by
 unfold vwE at e
 split at e
 ·cases e
 ·cases e
 ·cases e
 ·cases e
 ·cases e
 ·cases e
 ·cases z:gH S r with
  | none=>rw [z]at e;cases e
  | some es=>rw [z]at e;cases e;exact zLH rfl wd z d
theorem zFX{e:MV→MV→Option Bool}: ∀{ds es:List MV}{bs:List Bool},prs e ds es=some bs→bs.length=min ds.length es.length
 | [],_,_,h=>by simp [prs]at h;subst h;simp
 | _::_,[],_,h=>by simp [prs]at h;subst h;simp
 | d::ds,f::fs,bs,h=>by
  unfold prs at h
  cases z:e d f with
  | none=>rw [z]at h;cases h
  | some k=>
   rw [z]at h
   cases z2:prs e ds fs with
   | none=>simp [z2]at h
   | some cs=>
    simp [z2]at h
    subst h
    simp [zFX z2]
theorem zSD{e:MV→MV→Option Bool}: ∀{ds es:List MV}{bs:List Bool}{j:Nat}{d f:MV},prs e ds es=some bs→ds[j]? =some d→es[j]? =some f→e d f=some (bs.getD j true)
 | [],_,_,_,_,_,h,h1,_=>by simp at h1
 | _::_,[],_,_,_,_,h,_,h2=>by simp at h2
 | d::ds,f::fs,bs,j,d',f',h,h1,h2=>by
  unfold prs at h
  cases z:e d f with
  | none=>rw [z]at h;cases h
  | some k=>
   rw [z]at h
   cases z2:prs e ds fs with
   | none=>simp [z2]at h
   | some cs=>
    simp [z2]at h
    subst h
    cases j with
    | zero=>simp at h1 h2;subst h1 h2;simpa using z
    | succ j=>simpa using zSD z2 (by simpa using h1) (by simpa using h2)
theorem range_all{bs:List Bool}{n:Nat}(h:bs.length=n):(List.range n).all (fun j=>bs.getD j true)=bs.all id:=by
 subst h
 rw [Bool.eq_iff_iff,List.all_eq_true,List.all_eq_true]
 constructor
 ·intro h x hx
  obtain⟨i,hi,rfl⟩:=List.getElem_of_mem hx
  have:=h i (List.mem_range.mpr hi)
  simpa [List.getD_eq_getElem?_getD,hi]using this
 ·intro h i hi
  have hi':=List.mem_range.mp hi
  have:=h bs[i] (List.getElem_mem hi')
  simpa [List.getD_eq_getElem?_getD,hi']using this
variable{pins:List (Addr×Obj)}{σ:St}{s:Shared}
theorem zIJ(I:Inv X pins σ H s){a:Addr}{xs ys:List V}(h:SqL X.K H a xs)(h':SqT X.K H a ys):False:=by
 obtain⟨_,_,pl,_⟩:=I.list h
 obtain⟨_,_,pt,_⟩:=I.tuple h'
 obtain⟨o,n,e,c,_,_⟩:=pl
 obtain⟨o',e',c',_⟩:=pt
 rw [e]at e'
 cases e'
 rw [c]at c'
 exact absurd c' (by simp)
theorem yEC(I:Inv X pins σ H s)(wd:Wd X.g α S H){e:MV→MV→Option Bool}(he: ∀d f v k,Den X.K α H d v→Den X.K α H f v→e d f=some k→k=true){a b:Er}{x:V}{p q:Vw}{k:Bool}
  (ha:vwE S a=some p) (hb:vwE S b=some q) (da:DenX X.K α H a x) (db:DenX X.K α H b x) (h:eqW e p q=some k):k=true:=by
 have hp: ∀{ds es:List MV}{vs:List V}{bs:List Bool},DenL X.K α H ds vs→DenL X.K α H es vs→prs e ds es=some bs→bs.all id=true:=by
  intro ds es vs bs l1 l2 z
  rw [List.all_eq_true]
  intro k hk
  obtain⟨i,hi,rfl⟩:=List.getElem_of_mem hk
  have hl:=zFX z
  have h1:i<ds.length:=by omega
  have h2:i<es.length:=by omega
  obtain⟨v,g1,g2⟩:=l1.at (List.getElem?_eq_getElem h1)
  obtain⟨v',g3,g4⟩:=l2.at (List.getElem?_eq_getElem h2)
  rw [g1]at g3;cases g3
  have:=he _ _ _ _ g2 g4 (zSD z (List.getElem?_eq_getElem h1) (List.getElem?_eq_getElem h2))
  simpa [List.getD_eq_getElem?_getD,hi]using this
 cases p with
 | fl y=>
  obtain⟨rfl,f1⟩:=zDY ha da
  cases q with
  | fl z=>obtain⟨rfl,f2⟩:=zDY hb db;cases h;exact yDS f1
  | tp ds=>obtain⟨a,vs,rfl,_⟩:=zDZ hb db;exact absurd (show false=true from f1) Bool.false_ne_true
  | ls ds=>obtain⟨a,vs,rfl,_⟩:=zEA wd hb db;exact absurd (show false=true from f1) Bool.false_ne_true
 | tp ds=>
  obtain⟨a1,vs,rfl,s1,l1⟩:=zDZ ha da
  cases q with
  | fl z=>obtain⟨rfl,f2⟩:=zDY hb db;exact absurd (show false=true from f2) Bool.false_ne_true
  | tp es=>
   obtain⟨a2,us,e2,s2,l2⟩:=zDZ hb db
   cases e2
   cases I.tuple_inj s1 s2
   rw [zXH]at h
   cases z:prs e ds es with
   | none=>rw [z]at h;cases h
   | some bs=>
    rw [z]at h
    cases h
    show(bs.all id&&ds.length==es.length)=true
    rw [hp l1 l2 z, ←l1.length, ←l2.length];simp
  | ls es=>obtain⟨a2,us,e2,s2,l2⟩:=zEA wd hb db;cases e2;exact(zIJ I s2 s1).elim
 | ls ds=>
  obtain⟨a1,vs,rfl,s1,l1⟩:=zEA wd ha da
  cases q with
  | fl z=>obtain⟨rfl,f2⟩:=zDY hb db;exact absurd (show false=true from f2) Bool.false_ne_true
  | tp es=>obtain⟨a2,us,e2,s2,l2⟩:=zDZ hb db;cases e2;exact(zIJ I s1 s2).elim
  | ls es=>
   obtain⟨a2,us,e2,s2,l2⟩:=zEA wd hb db
   cases e2
   cases I.list_inj s1 s2
   rw [zXI]at h
   rw [if_pos (by rw [←l1.length, ←l2.length])]at h
   cases z:prs e ds es with
   | none=>rw [z]at h;cases h
   | some bs=>rw [z]at h;cases h;exact hp l1 l2 z
theorem zNT(I:Inv X pins σ H s)(wd:Wd X.g α S H): ∀(n:Nat)(d f:MV)(v:V)(k:Bool),Den X.K α H d v→Den X.K α H f v→eqv S n d f=some k→k=true
 | 0,_,_,_,_,_,_,h=>by cases h
 | n+1,d,f,v,k,h1,h2,h=>by
  unfold eqv at h
  cases za:vwE S (.val d)with
  | none=>rw [za]at h;cases h
  | some p=>
   cases zb:vwE S (.val f)with
   | none=>rw [za,zb]at h;cases h
   | some q=>
    rw [za,zb]at h
    exact yEC I wd (zNT I wd n) za zb (a:=.val d) (b:=.val f) h1 h2 h
theorem zIK{e:MV→MV→Option Bool}{A:Around}(he: ∀d f x y u v k,Den X.K α H d x→Den X.K α H f y→RelV x u→RelV y v→e d f=some k→SeqAt.EqAt A s u v k)
  {ds es:List MV} {vs us:List V} {its its2:List Value} {bs:List Bool} (l1:DenL X.K α H ds vs) (l2:DenL X.K α H es us) (r1:Vals vs its) (r2:Vals us its2) (z:prs e ds es=some bs):
  ∀j (h1:j<its.toArray.size) (h2:j<its2.toArray.size),SeqAt.EqAt A s its.toArray[j] its2.toArray[j] (bs.getD j true):=by
 intro j h1 h2
 have g1:j<vs.length:=by rw [r1.length];simpa using h1
 have g2:j<us.length:=by rw [r2.length];simpa using h2
 obtain⟨d,d1,d2⟩:=l1.get (List.getElem?_eq_getElem g1)
 obtain⟨f,f1,f2⟩:=l2.get (List.getElem?_eq_getElem g2)
 obtain⟨u,u1,u2⟩:=r1.get (List.getElem?_eq_getElem g1)
 obtain⟨v,v1,v2⟩:=r2.get (List.getElem?_eq_getElem g2)
 have e1:its.toArray[j]=u:=by
  have:its[j]? =some (its[j]'(by simpa using h1)):=List.getElem?_eq_getElem _
  rw [u1]at this
  simpa using(Option.some.inj this).symm
 have e2:its2.toArray[j]=v:=by
  have:its2[j]? =some (its2[j]'(by simpa using h2)):=List.getElem?_eq_getElem _
  rw [v1]at this
  simpa using(Option.some.inj this).symm
 rw [e1,e2]
 exact he d f _ _ u v _ d2 f2 u2 v2 (zSD z d1 f1)
theorem zSE(I:Inv X pins σ H s)(wd:Wd X.g α S H): ∀(n:Nat)(A:Around)(d f:MV)(x y:V)(u v:Value)(k:Bool),A.units+n<cLine→Den X.K α H d x→Den X.K α H f y→RelV x u→RelV y v→eqv S n d f=some k→SeqAt.EqAt A s u v k
 | 0,_,_,_,_,_,_,_,_,_,_,_,_,_,h=>by cases h
 | n+1,A,d,f,x,y,u,v,k,hu,h1,h2,rx,ry,h=>by
  have hu0:A.units<cLine:=by omega
  have hsame:=h
  unfold eqv at h
  cases za:vwE S (.val d)with
  | none=>rw [za]at h;cases h
  | some p=>
   cases zb:vwE S (.val f)with
   | none=>rw [za,zb]at h;cases h
   | some q=>
    rw [za,zb]at h
    have h:eqW (eqv S n) p q=some k:=h
    have he:=fun d f x y u v k a b c d' e=>zSE I wd n A.in1 d f x y u v k (show A.units+1+n<cLine by omega) a b c d' e
    cases p with
    | fl x'=>
     obtain⟨rfl,fx⟩:=zDY za (α:=α) (H:=H) (X:=X) h1
     cases q with
     | fl y'=>obtain⟨rfl,fy⟩:=zDY zb (α:=α) (H:=H) (X:=X) h2;cases h;exact yLP rx ry fx fy
     | tp es=>
      obtain⟨b,us,rfl,s2,l2⟩:=zDZ zb (α:=α) (H:=H) (X:=X) h2
      cases ry;cases h
      obtain⟨its,_,pt,_⟩:=I.tuple s2
      exact yJY rx fx pt hu0
     | ls es=>
      obtain⟨b,us,rfl,s2,l2⟩:=zEA wd zb h2
      cases ry;cases h
      obtain⟨its,_,pl,_⟩:=I.list s2
      exact eq_lr rx fx pl.isList hu0
    | tp ds=>
     obtain⟨a,vs,rfl,s1,l1⟩:=zDZ za (α:=α) (H:=H) (X:=X) h1
     cases rx
     obtain⟨its,r1,pt,_⟩:=I.tuple s1
     cases q with
     | fl y'=>obtain⟨rfl,fy⟩:=zDY zb (α:=α) (H:=H) (X:=X) h2;cases h;exact yJX ry fy pt hu0
     | tp es=>
      obtain⟨b,us,rfl,s2,l2⟩:=zDZ zb (α:=α) (H:=H) (X:=X) h2
      cases ry
      by_cases hab:a=b
      ·subst hab
       rw [zNT I wd (n+1) d f _ k h1 h2 hsame]
       exact SeqAt.EqAt.same _
      ·obtain⟨its2,r2,pt2,_⟩:=I.tuple s2
       rw [zXH]at h
       cases z:prs (eqv S n) ds es with
       | none=>rw [z]at h;cases h
       | some bs=>
        rw [z]at h
        cases h
        have:=SeqAt.RcAt.tuples pt pt2 hu0 (zIK he l1 l2 r1 r2 z)
        have hl:=zFX z
        rw [range_all (by rw [hl];simp [←r1.length, ←r2.length,l1.length,l2.length])]at this
        have e3:(its.toArray.size==its2.toArray.size)=(ds.length==es.length):=by simp [←r1.length, ←r2.length,l1.length,l2.length]
        rw [e3]at this
        exact SeqAt.EqAt.of_refs hab this
     | ls es=>
      obtain⟨b,us,rfl,s2,l2⟩:=zEA wd zb h2
      cases ry;cases h
      obtain⟨its2,_,pl,_⟩:=I.list s2
      exact SeqAt.EqAt.tuple_list pt pl.isList hu0
    | ls ds=>
     obtain⟨a,vs,rfl,s1,l1⟩:=zEA wd za h1
     cases rx
     obtain⟨its,r1,pl,_⟩:=I.list s1
     cases q with
     | fl y'=>obtain⟨rfl,fy⟩:=zDY zb (α:=α) (H:=H) (X:=X) h2;cases h;exact eq_ll ry fy pl.isList hu0
     | tp es=>
      obtain⟨b,us,rfl,s2,l2⟩:=zDZ zb (α:=α) (H:=H) (X:=X) h2
      cases ry;cases h
      obtain⟨its2,_,pt,_⟩:=I.tuple s2
      exact SeqAt.EqAt.list_tuple pl.isList pt hu0
     | ls es=>
      obtain⟨b,us,rfl,s2,l2⟩:=zEA wd zb h2
      cases ry
      by_cases hab:a=b
      ·subst hab
       rw [zNT I wd (n+1) d f _ k h1 h2 hsame]
       exact SeqAt.EqAt.same _
      ·obtain⟨its2,r2,pl2,_⟩:=I.list s2
       rw [zXI]at h
       by_cases hl:ds.length=es.length
       ·rw [if_pos hl]at h
        cases z:prs (eqv S n) ds es with
        | none=>rw [z]at h;cases h
        | some bs=>
         rw [z]at h
         cases h
         have hs:its.toArray.size=its2.toArray.size:=by simp [←r1.length, ←r2.length,l1.length,l2.length,hl]
         have:=SeqAt.RcAt.lists pl.isList pl2.isList hs hu0 (zIK he l1 l2 r1 r2 z)
         have hl':=zFX z
         rw [range_all (by rw [hl'];simp [←r1.length,l1.length,hl])]at this
         exact SeqAt.EqAt.of_refs hab this
       ·rw [if_neg hl]at h
        cases h
        exact SeqAt.EqAt.of_refs hab (SeqAt.RcAt.lists_lengths pl.isList pl2.isList (by simpa [←r1.length, ←r2.length,l1.length,l2.length]using hl) hu0)
theorem yKA{RC:Around→Shared→Value→Value→Bool→Prop}{tr:Bool→Bool}{A:Around}
  (hff: ∀x y u v,RelV x u→RelV y v→kI x=true→kI y=true→RC A s u v (tr (eqV x y)))
  (hfl: ∀x v l items,RelV x v→kI x=true→s.heap.IsList l items→A.units<cLine→RC A s v (.ref l) (tr false)∧RC A s (.ref l) v (tr false))
  (hft: ∀x v l items,RelV x v→kI x=true→s.heap.IsTuple l items→A.units<cLine→RC A s v (.ref l) (tr false)∧RC A s (.ref l) v (tr false))
  (hlt: ∀l b items items2,s.heap.IsList l items→s.heap.IsTuple b items2→A.units<cLine→RC A s (.ref l) (.ref b) (tr false)∧RC A s (.ref b) (.ref l) (tr false))
  (htt: ∀(l b:Addr)(items items2:Array Value)(e:Nat→Bool),s.heap.IsTuple l items→s.heap.IsTuple b items2→A.units<cLine→(∀j (h1:j<items.size) (h2:j<items2.size),SeqAt.EqAt A.in1 s items[j] items2[j] (e j))→RC A s (.ref l) (.ref b) (tr ((List.range (min items.size items2.size)).all e&&items.size==items2.size)))
  (hll: ∀(l b:Addr)(items items2:Array Value)(e:Nat→Bool),s.heap.IsList l items→s.heap.IsList b items2→items.size=items2.size→A.units<cLine→(∀j (h1:j<items.size) (h2:j<items2.size),SeqAt.EqAt A.in1 s items[j] items2[j] (e j))→RC A s (.ref l) (.ref b) (tr ((List.range items.size).all e)))
  (hln: ∀(l b:Addr)(items items2:Array Value),s.heap.IsList l items→s.heap.IsList b items2→(items.size !=items2.size)=true→A.units<cLine→RC A s (.ref l) (.ref b) (tr false))
  (I:Inv X pins σ H s) (wd:Wd X.g α S H) (n:Nat) {a b:Er} {x y:V} {u v:Value} {k:Bool} (hu:A.units+(n+1)<cLine) (h1:DenX X.K α H a x) (h2:DenX X.K α H b y) (rx:RelV x u) (ry:RelV y v) (h:zGD S n a b=some k):RC A s u v (tr k):=by
 have hu0:A.units<cLine:=by omega
 unfold zGD at h
 cases za:vwE S a with
 | none=>rw [za]at h;cases h
 | some p=>
  cases zb:vwE S b with
  | none=>rw [za,zb]at h;cases h
  | some q=>
   rw [za,zb]at h
   have h:eqW (eqv S n) p q=some k:=h
   have he:=fun d f x y u v k a b c d' e=>zSE I wd n A.in1 d f x y u v k (show A.units+1+n<cLine by omega) a b c d' e
   cases p with
   | fl x'=>
    obtain⟨rfl,fx⟩:=zDY za h1
    cases q with
    | fl y'=>obtain⟨rfl,fy⟩:=zDY zb h2;cases h;exact hff _ _ _ _ rx ry fx fy
    | tp es=>
     obtain⟨b,us,rfl,s2,l2⟩:=zDZ zb h2
     cases ry;cases h
     obtain⟨its,_,pt,_⟩:=I.tuple s2
     exact(hft _ _ _ _ rx fx pt hu0).1
    | ls es=>
     obtain⟨b,us,rfl,s2,l2⟩:=zEA wd zb h2
     cases ry;cases h
     obtain⟨its,_,pl,_⟩:=I.list s2
     exact(hfl _ _ _ _ rx fx pl.isList hu0).1
   | tp ds=>
    obtain⟨a,vs,rfl,s1,l1⟩:=zDZ za h1
    cases rx
    obtain⟨its,r1,pt,_⟩:=I.tuple s1
    cases q with
    | fl y'=>obtain⟨rfl,fy⟩:=zDY zb h2;cases h;exact(hft _ _ _ _ ry fy pt hu0).2
    | tp es=>
     obtain⟨b,us,rfl,s2,l2⟩:=zDZ zb h2
     cases ry
     obtain⟨its2,r2,pt2,_⟩:=I.tuple s2
     rw [zXH]at h
     cases z:prs (eqv S n) ds es with
     | none=>rw [z]at h;cases h
     | some bs=>
      rw [z]at h
      cases h
      have:=htt _ _ _ _ _ pt pt2 hu0 (zIK he l1 l2 r1 r2 z)
      have hl:=zFX z
      rw [range_all (by rw [hl];simp [←r1.length, ←r2.length,l1.length,l2.length])]at this
      have e3:(its.toArray.size==its2.toArray.size)=(ds.length==es.length):=by simp [←r1.length, ←r2.length,l1.length,l2.length]
      rw [e3]at this
      exact this
    | ls es=>
     obtain⟨b,us,rfl,s2,l2⟩:=zEA wd zb h2
     cases ry;cases h
     obtain⟨its2,_,pl,_⟩:=I.list s2
     exact(hlt _ _ _ _ pl.isList pt hu0).2
   | ls ds=>
    obtain⟨a,vs,rfl,s1,l1⟩:=zEA wd za h1
    cases rx
    obtain⟨its,r1,pl,_⟩:=I.list s1
    cases q with
    | fl y'=>obtain⟨rfl,fy⟩:=zDY zb h2;cases h;exact(hfl _ _ _ _ ry fy pl.isList hu0).2
    | tp es=>
     obtain⟨b,us,rfl,s2,l2⟩:=zDZ zb h2
     cases ry;cases h
     obtain⟨its2,_,pt,_⟩:=I.tuple s2
     exact(hlt _ _ _ _ pl.isList pt hu0).1
    | ls es=>
     obtain⟨b,us,rfl,s2,l2⟩:=zEA wd zb h2
     cases ry
     obtain⟨its2,r2,pl2,_⟩:=I.list s2
     rw [zXI]at h
     by_cases hl:ds.length=es.length
     ·rw [if_pos hl]at h
      cases z:prs (eqv S n) ds es with
      | none=>rw [z]at h;cases h
      | some bs=>
       rw [z]at h
       cases h
       have hs:its.toArray.size=its2.toArray.size:=by simp [←r1.length, ←r2.length,l1.length,l2.length,hl]
       have:=hll _ _ _ _ _ pl.isList pl2.isList hs hu0 (zIK he l1 l2 r1 r2 z)
       have hl':=zFX z
       rw [range_all (by rw [hl'];simp [←r1.length,l1.length,hl])]at this
       exact this
     ·rw [if_neg hl]at h
      cases h
      exact hln _ _ _ _ pl.isList pl2.isList (by simpa [←r1.length, ←r2.length,l1.length,l2.length]using hl) hu0
theorem yMD(I:Inv X pins σ H s)(wd:Wd X.g α S H)(n:Nat){A:Around}{a b:Er}{x y:V}{u v:Value}{k:Bool}(hu:A.units+(n+1)<cLine)(h1:DenX X.K α H a x)(h2:DenX X.K α H b y)(rx:RelV x u)(ry:RelV y v)(h:zGD S n a b=some k):SeqAt.RcAt A s u v k:=
 yKA (RC:=SeqAt.RcAt) (tr:=id) (fun _ _ _ _ a b c d=>yLV a b c d) (fun _ _ _ _ a b c d=>⟨rc_lr a b c d,rc_ll a b c d⟩) (fun _ _ _ _ a b c d=>⟨rc_tr a b c d,rc_tl a b c d⟩)
  (fun _ _ _ _ a b c=>⟨SeqAt.RcAt.list_tuple a b c,SeqAt.RcAt.tuple_list b a c⟩) (fun _ _ _ _ _ a b c d=>SeqAt.RcAt.tuples a b c d) (fun _ _ _ _ _ a b c d e=>SeqAt.RcAt.lists a b c d e) (fun _ _ _ _ a b c d=>SeqAt.RcAt.lists_lengths a b c d)
  I wd n hu h1 h2 rx ry h
theorem yME(I:Inv X pins σ H s)(wd:Wd X.g α S H)(n:Nat){A:Around}{a b:Er}{x y:V}{u v:Value}{k:Bool}(hu:A.units+(n+1)<cLine)(h1:DenX X.K α H a x)(h2:DenX X.K α H b y)(rx:RelV x u)(ry:RelV y v)(h:zGD S n a b=some k):SeqAt.RcNeAt A s u v (!k):=
 yKA (RC:=SeqAt.RcNeAt) (tr:=fun b=>!b) (fun _ _ _ _ a b c d=>yLW a b c d) (fun _ _ _ _ a b c d=>⟨rn_lr a b c d,rn_ll a b c d⟩) (fun _ _ _ _ a b c d=>⟨rn_tr a b c d,rn_tl a b c d⟩)
  (fun _ _ _ _ a b c=>⟨SeqAt.RcNeAt.list_tuple a b c,SeqAt.RcNeAt.tuple_list b a c⟩) (fun _ _ _ _ _ a b c d=>SeqAt.RcNeAt.tuples a b c d) (fun _ _ _ _ _ a b c d e=>SeqAt.RcNeAt.lists a b c d e) (fun _ _ _ _ a b c d=>SeqAt.RcNeAt.lists_lengths a b c d)
  I wd n hu h1 h2 rx ry h
mutual
theorem Den.inj(I:Inv X pins σ H s)(wd:Wd X.g α S H): ∀{d f:MV}{v:V},Den X.K α H d v→Den X.K α H f v→d=f
 | .non,f,v,h,h'=>by cases dI h;cases f<;>first | rfl | (have:=zBO h';cases this;done) | (have:=jN h';cases this;done) | (have:=jW h';cases this;done) | (have:=dJ h';cases this;done) | (obtain⟨_,_,e,_⟩:=kR h';cases e;done) | (obtain⟨_,_,e,_⟩:=cK h';cases e;done) | (obtain⟨_,e,_⟩:=gZ h';cases e;done)
 | .bl b,f,v,h,h'=>by cases zBO h;cases f<;>first | (have:=zBO h';cases this;rfl;done) | (have:=dI h';cases this;done) | (have:=jN h';cases this;done) | (have:=jW h';cases this;done) | (have:=dJ h';cases this;done) | (obtain⟨_,_,e,_⟩:=kR h';cases e;done) | (obtain⟨_,_,e,_⟩:=cK h';cases e;done) | (obtain⟨_,e,_⟩:=gZ h';cases e;done)
 | .int b,f,v,h,h'=>by cases jN h;cases f<;>first | (have:=jN h';cases this;rfl;done) | (have:=dI h';cases this;done) | (have:=zBO h';cases this;done) | (have:=jW h';cases this;done) | (have:=dJ h';cases this;done) | (obtain⟨_,_,e,_⟩:=kR h';cases e;done) | (obtain⟨_,_,e,_⟩:=cK h';cases e;done) | (obtain⟨_,e,_⟩:=gZ h';cases e;done)
 | .str b,f,v,h,h'=>by cases jW h;cases f<;>first | (have:=jW h';rw [zRU (V.str.inj this)];done) | (have:=dI h';cases this;done) | (have:=zBO h';cases this;done) | (have:=jN h';cases this;done) | (have:=dJ h';cases this;done) | (obtain⟨_,_,e,_⟩:=kR h';cases e;done) | (obtain⟨_,_,e,_⟩:=cK h';cases e;done) | (obtain⟨_,e,_⟩:=gZ h';cases e;done)
 | .typ b,f,v,h,h'=>by cases dJ h;cases f<;>first | (have:=dJ h';cases this;rfl;done) | (have:=dI h';cases this;done) | (have:=zBO h';cases this;done) | (have:=jN h';cases this;done) | (have:=jW h';cases this;done) | (obtain⟨_,_,e,_⟩:=kR h';cases e;done) | (obtain⟨_,_,e,_⟩:=cK h';cases e;done) | (obtain⟨_,e,_⟩:=gZ h';cases e;done)
 | .tup ds,f,v,h,h'=>by
  obtain⟨a,vs,rfl,s1,l1⟩:=kR h
  cases f with
  | tup es=>
   obtain⟨a2,us,e2,s2,l2⟩:=kR h'
   cases e2
   cases I.tuple_inj s1 s2
   rw [DenL.inj I wd l1 l2]
  | scr es=>obtain⟨a2,us,e2,s2,l2⟩:=cK h';cases e2;exact(zIJ I s2.l s1).elim
  | loc l=>
   obtain⟨a2,e2,h2⟩:=gZ h'
   cases e2
   obtain⟨ho,k1,k2,k3⟩:=wd.mem (List.mem_of_getElem? h2)
   rcases s1 with(s1 | ⟨o,s1⟩) | ⟨o,its,n,s1,_⟩
   ·rw [k1]at s1;exact absurd (Option.some.inj s1) (k2 _)
   ·rw [k1]at s1;exact absurd (Option.some.inj s1) (k3 _ _)
   ·have:=(I.bs a o (I.mod.kin a o s1)).2;rw [k1]at this;cases this
  | non=>cases dI h'
  | bl b=>cases zBO h'
  | int b=>cases jN h'
  | str b=>cases jW h'
  | typ b=>cases dJ h'
 | .scr ds,f,v,h,h'=>by
  obtain⟨a,vs,rfl,s1,l1⟩:=cK h
  cases f with
  | scr es=>
   obtain⟨a2,us,e2,s2,l2⟩:=cK h'
   cases e2
   cases I.list_inj s1.l s2.l
   rw [DenL.inj I wd l1 l2]
  | tup es=>obtain⟨a2,us,e2,s2,l2⟩:=kR h';cases e2;exact(zIJ I s1.l s2).elim
  | loc l=>
   obtain⟨a2,e2,h2⟩:=gZ h'
   cases e2
   obtain⟨ho,k1,k2,k3⟩:=wd.mem (List.mem_of_getElem? h2)
   rcases s1 with⟨o,s1⟩ | ⟨o,its,n,s1,_⟩
   ·rw [k1]at s1;exact absurd (Option.some.inj s1) (k3 _ _)
   ·have:=(I.bs a o (I.mod.kin a o s1)).2;rw [k1]at this;cases this
  | non=>cases dI h'
  | bl b=>cases zBO h'
  | int b=>cases jN h'
  | str b=>cases jW h'
  | typ b=>cases dJ h'
 | .loc l,f,v,h,h'=>by
  obtain⟨a,rfl,h1⟩:=gZ h
  obtain⟨ho,k1,k2,k3⟩:=wd.mem (List.mem_of_getElem? h1)
  cases f with
  | loc m=>
   obtain⟨a2,e2,h2⟩:=gZ h'
   cases e2
   by_cases hlm:l=m
   ·rw [hlm]
   ·exact absurd rfl (wd.ne h1 h2 hlm)
  | tup es=>
   obtain⟨a2,us,e2,s1,l2⟩:=kR h'
   cases e2
   rcases s1 with(s1 | ⟨o,s1⟩) | ⟨o,its,n,s1,_⟩
   ·rw [k1]at s1;exact absurd (Option.some.inj s1) (k2 _)
   ·rw [k1]at s1;exact absurd (Option.some.inj s1) (k3 _ _)
   ·have:=(I.bs a o (I.mod.kin a o s1)).2;rw [k1]at this;cases this
  | scr es=>
   obtain⟨a2,us,e2,s1,l2⟩:=cK h'
   cases e2
   rcases s1 with⟨o,s1⟩ | ⟨o,its,n,s1,_⟩
   ·rw [k1]at s1;exact absurd (Option.some.inj s1) (k3 _ _)
   ·have:=(I.bs a o (I.mod.kin a o s1)).2;rw [k1]at this;cases this
  | non=>cases dI h'
  | bl b=>cases zBO h'
  | int b=>cases jN h'
  | str b=>cases jW h'
  | typ b=>cases dJ h'
theorem DenL.inj(I:Inv X pins σ H s)(wd:Wd X.g α S H): ∀{ds fs:List MV}{vs:List V},DenL X.K α H ds vs→DenL X.K α H fs vs→ds=fs
 | [],fs,vs,h,h'=>by
  cases h.isnil
  cases fs with
  | nil=>rfl
  | cons f fs=>obtain⟨_,_,e,_⟩:=h'.uncons;cases e
 | d::ds,fs,vs,h,h'=>by
  obtain⟨v,r,rfl,a,l⟩:=h.uncons
  cases fs with
  | nil=>cases h'.isnil
  | cons f fs=>
   obtain⟨v',r',e,a',l'⟩:=h'.uncons
   cases e
   rw [Den.inj I wd a a',DenL.inj I wd l l']
end
end
end M
end L2
namespace L2
namespace M
open PySem PySem.Spec PyProof.Rows
inductive LexR(A:Around)(s:Shared):List Value→List Value→Bool→Prop
 | nn:LexR A s [] [] false
 | nc (x xs):LexR A s [] (x::xs) true
 | cn (y ys):LexR A s (y::ys) [] false
 | eq {y x ys xs k}:SeqAt.EqAt A s y x true→LexR A s ys xs k→LexR A s (y::ys) (x::xs) k
 | ne {y x ys xs k}:SeqAt.EqAt A s y x false→(∀(prog:Program)(w:World)(E Q:Value→Shared→Prop),Q (.bool k) s→wpAny (model prog w) A (richCompare .Lt y x) Q E s)→LexR A s (y::ys) (x::xs) k
section
open PySem.SeqAt
open PySem.AutoSeq1 (wpAny_loadPart')
open PySem.MeetsSeq PySem.MeetsSeq2 PySem.MeetsSeq3
theorem zXJ(l b:Addr)(its its2:Array Value)(n n2:Nat)(dd dd2:Option Addr)(sl sl2:Array (Option Value))(k:Bool):
  Meets (Builtin.«tuple.__lt__» ⟨[.ref l,.ref b],[]⟩)
   (fun A R s=>s.heap.get? l=some {cls:=.type "tuple",dict:=dd,data:=.seq its n,slots:=sl}∧s.heap.get? b=some {cls:=.type "tuple",dict:=dd2,data:=.seq its2 n2,slots:=sl2}∧
    LexR A.in1 s its.toList its2.toList k∧R (.ok (.ret (.bool k))) s):=
 .of_wp fun prog w A R s h=>by
  obtain⟨hp,g,d,tk,os⟩:=s;obtain⟨hl,hb,hx,h⟩:=h
  have f2:=AutoSeq1.sub_tuple_tuple
  wp_walk using wpAny_loadPart' hl,wpAny_loadPart' hb,wpAny_forIn_list _ (fun rest b s'=>b.1=none∧s'=⟨hp,g,d,tk,os⟩∧ ∃(vs ws:List Value),rest=vs.zip ws∧
   LexR A.in1 ⟨hp,g,d,tk,os⟩ vs ws k∧vs.length+its2.size=ws.length+its.size) _
  case turn=>
   rintro⟨y,x⟩ rest b s' ⟨hb',rfl,vs,ws,hz,hlx,hlen⟩
   cases hlx with
   | nn=>rw [List.zip_nil_left]at hz;cases hz
   | nc x xs=>rw [List.zip_nil_left]at hz;cases hz
   | cn y ys=>rw [List.zip_nil_right]at hz;cases hz
   | @eq y' x' ys xs k' he hr=>
    rw [List.zip_cons_cons]at hz
    injection hz with hyx hrest
    injection hyx with hy hx
    subst hy hx
    simp only [List.length_cons]at hlen
    refine wpAny_bind (he prog w _ _ ?_)
    wp_walk
    exact⟨rfl,rfl,_,_,hrest,hr,by omega⟩
   | @ne y' x' ys xs k' he hr=>
    rw [List.zip_cons_cons]at hz
    injection hz with hyx hrest
    injection hyx with hy hx
    subst hy hx
    refine wpAny_bind (he prog w _ _ ?_)
    have hri:=hr prog w
    wp_walk using hri
    exact⟨_,rfl,by simpa using h⟩
  case fin=>
   rintro⟨b1,b2⟩ s' ⟨hb',rfl,vs,ws,hz,hlx,hlen⟩
   simp only at hb'
   subst hb'
   have hv:k=decide (its.size<its2.size):=by
    cases hlx with
    | nn=>simp only [List.length_nil]at hlen;exact(decide_eq_false (by omega)).symm
    | nc x xs=>simp only [List.length_nil,List.length_cons]at hlen;exact(decide_eq_true (by omega)).symm
    | cn y ys=>simp only [List.length_nil,List.length_cons]at hlen;exact(decide_eq_false (by omega)).symm
    | eq he hr=>rw [List.zip_cons_cons]at hz;cases hz
    | ne he hr=>rw [List.zip_cons_cons]at hz;cases hz
   rw [hv]at h
   wp_walk
   exact⟨_,rfl,by simpa [Builtin.Tuple.tupleCompareSizes]using h⟩
  case h=>
   exact⟨rfl,rfl,its.toList,its2.toList,rfl,hx,by simp;omega⟩
end
theorem yED{A:Around}{s:Shared}{l b:Addr}{its its2:Array Value}{k:Bool}(hl:IsTup s.heap l its)(hb:IsTup s.heap b its2)(hx:LexR A.in1 s its.toList its2.toList k)(hu:A.units<cLine)(prog:Program)(w:World)(E Q:Value→Shared→Prop)(h:Q (.bool k) s):
  wpAny (model prog w) A (richCompare .Lt (.ref l) (.ref b)) Q E s:=by
 obtain⟨⟨cls,dd,data,sl⟩,ho,hc,n,hd⟩:=id hl
 obtain⟨⟨cls2,dd2,data2,sl2⟩,ho2,hc2,n2,hd2⟩:=id hb
 simp only at hc hd hc2 hd2
 subst hc hd hc2 hd2
 exact richCompare_meets_room (op:=.Lt) ⟨_,ho,rfl⟩ ⟨_,ho2,rfl⟩ PySem.F.slot_tuple_lt PySem.F.entry_tuple_lt (PySem.F.args_tuple_lt_2 _ _) (zXJ l b its its2 n n2 dd dd2 sl sl2 k)
  ⟨ho,ho2,hx,show Value.bool k≠Value.notImplemented∧Q (.bool k) s from⟨(fun x=>nomatch x),h⟩⟩ hu
def yEE(e l:MV→MV→Option Bool):List MV→List MV→Option Bool
 | [],[]=>some false
 | [],_::_=>some true
 | _::_,[]=>some false
 | d::ds,f::fs=>(e d f).bind fun k=>if k=true then yEE e l ds fs else l d f
def ltv(S:Sto):Nat→MV→MV→Option Bool
 | 0,_,_=>none
 | n+1,.int i,.int j=>some (decide (i<j))
 | n+1,.str x,.str y=>some (decide (x<y))
 | n+1,.tup ds,.tup es=>yEE (eqv S n) (ltv S n) ds es
 | _,_,_=>none
section
variable{X:Cx}{α:List Addr}{S:Sto}{H:Hp}{pins:List (Addr×Obj)}{σ:St}{s:Shared}
theorem yKB{A:Around}{e l:MV→MV→Option Bool}(he: ∀d f x y u v k,Den X.K α H d x→Den X.K α H f y→RelV x u→RelV y v→e d f=some k→SeqAt.EqAt A s u v k)
  (hl: ∀d f x y u v k,Den X.K α H d x→Den X.K α H f y→RelV x u→RelV y v→l d f=some k→ ∀(prog:Program)(w:World)(E Q:Value→Shared→Prop),Q (.bool k) s→wpAny (model prog w) A (richCompare .Lt u v) Q E s):
  ∀{ds fs:List MV}{vs us:List V}{its its2:List Value}{k:Bool},DenL X.K α H ds vs→DenL X.K α H fs us→Vals vs its→Vals us its2→yEE e l ds fs=some k→LexR A s its its2 k
 | [],[],_,_,_,_,k,l1,l2,r1,r2,h=>by
  cases l1.isnil;cases l2.isnil;cases r1;cases r2;cases h;exact .nn
 | [],f::fs,_,_,_,_,k,l1,l2,r1,r2,h=>by
  cases l1.isnil
  obtain⟨v,r,rfl,a,l⟩:=l2.uncons
  cases r1
  cases r2 with
  | cons a b=>cases h;exact .nc _ _
 | d::ds,[],_,_,_,_,k,l1,l2,r1,r2,h=>by
  cases l2.isnil
  obtain⟨v,r,rfl,a,l⟩:=l1.uncons
  cases r2
  cases r1 with
  | cons a b=>cases h;exact .cn _ _
 | d::ds,f::fs,_,_,_,_,k,l1,l2,r1,r2,h=>by
  obtain⟨v,r,rfl,a,l1'⟩:=l1.uncons
  obtain⟨v2,r3,rfl,a2,l2'⟩:=l2.uncons
  cases r1 with
  | cons b1 c1=>
   cases r2 with
   | cons b2 c2=>
    unfold yEE at h
    cases z:e d f with
    | none=>rw [z]at h;cases h
    | some kk=>
     rw [z]at h
     have h:(if kk=true then yEE e l ds fs else l d f)=some k:=h
     cases kk with
     | true=>
      rw [if_pos rfl]at h
      exact .eq (he d f _ _ _ _ _ a a2 b1 b2 z) (yKB he hl l1' l2' c1 c2 h)
     | false=>
      rw [if_neg Bool.false_ne_true]at h
      exact .ne (he d f _ _ _ _ _ a a2 b1 b2 z) (hl d f _ _ _ _ _ a a2 b1 b2 h)
theorem yEF(I:Inv X pins σ H s)(wd:Wd X.g α S H): ∀(n:Nat)(A:Around)(d f:MV)(x y:V)(u v:Value)(k:Bool),A.units+n<cLine→Den X.K α H d x→Den X.K α H f y→RelV x u→RelV y v→ltv S n d f=some k→
  ∀(prog:Program)(w:World)(E Q:Value→Shared→Prop),Q (.bool k) s→wpAny (model prog w) A (richCompare .Lt u v) Q E s
 | 0,_,_,_,_,_,_,_,_,_,_,_,_,_,h=>by cases h
 | n+1,A,d,f,x,y,u,v,k,hu,h1,h2,rx,ry,h=>by
  intro prog w E Q hq
  unfold ltv at h
  split at h
  ·cases h
  ·cases h
   cases jN h1;cases jN h2
   obtain⟨t,rfl⟩:=rx
   obtain⟨t',rfl⟩:=ry
   exact(PyProof.Rows.lt_int hq:wpAny (model prog w) A (compareOp .Lt _ _) Q E s)
  ·cases h
   cases jW h1;cases jW h2
   obtain⟨t,rfl⟩:=rx
   obtain⟨t',rfl⟩:=ry
   refine(PySem.P.lt_str ?_:wpAny (model prog w) A (compareOp .Lt _ _) Q E s)
   rw [zCF,zCF]
   exact hq
  ·rename_i n' ds es hn
   obtain⟨a,vs,rfl,s1,l1⟩:=kR h1
   obtain⟨b,us,rfl,s2,l2⟩:=kR h2
   cases rx;cases ry
   obtain⟨its,r1,pt,_⟩:=I.tuple s1
   obtain⟨its2,r2,pt2,_⟩:=I.tuple s2
   cases hn
   refine yED pt pt2 ?_ (by omega) prog w E Q hq
   exact yKB (fun d f x y u v k a b c d' e=>zSE I wd n A.in1 d f x y u v k (show A.units+1+n<cLine by omega) a b c d' e)
    (fun d f x y u v k a b c d' e=>yEF I wd n A.in1 d f x y u v k (show A.units+1+n<cLine by omega) a b c d' e) l1 l2 r1 r2 h
  ·cases h
end
end M
end L2
namespace L2
namespace M
open PySem PySem.Spec PyProof.Rows
section
variable{X:Cx}{W:XW}{a b c e:Expr}{es:List Expr}{f g h:Rho→Sto→R Er}{af:Rho→Sto→R (List Er)}{pos:Pos}
def iiF(C:Int→Int→Prop)[∀i j,Decidable (C i j)](g:Int→Int→Int):Er→Er→Sto→R Er
 | .val (.int i),.val (.int j),S=>if C i j then .ok (.val (.int (g i j))) S else .no
 | _,_,_=>.no
def ibF(g:Int→Int→Bool):Er→Er→Sto→R Er
 | .val (.int i),.val (.int j),S=>.ok (.val (.bl (g i j))) S
 | _,_,_=>.no
theorem zXK{C C':Int→Int→Prop}[∀i j,Decidable (C i j)]{g:Int→Int→Int}(h: ∀i j,C i j→C' i j):Op2 X W (rI C' fun i j=>.int (g i j)) (iiF C g):=by
 intro p q x y α S H Q wd dp dq post
 unfold iiF at post
 split at post
 ·split at post
  ·rename_i hc
   exact⟨_,_,xB dp,xB dq,h _ _ hc,Post.val post wd (xJ _)⟩
  ·exact post.elim
 ·exact post.elim
theorem yHY{g:Int→Int→Int}:Op2 X W (rI0 fun i j=>.int (g i j)) (iiF (fun _ _=>True) g):=by
 intro p q x y α S H Q wd dp dq post
 unfold iiF at post
 split at post
 ·rw [if_pos trivial]at post
  exact⟨_,_,xB dp,xB dq,Post.val post wd (xJ _)⟩
 ·exact post.elim
theorem yMF{g:Int→Int→Bool}:Op2 X W (rI0 fun i j=>.bl (g i j)) (ibF g):=by
 intro p q x y α S H Q wd dp dq post
 unfold ibF at post
 split at post
 ·exact⟨_,_,xB dp,xB dq,Post.val post wd (xH _)⟩
 ·exact post.elim
abbrev zNU:=iiF (fun _ _=>True) fun i j=>i - j
theorem zCJ(ha:PEm X W a f)(hb:PEm X W b g):PEm X W (.BinOp a .Sub b pos) (fun ρ S=>(f ρ S).bind fun p S1=>(g ρ S1).bind fun q S2=>zNU p q S2):=zQS yLG yHY ha hb
def divC(_ j:Int):Prop:=0<j∧j.natAbs.log2<9000
instance(i j:Int):Decidable (divC i j):=inferInstanceAs (Decidable (_∧_))
abbrev zBQ:=iiF divC fun i j=>i / j
theorem yEG:OpR X (binaryOp .FloorDiv) (rI divC fun i j=>.int (i / j)):=opI fun i j _ _ _ _ _ hc q=>by
 have e:i.fdiv j=i / j:=Int.fdiv_eq_ediv_of_nonneg i (Int.le_of_lt hc.1)
 refine floordiv_int (by have:=hc.1;omega) ?_ (.inl (PyProof.noPylong_of_log2 hc.2))
 rw [e]
 exact q
theorem kS(ha:PEm X W a f)(hb:PEm X W b g):PEm X W (.BinOp a .FloorDiv b pos) (fun ρ S=>(f ρ S).bind fun p S1=>(g ρ S1).bind fun q S2=>zBQ p q S2):=zQS yEG (zXK fun i j h=>h) ha hb
abbrev kT:=iiF (fun _ j=>0<j) fun i j=>i % j
theorem yK(ha:PEm X W a f)(hb:PEm X W b g):PEm X W (.BinOp a .Mod b pos) (fun ρ S=>(f ρ S).bind fun p S1=>(g ρ S1).bind fun q S2=>kT p q S2):=zQS yLH (zXK fun i j h=>h) ha hb
def yBT(i j:Int):Prop:=0≤j∧(Builtin.Int.intBits i:Int) * j≤2 ^ 27
instance(i j:Int):Decidable (yBT i j):=inferInstanceAs (Decidable (_∧_))
abbrev bV:=iiF yBT fun i j=>i ^ j.toNat
theorem yHZ:OpR X (binaryOp .Pow) (rI yBT fun i j=>.int (i ^ j.toNat)):=opI fun _ _ _ _ _ _ _ hc q=>pow_int hc.1 hc.2 q
theorem kZ(ha:PEm X W a f)(hb:PEm X W b g):PEm X W (.BinOp a .Pow b pos) (fun ρ S=>(f ρ S).bind fun p S1=>(g ρ S1).bind fun q S2=>bV p q S2):=zQS yHZ (zXK fun i j h=>h) ha hb
def shlC(i j:Int):Prop:=0≤j∧j≤1000000∧i.natAbs<2 ^ 64
instance(i j:Int):Decidable (shlC i j):=inferInstanceAs (Decidable (_∧_∧_))
def usubF:Er→Sto→R Er
 | .val (.int i),S=>.ok (.val (.int (-i))) S
 | _,_=>.no
def lsW(S:Sto):Er→Option (List MV)
 | .new ds=>some ds
 | .val (.loc l)=>match S[l]? with
  | some (.lst ds)=>some ds
  | _=>none
 | _=>none
theorem zXL{α:List Addr}{S:Sto}{H:Hp}(wd:Wd X.g α S H){r:Er}{ds:List MV}{x:V}(e:lsW S r=some ds)(d:DenX X.K α H r x): ∃a vs,x=.ref a∧H a=some (.lst vs)∧DenL X.K α H ds vs:=by
 unfold lsW at e
 split at e
 ·cases e
  obtain⟨b,vs,rfl,h,_,l⟩:=d
  exact⟨b,vs,rfl,h,l⟩
 ·rename_i n
  obtain⟨a,rfl,h⟩:=zAW d
  split at e
  ·rename_i es hS
   cases e
   obtain⟨vs,h1,l⟩:=wd.obj n a _ h hS
   exact⟨a,vs,rfl,h1,l⟩
  ·cases e
 ·cases e
def zZP(p q:Er)(S:Sto):R Er:=match lsW S p,lsW S q with
 | some x,some y=>if x.length+y.length≤sizeLine then .ok (.new (x++y)) S else .no
 | _,_=>.no
def jH:Er→Er→Sto→R Er
 | .val (.int i),.val (.int j),S=>.ok (.val (.int (i+j))) S
 | .val (.str x),.val (.str y),S=>if x.length+y.length≤sizeLine then .ok (.val (.str (x++y))) S else .no
 | .val (.tup x),.val (.tup y),S=>if x.length+y.length≤sizeLine then .ok (.val (.tup (x++y))) S else .no
 | p,q,S=>zZP p q S
theorem yEH:OpR X (binaryOp .Add) (fun x y H Q=> ∃a b ys,x=.ref a∧y=.ref b∧SqT X.K H a []∧SqT X.K H b ys∧Q (.ref b) H):=by
 intro pins s σ H x y v u Q I rx ry h
 obtain⟨a,b,ys,rfl,rfl,ha,hb,q⟩:=h
 cases rx
 cases ry
 obtain⟨its,r1,p1,_⟩:=I.tuple ha
 obtain⟨its2,r2,p2,_⟩:=I.tuple hb
 have e0:its=[]:=r1.nil_iff.mpr rfl
 subst e0
 obtain⟨⟨cls,dd,data,sl⟩,ho,hc,n,hd⟩:=id p1
 obtain⟨⟨cls2,dd2,data2,sl2⟩,ho2,hc2,n2,hd2⟩:=id p2
 simp only at hc hd hc2 hd2
 subst hc hd hc2 hd2
 exact concat_meets ⟨_,ho,rfl⟩ ⟨_,ho2,rfl⟩ noFill_tuple_add seq_tuple_add PySem.F.slot_tuple_add PySem.F.entry_tuple_add (PySem.F.args_tuple_add_2 _ _)
  (tuple_addW0 a b _ _ n n2 dd dd2 sl sl2 rfl) ⟨ho,ho2,⟨.ref b,H,I,rfl,q⟩⟩
theorem xK(ha:PEm X W a f)(hb:PEm X W b g):PEm X W (.BinOp a .Add b pos) (fun ρ S=>(f ρ S).bind fun p S1=>(g ρ S1).bind fun q S2=>jH p q S2):=by
 refine zQS (yLF.or (zWX.or (yLR.or (yHI.or yEH)))) ?_ ha hb
 intro p q x y α S H Q wd dp dq post
 unfold jH at post
 split at post
 ·exact .inl ⟨_,_,xB dp,xB dq,Post.val post wd (xJ _)⟩
 ·split at post
  ·rename_i hz
   refine .inr (.inl ⟨_,_,jX dp,jX dq,by rw [jV,jV];exact hz,?_⟩)
   rw [yHO]
   exact Post.val post wd (cS _)
  ·exact post.elim
 ·split at post
  ·rename_i xx yy hz
   obtain⟨a1,vs,rfl,s1,l1⟩:=cL dp
   obtain⟨a2,us,rfl,s2,l2⟩:=cL dq
   by_cases h0:vs=[]
   ·subst h0
    have e0:=l1.length
    refine .inr (.inr (.inr (.inr ⟨a1,a2,us,rfl,rfl,s1,s2,?_⟩)))
    have:xx=[]:=by cases xx with | nil=>rfl | cons _ _=>simp at e0
    subst this
    exact Post.val post wd (cT s2 l2)
   ·refine .inr (.inr (.inr (.inl ⟨a1,a2,vs,us,rfl,rfl,s1,s2,h0,by rw [l1.length,l2.length];exact hz,fun h1=>?_,fun h1 p hp=>Post.newt post wd hp (l1.append l2)⟩)))
    subst h1
    have e0:=l2.length
    have:yy=[]:=by cases yy with | nil=>rfl | cons _ _=>simp at e0
    subst this
    rw [List.append_nil]at post
    exact Post.val post wd (cT s1 l1)
  ·exact post.elim
 ·unfold zZP at post
  split at post
  ·rename_i ds1 ds2 e1 e2
   split at post
   ·rename_i hz
    obtain⟨a1,vs,rfl,h1,l1⟩:=zXL wd e1 dp
    obtain⟨a2,us,rfl,h2,l2⟩:=zXL wd e2 dq
    exact .inr (.inr (.inl ⟨a1,a2,vs,us,rfl,rfl,h1,h2,by rw [l1.length,l2.length];exact hz,fun p hp=>Post.newl post wd hp (l1.append l2)⟩))
   ·exact post.elim
  ·exact post.elim
def mulC(i j:Int):Prop:=(-(2 ^ 64)<i∧i<2 ^ 64)∨(-(2 ^ 64)<j∧j<2 ^ 64)∨(i.natAbs.log2<4000∧j.natAbs.log2<4000)
theorem zZQ{i:Int}(h:i.natAbs.log2<4000):Builtin.Int.intBits i≤2 ^ 20:=by
 have e:(2:Nat) ^ 20=1048576:=by decide
 unfold Builtin.Int.intBits
 split<;>omega
theorem mulC.ok{i j:Int}(h:mulC i j):IntMulOk i j:=by
 rcases h with h | h | ⟨h1,h2⟩
 ·exact CMul.ok (.inl h)
 ·exact CMul.ok (.inr h)
 ·exact .of_bits (zZQ h1) (zZQ h2)
theorem yIA{X:Cx}:OpR X (binaryOp .Mult) (rI mulC fun i j=>.int (i * j)):=opI fun _ _ _ _ _ _ _ hc q=>mul_int q hc.ok
instance(i j:Int):Decidable (mulC i j):=inferInstanceAs (Decidable (_∨_∨_))
def yKC(p:Er)(k:Int)(S:Sto):R Er:=match lsW S p with
 | some x=>if 0≤k∧k<100000∧x.length * k.toNat≤sizeLine then .ok (.new (List.replicate k.toNat x).flatten) S else .no
 | none=>.no
def zIL:Er→Er→Sto→R Er
 | .val (.int i),.val (.int j),S=>if mulC i j then .ok (.val (.int (i * j))) S else .no
 | .val (.str x),.val (.int k),S=>if 0≤k∧k<1000∧x.length≤1000 then .ok (.val (.str (zNJ x k))) S else .no
 | p,.val (.int k),S=>yKC p k S
 | _,_,_=>.no
theorem DenL.rep{K:PySem.W.Frag}{α:List Addr}{H:Hp}{ds:List MV}{vs:List V}(l:DenL K α H ds vs): ∀k:Nat,DenL K α H (List.replicate k ds).flatten (List.replicate k vs).flatten
 | 0=>xW
 | k+1=>by rw [List.replicate_succ,List.flatten_cons,List.replicate_succ,List.flatten_cons];exact l.append (DenL.rep l k)
theorem zCK(ha:PEm X W a f)(hb:PEm X W b g):PEm X W (.BinOp a .Mult b pos) (fun ρ S=>(f ρ S).bind fun p S1=>(g ρ S1).bind fun q S2=>zIL p q S2):=by
 refine zQS (yIA.or (zXC.or yLS)) ?_ ha hb
 intro p q x y α S H Q wd dp dq post
 unfold zIL at post
 split at post
 ·split at post
  ·rename_i hc
   exact .inl ⟨_,_,xB dp,xB dq,hc,Post.val post wd (xJ _)⟩
  ·exact post.elim
 ·split at post
  ·rename_i hc
   exact .inr (.inl ⟨_,_,jX dp,xB dq,hc.1,hc.2.1,hc.2.2,Post.val post wd (cS _)⟩)
  ·exact post.elim
 ·unfold yKC at post
  split at post
  ·rename_i ds e1
   split at post
   ·rename_i hc
    obtain⟨a1,vs,rfl,h1,l1⟩:=zXL wd e1 dp
    exact .inr (.inr ⟨a1,_,vs,rfl,xB dq,h1,by omega,by omega,by rw [l1.length];exact hc.2.2,fun p hp=>Post.newl post wd hp (l1.rep _)⟩)
   ·exact post.elim
  ·exact post.elim
 ·exact post.elim
def yD:Nat:=40
def eqF(p q:Er)(S:Sto):R Er:=match zGD S yD p q with
 | some k=>.ok (.val (.bl k)) S
 | none=>.no
def neF(p q:Er)(S:Sto):R Er:=match zGD S yD p q with
 | some k=>.ok (.val (.bl !k)) S
 | none=>.no
theorem yEI(hu:X.A.units+64<cLine):OpR X (compareOp .Eq) (fun x y H Q=> ∃α S p q k,Wd X.g α S H∧DenX X.K α H p x∧DenX X.K α H q y∧zGD S yD p q=some k∧Q (.bl k) H):=by
 intro pins s σ H x y v u Q I rx ry h
 obtain⟨α,S,p,q,k,wd,dp,dq,e,hq⟩:=h
 exact yMD I wd yD (by unfold yD;omega) dp dq rx ry e X.prog X.w _ _ ⟨.bl k,H,I,rfl,hq⟩
theorem yMG(hu:X.A.units+64<cLine):OpR X (compareOp .NotEq) (fun x y H Q=> ∃α S p q k,Wd X.g α S H∧DenX X.K α H p x∧DenX X.K α H q y∧zGD S yD p q=some k∧Q (.bl (!k)) H):=by
 intro pins s σ H x y v u Q I rx ry h
 obtain⟨α,S,p,q,k,wd,dp,dq,e,hq⟩:=h
 exact yME I wd yD (by unfold yD;omega) dp dq rx ry e X.prog X.w _ _ ⟨.bl (!k),H,I,rfl,hq⟩
theorem zZR:Op2 X W (fun x y H Q=> ∃α S p q k,Wd X.g α S H∧DenX X.K α H p x∧DenX X.K α H q y∧zGD S yD p q=some k∧Q (.bl k) H) eqF:=by
 intro p q x y α S H Q wd dp dq post
 unfold eqF at post
 split at post
 ·rename_i k e
  exact⟨α,S,p,q,k,wd,dp,dq,e,Post.val post wd (xH _)⟩
 ·exact post.elim
theorem yIB:Op2 X W (fun x y H Q=> ∃α S p q k,Wd X.g α S H∧DenX X.K α H p x∧DenX X.K α H q y∧zGD S yD p q=some k∧Q (.bl (!k)) H) neF:=by
 intro p q x y α S H Q wd dp dq post
 unfold neF at post
 split at post
 ·rename_i k e
  exact⟨α,S,p,q,k,wd,dp,dq,e,Post.val post wd (xH _)⟩
 ·exact post.elim
theorem zEB(hu:X.A.units+64<cLine)(ha:PEm X W a f)(hb:PEm X W b g):PEm X W (.Compare a [.Eq] [b] pos) (fun ρ S=>(f ρ S).bind fun p S1=>(g ρ S1).bind fun q S2=>eqF p q S2):=zRX (yEI hu) zZR ha hb
theorem bW(hu:X.A.units+64<cLine)(ha:PEm X W a f)(hb:PEm X W b g):PTm X W (.Compare a [.Eq] [b] pos) (fun ρ S=>((f ρ S).bind fun p S1=>(g ρ S1).bind fun q S2=>eqF p q S2).bind asB):=zCI (yEI hu) zZR ha hb
theorem zIM(hu:X.A.units+64<cLine)(ha:PEm X W a f)(hb:PEm X W b g):PTm X W (.Compare a [.NotEq] [b] pos) (fun ρ S=>((f ρ S).bind fun p S1=>(g ρ S1).bind fun q S2=>neF p q S2).bind asB):=zCI (yMG hu) yIB ha hb
def ltF:Er→Er→Sto→R Er
 | .val d,.val f,S=>match ltv S yD d f with
  | some k=>.ok (.val (.bl k)) S
  | none=>.no
 | _,_,_=>.no
theorem zGY(hu:X.A.units+64<cLine):OpR X (compareOp .Lt) (fun x y H Q=> ∃α S d f k,Wd X.g α S H∧Den X.K α H d x∧Den X.K α H f y∧ltv S yD d f=some k∧Q (.bl k) H):=by
 intro pins s σ H x y v u Q I rx ry h
 obtain⟨α,S,d,f,k,wd,dp,dq,e,hq⟩:=h
 exact yEF I wd yD X.A d f x y v u k (by unfold yD;omega) dp dq rx ry e X.prog X.w _ _ ⟨.bl k,H,I,rfl,hq⟩
theorem zCL:Op2 X W (fun x y H Q=> ∃α S d f k,Wd X.g α S H∧Den X.K α H d x∧Den X.K α H f y∧ltv S yD d f=some k∧Q (.bl k) H) ltF:=by
 intro p q x y α S H Q wd dp dq post
 unfold ltF at post
 split at post
 ·split at post
  ·rename_i k e
   exact⟨α,S,_,_,k,wd,dp,dq,e,Post.val post wd (xH _)⟩
  ·exact post.elim
 ·exact post.elim
theorem yKD(hu:X.A.units+64<cLine)(ha:PEm X W a f)(hb:PEm X W b g):PEm X W (.Compare a [.Lt] [b] pos) (fun ρ S=>(f ρ S).bind fun p S1=>(g ρ S1).bind fun q S2=>ltF p q S2):=zRX (zGY hu) zCL ha hb
theorem yKE(hu:X.A.units+64<cLine)(ha:PEm X W a f)(hb:PEm X W b g):PTm X W (.Compare a [.Lt] [b] pos) (fun ρ S=>((f ρ S).bind fun p S1=>(g ρ S1).bind fun q S2=>ltF p q S2).bind asB):=zCI (zGY hu) zCL ha hb
abbrev gtF:=ibF fun i j=>decide (j<i)
theorem zUS(ha:PEm X W a f)(hb:PEm X W b g):PTm X W (.Compare a [.Gt] [b] pos) (fun ρ S=>((f ρ S).bind fun p S1=>(g ρ S1).bind fun q S2=>gtF p q S2).bind asB):=zCI op_gt yMF ha hb
def leF:Er→Er→Sto→R Er
 | .val (.int i),.val (.int j),S=>.ok (.val (.bl (decide (i≤j)))) S
 | .val (.str x),.val (.str y),S=>.ok (.val (.bl (!decide (y<x)))) S
 | _,_,_=>.no
theorem zGZ:Op2 X W (fun x y H Q=>rI0 (fun i j=>.bl (decide (i≤j))) x y H Q∨(∃i j,x=.str i∧y=.str j∧Q (.bl (!decide (j.cps.toList<i.cps.toList))) H)) leF:=by
 intro p q x y α S H Q wd dp dq post
 unfold leF at post
 split at post
 ·exact .inl ⟨_,_,xB dp,xB dq,Post.val post wd (xH _)⟩
 ·refine .inr ⟨_,_,jX dp,jX dq,?_⟩
  rw [zCF,zCF]
  exact Post.val post wd (xH _)
 ·exact post.elim
theorem zSF(ha:PEm X W a f)(hb:PEm X W b g)(hc:PEm X W c h)(hm:lastMarks [.LtE,.LtE] [b,c]=false:=by with_unfolding_all rfl):PEm X W (.Compare a [.LtE,.LtE] [b,c] pos) (fun ρ S=>(f ρ S).bind fun p S1=>(g ρ S1).bind fun q S2=>chF leF leF p q S2 fun S3=>h ρ S3):=zIG (zMX.or gX) (zMX.or gX) zGZ zGZ ha hb hc hm
theorem yIC(ha:PEm X W a f)(hb:PEm X W b g)(hc:PEm X W c h)(hm:lastMarks [.LtE,.LtE] [b,c]=false:=by with_unfolding_all rfl):PTm X W (.Compare a [.LtE,.LtE] [b,c] pos) (fun ρ S=>((f ρ S).bind fun p S1=>(g ρ S1).bind fun q S2=>chF leF leF p q S2 fun S3=>h ρ S3).bind asB):=zUR (zMX.or gX) (zMX.or gX) zGZ zGZ ha hb hc hm
theorem yID(hu:X.A.units+64<cLine)(ha:PEm X W a f)(hb:PEm X W b g)(hc:PEm X W c h)(hm:lastMarks [.LtE,.Lt] [b,c]=false:=by with_unfolding_all rfl):PEm X W (.Compare a [.LtE,.Lt] [b,c] pos) (fun ρ S=>(f ρ S).bind fun p S1=>(g ρ S1).bind fun q S2=>chF leF ltF p q S2 fun S3=>h ρ S3):=zIG (zMX.or gX) (zGY hu) zGZ zCL ha hb hc hm
theorem yIE(hu:X.A.units+64<cLine)(ha:PEm X W a f)(hb:PEm X W b g)(hc:PEm X W c h)(hm:lastMarks [.LtE,.Lt] [b,c]=false:=by with_unfolding_all rfl):PTm X W (.Compare a [.LtE,.Lt] [b,c] pos) (fun ρ S=>((f ρ S).bind fun p S1=>(g ρ S1).bind fun q S2=>chF leF ltF p q S2 fun S3=>h ρ S3).bind asB):=zUR (zMX.or gX) (zGY hu) zGZ zCL ha hb hc hm
def zSG:Er→Er→Sto→R Er
 | .val .non,.val .non,S=>.ok (.val (.bl true)) S
 | _,.val .non,S=>.ok (.val (.bl false)) S
 | _,_,_=>.no
def zQU:Er→Er→Sto→R Er
 | .val .non,.val .non,S=>.ok (.val (.bl false)) S
 | _,.val .non,S=>.ok (.val (.bl true)) S
 | _,_,_=>.no
theorem zUT{α:List Addr}{H:Hp}{p:Er}{x:V}(d:DenX X.K α H p x)(n:p≠.val .non):decide (x=.non)=false:=by
 cases p with
 | new ds=>obtain⟨b,vs,rfl,_⟩:=d;rfl
 | val m=>
  cases m with
  | non=>exact absurd rfl n
  | bl b=>cases zEM d;rfl
  | int b=>cases xB d;rfl
  | str b=>cases jX d;rfl
  | typ b=>cases yDW d;rfl
  | tup b=>obtain⟨_,_,rfl,_⟩:=cL d;rfl
  | scr b=>obtain⟨_,_,rfl,_⟩:=zNP d;rfl
  | loc b=>obtain⟨_,rfl,_⟩:=zAW d;rfl
theorem zZS:Op2 X W (fun x y H Q=>y=.non∧Q (.bl (decide (x=.non))) H) zSG:=by
 intro p q x y α S H Q wd dp dq post
 unfold zSG at post
 split at post
 ·cases zCG dp;exact⟨zCG dq,Post.val post wd (xH _)⟩
 ·rename_i p' S' hn
  rw [zUT dp (fun z=>by first | exact hn z | exact hn z rfl | exact hn _ z | exact hn rfl z)]
  exact⟨zCG dq,Post.val post wd (xH _)⟩
 ·exact post.elim
theorem yEJ:Op2 X W (fun x y H Q=>y=.non∧Q (.bl (!decide (x=.non))) H) zQU:=by
 intro p q x y α S H Q wd dp dq post
 unfold zQU at post
 split at post
 ·cases zCG dp;exact⟨zCG dq,Post.val post wd (xH _)⟩
 ·rename_i p' S' hn
  rw [zUT dp (fun z=>by first | exact hn z | exact hn z rfl | exact hn _ z | exact hn rfl z)]
  exact⟨zCG dq,Post.val post wd (xH _)⟩
 ·exact post.elim
theorem pm_is(ha:PEm X W a f)(hb:PEm X W b g):PEm X W (.Compare a [.Is] [b] pos) (fun ρ S=>(f ρ S).bind fun p S1=>(g ρ S1).bind fun q S2=>zSG p q S2):=zRX yDE zZS ha hb
theorem tm_is(ha:PEm X W a f)(hb:PEm X W b g):PTm X W (.Compare a [.Is] [b] pos) (fun ρ S=>((f ρ S).bind fun p S1=>(g ρ S1).bind fun q S2=>zSG p q S2).bind asB):=zCI yDE zZS ha hb
theorem yEK(ha:PEm X W a f)(hb:PEm X W b g):PTm X W (.Compare a [.IsNot] [b] pos) (fun ρ S=>((f ρ S).bind fun p S1=>(g ρ S1).bind fun q S2=>zQU p q S2).bind asB):=zCI yHC yEJ ha hb
def getL(ds:List MV):Er→Sto→R Er
 | .val (.int i),S=>match atI ds i with | some d=>.ok (.val d) S | none=>.no
 | _,_=>.no
def ixF:Er→Er→Sto→R Er
 | .val (.str x),.val (.int i),S=>if x.length≤sizeLine then match atI x i with | some c=>.ok (.val (.str [c])) S | none=>.no else .no
 | .val (.tup ds),q,S=>getL ds q S
 | p,q,S=>match gH S p with | some ds=>getL ds q S | none=>.no
theorem yIF{K:PySem.W.Frag}{α:List Addr}{H:Hp}{ds:List MV}{vs:List V}{i:Int}{d:MV}(l:DenL K α H ds vs)(e:atI ds i=some d): ∃v,atI vs i=some v∧Den K α H d v:=by
 unfold atI at e ⊢
 rw [l.length]
 cases z:ixN ds.length i with
 | none=>rw [z]at e;cases e
 | some j=>
  rw [z]at e
  obtain⟨v,h1,h2⟩:=l.at (show ds[j]? =some d from e)
  exact⟨v,h1,h2⟩
theorem zT(ha:PEm X W a f)(hb:PEm X W b g)(hs:zRP b:=by exact fun _ _=>rfl):PEm X W (.Subscript a b pos) (fun ρ S=>(f ρ S).bind fun p S1=>(g ρ S1).bind fun q S2=>ixF p q S2):=by
 refine pm_ix yLO ?_ ha hb hs
 intro p q x y α S H Q wd dp dq post
 have key: ∀{ds:List MV}{vs:List V}{i:Int}{d:MV},DenL X.K α H ds vs→atI ds i=some d→Post X.g W α H (.ok (Er.val d) S) Q→ ∃v,atI vs i=some v∧Q v H:=fun l e post=>by
  obtain⟨v,h1,h2⟩:=yIF l e
  exact⟨v,h1,Post.val post wd h2⟩
 unfold ixF at post
 split at post
 ·split at post
  ·rename_i hz
   split at post
   ·rename_i ch e
    refine .inr (.inr ⟨_,_,ch,jX dp,xB dq,by rw [jV];exact hz,by rw [zCF];exact e,?_⟩)
    exact Post.val post wd (cS [ch])
   ·exact post.elim
  ·exact post.elim
 ·unfold getL at post
  split at post
  ·split at post
   ·rename_i d e
    obtain⟨a1,vs,rfl,s1,l1⟩:=cL dp
    obtain⟨v,h1,h2⟩:=key l1 e post
    exact .inr (.inl ⟨a1,vs,_,v,rfl,xB dq,s1,h1,h2⟩)
   ·exact post.elim
  ·exact post.elim
 ·split at post
  ·rename_i ds el
   unfold getL at post
   split at post
   ·split at post
    ·rename_i d e
     obtain⟨a1,vs,rfl,s1,l1⟩:=zLH rfl wd el dp
     obtain⟨v,h1,h2⟩:=key l1 e post
     exact .inl ⟨a1,vs,_,v,rfl,xB dq,s1,h1,h2⟩
    ·exact post.elim
   ·exact post.elim
  ·exact post.elim
end
end M
end L2
namespace L2
namespace M
open PySem PySem.Spec PyProof.Rows
theorem zPN{prog:Program}{w:World}{A:Around}{E:Value→Shared→Prop}{s:Shared}{t sl:Addr}{its:Array Value}{vl vu:Value}{lo hi:Option Int}{Q:Value→Shared→Prop}(ht:IsTup s.heap t its)(hs:s.heap.IsSliceOf sl vl vu .none)(pl:IsPart vl lo)(pu:IsPart vu hi)
  (h0:HT.sIx its.size 0 lo=0) (h1:HT.sIx its.size its.size hi=its.size) (h:Q (.ref t) s):wpAny (model prog w) A (getItem (.ref t) (.ref sl)) Q E s:=by
 have hTs:s.TypeIs (.ref sl) "slice":=by obtain⟨os,hos,hcs,_⟩:=id hs;exact⟨os,hos,hcs⟩
 have hTt:=ht.typeIs
 unfold getItem
 try with_reducible refine wpAny_holding ?_
 first | refine wpAny_bind (wpAny_pure ?_) | skip
 refine wpAny_bind (wpAny_sequenceKey hTt (by decide) ?_)
 refine wpAny_bind (wpAny_callSpecial?_slot (name:=Str.ofString "__getitem__") hTt PyProof.Rows.slot_tuple_getitem (wpAny_call_entry PyProof.Rows.slot_tuple_getitem hTt entry_tuple_getitem ?_ (args_tuple_getitem _ _)))
 show wpAny _ _ (Builtin.Tuple.tupleItemsOf (.ref t) >>= _) _ _ s
 refine wpAny_bind (tupleItemsOf_ ht (wpAny_bind (wpAny_typeOf hTs ?_)))
 rw [if_pos (by decide)]
 refine wpAny_bind (HT.sliceApplied_gen hs pl pu ?_)
 show wpAny _ _ (if(((HT.sIx its.size 0 lo:Nat):Int)==0&&(1:Int)==1&&(HT.sIx its.size its.size hi - HT.sIx its.size 0 lo)==its.size)=true then _ else _) _ _ s
 rw [if_pos (by rw [h0,h1];simp)]
 unfold Builtin.Tuple.tupleIsExact
 refine wpAny_bind (wpAny_bind (wpAny_typeOf hTt (wpAny_pure ?_)))
 rw [if_pos (by decide)]
 refine wpAny_bind (wpAny_rule ?_)
 first
  | exact wpAny_pure ⟨_,rfl,wpAny_pure h⟩
  | exact wpAny_bind (wpAny_pure (wpAny_pure ⟨_,rfl,wpAny_pure h⟩))
  | exact wpAny_bind (wpAny_pure ⟨_,rfl,wpAny_pure h⟩)
section
variable{X:Cx}{W:XW}{a b c e:Expr}{es:List Expr}{f g h:Rho→Sto→R Er}{af:Rho→Sto→R (List Er)}{pos:Pos}
theorem yIG:SlR X (fun x lo hi H Q=> ∃a xs,x=.ref a∧SqT X.K H a xs∧HT.sIx xs.length 0 lo=0∧HT.sIx xs.length xs.length hi=xs.length∧Q (.ref a) H):=by
 intro pins s σ H x v vl vu lo hi sl Q I rx hs pl pu h
 obtain⟨a,xs,rfl,hx,h0,h1,q⟩:=h
 cases rx
 obtain⟨its,r,ht,hz⟩:=I.tuple hx
 have hlen:its.toArray.size=xs.length:=by rw [List.size_toArray];exact r.length.symm
 exact⟨"tuple",_,PyProof.Rows.slot_tuple_getitem.lookup,ht.typeIs,zPN ht hs pl pu (by rw [hlen];exact h0) (by rw [hlen];exact h1) ⟨.ref a,H,I,rfl,q⟩⟩
def zPO:Er→Option Int→Option Int→Sto→R Er
 | .val (.str x),lo,hi,S=>if x.length≤sizeLine then .ok (.val (.str (dG x lo hi))) S else .no
 | .val (.tup ds),lo,hi,S=>.ok (.val (.tup (dG ds lo hi))) S
 | p,lo,hi,S=>match gH S p with | some ds=>.ok (.new (dG ds lo hi)) S | none=>.no
theorem yBU{α:Type}{ds:List α}{lo hi:Option Int}(h0:HT.sIx ds.length 0 lo=0)(h1:HT.sIx ds.length ds.length hi=ds.length):dG ds lo hi=ds:=by
 unfold dG
 rw [h0,h1]
 simp
theorem zKB{lo hi:Option Expr}{lf hf:Rho→Sto→R (Option Int)}{p2:Pos}(ha:PEm X W a f)(hl:POm X W lo lf)(hh:POm X W hi hf):PEm X W (.Subscript a (.Slice lo hi none p2) pos) (fun ρ S=>(f ρ S).bind fun p S1=>(lf ρ S1).bind fun l S2=>(hf ρ S2).bind fun u S3=>zPO p l u S3):=by
 refine yDY (yLT.or (yHL.or (yLN.or yIG))) ?_ ha hl hh
 intro p lo hi x α S H Q wd dp post
 unfold zPO at post
 split at post
 ·split at post
  ·rename_i hz
   exact .inl ⟨_,jX dp,hz,Post.val post wd (cS _)⟩
  ·exact post.elim
 ·rename_i _ _ _ ds
  obtain⟨a1,vs,rfl,s1,l1⟩:=cL dp
  by_cases hw:HT.sIx vs.length 0 lo=0∧HT.sIx vs.length vs.length hi=vs.length
  ·have e:dG ds lo hi=ds:=yBU (by rw [←l1.length];exact hw.1) (by rw [←l1.length];exact hw.2)
   rw [e]at post
   exact .inr (.inr (.inr ⟨a1,vs,rfl,s1,hw.1,hw.2,Post.val post wd (cT s1 l1)⟩))
  ·exact .inr (.inr (.inl ⟨a1,vs,rfl,s1,hw,fun p hp=>Post.newt post wd hp (l1.cut lo hi)⟩))
 ·split at post
  ·rename_i ds el
   obtain⟨a1,vs,rfl,s1,l1⟩:=zLH rfl wd el dp
   exact .inr (.inl ⟨a1,vs,rfl,s1,fun p hp=>Post.newl post wd hp (l1.cut lo hi)⟩)
  ·exact post.elim
end
end M
end L2
namespace L2
namespace M
open PySem PySem.Spec PyProof.Rows
section
variable{X:Cx}{W:XW}{a b c e:Expr}{es:List Expr}{f g h:Rho→Sto→R Er}{af:Rho→Sto→R (List Er)}{pos:Pos}
def zPP(S:Sto)(n:Nat)(d:MV):List MV→Option (List Bool)
 | []=>some []
 | y::ys=>(eqv S n y d).bind fun k=>(zPP S n d ys).map (k::·)
section
variable{α:List Addr}{S:Sto}{H:Hp}{pins:List (Addr×Obj)}{σ:St}{s:Shared}
noncomputable def zUU(X:Cx)(α:List Addr)(S:Sto)(H:Hp)(n:Nat)(d:MV)(u:Value):Bool:=open Classical in decide (∃y x,Den X.K α H y x∧RelV x u∧eqv S n y d=some true)
open Classical in
theorem yIH(I:Inv X pins σ H s)(wd:Wd X.g α S H){n:Nat}{d y:MV}{x:V}{u:Value}{k:Bool}(dy:Den X.K α H y x)(r:RelV x u)(e:eqv S n y d=some k):zUU X α S H n d u=k:=by
 unfold zUU
 cases k with
 | true=>exact decide_eq_true ⟨y,x,dy,r,e⟩
 | false=>
  refine decide_eq_false fun⟨y',x',dy',r',e'⟩=>?_
  have ex:=r.inj r'
  subst ex
  rw [dy.inj I wd dy']at e
  rw [e]at e'
  cases e'
theorem zIN(I:Inv X pins σ H s)(wd:Wd X.g α S H){n:Nat}{A:Around}{d:MV}{x:V}{v:Value}(hu:A.units+n<cLine)(dd:Den X.K α H d x)(rx:RelV x v): ∀{ys:List MV}{vs:List V}{us:List Value}{bs:List Bool},DenL X.K α H ys vs→Vals vs us→zPP S n d ys=some bs→
  us.map (zUU X α S H n d)=bs∧ ∀u∈us,SeqAt.EqAt A s u v (zUU X α S H n d u)
 | [],_,_,bs,l,r,e=>by
  cases l.isnil;cases r;cases e
  exact⟨rfl,fun u hu=>by cases hu⟩
 | y::ys,_,_,bs,l,r,e=>by
  obtain⟨v',r',rfl,dy,l'⟩:=l.uncons
  cases r with
  | cons r1 r2=>
   unfold zPP at e
   cases z:eqv S n y d with
   | none=>rw [z]at e;cases e
   | some k=>
    rw [z]at e
    cases z2:zPP S n d ys with
    | none=>simp [z2]at e
    | some cs=>
     simp [z2]at e
     subst e
     obtain⟨h1,h2⟩:=zIN I wd hu dd rx l' r2 z2
     have h3:=yIH I wd dy r1 z
     refine⟨by rw [List.map_cons,h1,h3],fun u hu'=>?_⟩
     rcases List.mem_cons.mp hu' with rfl | hu'
     ·rw [h3];exact zSE I wd n A y d _ _ _ _ k hu dy dd r1 rx z
     ·exact h2 u hu'
end
theorem any_map{us:List Value}{f:Value→Bool}{bs:List Bool}(h:us.map f=bs):us.toArray.any f=bs.any id:=by
 subst h
 simp [List.any_map]
def itemsOf(S:Sto):Er→Option (List MV)
 | .val (.tup ds)=>some ds
 | r=>gH S r
theorem zIO{α:List Addr}{S:Sto}{H:Hp}(wd:Wd X.g α S H){r:Er}{ds:List MV}{x:V}(e:itemsOf S r=some ds)(d:DenX X.K α H r x): ∃a vs,x=.ref a∧(SqL X.K H a vs∨SqT X.K H a vs)∧DenL X.K α H ds vs:=by
 unfold itemsOf at e
 split at e
 ·cases e
  obtain⟨a,vs,rfl,s,l⟩:=cL d
  exact⟨a,vs,rfl,.inr s,l⟩
 ·obtain⟨a,vs,rfl,s,l⟩:=zLH rfl wd e d
  exact⟨a,vs,rfl,.inl s,l⟩
def zNV(neg:Bool)(p q:Er)(S:Sto):R Er:=match p with
 | .val d=>match itemsOf S q with
  | some ys=>match zPP S yD d ys with
   | some bs=>.ok (.val (.bl (if neg=true then !bs.any id else bs.any id))) S
   | none=>.no
  | none=>.no
 | .new _=>.no
def inF(neg:Bool):Er→Er→Sto→R Er
 | .val (.str [c]),.val (.str y),S=>.ok (.val (.bl (if neg=true then !decide (c∈y)else decide (c∈y)))) S
 | p,q,S=>zNV neg p q S
abbrev yEL(X:Cx)(neg:Bool):R2:=fun x y H Q=> ∃α S d q ys bs,Wd X.g α S H∧Den X.K α H d x∧DenX X.K α H q y∧itemsOf S q=some ys∧zPP S yD d ys=some bs∧Q (.bl (if neg=true then !bs.any id else bs.any id)) H
theorem yMH(hu:X.A.units+64<cLine):OpR X (compareOp .In) (yEL X false):=by
 intro pins s σ H x y v u Q I rx ry h
 obtain⟨α,S,d,q,ys,bs,wd,dd,dq,ei,ea,hq⟩:=h
 obtain⟨a,vs,rfl,sq,l⟩:=zIO wd ei dq
 cases ry
 rcases sq with sq | sq
 ·obtain⟨its,r,pl,_⟩:=I.list sq
  obtain⟨h1,h2⟩:=zIN I wd (A:=X.A.in1) (by show X.A.units+1+yD<cLine;unfold yD;omega) dd rx l r ea
  refine SeqAt.in_listAt (zUU X α S H yD d) pl.isList (fun w hw=>h2 w (by simpa using hw)) ⟨.bl _,H,I,rfl,?_⟩
  rw [any_map h1]
  exact hq
 ·obtain⟨its,r,pl,_⟩:=I.tuple sq
  obtain⟨h1,h2⟩:=zIN I wd (A:=X.A.in1) (by show X.A.units+1+yD<cLine;unfold yD;omega) dd rx l r ea
  refine SeqAt.in_tupleAt (zUU X α S H yD d) pl (fun w hw=>h2 w (by simpa using hw)) ⟨.bl _,H,I,rfl,?_⟩
  rw [any_map h1]
  exact hq
theorem yBV(hu:X.A.units+64<cLine):OpR X (compareOp .NotIn) (yEL X true):=by
 intro pins s σ H x y v u Q I rx ry h
 obtain⟨α,S,d,q,ys,bs,wd,dd,dq,ei,ea,hq⟩:=h
 obtain⟨a,vs,rfl,sq,l⟩:=zIO wd ei dq
 cases ry
 rcases sq with sq | sq
 ·obtain⟨its,r,pl,_⟩:=I.list sq
  obtain⟨h1,h2⟩:=zIN I wd (A:=X.A.in1) (by show X.A.units+1+yD<cLine;unfold yD;omega) dd rx l r ea
  refine SeqAt.notIn_listAt (zUU X α S H yD d) pl.isList (fun w hw=>h2 w (by simpa using hw)) ⟨.bl _,H,I,rfl,?_⟩
  rw [any_map h1]
  exact hq
 ·obtain⟨its,r,pl,_⟩:=I.tuple sq
  obtain⟨h1,h2⟩:=zIN I wd (A:=X.A.in1) (by show X.A.units+1+yD<cLine;unfold yD;omega) dd rx l r ea
  refine SeqAt.notIn_tupleAt (zUU X α S H yD d) pl (fun w hw=>h2 w (by simpa using hw)) ⟨.bl _,H,I,rfl,?_⟩
  rw [any_map h1]
  exact hq
theorem zSH{neg:Bool}:Op2 X W (fun x y H Q=>(∃i j,x=.str i∧y=.str j∧Q (.bl (if neg=true then !(!(Builtin.Str.occurrences j i 0 j.length 1).isEmpty)else !(Builtin.Str.occurrences j i 0 j.length 1).isEmpty)) H)∨yEL X neg x y H Q) (inF neg):=by
 intro p q x y α S H Q wd dp dq post
 unfold inF at post
 split at post
 ·refine .inl ⟨_,_,jX dp,jX dq,?_⟩
  rw [←yHP,PySem.StrLaws.found_one,zCF]
  exact Post.val post wd (xH _)
 ·unfold zNV at post
  split at post
  ·rename_i d _
   split at post
   ·rename_i ys ei
    split at post
    ·rename_i bs ea
     exact .inr ⟨α,S,_,q,ys,bs,wd,dp,dq,ei,ea,Post.val post wd (xH _)⟩
    ·exact post.elim
   ·exact post.elim
  ·exact post.elim
theorem OpR.imp{f:Value→Value→Sem Value}{r r':R2}(h:OpR X f r)(i: ∀x y H Q,r' x y H Q→r x y H Q):OpR X f r':=fun pins s σ H x y v u Q I rx ry q=>h pins s σ H x y v u Q I rx ry (i x y H Q q)
theorem yEM(hu:X.A.units+64<cLine):OpR X (compareOp .In) (fun x y H Q=>(∃i j,x=.str i∧y=.str j∧Q (.bl (if(false:Bool)=true then !(!(Builtin.Str.occurrences j i 0 j.length 1).isEmpty)else !(Builtin.Str.occurrences j i 0 j.length 1).isEmpty)) H)∨yEL X false x y H Q):=
 OpR.imp (yBF.or (yMH hu)) fun x y H Q q=>q.imp (fun q=>q) fun q=>q
theorem yBW(hu:X.A.units+64<cLine):OpR X (compareOp .NotIn) (fun x y H Q=>(∃i j,x=.str i∧y=.str j∧Q (.bl (if(true:Bool)=true then !(!(Builtin.Str.occurrences j i 0 j.length 1).isEmpty)else !(Builtin.Str.occurrences j i 0 j.length 1).isEmpty)) H)∨yEL X true x y H Q):=
 OpR.imp (zRM.or (yBV hu)) fun x y H Q q=>q.imp (fun q=>q) fun q=>q
theorem pm_in(hu:X.A.units+64<cLine)(ha:PEm X W a f)(hb:PEm X W b g)(hm:behindInMarks .In b=false:=by with_unfolding_all rfl):PEm X W (.Compare a [.In] [b] pos) (fun ρ S=>(f ρ S).bind fun p S1=>(g ρ S1).bind fun q S2=>inF false p q S2):=zRX (yEM hu) zSH ha hb hm
theorem tm_in(hu:X.A.units+64<cLine)(ha:PEm X W a f)(hb:PEm X W b g)(hm:behindInMarks .In b=false:=by with_unfolding_all rfl):PTm X W (.Compare a [.In] [b] pos) (fun ρ S=>((f ρ S).bind fun p S1=>(g ρ S1).bind fun q S2=>inF false p q S2).bind asB):=zCI (yEM hu) zSH ha hb hm
theorem zUV(hu:X.A.units+64<cLine)(ha:PEm X W a f)(hb:PEm X W b g)(hm:behindInMarks .NotIn b=false:=by with_unfolding_all rfl):PTm X W (.Compare a [.NotIn] [b] pos) (fun ρ S=>((f ρ S).bind fun p S1=>(g ρ S1).bind fun q S2=>inF true p q S2).bind asB):=zCI (yBW hu) zSH ha hb hm
theorem zLI{K:PySem.W.Frag}{α:List Addr}{H:Hp}{r:Er}{vs:List V}(d:ArgsX K α H [r] vs): ∃v,vs=[v]∧DenX K α H r v:=by
 cases d with
 | cons a l=>cases l;exact⟨_,rfl,a⟩
theorem yKF{K:PySem.W.Frag}{α:List Addr}{H:Hp}{r r':Er}{vs:List V}(d:ArgsX K α H [r,r'] vs): ∃v u,vs=[v,u]∧DenX K α H r v∧DenX K α H r' u:=by
 cases d with
 | cons a l=>obtain⟨u,rfl,l'⟩:=zLI l;exact⟨_,u,rfl,a,l'⟩
def xX:List Er→Sto→R Er
 | [.val (.str x)],S=>if x.length≤sizeLine then .ok (.val (.int x.length)) S else .no
 | [r],S=>match itemsOf S r with | some ds=>.ok (.val (.int ds.length)) S | none=>.no
 | _,_=>.no
theorem yP:zIH X W (fun xs H Q=>(∃z,xs=[.str z]∧z.length≤sizeLine∧Q (.int z.length) H)∨ ∃p ys,xs=[.ref p]∧(SqL X.K H p ys∨SqT X.K H p ys)∧Q (.int ys.length) H) xX:=by
 intro rs vs α S H Q wd d post
 unfold xX at post
 split at post
 ·split at post
  ·rename_i hz
   obtain⟨v,rfl,dv⟩:=zLI d
   cases jX dv
   refine .inl ⟨_,rfl,by rw [jV];exact hz,?_⟩
   rw [jV]
   exact Post.val post wd (xJ _)
  ·exact post.elim
 ·split at post
  ·rename_i ds e
   obtain⟨v,rfl,dv⟩:=zLI d
   obtain⟨a,us,rfl,sq,l⟩:=zIO wd e dv
   refine .inr ⟨a,us,rfl,sq,?_⟩
   rw [l.length]
   exact Post.val post wd (xJ _)
  ·exact post.elim
 ·exact post.elim
theorem zR:CallR X (.builtin "len") (fun xs H Q=>(∃z,xs=[.str z]∧z.length≤sizeLine∧Q (.int z.length) H)∨ ∃p ys,xs=[.ref p]∧(SqL X.K H p ys∨SqT X.K H p ys)∧Q (.int ys.length) H):=zRS.or zRR
def yBX:List Er→Sto→R Er
 | [.val (.int i)],S=>.ok (.val (.int (if i<0 then -i else i))) S
 | _,_=>.no
theorem yEN:zIH X W (fun xs H Q=> ∃i,xs=[.int i]∧Q (.int (if i<0 then -i else i)) H) yBX:=by
 intro rs vs α S H Q wd d post
 unfold yBX at post
 split at post
 ·obtain⟨v,rfl,dv⟩:=zLI d
  cases xB dv
  exact⟨_,rfl,Post.val post wd (xJ _)⟩
 ·exact post.elim
def zBR:List MV→Option (List Bool)
 | []=>some []
 | .bl b::r=>(zBR r).map (b::·)
 | _::_=>none
theorem zQV{K:PySem.W.Frag}{α:List Addr}{H:Hp}: ∀{ds:List MV}{bs:List Bool}{vs:List V},zBR ds=some bs→DenL K α H ds vs→vs=bs.map V.bl
 | [],_,_,e,l=>by cases e;exact l.isnil
 | d::r,bs,_,e,l=>by
  cases d with
  | bl b=>
   unfold zBR at e
   cases z:zBR r with
   | none=>rw [z]at e;cases e
   | some cs=>
    rw [z]at e
    cases e
    obtain⟨v,us,rfl,dv,l'⟩:=l.uncons
    rw [zBO dv,zQV z l']
    rfl
  | _=>cases e
def zNW:List Er→Sto→R Er
 | [r],S=>match (gH S r).bind zBR with | some bs=>.ok (.val (.bl (bs.all id))) S | none=>.no
 | _,_=>.no
theorem zKC(hc:X.calm=true):zIH X W (fun xs H Q=> ∃(a:Addr)(bs:List Bool),xs=[.ref a]∧SqL X.K H a (bs.map V.bl)∧X.calm=true∧Q (.bl (bs.all id)) H) zNW:=by
 intro rs vs α S H Q wd d post
 unfold zNW at post
 split at post
 ·split at post
  ·rename_i bs e
   obtain⟨v,rfl,dv⟩:=zLI d
   cases z:gH S _ with
   | none=>rw [z]at e;cases e
   | some ds=>
    rw [z]at e
    obtain⟨a1,us,rfl,s,l⟩:=zLH rfl wd z dv
    refine⟨a1,bs,rfl,?_,hc,Post.val post wd (xH _)⟩
    rw [←zQV e l]
    exact s
  ·exact post.elim
 ·exact post.elim
def zSI(S:Sto):Er→Option String
 | .val .non=>some "NoneType"
 | .val (.bl _)=>some "bool"
 | .val (.int _)=>some "int"
 | .val (.str _)=>some "str"
 | .val (.tup _)=>some "tuple"
 | .val (.typ _)=>none
 | r=>(gH S r).map fun _=>"list"
def yEO(t T:String):Bool:=t==T || (t=="bool"&&T=="int")
def known(T:String):Bool:=T=="int" || T=="bool" || T=="str" || T=="tuple" || T=="list"
def kC:List Er→Sto→R Er
 | [r,.val (.typ T)],S=>match zSI S r with
  | some t=>if known T=true then .ok (.val (.bl (yEO t T))) S else .no
  | none=>.no
 | _,_=>.no
theorem dE(K:PySem.W.Frag){t T:String}(ht:t="NoneType"∨t="bool"∨t="int"∨t="str"∨t="tuple"∨t="list")(hT:known T=true):PySem.W.kitOne K (.type t) (.type T)=some (yEO t T):=by
 have hT':T="int"∨T="bool"∨T="str"∨T="tuple"∨T="list":=by
  unfold known at hT
  simp only [Bool.or_eq_true,beq_iff_eq]at hT
  rcases hT with(((h | h) | h) | h) | h
  ·exact .inl h
  ·exact .inr (.inl h)
  ·exact .inr (.inr (.inl h))
  ·exact .inr (.inr (.inr (.inl h)))
  ·exact .inr (.inr (.inr (.inr h)))
 rcases ht with rfl | rfl | rfl | rfl | rfl | rfl<;>rcases hT' with rfl | rfl | rfl | rfl | rfl<;>kernel_rfl
theorem yQ:CallR X (.builtin "isinstance") (fun xs H Q=> ∃α S r x t T,xs=[x,.ty T]∧Wd X.g α S H∧DenX X.K α H r x∧zSI S r=some t∧known T=true∧Q (.bl (yEO t T)) H):=by
 intro pins s σ H xs us Q I rr h
 obtain⟨α,S,r,x,t,T,rfl,wd,d,et,hk,q⟩:=h
 obtain⟨u,w',rfl,rx,rT⟩:=vals2 rr
 cases rT
 have fin: ∀tk,EP X pins σ Q (.bool (yEO t T)) {s with toks:=tk}:=fun tk=>⟨.bl _,H,I.tok _,rfl,q⟩
 unfold zSI at et
 split at et
 ·cases et
  cases zCG d
  cases rx
  exact PySem.W.kia_one PySem.W.kitx_none I.kIn True.intro (dE X.K (.inl rfl) hk) (fun z=>nomatch z) fin
 ·cases et
  cases zEM d
  cases rx
  exact PySem.W.kia_one PySem.W.kitx_bool I.kIn True.intro (dE X.K (.inr (.inl rfl)) hk) (fun z=>nomatch z) fin
 ·cases et
  cases xB d
  obtain⟨t,rfl⟩:=rx
  exact PySem.W.kia_one PySem.W.kitx_int I.kIn True.intro (dE X.K (.inr (.inr (.inl rfl))) hk) (fun z=>nomatch z) fin
 ·cases et
  cases jX d
  obtain⟨t,rfl⟩:=rx
  exact PySem.W.kia_one PySem.W.kitx_str I.kIn True.intro (dE X.K (.inr (.inr (.inr (.inl rfl)))) hk) (fun z=>nomatch z) fin
 ·cases et
  obtain⟨a,vs,rfl,sq,l⟩:=cL d
  cases rx
  obtain⟨its,r1,p1,_⟩:=I.tuple sq
  obtain⟨o,h1,h2,_⟩:=p1
  exact PySem.W.kia_one PySem.W.kitx_tuple I.kIn ⟨o,h1,h2⟩ (dE X.K (.inr (.inr (.inr (.inr (.inl rfl))))) hk) (fun z=>nomatch z) fin
 ·cases et
 ·cases z:gH S r with
  | none=>rw [z]at et;cases et
  | some ds=>
   rw [z]at et
   cases et
   obtain⟨a,vs,rfl,sq,l⟩:=zLH rfl wd z d
   cases rx
   obtain⟨its,r1,p1,_⟩:=I.list sq
   obtain⟨o,h1,h2,_⟩:=p1.isList
   exact PySem.W.kia_one PySem.W.kitx_list I.kIn ⟨o,h1,h2⟩ (dE X.K (.inr (.inr (.inr (.inr (.inr rfl))))) hk) (fun z=>nomatch z) fin
theorem wL:zIH X W (fun xs H Q=> ∃α S r x t T,xs=[x,.ty T]∧Wd X.g α S H∧DenX X.K α H r x∧zSI S r=some t∧known T=true∧Q (.bl (yEO t T)) H) kC:=by
 intro rs vs α S H Q wd d post
 unfold kC at post
 split at post
 ·split at post
  ·rename_i t et
   split at post
   ·rename_i hk
    obtain⟨v,u,rfl,d1,d2⟩:=yKF d
    cases yDW d2
    exact⟨α,S,_,v,t,_,rfl,wd,d1,et,hk,Post.val post wd (xH _)⟩
   ·exact post.elim
  ·exact post.elim
 ·exact post.elim
def dL:List Er→Sto→R Er
 | [.val (.tup ds)],S=>.ok (.val (.tup ds)) S
 | [r],S=>match gH S r with | some ds=>.ok (.val (.tup ds)) S | none=>.no
 | _,_=>.no
theorem zBS:zIH X W (fun xs H Q=> ∃p ys,xs=[.ref p]∧((SqL X.K H p ys∧ ∀l,H l=none→Q (.ref l) (upd H l (.tup ys)))∨(SqT X.K H p ys∧Q (.ref p) H))) dL:=by
 intro rs vs α S H Q wd d post
 unfold dL at post
 split at post
 ·obtain⟨v,rfl,dv⟩:=zLI d
  obtain⟨a,us,rfl,sq,l⟩:=cL dv
  exact⟨a,us,rfl,.inr ⟨sq,Post.val post wd (cT sq l)⟩⟩
 ·split at post
  ·rename_i ds e
   obtain⟨v,rfl,dv⟩:=zLI d
   obtain⟨a,us,rfl,sq,l⟩:=zLH rfl wd e dv
   exact⟨a,us,rfl,.inl ⟨sq,fun p hp=>Post.newt post wd hp l⟩⟩
  ·exact post.elim
 ·exact post.elim
def zUW:List Er→Sto→R Er
 | [r],S=>match itemsOf S r with | some ds=>.ok (.new ds) S | none=>.no
 | _,_=>.no
theorem zZT:zIH X W (fun xs H Q=> ∃p ys,xs=[.ref p]∧(SqL X.K H p ys∨SqT X.K H p ys)∧ ∀l,H l=none→Q (.ref l) (upd H l (.lst ys))) zUW:=by
 intro rs vs α S H Q wd d post
 unfold zUW at post
 split at post
 ·split at post
  ·rename_i ds e
   obtain⟨v,rfl,dv⟩:=zLI d
   obtain⟨a,us,rfl,sq,l⟩:=zIO wd e dv
   exact⟨a,us,rfl,sq,fun p hp=>Post.newl post wd hp l⟩
  ·exact post.elim
 ·exact post.elim
theorem yR:bootBuiltins "len"=some (.builtin "len"):=by decide+kernel
theorem yEP:bootBuiltins "abs"=some (.builtin "abs"):=by decide+kernel
theorem zKD:bootBuiltins "all"=some (.builtin "all"):=by decide+kernel
theorem zQ:bootBuiltins "isinstance"=some (.builtin "isinstance"):=by decide+kernel
theorem zSJ:bootBuiltins "int"=some (.type "int"):=by decide+kernel
theorem zMA:bootBuiltins "bool"=some (.type "bool"):=by decide+kernel
theorem zSK:bootBuiltins "str"=some (.type "str"):=by decide+kernel
theorem wV:bootBuiltins "tuple"=some (.type "tuple"):=by decide+kernel
theorem zMB:bootBuiltins "list"=some (.type "list"):=by decide+kernel
end
end M
end L2
namespace L2
namespace M
open PySem PySem.Spec PyProof.Rows
def digN(n:Nat):List Nat:=(Nat.toDigits 10 n).map Char.toNat
def decL(i:Int):List Nat:=if i<0 then 45::digN i.natAbs else digN i.natAbs
section
variable{X:Cx}{W:XW}{a b c e o i:Expr}{es:List Expr}{f g h:Rho→Sto→R Er}{af:Rho→Sto→R (List Er)}{pos apos:Pos}
def strF:List Er→Sto→R Er
 | [.val (.int i)],S=>if i.natAbs.log2<1920 then .ok (.val (.str (decL i))) S else .no
 | [.val (.str x)],S=>.ok (.val (.str x)) S
 | _,_=>.no
def zLJ(p:Er)(S:Sto):Bool:=(gH S p).isSome
theorem yMI:TyM X "list" zLJ:=by
 intro p x α S H wd d h
 unfold zLJ at h
 cases z:gH S p with
 | none=>rw [z]at h;cases h
 | some ds=>
  obtain⟨a,vs,rfl,s,l⟩:=zLH rfl wd z d
  exact .inl ⟨rfl,vs,s⟩
def strIdx(x y:List Nat):Option Nat:=(Builtin.Str.occurrences (mkS x) (mkS y) 0 (mkS x).length 1).head?
def yBY(p:Er)(S:Sto)(G:List MV→Option (List MV)):R Er:=match p with
 | .val (.loc l)=>match S[l]? with
  | some (.lst ds)=>match G ds with
   | some es=>.ok (.val .non) (S.set l (.lst es))
   | none=>.no
  | _=>.no
 | _=>.no
theorem yBZ{α0 α:List Addr}{H0 H:Hp}{S:Sto}{p:Er}{x:V}{G:List MV→Option (List MV)}{Q:VK}(wd:Wd X.g α S H)(x0:Ext α0 H0 α H)(dp:DenX X.K α H p x)(post:Post X.g W α0 H0 (yBY p S G) Q):
  ∃a vs ds es,x=.ref a∧H a=some (.lst vs)∧DenL X.K α H ds vs∧G ds=some es∧ ∀us,DenL X.K α H es us→Q .non (upd H a (.lst us)):=by
 unfold yBY at post
 split at post
 ·rename_i l
  obtain⟨a,rfl,h⟩:=zAW dp
  obtain⟨ob,h1,h2⟩:=wd.of h
  rw [h1]at post
  cases ob with
  | lst ds=>
   obtain⟨vs,h3,l1⟩:=h2
   have post:Post X.g W α0 H0 (match G ds with | some es=>R.ok (Er.val .non) (S.set l (.lst es)) | none=>R.no) Q:=post
   split at post
   ·rename_i es eg
    refine⟨a,vs,ds,es,rfl,h3,l1,eg,fun us lu=>?_⟩
    have xw:=wd.writex h (o:=.lst us)
    exact(post.shift (x0.trans xw)).val (wd.write h ⟨us,zZ,lu.ext xw⟩) cR
   ·exact post.elim
  | dic _=>exact post.elim
  | ins _ _=>exact post.elim
 ·exact post.elim
def zXM:Er→List Er→Sto→R Er
 | p,[r],S=>(zAY r S).bind fun y S1=>yBY p S1 fun ds=>if ds.length<sizeLine then some (ds++[y])else none
 | _,_,_=>.no
theorem yCA:MtdM X W zZH zXM:=by
 intro p rs x vs α S H0 H Q α0 wd x0 dp da post
 match rs,da,post with
 | [],_,post=>exact post.elim
 | _::_::_,_,post=>exact post.elim
 | [r],da,post=>
  cases da with
  | cons d n l=>
   cases l
   obtain⟨d',S',α',e',x',y',w',dd⟩:=zFW wd x0 d
   have post:Post X.g W α0 H0 ((zAY r S).bind fun y S1=>yBY p S1 fun ds=>if ds.length<sizeLine then some (ds++[y])else none) Q:=post
   rw [e']at post
   have dp':DenX X.K α' H p x:=by
    cases p with
    | val m=>exact Den.ex0 y' dp
    | new ds=>exact post.elim
   obtain⟨a,us,ds,es,rfl,h1,l1,eg,k⟩:=yBZ w' x' dp' post
   split at eg
   ·rename_i hz
    cases eg
    exact⟨a,us,_,rfl,rfl,h1,by rw [l1.length];exact hz,k _ (l1.append (yY dd xW))⟩
   ·cases eg
theorem zQW(ho:PEm X W a f)(ha:PAm X W (e::es) af)
  (hbase:attributeBase a "append" X.env (eval a X.env)=eval a X.env:=by rfl)
  (hfew:((backTo pos (starEach (e::es) X.env)).all (fun x=>!x.1)&&(backToKw pos (keywordEach [] X.env)).all (fun x=>x.1.isSome)
   &&decide ((e::es).length+([]:List Keyword).length+(if([]:List Keyword).isEmpty then 0 else 1)<30))=true:=by rfl)
  (hline:(apos.endLine==pos.line)=true:=by rfl) (hs:starEach (e::es) X.env=(false,eval e X.env)::starEach es X.env:=by rfl) (hplain:(backTo pos (starEach es X.env)).any (·.1)=false:=by rfl):
  PEm X W (.Call (.Attribute a "append" apos) (e::es) [] pos) (fun ρ S=>(f ρ S).bind fun p S1=>if zLJ p S1=true then(af ρ S1).bind fun rs S2=>zXM p rs S2 else .no):=
 yHU PySem.F.plainAttrs_list PySem.F.slot_list_append PySem.F.type_list_append yBI yCA yMI ho ha hbase hfew hline hs hplain
end
end M
end L2
namespace L2
namespace M
open PySem PySem.Spec PyProof.Rows
theorem _root_.L2.Inv.turnedL{X:Cx}{pins:List (Addr×Obj)}{σ:St}{H:Hp}{s:Shared}{h':Heap}{t':Nat}{fp:List Addr}(I:Inv X pins σ H s)(k: ∀b o,b∉fp→s.heap.get? b=some o→h'.get? b=some o)
  (hf: ∀b∈fp,zGU X pins H b):Inv X pins σ H {s with heap:=h',toks:=t'}:=by
 have nit: ∀b u,H b=some u→b∉fp:=fun b u e z=>by rw [(hf b z).1]at e;cases e
 refine I.step (g':=s.gens) (d':=s.drawn) (ch:=fp) (fun b hb=>⟨(hf b hb).2.2.2.1,(hf b hb).2.1,(hf b hb).2.2.2.2.1,(hf b hb).2.2.2.2.2⟩) (fun b o _ _ hc e _=>k b o hc e) (fun b o _ _ hc e _=>⟨o.slots,k b o hc e⟩) (fun _ _ _ _ n=>n)
  (fun b o hc e=>⟨o,k b o hc e⟩) (fun _ _ e=>e) (fun _ _ _ e=>e) (fun b ps e=>⟨#[],by rw [e];simp⟩) (fun m hm=>?_) (fun b u e=>?_) I.bare
 ·obtain⟨o,es,ep,ho,r⟩:=hm
  exact⟨o,es,ep,k _ o (fun z=>(hf _ z).2.1 rfl) ho,r⟩
 ·refine(I.hok b u e).stay (fun c v hc q=>k c v ?_ q) (fun _ q=>q) fun _ _ q=>q
  rcases hc with z | z
  ·rw [z];exact nit b u e
  ·exact nit c _ z
def IsSub(k:Bool)(h:Heap)(it l:Addr)(i:Nat):Prop:=if k=true then h.IsListIter it l i else h.IsTupleIter it l i
def IsSeq(k:Bool)(h:Heap)(l:Addr)(its:Array Value):Prop:=if k=true then h.IsList l its else h.IsTuple l its
def zCM(k:Bool)(l:Addr):Obj:={cls:=.type (if k=true then "list_iterator" else "tuple_iterator"),data:=.fields #[.ref l,.int 0 0]}
theorem IsSub.mk'{k:Bool}{h:Heap}{it l:Addr}(e:h.get? it=some (zCM k l)):IsSub k h it l 0:=by
 cases k with
 | true=>exact⟨_,e,rfl,rfl⟩
 | false=>exact⟨_,e,rfl,rfl⟩
theorem IsSub.there{k:Bool}{h:Heap}{it l:Addr}{i:Nat}(x:IsSub k h it l i): ∃o,h.get? it=some o∧ ∀v,o.data≠.cell v:=by
 cases k with
 | true=>obtain⟨o,e,_,d⟩:=(x:h.IsListIter it l i);exact⟨o,e,fun v z=>by rw [d]at z;cases z⟩
 | false=>obtain⟨o,e,_,d⟩:=(x:h.IsTupleIter it l i);exact⟨o,e,fun v z=>by rw [d]at z;cases z⟩
theorem IsSub.move{k:Bool}{h h':Heap}{it l:Addr}{i:Nat}(x:IsSub k h it l i)(f: ∀o,h.get? it=some o→h'.get? it=some o):IsSub k h' it l i:=by
 cases k with
 | true=>obtain⟨o,e,r⟩:=(x:h.IsListIter it l i);exact⟨o,f o e,r⟩
 | false=>obtain⟨o,e,r⟩:=(x:h.IsTupleIter it l i);exact⟨o,f o e,r⟩
theorem IsSeq.move{k:Bool}{h h':Heap}{l:Addr}{its:Array Value}(x:IsSeq k h l its)(f: ∀o,h.get? l=some o→h'.get? l=some o):IsSeq k h' l its:=by
 cases k with
 | true=>obtain⟨o,e,r⟩:=(x:h.IsList l its);exact⟨o,f o e,r⟩
 | false=>obtain⟨o,e,r⟩:=(x:h.IsTuple l its);exact⟨o,f o e,r⟩
section
variable{prog:Program}{w:World}{A:Around}{E:Value→Shared→Prop}{s:Shared}
theorem zEP{k:Bool}{l:Addr}{its:Array Value}{Q:Value→Shared→Prop}(hl:IsSeq k s.heap l its)(h:Q (.ref s.heap.objs.size) {s with heap:=s.heap.push (zCM k l)}):wpAny (model prog w) A (pyIter (.ref l)) Q E s:=by
 cases k with
 | true=>exact wpAny_pyIter_list hl h
 | false=>exact wpAny_pyIter_tuple hl h
theorem zIP{k:Bool}{it l:Addr}{i:Nat}{its:Array Value}{x:Value}{Q:Value→Shared→Prop}(hit:IsSub k s.heap it l i)(hl:IsSeq k s.heap l its)(hx:its[i]? =some x)
  (hQ: ∀h',IsSub k h' it l (i+1)→Heap.SameBut it s.heap h'→Q x {s with heap:=h'}):wpAny (model prog w) A (Builtin.SmallTypes.nextOf (.ref it)) Q E s:=by
 cases k with
 | true=>exact wpAny_nextOf_list_item hit hl hx hQ
 | false=>
  have hit':s.heap.IsTupleIter it l i:=hit
  obtain⟨o,ho,hc,hd⟩:=id hit'
  obtain⟨ol,hol,_,nl,hdl⟩:=(hl:s.heap.IsTuple l its)
  unfold Builtin.SmallTypes.nextOf
  refine wpAny_bind (wpAny_callSpecial?_slot (name:=Str.ofString "__next__") hit'.typeIs F.slot_tuple_iterator_next (wpAny_call_entry F.slot_tuple_iterator_next hit'.typeIs F.entry_tuple_iterator_next ?_ (F.args_tuple_iterator_next_1 _)))
  show wpAny _ _ (field (.ref it) 0 >>= _) _ _ s
  refine wpAny_bind (wpAny_field ho hd (x:=.ref l) rfl ?_)
  show wpAny _ _ (if(Value.ref l==Value.none)=true then _ else _) _ _ s
  rw [if_neg (show¬((Value.ref l==Value.none)=true)from Bool.false_ne_true)]
  show wpAny _ _ (field (.ref it) 1 >>= _) _ _ s
  refine wpAny_bind (wpAny_field ho hd (x:=.int i 0) rfl ?_)
  show wpAny _ _ (seqItems? (.ref l) >>= _) _ _ s
  refine wpAny_bind (wpAny_seqItems hol hdl ?_)
  simp only [Int.toNat_natCast,hx]
  refine wpAny_bind (wpAny_setField ho hd (by simp) (wpAny_pure ⟨x,rfl,wpAny_pure (hQ _ ?_ (Heap.SameBut.update ..))⟩))
  exact⟨_,Heap.get?_update_self _ ho (Obj.isFreed_of_fields (Obj.data_mapFields hd _)),(Obj.cls_mapFields ..).trans hc,by rw [Obj.data_mapFields hd];simp [rawInt]⟩
theorem zSL{k:Bool}{it l:Addr}{i:Nat}{its:Array Value}{Q:Value→Shared→Prop}(hh:A.handled=none)(hit:IsSub k s.heap it l i)(hl:IsSeq k s.heap l its)(hx:its[i]? =none)
  (hE: ∀h' e,Heap.ExtBut it s.heap h'→(∃o,h'.get? e=some o∧o.cls=.type "StopIteration")→E (.ref e) {s with heap:=h'}):wpAny (model prog w) A (Builtin.SmallTypes.nextOf (.ref it)) Q E s:=by
 cases k with
 | true=>exact wpAny_nextOf_list_end hh hit hl hx hE
 | false=>
  have hit':s.heap.IsTupleIter it l i:=hit
  obtain⟨o,ho,hc,hd⟩:=id hit'
  obtain⟨ol,hol,_,nl,hdl⟩:=(hl:s.heap.IsTuple l its)
  unfold Builtin.SmallTypes.nextOf
  refine wpAny_bind (wpAny_callSpecial?_slot (name:=Str.ofString "__next__") hit'.typeIs F.slot_tuple_iterator_next (wpAny_call_entry F.slot_tuple_iterator_next hit'.typeIs F.entry_tuple_iterator_next ?_ (F.args_tuple_iterator_next_1 _)))
  show wpAny _ _ (field (.ref it) 0 >>= _) _ _ s
  refine wpAny_bind (wpAny_field ho hd (x:=.ref l) rfl ?_)
  show wpAny _ _ (if(Value.ref l==Value.none)=true then _ else _) _ _ s
  rw [if_neg (show¬((Value.ref l==Value.none)=true)from Bool.false_ne_true)]
  show wpAny _ _ (field (.ref it) 1 >>= _) _ _ s
  refine wpAny_bind (wpAny_field ho hd (x:=.int i 0) rfl ?_)
  show wpAny _ _ (seqItems? (.ref l) >>= _) _ _ s
  refine wpAny_bind (wpAny_seqItems hol hdl ?_)
  simp only [Int.toNat_natCast,hx]
  refine wpAny_bind (wpAny_rule (wpAny_bind (wpAny_setField ho hd (by simp) ?_)))
  show wpAny _ _ (newExc (.type "StopIteration") [] >>= _) _ _ _
  refine wpAny_bind ?_
  simp only [newExc,newTuple]
  refine wpAny_bind (wpAny_newObj_type ?_ (by size_fits))
  refine wpAny_bind (m:=firstArgMember _ _) (wpAny_of_eq (a:=Value.none) (by first | rfl | (simp only [firstArgMember];rfl)) ?_)
  refine wpAny_newObj_type ?_ (by size_fits)
  simp only [raiseNew]
  refine wpAny_bind (wpAny_handled ?_)
  first | rw [show A.in1.handled=none from hh] | rw [hh]
  refine wpAny_bind (wpAny_pure (wpAny_throw ?_))
  exact hE _ _ (((Heap.SameBut.update ..).extBut.push _).push _) ⟨_,Heap.get?_push_size _ rfl,rfl⟩
end
structure ZipSt(k1 k2:Bool)(z TI TO i1 i2 l1 l2:Addr)(i:Nat)(h:Heap):Prop where
 z:IsZip h z TI TO .none
 ti:IsPair h TI (.ref i1) (.ref i2)
 to: ∃a b,IsPair h TO a b
 s1:IsSub k1 h i1 l1 i
 s2:IsSub k2 h i2 l2 i
structure Apart5(z TI TO i1 i2:Addr):Prop where
 TIz:TI≠z
 TOz:TO≠z
 i1z:i1≠z
 i2z:i2≠z
 TITO:TI≠TO
 TIi1:TI≠i1
 TIi2:TI≠i2
 TOi1:TO≠i1
 TOi2:TO≠i2
 i12:i1≠i2
section
variable{prog:Program}{w:World}{A:Around}{E:Value→Shared→Prop}{s:Shared}{k1 k2:Bool}{z TI TO i1 i2 l1 l2:Addr}{i:Nat}{xs ys:Array Value}
def Off(l z TO i1 i2:Addr):Prop:=l≠z∧l≠TO∧l≠i1∧l≠i2
theorem yEQ{x y:Value}{Q:Value→Shared→Prop}(D:Apart5 z TI TO i1 i2)(o1:Off l1 z TO i1 i2)(o2:Off l2 z TO i1 i2)(st:ZipSt k1 k2 z TI TO i1 i2 l1 l2 i s.heap)(hl1:IsSeq k1 s.heap l1 xs)(hl2:IsSeq k2 s.heap l2 ys)(hx:xs[i]? =some x)(hy:ys[i]? =some y)
  (hQ: ∀h',IsZip h' z TI TO (rawInt s.heap.objs.size)→IsPair h' TO x y→IsSub k1 h' i1 l1 (i+1)→IsSub k2 h' i2 l2 (i+1)→IsPair h' s.heap.objs.size x y→
   (∀c o,c≠z→c≠TO→c≠i1→c≠i2→s.heap.get? c=some o→h'.get? c=some o)→Q (.ref s.heap.objs.size) {s with heap:=h'}):
  wpAny (model prog w) A (Builtin.«zip.__next__» ⟨[.ref z],[]⟩) (fun fin s'=> ∃v,fin=.done (.ret v)∧Q v s') E s:=by
 obtain⟨hz,hTI,⟨a,b,hTO⟩,h1,h2⟩:=st
 show wpAny _ _ (field (.ref z) 2 >>= _) _ _ _
 refine wpAny_bind (wpAny_field hz rfl (x:=.bool false) rfl ?_)
 show wpAny _ _ (field (.ref z) 3 >>= _) _ _ _
 refine wpAny_bind (wpAny_field hz rfl (x:=.ref TI) rfl (wpAny_bind (wpAny_seqItems hTI rfl ?_)))
 show wpAny _ _ (Builtin.SmallTypes.ownedTupleIsFree (.ref z) >>= _) _ _ _
 refine wpAny_bind ?_
 unfold Builtin.SmallTypes.ownedTupleIsFree
 refine wpAny_bind (wpAny_field hz rfl (x:=.none) rfl (wpAny_pure ?_))
 simp only [if_true]
 refine wpAny_bind (wpAny_rule (wpAny_bind (wpAny_field hz rfl (x:=.ref TO) rfl (wpAny_bind (wpAny_setField_rec hz (by simp) fun ha hza hsa=>?_)))))
 replace hza:IsZip ha z TI TO .ellipsis:=hza
 refine wpAny_bind ?_
 simp only [List.zipIdx_cons,List.zipIdx_nil,List.forIn_cons,List.forIn_nil]
 refine wpAny_bind (wpAny_bind (wpAny_onRaise ?_))
 show wpAny _ _ (Builtin.SmallTypes.nextOf (.ref i1) >>= _) _ _ _
 refine wpAny_bind (zIP (h1.move fun o e=>hsa.extBut _ _ D.i1z e) (hl1.move fun o e=>hsa.extBut _ _ o1.1 e) hx fun hb h1b hsb=>wpAny_pure ?_)
 have tob:IsPair hb TO a b:=hsb.extBut _ _ D.TOi1 (hsa.extBut _ _ D.TOz hTO)
 refine wpAny_bind (wpAny_seqItems tob rfl (wpAny_bind (wpAny_updateSeq_pair tob fun hc toc hsc=>wpAny_bind (wpAny_letGo (wpAny_pure ?_)))))
 replace toc:IsPair hc TO x b:=toc
 refine wpAny_bind (wpAny_bind (wpAny_onRaise ?_))
 show wpAny _ _ (Builtin.SmallTypes.nextOf (.ref i2) >>= _) _ _ _
 have mv: ∀c o,c≠z→c≠TO→c≠i1→s.heap.get? c=some o→hc.get? c=some o:=fun c o n1 n2 n3 e=>hsc.extBut _ _ n2 (hsb.extBut _ _ n3 (hsa.extBut _ _ n1 e))
 refine wpAny_bind (zIP (h2.move fun o e=>mv _ o D.i2z D.TOi2.symm D.i12.symm e) (hl2.move fun o e=>mv _ o o2.1 o2.2.1 o2.2.2.1 e) hy fun hd h2d hsd=>wpAny_pure ?_)
 have tod:IsPair hd TO x b:=hsd.extBut _ _ D.TOi2 toc
 refine wpAny_bind (wpAny_seqItems tod rfl (wpAny_bind (wpAny_updateSeq_pair tod fun he toe hse=>wpAny_bind (wpAny_letGo (wpAny_pure (wpAny_pure ?_))))))
 replace toe:IsPair he TO x y:=toe
 refine wpAny_bind (wpAny_seqItems toe rfl (wpAny_bind (wpAny_newTuple ?_)))
 have hsz:he.objs.size=s.heap.objs.size:=by rw [hse.1,hsd.1,hsc.1,hsb.1,hsa.1]
 have ze:IsZip he z TI TO .ellipsis:=hse.extBut _ _ D.TOz.symm (hsd.extBut _ _ D.i2z.symm (hsc.extBut _ _ D.TOz.symm (hsb.extBut _ _ D.i1z.symm hza)))
 have mve: ∀c o,c≠z→c≠TO→c≠i1→c≠i2→s.heap.get? c=some o→he.get? c=some o:=fun c o n1 n2 n3 n4 e=>hse.extBut _ _ n2 (hsd.extBut _ _ n4 (mv c o n1 n2 n3 e))
 have s1e:IsSub k1 he i1 l1 (i+1):=h1b.move fun o e=>hse.extBut _ _ D.TOi1.symm (hsd.extBut _ _ D.i12 (hsc.extBut _ _ D.TOi1.symm e))
 have s2e:IsSub k2 he i2 l2 (i+1):=h2d.move fun o e=>hse.extBut _ _ D.TOi2.symm e
 have hzlt:z<he.objs.size:=Heap.lt_size ze
 show wpAny _ _ (Builtin.SmallTypes.ownedTupleHandOut (.ref z) (.ref he.objs.size) >>= _) _ _ _
 refine wpAny_bind ?_
 unfold Builtin.SmallTypes.ownedTupleHandOut
 have zf:IsZip (he.push {cls:=.type "tuple",data:=.seq #[x,y]}) z TI TO .ellipsis:=Heap.get?_push_of_some _ ze
 refine wpAny_bind (wpAny_setField_rec zf (by simp) fun hg' zg hsg=>?_)
 replace zg:IsZip hg' z TI TO (rawInt he.objs.size):=zg
 refine wpAny_setField_rec zg (by simp) fun hh' zh hsh=>?_
 replace zh:IsZip hh' z TI TO (rawInt he.objs.size):=zh
 have up: ∀c o,c≠z→he.get? c=some o→hh'.get? c=some o:=fun c o c1 e=>hsh.extBut _ _ c1 (hsg.extBut _ _ c1 (Heap.get?_push_of_some _ e))
 have tT:IsPair hh' he.objs.size x y:=hsh.extBut _ _ (Nat.ne_of_gt hzlt) (hsg.extBut _ _ (Nat.ne_of_gt hzlt) (Heap.get?_push_size _ rfl))
 rw [hsz]at zh tT
 refine wpAny_pure ⟨_,rfl,?_⟩
 show Q (.ref he.objs.size) _
 rw [hsz]
 exact hQ hh' zh (up _ _ D.TOz toe) (s1e.move fun o e=>up _ o D.i1z e) (s2e.move fun o e=>up _ o D.i2z e) tT fun c o c1 c2 c3 c4 e=>up c o c1 (mve c o c1 c2 c3 c4 e)
theorem yII{Q:Fin→Shared→Prop}(hh:A.handled=none)(D:Apart5 z TI TO i1 i2)(o1:Off l1 z TO i1 i2)(o2:Off l2 z TO i1 i2)(st:ZipSt k1 k2 z TI TO i1 i2 l1 l2 i s.heap)(hl1:IsSeq k1 s.heap l1 xs)(hl2:IsSeq k2 s.heap l2 ys)(hend:xs[i]? =none∨ys[i]? =none)
  (hE: ∀h' e,(∀c o,c≠z→c≠TO→c≠i1→c≠i2→s.heap.get? c=some o→h'.get? c=some o)→(∃o,h'.get? e=some o∧o.cls=.type "StopIteration")→E (.ref e) {s with heap:=h'}):
  wpAny (model prog w) A (Builtin.«zip.__next__» ⟨[.ref z],[]⟩) Q E s:=by
 obtain⟨hz,hTI,⟨a,b,hTO⟩,h1,h2⟩:=st
 show wpAny _ _ (field (.ref z) 2 >>= _) _ _ _
 refine wpAny_bind (wpAny_field hz rfl (x:=.bool false) rfl ?_)
 show wpAny _ _ (field (.ref z) 3 >>= _) _ _ _
 refine wpAny_bind (wpAny_field hz rfl (x:=.ref TI) rfl (wpAny_bind (wpAny_seqItems hTI rfl ?_)))
 show wpAny _ _ (Builtin.SmallTypes.ownedTupleIsFree (.ref z) >>= _) _ _ _
 refine wpAny_bind ?_
 unfold Builtin.SmallTypes.ownedTupleIsFree
 refine wpAny_bind (wpAny_field hz rfl (x:=.none) rfl (wpAny_pure ?_))
 simp only [if_true]
 refine wpAny_bind (wpAny_rule (wpAny_bind (wpAny_field hz rfl (x:=.ref TO) rfl (wpAny_bind (wpAny_setField_rec hz (by simp) fun ha hza hsa=>?_)))))
 replace hza:IsZip ha z TI TO .ellipsis:=hza
 refine wpAny_bind ?_
 simp only [List.zipIdx_cons,List.zipIdx_nil,List.forIn_cons,List.forIn_nil]
 refine wpAny_bind (wpAny_bind (wpAny_onRaise ?_))
 show wpAny _ _ (Builtin.SmallTypes.nextOf (.ref i1) >>= _) _ _ _
 cases hx:xs[i]? with
 | none=>
  refine wpAny_bind (zSL hh (h1.move fun o e=>hsa.extBut _ _ D.i1z e) (hl1.move fun o e=>hsa.extBut _ _ o1.1 e) hx fun hb e hsb he=>?_)
  obtain⟨oe,hoe,hce⟩:=he
  have hzb:IsZip hb z TI TO .ellipsis:=hsb _ _ D.i1z.symm hza
  have hez:e≠z:=fun q=>by subst q;rw [hzb]at hoe;cases hoe;simp at hce
  exact wpAny_setField_rec hzb (by simp) fun hc _ hsc=>hE hc e (fun c o c1 _ c3 _ q=>hsc.extBut _ _ c1 (hsb _ _ c3 (hsa.extBut _ _ c1 q))) ⟨oe,hsc.extBut _ _ hez hoe,hce⟩
 | some x=>
  have hy:ys[i]? =none:=by rcases hend with h | h;(rw [hx]at h;cases h);exact h
  refine wpAny_bind (zIP (h1.move fun o e=>hsa.extBut _ _ D.i1z e) (hl1.move fun o e=>hsa.extBut _ _ o1.1 e) hx fun hb h1b hsb=>wpAny_pure ?_)
  have tob:IsPair hb TO a b:=hsb.extBut _ _ D.TOi1 (hsa.extBut _ _ D.TOz hTO)
  refine wpAny_bind (wpAny_seqItems tob rfl (wpAny_bind (wpAny_updateSeq_pair tob fun hc toc hsc=>wpAny_bind (wpAny_letGo (wpAny_pure ?_)))))
  refine wpAny_bind (wpAny_bind (wpAny_onRaise ?_))
  show wpAny _ _ (Builtin.SmallTypes.nextOf (.ref i2) >>= _) _ _ _
  have mv: ∀c o,c≠z→c≠TO→c≠i1→s.heap.get? c=some o→hc.get? c=some o:=fun c o n1 n2 n3 e=>hsc.extBut _ _ n2 (hsb.extBut _ _ n3 (hsa.extBut _ _ n1 e))
  refine wpAny_bind (zSL hh (h2.move fun o e=>mv _ o D.i2z D.TOi2.symm D.i12.symm e) (hl2.move fun o e=>mv _ o o2.1 o2.2.1 o2.2.2.1 e) hy fun hd e hsd he=>?_)
  obtain⟨oe,hoe,hce⟩:=he
  have hzd:IsZip hd z TI TO .ellipsis:=hsd _ _ D.i2z.symm (hsc.extBut _ _ D.TOz.symm (hsb.extBut _ _ D.i1z.symm hza))
  have hez:e≠z:=fun q=>by subst q;rw [hzd]at hoe;cases hoe;simp at hce
  exact wpAny_setField_rec hzd (by simp) fun hg' _ hsg=>hE hg' e (fun c o c1 c2 c3 c4 q=>hsg.extBut _ _ c1 (hsd _ _ c4 (mv c o c1 c2 c3 q))) ⟨oe,hsg.extBut _ _ hez hoe,hce⟩
theorem zXN(k1 k2:Bool)(l1 l2:Addr)(xs ys:Array Value):
  Meets (Builtin.«zip.__new__» ⟨[.type "zip",.ref l1,.ref l2],[]⟩) (fun _ R s=>IsSeq k1 s.heap l1 xs∧IsSeq k2 s.heap l2 ys∧
   R (.ok (.ret (.ref (s.heap.objs.size+4)))) {s with heap:=((((s.heap.push (zCM k1 l1)).push (zCM k2 l2)).push {cls:=.type "tuple",data:=.seq #[.ref s.heap.objs.size,.ref (s.heap.objs.size+1)]}).push {cls:=.type "tuple",data:=.seq #[.none,.none]}).push {cls:=.type "zip",data:=.fields #[.none,.bool false,.bool false,.ref (s.heap.objs.size+2),.ref (s.heap.objs.size+3)]}}):=
 .of_wp fun prog w A R s h=>by
  obtain⟨hp,g,d,tk,os⟩:=s;obtain⟨hl1,hl2,h⟩:=h
  have hsub:=sub_zip
  have hL1:IsSeq k1 (Shared.heap ⟨hp,g,d,tk,os⟩) l1 xs:=hl1
  have hL2:IsSeq k2 (Shared.heap ⟨hp.push (zCM k1 l1),g,d,tk,os⟩) l2 ys:=hl2.move fun o e=>Heap.get?_push_of_some _ e
  have z1: ∀(h:Heap)(o:Obj),(h.push o).objs.size=h.objs.size+1:=fun h o=>Heap.size_push ..
  simp only [z1]at h ⊢
  wp_walk using zEP hL1,zEP hL2
  exact⟨_,rfl,by simp only [z1];exact h⟩
theorem yER(hl1:IsSeq k1 s.heap l1 xs)(hl2:IsSeq k2 s.heap l2 ys){Q:Value→Shared→Prop}
  (h: ∀h',ZipSt k1 k2 (s.heap.objs.size+4) (s.heap.objs.size+2) (s.heap.objs.size+3) s.heap.objs.size (s.heap.objs.size+1) l1 l2 0 h'→(∀c o,s.heap.get? c=some o→h'.get? c=some o)→Q (.ref (s.heap.objs.size+4)) {s with heap:=h'}):
  wpAny (model prog w) A (call (.type "zip") [.ref l1,.ref l2]) Q E s:=by
 refine callType_new F.called_zip (by decide) (F.typeCall_zip_2 _ _) (F.newCall_zip_2 _ _) (fun obj=>F.args_object_init_3 obj _ _) F.entry_zip_new (zXN k1 k2 l1 l2 xs ys) ⟨hl1,hl2,?_⟩
 have z1: ∀(h:Heap)(o:Obj),(h.push o).objs.size=h.objs.size+1:=fun h o=>Heap.size_push ..
 have pg: ∀(h:Heap)(o:Obj)(n:Nat),o.isFreed=false→h.objs.size=n→(h.push o).get? n=some o:=fun h o n hf e=>by subst e;exact Heap.get?_push_size _ hf
 have up: ∀(h:Heap)(o u:Obj)(n:Nat),h.get? n=some u→(h.push o).get? n=some u:=fun h o u n e=>Heap.get?_push_of_some _ e
 refine⟨⟨_,pg _ _ _ rfl (by simp only [z1]),rfl⟩,h _ ⟨pg _ _ _ rfl (by simp only [z1]),up _ _ _ _ (up _ _ _ _ (pg _ _ _ rfl (by simp only [z1]))),⟨.none,.none,up _ _ _ _ (pg _ _ _ rfl (by simp only [z1]))⟩,?_,?_⟩ fun c o e=>up _ _ _ _ (up _ _ _ _ (up _ _ _ _ (up _ _ _ _ (up _ _ _ _ e))))⟩
 ·exact IsSub.mk' (up _ _ _ _ (up _ _ _ _ (up _ _ _ _ (up _ _ _ _ (pg _ _ _ rfl rfl)))))
 ·exact IsSub.mk' (up _ _ _ _ (up _ _ _ _ (up _ _ _ _ (pg _ _ _ rfl (by simp only [z1])))))
end
theorem apart_new(n:Nat):Apart5 (n+4) (n+2) (n+3) n (n+1):=by
 constructor<;>(show(_:Nat)≠_;omega)
def SqK(k:Bool)(K:PySem.W.Frag)(H:Hp)(a:Addr)(xs:List V):Prop:=if k=true then SqL K H a xs else SqT K H a xs
def Itz(K:PySem.W.Frag)(k1 k2:Bool)(l1 l2:Addr):It:=
 ⟨fun i H=> ∃xs ys x y,SqK k1 K H l1 xs∧SqK k2 K H l2 ys∧xs[i]? =some x∧ys[i]? =some y,
   fun i H v H'=> ∃p x y,H p=none∧v=.ref p∧H'=upd H p (.tup [x,y])∧(∀xs,SqK k1 K H l1 xs→xs[i]? =some x)∧ ∀ys,SqK k2 K H l2 ys→ys[i]? =some y,
   fun i H=> ∃xs ys,SqK k1 K H l1 xs∧SqK k2 K H l2 ys∧(xs.length≤i∨ys.length≤i)⟩
section
variable{X:Cx}{pins:List (Addr×Obj)}{σ:St}{H:Hp}{s:Shared}
theorem _root_.L2.Inv.seqK(I:Inv X pins σ H s){k:Bool}{a:Addr}{xs:List V}(h:SqK k X.K H a xs): ∃its:List Value,Vals xs its∧IsSeq k s.heap a its.toArray∧xs.length≤sizeLine:=by
 cases k with
 | true=>obtain⟨its,r,p,z⟩:=I.list h;exact⟨its,r,p.isList,z⟩
 | false=>obtain⟨its,r,p,z⟩:=I.tuple h;exact⟨its,r,p,z⟩
theorem _root_.L2.Inv.seqK_inj(I:Inv X pins σ H s){k:Bool}{a:Addr}{xs ys:List V}(h:SqK k X.K H a xs)(h':SqK k X.K H a ys):xs=ys:=by
 cases k with
 | true=>exact I.list_inj h h'
 | false=>exact I.tuple_inj h h'
theorem zAQ(I:Inv X pins σ H s){k:Bool}{l b:Addr}{xs:List V}(h:SqK k X.K H l xs)(hb:zGU X pins H b):l≠b:=by
 rintro rfl
 have kk: ∀o,X.K.lookup l=some o→False:=fun o e=>by
  have e1:=I.mod.kin l o e
  rcases hb.2.2.2.1 with z | z
  ·exact I.ok.noex l o e1 z
  ·exact absurd (Nat.lt_of_lt_of_le (Heap.lt_size e1) (Nat.le_trans I.ok.bsz z)) (Nat.lt_irrefl _)
 cases k with
 | true=>
  rcases (h:SqL X.K H l xs)with(h | ⟨o,h⟩) | ⟨o,its,n,h,_⟩
  ·rw [hb.1]at h;cases h
  ·rw [hb.1]at h;cases h
  ·exact kk o h
 | false=>
  rcases (h:SqT X.K H l xs)with(h | ⟨o,h⟩) | ⟨o,its,n,h,_⟩
  ·rw [hb.1]at h;cases h
  ·rw [hb.1]at h;cases h
  ·exact kk o h
end
theorem yES{P:Program}{w:World}{K:PySem.W.Frag}{elts:List Expr}{kt:Nat}{pt:Pos}{k1 k2:Bool}{z TI TO i1 i2 l1 l2:Addr}(D:Apart5 z TI TO i1 i2):
  Turn P w K (.Tuple elts kt pt) (Itz K k1 k2 l1 l2) [z,TI,TO,i1,i2] z (fun i h=>ZipSt k1 k2 z TI TO i1 i2 l1 l2 i h) where
 mem:=by simp
 obj:=fun i h st b hb=>by
  obtain⟨hz,hTI,⟨a,b',hTO⟩,h1,h2⟩:=st
  have hb':b=z∨b=TI∨b=TO∨b=i1∨b=i2:=by simpa using hb
  rcases hb' with rfl | rfl | rfl | rfl | rfl
  ·exact⟨_,hz,fun v q=>by cases q⟩
  ·exact⟨_,hTI,fun v q=>by cases q⟩
  ·exact⟨_,hTO,fun v q=>by cases q⟩
  ·exact h1.there
  ·exact h2.there
 keep:=fun i h h' st k=>by
  obtain⟨hz,hTI,⟨a,b',hTO⟩,h1,h2⟩:=st
  exact⟨k z (by simp) _ hz,k TI (by simp) _ hTI,⟨a,b',k TO (by simp) _ hTO⟩,h1.move fun o e=>k i1 (by simp) o e,h2.move fun o e=>k i2 (by simp) o e⟩
 item:=by
  intro X hP hw hK hc i pins s σ H E I hf st hg
  subst hP hw hK
  obtain⟨xs,ys,x,y,q1,q2,hx,hy⟩:=hg
  obtain⟨its,r1,p1,_⟩:=I.seqK q1
  obtain⟨its2,r2,p2,_⟩:=I.seqK q2
  obtain⟨u,hu,ru⟩:=r1.get hx
  obtain⟨v,hv,rv⟩:=r2.get hy
  have off: ∀{k:Bool}{l:Addr}{xs:List V},SqK k X.K H l xs→Off l z TO i1 i2:=fun q=>⟨zAQ I q (hf z (by simp)),zAQ I q (hf TO (by simp)),zAQ I q (hf i1 (by simp)),zAQ I q (hf i2 (by simp))⟩
  have hT:s.TypeIs (.ref z) "zip":=⟨_,st.z,rfl⟩
  unfold pyNext
  refine wpAny_bind (wpAny_attempt (wpAny_callSpecial?_slot (name:=Str.ofString "__next__") hT F.slot_zip_next (wpAny_call_entry F.slot_zip_next hT F.entry_zip_next
   (yEQ D (off q1) (off q2) st p1 p2 (x:=u) (y:=v) (by simpa using hu) (by simpa using hv) fun h' a1 a2 a3 a4 a5 a6=>wpAny_pure ⟨_,rfl,?_⟩) (F.args_zip_next_1 _))))
  refine wpAny_letOwnedTupleGo_zip a1 fun h2 z2 sb2=>?_
  have hpn:H s.heap.objs.size=none:=I.hok.fresh (Nat.le_refl _)
  have I0:Inv X pins σ (upd H s.heap.objs.size (.tup [x,y])) {s with heap:=s.heap.push {cls:=.type "tuple",data:=.seq #[u,v]}}:=
   I.laid (t':=s.toks) (o:=.tup [x,y]) (fun b o e=>Heap.get?_push_of_some _ e) (Nat.le_refl _) ⟨by show 2≤sizeLine;decide,[u,v],.cons ru (.cons rv .nil),⟨_,Heap.get?_push_size _ rfl,rfl,_,rfl⟩⟩
  have lt: ∀b∈[z,TI,TO,i1,i2],b<s.heap.objs.size:=fun b hb=>by
   have: ∃o,s.heap.get? b=some o:=by
    obtain⟨hz,hTI,⟨a,b',hTO⟩,g1,g2⟩:=st
    have hb':b=z∨b=TI∨b=TO∨b=i1∨b=i2:=by simpa using hb
    rcases hb' with rfl | rfl | rfl | rfl | rfl
    ·exact⟨_,hz⟩
    ·exact⟨_,hTI⟩
    ·exact⟨_,hTO⟩
    ·obtain⟨o,e,_⟩:=g1.there;exact⟨o,e⟩
    ·obtain⟨o,e,_⟩:=g2.there;exact⟨o,e⟩
   obtain⟨o,e⟩:=this
   exact Heap.lt_size e
  have fr: ∀b∈[z,TI,TO,i1,i2],upd H s.heap.objs.size (.tup [x,y]) b=none:=fun b hb=>by rw [zP (Nat.ne_of_lt (lt b hb))];exact(hf b hb).1
  have zne:s.heap.objs.size≠z:=Nat.ne_of_gt (lt z (by simp))
  have mv: ∀b o,b∉[z,TI,TO,i1,i2]→(s.heap.push {cls:=.type "tuple",data:=.seq #[u,v]}).get? b=some o→h2.get? b=some o:=fun b o hb e=>by
   simp only [List.mem_cons,List.not_mem_nil,or_false,not_or]at hb
   refine sb2.extBut _ _ hb.1 ?_
   by_cases hbs:b=s.heap.objs.size
   ·subst hbs
    rw [Heap.get?_push_size _ rfl]at e
    cases e
    exact a5
   ·rw [Heap.get?_push_ne _ _ _ hbs]at e
    exact a6 b o hb.1 hb.2.2.1 hb.2.2.2.1 hb.2.2.2.2 e
  have I2:=I0.turnedL (h':=h2) (t':=s.toks) mv fun b hb=>let ⟨_,c2,c3,c4,c5,c6⟩:=hf b hb;⟨fr b hb,c2,c3,c4,c5,c6⟩
  refine⟨.ref s.heap.objs.size,_,I2,rfl,⟨s.heap.objs.size,x,y,hpn,rfl,rfl,fun zs hz=>?_,fun zs hz=>?_⟩,⟨z2,?_,⟨u,v,?_⟩,?_,?_⟩,fr⟩
  ·rw [I.seqK_inj hz q1];exact hx
  ·rw [I.seqK_inj hz q2];exact hy
  ·exact sb2.extBut _ _ D.TIz (a6 TI _ D.TIz D.TITO D.TIi1 D.TIi2 st.ti)
  ·exact sb2.extBut _ _ D.TOz a2
  ·exact a3.move fun o e=>sb2.extBut _ _ D.i1z e
  ·exact a4.move fun o e=>sb2.extBut _ _ D.i2z e
 done:=by
  intro X hP hw hK hc i pins s σ H E I hf st hg
  subst hP hw hK
  obtain⟨xs,ys,q1,q2,hx⟩:=hg
  obtain⟨its,r1,p1,_⟩:=I.seqK q1
  obtain⟨its2,r2,p2,_⟩:=I.seqK q2
  have off: ∀{k:Bool}{l:Addr}{xs:List V},SqK k X.K H l xs→Off l z TO i1 i2:=fun q=>⟨zAQ I q (hf z (by simp)),zAQ I q (hf TO (by simp)),zAQ I q (hf i1 (by simp)),zAQ I q (hf i2 (by simp))⟩
  have hT:s.TypeIs (.ref z) "zip":=⟨_,st.z,rfl⟩
  have e1:=r1.length
  have e2:=r2.length
  unfold pyNext
  refine wpAny_bind (wpAny_attempt (wpAny_callSpecial?_slot (name:=Str.ofString "__next__") hT F.slot_zip_next (wpAny_call_entry F.slot_zip_next hT F.entry_zip_next
   (yII (I.ok.hd hc) D (off q1) (off q2) st p1 p2 (by rcases hx with h | h;(exact .inl (by simp;omega));exact .inr (by simp;omega)) fun h' e hk he=>?_) (F.args_zip_next_1 _))))
  obtain⟨o,ho,hcl⟩:=he
  refine wpAny_bind (wpAny_isInstance (T:="StopIteration") (b:=true) ⟨o,ho,hcl⟩ isSubtype_stop (wpAny_pure ⟨rfl,?_⟩))
  refine I.turnedL (h':=h') (t':=s.toks) (fun b o hb e=>?_) hf
  simp only [List.mem_cons,List.not_mem_nil,or_false,not_or]at hb
  exact hk b o hb.1 hb.2.2.1 hb.2.2.2.1 hb.2.2.2.2 e
 self:=fun _ _ _ _ _ st h=>wpAny_pyIter_zip st.z h
end M
end L2
namespace L2
namespace M
open PySem PySem.Spec PyProof.Rows
structure Sr where
 k:Bool
 ds:List MV
 gs:List (Nat×List MV)
def srcOf(S:Sto):Er→Option Sr
 | .val (.tup ds)=>some ⟨false,ds,[]⟩
 | .new ds=>some ⟨true,ds,[]⟩
 | .val (.scr ds)=>some ⟨true,ds,[]⟩
 | .val (.loc l)=>match S[l]? with
  | some (.lst ds)=>some ⟨true,ds,[(l,ds)]⟩
  | _=>none
 | _=>none
structure SrcD(X:Cx)(q:Sr)(l:Addr)(P:List Addr→Sto→Hp→Prop):Prop where
 get: ∀α S H,P α S H→ ∃vs,SqK q.k X.K H l vs∧DenL X.K α H q.ds vs
 stays: ∀α1 S1 H1 α2 S2 H2,P α1 S1 H1→Ext α1 H1 α2 H2→Wd X.g α2 S2 H2→stay q.gs S2→P α2 S2 H2
 st: ∀α S H,P α S H→stay q.gs S
theorem zXO{X:Cx}{α:List Addr}{S:Sto}{H:Hp}(wd:Wd X.g α S H){r:Er}{x:V}{q:Sr}(e:srcOf S r=some q)(d:DenX X.K α H r x): ∃l P,x=.ref l∧P α S H∧SrcD X q l P:=by
 unfold srcOf at e
 split at e
 ·rename_i ds
  cases e
  obtain⟨a,vs,rfl,s,l⟩:=cL d
  exact⟨a,fun α S H=> ∃vs,SqT X.K H a vs∧DenL X.K α H ds vs,rfl,⟨vs,s,l⟩,fun α S H h=>h,fun α1 S1 H1 α2 S2 H2 ⟨vs,h1,h2⟩ x w _=>⟨vs,x.sqT h1,h2.ext x⟩,fun _ _ _ _=>gJ⟩
 ·rename_i ds
  cases e
  obtain⟨b,vs,rfl,h,n,l⟩:=d
  exact⟨b,fun α S H=> ∃vs,H b=some (.lst vs)∧b∉α∧DenL X.K α H ds vs,rfl,⟨vs,h,n,l⟩,fun α S H ⟨vs,h1,_,h2⟩=>⟨vs,(SqL.of h1:SqL X.K H b vs),h2⟩,
   fun α1 S1 H1 α2 S2 H2 ⟨vs,h1,h2,h3⟩ x w _=>⟨vs,x.keep b _ h1 h2,x.out h1 h2,h3.ext x⟩,fun _ _ _ _=>gJ⟩
 ·rename_i ds
  cases e
  obtain⟨a,vs,rfl,s,l⟩:=zNP d
  exact⟨a,fun α S H=> ∃vs,SqF X.K H a vs∧DenL X.K α H ds vs,rfl,⟨vs,s,l⟩,fun α S H ⟨vs,h1,h2⟩=>⟨vs,h1.l,h2⟩,fun α1 S1 H1 α2 S2 H2 ⟨vs,h1,h2⟩ x w _=>⟨vs,x.sqF h1,h2.ext x⟩,fun _ _ _ _=>gJ⟩
 ·rename_i n
  split at e
  ·rename_i ds hS
   cases e
   obtain⟨a,rfl,h⟩:=zAW d
   obtain⟨vs,h1,h2⟩:=wd.obj n a _ h hS
   refine⟨a,fun α S H=> ∃vs,H a=some (.lst vs)∧DenL X.K α H ds vs∧α[n]? =some a∧S[n]? =some (.lst ds),rfl,⟨vs,h1,h2,h,hS⟩,fun α S H ⟨vs,h1,h2,_⟩=>⟨vs,(SqL.of h1:SqL X.K H a vs),h2⟩,?_,?_⟩
   ·intro α1 S1 H1 α2 S2 H2 ⟨vs,a1,a2,a3,a4⟩ x w hs
    have hs':=hs (n,ds) (by simp)
    obtain⟨us,b1,b2⟩:=w.obj n a _ (x.at a3) hs'
    exact⟨us,b1,b2,x.at a3,hs'⟩
   ·intro α S H ⟨vs,_,_,_,a4⟩ p hp
    have:p=(n,ds):=by simpa using hp
    subst this
    exact a4
  ·cases e
 ·cases e
def iZip(K:PySem.W.Frag)(ta:TA):TI:=fun σ H R=>ta σ H fun vs H1=> ∃k1 k2 l1 l2,vs=[.ref l1,.ref l2]∧(∃xs,SqK k1 K H1 l1 xs)∧(∃ys,SqK k2 K H1 l2 ys)∧R (Itz K k1 k2 l1 l2) H1
section
variable{X:Cx}{W:XW}{a b:Expr}{elts:List Expr}{kt:Nat}{pt p pos:Pos}{ta:TA}{af:Rho→Sto→R (List Er)}
theorem yMJ:bootBuiltins "zip"=some (.type "zip"):=by decide+kernel
theorem yIJ:bootBuiltins "enumerate"=some (.type "enumerate"):=by decide+kernel
theorem yMK(hg:Gl X "zip")(hm:X.mg "zip"=none)(ha:PA X [a,b] ta)(hs:starEach [a,b] X.env=[(false,eval a X.env),(false,eval b X.env)]:=by rfl)(hs2:starEach [b] X.env=[(false,eval b X.env)]:=by rfl):
  PI X (.Tuple elts kt pt) (.Call (.Name "zip" p) [a,b] [] pos) (iZip X.K ta):=by
 intro pins s σ H R I h
 refine Call_ (zJW I hg hm yMJ (PyProof.Rows.callWith_type1 (thn (ha pos pins s σ H _ I h) fun us s1 ⟨vs,H1,I1,r1,q1⟩=>?_) (by rw [hs,hs2]) (by rw [hs2];rfl)))
 obtain⟨k1,k2,l1,l2,rfl,⟨xs,c1⟩,⟨ys,c2⟩,q⟩:=q1
 cases r1 with
 | cons r rr=>
  cases rr with
  | cons r' rr=>
   cases rr
   cases r
   cases r'
   obtain⟨its,v1,p1,_⟩:=I1.seqK c1
   obtain⟨its2,v2,p2,_⟩:=I1.seqK c2
   refine yER p1 p2 fun h' st hk=>wpAny_pyIter_zip st.z ?_
   have I2:Inv X pins σ H1 {s1 with heap:=h'}:=I1.kept (t':=s1.toks) hk
   refine⟨_,_,_,_,H1,rfl,I2,yES (apart_new _),st,fun b hb=>?_,q⟩
   have hle:s1.heap.objs.size≤b:=by
    have hb':b=s1.heap.objs.size+4∨b=s1.heap.objs.size+2∨b=s1.heap.objs.size+3∨b=s1.heap.objs.size∨b=s1.heap.objs.size+1:=by simpa using hb
    rcases hb' with h | h | h | h | h<;>rw [h]<;>(first | exact Nat.le_refl _ | exact Nat.le_add_right _ _)
   exact I1.fpOk hle (I1.hok.fresh hle)
def pairs(xs ys:List MV):List MV:=List.zipWith (fun x y=>.tup [x,y]) xs ys
def itZ(rs:List Er)(S:Sto):R Wk:=match rs with
 | [p,q]=>match srcOf S p with
  | some a=>match srcOf S q with
   | some b=>.ok ⟨pairs a.ds b.ds,a.gs++b.gs⟩ S
   | none=>.no
  | none=>.no
 | _=>.no
theorem yML(hg:Gl X "zip")(hm:X.mg "zip"=none)(ha:PAm X W [a,b] af)(hs:starEach [a,b] X.env=[(false,eval a X.env),(false,eval b X.env)]:=by rfl)(hs2:starEach [b] X.env=[(false,eval b X.env)]:=by rfl):
  PIm X W (.Tuple elts kt pt) (.Call (.Name "zip" p) [a,b] [] pos) (fun ρ S=>(af ρ S).bind itZ):=by
 obtain⟨t,ha,k⟩:=ha
 refine⟨_,yMK hg hm ha hs hs2,fun α ρ S σ H Rc wd sl q=>k α ρ S σ H _ wd sl (q.bind fun vs rs S1 α1 H1 e x1 w1 d1 q1=>?_)⟩
 replace q1:=q1.shift x1
 unfold itZ at q1
 split at q1
 ·rename_i r1 r2
  split at q1
  ·rename_i s1 e1
   split at q1
   ·rename_i s2 e2
    obtain⟨u,v,rfl,du,dv⟩:=args2 d1
    obtain⟨l1,P1,rfl,p1,D1⟩:=zXO w1 e1 du
    obtain⟨l2,P2,rfl,p2,D2⟩:=zXO w1 e2 dv
    have g1:=D1.get _ _ _ p1
    have g2:=D2.get _ _ _ p2
    refine⟨s1.k,s2.k,l1,l2,rfl,⟨_,g1.choose_spec.1⟩,⟨_,g2.choose_spec.1⟩,q1.here (u:=Itz X.K s1.k s2.k l1 l2) w1 ⟨fun α S H=>P1 α S H∧P2 α S H,?_,⟨p1,p2⟩,?_,?_⟩⟩
    ·intro i α2 S2 H2 ⟨b1,b2⟩ w2
     obtain⟨us,c1,c2⟩:=D1.get _ _ _ b1
     obtain⟨ws,c3,c4⟩:=D2.get _ _ _ b2
     have hl:(pairs s1.ds s2.ds).length=min us.length ws.length:=by unfold pairs;rw [List.length_zipWith,c2.length,c4.length]
     refine⟨fun hi=>?_,fun hi=>?_⟩
     ·have hi:i<(pairs s1.ds s2.ds).length:=hi
      have h1:i<us.length:=by omega
      have h2:i<ws.length:=by omega
      refine⟨⟨us,ws,us[i],ws[i],c1,c3,List.getElem?_eq_getElem h1,List.getElem?_eq_getElem h2⟩,?_⟩
      rintro x H' ⟨pp,xx,yy,hp,rfl,rfl,hx,hy⟩
      obtain⟨d,hd,dd⟩:=c2.get (hx us c1)
      obtain⟨f,hf,df⟩:=c4.get (hy ws c3)
      have xn:=w2.newx (o:=.tup [xx,yy]) hp
      have wn:=w2.new (o:=.tup [xx,yy]) hp
      refine⟨xn,wn,⟨D1.stays _ _ _ _ _ _ b1 xn wn (D1.st _ _ _ b1),D2.stays _ _ _ _ _ _ b2 xn wn (D2.st _ _ _ b2)⟩,.tup [d,f],?_,?_⟩
      ·unfold pairs;rw [List.getElem?_zipWith,hd,hf]
      ·exact cT (.of zZ) (yY (dd.ext xn) (yY (df.ext xn) xW))
     ·have hi:(pairs s1.ds s2.ds).length≤i:=hi
      refine⟨us,ws,c1,c3,?_⟩
      by_cases h1:us.length≤i
      ·exact .inl h1
      ·exact .inr (by omega)
    ·intro α1 S1 H1 α2 S2 H2 ⟨b1,b2⟩ x w hs
     exact⟨D1.stays _ _ _ _ _ _ b1 x w fun p hp=>hs p (List.mem_append_left _ hp),D2.stays _ _ _ _ _ _ b2 x w fun p hp=>hs p (List.mem_append_right _ hp)⟩
    ·intro p hp
     rcases List.mem_append.mp hp with h | h
     ·exact D1.st _ _ _ p1 p h
     ·exact D2.st _ _ _ p2 p h
   ·exact q1.elim
  ·exact q1.elim
 ·exact q1.elim
end
structure EnSt(k:Bool)(e it l:Addr)(i:Nat)(h:Heap):Prop where
 e: ∃old,IsEnum h e it i old
 s:IsSub k h it l i
section
variable{prog:Program}{w:World}{A:Around}{E:Value→Shared→Prop}{s:Shared}{k:Bool}{e it l:Addr}{i:Nat}{its:Array Value}
theorem yIK{x old:Value}{Q:Value→Shared→Prop}(he:IsEnum s.heap e it i old)(hit:IsSub k s.heap it l i)(hl:IsSeq k s.heap l its)(hx:its[i]? =some x)(hne:e≠it)
  (hQ: ∀h',IsEnumOut h' e it ((i:Int)+1) x s.heap.objs.size→IsSub k h' it l (i+1)→h'.get? s.heap.objs.size=some {cls:=.type "tuple",data:=.seq #[.int i s.toks,x]}→
   (∀b o,b≠e→b≠it→s.heap.get? b=some o→h'.get? b=some o)→Q (.ref s.heap.objs.size) {s with heap:=h',toks:=s.toks+1}):
  wpAny (model prog w) A (Builtin.«enumerate.__next__» ⟨[.ref e],[]⟩) (fun fin s'=> ∃v,fin=.done (.ret v)∧Q v s') E s:=by
 obtain⟨hp,g,d,tk,os⟩:=s
 show wpAny _ _ (field (.ref e) 2 >>= _) _ _ _
 refine wpAny_bind (wpAny_field he rfl (x:=.ref it) rfl (wpAny_bind (zIP hit hl hx fun ha ita hsa=>?_)))
 replace hsa:Heap.SameBut it hp ha:=hsa
 have ea:IsEnum ha e it i old:=(hsa.2 e hne).trans he
 show wpAny _ _ (field (.ref e) 3 >>= _) _ _ ⟨ha,g,d,tk,os⟩
 refine wpAny_bind (wpAny_field ea rfl (x:=rawInt i) rfl ?_)
 show wpAny _ _ (field (.ref e) 4 >>= _) _ _ ⟨ha,g,d,tk,os⟩
 refine wpAny_bind (wpAny_field ea rfl (x:=.none) rfl ?_)
 show wpAny _ _ (mkInt i >>= _) _ _ ⟨ha,g,d,tk,os⟩
 refine wpAny_bind (wpAny_mkInt ?_)
 show wpAny _ _ (setField (.ref e) 3 (rawInt ((i:Int)+1)) >>= _) _ _ ⟨ha,g,d,tk+1,os⟩
 refine wpAny_bind (wpAny_setField_rec ea (by simp) fun hb eb hsb=>?_)
 replace hsb:Heap.SameBut e ha hb:=hsb
 replace eb:IsEnum hb e it ((i:Int)+1) old:=eb
 show wpAny _ _ (setField (.ref e) 4 .none >>= _) _ _ ⟨hb,g,d,tk+1,os⟩
 refine wpAny_bind (wpAny_setField_rec eb (by simp) fun hc ec hsc=>?_)
 replace hsc:Heap.SameBut e hb hc:=hsc
 replace ec:IsEnum hc e it ((i:Int)+1) old:=ec
 show wpAny _ _ (newTuple [.int i tk,x] >>= _) _ _ ⟨hc,g,d,tk+1,os⟩
 refine wpAny_bind (wpAny_newTuple ?_)
 have hsz:hc.objs.size=hp.objs.size:=by rw [hsc.1,hsb.1,hsa.1]
 have hel:e<hp.objs.size:=Heap.lt_size he
 have ed:IsEnum (hc.push {cls:=.type "tuple",data:=.seq #[.int i tk,x]}) e it ((i:Int)+1) old:=Heap.get?_push_of_some _ ec
 have td:(hc.push {cls:=.type "tuple",data:=.seq #[.int i tk,x]}).get? hp.objs.size=some {cls:=.type "tuple",data:=.seq #[.int i tk,x]}:=by rw [←hsz];exact Heap.get?_push_size _ rfl
 have kd: ∀b o,b≠e→b≠it→hp.get? b=some o→(hc.push {cls:=.type "tuple",data:=.seq #[.int i tk,x]}).get? b=some o:=fun b o n1 n2 q=>
  Heap.get?_push_of_some _ (hsc.extBut b o n1 (hsb.extBut b o n1 (hsa.extBut b o n2 q)))
 have sd:IsSub k (hc.push {cls:=.type "tuple",data:=.seq #[.int i tk,x]}) it l (i+1):=ita.move fun o q=>Heap.get?_push_of_some _ (hsc.extBut _ o (Ne.symm hne) (hsb.extBut _ o (Ne.symm hne) q))
 generalize hc.push {cls:=.type "tuple",data:=.seq #[.int i tk,x]}=hd at ed td kd sd ⊢
 show wpAny _ _ (Builtin.SmallTypes.ownedTupleIsFree (.ref e) >>= _) _ _ ⟨hd,g,d,tk+1,os⟩
 rw [hsz]
 refine wpAny_bind ?_
 unfold Builtin.SmallTypes.ownedTupleIsFree
 refine wpAny_bind (wpAny_field ed rfl (x:=.none) rfl (wpAny_pure ?_))
 simp only [if_true]
 refine wpAny_bind (wpAny_rule (wpAny_bind (wpAny_field ed rfl (x:=old) rfl (wpAny_bind (wpAny_setField_rec ed (by simp) fun hf ef hsf=>?_)))))
 replace hsf:Heap.SameBut e hd hf:=hsf
 replace ef:IsEnum hf e it ((i:Int)+1) x:=ef
 show wpAny _ _ (Builtin.SmallTypes.ownedTupleHandOut (.ref e) (.ref hp.objs.size) >>= _) _ _ ⟨hf,g,d,tk+1,os⟩
 refine wpAny_bind ?_
 unfold Builtin.SmallTypes.ownedTupleHandOut
 refine wpAny_bind (wpAny_setField_rec ef (by simp) fun hg' eg hsg=>?_)
 replace hsg:Heap.SameBut e hf hg':=hsg
 replace eg:IsEnumOut hg' e it ((i:Int)+1) x hp.objs.size:=eg
 refine wpAny_setField_rec eg (by simp) fun hh' eh hsh=>?_
 replace hsh:Heap.SameBut e hg' hh':=hsh
 replace eh:IsEnumOut hh' e it ((i:Int)+1) x hp.objs.size:=eh
 have up: ∀b o,b≠e→hd.get? b=some o→hh'.get? b=some o:=fun b o n q=>hsh.extBut b o n (hsg.extBut b o n (hsf.extBut b o n q))
 exact wpAny_bind (wpAny_letGo (wpAny_pure ⟨_,rfl,hQ hh' eh (sd.move fun o q=>up _ o (Ne.symm hne) q) (up _ _ (Nat.ne_of_gt hel) td) fun b o n1 n2 q=>up b o n1 (kd b o n1 n2 q)⟩))
theorem zXP(k:Bool)(l:Addr)(its:Array Value):
  Meets (Builtin.«enumerate.__new__» ⟨[.type "enumerate",.ref l],[]⟩) (fun _ R s=>IsSeq k s.heap l its∧
   R (.ok (.ret (.ref (s.heap.objs.size+1)))) {s with heap:=(s.heap.push (zCM k l)).push {cls:=.type "enumerate",data:=.fields #[.none,.bool false,.ref s.heap.objs.size,rawInt 0,.none,.none]}}):=
 .of_wp fun prog w A R s h=>by
  obtain⟨hp,g,d,tk,os⟩:=s;obtain⟨hl,h⟩:=h
  have hsub:=sub_enumerate
  have hL:IsSeq k (Shared.heap ⟨hp,g,d,tk,os⟩) l its:=hl
  have z1: ∀(h:Heap)(o:Obj),(h.push o).objs.size=h.objs.size+1:=fun h o=>Heap.size_push ..
  wp_walk
  refine wpAny_stack_any fun st=>wpAny_pure ?_
  split
  ·rename_i c _ _ _ _ _
   cases (c==Value.type "enumerate")
   ·wp_walk using zEP hL
    exact⟨_,rfl,by simp only [z1];exact h⟩
   ·wp_walk using zEP hL
    exact⟨_,rfl,by simp only [z1];exact h⟩
  ·wp_walk using zEP hL
   exact⟨_,rfl,by simp only [z1];exact h⟩
end
end M
end L2
namespace L2
namespace M
open PySem PySem.Spec PyProof.Rows
def zQX(K:PySem.W.Frag)(F:List MV→Sto→R Er):Sp:=fun vs H Q _=> ∃ds,DenL K [] H ds vs∧ds.length=1∧ ∀g:Gm,g.K=K→Post g W0 [] H (F ds []) Q
theorem yET{g:Gm}{F:List MV→Sto→R Er}: ∀vs H Q E,zQX g.K F vs H Q E→spM g 1 F vs H Q E:=fun vs H Q E ⟨ds,l,hl,q⟩=>⟨[],[],ds,⟨rfl,by simp,fun l a o h=>by simp at h⟩,l,hl,q g rfl⟩
theorem yMM{K:PySem.W.Frag}{H:Hp}{a:Addr}{xs:List V}(hO:yDM H)(h:SqL K H a xs):SqF K H a xs:=by
 rcases h with(h | ⟨o,h⟩) | h
 ·rcases hO a with z | ⟨o,ys,z⟩
  ·rw [z]at h;cases h
  ·rw [z]at h;cases h
 ·exact .inl ⟨o,h⟩
 ·exact .inr h
theorem yEU{K:PySem.W.Frag}{F:List MV→Sto→R Er}{H:Hp}{a:Addr}{ns:List Int}(hO:yDM H)(hS:SqL K H a (ns.map V.int))(h: ∃S,F [.scr (ns.map MV.int)] []=.ok (.val (.bl true)) S):zQX K F [.ref a] H (fun v _=>v=.bl true) fun _ _ _=>False:=by
 obtain⟨S,h⟩:=h
 refine⟨_,yY (zZL (yMM hO hS) (zQR ns)) xW,rfl,fun g _=>?_⟩
 rw [h]
 exact fun v α' H' x w d=>zEM d.1
theorem bok{β γ:Type}(b:β)(S:Sto)(k:β→Sto→R γ):(R.ok b S).bind k=k b S:=by
 have h:=R.bind_ok b S k
 exact Eq.trans h rfl
theorem rd_some(d:MV)(S:Sto):zE (some (some d)) S=.ok (.val d) S:=rfl
theorem zUX{S T:Sto}:yEB S (S++T):=⟨by rw [List.length_append];omega,fun l hl=>.inl (List.getElem?_append_left hl)⟩
theorem zSM(n:Nat)(i:Int):lo n (.int i):=by unfold lo;trivial
theorem yEV(n:Nat)(i:List Nat):lo n (.str i):=by unfold lo;trivial
theorem zZU(n:Nat)(i:Bool):lo n (.bl i):=by unfold lo;trivial
theorem zSN(n:Nat):lo n .non:=by unfold lo;trivial
theorem yEW{n:Nat}{ds:List MV}(h:loL n ds):lo n (.tup ds):=by unfold lo;exact h
theorem zSO{n:Nat}: ∀{ds:List MV},(∀d∈ds,lo n d)→loL n ds
 | [],_=>by unfold loL;trivial
 | d::ds,h=>by unfold loL;exact⟨h d List.mem_cons_self,zSO fun e he=>h e (List.mem_cons_of_mem _ he)⟩
theorem zNX{S T:Sto}{d:MV}(h:lo S.length d)(hn: ∀l,d≠.loc l):zDX S (.val d) (S++T)=.ok (.val d) S:=by
 unfold zDX
 rw [if_pos zUX]
 have e:(S++T).take S.length=S:=by simp
 cases d with
 | loc l=>exact absurd rfl (hn l)
 | _=>dsimp only;rw [if_pos h,e]
theorem yEX{S T:Sto}{l:Nat}{ds:List MV}(hl:S.length≤l)(hS:(S++T)[l]? =some (.lst ds))(h:loL S.length ds):zDX S (.val (.loc l)) (S++T)=.ok (.new ds) S:=by
 unfold zDX
 rw [if_pos zUX]
 have e:(S++T).take S.length=S:=by simp
 dsimp only
 rw [if_neg (by omega),hS]
 dsimp only
 rw [if_pos h,e]
theorem zIQ{n:Nat}{F:List MV→Sto→R Er}{rs:List Er}{S T:Sto}{d:MV}(hn:rs.length=n)(hF:F (zY rs S).1 (zY rs S).2=.ok (.val d) (S++T))(h:lo S.length d)(hd: ∀l,d≠.loc l):zM n F rs S=.ok (.val d) S:=by
 unfold zM
 rw [if_pos hn,hF]
 exact zNX h hd
theorem yEY{n:Nat}{F:List MV→Sto→R Er}{rs:List Er}{S T:Sto}{l:Nat}{ds:List MV}(hn:rs.length=n)(hF:F (zY rs S).1 (zY rs S).2=.ok (.val (.loc l)) (S++T))(hl:S.length≤l)(hS:(S++T)[l]? =some (.lst ds))(h:loL S.length ds):zM n F rs S=.ok (.new ds) S:=by
 unfold zM
 rw [if_pos hn,hF]
 exact yEX hl hS h
theorem kP{n:Nat}{F:List MV→Sto→R Er}{rs:List Er}{S:Sto}{d:MV}(hn:rs.length=n)(hF:F (zY rs S).1 (zY rs S).2=.ok (.val d) S)(h:lo S.length d)(hd: ∀l,d≠.loc l):zM n F rs S=.ok (.val d) S:=zIQ (T:=[]) hn (by rw [List.append_nil];exact hF) h hd
theorem zUY{gf:MV→Rho→Sto→R Rho}{body:Rho→Sto→R Fl}{gs:List (Nat×List MV)}{L:List MV}(I:Nat→Rho→Sto→Prop)
  (st: ∀i d,L[i]? =some d→ ∀ρ S,I i ρ S→ ∃ρ' S',((gf d ρ S).bind fun ρ0 S0=>body ρ0 S0)=.ok (.next ρ') S'∧stay gs S'∧I (i+1) ρ' S'):
  ∀(n i:Nat){ρ:Rho}{S:Sto},n+i=L.length→I i ρ S→ ∃ρ' S',wK gf body gs (L.drop i) ρ S=.ok (.next ρ') S'∧I L.length ρ' S'
 | 0,i,ρ,S,hn,h=>by
  have e:i=L.length:=by omega
  subst e
  rw [List.drop_length]
  exact⟨ρ,S,rfl,h⟩
 | n+1,i,ρ,S,hn,h=>by
  have hi:i<L.length:=by omega
  obtain⟨ρ1,S1,e,hs,h1⟩:=st i L[i] (List.getElem?_eq_getElem hi) ρ S h
  obtain⟨ρ2,S2,e2,h2⟩:=zUY I st n (i+1) (by omega) h1
  refine⟨ρ2,S2,?_,h2⟩
  rw [List.drop_eq_getElem_cons hi]
  unfold wK
  cases z:gf L[i] ρ S with
  | ok ρ0 S0=>
   rw [z]at e
   have e:body ρ0 S0=.ok (.next ρ1) S1:=e
   rw [bok]
   show(body ρ0 S0).bind _=_
   rw [e,bok]
   dsimp only
   rw [if_pos hs]
   exact e2
  | exc c fs S0=>rw [z]at e;cases e
  | no=>rw [z]at e;cases e
theorem yMN{gf:MV→Rho→Sto→R Rho}{body:Rho→Sto→R Fl}{gs:List (Nat×List MV)}{L:List MV}(I:Nat→Rho→Sto→Prop)
  (st: ∀i d,L[i]? =some d→ ∀ρ S,I i ρ S→ ∃ρ' S',((gf d ρ S).bind fun ρ0 S0=>body ρ0 S0)=.ok (.next ρ') S'∧stay gs S'∧I (i+1) ρ' S') {ρ:Rho} {S:Sto} (h:I 0 ρ S):
  ∃ρ' S',wK gf body gs L ρ S=.ok (.next ρ') S'∧I L.length ρ' S':=zUY I st L.length 0 (by omega) h
end M
end L2
namespace L2
namespace M
open PySem PySem.Spec PyProof.Rows
section
variable{S:Sto}
theorem as_bl(b:Bool)(S:Sto):asB (.val (.bl b)) S=.ok b S:=rfl
theorem as_int(i:Int)(S:Sto):asI (.val (.int i)) S=.ok (some i) S:=rfl
theorem tru_bl(b:Bool)(S:Sto):kL (.val (.bl b)) S=.ok b S:=rfl
theorem add_int(i j:Int)(S:Sto):jH (.val (.int i)) (.val (.int j)) S=.ok (.val (.int (i+j))) S:=rfl
theorem sub_int(i j:Int)(S:Sto):zNU (.val (.int i)) (.val (.int j)) S=.ok (.val (.int (i - j))) S:=rfl
theorem add_str{x y:List Nat}(h:x.length+y.length≤sizeLine):jH (.val (.str x)) (.val (.str y)) S=.ok (.val (.str (x++y))) S:=if_pos h
theorem zKE{p q:Er}{x y:List MV}(h1:lsW S p=some x)(h2:lsW S q=some y)(h:x.length+y.length≤sizeLine):jH p q S=.ok (.new (x++y)) S:=by
 have e:zZP p q S=.ok (.new (x++y)) S:=by
  unfold zZP
  rw [h1,h2]
  exact if_pos h
 unfold jH
 split
 ·cases h1
 ·cases h1
 ·cases h1
 ·exact e
theorem ib_int{g:Int→Int→Bool}(i j:Int)(S:Sto):ibF g (.val (.int i)) (.val (.int j)) S=.ok (.val (.bl (g i j))) S:=rfl
theorem yIL(i j:Int):eqV (.int i) (.int j)=decide (i=j):=by
 show(i==j)=_
 by_cases h:i=j
 ·subst h;simp
 ·rw [decide_eq_false h];simpa using h
theorem yIM(x y:List Nat):eqV (.str (mkS x)) (.str (mkS y))=decide (x=y):=by
 show(mkS x==mkS y)=_
 by_cases h:x=y
 ·subst h;simp
 ·rw [decide_eq_false h]
  have:mkS x≠mkS y:=fun z=>h (zRU z)
  simpa using this
theorem zMC(n:Nat)(i j:Int):eqv S (n+1) (.int i) (.int j)=some (decide (i=j)):=by rw [←yIL];rfl
theorem zSP(n:Nat)(x y:List Nat):eqv S (n+1) (.str x) (.str y)=some (decide (x=y)):=by rw [←yIM];rfl
theorem yMO(n:Nat)(x:Int)(y:List Nat):eqv S (n+1) (.int x) (.str y)=some false:=rfl
theorem yMP(n:Nat)(x:List Nat)(y:Int):eqv S (n+1) (.str x) (.int y)=some false:=rfl
theorem yMQ(n:Nat)(x y:Bool):eqv S (n+1) (.bl x) (.bl y)=some (x==y):=rfl
theorem yIN(d f:MV):eqF (.val d) (.val f) S=match eqv S (yD+1) d f with | some k=>.ok (.val (.bl k)) S | none=>.no:=rfl
theorem yIO(d f:MV):neF (.val d) (.val f) S=match eqv S (yD+1) d f with | some k=>.ok (.val (.bl !k)) S | none=>.no:=rfl
theorem yEZ{d f:MV}{k:Bool}(h:eqv S (yD+1) d f=some k):eqF (.val d) (.val f) S=.ok (.val (.bl k)) S:=by rw [yIN,h]
theorem yMR{d f:MV}{k:Bool}(h:eqv S (yD+1) d f=some k):neF (.val d) (.val f) S=.ok (.val (.bl !k)) S:=by rw [yIO,h]
theorem eq_int(i j:Int)(S:Sto):eqF (.val (.int i)) (.val (.int j)) S=.ok (.val (.bl (decide (i=j)))) S:=yEZ (zMC _ i j)
theorem eq_str(x y:List Nat)(S:Sto):eqF (.val (.str x)) (.val (.str y)) S=.ok (.val (.bl (decide (x=y)))) S:=yEZ (zSP _ x y)
theorem ne_int(i j:Int)(S:Sto):neF (.val (.int i)) (.val (.int j)) S=.ok (.val (.bl (!decide (i=j)))) S:=yMR (zMC _ i j)
theorem lt_int(i j:Int)(S:Sto):ltF (.val (.int i)) (.val (.int j)) S=.ok (.val (.bl (decide (i<j)))) S:=rfl
theorem lt_str(i j:List Nat)(S:Sto):ltF (.val (.str i)) (.val (.str j)) S=.ok (.val (.bl (decide (i<j)))) S:=rfl
theorem xL{b:Int}(h:0<b)(h2:b<1073741824)(a:Int)(S:Sto):zBQ (.val (.int a)) (.val (.int b)) S=.ok (.val (.int (a / b))) S:=by
 refine if_pos ⟨h,?_⟩
 have h3:b.natAbs<2 ^ 30:=by omega
 have:=(Nat.log2_lt (by omega:b.natAbs≠0)).mpr h3
 omega
theorem mod_lit{b:Int}(h:0<b)(a:Int)(S:Sto):kT (.val (.int a)) (.val (.int b)) S=.ok (.val (.int (a % b))) S:=if_pos h
theorem zIR{b:Int}(h: -(2 ^ 64)<b∧b<2 ^ 64)(a:Int)(S:Sto):zIL (.val (.int a)) (.val (.int b)) S=.ok (.val (.int (a * b))) S:=if_pos (Or.inr (Or.inl h))
theorem zIS{a:Int}(h: -(2 ^ 64)<a∧a<2 ^ 64)(b:Int)(S:Sto):zIL (.val (.int a)) (.val (.int b)) S=.ok (.val (.int (a * b))) S:=if_pos (Or.inl h)
theorem yIP{a b:Int}(h:yBT a b)(S:Sto):bV (.val (.int a)) (.val (.int b)) S=.ok (.val (.int (a ^ b.toNat))) S:=if_pos h
theorem set_val(ρ:Rho)(i:Nat)(d:MV)(S:Sto):kM ρ i (.val d) S=.ok (.next (ρ.set i (some d))) S:=rfl
theorem set_new(ρ:Rho)(i:Nat)(ds:List MV)(S:Sto):kM ρ i (.new ds) S=.ok (.next (ρ.set i (some (.loc S.length)))) (S++[.lst ds]):=rfl
theorem ent_nil(S:Sto):zY [] S=([],S):=rfl
theorem ent_val(d:MV)(rs:List Er)(S:Sto):zY (.val d::rs) S=(d::(zY rs S).1,(zY rs S).2):=rfl
theorem zH{F G:Rho→Sto→R Fl}{ρ ρ':Rho}{S S':Sto}(h:F ρ S=.ok (.next ρ') S'):yA F G ρ S=G ρ' S':=by unfold yA;rw [h];rfl
theorem yI{F G:Rho→Sto→R Fl}{ρ:Rho}{S S':Sto}{r:Er}(h:F ρ S=.ok (.ret r) S'):yA F G ρ S=.ok (.ret r) S':=by unfold yA;rw [h];rfl
theorem dM(S:Sto):stay [] S:=gJ
theorem zEQ{gf:MV→Rho→Sto→R Rho}{b:Rho→Sto→R Fl}{gs:List (Nat×List MV)}{d:MV}{ds:List MV}{ρ ρ0 ρ':Rho}{S0 S':Sto}(hg:gf d ρ S=.ok ρ0 S0)(h:b ρ0 S0=.ok (.next ρ') S')(hs:stay gs S'):wK gf b gs (d::ds) ρ S=wK gf b gs ds ρ' S':=by
 conv=>lhs;unfold wK
 rw [hg,bok,h,bok]
 dsimp only
 rw [if_pos hs]
theorem zZV{gf:MV→Rho→Sto→R Rho}{b:Rho→Sto→R Fl}{gs:List (Nat×List MV)}{d:MV}{ds:List MV}{ρ ρ0:Rho}{S0 S':Sto}{r:Er}(hg:gf d ρ S=.ok ρ0 S0)(h:b ρ0 S0=.ok (.ret r) S'):wK gf b gs (d::ds) ρ S=.ok (.ret r) S':=by
 conv=>lhs;unfold wK
 rw [hg,bok,h,bok]
theorem cV{α:Type}{xs:List α}{i:Int}(h0:0≤i)(h1:i<xs.length): ∃c,atI xs i=some c:=by
 refine⟨xs[i.toNat]'(by omega),?_⟩
 unfold atI ixN
 rw [if_pos h0,if_pos h1]
 exact List.getElem?_eq_getElem _
theorem cW{α:Type}{P:α→Prop}{xs:List α}{i:Int}{e:α}(h: ∀e∈xs,P e)(z:atI xs i=some e):P e:=by
 unfold atI at z
 cases q:ixN xs.length i with
 | none=>rw [q]at z;cases z
 | some j=>rw [q]at z;exact h e (List.mem_of_getElem? (show xs[j]? =some e from z))
theorem ix_str{x:List Nat}{i:Int}{c:Nat}(h:x.length≤sizeLine)(hk:atI x i=some c):ixF (.val (.str x)) (.val (.int i)) S=.ok (.val (.str [c])) S:=by
 show(if x.length≤sizeLine then match atI x i with | some c=>R.ok (Er.val (.str [c])) S | none=>.no else .no)=_
 rw [if_pos h,hk]
theorem ix_tup{ds:List MV}{i:Int}{d:MV}(hk:atI ds i=some d):ixF (.val (.tup ds)) (.val (.int i)) S=.ok (.val d) S:=by
 show(match atI ds i with | some d=>R.ok (Er.val d) S | none=>.no)=_
 rw [hk]
theorem zNY{ds:List MV}{i:Int}{d:MV}(hk:atI ds i=some d):ixF (.new ds) (.val (.int i)) S=.ok (.val d) S:=by
 show(match atI ds i with | some d=>R.ok (Er.val d) S | none=>.no)=_
 rw [hk]
theorem jY{l:Nat}{ds:List MV}{i:Int}{d:MV}(hS:S[l]? =some (.lst ds))(hk:atI ds i=some d):ixF (.val (.loc l)) (.val (.int i)) S=.ok (.val d) S:=by
 have e:gH S (.val (.loc l))=some ds:=by unfold gH;dsimp only;rw [hS]
 show(match gH S (.val (.loc l))with | some ds=>getL ds (.val (.int i)) S | none=>.no)=_
 rw [e]
 show(match atI ds i with | some d=>R.ok (Er.val d) S | none=>.no)=_
 rw [hk]
theorem yIQ{l:Nat}{ds:List MV}(hS:S[l]? =some (.lst ds)):xX [.val (.loc l)] S=.ok (.val (.int ds.length)) S:=by
 have e:gH S (.val (.loc l))=some ds:=by unfold gH;dsimp only;rw [hS]
 have e2:itemsOf S (.val (.loc l))=some ds:=by unfold itemsOf;exact e
 show(match itemsOf S (.val (.loc l))with | some ds=>R.ok (Er.val (.int ds.length)) S | none=>.no)=_
 rw [e2]
theorem bX{l:Nat}{ds:List MV}(hS:S[l]? =some (.lst ds)):gH S (.val (.loc l))=some ds:=by unfold gH;dsimp only;rw [hS]
theorem zMD{l:Nat}{ds:List MV}(hS:S[l]? =some (.lst ds)):lsW S (.val (.loc l))=some ds:=by unfold lsW;dsimp only;rw [hS]
theorem zZW{l:Nat}{ds:List MV}(hS:S[l]? =some (.lst ds)):itL (.val (.loc l)) S=.ok ⟨ds,[(l,ds)]⟩ S:=by unfold itL;dsimp only;rw [hS]
theorem zNZ{l:Nat}{ds:List MV}(hS:S[l]? =some (.lst ds)):stay [(l,ds)] S:=fun p hp=>by
 have:p=(l,ds):=by simpa using hp
 subst this;exact hS
theorem zCN{j:Int}(h: -(2 ^ 62)≤j∧j<2 ^ 62):zEN [.val (.int j)] S=.ok ⟨(List.range j.toNat).map fun k=>.int (k:Nat),[]⟩ S:=if_pos h
theorem fits{n:Nat}(h:n≤1000000):n≤sizeLine:=by rw [sizeLine_eq];exact Nat.le_trans h (by decide)
theorem dN{rs:List Er}(h:rs.length≤1000000):wZ rs S=.ok (.new (zY rs S).1) (zY rs S).2:=if_pos (fits h)
theorem zSQ{rs:List Er}(h:rs.length≤1000000):wP rs S=.ok (.val (.tup (zY rs S).1)) (zY rs S).2:=if_pos (fits h)
theorem lst0(S:Sto):wZ [] S=.ok (.new []) S:=dN (by simp)
theorem lst1(a:MV)(S:Sto):wZ [.val a] S=.ok (.new [a]) S:=dN (by simp)
theorem lst2(a b:MV)(S:Sto):wZ [.val a,.val b] S=.ok (.new [a,b]) S:=dN (by simp)
theorem lst3(a b c:MV)(S:Sto):wZ [.val a,.val b,.val c] S=.ok (.new [a,b,c]) S:=dN (by simp)
theorem lst6(a b c d e f:MV)(S:Sto):wZ [.val a,.val b,.val c,.val d,.val e,.val f] S=.ok (.new [a,b,c,d,e,f]) S:=dN (by simp)
theorem tup2(a b:MV)(S:Sto):wP [.val a,.val b] S=.ok (.val (.tup [a,b])) S:=zSQ (by simp)
theorem tup3(a b c:MV)(S:Sto):wP [.val a,.val b,.val c] S=.ok (.val (.tup [a,b,c])) S:=zSQ (by simp)
theorem isi_is(i:Int)(S:Sto):kC [.val (.int i),.val (.typ "str")] S=.ok (.val (.bl false)) S:=rfl
theorem isi_ss(i:List Nat)(S:Sto):kC [.val (.str i),.val (.typ "str")] S=.ok (.val (.bl true)) S:=rfl
theorem isi_it(i:Int)(S:Sto):kC [.val (.int i),.val (.typ "tuple")] S=.ok (.val (.bl false)) S:=rfl
theorem isi_st(i:List Nat)(S:Sto):kC [.val (.str i),.val (.typ "tuple")] S=.ok (.val (.bl false)) S:=rfl
theorem isi_tt(i:List MV)(S:Sto):kC [.val (.tup i),.val (.typ "tuple")] S=.ok (.val (.bl true)) S:=rfl
theorem isi_bb(i:Bool)(S:Sto):kC [.val (.bl i),.val (.typ "bool")] S=.ok (.val (.bl true)) S:=rfl
theorem zER{gf:MV→Rho→Sto→R Rho}{cf:Rho→Sto→R Bool}{ef:Rho→Sto→R Er}{ρb:Rho}{gs:List (Nat×List MV)}{F:MV→MV}(hs:stay gs S):
  ∀{ds:List MV},(∀d∈ds, ∃ρ1,gf d ρb S=.ok ρ1 S∧cf ρ1 S=.ok true S∧ef ρ1 S=.ok (.val (F d)) S)→yU gf cf ef ρb gs ds S=.ok (ds.map F) S
 | [],_=>rfl
 | d::ds,st=>by
  obtain⟨ρ1,h1,h2,h3⟩:=st d List.mem_cons_self
  have e:=zER hs (ds:=ds) fun d hd=>st d (List.mem_cons_of_mem _ hd)
  unfold yU
  rw [h1,kY,bok,h2,kY,bok,if_pos rfl,h3,kY,bok]
  unfold zAY
  rw [bok,if_pos hs,e]
  rfl
def Nm(x:List Nat):Prop:=1≤x.length∧x.length≤8∧ ∀c∈x,97≤c∧c≤122
def Vl:MV→Prop
 | .int i=> -(10 ^ 30)<i∧i<10 ^ 30
 | .str x=>Nm x
 | _=>False
theorem Vl.cases{d:MV}(h:Vl d):(∃i,d=.int i∧ -(10 ^ 30)<i∧i<10 ^ 30)∨ ∃x,d=.str x∧Nm x:=by
 cases d with
 | int i=>exact .inl ⟨i,rfl,h⟩
 | str x=>exact .inr ⟨x,rfl,h⟩
 | _=>exact h.elim
end
end M
end L2
namespace L2
namespace M
open PySem PySem.Spec PyProof.Rows
def Ite(K:PySem.W.Frag)(k:Bool)(l:Addr):It:=
 ⟨fun i H=> ∃xs x,SqK k K H l xs∧xs[i]? =some x,
   fun i H v H'=> ∃p x,H p=none∧v=.ref p∧H'=upd H p (.tup [.int (i:Nat),x])∧(∀xs,SqK k K H l xs→xs[i]? =some x),
   fun i H=> ∃xs,SqK k K H l xs∧xs.length≤i⟩
section
variable{prog:Program}{w:World}{A:Around}{E:Value→Shared→Prop}{s:Shared}{k:Bool}{e it l:Addr}{i:Nat}{its:Array Value}
theorem yCB(hl:IsSeq k s.heap l its){Q:Value→Shared→Prop}
  (h: ∀h',EnSt k (s.heap.objs.size+1) s.heap.objs.size l 0 h'→(∀c o,s.heap.get? c=some o→h'.get? c=some o)→Q (.ref (s.heap.objs.size+1)) {s with heap:=h'}):
  wpAny (model prog w) A (call (.type "enumerate") [.ref l]) Q E s:=by
 refine callType_new F.called_enumerate (by decide) (F.typeCall_enumerate_1 _) (F.newCall_enumerate_1 _) (fun obj=>F.args_object_init_2 obj _) F.entry_enumerate_new (zXP k l its) ⟨hl,?_⟩
 have hz:(s.heap.push (zCM k l)).objs.size=s.heap.objs.size+1:=Heap.size_push ..
 show _∧_
 have he:IsEnum ((s.heap.push (zCM k l)).push {cls:=.type "enumerate",data:=.fields #[.none,.bool false,.ref s.heap.objs.size,rawInt 0,.none,.none]}) (s.heap.objs.size+1) s.heap.objs.size 0 .none:=by
  have:=Heap.get?_push_size (s.heap.push (zCM k l)) (o:={cls:=.type "enumerate",data:=.fields #[.none,.bool false,.ref s.heap.objs.size,rawInt 0,.none,.none]}) rfl
  rw [hz]at this;exact this
 refine⟨⟨_,he,rfl⟩,h _ ⟨⟨.none,he⟩,IsSub.mk' (Heap.get?_push_of_some _ (Heap.get?_push_size _ rfl))⟩ fun b o x=>Heap.get?_push_of_some _ (Heap.get?_push_of_some _ x)⟩
end
theorem yCC{P:Program}{w:World}{K:PySem.W.Frag}{elts:List Expr}{kt:Nat}{pt:Pos}{k:Bool}{e it l:Addr}(hne:e≠it):
  Turn P w K (.Tuple elts kt pt) (Ite K k l) [e,it] e (fun i h=>EnSt k e it l i h) where
 mem:=by simp
 obj:=fun i h st b hb=>by
  obtain⟨⟨old,he⟩,hs⟩:=st
  have hb':b=e∨b=it:=by simpa using hb
  rcases hb' with rfl | rfl
  ·exact⟨_,he,fun v q=>by cases q⟩
  ·exact hs.there
 keep:=fun i h h' st kk=>by
  obtain⟨⟨old,he⟩,hs⟩:=st
  exact⟨⟨old,kk e (by simp) _ he⟩,hs.move fun o q=>kk it (by simp) o q⟩
 item:=by
  intro X hP hw hK hc i pins s σ H E I hf st hg
  subst hP hw hK
  obtain⟨xs,x,q1,hx⟩:=hg
  obtain⟨its,r1,p1,_⟩:=I.seqK q1
  obtain⟨u,hu,ru⟩:=r1.get hx
  obtain⟨⟨old,he⟩,hs⟩:=st
  have hT:s.TypeIs (.ref e) "enumerate":=⟨_,he,rfl⟩
  unfold pyNext
  refine wpAny_bind (wpAny_attempt (wpAny_callSpecial?_slot (name:=Str.ofString "__next__") hT F.slot_enumerate_next (wpAny_call_entry F.slot_enumerate_next hT F.entry_enumerate_next
   (yIK he hs p1 (x:=u) (by simpa using hu) hne fun h' a1 a2 a3 a4=>wpAny_pure ⟨_,rfl,?_⟩) (F.args_enumerate_next_1 _))))
  refine wpAny_letOwnedTupleGo_enum a1 fun h2 z2 sb2=>?_
  have hpn:H s.heap.objs.size=none:=I.hok.fresh (Nat.le_refl _)
  have I0:Inv X pins σ (upd H s.heap.objs.size (.tup [.int (i:Nat),x])) {s with heap:=s.heap.push {cls:=.type "tuple",data:=.seq #[.int i s.toks,u]},toks:=s.toks+1}:=
   I.laid (t':=s.toks+1) (o:=.tup [.int (i:Nat),x]) (fun b o e=>Heap.get?_push_of_some _ e) (Nat.le_refl _) ⟨by show 2≤sizeLine;decide,[.int i s.toks,u],.cons ⟨_,rfl⟩ (.cons ru .nil),⟨_,Heap.get?_push_size _ rfl,rfl,_,rfl⟩⟩
  have lt: ∀b∈[e,it],b<s.heap.objs.size:=fun b hb=>by
   have hb':b=e∨b=it:=by simpa using hb
   rcases hb' with rfl | rfl
   ·exact Heap.lt_size he
   ·obtain⟨o,eo,_⟩:=hs.there;exact Heap.lt_size eo
  have fr: ∀b∈[e,it],upd H s.heap.objs.size (.tup [.int (i:Nat),x]) b=none:=fun b hb=>by rw [zP (Nat.ne_of_lt (lt b hb))];exact(hf b hb).1
  have mv: ∀b o,b∉[e,it]→(s.heap.push {cls:=.type "tuple",data:=.seq #[.int i s.toks,u]}).get? b=some o→h2.get? b=some o:=fun b o hb eo=>by
   simp only [List.mem_cons,List.not_mem_nil,or_false,not_or]at hb
   refine sb2.extBut _ _ hb.1 ?_
   by_cases hbs:b=s.heap.objs.size
   ·subst hbs
    rw [Heap.get?_push_size _ rfl]at eo
    cases eo
    exact a3
   ·rw [Heap.get?_push_ne _ _ _ hbs]at eo
    exact a4 b o hb.1 hb.2 eo
  have I2:=I0.turnedL (h':=h2) (t':=s.toks+1) mv fun b hb=>let ⟨_,c2,c3,c4,c5,c6⟩:=hf b hb;⟨fr b hb,c2,c3,c4,c5,c6⟩
  refine⟨.ref s.heap.objs.size,_,I2,rfl,⟨s.heap.objs.size,x,hpn,rfl,rfl,fun zs hz=>?_⟩,⟨⟨u,?_⟩,?_⟩,fr⟩
  ·rw [I.seqK_inj hz q1];exact hx
  ·simpa using z2
  ·exact a2.move fun o eo=>sb2.extBut _ _ (Ne.symm hne) eo
 done:=by
  intro X hP hw hK hc i pins s σ H E I hf st hg
  subst hP hw hK
  obtain⟨xs,q1,hx⟩:=hg
  obtain⟨its,r1,p1,_⟩:=I.seqK q1
  obtain⟨⟨old,he⟩,hs⟩:=st
  have hT:s.TypeIs (.ref e) "enumerate":=⟨_,he,rfl⟩
  have e1:=r1.length
  unfold pyNext
  refine wpAny_bind (wpAny_attempt (wpAny_callSpecial?_slot (name:=Str.ofString "__next__") hT F.slot_enumerate_next (wpAny_call_entry F.slot_enumerate_next hT F.entry_enumerate_next ?_ (F.args_enumerate_next_1 _))))
  show wpAny _ _ (field (.ref e) 2 >>= _) _ _ _
  refine wpAny_bind (wpAny_field he rfl (x:=.ref it) rfl ?_)
  refine wpAny_bind (zSL (I.ok.hd hc) hs p1 (by simp;omega) fun h' x hk hx'=>?_)
  obtain⟨o,ho,hcl⟩:=hx'
  refine wpAny_bind (wpAny_isInstance (T:="StopIteration") (b:=true) ⟨o,ho,hcl⟩ isSubtype_stop (wpAny_pure ⟨rfl,?_⟩))
  refine I.turnedL (h':=h') (t':=s.toks) (fun b o hb eo=>?_) hf
  simp only [List.mem_cons,List.not_mem_nil,or_false,not_or]at hb
  exact hk b o hb.2 eo
 self:=fun _ _ _ _ _ st h=>let ⟨⟨_,he⟩,_⟩:=st;wpAny_pyIter_enum he h
def iEnum(K:PySem.W.Frag)(ta:TA):TI:=fun σ H R=>ta σ H fun vs H1=> ∃k l,vs=[.ref l]∧(∃xs,SqK k K H1 l xs)∧R (Ite K k l) H1
section
variable{X:Cx}{W:XW}{a:Expr}{elts:List Expr}{kt:Nat}{pt p pos:Pos}{ta:TA}{af:Rho→Sto→R (List Er)}
theorem yIR(hg:Gl X "enumerate")(hm:X.mg "enumerate"=none)(ha:PA X [a] ta)(hs:starEach [a] X.env=[(false,eval a X.env)]:=by rfl):
  PI X (.Tuple elts kt pt) (.Call (.Name "enumerate" p) [a] [] pos) (iEnum X.K ta):=by
 intro pins s σ H R I h
 refine Call_ (zJW I hg hm yIJ (PyProof.Rows.callWith_type1 (thn (ha pos pins s σ H _ I h) fun us s1 ⟨vs,H1,I1,r1,q1⟩=>?_) (by rw [hs];rfl) (by rfl)))
 obtain⟨k,l,rfl,⟨xs,c1⟩,q⟩:=q1
 cases r1 with
 | cons r rr=>
  cases rr
  cases r
  obtain⟨its,v1,p1,_⟩:=I1.seqK c1
  refine yCB p1 fun h' st hk=>let ⟨⟨_,he⟩,_⟩:=id st;wpAny_pyIter_enum he ?_
  have I2:Inv X pins σ H1 {s1 with heap:=h'}:=I1.kept (t':=s1.toks) hk
  refine⟨_,_,_,_,H1,rfl,I2,yCC (Nat.ne_of_gt (Nat.lt_succ_self _)),st,fun b hb=>?_,q⟩
  have hle:s1.heap.objs.size≤b:=by
   have hb':b=s1.heap.objs.size+1∨b=s1.heap.objs.size:=by simpa using hb
   rcases hb' with h | h<;>rw [h]<;>(first | exact Nat.le_refl _ | exact Nat.le_add_right _ _)
  exact I1.fpOk hle (I1.hok.fresh hle)
def zIT(xs:List MV):List MV:=xs.zipIdx.map fun p=>.tup [.int (p.2:Nat),p.1]
def itE(rs:List Er)(S:Sto):R Wk:=match rs with
 | [p]=>match srcOf S p with
  | some a=>.ok ⟨zIT a.ds,a.gs⟩ S
  | none=>.no
 | _=>.no
theorem zME(hg:Gl X "enumerate")(hm:X.mg "enumerate"=none)(ha:PAm X W [a] af)(hs:starEach [a] X.env=[(false,eval a X.env)]:=by rfl):
  PIm X W (.Tuple elts kt pt) (.Call (.Name "enumerate" p) [a] [] pos) (fun ρ S=>(af ρ S).bind itE):=by
 obtain⟨t,ha,k⟩:=ha
 refine⟨_,yIR hg hm ha hs,fun α ρ S σ H Rc wd sl q=>k α ρ S σ H _ wd sl (q.bind fun vs rs S1 α1 H1 e x1 w1 d1 q1=>?_)⟩
 replace q1:=q1.shift x1
 unfold itE at q1
 split at q1
 ·rename_i r1
  split at q1
  ·rename_i s1 e1
   obtain⟨u,rfl,du⟩:=yEA d1
   obtain⟨l1,P1,rfl,p1,D1⟩:=zXO w1 e1 du
   have g1:=D1.get _ _ _ p1
   have hlen:(zIT s1.ds).length=s1.ds.length:=by unfold zIT;rw [List.length_map,List.length_zipIdx]
   refine⟨s1.k,l1,rfl,⟨_,g1.choose_spec.1⟩,q1.here (u:=Ite X.K s1.k l1) w1 ⟨fun α S H=>P1 α S H,?_,p1,?_,?_⟩⟩
   ·intro i α2 S2 H2 b1 w2
    obtain⟨us,c1,c2⟩:=D1.get _ _ _ b1
    have hl:=c2.length
    refine⟨fun hi=>?_,fun hi=>?_⟩
    ·have hi:i<(zIT s1.ds).length:=hi
     have h1:i<us.length:=by omega
     refine⟨⟨us,us[i],c1,List.getElem?_eq_getElem h1⟩,?_⟩
     rintro x H' ⟨pp,xx,hp,rfl,rfl,hx⟩
     obtain⟨d,hd,dd⟩:=c2.get (hx us c1)
     have xn:=w2.newx (o:=.tup [.int (i:Nat),xx]) hp
     have wn:=w2.new (o:=.tup [.int (i:Nat),xx]) hp
     refine⟨xn,wn,D1.stays _ _ _ _ _ _ b1 xn wn (D1.st _ _ _ b1),.tup [.int (i:Nat),d],?_,?_⟩
     ·unfold zIT;rw [List.getElem?_map,List.getElem?_zipIdx,hd];simp
     ·exact cT (.of zZ) (yY (xJ _) (yY (dd.ext xn) xW))
    ·have hi:(zIT s1.ds).length≤i:=hi
     exact⟨us,c1,by omega⟩
   ·intro α1 S1 H1 α2 S2 H2 b1 x w hs
    exact D1.stays _ _ _ _ _ _ b1 x w hs
   ·exact D1.st _ _ _ p1
  ·exact q1.elim
 ·exact q1.elim
end
end M
end L2
namespace L2
namespace M
open PySem PySem.Spec PyProof.Rows
noncomputable instance:DecidableEq MV:=fun _ _=>Classical.propDecidable _
noncomputable def look(kvs:List (MV×MV))(k:MV):Option MV:=(kvs.find? fun p=>decide (p.1=k)).map (·.2)
noncomputable def putK(kvs:List (MV×MV))(k d:MV):List (MV×MV):=if(look kvs k).isSome=true then kvs.map (fun p=>if p.1=k then(p.1,d)else p)else kvs++[(k,d)]
def zKF:MV→Bool
 | .tup _=>true
 | _=>false
theorem zBT(i:Int):kK (.int i)=some (.key (.inl i)):=by unfold kK;rfl
theorem zBU(x:List Nat):kK (.str x)=some (.key (.inr (mkS x))):=by unfold kK;rfl
theorem zBV(ds:List MV):kK (.tup ds)=(jP ds).map .tup:=by
 conv=>lhs;unfold kK
theorem zFY:jP []=some []:=by unfold jP;rfl
theorem dO(d:MV)(ds:List MV):jP (d::ds)=(kK d).bind fun k=>(jP ds).map (k::·):=by
 conv=>lhs;unfold jP
mutual
theorem zOA: ∀{d e:MV}{k:NK},kK d=some k→kK e=some k→d=e
 | .int i,e,k,hd,he=>by
  rw [zBT]at hd;cases hd
  cases e with
  | int j=>rw [zBT]at he;cases he;rfl
  | str x=>rw [zBU]at he;cases he
  | tup ds=>rw [zBV]at he;cases z:jP ds<;>rw [z]at he<;>cases he
  | _=>unfold kK at he;cases he
 | .str x,e,k,hd,he=>by
  rw [zBU]at hd;cases hd
  cases e with
  | int j=>rw [zBT]at he;cases he
  | str y=>
   rw [zBU]at he
   have he:=Option.some.inj he
   injection he with he
   injection he with he
   rw [zRU he]
  | tup ds=>rw [zBV]at he;cases z:jP ds<;>rw [z]at he<;>cases he
  | _=>unfold kK at he;cases he
 | .tup ds,e,k,hd,he=>by
  rw [zBV]at hd
  cases z:jP ds with
  | none=>rw [z]at hd;cases hd
  | some ks=>
   rw [z]at hd;cases hd
   cases e with
   | int j=>rw [zBT]at he;cases he
   | str y=>rw [zBU]at he;cases he
   | tup es=>
    rw [zBV]at he
    cases z2:jP es with
    | none=>rw [z2]at he;cases he
    | some ks'=>rw [z2]at he;cases he;rw [zQY z z2]
   | _=>unfold kK at he;cases he
 | .non,e,k,hd,he=>by unfold kK at hd;cases hd
 | .bl _,e,k,hd,he=>by unfold kK at hd;cases hd
 | .scr _,e,k,hd,he=>by unfold kK at hd;cases hd
 | .loc _,e,k,hd,he=>by unfold kK at hd;cases hd
 | .typ _,e,k,hd,he=>by unfold kK at hd;cases hd
theorem zQY: ∀{ds es:List MV}{ks:List NK},jP ds=some ks→jP es=some ks→ds=es
 | [],es,ks,hd,he=>by
  rw [zFY]at hd;cases hd
  cases es with
  | nil=>rfl
  | cons e es=>
   rw [dO]at he
   cases z:kK e<;>rw [z]at he
   ·cases he
   ·cases z2:jP es<;>rw [z2]at he<;>cases he
 | d::ds,es,ks,hd,he=>by
  rw [dO]at hd
  cases z:kK d with
  | none=>rw [z]at hd;cases hd
  | some k=>
   rw [z]at hd
   cases z2:jP ds with
   | none=>rw [z2]at hd;cases hd
   | some ks2=>
    rw [z2]at hd
    cases es with
    | nil=>rw [zFY]at he;cases he;cases hd
    | cons e es=>
     rw [dO]at he
     cases z3:kK e with
     | none=>rw [z3]at he;cases he
     | some k'=>
      rw [z3]at he
      cases z4:jP es with
      | none=>rw [z4]at he;cases he
      | some ks4=>
       rw [z4]at he
       cases hd;cases he
       rw [zOA z z3,zQY z2 z4]
end
section
variable{X:Cx}{pins:List (Addr×Obj)}{σ:St}{H:Hp}{s:Shared}{α:List Addr}
mutual
theorem zSR(I:Inv X pins σ H s): ∀{d:MV}{k:NK}{x:V}{u:Value},kK d=some k→Den X.K α H d x→RelV x u→isN (mk X.prog X.w) s.heap k u
 | .int i,k,x,u,hk,hd,r=>by
  rw [zBT]at hk;cases hk
  cases jN hd
  obtain⟨t,rfl⟩:=r
  exact kW.mpr (by show zMT (.inl i) (.int i t)=true;simp [zMT,Value.isInt])
 | .str y,k,x,u,hk,hd,r=>by
  rw [zBU]at hk;cases hk
  cases jW hd
  obtain⟨t,rfl⟩:=r
  exact kW.mpr (by show zMT (.inr (mkS y)) (.str (mkS y) t)=true;simp [zMT,Value.isStrOf])
 | .tup ds,k,x,u,hk,hd,r=>by
  rw [zBV]at hk
  cases z:jP ds with
  | none=>rw [z]at hk;cases hk
  | some ks=>
   rw [z]at hk;cases hk
   obtain⟨a,vs,rfl,sq,l⟩:=kR hd
   cases r
   obtain⟨its,rv,pt,_⟩:=I.tuple sq
   obtain⟨o,ho,hc,n,hdat⟩:=pt
   exact wQ.mpr ⟨a,o,its.toArray,n,rfl,ho,hc,hdat,by simpa using zZX I z l rv⟩
 | .non,k,x,u,hk,hd,r=>by unfold kK at hk;cases hk
 | .bl _,k,x,u,hk,hd,r=>by unfold kK at hk;cases hk
 | .scr _,k,x,u,hk,hd,r=>by unfold kK at hk;cases hk
 | .loc _,k,x,u,hk,hd,r=>by unfold kK at hk;cases hk
 | .typ _,k,x,u,hk,hd,r=>by unfold kK at hk;cases hk
theorem zZX(I:Inv X pins σ H s): ∀{ds:List MV}{ks:List NK}{xs:List V}{us:List Value},jP ds=some ks→DenL X.K α H ds xs→Vals xs us→zEI (mk X.prog X.w) s.heap ks us
 | [],ks,xs,us,hk,hd,r=>by
  rw [zFY]at hk;cases hk
  cases hd.isnil
  cases r
  exact kJ.mpr rfl
 | d::ds,ks,xs,us,hk,hd,r=>by
  rw [dO]at hk
  obtain⟨v,vs,rfl,a,l⟩:=hd.uncons
  cases r with
  | cons r1 r2=>
   cases z:kK d with
   | none=>rw [z]at hk;cases hk
   | some k=>
    rw [z]at hk
    cases z2:jP ds with
    | none=>rw [z2]at hk;cases hk
    | some ks2=>
     rw [z2]at hk
     cases hk
     exact xA.mpr ⟨_,_,rfl,zSR I z a r1,zZX I z2 l r2⟩
end
def DD(X:Cx)(H:Hp)(d:Addr)(xs:List (NK×Addr×Value)):Prop:=H d=some (DN X.prog X.w d xs)∨(xs=[]∧H d=some (.dK []))
theorem dd_of{S:Sto}{kvs:List (MV×MV)}{d:Addr}(ob:ObD X.g α H d (.dic kvs))(hk:kvs.all (fun p=>zKF p.1)=true): ∃xs,DD X H d xs∧DenN X.K α H kvs xs:=by
 rcases ob with⟨ks,h,l⟩ | ⟨xs,h,l⟩
 ·cases l with
  | nil=>exact⟨[],.inr ⟨rfl,h⟩,.nil⟩
  | @cons k k' dd v fs gs hkd a l=>
   rw [List.all_cons,Bool.and_eq_true]at hk
   cases k with
   | tup ds=>exact absurd hkd (by unfold KeyD;exact fun z=>z)
   | _=>exact absurd hk.1 Bool.false_ne_true
 ·exact⟨xs,.inl h,l⟩
theorem zZY(I:Inv X pins σ H s): ∀{kvs:List (MV×MV)}{xs:List (NK×Addr×Value)},DenN X.K α H kvs xs→ ∀x∈xs,(zEL X.prog X.w).is s.heap x.1 x.2.1
 | _,_,.nil=>fun x hx=>by simp at hx
 | _,_,.cons k e a d r l=>fun x hx=>by
  rcases List.mem_cons.mp hx with rfl | hx
  ·exact⟨zSR I k a rfl,e⟩
  ·exact zZY I l x hx
theorem zZZ(I:Inv X pins σ H s){kvs:List (MV×MV)}{xs:List (NK×Addr×Value)}{d:Addr}(h:DD X H d xs)(l:DenN X.K α H kvs xs):s.heap.DictOfH (zEL X.prog X.w) d xs∧xs.length≤sizeLine∧(d==sysModules)=false:=by
 rcases h with h | ⟨rfl,h⟩
 ·obtain⟨⟨hz,hs,o,es,ep,ho,hc,hd,he,hn⟩,_⟩:=(show ObjOk X.prog X.w H s.heap d (DN X.prog X.w d xs)from I.hok d _ h)
  exact⟨⟨o,es,ep,ho,hc,hd,he,zZY I l,hn⟩,hz,hs⟩
 ·obtain⟨_,hs,vs,kv,o,es,ep,ho,hc,hd,_,hp,_⟩:=(show ObjOk X.prog X.w H s.heap d (.dK [])from I.hok d _ h)
  cases kv
  have he:es.toList=[]:=by cases hes:es.toList with | nil=>rfl | cons a b=>rw [hes]at hp;cases hp
  exact⟨⟨o,es,ep,ho,hc,hd,by rw [he];rfl,fun x hx=>by simp at hx,List.nodup_nil⟩,Nat.zero_le _,hs⟩
theorem zQZ(p:MV×MV)(kvs:List (MV×MV))(k:MV):look (p::kvs) k=if p.1=k then some p.2 else look kvs k:=by
 unfold look
 rw [List.find?_cons]
 by_cases h:p.1=k
 ·rw [decide_eq_true h,if_pos h];rfl
 ·rw [decide_eq_false h,if_neg h]
theorem zXQ(x:NK×Addr×Value)(xs:List (NK×Addr×Value))(k:NK):atKey (x::xs) k=if x.1=k then some x.2 else atKey xs k:=by
 unfold atKey
 rw [List.find?_cons]
 by_cases h:x.1=k
 ·rw [decide_eq_true h,if_pos h];rfl
 ·rw [decide_eq_false h,if_neg h]
theorem zSS: ∀{kvs:List (MV×MV)}{xs:List (NK×Addr×Value)}{k:MV}{nk:NK},DenN X.K α H kvs xs→kK k=some nk→(atKey xs nk).isSome=(look kvs k).isSome
 | _,_,k,nk,.nil,hk=>rfl
 | _,_,k,nk,.cons (k:=k') (nk:=nk') hk' e a d r l,hk=>by
  rw [zQZ,zXQ]
  by_cases h:k'=k
  ·subst h
   have:nk'=nk:=by rw [hk]at hk';exact(Option.some.inj hk').symm
   rw [if_pos this,if_pos rfl];rfl
  ·have:nk'≠nk:=fun z=>h (zOA hk' (by rw [hk,z]))
   rw [if_neg this,if_neg h]
   exact zSS l hk
theorem zST: ∀{kvs:List (MV×MV)}{xs:List (NK×Addr×Value)}{k d:MV}{nk:NK}{v:V}{u:Value},DenN X.K α H kvs xs→kK k=some nk→Den X.K α H d v→RelV v u→DenN X.K α H (kvs.map fun p=>if p.1=k then(p.1,d)else p) (xs.map (putAt nk u))
 | _,_,k,d,nk,v,u,.nil,hk,hd,r=>.nil
 | _,_,k,d,nk,v,u,.cons (k:=k') (nk:=nk') hk' e a dd rr l,hk,hd,r=>by
  rw [List.map_cons,List.map_cons]
  unfold putAt
  by_cases h:k'=k
  ·have hn:nk'=nk:=by subst h;rw [hk]at hk';exact(Option.some.inj hk').symm
   rw [if_pos h,if_pos hn]
   exact .cons hk' e a hd r (zST l hk hd r)
  ·have hn:nk'≠nk:=fun z=>h (zOA hk' (by rw [hk,z]))
   rw [if_neg h,if_neg hn]
   exact .cons hk' e a dd rr (zST l hk hd r)
theorem DenN.append: ∀{kvs kvs':List (MV×MV)}{xs xs':List (NK×Addr×Value)},DenN X.K α H kvs xs→DenN X.K α H kvs' xs'→DenN X.K α H (kvs++kvs') (xs++xs')
 | _,_,_,_,.nil,h=>h
 | _,_,_,_,.cons hk e a d r l,h=>.cons hk e a d r (DenN.append l h)
theorem yIS{kvs:List (MV×MV)}{xs:List (NK×Addr×Value)}{k d:MV}{nk:NK}{a:Addr}{v:V}{u:Value}(l:DenN X.K α H kvs xs)(hk:kK k=some nk)(e:zAJ nk≤4)(ha:Den X.K α H k (.ref a))(hd:Den X.K α H d v)(r:RelV v u):DenN X.K α H (putK kvs k d) (storedH xs nk a u):=by
 unfold putK
 have hl:=zSS l hk
 by_cases h:(look kvs k).isSome=true
 ·rw [if_pos h]
  rw [h]at hl
  obtain⟨p,hp⟩:=Option.isSome_iff_exists.mp hl
  rw [storedH_old hp]
  exact zST l hk hd r
 ·rw [if_neg h]
  have hn:atKey xs nk=none:=by
   cases z:atKey xs nk with
   | none=>rfl
   | some p=>rw [z]at hl;exact absurd hl.symm h
  rw [storedH_new hn]
  exact l.append (.cons hk e ha hd r .nil)
end
section
variable{X:Cx}{W:XW}{a b o i:Expr}{f g:Rho→Sto→R Er}{pos:Pos}
theorem yMS{pins:List (Addr×Obj)}{σ:St}{H:Hp}{s:Shared}(I:Inv X pins σ H s):sysModules<s.heap.objs.size:=Nat.lt_trans (by decide) ((I.mod.glob.keeps I.bk).lt)
theorem Wd.put{gg:Gm}{α:List Addr}{S:Sto}{H:Hp}{p:Addr}{ho:HO}{m:MO}(w:Wd gg α S H)(hp:H p=none)(q:ObD gg (α++[p]) (upd H p ho) p m):Ext α H (α++[p]) (upd H p ho)∧Wd gg (α++[p]) (S++[m]) (upd H p ho):=by
 have x:=w.newx (o:=ho) hp
 have nw:=w.new (o:=ho) hp
 have np:=w.fresh hp
 refine⟨⟨⟨⟨[p],rfl⟩,x.tup,x.frz⟩,fun b hb=>?_,x.keep,x.has⟩,⟨?_,?_,fun l c ob h1 h2=>?_⟩⟩
 ·rcases List.mem_append.mp hb with h | h
  ·exact .inl h
  ·rw [List.mem_singleton.mp h];exact .inr hp
 ·rw [List.length_append,List.length_append,w.len];rfl
 ·exact List.nodup_append.mpr ⟨w.nd,by simp,fun a ha c hc=>by rw [List.mem_singleton.mp hc];rintro rfl;exact np ha⟩
 ·by_cases hl:l<α.length
  ·rw [List.getElem?_append_left hl]at h1
   rw [List.getElem?_append_left (by rw [←w.len];exact hl)]at h2
   exact(nw.obj l c ob h1 h2).move (Ex0.grow α [p] _) rfl
  ·have hl':l=α.length:=by
    have:=(List.getElem?_eq_some_iff.mp h1).1
    rw [List.length_append,List.length_singleton]at this
    omega
   subst hl'
   rw [List.getElem?_append_right (Nat.le_refl _),Nat.sub_self]at h1
   rw [List.getElem?_append_right (by rw [w.len];exact Nat.le_refl _),w.len,Nat.sub_self]at h2
   cases h1;cases h2
   exact q
def yFA(S:Sto):R Er:=.ok (.val (.loc S.length)) (S++[.dic []])
theorem yFB:PEm X W (.Dict [] [] pos) (fun _ S=>yFA S):=by
 refine⟨fun σ H Q=> ∀p,H p=none→Q (.ref p) (upd H p (.dK [])),fun pins s σ H Q I h=>?_,fun α ρ S σ H Q wd sl q p hp=>?_⟩
 ·exact wpAny_Dict_empty ⟨.ref s.heap.objs.size,_,I.laid (a:=s.heap.objs.size) (o:=.dK []) (t':=s.toks) (fun _ _ q=>Heap.get?_push_of_some _ q) (Nat.le_refl _)
   ⟨Nat.zero_le _,beq_eq_false_iff_ne.mpr (Ne.symm (Nat.ne_of_lt (yMS I))),[],.nil,Heap.DictOf.new s.heap⟩,rfl,h _ (I.hok.fresh (Nat.le_refl _))⟩
 ·obtain⟨x,w'⟩:=wd.put (ho:=.dK []) (m:=.dic []) hp (.inl ⟨[],zZ,.nil⟩)
  exact q (.ref p) (α++[p]) _ x w' (DenE.val (zIE (by rw [←wd.len,List.getElem?_append_right (Nat.le_refl _),Nat.sub_self];rfl)))
noncomputable def zRA(S:Sto):Er→Option (Nat×List (MV×MV))
 | .val (.loc l)=>match S[l]? with
  | some (.dic kvs)=>if kvs.all (fun p=>zKF p.1)=true then some (l,kvs)else none
  | _=>none
 | _=>none
noncomputable def keyOk(k:MV):Bool:=zKF k&&(match kK k with | some nk=>decide (zAJ nk≤4) | none=>false)
theorem zUZ{k:MV}(h:keyOk k=true): ∃nk,kK k=some nk∧zAJ nk≤4∧zKF k=true:=by
 unfold keyOk at h
 rw [Bool.and_eq_true]at h
 cases z:kK k with
 | none=>rw [z]at h;exact absurd h.2 Bool.false_ne_true
 | some nk=>rw [z]at h;exact⟨nk,rfl,of_decide_eq_true h.2,h.1⟩
theorem yFC{α:List Addr}{S:Sto}{H:Hp}(wd:Wd X.g α S H){r:Er}{x:V}{l:Nat}{kvs:List (MV×MV)}(e:zRA S r=some (l,kvs))(d:DenX X.K α H r x):
  ∃c xs,x=.ref c∧α[l]? =some c∧S[l]? =some (.dic kvs)∧DD X H c xs∧DenN X.K α H kvs xs:=by
 unfold zRA at e
 split at e
 ·rename_i n
  obtain⟨c,rfl,h⟩:=zAW d
  split at e
  ·rename_i ks hS
   split at e
   ·rename_i hk
    obtain⟨rfl,rfl⟩:=Prod.mk.inj (Option.some.inj e)
    obtain⟨xs,dd,l⟩:=dd_of (S:=S) (wd.obj _ c _ h hS) hk
    exact⟨c,xs,rfl,h,hS,dd,l⟩
   ·cases e
  ·cases e
 ·cases e
abbrev rInD(X:Cx)(neg:Bool):R2:=fun x y H Q=> ∃(α:List Addr)(kvs:List (MV×MV))(xs:List (NK×Addr×Value))(a d:Addr)(k:MV)(nk:NK),x=.ref a∧y=.ref d∧DD X H d xs∧DenN X.K α H kvs xs∧kK k=some nk∧zAJ nk≤4∧Den X.K α H k (.ref a)∧
 Q (.bl (if neg=true then !(look kvs k).isSome else(look kvs k).isSome)) H
theorem zPQ{prog:Program}{w:World}{KK:Type}[DecidableEq KK]{knd:HeapKind prog w KK}{A:Around}{E:Value→Shared→Prop}{s:Shared}{d a:Addr}{k:KK}{xs:List (KK×Addr×Value)}{Q:Bool→Shared→Prop}(hu:knd.room A.in1)(hkey:knd.is s.heap k a)(hd:(d==sysModules)=false)
  (hm:s.heap.DictOfH knd d xs) (h:Q (atKey xs k).isSome {s with toks:=s.toks+knd.draws k}):wpAny (model prog w) A (contains (.ref d) (.ref a)) Q E s:=by
 unfold contains
 try with_reducible refine wpAny_holding ?_
 refine wpAny_bind (wpAny_specialOf hm.typeIs slot_dict_contains.lookup ?_)
 show wpAny _ _ (if(some (Value.builtin "dict.__contains__")==some Value.none)=true then _ else _) _ E s
 rw [if_neg (by rw [beq_builtin_none];exact Bool.false_ne_true)]
 refine wpAny_bind (wpAny_callSpecialUnlessNone?_slot (name:=Str.ofString "__contains__") hm.typeIs slot_dict_contains (wpAny_call_entry slot_dict_contains hm.typeIs entry_dict_contains ?_ (args_dict_contains _ _)))
 show wpAny _ _ (dictGet d (.ref a) >>= _) _ _ s
 refine wpAny_bind (wpAny_dictGet_heap hu hkey hm ?_)
 cases hf:atKey xs k with
 | some p=>
  rw [hf]at h
  show wpAny _ _ (ret (.bool true)) _ _ _
  exact wpAny_pure ⟨_,rfl,wpAny_truthy_bool h⟩
 | none=>
  rw [hf]at h
  show wpAny _ _ (Builtin.Dict.pendingKey? d (.ref a) >>= _) _ _ _
  exact wpAny_bind (wpAny_pendingKey_other hd (wpAny_pure ⟨_,rfl,wpAny_truthy_bool h⟩))
theorem yMT(hu:X.A.units+64<cLine):OpR X (compareOp .In) (rInD X false):=by
 intro pins s σ H x y v u Q I rx ry h
 obtain⟨α,kvs,xs,a,d,k,nk,rfl,rfl,dd,l,hk,e,ha,q⟩:=h
 cases rx;cases ry
 obtain⟨hm,_,hs⟩:=zZZ I dd l
 show wpAny _ _ (do return Value.bool (←contains (.ref d) (.ref a))) _ _ s
 refine wpAny_bind (zPQ (knd:=zEL X.prog X.w) (show X.A.units+1+4<cLine by omega) ⟨zSR I hk ha rfl,e⟩ hs hm (wpAny_pure ⟨.bl (look kvs k).isSome,H,I.kept (t':=_) (fun _ _ z=>z),?_,q⟩))
 rw [zSS l hk];rfl
noncomputable def yCD(neg:Bool)(p q:Er)(S:Sto):R Er:=match p with
 | .val k=>match zRA S q with
  | some (_,kvs)=>if keyOk k=true then .ok (.val (.bl (if neg=true then !(look kvs k).isSome else(look kvs k).isSome))) S else .no
  | none=>.no
 | _=>.no
theorem yAA{α:List Addr}{H:Hp}{k:MV}{x:V}(h:zKF k=true)(d:Den X.K α H k x): ∃a,x=.ref a:=by
 cases k with
 | tup ds=>obtain⟨a,_,rfl,_⟩:=kR d;exact⟨a,rfl⟩
 | _=>exact absurd h Bool.false_ne_true
theorem yIT{neg:Bool}:Op2 X W (rInD X neg) (yCD neg):=by
 intro p q x y α S H Q wd dp dq post
 unfold yCD at post
 split at post
 ·rename_i k
  split at post
  ·rename_i l kvs e
   split at post
   ·rename_i hk
    obtain⟨nk,h1,h2,h3⟩:=zUZ hk
    obtain⟨c,xs,rfl,_,_,dd,dl⟩:=yFC wd e dq
    obtain⟨a',rfl⟩:=yAA (X:=X) (α:=α) (H:=H) h3 dp
    exact⟨α,kvs,xs,a',c,k,nk,rfl,rfl,dd,dl,h1,h2,dp,Post.val post wd (xH _)⟩
   ·exact post.elim
  ·exact post.elim
 ·exact post.elim
theorem yMU(hu:X.A.units+64<cLine)(ha:PEm X W a f)(hb:PEm X W b g)(hm:behindInMarks .In b=false:=by with_unfolding_all rfl):PTm X W (.Compare a [.In] [b] pos) (fun ρ S=>((f ρ S).bind fun p S1=>(g ρ S1).bind fun q S2=>yCD false p q S2).bind asB):=zCI (yMT hu) yIT ha hb hm
def rSetD(X:Cx):TSet:=fun o i v H Q=> ∃(α:List Addr)(kvs:List (MV×MV))(xs:List (NK×Addr×Value))(a d:Addr)(k:MV)(nk:NK),o=.ref d∧i=.ref a∧DD X H d xs∧DenN X.K α H kvs xs∧kK k=some nk∧zAJ nk≤4∧Den X.K α H k (.ref a)∧xs.length<sizeLine∧
 ∀u,RelV v u→Q (upd H d (DN X.prog X.w d (storedH xs nk a u)))
theorem zXR{xs:List (NK×Addr×Value)}{k:NK}{a:Addr}{u:Value}:(storedH xs k a u).length≤xs.length+1:=by
 cases h:atKey xs k with
 | none=>rw [storedH_new h,List.length_append];exact Nat.le_refl _
 | some p=>rw [storedH_old h,List.length_map];exact Nat.le_succ _
theorem yCE(hu:X.A.units+64<cLine):PSet X (rSetD X):=by
 intro pins s σ H o i v ov iv u Q I ro ri rv h
 obtain⟨α,kvs,xs,a,d,k,nk,rfl,rfl,dd,l,hk,e,ha,hz,q⟩:=h
 cases ro;cases ri
 obtain⟨hm,hz',hs⟩:=zZZ I dd l
 refine wpAny_setItem_heap (knd:=zEL X.prog X.w) (show X.A.units+1+4<cLine by omega) ⟨zSR I hk ha rfl,e⟩ hm (fun h' hm' hs'=>⟨_,?_,q u rv⟩) hz'
 have mu:Mut (H d):=by
  rcases dd with z | ⟨_,z⟩<;>rw [z]<;>exact trivial
 obtain⟨ob,es,ep,ho,hc,hd,he,_,hn⟩:=hm'
 refine I.write (t':=_) (x:=d) (e:=d) mu (.inl rfl) (fun b uo hb eo=>(hs'.2 b hb).trans eo) ⟨ob,ho⟩ ?_
 refine⟨⟨by have:=zXR (xs:=xs) (k:=nk) (a:=a) (u:=u);omega,hs,ob,es,ep,ho,hc,hd,he,hn⟩,⟨ob,ho⟩,?_⟩
 rintro h1 h2 ⟨z1,z2,o',es',ep',ho',r⟩ mv
 exact⟨z1,z2,o',es',ep',mv o' ho',r⟩
noncomputable def zVA(p q:Er)(d:MV)(ρ:Rho)(S:Sto):R Rho:=match q with
 | .val k=>match zRA S p with
  | some (l,kvs)=>if keyOk k=true∧kvs.length<1000000 then .ok ρ (S.set l (.dic (putK kvs k d)))else .no
  | none=>.no
 | _=>.no
theorem DenN.length{α:List Addr}{H:Hp}: ∀{kvs xs},DenN X.K α H kvs xs→xs.length=kvs.length
 | _,_,.nil=>rfl
 | _,_,.cons _ _ _ _ _ l=>by rw [List.length_cons,List.length_cons,DenN.length l]
theorem yIU(hu:X.A.units+64<cLine)(ho:PEm X W o f)(hi:PEm X W i g)
  (ha: ∀v,assign (.Subscript o i pos) X.env v=(do
   let ov ←holding [v] (eval o X.env)
   let iv ←holding [v,ov] (eval i X.env)
   standAt pos
   holding [v,ov,iv] (setItem ov iv v)
   release [v,ov,iv] []):=by intro _;rfl):PGm X W (.Subscript o i pos) (fun d ρ S=>(f ρ S).bind fun p S1=>(g ρ S1).bind fun q S2=>zVA p q d ρ S2):=by
 obtain⟨to,ho,fo⟩:=ho
 obtain⟨ti,hi,fi⟩:=hi
 refine⟨_,yLA ho hi (yCE hu) ha,fun α ρ S σ H d v Q wd sl de q=>fo α ρ S σ H _ wd sl (q.bind fun u p S1 α1 H1 e1 x1 w1 d1 q1=>fi α1 ρ S1 σ H1 _ w1 (sl.ext x1) ((q1.shift x1).bind fun u2 p2 S2 α2 H2 e2 x2 w2 d2 q2=>?_))⟩
 replace q2:=q2.shift x2
 have d1':=DenX.ext x2 d1.1
 have de2:=(de.ext x1).ext x2
 unfold zVA at q2
 split at q2
 ·rename_i k
  split at q2
  ·rename_i l kvs e
   split at q2
   ·rename_i hk
    obtain⟨nk,h1,h2,h3⟩:=zUZ hk.1
    obtain⟨c,xs,rfl,hc,hS,dd,dl⟩:=yFC w2 e d1'
    obtain⟨a',rfl⟩:=yAA (X:=X) (α:=α2) (H:=H2) h3 d2.1
    refine⟨α2,kvs,xs,a',c,k,nk,rfl,rfl,dd,dl,h1,h2,d2.1,?_,fun u ru=>?_⟩
    ·rw [dl.length]
     exact Nat.lt_of_lt_of_le hk.2 (fits (Nat.le_refl _))
    ·have xw:=w2.writex hc (o:=DN X.prog X.w c (storedH xs nk a' u))
     have sl2:=((sl.ext x1).ext x2).ext xw
     exact q2 σ α2 _ xw (w2.write hc (.inr ⟨_,zZ,(yIS dl h1 h2 d2.1 de2 ru).ex0 xw.toEx0⟩)) sl2
   ·exact q2.elim
  ·exact q2.elim
 ·exact q2.elim
end
end M
end L2
namespace L2
namespace M
open PySem PySem.Spec PyProof.Rows
def yAB:MV→V
 | .non=>.non
 | .bl b=>.bl b
 | .int i=>.int i
 | .str x=>.str (mkS x)
 | .typ n=>.ty n
 | _=>.non
def zSU:MV→Bool
 | .non=>true
 | .bl _=>true
 | .int _=>true
 | .str _=>true
 | _=>false
theorem yFD{K:PySem.W.Frag}{α:List Addr}{H:Hp}{d:MV}(h:zSU d=true):Den K α H d (yAB d):=by
 cases d with
 | non=>exact cR
 | bl b=>exact xH b
 | int i=>exact xJ i
 | str x=>exact cS x
 | _=>exact absurd h Bool.false_ne_true
theorem zRB{K:PySem.W.Frag}{α:List Addr}{H:Hp}: ∀{ds:List MV},ds.all zSU=true→DenL K α H ds (ds.map yAB)
 | [],_=>xW
 | d::ds,h=>by
  rw [List.all_cons,Bool.and_eq_true]at h
  exact yY (yFD h.1) (zRB h.2)
structure GTup(K:PySem.W.Frag)(mg:Str→Option Value)(x:Str)(ds:List MV):Prop where
 ex: ∃(a:Addr)(o:Obj)(its:Array Value)(n:Nat),mg x=some (.ref a)∧K.lookup a=some o∧o.cls=.type "tuple"∧o.data=.seq its n∧its.size≤sizeLine∧Vals (ds.map yAB) its.toList
 fl:ds.all zSU=true
theorem yIV{X:Cx}{W:XW}{x:Str}{ds:List MV}{pos:Pos}(hg:Gl X x)(G:GTup X.K X.mg x ds)(hd:(x==("__debug__":Str))=false:=by decide):PEm X W (.Name x pos) (fun _ S=>.ok (.val (.tup ds)) S):=by
 obtain⟨⟨a,o,its,n,hm,lk,hc,hdt,hz,hv⟩,hf⟩:=G
 exact⟨_,zRK (v:=.ref a) hg hm rfl hd,fun α ρ S σ H Q wd sl q=>Post.val q wd (cT (.inr ⟨o,its,n,lk,hc,hdt,hz,hv⟩) (zRB hf))⟩
theorem fn_no{P:Program}{w:World}{K:PySem.W.Frag}{mg:Str→Option Value}{base:Heap}{k m:Nat}{f:Addr}{fd:FuncData}{ps:List Str}{g:Gm}:FnOk P w K mg base CX0 k f fd ps (spM g m fun _ _=>.no):=
 ⟨fun vs H Q E ⟨_,_,_,_,_,_,q⟩=>q.elim,fun _ _ _ _ _ _ _ _ _ _ _ _ _ ⟨_,_,_,_,_,_,q⟩=>q.elim⟩
end M
end L2
namespace L2
namespace M
open PySem PySem.Spec PyProof.Rows
def FsD(g:Gm)(α:List Addr)(H:Hp)(d:Option Addr)(fs:List (Str×MV)):Prop:=fs=[]∨ ∃dx gs od,d=some dx∧H dx=some (.frz od (.xd gs))∧DenF g.K α H fs gs
abbrev WE(g:Gm)(E:XK):XW:=fun c fs _ α H=> ∀C d,g.mg c=some (.ref C)→FsD g α H d fs→E (.ref C) d H
def zOB:MV→Bool
 | .non=>true
 | .bl _=>true
 | .int _=>true
 | .str _=>true
 | _=>false
theorem yCF{K:PySem.W.Frag}{α α':List Addr}{H:Hp}: ∀{d:MV}{v:V},zOB d=true→Den K α H d v→Den K α' H d v
 | .non,_,_,q=>by cases dI q;exact cR
 | .bl _,_,_,q=>by cases zBO q;exact xH _
 | .int _,_,_,q=>by cases jN q;exact xJ _
 | .str _,_,_,q=>by cases jW q;exact cS _
theorem zOC{K:PySem.W.Frag}{α α':List Addr}{H:Hp}: ∀{fs gs},fs.all (fun p=>zOB p.2)=true→DenF K α H fs gs→DenF K α' H fs gs
 | _,_,_,.nil=>.nil
 | _,_,h,.cons a l=>by
  rw [List.all_cons,Bool.and_eq_true]at h
  exact .cons (yCF h.1 a) (zOC h.2 l)
theorem Post.wmono{β τ:Type}[Dn β τ]{g:Gm}{W W':XW}{α:List Addr}{H:Hp}(f: ∀c fs S α' H',W c fs S α' H'→W' c fs S α' H'): ∀{m:R β}{Q:τ→Hp→Prop},Post g W α H m Q→Post g W' α H m Q
 | .ok b S,Q,q=>q
 | .exc c fs S,_,q=>fun α' H' x w=>f _ _ _ _ _ (q α' H' x w)
 | .no,_,q=>q
def XCl(K:PySem.W.Frag)(C:Addr)(bm:List Value)(init:Option Value):Prop:=
 ∃nm q N bs hd sn sub ab col dd k0 k1 k2 k3 k5,K.lookup C=some (excClassObj nm q C N bs bm hd sn sub ab col dd k0 k1 k2 k3 k5 "ValueError.__new__")∧PySem.W.nsOkIn K N=true∧PySem.W.nsIn K N "__init__"=some init∧(∀n∈qn,PySem.W.nsIn K N n=some none)∧hd=true
def XEach(K:PySem.W.Frag)(mg:Str→Option Value)(M:Addr):List (Str×Addr)→Prop
 | []=>True
 | (c,C)::r=>(mg c=some (.ref C)∧ ∃i,XCl K C (.ref M::bmV) i)∧XEach K mg M r
structure XTab(K:PySem.W.Frag)(mg:Str→Option Value)(M:Addr)(cs:List (Str×Addr)):Prop where
 m:mg "MendError"=some (.ref M)
 mc:XCl K M bmV none
 each:XEach K mg M cs
 nd:(M::cs.map (·.2)).Nodup
theorem XEach.at{K:PySem.W.Frag}{mg:Str→Option Value}{M:Addr}: ∀{cs:List (Str×Addr)},XEach K mg M cs→ ∀{c C},(c,C)∈cs→mg c=some (.ref C)∧ ∃i,XCl K C (.ref M::bmV) i
 | (c,C)::r,h,c',C',z=>by
  rcases List.mem_cons.mp z with z | z
  ·cases z;exact h.1
  ·exact XEach.at h.2 z
theorem zIU{K:PySem.W.Frag}{h:Heap}{C M:Addr}{i:Option Value}(X:K.In h)(c:XCl K C (.ref M::bmV) i)(m:XCl K M bmV none):zBM h C M:=by
 obtain⟨_,_,N,_,_,_,_,_,_,_,_,_,_,_,_,l,o,_,q⟩:=c
 obtain⟨_,_,N',_,_,_,_,_,_,_,_,_,_,_,_,l',o',_,q'⟩:=m
 exact⟨_,_,_,_,_,_,_,_,_,_,_,_,_,_,_,_,_,X _ _ l,.of_isNs (PySem.W.isNs_of_in X o),fun n hn=>PySem.W.nsMap_none_of_in X o (q.1 n hn),
  _,_,_,_,_,_,_,_,_,_,_,_,_,_,_,_,_,X _ _ l',.of_isNs (PySem.W.isNs_of_in X o'),fun n hn=>PySem.W.nsMap_none_of_in X o' (q'.1 n hn)⟩
section
variable{X:Cx}{E:XK}{e:Expr}{es:List Expr}{af:Rho→Sto→R (List Er)}{pos np cpos:Pos}{x:Str}{C M:Addr}
theorem yCG(hx:XOk X E)(hg:Gl X x)(hm:X.mg x=some (.ref C))(hc:XCl X.K C (.ref M::bmV) none)(hM:XCl X.K M bmV none)(ha:PAm X (WE X.g E) (e::es) af)(hex:X.ex=[]:=by rfl)(hcalm:X.calm=true:=by rfl)
  (hd:(x==("__debug__":Str))=false:=by decide) (he:starEach (e::es) X.env=(false,eval e X.env)::starEach es X.env:=by rfl) (hpl:(backTo cpos (starEach es X.env)).any (·.1)=false:=by rfl):
  PSm X (WE X.g E) (.Raise (some (.Call (.Name x np) (e::es) [] cpos)) none pos) (fun ρ S=>(af ρ S).bind fun rs S1=>if rs.length≤10 then .exc x [] S1 else .no):=by
 obtain⟨ta,ha,fa⟩:=ha
 refine⟨fun D σ H=>ta σ H fun vs H1=>vs.length≤10∧E (.ref C) none H1,fun pins s σ H D I h=>?_,fun α ρ S σ H D wd sl q=>fa α ρ S σ H _ wd sl (q.expr fun vs rs S1 α1 H1 e1 x1 w1 d1 q1=>?_)⟩
 ·obtain⟨nm,q,N,bs,hdt,sn,sub,ab,col,dd,k0,k1,k2,k3,k5,lC,oN,iN,_⟩:=hc
  obtain⟨_,_,N',_,_,_,_,_,_,_,_,_,_,_,_,lM,oM,iM,_⟩:=hM
  have XB:=I.mod.kin
  have hN:=Heap.Ns.of_isNs (PySem.W.isNs_of_in XB oN)
  have hni:=PySem.W.nsMap_none_of_in XB oN iN
  have T:OwnTail X.base bmV (.ref M::bmV):=.own (XB _ _ lM) (.of_isNs (PySem.W.isNs_of_in XB oM)) (PySem.W.nsMap_none_of_in XB oM iM) .base
  refine wpAny_Raise_call_subT (C:=C) (nm:=nm) (q:=q) (N:=N) (bs:=bs) (bm:=.ref M::bmV) (hdct:=hdt) (sn:=sn) (sub:=sub) (ab:=ab) (col:=col) (dd:=dd) (k0:=k0) (k1:=k1) (k2:=k2) (k3:=k3) (k5:=k5)
   F.excBase_ValueError (T.hasType F.excBase_ValueError.hasBase) (I.ok.hd hcalm) (by rw [he];exact hpl) hni (zAK I hg hm ⟨rfl,?_⟩ hd)
  have hr:=ha cpos pins s σ H _ I h
  rw [he]at hr ⊢
  refine Calls.evalArgs_plain (thn hr fun us s1 ⟨vs,H1,I1,r1,hl,hE⟩=>⟨rfl,by rw [←r1.length];exact Nat.le_trans hl (by decide),I1.bk _ _ (XB _ _ lC),hN.keeps I1.bk,T.keeps I1.bk,fun h' a mk=>?_⟩)
  obtain⟨t,ht,_,_⟩:=mk.there
  exact hx.born pins σ H1 _ a C none (I1.kept (t':=s1.toks) mk.keeps) ⟨_,_,ht,rfl,rfl,rfl,rfl⟩ (I1.older hex mk.new) (I1.hok.none_of mk.new) hE
 ·split at q1
  ·rename_i hl
   exact⟨by rw [ArgsE.length d1];exact hl,q1 α1 H1 x1 w1 C none hm (.inl rfl)⟩
  ·exact q1.elim
end
section
variable{X:Cx}{W:XW}{a:Expr}{f:Rho→Sto→R Er}{pos p p2:Pos}{M:Addr}{cs:List (Str×Addr)}{c2:Str}{D:Addr}
def zEE(ns:List Str)(c2:Str):Er→Sto→R Er
 | .val (.loc l),S=>match S[l]? with
  | some (.ins c _)=>if c∈ns then .ok (.val (.bl (decide (c=c2)))) S else .no
  | _=>.no
 | _,_=>.no
def yFE(ns:List Str):Er→Sto→R Er
 | .val (.loc l),S=>match S[l]? with
  | some (.ins c _)=>if c∈ns then .ok (.val (.bl true)) S else .no
  | _=>.no
 | _,_=>.no
def IsX(X:Cx)(M:Addr)(H:Hp)(x:V)(C:Addr):Prop:= ∃aa oe,x=.ref aa∧H aa=some (.ext fun h=>h.get? aa=some oe)∧oe.cls=.ref C∧(∃i,XCl X.K C (.ref M::bmV) i)∧XCl X.K M bmV none
theorem yFF:CallR X (.builtin "isinstance") (fun xs H Q=> ∃x C D,xs=[x,.ref D]∧IsX X M H x C∧(C=D∨(C≠D∧M≠D∧ ∃bm i,XCl X.K D bm i))∧Q (.bl (decide (C=D))) H):=by
 intro pins s σ H xs us Q I r h
 obtain⟨_,C,D,rfl,⟨aa,oe,rfl,hH,hc,⟨i,cC⟩,cM⟩,hD,q⟩:=h
 obtain⟨u1,us,r1,⟨u2,_,r2,r3,rfl⟩,rfl⟩: ∃u1 us',RelV (.ref aa) u1∧(∃u2 us'',RelV (.ref D) u2∧Vals [] us''∧us'=u2::us'')∧us=u1::us':=by
  cases r with
  | cons r1 r=>cases r with
   | cons r2 r=>exact⟨_,_,r1,⟨_,_,r2,r,rfl⟩,rfl⟩
 cases r1;cases r2;cases r3
 have ha:s.heap.get? aa=some oe:=(I.hok aa _ hH).1
 have O:=zIU I.kIn cC cM
 obtain⟨hp,g,d,tk,os⟩:=s
 rcases hD with rfl | ⟨n1,n2,bm,i2,cD⟩
 ·refine PyProof.Rows.call_isinstance_of (yBQ ha hc ⟨.bl true,H,I,rfl,?_⟩)
  simpa using q
 ·obtain⟨_,_,_,_,_,_,_,_,_,_,_,_,_,_,_,lD,_⟩:=cD
  obtain⟨oC,hC,hCc,hCd⟩:=yDU O
  refine PyProof.Rows.call_isinstance_of (yHS O ha hc (I.kIn _ _ lD) hC hCc hCd ?_ ⟨.bl false,H,I.tok _,rfl,?_⟩)
  ·simp only [List.contains_cons,List.contains_nil,Bool.or_eq_false_iff,beq_eq_false_iff_ne]
   exact⟨fun z=>n1 (by cases z;rfl),fun z=>n2 (by cases z;rfl),by simp,by simp,by simp,by simp,trivial⟩
  ·simpa [n1]using q
theorem yFG:CallR X (.builtin "isinstance") (fun xs H Q=> ∃x C,xs=[x,.ty "ValueError"]∧IsX X M H x C∧Q (.bl true) H):=by
 intro pins s σ H xs us Q I r h
 obtain⟨_,C,rfl,⟨aa,oe,rfl,hH,hc,⟨i,cC⟩,cM⟩,q⟩:=h
 obtain⟨u1,us,r1,⟨u2,_,r2,r3,rfl⟩,rfl⟩: ∃u1 us',RelV (.ref aa) u1∧(∃u2 us'',RelV (.ty "ValueError") u2∧Vals [] us''∧us'=u2::us'')∧us=u1::us':=by
  cases r with
  | cons r1 r=>cases r with
   | cons r2 r=>exact⟨_,_,r1,⟨_,_,r2,r,rfl⟩,rfl⟩
 cases r1;cases r2;cases r3
 have ha:s.heap.get? aa=some oe:=(I.hok aa _ hH).1
 have O:=zIU I.kIn cC cM
 obtain⟨hp,g,d,tk,os⟩:=s
 exact PyProof.Rows.call_isinstance_of (yHT O ha hc (by kernel_rfl) (by simp [List.contains_cons]) ⟨.bl true,H,I,rfl,q⟩)
theorem yAC{α:List Addr}{S:Sto}{H:Hp}{r:Er}{x:V}(T:XTab X.K X.mg M cs)(wd:Wd X.g α S H)(d:DenX X.K α H r x){l:Nat}{c:Str}{fs:List (Str×MV)}(e:r=.val (.loc l))(hl:S[l]? =some (.ins c fs))(hc:c∈cs.map (·.1)):
  ∃C,(c,C)∈cs∧IsX X M H x C:=by
 subst e
 obtain⟨aa,rfl,h⟩:=zAW d
 obtain⟨o,h1,C,gs,hm,hf,oe,hH,hcl,_⟩: ∃o,S[l]? =some o∧ObD X.g α H aa (.ins c fs):=⟨_,hl,wd.obj l aa _ h hl⟩
 obtain⟨⟨c',C'⟩,hm',rfl⟩:=List.mem_map.mp hc
 obtain⟨q1,q2⟩:=T.each.at hm'
 have:C=C':=by
  have z:X.mg c'=some (.ref C):=hm
  rw [q1]at z;cases z;rfl
 subst this
 exact⟨C,hm',aa,oe,rfl,hH,hcl,q2,T.mc⟩
theorem XTab.inj{K:PySem.W.Frag}{mg:Str→Option Value}(T:XTab K mg M cs){c c':Str}{C C':Addr}(h:(c,C)∈cs)(h':(c',C')∈cs)(hn:(cs.map (·.1)).Nodup):(C=C'↔c=c'):=by
 constructor
 ·rintro rfl
  have nd:=(List.nodup_cons.mp T.nd).2
  have: ∀(l:List (Str×Addr)),(l.map (·.2)).Nodup→(c,C)∈l→(c',C)∈l→c=c':=by
   intro l
   induction l with
   | nil=>intro _ z;simp at z
   | cons y r ih=>
    intro nd a b
    rw [List.map_cons,List.nodup_cons]at nd
    rcases List.mem_cons.mp a with a1 | a1<;>rcases List.mem_cons.mp b with b1 | b1
    ·rw [←b1]at a1;cases a1;rfl
    ·exact absurd (show y.2∈r.map (·.2)from by rw [←a1];exact List.mem_map.mpr ⟨(c',C),b1,rfl⟩) nd.1
    ·exact absurd (show y.2∈r.map (·.2)from by rw [←b1];exact List.mem_map.mpr ⟨(c,C),a1,rfl⟩) nd.1
    ·exact ih nd.2 a1 b1
  exact this cs nd h h'
 ·rintro rfl
  have a:=(T.each.at h).1
  rw [(T.each.at h').1]at a;cases a;rfl
theorem xN{ns:List Str}(T:XTab X.K X.mg M cs)(hn:(cs.map (·.1)).Nodup)(hD:(c2,D)∈cs)(hz:X.mg "isinstance"=none)(hg:Gl X "isinstance")(hg2:Gl X c2)(ha:PEm X W a f)(hns:cs.map (·.1)=ns:=by rfl)(hd:(c2==("__debug__":Str))=false:=by decide)
  (he:starEach [a,.Name c2 p2] X.env=(false,eval a X.env)::starEach [.Name c2 p2] X.env:=by rfl) (hp2:(backTo pos (starEach [.Name c2 p2] X.env)).any (·.1)=false:=by rfl):
  PEm X W (.Call (.Name "isinstance" p) [a,.Name c2 p2] [] pos) (fun ρ S=>(f ρ S).bind (zEE ns c2)):=by
 subst hns
 obtain⟨ta,ha,fa⟩:=ha
 have mD:=(T.each.at hD).1
 refine⟨_,zNB (yFF (M:=M)) hg hz PyProof.Rows.boot_isinstance (zAL ha (zAL (zRK (v:=.ref D) hg2 mD rfl hd) zMZ) he) (by decide) (by decide) he hp2,fun α ρ S σ H Q wd sl q=>fa α ρ S σ H _ wd sl (q.bind fun u r S1 α1 H1 e1 x1 w1 d1 q1=>?_)⟩
 replace q1:=q1.shift x1
 unfold zEE at q1
 split at q1
 ·rename_i l
  split at q1
  ·rename_i c fs hl
   split at q1
   ·rename_i hc
    obtain⟨C,hC,ix⟩:=yAC T w1 d1.1 rfl hl hc
    refine⟨u,C,D,rfl,ix,?_,?_⟩
    ·by_cases z:C=D
     ·exact .inl z
     ·exact .inr ⟨z,fun y=>(List.nodup_cons.mp T.nd).1 (by rw [y];exact List.mem_map.mpr ⟨_,hD,rfl⟩),_,(T.each.at hD).2⟩
    ·have e2:decide (C=D)=decide (c=c2):=decide_eq_decide.mpr (T.inj hC hD hn)
     rw [e2]
     exact Post.val q1 w1 (xH _)
   ·exact q1.elim
  ·exact q1.elim
 ·exact q1.elim
theorem yMV{ns:List Str}(T:XTab X.K X.mg M cs)(hz:X.mg "isinstance"=none)(hz2:X.mg "ValueError"=none)(hg:Gl X "isinstance")(hg2:Gl X "ValueError")(ha:PEm X W a f)(hns:cs.map (·.1)=ns:=by rfl)
  (he:starEach [a,.Name "ValueError" p2] X.env=(false,eval a X.env)::starEach [.Name "ValueError" p2] X.env:=by rfl) (hp2:(backTo pos (starEach [.Name "ValueError" p2] X.env)).any (·.1)=false:=by rfl):
  PEm X W (.Call (.Name "isinstance" p) [a,.Name "ValueError" p2] [] pos) (fun ρ S=>(f ρ S).bind (yFE ns)):=by
 subst hns
 obtain⟨ta,ha,fa⟩:=ha
 refine⟨_,zNB (yFG (M:=M)) hg hz PyProof.Rows.boot_isinstance (zAL ha (zAL (zZB (v:=.ty "ValueError") hg2 hz2 (by decide+kernel) rfl (by decide) (by decide)) zMZ) he) (by decide) (by decide) he hp2,fun α ρ S σ H Q wd sl q=>fa α ρ S σ H _ wd sl (q.bind fun u r S1 α1 H1 e1 x1 w1 d1 q1=>?_)⟩
 replace q1:=q1.shift x1
 unfold yFE at q1
 split at q1
 ·rename_i l
  split at q1
  ·rename_i c fs hl
   split at q1
   ·rename_i hc
    obtain⟨C,hC,ix⟩:=yAC T w1 d1.1 rfl hl hc
    exact⟨u,C,rfl,ix,Post.val q1 w1 (xH _)⟩
   ·exact q1.elim
  ·exact q1.elim
 ·exact q1.elim
end
def spX(g:Gm)(n:Nat)(F:List MV→Sto→R Er):Sp:=fun vs H Q E=> ∃α S ds,Wd g α S H∧DenL g.K α H ds vs∧ds.length=n∧Post g (WE g E) α H (F ds S) Q
noncomputable def jM(n:Nat)(F:List MV→Sto→R Er)(rs:List Er)(S:Sto):R Er:=if rs.length=n then(match F (zY rs S).1 (zY rs S).2 with
 | .ok r S2=>zDX S r S2
 | .exc c fs S2=>if fs.all (fun p=>zOB p.2)=true then(zDX S (.val .non) S2).bind fun _ S3=>.exc c fs S3 else .no
 | .no=>.no)else .no
section
variable{X:Cx}{E:XK}{e:Expr}{es:List Expr}{af:Rho→Sto→R (List Er)}{pos:Pos}
theorem zOD{n:Nat}{F:List MV→Sto→R Er}{rs:List Er}{vs:List V}{α α1:List Addr}{H H1:Hp}{S1:Sto}{Q:VK}(x1:Ext α H α1 H1)(w1:Wd X.g α1 S1 H1)(d1:ArgsE X.K H α1 H1 rs vs)(q:Post X.g (WE X.g E) α H (jM n F rs S1) Q):
  spX X.g n F vs H1 Q E:=by
 unfold jM at q
 split at q
 ·rename_i hl
  obtain⟨α2,x2,y2,w2,l2⟩:=zBP w1 x1 d1
  refine⟨α2,_,_,w2,l2,by rw [zFU];exact hl,?_⟩
  cases z:F (zY rs S1).1 (zY rs S1).2 with
  | ok r S3=>
   rw [z]at q
   intro v α3 H3 x3 w3 d3
   obtain⟨r',S',α',e',x',w',d'⟩:=zSC x1 w1 y2.pre x2 x3 w3 d3
   have q:Post X.g (WE X.g E) α H (zDX S1 r S3) Q:=q
   rw [e']at q
   exact q v α' H3 x' w' d'
  | exc c fs S3=>
   rw [z]at q
   dsimp only at q
   split at q
   ·rename_i hp
    intro α3 H3 x3 w3 C d hC hf
    obtain⟨r',S',α',e',x',w',d'⟩:=zSC (r:=.val .non) (v:=.non) x1 w1 y2.pre x2 x3 w3 (DenE.val cR)
    rw [e']at q
    exact q α' H3 x' w' C d hC (hf.imp id fun⟨dx,gs,od,h1,h2,h3⟩=>⟨dx,gs,od,h1,h2,zOC hp h3⟩)
   ·exact q.elim
  | no=>rw [z]at q;exact q.elim
 ·exact q.elim
theorem yFH{k n:Nat}{fa:Addr}{fd:FuncData}{ps:List Str}{F:List MV→Sto→R Er}{x:Str}{p:Pos}(hx:XOk X E)(G:FnOk X.prog X.w X.K X.mg X.base (CXe X.prog X.w) k fa fd ps (spX X.g n F))(hr:Room k X.A)(hg:Gl X x)(hm:X.mg x=some (.ref fa))
  (hk:PySem.W.keepIn X.K (.ref fa)=true) (hb:Binds X.K fd ps []) (ha:PAm X (WE X.g E) (e::es) af) (hdb:(x==("__debug__":Str))=false:=by decide)
  (he:starEach (e::es) X.env=(false,eval e X.env)::starEach es X.env:=by rfl) (hpl:(backTo pos (starEach es X.env)).any (·.1)=false:=by rfl):
  PEm X (WE X.g E) (.Call (.Name x p) (e::es) [] pos) (fun ρ S=>(af ρ S).bind fun rs S1=>jM n F rs S1):=by
 obtain⟨t,ha,kk⟩:=ha
 refine⟨_,zZF G hr hg hm hk hb .nil hx.pass ha hdb he hpl,fun α ρ S σ H Q wd sl q=>kk α ρ S σ H _ wd sl (q.bind fun vs rs S1 α1 H1 e1 x1 w1 d1 q1=>?_)⟩
 rw [List.append_nil]
 exact zOD x1 w1 d1 q1
end
section
variable{P:Program}{w:World}{K:PySem.W.Frag}{mg:Str→Option Value}{base:Heap}
theorem okX{x qual:Str}{st:Stmt}{f:Addr}{fd:FuncData}{N ps:List Str}{k:Nat}(Fb:Rho→Sto→R Fl)(F:Fun K x qual st f fd)(Sc:FnScope N ps (zG st))
  (hbody: ∀(cdv:Value)(A:Around)(outer:List Env)(s:Shared)(H:Hp)(E:XK),Room k (A.deeper (envOfC qual (zG st) s.heap.objs.size f cdv))→
   zKA (zNA (CXe P w) P w K mg base N qual (zG st) f cdv A outer s H E) (WE ⟨K,mg,P,w⟩ E) (wG st) Fb):
  FnOk P w K mg base (CXe P w) (k+1) f fd ps (spX ⟨K,mg,P,w⟩ ps.length fun ds S=>yO (Fb (zS N ds) S)):=by
 obtain⟨oc,od,kV,doc,pm,an,cdv,ct,osl,rfl,lk,hcd⟩:=F.ex
 refine yJW lk hcd Sc (fun vs H Q E h=>?_) fun A outer s H vs Q E hr h=>?_
 ·obtain⟨α,S,ds,_,l,hl,_⟩:=h
  rw [l.length,hl]
 ·obtain⟨α,S,ds,wd,l,hl,q⟩:=h
  obtain⟨t,ht,kk⟩:=hbody cdv A outer s H E hr
  refine⟨t,ht,kk α (zS N ds) S (start N vs) H _ wd (zEO l) ?_⟩
  dsimp only at q
  cases z:Fb (zS N ds) S with
  | ok fl S'=>
   rw [z]at q
   cases fl with
   | next ρ=>exact fun σ α' H' x' w' s'=>q .non α' H' x' w' (DenE.val cR)
   | ret r=>exact fun v α' H' x' w' d'=>q v α' H' x' w' d'
   | brk ρ=>exact q.elim
   | cont ρ=>exact q.elim
  | exc c fs S'=>rw [z]at q;exact fun α' H' x' w'=>q α' H' x' w'
  | no=>rw [z]at q;exact q
theorem _root_.L2.FnOk.noX{k n:Nat}{f:Addr}{fd:FuncData}{ps:List Str}{g:Gm}{F:List MV→Sto→R Er}(G:FnOk P w K mg base (CXe P w) k f fd ps (spX g n F)):FnOk P w K mg base CX0 k f fd ps (spM g n F):=by
 have up: ∀{vs H Q}, ∀{E},spM g n F vs H Q E→spX g n F vs H Q E0:=fun⟨α,S,ds,h1,h2,h3,h4⟩=>⟨α,S,ds,h1,h2,h3,h4.wmono fun _ _ _ _ _ z=>z.elim⟩
 refine⟨fun vs H Q E h=>G.len vs H Q E0 (up h),fun A outer s H args us vs Q E hr e0 hb hv h=>codeAny_mono (G.run A outer s H args us vs Q E0 hr e0 hb hv (up h)) fun r s' hq=>?_⟩
 cases r with
 | error e=>
  obtain⟨_,_,_,_,_,_,_,_,_,_,_,_,_,_,_,z⟩:=hq
  exact z
 | ok fl=>cases fl<;>exact hq
end
end M
end L2
namespace L2
open PySem PySem.Spec PyProof.Rows
structure Out(X:Cx)(pins:List (Addr×Obj))(H:Hp)(s:Shared)(b:Addr):Prop where
 s0:X.s₀.heap.get? b=none
 h:H b=none
 pin: ∀p∈X.pn++pins,p.1≠b
 fld: ∃o vs,s.heap.get? b=some o∧o.data=.fields vs
section
variable{X:Cx}{pins:List (Addr×Obj)}{σ:St}{H:Hp}{s:Shared}{e T b:Addr}{h':Heap}
theorem Out.ne(o:Out X pins H s b){c:Addr}{oc:Obj}(hc:s.heap.get? c=some oc)(nf: ∀vs,oc.data≠.fields vs):c≠b:=fun z=>by
 obtain⟨ob,vs,h1,h2⟩:=o.fld
 rw [z,h1]at hc;cases hc
 exact nf vs h2
theorem Out.loc(o:Out X pins H s b)(I:Inv X pins σ H s):X.env.locals≠b:=by
 obtain⟨m,⟨oL,es,ep,h1,h2,_⟩,_⟩:=I.loc
 exact o.ne h1 fun vs z=>by rw [h2]at z;cases z
theorem Out.cell(o:Out X pins H s b)(I:Inv X pins σ H s){x:Str}{c:Addr}(hc:X.env.cells.lookup x=some c):c≠b:=by
 obtain⟨v,oc,h1,h2⟩:=I.cell x c hc
 exact o.ne h1 fun vs z=>by rw [h2]at z;cases z
theorem Inv.mvd(J:Inv X pins σ H s)(hex:X.ex=[])(m:Mvd (frs X.stack) e T s.heap h')(oe:Out X pins H s e)(oT:Out X pins H s T):Inv X pins σ H {s with heap:=h'}:=by
 obtain⟨u,hok⟩:=J.moved hex m oe.s0 oT.s0 oe.h oT.h
 have ns: ∀mm,s.heap.Ns X.env.locals mm→h'.Ns X.env.locals mm:=fun mm hn=>by
  obtain⟨o,es,ep,ho,r⟩:=hn
  obtain⟨sl,e1⟩:=m.slot _ o (oe.loc J) (oT.loc J) ho
  exact⟨_,es,ep,e1,r⟩
 have cell: ∀x c,X.env.cells.lookup x=some c→ ∀v,s.heap.IsCell c v→h'.IsCell c v:=fun x c hc v hv=>by
  obtain⟨o,ho,hd⟩:=hv
  obtain⟨sl,e1⟩:=m.slot c o (oe.cell J hc) (oT.cell J hc) ho
  exact⟨_,e1,hd⟩
 refine⟨J.ok,J.os,J.bare,by rw [hex];exact u,?_,fun x c hc=>?_,J.free,J.freeC,fun p hp=>?_,hok,J.len⟩
 ·obtain⟨mm,hn,hl⟩:=J.loc
  refine⟨mm,ns mm hn,fun i x v e1 e2 e3=>?_⟩
  obtain⟨u,r,l⟩:=hl i x v e1 e2 e3
  exact⟨u,r,l.imp id fun⟨k,c,hc,z⟩=>⟨k,c,hc,cell x c hc _ z⟩⟩
 ·obtain⟨v,z⟩:=J.cell x c hc
  exact⟨v,cell x c hc v z⟩
 ·obtain⟨e1,n,ne,nf,dd⟩:=J.pin p hp
  refine⟨m.keep p.1 p.2 (oe.pin p hp) (oT.pin p hp) (fun z=>?_) e1,n,ne,nf,dd⟩
  rcases List.mem_cons.mp (J.stkSub _ z)with z | z
  ·exact ne z
  ·exact nf z
theorem Inv.track{ob:Obj}(J:Inv X pins σ H s)(o:Out X pins H s e)(he:s.heap.get? e=some ob):Inv X pins σ (upd H e (.ext fun h=>h.get? e=some ob)) s:=by
 refine⟨J.ok,J.os,J.bare,⟨J.base.keep,J.base.slot,fun b ob' q n hx=>?_,J.base.there,fun b xs q=>?_,fun b o' u q=>?_,fun b ps q=>?_⟩,J.loc,J.cell,?_,fun x c hc=>?_,fun p hp=>?_,fun b u q=>?_,J.len⟩
 ·rw [zP fun z=>by rw [z,o.s0]at q;cases q]
  exact J.base.free b ob' q n hx
 ·rw [zP (yF (J.base.tups b xs q) o.h)];exact J.base.tups b xs q
 ·rw [zP (yF (J.base.frzs b o' u q) o.h)];exact J.base.frzs b o' u q
 ·obtain⟨mo,z⟩:=J.base.tbls b ps q
  exact⟨mo,by rw [zP (yF z o.h)];exact z⟩
 ·rw [zP (o.loc J)];exact J.free
 ·rw [zP (o.cell J hc)];exact J.freeC x c hc
 ·obtain⟨e1,n,ne,nf,dd⟩:=J.pin p hp
  exact⟨e1,by rw [zP (o.pin p hp)];exact n,ne,nf,dd⟩
 ·by_cases z:b=e
  ·subst z
   rw [zZ]at q
   cases q
   exact⟨he,⟨ob,he⟩,fun h1 h2 p k=>k _ p⟩
  ·rw [zP z]at q
   exact(J.hok b u q).stay (fun _ _ _ r=>r) (fun c r=>by rw [zP (yF r o.h)];exact r) fun c xs r=>by rw [zP (yF r o.h)];exact r
abbrev Cx.inH(X:Cx)(v:Value):Cx:={X with A:=X.A.mark (some v),calm:=false,xe:=fun _ _=>False}
theorem Cx.Ok.inH(ok:X.Ok)(v:Value):(X.inH v).Ok:=⟨ok.mod,ok.kind,ok.glob,ok.blt,ok.above,ok.inj,ok.has,ok.cab,fun z=>(by cases z),ok.frames,ok.stk,ok.exf,ok.bs,ok.bsz,ok.noex,ok.exfs,ok.funs,ok.frf⟩
theorem Inv.inH(I:Inv X pins σ H s)(v:Value):Inv (X.inH v) pins σ H s:=⟨I.ok.inH v,I.os,I.bare,I.base,I.loc,I.cell,I.free,I.freeC,I.pin,I.hok,I.len⟩
theorem Inv.outH{v:Value}(ok:X.Ok)(I:Inv (X.inH v) pins σ H s):Inv X pins σ H s:=⟨ok,I.os,I.bare,I.base,I.loc,I.cell,I.free,I.freeC,I.pin,I.hok,I.len⟩
theorem name_goes{M:Model}{A:Around}{E:Value→Shared→Prop}{i:Nat}{x:Str}{pos:Pos}{Q:Unit→Shared→Prop}(I:Inv X pins σ H s)(hN:X.N.Nodup)(hi:X.N[i]? =some x)(hk:X.env.kindOf x=some .local)
  (h: ∀s',Inv X pins (σ.set i none) H s'→Q () s'):wpAny M A (do bindName X.env x .none;unbindBehindTheSuite X.env x pos) Q E s:=by
 obtain⟨m,hn,hl⟩:=id I.loc
 have hcls:(X.env.scope.kind==.class || (X.env.scope.kind==.module&&X.env.locals !=X.env.globals))=false:=by rw [I.ok.kind];rfl
 refine wpAny_nameGoes_keeps hk hn hcls fun h' v hn' hs=>h _ ?_
 have keep: ∀b o,b≠X.env.locals→s.heap.get? b=some o→h'.get? b=some o:=fun b o z q=>(hs.2 b z).trans q
 have neL: ∀b o,X.s₀.heap.get? b=some o→b≠X.env.locals:=fun b o e=>Nat.ne_of_lt (Nat.lt_of_lt_of_le (Heap.lt_size e) I.ok.above)
 obtain⟨oL',_,_,hL',_⟩:=id hn'
 have there: ∀b o,s.heap.get? b=some o→ ∃o',h'.get? b=some o':=fun b o q=>by
  by_cases z:b=X.env.locals
  ·rw [z];exact⟨_,hL'⟩
  ·exact⟨o,keep b o z q⟩
 refine⟨I.ok,I.os,I.bare,⟨fun b o e n hb hx=>keep b o (neL b o e) (I.base.keep b o e n hb hx),fun b o e n hb hx=>?_,I.base.free,fun b o e hx=>?_,I.base.tups,I.base.frzs,I.base.tbls⟩,⟨_,hn',fun j y v' e1 e2 e3=>?_⟩,fun y c e=>?_,I.free,I.freeC,fun p hp=>?_,fun b u q=>?_,by rw [List.length_set];exact I.len⟩
 ·obtain⟨sl,e1⟩:=I.base.slot b o e n hb hx
  exact⟨sl,keep b _ (neL b o e) e1⟩
 ·obtain⟨o',e1⟩:=I.base.there b o e hx
  exact there b o' e1
 ·have hj:j≠i:=fun z=>by
   subst z
   by_cases hl:j<σ.length
   ·rw [List.getElem?_set_self hl]at e2;cases e2
   ·rw [List.getElem?_eq_none (by rw [List.length_set];omega)]at e2;cases e2
  rw [List.getElem?_set_ne (Ne.symm hj)]at e2
  obtain⟨u,r,q⟩:=hl j y v' e1 e2 e3
  refine⟨u,r,?_⟩
  have hy:y≠x:=fun z=>hj (zMU hN e1 (z▸hi))
  rcases q with⟨k,q⟩ | ⟨k,c,e,z⟩
  ·exact .inl ⟨k,by simp [hy,q]⟩
  ·exact .inr ⟨k,c,e,z.sameBut hs (I.cne y c e)⟩
 ·obtain⟨w',z⟩:=I.cell y c e
  exact⟨w',z.sameBut hs (I.cne y c e)⟩
 ·obtain⟨e,n,ne,nf,dd⟩:=I.pin p hp
  exact⟨keep p.1 p.2 ne e,n,ne,nf,dd⟩
 ·refine(I.hok b u q).stay (fun c w' hc r=>keep c w' (fun z=>?_) r) (fun _ q=>q) fun _ _ q=>q
  have: ∃y,H c=some y:=by
   rcases hc with rfl | hc
   ·exact⟨_,q⟩
   ·exact⟨_,hc⟩
  obtain⟨y,hy⟩:=this
  rw [z,I.free]at hy;cases hy
end
theorem tc_nt:isSubtype (.type "type") (.type "tuple")=pure false:=by rw [isSubtype_type];kernel_rfl
theorem zXS{Mo:Model}{A:Around}{E:Value→Shared→Prop}{h:Heap}{g:Array GenState}{d:Drawn}{t:Nat}{os:OsState}{C M e:Addr}{oe:Obj}{Q:Bool→Shared→Prop}(O:zBM h C M)(he:h.get? e=some oe)(hc:oe.cls=.ref C)
  (hq:Q true ⟨h,g,d,t,os⟩):wpAny Mo A (excMatches (.ref e) (.ref M)) Q E ⟨h,g,d,t,os⟩:=by
 have hb:(Value.ref C::.ref M::bmV).contains (.ref M)=true:=by simp [List.contains_cons]
 have f:=tc_nt
 have O':=O
 obtain⟨_,_,_,_,_,_,_,_,_,_,_,_,_,_,_,_,_,_,_,_,_,_,_,_,_,_,_,_,_,_,_,_,_,_,_,_,_,hM,_⟩:=O
 have hm:(Value.ref M::bmV).contains (.type "BaseException")=true:=by simp [List.contains_cons]
 unfold excMatches
 repeat (first | (with_reducible refine wpAny_loadPart_at he ?_;rw [hc]) | with_reducible refine wpAny_loadPart_at hM ?_ | (with_reducible refine zBN O' ?_;rw [hb]) | (with_reducible refine wpAny_isSubtype_exc hM ?_;rw [hm]) | wp_step)
 exact hq
end L2
namespace L2
namespace M
open PySem PySem.Spec PyProof.Rows
theorem Slots.unset{K:PySem.W.Frag}{α:List Addr}{H:Hp}{ρ:Rho}{σ:St}(q:Slots K α H ρ σ)(i:Nat):Slots K α H (ρ.set i none) (σ.set i none):=by
 refine⟨by rw [List.length_set,List.length_set];exact q.len,fun j d e=>?_⟩
 rcases zZM e with⟨_,z,_⟩ | ⟨hj,e'⟩
 ·cases z
 ·obtain⟨v,h1,h2⟩:=q.slot j d e'
  exact⟨v,by rw [List.getElem?_set_ne (Ne.symm hj)];exact h1,h2⟩
def endF(i:Nat):Fl→Sto→R Fl
 | .next ρ,S=>.ok (.next (ρ.set i none)) S
 | .ret r,S=>.ok (.ret r) S
 | .brk ρ,S=>.ok (.brk (ρ.set i none)) S
 | .cont ρ,S=>.ok (.cont (ρ.set i none)) S
def yFI(ns:List Str)(i:Nat)(kn:Er→Sto→R Fl)(Fh:Rho→Sto→R Fl)(ρ:Rho):R Er→R Fl
 | .ok r S=>kn r S
 | .exc c fs S=>if c∈ns then(noX (Fh (ρ.set i (some (.loc S.length))) (S++[.ins c fs]))).bind (endF i)else .no
 | .no=>.no
theorem PostS.exprX{β τ:Type}[Dn β τ]{g:Gm}{W:XW}{α:List Addr}{H:Hp}{D:Ends}{m:R β}{k:β→Sto→R Fl}{Q':τ→Hp→Prop}(q:PostS g W α H D ((noX m).bind k))
  (f: ∀u b S1 α1 H1,m=.ok b S1→Ext α H α1 H1→Wd g α1 S1 H1→Dn.d g H α1 S1 H1 b u→PostS g W α H D (k b S1)→Q' u H1):Post g W0 α H m Q':=by
 cases m with
 | ok b S=>exact fun u α1 H1 x w d=>f u b S α1 H1 rfl x w d q
 | exc c fs S=>exact q.elim
 | no=>exact q
def E2(X:Cx)(W:XW)(ns:List Str)(i:Nat)(Fh:Rho→Sto→R Fl)(ρ:Rho)(α:List Addr)(H:Hp)(D:Ends):XK:=fun cls d H'=> ∃c fs S2 α' C,cls=.ref C∧X.mg c=some (.ref C)∧Ext α H α' H'∧Wd X.g α' S2 H'∧FsD X.g α' H' d fs∧
 PostS X.g W α H D (if c∈ns then(noX (Fh (ρ.set i (some (.loc S2.length))) (S2++[.ins c fs]))).bind (endF i)else .no)
section
variable{X:Cx}{W:XW}{M:Addr}{cs:List (Str×Addr)}{pins:List (Addr×Obj)}{σ:St}{H H1:Hp}{s s1 s':Shared}{i:Nat}{nm:Str}{Fh:Rho→Sto→R Fl}{ρ:Rho}{α:List Addr}{D:Ends}{b0:Stmt}{suite:List Stmt}{mp hpos:Pos}
theorem caught(T:XTab X.K X.mg M cs)(hgm:Gl X "MendError")(hN:X.N.Nodup)(hi:X.N[i]? =some nm)(hk:X.env.kindOf nm=some .local)(hsuite: ∀v,zKA (X.inH v) W0 (b0::suite) Fh)(hex:X.ex=[])(hstk:X.stack=X.env::X.outer)(hfm:X.env.frame=some X.env.locals)
  (sl:Slots X.K α H ρ σ) (I1:Inv X pins σ H1 s1) {x:Value} (hq:CXe X.prog X.w X.stack H1 s1 (E2 X W (cs.map (·.1)) i Fh ρ α H D) x s'):
  wpAny (model X.prog X.w) X.A (noteFrame x X.env) (fun _ s₂=>wpAny (model X.prog X.w) X.A (setFlight x none) (fun _ s₃=>wpAny (model X.prog X.w) X.A (handleBy x X.env [.ExceptHandler (some (.Name "MendError" mp)) (some nm) (b0::suite) hpos]) (SP X pins D) X.xe s₃) X.xe s₂) X.xe s':=by
 obtain⟨e,Tb,C,d,H',rfl,os,bare,un,hok,fl,ne,nT,he,hT,c,fs,S2,α',C',eC,hmc,xx,w2,hf,q⟩:=hq
 cases eC
 split at q
 ·rename_i hcn
  have J:Inv X pins σ H' s':=I1.call' (ch:=[]) os un hok bare (fun _ z=>nomatch z)
  have hfr:X.A.frames=some (X.env::X.outer):=by rw [←hstk];exact J.ok.frames
  have hl:s'.heap.FunFrames X.base (X.env::X.outer):=by rw [←hstk];exact J.stack
  have oe:Out X pins H' s' e:=by
   obtain⟨ob,vs,_,_,h1,_,_,h2,_⟩:=id fl
   exact⟨I1.older hex ne,he,fun p hp z=>(by have:=(I1.pin p hp).1;rw [z,ne]at this;cases this),ob,vs,h1,h2⟩
  have oT:Out X pins H' s' Tb:=by
   obtain⟨_,_,ob,ts,_,_,_,_,_,_,h1,h2,_⟩:=id fl
   exact⟨I1.older hex nT,hT,fun p hp z=>(by have:=(I1.pin p hp).1;rw [z,nT]at this;cases this),ob,ts,h1,h2⟩
  refine zQP hfr hl hfm fl fun h3 T3 n3 m3 f3=>?_
  rw [←hstk]at m3
  have J3:=J.mvd hex m3 oe oT
  have oe3:Out X pins H' {s' with heap:=h3} e:=by
   obtain⟨ob,vs,_,_,h1,_,_,h2,_⟩:=id f3
   exact⟨oe.s0,oe.h,oe.pin,ob,vs,h1,h2⟩
  have oT3:Out X pins H' {s' with heap:=h3} T3:=by
   obtain⟨_,_,ob,ts,_,_,_,_,_,_,h1,h2,_⟩:=id f3
   exact⟨J.older hex n3,J.hok.none_of n3,fun p hp z=>(by have:=(J.pin p hp).1;rw [z,n3]at this;cases this),ob,ts,h1,h2⟩
  refine zAO (env:=X.env) (outer:=X.outer) f3 fun h4 m4 f4=>?_
  rw [←hstk]at m4
  have J4:=J3.mvd hex m4 oe3 oT3
  have oe4:Out X pins H' {s' with heap:=h4} e:=by
   obtain⟨ob,vs,_,_,h1,_,_,h2,_⟩:=id f4
   exact⟨oe.s0,oe.h,oe.pin,ob,vs,h1,h2⟩
  have oT4:Out X pins H' {s' with heap:=h4} T3:=by
   obtain⟨_,_,ob,ts,_,_,_,_,_,_,h1,h2,_⟩:=id f4
   exact⟨oT3.s0,oT3.h,oT3.pin,ob,ts,h1,h2⟩
  have cls: ∃i,XCl X.K C (.ref M::bmV) i:=by
   obtain⟨⟨c',C'⟩,hm',rfl⟩:=List.mem_map.mp hcn
   obtain⟨q1,q2⟩:=T.each.at hm'
   have:C=C':=by rw [hmc]at q1;cases q1;rfl
   rw [this];exact q2
  obtain⟨ini,cC⟩:=cls
  refine wpAny_handleBy_cons (codeAny_handlers_test (zAK (X:=X.inH (.ref e)) (J4.inH (.ref e)) hgm T.m ?_)) (by intro z;cases z)
  obtain⟨ob4,_,_,_,he4,hc4,_⟩:=id f4
  refine zXS (zIU J4.kIn cC T.mc) he4 hc4 ?_
  refine codeAny_handlers_suite_as ?_
  refine zAO (env:=X.env) (outer:=X.outer) (s:={s' with heap:=h4}) f4 fun h5 m5 f5=>?_
  rw [←hstk]at m5
  have J5:=J4.mvd hex m5 oe4 oT4
  obtain⟨ob,vs,_,_,h1,hcl,hdx,h2,_⟩:=id f5
  have oe5:Out X pins H' {s' with heap:=h5} e:=⟨oe.s0,oe.h,oe.pin,ob,vs,h1,h2⟩
  have J6:=J5.track oe5 h1
  have xw:=w2.put (ho:=.ext fun h=>h.get? e=some ob) (m:=.ins c fs) oe.h (by
   rcases hf with rfl | ⟨dx,gs,od,hd1,hd2,hd3⟩
   ·exact⟨C,[],hmc,.nil,ob,zZ,hcl,.inl rfl⟩
   ·have xx0:Ext α' H' α' (upd H' e (.ext fun h=>h.get? e=some ob)):=w2.newx oe.h
    exact⟨C,gs,hmc,(hd3.ex0 xx0.toEx0).ex0 (Ex0.grow _ _ _),ob,zZ,hcl,.inr ⟨dx,od,hdx.trans hd1,(by rw [zP (yF hd2 oe.h)];exact hd2),vs,h2⟩⟩)
  refine zMV (X:=X.inH (.ref e)) (J6.inH (.ref e)) hN hi (.inl hk) (v:=.ref e) rfl (fun s7 J7=>?_) (.inr hk)
  obtain⟨th,hth,kh⟩:=hsuite (.ref e)
  let D':Ends:={nx:=fun σ H=>D.nx (σ.set i none) H,rt:=D.rt,bk:=fun σ H=>D.bk (σ.set i none) H,ct:=fun σ H=>D.ct (σ.set i none) H}
  have q':PostS X.g W (α'++[e]) (upd H' e (.ext fun h=>h.get? e=some ob)) D _:=PostS.shift (xx.trans xw.1) q
  have ht:th D' (σ.set i (some (.ref e))) (upd H' e (.ext fun h=>h.get? e=some ob)):=by
   refine kh (α'++[e]) (ρ.set i (some (.loc S2.length))) (S2++[.ins c fs]) _ _ D' xw.2 (((sl.ext xx).ext xw.1).set (zIE (by rw [←w2.len,List.getElem?_append_right (Nat.le_refl _),Nat.sub_self];rfl))) ?_
   cases z:Fh (ρ.set i (some (.loc S2.length))) (S2++[.ins c fs])with
   | ok fl S8=>
    rw [z]at q'
    cases fl with
    | next ρ8=>exact fun σ8 α8 H8 x8 w8 s8=>q' (σ8.set i none) α8 H8 x8 w8 (s8.unset i)
    | ret r8=>exact fun v8 α8 H8 x8 w8 d8=>q' v8 α8 H8 x8 w8 d8
    | brk ρ8=>exact fun σ8 α8 H8 x8 w8 s8=>q' (σ8.set i none) α8 H8 x8 w8 (s8.unset i)
    | cont ρ8=>exact fun σ8 α8 H8 x8 w8 s8=>q' (σ8.set i none) α8 H8 x8 w8 (s8.unset i)
   | exc c8 fs8 S8=>rw [z]at q';exact q'.elim
   | no=>rw [z]at q';exact q'.elim
  refine wpAny_mono (hth pins s7 _ _ D' J7 ht) (fun f s8 hs=>?_) fun _ _ z=>z.elim
  show wpAny _ _ _ _ _ _
  cases f with
  | next=>
   obtain⟨σ8,H8,I8,q8⟩:=hs
   exact name_goes (I8.outH J.ok) hN hi hk fun s9 I9=>⟨_,H8,I9,q8⟩
  | brk=>
   obtain⟨σ8,H8,I8,q8⟩:=hs
   exact name_goes (I8.outH J.ok) hN hi hk fun s9 I9=>⟨_,H8,I9,q8⟩
  | cont=>
   obtain⟨σ8,H8,I8,q8⟩:=hs
   exact name_goes (I8.outH J.ok) hN hi hk fun s9 I9=>⟨_,H8,I9,q8⟩
  | ret u=>
   obtain⟨v8,σ8,H8,I8,r8,q8⟩:=hs
   exact name_goes (I8.outH J.ok) hN hi hk fun s9 I9=>⟨v8,_,H8,I9,r8,q8⟩
 ·exact q.elim
end
section
variable{X:Cx}{W:XW}{M:Addr}{cs:List (Str×Addr)}{i:Nat}{nm:Str}{Fh:Rho→Sto→R Fl}{b0:Stmt}{suite:List Stmt}{mp hpos cpos epos pos p:Pos}{e:Expr}{es:List Expr}{af:Rho→Sto→R (List Er)}{k n:Nat}{fa:Addr}{fd:FuncData}{ps:List Str}{F:List MV→Sto→R Er}{x:Str}
theorem yFJ{pins:List (Addr×Obj)}{σ:St}{H:Hp}{s:Shared}{Q:VK}{E:XK}{Ex:Value→Shared→Prop}{ta:TA}(G:FnOk X.prog X.w X.K X.mg X.base (CXe X.prog X.w) k fa fd ps (spX X.g n F))(hr:Room k X.A)(hg:Gl X x)(hm:X.mg x=some (.ref fa))(hk:PySem.W.keepIn X.K (.ref fa)=true)(hb:Binds X.K fd ps [])
  (ha:PA X.nox (e::es) ta) (I:Inv X pins σ H s) (ht:ta σ H fun vs H1=>spX X.g n F vs H1 Q E) (hx: ∀H1 s1 x s',Inv X pins σ H1 s1→CXe X.prog X.w X.stack H1 s1 E x s'→Ex x s') (hdb:(x==("__debug__":Str))=false)
  (he:starEach (e::es) X.env=(false,eval e X.env)::starEach es X.env) (hpl:(backTo cpos (starEach es X.env)).any (·.1)=false):
  wpAny (model X.prog X.w) X.A (eval (.Call (.Name x p) (e::es) [] cpos) X.env) (EP X pins σ Q) Ex s:=by
 refine wpAny_Call_Name_kw (zAK I hg hm ?_ hdb)
 refine PySem.W.callWith_K (h₀:=X.base) I.ok.mod.kin hk (wpAny_mono (ha cpos pins s σ H _ (I.wish _) ht) (fun us s1 ⟨vs,H1,I1,r,q⟩=>⟨I1.unwish.kIn,?_⟩) fun _ _ z=>z.elim) he hpl
 have I2:=I1.unwish
 have hl:us.length=ps.length:=by rw [←r.length];exact G.len _ _ _ _ q
 refine wpAny_call (codeAny_mono (G.run X.A X.stack s1 H1 ⟨us,[]⟩ us vs Q E hr I2.env0 ?_ r q) fun r s' hq=>?_)
 ·have:=hb s1 us I2.kIn (by rw [List.append_nil];exact hl)
  rw [List.append_nil]at this
  exact this
 ·cases r with
  | error y=>exact hx H1 s1 y s' I2 hq
  | ok fl=>
   cases fl with
   | ret u=>exact I2.after hq
   | next=>exact False.elim hq
   | brk=>exact False.elim hq
   | cont=>exact False.elim hq
theorem yFK{α:List Addr}{H:Hp}{ρ:Rho}{S:Sto}{σ:St}{D:Ends}{Q:VK}{ta:TA}{kn:Er→Sto→R Fl}{ns:List Str}(kk: ∀α ρ S σ H Q,Wd X.g α S H→Slots X.K α H ρ σ→Post X.g W0 α H (af ρ S) Q→ta σ H Q)(wd:Wd X.g α S H)(sl:Slots X.K α H ρ σ)
  (q:PostS X.g W α H D ((noX (af ρ S)).bind fun rs S1=>yFI ns i kn Fh ρ (jM n F rs S1))) (hkn: ∀r S1 u α1 H1,PostS X.g W α H D (kn r S1)→Ext α H α1 H1→Wd X.g α1 S1 H1→DenE X.K H α1 H1 r u→Q u H1):
  ta σ H fun vs H1=>spX X.g n F vs H1 Q (E2 X W ns i Fh ρ α H D):=by
 refine kk α ρ S σ H _ wd sl (q.exprX fun vs rs S1 α1 H1 e1 x1 w1 d1 q1=>zOD x1 w1 d1 ?_)
 cases z:jM n F rs S1 with
 | ok r S2=>rw [z]at q1;exact fun u α2 H2 x2 w2 d2=>hkn r S2 u α2 H2 q1 x2 w2 d2
 | exc c fs S2=>rw [z]at q1;exact fun α2 H2 x2 w2 C d hC hf=>⟨c,fs,S2,α2,C,rfl,hC,x2,w2,hf,q1⟩
 | no=>rw [z]at q1;exact q1.elim
theorem yIW{ns:List Str}(T:XTab X.K X.mg M cs)(hgm:Gl X "MendError")(hN:X.N.Nodup)(G:FnOk X.prog X.w X.K X.mg X.base (CXe X.prog X.w) k fa fd ps (spX X.g n F))(hr:Room k X.A)(hg:Gl X x)(hm:X.mg x=some (.ref fa))(hkp:PySem.W.keepIn X.K (.ref fa)=true)(hb:Binds X.K fd ps [])
  (ha:PAm X.nox W0 (e::es) af) (hsuite: ∀v,zKA (X.inH v) W0 (b0::suite) Fh) (hns:cs.map (·.1)=ns:=by rfl) (hi:X.N[i]? =some nm:=by rfl) (hk:X.env.kindOf nm=some .local:=by rfl) (hex:X.ex=[]:=by rfl) (hstk:X.stack=X.env::X.outer:=by rfl) (hfm:X.env.frame=some X.env.locals:=by rfl)
  (hdb:(x==("__debug__":Str))=false:=by decide) (he:starEach (e::es) X.env=(false,eval e X.env)::starEach es X.env:=by rfl) (hpl:(backTo cpos (starEach es X.env)).any (·.1)=false:=by rfl) (hs:swapsWith (.Call (.Name x p) (e::es) [] cpos) none epos.line X.env=pure false:=by rfl):
  PSm X W (.Try [.Expr (.Call (.Name x p) (e::es) [] cpos) epos] [.ExceptHandler (some (.Name "MendError" mp)) (some nm) (b0::suite) hpos] [] [] pos)
   (fun ρ S=>(noX (af ρ S)).bind fun rs S1=>yFI ns i (fun _ S2=>.ok (.next ρ) S2) Fh ρ (jM n F rs S1)):=by
 subst hns
 obtain⟨ta,ha,kk⟩:=ha
 refine⟨fun D σ H=> ∀pins s,Inv X pins σ H s→wpAny (model X.prog X.w) X.A (exec (.Try [.Expr (.Call (.Name x p) (e::es) [] cpos) epos] [.ExceptHandler (some (.Name "MendError" mp)) (some nm) (b0::suite) hpos] [] [] pos) X.env) (SP X pins D) X.xe s,
  fun pins s σ H D I h=>h pins s I,fun α ρ S σ H D wd sl q pins s I=>?_⟩
 rw [arm_exec_Try]
 refine wpAny_bind (wpAny_standAt (wpAny_tryStmt_except (wpAny_execs_cons (wpAny_Expr_any ?_ I.quiet hs))))
 have ht:=yFK (Q:=fun _ H2=>D.nx σ H2) kk wd sl q fun r S1 u α1 H1 q1 x1 w1 _=>q1 σ α1 H1 x1 w1 (sl.ext x1)
 refine thn (yFJ G hr hg hm hkp hb ha I ht (fun H1 s1 y s' I1 hq=>caught T hgm hN hi hk hsuite hex hstk hfm sl I1 hq) hdb he hpl) fun u s' ⟨v,H',I',_,q'⟩=>?_
 exact wpAny_execs_nil (wpAny_execs_nil ⟨σ,H',I',q'⟩)
end
end M
end L2
namespace L2
namespace M
open PySem PySem.Spec PyProof.Rows
theorem xcl_mk{K:PySem.W.Frag}{C N:Addr}{bm bs sub:List Value}{init:Option Value}{nm q:Str}{hd ab:Bool}{sn:List Str}{col:Option Bool}{dd od:Option Addr}{k0 k1 k2 k3 k5:Option Value}{oc:Value}{es:Array DictEntry}{ep:Nat}{sl:Array (Option Value)}
  (l:K.lookup C=some (excClassObj nm q C N bs bm hd sn sub ab col dd k0 k1 k2 k3 k5 "ValueError.__new__")) (n:K.lookup N=some ⟨oc,od,.dict es ep,sl⟩) (o:(es.toList.all fun e=>match e.key with | .str _ _=>true | _=>false)=true)
  (i:PySem.W.nsIn K N "__init__"=some init) (q1:PySem.W.nsIn K N "__class__"=some none) (q2:PySem.W.nsIn K N "__getattribute__"=some none) (q3:PySem.W.nsIn K N "__getattr__"=some none)
  (q4:PySem.W.nsIn K N "__setattr__"=some none) (q5:PySem.W.nsIn K N "place"=some none) (q6:PySem.W.nsIn K N "number"=some none) (hh:hd=true):XCl K C bm init:=by
 refine⟨nm,q,N,bs,hd,sn,sub,ab,col,dd,k0,k1,k2,k3,k5,l,?_,i,fun y hy=>?_,hh⟩
 ·unfold PySem.W.nsOkIn
  rw [n]
  rw [Array.all_toList]at o
  exact o
 ·simp only [qn,List.mem_cons,List.not_mem_nil,or_false]at hy
  rcases hy with rfl | rfl | rfl | rfl | rfl | rfl<;>assumption
end M
end L2
namespace L2
namespace M
open PySem PySem.Spec PyProof.Rows
section
variable{X:Cx}{W:XW}{a b o i:Expr}{f g:Rho→Sto→R Er}{pos:Pos}{pins:List (Addr×Obj)}{σ:St}{H:Hp}{s:Shared}{α:List Addr}
theorem DenK.length: ∀{kvs:List (MV×MV)}{xs:List (Key×V)},DenK X.K α H kvs xs→xs.length=kvs.length
 | _,_,.nil=>rfl
 | _,_,.cons _ _ l=>by rw [List.length_cons,List.length_cons,DenK.length l]
end
end M
end L2
namespace L2
namespace M
open PySem PySem.Spec PyProof.Rows
def VAt(d:Addr)(us:List Value)(ep:Nat)(h:Heap):Prop:= ∃o es,h.get? d=some o∧o.ExactDict∧o.data=.dict es ep∧es.toList.map (·.val)=us
theorem VAt.size{d:Addr}{us:List Value}{ep:Nat}{h:Heap}(x:VAt d us ep h): ∃o es,h.get? d=some o∧o.ExactDict∧o.data=.dict es ep∧es.size=us.length∧ ∀i (hi:i<es.size),us[i]? =some es[i].val:=by
 obtain⟨o,es,ho,hc,hd,e⟩:=x
 refine⟨o,es,ho,hc,hd,by rw [←e,List.length_map,Array.length_toList],fun i hi=>?_⟩
 rw [←e,List.getElem?_map,Array.getElem?_toList,Array.getElem?_eq_getElem hi]
 rfl
end M
end L2
namespace L2
open PySem PySem.Spec PyProof.Rows
section
variable{prog:Program}{w:World}{A:Around}{E:Value→Shared→Prop}{h:Heap}{g:Array GenState}{d:Drawn}{t:Nat}{os:OsState}
variable{nm q:Str}{C N:Addr}{bs bm bmB:List Value}{hdct:Bool}{sn:List Str}{sub:List Value}{ab:Bool}{col:Option Bool}{dd:Option Addr}{k0 k1 k2 k3 k5:Option Value}{B newId initId:String}
theorem zLP(F:ExcBaseFacts B newId initId bmB)(T:OwnTail h bmB bm){mN:Str→Option Value}{rest:List Value}{fI:Addr}{oI:Obj}{Q:Fin→Shared→Prop}
  (hC:h.get? C=some (excClassObj nm q C N bs bm hdct sn sub ab col dd k0 k1 k2 k3 k5 newId)) (hn:h.Ns N mN) (hi:mN "__init__"=some (.ref fI)) (hfI:h.get? fI=some oI) (hfc:oI.cls=.type "function")
  (hq: ∀h' e,Heap.MadeExcOf h h' e (.ref C) rest→wpAny (model prog w) A (call (.ref fI) (.ref e::rest)) (fun r s'=>r=.none∧Q (.done (.ret (.ref e))) s') E ⟨h',g,d,t,os⟩) (hrest:rest.length≤sizeLine):
  wpAny (model prog w) A (Builtin.«type.__call__» ⟨.ref C::rest,[]⟩) Q E ⟨h,g,d,t,os⟩:=by
 repeat (first | with_reducible refine wpAny_loadPart_at hC ?_ | with_reducible refine wpAny_madeBy_exc hC ?_ | wp_step)
 refine codeAny_call_builtin_code (Code.quiet_builtin _ F.quiet) (wpAny_check_new_subT F T hC ?_)
 refine codeAny_exc_new_subT F T hC ?_ hrest
 show wpAny _ _ _ _ _ _
 have hC₁:=Heap.get?_push_of_some {cls:=.ref C,data:=.fields #[.ref h.objs.size,.none,.none,.none,.bool false,.none]} (Heap.get?_push_of_some {cls:=.type "tuple",data:=.seq rest.toArray} hC)
 have hfI₁:=Heap.get?_push_of_some {cls:=.ref C,data:=.fields #[.ref h.objs.size,.none,.none,.none,.bool false,.none]} (Heap.get?_push_of_some {cls:=.type "tuple",data:=.seq rest.toArray} hfI)
 have hn₁:((h.push {cls:=.type "tuple",data:=.seq rest.toArray}).push {cls:=.ref C,data:=.fields #[.ref h.objs.size,.none,.none,.none,.bool false,.none]}).Ns N mN:=
  let ⟨o,es,ep,e,r⟩:=hn;⟨o,es,ep,Heap.get?_push_of_some _ (Heap.get?_push_of_some _ e),r⟩
 have hget:((h.push {cls:=.type "tuple",data:=.seq rest.toArray}).push {cls:=.ref C,data:=.fields #[.ref h.objs.size,.none,.none,.none,.bool false,.none]}).get? (h.objs.size+1)=some {cls:=.ref C,data:=.fields #[.ref h.objs.size,.none,.none,.none,.bool false,.none]}:=by heap_get
 have hcC:(Value.ref C::bm).contains (.ref C)=true:=by simp
 have T₁:=T.keeps (h':=(h.push {cls:=.type "tuple",data:=.seq rest.toArray}).push {cls:=.ref C,data:=.fields #[.ref h.objs.size,.none,.none,.none,.bool false,.none]}) fun b o e=>Heap.get?_push_of_some _ (Heap.get?_push_of_some _ e)
 unfold isInstance
 repeat (first | with_reducible refine wpAny_loadPart_at hget ?_ | (with_reducible refine wpAny_isSubtype_exc hC₁ ?_;rw [hcC]) | wp_step)
 show wpAny _ _ (typeLookup (.ref C) _) _ _ _
 refine wpAny_typeLookup_tail hC₁ hn₁ T₁ F.mroIs F.init.lookup ?_
 rw [hi]
 refine wpAny_holding (wpAny_bind ?_)
 unfold bindSpecial
 refine wpAny_bind (wpAny_typeOf (T:="function") ⟨_,hfI₁,hfc⟩ ?_)
 rw [if_pos (by decide)]
 refine wpAny_pure (wpAny_bind (wpAny_mono (hq _ (h.objs.size+1) ⟨fun b o hb=>Heap.get?_push_of_some _ (Heap.get?_push_of_some _ hb),Heap.get?_none_of_le (Nat.le_succ _),h.objs.size,hget,Heap.get?_none_of_le (Nat.le_refl _),?_⟩) (fun r s' hr=>?_) fun _ _ x=>x))
 ·exact Heap.get?_push_of_some _ (Heap.get?_push_at rfl rfl)
 ·obtain⟨rfl,hQ⟩:=hr
  wp_walk
  exact hQ
theorem zXT(F:ExcBaseFacts B newId initId bmB)(T:OwnTail h bmB bm){mN:Str→Option Value}{rest:List Value}{fI:Addr}{oI:Obj}{Q:Value→Shared→Prop}
  (hC:h.get? C=some (excClassObj nm q C N bs bm hdct sn sub ab col dd k0 k1 k2 k3 k5 newId)) (hn:h.Ns N mN) (hi:mN "__init__"=some (.ref fI)) (hfI:h.get? fI=some oI) (hfc:oI.cls=.type "function")
  (hq: ∀h' e,Heap.MadeExcOf h h' e (.ref C) rest→wpAny (model prog w) (A.under (.builtin "type.__call__" ⟨.ref C::rest,[]⟩)) (call (.ref fI) (.ref e::rest)) (fun r s'=>r=.none∧Q (.ref e) s') E ⟨h',g,d,t,os⟩) (hrest:rest.length≤sizeLine):
  wpAny (model prog w) A (call (.ref C) rest) Q E ⟨h,g,d,t,os⟩:=by
 have f1:=tc_lookup
 have f2:=tc_bind (.ref C)
 have hT:(⟨h,g,d,t,os⟩:Shared).TypeIs (.ref C) "type":=⟨_,hC,rfl⟩
 refine wpAny_call (codeAny_of_tree ?_)
 show wpAny _ _ (callAny (.ref C) _) _ _ _
 repeat (any_goals (first | assumption | with_reducible refine wpAny_loadPart_at hC ?_ | wp_step))
 refine⟨rfl,?_⟩
 refine codeAny_call_builtin_at (Code.quiet_builtin _ (by decide+kernel)) entry_typeCall (wpAny_check_type_call_sub hC (zLP (hrest:=hrest) F T hC hn hi hfI hfc fun h' e hm=>?_))
 exact hq h' e hm
end
section
variable{prog:Program}{w:World}{A:Around}{E:Value→Shared→Prop}{s:Shared}{env:Env}
variable{nm q:Str}{C N:Addr}{bs bm bmB:List Value}{hdct:Bool}{sn:List Str}{sub:List Value}{ab:Bool}{col:Option Bool}{dd:Option Addr}{k0 k1 k2 k3 k5:Option Value}{B newId initId:String}
theorem zOE{M:Model}{x:Sem Value}{Q:Flow→Shared→Prop}(hbase:bm.contains (.type "BaseException")=true)(hh:A.handled=none)
  (h:wpAny M A x (fun v s₁=> ∃e dX vs,v=.ref e∧s₁.heap.get? C=some (excClassObj nm q C N bs bm hdct sn sub ab col dd k0 k1 k2 k3 k5 newId)∧s₁.heap.get? e=some {cls:=.ref C,dict:=dX,data:=.fields #[.ref vs,.none,.none,.none,.bool false,.none]}∧E (.ref e) s₁) E s):
  wpAny M A (raiseStmt env (some x) none) Q E s:=by
 have hcB:(Value.ref C::bm).contains (.type "BaseException")=true:=by rw [List.contains_cons,hbase,Bool.or_true]
 unfold raiseStmt
 refine wpAny_bind (wpAny_mono h (fun v s₁ h₁=>?_) fun _ _ x=>x)
 obtain⟨e,dX,vs,rfl,hC,he,hE⟩:=h₁
 obtain⟨hp,g,d,tk,os⟩:=s₁
 repeat (first | with_reducible refine wpAny_loadPart_at he ?_ | with_reducible refine wpAny_loadPart_at hC ?_ | (with_reducible refine wpAny_isSubtype_exc hC ?_;rw [hcB]) | wp_step)
 exact wpAny_raiseNew_none hh hE
theorem zVB(F:ExcBaseFacts B newId initId bmB){mN:Str→Option Value}{x:Str}{np cpos pos:Pos}{args:List Expr}{fI:Addr}{oI:Obj}{Q:Flow→Shared→Prop}
  (hbase:bm.contains (.type "BaseException")=true) (hh:A.handled=none) (hplain:(backTo cpos (starEach args env)).any (·.1)=false) (hi:mN "__init__"=some (.ref fI)) (hfc:oI.cls=.type "function")
  (h:wpAny (model prog w) A (eval (.Name x np) env) (fun f s₁=>f=.ref C∧wpAny (model prog w) A (evalArgs (.ref C) true (backTo cpos (starEach args env)) [])
   (fun a s₂=>a.kw=[]∧a.pos.length≤sizeLine∧s₂.heap.get? C=some (excClassObj nm q C N bs bm hdct sn sub ab col dd k0 k1 k2 k3 k5 newId)∧s₂.heap.Ns N mN∧OwnTail s₂.heap bmB bm∧s₂.heap.get? fI=some oI∧
    ∀h' e,Heap.MadeExcOf s₂.heap h' e (.ref C) a.pos→wpAny (model prog w) (A.under (.builtin "type.__call__" ⟨.ref C::a.pos,[]⟩)) (call (.ref fI) (.ref e::a.pos))
     (fun r s'=>r=.none∧ ∃dX vs,s'.heap.get? C=some (excClassObj nm q C N bs bm hdct sn sub ab col dd k0 k1 k2 k3 k5 newId)∧s'.heap.get? e=some {cls:=.ref C,dict:=dX,data:=.fields #[.ref vs,.none,.none,.none,.bool false,.none]}∧E (.ref e) s') E {s₂ with heap:=h'}) E s₁) E s):
  wpAny (model prog w) A (exec (.Raise (some (.Call (.Name x np) args [] cpos)) none pos) env) Q E s:=by
 rw [arm_exec_Raise]
 first
  | refine wpAny_bind (wpAny_standAt (zOE (C:=C) (nm:=nm) (q:=q) (N:=N) (bs:=bs) (bm:=bm) (hdct:=hdct) (sn:=sn) (sub:=sub) (ab:=ab) (col:=col) (dd:=dd) (k0:=k0) (k1:=k1) (k2:=k2) (k3:=k3) (k5:=k5) (newId:=newId) hbase hh (wpAny_bind (wpAny_mono (wpAny_Call_ofName (wpAny_mono h (fun f s₁ h₁=>?_) fun _ _ x=>x)) (fun v s₃ h₃=>wpAny_bind (wpAny_standAt (wpAny_pure h₃))) fun _ _ x=>x))))
  | (simp only [evalOpt,Option.map];refine wpAny_bind (wpAny_standAt (zOE (C:=C) (nm:=nm) (q:=q) (N:=N) (bs:=bs) (bm:=bm) (hdct:=hdct) (sn:=sn) (sub:=sub) (ab:=ab) (col:=col) (dd:=dd) (k0:=k0) (k1:=k1) (k2:=k2) (k3:=k3) (k5:=k5) (newId:=newId) hbase hh (wpAny_bind (wpAny_mono (wpAny_Call_ofName (wpAny_mono h (fun f s₁ h₁=>?_) fun _ _ x=>x)) (fun v s₃ h₃=>wpAny_bind (wpAny_standAt (wpAny_pure h₃))) fun _ _ x=>x)))))
 obtain⟨rfl,h₁⟩:=h₁
 unfold callWith
 refine wpAny_bind (wpAny_holding (wpAny_mono h₁ (fun a s₂ h₂=>wpAny_bind (wpAny_standAt ?_)) fun _ _ x=>x))
 obtain⟨apos,akw⟩:=a
 obtain⟨hkw,hlen,hC,hn,T,hfI,h₂⟩:=h₂
 obtain rfl:akw=[]:=hkw
 obtain⟨hp,g,d,tk,os⟩:=s₂
 simp only [hplain]
 refine wpAny_bind (wpAny_keeperOf_exc hC ?_)
 refine wpAny_bind (zXT (hrest:=hlen) F T hC hn hi hfI hfc fun h' e hm=>wpAny_mono (h₂ h' e hm) (fun r s' ⟨hr,dX,vs,a1,a2,a4⟩=>⟨hr,wpAny_bind (wpAny_holding (wpAny_point (wpAny_pure ⟨e,dX,vs,rfl,a1,a2,a4⟩)))⟩) fun _ _ z=>z)
end
end L2
namespace L2
open PySem PySem.Spec PyProof.Rows
open Builtin Builtin.ObjectAttr
section
variable{prog:Program}{w:World}{A:Around}{E:Value→Shared→Prop}{h:Heap}{g:Array GenState}{d:Drawn}{t:Nat}{os:OsState}{C M x:Addr}{o:Obj}{v:Value}{name:Str}
variable{nm q:Str}{N:Addr}{bs bm:List Value}{sn:List Str}{sub:List Value}{ab:Bool}{col:Option Bool}{dd:Option Addr}{k0 k1 k2 k3 k5:Option Value}{newId:String}
theorem zXU{Mo:Model}{nameV:Value}{Q:Unit→Shared→Prop}(O:zBM h C M)(hx:h.get? x=some o)(hc:o.cls=.ref C)(hq:Q () ⟨h,g,d,t,os⟩):
  wpAny Mo A (checkBuiltinCall "object.__setattr__" ⟨[.ref x,nameV,v],[]⟩) Q E ⟨h,g,d,t,os⟩:=by
 have SF:=F.store_ValueError
 have hcB:(Value.ref C::.ref M::bmV).contains (.type "object")=true:=by simp [List.contains_cons]
 have ha:=SF.args (.ref x) nameV v
 simp only [checkBuiltinCall,SF.kind,SF.split]
 refine wpAny_bind ?_
 ·unfold isInstance
  repeat (first | (with_reducible refine wpAny_loadPart_at hx ?_;rw [hc]) | (with_reducible refine zBN O ?_;rw [hcB]) | wp_step)
  exact hq
def yKG(h h':Heap)(x:Addr)(o:Obj)(name:Str)(v:Value)(dx:Addr):Prop:=
 h.get? dx=none∧dx≠x∧h'.get? x=some {cls:=o.cls,dict:=some dx,data:=o.data,slots:=o.slots}∧h'.Ns1 dx (fun y=>if y=name then some v else none)∧ ∀b ob,b≠x→h.get? b=some ob→h'.get? b=some ob
theorem zXV{tk:Tok}{Q:Fin→Shared→Prop}(O:zBM h C M)(hC:h.get? C=some (excClassObj nm q C N bs (.ref M::bmV) true sn sub ab col dd k0 k1 k2 k3 k5 newId))(hx:h.get? x=some o)(hc:o.cls=.ref C)(hdn:o.dict=none)(hnc: ∀c,o.data≠.cls c)
  (hn:name∈qn) (hB:typeLookup (.type "ValueError") name=pure none) (hq: ∀h' tk' dx,yKG h h' x o name v dx→Q (.done (.ret .none)) ⟨h',g,d,tk',os⟩):
  wpAny (model prog w) A (Builtin.«object.__setattr__» ⟨[.ref x,.str name tk,v],[]⟩) Q E ⟨h,g,d,t,os⟩:=by
 have hpass:=F.store_ValueError.passes (.ref x)
 unfold Builtin.«object.__setattr__»
 repeat (first | rw [refuse_eq] | (rw [refuseLoop_ref,refuseLoop_ref,hpass]) | (with_reducible refine wpAny_loadPart_at hx ?_;rw [hc]) | with_reducible refine wpAny_mroOf_exc hC ?_ | with_reducible refine zAP O hn hB ?_ | wp_step)
 rw [hdn,if_neg (by simp [typeHasDict])]
 split
 ·rename_i hcd
  cases hcd
 split
 ·rename_i c hcd
  exact absurd hcd (hnc c)
 ·have hx₁:(h.push {cls:=.type "dict",data:=.dict #[]}).get? x=some o:=Heap.get?_push_of_some _ hx
  have hxs:x≠h.objs.size:=Nat.ne_of_lt (Heap.lt_size hx)
  refine wpAny_bind (wpAny_alloc' ?_)
  refine wpAny_bind (wpAny_update' hx₁ ?_)
  refine wpAny_pure ?_
  have hgd:((h.push {cls:=.type "dict",data:=.dict #[]}).update x fun o=>{cls:=o.cls,dict:=some h.objs.size,data:=o.data,slots:=o.slots}).get? h.objs.size=some {cls:=.type "dict",data:=.dict #[]}:=
   (Heap.get?_update_ne _ _ _ _ hxs.symm).trans (Heap.get?_push_at rfl rfl)
  have hnd:((h.push {cls:=.type "dict",data:=.dict #[]}).update x fun o=>{cls:=o.cls,dict:=some h.objs.size,data:=o.data,slots:=o.slots}).Ns h.objs.size (fun _=>none):=
   ⟨_,#[],_,hgd,rfl,fun e he=>absurd he (by simp),fun _=>rfl⟩
  show wpAny _ _ (storeInDict h.objs.size (.str name tk) name v) _ _ _
  unfold storeInDict newKeyGuard
  refine wpAny_bind (wpAny_pure (wpAny_bind (wpAny_nsSet1 (Heap.Ns1.of_empty hnd) fun h' hn' hs=>?_)))
  obtain⟨oD,esD,epD,hoD,hdD,hcD⟩:=hn'.count (Within.cons name v Within.nil)
  refine wpAny_bind (wpAny_lookBehind hoD (by rw [hdD];exact pastItsLine_dict (Nat.le_trans hcD (by rw [List.length_cons,List.length_nil,sizeLine_eq];omega))) ?_)
  wp_walk
  refine hq h' _ h.objs.size ⟨Heap.get?_none_of_le (Nat.le_refl _),hxs.symm,?_,hn',fun b ob hbx hb=>(hs.2 b (Nat.ne_of_lt (Heap.lt_size hb))).trans ((Heap.get?_update_ne _ _ _ _ hbx).trans (Heap.get?_push_of_some _ hb))⟩
  refine(hs.2 x hxs).trans (Heap.get?_update_self _ hx₁ ?_)
  have hfr:=(Heap.get?_some_iff.mp hx).2
  obtain⟨oc,od,odt,osl⟩:=o
  cases odt<;>first | rfl | exact hfr
theorem yCH{Q:Unit→Shared→Prop}(O:zBM h C M)(hC:h.get? C=some (excClassObj nm q C N bs (.ref M::bmV) true sn sub ab col dd k0 k1 k2 k3 k5 newId))(hx:h.get? x=some o)(hc:o.cls=.ref C)(hdn:o.dict=none)(hnc: ∀c,o.data≠.cls c)
  (hn:name∈qn) (hB:typeLookup (.type "ValueError") name=pure none) (hq: ∀h' tk' dx,yKG h h' x o name v dx→Q () ⟨h',g,d,tk',os⟩):wpAny (model prog w) A (setAttr (.ref x) name v) Q E ⟨h,g,d,t,os⟩:=by
 have f3:=F.store_ValueError.slot.bind (.ref x)
 have q4:("__setattr__":Str)∈qn:=by decide
 unfold setAttr callSpecial? specialOf
 repeat (any_goals (first | assumption | (with_reducible refine wpAny_loadPart_at hx ?_;rw [hc]) | with_reducible refine zAP O q4 F.store_ValueError.slot.lookup ?_ | wp_step))
 refine codeAny_call_builtin F.store_ValueError.slot.plain F.store_ValueError.entry (zXU O hx hc (zXV O hC hx hc hdn hnc hn hB fun h' tk' dx hs=>?_))
 repeat (any_goals (first | assumption | wp_step))
 exact hq h' tk' dx hs
theorem zXW{tk:Tok}{dx:Addr}{mA:Str→Option Value}{Q:Fin→Shared→Prop}(O:zBM h C M)(hC:h.get? C=some (excClassObj nm q C N bs bm true sn sub ab col dd k0 k1 k2 k3 k5 newId))(hx:h.get? x=some o)(hc:o.cls=.ref C)(hdx:o.dict=some dx)(hnc: ∀c,o.data≠.cls c)(hns:h.Ns1 dx mA)(hv:mA name=some v)
  (hn:name∈qn) (hB:typeLookup (.type "ValueError") name=pure none) (hq:Q (.done (.ret v)) ⟨h,g,d,t,os⟩):
  wpAny (model prog w) A (Builtin.«object.__getattribute__» ⟨[.ref x,.str name tk],[]⟩) Q E ⟨h,g,d,t,os⟩:=by
 repeat (any_goals (first | assumption | (with_reducible refine wpAny_loadPart_at hx ?_;rw [hc]) | with_reducible refine zAP O hn hB ?_ | wp_step))
 split
 ·rename_i c hcd
  exact absurd hcd (hnc c)
 unfold instanceDict
 repeat (first | (with_reducible refine wpAny_loadPart_at hx ?_;rw [hc]) | with_reducible refine wpAny_loadPart_at hC ?_ | wp_step)
 rw [hdx]
 repeat (first | (with_reducible refine wpAny_nsGet hns.ns ?_;rw [hv]) | wp_step)
 exact hq
theorem yCI{tk:Tok}{dx:Addr}{mA:Str→Option Value}{R:Result→Shared→Prop}(O:zBM h C M)(hC:h.get? C=some (excClassObj nm q C N bs bm true sn sub ab col dd k0 k1 k2 k3 k5 newId))(hx:h.get? x=some o)(hc:o.cls=.ref C)(hdx:o.dict=some dx)(hnc: ∀c,o.data≠.cls c)(hns:h.Ns1 dx mA)(hv:mA name=some v)
  (hn:name∈qn) (hB:typeLookup (.type "ValueError") name=pure none) (hq:R (.ok (.ret v)) ⟨h,g,d,t,os⟩):
  codeAny (model prog w) A (.call (.builtin "BaseException.__getattribute__") ⟨[.ref x,.str name tk],[]⟩) R ⟨h,g,d,t,os⟩:=
 codeAny_call_builtin F.attrBase_ValueError.ga.plain F.entry_bexc_ga (zQQ O hx hc (zXW O hC hx hc hdx hnc hns hv hn hB hq))
theorem yIX{tk:Tok}{dx:Addr}{mA:Str→Option Value}{fill expr:Bool}{Q:Value→Shared→Prop}(O:zBM h C M)(hC:h.get? C=some (excClassObj nm q C N bs bm true sn sub ab col dd k0 k1 k2 k3 k5 newId))(hx:h.get? x=some o)(hc:o.cls=.ref C)(hdx:o.dict=some dx)(hnc: ∀c,o.data≠.cls c)(hns:h.Ns1 dx mA)(hv:mA name=some v)
  (hn:name∈qn) (hB:typeLookup (.type "ValueError") name=pure none) (hh:handedOut v=pure v) (hq:Q v ⟨h,g,d,t,os⟩):
  wpAny (model prog w) A (getAttrBy (.ref x) (.str name tk) fill expr) Q E ⟨h,g,d,t,os⟩:=by
 have f3:=F.attrBase_ValueError.ga.bind (.ref x)
 have hx0:(expr&&onTheHeap (Value.builtin "BaseException.__getattribute__"))=false:=by cases expr<;>rfl
 have hx2:(Value.builtin "BaseException.__getattribute__"==Value.builtin "object.__getattribute__")=false:=by decide+kernel
 have hx1:(onTheHeap (Value.ref C)&&Value.builtin "BaseException.__getattribute__"==Value.builtin "object.__getattribute__")=false:=by rw [hx2];rfl
 repeat (any_goals (first | assumption | (with_reducible refine wpAny_loadPart_at hx ?_;rw [hc]) | with_reducible refine zAP O qn2 yJZ ?_ | with_reducible refine zAP O qn3 zUN ?_ | wp_step))
 refine yCI O hC hx hc hdx hnc hns hv hn hB ?_
 repeat (any_goals (first | assumption | rw [hh] | wp_step))
theorem yCJ{dx:Addr}{mA:Str→Option Value}{expr:Bool}{Q:Value→Shared→Prop}(O:zBM h C M)(hC:h.get? C=some (excClassObj nm q C N bs bm true sn sub ab col dd k0 k1 k2 k3 k5 newId))(hx:h.get? x=some o)(hc:o.cls=.ref C)(hdx:o.dict=some dx)(hnc: ∀c,o.data≠.cls c)(hns:h.Ns1 dx mA)(hv:mA name=some v)
  (hn:name∈qn) (hB:typeLookup (.type "ValueError") name=pure none) (hh:handedOut v=pure v) (hq:Q v ⟨h,g,d,t+1,os⟩):wpAny (model prog w) A (getAttr (.ref x) name expr) Q E ⟨h,g,d,t,os⟩:=by
 unfold getAttr
 repeat (any_goals (first | assumption | with_reducible apply yIX O hC hx hc hdx hnc hns hv hn hB hh | wp_step))
end
theorem zES:typeLookup (.type "ValueError") "place"=pure none:=by rw [typeLookup_type,builtinLookup_eq_fast];kernel_rfl
abbrev exO(C:Addr)(d:Option Addr)(t:Addr):Obj:={cls:=.ref C,dict:=d,data:=.fields #[.ref t,.none,.none,.none,.bool false,.none]}
section
variable{prog:Program}{w:World}{A:Around}{E:Value→Shared→Prop}{h:Heap}{g:Array GenState}{d:Drawn}{t:Nat}{os:OsState}{C M x t0:Addr}{u:Value}
variable{nm q:Str}{N:Addr}{bs bm bmB:List Value}{hdct:Bool}{sn:List Str}{sub:List Value}{ab:Bool}{col:Option Bool}{dd:Option Addr}{k0 k1 k2 k3 k5:Option Value}{B newId initId:String}
theorem zXX(F:ExcBaseFacts B newId initId bmB)(T:OwnTail h bmB bm){Q:Value→Shared→Prop}(hC:h.get? C=some (excClassObj nm q C N bs bm hdct sn sub ab col dd k0 k1 k2 k3 k5 newId))(hx:h.get? x=some (exO C none t0))
  (hq: ∀h' t1,h'.get? x=some (exO C none t1)→(∀b ob,b≠x→h.get? b=some ob→h'.get? b=some ob)→Q .none ⟨h',g,d,t,os⟩):wpAny (model prog w) A (call (.builtin initId) [.ref x,u]) Q E ⟨h,g,d,t,os⟩:=by
 refine wpAny_call (codeAny_call_builtin F.init.plain F.initEntry (wpAny_check_init_subT F T hC hx rfl ?_))
 wp_walk
 refine hq _ (h.objs.size) ?_ fun b ob hb hob=>?_
 ·rw [Heap.get?_update_self _ (Heap.get?_push_of_some _ hx) rfl]
  rfl
 ·rw [Heap.get?_update_other _ _ (Ne.symm hb)]
  exact Heap.get?_push_of_some _ hob
end
end L2
namespace L2
open PySem PySem.Spec PyProof.Rows
abbrev BIG:Nat:=10 ^ 100
inductive JL(par:Str):List Expr→Prop
 | nil:JL par []
 | txt {y:Str} {k:Nat} {pos:Pos} {es:List Expr}:y.length≤200→JL par es→JL par (.Constant (.str y) k pos::es)
 | fld {p pos:Pos} {es:List Expr}:JL par es→JL par (.FormattedValue (.Name par p) (-1) none pos::es)
section
variable{X:Cx}{par:Str}{i:Nat}{pins:List (Addr×Obj)}{σ:St}{H:Hp}
theorem yFL(hN:X.N[i]? =some par)(hv:Vis X.env.scope par)(hd:(par==("__debug__":Str))=false)(hcd:(par==("__classdict__":Str))=false){n:Int}(hs:σ[i]? =some (some (.int n)))(hb:n.natAbs<BIG){Q:Str→Shared→Prop}(hq: ∀y s,y.length≤100000→Inv X pins σ H s→Q y s)
  {es:List Expr} (hj:JL par es): ∀(acc:Str)(s:Shared),acc.length+200 * es.length≤100000→Inv X pins σ H s→Joins (model X.prog X.w) X.A X.xe (evalEach es X.env) acc Q s:=by
 induction hj with
 | nil=>intro acc s hl I;exact hq acc s (by simpa using hl) I
 | @txt y k pos es hy h ih=>
  intro acc s hl I
  rw [List.length_cons]at hl
  have sl:(acc++y).length=acc.length+y.length:=PySem.strLen_append ..
  refine thn (yCZ (X:=X) pins s σ H (fun v H'=>v=.str y∧H'=H) I ⟨rfl,rfl⟩) fun u s1 ⟨v,H',I',r,e1,e2⟩=>?_
  subst e1 e2
  obtain⟨tk,rfl⟩:=r
  exact⟨y,tk,rfl,by rw [sl,sizeLine_eq];omega,ih (acc++y) s1 (by rw [sl];omega) I'⟩
 | @fld p pos es h ih=>
  intro acc s hl I
  rw [List.length_cons]at hl
  have len:(Str.ofString (toString n)).length≤101:=by rw [PySem.ofString_length];exact int_text_length_le10 (k:=100) (by decide) hb
  have sl:(acc++(toString n:Str)).length≤acc.length+101:=by
   have:=PySem.strLen_append acc (toString n:Str)
   rw [this];exact Nat.add_le_add_left len _
  have hlog:n.natAbs.log2<1920:=by
   by_cases z:n.natAbs=0
   ·rw [z];decide
   ·exact(Nat.log2_lt z).mpr (Nat.lt_trans hb (by decide+kernel))
  refine wpAny_FormattedValue_plain (thn (zMW (X:=X) hN hv hd hcd pins s σ H (fun v H'=>v=.int n∧H'=H) I ⟨_,hs,rfl,rfl⟩) fun u s1 ⟨v,H',I',r,e1,e2⟩=>?_)
  subst e1 e2
  obtain⟨tk,rfl⟩:=r
  exact wpAny_formatField_int hlog ⟨_,_,rfl,by rw [sizeLine_eq];omega,ih _ _ (by omega) (I'.tok _)⟩
def tJ(i:Nat):TE:=fun σ H Q=> ∃n,σ[i]? =some (some (.int n))∧n.natAbs<BIG∧ ∀y:Str,Q (.str y) H
theorem yIY{v1 v2:Expr}{vs:List Expr}{pos:Pos}(hN:X.N[i]? =some par)(hv:Vis X.env.scope par)(hd:(par==("__debug__":Str))=false)(hcd:(par==("__classdict__":Str))=false)(h:JL par (v1::v2::vs))(hl:vs.length≤100):PE X (.JoinedStr (v1::v2::vs) pos) (tJ i):=by
 intro pins s σ H Q I ⟨n,hs,hb,q⟩
 refine wpAny_JoinedStr (yFL (pins:=pins) (H:=H) hN hv hd hcd hs hb (fun y s1 hy I1=>⟨by rw [sizeLine_eq];omega,.str y,H,I1.tok _,⟨_,rfl⟩,q y⟩) h _ s ?_ I)
 rw [List.length_cons,List.length_cons]
 show 0+_≤_
 omega
end
def drp(H:Hp)(e:Addr):Hp:=fun b=>if b=e then none else H b
theorem zHA{H:Hp}{e b:Addr}(h:b≠e):drp H e b=H b:=by unfold drp;rw [if_neg h]
theorem zVC{H:Hp}{e:Addr}:drp H e e=none:=by unfold drp;rw [if_pos rfl]
theorem Inv.untrack{X:Cx}{pins:List (Addr×Obj)}{σ:St}{H:Hp}{s:Shared}{e:Addr}{φ:Heap→Prop}(J:Inv X pins σ H s)(he:H e=some (.ext φ)):Inv X pins σ (drp H e) s:=by
 have ne: ∀b u,H b=some u→(∀φ,u≠.ext φ)→b≠e:=fun b u q z y=>by rw [y,he]at q;cases q;exact z _ rfl
 have nn: ∀b,H b=none→drp H e b=none:=fun b q=>by unfold drp;split<;>trivial
 refine⟨J.ok,J.os,J.bare,⟨J.base.keep,J.base.slot,fun b ob q n hx=>nn b (J.base.free b ob q n hx),J.base.there,fun b xs q=>?_,fun b o' u q=>?_,fun b ps q=>?_⟩,J.loc,J.cell,nn _ J.free,fun x c hc=>nn _ (J.freeC x c hc),fun p hp=>?_,fun b u q=>?_,J.len⟩
 ·rw [zHA (ne b _ (J.base.tups b xs q) fun _ z=>by cases z)];exact J.base.tups b xs q
 ·rw [zHA (ne b _ (J.base.frzs b o' u q) fun _ z=>by cases z)];exact J.base.frzs b o' u q
 ·obtain⟨mo,z⟩:=J.base.tbls b ps q
  exact⟨mo,by rw [zHA (ne b _ z fun _ z=>by cases z)];exact z⟩
 ·obtain⟨e1,n,r⟩:=J.pin p hp
  exact⟨e1,nn _ n,r⟩
 ·by_cases z:b=e
  ·rw [z,zVC]at q;cases q
  ·rw [zHA z]at q
   exact(J.hok b u q).stay (fun _ _ _ r=>r) (fun c r=>by rw [zHA (ne c _ r fun _ z=>by cases z)];exact r) fun c xs r=>by rw [zHA (ne c _ r fun _ z=>by cases z)];exact r
namespace M
structure XIn(K:PySem.W.Frag)(M C f:Addr):Prop where
 ex: ∃nm q N bs sn sub ab col dd k0 k1 k2 k3 k5,K.lookup C=some (excClassObj nm q C N bs (.ref M::bmV) true sn sub ab col dd k0 k1 k2 k3 k5 "ValueError.__new__")∧PySem.W.nsOkIn K N=true∧PySem.W.nsIn K N "__init__"=some (some (.ref f))∧ ∀n∈qn,PySem.W.nsIn K N n=some none
 fo: ∃o,K.lookup f=some o∧o.cls=.type "function"
theorem XIn.cl{K:PySem.W.Frag}{M C f:Addr}(x:XIn K M C f):XCl K C (.ref M::bmV) (some (.ref f)):=by
 obtain⟨nm,q,N,bs,sn,sub,ab,col,dd,k0,k1,k2,k3,k5,a,b,c,d⟩:=x.ex
 exact⟨nm,q,N,bs,true,sn,sub,ab,col,dd,k0,k1,k2,k3,k5,a,b,c,d,rfl⟩
structure XMn(K:PySem.W.Frag)(M:Addr):Prop where
 ga:PySem.W.specialIn K (.ref M) "__getattribute__"=some (some (.builtin "type.__getattribute__"))
 rd:PySem.W.readsIn K M (.type "type")=true
 init:PySem.W.findCls K (.ref M) (.type "type") "__init__"=some (.val (.builtin "ValueError.__init__"))
def zGN(C:Addr)(fld:Str):Sp:=fun vs H Q _=> ∃e n t0,vs=[.ref e,.int n]∧n.natAbs<BIG∧H e=some (.ext fun h=>h.get? e=some (exO C none t0))∧
 ∀dx od t1,H dx=none→dx≠e→Q .non (upd (upd H dx (.frz od (.xd [(fld,.int n)]))) e (.ext fun h=>h.get? e=some (exO C (some dx) t1)))
theorem yKH{K:PySem.W.Frag}{h:Heap}{M:Addr}(X:K.In h)(m:XCl K M bmV none):OwnTail h bmV (.ref M::bmV):=by
 obtain⟨_,_,N',_,_,_,_,_,_,_,_,_,_,_,_,lM,oM,iM,_⟩:=m
 exact .own (X _ _ lM) (.of_isNs (PySem.W.isNs_of_in X oM)) (PySem.W.nsMap_none_of_in X oM iM) .base
section
variable{X:Cx}{M C f:Addr}{fld par:Str}{p1 p2 p3 p4 p5 p6 p7 p8 p9 p10:Pos}{v1 v2:Expr}{vs:List Expr}
theorem yFM{pl:Sem Bool}(hM:XCl X.K M bmV none)(XI:XIn X.K M C f)(XM:XMn X.K M)(hmg:X.mg "MendError"=some (.ref M))(hg:Gl X "MendError")(hN0:X.N[0]? =some ("self":Str))(hN1:X.N[1]? =some par)(hv0:Vis X.env.scope "self")(hv1:Vis X.env.scope par)
  (hd:(par==("__debug__":Str))=false) (hcd:(par==("__classdict__":Str))=false) (hj:JL par (v1::v2::vs)) (hl:vs.length≤100) (hf:fld∈qn) (hB:typeLookup (.type "ValueError") fld=pure none) (hcalm:X.calm=true)
  (ht:eval (.Call (.Attribute (.Name "MendError" p1) "__init__" p2) [.Name "self" p3,.JoinedStr (v1::v2::vs) p4] [] p5) X.env=(do
   let ov ←eval (.Name "MendError" p1) X.env
   standAt p2.atName
   let (f,first) ←holding [ov] (getMethod ov "__init__" pl)
   callWith p5 f first (backTo p5 (starEach [.Name "self" p3,.JoinedStr (v1::v2::vs) p4] X.env)) (backToKw p5 (keywordEach [] X.env))))
  (hs1:swapsWith (.Call (.Attribute (.Name "MendError" p1) "__init__" p2) [.Name "self" p3,.JoinedStr (v1::v2::vs) p4] [] p5) none p6.line X.env=pure false) (hs2:swapsWith (.Name par p9) (some (.Attribute (.Name "self" p7) fld p8)) p10.line X.env=pure false)
  (he:starEach [Expr.Name "self" p3,.JoinedStr (v1::v2::vs) p4] X.env=(false,eval (.Name "self" p3) X.env)::starEach [.JoinedStr (v1::v2::vs) p4] X.env:=by rfl) (he2:starEach [Expr.JoinedStr (v1::v2::vs) p4] X.env=(false,eval (.JoinedStr (v1::v2::vs) p4) X.env)::starEach [] X.env:=by rfl)
  (hpl:(backTo p5 (starEach [Expr.JoinedStr (v1::v2::vs) p4] X.env)).any (·.1)=false:=by rfl):
  PSs X [.Expr (.Call (.Attribute (.Name "MendError" p1) "__init__" p2) [.Name "self" p3,.JoinedStr (v1::v2::vs) p4] [] p5) p6,.Assign [.Attribute (.Name "self" p7) fld p8] (.Name par p9) p10]
   (fun D σ H=> ∃e n t0,σ[0]? =some (some (.ref e))∧σ[1]? =some (some (.int n))∧n.natAbs<BIG∧H e=some (.ext fun h=>h.get? e=some (exO C none t0))∧
    ∀dx od t1,H dx=none→dx≠e→D.nx σ (upd (upd H dx (.frz od (.xd [(fld,.int n)]))) e (.ext fun h=>h.get? e=some (exO C (some dx) t1)))):=by
 intro pins s σ H D I ⟨e,n,t0,s0,s1,hb,hH,q⟩
 obtain⟨nm,qq,N,bs,sn,sub,ab,col,dd,k0,k1,k2,k3,k5,lC,oN,iN,qN⟩:=XI.ex
 refine wpAny_execs_cons (wpAny_Expr_any ?_ I.quiet hs1)
 refine PySem.W.methodCall_KW (pl:=pl) (zAK I hg hmg ?_) ht
 refine PySem.W.method_cls I.kIn XM.ga (PySem.W.cls_value I.kIn XM.rd XM.init rfl ?_)
 refine PyProof.Rows.callWith_builtin1 (thn (zAL (zMW (X:=X) hN0 hv0) (zAL (yIY hN1 hv1 hd hcd hj hl) zMZ he2) he p5 pins _ σ H (fun vs H1=> ∃y,vs=[.ref e,.str y]∧H1=H) (I.tok _) ⟨_,s0,n,s1,hb,fun y=>⟨y,rfl,rfl⟩⟩) ?_) he hpl
 rintro us s2 ⟨vs2,H2,I2,r2,y,e2,e3⟩
 subst e2
 rw [e3]at I2
 obtain⟨u1,rfl⟩: ∃u1,us=[.ref e,u1]:=by
  cases r2 with
  | cons r1 r=>cases r with
   | cons r2 r=>cases r;cases r1;exact⟨_,rfl⟩
 have hx2:s2.heap.get? e=some (exO C none t0):=(I2.hok e _ hH).1
 have mu:Mut (H e):=by rw [hH];trivial
 obtain⟨hp2,g2,d2,tk2,os2⟩:=s2
 refine zXX F.excBase_ValueError (yKH I2.kIn hM) (I2.kIn _ _ lC) hx2 fun h3 t1 hx3 k3'=>?_
 have I3:Inv X pins σ (upd H e (.ext fun h=>h.get? e=some (exO C none t1))) ⟨h3,g2,d2,tk2,os2⟩:=
  I2.write (t':=tk2) mu (.inl rfl) (fun b u hb' hu=>k3' b u hb' hu) ⟨_,hx3⟩ ⟨hx3,⟨_,hx3⟩,fun h1 h2 z k=>k _ z⟩
 refine wpAny_execs_cons (plainObj_wpAny_Assign_Attribute ?_ hs2)
 refine thn (zMW (X:=X) hN1 hv1 hd hcd pins _ σ _ (fun v H'=>v=.int n∧H'=upd H e (.ext fun h=>h.get? e=some (exO C none t1))) I3 ⟨_,s1,rfl,rfl⟩) ?_
 rintro u s4 ⟨v4,H4,I4,r4,e4,e5⟩
 subst e4 e5
 refine thn (zMW (X:=X) hN0 hv0 (by decide) (by decide) pins _ σ _ (fun v H'=>v=.ref e∧H'=upd H e (.ext fun h=>h.get? e=some (exO C none t1))) I4 ⟨_,s0,rfl,rfl⟩) ?_
 rintro u5 s5 ⟨v5,H5,I5,r5,e6,e7⟩
 subst e6 e7
 cases r5
 have hx5:s5.heap.get? e=some (exO C none t1):=(I5.hok e _ zZ).1
 obtain⟨hp5,g5,d5,tk5,os5⟩:=s5
 refine yCH (zIU I5.kIn XI.cl hM) (I5.kIn _ _ lC) hx5 rfl rfl (fun c z=>by cases z) hf hB fun h6 tk6 dx st=>wpAny_execs_nil ?_
 obtain⟨n6,ne6,hx6,ns6,k6⟩:=st
 obtain⟨od,es6,ep6,hd6,r6⟩:=id ns6
 have hHdx:H dx=none:=by
  have:=I5.hok.none_of n6
  rwa [zP ne6]at this
 refine⟨σ,_,?_,q dx od t1 hHdx ne6⟩
 have hin: ∀b,b≠e→(upd (upd H dx (.frz od (.xd [(fld,.int n)]))) e (.ext fun h=>h.get? e=some (exO C (some dx) t1))) b=upd H dx (.frz od (.xd [(fld,.int n)])) b:=fun b hb'=>zP hb'
 have hol: ∀b o,H b=some o→b≠dx:=fun b o z y=>by rw [y,hHdx]at z;cases z
 have base5: ∀b,b≠e→(upd H e (.ext fun h=>h.get? e=some (exO C none t1))) b=H b:=fun b hb'=>zP hb'
 refine I5.un (h':=h6) (t':=tk6) ⟨fun b o z n' _ _=>k6 b o (fun y=>by rw [y,zZ]at n';cases n') z,fun b o z n' _ _=>⟨o.slots,k6 b o (fun y=>by rw [y,zZ]at n';cases n') z⟩,fun b o z n' _=>?_,fun b o z _=>?_,fun b xs z=>?_,fun b o' u' z=>?_,fun b ps z=>?_⟩ fun b u' z=>?_
 ·have hbe:b≠e:=fun y=>by rw [y,zZ]at n';cases n'
  rw [base5 b hbe]at n'
  rw [hin b hbe,zP (fun y=>by rw [y]at z;exact absurd (show hp5.get? dx=some o from z) (by rw [n6];simp))]
  exact n'
 ·by_cases hbe:b=e
  ·exact⟨_,by rw [hbe];exact hx6⟩
  ·exact⟨o,k6 b o hbe z⟩
 ·have hbe:b≠e:=fun y=>by rw [y,zZ]at z;cases z
  rw [base5 b hbe]at z
  rw [hin b hbe,zP (hol b _ z)];exact z
 ·have hbe:b≠e:=fun y=>by rw [y,zZ]at z;cases z
  rw [base5 b hbe]at z
  rw [hin b hbe,zP (hol b _ z)];exact z
 ·have hbe:b≠e:=fun y=>by rw [y,zZ]at z;cases z
  rw [base5 b hbe]at z
  exact⟨#[],by rw [hin b hbe,zP (hol b _ z),z];simp⟩
 ·by_cases hbe:b=e
  ·subst hbe
   rw [zZ]at z;cases z
   exact⟨hx6,⟨_,hx6⟩,fun h1 h2 z k=>k _ z⟩
  ·rw [hin b hbe]at z
   by_cases hbd:b=dx
   ·subst hbd
    rw [zZ]at z;cases z
    refine⟨hd6,_,ns6,fun y=>?_⟩
    obtain⟨tk,rfl⟩:=r4
    by_cases hy:y=fld
    ·subst hy
     rw [if_pos rfl,List.lookup_cons_self]
     exact⟨tk,rfl⟩
    ·rw [if_neg hy]
     have:(([(fld,V.int n)]:List (Str×V))).lookup y=none:=by
      rw [List.lookup_cons]
      rw [show(y==fld)=false from by simpa using hy]
      rfl
     rw [this];trivial
   ·rw [zP hbd]at z
    have z5:(upd H e (.ext fun h=>h.get? e=some (exO C none t1))) b=some u':=by rw [base5 b hbe];exact z
    have ntr: ∀c o,(upd H e (.ext fun h=>h.get? e=some (exO C none t1))) c=some o→(∀φ,o≠.ext φ)→(upd (upd H dx (.frz od (.xd [(fld,.int n)]))) e (.ext fun h=>h.get? e=some (exO C (some dx) t1))) c=some o:=fun c o w ne=>by
     have hce:c≠e:=fun y=>by rw [y,zZ]at w;cases w;exact ne _ rfl
     rw [base5 c hce]at w
     rw [hin c hce,zP (hol c _ w)];exact w
    refine(I5.hok b u' z5).stay (fun c v hc r=>k6 c v ?_ r) (fun c w=>ntr c _ w fun _ y=>by cases y) fun c xs w=>ntr c _ w fun _ y=>by cases y
    rcases hc with rfl | hc
    ·exact hbe
    ·intro y;rw [y,zZ]at hc;cases hc
end
section
variable{P:Program}{w:World}{K:PySem.W.Frag}{mg:Str→Option Value}{base:Heap}{qual:Str}{st:Stmt}{f C M:Addr}{fd:FuncData}{fld par:Str}{p1 p2 p3 p4 p5 p6 p7 p8 p9 p10:Pos}{v1 v2:Expr}{vs:List Expr}
theorem zMF{pl:Env→Sem Bool}(Fu:Fun K "__init__" qual st f fd)(Sc:FnScope ["self",par] ["self",par] (zG st))(hM:XCl K M bmV none)(XI:XIn K M C f)(XM:XMn K M)(hmg:mg "MendError"=some (.ref M))
  (hbd:wG st=[.Expr (.Call (.Attribute (.Name "MendError" p1) "__init__" p2) [.Name "self" p3,.JoinedStr (v1::v2::vs) p4] [] p5) p6,.Assign [.Attribute (.Name "self" p7) fld p8] (.Name par p9) p10])
  (ht: ∀env:Env,eval (.Call (.Attribute (.Name "MendError" p1) "__init__" p2) [.Name "self" p3,.JoinedStr (v1::v2::vs) p4] [] p5) env=(do
   let ov ←eval (.Name "MendError" p1) env
   standAt p2.atName
   let (f,first) ←holding [ov] (getMethod ov "__init__" (pl env))
   callWith p5 f first (backTo p5 (starEach [.Name "self" p3,.JoinedStr (v1::v2::vs) p4] env)) (backToKw p5 (keywordEach [] env))))
  (hs1: ∀env:Env,swapsWith (.Call (.Attribute (.Name "MendError" p1) "__init__" p2) [.Name "self" p3,.JoinedStr (v1::v2::vs) p4] [] p5) none p6.line env=pure false) (hs2: ∀env:Env,swapsWith (.Name par p9) (some (.Attribute (.Name "self" p7) fld p8)) p10.line env=pure false)
  (hg:(zG st).names.lookup ("MendError":Str)=some .globalImplicit) (h0:(zG st).names.lookup ("self":Str)=some .local) (h1:(zG st).names.lookup par=some .local)
  (hd:(par==("__debug__":Str))=false) (hcd:(par==("__classdict__":Str))=false) (hj:JL par (v1::v2::vs)) (hl:vs.length≤100) (hf:fld∈qn) (hB:typeLookup (.type "ValueError") fld=pure none):FnOk P w K mg base CX0 1 f fd ["self",par] (zGN C fld):=by
 refine Fu.ok (k:=0) Sc (fun vs' H Q E ⟨e,n,t0,z,_⟩=>by rw [z];rfl) fun cdv A outer s H vs' Q E hr ⟨e,n,t0,z,hb,hH,q⟩=>?_
 subst z
 rw [hbd]
 exact⟨_,yFM hM XI XM hmg hg rfl rfl (.inl h0) (.inl h1) hd hcd hj hl hf hB rfl (ht _) (hs1 _) (hs2 _),e,n,t0,rfl,rfl,hb,hH,q⟩
end
end M
end L2
namespace L2
namespace M
open PySem PySem.Spec PyProof.Rows
theorem zXY{K:PySem.W.Frag}{h:Heap}{N:Addr}{mg:Str→Option Value}{n:Str}{v:Value}(X:K.In h)(G:h.Ns N mg)(e:PySem.W.nsIn K N n=some (some v)):mg n=some v:=by
 obtain⟨o,es,ep,ho,hd,_,hf⟩:=G
 unfold PySem.W.nsIn at e
 split at e
 ·rename_i c d es' n' sl q
  have:=X _ _ q
  rw [ho]at this
  cases this
  cases hd
  split at e
  ·rename_i en he
   cases e
   rw [←hf]
   unfold nsFind findBy
   rw [←Array.find?_toList,he]
   rfl
  ·split at e<;>cases e
 ·cases e
def raF(x fld:Str):Er→Sto→R Fl
 | .val (.int n),S=>if n.natAbs<BIG then .exc x [(fld,.int n)] S else .no
 | _,_=>.no
section
variable{X:Cx}{E:XK}{e:Expr}{fe:Rho→Sto→R Er}{pos np cpos:Pos}{x fld par:Str}{C M f:Addr}{fd:FuncData}{k:Nat}
theorem zBW(hx:XOk X E)(hg:Gl X x)(hm:X.mg x=some (.ref C))(hM:XCl X.K M bmV none)(XI:XIn X.K M C f)(G:FnOk X.prog X.w X.K X.mg X.base CX0 1 f fd ["self",par] (zGN C fld))(hb:Binds X.K fd ["self",par] [])(hr:Room k X.A)(ha:PEm X (WE X.g E) e fe)
  (hk:2≤k:=by decide) (hex:X.ex=[]:=by rfl) (hcalm:X.calm=true:=by rfl) (hd:(x==("__debug__":Str))=false:=by decide) (he:starEach [e] X.env=(false,eval e X.env)::starEach [] X.env:=by rfl) (hpl:(backTo cpos (starEach [] X.env)).any (·.1)=false:=by rfl):
  PSm X (WE X.g E) (.Raise (some (.Call (.Name x np) [e] [] cpos)) none pos) (fun ρ S=>(fe ρ S).bind (raF x fld)):=by
 obtain⟨ta,ha,fa⟩:=ha
 refine⟨fun D σ H=>ta σ H fun v H1=> ∃n,v=.int n∧n.natAbs<BIG∧ ∀dx od,H1 dx=none→E (.ref C) (some dx) (upd H1 dx (.frz od (.xd [(fld,.int n)]))),fun pins s σ H D I h=>?_,fun α ρ S σ H D wd sl q=>fa α ρ S σ H _ wd sl (q.expr fun v r S1 α1 H1 e1 x1 w1 d1 q1=>?_)⟩
 ·obtain⟨nm,q,N,bs,sn,sub,ab,col,dd,k0,k1,k2,k3,k5,lC,oN,iN,qN⟩:=XI.ex
  obtain⟨oI,lI,cI⟩:=XI.fo
  have XB:=I.mod.kin
  have hN:=Heap.Ns.of_isNs (PySem.W.isNs_of_in XB oN)
  have hni:=zXY XB hN iN
  have T:=yKH XB hM
  refine zVB (C:=C) (nm:=nm) (q:=q) (N:=N) (bs:=bs) (bm:=.ref M::bmV) (hdct:=true) (sn:=sn) (sub:=sub) (ab:=ab) (col:=col) (dd:=dd) (k0:=k0) (k1:=k1) (k2:=k2) (k3:=k3) (k5:=k5) (fI:=f) (oI:=oI)
   F.excBase_ValueError (T.hasType F.excBase_ValueError.hasBase) (I.ok.hd hcalm) (by rw [he];exact hpl) hni cI (zAK I hg hm ⟨rfl,?_⟩ hd)
  have hr':=zAL ha zMZ he cpos pins s σ H (fun vs H1=>match vs with | [v]=> ∃n,v=.int n∧n.natAbs<BIG∧ ∀dx od,H1 dx=none→E (.ref C) (some dx) (upd H1 dx (.frz od (.xd [(fld,.int n)]))) | _=>False) I h
  rw [he]at hr' ⊢
  refine Calls.evalArgs_plain (thn hr' fun us s1 ⟨vs,H1,I1,r1,hv⟩=>?_)
  obtain⟨v0,rfl,n,rfl,hn,hE⟩: ∃v0,vs=[v0]∧ ∃n,v0=.int n∧n.natAbs<BIG∧ ∀dx od,H1 dx=none→E (.ref C) (some dx) (upd H1 dx (.frz od (.xd [(fld,.int n)]))):=by
   match vs,hv with
   | [v],hv=>exact⟨v,rfl,hv⟩
  have hlen:us.length=1:=by rw [←r1.length];rfl
  refine⟨rfl,by show us.length≤_;rw [hlen];decide,I1.bk _ _ (XB _ _ lC),hN.keeps I1.bk,T.keeps I1.bk,I1.bk _ _ (XB _ _ lI),fun h' a mk=>?_⟩
  have J1:Inv X pins σ H1 {s1 with heap:=h'}:=I1.kept (t':=s1.toks) mk.keeps
  obtain⟨t0,ht0,_,_⟩:=mk.there
  have oa:Out X pins H1 {s1 with heap:=h'} a:=⟨I1.older hex mk.new,I1.hok.none_of mk.new,fun p hp z=>(by have:=(I1.pin p hp).1;rw [z,mk.new]at this;cases this),_,_,ht0,rfl⟩
  have J2:=J1.track oa ht0
  have rv:Vals [.ref a,.int n] (.ref a::us):=.cons rfl r1
  refine wpAny_call (codeAny_mono (G.run _ X.stack _ _ ⟨.ref a::us,[]⟩ (.ref a::us) [.ref a,.int n] (fun v H'=>v=.non∧ ∃dx od t1,H1 dx=none∧dx≠a∧H'=upd (upd (upd H1 a (.ext fun h=>h.get? a=some (exO C none t0))) dx (.frz od (.xd [(fld,.int n)]))) a (.ext fun h=>h.get? a=some (exO C (some dx) t1))) E0
   ((hr.mono hk).make C us []) (J2.env0.make C us []) ?_ rv ⟨a,n,t0,rfl,hn,zZ,fun dx od t1 h1 h2=>⟨rfl,dx,od,t1,by rwa [zP h2]at h1,h2,rfl⟩⟩) fun r s' hq=>?_)
  ·have hh:=hb _ (.ref a::us) J2.kIn (by simp [hlen])
   rw [List.append_nil]at hh
   exact hh
  ·cases r with
   | error y=>exact hq.elim
   | ok fl=>
    cases fl with
    | ret u=>
     obtain⟨v3,H3,I3,r3,e3,dx,od,t1,hdx,hne,e4⟩:=J2.after hq
     subst e3
     have hga:s'.heap.get? a=some (exO C (some dx) t1):=(I3.hok a (.ext fun h=>h.get? a=some (exO C (some dx) t1)) (by rw [e4];exact zZ)).1
     have I4:=I3.untrack (e:=a) (by rw [e4];exact zZ)
     have eH:drp H3 a=upd H1 dx (.frz od (.xd [(fld,.int n)])):=by
      funext b
      rw [e4]
      by_cases hba:b=a
      ·rw [hba,zVC,zP (Ne.symm hne)];exact oa.h.symm
      ·rw [zHA hba,zP hba]
       by_cases hbd:b=dx
       ·rw [hbd,zZ,zZ]
       ·rw [zP hbd,zP hba,zP hbd]
     rw [eH]at I4
     exact⟨r3,_,_,I3.kIn _ _ lC,hga,hx.born pins σ _ s' a C (some dx) I4 ⟨_,_,hga,rfl,rfl,rfl,rfl⟩ oa.s0 (by rw [zP (Ne.symm hne)];exact oa.h) (hE dx od hdx)⟩
    | next=>exact False.elim hq
    | brk=>exact False.elim hq
    | cont=>exact False.elim hq
 ·unfold raF at q1
  split at q1
  ·rename_i n
   split at q1
   ·rename_i hn
    exact⟨n,xB d1.1,hn,fun dx od hdx=>q1 α1 _ (x1.trans (w1.newx hdx)) (w1.new hdx) C (some dx) hm (.inr ⟨dx,_,od,rfl,zZ,.cons (xJ n) .nil⟩)⟩
   ·exact q1.elim
  ·exact q1.elim
end
def yFN(ns:List Str)(fld:Str):Er→Sto→R Er
 | .val (.loc l),S=>match S[l]? with
  | some (.ins c fs)=>if c∈ns then(match fs.lookup fld with
   | some (.int n)=>.ok (.val (.int n)) S
   | _=>.no)else .no
  | _=>.no
 | _,_=>.no
theorem DenF.get{K:PySem.W.Frag}{α:List Addr}{H:Hp}{y:Str}{d:MV}: ∀{fs gs},DenF K α H fs gs→fs.lookup y=some d→ ∃v,gs.lookup y=some v∧Den K α H d v
 | _,_,.nil,h=>by simp at h
 | _,_,.cons (x:=x) a l,h=>by
  rw [List.lookup_cons]at h ⊢
  cases q:y==x with
  | true=>rw [q]at h;cases h;exact⟨_,rfl,a⟩
  | false=>rw [q]at h;exact DenF.get l h
section
variable{X:Cx}{W:XW}{a:Expr}{f:Rho→Sto→R Er}{pos:Pos}{M:Addr}{cs:List (Str×Addr)}{fld:Str}
theorem yMW{ns:List Str}(T:XTab X.K X.mg M cs)(hf:fld∈qn)(hB:typeLookup (.type "ValueError") fld=pure none)(ha:PEm X W a f)(hns:cs.map (·.1)=ns:=by rfl)
  (hbase:attributeBase a fld X.env (eval a X.env)=eval a X.env:=by rfl) (hgo: ∀o r,letTemporaryGo a o r=pure ():=by intro _ _;rfl):PEm X W (.Attribute a fld pos) (fun ρ S=>(f ρ S).bind (yFN ns fld)):=by
 subst hns
 obtain⟨ta,ha,fa⟩:=ha
 refine⟨fun σ H Q=>ta σ H fun v H1=> ∃aa oe dx od gs n C,v=.ref aa∧H1 aa=some (.ext fun h=>h.get? aa=some oe)∧oe.cls=.ref C∧oe.dict=some dx∧H1 dx=some (.frz od (.xd gs))∧gs.lookup fld=some (.int n)∧(∃i,XCl X.K C (.ref M::bmV) i)∧(∀c,oe.data≠.cls c)∧Q (.int n) H1,
  fun pins s σ H Q I h=>?_,fun α ρ S σ H Q wd sl q=>fa α ρ S σ H _ wd sl (q.bind fun u r S1 α1 H1 e1 x1 w1 d1 q1=>?_)⟩
 ·rw [arm_eval_Attribute,hbase]
  refine wpAny_bind (thn (ha pins s σ H _ I h) fun u s1 ⟨v,H1,I1,r1,aa,oe,dx,od,gs,n,C,e1,hH,hc,hdx,hHd,hgs,⟨i,cC⟩,hnc,q⟩=>?_)
  subst e1
  cases r1
  refine wpAny_bind (wpAny_standAt (wpAny_bind (wpAny_holding ?_)))
  have hx:s1.heap.get? aa=some oe:=(I1.hok aa _ hH).1
  obtain⟨_,mA,hns,hrel⟩:=I1.hok dx _ hHd
  have hr2:=hrel fld
  rw [hgs]at hr2
  cases hm:mA fld with
  | none=>rw [hm]at hr2;exact hr2.elim
  | some u=>
   rw [hm]at hr2
   obtain⟨tk,rfl⟩:=hr2
   have O:=zIU I1.kIn cC T.mc
   obtain⟨nm,q',N,bs,hdd,sn,sub,ab,col,dd,k0,k1,k2,k3,k5,lC,_,_,_,rfl⟩:=cC
   have hC:=I1.kIn _ _ lC
   obtain⟨hp,g,d,tk2,os⟩:=s1
   refine yCJ O hC hx hc hdx hnc hns hm hf hB rfl ?_
   rw [hgo]
   exact wpAny_bind (wpAny_pure (wpAny_pure ⟨.int n,H1,I1.tok _,⟨tk,rfl⟩,q⟩))
 ·replace q1:=q1.shift x1
  unfold yFN at q1
  split at q1
  ·rename_i l
   split at q1
   ·rename_i c fs hl
    split at q1
    ·rename_i hc
     split at q1
     ·rename_i n hlk
      obtain⟨aa,rfl,hα⟩:=zAW d1.1
      obtain⟨C,gs,hm,hden,oe,hH,hcl,hdx⟩:=w1.obj l aa _ hα hl
      obtain⟨⟨c',C'⟩,hm',rfl⟩:=List.mem_map.mp hc
      obtain⟨z1,z2⟩:=T.each.at hm'
      have:C=C':=by
       have z:X.mg c'=some (.ref C):=hm
       rw [z1]at z;cases z;rfl
      subst this
      rcases hdx with rfl | ⟨dx,od,h1,h2,vs,h3⟩
      ·simp at hlk
      ·obtain⟨v,hv,hd⟩:=hden.get hlk
       rw [jN hd]at hv
       exact⟨aa,oe,dx,od,gs,n,C,rfl,hH,hcl,h1,h2,hv,z2,(fun c z=>by rw [h3]at z;cases z),Post.val q1 w1 (xJ n)⟩
     ·exact q1.elim
    ·exact q1.elim
   ·exact q1.elim
  ·exact q1.elim
end
section
variable{X:Cx}{W:XW}{a b c:Expr}{f g h:Rho→Sto→R Er}{pos:Pos}
theorem yAD(hu:X.A.units+64<cLine)(ha:PEm X W a f)(hb:PEm X W b g)(hc:PEm X W c h)(hm:lastMarks [.Lt,.Lt] [b,c]=false:=by with_unfolding_all rfl):PEm X W (.Compare a [.Lt,.Lt] [b,c] pos) (fun ρ S=>(f ρ S).bind fun p S1=>(g ρ S1).bind fun q S2=>chF ltF ltF p q S2 fun S3=>h ρ S3):=zIG (zGY hu) (zGY hu) zCL zCL ha hb hc hm
theorem yIZ(hu:X.A.units+64<cLine)(ha:PEm X W a f)(hb:PEm X W b g)(hc:PEm X W c h)(hm:lastMarks [.Lt,.LtE] [b,c]=false:=by with_unfolding_all rfl):PEm X W (.Compare a [.Lt,.LtE] [b,c] pos) (fun ρ S=>(f ρ S).bind fun p S1=>(g ρ S1).bind fun q S2=>chF ltF leF p q S2 fun S3=>h ρ S3):=zIG (zGY hu) (zMX.or gX) zCL zGZ ha hb hc hm
end
theorem xin_mk{K:PySem.W.Frag}{C N M f:Addr}{bs sub:List Value}{nm q:Str}{ab:Bool}{sn:List Str}{col:Option Bool}{dd od:Option Addr}{k0 k1 k2 k3 k5:Option Value}{oc:Value}{es:Array DictEntry}{ep:Nat}{sl:Array (Option Value)}{fo:Obj}
  (l:K.lookup C=some (excClassObj nm q C N bs (.ref M::bmV) true sn sub ab col dd k0 k1 k2 k3 k5 "ValueError.__new__")) (n:K.lookup N=some ⟨oc,od,.dict es ep,sl⟩) (o:(es.toList.all fun e=>match e.key with | .str _ _=>true | _=>false)=true)
  (i:PySem.W.nsIn K N "__init__"=some (some (.ref f))) (q1:PySem.W.nsIn K N "__class__"=some none) (q2:PySem.W.nsIn K N "__getattribute__"=some none) (q3:PySem.W.nsIn K N "__getattr__"=some none)
  (q4:PySem.W.nsIn K N "__setattr__"=some none) (q5:PySem.W.nsIn K N "place"=some none) (q6:PySem.W.nsIn K N "number"=some none) (lf:K.lookup f=some fo) (cf:fo.cls=.type "function"):XIn K M C f:=by
 refine⟨⟨nm,q,N,bs,sn,sub,ab,col,dd,k0,k1,k2,k3,k5,l,?_,i,fun y hy=>?_⟩,fo,lf,cf⟩
 ·unfold PySem.W.nsOkIn
  rw [n]
  rw [Array.all_toList]at o
  exact o
 ·simp only [qn,List.mem_cons,List.not_mem_nil,or_false]at hy
  rcases hy with rfl | rfl | rfl | rfl | rfl | rfl<;>assumption
end M
end L2
namespace L2
namespace M
open PySem PySem.Spec PyProof.Rows
structure DefM(K:PySem.W.Frag)(mg:Str→Option Value)(x:Str)(st:Stmt):Prop where
 ex: ∃f fd,mg x=some (.ref f)∧Fun K x x st f fd
theorem def_mk{K:PySem.W.Frag}{mg:Str→Option Value}{h:Heap}{x:Str}{st:Stmt}{g:Addr}{od an:Option Addr}{sl:Array (Option Value)}{oc kV dc pm cd ct:Value}(a:PySem.W.nsIn K mainGlobals x=some (some (.ref g)))
  (l:K.lookup g=some ⟨oc,od,.func (PySem.W.fnOf x x (gI st) (wG st) (zG st) .none kV dc pm an cd ct),sl⟩) (c:PySem.W.codeIn K cd x=true) (k:PySem.W.keepIn K (.ref g)=true) (X:K.In h) (GG:h.Ns mainGlobals mg):DefM K mg x st:=⟨_,_,PySem.W.mg_of X GG a,zND l c k⟩
structure Cal(P:Program)(w:World)(K:PySem.W.Frag)(mg:Str→Option Value)(base:Heap)(CX:CXT)(x:Str)(k:Nat)(ps:List Str)(sp:Sp):Prop where
 ex: ∃fa fd,FnOk P w K mg base CX k fa fd ps sp∧mg x=some (.ref fa)∧PySem.W.keepIn K (.ref fa)=true∧Binds K fd ps []
abbrev CalM(P:Program)(w:World)(K:PySem.W.Frag)(mg:Str→Option Value)(base:Heap)(x:Str)(k n:Nat)(ps:List Str)(F:List MV→Sto→R Er):Prop:=Cal P w K mg base CX0 x k ps (spM ⟨K,mg,P,w⟩ n F)
abbrev yFO(P:Program)(w:World)(K:PySem.W.Frag)(mg:Str→Option Value)(base:Heap)(x:Str)(k n:Nat)(ps:List Str)(F:List MV→Sto→R Er):Prop:=Cal P w K mg base (CXe P w) x k ps (spX ⟨K,mg,P,w⟩ n F)
section
variable{P:Program}{w:World}{K:PySem.W.Frag}{mg:Str→Option Value}{base:Heap}{x:Str}{st:Stmt}{N ps:List Str}{k n:Nat}{F:List MV→Sto→R Er}
abbrev zXZ(x:Str)(st:Stmt)(ps:List Str):Prop:= ∀(kV doc pm:Value)(an:Option Addr)(cdv ct:Value)(us:List Value),us.length=ps.length→bindArgs (PySem.W.fnOf x x (gI st) (wG st) (zG st) .none kV doc pm an cdv ct) ⟨us,[]⟩=pure (ps.zip us)
theorem okC(D:DefM K mg x st)(hb:zXZ x st ps)(h: ∀f fd,Fun K x x st f fd→FnOk P w K mg base CX0 k f fd ps (spM ⟨K,mg,P,w⟩ n F)):CalM P w K mg base x k n ps F:=
 let ⟨f,fd,m,Fu⟩:=D.ex;⟨f,fd,h f fd Fu,m,Fu.kp,Fu.binds hb⟩
theorem yFP(D:DefM K mg x st)(hb:zXZ x st ps)(h: ∀f fd,Fun K x x st f fd→FnOk P w K mg base (CXe P w) k f fd ps (spX ⟨K,mg,P,w⟩ n F)):yFO P w K mg base x k n ps F:=
 let ⟨f,fd,m,Fu⟩:=D.ex;⟨f,fd,h f fd Fu,m,Fu.kp,Fu.binds hb⟩
theorem Cal.noX(G:yFO P w K mg base x k n ps F):CalM P w K mg base x k n ps F:=let ⟨fa,fd,G,m,kp,b⟩:=G.ex;⟨fa,fd,G.noX,m,kp,b⟩
theorem yMX{l:PySem.W.OpenLaw}{fa:Addr}{p:Str}(D:DefM K mg x st)(hfa:mg x=some (.ref fa))(hb: ∀(kV doc pm:Value)(an:Option Addr)(cdv ct:Value)(s:Shared)(v:Value),BindsTo s (PySem.W.fnOf x x (gI st) (wG st) (zG st) .none kV doc pm an cdv ct) ⟨[v],[]⟩ [(p,v)])
  (h: ∀base f fd,Fun K x x st f fd→FnOk l.prog w K mg base CX0 k f fd [p] (spM ⟨K,mg,l.prog,w⟩ 1 F)):
  ∃fd:FuncData,(∀(s:Shared)(v:Value),BindsTo s fd ⟨[v],[]⟩ [(p,v)])∧ ∀base:Heap,K.In base→base.Ns mainGlobals mg→FnOk l.prog w K mg base CX0 k fa fd [p] (zQX K F):=by
 obtain⟨f,fd,m,Fu⟩:=D.ex
 rw [hfa]at m
 cases m
 refine⟨fd,?_,fun base _ _=>(h base fa fd Fu).imp fun vs H Q E=>yET (g:=⟨K,mg,l.prog,w⟩) vs H Q E⟩
 obtain⟨_,_,_,_,_,_,_,_,_,rfl,_,_⟩:=Fu.ex
 exact hb _ _ _ _ _ _
end
section
variable{X:Cx}{W:XW}{E:XK}{e:Expr}{es:List Expr}{af:Rho→Sto→R (List Er)}{k n:Nat}{ps:List Str}{F:List MV→Sto→R Er}{x:Str}{p pos:Pos}
theorem zL(G:CalM X.prog X.w X.K X.mg X.base x k n ps F)(hr:Room k X.A)(hg:Gl X x)(ha:PAm X W (e::es) af)(hdb:(x==("__debug__":Str))=false:=by decide)
  (he:starEach (e::es) X.env=(false,eval e X.env)::starEach es X.env:=by rfl) (hpl:(backTo pos (starEach es X.env)).any (·.1)=false:=by rfl):PEm X W (.Call (.Name x p) (e::es) [] pos) (fun ρ S=>(af ρ S).bind fun rs S1=>zM n F rs S1):=
 let ⟨_,_,G,m,kp,b⟩:=G.ex;zZO G hr hg m kp b ha hdb he hpl
theorem zFZ(hx:XOk X E)(G:yFO X.prog X.w X.K X.mg X.base x k n ps F)(hr:Room k X.A)(hg:Gl X x)(ha:PAm X (WE X.g E) (e::es) af)(hdb:(x==("__debug__":Str))=false:=by decide)
  (he:starEach (e::es) X.env=(false,eval e X.env)::starEach es X.env:=by rfl) (hpl:(backTo pos (starEach es X.env)).any (·.1)=false:=by rfl):PEm X (WE X.g E) (.Call (.Name x p) (e::es) [] pos) (fun ρ S=>(af ρ S).bind fun rs S1=>jM n F rs S1):=
 let ⟨_,_,G,m,kp,b⟩:=G.ex;yFH hx G hr hg m kp b ha hdb he hpl
variable{M:Addr}{cs:List (Str×Addr)}{i j:Nat}{nm y:Str}{Fh:Rho→Sto→R Fl}{b0:Stmt}{suite:List Stmt}{mp hpos cpos epos pos':Pos}{ns:List Str}
theorem yFQ(T:XTab X.K X.mg M cs)(hgm:Gl X "MendError")(hN:X.N.Nodup)(G:yFO X.prog X.w X.K X.mg X.base x k n ps F)(hr:Room k X.A)(hg:Gl X x)(ha:PAm X.nox W0 (e::es) af)(hsuite: ∀v,zKA (X.inH v) W0 (b0::suite) Fh)(hns:cs.map (·.1)=ns:=by rfl)(hi:X.N[i]? =some nm:=by rfl)(hk:X.env.kindOf nm=some .local:=by rfl)(hex:X.ex=[]:=by rfl)(hstk:X.stack=X.env::X.outer:=by rfl)(hfm:X.env.frame=some X.env.locals:=by rfl)
  (hdb:(x==("__debug__":Str))=false:=by decide) (he:starEach (e::es) X.env=(false,eval e X.env)::starEach es X.env:=by rfl) (hpl:(backTo cpos (starEach es X.env)).any (·.1)=false:=by rfl) (hs:swapsWith (.Call (.Name x p) (e::es) [] cpos) none epos.line X.env=pure false:=by rfl):
  PSm X W (.Try [.Expr (.Call (.Name x p) (e::es) [] cpos) epos] [.ExceptHandler (some (.Name "MendError" mp)) (some nm) (b0::suite) hpos] [] [] pos)
   (fun ρ S=>(noX (af ρ S)).bind fun rs S1=>yFI ns i (fun _ S2=>.ok (.next ρ) S2) Fh ρ (jM n F rs S1)):=
 let ⟨_,_,G,m,kp,b⟩:=G.ex;yIW T hgm hN G hr hg m kp b ha hsuite hns hi hk hex hstk hfm hdb he hpl hs
end
end M
end L2
namespace L2
open PySem PySem.Spec PyProof.Rows
structure RoomH(k:Nat)(A:Around):Prop where
 dp:A.depth+3 * k+5<recursionLimit
 un:A.units+16 * k+200<cLine
theorem RoomH.mono{j k:Nat}{A:Around}(r:RoomH k A)(h:j≤k):RoomH j A:=⟨by have:=r.dp;omega,by have:=r.un;omega⟩
theorem RoomH.deeper{k:Nat}{A:Around}(r:RoomH (k+1) A)(env:Env):RoomH k (A.deeper env):=
 ⟨by have:=r.dp;show A.depth+1+3 * k+5<_;omega,by have:=r.un;show A.units+3+16 * k+200<_;omega⟩
theorem RoomH.depth{k:Nat}{A:Around}(r:RoomH k A):A.depth<recursionLimit:=by have:=r.dp;omega
theorem Room.inH{k:Nat}{A:Around}(r:Room k A)(v:Value):RoomH k (A.mark (some v)):=⟨r.dp,r.un⟩
structure FnOkH(P:Program)(w:World)(K:PySem.W.Frag)(mg:Str→Option Value)(base:Heap)(k:Nat)(f:Addr)(fd:FuncData)(ps:List Str)(sp:Sp):Prop where
 len: ∀vs H Q E,sp vs H Q E→vs.length=ps.length
 run: ∀(A:Around)(outer:List Env)(s:Shared)(H:Hp)(args:Args)(us:List Value)(vs:List V)(Q:VK)(E:XK),RoomH k A→Env0 P w K mg base A outer s H→BindsTo s fd args (ps.zip us)→Vals vs us→sp vs H Q E→
  codeAny (model P w) A (.call (.ref f) args) (CR CX0 outer P w H s Q E) s
def cxH(P:Program)(w:World)(K:PySem.W.Frag)(mg:Str→Option Value)(base:Heap)(N:List Str)(qual:Str)(scope:Scope)(f:Addr)(cd:Value)(A:Around)(outer:List Env)(s:Shared)(H:Hp):Cx:={zNA CX0 P w K mg base N qual scope f cd A outer s H E0 with calm:=false,xe:=fun _ _=>False}
section
variable{P:Program}{w:World}{K:PySem.W.Frag}{mg:Str→Option Value}{base:Heap}{k:Nat}{f:Addr}{qual:Str}{scope:Scope}{cdv:Value}{A:Around}{outer:List Env}{s s1:Shared}{H:Hp}{σ:St}{N ps:List Str}{sp:Sp}
theorem inv_H(fr:A.frames=some outer)(I:Inv (zNA CX0 P w K mg base N qual scope f cdv {A with handled:=none} outer s H E0) [] σ H s1):Inv (cxH P w K mg base N qual scope f cdv A outer s H) [] σ H s1:=
 ⟨⟨I.ok.mod,I.ok.kind,I.ok.glob,I.ok.blt,I.ok.above,I.ok.inj,I.ok.has,I.ok.cab,fun z=>(by cases z),Around.frames_deeper fr,I.ok.stk,I.ok.exf,I.ok.bs,I.ok.bsz,I.ok.noex,I.ok.exfs,I.ok.funs,I.ok.frf⟩,I.os,I.bare,I.base,I.loc,I.cell,I.free,I.freeC,I.pin,I.hok,I.len⟩
theorem yMY{x:Str}{st:Stmt}{fd:FuncData}(Fu:Fun K x qual st f fd)(S:FnScope N ps (zG st))(len: ∀vs H Q E,sp vs H Q E→vs.length=ps.length)
  (hbody: ∀(cdv:Value)(A:Around)(outer:List Env)(s:Shared)(H:Hp)(vs:List V)(Q:VK)(E:XK),RoomH k (A.deeper (envOfC qual (zG st) s.heap.objs.size f cdv))→sp vs H Q E→
   ∃t,PSs (cxH P w K mg base N qual (zG st) f cdv A outer s H) (wG st) t∧t {nx:=fun _ H'=>Q .non H',rt:=Q} (start N vs) H):FnOkH P w K mg base (k+1) f fd ps sp:=by
 obtain⟨oc,od,kV,doc,pm,an,cdv,ct,osl,rfl,lk,hcd⟩:=Fu.ex
 refine⟨len,fun A outer s H args us vs Q E hr e0 hb r hsp=>?_⟩
 have hl:=len _ _ _ _ hsp
 have KX:K.In s.heap:=e0.mod.kin.keeps fun b o e=>(e0.bs b o e).1
 have lim:s.heap.NoLimit:=e0.mod.nolimit.keeps fun b o e=>(e0.bs b o e).1
 have hkind: ∀y∈ps.zip us,(zG st).names.lookup y.1=some .local∨((zG st).names.lookup y.1=some .cell∧((cellsFrom (s.heap.objs.size+1) (zG st).names []).lookup y.1).isSome=true):=fun⟨n,v⟩ hy=>by
  rcases S.par n (List.of_mem_zip hy).1 with q | q
  ·exact .inl q
  ·exact .inr ⟨q,PySem.W.cellsFrom_some _ _ _ (.inl q)⟩
 refine codeAny_call_function hr.depth (KX _ _ lk) rfl S.co S.gen rfl (PySem.W.codeRec_of KX hcd) (hb _ _ _ _ ?_)
 refine wpAny_newFunctionEnv_cells S.kind hkind fun env he s1 x=>?_
 subst he
 refine⟨lim.keeps x.toInCall.keep,codeAny_func ?_⟩
 obtain⟨t,ht,hq⟩:=hbody cdv A outer s H vs Q E (hr.deeper _) hsp
 have e1:Env0 P w K mg base {A with handled:=none} outer s H:=⟨e0.frames,e0.mod,e0.bs,e0.bsz,e0.funs,e0.frf,e0.hok,e0.bare⟩
 have I:=inv_H e0.frames (zQL (CX:=CX0) (E:=E0) S rfl e1 hl r x)
 refine wpAny_mono (ht [] s1 (start N vs) H _ I hq) (fun fl s' hs=>?_) fun e s' hs=>hs.elim
 have fin: ∀{σ':St}{H':Hp}{v:V}{u:Value},Inv (cxH P w K mg base N qual (zG st) f cdv A outer s H) [] σ' H' s'→RelV v u→Q v H'→CE outer P w H s Q u s':=
  fun {σ' H' v u} J rv q=>⟨v,H',J.os,J.bare,J.base,J.hok,rv,q⟩
 cases fl with
 | ret u=>
  obtain⟨v,σ',H',J,rv,q⟩:=hs
  exact fin J rv q
 | next=>
  obtain⟨σ',H',J,q⟩:=hs
  exact fin (v:=V.non) (u:=Value.none) J rfl q
 | brk=>
  obtain⟨_,_,_,q⟩:=hs
  exact False.elim q
 | cont=>
  obtain⟨_,_,_,q⟩:=hs
  exact False.elim q
end
namespace M
section
variable{P:Program}{w:World}{K:PySem.W.Frag}{mg:Str→Option Value}{base:Heap}{x:Str}{st:Stmt}{N ps:List Str}{k n:Nat}{F:List MV→Sto→R Er}
structure CalH(P:Program)(w:World)(K:PySem.W.Frag)(mg:Str→Option Value)(base:Heap)(x:Str)(k n:Nat)(ps:List Str)(F:List MV→Sto→R Er):Prop where
 ex: ∃fa fd,FnOkH P w K mg base k fa fd ps (spM ⟨K,mg,P,w⟩ n F)∧mg x=some (.ref fa)∧PySem.W.keepIn K (.ref fa)=true∧Binds K fd ps []
theorem okH{f:Addr}{fd:FuncData}(Fb:Rho→Sto→R Fl)(Fu:Fun K x x st f fd)(Sc:FnScope N ps (zG st))
  (hbody: ∀(cdv:Value)(A:Around)(outer:List Env)(s:Shared)(H:Hp),RoomH k (A.deeper (envOfC x (zG st) s.heap.objs.size f cdv))→zKA (cxH P w K mg base N x (zG st) f cdv A outer s H) W0 (wG st) Fb):
  FnOkH P w K mg base (k+1) f fd ps (spM ⟨K,mg,P,w⟩ ps.length fun ds S=>yO (Fb (zS N ds) S)):=by
 refine yMY Fu Sc (fun vs H Q E h=>?_) (fun cdv A outer s H vs Q E hr h=>?_)
 ·obtain⟨α,S,ds,_,l,hl,_⟩:=h
  rw [l.length,hl]
 ·obtain⟨α,S,ds,wd,l,hl,q⟩:=h
  obtain⟨t,ht,kk⟩:=hbody cdv A outer s H hr
  refine⟨t,ht,kk α (zS N ds) S (start N vs) H _ wd (zEO l) ?_⟩
  dsimp only at q
  cases z:Fb (zS N ds) S with
  | ok fl S'=>
   rw [z]at q
   cases fl with
   | next ρ=>exact fun σ α' H' x' w' s'=>q .non α' H' x' w' (DenE.val cR)
   | ret r=>exact fun v α' H' x' w' d'=>q v α' H' x' w' d'
   | brk ρ=>exact q.elim
   | cont ρ=>exact q.elim
  | exc c fs S'=>rw [z]at q;exact fun α' H' x' w'=>(q α' H' x' w').elim
  | no=>rw [z]at q;exact q
theorem okCH(D:DefM K mg x st)(hb:zXZ x st ps)(h: ∀f fd,Fun K x x st f fd→FnOkH P w K mg base k f fd ps (spM ⟨K,mg,P,w⟩ n F)):CalH P w K mg base x k n ps F:=
 let ⟨f,fd,m,Fu⟩:=D.ex;⟨f,fd,h f fd Fu,m,Fu.kp,Fu.binds hb⟩
end
section
variable{X:Cx}{W:XW}{e:Expr}{es:List Expr}{af:Rho→Sto→R (List Er)}{k n:Nat}{ps:List Str}{F:List MV→Sto→R Er}{x:Str}{p pos:Pos}
theorem yCK(G:CalH X.prog X.w X.K X.mg X.base x k n ps F)(hr:RoomH k X.A)(hg:Gl X x)(ha:PAm X W (e::es) af)(hdb:(x==("__debug__":Str))=false:=by decide)
  (he:starEach (e::es) X.env=(false,eval e X.env)::starEach es X.env:=by rfl) (hpl:(backTo pos (starEach es X.env)).any (·.1)=false:=by rfl):PEm X W (.Call (.Name x p) (e::es) [] pos) (fun ρ S=>(af ρ S).bind fun rs S1=>zM n F rs S1):=by
 obtain⟨fa,fd,G,m,kp,b⟩:=G.ex
 obtain⟨t,ha,kk⟩:=ha
 refine⟨fun σ H Q=>t σ H fun vs H1=>spM X.g n F vs H1 Q E0,fun pins s σ H Q I h=>?_,fun α ρ S σ H Q wd sl q=>kk α ρ S σ H _ wd sl (q.bind fun vs rs S1 α1 H1 e1 x1 w1 d1 q1=>zQT x1 w1 d1 q1)⟩
 refine wpAny_Call_Name_kw (zAK I hg m ?_ hdb)
 refine PySem.W.callWith_K (h₀:=X.base) I.ok.mod.kin kp (thn (ha pos pins s σ H _ I h) fun us s1 ⟨vs,H1,I1,r,q⟩=>⟨I1.kIn,?_⟩) he hpl
 have hl:us.length=ps.length:=by rw [←r.length];exact G.len _ _ _ _ q
 have hb:=b s1 us I1.kIn (by rw [List.append_nil];exact hl)
 rw [List.append_nil]at hb
 refine wpAny_call (codeAny_mono (G.run X.A X.stack s1 H1 ⟨us,[]⟩ us vs Q E0 hr I1.env0 hb r q) fun r s' hq=>?_)
 cases r with
 | error y=>exact hq.elim
 | ok fl=>
  cases fl with
  | ret u=>exact I1.after hq
  | next=>exact False.elim hq
  | brk=>exact False.elim hq
  | cont=>exact False.elim hq
end
def yFR:List Er→Sto→R Er
 | [.val (.int i),.val (.int j)],S=>.ok (.val (.int (if j>i then j else i))) S
 | _,_=>.no
section
variable{X:Cx}{W:XW}
theorem yMZ:zIH X W (fun xs H Q=> ∃i j,xs=[.int i,.int j]∧Q (.int (if j>i then j else i)) H) yFR:=by
 intro rs vs α S H Q wd d post
 unfold yFR at post
 split at post
 ·obtain⟨v,u,rfl,dv,du⟩:=yKF d
  cases xB dv
  cases xB du
  exact⟨_,_,rfl,Post.val post wd (xJ _)⟩
 ·exact post.elim
end
theorem yNA:bootBuiltins "max"=some (.builtin "max"):=by decide+kernel
end M
end L2
namespace L2
namespace M
namespace My
open PySem PySem.Spec PyProof.Rows
local macro_rules
 | `(tactic| simp? [$xs,*] $[$l:location]?)=>`(tactic| simp only [List.getElem?_cons_zero,List.getElem?_cons_succ,rd_some,bok,as_int,as_bl,tru_bl,add_int,sub_int,eq_int,ib_int,lst0,lst1,lst2,lst3,lst6,tup2,tup3,isi_is,isi_ss,isi_it,isi_st,isi_tt,isi_bb,set_val,set_new,List.set_cons_zero,List.set_cons_succ,if_true,ent_val,ent_nil,$xs,*] $[$l:location]?)
abbrev wM:List Str:=["thing","least","most"]
abbrev zVD:List Str:=["rule","tables","number","columns"]
abbrev zOF:List Str:=["thing","tables","wide"]
abbrev yS:List Str:=["tables","rules","rows"]
abbrev zET:List Str:=["tables","place","table"]
abbrev zGO:List Str:=["tables","rules","place","rule"]
abbrev zIV:List Str:=["tables","rows","place","row","seen"]
abbrev zHB:List Str:=["_law_cell_here","_law_prime","_law_number"]
abbrev zEU:List Str:=["_law_cell_here","_law_letters","_law_number","_law_name_here","_law_k"]
abbrev zCO:List Str:=["_law_cell_here","_law_rest"]
abbrev zIW:List Str:=["_law_e","_law_kinds_here"]
abbrev dP:List Str:=["_law_parts","_law_which","_law_place","_law_kinds_here","_law_told","_law_e"]
abbrev zCP:List Str:=["_law_cell_here","_law_number","_law_wide","_law_odd"]
abbrev zCQ:List Str:=["_law_cell_here","_law_tables","_law_number","_law_t","_law_wide","_law_odd"]
abbrev xC:List Str:=["_law_tables","_law_thing"]
abbrev zOG:List Str:=["_law_tables","_law_rows","_law_k"]
abbrev zOH:List Str:=["_law_script","_law_head","_law_tables","_law_rows","_law_cell_here","_law_parts","_law_due_here"]
abbrev XNS:List Str:=["TooGreat","NoText","NoPlace","NotPlain","NoTable","NoRule","NoRow","Twice","NoQuestion","Double","TooWide","Ring"]
noncomputable section
abbrev AF:=Rho→Sto→R Fl
abbrev AE:=Rho→Sto→R Er
def zCR:AF:=(fun ρ S=>((((zE (ρ[0]?) S).bind fun a b=>((R.ok (.val (.typ "int")) b).bind fun c d=>(R.ok [] d).bind fun e g=>.ok (c::e) g).bind fun h i=>.ok (a::h) i).bind kC).bind fun j l=>wU j l fun m=>((((zE (ρ[0]?) m).bind fun n o=>((R.ok (.val (.typ "bool")) o).bind fun p q=>(R.ok [] q).bind fun s t=>.ok (p::s) t).bind fun u v=>.ok (n::u) v).bind kC).bind fun w x=>(asB w x).bind fun y z=>.ok (.val (.bl !y)) z)).bind fun r A=>.ok (.ret r) A)
def dQ:AF:=(zCR)
def wN(ds:List MV)(S:Sto):R Er:=yO (dQ (zS ["thing"] ds) S)
def bP:Rho→Sto→R Bool:=fun ρ S=>(R.ok true S)
def jS:AE:=fun ρ S=>((R.ok (.val (.str [97])) S).bind fun a b=>(zE (ρ[0]?) b).bind fun c d=>chF leF leF a c d fun e=>(R.ok (.val (.str [122])) e))
def zEV:AF:=(fun ρ S=>((((((zE (ρ[0]?) S).bind fun a b=>((R.ok (.val (.typ "str")) b).bind fun c d=>(R.ok [] d).bind fun e g=>.ok (c::e) g).bind fun h i=>.ok (a::h) i).bind kC).bind kL).bind fun j l=>.ok (!j) l).bind fun m n=>if m=true then .ok true n else((((R.ok (.val (.int 1)) n).bind fun o p=>(((zE (ρ[0]?) p).bind fun q s=>(R.ok [] s).bind fun t u=>.ok (q::t) u).bind xX).bind fun v w=>chF leF leF o v w fun x=>(R.ok (.val (.int 8)) x)).bind asB).bind fun y z=>.ok (!y) z)).bind fun k A=>if k=true then((fun ρ S=>(R.ok (.val (.bl false)) S).bind fun r A=>.ok (.ret r) A)) ρ A else(fun ρ S=>.ok (.next ρ) S) ρ A)
def zEW:AF:=(fun ρ S=>(((((zE (ρ[0]?) S).bind itS).bind fun a b=>if a.ds.length<1000000 then(yU (gNm 0) (bP) (jS) (blk 1 [] ρ) a.gs a.ds b).bind fun c d=>.ok (.new c) d else .no).bind fun e g=>(R.ok [] g).bind fun h i=>.ok (e::h) i).bind zNW).bind fun r j=>.ok (.ret r) j)
def zKG:AF:=yA (zEV) ((zEW))
def zGA(ds:List MV)(S:Sto):R Er:=yO (zKG (zS ["thing"] ds) S)
def gK:AF:=(fun ρ S=>((((zE (ρ[0]?) S).bind fun a b=>(R.ok [] b).bind fun c d=>.ok (a::c) d).bind fun e g=>zM 1 wN e g).bind kL).bind fun k h=>if k=true then((fun ρ S=>((((zE (ρ[0]?) S).bind fun i j=>(R.ok [] j).bind fun l m=>.ok (i::l) m).bind yBX).bind fun n o=>((R.ok (.val (.int 10)) o).bind fun p q=>(R.ok (.val (.int 30)) q).bind fun s t=>bV p s t).bind fun u v=>ltF n u v).bind fun r h=>.ok (.ret r) h)) ρ h else(fun ρ S=>.ok (.next ρ) S) ρ h)
def zCS:AF:=(fun ρ S=>(((zE (ρ[0]?) S).bind fun a b=>(R.ok [] b).bind fun c d=>.ok (a::c) d).bind fun e g=>zM 1 zGA e g).bind fun r h=>.ok (.ret r) h)
def zHC:AF:=yA (gK) ((zCS))
def bB(ds:List MV)(S:Sto):R Er:=yO (zHC (zS ["thing"] ds) S)
def zIX:AF:=(fun ρ S=>((((zE (ρ[0]?) S).bind fun a b=>((R.ok (.val (.typ "tuple")) b).bind fun c d=>(R.ok [] d).bind fun e g=>.ok (c::e) g).bind fun h i=>.ok (a::h) i).bind kC).bind fun j l=>wU j l fun m=>((zE (ρ[1]?) m).bind fun n o=>(((zE (ρ[0]?) o).bind fun p q=>(R.ok [] q).bind fun s t=>.ok (p::s) t).bind xX).bind fun u v=>chF leF leF n u v fun w=>(zE (ρ[2]?) w))).bind fun r x=>.ok (.ret r) x)
def zHD:AF:=(zIX)
def yL(ds:List MV)(S:Sto):R Er:=yO (zHD (zS wM ds) S)
def jO:AF:=(fun ρ S=>((((zE (ρ[0]?) S).bind fun a b=>(R.ok [] b).bind fun c d=>.ok (a::c) d).bind fun e g=>zM 1 wN e g).bind fun h i=>wU h i fun j=>((R.ok (.val (.int 0)) j).bind fun l m=>(zE (ρ[0]?) m).bind fun n o=>chF leF ltF l n o fun p=>(zE (ρ[1]?) p))).bind fun r q=>.ok (.ret r) q)
def wH:AF:=(jO)
def zO(ds:List MV)(S:Sto):R Er:=yO (wH (zS ["thing","bound"] ds) S)
def kD:AF:=(fun ρ S=>((((((zE (ρ[0]?) S).bind fun a b=>((R.ok (.val (.int 2)) b).bind fun c d=>((R.ok (.val (.int 2)) d).bind fun e g=>(R.ok [] g).bind fun h i=>.ok (e::h) i).bind fun j l=>.ok (c::j) l).bind fun m n=>.ok (a::m) n).bind fun o p=>zM 3 yL o p).bind kL).bind fun q s=>.ok (!q) s).bind fun t u=>if t=true then .ok true u else((((((zE (ρ[0]?) u).bind fun v w=>(R.ok (.val (.int 0)) w).bind fun x y=>ixF v x y).bind fun z A=>(R.ok [] A).bind fun B D=>.ok (z::B) D).bind fun G I=>zM 1 wN G I).bind kL).bind fun J L=>.ok (!J) L)).bind fun k M=>if k=true then((fun ρ S=>(R.ok (.val (.bl false)) S).bind fun r M=>.ok (.ret r) M)) ρ M else(fun ρ S=>.ok (.next ρ) S) ρ M)
def zCT:AF:=(fun ρ S=>((zE (ρ[0]?) S).bind fun a b=>(R.ok (.val (.int 0)) b).bind fun c d=>ixF a c d).bind (kM ρ 1))
def zCU:AF:=(fun ρ S=>(((R.ok (.val (.int 1)) S).bind fun a b=>(zE (ρ[1]?) b).bind fun c d=>chF leF leF a c d fun e=>(R.ok (.val (.int 4)) e)).bind fun g h=>wU g h fun i=>((((zE (ρ[0]?) i).bind fun j l=>(R.ok (.val (.int 1)) l).bind fun m n=>ixF j m n).bind fun o p=>(((zE (ρ[1]?) p).bind fun q s=>(R.ok (.val (.int 1)) s).bind fun t u=>jH q t u).bind fun v w=>(R.ok [] w).bind fun x y=>.ok (v::x) y).bind fun z A=>.ok (o::z) A).bind fun B D=>zM 2 zO B D)).bind fun r G=>.ok (.ret r) G)
def zHE:AF:=yA (kD) (yA (zCT) ((zCU)))
def zCV(ds:List MV)(S:Sto):R Er:=yO (zHE (zS ["thing","wide"] ds) S)
def zVE:AF:=(fun ρ S=>((((zE (ρ[0]?) S).bind fun a b=>((R.ok (.val (.int 2)) b).bind fun c d=>((R.ok (.val (.int 2)) d).bind fun e g=>(R.ok [] g).bind fun h i=>.ok (e::h) i).bind fun j l=>.ok (c::j) l).bind fun m n=>.ok (a::m) n).bind fun o p=>zM 3 yL o p).bind kL).bind fun k q=>if k=true then((fun ρ S=>((((zE (ρ[0]?) S).bind fun s t=>(R.ok (.val (.int 0)) t).bind fun u v=>ixF s u v).bind fun w x=>(R.ok (.val (.str [105,115])) x).bind fun y z=>eqF w y z).bind fun A B=>wU A B fun D=>((((zE (ρ[0]?) D).bind fun G I=>(R.ok (.val (.int 1)) I).bind fun J L=>ixF G J L).bind fun M N=>(R.ok [] N).bind fun O P=>.ok (M::O) P).bind fun Q T=>zM 1 bB Q T)).bind fun r q=>.ok (.ret r) q)) ρ q else(fun ρ S=>.ok (.next ρ) S) ρ q)
def zVF:AF:=(fun ρ S=>((((((zE (ρ[0]?) S).bind fun a b=>((R.ok (.val (.int 3)) b).bind fun c d=>((R.ok (.val (.int 3)) d).bind fun e g=>(R.ok [] g).bind fun h i=>.ok (e::h) i).bind fun j l=>.ok (c::j) l).bind fun m n=>.ok (a::m) n).bind fun o p=>zM 3 yL o p).bind kL).bind fun q s=>.ok (!q) s).bind fun t u=>if t=true then .ok true u else((((zE (ρ[0]?) u).bind fun v w=>(R.ok (.val (.int 0)) w).bind fun x y=>ixF v x y).bind fun z A=>(R.ok (.val (.str [99,101,108,108])) A).bind fun B D=>neF z B D).bind asB)).bind fun k G=>if k=true then((fun ρ S=>(R.ok (.val (.bl false)) S).bind fun r G=>.ok (.ret r) G)) ρ G else(fun ρ S=>.ok (.next ρ) S) ρ G)
def zVG:AF:=(fun ρ S=>(((((zE (ρ[0]?) S).bind fun a b=>(R.ok (.val (.int 1)) b).bind fun c d=>ixF a c d).bind fun e g=>((((zE (ρ[1]?) g).bind fun h i=>(R.ok [] i).bind fun j l=>.ok (h::j) l).bind xX).bind fun m n=>(R.ok [] n).bind fun o p=>.ok (m::o) p).bind fun q s=>.ok (e::q) s).bind fun t u=>zM 2 zO t u).bind fun v w=>wU v w fun x=>((((zE (ρ[0]?) x).bind fun y z=>(R.ok (.val (.int 2)) z).bind fun A B=>ixF y A B).bind fun D G=>(((zE (ρ[1]?) G).bind fun I J=>((zE (ρ[0]?) J).bind fun L M=>(R.ok (.val (.int 1)) M).bind fun N O=>ixF L N O).bind fun P Q=>ixF I P Q).bind fun T U=>(R.ok [] U).bind fun V X=>.ok (T::V) X).bind fun Y Z=>.ok (D::Y) Z).bind fun a0 a1=>zM 2 zO a0 a1)).bind fun r a2=>.ok (.ret r) a2)
def yCL:AF:=yA (zVE) (yA (zVF) ((zVG)))
def zGB(ds:List MV)(S:Sto):R Er:=yO (yCL (zS ["thing","wides"] ds) S)
def zVH:AF:=(fun ρ S=>(((((zE (ρ[0]?) S).bind fun a b=>((R.ok (.val (.int 3)) b).bind fun c d=>((R.ok (.val (.int 3)) d).bind fun e g=>(R.ok [] g).bind fun h i=>.ok (e::h) i).bind fun j l=>.ok (c::j) l).bind fun m n=>.ok (a::m) n).bind fun o p=>zM 3 yL o p).bind kL).bind fun q s=>.ok (!q) s).bind fun k t=>if k=true then((fun ρ S=>(R.ok (.val (.bl false)) S).bind fun r t=>.ok (.ret r) t)) ρ t else(fun ρ S=>.ok (.next ρ) S) ρ t)
def zVI:AF:=(fun ρ S=>(((((zE (ρ[0]?) S).bind fun a b=>(R.ok (.val (.int 0)) b).bind fun c d=>ixF a c d).bind fun e g=>((zE (ρ[1]?) g).bind fun h i=>(R.ok [] i).bind fun j l=>.ok (h::j) l).bind fun m n=>.ok (e::m) n).bind fun o p=>zM 2 zGB o p).bind fun q s=>wU q s fun t=>((((zE (ρ[0]?) t).bind fun u v=>(R.ok (.val (.int 1)) v).bind fun w x=>ixF u w x).bind fun y z=>(R.ok (.val (.tup [.str [115,97,109,101],.str [117,110,108,105,107,101],.str [108,101,115,115]])) z).bind fun A B=>inF false y A B).bind fun D G=>wU D G fun I=>((((zE (ρ[0]?) I).bind fun J L=>(R.ok (.val (.int 2)) L).bind fun M N=>ixF J M N).bind fun O P=>((zE (ρ[1]?) P).bind fun Q T=>(R.ok [] T).bind fun U V=>.ok (Q::U) V).bind fun X Y=>.ok (O::X) Y).bind fun Z a0=>zM 2 zGB Z a0))).bind fun r a1=>.ok (.ret r) a1)
def yCM:AF:=yA (zVH) ((zVI))
def zKH(ds:List MV)(S:Sto):R Er:=yO (yCM (zS ["thing","wides"] ds) S)
def zLQ:Rho→Sto→R Bool:=fun ρ S=>(R.ok true S)
def zLR:AE:=fun ρ S=>(((zE (ρ[0]?) S).bind fun a b=>((zE (ρ[1]?) b).bind fun c d=>(R.ok [] d).bind fun e g=>.ok (c::e) g).bind fun h i=>.ok (a::h) i).bind fun j l=>zM 2 zKH j l)
def zPR:AF:=(fun ρ S=>((((zE (ρ[0]?) S).bind fun a b=>((R.ok (.val (.int 1)) b).bind fun c d=>((R.ok (.val (.int 3)) d).bind fun e g=>(R.ok [] g).bind fun h i=>.ok (e::h) i).bind fun j l=>.ok (c::j) l).bind fun m n=>.ok (a::m) n).bind fun o p=>zM 3 yL o p).bind fun q s=>wU q s fun t=>(((((zE (ρ[0]?) t).bind itT).bind fun u v=>if u.ds.length<1000000 then(yU (gNm 0) (zLQ) (zLR) (blk 1 [1] ρ) u.gs u.ds v).bind fun w x=>.ok (.new w) x else .no).bind fun y z=>(R.ok [] z).bind fun A B=>.ok (y::A) B).bind zNW)).bind fun r D=>.ok (.ret r) D)
def zVJ:AF:=(zPR)
def bY(ds:List MV)(S:Sto):R Er:=yO (zVJ (zS ["thing","wides"] ds) S)
def zIY:Rho→Sto→R Bool:=fun ρ S=>(R.ok true S)
def zIZ:AE:=fun ρ S=>(((zE (ρ[0]?) S).bind fun a b=>((zE (ρ[1]?) b).bind fun c d=>(R.ok [] d).bind fun e g=>.ok (c::e) g).bind fun h i=>.ok (a::h) i).bind fun j l=>zM 2 zO j l)
def zLS:AF:=(fun ρ S=>((((zE (ρ[0]?) S).bind fun a b=>((R.ok (.val (.int 1)) b).bind fun c d=>((R.ok (.val (.int 3)) d).bind fun e g=>(R.ok [] g).bind fun h i=>.ok (e::h) i).bind fun j l=>.ok (c::j) l).bind fun m n=>.ok (a::m) n).bind fun o p=>zM 3 yL o p).bind fun q s=>wU q s fun t=>(((((zE (ρ[0]?) t).bind itT).bind fun u v=>if u.ds.length<1000000 then(yU (gNm 0) (zIY) (zIZ) (blk 1 [1] ρ) u.gs u.ds v).bind fun w x=>.ok (.new w) x else .no).bind fun y z=>(R.ok [] z).bind fun A B=>.ok (y::A) B).bind zNW)).bind fun r D=>.ok (.ret r) D)
def zPS:AF:=(zLS)
def zBA(ds:List MV)(S:Sto):R Er:=yO (zPS (zS ["thing","wide"] ds) S)
def zSV:AF:=(fun ρ S=>((((((zE (ρ[0]?) S).bind fun a b=>(R.ok [] b).bind fun c d=>.ok (a::c) d).bind xX).bind fun e g=>(R.ok (.val (.int 3)) g).bind fun h i=>neF e h i).bind asB).bind fun j l=>if j=true then .ok true l else((((((zE (ρ[0]?) l).bind fun m n=>(R.ok (.val (.int 1)) n).bind fun o p=>ixF m o p).bind fun q s=>((((zE (ρ[1]?) s).bind fun t u=>(R.ok [] u).bind fun v w=>.ok (t::v) w).bind xX).bind fun x y=>(R.ok [] y).bind fun z A=>.ok (x::z) A).bind fun B D=>.ok (q::B) D).bind fun G I=>zM 2 zO G I).bind kL).bind fun J L=>.ok (!J) L)).bind fun k M=>if k=true then((fun ρ S=>(R.ok (.val (.bl false)) S).bind fun r M=>.ok (.ret r) M)) ρ M else(fun ρ S=>.ok (.next ρ) S) ρ M)
def zSW:AF:=(fun ρ S=>((((zE (ρ[0]?) S).bind fun a b=>(R.ok (.val (.int 2)) b).bind fun c d=>ixF a c d).bind fun e g=>((((((zE (ρ[1]?) g).bind fun h i=>((zE (ρ[0]?) i).bind fun j l=>(R.ok (.val (.int 1)) l).bind fun m n=>ixF j m n).bind fun o p=>ixF h o p).bind fun q s=>(R.ok (.val (.int 0)) s).bind fun t u=>ixF q t u).bind fun v w=>(R.ok [] w).bind fun x y=>.ok (v::x) y).bind wZ).bind fun z A=>(R.ok [] A).bind fun B D=>.ok (z::B) D).bind fun G I=>.ok (e::G) I).bind fun J L=>zM 2 bY J L).bind fun r M=>.ok (.ret r) M)
def zYA:AF:=yA (zSV) ((zSW))
def zHF(ds:List MV)(S:Sto):R Er:=yO (zYA (zS ["rule","tables"] ds) S)
def zOI:Rho→Sto→R Bool:=fun ρ S=>(R.ok true S)
def zOJ:AE:=fun ρ S=>(((zE (ρ[0]?) S).bind fun a b=>((((zE (ρ[1]?) b).bind fun c d=>(R.ok [] d).bind fun e g=>.ok (c::e) g).bind xX).bind fun h i=>(R.ok [] i).bind fun j l=>.ok (h::j) l).bind fun m n=>.ok (a::m) n).bind fun o p=>zM 2 zO o p)
def zOK:Rho→Sto→R Bool:=fun ρ S=>(R.ok true S)
def zOL:AE:=fun ρ S=>(((zE (ρ[1]?) S).bind fun a b=>(zE (ρ[0]?) b).bind fun c d=>ixF a c d).bind fun e g=>(R.ok (.val (.int 0)) g).bind fun h i=>ixF e h i)
def zSX:AF:=(fun ρ S=>((((((zE (ρ[0]?) S).bind fun a b=>(R.ok [] b).bind fun c d=>.ok (a::c) d).bind xX).bind fun e g=>(R.ok (.val (.int 4)) g).bind fun h i=>neF e h i).bind asB).bind fun j l=>if j=true then .ok true l else((((((((zE (ρ[0]?) l).bind fun m n=>((R.ok (.val (.int 1)) n).bind asI).bind fun o p=>((R.ok (.val (.int 3)) p).bind asI).bind fun q s=>zPO m o q s).bind itT).bind fun t u=>if t.ds.length<1000000 then(yU (gNm 0) (zOI) (zOJ) (blk 1 [1] ρ) t.gs t.ds u).bind fun v w=>.ok (.new v) w else .no).bind fun x y=>(R.ok [] y).bind fun z A=>.ok (x::z) A).bind zNW).bind kL).bind fun B D=>.ok (!B) D)).bind fun k G=>if k=true then((fun ρ S=>(R.ok (.val (.bl false)) S).bind fun r G=>.ok (.ret r) G)) ρ G else(fun ρ S=>.ok (.next ρ) S) ρ G)
def zSY:AF:=(fun ρ S=>((((zE (ρ[0]?) S).bind fun a b=>(R.ok (.val (.int 3)) b).bind fun c d=>ixF a c d).bind fun e g=>(((((zE (ρ[0]?) g).bind fun h i=>((R.ok (.val (.int 1)) i).bind asI).bind fun j l=>((R.ok (.val (.int 3)) l).bind asI).bind fun m n=>zPO h j m n).bind itT).bind fun o p=>if o.ds.length<1000000 then(yU (gNm 0) (zOK) (zOL) (blk 1 [1] ρ) o.gs o.ds p).bind fun q s=>.ok (.new q) s else .no).bind fun t u=>(R.ok [] u).bind fun v w=>.ok (t::v) w).bind fun x y=>.ok (e::x) y).bind fun z A=>zM 2 bY z A).bind fun r B=>.ok (.ret r) B)
def zYB:AF:=yA (zSX) ((zSY))
def zHG(ds:List MV)(S:Sto):R Er:=yO (zYB (zS ["rule","tables"] ds) S)
noncomputable def zSZ:Rho→Sto→R Fl:=(fun ρ S=>((((((zE (ρ[2]?) S).bind fun p592 S593=>((((zE (ρ[1]?) S593).bind fun p596 S597=>(R.ok [] S597).bind fun l598 S599=>.ok (p596::l598) S599).bind xX).bind fun p600 S601=>(R.ok [] S601).bind fun l602 S603=>.ok (p600::l602) S603).bind fun l594 S595=>.ok (p592::l594) S595).bind fun r590 S591=>zM 2 zO r590 S591).bind kL).bind fun k604 S605=>.ok (!k604) S605).bind fun k606 S607=>if k606=true then .ok true S607 else(((((zE (ρ[3]?) S607).bind fun p610 S611=>((((zE (ρ[1]?) S611).bind fun p614 S615=>(zE (ρ[2]?) S615).bind fun q616 S617=>ixF p614 q616 S617).bind fun p618 S619=>(R.ok (.val (.int 0)) S619).bind fun q620 S621=>ixF p618 q620 S621).bind fun p622 S623=>(R.ok [] S623).bind fun l624 S625=>.ok (p622::l624) S625).bind fun l612 S613=>.ok (p610::l612) S613).bind fun r608 S609=>zM 2 zBA r608 S609).bind kL).bind fun k626 S627=>.ok (!k626) S627)).bind fun k S1=>if k=true then((fun ρ S=>(R.ok (.val (.bl false)) S).bind fun r S1=>.ok (.ret r) S1)) ρ S1 else(fun ρ S=>.ok (.next ρ) S) ρ S1)
noncomputable def zYC:Rho→Sto→R Fl:=(zSZ)
def zYD:AF:=(fun ρ S=>(((((zE (ρ[0]?) S).bind fun a b=>(R.ok [] b).bind fun c d=>.ok (a::c) d).bind xX).bind fun e g=>(R.ok (.val (.int 5)) g).bind fun h i=>neF e h i).bind asB).bind fun k j=>if k=true then((fun ρ S=>(R.ok (.val (.bl false)) S).bind fun r j=>.ok (.ret r) j)) ρ j else(fun ρ S=>.ok (.next ρ) S) ρ j)
def zYE:AF:=(fun ρ S=>(((((((zE (ρ[0]?) S).bind fun a b=>(R.ok (.val (.int 1)) b).bind fun c d=>ixF a c d).bind fun e g=>(((zE (ρ[0]?) g).bind fun h i=>(R.ok (.val (.int 2)) i).bind fun j l=>ixF h j l).bind fun m n=>(R.ok [] n).bind fun o p=>.ok (m::o) p).bind fun q s=>.ok (e::q) s).bind wP).bind fun t u=>(((((zE (ρ[0]?) u).bind fun v w=>(R.ok (.val (.int 3)) w).bind fun x y=>ixF v x y).bind fun z A=>(((zE (ρ[0]?) A).bind fun B D=>(R.ok (.val (.int 4)) D).bind fun G I=>ixF B G I).bind fun J L=>(R.ok [] L).bind fun M N=>.ok (J::M) N).bind fun O P=>.ok (z::O) P).bind wP).bind fun Q T=>(R.ok [] T).bind fun U V=>.ok (Q::U) V).bind fun X Y=>.ok (t::X) Y).bind wP).bind itT).bind fun k Z=>wK (gTp 2 (yC (gNm 2) (yC (gNm 3) jR))) (zYC) k.gs k.ds ρ Z)
def zYF:AF:=(fun ρ S=>(((((zE (ρ[0]?) S).bind fun a b=>(R.ok (.val (.int 2)) b).bind fun c d=>ixF a c d).bind fun e g=>(R.ok [] g).bind fun h i=>.ok (e::h) i).bind xX).bind fun j l=>((((zE (ρ[0]?) l).bind fun m n=>(R.ok (.val (.int 4)) n).bind fun o p=>ixF m o p).bind fun q s=>(R.ok [] s).bind fun t u=>.ok (q::t) u).bind xX).bind fun v w=>eqF j v w).bind fun r x=>.ok (.ret r) x)
def yFS:AF:=yA (zYD) (yA (zYE) ((zYF)))
def zOM(ds:List MV)(S:Sto):R Er:=yO (yFS (zS zVD ds) S)
def zVK:AF:=(fun ρ S=>((((((zE (ρ[0]?) S).bind fun a b=>((R.ok (.val (.typ "tuple")) b).bind fun c d=>(R.ok [] d).bind fun e g=>.ok (c::e) g).bind fun h i=>.ok (a::h) i).bind kC).bind kL).bind fun j l=>.ok (!j) l).bind fun m n=>if m=true then .ok true n else(((((zE (ρ[0]?) n).bind fun o p=>(R.ok [] p).bind fun q s=>.ok (o::q) s).bind xX).bind fun t u=>(R.ok (.val (.int 0)) u).bind fun v w=>eqF t v w).bind asB)).bind fun k x=>if k=true then((fun ρ S=>(R.ok (.val (.bl false)) S).bind fun r x=>.ok (.ret r) x)) ρ x else(fun ρ S=>.ok (.next ρ) S) ρ x)
def zVL:AF:=(fun ρ S=>((((zE (ρ[0]?) S).bind fun a b=>(R.ok (.val (.int 0)) b).bind fun c d=>ixF a c d).bind fun e g=>(R.ok (.val (.str [110,101,118,101,114])) g).bind fun h i=>eqF e h i).bind asB).bind fun k j=>if k=true then((fun ρ S=>(((zE (ρ[0]?) S).bind fun l m=>((zE (ρ[1]?) m).bind fun n o=>(R.ok [] o).bind fun p q=>.ok (n::p) q).bind fun s t=>.ok (l::s) t).bind fun u v=>zM 2 zHF u v).bind fun r j=>.ok (.ret r) j)) ρ j else(fun ρ S=>.ok (.next ρ) S) ρ j)
def zVM:AF:=(fun ρ S=>((((zE (ρ[0]?) S).bind fun a b=>(R.ok (.val (.int 0)) b).bind fun c d=>ixF a c d).bind fun e g=>(R.ok (.val (.str [97,112,97,114,116])) g).bind fun h i=>eqF e h i).bind asB).bind fun k j=>if k=true then((fun ρ S=>(((zE (ρ[0]?) S).bind fun l m=>((zE (ρ[1]?) m).bind fun n o=>(R.ok [] o).bind fun p q=>.ok (n::p) q).bind fun s t=>.ok (l::s) t).bind fun u v=>zM 2 zHG u v).bind fun r j=>.ok (.ret r) j)) ρ j else(fun ρ S=>.ok (.next ρ) S) ρ j)
def zVN:AF:=(fun ρ S=>((((zE (ρ[0]?) S).bind fun a b=>(R.ok (.val (.int 0)) b).bind fun c d=>ixF a c d).bind fun e g=>(R.ok (.val (.str [116,105,101])) g).bind fun h i=>eqF e h i).bind fun j l=>wU j l fun m=>(((zE (ρ[0]?) m).bind fun n o=>((zE (ρ[1]?) o).bind fun p q=>(R.ok [] q).bind fun s t=>.ok (p::s) t).bind fun u v=>.ok (n::u) v).bind fun w x=>zM 2 zOM w x)).bind fun r y=>.ok (.ret r) y)
def yCN:AF:=yA (zVK) (yA (zVL) (yA (zVM) ((zVN))))
def zKI(ds:List MV)(S:Sto):R Er:=yO (yCN (zS ["thing","tables"] ds) S)
def zJA:Rho→Sto→R Bool:=fun ρ S=>(R.ok true S)
def zCW:AE:=fun ρ S=>(((zE (ρ[0]?) S).bind fun a b=>(R.ok [] b).bind fun c d=>.ok (a::c) d).bind fun e g=>zM 1 bB e g)
def dR:AF:=(fun ρ S=>((((((zE (ρ[0]?) S).bind fun a b=>((R.ok (.val (.int 2)) b).bind fun c d=>((R.ok (.val (.int 2)) d).bind fun e g=>(R.ok [] g).bind fun h i=>.ok (e::h) i).bind fun j l=>.ok (c::j) l).bind fun m n=>.ok (a::m) n).bind fun o p=>zM 3 yL o p).bind kL).bind fun q s=>.ok (!q) s).bind fun t u=>if t=true then .ok true u else((((((zE (ρ[0]?) u).bind fun v w=>(R.ok (.val (.int 0)) w).bind fun x y=>ixF v x y).bind fun z A=>((((zE (ρ[1]?) A).bind fun B D=>(R.ok [] D).bind fun G I=>.ok (B::G) I).bind xX).bind fun J L=>(R.ok [] L).bind fun M N=>.ok (J::M) N).bind fun O P=>.ok (z::O) P).bind fun Q T=>zM 2 zO Q T).bind kL).bind fun U V=>.ok (!U) V)).bind fun k X=>if k=true then((fun ρ S=>(R.ok (.val (.bl false)) S).bind fun r X=>.ok (.ret r) X)) ρ X else(fun ρ S=>.ok (.next ρ) S) ρ X)
def zHH:AF:=(fun ρ S=>(((zE (ρ[1]?) S).bind fun a b=>((zE (ρ[0]?) b).bind fun c d=>(R.ok (.val (.int 0)) d).bind fun e g=>ixF c e g).bind fun h i=>ixF a h i).bind fun j l=>(R.ok (.val (.int 0)) l).bind fun m n=>ixF j m n).bind (kM ρ 2))
def dS:AF:=(fun ρ S=>(((((zE (ρ[0]?) S).bind fun a b=>(R.ok (.val (.int 1)) b).bind fun c d=>ixF a c d).bind fun e g=>((zE (ρ[2]?) g).bind fun h i=>((zE (ρ[2]?) i).bind fun j l=>(R.ok [] l).bind fun m n=>.ok (j::m) n).bind fun o p=>.ok (h::o) p).bind fun q s=>.ok (e::q) s).bind fun t u=>zM 3 yL t u).bind fun v w=>wU v w fun x=>((((((zE (ρ[0]?) x).bind fun y z=>(R.ok (.val (.int 1)) z).bind fun A B=>ixF y A B).bind itT).bind fun D G=>if D.ds.length<1000000 then(yU (gNm 0) (zJA) (zCW) (blk 1 [] ρ) D.gs D.ds G).bind fun I J=>.ok (.new I) J else .no).bind fun L M=>(R.ok [] M).bind fun N O=>.ok (L::N) O).bind zNW)).bind fun r P=>.ok (.ret r) P)
def zON:AF:=yA (dR) (yA (zHH) ((dS)))
def zJB(ds:List MV)(S:Sto):R Er:=yO (zON (zS zOF ds) S)
def zEC:AF:=(fun ρ S=>((((((zE (ρ[0]?) S).bind fun a b=>(R.ok [] b).bind fun c d=>.ok (a::c) d).bind xX).bind fun e g=>(R.ok (.val (.int 4)) g).bind fun h i=>gtF e h i).bind asB).bind fun j l=>if j=true then .ok true l else((((((zE (ρ[1]?) l).bind fun m n=>(R.ok [] n).bind fun o p=>.ok (m::o) p).bind xX).bind fun q s=>(R.ok (.val (.int 6)) s).bind fun t u=>gtF q t u).bind asB).bind fun v w=>if v=true then .ok true w else(((((zE (ρ[2]?) w).bind fun x y=>(R.ok [] y).bind fun z A=>.ok (x::z) A).bind xX).bind fun B D=>(R.ok (.val (.int 60)) D).bind fun G I=>gtF B G I).bind asB))).bind fun k J=>if k=true then((fun ρ S=>(((R.ok (.val (.str [109,111,114,101,32,116,97,98,108,101,115,44,32,114,117,108,101,115,32,111,114,32,114,111,119,115,32,116,104,97,110,32,97,32,98,111,111,107,32,109,97,121,32,104,97,118,101])) S).bind fun L M=>(R.ok [] M).bind fun N O=>.ok (L::N) O):R (List Er)).bind fun rs J=>if rs.length≤10 then .exc "TooGreat" [] J else .no)) ρ J else(fun ρ S=>.ok (.next ρ) S) ρ J)
def zBB:AF:=(zEC)
def bQ(ds:List MV)(S:Sto):R Er:=yO (zBB (zS yS ds) S)
noncomputable def jZ:Rho→Sto→R Fl:=(fun ρ S=>(((((zE (ρ[2]?) S).bind fun p860 S861=>(R.ok [] S861).bind fun l862 S863=>.ok (p860::l862) S863).bind fun r858 S859=>zM 1 zCV r858 S859).bind kL).bind fun k864 S865=>.ok (!k864) S865).bind fun k S1=>if k=true then((fun ρ S=>(zE (ρ[1]?) S).bind (raF "NoTable" "place"))) ρ S1 else(fun ρ S=>.ok (.next ρ) S) ρ S1)
noncomputable def xU:Rho→Sto→R Fl:=(jZ)
def wW:AF:=(fun ρ S=>(((((zE (ρ[0]?) S).bind fun a b=>(R.ok [] b).bind fun c d=>.ok (a::c) d).bind xX).bind fun e g=>(R.ok (.val (.int 0)) g).bind fun h i=>eqF e h i).bind asB).bind fun k j=>if k=true then((fun ρ S=>(R.ok (.val (.int 0)) S).bind (raF "NoTable" "place"))) ρ j else(fun ρ S=>.ok (.next ρ) S) ρ j)
def bC:AF:=(fun ρ S=>(((zE (ρ[0]?) S).bind fun a b=>(R.ok [] b).bind fun c d=>.ok (a::c) d).bind itE).bind fun k e=>wK (gTp 2 (yC (gNm 1) (yC (gNm 2) jR))) (xU) k.gs k.ds ρ e)
def xY:AF:=yA (wW) ((bC))
def gL(ds:List MV)(S:Sto):R Er:=yO (xY (zS zET ds) S)
noncomputable def zJC:Rho→Sto→R Fl:=(fun ρ S=>(((((zE (ρ[3]?) S).bind fun p872 S873=>((zE (ρ[0]?) S873).bind fun p876 S877=>(R.ok [] S877).bind fun l878 S879=>.ok (p876::l878) S879).bind fun l874 S875=>.ok (p872::l874) S875).bind fun r870 S871=>zM 2 zKI r870 S871).bind kL).bind fun k880 S881=>.ok (!k880) S881).bind fun k S1=>if k=true then((fun ρ S=>(zE (ρ[2]?) S).bind (raF "NoRule" "place"))) ρ S1 else(fun ρ S=>.ok (.next ρ) S) ρ S1)
noncomputable def zLT:Rho→Sto→R Fl:=(zJC)
def zED:AF:=(fun ρ S=>(((zE (ρ[1]?) S).bind fun a b=>(R.ok [] b).bind fun c d=>.ok (a::c) d).bind itE).bind fun k e=>wK (gTp 2 (yC (gNm 2) (yC (gNm 3) jR))) (zLT) k.gs k.ds ρ e)
def zBC:AF:=(zED)
def bR(ds:List MV)(S:Sto):R Er:=yO (zBC (zS zGO ds) S)
noncomputable def bD:Rho→Sto→R Fl:=(fun ρ S=>(((((zE (ρ[3]?) S).bind fun p888 S889=>((zE (ρ[0]?) S889).bind fun p892 S893=>(R.ok [] S893).bind fun l894 S895=>.ok (p892::l894) S895).bind fun l890 S891=>.ok (p888::l890) S891).bind fun r886 S887=>zM 2 zJB r886 S887).bind kL).bind fun k896 S897=>.ok (!k896) S897).bind fun k S1=>if k=true then((fun ρ S=>(zE (ρ[2]?) S).bind (raF "NoRow" "place"))) ρ S1 else(fun ρ S=>.ok (.next ρ) S) ρ S1)
noncomputable def wX:Rho→Sto→R Fl:=(bD)
noncomputable def jI:Rho→Sto→R Fl:=(fun ρ S=>(((zE (ρ[3]?) S).bind fun p902 S903=>(zE (ρ[4]?) S903).bind fun q904 S905=>yCD false p902 q904 S905).bind asB).bind fun k S1=>if k=true then((fun ρ S=>(zE (ρ[2]?) S).bind (raF "Twice" "place"))) ρ S1 else(fun ρ S=>.ok (.next ρ) S) ρ S1)
noncomputable def zBX:Rho→Sto→R Fl:=(fun ρ S=>(R.ok (.val (.bl true)) S).bind (asgF (fun d907 ρ S906=>(zE (ρ[4]?) S906).bind fun p909 S910=>(zE (ρ[3]?) S910).bind fun q911 S912=>zVA p909 q911 d907 ρ S912) ρ))
noncomputable def wY:Rho→Sto→R Fl:=yA (jI) ((zBX))
def dU:AF:=(fun ρ S=>(((zE (ρ[1]?) S).bind fun a b=>(R.ok [] b).bind fun c d=>.ok (a::c) d).bind itE).bind fun k e=>wK (gTp 2 (yC (gNm 2) (yC (gNm 3) jR))) (wX) k.gs k.ds ρ e)
def dW:AF:=(fun ρ S=>(yFA S).bind (kM ρ 4))
def dY:AF:=(fun ρ S=>(((zE (ρ[1]?) S).bind fun a b=>(R.ok [] b).bind fun c d=>.ok (a::c) d).bind itE).bind fun k e=>wK (gTp 2 (yC (gNm 2) (yC (gNm 3) jR))) (wY) k.gs k.ds ρ e)
def kE:AF:=yA (dU) (yA (dW) ((dY)))
def cX(ds:List MV)(S:Sto):R Er:=yO (kE (zS zIV ds) S)
def zEX:AF:=(fun ρ S=>(((zE (ρ[0]?) S).bind fun a b=>((zE (ρ[1]?) b).bind fun c d=>((zE (ρ[2]?) d).bind fun e g=>(R.ok [] g).bind fun h i=>.ok (e::h) i).bind fun j l=>.ok (c::j) l).bind fun m n=>.ok (a::m) n).bind fun o p=>jM 3 bQ o p).bind fun _ q=>.ok (.next ρ) q)
def bZ:AF:=(fun ρ S=>(((zE (ρ[0]?) S).bind fun a b=>(R.ok [] b).bind fun c d=>.ok (a::c) d).bind fun e g=>jM 1 gL e g).bind fun _ h=>.ok (.next ρ) h)
def zEY:AF:=(fun ρ S=>(((zE (ρ[0]?) S).bind fun a b=>((zE (ρ[1]?) b).bind fun c d=>(R.ok [] d).bind fun e g=>.ok (c::e) g).bind fun h i=>.ok (a::h) i).bind fun j l=>jM 2 bR j l).bind fun _ m=>.ok (.next ρ) m)
def cA:AF:=(fun ρ S=>(((zE (ρ[0]?) S).bind fun a b=>((zE (ρ[2]?) b).bind fun c d=>(R.ok [] d).bind fun e g=>.ok (c::e) g).bind fun h i=>.ok (a::h) i).bind fun j l=>jM 2 cX j l).bind fun _ m=>.ok (.next ρ) m)
def zEZ:AF:=(fun ρ S=>(((((zE (ρ[0]?) S).bind fun a b=>(R.ok [] b).bind fun c d=>.ok (a::c) d).bind dL).bind fun e g=>((((zE (ρ[1]?) g).bind fun h i=>(R.ok [] i).bind fun j l=>.ok (h::j) l).bind dL).bind fun m n=>((((zE (ρ[2]?) n).bind fun o p=>(R.ok [] p).bind fun q s=>.ok (o::q) s).bind dL).bind fun t u=>(R.ok [] u).bind fun v w=>.ok (t::v) w).bind fun x y=>.ok (m::x) y).bind fun z A=>.ok (e::z) A).bind wP).bind fun r B=>.ok (.ret r) B)
def zKJ:AF:=yA (zEX) (yA (bZ) (yA (zEY) (yA (cA) ((zEZ)))))
def gE(ds:List MV)(S:Sto):R Er:=yO (zKJ (zS yS ds) S)
def bE:AF:=(fun ρ S=>(((zE (ρ[1]?) S).bind fun a b=>(((zE (ρ[0]?) b).bind fun c d=>(R.ok [] d).bind fun e g=>.ok (c::e) g).bind xX).bind fun h i=>ltF a h i).bind asB).bind fun k j=>if k=true then((fun ρ S=>((zE (ρ[0]?) S).bind fun l m=>(zE (ρ[1]?) m).bind fun n o=>ixF l n o).bind fun r j=>.ok (.ret r) j)) ρ j else(fun ρ S=>.ok (.next ρ) S) ρ j)
def zKK:AF:=(fun ρ S=>(R.ok (.val (.int 0)) S).bind fun r a=>.ok (.ret r) a)
def dZ:AF:=yA (bE) ((zKK))
def yM(ds:List MV)(S:Sto):R Er:=yO (dZ (zS ["_law_script","_law_k"] ds) S)
def zCX:AF:=(fun ρ S=>((((zE (ρ[0]?) S).bind fun a b=>(R.ok (.val (.int 2)) b).bind fun c d=>kT a c d).bind fun e g=>(R.ok (.val (.int 0)) g).bind fun h i=>eqF e h i).bind asB).bind fun k j=>if k=true then((fun ρ S=>(((zE (ρ[0]?) S).bind fun l m=>(R.ok (.val (.int 2)) m).bind fun n o=>zBQ l n o).bind fun p q=>(((R.ok (.val (.int 10)) q).bind fun s t=>(R.ok (.val (.int 60)) t).bind fun u v=>bV s u v).bind fun w x=>(R.ok (.val (.int 10)) x).bind fun y z=>bV w y z).bind fun A B=>kT p A B).bind fun r j=>.ok (.ret r) j)) ρ j else(fun ρ S=>.ok (.next ρ) S) ρ j)
def zCY:AF:=(fun ρ S=>(((((zE (ρ[0]?) S).bind fun a b=>(R.ok (.val (.int 2147483629)) b).bind fun c d=>kT a c d).bind fun e g=>(R.ok (.val (.int 7)) g).bind fun h i=>jH e h i).bind fun j l=>(R.ok (.val (.int 48271)) l).bind fun m n=>zIL j m n).bind fun o p=>(zE (ρ[1]?) p).bind fun q s=>kT o q s).bind (kM ρ 2))
def zCZ:AF:=(fun ρ S=>(((((zE (ρ[2]?) S).bind fun a b=>(zE (ρ[2]?) b).bind fun c d=>zIL a c d).bind fun e g=>(R.ok (.val (.int 2147483579)) g).bind fun h i=>kT e h i).bind fun j l=>(R.ok (.val (.int 1000003)) l).bind fun m n=>zIL j m n).bind fun o p=>(zE (ρ[2]?) p).bind fun q s=>jH o q s).bind fun r t=>.ok (.ret r) t)
def zHI:AF:=yA (zCX) (yA (zCY) ((zCZ)))
def wO(ds:List MV)(S:Sto):R Er:=yO (zHI (zS zHB ds) S)
noncomputable def cN:Rho→Sto→R Fl:=(fun ρ S=>((zE (ρ[3]?) S).bind fun p1061 S1062=>((zE (ρ[1]?) S1062).bind fun p1065 S1066=>((zE (ρ[2]?) S1066).bind fun p1069 S1070=>(R.ok (.val (.int 26)) S1070).bind fun q1071 S1072=>kT p1069 q1071 S1072).bind fun q1067 S1068=>ixF p1065 q1067 S1068).bind fun q1063 S1064=>jH p1061 q1063 S1064).bind (kM ρ 3))
noncomputable def cO:Rho→Sto→R Fl:=(fun ρ S=>((zE (ρ[2]?) S).bind fun p1073 S1074=>(R.ok (.val (.int 26)) S1074).bind fun q1075 S1076=>zBQ p1073 q1075 S1076).bind (kM ρ 2))
noncomputable def bS:Rho→Sto→R Fl:=yA (cN) ((cO))
def zGP:AF:=(fun ρ S=>(R.ok (.val (.str [97,98,99,100,101,102,103,104,105,106,107,108,109,110,111,112,113,114,115,116,117,118,119,120,121,122])) S).bind (kM ρ 1))
def zBD:AF:=(fun ρ S=>((zE (ρ[0]?) S).bind fun a b=>(R.ok (.val (.int 8)) b).bind fun c d=>zBQ a c d).bind (kM ρ 2))
def zGQ:AF:=(fun ρ S=>(R.ok (.val (.str [])) S).bind (kM ρ 3))
def zBE:AF:=(fun ρ S=>((((R.ok (.val (.int 1)) S).bind fun a b=>((zE (ρ[0]?) b).bind fun c d=>(R.ok (.val (.int 8)) d).bind fun e g=>kT c e g).bind fun h i=>jH a h i).bind fun j l=>(R.ok [] l).bind fun m n=>.ok (j::m) n).bind zEN).bind fun k o=>wK (gNm 4) (bS) k.gs k.ds ρ o)
def zPT:AF:=(fun ρ S=>(zE (ρ[3]?) S).bind fun r a=>.ok (.ret r) a)
def zLK:AF:=yA (zGP) (yA (zBD) (yA (zGQ) (yA (zBE) ((zPT)))))
def gF(ds:List MV)(S:Sto):R Er:=yO (zLK (zS zEU ds) S)
def nA:AF:=(fun ρ S=>((zE (ρ[0]?) S).bind fun a b=>(R.ok (.val (.int 5)) b).bind fun c d=>zBQ a c d).bind (kM ρ 1))
def nB:AF:=(fun ρ S=>((((zE (ρ[0]?) S).bind fun a b=>(R.ok (.val (.int 5)) b).bind fun c d=>kT a c d).bind fun e g=>(R.ok (.val (.int 0)) g).bind fun h i=>eqF e h i).bind asB).bind fun k j=>if k=true then((fun ρ S=>((((R.ok (.val (.int 0)) S).bind fun l m=>((R.ok (.val (.int 1)) m).bind fun n o=>((R.ok (.val (.int (-1))) o).bind fun p q=>((((R.ok (.val (.int 10)) q).bind fun s t=>(R.ok (.val (.int 30)) t).bind fun u v=>bV s u v).bind fun w x=>(R.ok (.val (.int 1)) x).bind fun y z=>zNU w y z).bind fun A B=>(((R.ok (.val (.int 1)) B).bind fun D G=>((R.ok (.val (.int 10)) G).bind fun I J=>(R.ok (.val (.int 30)) J).bind fun L M=>bV I L M).bind fun N O=>zNU D N O).bind fun P Q=>(((R.ok (.val (.int 10)) Q).bind fun T U=>(R.ok (.val (.int 29)) U).bind fun V X=>bV T V X).bind fun Y Z=>(R.ok [] Z).bind fun a0 a1=>.ok (Y::a0) a1).bind fun a2 a3=>.ok (P::a2) a3).bind fun a4 a5=>.ok (A::a4) a5).bind fun a6 a7=>.ok (p::a6) a7).bind fun a8 a9=>.ok (n::a8) a9).bind fun b0 b1=>.ok (l::b0) b1).bind wZ).bind fun b2 b3=>((zE (ρ[1]?) b3).bind fun b4 b5=>(R.ok (.val (.int 6)) b5).bind fun b6 b7=>kT b4 b6 b7).bind fun b8 b9=>ixF b2 b8 b9).bind fun r j=>.ok (.ret r) j)) ρ j else(fun ρ S=>.ok (.next ρ) S) ρ j)
def nE:AF:=(fun ρ S=>((((zE (ρ[0]?) S).bind fun a b=>(R.ok (.val (.int 5)) b).bind fun c d=>kT a c d).bind fun e g=>(R.ok (.val (.int 1)) g).bind fun h i=>eqF e h i).bind asB).bind fun k j=>if k=true then((fun ρ S=>(((zE (ρ[1]?) S).bind fun l m=>(R.ok (.val (.int 23)) m).bind fun n o=>kT l n o).bind fun p q=>(R.ok (.val (.int 11)) q).bind fun s t=>zNU p s t).bind fun r j=>.ok (.ret r) j)) ρ j else(fun ρ S=>.ok (.next ρ) S) ρ j)
def nF:AF:=(fun ρ S=>((((zE (ρ[0]?) S).bind fun a b=>(R.ok (.val (.int 5)) b).bind fun c d=>kT a c d).bind fun e g=>(R.ok (.val (.int 2)) g).bind fun h i=>eqF e h i).bind asB).bind fun k j=>if k=true then((fun ρ S=>((((((((zE (ρ[1]?) S).bind fun l m=>((R.ok (.val (.int 10)) m).bind fun n o=>(R.ok (.val (.int 12)) o).bind fun p q=>bV n p q).bind fun s t=>kT l s t).bind fun u v=>(R.ok (.val (.int 48271)) v).bind fun w x=>zIL u w x).bind fun y z=>(R.ok (.val (.int 11)) z).bind fun A B=>jH y A B).bind fun D G=>(R.ok (.val (.int 5)) G).bind fun I J=>bV D I J).bind fun L M=>(((R.ok (.val (.int 2)) M).bind fun N O=>((R.ok (.val (.int 10)) O).bind fun P Q=>(R.ok (.val (.int 30)) Q).bind fun T U=>bV P T U).bind fun V X=>zIL N V X).bind fun Y Z=>(R.ok (.val (.int 1)) Z).bind fun a0 a1=>zNU Y a0 a1).bind fun a2 a3=>kT L a2 a3).bind fun a4 a5=>((R.ok (.val (.int 10)) a5).bind fun a6 a7=>(R.ok (.val (.int 30)) a7).bind fun a8 a9=>bV a6 a8 a9).bind fun b0 b1=>zNU a4 b0 b1).bind fun b2 b3=>(R.ok (.val (.int 1)) b3).bind fun b4 b5=>jH b2 b4 b5).bind fun r j=>.ok (.ret r) j)) ρ j else(fun ρ S=>.ok (.next ρ) S) ρ j)
def nG:AF:=(fun ρ S=>((((zE (ρ[0]?) S).bind fun a b=>(R.ok (.val (.int 5)) b).bind fun c d=>kT a c d).bind fun e g=>(R.ok (.val (.int 3)) g).bind fun h i=>eqF e h i).bind asB).bind fun k j=>if k=true then((fun ρ S=>((((zE (ρ[1]?) S).bind fun l m=>(((R.ok (.val (.int 2)) m).bind fun n o=>((R.ok (.val (.int 10)) o).bind fun p q=>(R.ok (.val (.int 30)) q).bind fun s t=>bV p s t).bind fun u v=>zIL n u v).bind fun w x=>(R.ok (.val (.int 1)) x).bind fun y z=>zNU w y z).bind fun A B=>kT l A B).bind fun D G=>((R.ok (.val (.int 10)) G).bind fun I J=>(R.ok (.val (.int 30)) J).bind fun L M=>bV I L M).bind fun N O=>zNU D N O).bind fun P Q=>(R.ok (.val (.int 1)) Q).bind fun T U=>jH P T U).bind fun r j=>.ok (.ret r) j)) ρ j else(fun ρ S=>.ok (.next ρ) S) ρ j)
def nH:AF:=(fun ρ S=>(((zE (ρ[1]?) S).bind fun a b=>(R.ok [] b).bind fun c d=>.ok (a::c) d).bind fun e g=>zM 1 gF e g).bind fun r h=>.ok (.ret r) h)
def zJD:AF:=yA (nA) (yA (nB) (yA (nE) (yA (nF) (yA (nG) ((nH))))))
def jJ(ds:List MV)(S:Sto):R Er:=yO (zJD (zS zCO ds) S)
def zBY(self:List MV→Sto→R Er):Rho→Sto→R Bool:=fun ρ S=>(R.ok true S)
def bF(self:List MV→Sto→R Er):AE:=fun ρ S=>(((zE (ρ[0]?) S).bind fun a b=>((zE (ρ[1]?) b).bind fun c d=>(R.ok [] d).bind fun e g=>.ok (c::e) g).bind fun h i=>.ok (a::h) i).bind fun j l=>zM 2 self j l)
def xZ(self:List MV→Sto→R Er):AF:=(fun ρ S=>(((zE (ρ[1]?) S).bind fun a b=>(R.ok (.val .non) b).bind fun c d=>zSG a c d).bind asB).bind fun k e=>if k=true then((fun ρ S=>((zE (ρ[0]?) S).bind fun g h=>(R.ok (.val .non) h).bind fun i j=>zSG g i j).bind fun r e=>.ok (.ret r) e)) ρ e else(fun ρ S=>.ok (.next ρ) S) ρ e)
def wA(self:List MV→Sto→R Er):AF:=(fun ρ S=>((((zE (ρ[1]?) S).bind fun a b=>((R.ok (.val (.typ "str")) b).bind fun c d=>(R.ok [] d).bind fun e g=>.ok (c::e) g).bind fun h i=>.ok (a::h) i).bind kC).bind kL).bind fun k j=>if k=true then((fun ρ S=>((((zE (ρ[0]?) S).bind fun l m=>((R.ok (.val (.typ "str")) m).bind fun n o=>(R.ok [] o).bind fun p q=>.ok (n::p) q).bind fun s t=>.ok (l::s) t).bind kC).bind fun u v=>wU u v fun w=>((zE (ρ[0]?) w).bind fun x y=>(zE (ρ[1]?) y).bind fun z A=>eqF x z A)).bind fun r j=>.ok (.ret r) j)) ρ j else(fun ρ S=>.ok (.next ρ) S) ρ j)
def jA(self:List MV→Sto→R Er):AF:=(fun ρ S=>((((zE (ρ[1]?) S).bind fun a b=>((R.ok (.val (.typ "int")) b).bind fun c d=>(R.ok [] d).bind fun e g=>.ok (c::e) g).bind fun h i=>.ok (a::h) i).bind kC).bind kL).bind fun k j=>if k=true then((fun ρ S=>((((zE (ρ[0]?) S).bind fun l m=>((R.ok (.val (.typ "int")) m).bind fun n o=>(R.ok [] o).bind fun p q=>.ok (n::p) q).bind fun s t=>.ok (l::s) t).bind kC).bind fun u v=>wU u v fun w=>(((((zE (ρ[0]?) w).bind fun x y=>((R.ok (.val (.typ "bool")) y).bind fun z A=>(R.ok [] A).bind fun B D=>.ok (z::B) D).bind fun G I=>.ok (x::G) I).bind kC).bind fun J L=>(asB J L).bind fun M N=>.ok (.val (.bl !M)) N).bind fun O P=>wU O P fun Q=>((zE (ρ[0]?) Q).bind fun T U=>(zE (ρ[1]?) U).bind fun V X=>eqF T V X))).bind fun r j=>.ok (.ret r) j)) ρ j else(fun ρ S=>.ok (.next ρ) S) ρ j)
def nI(self:List MV→Sto→R Er):AF:=(fun ρ S=>(((((zE (ρ[1]?) S).bind fun a b=>((R.ok (.val (.typ "list")) b).bind fun c d=>(R.ok [] d).bind fun e g=>.ok (c::e) g).bind fun h i=>.ok (a::h) i).bind kC).bind kL).bind fun j l=>if j=true then(((((zE (ρ[0]?) l).bind fun m n=>((R.ok (.val (.typ "list")) n).bind fun o p=>(R.ok [] p).bind fun q s=>.ok (o::q) s).bind fun t u=>.ok (m::t) u).bind kC).bind kL).bind fun v w=>.ok (!v) w)else .ok false l).bind fun k x=>if k=true then((fun ρ S=>(R.ok (.val (.bl false)) S).bind fun r x=>.ok (.ret r) x)) ρ x else(fun ρ S=>.ok (.next ρ) S) ρ x)
def nJ(self:List MV→Sto→R Er):AF:=(fun ρ S=>(((((zE (ρ[1]?) S).bind fun a b=>((R.ok (.val (.typ "tuple")) b).bind fun c d=>(R.ok [] d).bind fun e g=>.ok (c::e) g).bind fun h i=>.ok (a::h) i).bind kC).bind kL).bind fun j l=>if j=true then(((((zE (ρ[0]?) l).bind fun m n=>((R.ok (.val (.typ "tuple")) n).bind fun o p=>(R.ok [] p).bind fun q s=>.ok (o::q) s).bind fun t u=>.ok (m::t) u).bind kC).bind kL).bind fun v w=>.ok (!v) w)else .ok false l).bind fun k x=>if k=true then((fun ρ S=>(R.ok (.val (.bl false)) S).bind fun r x=>.ok (.ret r) x)) ρ x else(fun ρ S=>.ok (.next ρ) S) ρ x)
def zFA(self:List MV→Sto→R Er):AF:=(fun ρ S=>(((((zE (ρ[0]?) S).bind fun a b=>(R.ok [] b).bind fun c d=>.ok (a::c) d).bind xX).bind fun e g=>(((zE (ρ[1]?) g).bind fun h i=>(R.ok [] i).bind fun j l=>.ok (h::j) l).bind xX).bind fun m n=>eqF e m n).bind fun o p=>wU o p fun q=>((((((zE (ρ[0]?) q).bind fun s t=>((zE (ρ[1]?) t).bind fun u v=>(R.ok [] v).bind fun w x=>.ok (u::w) x).bind fun y z=>.ok (s::y) z).bind itZ).bind fun A B=>if A.ds.length<1000000 then(yU (gTp 2 (yC (gNm 0) (yC (gNm 1) jR))) (zBY self) (bF self) (blk 2 [] ρ) A.gs A.ds B).bind fun D G=>.ok (.new D) G else .no).bind fun I J=>(R.ok [] J).bind fun L M=>.ok (I::L) M).bind zNW)).bind fun r N=>.ok (.ret r) N)
def zDA(self:List MV→Sto→R Er):AF:=yA (xZ self) (yA (wA self) (yA (jA self) (yA (nI self) (yA (nJ self) ((zFA self))))))
def zV:Nat→List MV→Sto→R Er
 | 0=>fun _ _=>.no
 | n+1=>fun ds S=>yO (zDA (zV n) (zS ["_law_told","_law_due_here"] ds) S)
def nK:AF:=(fun ρ S=>((((zE (ρ[0]?) S).bind (zEE XNS "TooGreat")).bind fun a b=>(((zE (ρ[0]?) b).bind (zEE XNS "NoTable")).bind fun c d=>(((zE (ρ[0]?) d).bind (zEE XNS "NoRule")).bind fun e g=>(((zE (ρ[0]?) g).bind (zEE XNS "NoRow")).bind fun h i=>(R.ok [] i).bind fun j l=>.ok (h::j) l).bind fun m n=>.ok (e::m) n).bind fun o p=>.ok (c::o) p).bind fun q s=>.ok (a::q) s).bind wZ).bind (kM ρ 1))
def nL:AF:=(fun ρ S=>((zE (ρ[1]?) S).bind fun a b=>((((zE (ρ[0]?) b).bind (zEE XNS "Twice")).bind fun c d=>(((zE (ρ[0]?) d).bind (zEE XNS "NoText")).bind fun e g=>(((zE (ρ[0]?) g).bind (zEE XNS "NoPlace")).bind fun h i=>(((zE (ρ[0]?) i).bind (zEE XNS "NotPlain")).bind fun j l=>(R.ok [] l).bind fun m n=>.ok (j::m) n).bind fun o p=>.ok (h::o) p).bind fun q s=>.ok (e::q) s).bind fun t u=>.ok (c::t) u).bind wZ).bind fun v w=>jH a v w).bind (kM ρ 1))
def nM:AF:=(fun ρ S=>((zE (ρ[1]?) S).bind fun a b=>((((zE (ρ[0]?) b).bind (zEE XNS "NoQuestion")).bind fun c d=>(((zE (ρ[0]?) d).bind (zEE XNS "Double")).bind fun e g=>(((zE (ρ[0]?) g).bind (zEE XNS "TooWide")).bind fun h i=>(((zE (ρ[0]?) i).bind (zEE XNS "Ring")).bind fun j l=>(R.ok [] l).bind fun m n=>.ok (j::m) n).bind fun o p=>.ok (h::o) p).bind fun q s=>.ok (e::q) s).bind fun t u=>.ok (c::t) u).bind wZ).bind fun v w=>jH a v w).bind (kM ρ 1))
def zFB:AF:=(fun ρ S=>(zE (ρ[1]?) S).bind fun r a=>.ok (.ret r) a)
def zDB:AF:=yA (nK) (yA (nL) (yA (nM) ((zFB))))
def gM(ds:List MV)(S:Sto):R Er:=yO (zDB (zS zIW ds) S)
noncomputable def hJ:Rho→Sto→R Fl:=(fun ρ S=>((((zE (ρ[5]?) S).bind fun p1463 S1464=>(R.ok [] S1464).bind fun l1465 S1466=>.ok (p1463::l1465) S1466).bind fun r1461 S1462=>zM 1 gM r1461 S1462).bind fun p1467 S1468=>((((zE (ρ[5]?) S1468).bind (yFE XNS)).bind fun p1471 S1472=>(R.ok [] S1472).bind fun l1473 S1474=>.ok (p1471::l1473) S1474).bind wZ).bind fun q1469 S1470=>jH p1467 q1469 S1470).bind (kM ρ 3))
noncomputable def hU:Rho→Sto→R Fl:=(fun ρ S=>(((zE (ρ[1]?) S).bind fun p1475 S1476=>(R.ok (.val (.int 0)) S1476).bind fun q1477 S1478=>gtF p1475 q1477 S1478).bind asB).bind fun k S1=>if k=true then((fun ρ S=>((zE (ρ[5]?) S).bind (yFN XNS "place")).bind (kM ρ 4))) ρ S1 else(fun ρ S=>.ok (.next ρ) S) ρ S1)
noncomputable def bG:Rho→Sto→R Fl:=yA (hJ) ((hU))
def nN:Rho→Sto→R Bool:=fun ρ S=>(R.ok true S)
def hV:AE:=fun ρ S=>((zE (ρ[0]?) S).bind fun a b=>(zE (ρ[1]?) b).bind fun c d=>eqF a c d)
def bH:AF:=(fun ρ S=>((R.ok [] S).bind wZ).bind (kM ρ 3))
def zBZ:AF:=(fun ρ S=>(R.ok (.val .non) S).bind (kM ρ 4))
def bI:AF:=(fun ρ S=>(noX ((((zE (ρ[0]?) S).bind fun a b=>(R.ok (.val (.int 0)) b).bind fun c d=>ixF a c d).bind fun e g=>(((zE (ρ[0]?) g).bind fun h i=>(R.ok (.val (.int 1)) i).bind fun j l=>ixF h j l).bind fun m n=>(((zE (ρ[0]?) n).bind fun o p=>(R.ok (.val (.int 2)) p).bind fun q s=>ixF o q s).bind fun t u=>(R.ok [] u).bind fun v w=>.ok (t::v) w).bind fun x y=>.ok (m::x) y).bind fun z A=>.ok (e::z) A):R (List Er))).bind fun rs B=>yFI XNS 5 (fun _ D=>.ok (.next ρ) D) bG ρ (jM 3 gE rs B))
def bJ:AF:=(fun ρ S=>(((zE (ρ[3]?) S).bind fun a b=>(((((R.ok (.val (.int 12)) b).bind fun c d=>(R.ok [] d).bind fun e g=>.ok (c::e) g).bind zEN).bind fun h i=>if h.ds.length<1000000 then(yU (gNm 0) (nN) (hV) (blk 1 [1] ρ) h.gs h.ds i).bind fun j l=>.ok (.new j) l else .no).bind fun m n=>(((R.ok (.val (.bl true)) n).bind fun o p=>(R.ok [] p).bind fun q s=>.ok (o::q) s).bind wZ).bind fun t u=>jH m t u).bind fun v w=>neF a v w).bind asB).bind fun k x=>if k=true then((fun ρ S=>(R.ok (.val (.bl false)) S).bind fun r x=>.ok (.ret r) x)) ρ x else(fun ρ S=>.ok (.next ρ) S) ρ x)
def bK:AF:=(fun ρ S=>(((zE (ρ[1]?) S).bind fun a b=>(R.ok (.val (.int 0)) b).bind fun c d=>eqF a c d).bind fun e g=>orF e g fun h=>(((((zE (ρ[4]?) h).bind fun i j=>((R.ok (.val (.typ "bool")) j).bind fun l m=>(R.ok [] m).bind fun n o=>.ok (l::n) o).bind fun p q=>.ok (i::p) q).bind kC).bind fun s t=>(asB s t).bind fun u v=>.ok (.val (.bl !u)) v).bind fun w x=>wU w x fun y=>((zE (ρ[4]?) y).bind fun z A=>(zE (ρ[2]?) A).bind fun B D=>eqF z B D))).bind fun r G=>.ok (.ret r) G)
def nO:AF:=yA (bH) (yA (zBZ) (yA (bI) (yA (bJ) ((bK)))))
def gN(ds:List MV)(S:Sto):R Er:=yO (nO (zS dP ds) S)
def nP:AF:=(fun ρ S=>(((zE (ρ[0]?) S).bind fun a b=>((R.ok (.val (.int 2147483587)) b).bind fun c d=>(R.ok [] d).bind fun e g=>.ok (c::e) g).bind fun h i=>.ok (a::h) i).bind fun j l=>zM 2 wO j l).bind (kM ρ 1))
def nQ:AF:=(fun ρ S=>(((zE (ρ[1]?) S).bind fun a b=>(R.ok (.val (.int 4)) b).bind fun c d=>kT a c d).bind fun e g=>(R.ok (.val (.int 1)) g).bind fun h i=>jH e h i).bind (kM ρ 2))
def nR:AF:=(fun ρ S=>(((((zE (ρ[1]?) S).bind fun a b=>(R.ok (.val (.int 4)) b).bind fun c d=>zBQ a c d).bind fun e g=>(R.ok (.val (.int 8)) g).bind fun h i=>kT e h i).bind fun j l=>(R.ok (.val (.int 0)) l).bind fun m n=>gtF j m n).bind asB).bind fun k o=>if k=true then((fun ρ S=>(((zE (ρ[2]?) S).bind fun p q=>((((zE (ρ[1]?) q).bind fun s t=>(R.ok (.val (.int 32)) t).bind fun u v=>zBQ s u v).bind fun w x=>((zE (ρ[2]?) x).bind fun y z=>(R.ok (.val (.int 1)) z).bind fun A B=>jH y A B).bind fun D G=>kT w D G).bind fun I J=>(R.ok [] J).bind fun L M=>.ok (I::L) M).bind fun N O=>.ok (p::N) O).bind wP).bind fun r o=>.ok (.ret r) o)) ρ o else(fun ρ S=>.ok (.next ρ) S) ρ o)
def nS:AF:=(fun ρ S=>(((((zE (ρ[2]?) S).bind fun a b=>(((zE (ρ[2]?) b).bind fun c d=>(R.ok (.val (.int 1)) d).bind fun e g=>jH c e g).bind fun h i=>(R.ok [] i).bind fun j l=>.ok (h::j) l).bind fun m n=>.ok (a::m) n).bind wP).bind fun o p=>((((R.ok (.val (.int 5)) p).bind fun q s=>((R.ok (.val (.int 1)) s).bind fun t u=>(R.ok [] u).bind fun v w=>.ok (t::v) w).bind fun x y=>.ok (q::x) y).bind wP).bind fun z A=>((((R.ok (.val (.int 0)) A).bind fun B D=>((R.ok (.val (.int 0)) D).bind fun G I=>(R.ok [] I).bind fun J L=>.ok (G::J) L).bind fun M N=>.ok (B::M) N).bind wP).bind fun O P=>((((zE (ρ[2]?) P).bind fun Q T=>((R.ok (.val (.int (-1))) T).bind fun U V=>(R.ok [] V).bind fun X Y=>.ok (U::X) Y).bind fun Z a0=>.ok (Q::Z) a0).bind wP).bind fun a1 a2=>((((R.ok (.val (.bl true)) a2).bind fun a3 a4=>((R.ok (.val (.int 0)) a4).bind fun a5 a6=>(R.ok [] a6).bind fun a7 a8=>.ok (a5::a7) a8).bind fun a9 b0=>.ok (a3::a9) b0).bind wP).bind fun b1 b2=>((((zE (ρ[2]?) b2).bind fun b3 b4=>((R.ok (.val (.bl false)) b4).bind fun b5 b6=>(R.ok [] b6).bind fun b7 b8=>.ok (b5::b7) b8).bind fun b9 c0=>.ok (b3::b9) c0).bind wP).bind fun c1 c2=>(R.ok [] c2).bind fun c3 c4=>.ok (c1::c3) c4).bind fun c5 c6=>.ok (b1::c5) c6).bind fun c7 c8=>.ok (a1::c7) c8).bind fun c9 d0=>.ok (O::c9) d0).bind fun d1 d2=>.ok (z::d1) d2).bind fun d3 d4=>.ok (o::d3) d4).bind wZ).bind (kM ρ 3))
def nU:AF:=(fun ρ S=>((zE (ρ[3]?) S).bind fun a b=>(((((zE (ρ[2]?) b).bind fun c d=>(R.ok [] d).bind fun e g=>.ok (c::e) g).bind wP).bind fun h i=>((((zE (ρ[2]?) i).bind fun j l=>((R.ok (.val (.int 0)) l).bind fun m n=>((R.ok (.val (.int 0)) n).bind fun o p=>(R.ok [] p).bind fun q s=>.ok (o::q) s).bind fun t u=>.ok (m::t) u).bind fun v w=>.ok (j::v) w).bind wP).bind fun x y=>((((R.ok (.val (.str [97])) y).bind fun z A=>((R.ok (.val (.int 1)) A).bind fun B D=>(R.ok [] D).bind fun G I=>.ok (B::G) I).bind fun J L=>.ok (z::J) L).bind wP).bind fun M N=>((R.ok (.val .non) N).bind fun O P=>(R.ok [] P).bind fun Q T=>.ok (O::Q) T).bind fun U V=>.ok (M::U) V).bind fun X Y=>.ok (x::X) Y).bind fun Z a0=>.ok (h::Z) a0).bind wZ).bind fun a1 a2=>jH a a1 a2).bind (kM ρ 3))
def nV:AF:=(fun ρ S=>(((zE (ρ[3]?) S).bind fun a b=>(((((R.ok (.val (.int 2)) b).bind fun c d=>((R.ok (.val .non) d).bind fun e g=>(R.ok [] g).bind fun h i=>.ok (e::h) i).bind fun j l=>.ok (c::j) l).bind wP).bind fun m n=>((((((R.ok (.val (.int 10)) n).bind fun o p=>(R.ok (.val (.int 30)) p).bind fun q s=>bV o q s).bind fun t u=>(zE (ρ[1]?) u).bind fun v w=>jH t v w).bind fun x y=>((R.ok (.val (.int 1)) y).bind fun z A=>(R.ok [] A).bind fun B D=>.ok (z::B) D).bind fun G I=>.ok (x::G) I).bind wP).bind fun J L=>((((R.ok (.val (.int (-1))) L).bind fun M N=>((R.ok (.val (.int (-1))) N).bind fun O P=>(R.ok [] P).bind fun Q T=>.ok (O::Q) T).bind fun U V=>.ok (M::U) V).bind wP).bind fun X Y=>((R.ok (.val (.int 7)) Y).bind fun Z a0=>((((R.ok (.val (.int 2)) a0).bind fun a1 a2=>((R.ok (.val (.str [49])) a2).bind fun a3 a4=>(R.ok [] a4).bind fun a5 a6=>.ok (a3::a5) a6).bind fun a7 a8=>.ok (a1::a7) a8).bind wP).bind fun a9 b0=>(R.ok [] b0).bind fun b1 b2=>.ok (a9::b1) b2).bind fun b3 b4=>.ok (Z::b3) b4).bind fun b5 b6=>.ok (X::b5) b6).bind fun b7 b8=>.ok (J::b7) b8).bind fun b9 c0=>.ok (m::b9) c0).bind wZ).bind fun c1 c2=>jH a c1 c2).bind fun c3 c4=>(((zE (ρ[1]?) c4).bind fun c5 c6=>(R.ok (.val (.int 32)) c6).bind fun c7 c8=>zBQ c5 c7 c8).bind fun c9 d0=>(R.ok (.val (.int 15)) d0).bind fun d1 d2=>kT c9 d1 d2).bind fun d3 d4=>ixF c3 d3 d4).bind fun r d5=>.ok (.ret r) d5)
def zDC:AF:=yA (nP) (yA (nQ) (yA (nR) (yA (nS) (yA (nU) ((nV))))))
def wI(ds:List MV)(S:Sto):R Er:=yO (zDC (zS zCP ds) S)
def zBF:AF:=(fun ρ S=>((((zE (ρ[0]?) S).bind fun a b=>(R.ok (.val (.int 16)) b).bind fun c d=>kT a c d).bind fun e g=>(R.ok (.val (.int 3)) g).bind fun h i=>eqF e h i).bind asB).bind fun k j=>if k=true then((fun ρ S=>((((R.ok (.val (.bl true)) S).bind fun l m=>((R.ok (.val .non) m).bind fun n o=>((R.ok (.val (.str [])) o).bind fun p q=>((R.ok (.val (.str [65,98,99])) q).bind fun s t=>(((R.ok (.val (.int 10)) t).bind fun u v=>(R.ok (.val (.int 30)) v).bind fun w x=>bV u w x).bind fun y z=>(((R.ok (.val (.int 0)) z).bind fun A B=>((R.ok (.val (.int 10)) B).bind fun D G=>(R.ok (.val (.int 30)) G).bind fun I J=>bV D I J).bind fun L M=>zNU A L M).bind fun N O=>((R.ok (.val (.str [97,98,99,100,101,102,103,104,105])) O).bind fun P Q=>((((R.ok (.val (.int 1)) Q).bind fun T U=>(R.ok [] U).bind fun V X=>.ok (T::V) X).bind wP).bind fun Y Z=>((R.ok (.val (.bl false)) Z).bind fun a0 a1=>((R.ok (.val (.str [97,49])) a1).bind fun a2 a3=>(R.ok [] a3).bind fun a4 a5=>.ok (a2::a4) a5).bind fun a6 a7=>.ok (a0::a6) a7).bind fun a8 a9=>.ok (Y::a8) a9).bind fun b0 b1=>.ok (P::b0) b1).bind fun b2 b3=>.ok (N::b2) b3).bind fun b4 b5=>.ok (y::b4) b5).bind fun b6 b7=>.ok (s::b6) b7).bind fun b8 b9=>.ok (p::b8) b9).bind fun c0 c1=>.ok (n::c0) c1).bind fun c2 c3=>.ok (l::c2) c3).bind wZ).bind fun c4 c5=>(((zE (ρ[0]?) c5).bind fun c6 c7=>(R.ok (.val (.int 16)) c7).bind fun c8 c9=>zBQ c6 c8 c9).bind fun d0 d1=>(R.ok (.val (.int 10)) d1).bind fun d2 d3=>kT d0 d2 d3).bind fun d4 d5=>ixF c4 d4 d5).bind fun r j=>.ok (.ret r) j)) ρ j else(fun ρ S=>.ok (.next ρ) S) ρ j)
def zBG:AF:=(fun ρ S=>((((zE (ρ[0]?) S).bind fun a b=>(R.ok (.val (.int 4)) b).bind fun c d=>kT a c d).bind fun e g=>(R.ok (.val (.int 3)) g).bind fun h i=>ltF e h i).bind asB).bind fun k j=>if k=true then((fun ρ S=>((((R.ok (.val (.int 1)) S).bind fun l m=>((R.ok (.val (.int 2)) m).bind fun n o=>((R.ok (.val (.str [97])) o).bind fun p q=>((R.ok (.val (.str [98])) q).bind fun s t=>(R.ok [] t).bind fun u v=>.ok (s::u) v).bind fun w x=>.ok (p::w) x).bind fun y z=>.ok (n::y) z).bind fun A B=>.ok (l::A) B).bind wZ).bind fun D G=>(((zE (ρ[0]?) G).bind fun I J=>(R.ok (.val (.int 4)) J).bind fun L M=>zBQ I L M).bind fun N O=>(R.ok (.val (.int 4)) O).bind fun P Q=>kT N P Q).bind fun T U=>ixF D T U).bind fun r j=>.ok (.ret r) j)) ρ j else(fun ρ S=>.ok (.next ρ) S) ρ j)
def zBH:AF:=(fun ρ S=>((((zE (ρ[0]?) S).bind fun a b=>(R.ok (.val (.int 4)) b).bind fun c d=>zBQ a c d).bind fun e g=>(R.ok [] g).bind fun h i=>.ok (e::h) i).bind fun j l=>zM 1 jJ j l).bind fun r m=>.ok (.ret r) m)
def zLL:AF:=yA (zBF) (yA (zBG) ((zBH)))
def jB(ds:List MV)(S:Sto):R Er:=yO (zLL (zS ["_law_cell_here"] ds) S)
def zFC:Rho→Sto→R Bool:=fun ρ S=>(R.ok true S)
def nW:AE:=fun ρ S=>(((((zE (ρ[2]?) S).bind fun a b=>((R.ok (.val (.int 64)) b).bind fun c d=>((R.ok (.val (.int 13)) d).bind fun e g=>(zE (ρ[0]?) g).bind fun h i=>zIL e h i).bind fun j l=>jH c j l).bind fun m n=>zBQ a m n).bind fun o p=>((((zE (ρ[1]?) p).bind fun q s=>(R.ok (.val (.int 5)) s).bind fun t u=>zBQ q t u).bind fun v w=>((R.ok (.val (.int 10)) w).bind fun x y=>(R.ok (.val (.int 9)) y).bind fun z A=>bV x z A).bind fun B D=>kT v B D).bind fun G I=>(zE (ρ[0]?) I).bind fun J L=>zIL G J L).bind fun M N=>jH o M N).bind fun O P=>(R.ok [] P).bind fun Q T=>.ok (O::Q) T).bind fun U V=>zM 1 jB U V)
def zDD:AF:=(fun ρ S=>(((zE (ρ[0]?) S).bind fun a b=>((R.ok (.val (.int 2147483563)) b).bind fun c d=>(R.ok [] d).bind fun e g=>.ok (c::e) g).bind fun h i=>.ok (a::h) i).bind fun j l=>zM 2 wO j l).bind (kM ρ 2))
def zDE:AF:=(fun ρ S=>((zE (ρ[2]?) S).bind fun a b=>(((zE (ρ[1]?) b).bind fun c d=>(R.ok [] d).bind fun e g=>.ok (c::e) g).bind xX).bind fun h i=>kT a h i).bind (kM ρ 3))
def zDF:AF:=(fun ρ S=>(((zE (ρ[1]?) S).bind fun a b=>(zE (ρ[3]?) b).bind fun c d=>ixF a c d).bind fun e g=>(R.ok (.val (.int 0)) g).bind fun h i=>ixF e h i).bind (kM ρ 4))
def zDG:AF:=(fun ρ S=>(((((zE (ρ[2]?) S).bind fun a b=>(R.ok (.val (.int 4)) b).bind fun c d=>zBQ a c d).bind fun e g=>(R.ok (.val (.int 16)) g).bind fun h i=>kT e h i).bind fun j l=>(R.ok (.val (.int 1)) l).bind fun m n=>eqF j m n).bind asB).bind fun k o=>if k=true then(yA (fun ρ S=>(((((((zE (ρ[1]?) S).bind fun p q=>(R.ok [] q).bind fun s t=>.ok (p::s) t).bind xX).bind fun u v=>((((R.ok (.val (.int 1)) v).bind fun w x=>(R.ok [] x).bind fun y z=>.ok (w::y) z).bind wP).bind fun A B=>(R.ok [] B).bind fun D G=>.ok (A::D) G).bind fun I J=>.ok (u::I) J).bind wP).bind fun L M=>((((R.ok (.val (.int (-1))) M).bind fun N O=>((((R.ok (.val (.int 1)) O).bind fun P Q=>(R.ok [] Q).bind fun T U=>.ok (P::T) U).bind wP).bind fun V X=>(R.ok [] X).bind fun Y Z=>.ok (V::Y) Z).bind fun a0 a1=>.ok (N::a0) a1).bind wP).bind fun a2 a3=>((((R.ok (.val (.bl true)) a3).bind fun a4 a5=>((((R.ok (.val (.int 1)) a5).bind fun a6 a7=>(R.ok [] a7).bind fun a8 a9=>.ok (a6::a8) a9).bind wP).bind fun b0 b1=>(R.ok [] b1).bind fun b2 b3=>.ok (b0::b2) b3).bind fun b4 b5=>.ok (a4::b4) b5).bind wP).bind fun b6 b7=>((((R.ok (.val (.int 0)) b7).bind fun b8 b9=>(R.ok [] b9).bind fun c0 c1=>.ok (b8::c0) c1).bind wP).bind fun c2 c3=>((R.ok (.val .non) c3).bind fun c4 c5=>((((R.ok (.val (.int 0)) c5).bind fun c6 c7=>((R.ok (.val (.int 1)) c7).bind fun c8 c9=>(R.ok [] c9).bind fun d0 d1=>.ok (c8::d0) d1).bind fun d2 d3=>.ok (c6::d2) d3).bind wP).bind fun d4 d5=>((((R.ok (.val (.str [48])) d5).bind fun d6 d7=>((((R.ok (.val (.int 1)) d7).bind fun d8 d9=>(R.ok [] d9).bind fun e0 e1=>.ok (d8::e0) e1).bind wP).bind fun e2 e3=>(R.ok [] e3).bind fun e4 e5=>.ok (e2::e4) e5).bind fun e6 e7=>.ok (d6::e6) e7).bind wP).bind fun e8 e9=>((((R.ok (.val (.int 0)) e9).bind fun g0 g1=>((R.ok (.val .non) g1).bind fun g2 g3=>(R.ok [] g3).bind fun g4 g5=>.ok (g2::g4) g5).bind fun g6 g7=>.ok (g0::g6) g7).bind wP).bind fun g8 g9=>(R.ok [] g9).bind fun h0 h1=>.ok (g8::h0) h1).bind fun h2 h3=>.ok (e8::h2) h3).bind fun h4 h5=>.ok (d4::h4) h5).bind fun h6 h7=>.ok (c4::h6) h7).bind fun h8 h9=>.ok (c2::h8) h9).bind fun i0 i1=>.ok (b6::i0) i1).bind fun i2 i3=>.ok (a2::i2) i3).bind fun i4 i5=>.ok (L::i4) i5).bind wZ).bind (kM ρ 5)) ((fun ρ S=>((zE (ρ[5]?) S).bind fun i6 i7=>(((zE (ρ[2]?) i7).bind fun i8 i9=>(R.ok (.val (.int 64)) i9).bind fun j0 j1=>zBQ i8 j0 j1).bind fun j2 j3=>(R.ok (.val (.int 8)) j3).bind fun j4 j5=>kT j2 j4 j5).bind fun j6 j7=>ixF i6 j6 j7).bind fun r o=>.ok (.ret r) o))) ρ o else(fun ρ S=>.ok (.next ρ) S) ρ o)
def zDH:AF:=(fun ρ S=>(((((zE (ρ[2]?) S).bind fun a b=>(R.ok (.val (.int 4)) b).bind fun c d=>zBQ a c d).bind fun e g=>(R.ok (.val (.int 16)) g).bind fun h i=>kT e h i).bind fun j l=>(R.ok (.val (.int 2)) l).bind fun m n=>eqF j m n).bind asB).bind fun k o=>if k=true then((fun ρ S=>(((zE (ρ[4]?) S).bind fun p q=>(R.ok (.val (.int 1)) q).bind fun s t=>jH p s t).bind fun u v=>((R.ok (.val (.int 2)) v).bind fun w x=>(((zE (ρ[2]?) x).bind fun y z=>(R.ok (.val (.int 64)) z).bind fun A B=>zBQ y A B).bind fun D G=>(R.ok (.val (.int 2)) G).bind fun I J=>kT D I J).bind fun L M=>zIL w L M).bind fun N O=>zNU u N O).bind (kM ρ 4))) ρ o else(fun ρ S=>.ok (.next ρ) S) ρ o)
def zDI:AF:=(fun ρ S=>(((zE (ρ[3]?) S).bind fun a b=>(((((((zE (ρ[4]?) b).bind fun c d=>(R.ok [] d).bind fun e g=>.ok (c::e) g).bind zEN).bind fun h i=>if h.ds.length<1000000 then(yU (gNm 0) (zFC) (nW) (blk 1 [0,2] ρ) h.gs h.ds i).bind fun j l=>.ok (.new j) l else .no).bind fun m n=>(R.ok [] n).bind fun o p=>.ok (m::o) p).bind dL).bind fun q s=>(R.ok [] s).bind fun t u=>.ok (q::t) u).bind fun v w=>.ok (a::v) w).bind wP).bind fun r x=>.ok (.ret r) x)
def zHJ:AF:=yA (zDD) (yA (zDE) (yA (zDF) (yA (zDG) (yA (zDH) ((zDI))))))
def jC(ds:List MV)(S:Sto):R Er:=yO (zHJ (zS zCQ ds) S)
def zFD:AF:=(fun ρ S=>((((zE (ρ[0]?) S).bind fun a b=>((R.ok (.val (.typ "int")) b).bind fun c d=>(R.ok [] d).bind fun e g=>.ok (c::e) g).bind fun h i=>.ok (a::h) i).bind kC).bind fun j l=>wU j l fun m=>((((zE (ρ[0]?) m).bind fun n o=>((R.ok (.val (.typ "bool")) o).bind fun p q=>(R.ok [] q).bind fun s t=>.ok (p::s) t).bind fun u v=>.ok (n::u) v).bind kC).bind fun w x=>(asB w x).bind fun y z=>.ok (.val (.bl !y)) z)).bind fun r A=>.ok (.ret r) A)
def zDJ:AF:=(zFD)
def xO(ds:List MV)(S:Sto):R Er:=yO (zDJ (zS ["_law_thing"] ds) S)
def xF:AF:=(fun ρ S=>((((((zE (ρ[0]?) S).bind fun a b=>((R.ok (.val (.typ "tuple")) b).bind fun c d=>(R.ok [] d).bind fun e g=>.ok (c::e) g).bind fun h i=>.ok (a::h) i).bind kC).bind kL).bind fun j l=>.ok (!j) l).bind fun m n=>if m=true then .ok true n else((((((zE (ρ[0]?) n).bind fun o p=>(R.ok [] p).bind fun q s=>.ok (o::q) s).bind xX).bind fun t u=>(R.ok (.val (.int 2)) u).bind fun v w=>neF t v w).bind asB).bind fun x y=>if x=true then .ok true y else(((((((zE (ρ[0]?) y).bind fun z A=>(R.ok (.val (.int 0)) A).bind fun B D=>ixF z B D).bind fun G I=>(R.ok [] I).bind fun J L=>.ok (G::J) L).bind fun M N=>zM 1 xO M N).bind kL).bind fun O P=>.ok (!O) P).bind fun Q T=>if Q=true then .ok true T else((((((zE (ρ[0]?) T).bind fun U V=>(R.ok (.val (.int 1)) V).bind fun X Y=>ixF U X Y).bind fun Z a0=>(R.ok [] a0).bind fun a1 a2=>.ok (Z::a1) a2).bind fun a3 a4=>zM 1 xO a3 a4).bind kL).bind fun a5 a6=>.ok (!a5) a6)))).bind fun k a7=>if k=true then((fun ρ S=>(R.ok (.val (.bl false)) S).bind fun r a7=>.ok (.ret r) a7)) ρ a7 else(fun ρ S=>.ok (.next ρ) S) ρ a7)
def jD:AF:=(fun ρ S=>(((R.ok (.val (.int 0)) S).bind fun a b=>((zE (ρ[0]?) b).bind fun c d=>(R.ok (.val (.int 0)) d).bind fun e g=>ixF c e g).bind fun h i=>chF ltF ltF a h i fun j=>(R.ok (.val (.int 5)) j)).bind fun l m=>wU l m fun n=>((R.ok (.val (.int (-1))) n).bind fun o p=>((zE (ρ[0]?) p).bind fun q s=>(R.ok (.val (.int 1)) s).bind fun t u=>ixF q t u).bind fun v w=>chF ltF leF o v w fun x=>((zE (ρ[0]?) x).bind fun y z=>(R.ok (.val (.int 0)) z).bind fun A B=>ixF y A B))).bind fun r D=>.ok (.ret r) D)
def hX:AF:=yA (xF) ((jD))
def xD(ds:List MV)(S:Sto):R Er:=yO (hX (zS ["_law_thing"] ds) S)
def xP:Rho→Sto→R Bool:=fun ρ S=>(((zE (ρ[0]?) S).bind fun a b=>(R.ok (.val (.str [97,98,99,100,101,102,103,104,105,106,107,108,109,110,111,112,113,114,115,116,117,118,119,120,121,122])) b).bind fun c d=>inF true a c d).bind asB)
def xQ:AE:=fun ρ S=>(zE (ρ[0]?) S)
def yV:AF:=(fun ρ S=>((((zE (ρ[0]?) S).bind fun a b=>((R.ok (.val (.typ "str")) b).bind fun c d=>(R.ok [] d).bind fun e g=>.ok (c::e) g).bind fun h i=>.ok (a::h) i).bind kC).bind kL).bind fun k j=>if k=true then((fun ρ S=>(((R.ok (.val (.int 0)) S).bind fun l m=>(((zE (ρ[0]?) m).bind fun n o=>(R.ok [] o).bind fun p q=>.ok (n::p) q).bind xX).bind fun s t=>chF ltF ltF l s t fun u=>(R.ok (.val (.int 9)) u)).bind fun v w=>wU v w fun x=>((((zE (ρ[0]?) x).bind itS).bind fun y z=>if y.ds.length<1000000 then(yU (gNm 0) (xP) (xQ) (blk 1 [] ρ) y.gs y.ds z).bind fun A B=>.ok (.new A) B else .no).bind fun D G=>((R.ok [] G).bind wZ).bind fun I J=>eqF D I J)).bind fun r j=>.ok (.ret r) j)) ρ j else(fun ρ S=>.ok (.next ρ) S) ρ j)
def xG:AF:=(fun ρ S=>((((zE (ρ[0]?) S).bind fun a b=>(R.ok [] b).bind fun c d=>.ok (a::c) d).bind fun e g=>zM 1 xO e g).bind fun h i=>wU h i fun j=>((((zE (ρ[0]?) j).bind fun l m=>(R.ok [] m).bind fun n o=>.ok (l::n) o).bind yBX).bind fun p q=>((R.ok (.val (.int 10)) q).bind fun s t=>(R.ok (.val (.int 30)) t).bind fun u v=>bV s u v).bind fun w x=>ltF p w x)).bind fun r y=>.ok (.ret r) y)
def yT:AF:=yA (yV) ((xG))
def wB(ds:List MV)(S:Sto):R Er:=yO (yT (zS ["_law_thing"] ds) S)
def jE:Rho→Sto→R Bool:=fun ρ S=>(((((zE (ρ[0]?) S).bind fun a b=>(R.ok [] b).bind fun c d=>.ok (a::c) d).bind fun e g=>zM 1 wB e g).bind kL).bind fun h i=>.ok (!h) i)
def cB:AE:=fun ρ S=>(zE (ρ[0]?) S)
def wC:AF:=(fun ρ S=>((((((zE (ρ[1]?) S).bind fun a b=>((R.ok (.val (.typ "tuple")) b).bind fun c d=>(R.ok [] d).bind fun e g=>.ok (c::e) g).bind fun h i=>.ok (a::h) i).bind kC).bind kL).bind fun j l=>.ok (!j) l).bind fun m n=>if m=true then .ok true n else((((((zE (ρ[1]?) n).bind fun o p=>(R.ok [] p).bind fun q s=>.ok (o::q) s).bind xX).bind fun t u=>(R.ok (.val (.int 2)) u).bind fun v w=>neF t v w).bind asB).bind fun x y=>if x=true then .ok true y else(((((((zE (ρ[1]?) y).bind fun z A=>(R.ok (.val (.int 0)) A).bind fun B D=>ixF z B D).bind fun G I=>(R.ok [] I).bind fun J L=>.ok (G::J) L).bind fun M N=>zM 1 xO M N).bind kL).bind fun O P=>.ok (!O) P).bind fun Q T=>if Q=true then .ok true T else((((((zE (ρ[1]?) T).bind fun U V=>(R.ok (.val (.int 1)) V).bind fun X Y=>ixF U X Y).bind fun Z a0=>((R.ok (.val (.typ "tuple")) a0).bind fun a1 a2=>(R.ok [] a2).bind fun a3 a4=>.ok (a1::a3) a4).bind fun a5 a6=>.ok (Z::a5) a6).bind kC).bind kL).bind fun a7 a8=>.ok (!a7) a8)))).bind fun k a9=>if k=true then((fun ρ S=>(R.ok (.val (.bl false)) S).bind fun r a9=>.ok (.ret r) a9)) ρ a9 else(fun ρ S=>.ok (.next ρ) S) ρ a9)
def wD:AF:=(fun ρ S=>(((((R.ok (.val (.int 0)) S).bind fun a b=>((zE (ρ[1]?) b).bind fun c d=>(R.ok (.val (.int 0)) d).bind fun e g=>ixF c e g).bind fun h i=>chF leF ltF a h i fun j=>(((zE (ρ[0]?) j).bind fun l m=>(R.ok [] m).bind fun n o=>.ok (l::n) o).bind xX)).bind asB).bind fun p q=>.ok (!p) q).bind fun s t=>if s=true then .ok true t else((((((zE (ρ[1]?) t).bind fun u v=>(R.ok (.val (.int 1)) v).bind fun w x=>ixF u w x).bind fun y z=>(R.ok [] z).bind fun A B=>.ok (y::A) B).bind xX).bind fun D G=>(((zE (ρ[0]?) G).bind fun I J=>((zE (ρ[1]?) J).bind fun L M=>(R.ok (.val (.int 0)) M).bind fun N O=>ixF L N O).bind fun P Q=>ixF I P Q).bind fun T U=>(R.ok (.val (.int 0)) U).bind fun V X=>ixF T V X).bind fun Y Z=>neF D Y Z).bind asB)).bind fun k a0=>if k=true then((fun ρ S=>(R.ok (.val (.bl false)) S).bind fun r a0=>.ok (.ret r) a0)) ρ a0 else(fun ρ S=>.ok (.next ρ) S) ρ a0)
def hZ:AF:=(fun ρ S=>(((((zE (ρ[1]?) S).bind fun a b=>(R.ok (.val (.int 1)) b).bind fun c d=>ixF a c d).bind itT).bind fun e g=>if e.ds.length<1000000 then(yU (gNm 0) (jE) (cB) (blk 1 [] ρ) e.gs e.ds g).bind fun h i=>.ok (.new h) i else .no).bind fun j l=>((R.ok [] l).bind wZ).bind fun m n=>eqF j m n).bind fun r o=>.ok (.ret r) o)
def bL:AF:=yA (wC) (yA (wD) ((hZ)))
def xV(ds:List MV)(S:Sto):R Er:=yO (bL (zS xC ds) S)
noncomputable def nX:Rho→Sto→R Fl:=(fun ρ S=>((((zE (ρ[0]?) S).bind fun p2441 S2442=>((R.ok [] S2442).bind wZ).bind fun q2443 S2444=>eqF p2441 q2443 S2444).bind asB).bind fun k2445 S2446=>if k2445=true then .ok true S2446 else((((((zE (ρ[0]?) S2446).bind fun p2449 S2450=>(zE (ρ[2]?) S2450).bind fun q2451 S2452=>ixF p2449 q2451 S2452).bind fun p2453 S2454=>(R.ok [] S2454).bind fun l2455 S2456=>.ok (p2453::l2455) S2456).bind fun r2447 S2448=>zM 1 xD r2447 S2448).bind kL).bind fun k2457 S2458=>.ok (!k2457) S2458)).bind fun k S1=>if k=true then((fun ρ S=>(((R.ok (.val (.int 1)) S).bind fun p2459 S2460=>((zE (ρ[2]?) S2460).bind fun p2463 S2464=>(R.ok [] S2464).bind fun l2465 S2466=>.ok (p2463::l2465) S2466).bind fun l2461 S2462=>.ok (p2459::l2461) S2462).bind wP).bind fun r S1=>.ok (.ret r) S1)) ρ S1 else(fun ρ S=>.ok (.next ρ) S) ρ S1)
noncomputable def gO:Rho→Sto→R Fl:=(nX)
noncomputable def zFE:Rho→Sto→R Fl:=(fun ρ S=>(((((zE (ρ[0]?) S).bind fun p2477 S2478=>(((zE (ρ[1]?) S2478).bind fun p2481 S2482=>(zE (ρ[2]?) S2482).bind fun q2483 S2484=>ixF p2481 q2483 S2484).bind fun p2485 S2486=>(R.ok [] S2486).bind fun l2487 S2488=>.ok (p2485::l2487) S2488).bind fun l2479 S2480=>.ok (p2477::l2479) S2480).bind fun r2475 S2476=>zM 2 xV r2475 S2476).bind kL).bind fun k2489 S2490=>.ok (!k2489) S2490).bind fun k S1=>if k=true then((fun ρ S=>(((R.ok (.val (.int 3)) S).bind fun p2491 S2492=>((zE (ρ[2]?) S2492).bind fun p2495 S2496=>(R.ok [] S2496).bind fun l2497 S2498=>.ok (p2495::l2497) S2498).bind fun l2493 S2494=>.ok (p2491::l2493) S2494).bind wP).bind fun r S1=>.ok (.ret r) S1)) ρ S1 else(fun ρ S=>.ok (.next ρ) S) ρ S1)
noncomputable def cY:Rho→Sto→R Fl:=(zFE)
noncomputable def zFF:Rho→Sto→R Fl:=(fun ρ S=>((((zE (ρ[1]?) S).bind fun p2507 S2508=>(zE (ρ[2]?) S2508).bind fun q2509 S2510=>ixF p2507 q2509 S2510).bind fun p2511 S2512=>((zE (ρ[1]?) S2512).bind fun p2515 S2516=>(R.ok none S2516).bind fun l2517 S2518=>((zE (ρ[2]?) S2518).bind asI).bind fun u2519 S2520=>zPO p2515 l2517 u2519 S2520).bind fun q2513 S2514=>inF false p2511 q2513 S2514).bind asB).bind fun k S1=>if k=true then((fun ρ S=>(((R.ok (.val (.int 4)) S).bind fun p2521 S2522=>((zE (ρ[2]?) S2522).bind fun p2525 S2526=>(R.ok [] S2526).bind fun l2527 S2528=>.ok (p2525::l2527) S2528).bind fun l2523 S2524=>.ok (p2521::l2523) S2524).bind wP).bind fun r S1=>.ok (.ret r) S1)) ρ S1 else(fun ρ S=>.ok (.next ρ) S) ρ S1)
noncomputable def cZ:Rho→Sto→R Fl:=(zFF)
def gP:AF:=(fun ρ S=>(((((R.ok (.val (.int 1)) S).bind fun a b=>((((zE (ρ[0]?) b).bind fun c d=>(R.ok [] d).bind fun e g=>.ok (c::e) g).bind xX).bind fun h i=>(R.ok [] i).bind fun j l=>.ok (h::j) l).bind fun m n=>.ok (a::m) n).bind yFR).bind fun o p=>(R.ok [] p).bind fun q s=>.ok (o::q) s).bind zEN).bind fun k t=>wK (gNm 2) (gO) k.gs k.ds ρ t)
def zDK:AF:=(fun ρ S=>(((((zE (ρ[1]?) S).bind fun a b=>(R.ok [] b).bind fun c d=>.ok (a::c) d).bind xX).bind fun e g=>(R.ok [] g).bind fun h i=>.ok (e::h) i).bind zEN).bind fun k j=>wK (gNm 2) (cY) k.gs k.ds ρ j)
def zDL:AF:=(fun ρ S=>(((((zE (ρ[1]?) S).bind fun a b=>(R.ok [] b).bind fun c d=>.ok (a::c) d).bind xX).bind fun e g=>(R.ok [] g).bind fun h i=>.ok (e::h) i).bind zEN).bind fun k j=>wK (gNm 2) (cZ) k.gs k.ds ρ j)
def zTA:AF:=(fun ρ S=>(R.ok (.val .non) S).bind fun r a=>.ok (.ret r) a)
def zHK:AF:=yA (gP) (yA (zDK) (yA (zDL) ((zTA))))
def nY(ds:List MV)(S:Sto):R Er:=yO (zHK (zS zOG ds) S)
def zRC:Rho→Sto→R Bool:=fun ρ S=>(R.ok true S)
def zKL:AE:=fun ρ S=>(((((zE (ρ[1]?) S).bind fun a b=>(((R.ok (.val (.int 2)) b).bind fun c d=>(zE (ρ[0]?) d).bind fun e g=>jH c e g).bind fun h i=>(R.ok [] i).bind fun j l=>.ok (h::j) l).bind fun m n=>.ok (a::m) n).bind fun o p=>zM 2 yM o p).bind fun q s=>(R.ok [] s).bind fun t u=>.ok (q::t) u).bind fun v w=>zM 1 wI v w)
def zKM:Rho→Sto→R Bool:=fun ρ S=>(((((zE (ρ[0]?) S).bind fun a b=>(R.ok [] b).bind fun c d=>.ok (a::c) d).bind fun e g=>zM 1 xD e g).bind kL).bind fun h i=>.ok (!h) i)
def zRD:AE:=fun ρ S=>(zE (ρ[0]?) S)
noncomputable def zKN:Rho→Sto→R Fl:=(fun ρ S=>((zE (ρ[3]?) S).bind fun p2635 S2636=>if zLJ p2635 S2636=true then((((zE (ρ[4]?) S2636).bind fun p2641 S2642=>((zE (ρ[2]?) S2642).bind fun p2645 S2646=>(R.ok [] S2646).bind fun l2647 S2648=>.ok (p2645::l2647) S2648).bind fun l2643 S2644=>.ok (p2641::l2643) S2644).bind fun r2639 S2640=>zM 2 jC r2639 S2640).bind fun p2649 S2650=>(R.ok [] S2650).bind fun l2651 S2652=>.ok (p2649::l2651) S2652).bind fun r2637 S2638=>zXM p2635 r2637 S2638 else .no).bind fun _ S1=>.ok (.next ρ) S1)
noncomputable def zKO:Rho→Sto→R Fl:=(fun ρ S=>((((zE (ρ[4]?) S).bind fun p2653 S2654=>(R.ok (.val (.int 16)) S2654).bind fun q2655 S2656=>kT p2653 q2655 S2656).bind fun p2657 S2658=>(R.ok (.val (.int 5)) S2658).bind fun q2659 S2660=>eqF p2657 q2659 S2660).bind asB).bind fun k S1=>if k=true then((fun ρ S=>((zE (ρ[3]?) S).bind fun p2661 S2662=>if zLJ p2661 S2662=true then(((zE (ρ[3]?) S2662).bind fun p2665 S2666=>(((zE (ρ[4]?) S2666).bind fun p2669 S2670=>(R.ok (.val (.int 16)) S2670).bind fun q2671 S2672=>zBQ p2669 q2671 S2672).bind fun p2673 S2674=>(((zE (ρ[3]?) S2674).bind fun p2677 S2678=>(R.ok [] S2678).bind fun l2679 S2680=>.ok (p2677::l2679) S2680).bind xX).bind fun q2675 S2676=>kT p2673 q2675 S2676).bind fun q2667 S2668=>ixF p2665 q2667 S2668).bind fun p2681 S2682=>(R.ok [] S2682).bind fun l2683 S2684=>.ok (p2681::l2683) S2684).bind fun r2663 S2664=>zXM p2661 r2663 S2664 else .no).bind fun _ S1=>.ok (.next ρ) S1)) ρ S1 else(fun ρ S=>.ok (.next ρ) S) ρ S1)
noncomputable def zJE:Rho→Sto→R Fl:=yA (zKN) ((zKO))
def zKP:Rho→Sto→R Bool:=fun ρ S=>((((zE (ρ[1]?) S).bind fun a b=>((zE (ρ[0]?) b).bind fun c d=>(R.ok [] d).bind fun e g=>.ok (c::e) g).bind fun h i=>.ok (a::h) i).bind fun j l=>zM 2 xV j l).bind kL)
def zRE:AE:=fun ρ S=>(zE (ρ[0]?) S)
def zKQ:Rho→Sto→R Bool:=fun ρ S=>((((zE (ρ[1]?) S).bind fun a b=>(zE (ρ[0]?) b).bind fun c d=>ixF a c d).bind fun e g=>((zE (ρ[1]?) g).bind fun h i=>(R.ok none i).bind fun j l=>((zE (ρ[0]?) l).bind asI).bind fun m n=>zPO h j m n).bind fun o p=>inF true e o p).bind asB)
def zKR:AE:=fun ρ S=>((zE (ρ[1]?) S).bind fun a b=>(zE (ρ[0]?) b).bind fun c d=>ixF a c d)
def zTB:AF:=(fun ρ S=>(((zE (ρ[0]?) S).bind fun a b=>((R.ok (.val (.int 0)) b).bind fun c d=>(R.ok [] d).bind fun e g=>.ok (c::e) g).bind fun h i=>.ok (a::h) i).bind fun j l=>zM 2 yM j l).bind (kM ρ 1))
def zTC:AF:=(fun ρ S=>(((((((R.ok (.val (.int 1)) S).bind fun a b=>((R.ok (.val (.int 2)) b).bind fun c d=>((R.ok (.val (.int 3)) d).bind fun e g=>((R.ok (.val (.int 4)) g).bind fun h i=>((R.ok (.val (.int 1)) i).bind fun j l=>((R.ok (.val (.int 2)) l).bind fun m n=>((R.ok (.val (.int 0)) n).bind fun o p=>((R.ok (.val (.int 3)) p).bind fun q s=>(R.ok [] s).bind fun t u=>.ok (q::t) u).bind fun v w=>.ok (o::v) w).bind fun x y=>.ok (m::x) y).bind fun z A=>.ok (j::z) A).bind fun B D=>.ok (h::B) D).bind fun G I=>.ok (e::G) I).bind fun J L=>.ok (c::J) L).bind fun M N=>.ok (a::M) N).bind wZ).bind fun O P=>((zE (ρ[1]?) P).bind fun Q T=>(R.ok (.val (.int 8)) T).bind fun U V=>kT Q U V).bind fun X Y=>ixF O X Y).bind fun Z a0=>(R.ok [] a0).bind fun a1 a2=>.ok (Z::a1) a2).bind zEN).bind fun a3 a4=>if a3.ds.length<1000000 then(yU (gNm 0) (zRC) (zKL) (blk 1 [0] ρ) a3.gs a3.ds a4).bind fun a5 a6=>.ok (.new a5) a6 else .no).bind (kM ρ 2))
def yAE:AF:=(fun ρ S=>((R.ok [] S).bind wZ).bind (kM ρ 3))
def zJF:AF:=(fun ρ S=>((((zE (ρ[2]?) S).bind fun a b=>((R.ok [] b).bind wZ).bind fun c d=>neF a c d).bind asB).bind fun e g=>if e=true then(((((zE (ρ[2]?) g).bind itL).bind fun h i=>if h.ds.length<1000000 then(yU (gNm 0) (zKM) (zRD) (blk 1 [] ρ) h.gs h.ds i).bind fun j l=>.ok (.new j) l else .no).bind fun m n=>((R.ok [] n).bind wZ).bind fun o p=>eqF m o p).bind asB)else .ok false g).bind fun k q=>if k=true then((fun ρ S=>(((zE (ρ[0]?) S).bind fun s t=>((R.ok (.val (.int 6)) t).bind asI).bind fun u v=>((R.ok (.val (.int 46)) v).bind asI).bind fun w x=>zPO s u w x).bind itL).bind fun k q=>wK (gNm 4) (zJE) k.gs k.ds ρ q)) ρ q else(fun ρ S=>.ok (.next ρ) S) ρ q)
def zMG:AF:=(fun ρ S=>((((((zE (ρ[0]?) S).bind fun a b=>((R.ok (.val (.int 1)) b).bind fun c d=>(R.ok [] d).bind fun e g=>.ok (c::e) g).bind fun h i=>.ok (a::h) i).bind fun j l=>zM 2 yM j l).bind fun m n=>(R.ok (.val (.int 3)) n).bind fun o p=>kT m o p).bind fun q s=>(R.ok (.val (.int 0)) s).bind fun t u=>eqF q t u).bind asB).bind fun k v=>if k=true then((fun ρ S=>(((zE (ρ[3]?) S).bind itL).bind fun w x=>if w.ds.length<1000000 then(yU (gNm 0) (zKP) (zRE) (blk 1 [2] ρ) w.gs w.ds x).bind fun y z=>.ok (.new y) z else .no).bind (kM ρ 3))) ρ v else(fun ρ S=>.ok (.next ρ) S) ρ v)
def zMH:AF:=(fun ρ S=>(((((((zE (ρ[0]?) S).bind fun a b=>((R.ok (.val (.int 1)) b).bind fun c d=>(R.ok [] d).bind fun e g=>.ok (c::e) g).bind fun h i=>.ok (a::h) i).bind fun j l=>zM 2 yM j l).bind fun m n=>(R.ok (.val (.int 3)) n).bind fun o p=>zBQ m o p).bind fun q s=>(R.ok (.val (.int 2)) s).bind fun t u=>kT q t u).bind fun v w=>(R.ok (.val (.int 0)) w).bind fun x y=>eqF v x y).bind asB).bind fun k z=>if k=true then((fun ρ S=>((((((zE (ρ[3]?) S).bind fun A B=>(R.ok [] B).bind fun D G=>.ok (A::D) G).bind xX).bind fun I J=>(R.ok [] J).bind fun L M=>.ok (I::L) M).bind zEN).bind fun N O=>if N.ds.length<1000000 then(yU (gNm 0) (zKQ) (zKR) (blk 1 [3] ρ) N.gs N.ds O).bind fun P Q=>.ok (.new P) Q else .no).bind (kM ρ 3))) ρ z else(fun ρ S=>.ok (.next ρ) S) ρ z)
def zTD:AF:=(fun ρ S=>((zE (ρ[3]?) S).bind fun a b=>(R.ok none b).bind fun c d=>((R.ok (.val (.int 60)) d).bind asI).bind fun e g=>zPO a c e g).bind (kM ρ 3))
def zMI:AF:=(fun ρ S=>(((((zE (ρ[2]?) S).bind fun a b=>(R.ok [] b).bind fun c d=>.ok (a::c) d).bind zUW).bind fun e g=>(((R.ok [] g).bind wZ).bind fun h i=>((((zE (ρ[3]?) i).bind fun j l=>(R.ok [] l).bind fun m n=>.ok (j::m) n).bind zUW).bind fun o p=>(R.ok [] p).bind fun q s=>.ok (o::q) s).bind fun t u=>.ok (h::t) u).bind fun v w=>.ok (e::v) w).bind wZ).bind (kM ρ 5))
def zMJ:AF:=(fun ρ S=>(((zE (ρ[2]?) S).bind fun a b=>((zE (ρ[3]?) b).bind fun c d=>(R.ok [] d).bind fun e g=>.ok (c::e) g).bind fun h i=>.ok (a::h) i).bind fun j l=>zM 2 nY j l).bind (kM ρ 6))
def zCA:AF:=(fun ρ S=>(((zE (ρ[6]?) S).bind fun a b=>(R.ok (.val .non) b).bind fun c d=>zQU a c d).bind asB).bind fun k e=>if k=true then((fun ρ S=>((((zE (ρ[5]?) S).bind fun g h=>(((zE (ρ[6]?) h).bind fun i j=>(R.ok (.val (.int 0)) j).bind fun l m=>ixF i l m).bind fun n o=>(((zE (ρ[6]?) o).bind fun p q=>(R.ok (.val (.int 1)) q).bind fun s t=>ixF p s t).bind fun u v=>(R.ok [] v).bind fun w x=>.ok (u::w) x).bind fun y z=>.ok (n::y) z).bind fun A B=>.ok (g::A) B).bind fun D G=>zM 3 gN D G).bind fun I J=>wU I J fun L=>((zE (ρ[5]?) L).bind fun M N=>(((zE (ρ[2]?) N).bind fun O P=>(((R.ok [] P).bind wZ).bind fun Q T=>((zE (ρ[3]?) T).bind fun U V=>(R.ok [] V).bind fun X Y=>.ok (U::X) Y).bind fun Z a0=>.ok (Q::Z) a0).bind fun a1 a2=>.ok (O::a1) a2).bind wZ).bind fun a3 a4=>eqF M a3 a4)).bind fun r e=>.ok (.ret r) e)) ρ e else(fun ρ S=>.ok (.next ρ) S) ρ e)
def zJG:AF:=(fun ρ S=>((((((zE (ρ[5]?) S).bind fun a b=>(R.ok (.val (.int 0)) b).bind fun c d=>ixF a c d).bind fun e g=>(((zE (ρ[5]?) g).bind fun h i=>(R.ok (.val (.int 1)) i).bind fun j l=>ixF h j l).bind fun m n=>(((zE (ρ[5]?) n).bind fun o p=>(R.ok (.val (.int 2)) p).bind fun q s=>ixF o q s).bind fun t u=>(R.ok [] u).bind fun v w=>.ok (t::v) w).bind fun x y=>.ok (m::x) y).bind fun z A=>.ok (e::z) A).bind fun B D=>zM 3 gE B D).bind fun G I=>((((((zE (ρ[2]?) I).bind fun J L=>(R.ok [] L).bind fun M N=>.ok (J::M) N).bind dL).bind fun O P=>(((R.ok [] P).bind wP).bind fun Q T=>((((zE (ρ[3]?) T).bind fun U V=>(R.ok [] V).bind fun X Y=>.ok (U::X) Y).bind dL).bind fun Z a0=>(R.ok [] a0).bind fun a1 a2=>.ok (Z::a1) a2).bind fun a3 a4=>.ok (Q::a3) a4).bind fun a5 a6=>.ok (O::a5) a6).bind wP).bind fun a7 a8=>(R.ok [] a8).bind fun a9 b0=>.ok (a7::a9) b0).bind fun b1 b2=>.ok (G::b1) b2).bind fun b3 b4=>zM 2 (zV 8) b3 b4).bind fun r b5=>.ok (.ret r) b5)
def yKI:AF:=yA (zTB) (yA (zTC) (yA (yAE) (yA (zJF) (yA (zMG) (yA (zMH) (yA (zTD) (yA (zMI) (yA (zMJ) (yA (zCA) ((zJG)))))))))))
def zRF(ds:List MV)(S:Sto):R Er:=yO (yKI (zS zOH ds) S)
end
def abc:List Nat:=[97,98,99,100,101,102,103,104,105,106,107,108,109,110,111,112,113,114,115,116,117,118,119,120,121,122]
theorem pp30(S:Sto):bV (.val (.int 10)) (.val (.int 30)) S=.ok (.val (.int (10 ^ 30))) S:=rfl
theorem zVO(S:Sto):bV (.val (.int 10)) (.val (.int 30)) S=.ok (.val (.int (10 ^ 30))) S:=rfl
theorem yNB{a:Int}(h:0≤a∧a<4294967296)(S:Sto):zIL (.val (.int a)) (.val (.int a)) S=.ok (.val (.int (a * a))) S:=
 zIR ⟨Int.lt_of_lt_of_le (by decide) h.1,Int.lt_trans h.2 (by decide)⟩ a S
theorem yAF{S:Sto}{l:Nat}{ds:List MV}{d:MV}(hS:S[l]? =some (.lst ds))(hz:ds.length<1000000):zXM (.val (.loc l)) [.val d] S=.ok (.val .non) (S.set l (.lst (ds++[d]))):=by
 show yBY (.val (.loc l)) S (fun ds=>if ds.length<sizeLine then some (ds++[d])else none)=_
 unfold yBY
 dsimp only
 rw [hS]
 dsimp only
 rw [if_pos (Nat.lt_of_lt_of_le hz (fits (Nat.le_refl _)))]
theorem yJA{S:Sto}{l:Nat}{ds:List MV}(hS:S[l]? =some (.lst ds)):zLJ (.val (.loc l)) S=true:=by
 unfold zLJ
 rw [bX hS];rfl
theorem zKS{S:Sto}{l:Nat}{ds:List MV}(hS:S[l]? =some (.lst ds)):dL [.val (.loc l)] S=.ok (.val (.tup ds)) S:=by
 show(match gH S (.val (.loc l))with | some ds=>R.ok (Er.val (.tup ds)) S | none=>.no)=_
 rw [bX hS]
theorem zJH(ds:List MV)(S:Sto):xX [.val (.tup ds)] S=.ok (.val (.int ds.length)) S:=rfl
theorem yJB(gf:MV→Rho→Sto→R Rho)(ρ:Rho)(d:MV)(S:Sto):asgF gf ρ (.val d) S=(gf d ρ S).bind fun ρ' S2=>.ok (.next ρ') S2:=rfl
def tbl(p:Int×Int):MV:=.tup [.int p.1,.int p.2]
mutual
def pd:MV→Bool
 | .int _=>true
 | .str _=>true
 | .tup ds=>pdL ds
 | _=>false
def pdL:List MV→Bool
 | []=>true
 | d::ds=>pd d&&pdL ds
end
mutual
def dpt:MV→Nat
 | .tup ds=>zKT ds+1
 | _=>0
def zKT:List MV→Nat
 | []=>0
 | d::ds=>max (dpt d) (zKT ds)
end
theorem zFG(ds:List MV):pd (.tup ds)=pdL ds:=by rw [pd]
theorem zTE:pdL []=true:=by rw [pdL]
theorem cE(d:MV)(ds:List MV):pdL (d::ds)=(pd d&&pdL ds):=by rw [pdL]
theorem dA(ds:List MV):dpt (.tup ds)=zKT ds+1:=by rw [dpt]
theorem zCB(d:MV)(ds:List MV):zKT (d::ds)=max (dpt d) (zKT ds):=by rw [zKT]
theorem zVP:zKT []=0:=by rw [zKT]
theorem yFT(i:Int):pd (.int i)=true:=by rw [pd]
theorem yNC(i:List Nat):pd (.str i)=true:=by rw [pd]
theorem zMK(i:Int):dpt (.int i)=0:=by simp [dpt]
theorem zTF(i:List Nat):dpt (.str i)=0:=by simp [dpt]
theorem zML: ∀{ds:List MV},(∀d∈ds,pd d=true)→pdL ds=true
 | [],_=>zTE
 | d::ds,h=>by rw [cE,h d List.mem_cons_self,zML fun e he=>h e (List.mem_cons_of_mem _ he)];rfl
theorem zMM: ∀{ds:List MV},pdL ds=true→ ∀d∈ds,pd d=true
 | [],_,d,h=>by simp at h
 | e::ds,hp,d,h=>by
  rw [cE,Bool.and_eq_true]at hp
  rcases List.mem_cons.mp h with rfl | h
  ·exact hp.1
  ·exact zMM hp.2 d h
theorem zTG: ∀{ds:List MV}{n:Nat},(∀d∈ds,dpt d≤n)→zKT ds≤n
 | [],n,_=>by rw [zVP];exact Nat.zero_le _
 | d::ds,n,h=>by
  rw [zCB]
  have h1:=h d List.mem_cons_self
  have h2:=zTG fun e he=>h e (List.mem_cons_of_mem _ he)
  omega
theorem zCC: ∀{ds:List MV}, ∀d∈ds,dpt d≤zKT ds
 | [],d,h=>by simp at h
 | e::ds,d,h=>by
  rw [zCB]
  rcases List.mem_cons.mp h with rfl | h
  ·exact Nat.le_max_left _ _
  ·exact Nat.le_trans (zCC d h) (Nat.le_max_right _ _)
theorem zOO{d:MV}(h:pd d=true):(∃i,d=.int i)∨(∃x,d=.str x)∨ ∃ds,d=.tup ds∧pdL ds=true:=by
 cases d with
 | int i=>exact .inl ⟨i,rfl⟩
 | str x=>exact .inr (.inl ⟨x,rfl⟩)
 | tup ds=>exact .inr (.inr ⟨ds,rfl,by rw [←zFG];exact h⟩)
 | _=>rw [pd]at h<;>first | cases h | (intros;simp)
theorem dec_is{p:Prop}[Decidable p]{q:Prop}[Decidable q](h:p↔q):decide p=decide q:=by
 by_cases hq:q
 ·rw [decide_eq_true hq,decide_eq_true (h.mpr hq)]
 ·rw [decide_eq_false hq,decide_eq_false fun z=>hq (h.mp z)]
theorem zVQ{e:MV→MV→Option Bool}: ∀{ds es:List MV},(∀d∈ds, ∀f∈es,e d f=some (decide (d=f)))→ ∃bs,prs e ds es=some bs∧(bs.all id&&ds.length==es.length)=decide (ds=es)
 | [],[],_=>⟨[],rfl,by simp⟩
 | [],_::_,_=>⟨[],rfl,by simp⟩
 | _::_,[],_=>⟨[],rfl,by simp⟩
 | d::ds,f::es,h=>by
  obtain⟨bs,h1,h2⟩:=zVQ (e:=e) (ds:=ds) (es:=es) fun a ha b hb=>h a (List.mem_cons_of_mem _ ha) b (List.mem_cons_of_mem _ hb)
  refine⟨decide (d=f)::bs,?_,?_⟩
  ·unfold prs
   rw [h d List.mem_cons_self f List.mem_cons_self,h1]
   rfl
  ·by_cases hd:d=f
   ·subst hd
    rw [List.all_cons,decide_eq_true rfl]
    simp only [id,Bool.true_and,List.length_cons]
    rw [show(ds.length+1==es.length+1)=(ds.length==es.length) by simp,h2]
    exact dec_is (by simp)
   ·rw [List.all_cons,decide_eq_false hd]
    rw [decide_eq_false (show¬(d::ds=f::es)from fun z=>hd (List.cons.inj z).1)]
    rfl
theorem zVR{S:Sto}: ∀(n:Nat){d e:MV},pd d=true→pd e=true→dpt d<n→eqv S n d e=some (decide (d=e))
 | 0,d,e,_,_,h=>by omega
 | n+1,d,e,hd,he,h=>by
  rcases zOO hd with⟨i,rfl⟩ | ⟨x,rfl⟩ | ⟨ds,rfl,pds⟩<;>rcases zOO he with⟨j,rfl⟩ | ⟨y,rfl⟩ | ⟨es,rfl,pes⟩
  ·rw [zMC];exact congrArg some (dec_is (by simp))
  ·rw [yMO,decide_eq_false (by simp)]
  ·rw [decide_eq_false (by simp)];rfl
  ·rw [yMP,decide_eq_false (by simp)]
  ·rw [zSP];exact congrArg some (dec_is (by simp))
  ·rw [decide_eq_false (by simp)];rfl
  ·rw [decide_eq_false (by simp)];rfl
  ·rw [decide_eq_false (by simp)];rfl
  ·rw [dA]at h
   obtain⟨bs,h1,h2⟩:=zVQ (e:=eqv S n) (ds:=ds) (es:=es) fun a ha b hb=>zVR n (zMM pds a ha) (zMM pes b hb) (by have:=zCC a ha;omega)
   show((prs (eqv S n) ds es).map fun bs=>bs.all id&&ds.length==es.length)=_
   rw [h1]
   show some (bs.all id&&ds.length==es.length)=_
   rw [h2]
   exact congrArg some (dec_is (by simp))
theorem zVS{S:Sto}{d:MV}(hd:pd d=true): ∀{ys:List MV},(∀y∈ys,pd y=true∧dpt y<40)→zPP S yD d ys=some (ys.map fun y=>decide (y=d))
 | [],_=>rfl
 | y::ys,h=>by
  have h1:=h y List.mem_cons_self
  unfold zPP
  rw [zVR yD h1.1 hd (by unfold yD;exact h1.2),zVS hd fun z hz=>h z (List.mem_cons_of_mem _ hz)]
  rfl
theorem le_int(i j:Int)(S:Sto):leF (.val (.int i)) (.val (.int j)) S=.ok (.val (.bl (decide (i≤j)))) S:=rfl
theorem le_str(i j:List Nat)(S:Sto):leF (.val (.str i)) (.val (.str j)) S=.ok (.val (.bl (!decide (j<i)))) S:=rfl
theorem yFU(i:Int)(S:Sto):kC [.val (.int i),.val (.typ "int")] S=.ok (.val (.bl true)) S:=rfl
theorem zYG(i:Int)(S:Sto):kC [.val (.int i),.val (.typ "bool")] S=.ok (.val (.bl false)) S:=rfl
theorem yND(i:List Nat)(S:Sto):kC [.val (.str i),.val (.typ "int")] S=.ok (.val (.bl false)) S:=rfl
theorem yN{n:Nat}{F:List MV→Sto→R Er}{rs:List Er}{S:Sto}{b:Bool}(hn:rs.length=n)(hF:F (zY rs S).1 (zY rs S).2=.ok (.val (.bl b)) S):zM n F rs S=.ok (.val (.bl b)) S:=kP hn hF (zZU _ _) (fun l=>by simp)
theorem zFH(i:Int)(S:Sto):zM 1 wN [.val (.int i)] S=.ok (.val (.bl true)) S:=yN rfl (by
 show yO (dQ [some (.int i)] S)=_
 unfold dQ zCR
 simp? [yFU,zYG,wU]
 rfl)
theorem zVT(i:List Nat)(S:Sto):zM 1 wN [.val (.str i)] S=.ok (.val (.bl false)) S:=yN rfl (by
 show yO (dQ [some (.str i)] S)=_
 unfold dQ zCR
 simp? [yND,wU]
 rfl)
theorem yFV: ∀{n:Nat}{S:Sto},zNW [.new (List.replicate n (.bl true))] S=.ok (.val (.bl true)) S:=by
 intro n S
 have h: ∀n:Nat,zBR (List.replicate n (.bl true))=some (List.replicate n true):=by
  intro n
  induction n with
  | zero=>rfl
  | succ n ih=>rw [List.replicate_succ,List.replicate_succ];unfold zBR;rw [ih];rfl
 show(match (some (List.replicate n (MV.bl true))).bind zBR with | some bs=>R.ok (Er.val (.bl (bs.all id))) S | none=>.no)=_
 rw [show(some (List.replicate n (MV.bl true))).bind zBR=some (List.replicate n true)from h n]
 show R.ok (Er.val (.bl ((List.replicate n true).all id))) S=_
 rw [show(List.replicate n true).all id=true by simp]
theorem yFW{ds:List MV}:ds.map (fun _=>MV.bl true)=List.replicate ds.length (.bl true):=by
 induction ds with
 | nil=>rfl
 | cons d ds ih=>rw [List.map_cons,List.length_cons,List.replicate_succ,ih]
theorem yJC(ds:List MV)(a b:Int)(S:Sto):zM 3 yL [.val (.tup ds),.val (.int a),.val (.int b)] S=.ok (.val (.bl (decide (a≤ds.length)&&decide ((ds.length:Int)≤b)))) S:=yN rfl (by
 show yO (zHD [some (.tup ds),some (.int a),some (.int b)] S)=_
 unfold zHD zIX
 simp? [wU,zJH,chF,le_int]
 cases decide (a≤(ds.length:Int))<;>rfl)
theorem yJD(i b:Int)(S:Sto):zM 2 zO [.val (.int i),.val (.int b)] S=.ok (.val (.bl (decide (0≤i)&&decide (i<b)))) S:=yN rfl (by
 show yO (wH [some (.int i),some (.int b)] S)=_
 unfold wH jO
 simp? [zFH,wU,chF,le_int,lt_int]
 cases decide (0≤i)<;>rfl)
def SqM(S:Sto)(m:MV)(ds:List MV):Prop:=m=.tup ds∨ ∃l,m=.loc l∧S[l]? =some (.lst ds)
theorem SqM.ix{S:Sto}{m:MV}{ds:List MV}{i:Int}{d:MV}(h:SqM S m ds)(hk:atI ds i=some d):ixF (.val m) (.val (.int i)) S=.ok (.val d) S:=by
 rcases h with rfl | ⟨l,rfl,hS⟩
 ·exact ix_tup hk
 ·exact jY hS hk
theorem SqM.len{S:Sto}{m:MV}{ds:List MV}(h:SqM S m ds):xX [.val m] S=.ok (.val (.int ds.length)) S:=by
 rcases h with rfl | ⟨l,rfl,hS⟩
 ·rfl
 ·exact yIQ hS
section
variable{S:Sto}
theorem SqM.tuple{m:MV}{ds:List MV}(h:SqM S m ds):dL [.val m] S=.ok (.val (.tup ds)) S:=by
 rcases h with rfl | ⟨l,rfl,hS⟩
 ·rfl
 ·exact zKS hS
end
theorem yCO(c n:Int)(x:List Nat)(s:Option MV)(S:Sto)(h:x.length≤1000): ∃k,(97≤k∧k≤122)∧bS [some (.int c),some (.str abc),some (.int n),some (.str x),s] S=
  .ok (.next [some (.int c),some (.str abc),some (.int (n / 26)),some (.str (x++[k])),s]) S:=by
 obtain⟨k,hk⟩:=cV (xs:=abc) (i:=n % 26) (Int.emod_nonneg _ (by decide)) (by have:=Int.emod_lt_of_pos n (show(0:Int)<26 by decide);show n % 26<26;exact this)
 refine⟨k,cW (P:=fun k=>97≤k∧k≤122) (by decide) hk,?_⟩
 have h1:cN [some (.int c),some (.str abc),some (.int n),some (.str x),s] S=.ok (.next [some (.int c),some (.str abc),some (.int n),some (.str (x++[k])),s]) S:=by
  unfold cN
  simp? [mod_lit (show(0:Int)<26 by decide),ix_str (show abc.length≤sizeLine by rw [sizeLine_eq];decide) hk]
  rw [add_str (fits (by rw [List.length_singleton];omega))]
  rfl
 have h2:cO [some (.int c),some (.str abc),some (.int n),some (.str (x++[k])),s] S=.ok (.next [some (.int c),some (.str abc),some (.int (n / 26)),some (.str (x++[k])),s]) S:=by
  unfold cO
  simp? [xL (show(0:Int)<26 by decide) (show(26:Int)<1073741824 by decide)]
 unfold bS
 rw [zH h1,h2]
theorem zRG(c:Int)(S:Sto): ∀(ds:List MV)(n:Int)(x:List Nat)(s:Option MV),x.length+ds.length≤1000→(∀c∈x,97≤c∧c≤122)→ ∃n' x' s',wK (gNm 4) bS [] ds [some (.int c),some (.str abc),some (.int n),some (.str x),s] S=
  .ok (.next [some (.int c),some (.str abc),some (.int n'),some (.str x'),s']) S∧x'.length=x.length+ds.length∧ ∀c∈x',97≤c∧c≤122
 | [],n,x,s,_,hx=>⟨n,x,s,rfl,rfl,hx⟩
 | d::ds,n,x,s,h,hx=>by
  rw [List.length_cons]at h
  obtain⟨k,hl,hk⟩:=yCO c n x (some d) S (by omega)
  obtain⟨n',x',s',h1,h2,h3⟩:=zRG c S ds (n / 26) (x++[k]) (some d) (by rw [List.length_append,List.length_singleton];omega) (by
   intro c hc
   rw [List.mem_append,List.mem_singleton]at hc
   rcases hc with hc | rfl
   ·exact hx c hc
   ·exact hl)
  refine⟨n',x',s',?_,by rw [h2,List.length_append,List.length_singleton,List.length_cons];omega,h3⟩
  rw [zEQ rfl hk (dM S)]
  exact h1
theorem yJE(c:Int)(S:Sto): ∃x,gF [.int c] S=.ok (.val (.str x)) S∧Nm x:=by
 have hm0:0≤c % 8:=Int.emod_nonneg _ (by decide)
 have hm1:c % 8<8:=Int.emod_lt_of_pos _ (by decide)
 have hn:((List.range (1+c % 8).toNat).map fun k=>MV.int (k:Nat)).length=(1+c % 8).toNat:=by rw [List.length_map,List.length_range]
 obtain⟨n',x',s',h1,h2,h3⟩:=zRG c S ((List.range (1+c % 8).toNat).map fun k=>MV.int (k:Nat)) (c / 8) [] none (by rw [hn];simp only [List.length_nil];omega) (by simp)
 rw [hn,List.length_nil]at h2
 refine⟨x',?_,by omega,by omega,h3⟩
 have e1:zGP [some (.int c),none,none,none,none] S=.ok (.next [some (.int c),some (.str abc),none,none,none]) S:=rfl
 have e2:zBD [some (.int c),some (.str abc),none,none,none] S=.ok (.next [some (.int c),some (.str abc),some (.int (c / 8)),none,none]) S:=by
  unfold zBD
  simp? [xL (show(0:Int)<8 by decide) (show(8:Int)<1073741824 by decide)]
 have e3:zGQ [some (.int c),some (.str abc),some (.int (c / 8)),none,none] S=.ok (.next [some (.int c),some (.str abc),some (.int (c / 8)),some (.str []),none]) S:=rfl
 have e4:zBE [some (.int c),some (.str abc),some (.int (c / 8)),some (.str []),none] S=.ok (.next [some (.int c),some (.str abc),some (.int n'),some (.str x'),s']) S:=by
  unfold zBE
  simp? [mod_lit (show(0:Int)<8 by decide)]
  rw [zCN (by omega),bok]
  exact h1
 have hs:zS zEU [.int c]=[some (.int c),none,none,none,none]:=rfl
 unfold gF zLK
 rw [hs,zH e1,zH e2,zH e3,zH e4]
 rfl
theorem p1012(S:Sto):bV (.val (.int 10)) (.val (.int 12)) S=.ok (.val (.int 1000000000000)) S:=rfl
theorem p1029(S:Sto):bV (.val (.int 10)) (.val (.int 29)) S=.ok (.val (.int (10 ^ 29))) S:=rfl
abbrev V2(c r:Int):Rho:=[some (.int c),some (.int r)]
theorem val2(c r:Int)(S:Sto): ∃d,Vl d∧nB (V2 c r) S=if decide (c % 5=0)=true then .ok (.ret (.val d)) S else .ok (.next (V2 c r)) S:=by
 have h0:0≤r % 6:=Int.emod_nonneg _ (by decide)
 have h1:r % 6<6:=Int.emod_lt_of_pos _ (by decide)
 obtain⟨e,he⟩:=cV (xs:=[MV.int 0,MV.int 1,MV.int (-1),MV.int (10 ^ 30 - 1),MV.int (1 - 10 ^ 30),MV.int (10 ^ 29)]) (i:=r % 6) h0 (by show r % 6<6;exact h1)
 obtain⟨v,rfl,hv⟩: ∃v,e=.int v∧Vl (.int v):=cW (P:=fun e=> ∃v,e=.int v∧Vl (.int v)) (by
  intro e he;simp only [List.mem_cons,List.not_mem_nil,or_false]at he
  rcases he with rfl | rfl | rfl | rfl | rfl | rfl<;>exact⟨_,rfl,by decide,by decide⟩) he
 refine⟨.int v,hv,?_⟩
 unfold nB
 simp? [mod_lit (show(0:Int)<5 by decide),zVO,p1029,mod_lit (show(0:Int)<6 by decide),zNY he]
theorem val3(c r:Int)(S:Sto): ∃d,Vl d∧nE (V2 c r) S=if decide (c % 5=1)=true then .ok (.ret (.val d)) S else .ok (.next (V2 c r)) S:=by
 have h0:0≤r % 23:=Int.emod_nonneg _ (by decide)
 have h1:r % 23<23:=Int.emod_lt_of_pos _ (by decide)
 refine⟨.int (r % 23 - 11),⟨by omega,by omega⟩,?_⟩
 unfold nE
 simp? [mod_lit (show(0:Int)<5 by decide),mod_lit (show(0:Int)<23 by decide)]
theorem val4(c r:Int)(S:Sto): ∃d,Vl d∧nF (V2 c r) S=if decide (c % 5=2)=true then .ok (.ret (.val d)) S else .ok (.next (V2 c r)) S:=by
 have h0:0≤r % 1000000000000:=Int.emod_nonneg _ (by decide)
 have h1:r % 1000000000000<1000000000000:=Int.emod_lt_of_pos _ (by decide)
 have h2:0≤(r % 1000000000000 * 48271+11) ^ (5:Int).toNat % (2 * 10 ^ 30 - 1):=Int.emod_nonneg _ (by decide)
 have h3:(r % 1000000000000 * 48271+11) ^ (5:Int).toNat % (2 * 10 ^ 30 - 1)<2 * 10 ^ 30 - 1:=Int.emod_lt_of_pos _ (by decide)
 have h4:yBT (r % 1000000000000 * 48271+11) 5:=by
  refine⟨by decide,?_⟩
  have hb:Builtin.Int.intBits (r % 1000000000000 * 48271+11)≤64:=by
   unfold Builtin.Int.intBits
   split
   ·omega
   ·rename_i hn
    have hn':(r % 1000000000000 * 48271+11).natAbs≠0:=by omega
    have:=(Nat.log2_lt hn').mpr (show(r % 1000000000000 * 48271+11).natAbs<2 ^ 63 by omega)
    omega
  omega
 refine⟨.int ((r % 1000000000000 * 48271+11) ^ (5:Int).toNat % (2 * 10 ^ 30 - 1) - 10 ^ 30+1),⟨by omega,by omega⟩,?_⟩
 unfold nF
 simp? [mod_lit (show(0:Int)<5 by decide),p1012,mod_lit (show(0:Int)<1000000000000 by decide),zIR (show -(2 ^ 64)<(48271:Int)∧(48271:Int)<2 ^ 64 by decide),yIP h4,zVO,zIS (show -(2 ^ 64)<(2:Int)∧(2:Int)<2 ^ 64 by decide),mod_lit (show(0:Int)<2 * 10 ^ 30 - 1 by decide)]
theorem val5(c r:Int)(S:Sto): ∃d,Vl d∧nG (V2 c r) S=if decide (c % 5=3)=true then .ok (.ret (.val d)) S else .ok (.next (V2 c r)) S:=by
 have h2:0≤r % (2 * 10 ^ 30 - 1):=Int.emod_nonneg _ (by decide)
 have h3:r % (2 * 10 ^ 30 - 1)<2 * 10 ^ 30 - 1:=Int.emod_lt_of_pos _ (by decide)
 refine⟨.int (r % (2 * 10 ^ 30 - 1) - 10 ^ 30+1),⟨by omega,by omega⟩,?_⟩
 unfold nG
 simp? [mod_lit (show(0:Int)<5 by decide),zVO,zIS (show -(2 ^ 64)<(2:Int)∧(2:Int)<2 ^ 64 by decide),mod_lit (show(0:Int)<2 * 10 ^ 30 - 1 by decide)]
theorem val6(c r:Int)(S:Sto): ∃d,Vl d∧nH (V2 c r) S=.ok (.ret (.val d)) S:=by
 obtain⟨x,hx,hn⟩:=yJE r S
 refine⟨.str x,hn,?_⟩
 unfold nH
 have hc:zM 1 gF [.val (.int r)] S=.ok (.val (.str x)) S:=kP rfl hx (yEV _ x) (fun l=>by simp)
 simp? [hc]
theorem zMN{F G:Rho→Sto→R Fl}{ρ:Rho}{S:Sto}{d:MV}{b:Bool}(h:F ρ S=if b=true then .ok (.ret (.val d)) S else .ok (.next ρ) S)(hd:Vl d)(k: ∃d,Vl d∧G ρ S=.ok (.ret (.val d)) S): ∃d,Vl d∧yA F G ρ S=.ok (.ret (.val d)) S:=by
 cases b with
 | true=>exact⟨d,hd,yI (by rw [h,if_pos rfl])⟩
 | false=>
  obtain⟨d',hd',e⟩:=k
  exact⟨d',hd',by rw [zH (by rw [h,if_neg Bool.false_ne_true]),e]⟩
theorem yFX(c:Int)(S:Sto): ∃d,jJ [.int c] S=.ok (.val d) S∧Vl d:=by
 have hs:zS zCO [.int c]=[some (.int c),none]:=rfl
 have e1:nA [some (.int c),none] S=.ok (.next (V2 c (c / 5))) S:=by
  unfold nA
  simp? [xL (show(0:Int)<5 by decide) (show(5:Int)<1073741824 by decide)]
 obtain⟨d2,v2,e2⟩:=val2 c (c / 5) S
 obtain⟨d3,v3,e3⟩:=val3 c (c / 5) S
 obtain⟨d4,v4,e4⟩:=val4 c (c / 5) S
 obtain⟨d5,v5,e5⟩:=val5 c (c / 5) S
 obtain⟨d,hd,e⟩:=zMN e2 v2 (zMN e3 v3 (zMN e4 v4 (zMN e5 v5 (val6 c (c / 5) S))))
 refine⟨d,?_,hd⟩
 unfold jJ zJD
 rw [hs,zH e1,e]
 rfl
theorem yFY(S:Sto)(a b:MO):(S++[a,b])[S.length+1]? =some b:=by
 rw [List.getElem?_append_right (by omega),show S.length+1 - S.length=1 by omega]
 rfl
theorem vl_pd{d:MV}(h:Vl d):pd d=true∧dpt d<40:=by
 rcases h.cases with⟨i,rfl,_⟩ | ⟨x,rfl,_⟩
 ·exact⟨yFT i,by rw [zMK];decide⟩
 ·exact⟨yNC x,by rw [zTF];decide⟩
theorem gt_int(i j:Int)(S:Sto):gtF (.val (.int i)) (.val (.int j)) S=.ok (.val (.bl (decide (j<i)))) S:=rfl
theorem yNE{n:Nat}(h:n<2 ^ 4000):n.log2<4000:=by
 by_cases z:n=0
 ·subst z;decide
 ·exact(Nat.log2_lt z).mpr h
theorem yNF:((10:Int) ^ 60) ^ 10<((2 ^ 4000:Nat):Int):=by decide+kernel
theorem yAG{n m:Int}(h0:0≤n)(h1:n<m)(h2:m≤((2 ^ 4000:Nat):Int)):n.natAbs.log2<4000:=yNE (by
 have:n<((2 ^ 4000:Nat):Int):=Int.lt_of_lt_of_le h1 h2
 generalize (2 ^ 4000:Nat)=k at this ⊢
 omega)
theorem p1060(S:Sto):bV (.val (.int 10)) (.val (.int 60)) S=.ok (.val (.int (10 ^ 60))) S:=rfl
theorem p600(S:Sto):bV (.val (.int (10 ^ 60))) (.val (.int 10)) S=.ok (.val (.int ((10 ^ 60) ^ 10))) S:=by
 show(if yBT (10 ^ 60) 10 then R.ok (Er.val (.int ((10 ^ 60) ^ (10:Int).toNat))) S else .no)=_
 rw [if_pos (by decide+kernel)]
 rfl
theorem yNG:(4294967296000000:Int)≤((2 ^ 4000:Nat):Int):=by decide+kernel
theorem mix5(c p:Int)(hp:0<p∧p<4294967296)(S:Sto): ∃n,zM 2 wO [.val (.int c),.val (.int p)] S=.ok (.val (.int n)) S∧n.natAbs.log2<4000:=by
 have hs:zS zHB [.int c,.int p]=[some (.int c),some (.int p),none]:=rfl
 have h600:(0:Int)<(10 ^ 60) ^ 10:=Int.pow_pos (Int.pow_pos (by decide))
 have e1:zCX [some (.int c),some (.int p),none] S=if decide (c % 2=0)=true then .ok (.ret (.val (.int (c / 2 % (10 ^ 60) ^ 10)))) S else .ok (.next [some (.int c),some (.int p),none]) S:=by
  unfold zCX
  simp? [mod_lit (show(0:Int)<2 by decide),xL (show(0:Int)<2 by decide) (show(2:Int)<1073741824 by decide),p1060,p600,mod_lit h600]
 have fin: ∀n,wO [.int c,.int p] S=.ok (.val (.int n)) S→n.natAbs.log2<4000→ ∃n,zM 2 wO [.val (.int c),.val (.int p)] S=.ok (.val (.int n)) S∧n.natAbs.log2<4000:=fun n h hn=>⟨n,kP rfl h (zSM _ _) (fun l=>by simp),hn⟩
 cases hb:decide (c % 2=0)with
 | true=>
  refine fin (c / 2 % (10 ^ 60) ^ 10) ?_ (yAG (Int.emod_nonneg _ (Int.ne_of_gt h600)) (Int.emod_lt_of_pos _ h600) (Int.le_of_lt yNF))
  rw [hb,if_pos rfl]at e1
  unfold wO zHI
  rw [hs,yI e1]
  rfl
 | false=>
  rw [hb,if_neg Bool.false_ne_true]at e1
  have hn0:0≤(c % 2147483629+7) * 48271 % p:=Int.emod_nonneg _ (by omega)
  have hn1:(c % 2147483629+7) * 48271 % p<p:=Int.emod_lt_of_pos _ hp.1
  have e2:zCY [some (.int c),some (.int p),none] S=.ok (.next [some (.int c),some (.int p),some (.int ((c % 2147483629+7) * 48271 % p))]) S:=by
   unfold zCY
   simp? [mod_lit (show(0:Int)<2147483629 by decide),zIR (show -(2 ^ 64)<(48271:Int)∧(48271:Int)<2 ^ 64 by decide),mod_lit hp.1]
  generalize (c % 2147483629+7) * 48271 % p=m at hn0 hn1 e2
  have e3:zCZ [some (.int c),some (.int p),some (.int m)] S=.ok (.ret (.val (.int (m * m % 2147483579 * 1000003+m)))) S:=by
   unfold zCZ
   simp? [yNB (a:=m) ⟨hn0,by omega⟩,mod_lit (show(0:Int)<2147483579 by decide),zIR (show -(2 ^ 64)<(1000003:Int)∧(1000003:Int)<2 ^ 64 by decide)]
  have h3:0≤m * m % 2147483579:=Int.emod_nonneg _ (by decide)
  have h4:m * m % 2147483579<2147483579:=Int.emod_lt_of_pos _ (by decide)
  refine fin (m * m % 2147483579 * 1000003+m) ?_ (yAG (m:=4294967296000000) (by omega) (by omega) yNG)
  unfold wO zHI
  rw [hs,zH e1,zH e2,e3]
  rfl
mutual
def pq:MV→Bool
 | .int _=>true
 | .str x=>decide (x.length≤1000)
 | .bl _=>true
 | .non=>true
 | .tup ds=>pqL ds&&decide (ds.length≤1000)
 | _=>false
def pqL:List MV→Bool
 | []=>true
 | d::ds=>pq d&&pqL ds
end
theorem yNH(i:Int):pq (.int i)=true:=by rw [pq]
theorem yKJ(i:Bool):pq (.bl i)=true:=by rw [pq]
theorem yNI:pq .non=true:=by rw [pq]
theorem yNJ{x:List Nat}(h:x.length≤1000):pq (.str x)=true:=by rw [pq];exact decide_eq_true h
theorem zTH(ds:List MV):pq (.tup ds)=(pqL ds&&decide (ds.length≤1000)):=by rw [pq]
theorem yJF:pqL []=true:=by rw [pqL]
theorem zJI(d:MV)(ds:List MV):pqL (d::ds)=(pq d&&pqL ds):=by rw [pqL]
theorem yAH: ∀{ds:List MV},(∀d∈ds,pq d=true)→pqL ds=true
 | [],_=>yJF
 | d::ds,h=>by rw [zJI,h d List.mem_cons_self,yAH fun e he=>h e (List.mem_cons_of_mem _ he)];rfl
theorem yAI: ∀{ds:List MV},pqL ds=true→ ∀d∈ds,pq d=true
 | [],_,d,h=>by simp at h
 | e::ds,hp,d,h=>by
  rw [zJI,Bool.and_eq_true]at hp
  rcases List.mem_cons.mp h with rfl | h
  ·exact hp.1
  ·exact yAI hp.2 d h
theorem yNK{ds:List MV}(h: ∀d∈ds,pq d=true)(hl:ds.length≤1000):pq (.tup ds)=true:=by rw [zTH,yAH h,decide_eq_true hl];rfl
theorem xI{d:MV}(h:pq d=true):(∃i,d=.int i)∨(∃x,d=.str x∧x.length≤1000)∨(∃b,d=.bl b)∨d=.non∨ ∃ds,d=.tup ds∧(∀e∈ds,pq e=true)∧ds.length≤1000:=by
 cases d with
 | int i=>exact .inl ⟨i,rfl⟩
 | str x=>rw [pq]at h;exact .inr (.inl ⟨x,rfl,of_decide_eq_true h⟩)
 | bl b=>exact .inr (.inr (.inl ⟨b,rfl⟩))
 | non=>exact .inr (.inr (.inr (.inl rfl)))
 | tup ds=>
  rw [zTH,Bool.and_eq_true]at h
  exact .inr (.inr (.inr (.inr ⟨ds,rfl,yAI h.1,of_decide_eq_true h.2⟩)))
 | _=>rw [pq]at h<;>first | cases h | (intros;simp)
theorem yKK{n:Nat}: ∀(k:Nat){d:MV},dpt d<k→pq d=true→lo n d
 | 0,d,h,_=>by omega
 | k+1,d,hk,h=>by
  rcases xI h with⟨i,rfl⟩ | ⟨x,rfl,_⟩ | ⟨b,rfl⟩ | rfl | ⟨ds,rfl,hp,_⟩
  ·exact zSM _ _
  ·exact yEV _ _
  ·exact zZU _ _
  ·exact zSN _
  ·rw [dA]at hk
   exact yEW (zSO fun e he=>yKK k (by have:=zCC e he;omega) (hp e he))
theorem yFZ{d:MV}(h:pq d=true)(l:Nat):d≠.loc l:=by
 rintro rfl
 rw [pq]at h<;>first | cases h | (intros;simp)
theorem zJJ{e:MV→MV→Option Bool}: ∀{ds:List MV},(∀d∈ds,e d d=some true)→prs e ds ds=some (ds.map fun _=>true)
 | [],_=>rfl
 | d::ds,h=>by
  unfold prs
  rw [h d List.mem_cons_self,zJJ fun a ha=>h a (List.mem_cons_of_mem _ ha)]
  rfl
theorem zKU(ds:List MV):(ds.map fun _=>true).all id=true:=by
 rw [List.all_eq_true]
 intro b hb
 obtain⟨_,_,rfl⟩:=List.mem_map.mp hb
 rfl
theorem eqv_refl{S:Sto}: ∀(n:Nat){d:MV},pq d=true→dpt d<n→eqv S n d d=some true
 | 0,d,_,h=>by omega
 | n+1,d,hd,h=>by
  rcases xI hd with⟨i,rfl⟩ | ⟨x,rfl,_⟩ | ⟨b,rfl⟩ | rfl | ⟨ds,rfl,hp,_⟩
  ·rw [zMC,decide_eq_true rfl]
  ·rw [zSP,decide_eq_true rfl]
  ·rw [yMQ,beq_self_eq_true]
  ·rfl
  ·rw [dA]at h
   show((prs (eqv S n) ds ds).map fun bs=>bs.all id&&ds.length==ds.length)=_
   rw [zJJ fun d hd=>eqv_refl n (hp d hd) (by have:=zCC d hd;omega)]
   show some ((ds.map fun _=>true).all id&&ds.length==ds.length)=_
   rw [zKU,beq_self_eq_true]
   rfl
def isI:MV→Bool
 | .int _=>true
 | _=>false
theorem zMO{d:MV}(h:pq d=true)(S:Sto):zM 1 wN [.val d] S=.ok (.val (.bl (isI d))) S:=by
 rcases xI h with⟨i,rfl⟩ | ⟨x,rfl,_⟩ | ⟨b,rfl⟩ | rfl | ⟨ds,rfl,_⟩
 ·exact zFH i S
 ·exact zVT x S
 ·exact yN rfl rfl
 ·exact yN rfl rfl
 ·exact yN rfl rfl
def oKc(c:Nat):Bool:=decide (97≤c)&&decide (c≤122)
def nmB(x:List Nat):Bool:=decide (1≤x.length)&&decide (x.length≤8)&&x.all oKc
theorem yJG{x:List Nat}:nmB x=true↔Nm x:=by
 unfold nmB Nm oKc
 simp only [Bool.and_eq_true,decide_eq_true_eq,List.all_eq_true,and_assoc]
def nmD:MV→Bool
 | .str x=>nmB x
 | _=>false
theorem le_a(c:Nat):(!decide ([c]<[97]))=decide (97≤c):=by
 rw [←decide_not]
 refine decide_eq_decide.mpr ?_
 rw [List.cons_lt_cons_iff]
 simp
theorem le_z(c:Nat):(!decide ([122]<[c]))=decide (c≤122):=by
 rw [←decide_not]
 refine decide_eq_decide.mpr ?_
 rw [List.cons_lt_cons_iff]
 simp
theorem yAJ{α:Type}(f:α→Bool)(xs:List α)(S:Sto):zNW [.new (xs.map fun x=>.bl (f x))] S=.ok (.val (.bl (xs.all f))) S:=by
 have h: ∀xs:List α,zBR (xs.map fun x=>.bl (f x))=some (xs.map f):=by
  intro xs
  induction xs with
  | nil=>rfl
  | cons x xs ih=>rw [List.map_cons,List.map_cons];unfold zBR;rw [ih];rfl
 show(match (some (xs.map fun x=>MV.bl (f x))).bind zBR with | some bs=>R.ok (Er.val (.bl (bs.all id))) S | none=>.no)=_
 rw [show(some (xs.map fun x=>MV.bl (f x))).bind zBR=some (xs.map f)from h xs]
 show R.ok (Er.val (.bl ((xs.map f).all id))) S=_
 rw [List.all_map]
 rfl
theorem yNL{d:MV}(h:pq d=true)(S:Sto):zM 1 zGA [.val d] S=.ok (.val (.bl (nmD d))) S:=by
 rcases xI h with⟨i,rfl⟩ | ⟨x,rfl,hx⟩ | ⟨b,rfl⟩ | rfl | ⟨ds,rfl,_⟩
 ·exact yN rfl rfl
 ·refine yN rfl ?_
  have hl: ∀S,xX [.val (.str x)] S=.ok (.val (.int x.length)) S:=fun S=>if_pos (fits (by omega))
  have e1:zEV [some (.str x)] S=if(decide (1≤x.length)&&decide (x.length≤8))=true then .ok (.next [some (.str x)]) S else .ok (.ret (.val (.bl false))) S:=by
   unfold zEV
   simp? [hl,chF,le_int]
   by_cases h1:1≤x.length
   ·by_cases h2:x.length≤8
    ·simp only [decide_eq_true h1,decide_eq_true h2,decide_eq_true (show(1:Int)≤(x.length:Int) by omega),decide_eq_true (show(x.length:Int)≤8 by omega)];rfl
    ·simp only [decide_eq_true h1,decide_eq_false h2,decide_eq_true (show(1:Int)≤(x.length:Int) by omega),decide_eq_false (show¬(x.length:Int)≤8 by omega)];rfl
   ·simp only [decide_eq_false h1,decide_eq_false (show¬(1:Int)≤(x.length:Int) by omega)];rfl
  have hc:yU (gNm 0) bP jS (blk 1 [] [some (.str x)]) [] (x.map fun c=>.str [c]) S=.ok (x.map fun c=>MV.bl (oKc c)) S:=by
   have:=zER (gf:=gNm 0) (cf:=bP) (ef:=jS) (ρb:=blk 1 [] [some (.str x)]) (gs:=[]) (ds:=x.map fun c=>MV.str [c]) (F:=fun d=>match d with | .str [c]=>.bl (oKc c) | _=>.non) (dM S) fun d hd=>by
    obtain⟨c,hc,rfl⟩:=List.mem_map.mp hd
    refine⟨[some (.str [c])],rfl,rfl,?_⟩
    unfold jS oKc
    simp? [chF,le_str,le_a,le_z]
    cases decide (97≤c)<;>rfl
   rw [this,List.map_map]
   rfl
  have e2:zEW [some (.str x)] S=.ok (.ret (.val (.bl (x.all oKc)))) S:=by
   unfold zEW
   simp? [bok]
   show(((((if(x.map fun c=>MV.str [c]).length<1000000 then(yU (gNm 0) bP jS (blk 1 [] [some (.str x)]) [] (x.map fun c=>.str [c]) S).bind fun o S=>R.ok (Er.new o) S else .no).bind fun p S1=>R.ok [p] S1).bind zNW).bind fun r S1=>R.ok (Fl.ret r) S1))=_
   rw [if_pos (by rw [List.length_map];omega),hc,bok,bok,bok,yAJ]
   rfl
  show yO (zKG [some (.str x)] S)=.ok (.val (.bl (nmB x))) S
  unfold zKG nmB
  cases h8:decide (1≤x.length)&&decide (x.length≤8)with
  | true=>
   rw [h8,if_pos rfl]at e1
   rw [zH e1,e2]
   rfl
  | false=>
   rw [h8,if_neg Bool.false_ne_true]at e1
   rw [yI e1]
   rfl
 ·exact yN rfl rfl
 ·exact yN rfl rfl
 ·exact yN rfl rfl
def vlD:MV→Bool
 | .int i=>decide (-(10 ^ 30)<i)&&decide (i<10 ^ 30)
 | .str x=>nmB x
 | _=>false
theorem yJH{d:MV}:vlD d=true↔Vl d:=by
 cases d with
 | int i=>simp [vlD,Vl]
 | str x=>exact yJG
 | _=>exact⟨fun z=>absurd z Bool.false_ne_true,fun z=>z.elim⟩
theorem yJI{d:MV}(h:pq d=true)(S:Sto):zM 1 bB [.val d] S=.ok (.val (.bl (vlD d))) S:=by
 refine yN rfl ?_
 have e2:zCS [some d] S=.ok (.ret (.val (.bl (nmD d)))) S:=by
  unfold zCS
  simp? [yNL h]
 show yO (zHC [some d] S)=_
 unfold zHC
 cases hi:isI d with
 | false=>
  have e1:gK [some d] S=.ok (.next [some d]) S:=by
   unfold gK
   simp? [zMO h,hi,Bool.false_eq_true,if_false]
  rw [zH e1,e2]
  cases d<;>first | rfl | cases hi
 | true=>
  obtain⟨i,rfl⟩: ∃i,d=.int i:=by cases d<;>first | exact⟨_,rfl⟩ | cases hi
  have habs:yBX [.val (.int i)] S=.ok (.val (.int (if i<0 then -i else i))) S:=rfl
  have hlt:decide ((if i<0 then -i else i)<(10:Int) ^ 30)=vlD (.int i):=by
   show _=(decide (-(10 ^ 30)<i)&&decide (i<10 ^ 30))
   rw [←Bool.decide_and]
   exact decide_eq_decide.mpr (by split<;>omega)
  rw [yI (show gK [some (.int i)] S=.ok (.ret (.val (.bl (vlD (.int i))))) S by
   unfold gK
   simp? [zFH,habs,zVO,lt_int,hlt])]
  rfl
def inT(a b:Int):MV→Bool
 | .tup ds=>decide (a≤ds.length)&&decide ((ds.length:Int)≤b)
 | _=>false
theorem zMP{d:MV}(h:pq d=true)(a b:Int)(S:Sto):zM 3 yL [.val d,.val (.int a),.val (.int b)] S=.ok (.val (.bl (inT a b d))) S:=by
 rcases xI h with⟨i,rfl⟩ | ⟨x,rfl,_⟩ | ⟨k,rfl⟩ | rfl | ⟨ds,rfl,_⟩
 ·exact yN rfl rfl
 ·exact yN rfl rfl
 ·exact yN rfl rfl
 ·exact yN rfl rfl
 ·exact yJC ds a b S
def inB(b:Int):MV→Bool
 | .int i=>decide (0≤i)&&decide (i<b)
 | _=>false
theorem yAK{d:MV}(h:pq d=true)(b:Int)(S:Sto):zM 2 zO [.val d,.val (.int b)] S=.ok (.val (.bl (inB b d))) S:=by
 cases hi:isI d with
 | false=>
  have e:inB b d=false:=by cases d<;>first | rfl | cases hi
  rw [e]
  refine yN rfl ?_
  show yO (wH [some d,some (.int b)] S)=_
  unfold wH jO
  simp? [zMO h,hi,wU]
  rfl
 | true=>
  obtain⟨i,rfl⟩: ∃i,d=.int i:=by cases d<;>first | exact⟨_,rfl⟩ | cases hi
  exact yJD i b S
def pr:MV→Option (MV×MV)
 | .tup [a,b]=>some (a,b)
 | _=>none
theorem zOP{d a b:MV}(h:pr d=some (a,b)):d=.tup [a,b]:=by
 unfold pr at h
 split at h
 ·cases h;rfl
 ·cases h
theorem yKL{d:MV}:inT 2 2 d=(pr d).isSome:=by
 cases d with
 | tup ds=>
  match ds with
  | []=>rfl
  | [_]=>rfl
  | [_,_]=>rfl
  | _::_::_::r=>
   show(decide ((2:Int)≤((r.length+3:Nat):Int))&&decide (((r.length+3:Nat):Int)≤2))=false
   rw [decide_eq_false (show¬(((r.length+3:Nat):Int)≤2) by omega),Bool.and_false]
 | _=>rfl
theorem yAL{d a b:MV}(h:pq d=true)(e:pr d=some (a,b)):pq a=true∧pq b=true:=by
 rw [zOP e,zTH,zJI,zJI,Bool.and_eq_true,Bool.and_eq_true,Bool.and_eq_true]at h
 exact⟨h.1.1,h.1.2.1⟩
def zJK:MV→Option (List MV)
 | .tup ds=>some ds
 | _=>none
theorem zLU(a b:MV)(S:Sto):ixF (.val (.tup [a,b])) (.val (.int 0)) S=.ok (.val a) S:=rfl
theorem zOQ(a b:MV)(S:Sto):ixF (.val (.tup [a,b])) (.val (.int 1)) S=.ok (.val b) S:=rfl
theorem zAR(S:Sto)(o:MO):(S++[o])[S.length]? =some o:=by simp
theorem yGA(S:Sto)(o o':MO):(S++[o]).set S.length o'=S++[o']:=by simp
theorem yAM(ds:List MV)(S:Sto):itT (.val (.tup ds)) S=.ok ⟨ds,[]⟩ S:=rfl
theorem zJL{b:MV}{ds:List MV}(h:zJK b=some ds):b=.tup ds:=by
 cases b<;>first | (cases h;rfl) | cases h
theorem yGB{a b:Int}{d:MV}(h:zJK d=none):inT a b d=false:=by
 cases d<;>first | rfl | cases h
theorem cF{S:Sto}{gf:MV→Rho→Sto→R Rho}{cf:Rho→Sto→R Bool}{ef:Rho→Sto→R Er}{ρb:Rho}{gs:List (Nat×List MV)}{p:MV→Bool}(hs:stay gs S):
  ∀{ds:List MV},(∀d∈ds, ∃ρ1,gf d ρb S=.ok ρ1 S∧cf ρ1 S=.ok (p d) S∧ef ρ1 S=.ok (.val d) S)→yU gf cf ef ρb gs ds S=.ok (ds.filter p) S
 | [],_=>rfl
 | d::ds,st=>by
  obtain⟨ρ1,h1,h2,h3⟩:=st d List.mem_cons_self
  have e:=cF hs (p:=p) (ds:=ds) fun d hd=>st d (List.mem_cons_of_mem _ hd)
  unfold yU
  cases hp:p d with
  | true=>
   rw [h1,kY,bok,h2,kY,bok,hp,if_pos rfl,h3,kY,bok]
   unfold zAY
   rw [bok,if_pos hs,e,List.filter_cons_of_pos hp]
   rfl
  | false=>
   rw [h1,kY,bok,h2,kY,bok,hp,if_neg Bool.false_ne_true,if_pos hs,e,List.filter_cons_of_neg (by rw [hp];exact Bool.false_ne_true)]
theorem zMQ(ds:List MV)(S:Sto):eqF (.new ds) (.new []) S=.ok (.val (.bl ds.isEmpty)) S:=by
 cases ds<;>rfl
theorem zJM{α:Type}(p:α→Bool)(xs:List α):(xs.filter fun x=>!p x).isEmpty=xs.all p:=by
 induction xs with
 | nil=>rfl
 | cons x xs ih=>
  rw [List.all_cons]
  cases h:p x with
  | true=>rw [List.filter_cons_of_neg (by rw [h];simp),ih];rfl
  | false=>rw [List.filter_cons_of_pos (by rw [h];rfl)];rfl
theorem yJJ(c:Nat):decide (c∈abc)=oKc c:=by
 unfold oKc
 rw [←Bool.decide_and]
 refine decide_eq_decide.mpr ?_
 rw [show abc=List.range' 97 26 from rfl,List.mem_range'_1]
 omega
theorem yJK{d:MV}(h:pq d=true)(S:Sto): ∃k1 k2,kC [.val d,.val (.typ "int")] S=.ok (.val (.bl k1)) S∧kC [.val d,.val (.typ "bool")] S=.ok (.val (.bl k2)) S∧(k1&& !k2)=isI d:=by
 rcases xI h with⟨i,rfl⟩ | ⟨x,rfl,_⟩ | ⟨b,rfl⟩ | rfl | ⟨ds,rfl,_⟩
 ·exact⟨true,false,rfl,rfl,rfl⟩
 ·exact⟨false,false,rfl,rfl,rfl⟩
 ·exact⟨true,true,rfl,rfl,rfl⟩
 ·exact⟨false,false,rfl,rfl,rfl⟩
 ·exact⟨false,false,rfl,rfl,rfl⟩
theorem zJN{d:MV}(h:pq d=true)(S:Sto):kC [.val d,.val (.typ "tuple")] S=.ok (.val (.bl (zJK d).isSome)) S:=by
 rcases xI h with⟨i,rfl⟩ | ⟨x,rfl,_⟩ | ⟨b,rfl⟩ | rfl | ⟨ds,rfl,_⟩<;>rfl
theorem yGC{ds:List MV}:pr (.tup ds)=none↔ ¬((ds.length:Int)=2):=by
 match ds with
 | []=>exact⟨fun _=>by simp,fun _=>rfl⟩
 | [_]=>exact⟨fun _=>by simp,fun _=>rfl⟩
 | [a,b]=>exact⟨fun z=>(by have z:some (a,b)=none:=z;cases z),fun z=>absurd rfl z⟩
 | _::_::_::r=>exact⟨fun _=>by simp only [List.length_cons];omega,fun _=>rfl⟩
theorem SqM.itE{S:Sto}{m:MV}{ds:List MV}(h:SqM S m ds): ∃gs,stay gs S∧itE [.val m] S=.ok ⟨zIT ds,gs⟩ S:=by
 rcases h with rfl | ⟨l,rfl,hS⟩
 ·exact⟨[],dM _,rfl⟩
 ·refine⟨[(l,ds)],zNZ hS,?_⟩
  have e:srcOf S (.val (.loc l))=some ⟨true,ds,[(l,ds)]⟩:=by
   unfold srcOf
   dsimp only
   rw [hS]
  unfold L2.M.itE
  dsimp only
  rw [e]
section
variable{ts:List (Int×Int)}{S:Sto}{hm am:MV}{hds as:List MV}
theorem zTI{gf:MV→Rho→Sto→R Rho}{b:Rho→Sto→R Fl}{gs:List (Nat×List MV)}{d:MV}{ds:List MV}{ρ ρ0:Rho}{S S0 S':Sto}{c:Str}{fs:List (Str×MV)}(hg:gf d ρ S=.ok ρ0 S0)(h:b ρ0 S0=.exc c fs S'):wK gf b gs (d::ds) ρ S=.exc c fs S':=by
 unfold wK
 rw [hg,bok,h]
 rfl
theorem zJO{F G:Rho→Sto→R Fl}{ρ:Rho}{S S':Sto}{c:Str}{fs:List (Str×MV)}(h:F ρ S=.exc c fs S'):yA F G ρ S=.exc c fs S':=by
 unfold yA
 rw [h]
 rfl
end
theorem yGD(a b c d:MV)(S:Sto):wZ [.val a,.val b,.val c,.val d] S=.ok (.new [a,b,c,d]) S:=dN (by simp)
theorem tup0(S:Sto):wP [] S=.ok (.val (.tup [])) S:=zSQ (by simp)
theorem tup1(a:MV)(S:Sto):wP [.val a] S=.ok (.val (.tup [a])) S:=zSQ (by simp)
theorem lst5(a b c d e:MV)(S:Sto):wZ [.val a,.val b,.val c,.val d,.val e] S=.ok (.new [a,b,c,d,e]) S:=dN (by simp)
theorem lst8(a b c d e f g h:MV)(S:Sto):wZ [.val a,.val b,.val c,.val d,.val e,.val f,.val g,.val h] S=.ok (.new [a,b,c,d,e,f,g,h]) S:=dN (by simp)
def Td(n:Nat)(d:MV):Prop:=pq d=true∧dpt d≤n
theorem Td.up{n m:Nat}{d:MV}(h:Td n d)(hn:n≤m):Td m d:=⟨h.1,Nat.le_trans h.2 hn⟩
theorem kU(n:Nat)(i:Int):Td n (.int i):=⟨yNH i,by rw [zMK];exact Nat.zero_le _⟩
theorem yAN(n:Nat)(i:Bool):Td n (.bl i):=⟨yKJ i,by simp [dpt]⟩
theorem zOR(n:Nat):Td n .non:=⟨yNI,by simp [dpt]⟩
theorem zDM(n:Nat){x:List Nat}(h:x.length≤1000):Td n (.str x):=⟨yNJ h,by rw [zTF];exact Nat.zero_le _⟩
theorem zHL{n:Nat}{ds:List MV}(h: ∀d∈ds,Td n d)(hl:ds.length≤1000):Td (n+1) (.tup ds):=⟨yNK (fun d hd=>(h d hd).1) hl,by rw [dA];exact Nat.succ_le_succ (zTG fun d hd=>(h d hd).2)⟩
theorem Td.lo{n:Nat}{d:MV}(h:Td n d)(k:Nat):lo k d:=yKK (n+1) (Nat.lt_succ_of_le h.2) h.1
theorem zTJ{S:Sto}{l:Nat}{ds:List MV}(hS:S[l]? =some (.lst ds))(a b:Option Int):zPO (.val (.loc l)) a b S=.ok (.new (dG ds a b)) S:=by
 show(match gH S (.val (.loc l))with | some ds=>R.ok (Er.new (dG ds a b)) S | none=>.no)=_
 rw [bX hS]
theorem zMR(ns:List Int)(k:Int)(hk:0≤k)(S:Sto): ∃c,zM 2 yM [.val (.scr (ns.map MV.int)),.val (.int k)] S=.ok (.val (.int c)) S:=by
 have hlen:xX [.val (.scr (ns.map MV.int))] S=.ok (.val (.int ns.length)) S:=by
  show R.ok (Er.val (.int (((ns.map MV.int).length:Nat):Int))) S=_
  rw [List.length_map]
 have e1:bE [some (.scr (ns.map MV.int)),some (.int k)] S=if decide (k<ns.length)=true then(ixF (.val (.scr (ns.map MV.int))) (.val (.int k)) S).bind fun r S1=>.ok (.ret r) S1 else .ok (.next [some (.scr (ns.map MV.int)),some (.int k)]) S:=by
  unfold bE
  simp? [hlen,lt_int]
 have fin: ∀c,yM [.scr (ns.map MV.int),.int k] S=.ok (.val (.int c)) S→ ∃c,zM 2 yM [.val (.scr (ns.map MV.int)),.val (.int k)] S=.ok (.val (.int c)) S:=fun c h=>⟨c,kP rfl h (zSM _ _) (fun l=>by simp)⟩
 have hs:zS ["_law_script","_law_k"] [.scr (ns.map MV.int),.int k]=[some (.scr (ns.map MV.int)),some (.int k)]:=rfl
 by_cases hlt:k<ns.length
 ·obtain⟨d,hd⟩:=cV (xs:=ns.map MV.int) (i:=k) hk (by rw [List.length_map];exact hlt)
  obtain⟨c,rfl⟩: ∃c,d=.int c:=cW (P:=fun d=> ∃c,d=.int c) (fun e he=>by obtain⟨c,_,rfl⟩:=List.mem_map.mp he;exact⟨c,rfl⟩) hd
  have hix:ixF (.val (.scr (ns.map MV.int))) (.val (.int k)) S=.ok (.val (.int c)) S:=by
   show(match atI (ns.map MV.int) k with | some d=>R.ok (Er.val d) S | none=>.no)=_
   rw [hd]
  refine fin c ?_
  rw [decide_eq_true hlt,if_pos rfl,hix,bok]at e1
  unfold yM dZ
  rw [hs,yI e1]
  rfl
 ·refine fin 0 ?_
  rw [decide_eq_false hlt,if_neg Bool.false_ne_true]at e1
  unfold yM dZ
  rw [hs,zH e1]
  rfl
theorem zFI{B L:Sto}{n i:Nat}(h:B.length=n):(B++L)[n+i]? =L[i]? :=by
 rw [List.getElem?_append_right (by omega),h,Nat.add_sub_cancel_left]
theorem kF{B L:Sto}{m:Nat}{o:MO}(h:B[m]? =some o):(B++L)[m]? =some o:=by
 rw [List.getElem?_append_left (List.getElem?_eq_some_iff.mp h).1];exact h
theorem zVU{S:Sto}{l:Nat}{ds:List MV}(hS:S[l]? =some (.lst ds)):zUW [.val (.loc l)] S=.ok (.new ds) S:=by
 show(match gH S (.val (.loc l))with | some ds=>R.ok (Er.new ds) S | none=>.no)=_
 rw [bX hS]
theorem zYH{S:Sto}{u n k:Nat}{ds:List MV}(hu:S[u]? =some (.lst ds))(hn:S[n]? =some (.lst ds))(hp: ∀d∈ds,pq d=true∧dpt d<k):eqv S (k+1) (.loc u) (.loc n)=some true:=by
 have e: ∀l,S[l]? =some (.lst ds)→vwE S (.val (.loc l))=some (.ls ds):=fun l h=>by
  show(gH S (.val (.loc l))).map Vw.ls=_
  rw [bX h];rfl
 unfold eqv
 rw [e u hu,e n hn]
 show(if ds.length=ds.length then(prs (eqv S k) ds ds).map fun bs=>bs.all id else some false)=_
 rw [if_pos rfl,zJJ fun d hd=>eqv_refl k (hp d hd).1 (hp d hd).2]
 show some ((ds.map fun _=>true).all id)=_
 rw [zKU]
mutual
theorem yAO: ∀{d:MV},pd d=true→ ∃nk,kK d=some nk∧zAJ nk≤dpt d
 | .int i,_=>⟨_,zBT i,by rw [zAJ];exact Nat.zero_le _⟩
 | .str x,_=>⟨_,zBU x,by rw [zAJ];exact Nat.zero_le _⟩
 | .tup ds,h=>by
  obtain⟨ks,h1,h2⟩:=zVV (by rw [←zFG];exact h:pdL ds=true)
  exact⟨.tup ks,by rw [zBV,h1];rfl,by rw [dH,dA];omega⟩
 | .non,h=>by rw [pd]at h<;>first | cases h | (intros;simp)
 | .bl _,h=>by rw [pd]at h<;>first | cases h | (intros;simp)
 | .scr _,h=>by rw [pd]at h<;>first | cases h | (intros;simp)
 | .loc _,h=>by rw [pd]at h<;>first | cases h | (intros;simp)
 | .typ _,h=>by rw [pd]at h<;>first | cases h | (intros;simp)
theorem zVV: ∀{ds:List MV},pdL ds=true→ ∃ks,jP ds=some ks∧zGK ks≤zKT ds
 | [],_=>⟨[],zFY,by rw [zGK];exact Nat.zero_le _⟩
 | d::ds,h=>by
  rw [cE,Bool.and_eq_true]at h
  obtain⟨k,h1,h2⟩:=yAO h.1
  obtain⟨ks,h3,h4⟩:=zVV h.2
  exact⟨k::ks,by rw [dO,h1,h3];rfl,by rw [zGW,zCB];omega⟩
end
def tbQ:MV→MV→Bool
 | .int w,b=>decide (1≤w)&&decide (w≤4)&&inB (w+1) b
 | _,_=>false
def tbD(d:MV):Bool:=match pr d with
 | some (a,b)=>tbQ a b
 | none=>false
theorem yJL{d:MV}(h:pq d=true)(S:Sto):zM 1 zCV [.val d] S=.ok (.val (.bl (tbD d))) S:=by
 refine yN rfl ?_
 show yO (zHE [some d,none] S)=_
 unfold zHE tbD
 have jt:=zMP h 2 2 S
 rw [yKL]at jt
 cases hp:pr d with
 | none=>
  rw [hp]at jt
  have e1:kD [some d,none] S=.ok (.ret (.val (.bl false))) S:=by
   unfold kD
   simp? [jt,Option.isSome_none,Bool.not_false]
  rw [yI e1]
  rfl
 | some ab=>
  obtain⟨a,b⟩:=ab
  rw [hp]at jt
  obtain⟨ha,hb⟩:=yAL h hp
  have hd:=zOP hp
  subst hd
  dsimp only
  cases hi:isI a with
  | false=>
   have e1:kD [some (.tup [a,b]),none] S=.ok (.ret (.val (.bl false))) S:=by
    unfold kD
    simp? [jt,Option.isSome_some,Bool.not_true,Bool.false_eq_true,if_false,zLU,zMO ha,hi,Bool.not_false]
   rw [yI e1,show tbQ a b=false by cases a<;>first | rfl | cases hi]
   rfl
  | true=>
   obtain⟨w,rfl⟩: ∃w,a=.int w:=by cases a<;>first | exact⟨_,rfl⟩ | cases hi
   have e1:kD [some (.tup [.int w,b]),none] S=.ok (.next [some (.tup [.int w,b]),none]) S:=by
    unfold kD
    simp? [jt,Option.isSome_some,Bool.not_true,Bool.false_eq_true,if_false,zLU,zMO ha,hi]
   have e2:zCT [some (.tup [.int w,b]),none] S=.ok (.next [some (.tup [.int w,b]),some (.int w)]) S:=by
    unfold zCT
    simp? [zLU]
   have e3:zCU [some (.tup [.int w,b]),some (.int w)] S=.ok (.ret (.val (.bl (tbQ (.int w) b)))) S:=by
    show _=R.ok (Fl.ret (.val (.bl (decide (1≤w)&&decide (w≤4)&&inB (w+1) b)))) S
    unfold zCU
    simp? [zOQ,chF,le_int,yAK hb,wU]
    cases decide (1≤w)with
    | false=>rfl
    | true=>cases decide (w≤4)<;>rfl
   rw [zH e1,zH e2,e3]
   rfl
theorem zJP{d:MV}(h:pq d=true)(S:Sto):zM 1 xO [.val d] S=.ok (.val (.bl (isI d))) S:=by
 refine yN rfl ?_
 show yO (zDJ [some d] S)=_
 unfold zDJ zFD
 obtain⟨k1,k2,h1,h2,h3⟩:=yJK h S
 simp? [h1,h2,wU]
 rw [←h3]
 cases k1<;>rfl
theorem zVW{d:MV}(h:pq d=true)(S:Sto):zM 1 xD [.val d] S=.ok (.val (.bl (tbD d))) S:=by
 refine yN rfl ?_
 show yO (hX [some d] S)=_
 unfold hX tbD
 cases hp:pr d with
 | none=>
  have e1:xF [some d] S=.ok (.ret (.val (.bl false))) S:=by
   unfold xF
   cases ht:zJK d with
   | none=>simp? [zJN h,ht,Option.isSome_none,Bool.not_false]
   | some ds=>
    have hd:=zJL ht
    subst hd
    have hn:=yGC.mp hp
    simp? [zJN h,ht,Option.isSome_some,Bool.not_true,Bool.false_eq_true,if_false,zJH,ne_int,decide_eq_false hn,Bool.not_false]
  rw [yI e1]
  rfl
 | some ab=>
  obtain⟨a,b⟩:=ab
  obtain⟨ha,hb⟩:=yAL h hp
  have hd:=zOP hp
  subst hd
  dsimp only
  have l2: ∀S,xX [.val (.tup [a,b])] S=.ok (.val (.int 2)) S:=fun S=>rfl
  have e1:xF [some (.tup [a,b])] S=if(isI a&&isI b)=true then .ok (.next [some (.tup [a,b])]) S else .ok (.ret (.val (.bl false))) S:=by
   unfold xF
   simp? [isi_tt,Bool.not_true,Bool.false_eq_true,if_false,l2,ne_int,decide_eq_true (show(2:Int)=2 from rfl),zLU,zOQ,zJP ha,zJP hb]
   cases isI a<;>cases isI b<;>rfl
  cases hi:isI a with
  | false=>
   rw [hi,Bool.false_and,if_neg Bool.false_ne_true]at e1
   rw [yI e1,show tbQ a b=false by cases a<;>first | rfl | cases hi]
   rfl
  | true=>
   obtain⟨w,rfl⟩: ∃w,a=.int w:=by cases a<;>first | exact⟨_,rfl⟩ | cases hi
   cases hk:isI b with
   | false=>
    rw [hi,hk,Bool.true_and,if_neg Bool.false_ne_true]at e1
    rw [yI e1,show tbQ (.int w) b=false by
     show(decide (1≤w)&&decide (w≤4)&&inB (w+1) b)=false
     have z:inB (w+1) b=false:=by cases b<;>first | rfl | cases hk
     rw [z,Bool.and_false]]
    rfl
   | true=>
    obtain⟨k,rfl⟩: ∃w,b=.int w:=by cases b<;>first | exact⟨_,rfl⟩ | cases hk
    rw [hi,hk,Bool.true_and,if_pos rfl]at e1
    have e2:jD [some (.tup [.int w,.int k])] S=.ok (.ret (.val (.bl (tbQ (.int w) (.int k))))) S:=by
     show _=R.ok (Fl.ret (.val (.bl (decide (1≤w)&&decide (w≤4)&&(decide (0≤k)&&decide (k<w+1)))))) S
     unfold jD
     simp? [zLU,zOQ,chF,le_int,lt_int,wU]
     rw [show decide (1≤w)=decide (0<w)from dec_is (by omega),show decide (w≤4)=decide (w<5)from dec_is (by omega),show decide (0≤k)=decide (-1<k)from dec_is (by omega),show decide (k<w+1)=decide (k≤w)from dec_is (by omega)]
     cases decide (0<w)with
     | false=>rfl
     | true=>
      cases decide (w<5)with
      | false=>rfl
      | true=>cases decide (-1<k)<;>rfl
    rw [zH e1,e2]
    rfl
theorem zOS{d:MV}(h:pq d=true)(S:Sto)(h1:isI d=false)(h2:kC [.val d,.val (.typ "str")] S=.ok (.val (.bl false)) S)(h3:vlD d=false):zM 1 wB [.val d] S=.ok (.val (.bl (vlD d))) S:=by
 refine yN rfl ?_
 have e1:yV [some d] S=.ok (.next [some d]) S:=by
  unfold yV
  simp? [h2,Bool.false_eq_true,if_false]
 have e2:xG [some d] S=.ok (.ret (.val (.bl false))) S:=by
  unfold xG
  simp? [zJP h,h1,wU]
  rfl
 show yO (yT [some d] S)=_
 unfold yT
 rw [zH e1,e2,h3]
 rfl
theorem yGE{d:MV}(h:pq d=true)(S:Sto):zM 1 wB [.val d] S=.ok (.val (.bl (vlD d))) S:=by
 rcases xI h with⟨i,rfl⟩ | ⟨x,rfl,hx⟩ | ⟨b,rfl⟩ | rfl | ⟨ds,rfl,_⟩
 ·refine yN rfl ?_
  have e1:yV [some (.int i)] S=.ok (.next [some (.int i)]) S:=rfl
  have habs:yBX [.val (.int i)] S=.ok (.val (.int (if i<0 then -i else i))) S:=rfl
  have hlt:decide ((if i<0 then -i else i)<(10:Int) ^ 30)=vlD (.int i):=by
   show _=(decide (-(10 ^ 30)<i)&&decide (i<10 ^ 30))
   rw [←Bool.decide_and]
   exact decide_eq_decide.mpr (by split<;>omega)
  have e2:xG [some (.int i)] S=.ok (.ret (.val (.bl (vlD (.int i))))) S:=by
   unfold xG
   simp? [zJP h,show isI (.int i)=true from rfl,wU,habs,zVO,lt_int,hlt]
  show yO (yT [some (.int i)] S)=_
  unfold yT
  rw [zH e1,e2]
  rfl
 ·refine yN rfl ?_
  have hl: ∀S,xX [.val (.str x)] S=.ok (.val (.int x.length)) S:=fun S=>if_pos (fits (by omega))
  have hc:yU (gNm 0) xP xQ (blk 1 [] [some (.str x)]) [] (x.map fun c=>.str [c]) S=.ok ((x.filter fun c=>!oKc c).map fun c=>MV.str [c]) S:=by
   have:=cF (gf:=gNm 0) (cf:=xP) (ef:=xQ) (ρb:=blk 1 [] [some (.str x)]) (gs:=[]) (ds:=x.map fun c=>MV.str [c]) (p:=fun d=>match d with | .str [c]=>!oKc c | _=>false) (dM S) fun d hd=>by
    obtain⟨c,hc,rfl⟩:=List.mem_map.mp hd
    refine⟨[some (.str [c])],rfl,?_,rfl⟩
    show(inF true (.val (.str [c])) (.val (.str abc)) S).bind asB=_
    rw [show inF true (.val (.str [c])) (.val (.str abc)) S=.ok (.val (.bl (!decide (c∈abc)))) S from rfl,yJJ]
    rfl
   rw [this,List.filter_map]
   rfl
  have e1:yV [some (.str x)] S=.ok (.ret (.val (.bl (nmB x)))) S:=by
   have z1:decide (0<(x.length:Int))=decide (1≤x.length):=dec_is (by omega)
   have z2:decide ((x.length:Int)<9)=decide (x.length≤8):=dec_is (by omega)
   unfold yV nmB
   simp? [isi_ss,hl,chF,lt_int,z1,z2,wU]
   cases decide (1≤x.length)with
   | false=>rfl
   | true=>
    cases decide (x.length≤8)with
    | false=>rfl
    | true=>
     show(((if(x.map fun c=>MV.str [c]).length<1000000 then(yU (gNm 0) xP xQ (blk 1 [] [some (.str x)]) [] (x.map fun c=>.str [c]) S).bind fun o S=>R.ok (Er.new o) S else .no).bind fun p S1=>eqF p (.new []) S1).bind fun r S1=>R.ok (Fl.ret r) S1)=_
     rw [if_pos (by rw [List.length_map];omega),hc,bok,bok,zMQ,List.isEmpty_map,zJM]
     rfl
  show yO (yT [some (.str x)] S)=_
  unfold yT
  rw [yI e1]
  rfl
 ·exact zOS h S rfl rfl rfl
 ·exact zOS h S rfl rfl rfl
 ·exact zOS h S rfl rfl rfl
theorem yAP{d:MV}(h:tbD d=true): ∃w k,d=.tup [.int w,.int k]∧1≤w∧w≤4∧0≤k∧k≤w:=by
 unfold tbD at h
 cases hp:pr d with
 | none=>rw [hp]at h;cases h
 | some ab=>
  obtain⟨a,b⟩:=ab
  rw [hp]at h
  rw [zOP hp]
  cases a with
  | int w=>
   have h:(decide (1≤w)&&decide (w≤4)&&inB (w+1) b)=true:=h
   rw [Bool.and_eq_true,Bool.and_eq_true]at h
   cases b with
   | int k=>
    have z:(decide (0≤k)&&decide (k<w+1))=true:=h.2
    rw [Bool.and_eq_true]at z
    exact⟨w,k,rfl,of_decide_eq_true h.1.1,of_decide_eq_true h.1.2,of_decide_eq_true z.1,by have:=of_decide_eq_true z.2;omega⟩
   | _=>cases h.2
  | _=>cases h
def wdt:MV→Int
 | .tup [.int w,_]=>w
 | _=>0
def rwP(ts:List MV)(t:Int)(b:MV):Bool:=if 0≤t∧t<ts.length then(match ts[t.toNat]?,zJK b with
  | some p,some cs=>decide ((cs.length:Int)=wdt p)&&cs.all vlD
  | _,_=>false)else false
def rwQ(ts:List MV):MV→MV→Bool
 | .int t,b=>rwP ts t b
 | _,_=>false
def rwD(ts:List MV)(d:MV):Bool:=match pr d with
 | some (a,b)=>rwQ ts a b
 | none=>false
theorem yAQ{ts:List MV}{t:Int}(h0:0≤t)(h1:t<ts.length): ∃p,ts[t.toNat]? =some p∧atI ts t=some p∧p∈ts:=by
 have hl:t.toNat<ts.length:=by omega
 refine⟨ts[t.toNat],List.getElem?_eq_getElem hl,?_,List.getElem_mem hl⟩
 unfold atI ixN
 rw [if_pos h0,if_pos h1]
 exact List.getElem?_eq_getElem hl
theorem ix_w{p:MV}(h:tbD p=true)(S:Sto):ixF (.val p) (.val (.int 0)) S=.ok (.val (.int (wdt p))) S:=by
 obtain⟨w,k,rfl,_⟩:=yAP h
 rfl
section
variable{ts:List MV}{m d:MV}{S:Sto}
theorem yNM{a b:MV}(h:zJK b=none):rwQ ts a b=false:=by
 cases a with
 | int t=>
  show rwP ts t b=false
  unfold rwP
  rw [h]
  split
  ·cases ts[t.toNat]? <;>rfl
  ·rfl
 | _=>rfl
theorem j_row(hT: ∀p∈ts,tbD p=true)(hm:SqM S m ts)(h:pq d=true):zM 2 zJB [.val d,.val m] S=.ok (.val (.bl (rwD ts d))) S:=by
 refine yN rfl ?_
 show yO (zON [some d,some m,none] S)=_
 unfold zON rwD
 have jt:=zMP h 2 2 S
 rw [yKL]at jt
 cases hp:pr d with
 | none=>
  rw [hp]at jt
  have e1:dR [some d,some m,none] S=.ok (.ret (.val (.bl false))) S:=by
   unfold dR
   simp? [jt,Option.isSome_none,Bool.not_false]
  rw [yI e1]
  rfl
 | some ab=>
  obtain⟨a,b⟩:=ab
  rw [hp]at jt
  obtain⟨ha,hb⟩:=yAL h hp
  have hd:=zOP hp
  subst hd
  have e1:dR [some (.tup [a,b]),some m,none] S=if inB ts.length a=true then .ok (.next [some (.tup [a,b]),some m,none]) S else .ok (.ret (.val (.bl false))) S:=by
   unfold dR
   simp? [jt,Option.isSome_some,Bool.not_true,Bool.false_eq_true,if_false,zLU,hm.len,yAK ha]
   cases inB ts.length a<;>rfl
  cases hB:inB ts.length a with
  | false=>
   rw [hB,if_neg Bool.false_ne_true]at e1
   rw [yI e1]
   have:rwQ ts a b=false:=by
    cases a with
    | int t=>
     show rwP ts t b=false
     unfold rwP
     rw [if_neg]
     intro z
     simp [inB,z.1,z.2]at hB
    | _=>rfl
   dsimp only
   rw [this]
   rfl
  | true=>
   rw [hB,if_pos rfl]at e1
   rw [zH e1]
   obtain⟨t,rfl⟩: ∃t,a=.int t:=by cases a<;>first | exact⟨_,rfl⟩ | cases hB
   have h01:0≤t∧t<ts.length:=by simpa [inB]using hB
   obtain⟨p,q1,q2,q3⟩:=yAQ h01.1 h01.2
   have e2:zHH [some (.tup [.int t,b]),some m,none] S=.ok (.next [some (.tup [.int t,b]),some m,some (.int (wdt p))]) S:=by
    unfold zHH
    simp? [zLU,hm.ix q2,ix_w (hT p q3)]
   rw [zH e2]
   have ea:rwQ ts (.int t) b=(match zJK b with | some tms=>decide ((tms.length:Int)=wdt p)&&tms.all vlD | none=>false):=by
    show rwP ts t b=_
    unfold rwP
    rw [if_pos h01,q1]
    cases zJK b<;>rfl
   dsimp only
   rw [ea]
   cases hb1:zJK b with
   | none=>
    have e3:dS [some (.tup [.int t,b]),some m,some (.int (wdt p))] S=.ok (.ret (.val (.bl false))) S:=by
     unfold dS
     simp? [zOQ,zMP hb,yGB hb1,wU]
     rfl
    rw [e3]
    rfl
   | some tms=>
    have hbe:=zJL hb1
    subst hbe
    rcases xI hb with⟨_,z⟩ | ⟨_,z,_⟩ | ⟨_,z⟩ | z | ⟨ds,z,htm,hlen⟩
    ·cases z
    ·cases z
    ·cases z
    ·cases z
    cases z
    have hin:inT (wdt p) (wdt p) (.tup tms)=decide ((tms.length:Int)=wdt p):=by
     show(decide (wdt p≤(tms.length:Int))&&decide ((tms.length:Int)≤wdt p))=_
     rw [←Bool.decide_and]
     exact decide_eq_decide.mpr (by omega)
    have hc:yU (gNm 0) zJA zCW [none] [] tms S=.ok (tms.map fun d=>MV.bl (vlD d)) S:=zER (F:=fun d=>.bl (vlD d)) (dM _) fun d hd=>⟨[some d],rfl,rfl,by
     unfold zCW
     simp? [yJI (htm d hd) S]⟩
    have hlt:tms.length<1000000:=by omega
    have e3:dS [some (.tup [.int t,.tup tms]),some m,some (.int (wdt p))] S=.ok (.ret (.val (.bl (decide ((tms.length:Int)=wdt p)&&tms.all vlD)))) S:=by
     unfold dS
     simp? [zOQ,zMP hb,hin,wU]
     cases decide ((tms.length:Int)=wdt p)with
     | false=>rfl
     | true=>
      simp? [yAM,hlt,show blk 1 [] [some (.tup [.int t,.tup tms]),some m,some (.int (wdt p))]=[none]from rfl,hc,yAJ,Bool.true_and]
    rw [e3]
    rfl
theorem yGF(hT: ∀p∈ts,tbD p=true)(hm:SqM S m ts)(h:pq d=true):zM 2 xV [.val m,.val d] S=.ok (.val (.bl (rwD ts d))) S:=by
 refine yN rfl ?_
 show yO (bL [some m,some d] S)=_
 unfold bL rwD
 cases hp:pr d with
 | none=>
  have e1:wC [some m,some d] S=.ok (.ret (.val (.bl false))) S:=by
   unfold wC
   cases ht:zJK d with
   | none=>simp? [zJN h,ht,Option.isSome_none,Bool.not_false]
   | some ds=>
    have hd:=zJL ht
    subst hd
    have hn:=yGC.mp hp
    simp? [zJN h,ht,Option.isSome_some,Bool.not_true,Bool.false_eq_true,if_false,zJH,ne_int,decide_eq_false hn,Bool.not_false]
  rw [yI e1]
  rfl
 | some ab=>
  obtain⟨a,b⟩:=ab
  obtain⟨ha,hb⟩:=yAL h hp
  have hd:=zOP hp
  subst hd
  dsimp only
  have l2: ∀S,xX [.val (.tup [a,b])] S=.ok (.val (.int 2)) S:=fun S=>rfl
  have e1:wC [some m,some (.tup [a,b])] S=if(isI a&&(zJK b).isSome)=true then .ok (.next [some m,some (.tup [a,b])]) S else .ok (.ret (.val (.bl false))) S:=by
   unfold wC
   simp? [isi_tt,Bool.not_true,Bool.false_eq_true,if_false,l2,ne_int,decide_eq_true (show(2:Int)=2 from rfl),zLU,zOQ,zJP ha,zJN hb]
   cases isI a<;>cases (zJK b).isSome<;>rfl
  cases hi:isI a with
  | false=>
   rw [hi,Bool.false_and,if_neg Bool.false_ne_true]at e1
   rw [yI e1,show rwQ ts a b=false by cases a<;>first | rfl | cases hi]
   rfl
  | true=>
   obtain⟨t,rfl⟩: ∃w,a=.int w:=by cases a<;>first | exact⟨_,rfl⟩ | cases hi
   cases hb1:zJK b with
   | none=>
    rw [hi,hb1,Bool.true_and,Option.isSome_none,if_neg Bool.false_ne_true]at e1
    rw [yI e1,yNM hb1]
    rfl
   | some tms=>
    rw [hi,hb1,Bool.true_and,Option.isSome_some,if_pos rfl]at e1
    have hbe:=zJL hb1
    subst hbe
    rcases xI hb with⟨_,z⟩ | ⟨_,z,_⟩ | ⟨_,z⟩ | z | ⟨ds,z,htm,hlen⟩
    ·cases z
    ·cases z
    ·cases z
    ·cases z
    cases z
    rw [zH e1]
    show _=R.ok (Er.val (.bl (rwP ts t (.tup tms)))) S
    unfold rwP
    rw [hb1]
    by_cases h01:0≤t∧t<ts.length
    ·obtain⟨p,q1,q2,q3⟩:=yAQ h01.1 h01.2
     have e3:wD [some m,some (.tup [.int t,.tup tms])] S=if decide ((tms.length:Int)=wdt p)=true then .ok (.next [some m,some (.tup [.int t,.tup tms])]) S else .ok (.ret (.val (.bl false))) S:=by
      unfold wD
      simp? [zLU,zOQ,chF,le_int,lt_int,decide_eq_true h01.1,hm.len,decide_eq_true h01.2,Bool.not_true,Bool.false_eq_true,if_false,zJH,hm.ix q2,ix_w (hT p q3),ne_int]
      cases decide ((tms.length:Int)=wdt p)<;>rfl
     rw [if_pos h01,q1]
     dsimp only
     cases hlp:decide ((tms.length:Int)=wdt p)with
     | false=>
      rw [hlp,if_neg Bool.false_ne_true]at e3
      rw [yI e3,Bool.false_and]
      rfl
     | true=>
      rw [hlp,if_pos rfl]at e3
      have hc:yU (gNm 0) jE cB [none] [] tms S=.ok (tms.filter fun d=>!vlD d) S:=cF (p:=fun d=>!vlD d) (dM _) fun d hd=>⟨[some d],rfl,by
       unfold jE
       simp? [yGE (htm d hd) S],rfl⟩
      have hlt:tms.length<1000000:=by omega
      have e4:hZ [some m,some (.tup [.int t,.tup tms])] S=.ok (.ret (.val (.bl (tms.all vlD)))) S:=by
       unfold hZ
       simp? [zOQ,yAM,hlt,show blk 1 [] [some m,some (.tup [.int t,.tup tms])]=[none]from rfl,hc,zMQ,zJM]
      rw [zH e3,e4,Bool.true_and]
      rfl
    ·have e3:wD [some m,some (.tup [.int t,.tup tms])] S=.ok (.ret (.val (.bl false))) S:=by
      unfold wD
      by_cases h0:0≤t
      ·have h1: ¬t<ts.length:=fun z=>h01 ⟨h0,z⟩
       simp? [zLU,zOQ,chF,le_int,lt_int,decide_eq_true h0,hm.len,decide_eq_false h1,Bool.not_false]
      ·simp? [zLU,zOQ,chF,le_int,lt_int,decide_eq_false h0,Bool.false_eq_true,if_false,Bool.not_false]
     rw [yI e3,if_neg h01]
     rfl
theorem zYI(hT: ∀p∈ts,tbD p=true)(h:rwD ts d=true): ∃t cs,d=.tup [.int t,.tup cs]∧cs.length≤4∧ ∀c∈cs,Vl c:=by
 unfold rwD at h
 cases hp:pr d with
 | none=>rw [hp]at h;cases h
 | some ab=>
  obtain⟨a,b⟩:=ab
  rw [hp]at h
  rw [zOP hp]
  cases a with
  | int t=>
   have h:rwP ts t b=true:=h
   unfold rwP at h
   split at h
   ·rename_i h01
    obtain⟨p,q1,_,q3⟩:=yAQ h01.1 h01.2
    rw [q1]at h
    cases hb1:zJK b with
    | none=>rw [hb1]at h;cases h
    | some cs=>
     rw [hb1]at h
     have h:(decide ((cs.length:Int)=wdt p)&&cs.all vlD)=true:=h
     rw [Bool.and_eq_true]at h
     obtain⟨w,k,rfl,_,w4,_⟩:=yAP (hT p q3)
     have hl:(cs.length:Int)=w:=of_decide_eq_true h.1
     exact⟨t,cs,by rw [zJL hb1],by omega,fun c hc=>yJH.mp (List.all_eq_true.mp h.2 c hc)⟩
   ·cases h
  | _=>cases h
theorem zYJ(hT: ∀p∈ts,tbD p=true)(h:rwD ts d=true):pd d=true∧dpt d≤2:=by
 obtain⟨t,cs,rfl,_,hv⟩:=zYI hT h
 have h1:pdL cs=true:=zML fun c hc=>(vl_pd (hv c hc)).1
 have h2:zKT cs≤0:=zTG fun c hc=>by
  have:=hv c hc
  cases c with
  | int i=>rw [zMK];exact Nat.le_refl _
  | str i=>rw [zTF];exact Nat.le_refl _
  | _=>exact this.elim
 refine⟨by rw [zFG,cE,cE,yFT,zFG,h1,zTE];rfl,?_⟩
 rw [dA,zCB,zCB,zVP,zMK,dA]
 omega
theorem yJM(hT: ∀p∈ts,tbD p=true)(h:rwD ts d=true):keyOk d=true:=by
 have hp:=zYJ hT h
 obtain⟨nk,h1,h2⟩:=yAO hp.1
 obtain⟨t,cs,rfl,_⟩:=zYI hT h
 unfold keyOk
 rw [h1]
 show(zKF (.tup [.int t,.tup cs])&&decide (zAJ nk≤4))=true
 rw [decide_eq_true (show zAJ nk≤4 by omega)]
 rfl
end
def zFJ(p:MV→Bool):List MV→Nat→Option Nat
 | [],_=>none
 | d::ds,n=>if p d=true then zFJ p ds (n+1)else some n
theorem dF{p:MV→Bool}: ∀{ds:List MV}{n:Nat},zFJ p ds n=none→ ∀d∈ds,p d=true
 | [],_,_,d,hd=>by simp at hd
 | e::ds,n,h,d,hd=>by
  unfold zFJ at h
  split at h
  ·rename_i he
   rcases List.mem_cons.mp hd with rfl | hd
   ·exact he
   ·exact dF h d hd
  ·cases h
noncomputable def zTK:List MV→List MV→Nat→Option Nat
 | _,[],_=>none
 | P,d::ds,n=>if d∈P then some n else zTK (P++[d]) ds (n+1)
abbrev NQ(k:Nat):List (Str×MV):=[("place",.int (k:Nat))]
theorem yAR{c:Str}{k:Nat}(h:k≤1000000)(S:Sto):raF c "place" (.val (.int (k:Nat))) S=.exc c (NQ k) S:=if_pos (show(k:Int).natAbs<BIG from Nat.lt_of_le_of_lt (by omega:(k:Int).natAbs≤1000000) (by decide+kernel))
theorem yAS{n:Nat}{F:List MV→Sto→R Er}{rs:List Er}{S T:Sto}(hn:rs.length=n)(hF:F (zY rs S).1 (zY rs S).2=.ok (.val .non) (S++T)):jM n F rs S=.ok (.val .non) S:=by
 unfold jM
 rw [if_pos hn,hF]
 exact zNX (zSN _) (fun l=>by simp)
theorem zOT{n:Nat}{F:List MV→Sto→R Er}{rs:List Er}{S T:Sto}{c:Str}{k:Nat}(hn:rs.length=n)(hF:F (zY rs S).1 (zY rs S).2=.exc c (NQ k) (S++T)):jM n F rs S=.exc c (NQ k) S:=by
 unfold jM
 rw [if_pos hn,hF]
 show(if(NQ k).all (fun p=>zOB p.2)=true then(zDX S (.val .non) (S++T)).bind fun _ S3=>R.exc c (NQ k) S3 else .no)=_
 rw [if_pos (show(NQ k).all (fun p=>zOB p.2)=true from rfl),zNX (zSN _) (fun l=>by simp)]
 rfl
section
variable{ts rs:List MV}{a b m:MV}{S:Sto}
theorem yJN{c:MV}{as bs cs:List MV}(ha:SqM S a as)(hb:SqM S b bs)(hc:SqM S c cs)(h1:as.length≤4)(h2:bs.length≤6)(h3:cs.length≤60):jM 3 bQ [.val a,.val b,.val c] S=.ok (.val .non) S:=yAS (T:=[]) rfl (by
 show yO (zBB [some a,some b,some c] S)=_
 unfold zBB zEC
 simp? [ha.len,hb.len,hc.len,gt_int,decide_eq_false (show¬(4:Int)<as.length by omega),decide_eq_false (show¬(6:Int)<bs.length by omega),decide_eq_false (show¬(60:Int)<cs.length by omega),Bool.false_eq_true,if_false,List.append_nil]
 rfl)
theorem yGG{gs:List (Nat×List MV)}(hg:stay gs S): ∀(L:List MV)(n:Nat),(∀d∈L,pq d=true)→n+L.length≤1000000→ ∀(p q:Option MV), ∃p' q',wK (gTp 2 (yC (gNm 1) (yC (gNm 2) jR))) xU gs ((L.zipIdx n).map fun p=>.tup [.int (p.2:Nat),p.1]) [some m,p,q] S=
   match zFJ tbD L n with
   | none=>.ok (.next [some m,p',q']) S
   | some k=>.exc "NoTable" (NQ k) S
 | [],n,_,_,p,q=>⟨p,q,rfl⟩
 | d::L,n,hL,hn,p,q=>by
  rw [List.length_cons]at hn
  obtain⟨p',q',ih⟩:=yGG hg L (n+1) (fun e he=>hL e (List.mem_cons_of_mem _ he)) (by omega) (some (.int (n:Nat))) (some d)
  refine⟨p',q',?_⟩
  have ja:=yJL (hL d List.mem_cons_self) S
  have g:gTp 2 (yC (gNm 1) (yC (gNm 2) jR)) (.tup [.int (n:Nat),d]) [some m,p,q] S=.ok [some m,some (.int (n:Nat)),some d] S:=rfl
  rw [List.zipIdx_cons,List.map_cons]
  unfold zFJ
  cases hd:tbD d with
  | true=>
   rw [hd]at ja
   rw [if_pos rfl,zEQ g (ρ':=[some m,some (.int (n:Nat)),some d]) (S':=S) ?_ hg]
   ·exact ih
   ·unfold xU jZ
    simp? [ja,Bool.not_true,Bool.false_eq_true,if_false]
  | false=>
   rw [hd]at ja
   rw [if_neg Bool.false_ne_true]
   refine zTI g ?_
   unfold xU jZ
   simp? [ja,Bool.not_false,yAR (show n≤1000000 by omega)]
def zOU(ts:List MV):Option Nat:=if ts.length=0 then some 0 else zFJ tbD ts 0
theorem yGH(hm:SqM S m ts)(hA: ∀d∈ts,pq d=true)(hl:ts.length≤1000):jM 1 gL [.val m] S=match zOU ts with
   | none=>.ok (.val .non) S
   | some k=>.exc "NoTable" (NQ k) S:=by
 obtain⟨gs,hg,hit⟩:=hm.itE
 obtain⟨p',q',hlp⟩:=yGG (m:=m) hg ts 0 hA (by omega) none none
 unfold zOU
 by_cases h0:ts.length=0
 ·rw [if_pos h0]
  refine zOT (T:=[]) rfl ?_
  show yO (xY [some m,none,none] S)=_
  unfold xY
  rw [zJO (show wW [some m,none,none] S=.exc "NoTable" (NQ 0) S by
   unfold wW
   simp? [hm.len,decide_eq_true (show(ts.length:Int)=0 by omega)]
   exact yAR (k:=0) (by omega) S),List.append_nil]
  rfl
 ·rw [if_neg h0]
  have e1:wW [some m,none,none] S=.ok (.next [some m,none,none]) S:=by
   unfold wW
   simp? [hm.len,decide_eq_false (show¬(ts.length:Int)=0 by omega),Bool.false_eq_true,if_false]
  have e2:bC [some m,none,none] S=wK (gTp 2 (yC (gNm 1) (yC (gNm 2) jR))) xU gs (zIT ts) [some m,none,none] S:=by
   unfold bC
   simp? [hit]
  rw [show wK (gTp 2 (yC (gNm 1) (yC (gNm 2) jR))) xU gs (zIT ts) [some m,none,none] S=_ from hlp]at e2
  cases hb:zFJ tbD ts 0 with
  | none=>
   rw [hb]at e2
   refine yAS (T:=[]) rfl ?_
   show yO (xY [some m,none,none] S)=_
   unfold xY
   rw [zH e1,e2,List.append_nil]
   rfl
  | some k=>
   rw [hb]at e2
   refine zOT (T:=[]) rfl ?_
   show yO (xY [some m,none,none] S)=_
   unfold xY
   rw [zH e1,e2,List.append_nil]
   rfl
theorem yJO(hb:SqM S b []):jM 2 bR [.val m,.val b] S=.ok (.val .non) S:=by
 obtain⟨gs,hg,hit⟩:=hb.itE
 refine yAS (T:=[]) rfl ?_
 show yO (zBC [some m,some b,none,none] S)=_
 unfold zBC zED
 simp? [hit,List.append_nil]
 rfl
theorem yGI{gs:List (Nat×List MV)}(hT: ∀p∈ts,tbD p=true)(hm:SqM S m ts)(hg:stay gs S): ∀(L:List MV)(n:Nat),(∀d∈L,pq d=true)→n+L.length≤1000000→ ∀(p q:Option MV), ∃p' q',wK (gTp 2 (yC (gNm 2) (yC (gNm 3) jR))) wX gs ((L.zipIdx n).map fun p=>.tup [.int (p.2:Nat),p.1]) [some m,some b,p,q,none] S=
   match zFJ (rwD ts) L n with
   | none=>.ok (.next [some m,some b,p',q',none]) S
   | some k=>.exc "NoRow" (NQ k) S
 | [],n,_,_,p,q=>⟨p,q,rfl⟩
 | d::L,n,hL,hn,p,q=>by
  rw [List.length_cons]at hn
  obtain⟨p',q',ih⟩:=yGI hT hm hg L (n+1) (fun e he=>hL e (List.mem_cons_of_mem _ he)) (by omega) (some (.int (n:Nat))) (some d)
  refine⟨p',q',?_⟩
  have ja:=j_row hT hm (hL d List.mem_cons_self)
  have g:gTp 2 (yC (gNm 2) (yC (gNm 3) jR)) (.tup [.int (n:Nat),d]) [some m,some b,p,q,none] S=.ok [some m,some b,some (.int (n:Nat)),some d,none] S:=rfl
  rw [List.zipIdx_cons,List.map_cons]
  unfold zFJ
  cases hd:rwD ts d with
  | true=>
   rw [hd]at ja
   rw [if_pos rfl,zEQ g (ρ':=[some m,some b,some (.int (n:Nat)),some d,none]) (S':=S) ?_ hg]
   ·exact ih
   ·unfold wX bD
    simp? [ja,Bool.not_true,Bool.false_eq_true,if_false]
  | false=>
   rw [hd]at ja
   rw [if_neg Bool.false_ne_true]
   refine zTI g ?_
   unfold wX bD
   simp? [ja,Bool.not_false,yAR (show n≤1000000 by omega)]
def kv(P:List MV):List (MV×MV):=P.map fun r=>(r,.bl true)
theorem zTL(d:MV): ∀P:List MV,(look (kv P) d).isSome=decide (d∈P)
 | []=>by rw [decide_eq_false (by simp)];rfl
 | e::P=>by
  show(look ((e,.bl true)::kv P) d).isSome=_
  rw [zQZ]
  by_cases h:e=d
  ·rw [if_pos h,decide_eq_true (by rw [h];exact List.mem_cons_self)];rfl
  ·rw [if_neg h,zTL d P]
   exact dec_is ⟨fun z=>List.mem_cons_of_mem _ z,fun z=>(List.mem_cons.mp z).resolve_left fun z=>h z.symm⟩
theorem yNN{T:Sto}{l:Nat}{P:List MV}(hK: ∀d∈P,keyOk d=true)(hS:T[l]? =some (.dic (kv P))):zRA T (.val (.loc l))=some (l,kv P):=by
 unfold zRA
 dsimp only
 rw [hS]
 dsimp only
 rw [if_pos]
 rw [List.all_eq_true]
 intro p hp
 obtain⟨r,hr,rfl⟩:=List.mem_map.mp hp
 have:=hK r hr
 unfold keyOk at this
 rw [Bool.and_eq_true]at this
 exact this.1
theorem yGJ{gs:List (Nat×List MV)}(hs: ∀kvs,stay gs (S++[.dic kvs])): ∀(L:List MV)(n:Nat)(P:List MV),(∀d∈P++L,keyOk d=true)→n+L.length≤1000000→P.length+L.length≤1000→ ∀(p q:Option MV), ∃p' q' kvs,wK (gTp 2 (yC (gNm 2) (yC (gNm 3) jR))) wY gs ((L.zipIdx n).map fun p=>.tup [.int (p.2:Nat),p.1]) [some m,some b,p,q,some (.loc S.length)] (S++[.dic (kv P)])=
   match zTK P L n with
   | none=>.ok (.next [some m,some b,p',q',some (.loc S.length)]) (S++[.dic kvs])
   | some k=>.exc "Twice" (NQ k) (S++[.dic kvs])
 | [],n,P,_,_,_,p,q=>⟨p,q,kv P,rfl⟩
 | d::L,n,P,hK,hn,hl,p,q=>by
  rw [List.length_cons]at hn hl
  have g:gTp 2 (yC (gNm 2) (yC (gNm 3) jR)) (.tup [.int (n:Nat),d]) [some m,some b,p,q,some (.loc S.length)] (S++[.dic (kv P)])=.ok [some m,some b,some (.int (n:Nat)),some d,some (.loc S.length)] (S++[.dic (kv P)]):=rfl
  have hd:=yNN (T:=S++[.dic (kv P)]) (l:=S.length) (P:=P) (fun e he=>hK e (List.mem_append_left _ he)) (zAR _ _)
  have kd:keyOk d=true:=hK d (List.mem_append_right _ List.mem_cons_self)
  have hin:yCD false (.val d) (.val (.loc S.length)) (S++[.dic (kv P)])=.ok (.val (.bl (decide (d∈P)))) (S++[.dic (kv P)]):=by
   unfold yCD
   dsimp only
   rw [hd]
   dsimp only
   rw [if_pos kd,if_neg Bool.false_ne_true,zTL]
  rw [List.zipIdx_cons,List.map_cons]
  unfold zTK
  by_cases hm:d∈P
  ·refine⟨none,none,kv P,?_⟩
   rw [if_pos hm]
   refine zTI g ?_
   unfold wY
   refine zJO ?_
   unfold jI
   simp? [hin,decide_eq_true hm,yAR (show n≤1000000 by omega)]
  ·obtain⟨p',q',kvs,ih⟩:=yGJ hs L (n+1) (P++[d]) (fun e he=>hK e (by rw [List.append_assoc]at he;exact he)) (by omega) (by rw [List.length_append];show P.length+1+L.length≤1000;omega) (some (.int (n:Nat))) (some d)
   refine⟨p',q',kvs,?_⟩
   have hset: ∀ρ,zVA (.val (.loc S.length)) (.val d) (.bl true) ρ (S++[.dic (kv P)])=.ok ρ (S++[.dic (kv (P++[d]))]):=fun ρ=>by
    unfold zVA
    dsimp only
    rw [hd]
    dsimp only
    rw [if_pos ⟨kd,by unfold kv;rw [List.length_map];omega⟩]
    unfold putK
    rw [zTL,decide_eq_false hm,if_neg Bool.false_ne_true,yGA]
    unfold kv
    rw [List.map_append]
    rfl
   rw [if_neg hm,zEQ g (ρ':=[some m,some b,some (.int (n:Nat)),some d,some (.loc S.length)]) (S':=S++[.dic (kv (P++[d]))]) ?_ (hs _)]
   ·exact ih
   ·unfold wY
    rw [zH (show jI [some m,some b,some (.int (n:Nat)),some d,some (.loc S.length)] (S++[.dic (kv P)])=.ok (.next [some m,some b,some (.int (n:Nat)),some d,some (.loc S.length)]) (S++[.dic (kv P)]) by
     unfold jI
     simp? [hin,decide_eq_false hm,Bool.false_eq_true,if_false])]
    unfold zBX
    simp? [yJB,hset]
theorem SqM.itEA{m:MV}{ds:List MV}(h:SqM S m ds): ∃gs,(∀kvs,stay gs (S++[MO.dic kvs]))∧ ∀kvs,M.itE [Er.val m] (S++[MO.dic kvs])=R.ok ⟨zIT ds,gs⟩ (S++[MO.dic kvs]):=by
 rcases h with rfl | ⟨l,rfl,hS⟩
 ·exact⟨[],fun _=>dM _,fun _=>rfl⟩
 ·have g: ∀kvs,(S++[MO.dic kvs])[l]? =some (.lst ds):=fun kvs=>kF hS
  refine⟨[(l,ds)],fun kvs=>?_,fun kvs=>?_⟩
  ·intro p hp
   rw [List.mem_singleton.mp hp]
   exact g kvs
  ·have e:srcOf (S++[MO.dic kvs]) (.val (.loc l))=some ⟨true,ds,[(l,ds)]⟩:=by
    unfold srcOf
    dsimp only
    rw [g kvs]
   unfold L2.M.itE
   dsimp only
   rw [e]
noncomputable def zHM(ts rs:List MV):Option (Int×Nat):=match zFJ (rwD ts) rs 0 with
 | some k=>some (3,k)
 | none=>match zTK [] rs 0 with
  | some k=>some (4,k)
  | none=>none
def cls(w:Int):Str:=if w=1 then "NoTable" else if w=3 then "NoRow" else "Twice"
theorem yNO(hT: ∀p∈ts,tbD p=true)(hm:SqM S m ts)(hb:SqM S b rs)(hR: ∀d∈rs,pq d=true)(hl:rs.length≤1000):jM 2 cX [.val m,.val b] S=match zHM ts rs with
   | none=>.ok (.val .non) S
   | some (w,k)=>.exc (cls w) (NQ k) S:=by
 obtain⟨gs,hg,hit⟩:=hb.itE
 obtain⟨p',q',hlp⟩:=yGI (b:=b) hT hm hg rs 0 hR (by omega) none none
 have e1:dU [some m,some b,none,none,none] S=wK (gTp 2 (yC (gNm 2) (yC (gNm 3) jR))) wX gs (zIT rs) [some m,some b,none,none,none] S:=by
  unfold dU
  simp? [hit]
 rw [show wK (gTp 2 (yC (gNm 2) (yC (gNm 3) jR))) wX gs (zIT rs) [some m,some b,none,none,none] S=_ from hlp]at e1
 unfold zHM
 cases hb1:zFJ (rwD ts) rs 0 with
 | some k=>
  rw [hb1]at e1
  refine zOT (T:=[]) rfl ?_
  show yO (kE [some m,some b,none,none,none] S)=_
  unfold kE
  rw [zJO e1,List.append_nil]
  rfl
 | none=>
  rw [hb1]at e1
  have hK: ∀d∈[]++rs,keyOk d=true:=fun d hd=>yJM hT (dF hb1 d hd)
  obtain⟨gs2,hg2,hit2⟩:=hb.itEA
  obtain⟨p2,q2,kvs,hlp2⟩:=yGJ (S:=S) (m:=m) (b:=b) hg2 rs 0 [] hK (by omega) (by rw [List.length_nil];omega) p' q'
  have e2:dW [some m,some b,p',q',none] S=.ok (.next [some m,some b,p',q',some (.loc S.length)]) (S++[.dic (kv [])]):=by
   unfold dW
   simp? [show yFA S=.ok (.val (.loc S.length)) (S++[.dic []])from rfl]
   rfl
  have e3:dY [some m,some b,p',q',some (.loc S.length)] (S++[.dic (kv [])])=wK (gTp 2 (yC (gNm 2) (yC (gNm 3) jR))) wY gs2 (zIT rs) [some m,some b,p',q',some (.loc S.length)] (S++[.dic (kv [])]):=by
   unfold dY
   simp? [hit2]
  rw [show wK (gTp 2 (yC (gNm 2) (yC (gNm 3) jR))) wY gs2 (zIT rs) [some m,some b,p',q',some (.loc S.length)] (S++[.dic (kv [])])=_ from hlp2]at e3
  dsimp only
  cases hd:zTK [] rs 0 with
  | some k=>
   rw [hd]at e3
   refine zOT (T:=[.dic kvs]) rfl ?_
   show yO (kE [some m,some b,none,none,none] S)=_
   unfold kE
   rw [zH e1,zH e2,e3]
   rfl
  | none=>
   rw [hd]at e3
   refine yAS (T:=[.dic kvs]) rfl ?_
   show yO (kE [some m,some b,none,none,none] S)=_
   unfold kE
   rw [zH e1,zH e2,e3]
   rfl
noncomputable def bT(ts rs:List MV):Option (Int×Nat):=match zOU ts with
 | some k=>some (1,k)
 | none=>zHM ts rs
theorem yAT(h:zOU ts=none): ∀p∈ts,tbD p=true:=by
 unfold zOU at h
 split at h
 ·cases h
 ·exact dF h
theorem zVX{c:MV}(ha:SqM S a ts)(hb:SqM S b [])(hc:SqM S c rs)(hA: ∀d∈ts,pq d=true)(hR: ∀d∈rs,pq d=true)(h4:ts.length≤4)(h60:rs.length≤60):gE [a,b,c] S=match bT ts rs with
   | none=>.ok (.val (.tup [.tup ts,.tup [],.tup rs])) S
   | some (w,k)=>.exc (cls w) (NQ k) S:=by
 have e1:zEX [some a,some b,some c] S=.ok (.next [some a,some b,some c]) S:=by
  unfold zEX
  simp? [yJN ha hb hc h4 (Nat.zero_le _) h60]
 have x2:=yGH ha hA (by omega)
 unfold bT
 show yO (zKJ [some a,some b,some c] S)=_
 unfold zKJ
 rw [zH e1]
 cases hb1:zOU ts with
 | some k=>
  rw [hb1]at x2
  rw [zJO (show bZ [some a,some b,some c] S=.exc "NoTable" (NQ k) S by
   unfold bZ
   simp? [x2]
   rfl)]
  rfl
 | none=>
  rw [hb1]at x2
  have hT:=yAT hb1
  have e2:bZ [some a,some b,some c] S=.ok (.next [some a,some b,some c]) S:=by
   unfold bZ
   simp? [x2]
  have e3:zEY [some a,some b,some c] S=.ok (.next [some a,some b,some c]) S:=by
   unfold zEY
   simp? [yJO (m:=a) hb]
  have x4:=yNO hT ha hc hR (by omega)
  rw [zH e2,zH e3]
  dsimp only
  cases hr:zHM ts rs with
  | some wk=>
   obtain⟨w,k⟩:=wk
   rw [hr]at x4
   rw [zJO (show cA [some a,some b,some c] S=.exc (cls w) (NQ k) S by
    unfold cA
    simp? [x4]
    rfl)]
   rfl
  | none=>
   rw [hr]at x4
   have e4:cA [some a,some b,some c] S=.ok (.next [some a,some b,some c]) S:=by
    unfold cA
    simp? [x4]
   have e5:zEZ [some a,some b,some c] S=.ok (.ret (.val (.tup [.tup ts,.tup [],.tup rs]))) S:=by
    unfold zEZ
    simp? [ha.tuple,hb.tuple,hc.tuple]
   rw [zH e4,e5]
   rfl
end
theorem yJP(i:Int)(S:Sto):zSG (.val (.int i)) (.val .non) S=.ok (.val (.bl false)) S:=rfl
theorem yJQ(i:List Nat)(S:Sto):zSG (.val (.str i)) (.val .non) S=.ok (.val (.bl false)) S:=rfl
theorem yGK(i:List MV)(S:Sto):zSG (.val (.tup i)) (.val .non) S=.ok (.val (.bl false)) S:=rfl
theorem yNP(i:List MV)(S:Sto):kC [.val (.tup i),.val (.typ "str")] S=.ok (.val (.bl false)) S:=rfl
theorem yNQ(i:List MV)(S:Sto):kC [.val (.tup i),.val (.typ "int")] S=.ok (.val (.bl false)) S:=rfl
theorem yNR(i:List MV)(S:Sto):kC [.val (.tup i),.val (.typ "list")] S=.ok (.val (.bl false)) S:=rfl
theorem zOV(ds:List MV):pairs ds ds=ds.map fun d=>.tup [d,d]:=by
 induction ds with
 | nil=>rfl
 | cons d ds ih=>show MV.tup [d,d]::pairs ds ds=_;rw [ih];rfl
mutual
def sm:MV→Bool
 | .tup ds=>decide (ds.length<1000)&&smL ds
 | _=>true
def smL:List MV→Bool
 | []=>true
 | d::ds=>sm d&&smL ds
end
theorem zKV(ds:List MV):sm (.tup ds)=(decide (ds.length<1000)&&smL ds):=by rw [sm]
theorem nZ(d:MV)(ds:List MV):smL (d::ds)=(sm d&&smL ds):=by rw [smL]
theorem yAU: ∀{ds:List MV},smL ds=true→ ∀d∈ds,sm d=true
 | [],_,d,h=>by simp at h
 | e::ds,hp,d,h=>by
  rw [nZ,Bool.and_eq_true]at hp
  rcases List.mem_cons.mp h with rfl | h
  ·exact hp.1
  ·exact yAU hp.2 d h
theorem zMS: ∀{ds:List MV},(∀d∈ds,sm d=true)→smL ds=true
 | [],_=>by rw [smL]
 | d::ds,h=>by rw [nZ,h d List.mem_cons_self,zMS fun e he=>h e (List.mem_cons_of_mem _ he)];rfl
theorem zVY: ∀(n:Nat){d:MV}(S:Sto),pd d=true→sm d=true→dpt d<n→zM 2 (zV n) [.val d,.val d] S=.ok (.val (.bl true)) S
 | 0,d,S,_,_,h=>by omega
 | n+1,d,S,hp,hsm,h=>yN rfl (by
  show yO (zDA (zV n) [some d,some d] S)=_
  unfold zDA
  rcases zOO hp with⟨i,rfl⟩ | ⟨x,rfl⟩ | ⟨ds,rfl,pds⟩
  ·rw [zH (show xZ (zV n) [some (.int i),some (.int i)] S=.ok (.next [some (.int i),some (.int i)]) S by unfold xZ;simp? [yJP];rfl)]
   rw [zH (show wA (zV n) [some (.int i),some (.int i)] S=.ok (.next [some (.int i),some (.int i)]) S by unfold wA;simp? [bok];rfl)]
   rw [yI (show jA (zV n) [some (.int i),some (.int i)] S=.ok (.ret (.val (.bl true))) S by unfold jA;simp? [yFU,zYG,wU];first | rfl | simp [bok])]
   rfl
  ·rw [zH (show xZ (zV n) [some (.str x),some (.str x)] S=.ok (.next [some (.str x),some (.str x)]) S by unfold xZ;simp? [yJQ];rfl)]
   rw [yI (show wA (zV n) [some (.str x),some (.str x)] S=.ok (.ret (.val (.bl true))) S by unfold wA;simp? [wU,eq_str];first | rfl | simp [bok])]
   rfl
  ·rw [dA]at h
   rw [zKV,Bool.and_eq_true,decide_eq_true_eq]at hsm
   have hlen:ds.length<1000000:=by omega
   have hc:yU (gTp 2 (yC (gNm 0) (yC (gNm 1) jR))) (zBY (zV n)) (bF (zV n)) [none,none] [] (pairs ds ds) S=.ok ((pairs ds ds).map fun _=>.bl true) S:=zER (dM S) fun e he=>by
    rw [zOV]at he
    obtain⟨x,hx,rfl⟩:=List.mem_map.mp he
    refine⟨[some x,some x],rfl,rfl,?_⟩
    unfold bF
    simp? [zVY n S (zMM pds x hx) (yAU hsm.2 x hx) (by have:=zCC x hx;omega)]
   rw [zH (show xZ (zV n) [some (.tup ds),some (.tup ds)] S=.ok (.next [some (.tup ds),some (.tup ds)]) S by unfold xZ;simp? [yGK];rfl)]
   rw [zH (show wA (zV n) [some (.tup ds),some (.tup ds)] S=.ok (.next [some (.tup ds),some (.tup ds)]) S by unfold wA;simp? [yNP];rfl)]
   rw [zH (show jA (zV n) [some (.tup ds),some (.tup ds)] S=.ok (.next [some (.tup ds),some (.tup ds)]) S by unfold jA;simp? [yNQ];rfl)]
   rw [zH (show nI (zV n) [some (.tup ds),some (.tup ds)] S=.ok (.next [some (.tup ds),some (.tup ds)]) S by unfold nI;simp? [yNR];rfl)]
   rw [zH (show nJ (zV n) [some (.tup ds),some (.tup ds)] S=.ok (.next [some (.tup ds),some (.tup ds)]) S by unfold nJ;simp? [bok];rfl)]
   unfold zFA
   simp? [zJH,wU,show itZ [.val (.tup ds),.val (.tup ds)] S=.ok ⟨pairs ds ds,[]⟩ S from rfl]
   rw [if_pos (show(pairs ds ds).length<1000000 by rw [zOV,List.length_map];exact hlen)]
   rw [show blk 2 [] [some (.tup ds),some (.tup ds)]=[none,none]from rfl,hc,yFW]
   simp [bok,yFV]
   rfl)
def zPU(q:Nat→Bool):Nat→Nat→Option Nat
 | _,0=>none
 | n,c+1=>if q n=true then zPU q (n+1) c else some n
theorem zTM{x y:MV}{w:Int}{S:Sto}{B:Rho→Sto→R Fl}{q:Nat→Bool}: ∀(c n:Nat)(k:Option MV),(∀j,n≤j→j<n+c→B [some x,some y,some (.int (j:Nat))] S=if q j=true then .ok (.next [some x,some y,some (.int (j:Nat))]) S else .ok (.ret (.val (.tup [.int w,.int (j:Nat)]))) S)→
  ∃k',wK (gNm 2) B [] ((List.range' n c).map fun k=>MV.int (k:Nat)) [some x,some y,k] S=match zPU q n c with
   | none=>.ok (.next [some x,some y,k']) S
   | some j=>.ok (.ret (.val (.tup [.int w,.int (j:Nat)]))) S
 | 0,n,k,_=>⟨k,rfl⟩
 | c+1,n,k,h=>by
  obtain⟨k',ih⟩:=zTM c (n+1) (some (.int (n:Nat))) fun j h1 h2=>h j (by omega) (by omega)
  refine⟨k',?_⟩
  have hb:=h n (Nat.le_refl _) (by omega)
  have g:gNm 2 (.int (n:Nat)) [some x,some y,k] S=.ok [some x,some y,some (.int (n:Nat))] S:=rfl
  rw [List.range'_succ,List.map_cons]
  unfold zPU
  cases hq:q n with
  | true=>
   rw [hq,if_pos rfl]at hb
   rw [if_pos rfl,zEQ g hb (dM _)]
   exact ih
  | false=>
   rw [hq,if_neg Bool.false_ne_true]at hb
   rw [if_neg Bool.false_ne_true,zZV g hb]
theorem yGL(P R':List MV)(d:MV):(P++d::R')[P.length]? =some d:=by
 rw [List.getElem?_append_right (Nat.le_refl _),Nat.sub_self];rfl
def qAt(p:MV→Bool)(ts:List MV)(j:Nat):Bool:=match ts[j]? with
 | some d=>p d
 | none=>true
theorem zTN{p:MV→Bool}{ts:List MV}: ∀(R' P:List MV),ts=P++R'→zPU (qAt p ts) P.length R'.length=zFJ p R' P.length
 | [],_,_=>rfl
 | d::R',P,e=>by
  have ih:=zTN (p:=p) (ts:=ts) R' (P++[d]) (by rw [e,List.append_assoc];rfl)
  rw [List.length_append,List.length_singleton]at ih
  have hq:qAt p ts P.length=p d:=by unfold qAt;rw [e,yGL]
  rw [List.length_cons]
  unfold zPU zFJ
  rw [hq,ih]
noncomputable def qIn(ts:List MV)(j:Nat):Bool:=match ts[j]? with
 | some d=>!decide (d∈ts.take j)
 | none=>true
theorem yAV{ts:List MV}: ∀(R' P:List MV),ts=P++R'→zPU (qIn ts) P.length R'.length=zTK P R' P.length
 | [],_,_=>rfl
 | d::R',P,e=>by
  have ih:=yAV (ts:=ts) R' (P++[d]) (by rw [e,List.append_assoc];rfl)
  rw [List.length_append,List.length_singleton]at ih
  have hq:qIn ts P.length= !decide (d∈P):=by unfold qIn;rw [e,yGL,List.take_left'];rfl
  rw [List.length_cons]
  unfold zPU zTK
  rw [hq,ih]
  by_cases h:d∈P
  ·rw [decide_eq_true h,Bool.not_true,if_neg Bool.false_ne_true,if_pos h]
  ·rw [decide_eq_false h,Bool.not_false,if_pos rfl,if_neg h]
theorem zTO(n:Nat):(List.range n).map (fun k=>MV.int (k:Nat))=(List.range' 0 n).map fun k=>MV.int (k:Nat):=by rw [List.range_eq_range']
theorem yGM{S:Sto}{l:Nat}{ds:List MV}(hS:S[l]? =some (.lst ds)):eqF (.val (.loc l)) (.new []) S=.ok (.val (.bl ds.isEmpty)) S:=by
 have e:vwE S (.val (.loc l))=some (.ls ds):=by
  show(gH S (.val (.loc l))).map Vw.ls=_
  rw [bX hS];rfl
 unfold eqF zGD
 rw [e]
 cases ds with
 | nil=>rfl
 | cons d ds=>rfl
theorem zOW(ds:List MV)(j:Nat):dG ds none (some (j:Int))=ds.take j:=by
 unfold dG
 rw [HT.sIx_none,HT.sIx_nat,List.drop_zero,Nat.sub_zero]
 by_cases h:j≤ds.length
 ·rw [Nat.min_eq_left h]
 ·rw [Nat.min_eq_right (by omega),List.take_of_length_le (Nat.le_refl _),List.take_of_length_le (by omega)]
theorem yJR(ys:List MV)(d:MV):(ys.map fun y=>decide (y=d)).any id=decide (d∈ys):=by
 rw [List.any_map]
 by_cases h:d∈ys
 ·rw [decide_eq_true h,List.any_eq_true]
  exact⟨d,h,by simp⟩
 ·rw [decide_eq_false h,List.any_eq_false]
  intro y hy
  simp only [Function.comp,id,decide_eq_true_eq]
  rintro rfl
  exact h hy
theorem yAW(neg:Bool)(p:Er)(ys:List MV)(S:Sto):inF neg p (.new ys) S=zNV neg p (.new ys) S:=by
 unfold inF
 split
 ·rename_i h;cases h
 ·rfl
theorem yJS{S:Sto}{d:MV}{ys:List MV}(hd:pd d=true)(h: ∀y∈ys,pd y=true∧dpt y<40):inF false (.val d) (.new ys) S=.ok (.val (.bl (decide (d∈ys)))) S:=by
 rw [yAW]
 unfold zNV
 dsimp only
 rw [show itemsOf S (.new ys)=some ys from rfl]
 dsimp only
 rw [zVS hd h]
 dsimp only
 rw [if_neg Bool.false_ne_true,yJR]
theorem zJQ{ds:List MV}{j:Nat}{d:MV}(h:ds[j]? =some d):atI ds (j:Nat)=some d:=by
 unfold atI ixN
 rw [if_pos (by omega),if_pos (by have:=(List.getElem?_eq_some_iff.mp h).1;omega)]
 exact h
noncomputable def zGE(ts rs:List MV):MV:=match bT ts rs with
 | none=>.non
 | some (w,k)=>.tup [.int w,.int (k:Nat)]
section
variable{ts rs:List MV}{a b:Nat}{S:Sto}
theorem yJT(ha:S[a]? =some (.lst ts))(hb:S[b]? =some (.lst rs))(hA: ∀d∈ts,pq d=true)(hR: ∀d∈rs,pq d=true)(h4:ts.length≤4)(h60:rs.length≤60):nY [.loc a,.loc b] S=.ok (.val (zGE ts rs)) S:=by
 show yO (zHK [some (.loc a),some (.loc b),none] S)=_
 unfold zHK zGE bT
 have la: ∀S',S'=S→xX [.val (.loc a)] S'=.ok (.val (.int (ts.length:Nat))) S':=fun S' e=>by rw [e];exact SqM.len (.inr ⟨_,rfl,ha⟩)
 have lb:xX [.val (.loc b)] S=.ok (.val (.int (rs.length:Nat))) S:=SqM.len (.inr ⟨_,rfl,hb⟩)
 unfold zOU
 by_cases h0:ts.length=0
 ·have e0:ts=[]:=List.length_eq_zero_iff.mp h0
  rw [if_pos h0]
  have e1:gP [some (.loc a),some (.loc b),none] S=.ok (.ret (.val (.tup [.int 1,.int 0]))) S:=by
   unfold gP
   simp? [la S rfl,h0,show yFR [.val (.int 1),.val (.int ((0:Nat):Int))] S=.ok (.val (.int 1)) S from rfl,zCN (S:=S) (j:=1) (by omega)]
   refine zZV (ρ0:=[some (.loc a),some (.loc b),some (.int 0)]) (S0:=S) rfl ?_
   unfold gO nX
   simp? [yGM ha,e0,show List.isEmpty ([]:List MV)=true from rfl]
  rw [yI e1]
  rfl
 ·rw [if_neg h0]
  have hx:yFR [.val (.int 1),.val (.int (ts.length:Nat))] S=.ok (.val (.int (ts.length:Nat))) S:=by
   show R.ok (Er.val (.int (if(ts.length:Int)>1 then(ts.length:Int)else 1))) S=_
   congr 3
   split<;>omega
  obtain⟨k1,l1⟩:=zTM (x:=.loc a) (y:=.loc b) (w:=1) (S:=S) (B:=gO) (q:=qAt tbD ts) ts.length 0 none fun j _ hj=>by
   have hj:j<ts.length:=by omega
   obtain⟨d,hd⟩: ∃d,ts[j]? =some d:=⟨_,List.getElem?_eq_getElem hj⟩
   have hp:pq d=true:=hA _ (List.mem_of_getElem? hd)
   unfold qAt
   rw [hd]
   unfold gO nX
   simp? [yGM ha,show ts.isEmpty=false by cases ts with | nil=>exact absurd rfl h0 | cons=>rfl,Bool.false_eq_true,if_false,jY ha (zJQ hd),zVW hp]
   rcases Bool.eq_false_or_eq_true (tbD d)with hz | hz<;>simp [hz]
  rw [show zPU (qAt tbD ts) 0 ts.length=zFJ tbD ts 0 from zTN ts [] rfl]at l1
  have e1:gP [some (.loc a),some (.loc b),none] S=wK (gNm 2) gO [] ((List.range' 0 ts.length).map fun k=>MV.int (k:Nat)) [some (.loc a),some (.loc b),none] S:=by
   unfold gP
   simp? [la S rfl,hx,zCN (S:=S) (j:=(ts.length:Nat)) (by omega),Int.toNat_natCast,zTO]
  rw [l1]at e1
  cases hb1:zFJ tbD ts 0 with
  | some k=>
   rw [hb1]at e1
   rw [yI e1]
   rfl
  | none=>
   rw [hb1]at e1
   have hT:=dF hb1
   rw [zH e1]
   obtain⟨k2,l2⟩:=zTM (x:=.loc a) (y:=.loc b) (w:=3) (S:=S) (B:=cY) (q:=qAt (rwD ts) rs) rs.length 0 k1 fun j _ hj=>by
    have hj:j<rs.length:=by omega
    obtain⟨d,hd⟩: ∃d,rs[j]? =some d:=⟨_,List.getElem?_eq_getElem hj⟩
    have hp:pq d=true:=hR _ (List.mem_of_getElem? hd)
    unfold qAt
    rw [hd]
    unfold cY zFE
    simp? [jY hb (zJQ hd),yGF hT (.inr ⟨_,rfl,ha⟩) hp]
    rcases Bool.eq_false_or_eq_true (rwD ts d)with hz | hz<;>simp [hz]
   rw [show zPU (qAt (rwD ts) rs) 0 rs.length=zFJ (rwD ts) rs 0 from zTN rs [] rfl]at l2
   have e2:zDK [some (.loc a),some (.loc b),k1] S=wK (gNm 2) cY [] ((List.range' 0 rs.length).map fun k=>MV.int (k:Nat)) [some (.loc a),some (.loc b),k1] S:=by
    unfold zDK
    simp? [lb,zCN (S:=S) (j:=(rs.length:Nat)) (by omega),Int.toNat_natCast,zTO]
   rw [l2]at e2
   dsimp only
   unfold zHM
   cases hb2:zFJ (rwD ts) rs 0 with
   | some k=>
    rw [hb2]at e2
    rw [yI e2]
    rfl
   | none=>
    rw [hb2]at e2
    have hP: ∀d∈rs,pd d=true∧dpt d≤2:=fun d hd=>zYJ hT (dF hb2 d hd)
    rw [zH e2]
    obtain⟨k3,l3⟩:=zTM (x:=.loc a) (y:=.loc b) (w:=4) (S:=S) (B:=cZ) (q:=qIn rs) rs.length 0 k2 fun j _ hj=>by
     have hj:j<rs.length:=by omega
     obtain⟨d,hd⟩: ∃d,rs[j]? =some d:=⟨_,List.getElem?_eq_getElem hj⟩
     have hin:=yJS (S:=S) (d:=d) (ys:=rs.take j) (hP _ (List.mem_of_getElem? hd)).1 fun y hy=>⟨(hP y (List.mem_of_mem_take hy)).1,Nat.lt_of_le_of_lt (hP y (List.mem_of_mem_take hy)).2 (by decide)⟩
     unfold qIn
     rw [hd]
     unfold cZ zFF
     simp? [jY hb (zJQ hd),zTJ hb,zOW,hin]
     rcases Bool.eq_false_or_eq_true (decide (d∈rs.take j))with hz | hz<;>simp [hz]
    rw [show zPU (qIn rs) 0 rs.length=zTK [] rs 0 from yAV rs [] rfl]at l3
    have e3:zDL [some (.loc a),some (.loc b),k2] S=wK (gNm 2) cZ [] ((List.range' 0 rs.length).map fun k=>MV.int (k:Nat)) [some (.loc a),some (.loc b),k2] S:=by
     unfold zDL
     simp? [lb,zCN (S:=S) (j:=(rs.length:Nat)) (by omega),Int.toNat_natCast,zTO]
    rw [l3]at e3
    dsimp only
    cases hb3:zTK [] rs 0 with
    | some k=>
     rw [hb3]at e3
     rw [yI e3]
     rfl
    | none=>
     rw [hb3]at e3
     rw [zH e3]
     rfl
theorem yCP(l:Nat):zGE ts rs≠.loc l:=by
 unfold zGE
 split<;>simp
theorem yNS{n:Nat}:lo n (zGE ts rs):=by
 unfold zGE
 split
 ·exact zSN _
 ·exact yEW (zSO fun e he=>by
   simp only [List.mem_cons,List.not_mem_nil,or_false]at he
   rcases he with rfl | rfl<;>exact zSM _ _)
theorem yNT(ha:S[a]? =some (.lst ts))(hb:S[b]? =some (.lst rs))(hA: ∀d∈ts,pq d=true)(hR: ∀d∈rs,pq d=true)(h4:ts.length≤4)(h60:rs.length≤60):zM 2 nY [.val (.loc a),.val (.loc b)] S=.ok (.val (zGE ts rs)) S:=
 kP rfl (yJT ha hb hA hR h4 h60) yNS yCP
end
theorem yGN{S:Sto}{n:Nat}{c:Str}{fs:List (Str×MV)}(h:S[n]? =some (.ins c fs))(hc:c∈XNS)(c2:Str):zEE XNS c2 (.val (.loc n)) S=.ok (.val (.bl (decide (c=c2)))) S:=by
 unfold zEE
 dsimp only
 rw [h]
 dsimp only
 rw [if_pos hc]
theorem yNU{S:Sto}{n:Nat}{c:Str}{fs:List (Str×MV)}(h:S[n]? =some (.ins c fs))(hc:c∈XNS):yFE XNS (.val (.loc n)) S=.ok (.val (.bl true)) S:=by
 unfold yFE
 dsimp only
 rw [h]
 dsimp only
 rw [if_pos hc]
theorem yNV{S:Sto}{n k:Nat}{c:Str}(h:S[n]? =some (.ins c (NQ k)))(hc:c∈XNS):yFN XNS "place" (.val (.loc n)) S=.ok (.val (.int (k:Nat))) S:=by
 unfold yFN
 dsimp only
 rw [h]
 dsimp only
 rw [if_pos hc]
 rfl
theorem yGO{n:Nat}{F:List MV→Sto→R Er}{rs:List Er}{S T:Sto}{l:Nat}{ds:List MV}{as:List MV}(hn:rs.length=n)(hE:zY rs S=(as,S))(hF:F as S=.ok (.val (.loc l)) (S++T))(h1:S.length≤l)(h2:(S++T)[l]? =some (.lst ds))(h:loL S.length ds):zM n F rs S=.ok (.new ds) S:=by
 have hF':F (zY rs S).1 (zY rs S).2=.ok (.val (.loc l)) (S++T):=by rw [hE];exact hF
 exact yEY hn hF' h1 h2 h
abbrev bq(c x:Str):MV:=.bl (decide (c=x))
abbrev K4(c:Str):List MV:=[bq c "TooGreat",bq c "NoTable",bq c "NoRule",bq c "NoRow"]
abbrev K8(c:Str):List MV:=[bq c "Twice",bq c "NoText",bq c "NoPlace",bq c "NotPlain"]
abbrev K12(c:Str):List MV:=[bq c "NoQuestion",bq c "Double",bq c "TooWide",bq c "Ring"]
abbrev KL(c:Str):List MV:=K4 c++K8 c++K12 c
theorem yGP{S:Sto}{n:Nat}{c:Str}{fs:List (Str×MV)}(h:S[n]? =some (.ins c fs))(hc:c∈XNS):zM 1 gM [.val (.loc n)] S=.ok (.new (KL c)) S:=by
 have H: ∀(L:Sto)(c2:Str),zEE XNS c2 (.val (.loc n)) (S++L)=.ok (.val (.bl (decide (c=c2)))) (S++L):=fun L c2=>yGN (kF h) hc c2
 have H0: ∀c2:Str,zEE XNS c2 (.val (.loc n)) S=.ok (.val (.bl (decide (c=c2)))) S:=fun c2=>yGN h hc c2
 have l1: ∀a,(S++[a]).length=S.length+1:=fun a=>by rw [List.length_append];rfl
 have l2: ∀a b,(S++[a,b]).length=S.length+2:=fun a b=>by rw [List.length_append];rfl
 have e1:nK [some (.loc n),none] S=.ok (.next [some (.loc n),some (.loc S.length)]) (S++[.lst (K4 c)]):=by
  unfold nK
  simp? [H0,yGD]
 have a2:jH (.val (.loc S.length)) (.new (K8 c)) (S++[.lst (K4 c)])=.ok (.new (K4 c++K8 c)) (S++[.lst (K4 c)]):=zKE (zMD (zAR _ _)) rfl (fits (show 4+4≤1000000 by decide))
 have e2:nL [some (.loc n),some (.loc S.length)] (S++[.lst (K4 c)])=.ok (.next [some (.loc n),some (.loc (S.length+1))]) (S++[.lst (K4 c),.lst (K4 c++K8 c)]):=by
  unfold nL
  simp? [H,yGD,a2,l1,List.append_assoc]
  rfl
 have a3:jH (.val (.loc (S.length+1))) (.new (K12 c)) (S++[.lst (K4 c),.lst (K4 c++K8 c)])=.ok (.new (KL c)) (S++[.lst (K4 c),.lst (K4 c++K8 c)]):=zKE (zMD (yFY _ _ _)) rfl (fits (show 8+4≤1000000 by decide))
 have e3:nM [some (.loc n),some (.loc (S.length+1))] (S++[.lst (K4 c),.lst (K4 c++K8 c)])=.ok (.next [some (.loc n),some (.loc (S.length+2))]) (S++[.lst (K4 c),.lst (K4 c++K8 c),.lst (KL c)]):=by
  unfold nM
  simp? [H,yGD,a3,l2]
  rw [List.append_assoc]
  rfl
 have e4: ∀T,zFB [some (.loc n),some (.loc (S.length+2))] T=.ok (.ret (.val (.loc (S.length+2)))) T:=fun T=>rfl
 refine yGO (T:=[.lst (K4 c),.lst (K4 c++K8 c),.lst (KL c)]) (l:=S.length+2) (as:=[.loc n]) rfl rfl ?_ (by omega) (zFI (i:=2) rfl) (zSO fun e he=>?_)
 ·show yO (zDB [some (.loc n),none] S)=_
  unfold zDB
  rw [zH e1,zH e2,zH e3,e4]
  rfl
 ·simp only [KL,K4,K8,K12,List.cons_append,List.nil_append,List.mem_cons,List.not_mem_nil,or_false]at he
  rcases he with rfl | rfl | rfl | rfl | rfl | rfl | rfl | rfl | rfl | rfl | rfl | rfl<;>exact zZU _ _
theorem ne_ln{S:Sto}{l:Nat}{ds:List MV}(hl:S[l]? =some (.lst ds))(hd: ∀d∈ds,pq d=true∧dpt d<40):neF (.val (.loc l)) (.new ds) S=.ok (.val (.bl false)) S:=by
 have e:vwE S (.val (.loc l))=some (.ls ds):=by
  show(gH S (.val (.loc l))).map Vw.ls=_
  rw [bX hl];rfl
 have q:zGD S yD (.val (.loc l)) (.new ds)=some true:=by
  unfold zGD
  rw [e]
  show(if ds.length=ds.length then(prs (eqv S 40) ds ds).map fun bs=>bs.all id else some false)=_
  rw [if_pos rfl,zJJ fun d hd'=>eqv_refl 40 (hd d hd').1 (hd d hd').2]
  show some ((ds.map fun _=>true).all id)=_
  rw [zKU]
 unfold neF
 rw [q]
 rfl
abbrev WL(w:Int):List MV:=(List.range 12).map fun k=>.bl (decide (((k:Nat):Int)=w))
theorem yNW{w:Int}(h:w=1∨w=3∨w=4):cls w∈XNS∧KL (cls w)=WL w:=by
 rcases h with rfl | rfl | rfl
 ·exact⟨by decide,rfl⟩
 ·exact⟨by decide,rfl⟩
 ·exact⟨by decide,rfl⟩
theorem bad_w{ts rs:List MV}{w:Int}{k:Nat}(h:bT ts rs=some (w,k)):w=1∨w=3∨w=4:=by
 unfold bT at h
 split at h
 ·cases h;exact .inl rfl
 ·unfold zHM at h
  split at h
  ·cases h;exact .inr (.inl rfl)
  ·split at h
   ·cases h;exact .inr (.inr rfl)
   ·cases h
section
variable{ts rs:List MV}{p u v x k:Nat}{w:Int}{S:Sto}
theorem yNX(hp:S[p]? =some (.lst [.loc u,.loc v,.loc x]))(hu:S[u]? =some (.lst ts))(hv:S[v]? =some (.lst []))(hx:S[x]? =some (.lst rs))(hA: ∀d∈ts,pq d=true)(hR: ∀d∈rs,pq d=true)(h4:ts.length≤4)(h60:rs.length≤60)(hb:bT ts rs=some (w,k)):
  zM 3 gN [.val (.loc p),.val (.int w),.val (.int (k:Nat))] S=.ok (.val (.bl true)) S:=by
 have hw:=bad_w hb
 obtain⟨hc,hkl⟩:=yNW hw
 have w0:decide (0<w)=true:=decide_eq_true (by omega)
 have w1:decide (w=0)=false:=decide_eq_false (by omega)
 have l1:(S++[MO.lst []]).length=S.length+1:=by rw [List.length_append];rfl
 have l2: ∀a,(S++[MO.lst [],a]).length=S.length+2:=fun a=>by rw [List.length_append];rfl
 have bk:jM 3 gE [.val (.loc u),.val (.loc v),.val (.loc x)] (S++[.lst []])=.exc (cls w) (NQ k) (S++[.lst []]):=by
  have:=zVX (S:=S++[.lst []]) (a:=.loc u) (b:=.loc v) (c:=.loc x) (.inr ⟨_,rfl,kF hu⟩) (.inr ⟨_,rfl,kF hv⟩) (.inr ⟨_,rfl,kF hx⟩) hA hR h4 h60
  rw [hb]at this
  exact zOT (T:=[]) rfl (by rw [List.append_nil];exact this)
 have e1:bH [some (.loc p),some (.int w),some (.int (k:Nat)),none,none,none] S=.ok (.next [some (.loc p),some (.int w),some (.int (k:Nat)),some (.loc S.length),none,none]) (S++[.lst []]):=by
  unfold bH
  simp? [bok]
 have e2:zBZ [some (.loc p),some (.int w),some (.int (k:Nat)),some (.loc S.length),none,none] (S++[.lst []])=.ok (.next [some (.loc p),some (.int w),some (.int (k:Nat)),some (.loc S.length),some .non,none]) (S++[.lst []]):=rfl
 have gi:(S++[MO.lst [],.ins (cls w) (NQ k)])[S.length+1]? =some (.ins (cls w) (NQ k)):=zFI (i:=1) rfl
 have ad:jH (.new (KL (cls w))) (.new [.bl true]) (S++[.lst [],.ins (cls w) (NQ k)])=.ok (.new (KL (cls w)++[.bl true])) (S++[.lst [],.ins (cls w) (NQ k)]):=zKE rfl rfl (fits (show 12+1≤1000000 by decide))
 have h1:hJ [some (.loc p),some (.int w),some (.int (k:Nat)),some (.loc S.length),some .non,some (.loc (S.length+1))] (S++[.lst [],.ins (cls w) (NQ k)])=.ok (.next [some (.loc p),some (.int w),some (.int (k:Nat)),some (.loc (S.length+2)),some .non,some (.loc (S.length+1))]) (S++[.lst [],.ins (cls w) (NQ k),.lst (KL (cls w)++[.bl true])]):=by
  unfold hJ
  simp? [yGP gi hc,yNU gi hc,ad,l2]
  rw [List.append_assoc]
  rfl
 generalize hS:S++[.lst [],.ins (cls w) (NQ k),.lst (KL (cls w)++[.bl true])]=S3 at h1
 have gi3:S3[S.length+1]? =some (.ins (cls w) (NQ k)):=by rw [←hS];exact zFI (i:=1) rfl
 have gl3:S3[S.length+2]? =some (.lst (KL (cls w)++[.bl true])):=by rw [←hS];exact zFI (i:=2) rfl
 have h2:hU [some (.loc p),some (.int w),some (.int (k:Nat)),some (.loc (S.length+2)),some .non,some (.loc (S.length+1))] S3=.ok (.next [some (.loc p),some (.int w),some (.int (k:Nat)),some (.loc (S.length+2)),some (.int (k:Nat)),some (.loc (S.length+1))]) S3:=by
  unfold hU
  simp? [gt_int,w0,yNV gi3 hc]
 have hh:bG [some (.loc p),some (.int w),some (.int (k:Nat)),some (.loc S.length),some .non,some (.loc (S.length+1))] (S++[.lst [],.ins (cls w) (NQ k)])=.ok (.next [some (.loc p),some (.int w),some (.int (k:Nat)),some (.loc (S.length+2)),some (.int (k:Nat)),some (.loc (S.length+1))]) S3:=by
  unfold bG
  rw [zH h1,h2]
 have e3:bI [some (.loc p),some (.int w),some (.int (k:Nat)),some (.loc S.length),some .non,none] (S++[.lst []])=.ok (.next [some (.loc p),some (.int w),some (.int (k:Nat)),some (.loc (S.length+2)),some (.int (k:Nat)),none]) S3:=by
  unfold bI
  have j0:ixF (.val (.loc p)) (.val (.int 0)) (S++[.lst []])=.ok (.val (.loc u)) (S++[.lst []]):=jY (kF hp) rfl
  have j1:ixF (.val (.loc p)) (.val (.int 1)) (S++[.lst []])=.ok (.val (.loc v)) (S++[.lst []]):=jY (kF hp) rfl
  have j2:ixF (.val (.loc p)) (.val (.int 2)) (S++[.lst []])=.ok (.val (.loc x)) (S++[.lst []]):=jY (kF hp) rfl
  simp? [j0,j1,j2,kY,bk]
  unfold yFI
  dsimp only
  rw [if_pos hc,l1,List.append_assoc]
  rw [show [MO.lst []]++[MO.ins (cls w) (NQ k)]=[.lst [],.ins (cls w) (NQ k)]from rfl]
  simp only [List.set_cons_zero,List.set_cons_succ]
  rw [hh]
  rfl
 have hcm:yU (gNm 0) nN hV [none,some (.int w)] [] ((List.range 12).map fun k=>MV.int (k:Nat)) S3=.ok (WL w) S3:=by
  rw [zER (F:=fun d=>match d with | .int i=>.bl (decide (i=w)) | _=>.non) (dM _) fun d hd=>by
   obtain⟨i,_,rfl⟩:=List.mem_map.mp hd
   refine⟨[some (.int (i:Nat)),some (.int w)],rfl,rfl,?_⟩
   unfold hV
   simp? [bok],List.map_map]
  rfl
 have ad2:jH (.new (WL w)) (.new [.bl true]) S3=.ok (.new (WL w++[.bl true])) S3:=zKE rfl rfl (fits (show 12+1≤1000000 by decide))
 rw [hkl]at gl3
 have nn:=ne_ln gl3 fun d hd=>by
  have: ∃b,d=.bl b:=by
   rcases List.mem_append.mp hd with hd | hd
   ·obtain⟨i,_,rfl⟩:=List.mem_map.mp hd;exact⟨_,rfl⟩
   ·rw [List.mem_singleton.mp hd];exact⟨_,rfl⟩
  obtain⟨b,rfl⟩:=this
  exact⟨yKJ b,by simp [dpt]⟩
 have e4:bJ [some (.loc p),some (.int w),some (.int (k:Nat)),some (.loc (S.length+2)),some (.int (k:Nat)),none] S3=.ok (.next [some (.loc p),some (.int w),some (.int (k:Nat)),some (.loc (S.length+2)),some (.int (k:Nat)),none]) S3:=by
  unfold bJ
  simp? [zCN (S:=S3) (j:=12) (by omega),show(12:Int).toNat=12 from rfl,List.length_map,List.length_range,show((12:Nat)<1000000)=True from by simp,show blk 1 [1] [some (.loc p),some (.int w),some (.int (k:Nat)),some (.loc (S.length+2)),some (.int (k:Nat)),none]=[none,some (.int w)]from rfl,hcm,ad2,nn,Bool.false_eq_true,if_false]
 have e5:bK [some (.loc p),some (.int w),some (.int (k:Nat)),some (.loc (S.length+2)),some (.int (k:Nat)),none] S3=.ok (.ret (.val (.bl true))) S3:=by
  unfold bK
  simp? [w1,orF,Bool.false_eq_true,if_false,zYG,wU,Bool.not_false,decide_true]
 refine zIQ (T:=[.lst [],.ins (cls w) (NQ k),.lst (KL (cls w)++[.bl true])]) rfl ?_ (zZU _ _) (fun l=>by simp)
 show yO (nO [some (.loc p),some (.int w),some (.int (k:Nat)),none,none,none] S)=_
 unfold nO
 rw [zH e1,zH e2,zH e3,zH e4,e5,hS]
 rfl
end
theorem zTP{S:Sto}{gf:MV→Rho→Sto→R Rho}{cf:Rho→Sto→R Bool}{ef:Rho→Sto→R Er}{ρb:Rho}{P:MV→Prop}:
  ∀{ds:List MV},(∀d∈ds, ∃ρ1 y,gf d ρb S=.ok ρ1 S∧cf ρ1 S=.ok true S∧ef ρ1 S=.ok (.val y) S∧P y)→ ∃ys,ys.length=ds.length∧(∀y∈ys,P y)∧yU gf cf ef ρb [] ds S=.ok ys S
 | [],_=>⟨[],rfl,by simp,rfl⟩
 | d::ds,st=>by
  obtain⟨ρ1,y,h1,h2,h3,hy⟩:=st d List.mem_cons_self
  obtain⟨ys,hl,hP,e⟩:=zTP (ds:=ds) fun d hd=>st d (List.mem_cons_of_mem _ hd)
  refine⟨y::ys,by rw [List.length_cons,List.length_cons,hl],fun z hz=>?_,?_⟩
  ·rcases List.mem_cons.mp hz with rfl | hz
   ·exact hy
   ·exact hP z hz
  ·unfold yU
   rw [h1,kY,bok,h2,kY,bok,if_pos rfl,h3,kY,bok]
   unfold zAY
   rw [bok,if_pos (dM _),e]
   rfl
theorem zVZ{S:Sto}{gf:MV→Rho→Sto→R Rho}{cf:Rho→Sto→R Bool}{ef:Rho→Sto→R Er}{ρb:Rho}{P:MV→Prop}:
  ∀{ds:List MV},(∀d∈ds, ∃ρ1 b y,gf d ρb S=.ok ρ1 S∧cf ρ1 S=.ok b S∧ef ρ1 S=.ok (.val y) S∧P y)→ ∃ys,ys.length≤ds.length∧(∀y∈ys,P y)∧yU gf cf ef ρb [] ds S=.ok ys S
 | [],_=>⟨[],Nat.le_refl _,by simp,rfl⟩
 | d::ds,st=>by
  obtain⟨ρ1,b,y,h1,h2,h3,hy⟩:=st d List.mem_cons_self
  obtain⟨ys,hl,hP,e⟩:=zVZ (ds:=ds) fun d hd=>st d (List.mem_cons_of_mem _ hd)
  cases b with
  | true=>
   refine⟨y::ys,by rw [List.length_cons,List.length_cons];omega,fun z hz=>?_,?_⟩
   ·rcases List.mem_cons.mp hz with rfl | hz
    ·exact hy
    ·exact hP z hz
   ·unfold yU
    rw [h1,kY,bok,h2,kY,bok,if_pos rfl,h3,kY,bok]
    unfold zAY
    rw [bok,if_pos (dM _),e]
    rfl
  | false=>
   refine⟨ys,by rw [List.length_cons];omega,hP,?_⟩
   unfold yU
   rw [h1,kY,bok,h2,kY,bok,if_neg Bool.false_ne_true,if_pos (dM _),e]
theorem zDN{n:Nat}{a b:MV}(h1:Td n a)(h2:Td n b):Td (n+1) (.tup [a,b]):=zHL (fun e he=>by
 simp only [List.mem_cons,List.not_mem_nil,or_false]at he
 rcases he with rfl | rfl
 ·exact h1
 ·exact h2) (by simp)
theorem td_1{n:Nat}{a:MV}(h1:Td n a):Td (n+1) (.tup [a]):=zHL (fun e he=>by
 rw [List.mem_singleton.mp he];exact h1) (by simp)
theorem td_3{n:Nat}{a b c:MV}(h1:Td n a)(h2:Td n b)(h3:Td n c):Td (n+1) (.tup [a,b,c]):=zHL (fun e he=>by
 simp only [List.mem_cons,List.not_mem_nil,or_false]at he
 rcases he with rfl | rfl | rfl
 ·exact h1
 ·exact h2
 ·exact h3) (by simp)
theorem Td.noloc{n:Nat}{d:MV}(h:Td n d)(l:Nat):d≠.loc l:=yFZ h.1 l
abbrev O6(w:Int):List MV:=[.tup [.int w,.int (w+1)],.tup [.int 5,.int 1],.tup [.int 0,.int 0],.tup [.int w,.int (-1)],.tup [.bl true,.int 0],.tup [.int w,.bl false]]
abbrev O4(w:Int):List MV:=[.tup [.int w],.tup [.int w,.int 0,.int 0],.tup [.str [97],.int 1],.non]
abbrev O5(n:Int):List MV:=[.tup [.int 2,.non],.tup [.int (10 ^ 30+n),.int 1],.tup [.int (-1),.int (-1)],.int 7,.tup [.int 2,.str [49]]]
theorem yNY(w n:Int): ∀d∈O6 w++O4 w++O5 n,Td 1 d:=by
 have i: ∀k,Td 0 (.int k):=kU 0
 have b: ∀k,Td 0 (.bl k):=yAN 0
 have s: ∀k,Td 0 (.str [k]):=fun k=>zDM 0 (by simp)
 intro d hd
 simp only [O6,O4,O5,List.cons_append,List.nil_append,List.mem_cons,List.not_mem_nil,or_false]at hd
 rcases hd with rfl | rfl | rfl | rfl | rfl | rfl | rfl | rfl | rfl | rfl | rfl | rfl | rfl | rfl | rfl
 ·exact zDN (i _) (i _)
 ·exact zDN (i _) (i _)
 ·exact zDN (i _) (i _)
 ·exact zDN (i _) (i _)
 ·exact zDN (b _) (i _)
 ·exact zDN (i _) (b _)
 ·exact td_1 (i _)
 ·exact td_3 (i _) (i _) (i _)
 ·exact zDN (s _) (i _)
 ·exact zOR 1
 ·exact zDN (i _) (zOR 0)
 ·exact zDN (i _) (i _)
 ·exact zDN (i _) (i _)
 ·exact kU 1 _
 ·exact zDN (i _) (s _)
theorem yNZ(c:Int)(S:Sto): ∃d,Td 1 d∧zM 1 wI [.val (.int c)] S=.ok (.val d) S:=by
 obtain⟨n,hn,_⟩:=mix5 c 2147483587 (by decide) S
 have w0:(0:Int)<n % 4+1+1:=by omega
 have e1:nP [some (.int c),none,none,none] S=.ok (.next [some (.int c),some (.int n),none,none]) S:=by
  unfold nP
  simp? [hn]
 have e2:nQ [some (.int c),some (.int n),none,none] S=.ok (.next [some (.int c),some (.int n),some (.int (n % 4+1)),none]) S:=by
  unfold nQ
  simp? [mod_lit (show(0:Int)<4 by decide)]
 generalize n % 4+1=w at e2 w0
 have e3:nR [some (.int c),some (.int n),some (.int w),none] S=if decide (0<n / 4 % 8)=true then .ok (.ret (.val (.tup [.int w,.int (n / 32 % (w+1))]))) S else .ok (.next [some (.int c),some (.int n),some (.int w),none]) S:=by
  unfold nR
  simp? [xL (show(0:Int)<4 by decide) (show(4:Int)<1073741824 by decide),mod_lit (show(0:Int)<8 by decide),gt_int,xL (show(0:Int)<32 by decide) (show(32:Int)<1073741824 by decide),mod_lit w0]
 have hs:zS zCP [.int c]=[some (.int c),none,none,none]:=rfl
 cases hb:decide (0<n / 4 % 8)with
 | true=>
  rw [hb,if_pos rfl]at e3
  have ht:Td 1 (.tup [.int w,.int (n / 32 % (w+1))]):=zDN (kU 0 _) (kU 0 _)
  refine⟨_,ht,kP rfl ?_ (ht.lo _) ht.noloc⟩
  show wI [.int c] S=_
  unfold wI zDC
  rw [hs,zH e1,zH e2,yI e3]
  rfl
 | false=>
  rw [hb,if_neg Bool.false_ne_true]at e3
  have e4:nS [some (.int c),some (.int n),some (.int w),none] S=.ok (.next [some (.int c),some (.int n),some (.int w),some (.loc S.length)]) (S++[.lst (O6 w)]):=by
   unfold nS
   simp? [bok]
  have l4: ∀a b c d:MV, ∀S,wZ [.val a,.val b,.val c,.val d] S=.ok (.new [a,b,c,d]) S:=yGD
  have a5:jH (.val (.loc S.length)) (.new (O4 w)) (S++[.lst (O6 w)])=.ok (.new (O6 w++O4 w)) (S++[.lst (O6 w)]):=zKE (zMD (zAR _ _)) rfl (fits (show 6+4≤1000000 by decide))
  have l1:(S++[MO.lst (O6 w)]).length=S.length+1:=by rw [List.length_append];rfl
  have e5:nU [some (.int c),some (.int n),some (.int w),some (.loc S.length)] (S++[.lst (O6 w)])=.ok (.next [some (.int c),some (.int n),some (.int w),some (.loc (S.length+1))]) (S++[.lst (O6 w),.lst (O6 w++O4 w)]):=by
   unfold nU
   simp? [tup1,l4,a5,l1,List.append_assoc]
   rfl
  have a6:jH (.val (.loc (S.length+1))) (.new (O5 n)) (S++[.lst (O6 w),.lst (O6 w++O4 w)])=.ok (.new (O6 w++O4 w++O5 n)) (S++[.lst (O6 w),.lst (O6 w++O4 w)]):=zKE (zMD (yFY _ _ _)) rfl (fits (show 10+5≤1000000 by decide))
  obtain⟨d,hd⟩:=cV (xs:=O6 w++O4 w++O5 n) (i:=n / 32 % 15) (by omega) (by show n / 32 % 15<((15:Nat):Int);omega)
  have ht:Td 1 d:=cW (yNY w n) hd
  have e6:nV [some (.int c),some (.int n),some (.int w),some (.loc (S.length+1))] (S++[.lst (O6 w),.lst (O6 w++O4 w)])=.ok (.ret (.val d)) (S++[.lst (O6 w),.lst (O6 w++O4 w)]):=by
   unfold nV
   simp? [pp30,lst5,a6,xL (show(0:Int)<32 by decide) (show(32:Int)<1073741824 by decide),mod_lit (show(0:Int)<15 by decide),zNY hd]
  refine⟨d,ht,zIQ (T:=[.lst (O6 w),.lst (O6 w++O4 w)]) rfl ?_ (ht.lo _) ht.noloc⟩
  show wI [.int c] S=_
  unfold wI zDC
  rw [hs,zH e1,zH e2,zH e3,zH e4,zH e5,e6]
  rfl
theorem td_vl{d:MV}(h:Vl d):Td 1 d:=by
 cases d with
 | int i=>exact kU 1 i
 | str x=>exact zDM 1 (by have:=h.2.1;omega)
 | _=>exact h.elim
abbrev C10:List MV:=[.bl true,.non,.str [],.str [65,98,99],.int (10 ^ 30),.int (0 - 10 ^ 30),.str [97,98,99,100,101,102,103,104,105],.tup [.int 1],.bl false,.str [97,49]]
theorem yOA: ∀d∈C10,Td 1 d:=by
 intro d hd
 simp only [C10,List.mem_cons,List.not_mem_nil,or_false]at hd
 rcases hd with rfl | rfl | rfl | rfl | rfl | rfl | rfl | rfl | rfl | rfl
 ·exact yAN 1 _
 ·exact zOR 1
 ·exact zDM 1 (by simp)
 ·exact zDM 1 (by simp)
 ·exact kU 1 _
 ·exact kU 1 _
 ·exact zDM 1 (by simp)
 ·exact td_1 (kU 0 _)
 ·exact yAN 1 _
 ·exact zDM 1 (by simp)
theorem td_c4: ∀d∈[MV.int 1,.int 2,.str [97],.str [98]],Td 1 d:=by
 intro d hd
 simp only [List.mem_cons,List.not_mem_nil,or_false]at hd
 rcases hd with rfl | rfl | rfl | rfl
 ·exact kU 1 _
 ·exact kU 1 _
 ·exact zDM 1 (by simp)
 ·exact zDM 1 (by simp)
theorem lst10(a b c d e f g h i j:MV)(S:Sto):wZ [.val a,.val b,.val c,.val d,.val e,.val f,.val g,.val h,.val i,.val j] S=.ok (.new [a,b,c,d,e,f,g,h,i,j]) S:=dN (by simp)
theorem cl_ok(c:Int)(S:Sto): ∃d,Td 1 d∧zM 1 jB [.val (.int c)] S=.ok (.val d) S:=by
 obtain⟨d1,hd1⟩:=cV (xs:=C10) (i:=c / 16 % 10) (by omega) (by show c / 16 % 10<((10:Nat):Int);omega)
 obtain⟨d2,hd2⟩:=cV (xs:=[MV.int 1,.int 2,.str [97],.str [98]]) (i:=c / 4 % 4) (by omega) (by show c / 4 % 4<((4:Nat):Int);omega)
 obtain⟨d3,hd3,hv3⟩:=yFX (c / 4) S
 have t3:=td_vl hv3
 have c3:zM 1 jJ [.val (.int (c / 4))] S=.ok (.val d3) S:=kP rfl hd3 (t3.lo _) t3.noloc
 have e1:zBF [some (.int c)] S=if decide (c % 16=3)=true then .ok (.ret (.val d1)) S else .ok (.next [some (.int c)]) S:=by
  unfold zBF
  simp? [mod_lit (show(0:Int)<16 by decide),pp30,tup1,lst10,xL (show(0:Int)<16 by decide) (show(16:Int)<1073741824 by decide),mod_lit (show(0:Int)<10 by decide),zNY hd1]
 have e2:zBG [some (.int c)] S=if decide (c % 4<3)=true then .ok (.ret (.val d2)) S else .ok (.next [some (.int c)]) S:=by
  unfold zBG
  simp? [mod_lit (show(0:Int)<4 by decide),lt_int,yGD,xL (show(0:Int)<4 by decide) (show(4:Int)<1073741824 by decide),zNY hd2]
 have e3:zBH [some (.int c)] S=.ok (.ret (.val d3)) S:=by
  unfold zBH
  simp? [xL (show(0:Int)<4 by decide) (show(4:Int)<1073741824 by decide),c3]
 have hs:zS ["_law_cell_here"] [.int c]=[some (.int c)]:=rfl
 have fin: ∀d,Td 1 d→jB [.int c] S=.ok (.val d) S→ ∃d,Td 1 d∧zM 1 jB [.val (.int c)] S=.ok (.val d) S:=fun d ht h=>⟨d,ht,kP rfl h (ht.lo _) ht.noloc⟩
 unfold jB zLL at fin
 rw [hs]at fin
 cases h1:decide (c % 16=3)with
 | true=>
  rw [h1,if_pos rfl]at e1
  exact fin d1 (cW yOA hd1) (by rw [yI e1];rfl)
 | false=>
  rw [h1,if_neg Bool.false_ne_true]at e1
  cases h2:decide (c % 4<3)with
  | true=>
   rw [h2,if_pos rfl]at e2
   exact fin d2 (cW td_c4 hd2) (by rw [zH e1,yI e2];rfl)
  | false=>
   rw [h2,if_neg Bool.false_ne_true]at e2
   exact fin d3 t3 (by rw [zH e1,zH e2,e3];rfl)
theorem p109(S:Sto):bV (.val (.int 10)) (.val (.int 9)) S=.ok (.val (.int (10 ^ 9))) S:=rfl
abbrev R8(n:Int):List MV:=[.tup [.int n,.tup [.int 1]],.tup [.int (-1),.tup [.int 1]],.tup [.bl true,.tup [.int 1]],.tup [.int 0],.non,.tup [.int 0,.int 1],.tup [.str [48],.tup [.int 1]],.tup [.int 0,.non]]
theorem td_r8(n:Int): ∀d∈R8 n,Td 3 d:=by
 have o:Td 2 (.tup [.int 1]):=td_1 (kU 1 _)
 intro d hd
 simp only [R8,List.mem_cons,List.not_mem_nil,or_false]at hd
 rcases hd with rfl | rfl | rfl | rfl | rfl | rfl | rfl | rfl
 ·exact zDN (kU 2 _) o
 ·exact zDN (kU 2 _) o
 ·exact zDN (yAN 2 _) o
 ·exact td_1 (kU 2 _)
 ·exact zOR 3
 ·exact zDN (kU 2 _) (kU 2 _)
 ·exact zDN (zDM 2 (by simp)) o
 ·exact zDN (kU 2 _) (zOR 2)
section
variable{ts:List MV}{S:Sto}{a:Nat}
theorem yOB(c:Int)(ha:S[a]? =some (.lst ts))(hT: ∀p∈ts,tbD p=true)(h1:1≤ts.length)(h4:ts.length≤4): ∃d,Td 3 d∧zM 2 jC [.val (.int c),.val (.loc a)] S=.ok (.val d) S:=by
 obtain⟨n,hn,_⟩:=mix5 c 2147483563 (by decide) S
 have la:xX [.val (.loc a)] S=.ok (.val (.int (ts.length:Nat))) S:=SqM.len (.inr ⟨_,rfl,ha⟩)
 have hp:(0:Int)<(ts.length:Nat):=by omega
 have t0:0≤n % (ts.length:Nat):=Int.emod_nonneg _ (by omega)
 have t1:n % (ts.length:Nat)<(ts.length:Nat):=Int.emod_lt_of_pos _ hp
 have e1:zDD [some (.int c),some (.loc a),none,none,none,none] S=.ok (.next [some (.int c),some (.loc a),some (.int n),none,none,none]) S:=by
  unfold zDD
  simp? [hn]
 have e2:zDE [some (.int c),some (.loc a),some (.int n),none,none,none] S=.ok (.next [some (.int c),some (.loc a),some (.int n),some (.int (n % (ts.length:Nat))),none,none]) S:=by
  unfold zDE
  simp? [la,mod_lit hp]
 generalize n % (ts.length:Nat)=t at e2 t0 t1
 obtain⟨p,_,q2,q3⟩:=yAQ t0 t1
 obtain⟨w,k,hpe,w1,w4,_⟩:=yAP (hT p q3)
 have hwd:wdt p=w:=by rw [hpe];rfl
 have e3:zDF [some (.int c),some (.loc a),some (.int n),some (.int t),none,none] S=.ok (.next [some (.int c),some (.loc a),some (.int n),some (.int t),some (.int w),none]) S:=by
  unfold zDF
  simp? [jY ha q2,ix_w (hT p q3),hwd]
 obtain⟨d8,hd8⟩:=cV (xs:=R8 (ts.length:Nat)) (i:=n / 64 % 8) (by omega) (by show n / 64 % 8<((8:Nat):Int);omega)
 have e4:zDG [some (.int c),some (.loc a),some (.int n),some (.int t),some (.int w),none] S=if decide (n / 4 % 16=1)=true then .ok (.ret (.val d8)) (S++[.lst (R8 (ts.length:Nat))])else .ok (.next [some (.int c),some (.loc a),some (.int n),some (.int t),some (.int w),none]) S:=by
  unfold zDG
  simp? [xL (show(0:Int)<4 by decide) (show(4:Int)<1073741824 by decide),mod_lit (show(0:Int)<16 by decide)]
  cases decide (n / 4 % 16=1)with
  | false=>rfl
  | true=>
   rw [if_pos rfl,if_pos rfl,zH (ρ':=[some (.int c),some (.loc a),some (.int n),some (.int t),some (.int w),some (.loc S.length)]) (S':=S++[.lst (R8 (ts.length:Nat))]) (by simp? [la,tup1,lst8])]
   simp? [xL (show(0:Int)<64 by decide) (show(64:Int)<1073741824 by decide),mod_lit (show(0:Int)<8 by decide),jY (zAR S _) hd8]
 have hs:zS zCQ [.int c,.loc a]=[some (.int c),some (.loc a),none,none,none,none]:=rfl
 cases hb:decide (n / 4 % 16=1)with
 | true=>
  rw [hb,if_pos rfl]at e4
  have ht:=cW (td_r8 (ts.length:Nat)) hd8
  refine⟨d8,ht,zIQ (T:=[.lst (R8 (ts.length:Nat))]) rfl ?_ (ht.lo _) ht.noloc⟩
  show jC [.int c,.loc a] S=_
  unfold jC zHJ
  rw [hs,zH e1,zH e2,zH e3,yI e4]
  rfl
 | false=>
  rw [hb,if_neg Bool.false_ne_true]at e4
  have e5: ∃v:Int,0≤v∧v≤5∧zDH [some (.int c),some (.loc a),some (.int n),some (.int t),some (.int w),none] S=.ok (.next [some (.int c),some (.loc a),some (.int n),some (.int t),some (.int v),none]) S:=by
   unfold zDH
   simp? [xL (show(0:Int)<4 by decide) (show(4:Int)<1073741824 by decide),mod_lit (show(0:Int)<16 by decide),xL (show(0:Int)<64 by decide) (show(64:Int)<1073741824 by decide),mod_lit (show(0:Int)<2 by decide),zIS (show -(2 ^ 64)<(2:Int)∧(2:Int)<2 ^ 64 by decide)]
   by_cases h2:n / 4 % 16=2
   ·rw [decide_eq_true h2,if_pos rfl]
    exact⟨w+1 - 2 * (n / 64 % 2),by omega,by omega,rfl⟩
   ·rw [decide_eq_false h2,if_neg Bool.false_ne_true]
    exact⟨w,by omega,by omega,rfl⟩
  obtain⟨v,v0,v5,e5⟩:=e5
  obtain⟨ys,hyl,hy,hc⟩:=zTP (S:=S) (gf:=gNm 0) (cf:=zFC) (ef:=nW) (ρb:=[none,some (.int c),some (.int n)]) (P:=Td 1) (ds:=(List.range v.toNat).map fun k=>MV.int (k:Nat)) fun d hd=>by
   obtain⟨j,hj,rfl⟩:=List.mem_map.mp hd
   have hj:=List.mem_range.mp hj
   obtain⟨y,hy,hcl⟩:=cl_ok (n / (64+13 * (j:Nat))+c / 5 % 10 ^ 9 * (j:Nat)) S
   refine⟨[some (.int (j:Nat)),some (.int c),some (.int n)],y,rfl,rfl,?_,hy⟩
   unfold nW
   simp? [zIS (show -(2 ^ 64)<(13:Int)∧(13:Int)<2 ^ 64 by decide),xL (show(0:Int)<64+13 * (j:Nat) by omega) (show(64+13 * (j:Nat):Int)<1073741824 by omega),xL (show(0:Int)<5 by decide) (show(5:Int)<1073741824 by decide),p109,mod_lit (show(0:Int)<10 ^ 9 by decide),zIR (show -(2 ^ 64)<((j:Nat):Int)∧((j:Nat):Int)<2 ^ 64 by omega),hcl]
  have hlt:((List.range v.toNat).map fun k=>MV.int (k:Nat)).length<1000000:=by rw [List.length_map,List.length_range];omega
  have e6:zDI [some (.int c),some (.loc a),some (.int n),some (.int t),some (.int v),none] S=.ok (.ret (.val (.tup [.int t,.tup ys]))) S:=by
   unfold zDI
   simp? [zCN (S:=S) (j:=v) (by omega),hlt,show blk 1 [0,2] [some (.int c),some (.loc a),some (.int n),some (.int t),some (.int v),none]=[none,some (.int c),some (.int n)]from rfl,hc,show∀(o:List MV)(S:Sto),dL [.new o] S=.ok (.val (.tup o)) S from fun o S=>rfl]
  rw [List.length_map,List.length_range]at hyl
  have ht:Td 3 (.tup [.int t,.tup ys]):=zDN (kU 2 _) (zHL (n:=1) hy (by omega))
  refine⟨_,ht,kP rfl ?_ (ht.lo _) ht.noloc⟩
  show jC [.int c,.loc a] S=_
  unfold jC zHJ
  rw [hs,zH e1,zH e2,zH e3,zH e4,zH e5,e6]
  rfl
end
theorem yAX{e:MV→MV→Option Bool}: ∀{ds es:List MV},(∀d∈ds, ∀f∈es, ∃b,e d f=some b)→ ∃bs,prs e ds es=some bs
 | [],_,_=>⟨[],by unfold prs;rfl⟩
 | _::_,[],_=>⟨[],by unfold prs;rfl⟩
 | d::ds,f::fs,h=>by
  obtain⟨b,hb⟩:=h d List.mem_cons_self f List.mem_cons_self
  obtain⟨bs,hbs⟩:=yAX (ds:=ds) (es:=fs) fun d hd f hf=>h d (List.mem_cons_of_mem _ hd) f (List.mem_cons_of_mem _ hf)
  exact⟨b::bs,by unfold prs;rw [hb,hbs];rfl⟩
theorem yAY{S:Sto}: ∀(n:Nat){d f:MV},pq d=true→pq f=true→dpt d<n→ ∃b,eqv S n d f=some b
 | 0,d,f,_,_,h=>by omega
 | n+1,d,f,hd,hf,h=>by
  rcases xI hd with⟨i,rfl⟩ | ⟨x,rfl,_⟩ | ⟨b,rfl⟩ | rfl | ⟨ds,rfl,hp,_⟩
  ·rcases xI hf with⟨i,rfl⟩ | ⟨x,rfl,_⟩ | ⟨b,rfl⟩ | rfl | ⟨es,rfl,_⟩<;>exact⟨_,rfl⟩
  ·rcases xI hf with⟨i,rfl⟩ | ⟨x,rfl,_⟩ | ⟨b,rfl⟩ | rfl | ⟨es,rfl,_⟩<;>exact⟨_,rfl⟩
  ·rcases xI hf with⟨i,rfl⟩ | ⟨x,rfl,_⟩ | ⟨b,rfl⟩ | rfl | ⟨es,rfl,_⟩<;>exact⟨_,rfl⟩
  ·rcases xI hf with⟨i,rfl⟩ | ⟨x,rfl,_⟩ | ⟨b,rfl⟩ | rfl | ⟨es,rfl,_⟩<;>exact⟨_,rfl⟩
  ·rcases xI hf with⟨i,rfl⟩ | ⟨x,rfl,_⟩ | ⟨b,rfl⟩ | rfl | ⟨es,rfl,hq,_⟩
   ·exact⟨_,rfl⟩
   ·exact⟨_,rfl⟩
   ·exact⟨_,rfl⟩
   ·exact⟨_,rfl⟩
   ·rw [dA]at h
    obtain⟨bs,hbs⟩:=yAX (e:=eqv S n) (ds:=ds) (es:=es) fun d hd f hf=>yAY n (hp d hd) (hq f hf) (by have:=zCC d hd;omega)
    exact⟨bs.all id&&ds.length==es.length,by
     show((prs (eqv S n) ds es).map fun bs=>bs.all id&&ds.length==es.length)=_
     rw [hbs]
     rfl⟩
theorem yAZ{S:Sto}{d:MV}(hd:pq d=true): ∀{ys:List MV},(∀y∈ys,pq y=true∧dpt y<40)→ ∃bs,zPP S yD d ys=some bs
 | [],_=>⟨[],rfl⟩
 | y::ys,h=>by
  obtain⟨b,hb⟩:=yAY (S:=S) yD (h y List.mem_cons_self).1 hd (h y List.mem_cons_self).2
  obtain⟨bs,hbs⟩:=yAZ hd (ys:=ys) fun z hz=>h z (List.mem_cons_of_mem _ hz)
  exact⟨b::bs,by unfold zPP;rw [hb,hbs];rfl⟩
theorem yOC{S:Sto}{d:MV}{ys:List MV}(hd:pq d=true)(h: ∀y∈ys,pq y=true∧dpt y<40): ∃b,inF true (.val d) (.new ys) S=.ok (.val (.bl b)) S:=by
 obtain⟨bs,hbs⟩:=yAZ (S:=S) hd h
 refine⟨!bs.any id,?_⟩
 rw [yAW]
 unfold zNV
 dsimp only
 rw [show itemsOf S (.new ys)=some ys from rfl]
 dsimp only
 rw [hbs]
 rfl
theorem yGQ{S:Sto}{l u v x n m o:Nat}{ds es fs:List MV}(hl:S[l]? =some (.lst [.loc u,.loc v,.loc x]))(hu:S[u]? =some (.lst ds))(hn:S[n]? =some (.lst ds))(hv:S[v]? =some (.lst es))(hm:S[m]? =some (.lst es))(hx:S[x]? =some (.lst fs))(ho:S[o]? =some (.lst fs))(hd: ∀d∈ds,pq d=true∧dpt d<39)(he: ∀d∈es,pq d=true∧dpt d<39)(hf: ∀d∈fs,pq d=true∧dpt d<39):
  eqF (.val (.loc l)) (.new [.loc n,.loc m,.loc o]) S=.ok (.val (.bl true)) S:=by
 have e:vwE S (.val (.loc l))=some (.ls [.loc u,.loc v,.loc x]):=by
  show(gH S (.val (.loc l))).map Vw.ls=_
  rw [bX hl];rfl
 have q:zGD S yD (.val (.loc l)) (.new [.loc n,.loc m,.loc o])=some true:=by
  unfold zGD
  rw [e]
  show((eqv S 40 (.loc u) (.loc n)).bind fun k=>((eqv S 40 (.loc v) (.loc m)).bind fun k=>((eqv S 40 (.loc x) (.loc o)).bind fun k=>(some ([]:List Bool)).map (k::·)).map (k::·)).map (k::·)).map (fun bs=>bs.all id)=_
  rw [zYH hu hn hd,zYH hv hm he,zYH hx ho hf]
  rfl
 unfold eqF
 rw [q]
theorem yKM{d:MV}(h:tbD d=true):pd d=true∧dpt d≤2∧sm d=true:=by
 obtain⟨w,k,rfl,_⟩:=yAP h
 refine⟨by simp [pd,pdL],by simp [dpt,zKT],by simp [sm,smL]⟩
theorem vl_sm{d:MV}(h:Vl d):sm d=true:=by
 cases d with
 | int i=>simp [sm]
 | str x=>simp [sm]
 | _=>exact h.elim
section
variable{ts rs:List MV}{B:Sto}{m:Nat}
theorem yOD{d:MV}(hT: ∀p∈ts,tbD p=true)(h:rwD ts d=true):sm d=true:=by
 obtain⟨t,cs,rfl,h4,hv⟩:=zYI hT h
 have h1:sm (.tup cs)=true:=by rw [zKV,decide_eq_true (show cs.length<1000 by omega),zMS fun c hc=>vl_sm (hv c hc)];rfl
 rw [zKV,nZ,nZ,h1,show sm (.int t)=true by simp [sm]]
 simp [smL]
abbrev LR(q:MV)(c:Int)(m:Nat)(e p d:Option MV):Rho:=[some q,some (.int c),some (.loc 0),some (.loc m),e,p,d]
theorem yJU{q:MV}{c:Int}{e:Option MV}(h0:B[0]? =some (.lst ts))(hm:B[m]? =some (.lst rs))(hA: ∀d∈ts,Td 3 d)(hR: ∀d∈rs,Td 3 d)(h4:ts.length≤4)(h60:rs.length≤60):
  ∃S,yA zMI (yA zMJ (yA zCA zJG)) (LR q c m e none none) B=.ok (.ret (.val (.bl true))) S:=by
 have three:wZ [.new ts,.new [],.new rs] B=.ok (.new [.loc B.length,.loc (B.length+1),.loc (B.length+2)]) (B++[.lst ts,.lst [],.lst rs]):=by
  rw [dN (by simp)]
  show R.ok (Er.new [.loc B.length,.loc (B++[MO.lst ts]).length,.loc (B++[MO.lst ts]++[MO.lst []]).length]) (B++[.lst ts]++[.lst []]++[.lst rs])=_
  simp only [List.length_append,List.append_assoc]
  rfl
 have l3:(B++[MO.lst ts,MO.lst [],MO.lst rs]).length=B.length+3:=by rw [List.length_append];rfl
 have e8:zMI (LR q c m e none none) B=.ok (.next (LR q c m e (some (.loc (B.length+3))) none)) (B++[.lst ts,.lst [],.lst rs,.lst [.loc B.length,.loc (B.length+1),.loc (B.length+2)]]):=by
  unfold zMI
  simp? [zVU h0,zVU hm,three,l3]
  rw [List.append_assoc]
  rfl
 generalize hS:B++[.lst ts,.lst [],.lst rs,.lst [.loc B.length,.loc (B.length+1),.loc (B.length+2)]]=S at e8
 have g0:S[0]? =some (.lst ts):=by rw [←hS];exact kF h0
 have gm:S[m]? =some (.lst rs):=by rw [←hS];exact kF hm
 have gu:S[B.length]? =some (.lst ts):=by rw [←hS];exact zFI (i:=0) rfl
 have gv:S[B.length+1]? =some (.lst []):=by rw [←hS];exact zFI (i:=1) rfl
 have gx:S[B.length+2]? =some (.lst rs):=by rw [←hS];exact zFI (i:=2) rfl
 have gp:S[B.length+3]? =some (.lst [.loc B.length,.loc (B.length+1),.loc (B.length+2)]):=by rw [←hS];exact zFI (i:=3) rfl
 have pA: ∀d∈ts,pq d=true:=fun d hd=>(hA d hd).1
 have pR: ∀d∈rs,pq d=true:=fun d hd=>(hR d hd).1
 have e9:zMJ (LR q c m e (some (.loc (B.length+3))) none) S=.ok (.next (LR q c m e (some (.loc (B.length+3))) (some (zGE ts rs)))) S:=by
  unfold zMJ
  simp? [yNT g0 gm pA pR h4 h60]
 rw [zH e8,zH e9]
 cases hb:bT ts rs with
 | some wk=>
  obtain⟨w,k⟩:=wk
  have hd:zGE ts rs=.tup [.int w,.int (k:Nat)]:=by unfold zGE;rw [hb]
  have lt:wZ [.val (.loc 0),.new [],.val (.loc m)] S=.ok (.new [.loc 0,.loc S.length,.loc m]) (S++[.lst []]):=dN (by simp)
  have eq3:=yGQ (S:=S++[.lst []]) (l:=B.length+3) (n:=0) (m:=S.length) (o:=m) (kF gp) (kF gu) (kF g0) (kF gv) (zAR _ _) (kF gx) (kF gm) (fun d hd=>⟨(hA d hd).1,Nat.lt_of_le_of_lt (hA d hd).2 (by decide)⟩) (by simp) fun d hd=>⟨(hR d hd).1,Nat.lt_of_le_of_lt (hR d hd).2 (by decide)⟩
  have e10:zCA (LR q c m e (some (.loc (B.length+3))) (some (zGE ts rs))) S=.ok (.ret (.val (.bl true))) (S++[.lst []]):=by
   rw [hd]
   unfold zCA
   simp? [show zQU (.val (.tup [.int w,.int (k:Nat)])) (.val .non) S=.ok (.val (.bl true)) S from rfl,zLU,zOQ,yNX gp gu gv gx pA pR h4 h60 hb,wU,lt,eq3]
  exact⟨_,by rw [yI e10]⟩
 | none=>
  have hd:zGE ts rs=.non:=by unfold zGE;rw [hb]
  have e10:zCA (LR q c m e (some (.loc (B.length+3))) (some (zGE ts rs))) S=.ok (.next (LR q c m e (some (.loc (B.length+3))) (some (zGE ts rs)))) S:=by
   rw [hd]
   unfold zCA
   simp? [show zQU (.val .non) (.val .non) S=.ok (.val (.bl false)) S from rfl,Bool.false_eq_true,if_false]
  have hT: ∀p∈ts,tbD p=true:=by
   unfold bT at hb
   split at hb
   ·cases hb
   ·rename_i hb1;exact yAT hb1
  have hW: ∀d∈rs,rwD ts d=true:=by
   unfold bT zHM at hb
   split at hb
   ·cases hb
   ·split at hb
    ·cases hb
    ·rename_i hb1;exact dF hb1
  have td:Td 4 (.tup ts):=zHL (n:=3) hA (by omega)
  have tr:Td 4 (.tup rs):=zHL (n:=3) hR (by omega)
  have t0:Td 4 (.tup []):=zHL (n:=3) (by simp) (by simp)
  have t3:Td 5 (.tup [.tup ts,.tup [],.tup rs]):=td_3 td t0 tr
  have bk:zM 3 gE [.val (.loc B.length),.val (.loc (B.length+1)),.val (.loc (B.length+2))] S=.ok (.val (.tup [.tup ts,.tup [],.tup rs])) S:=by
   have:=zVX (S:=S) (a:=.loc B.length) (b:=.loc (B.length+1)) (c:=.loc (B.length+2)) (.inr ⟨_,rfl,gu⟩) (.inr ⟨_,rfl,gv⟩) (.inr ⟨_,rfl,gx⟩) pA pR h4 h60
   rw [hb]at this
   exact kP rfl this (t3.lo _) t3.noloc
  have d1:pdL ts=true:=zML fun d hd=>(yKM (hT d hd)).1
  have d2:pdL rs=true:=zML fun d hd=>(zYJ hT (hW d hd)).1
  have s1:sm (.tup ts)=true:=by rw [zKV,decide_eq_true (show ts.length<1000 by omega),zMS fun d hd=>(yKM (hT d hd)).2.2];rfl
  have s2:sm (.tup rs)=true:=by rw [zKV,decide_eq_true (show rs.length<1000 by omega),zMS fun d hd=>yOD hT (hW d hd)];rfl
  have al:zM 2 (zV 8) [.val (.tup [.tup ts,.tup [],.tup rs]),.val (.tup [.tup ts,.tup [],.tup rs])] S=.ok (.val (.bl true)) S:=by
   refine zVY 8 S ?_ ?_ (Nat.lt_of_le_of_lt t3.2 (by decide))
   ·rw [zFG,cE,cE,cE,zFG,zFG,zFG,d1,d2,zTE];rfl
   ·rw [zKV,nZ,nZ,nZ,s1,s2];simp [sm,smL]
  have j0:ixF (.val (.loc (B.length+3))) (.val (.int 0)) S=.ok (.val (.loc B.length)) S:=jY gp rfl
  have j1:ixF (.val (.loc (B.length+3))) (.val (.int 1)) S=.ok (.val (.loc (B.length+1))) S:=jY gp rfl
  have j2:ixF (.val (.loc (B.length+3))) (.val (.int 2)) S=.ok (.val (.loc (B.length+2))) S:=jY gp rfl
  have e11:zJG (LR q c m e (some (.loc (B.length+3))) (some (zGE ts rs))) S=.ok (.ret (.val (.bl true))) S:=by
   unfold zJG
   simp? [j0,j1,j2,bk,zKS g0,zKS gm,tup0,al]
  exact⟨S,by rw [zH e10,e11]⟩
def Gd(ts:List MV)(B:Sto)(m:Nat)(rs:List MV):Prop:=B[0]? =some (.lst ts)∧B[m]? =some (.lst rs)∧(∀d∈rs,Td 3 d)∧rs.length≤1000∧(rs=[]∨ ∀p∈ts,tbD p=true)
theorem Gd.sub{m':Nat}{B':Sto}{rs':List MV}(h:Gd ts B m rs)(h0:B'[0]? =some (.lst ts))(hm:B'[m']? =some (.lst rs'))(hl:rs'.length≤rs.length)(hs: ∀d∈rs',d∈rs):Gd ts B' m' rs':=by
 refine⟨h0,hm,fun d hd=>h.2.2.1 d (hs d hd),Nat.le_trans hl h.2.2.2.1,?_⟩
 rcases h.2.2.2.2 with z | z
 ·subst z
  exact .inl (List.length_eq_zero_iff.mp (Nat.le_zero.mp hl))
 ·exact .inr z
theorem law5{ns:List Int}{c:Int}{e:Option MV}(h:Gd ts B m rs)(hA: ∀d∈ts,pq d=true): ∃B' m' rs',Gd ts B' m' rs'∧zMG (LR (.scr (ns.map MV.int)) c m e none none) B=.ok (.next (LR (.scr (ns.map MV.int)) c m' e none none)) B':=by
 obtain⟨c1,hc1⟩:=zMR ns 1 (by decide) B
 obtain⟨g0,gm,hR,hl,hT⟩:=h
 have hcm:yU (gNm 0) zKP zRE [none,some (.loc 0)] [(m,rs)] rs B=.ok (rs.filter (rwD ts)) B:=by
  refine cF (zNZ gm) fun d hd=>⟨[some d,some (.loc 0)],rfl,?_,rfl⟩
  rcases hT with rfl | hT
  ·simp at hd
  ·unfold zKP
   simp? [yGF hT (.inr ⟨_,rfl,g0⟩) (hR d hd).1]
 have hit:itL (.val (.loc m)) B=.ok ⟨rs,[(m,rs)]⟩ B:=zZW gm
 by_cases h1:c1 % 3=0
 ·refine⟨B++[.lst (rs.filter (rwD ts))],B.length,rs.filter (rwD ts),Gd.sub ⟨g0,gm,hR,hl,hT⟩ (kF g0) (zAR _ _) (List.length_filter_le _ _) fun d hd=>(List.mem_filter.mp hd).1,?_⟩
  unfold zMG
  simp? [hc1,mod_lit (show(0:Int)<3 by decide),decide_eq_true h1,hit,show(rs.length<1000000)=True from eq_true (by omega),show blk 1 [2] (LR (.scr (ns.map MV.int)) c m e none none)=[none,some (.loc 0)]from rfl,hcm]
 ·refine⟨B,m,rs,⟨g0,gm,hR,hl,hT⟩,?_⟩
  unfold zMG
  simp? [hc1,mod_lit (show(0:Int)<3 by decide),decide_eq_false h1,Bool.false_eq_true,if_false]
theorem law6{ns:List Int}{c:Int}{e:Option MV}(h:Gd ts B m rs): ∃B' m' rs',Gd ts B' m' rs'∧zMH (LR (.scr (ns.map MV.int)) c m e none none) B=.ok (.next (LR (.scr (ns.map MV.int)) c m' e none none)) B':=by
 obtain⟨c1,hc1⟩:=zMR ns 1 (by decide) B
 obtain⟨g0,gm,hR,hl,hT⟩:=h
 have lb:xX [.val (.loc m)] B=.ok (.val (.int (rs.length:Nat))) B:=SqM.len (.inr ⟨_,rfl,gm⟩)
 obtain⟨ys,hyl,hy,hcm⟩:=zVZ (S:=B) (gf:=gNm 0) (cf:=zKQ) (ef:=zKR) (ρb:=[none,some (.loc m)]) (P:=fun y=>y∈rs) (ds:=(List.range rs.length).map fun k=>MV.int (k:Nat)) fun d hd=>by
  obtain⟨j,hj,rfl⟩:=List.mem_map.mp hd
  have hj:=List.mem_range.mp hj
  obtain⟨d,hd⟩: ∃d,rs[j]? =some d:=⟨_,List.getElem?_eq_getElem hj⟩
  obtain⟨b,hb⟩:=yOC (S:=B) (d:=d) (ys:=rs.take j) (hR d (List.mem_of_getElem? hd)).1 fun y hy=>⟨(hR y (List.mem_of_mem_take hy)).1,Nat.lt_of_le_of_lt (hR y (List.mem_of_mem_take hy)).2 (by decide)⟩
  refine⟨[some (.int (j:Nat)),some (.loc m)],b,d,rfl,?_,?_,List.mem_of_getElem? hd⟩
  ·unfold zKQ
   simp? [jY gm (zJQ hd),zTJ gm,zOW,hb]
  ·unfold zKR
   simp? [jY gm (zJQ hd)]
 rw [List.length_map,List.length_range]at hyl
 by_cases h1:c1 / 3 % 2=0
 ·refine⟨B++[.lst ys],B.length,ys,Gd.sub ⟨g0,gm,hR,hl,hT⟩ (kF g0) (zAR _ _) hyl hy,?_⟩
  unfold zMH
  simp? [hc1,xL (show(0:Int)<3 by decide) (show(3:Int)<1073741824 by decide),mod_lit (show(0:Int)<2 by decide),decide_eq_true h1,lb,zCN (S:=B) (j:=(rs.length:Nat)) (by omega),Int.toNat_natCast,List.length_map,List.length_range,show(rs.length<1000000)=True from eq_true (by omega),show blk 1 [3] (LR (.scr (ns.map MV.int)) c m e none none)=[none,some (.loc m)]from rfl,hcm]
 ·refine⟨B,m,rs,⟨g0,gm,hR,hl,hT⟩,?_⟩
  unfold zMH
  simp? [hc1,xL (show(0:Int)<3 by decide) (show(3:Int)<1073741824 by decide),mod_lit (show(0:Int)<2 by decide),decide_eq_false h1,Bool.false_eq_true,if_false]
end
theorem yKN{x:List MV}:(dG x (some 6) (some 46)).length≤40:=by
 unfold dG
 rw [List.length_take]
 have h2:HT.sIx x.length x.length (some 46)≤min 46 x.length:=by
  unfold HT.sIx
  simp only
  split<;>omega
 have h1:HT.sIx x.length 0 (some 6)=min 6 x.length:=by
  unfold HT.sIx
  simp only
  split<;>omega
 rw [h1]
 have:HT.sIx x.length x.length (some 46) - min 6 x.length≤40:=by omega
 exact Nat.le_trans (Nat.min_le_left _ _) this
theorem yGR{α:Type}{x:List α}{lo hi:Option Int}{a:α}(h:a∈dG x lo hi):a∈x:=List.mem_of_mem_drop (List.mem_of_mem_take h)
section
variable{ts:List MV}
theorem law4{ns:List Int}{c:Int}(hA: ∀d∈ts,pq d=true)(h4:ts.length≤4): ∃rs e',Gd ts [.lst ts,.lst rs] 1 rs∧zJF (LR (.scr (ns.map MV.int)) c 1 none none none) [.lst ts,.lst []]=.ok (.next (LR (.scr (ns.map MV.int)) c 1 e' none none)) [.lst ts,.lst rs]:=by
 have ne0:neF (.val (.loc 0)) (.new []) [.lst ts,.lst []]=.ok (.val (.bl (!ts.isEmpty))) [.lst ts,.lst []]:=by
  have e:vwE [.lst ts,.lst []] (.val (.loc 0))=some (.ls ts):=rfl
  unfold neF zGD
  rw [e]
  cases ts with
  | nil=>rfl
  | cons d ds=>rfl
 have hcm:yU (gNm 0) zKM zRD [none] [(0,ts)] ts [.lst ts,.lst []]=.ok (ts.filter fun d=>!tbD d) [.lst ts,.lst []]:=by
  refine cF (zNZ rfl) fun d hd=>⟨[some d],rfl,?_,rfl⟩
  unfold zKM
  simp? [zVW (hA d hd)]
 have hit:itL (.val (.loc 0)) [.lst ts,.lst []]=.ok ⟨ts,[(0,ts)]⟩ [.lst ts,.lst []]:=zZW rfl
 have hlt:(ts.length<1000000)=True:=eq_true (by omega)
 by_cases h0:ts=[]
 ·subst h0
  refine⟨[],none,⟨rfl,rfl,by simp,by simp,.inl rfl⟩,?_⟩
  unfold zJF
  simp? [ne0,show(!List.isEmpty ([]:List MV))=false from rfl,Bool.false_eq_true,if_false]
 ·have hne:(!ts.isEmpty)=true:=by cases ts with | nil=>exact absurd rfl h0 | cons=>rfl
  by_cases hT:ts.all tbD=true
  ·have hT': ∀p∈ts,tbD p=true:=fun p hp=>List.all_eq_true.mp hT p hp
   have h1:1≤ts.length:=by cases ts with | nil=>exact absurd rfl h0 | cons=>simp
   obtain⟨ρ',S',hloop,rs,e',hρ,hS,hR,hl⟩:=yMN (gf:=gNm 4) (body:=zJE) (gs:=[]) (L:=dG (ns.map MV.int) (some 6) (some 46)) (fun i ρ S=> ∃rs e,ρ=LR (.scr (ns.map MV.int)) c 1 e none none∧S=[.lst ts,.lst rs]∧(∀d∈rs,Td 3 d)∧rs.length≤2 * i) (fun i d hd ρ S ⟨rs,e,hρ,hS,hR,hl⟩=>by
    subst hρ hS
    obtain⟨k,_,rfl⟩:=List.mem_map.mp (yGR (List.mem_of_getElem? hd))
    have hi:i<40:=Nat.lt_of_lt_of_le (List.getElem?_eq_some_iff.mp hd).1 yKN
    obtain⟨r,hr,hrow⟩:=yOB (S:=[.lst ts,.lst rs]) (a:=0) k rfl hT' h1 h4
    have a1:zXM (.val (.loc 1)) [.val r] [.lst ts,.lst rs]=.ok (.val .non) [.lst ts,.lst (rs++[r])]:=yAF rfl (by omega)
    have il: ∀rs:List MV,zLJ (.val (.loc 1)) [.lst ts,.lst rs]=true:=fun rs=>yJA rfl
    have b1:zKN (LR (.scr (ns.map MV.int)) c 1 (some (.int k)) none none) [.lst ts,.lst rs]=.ok (.next (LR (.scr (ns.map MV.int)) c 1 (some (.int k)) none none)) [.lst ts,.lst (rs++[r])]:=by
     unfold zKN
     simp? [il,hrow,a1]
    have hR1: ∀d∈rs++[r],Td 3 d:=fun d hd=>by
     rcases List.mem_append.mp hd with z | z
     ·exact hR d z
     ·rw [List.mem_singleton.mp z];exact hr
    have hl1:(rs++[r]).length=rs.length+1:=by rw [List.length_append];rfl
    have g:gNm 4 (.int k) (LR (.scr (ns.map MV.int)) c 1 e none none) [.lst ts,.lst rs]=.ok (LR (.scr (ns.map MV.int)) c 1 (some (.int k)) none none) [.lst ts,.lst rs]:=rfl
    have len1:xX [.val (.loc 1)] [.lst ts,.lst (rs++[r])]=.ok (.val (.int ((rs++[r]).length:Nat))) [.lst ts,.lst (rs++[r])]:=SqM.len (.inr ⟨_,rfl,rfl⟩)
    have hp:(0:Int)<((rs++[r]).length:Nat):=by rw [hl1];omega
    obtain⟨x,hx⟩:=cV (xs:=rs++[r]) (i:=k / 16 % ((rs++[r]).length:Nat)) (Int.emod_nonneg _ (by omega)) (Int.emod_lt_of_pos _ hp)
    have htx:=cW hR1 hx
    have a2:zXM (.val (.loc 1)) [.val x] [.lst ts,.lst (rs++[r])]=.ok (.val .non) [.lst ts,.lst (rs++[r]++[x])]:=yAF rfl (by rw [hl1];omega)
    have ix1:ixF (.val (.loc 1)) (.val (.int (k / 16 % ((rs++[r]).length:Nat)))) [.lst ts,.lst (rs++[r])]=.ok (.val x) [.lst ts,.lst (rs++[r])]:=jY rfl hx
    by_cases h5:k % 16=5
    ·refine⟨LR (.scr (ns.map MV.int)) c 1 (some (.int k)) none none,[.lst ts,.lst (rs++[r]++[x])],?_,dM _,rs++[r]++[x],some (.int k),rfl,rfl,fun d hd=>?_,by rw [List.length_append,hl1];show rs.length+1+1≤_;omega⟩
     ·rw [g,bok]
      unfold zJE
      rw [zH b1]
      unfold zKO
      simp? [mod_lit (show(0:Int)<16 by decide),decide_eq_true h5,il,xL (show(0:Int)<16 by decide) (show(16:Int)<1073741824 by decide),len1,mod_lit hp,ix1,a2]
     ·rcases List.mem_append.mp hd with z | z
      ·exact hR1 d z
      ·rw [List.mem_singleton.mp z];exact htx
    ·refine⟨LR (.scr (ns.map MV.int)) c 1 (some (.int k)) none none,[.lst ts,.lst (rs++[r])],?_,dM _,rs++[r],some (.int k),rfl,rfl,hR1,by rw [hl1];omega⟩
     rw [g,bok]
     unfold zJE
     rw [zH b1]
     unfold zKO
     simp? [mod_lit (show(0:Int)<16 by decide),decide_eq_false h5,Bool.false_eq_true,if_false]) ⟨[],none,rfl,rfl,by simp,by simp⟩
   have h40:=yKN (x:=ns.map MV.int)
   refine⟨rs,e',⟨rfl,rfl,hR,by omega,.inr hT'⟩,?_⟩
   unfold zJF
   simp? [ne0,hne,hit,hlt,show blk 1 [] (LR (.scr (ns.map MV.int)) c 1 none none none)=[none]from rfl,hcm,zMQ,zJM,hT]
   rw [show zPO (.val (.scr (ns.map MV.int))) (some 6) (some 46) [.lst ts,.lst []]=.ok (.new (dG (ns.map MV.int) (some 6) (some 46))) [.lst ts,.lst []]from rfl]
   show wK (gNm 4) zJE [] (dG (ns.map MV.int) (some 6) (some 46)) _ _=_
   rw [←hρ, ←hS]
   exact hloop
  ·refine⟨[],none,⟨rfl,rfl,by simp,by simp,.inl rfl⟩,?_⟩
   unfold zJF
   simp? [ne0,hne,hit,hlt,show blk 1 [] (LR (.scr (ns.map MV.int)) c 1 none none none)=[none]from rfl,hcm,zMQ,zJM,Bool.eq_false_iff.mpr hT,Bool.false_eq_true,if_false]
end
theorem yGS(ns:List Int)(h:ns.length≤63): ∃S,zRF [.scr (ns.map MV.int)] []=.ok (.val (.bl true)) S:=by
 have hst:zS zOH [.scr (ns.map MV.int)]=[some (.scr (ns.map MV.int)),none,none,none,none,none,none]:=rfl
 obtain⟨c0,hc0⟩:=zMR ns 0 (by decide) []
 have e1:zTB [some (.scr (ns.map MV.int)),none,none,none,none,none,none] []=.ok (.next [some (.scr (ns.map MV.int)),some (.int c0),none,none,none,none,none]) []:=by
  unfold zTB
  simp? [hc0]
 obtain⟨d,hd⟩:=cV (xs:=[MV.int 1,.int 2,.int 3,.int 4,.int 1,.int 2,.int 0,.int 3]) (i:=c0 % 8) (by omega) (by show c0 % 8<((8:Nat):Int);omega)
 obtain⟨n,rfl,n0,n4⟩: ∃n:Int,d=.int n∧0≤n∧n≤4:=cW (P:=fun d=> ∃n:Int,d=.int n∧0≤n∧n≤4) (fun e he=>by
  simp only [List.mem_cons,List.not_mem_nil,or_false]at he
  rcases he with rfl | rfl | rfl | rfl | rfl | rfl | rfl | rfl<;>exact⟨_,rfl,by decide,by decide⟩) hd
 obtain⟨ts,htl,hts,hcm⟩:=zTP (S:=[]) (gf:=gNm 0) (cf:=zRC) (ef:=zKL) (ρb:=[none,some (.scr (ns.map MV.int))]) (P:=Td 1) (ds:=(List.range n.toNat).map fun k=>MV.int (k:Nat)) fun d hd=>by
  obtain⟨j,_,rfl⟩:=List.mem_map.mp hd
  obtain⟨k,hk⟩:=zMR ns (2+(j:Nat)) (by omega) []
  obtain⟨y,hy,ht⟩:=yNZ k []
  refine⟨[some (.int (j:Nat)),some (.scr (ns.map MV.int))],y,rfl,rfl,?_,hy⟩
  unfold zKL
  simp? [hk,ht]
 rw [List.length_map,List.length_range]at htl
 have hlt:((List.range n.toNat).map fun k=>MV.int (k:Nat)).length<1000000:=by rw [List.length_map,List.length_range];omega
 have e2:zTC [some (.scr (ns.map MV.int)),some (.int c0),none,none,none,none,none] []=.ok (.next [some (.scr (ns.map MV.int)),some (.int c0),some (.loc 0),none,none,none,none]) [.lst ts]:=by
  unfold zTC
  simp? [lst8,mod_lit (show(0:Int)<8 by decide),zNY hd,zCN (S:=[]) (j:=n) (by omega),hlt,show blk 1 [0] [some (.scr (ns.map MV.int)),some (.int c0),none,none,none,none,none]=[none,some (.scr (ns.map MV.int))]from rfl,hcm]
  rfl
 have e3:yAE [some (.scr (ns.map MV.int)),some (.int c0),some (.loc 0),none,none,none,none] [.lst ts]=.ok (.next (LR (.scr (ns.map MV.int)) c0 1 none none none)) [.lst ts,.lst []]:=rfl
 have h4:ts.length≤4:=by omega
 obtain⟨rs,e',g4,e4⟩:=law4 (ns:=ns) (c:=c0) (fun d hd=>(hts d hd).1) h4
 obtain⟨B5,m5,r5,g5,e5⟩:=law5 (ns:=ns) (c:=c0) (e:=e') g4 (fun d hd=>(hts d hd).1)
 obtain⟨B6,m6,r6,g6,e6⟩:=law6 (ns:=ns) (c:=c0) (e:=e') g5
 have e7:zTD (LR (.scr (ns.map MV.int)) c0 m6 e' none none) B6=.ok (.next (LR (.scr (ns.map MV.int)) c0 B6.length e' none none)) (B6++[.lst (r6.take 60)]):=by
  unfold zTD
  simp? [zTJ g6.2.1,show dG r6 none (some 60)=r6.take 60 from zOW r6 60]
 obtain⟨S,hS⟩:=yJU (ts:=ts) (rs:=r6.take 60) (B:=B6++[.lst (r6.take 60)]) (m:=B6.length) (q:=.scr (ns.map MV.int)) (c:=c0) (e:=e') (kF g6.1) (zAR _ _) (fun d hd=>(hts d hd).up (by decide)) (fun d hd=>g6.2.2.1 d (List.mem_of_mem_take hd)) h4 (by rw [List.length_take];exact Nat.min_le_left _ _)
 refine⟨S,?_⟩
 unfold zRF yKI
 rw [hst,zH e1,zH e2,zH e3,zH e4,zH e5,zH e6,zH e7,hS]
 rfl
section
variable{P:Program}{w:World}{K:PySem.W.Frag}{mg:Str→Option Value}{base:Heap}
abbrev XCS(xl:Nat→Addr):List (Str×Addr):=[("TooGreat",xl 0),("NoText",xl 1),("NoPlace",xl 2),("NotPlain",xl 3),("NoTable",xl 4),("NoRule",xl 5),("NoRow",xl 6),("Twice",xl 7),("NoQuestion",xl 8),("Double",xl 9),("TooWide",xl 10),("Ring",xl 11)]
theorem xnd{xl:Nat→Addr}:((XCS xl).map (·.1)).Nodup:=show XNS.Nodup from by decide
def top(i:Nat):Stmt:=PySem.Challenge.pw_mendsure_k09_tables_and_rows_judged.main.body.getD i (.Pass ⟨0,0,0,0⟩)
abbrev zAA:Stmt:=inClass (top 6) 0
theorem zWA:FnScope ["self","place"] ["self","place"] (zG zAA):=⟨rfl,rfl,rfl,by decide+kernel,rfl,by decide+kernel,by decide+kernel⟩
abbrev zFK:Stmt:=inClass (top 8) 0
theorem yCQ:FnScope ["self","place"] ["self","place"] (zG zFK):=⟨rfl,rfl,rfl,by decide+kernel,rfl,by decide+kernel,by decide+kernel⟩
abbrev zCD:Stmt:=inClass (top 7) 0
theorem zYK:FnScope ["self","place"] ["self","place"] (zG zCD):=⟨rfl,rfl,rfl,by decide+kernel,rfl,by decide+kernel,by decide+kernel⟩
abbrev zFL:Stmt:=inClass (top 9) 0
theorem yCR:FnScope ["self","place"] ["self","place"] (zG zFL):=⟨rfl,rfl,rfl,by decide+kernel,rfl,by decide+kernel,by decide+kernel⟩
abbrev zHN:Stmt:=top 16
theorem zWB:FnScope ["thing"] ["thing"] (zG zHN):=⟨rfl,rfl,rfl,by decide+kernel,rfl,by decide+kernel,by decide+kernel⟩
theorem zWC(D:DefM K mg "is_whole" zHN)(zGT:mg "int"=none)(zF:mg "isinstance"=none)(zAH:mg "bool"=none):(CalM P w K mg base) "is_whole" 1 1 ["thing"] wN:=
 by have h:=okC (P:=P) (w:=w) (base:=base) D (fun _ _ _ _ _ _ us hl=>match us,hl with | [_],_=>rfl) fun f fd F=>okM (k:=0) _ F zWB fun cdv A outer s H E hr=>(zJ (zN (wE (zK yQ wL rfl zF zQ (zA (zB 0) (zA (jQ rfl zGT zSJ) zD))) (wJ (zRY (zK yQ wL rfl zF zQ (zA (zB 0) (zA (jQ rfl zAH zMA) zD))))))))
    exact h
abbrev zGC:Stmt:=top 17
theorem zYL:FnScope ["thing"] ["thing"] (zG zGC):=⟨rfl,rfl,rfl,by decide+kernel,rfl,by decide+kernel,by decide+kernel⟩
theorem zYM(D:DefM K mg "is_name" zGC)(zGS:mg "str"=none)(zF:mg "isinstance"=none)(yE:mg "len"=none){zAG:Tok}(jF:mg "MOST_LETTERS"=some (.int 8 zAG))(zAF:mg "all"=none):(CalM P w K mg base) "is_name" 1 1 ["thing"] zGA:=
 by have h:=okC (P:=P) (w:=w) (base:=base) D (fun _ _ _ _ _ _ us hl=>match us,hl with | [_],_=>rfl) fun f fd F=>okM (k:=0) _ F zYL fun cdv A outer s H E hr=>(zI (yG (cQ (gW (yX (zW (zK yQ wL rfl zF zQ (zA (zB 0) (zA (jQ rfl zGS zSK) zD))))) (bA (yX (yIC zC (zK zR yP rfl yE yR (zA (zB 0) zD)) (zCH rfl jF)))))) (zJ (zN kX)) zX) (zJ (zN (zK jG (zKC rfl) rfl zAF zKD (zA (kB (zG zGC) ["thing"] ["sign"] [] (yDZ (zB 0)) rfl (fun _ _ _ _ hN=>(wR 0 hN)) (fun _ _ _ _=>bO) (fun _ _ _ _=>(zSF (wT [97]) (zB 0) (wT [122])))) zD)))))
    exact h
abbrev zHO:Stmt:=top 18
theorem zWD:FnScope ["thing"] ["thing"] (zG zHO):=⟨rfl,rfl,rfl,by decide+kernel,rfl,by decide+kernel,by decide+kernel⟩
theorem zWE(D:DefM K mg "is_value" zHO)(zAI:(CalM P w K mg base) "is_whole" 1 1 ["thing"] wN)(zPI:mg "abs"=none)(yCU:(CalM P w K mg base) "is_name" 1 1 ["thing"] zGA):(CalM P w K mg base) "is_value" 2 1 ["thing"] bB:=
 by have h:=okC (P:=P) (w:=w) (base:=base) D (fun _ _ _ _ _ _ us hl=>match us,hl with | [_],_=>rfl) fun f fd F=>okM (k:=1) _ F zWD fun cdv A outer s H E hr=>(zI (yG (zW (zL zAI (hr.mono (by decide)) rfl (zA (zB 0) zD))) (zJ (zN (yKD hr.units (zK zUD yEN rfl zPI yEP (zA (zB 0) zD)) (kZ zC zC)))) zX) (zJ (zN (zL yCU (hr.mono (by decide)) rfl (zA (zB 0) zD)))))
    exact h
abbrev zHP:Stmt:=top 27
theorem zWF:FnScope wM wM (zG zHP):=⟨rfl,rfl,rfl,by decide+kernel,rfl,by decide+kernel,by decide+kernel⟩
theorem zWG(D:DefM K mg "is_tuple" zHP)(yW:mg "tuple"=none)(zF:mg "isinstance"=none)(yE:mg "len"=none):(CalM P w K mg base) "is_tuple" 1 3 wM yL:=
 by have h:=okC (P:=P) (w:=w) (base:=base) D (fun _ _ _ _ _ _ us hl=>match us,hl with | [_,_,_],_=>rfl) fun f fd F=>okM (k:=0) _ F zWF fun cdv A outer s H E hr=>(zJ (zN (wE (zK yQ wL rfl zF zQ (zA (zB 0) (zA (jQ rfl yW wV) zD))) (wJ (zSF (zB 1) (zK zR yP rfl yE yR (zA (zB 0) zD)) (zB 2))))))
    exact h
abbrev gQ:Stmt:=top 28
theorem zHQ:FnScope ["thing","bound"] ["thing","bound"] (zG gQ):=⟨rfl,rfl,rfl,by decide+kernel,rfl,by decide+kernel,by decide+kernel⟩
theorem zHR(D:DefM K mg "is_number_below" gQ)(zAI:(CalM P w K mg base) "is_whole" 1 1 ["thing"] wN):(CalM P w K mg base) "is_number_below" 2 2 ["thing","bound"] zO:=
 by have h:=okC (P:=P) (w:=w) (base:=base) D (fun _ _ _ _ _ _ us hl=>match us,hl with | [_,_],_=>rfl) fun f fd F=>okM (k:=1) _ F zHQ fun cdv A outer s H E hr=>(zJ (zN (wE (zL zAI (hr.mono (by decide)) rfl (zA (zB 0) zD)) (wJ (yID hr.units zC (zB 0) (zB 1))))))
    exact h
abbrev zHS:Stmt:=top 29
theorem zLM:FnScope ["thing","wide"] ["thing"] (zG zHS):=⟨rfl,rfl,rfl,by decide+kernel,rfl,by decide+kernel,by decide+kernel⟩
theorem zWH(D:DefM K mg "is_table" zHS)(xE:(CalM P w K mg base) "is_tuple" 1 3 wM yL)(zAI:(CalM P w K mg base) "is_whole" 1 1 ["thing"] wN){zFS:Tok}(cJ:mg "MOST_WIDE"=some (.int 4 zFS))(zU:(CalM P w K mg base) "is_number_below" 2 2 ["thing","bound"] zO):(CalM P w K mg base) "is_table" 3 1 ["thing"] zCV:=
 by have h:=okC (P:=P) (w:=w) (base:=base) D (fun _ _ _ _ _ _ us hl=>match us,hl with | [_],_=>rfl) fun f fd F=>okM (k:=2) _ F zLM fun cdv A outer s H E hr=>(zI (yG (cQ (gW (yX (zW (zL xE (hr.mono (by decide)) rfl (zA (zB 0) (zA zC (zA zC zD)))))) (bA (yX (zW (zL zAI (hr.mono (by decide)) rfl (zA (zT (zB 0) zC) zD))))))) (zJ (zN kX)) zX) (zI (yH 1 zLM.nd (zT (zB 0) zC)) (zJ (zN (wE (zSF zC (zB 1) (zCH rfl cJ)) (wJ (zL zU (hr.mono (by decide)) rfl (zA (zT (zB 0) zC) (zA (xK (zB 1) zC) zD)))))))))
    exact h
abbrev zKW:Stmt:=top 30
theorem zYN:FnScope ["thing","wides"] ["thing","wides"] (zG zKW):=⟨rfl,rfl,rfl,by decide+kernel,rfl,by decide+kernel,by decide+kernel⟩
theorem zYO(D:DefM K mg "is_side" zKW)(xE:(CalM P w K mg base) "is_tuple" 1 3 wM yL)(zHZ:(CalM P w K mg base) "is_value" 2 1 ["thing"] bB)(zU:(CalM P w K mg base) "is_number_below" 2 2 ["thing","bound"] zO)(yE:mg "len"=none):(CalM P w K mg base) "is_side" 3 2 ["thing","wides"] zGB:=
 by have h:=okC (P:=P) (w:=w) (base:=base) D (fun _ _ _ _ _ _ us hl=>match us,hl with | [_,_],_=>rfl) fun f fd F=>okM (k:=2) _ F zYN fun cdv A outer s H E hr=>(zI (yG (zW (zL xE (hr.mono (by decide)) rfl (zA (zB 0) (zA zC (zA zC zD))))) (zJ (zN (wE (zEB hr.units (zT (zB 0) zC) (wT [105,115])) (wJ (zL zHZ (hr.mono (by decide)) rfl (zA (zT (zB 0) zC) zD)))))) zX) (zI (yG (cQ (gW (yX (zW (zL xE (hr.mono (by decide)) rfl (zA (zB 0) (zA zC (zA zC zD)))))) (bA (zIM hr.units (zT (zB 0) zC) (wT [99,101,108,108]))))) (zJ (zN kX)) zX) (zJ (zN (wE (zL zU (hr.mono (by decide)) rfl (zA (zT (zB 0) zC) (zA (zK zR yP rfl yE yR (zA (zB 1) zD)) zD))) (wJ (zL zU (hr.mono (by decide)) rfl (zA (zT (zB 0) zC) (zA (zT (zB 1) (zT (zB 0) zC)) zD)))))))))
    exact h
abbrev zKX:Stmt:=top 31
theorem zYP:FnScope ["thing","wides"] ["thing","wides"] (zG zKX):=⟨rfl,rfl,rfl,by decide+kernel,rfl,by decide+kernel,by decide+kernel⟩
theorem zYQ(D:DefM K mg "is_test" zKX)(xE:(CalM P w K mg base) "is_tuple" 1 3 wM yL)(zRI:(CalM P w K mg base) "is_side" 3 2 ["thing","wides"] zGB)(zJV:GTup K mg "WORDS" [.str [115,97,109,101],.str [117,110,108,105,107,101],.str [108,101,115,115]]):(CalM P w K mg base) "is_test" 4 2 ["thing","wides"] zKH:=
 by have h:=okC (P:=P) (w:=w) (base:=base) D (fun _ _ _ _ _ _ us hl=>match us,hl with | [_,_],_=>rfl) fun f fd F=>okM (k:=3) _ F zYP fun cdv A outer s H E hr=>(zI (yG (yX (zW (zL xE (hr.mono (by decide)) rfl (zA (zB 0) (zA zC (zA zC zD)))))) (zJ (zN kX)) zX) (zJ (zN (wE (zL zRI (hr.mono (by decide)) rfl (zA (zT (zB 0) zC) (zA (zB 1) zD))) (wE (pm_in hr.units (zT (zB 0) zC) (yIV (ds:=[.str [115,97,109,101],.str [117,110,108,105,107,101],.str [108,101,115,115]]) rfl zJV)) (wJ (zL zRI (hr.mono (by decide)) rfl (zA (zT (zB 0) zC) (zA (zB 1) zD)))))))))
    exact h
abbrev zAS:Stmt:=top 32
theorem zTQ:FnScope ["thing","wides"] ["thing","wides"] (zG zAS):=⟨rfl,rfl,rfl,by decide+kernel,rfl,by decide+kernel,by decide+kernel⟩
theorem zTR(D:DefM K mg "are_tests" zAS)(xE:(CalM P w K mg base) "is_tuple" 1 3 wM yL){zDW:Tok}(gV:mg "MOST_TESTS"=some (.int 3 zDW))(yCW:(CalM P w K mg base) "is_test" 4 2 ["thing","wides"] zKH)(zAF:mg "all"=none):(CalM P w K mg base) "are_tests" 5 2 ["thing","wides"] bY:=
 by have h:=okC (P:=P) (w:=w) (base:=base) D (fun _ _ _ _ _ _ us hl=>match us,hl with | [_,_],_=>rfl) fun f fd F=>okM (k:=4) _ F zTQ fun cdv A outer s H E hr=>(zJ (zN (wE (zL xE (hr.mono (by decide)) rfl (zA (zB 0) (zA zC (zA (zCH rfl gV) zD)))) (wJ (zK jG (zKC rfl) rfl zAF zKD (zA (kB (zG zAS) ["thing","wides"] ["part"] [1] (zGX (zB 0)) rfl (fun _ _ _ _ hN=>(wR 0 hN)) (fun _ _ _ _=>bO) (fun _ _ _ _=>(zL yCW (hr.mono (by decide)) rfl (zA (zB 0) (zA (zB 1) zD))))) zD))))))
    exact h
abbrev bU:Stmt:=top 33
theorem zOX:FnScope ["thing","wide"] ["thing","wide"] (zG bU):=⟨rfl,rfl,rfl,by decide+kernel,rfl,by decide+kernel,by decide+kernel⟩
theorem zOY(D:DefM K mg "are_columns" bU)(xE:(CalM P w K mg base) "is_tuple" 1 3 wM yL){zFR:Tok}(cH:mg "MOST_TIED"=some (.int 3 zFR))(zU:(CalM P w K mg base) "is_number_below" 2 2 ["thing","bound"] zO)(zAF:mg "all"=none):(CalM P w K mg base) "are_columns" 3 2 ["thing","wide"] zBA:=
 by have h:=okC (P:=P) (w:=w) (base:=base) D (fun _ _ _ _ _ _ us hl=>match us,hl with | [_,_],_=>rfl) fun f fd F=>okM (k:=2) _ F zOX fun cdv A outer s H E hr=>(zJ (zN (wE (zL xE (hr.mono (by decide)) rfl (zA (zB 0) (zA zC (zA (zCH rfl cH) zD)))) (wJ (zK jG (zKC rfl) rfl zAF zKD (zA (kB (zG bU) ["thing","wide"] ["part"] [1] (zGX (zB 0)) rfl (fun _ _ _ _ hN=>(wR 0 hN)) (fun _ _ _ _=>bO) (fun _ _ _ _=>(zL zU (hr.mono (by decide)) rfl (zA (zB 0) (zA (zB 1) zD))))) zD))))))
    exact h
abbrev zHT:Stmt:=top 34
theorem zWI:FnScope ["rule","tables"] ["rule","tables"] (zG zHT):=⟨rfl,rfl,rfl,by decide+kernel,rfl,by decide+kernel,by decide+kernel⟩
theorem zWJ(D:DefM K mg "is_never" zHT)(yE:mg "len"=none)(zU:(CalM P w K mg base) "is_number_below" 2 2 ["thing","bound"] zO)(zFP:(CalM P w K mg base) "are_tests" 5 2 ["thing","wides"] bY):(CalM P w K mg base) "is_never" 6 2 ["rule","tables"] zHF:=
 by have h:=okC (P:=P) (w:=w) (base:=base) D (fun _ _ _ _ _ _ us hl=>match us,hl with | [_,_],_=>rfl) fun f fd F=>okM (k:=5) _ F zWI fun cdv A outer s H E hr=>(zI (yG (cQ (gW (zIM hr.units (zK zR yP rfl yE yR (zA (zB 0) zD)) zC) (bA (yX (zW (zL zU (hr.mono (by decide)) rfl (zA (zT (zB 0) zC) (zA (zK zR yP rfl yE yR (zA (zB 1) zD)) zD)))))))) (zJ (zN kX)) zX) (zJ (zN (zL zFP (hr.mono (by decide)) rfl (zA (zT (zB 0) zC) (zA (yZ (zA (zT (zT (zB 1) (zT (zB 0) zC)) zC) zD)) zD))))))
    exact h
abbrev zAB:Stmt:=top 35
theorem zWK:FnScope ["rule","tables"] ["rule","tables"] (zG zAB):=⟨rfl,rfl,rfl,by decide+kernel,rfl,by decide+kernel,by decide+kernel⟩
theorem zWL(D:DefM K mg "is_apart" zAB)(yE:mg "len"=none)(zU:(CalM P w K mg base) "is_number_below" 2 2 ["thing","bound"] zO)(zAF:mg "all"=none)(zFP:(CalM P w K mg base) "are_tests" 5 2 ["thing","wides"] bY):(CalM P w K mg base) "is_apart" 6 2 ["rule","tables"] zHG:=
 by have h:=okC (P:=P) (w:=w) (base:=base) D (fun _ _ _ _ _ _ us hl=>match us,hl with | [_,_],_=>rfl) fun f fd F=>okM (k:=5) _ F zWK fun cdv A outer s H E hr=>(zI (yG (cQ (gW (zIM hr.units (zK zR yP rfl yE yR (zA (zB 0) zD)) zC) (bA (yX (zW (zK jG (zKC rfl) rfl zAF zKD (zA (kB (zG zAB) ["rule","tables"] ["part"] [1] (zGX (zKB (zB 0) (cU zC) (cU zC))) rfl (fun _ _ _ _ hN=>(wR 0 hN)) (fun _ _ _ _=>bO) (fun _ _ _ _=>(zL zU (hr.mono (by decide)) rfl (zA (zB 0) (zA (zK zR yP rfl yE yR (zA (zB 1) zD)) zD))))) zD))))))) (zJ (zN kX)) zX) (zJ (zN (zL zFP (hr.mono (by decide)) rfl (zA (zT (zB 0) zC) (zA (kB (zG zAB) ["rule","tables"] ["part"] [1] (zGX (zKB (zB 0) (cU zC) (cU zC))) rfl (fun _ _ _ _ hN=>(wR 0 hN)) (fun _ _ _ _=>bO) (fun _ _ _ _=>(zT (zT (zB 1) (zB 0)) zC))) zD))))))
    exact h
abbrev zOZ:Stmt:=top 36
theorem zKY:FnScope zVD ["rule","tables"] (zG zOZ):=⟨rfl,rfl,rfl,by decide+kernel,rfl,by decide+kernel,by decide+kernel⟩
theorem yCS(D:DefM K mg "is_tie" zOZ)(yE:mg "len"=none)(zU:(CalM P w K mg base) "is_number_below" 2 2 ["thing","bound"] zO)(zQE:(CalM P w K mg base) "are_columns" 3 2 ["thing","wide"] zBA):(CalM P w K mg base) "is_tie" 4 2 ["rule","tables"] zOM:=
 by have h:=okC (P:=P) (w:=w) (base:=base) D (fun _ _ _ _ _ _ us hl=>match us,hl with | [_,_],_=>rfl) fun f fd F=>okM (k:=3) _ F zKY fun cdv A outer s H E hr=>(zI (yG (zIM hr.units (zK zR yP rfl yE yR (zA (zB 0) zD)) zC) (zJ (zN kX)) zX) (zI (zAZ PassesOwn.never rfl (zGX (yJ (zA (yJ (zA (zT (zB 0) zC) (zA (zT (zB 0) zC) zD))) (zA (yJ (zA (zT (zB 0) zC) (zA (zT (zB 0) zC) zD))) zD)))) (zNR (n:=2) rfl (bN (kA 2 zKY.nd) (bN (kA 3 zKY.nd) zNQ))) (zJ (yG (cQ (gW (yX (zW (zL zU (hr.mono (by decide)) rfl (zA (zB 2) (zA (zK zR yP rfl yE yR (zA (zB 1) zD)) zD))))) (bA (yX (zW (zL zQE (hr.mono (by decide)) rfl (zA (zB 3) (zA (zT (zT (zB 1) (zB 2)) zC) zD)))))))) (zJ (zN kX)) zX))) (zJ (zN (zEB hr.units (zK zR yP rfl yE yR (zA (zT (zB 0) zC) zD)) (zK zR yP rfl yE yR (zA (zT (zB 0) zC) zD)))))))
    exact h
abbrev zKZ:Stmt:=top 37
theorem zYR:FnScope ["thing","tables"] ["thing","tables"] (zG zKZ):=⟨rfl,rfl,rfl,by decide+kernel,rfl,by decide+kernel,by decide+kernel⟩
theorem zYS(D:DefM K mg "is_rule" zKZ)(yW:mg "tuple"=none)(zF:mg "isinstance"=none)(yE:mg "len"=none)(zYW:(CalM P w K mg base) "is_never" 6 2 ["rule","tables"] zHF)(zYY:(CalM P w K mg base) "is_apart" 6 2 ["rule","tables"] zHG)(yGT:(CalM P w K mg base) "is_tie" 4 2 ["rule","tables"] zOM):(CalM P w K mg base) "is_rule" 7 2 ["thing","tables"] zKI:=
 by have h:=okC (P:=P) (w:=w) (base:=base) D (fun _ _ _ _ _ _ us hl=>match us,hl with | [_,_],_=>rfl) fun f fd F=>okM (k:=6) _ F zYR fun cdv A outer s H E hr=>(zI (yG (cQ (gW (yX (zW (zK yQ wL rfl zF zQ (zA (zB 0) (zA (jQ rfl yW wV) zD))))) (bA (bW hr.units (zK zR yP rfl yE yR (zA (zB 0) zD)) zC)))) (zJ (zN kX)) zX) (zI (yG (bW hr.units (zT (zB 0) zC) (wT [110,101,118,101,114])) (zJ (zN (zL zYW (hr.mono (by decide)) rfl (zA (zB 0) (zA (zB 1) zD))))) zX) (zI (yG (bW hr.units (zT (zB 0) zC) (wT [97,112,97,114,116])) (zJ (zN (zL zYY (hr.mono (by decide)) rfl (zA (zB 0) (zA (zB 1) zD))))) zX) (zJ (zN (wE (zEB hr.units (zT (zB 0) zC) (wT [116,105,101])) (wJ (zL yGT (hr.mono (by decide)) rfl (zA (zB 0) (zA (zB 1) zD))))))))))
    exact h
abbrev zJR:Stmt:=top 38
theorem zRH:FnScope zOF ["thing","tables"] (zG zJR):=⟨rfl,rfl,rfl,by decide+kernel,rfl,by decide+kernel,by decide+kernel⟩
theorem yCT(D:DefM K mg "is_row" zJR)(xE:(CalM P w K mg base) "is_tuple" 1 3 wM yL)(zU:(CalM P w K mg base) "is_number_below" 2 2 ["thing","bound"] zO)(yE:mg "len"=none)(zHZ:(CalM P w K mg base) "is_value" 2 1 ["thing"] bB)(zAF:mg "all"=none):(CalM P w K mg base) "is_row" 3 2 ["thing","tables"] zJB:=
 by have h:=okC (P:=P) (w:=w) (base:=base) D (fun _ _ _ _ _ _ us hl=>match us,hl with | [_,_],_=>rfl) fun f fd F=>okM (k:=2) _ F zRH fun cdv A outer s H E hr=>(zI (yG (cQ (gW (yX (zW (zL xE (hr.mono (by decide)) rfl (zA (zB 0) (zA zC (zA zC zD)))))) (bA (yX (zW (zL zU (hr.mono (by decide)) rfl (zA (zT (zB 0) zC) (zA (zK zR yP rfl yE yR (zA (zB 1) zD)) zD)))))))) (zJ (zN kX)) zX) (zI (yH 2 zRH.nd (zT (zT (zB 1) (zT (zB 0) zC)) zC)) (zJ (zN (wE (zL xE (hr.mono (by decide)) rfl (zA (zT (zB 0) zC) (zA (zB 2) (zA (zB 2) zD)))) (wJ (zK jG (zKC rfl) rfl zAF zKD (zA (kB (zG zJR) zOF ["cell"] [] (zGX (zT (zB 0) zC)) rfl (fun _ _ _ _ hN=>(wR 0 hN)) (fun _ _ _ _=>bO) (fun _ _ _ _=>(zL zHZ (hr.mono (by decide)) rfl (zA (zB 0) zD)))) zD))))))))
    exact h
abbrev zBI:Stmt:=top 39
theorem zPA:FnScope yS yS (zG zBI):=⟨rfl,rfl,rfl,by decide+kernel,rfl,by decide+kernel,by decide+kernel⟩
theorem zPB(D:DefM K mg "check_sizes" zBI){xM:Addr}{xl:Nat→Addr}(XT:XTab K mg xM (XCS xl))(yE:mg "len"=none){zBL:Tok}(jU:mg "MOST_TABLES"=some (.int 4 zBL)){zDT:Tok}(gS:mg "MOST_RULES"=some (.int 6 zDT)){zFQ:Tok}(cG:mg "MOST_ROWS"=some (.int 60 zFQ))(x_TooGreat:XCl K (xl 0) (.ref xM::bmV) none):(yFO P w K mg base) "check_sizes" 1 3 yS bQ:=
 by have h:=yFP (P:=P) (w:=w) (base:=base) D (fun _ _ _ _ _ _ us hl=>match us,hl with | [_,_,_],_=>rfl) fun f fd F=>okX (k:=0) _ F zPA fun cdv A outer s H E hr=>(zJ (yG (cQ (gW (zUS (zK zR yP rfl yE yR (zA (zB 0) zD)) (zCH rfl jU)) (gW (zUS (zK zR yP rfl yE yR (zA (zB 1) zD)) (zCH rfl gS)) (bA (zUS (zK zR yP rfl yE yR (zA (zB 2) zD)) (zCH rfl cG)))))) (zJ (yCG zAV rfl (XT.each.at (.head _)).1 x_TooGreat XT.mc (zA (wT [109,111,114,101,32,116,97,98,108,101,115,44,32,114,117,108,101,115,32,111,114,32,114,111,119,115,32,116,104,97,110,32,97,32,98,111,111,107,32,109,97,121,32,104,97,118,101]) zD))) zX))
    exact h
abbrev zAC:Stmt:=top 40
theorem cP:FnScope zET ["tables"] (zG zAC):=⟨rfl,rfl,rfl,by decide+kernel,rfl,by decide+kernel,by decide+kernel⟩
theorem zLV(D:DefM K mg "check_tables" zAC){xM:Addr}{xl:Nat→Addr}(XT:XTab K mg xM (XCS xl))(yE:mg "len"=none){f_NoTable:Addr}{fdI_NoTable:FuncData}(y_NoTable:XIn K xM (xl 4) f_NoTable)(GI_NoTable:FnOk P w K mg base CX0 1 f_NoTable fdI_NoTable ["self","place"] (zGN (xl 4) "place"))(bI_NoTable:Binds K fdI_NoTable ["self","place"] [])(xT:mg "enumerate"=none)(zZA:(CalM P w K mg base) "is_table" 3 1 ["thing"] zCV):(yFO P w K mg base) "check_tables" 4 1 ["tables"] gL:=
 by have h:=yFP (P:=P) (w:=w) (base:=base) D (fun _ _ _ _ _ _ us hl=>match us,hl with | [_],_=>rfl) fun f fd F=>okX (k:=3) _ F cP fun cdv A outer s H E hr=>(zI (yG (bW hr.units (zK zR yP rfl yE yR (zA (zB 0) zD)) zC) (zJ (zBW zAV rfl (XT.each.at (.tail _ (.tail _ (.tail _ (.tail _ (.head _)))))).1 XT.mc y_NoTable GI_NoTable bI_NoTable hr zC)) zX) (zJ (zAZ PassesOwn.leaving rfl (zME rfl xT (zA (zB 0) zD)) (zNR (n:=2) rfl (bN (kA 1 cP.nd) (bN (kA 2 cP.nd) zNQ))) (zJ (yG (yX (zW (zL zZA (hr.mono (by decide)) rfl (zA (zB 2) zD)))) (zJ (zBW zAV rfl (XT.each.at (.tail _ (.tail _ (.tail _ (.tail _ (.head _)))))).1 XT.mc y_NoTable GI_NoTable bI_NoTable hr (zB 1))) zX)))))
    exact h
abbrev zBJ:Stmt:=top 41
theorem zAD:FnScope zGO ["tables","rules"] (zG zBJ):=⟨rfl,rfl,rfl,by decide+kernel,rfl,by decide+kernel,by decide+kernel⟩
theorem zPC(D:DefM K mg "check_rules" zBJ){xM:Addr}{xl:Nat→Addr}(XT:XTab K mg xM (XCS xl))(xT:mg "enumerate"=none)(yCV:(CalM P w K mg base) "is_rule" 7 2 ["thing","tables"] zKI){f_NoRule:Addr}{fdI_NoRule:FuncData}(y_NoRule:XIn K xM (xl 5) f_NoRule)(GI_NoRule:FnOk P w K mg base CX0 1 f_NoRule fdI_NoRule ["self","place"] (zGN (xl 5) "place"))(bI_NoRule:Binds K fdI_NoRule ["self","place"] []):(yFO P w K mg base) "check_rules" 8 2 ["tables","rules"] bR:=
 by have h:=yFP (P:=P) (w:=w) (base:=base) D (fun _ _ _ _ _ _ us hl=>match us,hl with | [_,_],_=>rfl) fun f fd F=>okX (k:=7) _ F zAD fun cdv A outer s H E hr=>(zJ (zAZ PassesOwn.leaving rfl (zME rfl xT (zA (zB 1) zD)) (zNR (n:=2) rfl (bN (kA 2 zAD.nd) (bN (kA 3 zAD.nd) zNQ))) (zJ (yG (yX (zW (zL yCV (hr.mono (by decide)) rfl (zA (zB 3) (zA (zB 0) zD))))) (zJ (zBW zAV rfl (XT.each.at (.tail _ (.tail _ (.tail _ (.tail _ (.tail _ (.head _))))))).1 XT.mc y_NoRule GI_NoRule bI_NoRule hr (zB 2))) zX))))
    exact h
abbrev zDO:Stmt:=top 42
theorem kQ:FnScope zIV ["tables","rows"] (zG zDO):=⟨rfl,rfl,rfl,by decide+kernel,rfl,by decide+kernel,by decide+kernel⟩
theorem zPV(D:DefM K mg "check_rows" zDO){xM:Addr}{xl:Nat→Addr}(XT:XTab K mg xM (XCS xl))(xT:mg "enumerate"=none)(yGU:(CalM P w K mg base) "is_row" 3 2 ["thing","tables"] zJB){f_NoRow:Addr}{fdI_NoRow:FuncData}(y_NoRow:XIn K xM (xl 6) f_NoRow)(GI_NoRow:FnOk P w K mg base CX0 1 f_NoRow fdI_NoRow ["self","place"] (zGN (xl 6) "place"))(bI_NoRow:Binds K fdI_NoRow ["self","place"] []){f_Twice:Addr}{fdI_Twice:FuncData}(y_Twice:XIn K xM (xl 7) f_Twice)(GI_Twice:FnOk P w K mg base CX0 1 f_Twice fdI_Twice ["self","place"] (zGN (xl 7) "place"))(bI_Twice:Binds K fdI_Twice ["self","place"] []):(yFO P w K mg base) "check_rows" 4 2 ["tables","rows"] cX:=
 by have h:=yFP (P:=P) (w:=w) (base:=base) D (fun _ _ _ _ _ _ us hl=>match us,hl with | [_,_],_=>rfl) fun f fd F=>okX (k:=3) _ F kQ fun cdv A outer s H E hr=>(zI (zAZ PassesOwn.leaving rfl (zME rfl xT (zA (zB 1) zD)) (zNR (n:=2) rfl (bN (kA 2 kQ.nd) (bN (kA 3 kQ.nd) zNQ))) (zJ (yG (yX (zW (zL yGU (hr.mono (by decide)) rfl (zA (zB 3) (zA (zB 0) zD))))) (zJ (zBW zAV rfl (XT.each.at (.tail _ (.tail _ (.tail _ (.tail _ (.tail _ (.tail _ (.head _)))))))).1 XT.mc y_NoRow GI_NoRow bI_NoRow hr (zB 2))) zX))) (zI (yH 4 kQ.nd yFB) (zJ (zAZ PassesOwn.leaving rfl (zME rfl xT (zA (zB 1) zD)) (zNR (n:=2) rfl (bN (kA 2 kQ.nd) (bN (kA 3 kQ.nd) zNQ))) (zI (yG (yMU hr.units (zB 3) (zB 4)) (zJ (zBW zAV rfl (XT.each.at (.tail _ (.tail _ (.tail _ (.tail _ (.tail _ (.tail _ (.tail _ (.head _))))))))).1 XT.mc y_Twice GI_Twice bI_Twice hr (zB 2))) zX) (zJ (yMA kX (yIU hr.units (zB 4) (zB 3)))))))))
    exact h
abbrev zLA:Stmt:=top 43
theorem zYT:FnScope yS yS (zG zLA):=⟨rfl,rfl,rfl,by decide+kernel,rfl,by decide+kernel,by decide+kernel⟩
theorem zYU(D:DefM K mg "book_of" zLA)(zQF:(yFO P w K mg base) "check_sizes" 1 3 yS bQ)(zPF:(yFO P w K mg base) "check_tables" 4 1 ["tables"] gL)(zQD:(yFO P w K mg base) "check_rules" 8 2 ["tables","rules"] bR)(zTW:(yFO P w K mg base) "check_rows" 4 2 ["tables","rows"] cX)(yW:mg "tuple"=none):(yFO P w K mg base) "book_of" 9 3 yS gE:=
 by have h:=yFP (P:=P) (w:=w) (base:=base) D (fun _ _ _ _ _ _ us hl=>match us,hl with | [_,_,_],_=>rfl) fun f fd F=>okX (k:=8) _ F zYT fun cdv A outer s H E hr=>(zI (zFV (zFZ zAV zQF (hr.mono (by decide)) rfl (zA (zB 0) (zA (zB 1) (zA (zB 2) zD))))) (zI (zFV (zFZ zAV zPF (hr.mono (by decide)) rfl (zA (zB 0) zD))) (zI (zFV (zFZ zAV zQD (hr.mono (by decide)) rfl (zA (zB 0) (zA (zB 1) zD)))) (zI (zFV (zFZ zAV zTW (hr.mono (by decide)) rfl (zA (zB 0) (zA (zB 2) zD)))) (zJ (zN (yJ (zA (gC kN zBS rfl yW wV (zA (zB 0) zD)) (zA (gC kN zBS rfl yW wV (zA (zB 1) zD)) (zA (gC kN zBS rfl yW wV (zA (zB 2) zD)) zD))))))))))
    exact h
abbrev zAE:Stmt:=top 45
theorem zLW:FnScope ["_law_script","_law_k"] ["_law_script","_law_k"] (zG zAE):=⟨rfl,rfl,rfl,by decide+kernel,rfl,by decide+kernel,by decide+kernel⟩
theorem zLX(D:DefM K mg "_law_cell_at" zAE)(yE:mg "len"=none):(CalM P w K mg base) "_law_cell_at" 1 2 ["_law_script","_law_k"] yM:=
 by have h:=okC (P:=P) (w:=w) (base:=base) D (fun _ _ _ _ _ _ us hl=>match us,hl with | [_,_],_=>rfl) fun f fd F=>okM (k:=0) _ F zLW fun cdv A outer s H E hr=>(zI (yG (yKE hr.units (zB 1) (zK zR yP rfl yE yR (zA (zB 0) zD))) (zJ (zN (zT (zB 0) (zB 1)))) zX) (zJ (zN zC)))
    exact h
abbrev zHU:Stmt:=top 46
theorem zLN:FnScope zHB ["_law_cell_here","_law_prime"] (zG zHU):=⟨rfl,rfl,rfl,by decide+kernel,rfl,by decide+kernel,by decide+kernel⟩
theorem zWM(D:DefM K mg "_law_mix" zHU):(CalM P w K mg base) "_law_mix" 1 2 ["_law_cell_here","_law_prime"] wO:=
 by have h:=okC (P:=P) (w:=w) (base:=base) D (fun _ _ _ _ _ _ us hl=>match us,hl with | [_,_],_=>rfl) fun f fd F=>okM (k:=0) _ F zLN fun cdv A outer s H E hr=>(zI (yG (bW hr.units (yK (zB 0) zC) zC) (zJ (zN (yK (kS (zB 0) zC) (kZ (kZ zC zC) zC)))) zX) (zI (yH 2 zLN.nd (yK (zCK (xK (yK (zB 0) zC) zC) zC) (zB 1))) (zJ (zN (xK (zCK (yK (zCK (zB 2) (zB 2)) zC) zC) (zB 2))))))
    exact h
abbrev zFM:Stmt:=top 47
theorem kG:FnScope zEU ["_law_cell_here"] (zG zFM):=⟨rfl,rfl,rfl,by decide+kernel,rfl,by decide+kernel,by decide+kernel⟩
theorem zTS(D:DefM K mg "_law_name" zFM)(wS:mg "range"=none):(CalM P w K mg base) "_law_name" 1 1 ["_law_cell_here"] gF:=
 by have h:=okC (P:=P) (w:=w) (base:=base) D (fun _ _ _ _ _ _ us hl=>match us,hl with | [_],_=>rfl) fun f fd F=>okM (k:=0) _ F kG fun cdv A outer s H E hr=>(zI (yH 1 kG.nd (wT [97,98,99,100,101,102,103,104,105,106,107,108,109,110,111,112,113,114,115,116,117,118,119,120,121,122])) (zI (yH 2 kG.nd (kS (zB 0) zC)) (zI (yH 3 kG.nd (wT [])) (zI (zAZ PassesOwn.never rfl (gD rfl wS (zA (xK zC (yK (zB 0) zC)) zD)) (kA 4 kG.nd) (zI (yH 3 kG.nd (xK (zB 3) (zT (zB 1) (yK (zB 2) zC)))) (zJ (yH 2 kG.nd (kS (zB 2) zC))))) (zJ (zN (zB 3)))))))
    exact h
abbrev zDP:Stmt:=top 48
theorem zGR:FnScope zCO ["_law_cell_here"] (zG zDP):=⟨rfl,rfl,rfl,by decide+kernel,rfl,by decide+kernel,by decide+kernel⟩
theorem zPW(D:DefM K mg "_law_value" zDP)(zWQ:(CalM P w K mg base) "_law_name" 1 1 ["_law_cell_here"] gF):(CalM P w K mg base) "_law_value" 2 1 ["_law_cell_here"] jJ:=
 by have h:=okC (P:=P) (w:=w) (base:=base) D (fun _ _ _ _ _ _ us hl=>match us,hl with | [_],_=>rfl) fun f fd F=>okM (k:=1) _ F zGR fun cdv A outer s H E hr=>(zI (yH 1 zGR.nd (kS (zB 0) zC)) (zI (yG (bW hr.units (yK (zB 0) zC) zC) (zJ (zN (zT (yZ (zA zC (zA zC (zA zJZ (zA (zCJ (kZ zC zC) zC) (zA (zCJ zC (kZ zC zC)) (zA (kZ zC zC) zD))))))) (yK (zB 1) zC)))) zX) (zI (yG (bW hr.units (yK (zB 0) zC) zC) (zJ (zN (zCJ (yK (zB 1) zC) zC))) zX) (zI (yG (bW hr.units (yK (zB 0) zC) zC) (zJ (zN (xK (zCJ (yK (kZ (xK (zCK (yK (zB 1) (kZ zC zC)) zC) zC) zC) (zCJ (zCK zC (kZ zC zC)) zC)) (kZ zC zC)) zC))) zX) (zI (yG (bW hr.units (yK (zB 0) zC) zC) (zJ (zN (xK (zCJ (yK (zB 1) (zCJ (zCK zC (kZ zC zC)) zC)) (kZ zC zC)) zC))) zX) (zJ (zN (zL zWQ (hr.mono (by decide)) rfl (zA (zB 1) zD)))))))))
    exact h
abbrev dB:Stmt:=top 49
theorem zPX:FnScope ["_law_told","_law_due_here"] ["_law_told","_law_due_here"] (zG dB):=⟨rfl,rfl,rfl,by decide+kernel,rfl,by decide+kernel,by decide+kernel⟩
theorem zPY(D:DefM K mg "_law_alike" dB)(zGS:mg "str"=none)(zF:mg "isinstance"=none)(zGT:mg "int"=none)(zAH:mg "bool"=none)(zDU:mg "list"=none)(yW:mg "tuple"=none)(yE:mg "len"=none)(zWP:mg "zip"=none)(zAF:mg "all"=none):(CalM P w K mg base) "_law_alike" 8 2 ["_law_told","_law_due_here"] (zV 8):=by
 obtain⟨f,fd,hself,F⟩:=D.ex
 have kself:=F.kp
 have bself:=F.binds (ps:=["_law_told","_law_due_here"]) (fun _ _ _ _ _ _ us hl=>match us,hl with | [_,_],_=>rfl)
 have all: ∀n,FnOk P w K mg base CX0 (0+n) f fd ["_law_told","_law_due_here"] (spM ⟨K,mg,P,w⟩ 2 (zV n)):=by
  intro n
  induction n with
  | zero=>exact fn_no
  | succ n ih0=>
   have ih: ∀m,m=n→FnOk P w K mg base CX0 (0+m) f fd ["_law_told","_law_due_here"] (spM ⟨K,mg,P,w⟩ 2 (zV m)):=fun m e=>e▸ih0
   have h:=okM (P:=P) (w:=w) (mg:=mg) (base:=base) (k:=0+n) _ F zPX fun cdv A outer s H E hr=>(zI (yG (tm_is (zB 1) zAX) (zJ (zN (pm_is (zB 0) zAX))) zX) (zI (yG (zW (zK yQ wL rfl zF zQ (zA (zB 1) (zA (jQ rfl zGS zSK) zD)))) (zJ (zN (wE (zK yQ wL rfl zF zQ (zA (zB 0) (zA (jQ rfl zGS zSK) zD))) (wJ (zEB hr.units (zB 0) (zB 1)))))) zX) (zI (yG (zW (zK yQ wL rfl zF zQ (zA (zB 1) (zA (jQ rfl zGT zSJ) zD)))) (zJ (zN (wE (zK yQ wL rfl zF zQ (zA (zB 0) (zA (jQ rfl zGT zSJ) zD))) (wE (zRY (zK yQ wL rfl zF zQ (zA (zB 0) (zA (jQ rfl zAH zMA) zD)))) (wJ (zEB hr.units (zB 0) (zB 1))))))) zX) (zI (yG (cQ (zXG (zW (zK yQ wL rfl zF zQ (zA (zB 1) (zA (jQ rfl zDU zMB) zD)))) (zRZ (yX (zW (zK yQ wL rfl zF zQ (zA (zB 0) (zA (jQ rfl zDU zMB) zD)))))))) (zJ (zN kX)) zX) (zI (yG (cQ (zXG (zW (zK yQ wL rfl zF zQ (zA (zB 1) (zA (jQ rfl yW wV) zD)))) (zRZ (yX (zW (zK yQ wL rfl zF zQ (zA (zB 0) (zA (jQ rfl yW wV) zD)))))))) (zJ (zN kX)) zX) (zJ (zN (wE (zEB hr.units (zK zR yP rfl yE yR (zA (zB 0) zD)) (zK zR yP rfl yE yR (zA (zB 1) zD))) (wJ (zK jG (zKC rfl) rfl zAF zKD (zA (kB (zG dB) ["_law_told","_law_due_here"] ["_law_one","_law_other"] [] (yML rfl zWP (zA (zB 0) (zA (zB 1) zD))) rfl (fun _ _ _ _ hN=>(yMC (n:=2) rfl (zZN (wR 0 hN) (zZN (wR 1 hN) yMB)))) (fun _ _ _ _=>bO) (fun _ _ _ _=>(zZO (ih n rfl) (hr.mono (by omega)) rfl hself kself bself (zA (zB 0) (zA (zB 1) zD))))) zD)))))))))))
   exact h
 exact⟨f,fd,all 8,hself,kself,bself⟩
abbrev dC:Stmt:=top 50
theorem xS:FnScope zIW ["_law_e"] (zG dC):=⟨rfl,rfl,rfl,by decide+kernel,rfl,by decide+kernel,by decide+kernel⟩
theorem zPD(D:DefM K mg "_law_kinds" dC){xM:Addr}{xl:Nat→Addr}(XT:XTab K mg xM (XCS xl))(zF:mg "isinstance"=none):(CalH P w K mg base) "_law_kinds" 1 1 ["_law_e"] gM:=
 by have h:=okCH (P:=P) (w:=w) (base:=base) D (fun _ _ _ _ _ _ us hl=>match us,hl with | [_],_=>rfl) fun f fd F=>okH (k:=0) _ F xS fun cdv A outer s H hr=>(zI (yH 1 xS.nd (yZ (zA (xN XT xnd (.head _) zF rfl rfl (zB 0)) (zA (xN XT xnd (.tail _ (.tail _ (.tail _ (.tail _ (.head _))))) zF rfl rfl (zB 0)) (zA (xN XT xnd (.tail _ (.tail _ (.tail _ (.tail _ (.tail _ (.head _)))))) zF rfl rfl (zB 0)) (zA (xN XT xnd (.tail _ (.tail _ (.tail _ (.tail _ (.tail _ (.tail _ (.head _))))))) zF rfl rfl (zB 0)) zD)))))) (zI (yH 1 xS.nd (xK (zB 1) (yZ (zA (xN XT xnd (.tail _ (.tail _ (.tail _ (.tail _ (.tail _ (.tail _ (.tail _ (.head _)))))))) zF rfl rfl (zB 0)) (zA (xN XT xnd (.tail _ (.head _)) zF rfl rfl (zB 0)) (zA (xN XT xnd (.tail _ (.tail _ (.head _))) zF rfl rfl (zB 0)) (zA (xN XT xnd (.tail _ (.tail _ (.tail _ (.head _)))) zF rfl rfl (zB 0)) zD))))))) (zI (yH 1 xS.nd (xK (zB 1) (yZ (zA (xN XT xnd (.tail _ (.tail _ (.tail _ (.tail _ (.tail _ (.tail _ (.tail _ (.tail _ (.head _))))))))) zF rfl rfl (zB 0)) (zA (xN XT xnd (.tail _ (.tail _ (.tail _ (.tail _ (.tail _ (.tail _ (.tail _ (.tail _ (.tail _ (.head _)))))))))) zF rfl rfl (zB 0)) (zA (xN XT xnd (.tail _ (.tail _ (.tail _ (.tail _ (.tail _ (.tail _ (.tail _ (.tail _ (.tail _ (.tail _ (.head _))))))))))) zF rfl rfl (zB 0)) (zA (xN XT xnd (.tail _ (.tail _ (.tail _ (.tail _ (.tail _ (.tail _ (.tail _ (.tail _ (.tail _ (.tail _ (.tail _ (.head _)))))))))))) zF rfl rfl (zB 0)) zD))))))) (zJ (zN (zB 1))))))
    exact h
theorem zPZ(D:DefM K mg "_law_kinds" dC){xM:Addr}{xl:Nat→Addr}(XT:XTab K mg xM (XCS xl))(zF:mg "isinstance"=none):(CalM P w K mg base) "_law_kinds" 1 1 ["_law_e"] gM:=
 by have h:=okC (P:=P) (w:=w) (base:=base) D (fun _ _ _ _ _ _ us hl=>match us,hl with | [_],_=>rfl) fun f fd F=>okM (k:=0) _ F xS fun cdv A outer s H E hr=>(zI (yH 1 xS.nd (yZ (zA (xN XT xnd (.head _) zF rfl rfl (zB 0)) (zA (xN XT xnd (.tail _ (.tail _ (.tail _ (.tail _ (.head _))))) zF rfl rfl (zB 0)) (zA (xN XT xnd (.tail _ (.tail _ (.tail _ (.tail _ (.tail _ (.head _)))))) zF rfl rfl (zB 0)) (zA (xN XT xnd (.tail _ (.tail _ (.tail _ (.tail _ (.tail _ (.tail _ (.head _))))))) zF rfl rfl (zB 0)) zD)))))) (zI (yH 1 xS.nd (xK (zB 1) (yZ (zA (xN XT xnd (.tail _ (.tail _ (.tail _ (.tail _ (.tail _ (.tail _ (.tail _ (.head _)))))))) zF rfl rfl (zB 0)) (zA (xN XT xnd (.tail _ (.head _)) zF rfl rfl (zB 0)) (zA (xN XT xnd (.tail _ (.tail _ (.head _))) zF rfl rfl (zB 0)) (zA (xN XT xnd (.tail _ (.tail _ (.tail _ (.head _)))) zF rfl rfl (zB 0)) zD))))))) (zI (yH 1 xS.nd (xK (zB 1) (yZ (zA (xN XT xnd (.tail _ (.tail _ (.tail _ (.tail _ (.tail _ (.tail _ (.tail _ (.tail _ (.head _))))))))) zF rfl rfl (zB 0)) (zA (xN XT xnd (.tail _ (.tail _ (.tail _ (.tail _ (.tail _ (.tail _ (.tail _ (.tail _ (.tail _ (.head _)))))))))) zF rfl rfl (zB 0)) (zA (xN XT xnd (.tail _ (.tail _ (.tail _ (.tail _ (.tail _ (.tail _ (.tail _ (.tail _ (.tail _ (.tail _ (.head _))))))))))) zF rfl rfl (zB 0)) (zA (xN XT xnd (.tail _ (.tail _ (.tail _ (.tail _ (.tail _ (.tail _ (.tail _ (.tail _ (.tail _ (.tail _ (.tail _ (.head _)))))))))))) zF rfl rfl (zB 0)) zD))))))) (zJ (zN (zB 1))))))
    exact h
abbrev gR:Stmt:=top 51
theorem wF:FnScope dP ["_law_parts","_law_which","_law_place"] (zG gR):=⟨rfl,rfl,rfl,by decide+kernel,rfl,by decide+kernel,by decide+kernel⟩
theorem zLY(D:DefM K mg "_law_refused" gR){xM:Addr}{xl:Nat→Addr}(XT:XTab K mg xM (XCS xl))(GH__law_kinds:(CalH P w K mg base) "_law_kinds" 1 1 ["_law_e"] gM)(zF:mg "isinstance"=none)(gT:mg "ValueError"=none)(zLB:(yFO P w K mg base) "book_of" 9 3 yS gE)(wS:mg "range"=none)(zAH:mg "bool"=none):(CalM P w K mg base) "_law_refused" 10 3 ["_law_parts","_law_which","_law_place"] gN:=
 by have h:=okC (P:=P) (w:=w) (base:=base) D (fun _ _ _ _ _ _ us hl=>match us,hl with | [_,_,_],_=>rfl) fun f fd F=>okM (k:=9) _ F wF fun cdv A outer s H E hr=>(zI (yH 3 wF.nd (yZ zD)) (zI (yH 4 wF.nd zAX) (zI (yFQ (i:=5) XT rfl wF.nd zLB (hr.mono (by decide)) rfl (zA (zT (zB 0) zC) (zA (zT (zB 0) zC) (zA (zT (zB 0) zC) zD))) (fun v=>(zI (yH 3 wF.nd (xK (yCK GH__law_kinds ((hr.inH v).mono (by decide)) rfl (zA (zB 5) zD)) (yZ (zA (yMV XT zF gT rfl rfl (zB 5)) zD)))) (zJ (yG (zUS (zB 1) zC) (zJ (yH 4 wF.nd (yMW XT (by decide) zES (zB 5)))) zX))))) (zI (yG (zIM hr.units (zB 3) (xK (kB (zG gR) dP ["_law_k"] [1] (gD rfl wS (zA zC zD)) rfl (fun _ _ _ _ hN=>(wR 0 hN)) (fun _ _ _ _=>bO) (fun _ _ _ _=>(zEB hr.units (zB 0) (zB 1)))) (yZ (zA kX zD)))) (zJ (zN kX)) zX) (zJ (zN (pm_or (zEB hr.units (zB 1) zC) (wJ (wE (zRY (zK yQ wL rfl zF zQ (zA (zB 4) (zA (jQ rfl zAH zMA) zD)))) (wJ (zEB hr.units (zB 4) (zB 2))))))))))))
    exact h
abbrev zDQ:Stmt:=top 52
theorem jT:FnScope zCP ["_law_cell_here"] (zG zDQ):=⟨rfl,rfl,rfl,by decide+kernel,rfl,by decide+kernel,by decide+kernel⟩
theorem zQA(D:DefM K mg "_law_table" zDQ)(zHX:(CalM P w K mg base) "_law_mix" 1 2 ["_law_cell_here","_law_prime"] wO):(CalM P w K mg base) "_law_table" 2 1 ["_law_cell_here"] wI:=
 by have h:=okC (P:=P) (w:=w) (base:=base) D (fun _ _ _ _ _ _ us hl=>match us,hl with | [_],_=>rfl) fun f fd F=>okM (k:=1) _ F jT fun cdv A outer s H E hr=>(zI (yH 1 jT.nd (zL zHX (hr.mono (by decide)) rfl (zA (zB 0) (zA zC zD)))) (zI (yH 2 jT.nd (xK (yK (zB 1) zC) zC)) (zI (yG (zUS (yK (kS (zB 1) zC) zC) zC) (zJ (zN (yJ (zA (zB 2) (zA (yK (kS (zB 1) zC) (xK (zB 2) zC)) zD))))) zX) (zI (yH 3 jT.nd (yZ (zA (yJ (zA (zB 2) (zA (xK (zB 2) zC) zD))) (zA (yJ (zA zC (zA zC zD))) (zA (yJ (zA zC (zA zC zD))) (zA (yJ (zA (zB 2) (zA zJZ zD))) (zA (yJ (zA kX (zA zC zD))) (zA (yJ (zA (zB 2) (zA kX zD))) zD)))))))) (zI (yH 3 jT.nd (xK (zB 3) (yZ (zA (yJ (zA (zB 2) zD)) (zA (yJ (zA (zB 2) (zA zC (zA zC zD)))) (zA (yJ (zA (wT [97]) (zA zC zD))) (zA zAX zD))))))) (zJ (zN (zT (xK (zB 3) (yZ (zA (yJ (zA zC (zA zAX zD))) (zA (yJ (zA (xK (kZ zC zC) (zB 1)) (zA zC zD))) (zA (yJ (zA zJZ (zA zJZ zD))) (zA zC (zA (yJ (zA zC (zA (wT [49]) zD))) zD))))))) (yK (kS (zB 1) zC) zC)))))))))
    exact h
abbrev zFN:Stmt:=top 53
theorem zTT:FnScope ["_law_cell_here"] ["_law_cell_here"] (zG zFN):=⟨rfl,rfl,rfl,by decide+kernel,rfl,by decide+kernel,by decide+kernel⟩
theorem zTU(D:DefM K mg "_law_cell" zFN)(zTZ:(CalM P w K mg base) "_law_value" 2 1 ["_law_cell_here"] jJ):(CalM P w K mg base) "_law_cell" 3 1 ["_law_cell_here"] jB:=
 by have h:=okC (P:=P) (w:=w) (base:=base) D (fun _ _ _ _ _ _ us hl=>match us,hl with | [_],_=>rfl) fun f fd F=>okM (k:=2) _ F zTT fun cdv A outer s H E hr=>(zI (yG (bW hr.units (yK (zB 0) zC) zC) (zJ (zN (zT (yZ (zA kX (zA zAX (zA (wT []) (zA (wT [65,98,99]) (zA (kZ zC zC) (zA (zCJ zC (kZ zC zC)) (zA (wT [97,98,99,100,101,102,103,104,105]) (zA (yJ (zA zC zD)) (zA kX (zA (wT [97,49]) zD))))))))))) (yK (kS (zB 0) zC) zC)))) zX) (zI (yG (yKE hr.units (yK (zB 0) zC) zC) (zJ (zN (zT (yZ (zA zC (zA zC (zA (wT [97]) (zA (wT [98]) zD))))) (yK (kS (zB 0) zC) zC)))) zX) (zJ (zN (zL zTZ (hr.mono (by decide)) rfl (zA (kS (zB 0) zC) zD))))))
    exact h
abbrev zDR:Stmt:=top 54
theorem gG:FnScope zCQ ["_law_cell_here","_law_tables"] (zG zDR):=⟨rfl,rfl,rfl,by decide+kernel,rfl,by decide+kernel,by decide+kernel⟩
theorem zWN(D:DefM K mg "_law_row" zDR)(zHX:(CalM P w K mg base) "_law_mix" 1 2 ["_law_cell_here","_law_prime"] wO)(yE:mg "len"=none)(wS:mg "range"=none)(zWS:(CalM P w K mg base) "_law_cell" 3 1 ["_law_cell_here"] jB)(yW:mg "tuple"=none):(CalM P w K mg base) "_law_row" 4 2 ["_law_cell_here","_law_tables"] jC:=
 by have h:=okC (P:=P) (w:=w) (base:=base) D (fun _ _ _ _ _ _ us hl=>match us,hl with | [_,_],_=>rfl) fun f fd F=>okM (k:=3) _ F gG fun cdv A outer s H E hr=>(zI (yH 2 gG.nd (zL zHX (hr.mono (by decide)) rfl (zA (zB 0) (zA zC zD)))) (zI (yH 3 gG.nd (yK (zB 2) (zK zR yP rfl yE yR (zA (zB 1) zD)))) (zI (yH 4 gG.nd (zT (zT (zB 1) (zB 3)) zC)) (zI (yG (bW hr.units (yK (kS (zB 2) zC) zC) zC) (zI (yH 5 gG.nd (yZ (zA (yJ (zA (zK zR yP rfl yE yR (zA (zB 1) zD)) (zA (yJ (zA zC zD)) zD))) (zA (yJ (zA zJZ (zA (yJ (zA zC zD)) zD))) (zA (yJ (zA kX (zA (yJ (zA zC zD)) zD))) (zA (yJ (zA zC zD)) (zA zAX (zA (yJ (zA zC (zA zC zD))) (zA (yJ (zA (wT [48]) (zA (yJ (zA zC zD)) zD))) (zA (yJ (zA zC (zA zAX zD))) zD)))))))))) (zJ (zN (zT (zB 5) (yK (kS (zB 2) zC) zC))))) zX) (zI (yG (bW hr.units (yK (kS (zB 2) zC) zC) zC) (zJ (yH 4 gG.nd (zCJ (xK (zB 4) zC) (zCK zC (yK (kS (zB 2) zC) zC))))) zX) (zJ (zN (yJ (zA (zB 3) (zA (gC kN zBS rfl yW wV (zA (kB (zG zDR) zCQ ["_law_k"] [0,2] (gD rfl wS (zA (zB 4) zD)) rfl (fun _ _ _ _ hN=>(wR 0 hN)) (fun _ _ _ _=>bO) (fun _ _ _ _=>(zL zWS (hr.mono (by decide)) rfl (zA (xK (kS (zB 2) (xK zC (zCK zC (zB 0)))) (zCK (yK (kS (zB 1) zC) (kZ zC zC)) (zB 0))) zD)))) zD)) zD))))))))))
    exact h
abbrev zDS:Stmt:=top 55
theorem zQB:FnScope ["_law_thing"] ["_law_thing"] (zG zDS):=⟨rfl,rfl,rfl,by decide+kernel,rfl,by decide+kernel,by decide+kernel⟩
theorem zQC(D:DefM K mg "_law_whole" zDS)(zGT:mg "int"=none)(zF:mg "isinstance"=none)(zAH:mg "bool"=none):(CalM P w K mg base) "_law_whole" 1 1 ["_law_thing"] xO:=
 by have h:=okC (P:=P) (w:=w) (base:=base) D (fun _ _ _ _ _ _ us hl=>match us,hl with | [_],_=>rfl) fun f fd F=>okM (k:=0) _ F zQB fun cdv A outer s H E hr=>(zJ (zN (wE (zK yQ wL rfl zF zQ (zA (zB 0) (zA (jQ rfl zGT zSJ) zD))) (wJ (zRY (zK yQ wL rfl zF zQ (zA (zB 0) (zA (jQ rfl zAH zMA) zD))))))))
    exact h
abbrev gA:Stmt:=top 56
theorem zGF:FnScope ["_law_thing"] ["_law_thing"] (zG gA):=⟨rfl,rfl,rfl,by decide+kernel,rfl,by decide+kernel,by decide+kernel⟩
theorem zGG(D:DefM K mg "_law_table_right" gA)(yW:mg "tuple"=none)(zF:mg "isinstance"=none)(yE:mg "len"=none)(jL:(CalM P w K mg base) "_law_whole" 1 1 ["_law_thing"] xO):(CalM P w K mg base) "_law_table_right" 2 1 ["_law_thing"] xD:=
 by have h:=okC (P:=P) (w:=w) (base:=base) D (fun _ _ _ _ _ _ us hl=>match us,hl with | [_],_=>rfl) fun f fd F=>okM (k:=1) _ F zGF fun cdv A outer s H E hr=>(zI (yG (cQ (gW (yX (zW (zK yQ wL rfl zF zQ (zA (zB 0) (zA (jQ rfl yW wV) zD))))) (gW (zIM hr.units (zK zR yP rfl yE yR (zA (zB 0) zD)) zC) (gW (yX (zW (zL jL (hr.mono (by decide)) rfl (zA (zT (zB 0) zC) zD)))) (bA (yX (zW (zL jL (hr.mono (by decide)) rfl (zA (zT (zB 0) zC) zD))))))))) (zJ (zN kX)) zX) (zJ (zN (wE (yAD hr.units zC (zT (zB 0) zC) zC) (wJ (yIZ hr.units zJZ (zT (zB 0) zC) (zT (zB 0) zC)))))))
    exact h
abbrev kH:Stmt:=top 57
theorem zGH:FnScope ["_law_thing"] ["_law_thing"] (zG kH):=⟨rfl,rfl,rfl,by decide+kernel,rfl,by decide+kernel,by decide+kernel⟩
theorem zGI(D:DefM K mg "_law_value_right" kH)(zGS:mg "str"=none)(zF:mg "isinstance"=none)(yE:mg "len"=none)(jL:(CalM P w K mg base) "_law_whole" 1 1 ["_law_thing"] xO)(zPI:mg "abs"=none):(CalM P w K mg base) "_law_value_right" 2 1 ["_law_thing"] wB:=
 by have h:=okC (P:=P) (w:=w) (base:=base) D (fun _ _ _ _ _ _ us hl=>match us,hl with | [_],_=>rfl) fun f fd F=>okM (k:=1) _ F zGH fun cdv A outer s H E hr=>(zI (yG (zW (zK yQ wL rfl zF zQ (zA (zB 0) (zA (jQ rfl zGS zSK) zD)))) (zJ (zN (wE (yAD hr.units zC (zK zR yP rfl yE yR (zA (zB 0) zD)) zC) (wJ (zEB hr.units (kB (zG kH) ["_law_thing"] ["_law_sign"] [] (yDZ (zB 0)) rfl (fun _ _ _ _ hN=>(wR 0 hN)) (fun _ _ _ _=>(zII (zUV hr.units (zB 0) (wT [97,98,99,100,101,102,103,104,105,106,107,108,109,110,111,112,113,114,115,116,117,118,119,120,121,122])))) (fun _ _ _ _=>(zB 0))) (yZ zD)))))) zX) (zJ (zN (wE (zL jL (hr.mono (by decide)) rfl (zA (zB 0) zD)) (wJ (yKD hr.units (zK zUD yEN rfl zPI yEP (zA (zB 0) zD)) (kZ zC zC)))))))
    exact h
abbrev jK:Stmt:=top 58
theorem zJS:FnScope xC xC (zG jK):=⟨rfl,rfl,rfl,by decide+kernel,rfl,by decide+kernel,by decide+kernel⟩
theorem zJT(D:DefM K mg "_law_row_right" jK)(yW:mg "tuple"=none)(zF:mg "isinstance"=none)(yE:mg "len"=none)(jL:(CalM P w K mg base) "_law_whole" 1 1 ["_law_thing"] xO)(zIA:(CalM P w K mg base) "_law_value_right" 2 1 ["_law_thing"] wB):(CalM P w K mg base) "_law_row_right" 3 2 xC xV:=
 by have h:=okC (P:=P) (w:=w) (base:=base) D (fun _ _ _ _ _ _ us hl=>match us,hl with | [_,_],_=>rfl) fun f fd F=>okM (k:=2) _ F zJS fun cdv A outer s H E hr=>(zI (yG (cQ (gW (yX (zW (zK yQ wL rfl zF zQ (zA (zB 1) (zA (jQ rfl yW wV) zD))))) (gW (zIM hr.units (zK zR yP rfl yE yR (zA (zB 1) zD)) zC) (gW (yX (zW (zL jL (hr.mono (by decide)) rfl (zA (zT (zB 1) zC) zD)))) (bA (yX (zW (zK yQ wL rfl zF zQ (zA (zT (zB 1) zC) (zA (jQ rfl yW wV) zD)))))))))) (zJ (zN kX)) zX) (zI (yG (cQ (gW (yX (yIE hr.units zC (zT (zB 1) zC) (zK zR yP rfl yE yR (zA (zB 0) zD)))) (bA (zIM hr.units (zK zR yP rfl yE yR (zA (zT (zB 1) zC) zD)) (zT (zT (zB 0) (zT (zB 1) zC)) zC))))) (zJ (zN kX)) zX) (zJ (zN (zEB hr.units (kB (zG jK) xC ["_law_value_here"] [] (zGX (zT (zB 1) zC)) rfl (fun _ _ _ _ hN=>(wR 0 hN)) (fun _ _ _ _=>(zII (yX (zW (zL zIA (hr.mono (by decide)) rfl (zA (zB 0) zD)))))) (fun _ _ _ _=>(zB 0))) (yZ zD))))))
    exact h
abbrev zHV:Stmt:=top 59
theorem zAT:FnScope zOG ["_law_tables","_law_rows"] (zG zHV):=⟨rfl,rfl,rfl,by decide+kernel,rfl,by decide+kernel,by decide+kernel⟩
theorem zWO(D:DefM K mg "_law_due" zHV)(wS:mg "range"=none)(yE:mg "len"=none)(zWR:mg "max"=none)(gB:(CalM P w K mg base) "_law_table_right" 2 1 ["_law_thing"] xD)(bM:(CalM P w K mg base) "_law_row_right" 3 2 xC xV):(CalM P w K mg base) "_law_due" 4 2 ["_law_tables","_law_rows"] nY:=
 by have h:=okC (P:=P) (w:=w) (base:=base) D (fun _ _ _ _ _ _ us hl=>match us,hl with | [_,_],_=>rfl) fun f fd F=>okM (k:=3) _ F zAT fun cdv A outer s H E hr=>(zI (zAZ PassesOwn.never rfl (gD rfl wS (zA (zK (yBG rfl) yMZ rfl zWR yNA (zA zC (zA (zK zR yP rfl yE yR (zA (zB 0) zD)) zD))) zD)) (kA 2 zAT.nd) (zJ (yG (cQ (gW (bW hr.units (zB 0) (yZ zD)) (bA (yX (zW (zL gB (hr.mono (by decide)) rfl (zA (zT (zB 0) (zB 2)) zD))))))) (zJ (zN (yJ (zA zC (zA (zB 2) zD))))) zX))) (zI (zAZ PassesOwn.never rfl (gD rfl wS (zA (zK zR yP rfl yE yR (zA (zB 1) zD)) zD)) (kA 2 zAT.nd) (zJ (yG (yX (zW (zL bM (hr.mono (by decide)) rfl (zA (zB 0) (zA (zT (zB 1) (zB 2)) zD))))) (zJ (zN (yJ (zA zC (zA (zB 2) zD))))) zX))) (zI (zAZ PassesOwn.never rfl (gD rfl wS (zA (zK zR yP rfl yE yR (zA (zB 1) zD)) zD)) (kA 2 zAT.nd) (zJ (yG (tm_in hr.units (zT (zB 1) (zB 2)) (zKB (zB 1) zSA (cU (zB 2)))) (zJ (zN (yJ (zA zC (zA (zB 2) zD))))) zX))) (zJ (zN zAX)))))
    exact h
abbrev zPE:Stmt:=top 60
theorem zBK:FnScope zOH ["_law_script"] (zG zPE):=⟨rfl,rfl,rfl,by decide+kernel,rfl,by decide+kernel,by decide+kernel⟩
theorem yOE{f:Addr}{fd:FuncData}(F:Fun K "law" "law" zPE f fd)(gU:(CalM P w K mg base) "_law_cell_at" 1 2 ["_law_script","_law_k"] yM)(wS:mg "range"=none)(zUA:(CalM P w K mg base) "_law_table" 2 1 ["_law_cell_here"] wI)(gB:(CalM P w K mg base) "_law_table_right" 2 1 ["_law_thing"] xD)(zYZ:(CalM P w K mg base) "_law_row" 4 2 ["_law_cell_here","_law_tables"] jC)(yE:mg "len"=none)(bM:(CalM P w K mg base) "_law_row_right" 3 2 xC xV)(zDU:mg "list"=none)(zYV:(CalM P w K mg base) "_law_due" 4 2 ["_law_tables","_law_rows"] nY)(zPH:(CalM P w K mg base) "_law_refused" 10 3 ["_law_parts","_law_which","_law_place"] gN)(zTY:(CalM P w K mg base) "_law_alike" 8 2 ["_law_told","_law_due_here"] (zV 8))(zLB:(yFO P w K mg base) "book_of" 9 3 yS gE)(yW:mg "tuple"=none):FnOk P w K mg base CX0 11 f fd ["_law_script"] (spM ⟨K,mg,P,w⟩ 1 zRF):=
 by have h:=okM (P:=P) (w:=w) (mg:=mg) (base:=base) (k:=10) _ F zBK fun cdv A outer s H E hr=>(zI (yH 1 zBK.nd (zL gU (hr.mono (by decide)) rfl (zA (zB 0) (zA zC zD)))) (zI (yH 2 zBK.nd (kB (zG zPE) zOH ["_law_k"] [0] (gD rfl wS (zA (zT (yZ (zA zC (zA zC (zA zC (zA zC (zA zC (zA zC (zA zC (zA zC zD))))))))) (yK (zB 1) zC)) zD)) rfl (fun _ _ _ _ hN=>(wR 0 hN)) (fun _ _ _ _=>bO) (fun _ _ _ _=>(zL zUA (hr.mono (by decide)) rfl (zA (zL gU (hr.mono (by decide)) rfl (zA (zB 1) (zA (xK zC (zB 0)) zD))) zD))))) (zI (yH 3 zBK.nd (yZ zD)) (zI (yG (cQ (zXG (zIM hr.units (zB 2) (yZ zD)) (zRZ (bW hr.units (kB (zG zPE) zOH ["_law_table_here"] [] (zSB (zB 2)) rfl (fun _ _ _ _ hN=>(wR 0 hN)) (fun _ _ _ _=>(zII (yX (zW (zL gB (hr.mono (by decide)) rfl (zA (zB 0) zD)))))) (fun _ _ _ _=>(zB 0))) (yZ zD))))) (zJ (zAZ PassesOwn.never rfl (zSB (zKB (zB 0) (cU zC) (cU zC))) (kA 4 zBK.nd) (zI (zFV (zQW (zB 3) (zA (zL zYZ (hr.mono (by decide)) rfl (zA (zB 4) (zA (zB 2) zD))) zD))) (zJ (yG (bW hr.units (yK (zB 4) zC) zC) (zJ (zFV (zQW (zB 3) (zA (zT (zB 3) (yK (kS (zB 4) zC) (zK zR yP rfl yE yR (zA (zB 3) zD)))) zD)))) zX))))) zX) (zI (yG (bW hr.units (yK (zL gU (hr.mono (by decide)) rfl (zA (zB 0) (zA zC zD))) zC) zC) (zJ (yH 3 zBK.nd (kB (zG zPE) zOH ["_law_row_here"] [2] (zSB (zB 3)) rfl (fun _ _ _ _ hN=>(wR 0 hN)) (fun _ _ _ _=>(zII (zW (zL bM (hr.mono (by decide)) rfl (zA (zB 1) (zA (zB 0) zD)))))) (fun _ _ _ _=>(zB 0))))) zX) (zI (yG (bW hr.units (yK (kS (zL gU (hr.mono (by decide)) rfl (zA (zB 0) (zA zC zD))) zC) zC) zC) (zJ (yH 3 zBK.nd (kB (zG zPE) zOH ["_law_k"] [3] (gD rfl wS (zA (zK zR yP rfl yE yR (zA (zB 3) zD)) zD)) rfl (fun _ _ _ _ hN=>(wR 0 hN)) (fun _ _ _ _=>(zII (zUV hr.units (zT (zB 1) (zB 0)) (zKB (zB 1) zSA (cU (zB 0)))))) (fun _ _ _ _=>(zT (zB 1) (zB 0)))))) zX) (zI (yH 3 zBK.nd (zKB (zB 3) zSA (cU zC))) (zI (yH 5 zBK.nd (yZ (zA (gC zIB zZT rfl zDU zMB (zA (zB 2) zD)) (zA (yZ zD) (zA (gC zIB zZT rfl zDU zMB (zA (zB 3) zD)) zD))))) (zI (yH 6 zBK.nd (zL zYV (hr.mono (by decide)) rfl (zA (zB 2) (zA (zB 3) zD)))) (zI (yG (yEK (zB 6) zAX) (zJ (zN (wE (zL zPH (hr.mono (by decide)) rfl (zA (zB 5) (zA (zT (zB 6) zC) (zA (zT (zB 6) zC) zD)))) (wJ (zEB hr.units (zB 5) (yZ (zA (zB 2) (zA (yZ zD) (zA (zB 3) zD))))))))) zX) (zJ (zN (zL zTY (hr.mono (by decide)) rfl (zA (zL zLB.noX (hr.mono (by decide)) rfl (zA (zT (zB 5) zC) (zA (zT (zB 5) zC) (zA (zT (zB 5) zC) zD)))) (zA (yJ (zA (gC kN zBS rfl yW wV (zA (zB 2) zD)) (zA (yJ zD) (zA (gC kN zBS rfl yW wV (zA (zB 3) zD)) zD)))) zD)))))))))))))))
    exact h
end
theorem all_mk{l:PySem.W.OpenLaw}{w:World}{K:PySem.W.Frag}{h:Heap}{mg:Str→Option Value}{fa:Addr}(X:K.In h)(GG:h.Ns mainGlobals mg)(hfa:mg "law"=some (.ref fa))
  (D0:DefM K mg "is_whole" zHN)
  (D1:DefM K mg "is_name" zGC)
  (D2:DefM K mg "is_value" zHO)
  (D3:DefM K mg "is_tuple" zHP)
  (D4:DefM K mg "is_number_below" gQ)
  (D5:DefM K mg "is_table" zHS)
  (D6:DefM K mg "is_side" zKW)
  (D7:DefM K mg "is_test" zKX)
  (D8:DefM K mg "are_tests" zAS)
  (D9:DefM K mg "are_columns" bU)
  (D10:DefM K mg "is_never" zHT)
  (D11:DefM K mg "is_apart" zAB)
  (D12:DefM K mg "is_tie" zOZ)
  (D13:DefM K mg "is_rule" zKZ)
  (D14:DefM K mg "is_row" zJR)
  (D15:DefM K mg "check_sizes" zBI)
  (D16:DefM K mg "check_tables" zAC)
  (D17:DefM K mg "check_rules" zBJ)
  (D18:DefM K mg "check_rows" zDO)
  (D19:DefM K mg "book_of" zLA)
  (D20:DefM K mg "_law_cell_at" zAE)
  (D21:DefM K mg "_law_mix" zHU)
  (D22:DefM K mg "_law_name" zFM)
  (D23:DefM K mg "_law_value" zDP)
  (D24:DefM K mg "_law_alike" dB)
  (D25:DefM K mg "_law_kinds" dC)
  (D26:DefM K mg "_law_refused" gR)
  (D27:DefM K mg "_law_table" zDQ)
  (D28:DefM K mg "_law_cell" zFN)
  (D29:DefM K mg "_law_row" zDR)
  (D30:DefM K mg "_law_whole" zDS)
  (D31:DefM K mg "_law_table_right" gA)
  (D32:DefM K mg "_law_value_right" kH)
  (D33:DefM K mg "_law_row_right" jK)
  (D34:DefM K mg "_law_due" zHV)
  (D35:DefM K mg "law" zPE)
  {zAG:Tok} (jF:PySem.W.nsIn K mainGlobals "MOST_LETTERS"=some (some (.int 8 zAG)))
  {zFQ:Tok} (cG:PySem.W.nsIn K mainGlobals "MOST_ROWS"=some (some (.int 60 zFQ)))
  {zDT:Tok} (gS:PySem.W.nsIn K mainGlobals "MOST_RULES"=some (some (.int 6 zDT)))
  {zBL:Tok} (jU:PySem.W.nsIn K mainGlobals "MOST_TABLES"=some (some (.int 4 zBL)))
  {zDW:Tok} (gV:PySem.W.nsIn K mainGlobals "MOST_TESTS"=some (some (.int 3 zDW)))
  {zFR:Tok} (cH:PySem.W.nsIn K mainGlobals "MOST_TIED"=some (some (.int 3 zFR)))
  {zFS:Tok} (cJ:PySem.W.nsIn K mainGlobals "MOST_WIDE"=some (some (.int 4 zFS)))
  {yBA:Addr} {oc_WORDS:Value} {od_WORDS:Option Addr} {its_WORDS:Array Value} {n_WORDS:Nat} {sl_WORDS:Array (Option Value)} (zJV:PySem.W.nsIn K mainGlobals "WORDS"=some (some (.ref yBA))) (zUB:K.lookup yBA=some ⟨oc_WORDS,od_WORDS,.seq its_WORDS n_WORDS,sl_WORDS⟩) (zJU:oc_WORDS=.type "tuple"∧its_WORDS.size≤sizeLine∧Vals ([.str [115,97,109,101],.str [117,110,108,105,107,101],.str [108,101,115,115]].map yAB) its_WORDS.toList)
  {C_MendError:Addr} {i_MendError:Option Value} (zFO:PySem.W.nsIn K mainGlobals "MendError"=some (some (.ref C_MendError))) (x_MendError:XCl K C_MendError bmV i_MendError)
  {C_TooGreat:Addr} {i_TooGreat:Option Value} (zHY:PySem.W.nsIn K mainGlobals "TooGreat"=some (some (.ref C_TooGreat))) (x_TooGreat:XCl K C_TooGreat (.ref C_MendError::bmV) i_TooGreat)
  {C_NoText:Addr} {i_NoText:Option Value} (zPJ:PySem.W.nsIn K mainGlobals "NoText"=some (some (.ref C_NoText))) (x_NoText:XCl K C_NoText (.ref C_MendError::bmV) i_NoText)
  {C_NoPlace:Addr} {i_NoPlace:Option Value} (zLD:PySem.W.nsIn K mainGlobals "NoPlace"=some (some (.ref C_NoPlace))) (x_NoPlace:XCl K C_NoPlace (.ref C_MendError::bmV) i_NoPlace)
  {C_NotPlain:Addr} {i_NotPlain:Option Value} (zHW:PySem.W.nsIn K mainGlobals "NotPlain"=some (some (.ref C_NotPlain))) (x_NotPlain:XCl K C_NotPlain (.ref C_MendError::bmV) i_NotPlain)
  {C_NoTable:Addr} {i_NoTable:Option Value} (zLC:PySem.W.nsIn K mainGlobals "NoTable"=some (some (.ref C_NoTable))) (x_NoTable:XCl K C_NoTable (.ref C_MendError::bmV) i_NoTable)
  {C_NoRule:Addr} {i_NoRule:Option Value} (zPK:PySem.W.nsIn K mainGlobals "NoRule"=some (some (.ref C_NoRule))) (x_NoRule:XCl K C_NoRule (.ref C_MendError::bmV) i_NoRule)
  {C_NoRow:Addr} {i_NoRow:Option Value} (zTX:PySem.W.nsIn K mainGlobals "NoRow"=some (some (.ref C_NoRow))) (x_NoRow:XCl K C_NoRow (.ref C_MendError::bmV) i_NoRow)
  {C_Twice:Addr} {i_Twice:Option Value} (zTV:PySem.W.nsIn K mainGlobals "Twice"=some (some (.ref C_Twice))) (x_Twice:XCl K C_Twice (.ref C_MendError::bmV) i_Twice)
  {C_NoQuestion:Addr} {i_NoQuestion:Option Value} (zDV:PySem.W.nsIn K mainGlobals "NoQuestion"=some (some (.ref C_NoQuestion))) (x_NoQuestion:XCl K C_NoQuestion (.ref C_MendError::bmV) i_NoQuestion)
  {C_Double:Addr} {i_Double:Option Value} (zPG:PySem.W.nsIn K mainGlobals "Double"=some (some (.ref C_Double))) (x_Double:XCl K C_Double (.ref C_MendError::bmV) i_Double)
  {C_TooWide:Addr} {i_TooWide:Option Value} (zLE:PySem.W.nsIn K mainGlobals "TooWide"=some (some (.ref C_TooWide))) (x_TooWide:XCl K C_TooWide (.ref C_MendError::bmV) i_TooWide)
  {C_Ring:Addr} {i_Ring:Option Value} (zYX:PySem.W.nsIn K mainGlobals "Ring"=some (some (.ref C_Ring))) (x_Ring:XCl K C_Ring (.ref C_MendError::bmV) i_Ring)
  (j_MendError:i_MendError=none)
  (j_TooGreat:i_TooGreat=none)
  (j_NoText:i_NoText=none)
  (j_NoPlace:i_NoPlace=none)
  (j_NotPlain:i_NotPlain=none)
  {I_NoTable:Addr} {odI_NoTable anI_NoTable:Option Addr} {slI_NoTable:Array (Option Value)} {ocI_NoTable kVI_NoTable dcI_NoTable pmI_NoTable cdI_NoTable ctI_NoTable:Value} (y_NoTable:XIn K C_MendError C_NoTable I_NoTable) (lI_NoTable:K.lookup I_NoTable=some ⟨ocI_NoTable,odI_NoTable,.func (PySem.W.fnOf "__init__" "NoTable.__init__" (gI zAA) (wG zAA) (zG zAA) .none kVI_NoTable dcI_NoTable pmI_NoTable anI_NoTable cdI_NoTable ctI_NoTable),slI_NoTable⟩) (cI_NoTable:PySem.W.codeIn K cdI_NoTable "NoTable.__init__"=true) (kI_NoTable:PySem.W.keepIn K (.ref I_NoTable)=true)
  {I_NoRule:Addr} {odI_NoRule anI_NoRule:Option Addr} {slI_NoRule:Array (Option Value)} {ocI_NoRule kVI_NoRule dcI_NoRule pmI_NoRule cdI_NoRule ctI_NoRule:Value} (y_NoRule:XIn K C_MendError C_NoRule I_NoRule) (lI_NoRule:K.lookup I_NoRule=some ⟨ocI_NoRule,odI_NoRule,.func (PySem.W.fnOf "__init__" "NoRule.__init__" (gI zCD) (wG zCD) (zG zCD) .none kVI_NoRule dcI_NoRule pmI_NoRule anI_NoRule cdI_NoRule ctI_NoRule),slI_NoRule⟩) (cI_NoRule:PySem.W.codeIn K cdI_NoRule "NoRule.__init__"=true) (kI_NoRule:PySem.W.keepIn K (.ref I_NoRule)=true)
  {I_NoRow:Addr} {odI_NoRow anI_NoRow:Option Addr} {slI_NoRow:Array (Option Value)} {ocI_NoRow kVI_NoRow dcI_NoRow pmI_NoRow cdI_NoRow ctI_NoRow:Value} (y_NoRow:XIn K C_MendError C_NoRow I_NoRow) (lI_NoRow:K.lookup I_NoRow=some ⟨ocI_NoRow,odI_NoRow,.func (PySem.W.fnOf "__init__" "NoRow.__init__" (gI zFK) (wG zFK) (zG zFK) .none kVI_NoRow dcI_NoRow pmI_NoRow anI_NoRow cdI_NoRow ctI_NoRow),slI_NoRow⟩) (cI_NoRow:PySem.W.codeIn K cdI_NoRow "NoRow.__init__"=true) (kI_NoRow:PySem.W.keepIn K (.ref I_NoRow)=true)
  {I_Twice:Addr} {odI_Twice anI_Twice:Option Addr} {slI_Twice:Array (Option Value)} {ocI_Twice kVI_Twice dcI_Twice pmI_Twice cdI_Twice ctI_Twice:Value} (y_Twice:XIn K C_MendError C_Twice I_Twice) (lI_Twice:K.lookup I_Twice=some ⟨ocI_Twice,odI_Twice,.func (PySem.W.fnOf "__init__" "Twice.__init__" (gI zFL) (wG zFL) (zG zFL) .none kVI_Twice dcI_Twice pmI_Twice anI_Twice cdI_Twice ctI_Twice),slI_Twice⟩) (cI_Twice:PySem.W.codeIn K cdI_Twice "Twice.__init__"=true) (kI_Twice:PySem.W.keepIn K (.ref I_Twice)=true)
  (xm:XMn K C_MendError)
  (xd:[C_MendError,C_TooGreat,C_NoText,C_NoPlace,C_NotPlain,C_NoTable,C_NoRule,C_NoRow,C_Twice,C_NoQuestion,C_Double,C_TooWide,C_Ring].Nodup)
  (gT:PySem.W.nsIn K mainGlobals "ValueError"=some none)
  (zPI:PySem.W.nsIn K mainGlobals "abs"=some none)
  (zAF:PySem.W.nsIn K mainGlobals "all"=some none)
  (zAH:PySem.W.nsIn K mainGlobals "bool"=some none)
  (xT:PySem.W.nsIn K mainGlobals "enumerate"=some none)
  (zGT:PySem.W.nsIn K mainGlobals "int"=some none)
  (zF:PySem.W.nsIn K mainGlobals "isinstance"=some none)
  (yE:PySem.W.nsIn K mainGlobals "len"=some none)
  (zDU:PySem.W.nsIn K mainGlobals "list"=some none)
  (zWR:PySem.W.nsIn K mainGlobals "max"=some none)
  (wS:PySem.W.nsIn K mainGlobals "range"=some none)
  (zGS:PySem.W.nsIn K mainGlobals "str"=some none)
  (yW:PySem.W.nsIn K mainGlobals "tuple"=some none)
  (zWP:PySem.W.nsIn K mainGlobals "zip"=some none)
  : ∃fd:FuncData,(∀(s:Shared)(v:Value),BindsTo s fd ⟨[v],[]⟩ [("_law_script",v)])∧ ∀base:Heap,K.In base→base.Ns mainGlobals mg→FnOk l.prog w K mg base CX0 11 fa fd ["_law_script"] (zQX K zRF):=by
 have Z_ValueError:=PySem.W.mg_none_of X GG gT
 have Z_abs:=PySem.W.mg_none_of X GG zPI
 have Z_all:=PySem.W.mg_none_of X GG zAF
 have Z_bool:=PySem.W.mg_none_of X GG zAH
 have Z_enumerate:=PySem.W.mg_none_of X GG xT
 have Z_int:=PySem.W.mg_none_of X GG zGT
 have Z_isinstance:=PySem.W.mg_none_of X GG zF
 have Z_len:=PySem.W.mg_none_of X GG yE
 have Z_list:=PySem.W.mg_none_of X GG zDU
 have Z_max:=PySem.W.mg_none_of X GG zWR
 have Z_range:=PySem.W.mg_none_of X GG wS
 have Z_str:=PySem.W.mg_none_of X GG zGS
 have Z_tuple:=PySem.W.mg_none_of X GG yW
 have Z_zip:=PySem.W.mg_none_of X GG zWP
 have M_MOST_LETTERS:=PySem.W.mg_of X GG jF
 have M_MOST_ROWS:=PySem.W.mg_of X GG cG
 have M_MOST_RULES:=PySem.W.mg_of X GG gS
 have M_MOST_TABLES:=PySem.W.mg_of X GG jU
 have M_MOST_TESTS:=PySem.W.mg_of X GG gV
 have M_MOST_TIED:=PySem.W.mg_of X GG cH
 have M_MOST_WIDE:=PySem.W.mg_of X GG cJ
 have M_WORDS:GTup K mg "WORDS" [.str [115,97,109,101],.str [117,110,108,105,107,101],.str [108,101,115,115]]:=⟨⟨_,_,_,_,PySem.W.mg_of X GG zJV,zUB,zJU.1,rfl,zJU.2.1,zJU.2.2⟩,rfl⟩
 subst j_MendError
 subst j_TooGreat
 subst j_NoText
 subst j_NoPlace
 subst j_NotPlain
 let xl:Nat→Addr:=fun n=>[C_TooGreat,C_NoText,C_NoPlace,C_NotPlain,C_NoTable,C_NoRule,C_NoRow,C_Twice,C_NoQuestion,C_Double,C_TooWide,C_Ring].getD n 0
 have XT:XTab K mg C_MendError (XCS xl):=⟨PySem.W.mg_of X GG zFO,x_MendError,⟨⟨PySem.W.mg_of X GG zHY,_,x_TooGreat⟩,⟨PySem.W.mg_of X GG zPJ,_,x_NoText⟩,⟨PySem.W.mg_of X GG zLD,_,x_NoPlace⟩,⟨PySem.W.mg_of X GG zHW,_,x_NotPlain⟩,⟨PySem.W.mg_of X GG zLC,_,x_NoTable⟩,⟨PySem.W.mg_of X GG zPK,_,x_NoRule⟩,⟨PySem.W.mg_of X GG zTX,_,x_NoRow⟩,⟨PySem.W.mg_of X GG zTV,_,x_Twice⟩,⟨PySem.W.mg_of X GG zDV,_,x_NoQuestion⟩,⟨PySem.W.mg_of X GG zPG,_,x_Double⟩,⟨PySem.W.mg_of X GG zLE,_,x_TooWide⟩,⟨PySem.W.mg_of X GG zYX,_,x_Ring⟩,trivial⟩,xd⟩
 have FI_NoTable:=zND (st:=zAA) lI_NoTable cI_NoTable kI_NoTable
 have bI_NoTable:=FI_NoTable.binds (ps:=["self","place"]) fun _ _ _ _ _ _ us hl=>match us,hl with | [_,_],_=>rfl
 have FI_NoRule:=zND (st:=zCD) lI_NoRule cI_NoRule kI_NoRule
 have bI_NoRule:=FI_NoRule.binds (ps:=["self","place"]) fun _ _ _ _ _ _ us hl=>match us,hl with | [_,_],_=>rfl
 have FI_NoRow:=zND (st:=zFK) lI_NoRow cI_NoRow kI_NoRow
 have bI_NoRow:=FI_NoRow.binds (ps:=["self","place"]) fun _ _ _ _ _ _ us hl=>match us,hl with | [_,_],_=>rfl
 have FI_Twice:=zND (st:=zFL) lI_Twice cI_Twice kI_Twice
 have bI_Twice:=FI_Twice.binds (ps:=["self","place"]) fun _ _ _ _ _ _ us hl=>match us,hl with | [_,_],_=>rfl
 refine yMX D35 hfa (fun _ _ _ _ _ _ s v=>.of_eq rfl) fun base f fd F=>?_
 have GI_NoTable:FnOk l.prog w K mg base CX0 1 I_NoTable _ ["self","place"] (zGN C_NoTable "place"):=zMF FI_NoTable zWA x_MendError y_NoTable xm XT.m rfl (fun _=>rfl) (fun _=>rfl) (fun _=>rfl) rfl rfl rfl (by decide) (by decide) (.txt (by decide) (.fld (.nil))) (by decide) (by decide) zES
 have GI_NoRule:FnOk l.prog w K mg base CX0 1 I_NoRule _ ["self","place"] (zGN C_NoRule "place"):=zMF FI_NoRule zYK x_MendError y_NoRule xm XT.m rfl (fun _=>rfl) (fun _=>rfl) (fun _=>rfl) rfl rfl rfl (by decide) (by decide) (.txt (by decide) (.fld (.nil))) (by decide) (by decide) zES
 have GI_NoRow:FnOk l.prog w K mg base CX0 1 I_NoRow _ ["self","place"] (zGN C_NoRow "place"):=zMF FI_NoRow yCQ x_MendError y_NoRow xm XT.m rfl (fun _=>rfl) (fun _=>rfl) (fun _=>rfl) rfl rfl rfl (by decide) (by decide) (.txt (by decide) (.fld (.nil))) (by decide) (by decide) zES
 have GI_Twice:FnOk l.prog w K mg base CX0 1 I_Twice _ ["self","place"] (zGN C_Twice "place"):=zMF FI_Twice yCR x_MendError y_Twice xm XT.m rfl (fun _=>rfl) (fun _=>rfl) (fun _=>rfl) rfl rfl rfl (by decide) (by decide) (.txt (by decide) (.fld (.txt (by decide) (.nil)))) (by decide) (by decide) zES
 have G0:=zWC (P:=l.prog) (w:=w) (mg:=mg) (base:=base) D0 Z_int Z_isinstance Z_bool
 have G1:=zYM (P:=l.prog) (w:=w) (mg:=mg) (base:=base) D1 Z_str Z_isinstance Z_len M_MOST_LETTERS Z_all
 have G2:=zWE (P:=l.prog) (w:=w) (mg:=mg) (base:=base) D2 G0 Z_abs G1
 have G3:=zWG (P:=l.prog) (w:=w) (mg:=mg) (base:=base) D3 Z_tuple Z_isinstance Z_len
 have G4:=zHR (P:=l.prog) (w:=w) (mg:=mg) (base:=base) D4 G0
 have G5:=zWH (P:=l.prog) (w:=w) (mg:=mg) (base:=base) D5 G3 G0 M_MOST_WIDE G4
 have G6:=zYO (P:=l.prog) (w:=w) (mg:=mg) (base:=base) D6 G3 G2 G4 Z_len
 have G7:=zYQ (P:=l.prog) (w:=w) (mg:=mg) (base:=base) D7 G3 G6 M_WORDS
 have G8:=zTR (P:=l.prog) (w:=w) (mg:=mg) (base:=base) D8 G3 M_MOST_TESTS G7 Z_all
 have G9:=zOY (P:=l.prog) (w:=w) (mg:=mg) (base:=base) D9 G3 M_MOST_TIED G4 Z_all
 have G10:=zWJ (P:=l.prog) (w:=w) (mg:=mg) (base:=base) D10 Z_len G4 G8
 have G11:=zWL (P:=l.prog) (w:=w) (mg:=mg) (base:=base) D11 Z_len G4 Z_all G8
 have G12:=yCS (P:=l.prog) (w:=w) (mg:=mg) (base:=base) D12 Z_len G4 G9
 have G13:=zYS (P:=l.prog) (w:=w) (mg:=mg) (base:=base) D13 Z_tuple Z_isinstance Z_len G10 G11 G12
 have G14:=yCT (P:=l.prog) (w:=w) (mg:=mg) (base:=base) D14 G3 G4 Z_len G2 Z_all
 have G15:=zPB (P:=l.prog) (w:=w) (mg:=mg) (base:=base) D15 XT Z_len M_MOST_TABLES M_MOST_RULES M_MOST_ROWS x_TooGreat
 have G16:=zLV (P:=l.prog) (w:=w) (mg:=mg) (base:=base) D16 XT Z_len y_NoTable GI_NoTable bI_NoTable Z_enumerate G5
 have G17:=zPC (P:=l.prog) (w:=w) (mg:=mg) (base:=base) D17 XT Z_enumerate G13 y_NoRule GI_NoRule bI_NoRule
 have G18:=zPV (P:=l.prog) (w:=w) (mg:=mg) (base:=base) D18 XT Z_enumerate G14 y_NoRow GI_NoRow bI_NoRow y_Twice GI_Twice bI_Twice
 have G19:=zYU (P:=l.prog) (w:=w) (mg:=mg) (base:=base) D19 G15 G16 G17 G18 Z_tuple
 have G20:=zLX (P:=l.prog) (w:=w) (mg:=mg) (base:=base) D20 Z_len
 have G21:=zWM (P:=l.prog) (w:=w) (mg:=mg) (base:=base) D21
 have G22:=zTS (P:=l.prog) (w:=w) (mg:=mg) (base:=base) D22 Z_range
 have G23:=zPW (P:=l.prog) (w:=w) (mg:=mg) (base:=base) D23 G22
 have G24:=zPY (P:=l.prog) (w:=w) (mg:=mg) (base:=base) D24 Z_str Z_isinstance Z_int Z_bool Z_list Z_tuple Z_len Z_zip Z_all
 have GH25:=zPD (P:=l.prog) (w:=w) (mg:=mg) (base:=base) D25 XT Z_isinstance
 have G25:=zPZ (P:=l.prog) (w:=w) (mg:=mg) (base:=base) D25 XT Z_isinstance
 have G26:=zLY (P:=l.prog) (w:=w) (mg:=mg) (base:=base) D26 XT GH25 Z_isinstance Z_ValueError G19 Z_range Z_bool
 have G27:=zQA (P:=l.prog) (w:=w) (mg:=mg) (base:=base) D27 G21
 have G28:=zTU (P:=l.prog) (w:=w) (mg:=mg) (base:=base) D28 G23
 have G29:=zWN (P:=l.prog) (w:=w) (mg:=mg) (base:=base) D29 G21 Z_len Z_range G28 Z_tuple
 have G30:=zQC (P:=l.prog) (w:=w) (mg:=mg) (base:=base) D30 Z_int Z_isinstance Z_bool
 have G31:=zGG (P:=l.prog) (w:=w) (mg:=mg) (base:=base) D31 Z_tuple Z_isinstance Z_len G30
 have G32:=zGI (P:=l.prog) (w:=w) (mg:=mg) (base:=base) D32 Z_str Z_isinstance Z_len G30 Z_abs
 have G33:=zJT (P:=l.prog) (w:=w) (mg:=mg) (base:=base) D33 Z_tuple Z_isinstance Z_len G30 G32
 have G34:=zWO (P:=l.prog) (w:=w) (mg:=mg) (base:=base) D34 Z_range Z_len Z_max G31 G33
 exact yOE (P:=l.prog) (w:=w) (mg:=mg) (base:=base) F G20 Z_range G27 G31 G29 Z_len G33 Z_list G34 G26 G24 G19 Z_tuple
theorem walk{l:PySem.W.OpenLaw}{q:Program}{loose:List Str}{XP:(Str→Option Value)→Heap→Prop}{YP:World→Heap→Prop}{d:DefRec}{K:Params→PySem.W.Frag}(hn:l.most=some 63)(hdf:d.params.defaults=[])
  (hY: ∀(w:World)(h:Heap),YP w h→(K w.params).In h)
  (F: ∀(w:World)(mg:Str→Option Value)(fa:Addr)(h:Heap),(K w.params).In h→h.Ns mainGlobals mg→mg d.name=some (.ref fa)→
   ∃fd:FuncData,(∀(s:Shared)(u:Value),BindsTo s fd ⟨[u],[]⟩ [("_law_script",u)])∧ ∀base:Heap,(K w.params).In base→base.Ns mainGlobals mg→FnOk l.prog w (K w.params) mg base CX0 11 fa fd ["_law_script"] (zQX (K w.params) zRF)):
  PySem.W.WalkO q loose XP YP l.row.toRowW d [] (fun f vs=>PySem.call f vs):=
 L2.walk_of (n:=63) (k:=11) (x:="_law_script") (CX:=fun _=>CX0) (sp:=fun w=>zQX (K w.params) zRF) hn (by decide) hdf ⟨rfl,by decide,by decide⟩ hY F
  (fun w H a ns hl hO hS=>yEU hO hS (yGS ns hl)) fun _ _ _ _ _ z=>z
end My
end M
end L2
noncomputable def zTw : PySem.Params → PySem.Heap := fun P => { PySem.W.boot_heap P with objs := #[] }
noncomputable def PySem.W.Fast.tw15943725481170331238 := zTw
theorem PySem.W.Fast.te15943725481170331238 : PySem.W.Fast.tw15943725481170331238 = zTw := rfl
noncomputable def PySem.W.Fast.tw6048683598205462749 := zTw
theorem PySem.W.Fast.te6048683598205462749 : PySem.W.Fast.tw6048683598205462749 = zTw := rfl
noncomputable def PySem.W.Fast.tw15355042759222356900 := zTw
theorem PySem.W.Fast.te15355042759222356900 : PySem.W.Fast.tw15355042759222356900 = zTw := rfl
noncomputable def PySem.W.Fast.tw6142377031621876833 := zTw
theorem PySem.W.Fast.te6142377031621876833 : PySem.W.Fast.tw6142377031621876833 = zTw := rfl
noncomputable def PySem.W.Fast.tw14424040216136313744 := zTw
theorem PySem.W.Fast.te14424040216136313744 : PySem.W.Fast.tw14424040216136313744 = zTw := rfl
noncomputable def PySem.W.Fast.tw7876829828671977865 := zTw
theorem PySem.W.Fast.te7876829828671977865 : PySem.W.Fast.tw7876829828671977865 = zTw := rfl
noncomputable def PySem.W.Fast.tw5272433618651924160 := zTw
theorem PySem.W.Fast.te5272433618651924160 : PySem.W.Fast.tw5272433618651924160 = zTw := rfl
noncomputable def PySem.W.Fast.tw1899952961911467141 := zTw
theorem PySem.W.Fast.te1899952961911467141 : PySem.W.Fast.tw1899952961911467141 = zTw := rfl
noncomputable def PySem.W.Fast.tw2191823274586894186 := zTw
theorem PySem.W.Fast.te2191823274586894186 : PySem.W.Fast.tw2191823274586894186 = zTw := rfl
noncomputable def PySem.W.Fast.tw6522453473049779696 := zTw
theorem PySem.W.Fast.te6522453473049779696 : PySem.W.Fast.tw6522453473049779696 = zTw := rfl
noncomputable def PySem.W.Fast.tw5064477416175278029 := zTw
theorem PySem.W.Fast.te5064477416175278029 : PySem.W.Fast.tw5064477416175278029 = zTw := rfl
noncomputable def PySem.W.Fast.tw10688725509073553595 := zTw
theorem PySem.W.Fast.te10688725509073553595 : PySem.W.Fast.tw10688725509073553595 = zTw := rfl
noncomputable def PySem.W.Fast.tw2589085500403084407 := zTw
theorem PySem.W.Fast.te2589085500403084407 : PySem.W.Fast.tw2589085500403084407 = zTw := rfl
noncomputable def PySem.W.Fast.tw2711430046213484471 := zTw
theorem PySem.W.Fast.te2711430046213484471 : PySem.W.Fast.tw2711430046213484471 = zTw := rfl
noncomputable def PySem.W.Fast.tw11646332716085446487 := zTw
theorem PySem.W.Fast.te11646332716085446487 : PySem.W.Fast.tw11646332716085446487 = zTw := rfl
noncomputable def PySem.W.Fast.tw720370606807610646 := zTw
theorem PySem.W.Fast.te720370606807610646 : PySem.W.Fast.tw720370606807610646 = zTw := rfl
noncomputable def PySem.W.Fast.tw8378329514936235245 := zTw
theorem PySem.W.Fast.te8378329514936235245 : PySem.W.Fast.tw8378329514936235245 = zTw := rfl
noncomputable def PySem.W.Fast.tw5609499400521049669 := zTw
theorem PySem.W.Fast.te5609499400521049669 : PySem.W.Fast.tw5609499400521049669 = zTw := rfl
noncomputable def PySem.W.Fast.tw1578131752153719437 := zTw
theorem PySem.W.Fast.te1578131752153719437 : PySem.W.Fast.tw1578131752153719437 = zTw := rfl
noncomputable def PySem.W.Fast.tw10055109071494450297 := zTw
theorem PySem.W.Fast.te10055109071494450297 : PySem.W.Fast.tw10055109071494450297 = zTw := rfl
noncomputable def PySem.W.Fast.tw8414952211140293704 := zTw
theorem PySem.W.Fast.te8414952211140293704 : PySem.W.Fast.tw8414952211140293704 = zTw := rfl
noncomputable def PySem.W.Fast.tw7776582800160316616 := zTw
theorem PySem.W.Fast.te7776582800160316616 : PySem.W.Fast.tw7776582800160316616 = zTw := rfl
noncomputable def PySem.W.Fast.tw704518933944908785 := zTw
theorem PySem.W.Fast.te704518933944908785 : PySem.W.Fast.tw704518933944908785 = zTw := rfl
noncomputable def PySem.W.Fast.tw13978596333151107740 := zTw
theorem PySem.W.Fast.te13978596333151107740 : PySem.W.Fast.tw13978596333151107740 = zTw := rfl
noncomputable def PySem.W.Fast.tw14003726951765249354 := zTw
theorem PySem.W.Fast.te14003726951765249354 : PySem.W.Fast.tw14003726951765249354 = zTw := rfl
noncomputable def PySem.W.Fast.tw1977867638168028028 := zTw
theorem PySem.W.Fast.te1977867638168028028 : PySem.W.Fast.tw1977867638168028028 = zTw := rfl
noncomputable def PySem.W.Fast.tw14910850690331719528 := zTw
theorem PySem.W.Fast.te14910850690331719528 : PySem.W.Fast.tw14910850690331719528 = zTw := rfl
noncomputable def PySem.W.Fast.tw5973110815096073687 := zTw
theorem PySem.W.Fast.te5973110815096073687 : PySem.W.Fast.tw5973110815096073687 = zTw := rfl
noncomputable def PySem.W.Fast.tw6404680331054822723 := zTw
theorem PySem.W.Fast.te6404680331054822723 : PySem.W.Fast.tw6404680331054822723 = zTw := rfl
noncomputable def PySem.W.Fast.tw9876955653019879903 := zTw
theorem PySem.W.Fast.te9876955653019879903 : PySem.W.Fast.tw9876955653019879903 = zTw := rfl
noncomputable def PySem.W.Fast.tw13693429127869252294 := zTw
theorem PySem.W.Fast.te13693429127869252294 : PySem.W.Fast.tw13693429127869252294 = zTw := rfl
noncomputable def PySem.W.Fast.tw13501242332045626479 := zTw
theorem PySem.W.Fast.te13501242332045626479 : PySem.W.Fast.tw13501242332045626479 = zTw := rfl
noncomputable def PySem.W.Fast.tw16961362831256721081 := zTw
theorem PySem.W.Fast.te16961362831256721081 : PySem.W.Fast.tw16961362831256721081 = zTw := rfl
noncomputable def PySem.W.Fast.tw16035229351108726849 := zTw
theorem PySem.W.Fast.te16035229351108726849 : PySem.W.Fast.tw16035229351108726849 = zTw := rfl
noncomputable def PySem.W.Fast.tw10367811337196936329 := zTw
theorem PySem.W.Fast.te10367811337196936329 : PySem.W.Fast.tw10367811337196936329 = zTw := rfl
noncomputable def PySem.W.Fast.tw108126242592575676 := zTw
theorem PySem.W.Fast.te108126242592575676 : PySem.W.Fast.tw108126242592575676 = zTw := rfl
open PySem PySem.W PyProof.Rows
set_option maxRecDepth 100000 in
set_option maxHeartbeats 0 in
theorem PySem.Challenge.cw_mendsure_k09_tables_and_rows_judged_holds : PySem.Challenge.rw_mendsure_k09_tables_and_rows_judged.Holds := by
  w_on; o_law; k_head; (case hw => w_witness2)
  k_fill
  refine L2.M.My.walk (l := PySem.Challenge.rw_mendsure_k09_tables_and_rows_judged) rfl rfl (fun w h Y => PySem.W.kIn_of Y) ?F
  case F =>
    intro w mg fa h KX G hmg
    refine' L2.M.My.all_mk KX G hmg ?D0 ?D1 ?D2 ?D3 ?D4 ?D5 ?D6 ?D7 ?D8 ?D9 ?D10 ?D11 ?D12 ?D13 ?D14 ?D15 ?D16 ?D17 ?D18 ?D19 ?D20 ?D21 ?D22 ?D23 ?D24 ?D25 ?D26 ?D27 ?D28 ?D29 ?D30 ?D31 ?D32 ?D33 ?D34 ?D35 ?jF ?cG ?gS ?jU ?gV ?cH ?cJ ?zJV ?zUB ?zJU ?zFO ?x_MendError ?zHY ?x_TooGreat ?zPJ ?x_NoText ?zLD ?x_NoPlace ?zHW ?x_NotPlain ?zLC ?x_NoTable ?zPK ?x_NoRule ?zTX ?x_NoRow ?zTV ?x_Twice ?zDV ?x_NoQuestion ?zPG ?x_Double ?zLE ?x_TooWide ?zYX ?x_Ring ?j_MendError ?j_TooGreat ?j_NoText ?j_NoPlace ?j_NotPlain ?y_NoTable ?lI_NoTable ?cI_NoTable ?kI_NoTable ?y_NoRule ?lI_NoRule ?cI_NoRule ?kI_NoRule ?y_NoRow ?lI_NoRow ?cI_NoRow ?kI_NoRow ?y_Twice ?lI_Twice ?cI_Twice ?kI_Twice ?xm ?xd ?gT ?zPI ?zAF ?zAH ?xT ?zGT ?zF ?yE ?zDU ?zWR ?wS ?zGS ?yW ?zWP
    (case D0 => exact L2.M.def_mk (by k_is) (by k_is) (by k_is) (by k_is) KX G)
    (case D1 => exact L2.M.def_mk (by k_is) (by k_is) (by k_is) (by k_is) KX G)
    (case D2 => exact L2.M.def_mk (by k_is) (by k_is) (by k_is) (by k_is) KX G)
    (case D3 => exact L2.M.def_mk (by k_is) (by k_is) (by k_is) (by k_is) KX G)
    (case D4 => exact L2.M.def_mk (by k_is) (by k_is) (by k_is) (by k_is) KX G)
    (case D5 => exact L2.M.def_mk (by k_is) (by k_is) (by k_is) (by k_is) KX G)
    (case D6 => exact L2.M.def_mk (by k_is) (by k_is) (by k_is) (by k_is) KX G)
    (case D7 => exact L2.M.def_mk (by k_is) (by k_is) (by k_is) (by k_is) KX G)
    (case D8 => exact L2.M.def_mk (by k_is) (by k_is) (by k_is) (by k_is) KX G)
    (case D9 => exact L2.M.def_mk (by k_is) (by k_is) (by k_is) (by k_is) KX G)
    (case D10 => exact L2.M.def_mk (by k_is) (by k_is) (by k_is) (by k_is) KX G)
    (case D11 => exact L2.M.def_mk (by k_is) (by k_is) (by k_is) (by k_is) KX G)
    (case D12 => exact L2.M.def_mk (by k_is) (by k_is) (by k_is) (by k_is) KX G)
    (case D13 => exact L2.M.def_mk (by k_is) (by k_is) (by k_is) (by k_is) KX G)
    (case D14 => exact L2.M.def_mk (by k_is) (by k_is) (by k_is) (by k_is) KX G)
    (case D15 => exact L2.M.def_mk (by k_is) (by k_is) (by k_is) (by k_is) KX G)
    (case D16 => exact L2.M.def_mk (by k_is) (by k_is) (by k_is) (by k_is) KX G)
    (case D17 => exact L2.M.def_mk (by k_is) (by k_is) (by k_is) (by k_is) KX G)
    (case D18 => exact L2.M.def_mk (by k_is) (by k_is) (by k_is) (by k_is) KX G)
    (case D19 => exact L2.M.def_mk (by k_is) (by k_is) (by k_is) (by k_is) KX G)
    (case D20 => exact L2.M.def_mk (by k_is) (by k_is) (by k_is) (by k_is) KX G)
    (case D21 => exact L2.M.def_mk (by k_is) (by k_is) (by k_is) (by k_is) KX G)
    (case D22 => exact L2.M.def_mk (by k_is) (by k_is) (by k_is) (by k_is) KX G)
    (case D23 => exact L2.M.def_mk (by k_is) (by k_is) (by k_is) (by k_is) KX G)
    (case D24 => exact L2.M.def_mk (by k_is) (by k_is) (by k_is) (by k_is) KX G)
    (case D25 => exact L2.M.def_mk (by k_is) (by k_is) (by k_is) (by k_is) KX G)
    (case D26 => exact L2.M.def_mk (by k_is) (by k_is) (by k_is) (by k_is) KX G)
    (case D27 => exact L2.M.def_mk (by k_is) (by k_is) (by k_is) (by k_is) KX G)
    (case D28 => exact L2.M.def_mk (by k_is) (by k_is) (by k_is) (by k_is) KX G)
    (case D29 => exact L2.M.def_mk (by k_is) (by k_is) (by k_is) (by k_is) KX G)
    (case D30 => exact L2.M.def_mk (by k_is) (by k_is) (by k_is) (by k_is) KX G)
    (case D31 => exact L2.M.def_mk (by k_is) (by k_is) (by k_is) (by k_is) KX G)
    (case D32 => exact L2.M.def_mk (by k_is) (by k_is) (by k_is) (by k_is) KX G)
    (case D33 => exact L2.M.def_mk (by k_is) (by k_is) (by k_is) (by k_is) KX G)
    (case D34 => exact L2.M.def_mk (by k_is) (by k_is) (by k_is) (by k_is) KX G)
    (case D35 => exact L2.M.def_mk (by k_is) (by k_is) (by k_is) (by k_is) KX G)
    (case jF => k_is)
    (case cG => k_is)
    (case gS => k_is)
    (case jU => k_is)
    (case gV => k_is)
    (case cH => k_is)
    (case cJ => k_is)
    (case zJV => k_is)
    (case zUB => k_is)
    (case zJU => exact ⟨rfl, by decide, .cons ⟨_, rfl⟩ (.cons ⟨_, rfl⟩ (.cons ⟨_, rfl⟩ (.nil)))⟩)
    (case zFO => k_is)
    (case x_MendError => exact L2.M.xcl_mk (by k_is) (by k_is) rfl (by k_is) (by k_is) (by k_is) (by k_is) (by k_is) (by k_is) (by k_is) rfl)
    (case zHY => k_is)
    (case x_TooGreat => exact L2.M.xcl_mk (by k_is) (by k_is) rfl (by k_is) (by k_is) (by k_is) (by k_is) (by k_is) (by k_is) (by k_is) rfl)
    (case zPJ => k_is)
    (case x_NoText => exact L2.M.xcl_mk (by k_is) (by k_is) rfl (by k_is) (by k_is) (by k_is) (by k_is) (by k_is) (by k_is) (by k_is) rfl)
    (case zLD => k_is)
    (case x_NoPlace => exact L2.M.xcl_mk (by k_is) (by k_is) rfl (by k_is) (by k_is) (by k_is) (by k_is) (by k_is) (by k_is) (by k_is) rfl)
    (case zHW => k_is)
    (case x_NotPlain => exact L2.M.xcl_mk (by k_is) (by k_is) rfl (by k_is) (by k_is) (by k_is) (by k_is) (by k_is) (by k_is) (by k_is) rfl)
    (case zLC => k_is)
    (case x_NoTable => exact L2.M.xcl_mk (by k_is) (by k_is) rfl (by k_is) (by k_is) (by k_is) (by k_is) (by k_is) (by k_is) (by k_is) rfl)
    (case zPK => k_is)
    (case x_NoRule => exact L2.M.xcl_mk (by k_is) (by k_is) rfl (by k_is) (by k_is) (by k_is) (by k_is) (by k_is) (by k_is) (by k_is) rfl)
    (case zTX => k_is)
    (case x_NoRow => exact L2.M.xcl_mk (by k_is) (by k_is) rfl (by k_is) (by k_is) (by k_is) (by k_is) (by k_is) (by k_is) (by k_is) rfl)
    (case zTV => k_is)
    (case x_Twice => exact L2.M.xcl_mk (by k_is) (by k_is) rfl (by k_is) (by k_is) (by k_is) (by k_is) (by k_is) (by k_is) (by k_is) rfl)
    (case zDV => k_is)
    (case x_NoQuestion => exact L2.M.xcl_mk (by k_is) (by k_is) rfl (by k_is) (by k_is) (by k_is) (by k_is) (by k_is) (by k_is) (by k_is) rfl)
    (case zPG => k_is)
    (case x_Double => exact L2.M.xcl_mk (by k_is) (by k_is) rfl (by k_is) (by k_is) (by k_is) (by k_is) (by k_is) (by k_is) (by k_is) rfl)
    (case zLE => k_is)
    (case x_TooWide => exact L2.M.xcl_mk (by k_is) (by k_is) rfl (by k_is) (by k_is) (by k_is) (by k_is) (by k_is) (by k_is) (by k_is) rfl)
    (case zYX => k_is)
    (case x_Ring => exact L2.M.xcl_mk (by k_is) (by k_is) rfl (by k_is) (by k_is) (by k_is) (by k_is) (by k_is) (by k_is) (by k_is) rfl)
    (case j_MendError => rfl)
    (case j_TooGreat => rfl)
    (case j_NoText => rfl)
    (case j_NoPlace => rfl)
    (case j_NotPlain => rfl)
    (case y_NoTable => exact L2.M.xin_mk (by k_is) (by k_is) rfl (by k_is) (by k_is) (by k_is) (by k_is) (by k_is) (by k_is) (by k_is) (by k_is) rfl)
    (case lI_NoTable => k_is)
    (case cI_NoTable => k_is)
    (case kI_NoTable => k_is)
    (case y_NoRule => exact L2.M.xin_mk (by k_is) (by k_is) rfl (by k_is) (by k_is) (by k_is) (by k_is) (by k_is) (by k_is) (by k_is) (by k_is) rfl)
    (case lI_NoRule => k_is)
    (case cI_NoRule => k_is)
    (case kI_NoRule => k_is)
    (case y_NoRow => exact L2.M.xin_mk (by k_is) (by k_is) rfl (by k_is) (by k_is) (by k_is) (by k_is) (by k_is) (by k_is) (by k_is) (by k_is) rfl)
    (case lI_NoRow => k_is)
    (case cI_NoRow => k_is)
    (case kI_NoRow => k_is)
    (case y_Twice => exact L2.M.xin_mk (by k_is) (by k_is) rfl (by k_is) (by k_is) (by k_is) (by k_is) (by k_is) (by k_is) (by k_is) (by k_is) rfl)
    (case lI_Twice => k_is)
    (case cI_Twice => k_is)
    (case kI_Twice => k_is)
    (case xm => exact ⟨by k_is, by k_is, by k_is⟩)
    (case xd => decide)
    (case gT => k_is)
    (case zPI => k_is)
    (case zAF => k_is)
    (case zAH => k_is)
    (case xT => k_is)
    (case zGT => k_is)
    (case zF => k_is)
    (case yE => k_is)
    (case zDU => k_is)
    (case zWR => k_is)
    (case wS => k_is)
    (case zGS => k_is)
    (case yW => k_is)
    (case zWP => k_is)
