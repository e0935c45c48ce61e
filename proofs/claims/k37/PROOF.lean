import PyProof.Rows.All
import Wide.All
import OpenK.AllK
import Wide.FinOn
import Lean
import PyProof.EqAt
import PyProof.EqKinds
import PyProof.TupleCall
import PySem.Challenge.RW_mendsure_k37_questions_written_and_read
set_option Elab.async false
set_option linter.all false
set_option maxRecDepth 100000
open List (all_cons all_eq_true any_cons cons_append drop_length filterMap_cons flatMap_cons flatten_cons foldl_cons forIn_cons forIn_nil getD_eq_getElem?_getD getElem?_append_left getElem?_append_right getElem?_map getElem?_set_ne getElem?_set_self getElem_inj getElem_mem length_drop length_nil length_range length_replicate length_set lookup_cons map_append map_cons map_map map_nil mem_append mem_append_left mem_append_right mem_filter mem_filterMap mem_flatMap mem_of_getElem? mem_range nil_append nodup_cons of_mem_zip replicate_succ zip_cons_cons)
open Bool (or_eq_true)
open Nat (add_assoc le_of_lt le_refl le_succ le_trans log2_lt lt_irrefl lt_of_lt_of_le lt_succ_of_lt lt_succ_self lt_trans mod_lt ne_of_gt ne_of_lt not_lt sub_self zero_add zero_le)
open Int (toNat_natCast)
theorem xF0:¬(false=true):=Bool.false_ne_true

abbrev dF0:=@decide_eq_false
abbrev dT0:=@decide_eq_true
abbrev iP:=@if_pos
abbrev iN:=@if_neg
abbrev mC:=@List.mem_cons
abbrev lC:=@List.length_cons
abbrev mO:=@List.mem_cons_of_mem
abbrev lM:=@List.length_map
abbrev nM0:=@List.not_mem_nil
abbrev mS:=@List.mem_singleton
abbrev mF0:=@List.mem_cons_self
abbrev fT:=@Bool.false_eq_true
abbrev sA:=@List.size_toArray
abbrev lS:=@List.length_singleton
abbrev eL:=@Int.emod_lt_of_pos
abbrev eN:=@Int.emod_nonneg
abbrev aE:=@Bool.and_eq_true
abbrev iF:=@if_false
abbrev aN:=@List.append_nil
abbrev lA:=@List.length_append
abbrev gS0:=@List.getElem?_eq_some_iff
abbrev gE0:=@List.getElem?_eq_getElem
abbrev wB0:=@PySem.wpAny_bind
abbrev wP0:=@PySem.wpAny_pure
abbrev hP0:=@PySem.Heap.get?_push_of_some
abbrev mM:=@List.mem_map
abbrev lT:=@List.length_take
abbrev aA:=@List.append_assoc
abbrev VP:=PySem.Value->PySem.Shared->Prop
namespace L2
open PySem PySem.Spec PyProof.Rows
abbrev Key:=Sum Int Str
def zVC:Key->Value->Bool
 |.inl k,v=>Value.isInt k v
 |.inr x,v=>Value.isStrOf x v
def keyH(w:World):Key->Int
 |.inl k=>hashInt k
 |.inr x=>hashStr w x
theorem xE: ∀{k:Key}{v:Value},zVC k v=true->(∃i t,k=Sum.inl i/\v=Value.int i t)\/(∃x t,k=Sum.inr x/\v=Value.str x t)
 |.inl i,v,h=>by
  obtain⟨t,e⟩:=Value.isInt_shape (k:=i) (v:=v) h
  exact .inl ⟨i,t,rfl,e⟩
 |.inr x,v,h=>by
  obtain⟨t,e⟩:=Value.isStrOf_shape (x:=x) (v:=v) h
  exact .inr ⟨x,t,rfl,e⟩
theorem yCE(x:Str)(t:Tok):zVC (.inr x) (.str x t)=true:=by simp [zVC,Value.isStrOf]
theorem yMG(a b:Int):decide ((Sum.inl a:Key)=Sum.inl b)=(a==b):=by
 by_cases e:a=b
 ·subst e;simp
 ·have h: ¬(Sum.inl a:Key)=Sum.inl b:=λq=>e (Sum.inl.inj q)
  rw [dF0 h]
  exact(beq_eq_false_iff_ne.mpr e).symm
theorem yMH(a b:Str):decide ((Sum.inr a:Key)=Sum.inr b)=decide (a=b):=by
 by_cases e:a=b
 ·subst e;simp
 ·have h: ¬(Sum.inr a:Key)=Sum.inr b:=λq=>e (Sum.inr.inj q)
  rw [dF0 h,dF0 e]
theorem yMI(a:Int)(b:Str):decide ((Sum.inl a:Key)=Sum.inr b)=false:=dF0 (λq=>nomatch q)
theorem yMJ(a:Str)(b:Int):decide ((Sum.inr a:Key)=Sum.inl b)=false:=dF0 (λq=>nomatch q)
def gE(prog:Program)(w:World):PySem.KeyKind prog w Key where
 is:=zVC
 hash:=keyH w
 inj:=λv a b ha hb=>by
  rcases xE ha with⟨i,t,rfl,rfl⟩|⟨x,t,rfl,rfl⟩
  ·rcases xE hb with⟨j,u,rfl,e⟩|⟨y,u,rfl,e⟩
   ·injection e with e1 _;rw [e1]
   ·exact nomatch e
  ·rcases xE hb with⟨j,u,rfl,e⟩|⟨y,u,rfl,e⟩
   ·exact nomatch e
   ·injection e with e1 _;rw [e1]
 byValue:=λk v h=>by
  rcases xE h with⟨i,t,rfl,rfl⟩|⟨x,t,rfl,rfl⟩<;>rfl
 pyHash:=λhv h=>by
  rcases xE hv with⟨i,t,rfl,rfl⟩|⟨x,t,rfl,rfl⟩
  ·exact wpAny_pyHash_int h
  ·exact wpAny_pyHash_str h
 eqBool:=λhu hv h=>by
  rcases xE hu with⟨i,t,rfl,rfl⟩|⟨x,t,rfl,rfl⟩
  ·rcases xE hv with⟨j,u,rfl,rfl⟩|⟨y,u,rfl,rfl⟩
   ·rw [yMG]at h;exact wpAny_eqBool_int h
   ·rw [yMI]at h;exact SeqAt.EqAt.int_str i t y u _ _ _ _ h
  ·rcases xE hv with⟨j,u,rfl,rfl⟩|⟨y,u,rfl,rfl⟩
   ·rw [yMJ]at h;exact SeqAt.EqAt.str_int x t j u _ _ _ _ h
   ·rw [yMH]at h;exact wpAny_eqBool_str h
 «strs»:=λk x t v h=>by
  rcases xE h with⟨i,u,rfl,e⟩|⟨y,u,rfl,e⟩
  ·exact nomatch e
  ·injection e with e1 _
   subst e1
   cases v<;>rfl
theorem zMV(prog:Program)(w:World)(x:Str)(t:Tok):(gE prog w).is (.inr x) (.str x t)=true:=yCE x t
inductive V where
 |non|bl (b:Bool)|int (i:Int)|str (x:Str)|byt (b:Array UInt8)|flt (b:UInt64)|ref (a:Addr)|ty (n:String)
 deriving DecidableEq
def RelV:V->Value->Prop
 |.non,u=>u=Value.none
 |.bl b,u=>u=Value.bool b
 |.int i,u=> ∃t,u=Value.int i t
 |.str x,u=> ∃t,u=Value.str x t
 |.byt b,u=> ∃t,u=Value.bytes b t
 |.flt b,u=> ∃t,u=Value.float b t
 |.ref a,u=>u=Value.ref a
 |.ty n,u=>u=Value.type n
abbrev Vals:List V->List Value->Prop:=Paired RelV
theorem Vals.length{xs:List V}{us:List Value}(r:Vals xs us):xs.length=us.length:=Paired.length r
theorem Vals.get: ∀{xs:List V}{us:List Value}{i:Nat}{x:V},Vals xs us->xs[i]? =some x-> ∃u,us[i]? =some u/\RelV x u
 |_,_,_,_,.nil,e=>by simp at e
 |_,_,0,_,.cons r _,e=>by simp at e;subst e;exact⟨_,rfl,r⟩
 |_,_,i+1,x,.cons _ t,e=>by
  obtain⟨u,h1,h2⟩:=Vals.get (i:=i) (x:=x) t (by simpa using e)
  exact⟨u,by simpa using h1,h2⟩
theorem Vals.set{x:V}{u:Value}(r:RelV x u): ∀{xs:List V}{us:List Value}(i:Nat),Vals xs us->Vals (xs.set i x) (us.set i u)
 |_,_,_,.nil=>.nil
 |_,_,0,.cons _ t=>.cons r t
 |_,_,i+1,.cons q t=>.cons q (Vals.set r i t)
theorem Vals.append: ∀{xs ys:List V}{us ws:List Value},Vals xs us->Vals ys ws->Vals (xs++ys) (us++ws)
 |_,_,_,_,.nil,s=>s
 |_,_,_,_,.cons r t,s=>.cons r (Vals.append t s)
theorem Vals.take: ∀{xs:List V}{us:List Value}(n:Nat),Vals xs us->Vals (xs.take n) (us.take n)
 |_,_,0,_=>.nil
 |_,_,_+1,.nil=>.nil
 |_,_,n+1,.cons r t=>.cons r (Vals.take n t)
theorem Vals.drop: ∀{xs:List V}{us:List Value}(n:Nat),Vals xs us->Vals (xs.drop n) (us.drop n)
 |_,_,0,r=>r
 |_,_,_+1,.nil=>.nil
 |_,_,n+1,.cons _ t=>Vals.drop n t
theorem Vals.none_of: ∀{xs:List V}{us:List Value}{i:Nat},Vals xs us->xs[i]? =none->us[i]? =none:=λ{xs us i} r e=>by
 have h1:=r.length
 have h2:xs.length<=i:=List.getElem?_eq_none_iff.mp e
 exact List.getElem?_eq_none_iff.mpr (by omega)
def RelO:Option V->Option Value->Prop
 |some v,some u=>RelV v u
 |none,none=>True
 |_,_=>False
def KV{κ:Type}:List (κ×V)->List (κ×Value)->Prop:=Paired λ(p:κ×V) (q:κ×Value)=>p.1=q.1/\RelV p.2 q.2
def kV:Key->V
 |.inl i=>.int i
 |.inr x=>.str x
inductive HO where
 |lst (xs:List V)
 |tup (xs:List V)
 |dK (kvs:List (Key×V))|dT (kvs:List (List Key×V))
 |set (S:Int->Bool) (n:Nat)
 |ins (C dx:Addr) (fs:List (Str×V))
 |own (x:Addr)
 |xd (fs:List (Str×V))
 |met (f x:Addr)
 |rng (lo hi:Int)
 |frz (o:Obj) (u:HO)
 |tbl (ps:Array Value)
 |ext (φ:Heap->Prop)
abbrev Hp:=Addr->Option HO
def upd(H:Hp)(a:Addr)(o:HO):Hp:=λb=>if b=a then some o else H b
theorem wL{H:Hp}{a:Addr}{o:HO}:upd H a o a=some o:=by unfold upd;rw [iP rfl]
theorem yG{H:Hp}{a b:Addr}{o:HO}(h:b≠a):upd H a o b=H b:=by unfold upd;rw [iN h]
theorem xB{H:Hp}{a b:Addr}{o:HO}(h:H a=some o)(h':H b=none):a≠b:=by
 intro e;subst e;rw [h]at h';cases h'
section
variable(P:Program)(w:World)
def ObjOk(H:Hp)(h:Heap)(a:Addr):HO->Prop
 |.lst xs=>xs.length<=sizeLine/\ ∃(its:List Value)(n:Nat),Vals xs its/\h.get? a=some {cls:=.type "list",data:=.seq its.toArray n}
 |.tup xs=>xs.length<=sizeLine/\ ∃its:List Value,Vals xs its/\IsTup h a its.toArray
 |.dK kvs=>kvs.length<=sizeLine/\(a==sysModules)=false/\ ∃vs,KV kvs vs/\h.DictOf (gE P w) a vs
 |.dT kvs=>kvs.length<=sizeLine/\(a==sysModules)=false/\ ∃xs:List (List Key×Addr×Value),
   Paired (λ(p:List Key×V) (q:List Key×Addr×Value)=>p.1=q.1/\H q.2.1=some (.tup (p.1.map kV))/\RelV p.2 q.2.2) kvs xs/\
   ∃o es ep,h.get? a=some o/\o.ExactDict/\o.data=.dict es ep/\es.toList=xs.map (entryOfKey (tupleKind (gE P w)))/\(xs.map (·.1)).Nodup
 |.set S n=>h.SetOf (intKind P w) a S n
 |.ins C dx fs=>H dx=some (.own a)/\fs.length<=1000/\dx≠a/\h.get? a=some (PySem.W.instObj C dx)/\
   ∃mA,h.Ns1 dx mA/\(∀f,RelO (fs.lookup f) (mA f))/\PySem.Within mA (fs.map (·.1))
 |.own _=> ∃o,h.get? a=some o
 |.xd fs=> ∃mA,h.Ns1 a mA/\ ∀f,RelO (fs.lookup f) (mA f)
 |.rng lo hi=> ∃t u v,h.get? a=some {cls:=.type "range",data:=.fields #[.int lo t,.int hi u,.int 1 v]}
 |.frz o u=>h.get? a=some o/\ObjOk H h a u
 |.tbl ps=>h.get? a=some {cls:=.none,data:=.fields ps}
 |.met f x=>h.get? a=some (PySem.W.methodObj (.ref f) (.ref x))
 |.ext φ=>φ h/\(∃o,h.get? a=some o)/\ ∀h1 h2:Heap,φ h1->(∀o,h1.get? a=some o->h2.get? a=some o)->φ h2
def HOk(H:Hp)(h:Heap):Prop:= ∀a o,H a=some o->ObjOk P w H h a o
end
section
variable{P:Program}{w:World}{H H':Hp}{h h':Heap}{a:Addr}{o:HO}
theorem ObjOk.lt(x:ObjOk P w H h a o):a<h.objs.size:=by
 cases o with
 |lst xs=>obtain⟨_,_,_,_,e⟩:=x;exact Heap.lt_size e
 |tup xs=>obtain⟨_,_,_,p⟩:=x;exact p.lt
 |dK kvs=>obtain⟨_,_,_,_,o,_,_,e,_⟩:=x;exact Heap.lt_size e
 |dT kvs=>obtain⟨_,_,_,_,o,_,_,e,_⟩:=x;exact Heap.lt_size e
 |set S n=>obtain⟨o,_,_,_,e,_⟩:=x;exact Heap.lt_size e
 |ins C dx fs=>obtain⟨_,_,_,e,_⟩:=x;exact Heap.lt_size e
 |own y=>obtain⟨_,e⟩:=x;exact Heap.lt_size e
 |xd fs=>obtain⟨_,⟨_,_,_,e,_⟩,_⟩:=x;exact Heap.lt_size e
 |rng lo hi=>obtain⟨_,_,_,e⟩:=x;exact Heap.lt_size e
 |frz ob u=>obtain⟨e,_⟩:=x;exact Heap.lt_size e
 |tbl ps=>exact Heap.lt_size (show h.get? a=some _ from x)
 |met f y=>exact Heap.lt_size (show h.get? a=some _ from x)
 |ext φ=>obtain⟨_,⟨_,e⟩,_⟩:=x;exact Heap.lt_size e
theorem Paired.mapP{α β:Type}{F G:α->β->Prop}: ∀{l₁:List α}{l₂:List β},Paired F l₁ l₂->(∀a b,F a b->G a b)->Paired G l₁ l₂
 |_,_,.nil,_=>.nil
 |_,_,.cons r t,f=>.cons (f _ _ r) (Paired.mapP t f)
theorem ObjOk.stay(x:ObjOk P w H h a o)(k: ∀b u,(b=a\/H b=some (.own a))->h.get? b=some u->h'.get? b=some u)
  (ho: ∀b,H b=some (.own a)->H' b=some (.own a)) (ht: ∀b xs,H b=some (.tup xs)->H' b=some (.tup xs)):ObjOk P w H' h' a o:=by
 induction o with
 |lst xs=>obtain⟨z,its,n,r,e⟩:=x;exact⟨z,its,n,r,k _ _ (.inl rfl) e⟩
 |tup xs=>obtain⟨z,its,r,ob,e,c⟩:=x;exact⟨z,its,r,ob,k _ _ (.inl rfl) e,c⟩
 |dK kvs=>obtain⟨z,y,vs,r,ob,es,ep,e,c⟩:=x;exact⟨z,y,vs,r,ob,es,ep,k _ _ (.inl rfl) e,c⟩
 |dT kvs=>
  obtain⟨z,y,xs,r,ob,es,ep,e,c⟩:=x
  exact⟨z,y,xs,Paired.mapP r λp q z=>⟨z.1,ht _ _ z.2.1,z.2.2⟩,ob,es,ep,k _ _ (.inl rfl) e,c⟩
 |set S n=>obtain⟨ob,es,ep,t,e,c⟩:=x;exact⟨ob,es,ep,t,k _ _ (.inl rfl) e,c⟩
 |ins C dx fs=>
  obtain⟨d,z,ne,e,mA,⟨od,es,ep,e2,c⟩,r⟩:=x
  exact⟨ho _ d,z,ne,k _ _ (.inl rfl) e,mA,⟨od,es,ep,k _ _ (.inr d) e2,c⟩,r⟩
 |own y=>obtain⟨ob,e⟩:=x;exact⟨ob,k _ _ (.inl rfl) e⟩
 |xd fs=>obtain⟨mA,⟨od,es,ep,e,c⟩,r⟩:=x;exact⟨mA,⟨od,es,ep,k _ _ (.inl rfl) e,c⟩,r⟩
 |rng lo hi=>obtain⟨t,u,v,e⟩:=x;exact⟨t,u,v,k _ _ (.inl rfl) e⟩
 |frz ob u ih=>obtain⟨e,q⟩:=x;exact⟨k _ _ (.inl rfl) e,ih q⟩
 |tbl ps=>
  have e:h.get? a=some {cls:=.none,data:=.fields ps}:=x
  show h'.get? a=some {cls:=.none,data:=.fields ps}
  exact k a _ (.inl rfl) e
 |met f y=>
  have e:h.get? a=some (PySem.W.methodObj (.ref f) (.ref y)):=x
  show h'.get? a=some (PySem.W.methodObj (.ref f) (.ref y))
  exact k a _ (.inl rfl) e
 |ext φ=>obtain⟨p,⟨o,e⟩,st⟩:=x;exact⟨st _ _ p λo q=>k _ _ (.inl rfl) q,⟨o,k _ _ (.inl rfl) e⟩,st⟩
theorem HOk.lt(x:HOk P w H h)(e:H a=some o):a<h.objs.size:=(x a o e).lt
theorem HOk.fresh(x:HOk P w H h)(e:h.objs.size<=a):H a=none:=by
 cases q:H a with
 |none=>rfl
 |some u=>exact absurd (lt_of_lt_of_le (x.lt q) e) (lt_irrefl _)
theorem HOk.kept(x:HOk P w H h)(k: ∀b u,h.get? b=some u->h'.get? b=some u):HOk P w H h':=λa o e=>
 (x a o e).stay (λb u _ q=>k b u q) (λ_ q=>q) λ_ _ q=>q
theorem HOk.laid(x:HOk P w H h)(k: ∀b u,h.get? b=some u->h'.get? b=some u)(hp:h.objs.size<=a)(new:ObjOk P w (upd H a o) h' a o):HOk P w (upd H a o) h':=λb u e=>by
 have hn:=x.fresh hp
 by_cases hb:b=a
 ·subst hb;rw [wL]at e;cases e;exact new
 ·rw [yG hb]at e
  exact(x b u e).stay (λc v _ q=>k c v q) (λc q=>by rw [yG (xB q hn)];exact q) λc xs q=>by rw [yG (xB q hn)];exact q
end
def Rd(H:Hp)(a:Addr)(u:HO):Prop:=H a=some u\/ ∃o,H a=some (.frz o u)
theorem Rd.ok{P:Program}{w:World}{H:Hp}{h:Heap}{a:Addr}{u:HO}(r:Rd H a u)(x:HOk P w H h):ObjOk P w H h a u:=by
 rcases r with r|⟨o,r⟩
 ·exact x a u r
 ·obtain⟨_,q⟩:=x a _ r
  exact q
def Mut:Option HO->Prop
 |some (.lst _)=>True
 |some (.dK _)=>True
 |some (.dT _)=>True
 |some (.set _ _)=>True
 |some (.ins _ _ _)=>True
 |some (.ext _)=>True
 |_=>False
section
variable{P:Program}{w:World}{H:Hp}{h h':Heap}{x e:Addr}{o':HO}
theorem HOk.write(ok:HOk P w H h)(mu:Mut (H x))(he:e=x\/H e=some (.own x))(k: ∀b u,b≠e->h.get? b=some u->h'.get? b=some u)(heo: ∃u,h'.get? e=some u)
  (new:ObjOk P w (upd H x o') h' x o'):HOk P w (upd H x o') h':=λb u q=>by
 have nown: ∀c y,H c=some (.own y)->c≠x:=λc y r z=>by subst z;rw [r]at mu;exact mu
 have ntup: ∀c xs,H c=some (.tup xs)->c≠x:=λc xs r z=>by subst z;rw [r]at mu;exact mu
 by_cases hb:b=x
 ·subst hb;rw [wL]at q;cases q;exact new
 ·rw [yG hb]at q
  by_cases hbe:b=e
  ·have q':H b=some (.own x):=by
    rcases he with z|z
    ·exact absurd (hbe.trans z) hb
    ·rw [hbe];exact z
   rw [q]at q';cases q'
   obtain⟨v,hv⟩:=heo
   exact⟨v,by rw [hbe];exact hv⟩
  ·refine(ok b u q).stay (λc v hc r=>k c v ?_ r) (λc r=>by rw [yG (nown c b r)];exact r) λc xs r=>by rw [yG (ntup c xs r)];exact r
   rcases hc with rfl|hc
   ·exact hbe
   ·rintro rfl
    rcases he with z|z
    ·exact nown c b hc z
    ·rw [hc]at z;cases z;exact hb rfl
end
structure Un(fs ex:List Addr)(H H':Hp)(h h':Heap):Prop where
 keep: ∀b o,h.get? b=some o->H b=none->b∉fs->b∉ex->h'.get? b=some o
 slot: ∀b o,h.get? b=some o->H b=none->b∈fs->b∉ex-> ∃sl,h'.get? b=some {o with slots:=sl}
 free: ∀b o,h.get? b=some o->H b=none->b∉ex->H' b=none
 there: ∀b o,h.get? b=some o->b∉ex-> ∃o',h'.get? b=some o'
 tups: ∀b xs,H b=some (.tup xs)->H' b=some (.tup xs)
 frzs: ∀b o u,H b=some (.frz o u)->H' b=some (.frz o u)
 tbls: ∀b ps,H b=some (.tbl ps)-> ∃more,H' b=some (.tbl (ps++more))
section
variable{fs fs' ex ex':List Addr}{H H1 H2:Hp}{h h1 h2 h':Heap}{a x e:Addr}{o:HO}
theorem Un.any(u:Un fs ex H H1 h h1){b:Addr}{ob:Obj}(q:h.get? b=some ob)(n:H b=none)(hx:b∉ex): ∃sl,h1.get? b=some {ob with slots:=sl}:=by
 by_cases hb:b∈fs
 ·exact u.slot b ob q n hb hx
 ·exact⟨ob.slots,u.keep b ob q n hb hx⟩
theorem Un.kept(k: ∀b u,h.get? b=some u->h'.get? b=some u):Un fs ex H H h h':=
 ⟨λb ob q _ _ _=>k b ob q,λb ob q _ _ _=>⟨ob.slots,k b ob q⟩,λ_ _ _ n _=>n,λb ob q _=>⟨ob,k b ob q⟩,λ_ _ q=>q,λ_ _ _ q=>q,λ_ ps q=>⟨#[],by rw [q];simp⟩⟩
theorem Un.refl:Un fs ex H H h h:=Un.kept λ_ _ q=>q
theorem Un.laid(k: ∀b u,h.get? b=some u->h'.get? b=some u)(hp:h.objs.size<=a)(hn:H a=none):Un fs ex H (upd H a o) h h' where
 keep:=λb u q _ _ _=>k b u q
 slot:=λb u q _ _ _=>⟨u.slots,k b u q⟩
 free:=λb u q n _=>by rw [yG (ne_of_lt (lt_of_lt_of_le (Heap.lt_size q) hp))];exact n
 there:=λb u q _=>⟨u,k b u q⟩
 tups:=λb xs q=>by rw [yG (xB q hn)];exact q
 frzs:=λb u xs q=>by rw [yG (xB q hn)];exact q
 tbls:=λb ps q=>⟨#[],by rw [yG (xB q hn),q];simp⟩
theorem Un.write(mu:Mut (H x))(he:e=x\/H e=some (.own x))(k: ∀b u,b≠e->h.get? b=some u->h'.get? b=some u)(heo: ∃u,h'.get? e=some u):Un fs ex H (upd H x o) h h':=by
 have hx: ∀b,H b=none->b≠x:=λb n z=>by subst z;rw [n]at mu;exact mu
 have hb: ∀b,H b=none->b≠e:=λb n z=>by
  subst z
  rcases he with r|r
  ·exact hx b n r
  ·rw [n]at r;cases r
 have hm: ∀b u,H b=some u-> ¬Mut (some u)->b≠x:=λb u q nm z=>by subst z;rw [q]at mu;exact nm mu
 refine⟨λb u q n _ _=>k b u (hb b n) q,λb u q n _ _=>⟨u.slots,k b u (hb b n) q⟩,λb u q n _=>by rw [yG (hx b n)];exact n,λb u q _=>?_,
  λb xs q=>by rw [yG (hm b _ q λz=>z)];exact q,λb u xs q=>by rw [yG (hm b _ q λz=>z)];exact q,λb ps q=>⟨#[],by rw [yG (hm b _ q λz=>z),q];simp⟩⟩
 by_cases hbe:b=e
 ·subst hbe;exact heo
 ·exact⟨u,k b u hbe q⟩
end
def trk(h:Heap)(H:Hp):List Addr:=(List.range h.objs.size).filter λa=>(H a).isSome
def zSN(h:Heap)(H:Hp):Heap:=PySem.W.hideAll h (trk h H)
theorem yCF(h:Heap)(H:Hp):(zSN h H).objs.size=h.objs.size:=PySem.W.hideAll_size _ _
theorem yDX{h:Heap}{H:Hp}{b:Addr}{o:Obj}(e:h.get? b=some o)(n:H b=none):(zSN h H).get? b=some o:=
 PySem.W.hideAll_get _ e λhm=>by
  have q:(H b).isSome=true:=(mem_filter.mp hm).2
  rw [n]at q;simp at q
theorem yHX{h:Heap}{H:Hp}{b:Addr}{o:Obj}(e:(zSN h H).get? b=some o):h.get? b=some o/\H b=none:=by
 have e':h.get? b=some o:=PySem.W.of_hideAll (trk h H) e
 refine⟨e',?_⟩
 cases q:H b with
 |none=>rfl
 |some x=>
  have hm:b∈trk h H:=mem_filter.mpr ⟨mem_range.mpr (Heap.lt_size e'),by simp [q]⟩
  have z:(zSN h H).get? b=none:=PySem.W.hideAll_none (trk h H) hm
  rw [z]at e;cases e
def yHY(g h:Heap)(L:Addr):List (Addr×Obj):=(List.range h.objs.size).filterMap λa=>if a=L\/(g.get? a).isSome=true then none else(h.get? a).map λo=>(a,o)
def rest(g h:Heap)(L d:Addr):List (Addr×Obj):=(yHY g h L).filter λp=>decide (p.1≠d)
structure Mod(K:PySem.W.Frag)(mg:Str->Option Value)(base:Heap):Prop where
 kin:K.In base
 glob:base.Ns mainGlobals mg
 blt: ∃mb,base.Ns builtinsNs mb/\ ∀x:Str,x≠"__name__"->mb x=bootBuiltins x
 nolimit:base.NoLimit
structure Cx where
 prog:Program
 w:World
 K:PySem.W.Frag
 mg:Str->Option Value
 base:Heap
 A:Around
 N:List Str
 s₀:Shared
 H₀:Hp
 env:Env
 outer:List Env
 stack:List Env
 ex:List Addr
 fn:Str->Bool
 calm:Bool
 pn:List (Addr×Obj)
 xe:VP
def frs(l:List Env):List Addr:=l.filterMap (·.frame)
abbrev Cx.fs(X:Cx):List Addr:=frs X.outer
def Vis(sc:Scope)(x:Str):Prop:=sc.names.lookup x=some .local\/sc.names.lookup x=some .cell\/sc.names.lookup x=some .free
def Loc(sc:Scope)(x:Str):Prop:=sc.names.lookup x=some .local\/sc.names.lookup x=some .cell
def Look(env:Env)(h:Heap)(m:Str->Option Value)(x:Str)(u:Value):Prop:=
 (env.kindOf x=some .local/\m x=some u)\/((env.kindOf x=some .cell\/env.kindOf x=some .free)/\ ∃c,env.cells.lookup x=some c/\h.IsCell c (some u))
structure Cx.Ok(X:Cx):Prop where
 mod:Mod X.K X.mg X.base
 kind:X.env.scope.kind=.function
 glob:X.env.globals=mainGlobals
 blt:X.env.builtins=builtinsNs
 above:X.s₀.heap.objs.size<=X.env.locals
 inj: ∀x y c,X.env.cells.lookup x=some c->X.env.cells.lookup y=some c->x=y
 has: ∀x,(X.env.kindOf x=some .cell\/X.env.kindOf x=some .free)-> ∃c,X.env.cells.lookup x=some c
 cab: ∀x c,X.fn x=true->X.env.cells.lookup x=some c->X.s₀.heap.objs.size<=c
 hd:X.calm=true->X.A.handled=none
 frames:X.A.frames=some X.stack
 stk:X.stack=X.outer\/(X.stack=X.env::X.outer/\X.env.frame=some X.env.locals)
 exf: ∀b∈X.ex,b≠X.env.locals/\ ∀x c,X.env.cells.lookup x=some c->c≠b
 bs: ∀b o,X.base.get? b=some o->X.s₀.heap.get? b=some o/\X.H₀ b=none
 bsz:X.base.objs.size<=X.s₀.heap.objs.size
 noex: ∀b o,X.base.get? b=some o->b∉X.ex
 exfs: ∀b∈X.ex,b∉X.fs
 funs:X.s₀.heap.FunFrames X.base X.outer
 frf: ∀b∈X.fs,X.H₀ b=none
structure Inv(X:Cx)(pins:List (Addr×Obj))(σ:List (Option V))(H:Hp)(s:Shared):Prop where
 ok:X.Ok
 os:s.os=X.s₀.os
 bare:AllBare s.gens
 base:Un X.fs X.ex X.H₀ H X.s₀.heap s.heap
 loc: ∃m,s.heap.Ns X.env.locals m/\ ∀(i:Nat)(x:Str)(v:V),X.N[i]? =some x->σ[i]? =some (some v)->Vis X.env.scope x-> ∃u,RelV v u/\Look X.env s.heap m x u
 cell: ∀x c,X.env.cells.lookup x=some c-> ∃v,s.heap.IsCell c v
 free:H X.env.locals=none
 freeC: ∀x c,X.env.cells.lookup x=some c->H c=none
 pin: ∀p∈X.pn++pins,s.heap.get? p.1=some p.2/\H p.1=none/\p.1≠X.env.locals/\p.1∉X.fs/\ ∀v,p.2.data≠.cell v
 hok:HOk X.prog X.w H s.heap
 len:σ.length=X.N.length
section
variable{X:Cx}{pins:List (Addr×Obj)}{σ:List (Option V)}{H H':Hp}{s:Shared}{h':Heap}
theorem Cx.Ok.nofr(ok:X.Ok){b:Addr}{o:Obj}(e:X.base.get? b=some o):b∉X.fs:=λhb=>by
 have:=(ok.funs.mem hb).1
 rw [e]at this;cases this
theorem Inv.bs(I:Inv X pins σ H s): ∀b o,X.base.get? b=some o->s.heap.get? b=some o/\H b=none:=λb o e=>
 ⟨I.base.keep b o (I.ok.bs b o e).1 (I.ok.bs b o e).2 (I.ok.nofr e) (I.ok.noex b o e),I.base.free b o (I.ok.bs b o e).1 (I.ok.bs b o e).2 (I.ok.noex b o e)⟩
theorem Inv.bk(I:Inv X pins σ H s): ∀b o,X.base.get? b=some o->s.heap.get? b=some o:=λb o e=>(I.bs b o e).1
theorem Inv.mod(I:Inv X pins σ H s):Mod X.K X.mg X.base:=I.ok.mod
theorem Inv.kIn(I:Inv X pins σ H s):X.K.In s.heap:=I.ok.mod.kin.keeps I.bk
theorem Inv.lt(I:Inv X pins σ H s):X.env.locals<s.heap.objs.size:=let ⟨_,hn,_⟩:=I.loc;hn.lt
theorem Inv.sz(I:Inv X pins σ H s):X.s₀.heap.objs.size<=s.heap.objs.size:=le_trans I.ok.above (le_of_lt I.lt)
theorem Inv.nofs(I:Inv X pins σ H s){a:Addr}(h:s.heap.objs.size<=a):a∉X.fs:=λhb=>by
 obtain⟨_,o,ho,_⟩:=I.ok.funs.mem hb
 exact absurd (lt_of_lt_of_le (Heap.lt_size ho) (le_trans I.sz h)) (lt_irrefl _)
theorem Inv.cne(I:Inv X pins σ H s): ∀x c,X.env.cells.lookup x=some c->c≠X.env.locals:=λx c e z=>by
 obtain⟨v,o,ho,hd⟩:=I.cell x c e
 obtain⟨m,⟨o',es,ep,ho',hd',_⟩,_⟩:=I.loc
 rw [z,ho']at ho;cases ho;rw [hd']at hd;cases hd
theorem Inv.funs(I:Inv X pins σ H s):s.heap.FunFrames X.base X.outer:=by
 have all: ∀(l:List Env),(∀b∈frs l,b∈X.fs)->X.s₀.heap.FunFrames X.base l->s.heap.FunFrames X.base l:=by
  intro l
  induction l with
  |nil=>intro _ _;trivial
  |cons env r ih=>
   intro hs hl
   obtain⟨hk,⟨L,o,hf,hn,ho,hd⟩,hr⟩:=hl
   have hL:L∈X.fs:=hs L (by unfold frs;rw [filterMap_cons,hf];exact mF0)
   obtain⟨sl,e⟩:=I.base.slot L o ho (I.ok.frf L hL) hL λz=>I.ok.exfs L z hL
   exact⟨hk,⟨L,_,hf,hn,e,hd⟩,ih (λb hb=>hs b (by unfold frs;rw [filterMap_cons,hf];exact mO _ hb)) hr⟩
 exact all X.outer (λ_ hb=>hb) I.ok.funs
theorem Inv.stack(I:Inv X pins σ H s):s.heap.FunFrames X.base X.stack:=by
 rcases I.ok.stk with e|⟨e,hf⟩
 ·rw [e];exact I.funs
 ·rw [e]
  obtain⟨m,hn,_⟩:=I.loc
  refine .cons (by rw [I.ok.kind];decide) hf hn ?_ I.funs
  exact Heap.get?_none_of_le (le_trans I.ok.bsz I.ok.above)
theorem Inv.stkSub(I:Inv X pins σ H s): ∀b∈frs X.stack,b∈X.env.locals::X.fs:=λb hb=>by
 rcases I.ok.stk with e|⟨e,hf⟩
 ·rw [e]at hb;exact mO _ hb
 ·rw [e]at hb
  unfold frs at hb
  rw [filterMap_cons,hf]at hb
  exact hb
theorem Inv.stkFree(I:Inv X pins σ H s): ∀b∈frs X.stack,H b=none:=λb hb=>by
 rcases mC.mp (I.stkSub b hb)with e|hb
 ·rw [e];exact I.free
 ·obtain⟨_,o,ho,_⟩:=I.ok.funs.mem hb
  exact I.base.free b o ho (I.ok.frf b hb) λz=>I.ok.exfs b z hb
theorem Inv.step{g':Array GenState}{t':Nat}{d':Drawn}{ch:List Addr}(I:Inv X pins σ H s)
  (hch: ∀b∈ch,(b∈X.ex\/X.s₀.heap.objs.size<=b)/\b≠X.env.locals/\(∀x c,X.env.cells.lookup x=some c->c≠b)/\ ∀p∈X.pn++pins,p.1≠b)
  (keep: ∀b o,b≠X.env.locals->b∉X.fs->b∉ch->s.heap.get? b=some o->H b=none->h'.get? b=some o)
  (slot: ∀b o,b≠X.env.locals->b∈X.fs->b∉ch->s.heap.get? b=some o->H b=none-> ∃sl,h'.get? b=some {o with slots:=sl}) (free: ∀b o,b∉ch->s.heap.get? b=some o->H b=none->H' b=none)
  (there: ∀b o,b∉ch->s.heap.get? b=some o-> ∃o',h'.get? b=some o')
  (tups: ∀b xs,H b=some (.tup xs)->H' b=some (.tup xs)) (frzs: ∀b o u,H b=some (.frz o u)->H' b=some (.frz o u)) (tbls: ∀b ps,H b=some (.tbl ps)-> ∃more,H' b=some (.tbl (ps++more)))
  (ns: ∀m,s.heap.Ns X.env.locals m->h'.Ns X.env.locals m) (hok:HOk X.prog X.w H' h') (hg:AllBare g'):
  Inv X pins σ H' {s with heap:=h',gens:=g',drawn:=d',toks:=t'}:=by
 have neL: ∀b o,X.s₀.heap.get? b=some o->b≠X.env.locals:=λb o e=>ne_of_lt (lt_of_lt_of_le (Heap.lt_size e) I.ok.above)
 have neC: ∀b o,X.s₀.heap.get? b=some o->b∉X.ex->b∉ch:=λb o e hx hb=>by
  rcases (hch b hb).1 with z|z
  ·exact hx z
  ·exact absurd (lt_of_lt_of_le (Heap.lt_size e) z) (lt_irrefl _)
 have cellK: ∀x c,X.env.cells.lookup x=some c-> ∀v,s.heap.IsCell c v->h'.IsCell c v:=λx c e v ⟨o,ho,hd⟩=>by
  have nch:c∉ch:=λz=>(hch c z).2.2.1 x c e rfl
  by_cases hc:c∈X.fs
  ·obtain⟨sl,q⟩:=slot c o (I.cne x c e) hc nch ho (I.freeC x c e)
   exact⟨_,q,hd⟩
  ·exact⟨o,keep c o (I.cne x c e) hc nch ho (I.freeC x c e),hd⟩
 refine⟨I.ok,I.os,hg,⟨λb o e n hb hx=>?_,λb o e n hb hx=>?_,λb o e n hx=>?_,λb o e hx=>?_,λb xs e=>tups b xs (I.base.tups b xs e),λb o xs e=>frzs b o xs (I.base.frzs b o xs e),λb ps e=>?_⟩,?_,λx c e=>?_,?_,λx c e=>?_,λp hp=>?_,hok,I.len⟩
 ·exact keep b o (neL b o e) hb (neC b o e hx) (I.base.keep b o e n hb hx) (I.base.free b o e n hx)
 ·obtain⟨sl,e1⟩:=I.base.slot b o e n hb hx
  obtain⟨sl',e2⟩:=slot b _ (neL b o e) hb (neC b o e hx) e1 (I.base.free b o e n hx)
  exact⟨sl',e2⟩
 ·obtain⟨o',e1⟩:=I.base.there b o e hx
  exact free b o' (neC b o e hx) e1 (I.base.free b o e n hx)
 ·obtain⟨o',e1⟩:=I.base.there b o e hx
  exact there b o' (neC b o e hx) e1
 ·obtain⟨m1,e1⟩:=I.base.tbls b ps e
  obtain⟨m2,e2⟩:=tbls b _ e1
  exact⟨m1++m2,by rw [e2,Array.append_assoc]⟩
 ·obtain⟨m,hn,hl⟩:=I.loc
  refine⟨m,ns m hn,λi x v e1 e2 e3=>?_⟩
  obtain⟨u,r,l⟩:=hl i x v e1 e2 e3
  refine⟨u,r,?_⟩
  rcases l with l|⟨k,c,e,z⟩
  ·exact .inl l
  ·exact .inr ⟨k,c,e,cellK x c e _ z⟩
 ·obtain⟨v,z⟩:=I.cell x c e
  exact⟨v,cellK x c e v z⟩
 ·obtain⟨m,⟨o,_,_,ho,_⟩,_⟩:=I.loc
  exact free _ o (λz=>(hch _ z).2.1 rfl) ho I.free
 ·obtain⟨v,o,ho,hd⟩:=I.cell x c e
  exact free c o (λz=>(hch c z).2.2.1 x c e rfl) ho (I.freeC x c e)
 ·obtain⟨e,n,ne,nf,d⟩:=I.pin p hp
  have nch:p.1∉ch:=λz=>(hch p.1 z).2.2.2 p hp rfl
  exact⟨keep p.1 p.2 ne nf nch e n,free p.1 p.2 nch e n,ne,nf,d⟩
theorem Inv.un{t':Nat}(I:Inv X pins σ H s)(u:Un X.fs [] H H' s.heap h')(hok:HOk X.prog X.w H' h'):Inv X pins σ H' {s with heap:=h',toks:=t'}:=by
 obtain⟨m,⟨o,es,ep,ho,r⟩,_⟩:=id I.loc
 obtain⟨sl,hL⟩:=u.any ho I.free (by simp)
 exact I.step (g':=s.gens) (d':=s.drawn) (ch:=[]) (λ_ z=>nomatch z) (λb o _ hb _ e n=>u.keep b o e n hb (by simp)) (λb o _ hb _ e n=>u.slot b o e n hb (by simp)) (λb o _ e n=>u.free b o e n (by simp)) (λb o _ e=>u.there b o e (by simp)) u.tups u.frzs u.tbls (λm' hm=>by
  obtain⟨o',es',ep',ho',r'⟩:=hm
  rw [ho]at ho';cases ho'
  exact⟨_,es',ep',hL,r'⟩) hok I.bare
theorem Inv.call{g':Array GenState}{t':Nat}{d':Drawn}{ch:List Addr}(I:Inv X pins σ H s)(u:Un (frs X.stack) ch H H' s.heap h')(hok:HOk X.prog X.w H' h')(hg:AllBare g')
  (hch: ∀b∈ch,(b∈X.ex\/X.s₀.heap.objs.size<=b)/\b≠X.env.locals/\(∀x c,X.env.cells.lookup x=some c->c≠b)/\ ∀p∈X.pn++pins,p.1≠b):
  Inv X pins σ H' {s with heap:=h',gens:=g',drawn:=d',toks:=t'}:=by
 obtain⟨m,⟨o,es,ep,ho,r⟩,_⟩:=id I.loc
 obtain⟨sl,hL⟩:=u.any ho I.free λz=>(hch _ z).2.1 rfl
 exact I.step (ch:=ch) hch (λb o hL hb hc e n=>u.keep b o e n (λz=>(mC.mp (I.stkSub b z)).elim hL hb) hc) (λb o _ _ hc e n=>u.any e n hc) (λb o hc e n=>u.free b o e n hc) (λb o hc e=>u.there b o e hc) u.tups u.frzs u.tbls (λm' hm=>by
  obtain⟨o',es',ep',ho',r'⟩:=hm
  rw [ho]at ho';cases ho'
  exact⟨_,es',ep',hL,r'⟩) hok hg
theorem Inv.turned{t':Nat}{it:Addr}(I:Inv X pins σ H s)(k: ∀b o,b≠it->s.heap.get? b=some o->h'.get? b=some o)(hn:H it=none)(hL:it≠X.env.locals)
  (h1:it∈X.ex\/X.s₀.heap.objs.size<=it) (h2: ∀x c,X.env.cells.lookup x=some c->c≠it) (h3: ∀p∈X.pn++pins,p.1≠it):Inv X pins σ H {s with heap:=h',toks:=t'}:=by
 have nit: ∀b u,H b=some u->b≠it:=λb u e z=>by rw [z,hn]at e;cases e
 refine I.step (g':=s.gens) (d':=s.drawn) (ch:=[it]) (λb hb=>?_) (λb o _ _ hc e _=>k b o (λz=>hc (by simp [z])) e) (λb o _ _ hc e _=>⟨o.slots,k b o (λz=>hc (by simp [z])) e⟩) (λ_ _ _ _ n=>n)
  (λb o hc e=>⟨o,k b o (λz=>hc (by simp [z])) e⟩) (λ_ _ e=>e) (λ_ _ _ e=>e) (λb ps e=>⟨#[],by rw [e];simp⟩) (λm hm=>?_) (λb u e=>?_) I.bare
 ·have e:b=it:=by simpa using hb
  subst e
  exact⟨h1,hL,h2,h3⟩
 ·obtain⟨o,es,ep,ho,r⟩:=hm
  exact⟨o,es,ep,k _ o (Ne.symm hL) ho,r⟩
 ·refine(I.hok b u e).stay (λc v hc q=>k c v ?_ q) (λ_ q=>q) λ_ _ q=>q
  rcases hc with z|z
  ·rw [z];exact nit b u e
  ·exact nit c _ z
theorem Inv.tok(I:Inv X pins σ H s)(t:Nat):Inv X pins σ H {s with toks:=t}:=I.un (h':=s.heap) (t':=t) Un.refl I.hok
theorem Inv.kept{t':Nat}(I:Inv X pins σ H s)(k: ∀b u,s.heap.get? b=some u->h'.get? b=some u):Inv X pins σ H {s with heap:=h',toks:=t'}:=I.un (Un.kept k) (I.hok.kept k)
theorem Inv.laid{a:Addr}{o:HO}{t':Nat}(I:Inv X pins σ H s)(k: ∀b u,s.heap.get? b=some u->h'.get? b=some u)(hp:s.heap.objs.size<=a)(new:ObjOk X.prog X.w (upd H a o) h' a o):
  Inv X pins σ (upd H a o) {s with heap:=h',toks:=t'}:=I.un (Un.laid k hp (I.hok.fresh hp)) (I.hok.laid k hp new)
theorem Inv.write{x e:Addr}{o:HO}{t':Nat}(I:Inv X pins σ H s)(mu:Mut (H x))(he:e=x\/H e=some (.own x))(k: ∀b u,b≠e->s.heap.get? b=some u->h'.get? b=some u)(heo: ∃u,h'.get? e=some u)
  (new:ObjOk X.prog X.w (upd H x o) h' x o):Inv X pins σ (upd H x o) {s with heap:=h',toks:=t'}:=I.un (Un.write mu he k heo) (I.hok.write mu he k heo new)
theorem Inv.pins_of{pins':List (Addr×Obj)}(I:Inv X pins σ H s)(h: ∀p∈pins',s.heap.get? p.1=some p.2/\H p.1=none/\p.1≠X.env.locals/\p.1∉X.fs/\ ∀v,p.2.data≠.cell v):Inv X pins' σ H s:=
 ⟨I.ok,I.os,I.bare,I.base,I.loc,I.cell,I.free,I.freeC,λp hp=>(mem_append.mp hp).elim (λz=>I.pin p (mem_append_left _ z)) (h p),I.hok,I.len⟩
theorem zVD{N:List Str}(hN:N.Nodup){i j:Nat}{x:Str}(a:N[i]? =some x)(b:N[j]? =some x):i=j:=by
 obtain⟨h1,e1⟩:=gS0.mp a
 obtain⟨h2,e2⟩:=gS0.mp b
 exact(getElem_inj hN).mp (e1.trans e2.symm)
theorem zRJ{M:Model}{A:Around}{E:VP}{i:Nat}{x:Str}{v:V}{u:Value}{Q:Unit->Shared->Prop}(I:Inv X pins σ H s)(hN:X.N.Nodup)(hi:X.N[i]? =some x)(hx:Loc X.env.scope x)(r:RelV v u)
  (h: ∀s',Inv X pins (σ.set i (some v)) H s'->(∃a,Heap.SameBut a s.heap s'.heap/\(a=X.env.locals\/X.env.cells.lookup x=some a))->Q () s') (hf:X.fn x=true\/X.env.scope.names.lookup x=some .local:=by first |exact .inl rfl|exact .inr rfl|assumption):wpAny M A (storeName X.env x u) Q E s:=by
 obtain⟨m,hn,hl⟩:=id I.loc
 have hcls:(X.env.scope.kind==.class || (X.env.scope.kind==.module&&X.env.locals !=X.env.globals))=false:=by rw [I.ok.kind];rfl
 have hiσ:i<σ.length:=by rw [I.len];exact(gS0.mp hi).1
 have cne:=I.cne
 have tracked: ∀{a:Addr}{h':Heap},(∃o,s.heap.get? a=some o/\H a=none)->Heap.SameBut a s.heap h'->HOk X.prog X.w H h':=λ{a h'} ha hs b ob e=>by
  obtain⟨_,_,hfree⟩:=ha
  refine(I.hok b ob e).stay (λc w' hc q=>(hs.2 c ?_).trans q) (λ_ q=>q) λ_ _ q=>q
  rintro rfl
  rcases hc with rfl|hc
  ·rw [hfree]at e;cases e
  ·rw [hfree]at hc;cases hc
 rcases hx with hk|hk
 ·refine wpAny_storeName_local hk hn (λh' hn' hs=>?_) hcls
  obtain⟨oL,_,_,hoL,_⟩:=id hn
  refine h _ ⟨I.ok,I.os,I.bare,⟨λb o e n hb hx=>?_,λb o e n hb hx=>?_,I.base.free,λb o e hx=>?_,I.base.tups,I.base.frzs,I.base.tbls⟩,⟨_,hn',λj y v' e1 e2 e3=>?_⟩,λy c e=>?_,I.free,I.freeC,λp hp=>?_,tracked ⟨oL,hoL,I.free⟩ hs,by simpa using I.len⟩ ⟨_,hs,.inl rfl⟩
  ·exact(hs.2 b (ne_of_lt (lt_of_lt_of_le (Heap.lt_size e) I.ok.above))).trans (I.base.keep b o e n hb hx)
  ·obtain⟨sl,e1⟩:=I.base.slot b o e n hb hx
   exact⟨sl,(hs.2 b (ne_of_lt (lt_of_lt_of_le (Heap.lt_size e) I.ok.above))).trans e1⟩
  ·obtain⟨o',e1⟩:=I.base.there b o e hx
   exact⟨o',(hs.2 b (ne_of_lt (lt_of_lt_of_le (Heap.lt_size e) I.ok.above))).trans e1⟩
  ·by_cases hj:j=i
   ·subst hj
    rw [hi]at e1;cases e1
    rw [getElem?_set_self hiσ]at e2
    cases e2
    exact⟨u,r,.inl ⟨hk,by simp⟩⟩
   ·rw [getElem?_set_ne (Ne.symm hj)]at e2
    obtain⟨u',r',q⟩:=hl j y v' e1 e2 e3
    refine⟨u',r',?_⟩
    rcases q with⟨k,e⟩|⟨k,c,e,z⟩
    ·refine .inl ⟨k,?_⟩
     have:y≠x:=λe=>hj (zVD hN e1 (e▸hi))
     simp [this,e]
    ·exact .inr ⟨k,c,e,z.sameBut hs (cne y c e)⟩
  ·obtain⟨w',z⟩:=I.cell y c e
   exact⟨w',z.sameBut hs (cne y c e)⟩
  ·obtain⟨e,n,ne,nf,d⟩:=I.pin p hp
   exact⟨(hs.2 p.1 ne).trans e,n,ne,nf,d⟩
 ·have hfn:X.fn x=true:=by
   rcases hf with z|z
   ·exact z
   ·rw [z]at hk;cases hk
  obtain⟨c,hc⟩:=I.ok.has x (.inl hk)
  obtain⟨w',z⟩:=I.cell x c hc
  refine wpAny_storeName_cell I.ok.kind hk hc z (λh' hc' hs=>?_)
  obtain⟨oc,hoc,hocd⟩:=id z
  refine h {s with heap:=h'} ⟨I.ok,I.os,I.bare,⟨λb o e n hb hx=>?_,λb o e n hb hx=>?_,I.base.free,λb o e hx=>?_,I.base.tups,I.base.frzs,I.base.tbls⟩,⟨m,hn.sameBut hs (Ne.symm (cne x c hc)),λj y v' e1 e2 e3=>?_⟩,λy c' e=>?_,I.free,I.freeC,λp hp=>?_,tracked ⟨oc,hoc,I.freeC x c hc⟩ hs,by simpa using I.len⟩ ⟨c,hs,.inr hc⟩
  ·exact(hs.2 b (ne_of_lt (lt_of_lt_of_le (Heap.lt_size e) (I.ok.cab x c hfn hc)))).trans (I.base.keep b o e n hb hx)
  ·obtain⟨sl,e1⟩:=I.base.slot b o e n hb hx
   exact⟨sl,(hs.2 b (ne_of_lt (lt_of_lt_of_le (Heap.lt_size e) (I.ok.cab x c hfn hc)))).trans e1⟩
  ·obtain⟨o',e1⟩:=I.base.there b o e hx
   exact⟨o',(hs.2 b (ne_of_lt (lt_of_lt_of_le (Heap.lt_size e) (I.ok.cab x c hfn hc)))).trans e1⟩
  ·by_cases hj:j=i
   ·subst hj
    rw [hi]at e1;cases e1
    rw [getElem?_set_self hiσ]at e2
    cases e2
    exact⟨u,r,.inr ⟨.inl hk,c,hc,hc'⟩⟩
   ·rw [getElem?_set_ne (Ne.symm hj)]at e2
    obtain⟨u',r',q⟩:=hl j y v' e1 e2 e3
    refine⟨u',r',?_⟩
    rcases q with q|⟨k,c',e,z'⟩
    ·exact .inl q
    ·refine .inr ⟨k,c',e,z'.sameBut hs ?_⟩
     rintro rfl
     exact hj (zVD hN e1 (I.ok.inj _ _ _ e hc▸hi))
  ·by_cases hcc:c'=c
   ·subst hcc;exact⟨_,hc'⟩
   ·obtain⟨w2,z2⟩:=I.cell y c' e
    exact⟨w2,z2.sameBut hs hcc⟩
  ·obtain⟨e,n,ne,nf,d⟩:=I.pin p hp
   refine⟨(hs.2 p.1 ?_).trans e,n,ne,nf,d⟩
   intro q
   rw [q,hoc]at e
   have q':oc=p.2:=Option.some.inj e
   exact d w' (by rw [<-q'];exact hocd)
theorem zVE{M:Model}{A:Around}{E:VP}{i:Nat}{x:Str}{v:V}{u:Value}{Q:Unit->Shared->Prop}(I:Inv X pins σ H s)(hN:X.N.Nodup)(hi:X.N[i]? =some x)(hx:Loc X.env.scope x)(r:RelV v u)
  (h: ∀s',Inv X pins (σ.set i (some v)) H s'->Q () s') (hf:X.fn x=true\/X.env.scope.names.lookup x=some .local:=by first |exact .inl rfl|exact .inr rfl|assumption):wpAny M A (storeName X.env x u) Q E s:=
 zRJ I hN hi hx r (λs' I' _=>h s' I') hf
theorem Inv.call'{s':Shared}{ch:List Addr}(I:Inv X pins σ H s)(ho:s'.os=s.os)(u:Un (frs X.stack) ch H H' s.heap s'.heap)(hok:HOk X.prog X.w H' s'.heap)(hg:AllBare s'.gens)
  (hch: ∀b∈ch,(b∈X.ex\/X.s₀.heap.objs.size<=b)/\b≠X.env.locals/\(∀x c,X.env.cells.lookup x=some c->c≠b)/\ ∀p∈X.pn++pins,p.1≠b):Inv X pins σ H' s':=by
 obtain⟨h',g',d',t',o'⟩:=s'
 have e:o'=s.os:=ho
 subst e
 exact I.call (g':=g') (t':=t') (d':=d') u hok hg hch
end
abbrev XK:=Value->Option Addr->Hp->Prop
abbrev St:=List (Option V)
abbrev VK:=V->Hp->Prop
abbrev TE:=St->Hp->VK->Prop
abbrev TT:=St->Hp->(Bool->Hp->Prop)->Prop
abbrev TA:=St->Hp->(List V->Hp->Prop)->Prop
structure Ends where
 nx:St->Hp->Prop
 rt:VK
 bk:St->Hp->Prop:=λ_ _=>False
 ct:St->Hp->Prop:=λ_ _=>False
abbrev TS:=Ends->St->Hp->Prop
def EP(X:Cx)(pins:List (Addr×Obj))(σ:St)(Q:VK)(u:Value)(s':Shared):Prop:= ∃v H',Inv X pins σ H' s'/\RelV v u/\Q v H'
def TP(X:Cx)(pins:List (Addr×Obj))(σ:St)(Q:Bool->Hp->Prop)(b:Bool)(s':Shared):Prop:= ∃H',Inv X pins σ H' s'/\Q b H'
def AP(X:Cx)(pins:List (Addr×Obj))(σ:St)(Q:List V->Hp->Prop)(us:List Value)(s':Shared):Prop:= ∃vs H',Inv X pins σ H' s'/\Vals vs us/\Q vs H'
def SP(X:Cx)(pins:List (Addr×Obj))(D:Ends)(f:Flow)(s':Shared):Prop:=
 match f with
 |.next=> ∃σ' H',Inv X pins σ' H' s'/\D.nx σ' H'
 |.brk=> ∃σ' H',Inv X pins σ' H' s'/\D.bk σ' H'
 |.cont=> ∃σ' H',Inv X pins σ' H' s'/\D.ct σ' H'
 |.ret u=> ∃v σ' H',Inv X pins σ' H' s'/\RelV v u/\D.rt v H'
def PE(X:Cx)(e:Expr)(t:TE):Prop:=
 ∀(pins:List (Addr×Obj))(s:Shared)(σ:St)(H:Hp)(Q:VK),Inv X pins σ H s->t σ H Q->wpAny (model X.prog X.w) X.A (eval e X.env) (EP X pins σ Q) X.xe s
def PT(X:Cx)(e:Expr)(t:TT):Prop:=
 ∀(pins:List (Addr×Obj))(s:Shared)(σ:St)(H:Hp)(Q:Bool->Hp->Prop),Inv X pins σ H s->t σ H Q->wpAny (model X.prog X.w) X.A (isTrue e X.env (eval e X.env)) (TP X pins σ Q) X.xe s
def PW(X:Cx)(e:Expr)(t:TT):Prop:=
 ∀(whole:Sem Value)(pins:List (Addr×Obj))(s:Shared)(σ:St)(H:Hp)(Q:Bool->Hp->Prop),Inv X pins σ H s->t σ H Q->wpAny (model X.prog X.w) X.A (isTrue e X.env whole) (TP X pins σ Q) X.xe s
theorem PW.pt{X:Cx}{e:Expr}{t:TT}(h:PW X e t):PT X e t:=h _
def PA(X:Cx)(es:List Expr)(t:TA):Prop:=
 ∀(pos:Pos)(pins:List (Addr×Obj))(s:Shared)(σ:St)(H:Hp)(Q:List V->Hp->Prop),Inv X pins σ H s->t σ H Q->wpAny (model X.prog X.w) X.A (spliced (backTo pos (starEach es X.env))) (AP X pins σ Q) X.xe s
def PS(X:Cx)(st:Stmt)(t:TS):Prop:=
 ∀(pins:List (Addr×Obj))(s:Shared)(σ:St)(H:Hp)(D:Ends),Inv X pins σ H s->t D σ H->wpAny (model X.prog X.w) X.A (exec st X.env) (SP X pins D) X.xe s
def PSs(X:Cx)(st:List Stmt)(t:TS):Prop:=
 ∀(pins:List (Addr×Obj))(s:Shared)(σ:St)(H:Hp)(D:Ends),Inv X pins σ H s->t D σ H->wpAny (model X.prog X.w) X.A (execs st X.env) (SP X pins D) X.xe s
theorem thn{α:Type}{t:Sem α}{Q Q':α->Shared->Prop}{M:Model}{A:Around}{E:VP}{s:Shared}(h:wpAny M A t Q E s)(hQ: ∀a s,Q a s->Q' a s):wpAny M A t Q' E s:=wpAny_mono h hQ λ_ _ x=>x
section
variable{X:Cx}
def tVar(i:Nat):TE:=λσ H Q=> ∃v,σ[i]? =some (some v)/\Q v H
def tC(v:V):TE:=λ_ H Q=>Q v H
theorem yMK{i:Nat}{x:Str}{pos:Pos}(hN:X.N[i]? =some x)(hv:Vis X.env.scope x)(hd:(x==("__debug__":Str))=false:=by decide)(hcd:(x==("__classdict__":Str))=false:=by decide):PE X (.Name x pos) (tVar i):=by
 intro pins s σ H Q I h
 obtain⟨v,e,h⟩:=h
 obtain⟨m,hn,hl⟩:=I.loc
 obtain⟨u,r,l⟩:=hl i x v hN e hv
 have fin:EP X pins σ Q u s:=⟨v,H,I,r,h⟩
 rcases l with⟨hk,hm⟩|⟨hk,c,hc,hcell⟩
 ·exact wpAny_Name (wpAny_loadName_local I.ok.kind hk hn hm fin) hd
 ·rcases hk with hk|hk
  ·exact wpAny_Name (wpAny_loadName_cell I.ok.kind hk hc hcell fin) hd
  ·exact wpAny_Name (wpAny_loadName_free I.ok.kind hk hc hcell fin hcd) hd
theorem zYC{i j pos}:PE X (.Constant (.int i) j pos) (tC (.int i)):=λ_ _ _ H _ I h=>wpAny_Constant_int ⟨.int i,H,I.tok _,⟨_,rfl⟩,h⟩
theorem pe_bl{b j pos}:PE X (.Constant (.bool b) j pos) (tC (.bl b)):=λ_ _ _ H _ I h=>Constant_bool ⟨.bl b,H,I,rfl,h⟩
theorem yML{j pos}:PE X (.Constant .none j pos) (tC .non):=λ_ _ _ H _ I h=>Constant_none ⟨.non,H,I,rfl,h⟩
theorem yMM{x j pos}:PE X (.Constant (.str x) j pos) (tC (.str x)):=λ_ _ _ H _ I h=>Calls.Constant_str ⟨.str x,H,I.tok _,⟨_,rfl⟩,h⟩
def Gl(X:Cx)(x:Str):Prop:=X.env.kindOf x=some .globalImplicit
theorem zZY{E:VP}{pins:List (Addr×Obj)}{s:Shared}{σ:St}{H:Hp}{x:Str}{u:Value}{pos:Pos}{Q:VP}(I:Inv X pins σ H s)(hg:Gl X x)(hm:X.mg x=some u)(h:Q u s)
  (hd:(x==("__debug__":Str))=false:=by decide):wpAny (model X.prog X.w) X.A (eval (.Name x pos) X.env) Q E s:=
 Calls.Name_function_global I.ok.kind hg (Calls.loadGlobal_global (by rw [I.ok.glob];exact I.mod.glob.keeps I.bk) hm h) hd
theorem zLP{E:VP}{pins:List (Addr×Obj)}{s:Shared}{σ:St}{H:Hp}{x:Str}{u:Value}{pos:Pos}{Q:VP}(I:Inv X pins σ H s)(hg:Gl X x)(hm:X.mg x=none)(hv:bootBuiltins x=some u)(h:Q u s)
  (hn:x≠"__name__":=by decide) (hd:(x==("__debug__":Str))=false:=by decide):wpAny (model X.prog X.w) X.A (eval (.Name x pos) X.env) Q E s:=by
 obtain⟨mb,h1,h2⟩:=I.mod.blt
 exact Calls.Name_function_global I.ok.kind hg (Calls.loadGlobal_builtin (by rw [I.ok.glob];exact I.mod.glob.keeps I.bk) hm (by rw [I.ok.blt];exact h1.keeps I.bk) ((h2 x hn).trans hv) h) hd
theorem zZZ{x:Str}{v:V}{u:Value}{pos:Pos}(hg:Gl X x)(hm:X.mg x=some u)(r:RelV v u)(hd:(x==("__debug__":Str))=false:=by decide):PE X (.Name x pos) (tC v):=
 λ_ _ _ H _ I h=>zZY I hg hm ⟨v,H,I,r,h⟩ hd
theorem yHZ{x:Str}{v:V}{u:Value}{pos:Pos}(hg:Gl X x)(hm:X.mg x=none)(hv:bootBuiltins x=some u)(r:RelV v u)(hn:x≠"__name__":=by decide)(hd:(x==("__debug__":Str))=false:=by decide):PE X (.Name x pos) (tC v):=
 λ_ _ _ H _ I h=>zLP I hg hm hv ⟨v,H,I,r,h⟩ hn hd
variable{a b:Expr}{ta tb:TE}{pos:Pos}
variable{tA tB':TT}{rest:List Expr}
def tAnd(t u:TT):TT:=λσ H Q=>t σ H λc H1=>if c=true then u σ H1 Q else Q false H1
def tOr(t u:TT):TT:=λσ H Q=>t σ H λc H1=>if c=true then Q true H1 else u σ H1 Q
def tNot(t:TT):TT:=λσ H Q=>t σ H λc H1=>Q (!c) H1
theorem yIA(ha:PT X a tA):PW X (.BoolOp .And [a] pos) tA:=by
 intro wh pins s σ H Q I h
 refine isTrue_and (thn (ha pins s σ H Q I h) λc s1 e=>?_)
 cases c with
 |true=>exact isTrue_and_nil e
 |false=>exact e
theorem yMN(ha:PT X a tA):PW X (.BoolOp .Or [a] pos) tA:=by
 intro wh pins s σ H Q I h
 refine isTrue_or (thn (ha pins s σ H Q I h) λc s1 e=>?_)
 cases c with
 |false=>exact isTrue_or_nil e
 |true=>exact e
theorem yMO(ha:PT X a tA)(hb:PW X (.BoolOp .And (b::rest) pos) tB'):PW X (.BoolOp .And (a::b::rest) pos) (tAnd tA tB'):=by
 intro wh pins s σ H Q I h
 refine isTrue_and (thn (ha pins s σ H _ I h) λc s1 ⟨H1,I1,q1⟩=>?_)
 cases c with
 |true=>exact hb wh pins s1 σ H1 Q I1 q1
 |false=>exact⟨H1,I1,q1⟩
theorem pw_or(ha:PT X a tA)(hb:PW X (.BoolOp .Or (b::rest) pos) tB'):PW X (.BoolOp .Or (a::b::rest) pos) (tOr tA tB'):=by
 intro wh pins s σ H Q I h
 refine isTrue_or (thn (ha pins s σ H _ I h) λc s1 ⟨H1,I1,q1⟩=>?_)
 cases c with
 |true=>exact⟨H1,I1,q1⟩
 |false=>exact hb wh pins s1 σ H1 Q I1 q1
theorem yMP(ha:PT X a tA):PT X (.UnaryOp .Not a pos) (tNot tA):=by
 intro pins s σ H Q I h
 exact isTrue_not (ha pins s σ H (λc H1=>Q (!c) H1) I h)
def tAndV(ta tb:TE):TE:=λσ H Q=>ta σ H λx H1=> ∃c,x=.bl c/\if c=true then tb σ H1 Q else Q (.bl false) H1
def tOrV(ta tb:TE):TE:=λσ H Q=>ta σ H λx H1=> ∃c,x=.bl c/\if c=true then Q (.bl true) H1 else tb σ H1 Q
def tNotV(ta:TE):TE:=λσ H Q=>ta σ H λx H1=> ∃c,x=.bl c/\Q (.bl (!c)) H1
theorem yMQ{op}{t:TE}(h:PE X a t):PE X (.BoolOp op [a] pos) t:=λpins s σ H Q I hw=>BoolOp_one (h pins s σ H Q I hw)
theorem yMR(ha:PE X a ta)(hb:PE X (.BoolOp .And (b::rest) pos) tb):PE X (.BoolOp .And (a::b::rest) pos) (tAndV ta tb):=by
 intro pins s σ H Q I h
 refine BoolOp_and (thn (ha pins s σ H _ I h) λv s1 ⟨x,H1,I1,r1,q1⟩=>?_)
 obtain⟨c,rfl,q1⟩:=q1
 cases r1
 refine wpAny_truthy_bool ?_
 cases c with
 |true=>exact hb pins s1 σ H1 Q I1 q1
 |false=>exact⟨.bl false,H1,I1,rfl,q1⟩
theorem pe_or(ha:PE X a ta)(hb:PE X (.BoolOp .Or (b::rest) pos) tb):PE X (.BoolOp .Or (a::b::rest) pos) (tOrV ta tb):=by
 intro pins s σ H Q I h
 refine BoolOp_or (thn (ha pins s σ H _ I h) λv s1 ⟨x,H1,I1,r1,q1⟩=>?_)
 obtain⟨c,rfl,q1⟩:=q1
 cases r1
 refine wpAny_truthy_bool ?_
 cases c with
 |false=>exact hb pins s1 σ H1 Q I1 q1
 |true=>exact⟨.bl true,H1,I1,rfl,q1⟩
theorem yMS(ha:PE X a ta):PE X (.UnaryOp .Not a pos) (tNotV ta):=by
 intro pins s σ H Q I h
 refine UnaryOp_ (thn (ha pins s σ H _ I h) λv s1 ⟨x,H1,I1,r1,q1⟩=>?_)
 obtain⟨c,rfl,q1⟩:=q1
 cases r1
 exact not_of (wpAny_truthy_bool ⟨.bl (!c),H1,I1,rfl,q1⟩)
def tIf(t:TT)(ta tb:TE):TE:=λσ H Q=>t σ H λc H1=>if c=true then ta σ H1 Q else tb σ H1 Q
theorem yDY{c:Expr}(hc:PT X c tA)(ha:PE X a ta)(hb:PE X b tb):PE X (.IfExp c a b pos) (tIf tA ta tb):=by
 intro pins s σ H Q I h
 refine wpAny_IfExp (thn (hc pins s σ H _ I h) λd s1 ⟨H1,I1,q1⟩=>?_)
 cases d with
 |true=>exact ha pins s1 σ H1 Q I1 q1
 |false=>exact hb pins s1 σ H1 Q I1 q1
end
def SqL(K:PySem.W.Frag)(H:Hp)(a:Addr)(xs:List V):Prop:=
 Rd H a (.lst xs)\/
  ∃(o:Obj)(its:Array Value)(n:Nat),K.lookup a=some o/\o.cls=.type "list"/\o.dict=none/\o.data=.seq its n/\its.size<=sizeLine/\Vals xs its.toList
def SqT(K:PySem.W.Frag)(H:Hp)(a:Addr)(xs:List V):Prop:=
 Rd H a (.tup xs)\/
  ∃(o:Obj)(its:Array Value)(n:Nat),K.lookup a=some o/\o.cls=.type "tuple"/\o.data=.seq its n/\its.size<=sizeLine/\Vals xs its.toList
def absV:Value->Option V
 |.none=>some .non
 |.bool b=>some (.bl b)
 |.int i _=>some (.int i)
 |.str x _=>some (.str x)
 |.bytes b _=>some (.byt b)
 |.float b _=>some (.flt b)
 |.ref a=>some (.ref a)
 |.type n=>some (.ty n)
 |_=>none
theorem RelV.abs{x:V}{u:Value}(r:RelV x u):absV u=some x:=by
 cases x with
 |non=>cases r;rfl
 |bl _=>cases r;rfl
 |int _=>obtain⟨t,rfl⟩:=r;rfl
 |str _=>obtain⟨t,rfl⟩:=r;rfl
 |byt _=>obtain⟨t,rfl⟩:=r;rfl
 |flt _=>obtain⟨t,rfl⟩:=r;rfl
 |ref _=>cases r;rfl
 |ty _=>cases r;rfl
theorem RelV.inj{x y:V}{u:Value}(r:RelV x u)(q:RelV y u):x=y:=Option.some.inj (r.abs.symm.trans q.abs)
theorem Vals.inj: ∀{xs ys:List V}{us:List Value},Vals xs us->Vals ys us->xs=ys
 |_,_,_,.nil,.nil=>rfl
 |_,_,_,.cons r t,.cons r' t'=>by rw [r.inj r',Vals.inj t t']
section
variable{X:Cx}{pins:List (Addr×Obj)}{σ:St}{H:Hp}{s:Shared}{a:Addr}{xs ys:List V}
theorem SqL.of{K:PySem.W.Frag}(h:H a=some (.lst xs)):SqL K H a xs:=.inl (.inl h)
theorem SqT.of{K:PySem.W.Frag}(h:H a=some (.tup xs)):SqT K H a xs:=.inl (.inl h)
theorem Inv.list(I:Inv X pins σ H s)(h:SqL X.K H a xs): ∃its:List Value,Vals xs its/\PlainL s.heap a its.toArray/\xs.length<=sizeLine:=by
 rcases h with h|⟨o,its,n,hk,hc,hd,hs,hz,r⟩
 ·obtain⟨z,its,n,r,e⟩:=h.ok I.hok
  exact⟨its,r,⟨_,n,e,rfl,rfl,rfl⟩,z⟩
 ·refine⟨its.toList,r,⟨o,n,I.kIn a o hk,hc,hd,by simpa using hs⟩,?_⟩
  have e:=r.length
  simp only [Array.length_toList]at e
  omega
theorem Inv.tuple(I:Inv X pins σ H s)(h:SqT X.K H a xs): ∃its:List Value,Vals xs its/\IsTup s.heap a its.toArray/\xs.length<=sizeLine:=by
 rcases h with h|⟨o,its,n,hk,hc,hs,hz,r⟩
 ·obtain⟨z,its,r,p⟩:=h.ok I.hok
  exact⟨its,r,p,z⟩
 ·refine⟨its.toList,r,⟨o,I.kIn a o hk,hc,n,by simpa using hs⟩,?_⟩
  have e:=r.length
  simp only [Array.length_toList]at e
  omega
theorem Inv.list_inj(I:Inv X pins σ H s)(h:SqL X.K H a xs)(h':SqL X.K H a ys):xs=ys:=by
 obtain⟨its,r,⟨o,n,e,_,_,d⟩,_⟩:=I.list h
 obtain⟨its',r',⟨o',n',e',_,_,d'⟩,_⟩:=I.list h'
 rw [e]at e';cases e'
 rw [d]at d'
 injection d' with d1 _
 have:its=its':=by simpa using congrArg Array.toList d1
 subst this
 exact r.inj r'
theorem Inv.tuple_inj(I:Inv X pins σ H s)(h:SqT X.K H a xs)(h':SqT X.K H a ys):xs=ys:=by
 obtain⟨its,r,⟨o,e,_,n,d⟩,_⟩:=I.tuple h
 obtain⟨its',r',⟨o',e',_,n',d'⟩,_⟩:=I.tuple h'
 rw [e]at e';cases e'
 rw [d]at d'
 injection d' with d1 _
 have:its=its':=by simpa using congrArg Array.toList d1
 subst this
 exact r.inj r'
end
abbrev Cx.wish(X:Cx)(E:VP):Cx:={X with xe:=E}
abbrev Cx.nox(X:Cx):Cx:=X.wish λ_ _=>False
theorem Cx.Ok.wish{X:Cx}(ok:X.Ok)(E:VP):(X.wish E).Ok:=
 ⟨ok.mod,ok.kind,ok.glob,ok.blt,ok.above,ok.inj,ok.has,ok.cab,ok.hd,ok.frames,ok.stk,ok.exf,ok.bs,ok.bsz,ok.noex,ok.exfs,ok.funs,ok.frf⟩
theorem Cx.Ok.unwish{X:Cx}{E:VP}(ok:(X.wish E).Ok):X.Ok:=
 ⟨ok.mod,ok.kind,ok.glob,ok.blt,ok.above,ok.inj,ok.has,ok.cab,ok.hd,ok.frames,ok.stk,ok.exf,ok.bs,ok.bsz,ok.noex,ok.exfs,ok.funs,ok.frf⟩
section
variable{X:Cx}{pins:List (Addr×Obj)}{σ:St}{H:Hp}{s:Shared}{E:VP}
theorem Inv.wish(I:Inv X pins σ H s)(E:VP):Inv (X.wish E) pins σ H s:=⟨I.ok.wish E,I.os,I.bare,I.base,I.loc,I.cell,I.free,I.freeC,I.pin,I.hok,I.len⟩
theorem Inv.unwish(I:Inv (X.wish E) pins σ H s):Inv X pins σ H s:=⟨I.ok.unwish,I.os,I.bare,I.base,I.loc,I.cell,I.free,I.freeC,I.pin,I.hok,I.len⟩
theorem SP.unwish{D:Ends}{f:Flow}{s':Shared}(h:SP (X.wish E) pins D f s'):SP X pins D f s':=by
 cases f with
 |next=>obtain⟨σ',H',I,q⟩:=h;exact⟨σ',H',I.unwish,q⟩
 |brk=>obtain⟨σ',H',I,q⟩:=h;exact⟨σ',H',I.unwish,q⟩
 |cont=>obtain⟨σ',H',I,q⟩:=h;exact⟨σ',H',I.unwish,q⟩
 |ret u=>obtain⟨v,σ',H',I,r,q⟩:=h;exact⟨v,σ',H',I.unwish,r,q⟩
theorem PSs.nox{st:List Stmt}{t:TS}(h:PSs X.nox st t):PSs X st t:=λpins s σ H D I hw=>
 wpAny_mono (h pins s σ H D (I.wish _) hw) (λ_ _ q=>q.unwish) λ_ _ z=>False.elim z
end
section
variable{X:Cx}{st:Stmt}{rest:List Stmt}{t u:TS}{e:Expr}{te:TE}{pos:Pos}
def tNext:TS:=λD σ H=>D.nx σ H
def tSeq(t u:TS):TS:=λD σ H=>t {D with nx:=u D} σ H
theorem yIB:PSs X [] tNext:=λ_ _ σ H _ I h=>wpAny_execs_nil ⟨σ,H,I,h⟩
theorem yDZ(h1:PS X st t)(h2:PSs X rest u):PSs X (st::rest) (tSeq t u):=by
 intro pins s σ H D I h
 refine wpAny_execs_cons (thn (h1 pins s σ H {D with nx:=u D} I h) λf s1 q=>?_)
 cases f with
 |next=>
  obtain⟨σ',H',I',q⟩:=q
  exact h2 pins s1 σ' H' D I' q
 |ret v=>exact q
 |brk=>exact q
 |cont=>exact q
theorem yIC(h1:PS X st t):PSs X [st] t:=by
 intro pins s σ H D I h
 refine wpAny_execs_cons (thn (h1 pins s σ H D I h) λf s1 q=>?_)
 cases f with
 |next=>exact wpAny_execs_nil q
 |ret v=>exact q
 |brk=>exact q
 |cont=>exact q
theorem Inv.quiet{pins:List (Addr×Obj)}{σ:St}{H:Hp}{s:Shared}(I:Inv X pins σ H s):interactive X.env=false:=by simp [interactive,I.ok.kind]
def tDrop(te:TE):TS:=λD σ H=>te σ H λ_ H1=>D.nx σ H1
theorem yID(he:PE X e te)(hs:swapsWith e none pos.line X.env=pure false:=by rfl):PS X (.Expr e pos) (tDrop te):=by
 intro pins s σ H D I h
 exact wpAny_Expr_any (thn (he pins s σ H _ I h) λv s1 ⟨x,H1,I1,r1,q1⟩=>⟨σ,H1,I1,q1⟩) I.quiet hs
def tRet(te:TE):TS:=λD σ H=>te σ H D.rt
theorem yMT(he:PE X e te):PS X (.Return (some e) pos) (tRet te):=by
 intro pins s σ H D I h
 exact wpAny_Return_some (thn (he pins s σ H _ I h) λv s1 ⟨x,H1,I1,r1,q1⟩=>⟨x,σ,H1,I1,r1,q1⟩)
def tIfS(c:TT)(t u:TS):TS:=λD σ H=>c σ H λb H1=>if b=true then t D σ H1 else u D σ H1
theorem ps_if{c:Expr}{a b:List Stmt}{tc:TT}(hc:PT X c tc)(ha:PSs X a t)(hb:PSs X b u):PS X (.If c a b pos) (tIfS tc t u):=by
 intro pins s σ H D I h
 refine wpAny_If (thn (hc pins s σ H _ I h) λd s1 ⟨H1,I1,q1⟩=>?_)
 cases d with
 |true=>exact ha pins s1 σ H1 D I1 q1
 |false=>exact hb pins s1 σ H1 D I1 q1
def yMU:TS:=λ_ _ _=>False
theorem yEA:PS X st yMU:=λ_ _ _ _ _ _ h=>h.elim
end
abbrev TG:=V->St->Hp->(St->Hp->Prop)->Prop
abbrev TGs:=List V->St->Hp->(St->Hp->Prop)->Prop
def PG(X:Cx)(target:Expr)(t:TG):Prop:=
 ∀(pins:List (Addr×Obj))(s:Shared)(σ:St)(H:Hp)(v:V)(u:Value)(Q:St->Hp->Prop),Inv X pins σ H s->RelV v u->t v σ H Q->
  wpAny (model X.prog X.w) X.A (assign target X.env u) (λ_ s'=> ∃σ' H',Inv X pins σ' H' s'/\Q σ' H') X.xe s
def PGs(X:Cx)(ts:List Expr)(t:TGs):Prop:=
 ∀(pins:List (Addr×Obj))(s:Shared)(σ:St)(H:Hp)(vs:List V)(us:List Value)(Q:St->Hp->Prop),Inv X pins σ H s->Vals vs us->t vs σ H Q->
  wpAny (model X.prog X.w) X.A (assignInOrder ((assignEach ts X.env).map (·.2)) us) (λ_ s'=> ∃σ' H',Inv X pins σ' H' s'/\Q σ' H') X.xe s
abbrev TSet:=V->V->V->Hp->(Hp->Prop)->Prop
def PSet(X:Cx)(t:TSet):Prop:=
 ∀(pins:List (Addr×Obj))(s:Shared)(σ:St)(H:Hp)(o i v:V)(ov iv u:Value)(Q:Hp->Prop),Inv X pins σ H s->RelV o ov->RelV i iv->RelV v u->t o i v H Q->
  wpAny (model X.prog X.w) X.A (setItem ov iv u) (λ_ s'=> ∃H',Inv X pins σ H' s'/\Q H') X.xe s
section
variable{X:Cx}{pos:Pos}
def yEB(i:Nat):TG:=λv σ H Q=>Q (σ.set i (some v)) H
theorem yAA{i:Nat}{x:Str}(hN:X.N.Nodup)(hi:X.N[i]? =some x)(hx:Loc X.env.scope x)(hf:X.fn x=true\/X.env.scope.names.lookup x=some .local:=by first |exact .inl rfl|exact .inr rfl|assumption):PG X (.Name x pos) (yEB i):=by
 intro pins s σ H v u Q I r h
 exact wpAny_assign_Name (zVE I hN hi hx r (λs' I'=>⟨_,H,I',h⟩) hf)
def gNil:TGs:=λvs σ H Q=>vs=[]/\Q σ H
def gCons(t:TG)(u:TGs):TGs:=λvs σ H Q=> ∃v r,vs=v::r/\t v σ H λσ' H'=>u r σ' H' Q
theorem yAB:PGs X [] gNil:=by
 intro pins s σ H vs us Q I r h
 obtain⟨e,h⟩:=h
 subst e
 cases r
 exact assignInOrder_nil ⟨σ,H,I,h⟩
theorem zVF{e:Expr}{es:List Expr}{t:TG}{u:TGs}(h1:PG X e t)(h2:PGs X es u)
  (hs:(assignEach (e::es) X.env).map (·.2)=assign e X.env::(assignEach es X.env).map (·.2):=by rfl):PGs X (e::es) (gCons t u):=by
 intro pins s σ H vs us Q I r h
 obtain⟨v,vr,e1,h⟩:=h
 subst e1
 cases r with
 |cons r rr=>
  rw [hs]
  refine assignInOrder_cons (thn (h1 pins s σ H _ _ _ I r h) λ_ s1 ⟨σ1,H1,I1,q1⟩=>?_)
  exact h2 pins s1 σ1 H1 _ _ Q I1 rr q1
def gTup(K:PySem.W.Frag)(n:Nat)(t:TGs):TG:=λv σ H Q=> ∃a xs,v=.ref a/\SqT K H a xs/\xs.length=n/\t xs σ H Q
theorem yEC{es:List Expr}{k:Nat}{t:TGs}{n:Nat}(hc:X.calm=true)(h:PGs X es t)
  (hn:(assignEach es X.env).length=n:=by rfl) (hst:(assignEach es X.env).findIdx? (·.1)=none:=by rfl):PG X (.Tuple es k pos) (gTup X.K n t):=by
 intro pins s σ H v u Q I r hw
 obtain⟨a,xs,e1,hq,hl,hw⟩:=hw
 subst e1
 cases r
 obtain⟨its,rv,ht,hz⟩:=I.tuple hq
 refine assign_Tuple_tuple (I.ok.hd hc) ht (by simp [hn, <-hl,rv.length]) hst λh' hx=>?_
 have I1:Inv X pins σ H {s with heap:=h'}:=I.kept (t':=s.toks) λb o e=>hx b o (ne_of_lt (Heap.lt_size e)) e
 exact h pins _ σ H xs _ Q I1 (by simpa using rv) hw
def gSub(to ti:TE)(t:TSet):TG:=λv σ H Q=>to σ H λo H1=>ti σ H1 λi H2=>t o i v H2 λH3=>Q σ H3
theorem yED{o i:Expr}{to ti:TE}{t:TSet}(ho:PE X o to)(hi:PE X i ti)(hs:PSet X t)
  (ha: ∀v,assign (.Subscript o i pos) X.env v=(do
   let ov <-holding [v] (eval o X.env)
   let iv <-holding [v,ov] (eval i X.env)
   standAt pos
   holding [v,ov,iv] (setItem ov iv v)
   release [v,ov,iv] []):=by intro _;rfl):PG X (.Subscript o i pos) (gSub to ti t):=by
 intro pins s σ H v u Q I r h
 rw [ha]
 refine wB0 (wpAny_holding (thn (ho pins s σ H _ I h) λov s1 ⟨x,H1,I1,r1,q1⟩=>?_))
 refine wB0 (wpAny_holding (thn (hi pins s1 σ H1 _ I1 q1) λiv s2 ⟨y,H2,I2,r2,q2⟩=>?_))
 refine wB0 (wpAny_standAt (wB0 (wpAny_holding (thn (hs pins s2 σ H2 x y v ov iv u _ I2 r1 r2 r q2) λ_ s3 ⟨H3,I3,q3⟩=>?_))))
 exact wpAny_release ⟨σ,H3,I3,q3⟩
def tAsg(te:TE)(g:TG):TS:=λD σ H=>te σ H λx H1=>g x σ H1 D.nx
theorem yMV{tg e:Expr}{te:TE}{g:TG}(he:PE X e te)(hg:PG X tg g)(hs:swapsWithSole [tg] e pos.line X.env=pure false:=by rfl)(hw:swappedStores [tg] e X.env=pure none:=by rfl)
  (h1:(assignEach [tg] X.env).map (·.2)=[assign tg X.env]:=by rfl):PS X (.Assign [tg] e pos) (tAsg te g):=by
 intro pins s σ H D I h
 refine wpAny_Assign_stores (thn (he pins s σ H _ I h) λv s1 ⟨x,H1,I1,r1,q1⟩=>?_) hs hw
 rw [h1]
 exact thn (hg pins s1 σ H1 x v _ I1 r1 q1) λ_ s2 q=>q
theorem yMW{i:Nat}{x:Str}{e:Expr}{te:TE}{pos':Pos}(hN:X.N.Nodup)(hi:X.N[i]? =some x)(hx:Loc X.env.scope x)(he:PE X e te)(hs:swapsWith e (some (.Name x pos')) pos.line X.env=pure false:=by rfl)(hf:X.fn x=true\/X.env.scope.names.lookup x=some .local:=by first |exact .inl rfl|exact .inr rfl|assumption):
  PS X (.Assign [.Name x pos'] e pos) (tAsg te (yEB i)):=by
 intro pins s σ H D I h
 refine wpAny_Assign_Name (thn (he pins s σ H _ I h) λv s1 ⟨y,H1,I1,r1,q1⟩=>?_) hs
 exact zVE I1 hN hi hx r1 (λs2 I2=>⟨_,H1,I2,q1⟩) hf
end
structure It where
 go:Nat->Hp->Prop
 yld:Nat->Hp->V->Hp->Prop
 stop:Nat->Hp->Prop
def zKT(X:Cx)(pins:List (Addr×Obj))(H:Hp)(b:Addr):Prop:=
 H b=none/\b≠X.env.locals/\b∉X.fs/\(b∈X.ex\/X.s₀.heap.objs.size<=b)/\(∀x c,X.env.cells.lookup x=some c->c≠b)/\ ∀p∈X.pn++pins,p.1≠b
theorem Inv.fpOk{X:Cx}{pins:List (Addr×Obj)}{σ:St}{H H':Hp}{s:Shared}{b:Addr}(I:Inv X pins σ H s)(hb:s.heap.objs.size<=b)(hn:H' b=none):zKT X pins H' b:=by
 refine⟨hn,ne_of_gt (lt_of_lt_of_le I.lt hb),I.nofs hb,.inr (le_trans I.sz hb),λx c e z=>?_,λp hp z=>?_⟩
 ·obtain⟨v,q⟩:=I.cell x c e
  exact absurd (lt_of_lt_of_le q.lt (by rw [z];exact hb)) (lt_irrefl _)
 ·exact absurd (lt_of_lt_of_le (Heap.lt_size (I.pin p hp).1) (by rw [z];exact hb)) (lt_irrefl _)
structure Turn(P:Program)(w:World)(K:PySem.W.Frag)(tg:Expr)(J:It)(fp:List Addr)(it:Addr)(tn:Nat->Heap->Prop):Prop where
 mem:it∈fp
 obj: ∀i h,tn i h-> ∀b∈fp, ∃o,h.get? b=some o/\ ∀v,o.data≠.cell v
 keep: ∀i h h',tn i h->(∀b∈fp, ∀o,h.get? b=some o->h'.get? b=some o)->tn i h'
 item: ∀(X:Cx),X.prog=P->X.w=w->X.K=K->X.calm=true-> ∀(i:Nat)(pins:List (Addr×Obj))(s:Shared)(σ:St)(H:Hp)(E:VP),Inv X pins σ H s->(∀b∈fp,zKT X pins H b)->tn i s.heap->J.go i H->
  wpAny (model P w) X.A (pyNext (.ref it)) (λr s1=> ∃u,r=some u/\
   wpAny (model P w) X.A (letOwnedTupleGo tg (.ref it) u) (λ_ s2=> ∃x H',Inv X pins σ H' s2/\RelV x u/\J.yld i H x H'/\tn (i+1) s2.heap/\ ∀b∈fp,H' b=none) E s1) E s
 done: ∀(X:Cx),X.prog=P->X.w=w->X.K=K->X.calm=true-> ∀(i:Nat)(pins:List (Addr×Obj))(s:Shared)(σ:St)(H:Hp)(E:VP),Inv X pins σ H s->(∀b∈fp,zKT X pins H b)->tn i s.heap->J.stop i H->
  wpAny (model P w) X.A (pyNext (.ref it)) (λr s1=>r=none/\Inv X pins σ H s1) E s
 self: ∀(A:Around)(i:Nat)(s:Shared)(Q:VP)(E:VP),tn i s.heap->Q (.ref it) s->wpAny (model P w) A (pyIter (.ref it)) Q E s
abbrev TI:=St->Hp->(It->Hp->Prop)->Prop
def PIE(X:Cx)(pins:List (Addr×Obj))(σ:St)(tg:Expr)(R:It->Hp->Prop)(itv:Value)(s2:Shared):Prop:=
 ∃(it:Addr)(fp:List Addr)(tn:Nat->Heap->Prop)(J:It)(H':Hp),itv=.ref it/\Inv X pins σ H' s2/\Turn X.prog X.w X.K tg J fp it tn/\tn 0 s2.heap/\(∀b∈fp,zKT X pins H' b)/\R J H'
def PI(X:Cx)(tg iter:Expr)(wi:TI):Prop:=
 ∀(pins:List (Addr×Obj))(s:Shared)(σ:St)(H:Hp)(R:It->Hp->Prop),Inv X pins σ H s->wi σ H R->
  wpAny (model X.prog X.w) X.A (eval iter X.env) (λv s1=>wpAny (model X.prog X.w) X.A (pyIter v) (PIE X pins σ tg R) X.xe s1) X.xe s
theorem yAC{M:Model}{A:Around}{E:VP}{s:Shared}{tg:Expr}{it:Addr}{u:Value}{o:Obj}{n:String}{vs:Array Value}{Q:Unit->Shared->Prop}(ho:s.heap.get? it=some o)(hc:o.cls=.type n)(hd:o.data=.fields vs)
  (hn:["enumerate","zip","dict_itemiterator","dict_reverseitemiterator","odict_iterator","itertools.zip_longest","itertools.pairwise"].contains n=false) (hQ:Q () s):wpAny M A (letOwnedTupleGo tg (.ref it) u) Q E s:=by
 unfold letOwnedTupleGo
 cases tg<;>first
  |exact wP0 hQ
  |(cases u<;>first
    |exact wP0 hQ
    |(refine wB0 (wpAny_load ho ?_)
      rw [hc,hd]
      show wpAny M A (if(["enumerate","zip","dict_itemiterator","dict_reverseitemiterator","odict_iterator","itertools.zip_longest","itertools.pairwise"].contains n&&vs[0]? ==some (rawInt _))=true then _ else _) Q E s
      rw [iN (by intro h;rw [hn,Bool.false_and]at h;cases h)]
      exact wP0 hQ))
def Itl(K:PySem.W.Frag)(a:Addr):It:=
 ⟨λi H=> ∃xs x,SqL K H a xs/\xs[i]? =some x,λi H x H'=>H'=H/\ ∀xs,SqL K H a xs->xs[i]? =some x,λi H=> ∃xs,SqL K H a xs/\xs.length<=i⟩
def Itt(K:PySem.W.Frag)(a:Addr):It:=
 ⟨λi H=> ∃xs x,SqT K H a xs/\xs[i]? =some x,λi H x H'=>H'=H/\ ∀xs,SqT K H a xs->xs[i]? =some x,λi H=> ∃xs,SqT K H a xs/\xs.length<=i⟩
def Itr(lo:Int)(n:Nat):It:=⟨λi _=>i<n,λi H x H'=>H'=H/\x=.int (lo+i),λi _=>n<=i⟩
theorem zRK{P:Program}{w:World}{K:PySem.W.Frag}{tg:Expr}(a it:Addr):Turn P w K tg (Itl K a) [it] it (λi h=>h.IsListIter it a i) where
 mem:=by simp
 obj:=λi h st b hb=>by
  have e:b=it:=by simpa using hb
  subst e
  obtain⟨o,e,c,d⟩:=st
  exact⟨o,e,λv z=>by rw [d]at z;cases z⟩
 keep:=λi h h' st k=>st.at λo e=>k it (by simp) o e
 item:=by
  intro X hP hw hK hc i pins s σ H E I hf st hg
  subst hP hw hK
  obtain⟨xs,x,hq,hx⟩:=hg
  obtain⟨its,rv,p,hz⟩:=I.list hq
  obtain⟨u,hu,ru⟩:=rv.get hx
  obtain⟨f0,f1,f2,f3,f4,f5⟩:=hf it (by simp)
  refine wpAny_pyNext_list_item st p.isList (x:=u) (by simpa using hu) λh' st' sb=>?_
  have I1:Inv X pins σ H {s with heap:=h'}:=I.turned (t':=s.toks) (λb o hb e=>(sb.2 b hb).trans e) f0 f1 f3 f4 f5
  obtain⟨o,e,c,d⟩:=id st'
  exact⟨u,rfl,yAC (s:={s with heap:=h'}) e c d (by decide) ⟨x,H,I1,ru,⟨rfl,λys hy=>by rw [I.list_inj hy hq];exact hx⟩,st',λb hb=>(hf b hb).1⟩⟩
 done:=by
  intro X hP hw hK hc i pins s σ H E I hf st hg
  subst hP hw hK
  obtain⟨xs,hq,hx⟩:=hg
  obtain⟨its,rv,p,hz⟩:=I.list hq
  obtain⟨f0,f1,f2,f3,f4,f5⟩:=hf it (by simp)
  have hl:=rv.length
  exact wpAny_pyNext_list_end (I.ok.hd hc) st p.isList (by simp;omega) λh' eb=>⟨rfl,I.turned (t':=s.toks) (λb o hb e=>eb b o hb e) f0 f1 f3 f4 f5⟩
 self:=λ_ _ _ _ _ st h=>wpAny_pyIter_listiter st h
theorem zOM{P:Program}{w:World}{K:PySem.W.Frag}{tg:Expr}(a it:Addr):Turn P w K tg (Itt K a) [it] it (λi h=>h.IsTupleIter it a i) where
 mem:=by simp
 obj:=λi h st b hb=>by
  have e:b=it:=by simpa using hb
  subst e
  obtain⟨o,e,c,d⟩:=st
  exact⟨o,e,λv z=>by rw [d]at z;cases z⟩
 keep:=λi h h' st k=>st.at λo e=>k it (by simp) o e
 item:=by
  intro X hP hw hK hc i pins s σ H E I hf st hg
  subst hP hw hK
  obtain⟨xs,x,hq,hx⟩:=hg
  obtain⟨its,rv,p,hz⟩:=I.tuple hq
  obtain⟨u,hu,ru⟩:=rv.get hx
  obtain⟨f0,f1,f2,f3,f4,f5⟩:=hf it (by simp)
  refine wpAny_pyNext_tuple_item st (show s.heap.IsTuple a its.toArray from p) (x:=u) (by simpa using hu) λh' st' sb=>?_
  have I1:Inv X pins σ H {s with heap:=h'}:=I.turned (t':=s.toks) (λb o hb e=>(sb.2 b hb).trans e) f0 f1 f3 f4 f5
  obtain⟨o,e,c,d⟩:=id st'
  exact⟨u,rfl,yAC (s:={s with heap:=h'}) e c d (by decide) ⟨x,H,I1,ru,⟨rfl,λys hy=>by rw [I.tuple_inj hy hq];exact hx⟩,st',λb hb=>(hf b hb).1⟩⟩
 done:=by
  intro X hP hw hK hc i pins s σ H E I hf st hg
  subst hP hw hK
  obtain⟨xs,hq,hx⟩:=hg
  obtain⟨its,rv,p,hz⟩:=I.tuple hq
  obtain⟨f0,f1,f2,f3,f4,f5⟩:=hf it (by simp)
  have hl:=rv.length
  exact wpAny_pyNext_tuple_end (I.ok.hd hc) st (show s.heap.IsTuple a its.toArray from p) (by simp;omega) λh' eb=>⟨rfl,I.turned (t':=s.toks) (λb o hb e=>eb b o hb e) f0 f1 f3 f4 f5⟩
 self:=λ_ _ _ _ _ st h=>wpAny_pyIter_tupleiter st h
theorem zYD{P:Program}{w:World}{K:PySem.W.Frag}{tg:Expr}(it:Addr)(lo:Int)(n:Nat):Turn P w K tg (Itr lo n) [it] it (λi h=>IsRangeIter h it (lo+(i:Nat) * 1) ((n:Int) - (i:Nat)) 1) where
 mem:=by simp
 obj:=λi h st b hb=>by
  have e:b=it:=by simpa using hb
  subst e
  exact⟨_,st,λv z=>by
   have z':Data.fields _=Data.cell v:=z
   cases z'⟩
 keep:=λi h h' st k=>k it (by simp) _ st
 item:=by
  intro X hP hw hK hc i pins s σ H E I hf st hg
  subst hP hw hK
  obtain⟨f0,f1,f2,f3,f4,f5⟩:=hf it (by simp)
  have W:=Walks.range (prog:=X.prog) (w:=X.w) (I.ok.hd hc) it lo 1 n
  refine W.item i s _ _ hg st λv h' tk hv st' kk=>?_
  obtain⟨t,rfl⟩:=hv
  have I1:Inv X pins σ H {s with heap:=h',toks:=tk}:=I.turned (λb o hb e=>kk b o (by simpa using hb) e) f0 f1 f3 f4 f5
  refine⟨_,rfl,yAC (s:={s with heap:=h',toks:=tk}) (n:="range_iterator") st' rfl rfl (by decide) ⟨.int (lo+i),H,I1,⟨t,?_⟩,⟨rfl,rfl⟩,st',λb hb=>(hf b hb).1⟩⟩
  rw [Int.mul_one]
 done:=by
  intro X hP hw hK hc i pins s σ H E I hf st hg
  subst hP hw hK
  obtain⟨f0,f1,f2,f3,f4,f5⟩:=hf it (by simp)
  exact wpAny_pyNext_range_end (I.ok.hd hc) st (by have:n<=i:=hg;omega) λh' eb=>⟨rfl,I.turned (t':=s.toks) (λb o hb e=>eb b o hb e) f0 f1 f3 f4 f5⟩
 self:=λ_ _ _ _ _ st h=>wpAny_pyIter_rangeiter st h
section
variable{X:Cx}{tg:Expr}
def iList(K:PySem.W.Frag)(tl:TE):TI:=λσ H R=>tl σ H λx H1=> ∃a,x=.ref a/\(∃xs,SqL K H1 a xs)/\R (Itl K a) H1
def iTup(K:PySem.W.Frag)(tl:TE):TI:=λσ H R=>tl σ H λx H1=> ∃a,x=.ref a/\(∃xs,SqT K H1 a xs)/\R (Itt K a) H1
theorem yIE{l:Expr}{tl:TE}(hl:PE X l tl):PI X tg l (iList X.K tl):=by
 intro pins s σ H R I h
 refine thn (hl pins s σ H _ I h) λv s1 ⟨x,H1,I1,r1,q1⟩=>?_
 obtain⟨a,e,⟨xs,hq⟩,q⟩:=q1
 subst e
 cases r1
 obtain⟨its,rv,p,hz⟩:=I1.list hq
 refine wpAny_pyIter_list p.isList ?_
 refine⟨s1.heap.objs.size,[s1.heap.objs.size],_,_,H1,rfl,I1.kept (t':=s1.toks) λb o e=>hP0 _ e,zRK a _,⟨_,Heap.get?_push_size _ rfl,rfl,rfl⟩,λb hb=>?_,q⟩
 have e:b=s1.heap.objs.size:=by simpa using hb
 subst e
 exact I1.fpOk (le_refl _) (I1.hok.fresh (le_refl _))
theorem yMX{l:Expr}{tl:TE}(hl:PE X l tl):PI X tg l (iTup X.K tl):=by
 intro pins s σ H R I h
 refine thn (hl pins s σ H _ I h) λv s1 ⟨x,H1,I1,r1,q1⟩=>?_
 obtain⟨a,e,⟨xs,hq⟩,q⟩:=q1
 subst e
 cases r1
 obtain⟨its,rv,p,hz⟩:=I1.tuple hq
 refine wpAny_pyIter_tuple (show s1.heap.IsTuple a its.toArray from p) ?_
 refine⟨s1.heap.objs.size,[s1.heap.objs.size],_,_,H1,rfl,I1.kept (t':=s1.toks) λb o e=>hP0 _ e,zOM a _,⟨_,Heap.get?_push_size _ rfl,rfl,rfl⟩,λb hb=>?_,q⟩
 have e:b=s1.heap.objs.size:=by simpa using hb
 subst e
 exact I1.fpOk (le_refl _) (I1.hok.fresh (le_refl _))
theorem yEE{pins:List (Addr×Obj)}{σ:St}{H:Hp}{s:Shared}{R:It->Hp->Prop}{E:VP}{lo hi:Int}{t u v:Tok}{tk:Nat}(I:Inv X pins σ H s)(h1: -(2 ^ 62)<=lo)(h2:lo<2 ^ 62)(h3: -(2 ^ 62)<=hi)(h4:hi<2 ^ 62)
  (q:R (Itr lo (hi - lo).toNat) H):wpAny (model X.prog X.w) X.A (pyIter (.ref s.heap.objs.size)) (PIE X pins σ tg R) E {s with heap:=s.heap.push {cls:=.type "range",data:=.fields #[.int lo t,.int hi u,.int 1 v]},toks:=tk}:=by
 refine wpAny_pyIter_range (IsRange.new ..) (small_one h1 h2 h3 h4) ?_
 have I1:Inv X pins σ H {s with heap:=s.heap.push {cls:=.type "range",data:=.fields #[.int lo t,.int hi u,.int 1 v]},toks:=tk}:=I.kept λb o e=>hP0 _ e
 refine⟨(s.heap.push {cls:=.type "range",data:=.fields #[.int lo t,.int hi u,.int 1 v]}).objs.size,[(s.heap.push {cls:=.type "range",data:=.fields #[.int lo t,.int hi u,.int 1 v]}).objs.size],_,_,H,rfl,
  I1.kept (t':=tk) λb o e=>hP0 _ e,zYD _ lo (hi - lo).toNat,?_,λb hb=>?_,q⟩
 ·have e1:lo+((0:Nat):Int) * 1=lo:=by simp
  have e2:(((hi - lo).toNat:Nat):Int) - ((0:Nat):Int)=Builtin.Range.rangeSize lo hi 1:=by rw [rangeSize_one];split<;>omega
  show IsRangeIter _ _ (lo+((0:Nat):Int) * 1) ((((hi - lo).toNat:Nat):Int) - ((0:Nat):Int)) 1
  rw [e1,e2]
  exact Heap.get?_push_size _ rfl
 ·have e:b=(s.heap.push {cls:=.type "range",data:=.fields #[.int lo t,.int hi u,.int 1 v]}).objs.size:=by simpa using hb
  subst e
  exact I1.fpOk (le_refl _) (I1.hok.fresh (le_refl _))
def iRng1(ta:TA):TI:=λσ H R=>ta σ H λvs H1=> ∃j:Int,vs=[.int j]/\ -(2 ^ 62)<=j/\j<2 ^ 62/\R (Itr 0 j.toNat) H1
theorem yCG{a:Expr}{ta:TA}{p pos:Pos}(hg:Gl X "range")(hm:X.mg "range"=none)(ha:PA X [a] ta)(hs:starEach [a] X.env=[(false,eval a X.env)]:=by rfl):PI X tg (.Call (.Name "range" p) [a] [] pos) (iRng1 ta):=by
 intro pins s σ H R I h
 refine Call_ (zLP I hg hm boot_range (PyProof.Rows.callWith_type1 (thn (ha pos pins s σ H _ I h) λus s1 ⟨vs,H1,I1,r1,q1⟩=>?_) hs rfl))
 obtain⟨j,e,q1,q2,q⟩:=q1
 subst e
 cases r1 with
 |cons r rr=>
  cases rr
  obtain⟨t,rfl⟩:=r
  exact call_range_1 (yEE I1 (by omega) (by omega) q1 q2 (by simpa using q))
def tFor(wi:TI)(g:TG)(tb:TS):TS:=λD σ H=>wi σ H λJ H1=> ∃W:Nat->Nat->St->Hp->Prop,(∃m,W 0 m σ H1)/\ ∀i m σ H,W i m σ H->
 (J.stop i H/\D.nx σ H)\/(J.go i H/\ ∃N:St->Hp->Prop,(∀σ' H',N σ' H'-> ∃m',m'<m/\W (i+1) m' σ' H')/\ ∀x H',J.yld i H x H'->g x σ H' λσ2 H2=>tb {D with nx:=N,ct:=N,bk:=D.nx} σ2 H2)
def zLQ(fp:List Addr)(h:Heap):List (Addr×Obj):=fp.filterMap λb=>(h.get? b).map λo=>(b,o)
theorem zJW{fp:List Addr}{h:Heap}{b:Addr}{o:Obj}(hb:b∈fp)(e:h.get? b=some o):(b,o)∈zLQ fp h:=mem_filterMap.mpr ⟨b,hb,by rw [e];rfl⟩
theorem yCH{fp:List Addr}{h:Heap}{p:Addr×Obj}(hp:p∈zLQ fp h):p.1∈fp/\h.get? p.1=some p.2:=by
 obtain⟨b,hb,e⟩:=mem_filterMap.mp hp
 cases q:h.get? b with
 |none=>rw [q]at e;cases e
 |some o=>
  rw [q]at e
  have e':(b,o)=p:=Option.some.inj e
  subst e'
  exact⟨hb,q⟩
theorem Inv.pinned{pins:List (Addr×Obj)}{σ:St}{H:Hp}{s:Shared}{fp:List Addr}(I:Inv X pins σ H s)(hf: ∀b∈fp,zKT X pins H b)(ho: ∀b∈fp, ∃o,s.heap.get? b=some o/\ ∀v,o.data≠.cell v):Inv X (pins++zLQ fp s.heap) σ H s:=
 I.pins_of λp hp=>(mem_append.mp hp).elim (λz=>I.pin p (mem_append_right _ z)) λz=>by
  obtain⟨hb,e⟩:=yCH z
  obtain⟨f0,f1,f2,_⟩:=hf p.1 hb
  obtain⟨o,e',d⟩:=ho p.1 hb
  rw [e]at e';cases e'
  exact⟨e,f0,f1,f2,d⟩
theorem Inv.unpinned{pins pl:List (Addr×Obj)}{σ:St}{H:Hp}{s:Shared}(I:Inv X (pins++pl) σ H s):Inv X pins σ H s:=I.pins_of λp hp=>I.pin p (mem_append_right _ (mem_append_left _ hp))
theorem yMY{iter:Expr}{body:List Stmt}{wi:TI}{g:TG}{tb:TS}{pos:Pos}(hp:PassesOwn (model X.prog X.w) X.A X.env X.xe)(hc:X.calm=true)(hi:PI X tg iter wi)(hg:PG X tg g)(hb:PSs X body tb)
  (hs: ∀x,foldedSetIterable iter X.env x=pure x:=by intro _;rfl):PS X (.For tg iter body [] pos) (tFor wi g tb):=by
 intro pins s σ H D I h
 refine wpAny_For (thn (hi pins s σ H _ I h) λv s1 h1=>thn h1 λitv s2 h2=>?_) hs
 obtain⟨it,fp,tn,J,H2,e,I2,T,st2,f2,W,⟨m0,w0⟩,turn⟩:=h2
 subst e
 have stat: ∀{H':Hp},(∀b∈fp,H' b=none)-> ∀b∈fp,zKT X pins H' b:=λhn b hb=>⟨hn b hb,(f2 b hb).2⟩
 refine codeAny_forLoop_any (λn s'=> ∃i σ' H',Inv X pins σ' H' s'/\tn i s'.heap/\(∀b∈fp,H' b=none)/\W i n σ' H') ?_ m0 ⟨0,σ,H2,I2,st2,λb hb=>(f2 b hb).1,w0⟩
 rintro n s3 ⟨i,σ3,H3,I3,st3,fr3,w3⟩
 rcases turn i n σ3 H3 w3 with⟨stop,qn⟩|⟨go,N,hN,step⟩
 ·refine wpAny_passesOwn hp (thn (T.done X rfl rfl rfl hc i pins s3 σ3 H3 X.xe I3 (stat fr3) st3 stop) λr s4 ⟨hr,I4⟩=>?_)
  subst hr
  exact wpAny_execs_nil ⟨σ3,H3,I4,qn⟩
 ·refine wpAny_passesOwn hp (thn (T.item X rfl rfl rfl hc i pins s3 σ3 H3 X.xe I3 (stat fr3) st3 go) λr s4 ⟨u,hr,h4⟩=>?_)
  subst hr
  refine wpAny_passesOwn hp (thn h4 λ_ s5 ⟨x,H5,I5,r5,y5,st5,fr5⟩=>?_)
  have I5':=I5.pinned (stat fr5) (T.obj _ _ st5)
  refine wpAny_passesOwn hp (thn (hg _ s5 σ3 H5 x u _ I5' r5 (step x H5 y5)) λ_ s6 ⟨σ6,H6,I6,q6⟩=>?_)
  refine wpAny_passesOwn hp (thn (hb _ s6 σ6 H6 _ I6 q6) λf s7 q7=>?_)
  have again: ∀{σ7:St}{H7:Hp},Inv X (pins++zLQ fp s5.heap) σ7 H7 s7->N σ7 H7-> ∃m,m<n/\ ∃i σ' H',Inv X pins σ' H' s7/\tn i s7.heap/\(∀b∈fp,H' b=none)/\W i m σ' H':=λ{σ7 H7} I7 n7=>by
   obtain⟨m',hm,w7⟩:=hN σ7 H7 n7
   refine⟨m',hm,i+1,σ7,H7,I7.unpinned,T.keep _ _ _ st5 λb hb o e=>(I7.pin (b,o) (mem_append_right _ (mem_append_right _ (zJW hb e)))).1,λb hb=>?_,w7⟩
   obtain⟨o,e,d⟩:=T.obj _ _ st5 b hb
   exact(I7.pin (b,o) (mem_append_right _ (mem_append_right _ (zJW hb e)))).2.1
  cases f with
  |next=>obtain⟨σ7,H7,I7,n7⟩:=q7;exact again I7 n7
  |cont=>obtain⟨σ7,H7,I7,n7⟩:=q7;exact again I7 n7
  |brk=>obtain⟨σ7,H7,I7,q7⟩:=q7;exact⟨σ7,H7,I7.unpinned,q7⟩
  |ret v=>obtain⟨x7,σ7,H7,I7,r7,q7⟩:=q7;exact⟨x7,σ7,H7,I7.unpinned,r7,q7⟩
end
abbrev R2:=V->V->Hp->VK->Prop
def OpR(X:Cx)(f:Value->Value->Sem Value)(r:R2):Prop:=
 ∀(pins:List (Addr×Obj))(s:Shared)(σ:St)(H:Hp)(x y:V)(v u:Value)(Q:VK),Inv X pins σ H s->RelV x v->RelV y u->r x y H Q->
  wpAny (model X.prog X.w) X.A (f v u) (EP X pins σ Q) X.xe s
def UnR(X:Cx)(f:Value->Sem Value)(r:V->Hp->VK->Prop):Prop:=
 ∀(pins:List (Addr×Obj))(s:Shared)(σ:St)(H:Hp)(x:V)(v:Value)(Q:VK),Inv X pins σ H s->RelV x v->r x H Q->
  wpAny (model X.prog X.w) X.A (f v) (EP X pins σ Q) X.xe s
def CallR(X:Cx)(f:Value)(r:List V->Hp->VK->Prop):Prop:=
 ∀(pins:List (Addr×Obj))(s:Shared)(σ:St)(H:Hp)(xs:List V)(us:List Value)(Q:VK),Inv X pins σ H s->Vals xs us->r xs H Q->
  wpAny (model X.prog X.w) X.A (call f us) (EP X pins σ Q) X.xe s
def TruR(X:Cx)(r:V->Hp->(Bool->Hp->Prop)->Prop):Prop:=
 ∀(pins:List (Addr×Obj))(s:Shared)(σ:St)(H:Hp)(x:V)(v:Value)(Q:Bool->Hp->Prop),Inv X pins σ H s->RelV x v->r x H Q->
  wpAny (model X.prog X.w) X.A (truthy v) (TP X pins σ Q) X.xe s
def tOp(r:R2)(ta tb:TE):TE:=λσ H Q=>ta σ H λx H1=>tb σ H1 λy H2=>r x y H2 Q
def tUn(r:V->Hp->VK->Prop)(ta:TE):TE:=λσ H Q=>ta σ H λx H1=>r x H1 Q
def rI(C:Int->Int->Prop)(g:Int->Int->V):R2:=λx y H Q=> ∃i j,x=.int i/\y=.int j/\C i j/\Q (g i j) H
def rI0(g:Int->Int->V):R2:=λx y H Q=> ∃i j,x=.int i/\y=.int j/\Q (g i j) H
def rU(g:Int->V):V->Hp->VK->Prop:=λx H Q=> ∃i,x=.int i/\Q (g i) H
section
variable{X:Cx}{a b c:Expr}{ta tb tc:TE}{pos:Pos}
theorem binT(ha:PE X a ta)(hb:PE X b tb){pins:List (Addr×Obj)}{s:Shared}{σ:St}{H:Hp}{R:V->V->Hp->Prop}(I:Inv X pins σ H s)
  (h:ta σ H λx H1=>tb σ H1 λy H2=>R x y H2) {Q:VP} {f:Value->Value->Sem Value}
  (hf: ∀v u s2 x y H2,Inv X pins σ H2 s2->RelV x v->RelV y u->R x y H2->wpAny (model X.prog X.w) X.A (f v u) Q X.xe s2):
  wpAny (model X.prog X.w) X.A (eval a X.env) (λv s₁=>wpAny (model X.prog X.w) X.A (eval b X.env) (λu s₂=>wpAny (model X.prog X.w) X.A (f v u) Q X.xe s₂) X.xe s₁) X.xe s:=by
 refine thn (ha pins s σ H _ I h) λv s1 ⟨x,H1,I1,r1,q1⟩=>?_
 refine thn (hb pins s1 σ H1 _ I1 q1) λu s2 ⟨y,H2,I2,r2,q2⟩=>?_
 exact hf v u s2 x y H2 I2 r1 r2 q2
theorem pe_op{op:Operator}{r:R2}(ho:OpR X (binaryOp op) r)(ha:PE X a ta)(hb:PE X b tb):PE X (.BinOp a op b pos) (tOp r ta tb):=by
 intro pins s σ H Q I h
 exact wpAny_BinOp (binT ha hb I h λv u s2 x y H2 I2 rx ry q=>ho pins s2 σ H2 x y v u Q I2 rx ry q)
theorem yLC{op:UnaryOp}{r:V->Hp->VK->Prop}(ho:UnR X (unaryOp op) r)(ha:PE X a ta):PE X (.UnaryOp op a pos) (tUn r ta):=by
 intro pins s σ H Q I h
 exact UnaryOp_ (thn (ha pins s σ H _ I h) λv s1 ⟨x,H1,I1,r1,q1⟩=>ho pins s1 σ H1 x v Q I1 r1 q1)
theorem opI{f:Value->Value->Sem Value}{C:Int->Int->Prop}{g:Int->Int->Int}
  (rule: ∀(i j:Int)(t u:Tok)(s:Shared)(Q:VP)(E:VP),C i j->Q (.int (g i j) s.toks) {s with toks:=s.toks+1}->wpAny (model X.prog X.w) X.A (f (.int i t) (.int j u)) Q E s):
  OpR X f (rI C λi j=>.int (g i j)):=by
 intro pins s σ H x y v u Q I rx ry h
 obtain⟨i,j,rfl,rfl,hc,q⟩:=h
 obtain⟨t,rfl⟩:=rx
 obtain⟨t',rfl⟩:=ry
 exact rule i j t t' s _ _ hc ⟨.int (g i j),H,I.tok _,⟨_,rfl⟩,q⟩
theorem opI0{f:Value->Value->Sem Value}{g:Int->Int->Int}
  (rule: ∀(i j:Int)(t u:Tok)(s:Shared)(Q:VP)(E:VP),Q (.int (g i j) s.toks) {s with toks:=s.toks+1}->wpAny (model X.prog X.w) X.A (f (.int i t) (.int j u)) Q E s):
  OpR X f (rI0 λi j=>.int (g i j)):=by
 intro pins s σ H x y v u Q I rx ry h
 obtain⟨i,j,rfl,rfl,q⟩:=h
 obtain⟨t,rfl⟩:=rx
 obtain⟨t',rfl⟩:=ry
 exact rule i j t t' s _ _ ⟨.int (g i j),H,I.tok _,⟨_,rfl⟩,q⟩
theorem opB0{f:Value->Value->Sem Value}{g:Int->Int->Bool}
  (rule: ∀(i j:Int)(t u:Tok)(s:Shared)(Q:VP)(E:VP),Q (.bool (g i j)) s->wpAny (model X.prog X.w) X.A (f (.int i t) (.int j u)) Q E s):
  OpR X f (rI0 λi j=>.bl (g i j)):=by
 intro pins s σ H x y v u Q I rx ry h
 obtain⟨i,j,rfl,rfl,q⟩:=h
 obtain⟨t,rfl⟩:=rx
 obtain⟨t',rfl⟩:=ry
 exact rule i j t t' s _ _ ⟨.bl (g i j),H,I,rfl,q⟩
def CMul(i j:Int):Prop:=(-(2 ^ 64)<i/\i<2 ^ 64)\/(-(2 ^ 64)<j/\j<2 ^ 64)
theorem CMul.ok{i j:Int}(h:CMul i j):IntMulOk i j:=by
 rcases h with⟨h1,h2⟩|⟨h1,h2⟩
 ·exact .of_left (intBits_le_64 h1 h2)
 ·exact .of_right (intBits_le_64 h1 h2)
theorem yMZ:OpR X (binaryOp .Add) (rI0 λi j=>.int (i+j)):=opI0 λ_ _ _ _ _ _ _ q=>add_int q
theorem yNA:OpR X (binaryOp .Sub) (rI0 λi j=>.int (i - j)):=opI0 λ_ _ _ _ _ _ _ q=>sub_int q
theorem yNB:OpR X (binaryOp .Mod) (rI (λ_ j=>0<j) λi j=>.int (i % j)):=opI λi j _ _ _ _ _ hc q=>by
 have h1:(0:Int)<j:=hc
 exact mod_int' (by omega) (by rw [Int.fmod_eq_emod_of_nonneg i (by omega)];exact q)
theorem unI{f:Value->Sem Value}{g:Int->Int}
  (rule: ∀(i:Int)(t:Tok)(s:Shared)(Q:VP)(E:VP),Q (.int (g i) s.toks) {s with toks:=s.toks+1}->wpAny (model X.prog X.w) X.A (f (.int i t)) Q E s):
  UnR X f (rU λi=>.int (g i)):=by
 intro pins s σ H x v Q I rx h
 obtain⟨i,rfl,q⟩:=h
 obtain⟨t,rfl⟩:=rx
 exact rule i t s _ _ ⟨.int (g i),H,I.tok _,⟨_,rfl⟩,q⟩
theorem yEF:UnR X (unaryOp .USub) (rU λi=>.int (-i)):=unI λ_ _ _ _ _ q=>neg_int q
end
section
variable{X:Cx}{a b c:Expr}{ta tb tc:TE}{pos:Pos}
theorem yEG{pins:List (Addr×Obj)}{σ:St}{H:Hp}{s:Shared}{Q:VK}{k k':Bool}(I:Inv X pins σ H s)(q:Q (.bl k) H)(e:k=k'):EP X pins σ Q (.bool k') s:=by
 subst e
 exact⟨.bl k,H,I,rfl,q⟩
theorem zVG:OpR X (compareOp .LtE) (rI0 λi j=>.bl (decide (i<=j))):=opB0 λ_ _ _ _ _ _ _ q=>le_int q
theorem op_gt:OpR X (compareOp .Gt) (rI0 λi j=>.bl (decide (j<i))):=opB0 λ_ _ _ _ _ _ _ q=>gt_int q
theorem yCI:OpR X (compareOp .In) (λx y H Q=> ∃i j,x=.str i/\y=.str j/\Q (.bl (!(Builtin.Str.occurrences j i 0 j.length 1).isEmpty)) H):=by
 intro pins s σ H x y v u Q I rx ry h
 obtain⟨i,j,rfl,rfl,q⟩:=h
 obtain⟨t,rfl⟩:=rx
 obtain⟨t',rfl⟩:=ry
 exact in_str (yEG I q rfl)
theorem yEH:OpR X (compareOp .Is) (λx y H Q=>y=.non/\Q (.bl (decide (x=.non))) H):=by
 intro pins s σ H x y v u Q I rx ry h
 obtain⟨rfl,q⟩:=h
 cases ry
 refine is_none_gen (yEG I q ?_)
 cases x<;>first
  |(cases rx;rfl)
  |(obtain⟨t,rfl⟩:=rx;rfl)
theorem OpR.or{f:Value->Value->Sem Value}{r r':R2}(h:OpR X f r)(h':OpR X f r'):OpR X f (λx y H Q=>r x y H Q\/r' x y H Q):=by
 intro pins s σ H x y v u Q I rx ry q
 rcases q with q|q
 ·exact h pins s σ H x y v u Q I rx ry q
 ·exact h' pins s σ H x y v u Q I rx ry q
theorem yEI(b:Expr){op:CmpOp}(h:op≠.In:=by decide)(h2:op≠.NotIn:=by decide):behindInMarks op b=false:=by
 have e1:(op==CmpOp.In)=false:=by cases op<;>first |rfl|exact absurd rfl h
 have e2:(op==CmpOp.NotIn)=false:=by cases op<;>first |rfl|exact absurd rfl h2
 cases b<;>simp [behindInMarks,e1,e2]
theorem yIF{op:CmpOp}{r:R2}(ho:OpR X (compareOp op) r)(ha:PE X a ta)(hb:PE X b tb)(hm:behindInMarks op b=false):PE X (.Compare a [op] [b] pos) (tOp r ta tb):=by
 intro pins s σ H Q I h
 exact wpAny_Compare1 (binT ha hb I h λv u s2 x y H2 I2 rx ry q=>ho pins s2 σ H2 x y v u Q I2 rx ry q) hm
def yLD(t:TE):TT:=λσ H Q=>t σ H λx H'=> ∃k,x=.bl k/\Q k H'
theorem yIG{op:CmpOp}{r:R2}(ho:OpR X (compareOp op) r)(ha:PE X a ta)(hb:PE X b tb)(hm:behindInMarks op b=false):PT X (.Compare a [op] [b] pos) (yLD (tOp r ta tb)):=by
 intro pins s σ H Q I h
 refine wpAny_isTrue_Compare1 (thn (ha pins s σ H _ I h) λv s1 ⟨x,H1,I1,r1,q1⟩=>thn (hb pins s1 σ H1 _ I1 q1) λu s2 ⟨y,H2,I2,r2,q2⟩=>
  thn (ho pins s2 σ H2 x y v u _ I2 r1 r2 q2) λc s3 ⟨z,H3,I3,r3,k,e,q3⟩=>?_) hm
 subst e
 cases r3
 exact wpAny_truthy_bool ⟨H3,I3,q3⟩
def zYE(r r':R2)(ta tb tc:TE):TE:=λσ H Q=>ta σ H λx H1=>tb σ H1 λy H2=>r x y H2 λz H3=> ∃k,z=.bl k/\
 (if k=true then tc σ H3 λw' H4=>r' y w' H4 Q else Q (.bl false) H3)
theorem yEJ{op op':CmpOp}{r r':R2}(ho:OpR X (compareOp op) r)(ho':OpR X (compareOp op') r')(ha:PE X a ta)(hb:PE X b tb)(hc:PE X c tc)
  (hm:lastMarks [op,op'] [b,c]=false:=by with_unfolding_all rfl):PE X (.Compare a [op,op'] [b,c] pos) (zYE r r' ta tb tc):=by
 intro pins s σ H Q I h
 refine Compare_chain (thn (ha pins s σ H _ I h) λv s1 ⟨x,H1,I1,r1,q1⟩=>chain_link (thn (hb pins s1 σ H1 _ I1 q1) λu s2 ⟨y,H2,I2,r2,q2⟩=>
  thn (ho pins s2 σ H2 x y v u _ I2 r1 r2 q2) λd s3 ⟨z,H3,I3,r3,k,e,q3⟩=>?_)) hm
 subst e
 cases r3
 refine wpAny_truthy_bool ?_
 cases k with
 |false=>exact ite_ff ⟨.bl false,H3,I3,rfl,q3⟩
 |true=>exact ite_tt (chain_last (thn (hc pins s3 σ H3 _ I3 q3) λw' s4 ⟨z',H4,I4,r4,q4⟩=>ho' pins s4 σ H4 y z' u w' Q I4 r2 r4 q4))
theorem yEK{op op':CmpOp}{r r':R2}(ho:OpR X (compareOp op) r)(ho':OpR X (compareOp op') r')(ha:PE X a ta)(hb:PE X b tb)(hc:PE X c tc)
  (hm:lastMarks [op,op'] [b,c]=false:=by with_unfolding_all rfl):PT X (.Compare a [op,op'] [b,c] pos) (yLD (zYE r r' ta tb tc)):=by
 intro pins s σ H Q I h
 refine isTrue_chain (thn (ha pins s σ H _ I h) λv s1 ⟨x,H1,I1,r1,q1⟩=>test_link (thn (hb pins s1 σ H1 _ I1 q1) λu s2 ⟨y,H2,I2,r2,q2⟩=>
  thn (ho pins s2 σ H2 x y v u _ I2 r1 r2 q2) λd s3 ⟨z,H3,I3,r3,k,e,q3⟩=>?_)) hm
 subst e
 cases r3
 refine wpAny_truthy_bool ?_
 cases k with
 |false=>
  obtain⟨k',e',q'⟩:=q3
  cases e'
  exact ite_ff ⟨H3,I3,q'⟩
 |true=>
  refine ite_tt (test_last (thn (hc pins s3 σ H3 _ I3 q3) λw' s4 ⟨z',H4,I4,r4,q4⟩=>thn (ho' pins s4 σ H4 y z' u w' _ I4 r2 r4 q4) λd' s5 ⟨z2,H5,I5,r5,k2,e2,q5⟩=>?_))
  subst e2
  cases r5
  exact wpAny_truthy_bool ⟨H5,I5,q5⟩
def TruV(K:PySem.W.Frag)(x:V)(H:Hp)(k:Bool):Prop:=
 match x with
 |.non=>k=false
 |.bl b=>k=b
 |.int i=>k=(i !=0)
 |.str y=>y.length<=sizeLine/\k=((y.length:Int) !=0)
 |.byt y=>y.size<=sizeLine/\k=((y.size:Int) !=0)
 |.ref p=>(∃xs,SqL K H p xs/\k= !xs.isEmpty)\/(∃xs,SqT K H p xs/\k= !xs.isEmpty)\/ ∃kvs,H p=some (.dK kvs)/\k= !kvs.isEmpty
 |_=>False
theorem zYF{κ:Type}{kvs:List (κ×V)}{vs:List (κ×Value)}(r:KV kvs vs):(!vs.isEmpty)= !kvs.isEmpty:=by
 cases r<;>rfl
theorem zON{xs:List V}{its:List Value}(r:Vals xs its):(!its.toArray.isEmpty)= !xs.isEmpty:=by
 cases r<;>simp
theorem zJX:(sizeLine:Nat)<2 ^ 63:=by rw [sizeLine_eq];decide
theorem yNC:TruR X (λx H Q=> ∃k,TruV X.K x H k/\Q k H):=by
 intro pins s σ H x v Q I rx h
 obtain⟨k,e,q⟩:=h
 have hl:=zJX
 have hs:sizeLine=16777216:=sizeLine_eq
 cases x with
 |non=>
  cases rx
  have e':k=false:=e
  subst e'
  exact truthy_none ⟨H,I,q⟩
 |bl b=>
  cases rx
  have e':k=b:=e
  subst e'
  exact wpAny_truthy_bool ⟨H,I,q⟩
 |int i=>
  obtain⟨t,rfl⟩:=rx
  have e':k=(i !=0):=e
  subst e'
  exact PySem.P.truthy_int ⟨H,I,q⟩
 |str y=>
  obtain⟨t,rfl⟩:=rx
  obtain⟨hy,e'⟩:y.length<=sizeLine/\k=((y.length:Int) !=0):=e
  subst e'
  exact PySem.P.truthy_str (by omega) ⟨H,I.tok _,q⟩
 |byt y=>
  obtain⟨t,rfl⟩:=rx
  obtain⟨hy,e'⟩:y.size<=sizeLine/\k=((y.size:Int) !=0):=e
  subst e'
  exact PySem.W.truthy_bytes (by omega) ⟨H,I.tok _,q⟩
 |ref p=>
  cases rx
  have e':(∃xs,SqL X.K H p xs/\k= !xs.isEmpty)\/(∃xs,SqT X.K H p xs/\k= !xs.isEmpty)\/ ∃kvs,H p=some (.dK kvs)/\k= !kvs.isEmpty:=e
  rcases e' with⟨xs,hx,e'⟩|⟨xs,hx,e'⟩|⟨kvs,hx,e'⟩
  ·subst e'
   obtain⟨its,r,pl,hz⟩:=I.list hx
   have hlen:=r.length
   exact wpAny_truthy_list pl.isList (by simp only [sA];omega) ⟨H,I.tok _,by rw [zON r];exact q⟩
  ·subst e'
   obtain⟨its,r,pl,hz⟩:=I.tuple hx
   have hlen:=r.length
   exact truthy_tuple pl (by simp only [sA];omega) ⟨H,I.tok _,by rw [zON r];exact q⟩
  ·subst e'
   obtain⟨hz,hS,vs,r,m⟩:kvs.length<=sizeLine/\(p==sysModules)=false/\ ∃vs,KV kvs vs/\s.heap.DictOf (gE X.prog X.w) p vs:=I.hok p _ hx
   have hlen:kvs.length=vs.length:=Paired.length r
   exact wpAny_truthy_dict hS m (by omega) ⟨H,I.tok _,by rw [zYF r];exact q⟩
 |_=>exact(show False from e).elim
theorem yEL(ha:PE X a ta)(he: ∀whole,isTrue a X.env whole=(do let v <-whole;standAt a.pos;holding [v] (truthy v))):
  PT X a (λσ H Q=>ta σ H λx H'=> ∃k,TruV X.K x H' k/\Q k H'):=by
 intro pins s σ H Q I h
 exact isTrue_plain (thn (ha pins s σ H _ I h) λv s1 ⟨x,H1,I1,r1,q1⟩=>yNC pins s1 σ H1 x v Q I1 r1 q1) (he _)
theorem zYG:OpR X (binaryOp .Add) (λx y H Q=> ∃i j,x=.str i/\y=.str j/\i.length+j.length<=sizeLine/\Q (.str (i++j)) H):=by
 intro pins s σ H x y v u Q I rx ry h
 obtain⟨i,j,rfl,rfl,hz,q⟩:=h
 obtain⟨t,rfl⟩:=rx
 obtain⟨t',rfl⟩:=ry
 exact add_str (λt' tk=>⟨.str (i++j),H,I.tok _,⟨_,rfl⟩,q⟩) hz
theorem vals1{x:V}{us:List Value}(r:Vals [x] us): ∃u,us=[u]/\RelV x u:=by
 cases r with
 |cons r1 r2=>cases r2;exact⟨_,rfl,r1⟩
theorem vals2{x y:V}{us:List Value}(r:Vals [x,y] us): ∃u w',us=[u,w']/\RelV x u/\RelV y w':=by
 cases r with
 |cons r1 r2=>
  cases r2 with
  |cons r3 r4=>cases r4;exact⟨_,_,rfl,r1,r3⟩
theorem yEM:CallR X (.builtin "abs") (λxs H Q=> ∃i,xs=[.int i]/\Q (.int (if i<0 then -i else i)) H):=by
 intro pins s σ H xs us Q I r h
 obtain⟨i,rfl,q⟩:=h
 obtain⟨u,rfl,t,rfl⟩:=vals1 r
 exact call_abs_int λu tk=>⟨.int (if i<0 then -i else i),H,I.tok _,⟨_,rfl⟩,q⟩
theorem yCJ:CallR X (.type "int") (λxs H Q=>(∃i,xs=[.int i]/\Q (.int i) H)\/ ∃k,xs=[.bl k]/\Q (.int (if k then 1 else 0)) H):=by
 intro pins s σ H xs us Q I r h
 rcases h with⟨i,rfl,q⟩|⟨k,rfl,q⟩
 ·obtain⟨u,rfl,t,rfl⟩:=vals1 r
  exact call_int_int ⟨.int i,H,I,⟨_,rfl⟩,q⟩
 ·obtain⟨u,rfl,r1⟩:=vals1 r
  cases r1
  exact call_int_bool ⟨.int (if k then 1 else 0),H,I.tok _,⟨_,rfl⟩,q⟩
theorem zSO:CallR X (.type "str") (λxs H Q=> ∃i,xs=[.int i]/\i.natAbs.log2<1920/\Q (.str (toString i)) H):=by
 intro pins s σ H xs us Q I r h
 obtain⟨i,rfl,hz,q⟩:=h
 obtain⟨u,rfl,t,rfl⟩:=vals1 r
 exact PySem.P.str_of_int hz ⟨.str _,H,I.tok _,⟨_,rfl⟩,q⟩
end
structure Room(k:Nat)(A:Around):Prop where
 hd:A.handled=none
 dp:A.depth+3 * k+5<recursionLimit
 un:A.units+16 * k+200<cLine
theorem Room.mono{j k:Nat}{A:Around}(r:Room k A)(h:j<=k):Room j A:=⟨r.hd,by have:=r.dp;omega,by have:=r.un;omega⟩
theorem Room.deeper{k:Nat}{A:Around}(r:Room (k+1) A)(env:Env):Room k (A.deeper env):=
 ⟨r.hd,by have:=r.dp;show A.depth+1+3 * k+5<_;omega,by have:=r.un;show A.units+3+16 * k+200<_;omega⟩
theorem Room.depth{k:Nat}{A:Around}(r:Room k A):A.depth<recursionLimit:=by have:=r.dp;omega
theorem Room.units{k:Nat}{A:Around}(r:Room k A):A.units+64<cLine:=by have:=r.un;omega
def tNil:TA:=λ_ H Q=>Q [] H
def tCons(ta:TE)(tr:TA):TA:=λσ H Q=>ta σ H λx H1=>tr σ H1 λxs H2=>Q (x::xs) H2
section
variable{X:Cx}{e:Expr}{es:List Expr}{te:TE}{t:TA}{pos:Pos}
theorem yEN:PA X [] tNil:=λ_ _ _ _ H Q I h=>Calls.spliced_nil ⟨[],H,I,.nil,h⟩
theorem yAD(ha:PE X e te)(hr:PA X es t)(hs:starEach (e::es) X.env=(false,eval e X.env)::starEach es X.env:=by rfl):PA X (e::es) (tCons te t):=by
 intro pos pins s σ H Q I h
 rw [hs]
 show wpAny _ _ (spliced ((false,eval e X.env)::backTo pos (starEach es X.env))) _ _ s
 refine Calls.spliced_cons (thn (ha pins s σ H _ I h) λu s1 ⟨x,H1,I1,r1,q1⟩=>?_)
 exact thn (hr pos pins s1 σ H1 _ I1 q1) λus s2 ⟨xs,H2,I2,r2,q2⟩=>⟨x::xs,H2,I2,.cons r1 r2,q2⟩
def tTup(t:TA):TE:=λσ H Q=>t σ H λxs H1=>xs.length<=sizeLine/\ ∀p,H1 p=none->Q (.ref p) (upd H1 p (.tup xs))
def tLst(t:TA):TE:=λσ H Q=>t σ H λxs H1=>xs.length<=sizeLine/\ ∀p,H1 p=none->Q (.ref p) (upd H1 p (.lst xs))
theorem yND{x1}(h:PA X es t):PE X (.Tuple es x1 pos) (tTup t):=by
 intro pins s σ H Q I hq
 refine wpAny_Tuple_spliced (thn (h pos pins s σ H _ I hq) λus s1 ⟨xs,H1,I1,r,z,q⟩=>⟨by rw [<-r.length];exact z,?_⟩)
 have hf:H1 s1.heap.objs.size=none:=I1.hok.fresh (le_refl _)
 refine⟨.ref s1.heap.objs.size,upd H1 s1.heap.objs.size (.tup xs),I1.laid (t':=s1.toks) (λb u e=>hP0 _ e) (le_refl _) ?_,rfl,q _ hf⟩
 exact⟨z,us,r,⟨_,Heap.get?_push_size _ rfl,rfl,_,rfl⟩⟩
theorem yNE(h:PA X es t):PE X (.List es pos) (tLst t):=by
 intro pins s σ H Q I hq
 refine wpAny_List_spliced (thn (h pos pins s σ H _ I hq) λus s1 ⟨xs,H1,I1,r,z,q⟩=>⟨by rw [<-r.length];exact z,?_⟩)
 have hf:H1 s1.heap.objs.size=none:=I1.hok.fresh (le_refl _)
 refine⟨.ref s1.heap.objs.size,upd H1 s1.heap.objs.size (.lst xs),I1.laid (t':=s1.toks) (λb u e=>hP0 _ e) (le_refl _) ?_,rfl,q _ hf⟩
 exact⟨z,us,0,r,Heap.get?_push_size _ rfl⟩
end
abbrev Sp:=List V->Hp->VK->XK->Prop
abbrev CXT:=List Env->Hp->Shared->XK->VP
structure Env0(P:Program)(w:World)(K:PySem.W.Frag)(mg:Str->Option Value)(base:Heap)(A:Around)(outer:List Env)(s:Shared)(H:Hp):Prop where
 frames:A.frames=some outer
 mod:Mod K mg base
 bs: ∀b o,base.get? b=some o->s.heap.get? b=some o/\H b=none
 bsz:base.objs.size<=s.heap.objs.size
 funs:s.heap.FunFrames base outer
 frf: ∀b∈frs outer,H b=none
 hok:HOk P w H s.heap
 bare:AllBare s.gens
def CE(outer:List Env)(P:Program)(w:World)(H:Hp)(s:Shared)(Q:VK)(u:Value)(s':Shared):Prop:=
 ∃v H',s'.os=s.os/\AllBare s'.gens/\Un (frs outer) [] H H' s.heap s'.heap/\HOk P w H' s'.heap/\RelV v u/\Q v H'
def CR(CX:CXT)(outer:List Env)(P:Program)(w:World)(H:Hp)(s:Shared)(Q:VK)(E:XK)(r:Result)(s':Shared):Prop:=
 match r with
 |.ok (.ret u)=>CE outer P w H s Q u s'
 |.ok _=>False
 |.error e=>CX outer H s E e s'
structure FnOk(P:Program)(w:World)(K:PySem.W.Frag)(mg:Str->Option Value)(base:Heap)(CX:CXT)(k:Nat)(f:Addr)(fd:FuncData)(ps:List Str)(sp:Sp):Prop where
 len: ∀vs H Q E,sp vs H Q E->vs.length=ps.length
 run: ∀(A:Around)(outer:List Env)(s:Shared)(H:Hp)(args:Args)(us:List Value)(vs:List V)(Q:VK)(E:XK),Room k A->Env0 P w K mg base A outer s H->BindsTo s fd args (ps.zip us)->Vals vs us->sp vs H Q E->
  codeAny (model P w) A (.call (.ref f) args) (CR CX outer P w H s Q E) s
theorem FnOk.imp{P:Program}{w:World}{K:PySem.W.Frag}{mg:Str->Option Value}{base:Heap}{CX:CXT}{k:Nat}{f:Addr}{fd:FuncData}{ps:List Str}{sp sp':Sp}(F:FnOk P w K mg base CX k f fd ps sp)
  (h: ∀vs H Q E,sp' vs H Q E->sp vs H Q E):FnOk P w K mg base CX k f fd ps sp':=
 ⟨λvs H Q E q=>F.len vs H Q E (h _ _ _ _ q),λA outer s H args us vs Q E hr he hb hv hs=>F.run A outer s H args us vs Q E hr he hb hv (h _ _ _ _ hs)⟩
section
variable{X:Cx}{pins:List (Addr×Obj)}{σ:St}{H:Hp}{s s':Shared}
theorem Inv.env0(I:Inv X pins σ H s):Env0 X.prog X.w X.K X.mg X.base X.A X.stack s H:=
 ⟨I.ok.frames,I.ok.mod,I.bs,le_trans I.ok.bsz I.sz,I.stack,I.stkFree,I.hok,I.bare⟩
theorem Inv.after{Q:VK}{u:Value}(I:Inv X pins σ H s)(h:CE X.stack X.prog X.w H s Q u s'):EP X pins σ Q u s':=by
 obtain⟨v,H',os,bare,un,hok,r,q⟩:=h
 obtain⟨hh,g,d,t,os'⟩:=s'
 obtain rfl:os'=s.os:=os
 exact⟨v,H',I.call (h':=hh) (g':=g) (d':=d) (t':=t) (ch:=[]) un hok bare (λb z=>absurd z (by simp)),r,q⟩
end
def tCall(sp:Sp)(dvs:List V)(E:XK)(t:TA):TE:=λσ H Q=>t σ H λvs H1=>sp (vs++dvs) H1 Q E
def Binds(K:PySem.W.Frag)(fd:FuncData)(ps:List Str)(ds:List Value):Prop:=
 ∀(s:Shared)(us:List Value),K.In s.heap->(us++ds).length=ps.length->BindsTo s fd ⟨us,[]⟩ (ps.zip (us++ds))
theorem Binds.all{K:PySem.W.Frag}{fd:FuncData}{ps:List Str}(h: ∀us:List Value,us.length=ps.length->bindArgs fd ⟨us,[]⟩=pure (ps.zip us)):Binds K fd ps []:=λs us _ hl=>by
 rw [aN]at hl ⊢
 exact .of_eq (h us hl)
def zYH(CX:CXT)(X:Cx)(E:XK):Prop:= ∀(pins:List (Addr×Obj))(σ:St)(H:Hp)(s:Shared)(e:Value)(s':Shared),Inv X pins σ H s->CX X.stack H s E e s'->X.xe e s'
section
variable{X:Cx}{CX:CXT}{k:Nat}{f C:Addr}{fd:FuncData}{ps:List Str}{sp:Sp}{dvs:List V}{ds:List Value}{E:XK}{x m:Str}{p pos apos:Pos}{e o:Expr}{es:List Expr}{ta:TE}{t:TA}
theorem yNF{pins:List (Addr×Obj)}{σ:St}{H:Hp}{s:Shared}{Q:VK}{us:List Value}{vs:List V}(F:FnOk X.prog X.w X.K X.mg X.base CX k f fd ps sp)(hr:Room k X.A)(hb:Binds X.K fd ps ds)(hd:Vals dvs ds)(hx:zYH CX X E)
  (I:Inv X pins σ H s) (r:Vals vs us) (h:sp (vs++dvs) H Q E):wpAny (model X.prog X.w) X.A (call (.ref f) us) (EP X pins σ Q) X.xe s:=by
 have r2:Vals (vs++dvs) (us++ds):=r.append hd
 have hl:(us++ds).length=ps.length:=by rw [<-r2.length];exact F.len _ _ _ _ h
 refine wpAny_call (codeAny_mono (F.run X.A X.stack s H ⟨us,[]⟩ (us++ds) (vs++dvs) Q E hr I.env0 (hb s us I.kIn hl) r2 h) λr s' hq=>?_)
 cases r with
 |error e=>exact hx pins σ H s e s' I hq
 |ok fl=>
  cases fl with
  |ret u=>exact I.after hq
  |next=>exact False.elim hq
  |brk=>exact False.elim hq
  |cont=>exact False.elim hq
theorem yIH(F:FnOk X.prog X.w X.K X.mg X.base CX k f fd ps sp)(hr:Room k X.A)(hg:Gl X x)(hm:X.mg x=some (.ref f))(hk:PySem.W.keepIn X.K (.ref f)=true)(hb:Binds X.K fd ps ds)(hd:Vals dvs ds)(hx:zYH CX X E)
  (ha:PA X (e::es) t) (hdb:(x==("__debug__":Str))=false:=by decide) (he:starEach (e::es) X.env=(false,eval e X.env)::starEach es X.env:=by rfl) (hpl:(backTo pos (starEach es X.env)).any (·.1)=false:=by rfl):
  PE X (.Call (.Name x p) (e::es) [] pos) (tCall sp dvs E t):=by
 intro pins s σ H Q I h
 refine wpAny_Call_Name_kw (zZY I hg hm ?_ hdb)
 refine PySem.W.callWith_K (h₀:=X.base) I.ok.mod.kin hk (thn (ha pos pins s σ H _ I h) λus s1 ⟨vs,H1,I1,r,q⟩=>⟨I1.kIn,?_⟩) he hpl
 exact yNF F hr hb hd hx I1 r q
end
structure FnScope(N P:List Str)(sc:Scope):Prop where
 kind:sc.kind=.function
 co:sc.isCoroutine=false
 gen:sc.isGenerator=false
 nd:N.Nodup
 pre:N.take P.length=P
 par: ∀x∈P,sc.names.lookup x=some .local\/sc.names.lookup x=some .cell
 nofree: ∀y∈sc.names,y.2≠.free
theorem fsK{N P:List Str}{sc:Scope}(h:N.Nodup/\N.take P.length=P/\(∀x∈P,sc.names.lookup x=some .local\/sc.names.lookup x=some .cell)/\∀y∈sc.names,y.2≠.free)(a:sc.kind=.function:=by rfl)(b:sc.isCoroutine=false:=by rfl)(c:sc.isGenerator=false:=by rfl):FnScope N P sc:=⟨a,b,c,h.1,h.2.1,h.2.2.1,h.2.2.2⟩
theorem zRL{kindOf:Str->Option NameKind}{x:Str}: ∀{binds:List (Str×Value)}{m:Str->Option Value},(∀v,(x,v)∉binds)->bindL kindOf binds m x=m x
 |[],_,_=>rfl
 |(n,v)::r,m,h=>by
  unfold bindL
  rw [zRL λw hw=>h w (mO _ hw)]
  split
  ·have:x≠n:=by rintro rfl;exact h v mF0
   simp [this]
  ·rfl
theorem zRM{kindOf:Str->Option NameKind}{x:Str}: ∀{binds:List (Str×Value)}{m:Str->Option Value},(∀v,(x,v)∉binds)->bindC kindOf binds m x=m x
 |[],_,_=>rfl
 |(n,v)::r,m,h=>by
  unfold bindC
  rw [zRM λw hw=>h w (mO _ hw)]
  split
  ·rfl
  ·have:x≠n:=by rintro rfl;exact h v mF0
   simp [this]
theorem zRN{kindOf:Str->Option NameKind}{x:Str}{v:Value}: ∀{P:List Str}{vs:List Value}{i:Nat}{m:Str->Option Value},P.Nodup->P[i]? =some x->vs[i]? =some v->kindOf x=some .local->
  bindL kindOf (P.zip vs) m x=some v
 |[],_,_,_,_,h,_,_=>by simp at h
 |_::_,[],_,_,_,_,h,_=>by simp at h
 |p::P,w::vs,0,m,nd,h1,h2,hk=>by
  simp at h1 h2;subst h1;subst h2
  show bindL kindOf ((p,w)::P.zip vs) m p=_
  unfold bindL
  rw [zRL λv hv=>(nodup_cons.mp nd).1 (of_mem_zip hv).1,iP hk]
  simp
 |p::P,w::vs,i+1,m,nd,h1,h2,hk=>by
  show bindL kindOf ((p,w)::P.zip vs) m x=_
  unfold bindL
  exact zRN (i:=i) (nodup_cons.mp nd).2 (by simpa using h1) (by simpa using h2) hk
theorem zRO{kindOf:Str->Option NameKind}{x:Str}{v:Value}: ∀{P:List Str}{vs:List Value}{i:Nat}{m:Str->Option Value},P.Nodup->P[i]? =some x->vs[i]? =some v->kindOf x≠some .local->
  bindC kindOf (P.zip vs) m x=some v
 |[],_,_,_,_,h,_,_=>by simp at h
 |_::_,[],_,_,_,_,h,_=>by simp at h
 |p::P,w::vs,0,m,nd,h1,h2,hk=>by
  simp at h1 h2;subst h1;subst h2
  show bindC kindOf ((p,w)::P.zip vs) m p=_
  unfold bindC
  rw [zRM λv hv=>(nodup_cons.mp nd).1 (of_mem_zip hv).1,iN hk]
  simp
 |p::P,w::vs,i+1,m,nd,h1,h2,hk=>by
  show bindC kindOf ((p,w)::P.zip vs) m x=_
  unfold bindC
  exact zRO (i:=i) (nodup_cons.mp nd).2 (by simpa using h1) (by simpa using h2) hk
def start(N:List Str)(vs:List V):St:=vs.map some++List.replicate (N.length - vs.length) none
def zYI(CX:CXT)(P:Program)(w:World)(K:PySem.W.Frag)(mg:Str->Option Value)(base:Heap)(N:List Str)(qual:Str)(scope:Scope)(f:Addr)(cd:Value)(A:Around)(outer:List Env)(s:Shared)(H:Hp)(E:XK):Cx where
 prog:=P
 w:=w
 K:=K
 mg:=mg
 base:=base
 A:=A.deeper (envOfC qual scope s.heap.objs.size f cd)
 N:=N
 s₀:=s
 H₀:=H
 env:=envOfC qual scope s.heap.objs.size f cd
 outer:=outer
 stack:=envOfC qual scope s.heap.objs.size f cd::outer
 ex:=[]
 calm:=true
 fn:=λ_=>true
 pn:=[]
 xe:=λe s'=>wpAny (model P w) (A.deeper (envOfC qual scope s.heap.objs.size f cd)) (leaving (envOfC qual scope s.heap.objs.size f cd) e) (λ_ s''=>CX outer H s E e s'') (λe' s''=>CX outer H s E e' s'') s'
theorem zVH{sc:Scope}{n:Nat}{x:Str}(h:sc.names.lookup x=some .cell): ∃c,(cellsFrom n sc.names []).lookup x=some c:=by
 have q:=PySem.W.cellsFrom_some sc.names n [] (.inl h)
 exact Option.isSome_iff_exists.mp q
theorem yCK{CX:CXT}{P:Program}{w:World}{K:PySem.W.Frag}{mg:Str->Option Value}{base:Heap}{N ps:List Str}{qual:Str}{scope:Scope}{f:Addr}{cd:Value}{A:Around}{outer:List Env}{s s1:Shared}{H:Hp}{E:XK}{us:List Value}{vs:List V}
  (S:FnScope N ps scope) (hd:A.handled=none) (e0:Env0 P w K mg base A outer s H) (hl:vs.length=ps.length) (r:Vals vs us)
  (x:InCallC s s.heap.objs.size (bindL (envOfC qual scope s.heap.objs.size f cd).kindOf (ps.zip us) λ_=>none) (cellsFrom (s.heap.objs.size+1) scope.names []) (bindC (envOfC qual scope s.heap.objs.size f cd).kindOf (ps.zip us) λ_=>none) s1):
  Inv (zYI CX P w K mg base N qual scope f cd A outer s H E) [] (start N vs) H s1:=by
 have hpl:ps.length<=N.length:=by have:=congrArg List.length S.pre;rw [lT]at this;omega
 obtain⟨h1,tk,rfl,hk⟩:=x.done
 have noA: ∀b:Addr,b∉(zYI CX P w K mg base N qual scope f cd A outer s H E).ex:=λb z=>absurd (show b∈([]:List Addr)from z) (by simp)
 refine⟨⟨e0.mod,S.kind,rfl,rfl,le_refl _,λy z c h1 h2=>?_,λy hy=>?_,λy c _ h=>?_,λ_=>hd,Around.frames_deeper e0.frames,.inr ⟨rfl,rfl⟩,λb z=>absurd z (noA b),e0.bs,e0.bsz,λb _ _=>noA b,λb z=>absurd z (noA b),e0.funs,e0.frf⟩,
  rfl,e0.bare,Un.kept hk,⟨_,x.toInCall.ns,λi y v h1 h2 h3=>?_⟩,λy c h=>⟨_,x.cell y c h⟩,e0.hok.fresh (le_refl _),λy c h=>?_,λp hp=>absurd (show p∈([]:List (Addr×Obj))from hp) (by simp),e0.hok.kept hk,?_⟩
 ·exact name_of_addr x.apart (PySem.mem_of_lookup h1) (PySem.mem_of_lookup h2)
 ·have hy:scope.names.lookup y=some .cell\/scope.names.lookup y=some .free:=hy
  rcases hy with hy|hy
  ·exact zVH hy
  ·exact absurd rfl (S.nofree _ (PySem.mem_of_lookup hy))
 ·exact le_of_lt (x.above y c (PySem.mem_of_lookup h))
 ·have hi:i<vs.length:=by
   unfold start at h2
   by_cases hi:i<vs.length
   ·exact hi
   ·rw [getElem?_append_right (by simpa using hi)]at h2
    rw [List.getElem?_replicate]at h2
    split at h2<;>cases h2
  have ha:vs[i]? =some v:=by
   unfold start at h2
   rw [getElem?_append_left (by simpa using hi),getElem?_map]at h2
   cases e:vs[i]? with
   |none=>rw [e]at h2;cases h2
   |some a=>rw [e]at h2;cases h2;rfl
  obtain⟨u,hu,rv⟩:=r.get ha
  have hp:ps[i]? =some y:=by
   rw [<-S.pre,List.getElem?_take_of_lt (by omega)];exact h1
  have ndP:ps.Nodup:=by rw [<-S.pre];exact S.nd.sublist (List.take_sublist _ _)
  refine⟨u,rv,?_⟩
  rcases S.par y (mem_of_getElem? hp)with k|k
  ·exact .inl ⟨k,zRN ndP hp hu k⟩
  ·obtain⟨c,e⟩:=zVH (n:=s.heap.objs.size+1) k
   refine .inr ⟨.inl k,c,e,?_⟩
   have q:=x.cell y c e
   rw [zRO ndP hp hu (by show scope.names.lookup y≠_;rw [k];decide)]at q
   exact q
 ·exact e0.hok.fresh (le_of_lt (x.above y c (PySem.mem_of_lookup h)))
 ·unfold start
  show _=N.length
  rw [lA,lM,length_replicate]
  omega
theorem fn_of{CX:CXT}{P:Program}{w:World}{K:PySem.W.Frag}{mg:Str->Option Value}{base:Heap}{k:Nat}{f:Addr}{name qual:Str}{params:Arguments}{body:List Stmt}{scope:Scope}{dV kV doc pm cdv ct oc:Value}{an od:Option Addr}
  {osl:Array (Option Value)} {N ps:List Str} {sp:Sp} (lk:K.lookup f=some ⟨oc,od,.func (PySem.W.fnOf name qual params body scope dV kV doc pm an cdv ct),osl⟩) (hcd:PySem.W.codeIn K cdv qual=true) (S:FnScope N ps scope)
  (len: ∀vs H Q E,sp vs H Q E->vs.length=ps.length)
  (hbody: ∀(A:Around)(outer:List Env)(s:Shared)(H:Hp)(vs:List V)(Q:VK)(E:XK),Room k (A.deeper (envOfC qual scope s.heap.objs.size f cdv))->sp vs H Q E->
   ∃t,PSs (zYI CX P w K mg base N qual scope f cdv A outer s H E) body t/\t {nx:=λ_ H'=>Q .non H',rt:=Q} (start N vs) H):
  FnOk P w K mg base CX (k+1) f (PySem.W.fnOf name qual params body scope dV kV doc pm an cdv ct) ps sp:=by
 refine⟨len,λA outer s H args us vs Q E hr e0 hb r hsp=>?_⟩
 have hl:=len _ _ _ _ hsp
 have KX:K.In s.heap:=e0.mod.kin.keeps λb o e=>(e0.bs b o e).1
 have lim:s.heap.NoLimit:=e0.mod.nolimit.keeps λb o e=>(e0.bs b o e).1
 have hkind: ∀y∈ps.zip us,scope.names.lookup y.1=some .local\/(scope.names.lookup y.1=some .cell/\((cellsFrom (s.heap.objs.size+1) scope.names []).lookup y.1).isSome=true):=λ⟨n,v⟩ hy=>by
  rcases S.par n (of_mem_zip hy).1 with q|q
  ·exact .inl q
  ·exact .inr ⟨q,PySem.W.cellsFrom_some _ _ _ (.inl q)⟩
 refine codeAny_call_function hr.depth (KX _ _ lk) rfl S.co S.gen rfl (PySem.W.codeRec_of KX hcd) (hb _ _ _ _ ?_)
 refine wpAny_newFunctionEnv_cells S.kind hkind λenv he s1 x=>?_
 subst he
 refine⟨lim.keeps x.toInCall.keep,codeAny_func ?_⟩
 obtain⟨t,ht,hq⟩:=hbody A outer s H vs Q E (hr.deeper _) hsp
 have I:Inv (zYI CX P w K mg base N qual scope f cdv A outer s H E) [] (start N vs) H s1:=yCK S hr.hd e0 hl r x
 refine wpAny_mono (ht [] s1 (start N vs) H _ I hq) (λfl s' hs=>?_) λe s' hs=>hs
 have fin: ∀{σ':St}{H':Hp}{v:V}{u:Value},Inv (zYI CX P w K mg base N qual scope f cdv A outer s H E) [] σ' H' s'->RelV v u->Q v H'->CE outer P w H s Q u s':=
  λ{σ' H' v u} J rv q=>⟨v,H',J.os,J.bare,J.base,J.hok,rv,q⟩
 cases fl with
 |ret u=>
  obtain⟨v,σ',H',J,rv,q⟩:=hs
  exact fin J rv q
 |next=>
  obtain⟨σ',H',J,q⟩:=hs
  exact fin (v:=V.non) (u:=Value.none) J rfl q
 |brk=>
  obtain⟨_,_,_,q⟩:=hs
  exact False.elim q
 |cont=>
  obtain⟨_,_,_,q⟩:=hs
  exact False.elim q
section
variable{X:Cx}{x:Str}{p pos:Pos}{e:Expr}{es:List Expr}{t:TA}{id T:String}{r:List V->Hp->VK->Prop}
def tCB(r:List V->Hp->VK->Prop)(t:TA):TE:=λσ H Q=>t σ H λvs H1=>r vs H1 Q
theorem zVI(hc:CallR X (.builtin id) r)(hg:Gl X x)(hm:X.mg x=none)(hv:bootBuiltins x=some (.builtin id))(ha:PA X (e::es) t)(hn:x≠"__name__":=by decide)(hdb:(x==("__debug__":Str))=false:=by decide)
  (he:starEach (e::es) X.env=(false,eval e X.env)::starEach es X.env:=by rfl) (hpl:(backTo pos (starEach es X.env)).any (·.1)=false:=by rfl):PE X (.Call (.Name x p) (e::es) [] pos) (tCB r t):=by
 intro pins s σ H Q I h
 refine wpAny_Call_Name_kw (zLP I hg hm hv ?_ hn hdb)
 exact PyProof.Rows.callWith_builtin1 (thn (ha pos pins s σ H _ I h) λus s1 ⟨vs,H1,I1,r1,q1⟩=>hc pins s1 σ H1 vs us Q I1 r1 q1) he hpl
theorem zRP(hc:CallR X (.type T) r)(hg:Gl X x)(hm:X.mg x=none)(hv:bootBuiltins x=some (.type T))(ha:PA X (e::es) t)(hn:x≠"__name__":=by decide)(hdb:(x==("__debug__":Str))=false:=by decide)
  (he:starEach (e::es) X.env=(false,eval e X.env)::starEach es X.env:=by rfl) (hpl:(backTo pos (starEach es X.env)).any (·.1)=false:=by rfl):PE X (.Call (.Name x p) (e::es) [] pos) (tCB r t):=by
 intro pins s σ H Q I h
 refine wpAny_Call_Name_kw (zLP I hg hm hv ?_ hn hdb)
 exact PyProof.Rows.callWith_type1 (thn (ha pos pins s σ H _ I h) λus s1 ⟨vs,H1,I1,r1,q1⟩=>hc pins s1 σ H1 vs us Q I1 r1 q1) he hpl
end
end L2
namespace HT
open PySem PyProof.Rows
section
variable{prog:Program}{w:World}{A:Around}{E:VP}{s:Shared}
theorem cat_tup{t b:Addr}{vs ws:List Value}{Q:VP}(ht:IsTup s.heap t vs.toArray)(hb:IsTup s.heap b ws.toArray)(hv:vs≠[])
  (h1:ws=[]->Q (.ref t) s) (h2:ws≠[]->Q (.ref s.heap.objs.size) {s with heap:=s.heap.push {cls:=.type "tuple",data:=.seq (vs++ws).toArray}})
  (hsz:vs.length+ws.length<=sizeLine):wpAny (model prog w) A (binaryOp .Add (.ref t) (.ref b)) Q E s:=by
 obtain⟨⟨cls,dd,data,sl⟩,ho,hc,n,hd⟩:=id ht
 obtain⟨⟨cls2,dd2,data2,sl2⟩,ho2,hc2,n2,hd2⟩:=id hb
 simp only at hc hd hc2 hd2
 subst hc hd hc2 hd2
 have e:vs.toArray++ws.toArray=(vs++ws).toArray:=by simp
 by_cases hw:ws=[]
 ·exact concat_meets ⟨_,ho,rfl⟩ ⟨_,ho2,rfl⟩ noFill_tuple_add seq_tuple_add PySem.F.slot_tuple_add PySem.F.entry_tuple_add (PySem.F.args_tuple_add_2 _ _)
   (tuple_addW1 t b vs.toArray ws.toArray n n2 dd dd2 sl sl2 (by simpa using hv) (by simp [hw])) ⟨ho,ho2,h1 hw⟩
 ·refine concat_meets ⟨_,ho,rfl⟩ ⟨_,ho2,rfl⟩ noFill_tuple_add seq_tuple_add PySem.F.slot_tuple_add PySem.F.entry_tuple_add (PySem.F.args_tuple_add_2 _ _)
   (tuple_addW2 t b vs.toArray ws.toArray n n2 dd dd2 sl sl2 (by simpa using hv) (by simpa using hw) (by rw [sA,sA];exact hsz)) ⟨ho,ho2,?_⟩
  rw [e]
  exact h2 hw
def sIx(n d:Nat):Option Int->Nat
 |none=>d
 |some v=>if v<0 then(v+(n:Int)).toNat else min v.toNat n
theorem sIx_le(n d:Nat)(hd:d<=n)(o:Option Int):sIx n d o<=n:=by
 cases o with
 |none=>exact hd
 |some v=>
  show(if v<0 then(v+(n:Int)).toNat else min v.toNat n)<=n
  by_cases hv:v<0
  ·rw [iP hv];omega
  ·rw [iN hv];exact Nat.min_le_right _ _
theorem yAE(v:Int)(n d:Nat):(if v<0 then max (v+(n:Int)) 0 else min v (n:Int))=((sIx n d (some v):Nat):Int):=by
 show(if v<0 then max (v+(n:Int)) 0 else min v (n:Int))=(((if v<0 then(v+(n:Int)).toNat else min v.toNat n):Nat):Int)
 by_cases hv:v<0
 ·simp only [iP hv];omega
 ·simp only [iN hv];omega
theorem zYJ(lo hi:Option Int)(n:Nat):Builtin.Slice.sliceAdjust lo hi 1 (n:Int)=(((sIx n 0 lo:Nat):Int),((sIx n n hi:Nat):Int)):=by
 have h1: ¬((1:Int)<0):=by omega
 unfold Builtin.Slice.sliceAdjust
 simp only [h1,iF]
 refine Prod.ext ?_ ?_
 ·cases lo with
  |none=>rfl
  |some v=>exact yAE v n 0
 ·cases hi with
  |none=>rfl
  |some v=>exact yAE v n n
theorem zYK(i j:Nat):Builtin.Slice.slicePlaces (i:Int) (j:Int) 1=j - i:=by
 unfold Builtin.Slice.slicePlaces
 have h1:(1:Int)>0:=by omega
 simp only [h1,if_true,Int.ediv_one]
 split<;>omega
theorem zOO{v:Value}{o:Option Int}{Q:Option Int->Shared->Prop}(p:IsPart v o)(h:Q o s):wpAny (model prog w) A (Builtin.Slice.slicePartIndex v) Q E s:=by
 cases p with
 |none=>exact slicePart_none h
 |int i t=>exact slicePart_int h
theorem sliceApplied_gen{sl:Addr}{vl vu:Value}{lo hi:Option Int}{n:Nat}{Q:Int×Int×Nat->Shared->Prop}(hs:s.heap.IsSliceOf sl vl vu .none)(pl:IsPart vl lo)(pu:IsPart vu hi)
  (h:Q (((sIx n 0 lo:Nat):Int),1,sIx n n hi - sIx n 0 lo) s):wpAny (model prog w) A (Builtin.Slice.sliceApplied (.ref sl) (pure (n:Int))) Q E s:=by
 obtain⟨os,hos,hcs,hds⟩:=id hs
 unfold Builtin.Slice.sliceApplied Builtin.Slice.sliceFields
 refine wB0 (wB0 (wpAny_field hos hds (x:=vl) rfl (wB0 (wpAny_field hos hds (x:=vu) rfl (wB0 (wpAny_field hos hds (x:=.none) rfl (wP0 ?_)))))))
 refine wB0 (slicePart_none ?_)
 show wpAny _ _ (if((1:Int)==0)=true then _ else _) _ _ s
 rw [iN (by decide)]
 refine wB0 (zOO pl (wB0 (zOO pu (wB0 (wP0 ?_)))))
 show wpAny _ _ (match Builtin.Slice.sliceAdjust lo hi 1 (n:Int)with |(lo,hi)=>pure (lo,(1:Int),Builtin.Slice.slicePlaces lo hi 1)) _ _ s
 rw [zYJ lo hi n]
 show wpAny _ _ (pure (((sIx n 0 lo:Nat):Int),(1:Int),Builtin.Slice.slicePlaces ((sIx n 0 lo:Nat):Int) ((sIx n n hi:Nat):Int) 1)) _ _ s
 rw [zYK]
 exact wP0 h
theorem yEO(xs:Array Value)(i k:Nat):((List.range k).filterMap λ(m:Nat)=>xs[((i:Int)+(m:Int) * 1).toNat]?).toArray=((xs.toList.drop i).take k).toArray:=by
 have e:(λ(m:Nat)=>xs[((i:Int)+(m:Int) * 1).toNat]?)=λm=>xs[i+m]? :=by
  funext m
  have:((i:Int)+(m:Int) * 1).toNat=i+m:=by omega
  rw [this]
 rw [e]
 have:=pick_run xs i k
 rw [List.filterMap_map]at this
 have e2:((λx=>xs[x]?)∘λx=>i+x)=λm=>xs[i+m]? :=rfl
 rw [e2]at this
 rw [this]
theorem getItem_tuple_cut{t sl:Addr}{items:Array Value}{vl vu:Value}{lo hi:Option Int}{Q:VP}(ht:IsTup s.heap t items)(hs:s.heap.IsSliceOf sl vl vu .none)(pl:IsPart vl lo)(pu:IsPart vu hi)
  (hw: ¬(sIx items.size 0 lo=0/\sIx items.size items.size hi=items.size))
  (h:Q (.ref s.heap.objs.size) {s with heap:=s.heap.push {cls:=.type "tuple",data:=.seq ((items.toList.drop (sIx items.size 0 lo)).take (sIx items.size items.size hi - sIx items.size 0 lo)).toArray}})
  (hsz:items.size<=sizeLine):wpAny (model prog w) A (getItem (.ref t) (.ref sl)) Q E s:=by
 have htake:sizeOk (.seq ((items.toList.drop (sIx items.size 0 lo)).take (sIx items.size items.size hi - sIx items.size 0 lo)).toArray):=by
  show((items.toList.drop (sIx items.size 0 lo)).take (sIx items.size items.size hi - sIx items.size 0 lo)).toArray.size<=sizeLine
  rw [sA,lT,length_drop,Array.length_toList]
  omega
 have hj:sIx items.size items.size hi<=items.size:=sIx_le _ _ (le_refl _) hi
 obtain⟨os,hos,hcs,hds⟩:=id hs
 have hTs:s.TypeIs (.ref sl) "slice":=⟨os,hos,hcs⟩
 unfold getItem
 try with_reducible refine wpAny_holding ?_
 first |refine wB0 (wP0 ?_)|skip
 refine wB0 (wpAny_sequenceKey ht.typeIs (by decide) ?_)
 refine wB0 (wpAny_callSpecial?_slot (name:=Str.ofString "__getitem__") ht.typeIs PyProof.Rows.slot_tuple_getitem
  (wpAny_call_entry PyProof.Rows.slot_tuple_getitem ht.typeIs entry_tuple_getitem ?_ (args_tuple_getitem _ _)))
 show wpAny _ _ (Builtin.Tuple.tupleItemsOf (.ref t) >>= _) _ _ s
 refine wB0 (tupleItemsOf_ ht ?_)
 refine wB0 (wpAny_typeOf hTs ?_)
 rw [iP (by decide)]
 refine wB0 (sliceApplied_gen hs pl pu ?_)
 have hno: ¬((((sIx items.size 0 lo:Nat):Int)==0&&(1:Int)==1&&(sIx items.size items.size hi - sIx items.size 0 lo)==items.size)=true):=by
  intro q
  rw [aE,aE]at q
  have q1:((sIx items.size 0 lo:Nat):Int)=0:=eq_of_beq q.1.1
  have q2:sIx items.size items.size hi - sIx items.size 0 lo=items.size:=eq_of_beq q.2
  exact hw ⟨by omega,by omega⟩
 show wpAny _ _ (if(((sIx items.size 0 lo:Nat):Int)==0&&(1:Int)==1&&(sIx items.size items.size hi - sIx items.size 0 lo)==items.size)=true then _ else _) _ _ s
 rw [iN hno,yEO]
 first
  |exact wB0 (m:=Builtin.Tuple.tupleExact _) (wpAny_newObj_type (wP0 ⟨_,rfl,wP0 h⟩) htake)
  |exact wB0 (m:=Builtin.Tuple.tupleExact _) (wpAny_newObj_type (wB0 (wP0 (wP0 ⟨_,rfl,wP0 h⟩))) htake)
  |exact wB0 (wB0 (m:=Builtin.Tuple.tupleExact _) (wpAny_newObj_type (wP0 (wP0 ⟨_,rfl,wP0 h⟩)) htake))
  |exact wB0 (wB0 (m:=Builtin.Tuple.tupleExact _) (wpAny_newObj_type (wP0 ⟨_,rfl,wP0 h⟩) htake))
end
end HT
namespace L2
open PySem PySem.Spec PyProof.Rows
abbrev TO:=St->Hp->(Option Int->Hp->Prop)->Prop
def PO(X:Cx)(e:Option Expr)(t:TO):Prop:=
 ∀(pins:List (Addr×Obj))(s:Shared)(σ:St)(H:Hp)(Q:Option Int->Hp->Prop),Inv X pins σ H s->t σ H Q->
  wpAny (model X.prog X.w) X.A (evalPart e X.env) (λu s'=> ∃o H',Inv X pins σ H' s'/\IsPart u o/\Q o H') X.xe s
def yII:TO:=λ_ H Q=>Q none H
def tPart(t:TE):TO:=λσ H Q=>t σ H λx H1=> ∃i,x=.int i/\Q (some i) H1
section
variable{X:Cx}{e:Expr}{te:TE}{lo hi:Option Expr}{tl th:TO}{pos p2:Pos}
theorem yIJ:PO X none yII:=by
 intro pins s σ H Q I h
 rw [evalPart_none]
 exact wP0 ⟨none,H,I,.none,h⟩
theorem yIK(h:PE X e te):PO X (some e) (tPart te):=by
 intro pins s σ H Q I hw
 rw [evalPart_some]
 refine thn (h pins s σ H _ I hw) λu s1 ⟨x,H1,I1,r1,q1⟩=>?_
 obtain⟨i,rfl,q⟩:=q1
 obtain⟨t,rfl⟩:=r1
 exact⟨some i,H1,I1,.int i t,q⟩
def SlR(X:Cx)(r:V->Option Int->Option Int->Hp->VK->Prop):Prop:=
 ∀(pins:List (Addr×Obj))(s:Shared)(σ:St)(H:Hp)(x:V)(v vl vu:Value)(lo hi:Option Int)(sl:Addr)(Q:VK),Inv X pins σ H s->RelV x v->s.heap.IsSliceOf sl vl vu .none->IsPart vl lo->IsPart vu hi->r x lo hi H Q->
  ∃T id,typeLookup (.type T) "__getitem__"=pure (some (.builtin id))/\s.TypeIs v T/\wpAny (model X.prog X.w) X.A (getItem v (.ref sl)) (EP X pins σ Q) X.xe s
theorem SlR.or{r r':V->Option Int->Option Int->Hp->VK->Prop}(h:SlR X r)(h':SlR X r'):SlR X (λx lo hi H Q=>r x lo hi H Q\/r' x lo hi H Q):=by
 intro pins s σ H x v vl vu lo hi sl Q I rx hs pl pu q
 rcases q with q|q
 ·exact h pins s σ H x v vl vu lo hi sl Q I rx hs pl pu q
 ·exact h' pins s σ H x v vl vu lo hi sl Q I rx hs pl pu q
def tSl(r:V->Option Int->Option Int->Hp->VK->Prop)(te:TE)(tl th:TO):TE:=λσ H Q=>te σ H λx H1=>tl σ H1 λl H2=>th σ H2 λu H3=>r x l u H3 Q
theorem yEP{r:V->Option Int->Option Int->Hp->VK->Prop}(hr:SlR X r)(he:PE X e te)(hl:PO X lo tl)(hu:PO X hi th):PE X (.Subscript e (.Slice lo hi none p2) pos) (tSl r te tl th):=by
 intro pins s σ H Q I h
 refine Subscript_ (thn (he pins s σ H _ I h) λv s1 ⟨x,H1,I1,r1,q1⟩=>?_)
 refine wpAny_Slice (thn (hl pins s1 σ H1 _ I1 q1) λvl s2 ⟨l,H2,I2,pl,q2⟩=>thn (hu pins s2 σ H2 _ I2 q2) λvu s3 ⟨u,H3,I3,pu,q3⟩=>?_)
 rw [evalPart_none]
 refine wP0 ?_
 have I4:Inv X pins σ H3 {s3 with heap:=s3.heap.push {cls:=.type "slice",data:=.fields #[vl,vu,.none]}}:=I3.kept (t':=s3.toks) λb ob q=>hP0 _ q
 obtain⟨T,id,hT,ht,hg⟩:=hr pins {s3 with heap:=s3.heap.push {cls:=.type "slice",data:=.fields #[vl,vu,.none]}} σ H3 x v vl vu l u s3.heap.objs.size Q I4 r1 (Heap.IsSliceOf.new ..) pl pu q3
 show wpAny (model X.prog X.w) X.A (subscriptTail e (.Slice lo hi none p2) v (.ref s3.heap.objs.size)) (EP X pins σ Q) X.xe {s3 with heap:=s3.heap.push {cls:=.type "slice",data:=.fields #[vl,vu,.none]}}
 exact tail_any (ops:=[.ref s3.heap.objs.size,v]) ht hT hg (by with_unfolding_all rfl)
def zVJ(xs:List V)(lo hi:Option Int):List V:=(xs.drop (HT.sIx xs.length 0 lo)).take (HT.sIx xs.length xs.length hi - HT.sIx xs.length 0 lo)
theorem zMW(xs:List V)(lo hi:Option Int):(zVJ xs lo hi).length<=xs.length:=by
 unfold zVJ
 rw [lT,length_drop]
 omega
def rSlT(K:PySem.W.Frag):V->Option Int->Option Int->Hp->VK->Prop:=λx lo hi H Q=> ∃a xs,x=.ref a/\SqT K H a xs/\
 ¬(HT.sIx xs.length 0 lo=0/\HT.sIx xs.length xs.length hi=xs.length)/\ ∀p,H p=none->Q (.ref p) (upd H p (.tup (zVJ xs lo hi)))
theorem yNG:SlR X (rSlT X.K):=by
 intro pins s σ H x v vl vu lo hi sl Q I rx hs pl pu h
 obtain⟨a,xs,rfl,hx,hw,q⟩:=h
 cases rx
 obtain⟨its,r,ht,hz⟩:=I.tuple hx
 have hlen:its.toArray.size=xs.length:=by rw [sA];exact r.length.symm
 refine⟨"tuple",_,PyProof.Rows.slot_tuple_getitem.lookup,ht.typeIs,?_⟩
 refine HT.getItem_tuple_cut ht hs pl pu (by rw [hlen];exact hw) ?_ (by rw [hlen];exact hz)
 rw [hlen]
 refine⟨.ref s.heap.objs.size,_,I.laid (t':=s.toks) (o:=.tup (zVJ xs lo hi)) (λb ob q=>hP0 _ q) (le_refl _) ?_,rfl,q _ (I.hok.fresh (le_refl _))⟩
 exact⟨le_trans (zMW xs lo hi) hz,_,(r.drop (HT.sIx xs.length 0 lo)).take (HT.sIx xs.length xs.length hi - HT.sIx xs.length 0 lo),IsTup.new _ _⟩
def rCatT(K:PySem.W.Frag):R2:=λx y H Q=> ∃a b xs ys,x=.ref a/\y=.ref b/\SqT K H a xs/\SqT K H b ys/\xs≠[]/\xs.length+ys.length<=sizeLine/\
 (ys=[]->Q (.ref a) H)/\(ys≠[]-> ∀p,H p=none->Q (.ref p) (upd H p (.tup (xs++ys))))
theorem Vals.nil_iff{xs:List V}{us:List Value}(r:Vals xs us):us=[]↔xs=[]:=by
 cases r with
 |nil=>simp
 |cons _ _=>simp
theorem yIL:OpR X (binaryOp .Add) (rCatT X.K):=by
 intro pins s σ H x y v u Q I rx ry h
 obtain⟨a,b,xs,ys,rfl,rfl,ha,hb,hx,hz,q1,q2⟩:=h
 cases rx
 cases ry
 obtain⟨its,r1,p1,_⟩:=I.tuple ha
 obtain⟨its2,r2,p2,_⟩:=I.tuple hb
 refine HT.cat_tup p1 p2 (λz=>hx (r1.nil_iff.mp z)) (λz=>⟨.ref a,H,I,rfl,q1 (r2.nil_iff.mp z)⟩) (λz=>?_) (by rw [<-r1.length, <-r2.length];exact hz)
 refine⟨.ref s.heap.objs.size,_,I.laid (t':=s.toks) (o:=.tup (xs++ys)) (λb ob q=>hP0 _ q) (le_refl _) ?_,rfl,q2 (λw=>z (r2.nil_iff.mpr w)) _ (I.hok.fresh (le_refl _))⟩
 exact⟨by rw [lA];exact hz,_,r1.append r2,IsTup.new _ _⟩
end
def ixN(n:Nat)(i:Int):Option Nat:=if 0<=i then(if i<n then some i.toNat else none)else if -(n:Int)<=i then some (i+n).toNat else none
def atI{α:Type}(xs:List α)(i:Int):Option α:=(ixN xs.length i).bind λj=>xs[j]?
theorem yAF{n:Nat}{i:Int}{j:Nat}(h:ixN n i=some j):seqIndex? i n=some j/\j<n/\ -(n:Int)<=i/\i<n:=by
 unfold ixN at h
 by_cases h0:0<=i
 ·rw [iP h0]at h
  by_cases h1:i<n
  ·rw [iP h1]at h
   have e:i.toNat=j:=Option.some.inj h
   exact⟨by rw [seqIndex_of h0 h1,e],by omega,by omega,h1⟩
  ·rw [iN h1]at h;cases h
 ·rw [iN h0]at h
  by_cases h1: -(n:Int)<=i
  ·rw [iP h1]at h
   have e:(i+n).toNat=j:=Option.some.inj h
   exact⟨by rw [seqIndex_neg (by omega) h1,e],by omega,h1,by omega⟩
  ·rw [iN h1]at h;cases h
theorem zSP{α:Type}{xs:List α}{i:Int}{v:α}(h:atI xs i=some v): ∃j,seqIndex? i xs.length=some j/\xs[j]? =some v/\j<xs.length/\ -(xs.length:Int)<=i/\i<xs.length:=by
 unfold atI at h
 cases e:ixN xs.length i with
 |none=>rw [e]at h;cases h
 |some j=>
  rw [e]at h
  obtain⟨h1,h2,h3,h4⟩:=yAF e
  exact⟨j,h1,h,h2,h3,h4⟩
def zSQ(b:Expr):Prop:= ∀o i,subscripted b false o i=operate [o,i] (getItem o i)
def IxR(X:Cx)(r:R2):Prop:=
 ∀(value slice:Expr)(pins:List (Addr×Obj))(s:Shared)(σ:St)(H:Hp)(x y:V)(v u:Value)(Q:VK),Inv X pins σ H s->RelV x v->RelV y u->r x y H Q->
  subscripted slice false v u=operate [v,u] (getItem v u)->wpAny (model X.prog X.w) X.A (subscriptTail value slice v u) (EP X pins σ Q) X.xe s
def MtR(X:Cx)(id:String)(r:V->List V->Hp->VK->Prop):Prop:=
 ∀(pins:List (Addr×Obj))(s:Shared)(σ:St)(H:Hp)(x:V)(xs:List V)(v:Value)(us:List Value)(Q:VK),Inv X pins σ H s->RelV x v->Vals xs us->r x xs H Q->
  wpAny (model X.prog X.w) X.A (call (.builtin id) (v::us)) (EP X pins σ Q) X.xe s
section
variable{X:Cx}{a b:Expr}{ta tb:TE}{pos:Pos}
theorem IxR.or{r r':R2}(h:IxR X r)(h':IxR X r'):IxR X (λx y H Q=>r x y H Q\/r' x y H Q):=by
 intro value slice pins s σ H x y v u Q I rx ry q hs
 rcases q with q|q
 ·exact h value slice pins s σ H x y v u Q I rx ry q hs
 ·exact h' value slice pins s σ H x y v u Q I rx ry q hs
theorem pe_ix{r:R2}(hr:IxR X r)(ha:PE X a ta)(hb:PE X b tb)(hs:zSQ b):PE X (.Subscript a b pos) (tOp r ta tb):=by
 intro pins s σ H Q I h
 exact Subscript_ (binT ha hb I h λv u s2 x y H2 I2 rx ry q=>hr a b pins s2 σ H2 x y v u Q I2 rx ry q (hs _ _))
def rIxL(K:PySem.W.Frag):R2:=λx y H Q=> ∃p xs i v,x=.ref p/\y=.int i/\SqL K H p xs/\atI xs i=some v/\Q v H
def rIxT(K:PySem.W.Frag):R2:=λx y H Q=> ∃p xs i v,x=.ref p/\y=.int i/\SqT K H p xs/\atI xs i=some v/\Q v H
def rIxS:R2:=λx y H Q=> ∃z i c,x=.str z/\y=.int i/\z.length<=sizeLine/\atI z.cps.toList i=some c/\Q (.str ⟨#[c]⟩) H
theorem yIM:IxR X (rIxL X.K):=by
 intro value slice pins s σ H x y v u Q I rx ry h hs
 obtain⟨p,xs,i,z,rfl,rfl,hq,he,q⟩:=h
 cases rx
 obtain⟨t,rfl⟩:=ry
 obtain⟨its,r,pl,hz⟩:=I.list hq
 obtain⟨j,h1,h2,h3,h4,h5⟩:=zSP he
 obtain⟨w,ew,rw'⟩:=r.get h2
 have hl:=r.length
 have hn:=zJX
 have fin:EP X pins σ Q w s:=⟨z,H,I,rw',q⟩
 by_cases h0:0<=i
 ·have hj:i.toNat=j:=by
   rw [seqIndex_of h0 h5]at h1
   exact Option.some.inj h1
  exact item_listR pl.isList h0 (by omega) (by rw [hj];simpa using ew) fin hs
 ·have hj:(i+(its.toArray.size:Int)).toNat=j:=by
   rw [seqIndex_neg (by omega) h4]at h1
   rw [sA, <-hl]
   exact Option.some.inj h1
  exact subscriptTail_builtinR (x:=w) pl.isList.typeIs slot_list_getitem.lookup
   (wpAny_getItem_list_neg (Q:=λr s'=>r=w/\EP X pins σ Q r s') pl.isList (by omega) (by rw [sA]<;>omega) (by omega) (by rw [hj];simpa using ew) ⟨rfl,fin⟩) hs
theorem ix_tup:IxR X (rIxT X.K):=by
 intro value slice pins s σ H x y v u Q I rx ry h hs
 obtain⟨p,xs,i,z,rfl,rfl,hq,he,q⟩:=h
 cases rx
 obtain⟨t,rfl⟩:=ry
 obtain⟨its,r,pl,hz⟩:=I.tuple hq
 obtain⟨j,h1,h2,h3,h4,h5⟩:=zSP he
 obtain⟨w,ew,rw'⟩:=r.get h2
 have hl:=r.length
 have hn:=zJX
 have fin:EP X pins σ Q w s:=⟨z,H,I,rw',q⟩
 exact subscriptTail_builtinR (x:=w) pl.typeIs slot_tuple_getitem.lookup
  (getItem_tuple (j:=j) (Q:=λr s'=>r=w/\EP X pins σ Q r s') pl (by omega) (by omega) (by rw [sA, <-hl];exact h1) (by simpa using ew) ⟨rfl,fin⟩) hs
theorem ix_str:IxR X rIxS:=by
 intro value slice pins s σ H x y v u Q I rx ry h hs
 obtain⟨z,i,c,rfl,rfl,hz,he,q⟩:=h
 obtain⟨t,rfl⟩:=rx
 obtain⟨t',rfl⟩:=ry
 obtain⟨j,h1,h2,h3,h4,h5⟩:=zSP he
 have hl:z.cps.toList.length=z.length:=by simp [Str.length]
 rw [hl]at h1 h4 h5
 have hn:=zJX
 exact tail_any (typeIs_str s z t) slot_str_getitem.lookup (getItem_str (c:=c) (by
  have e1:decide (i< -(2 ^ 63:Int))=false:=dF0 (by omega)
  have e2:decide (i>=2 ^ 63)=false:=dF0 (by omega)
  rw [e1,e2,Bool.or_false]) (by rw [h1];simpa using h2) ⟨.str ⟨#[c]⟩,H,I.tok _,⟨_,rfl⟩,q⟩) hs
def rIx(K:PySem.W.Frag):R2:=λx y H Q=>rIxL K x y H Q\/rIxT K x y H Q\/rIxS x y H Q
theorem yNH:IxR X (rIx X.K):=yIM.or (ix_tup.or ix_str)
theorem zYL(its:List Value)(n j:Nat)(u:Value):Obj.mapSeq (·.setIfInBounds j u) {cls:=.type "list",data:=.seq its.toArray n}={cls:=.type "list",data:=.seq (its.set j u).toArray n}:=by
 simp [Obj.mapSeq]
theorem Inv.lst{pins:List (Addr×Obj)}{σ:St}{H:Hp}{s:Shared}{p:Addr}{xs:List V}(I:Inv X pins σ H s)(h:H p=some (.lst xs)):
  ∃(its:List Value)(n:Nat),Vals xs its/\s.heap.get? p=some {cls:=.type "list",data:=.seq its.toArray n}/\xs.length<=sizeLine:=by
 obtain⟨z,its,n,r,e⟩:=I.hok p _ h
 exact⟨its,n,r,e,z⟩
theorem Inv.lstUpd{pins:List (Addr×Obj)}{σ:St}{H:Hp}{s:Shared}{p:Addr}{xs ys:List V}{its its':List Value}{n n':Nat}{f:Obj->Obj}(I:Inv X pins σ H s)(h:H p=some (.lst xs))
  (ho:s.heap.get? p=some {cls:=.type "list",data:=.seq its.toArray n}) (hf:f {cls:=.type "list",data:=.seq its.toArray n}={cls:=.type "list",data:=.seq its'.toArray n'}) (r:Vals ys its') (hz:ys.length<=sizeLine) (t:Nat):
  Inv X pins σ (upd H p (.lst ys)) {s with heap:=s.heap.update p f,toks:=t}:=by
 have e:(s.heap.update p f).get? p=some {cls:=.type "list",data:=.seq its'.toArray n'}:=by
  rw [Heap.get?_update_self f ho (by rw [hf]<;>rfl),hf]
 refine I.write (x:=p) (e:=p) (by rw [h];trivial) (.inl rfl) (λb u hb q=>(Heap.get?_update_other _ _ (Ne.symm hb)).trans q) ⟨_,e⟩ ?_
 exact⟨hz,its',n',r,e⟩
def rSetL:V->V->V->Hp->(Hp->Prop)->Prop:=λo i v H Q=> ∃p xs k j,o=.ref p/\i=.int k/\H p=some (.lst xs)/\ixN xs.length k=some j/\Q (upd H p (.lst (xs.set j v)))
theorem set_list:PSet X rSetL:=by
 intro pins s σ H o i v ov iv u Q I ro ri rv h
 obtain⟨p,xs,k,j,rfl,rfl,hp,hj,q⟩:=h
 cases ro
 obtain⟨t,rfl⟩:=ri
 obtain⟨its,n,r,ho,hz⟩:=I.lst hp
 obtain⟨h1,h2,h3,h4⟩:=yAF hj
 have hl:=r.length
 have hn:=zJX
 have I':Inv X pins σ (upd H p (.lst (xs.set j v))) {s with heap:=s.heap.update p (Obj.mapSeq (·.setIfInBounds j u))}:=
  I.lstUpd hp ho (zYL its n j u) (r.set rv j) (by rw [length_set];exact hz) s.toks
 by_cases h0:0<=k
 ·have hk:k.toNat=j:=by
   rw [seqIndex_of h0 h4]at h1
   exact Option.some.inj h1
  exact PySem.W.ki_setAt ho h0 (by omega) (by rw [sA, <-hl];exact h4) (by rw [hk];exact⟨_,I',q⟩)
 ·have hk:(k+(its.toArray.size:Int)).toNat=j:=by
   rw [seqIndex_neg (by omega) h3]at h1
   rw [sA, <-hl]
   exact Option.some.inj h1
  exact PySem.W.ki_setBack ho (by omega) (by rw [sA, <-hl];exact h3) (by omega) (by rw [hk];exact⟨_,I',q⟩)
theorem zSR(lo hi:Option Int)(n:Nat):(sliceBounds lo hi none n).1=((HT.sIx n 0 lo:Nat):Int)/\(sliceBounds lo hi none n).2.1=((HT.sIx n n hi:Nat):Int)/\(sliceBounds lo hi none n).2.2=1:=by
 refine⟨?_,?_,rfl⟩
 ·cases lo with
  |none=>simp [sliceBounds,HT.sIx]
  |some i=>
   simp only [sliceBounds,HT.sIx,Option.getD_none,show(1:Int)>0 by decide,if_true]
   by_cases h:i<0
   ·simp only [h,if_true]<;>omega
   ·simp only [h,iF]<;>omega
 ·cases hi with
  |none=>simp [sliceBounds,HT.sIx]
  |some i=>
   simp only [sliceBounds,HT.sIx,Option.getD_none,show(1:Int)>0 by decide,if_true]
   by_cases h:i<0
   ·simp only [h,if_true]<;>omega
   ·simp only [h,iF]<;>omega
theorem zQO(its:List Value)(lo hi:Option Int):slicePick its.toArray lo hi none=((its.drop (HT.sIx its.length 0 lo)).take (HT.sIx its.length its.length hi - HT.sIx its.length 0 lo)).toArray:=by
 obtain⟨h1,h2,h3⟩:=zSR lo hi its.toArray.size
 unfold slicePick
 rw [h1,h2,h3]
 simp only [sliceRange_one,pick_run,sA]<;>rfl
def rSlL(K:PySem.W.Frag):V->Option Int->Option Int->Hp->VK->Prop:=λx lo hi H Q=> ∃a xs,x=.ref a/\SqL K H a xs/\ ∀p,H p=none->Q (.ref p) (upd H p (.lst (zVJ xs lo hi)))
theorem yIN:SlR X (rSlL X.K):=by
 intro pins s σ H x v vl vu lo hi sl Q I rx hs pl pu h
 obtain⟨a,xs,rfl,hx,q⟩:=h
 cases rx
 obtain⟨its,r,ht,hz⟩:=I.list hx
 have hlen:=r.length
 refine⟨"list",_,slot_list_getitem.lookup,ht.isList.typeIs,?_⟩
 refine wpAny_getItem_list_slice ht.isList hs pl pu .none (by simp) ?_ (by rw [sA]<;>omega)
 rw [zQO, <-hlen]
 refine⟨.ref s.heap.objs.size,_,I.laid (t':=s.toks) (o:=.lst (zVJ xs lo hi)) (λb ob q=>hP0 _ q) (le_refl _) ?_,rfl,q _ (I.hok.fresh (le_refl _))⟩
 exact⟨le_trans (zMW xs lo hi) hz,_,0,(r.drop (HT.sIx xs.length 0 lo)).take (HT.sIx xs.length xs.length hi - HT.sIx xs.length 0 lo),Heap.get?_push_size _ rfl⟩
def kC:V->Bool
 |.non=>true
 |.bl _=>true
 |.int _=>true
 |.str _=>true
 |_=>false
def eqV:V->V->Bool
 |.non,.non=>true
 |.bl a,.bl b=>a==b
 |.bl a,.int b=>(if a then 1 else 0)==b
 |.int a,.bl b=>a==(if b then 1 else 0)
 |.int a,.int b=>a==b
 |.str a,.str b=>a==b
 |_,_=>false
theorem yNI{A:Around}{s:Shared}{y x:V}{u v:Value}(ry:RelV y u)(rx:RelV x v)(fy:kC y=true)(fx:kC x=true):SeqAt.EqAt A s u v (eqV y x):=by
 cases y with
 |non=>
  cases ry
  cases x with
  |non=>cases rx;exact SeqAt.EqAt.same _
  |bl b=>cases rx;exact SeqAt.EqAt.none_bool b
  |int b=>obtain⟨t,rfl⟩:=rx;exact SeqAt.EqAt.none_int b t
  |str b=>obtain⟨t,rfl⟩:=rx;exact SeqAt.EqAt.none_str b t
  |_=>exact absurd (show false=true from fx) xF0
 |bl a=>
  cases ry
  cases x with
  |non=>cases rx;exact SeqAt.EqAt.bool_none a
  |bl b=>cases rx;exact SeqAt.EqAt.bool_bool a b
  |int b=>obtain⟨t,rfl⟩:=rx;exact SeqAt.EqAt.bool_int a b t
  |str b=>obtain⟨t,rfl⟩:=rx;exact SeqAt.EqAt.bool_str a b t
  |_=>exact absurd (show false=true from fx) xF0
 |int a=>
  obtain⟨t',rfl⟩:=ry
  cases x with
  |non=>cases rx;exact SeqAt.EqAt.int_none a t'
  |bl b=>cases rx;exact SeqAt.EqAt.int_bool a t' b
  |int b=>obtain⟨t,rfl⟩:=rx;exact SeqAt.EqAt.int_int a t' b t
  |str b=>obtain⟨t,rfl⟩:=rx;exact SeqAt.EqAt.int_str a t' b t
  |_=>exact absurd (show false=true from fx) xF0
 |str a=>
  obtain⟨t',rfl⟩:=ry
  cases x with
  |non=>cases rx;exact SeqAt.EqAt.str_none a t'
  |bl b=>cases rx;exact SeqAt.EqAt.str_bool a t' b
  |int b=>obtain⟨t,rfl⟩:=rx;exact SeqAt.EqAt.str_int a t' b t
  |str b=>obtain⟨t,rfl⟩:=rx;exact SeqAt.EqAt.str_str a t' b t
  |_=>exact absurd (show false=true from fx) xF0
 |_=>exact absurd (show false=true from fy) xF0
theorem zSS:CallR X (.builtin "len") (λxs H Q=> ∃p ys,xs=[.ref p]/\(SqL X.K H p ys\/SqT X.K H p ys)/\Q (.int ys.length) H):=by
 intro pins s σ H xs us Q I r h
 obtain⟨p,ys,rfl,hq,q⟩:=h
 obtain⟨u,rfl,rx⟩:=vals1 r
 cases rx
 have hn:=zJX
 rcases hq with hq|hq
 ·obtain⟨its,r',pl,hz⟩:=I.list hq
  have hlen:=r'.length
  exact Calls.call_len_list pl.isList (by simp only [sA]<;>omega) ⟨.int ys.length,H,I.tok _,⟨s.toks+1,by rw [sA,hlen]⟩,q⟩
 ·obtain⟨its,r',pl,hz⟩:=I.tuple hq
  have hlen:=r'.length
  exact len_tuple pl (by simp only [sA]<;>omega) ⟨.int ys.length,H,I.tok _,⟨s.toks+1,by rw [sA,hlen]⟩,q⟩
theorem zST:CallR X (.builtin "len") (λxs H Q=> ∃z,xs=[.str z]/\z.length<=sizeLine/\Q (.int z.length) H):=by
 intro pins s σ H xs us Q I r h
 obtain⟨z,rfl,hz,q⟩:=h
 obtain⟨u,rfl,t,rfl⟩:=vals1 r
 have hn:=zJX
 exact len_str (by omega) ⟨.int z.length,H,I.tok _,⟨_,rfl⟩,q⟩
theorem CallR.or{f:Value}{r r':List V->Hp->VK->Prop}(h:CallR X f r)(h':CallR X f r'):CallR X f (λxs H Q=>r xs H Q\/r' xs H Q):=by
 intro pins s σ H xs us Q I rs q
 rcases q with q|q
 ·exact h pins s σ H xs us Q I rs q
 ·exact h' pins s σ H xs us Q I rs q
theorem zSU:CallR X (.type "list") (λxs H Q=> ∃p ys,xs=[.ref p]/\(SqL X.K H p ys\/SqT X.K H p ys)/\ ∀l,H l=none->Q (.ref l) (upd H l (.lst ys))):=by
 intro pins s σ H xs us Q I r h
 obtain⟨p,ys,rfl,hq,q⟩:=h
 obtain⟨u,rfl,rx⟩:=vals1 r
 cases rx
 have fin: ∀(its:List Value),Vals ys its->ys.length<=sizeLine-> ∀(h':Heap)(c':Nat),(∀b o',s.heap.get? b=some o'->h'.get? b=some o')->
   h'.get? s.heap.objs.size=some {cls:=.type "list",dict:=none,data:=.seq its.toArray c',slots:=#[]}->EP X pins σ Q (.ref s.heap.objs.size) {s with heap:=h'}:=λits r' hz h' c' kp e=>
  ⟨.ref s.heap.objs.size,_,I.laid (t':=s.toks) kp (le_refl _) (show ObjOk X.prog X.w _ h' _ (.lst ys)from⟨hz,its,c',r',e⟩),rfl,q _ (I.hok.fresh (le_refl _))⟩
 rcases hq with hq|hq
 ·obtain⟨its,r',pl,hz⟩:=I.list hq
  have hlen:=r'.length
  obtain⟨o,ho,hc,n,hd⟩:=pl.isList
  exact call_list_seq p (.inl rfl) ho hc hd (λh' c' kp e=>fin its r' hz h' c' kp e) (by simp only [sA]<;>omega)
 ·obtain⟨its,r',pl,hz⟩:=I.tuple hq
  have hlen:=r'.length
  obtain⟨o,ho,hc,n,hd⟩:=pl
  exact call_list_seq p (.inr rfl) ho hc hd (λh' c' kp e=>fin its r' hz h' c' kp e) (by simp only [sA]<;>omega)
theorem wA:CallR X (.type "tuple") (λxs H Q=> ∃p ys,xs=[.ref p]/\((SqL X.K H p ys/\ ∀l,H l=none->Q (.ref l) (upd H l (.tup ys)))\/(SqT X.K H p ys/\Q (.ref p) H))):=by
 intro pins s σ H xs us Q I r h
 obtain⟨p,ys,rfl,h⟩:=h
 obtain⟨u,rfl,rx⟩:=vals1 r
 cases rx
 rcases h with⟨hq,q⟩|⟨hq,q⟩
 ·obtain⟨its,r',pl,hz⟩:=I.list hq
  have hlen:=r'.length
  refine call_tuple_list pl.isList (λh' kp=>?_) (by simp only [sA]<;>omega)
  have I1:Inv X pins σ H {s with heap:=h'}:=I.kept (t':=s.toks) kp
  have I2:Inv X pins σ (upd H h'.objs.size (.tup ys)) {s with heap:=h'.push {cls:=.type "tuple",data:=.seq its.toArray}}:=
   I1.laid (t':=s.toks) (λb o e=>hP0 _ e) (le_refl _) (show ObjOk X.prog X.w _ _ _ (.tup ys)from⟨hz,its,r',IsTup.new _ _⟩)
  exact⟨.ref h'.objs.size,_,I2,rfl,q _ (I1.hok.fresh (le_refl _))⟩
 ·obtain⟨its,r',pl,hz⟩:=I.tuple hq
  exact call_tuple_same pl ⟨.ref p,H,I,rfl,q⟩
def tyV(K:PySem.W.Frag)(T:String)(x:V)(H:Hp):Prop:=match x with
 |.str _=>T="str"
 |.int _=>T="int"
 |.ref p=>(T="list"/\ ∃xs,SqL K H p xs)\/(T="tuple"/\ ∃o,K.lookup p=some o/\o.cls=.type "tuple"/\o.dict=none)\/
   (T="dict"/\((∃kvs,H p=some (.dK kvs))\/ ∃kvs,H p=some (.dT kvs)))\/(T="set"/\ ∃S n,H p=some (.set S n))
 |_=>False
theorem yNJ{pins:List (Addr×Obj)}{σ:St}{H:Hp}{s:Shared}{T:String}{x:V}{v:Value}(I:Inv X pins σ H s)(r:RelV x v)(ty:tyV X.K T x H):
  s.TypeIs v T/\ ∀a,v=.ref a-> ∃ob,s.heap.get? a=some ob/\ob.dict=none:=by
 cases x with
 |str z=>
  obtain⟨t,rfl⟩:=r
  cases (show T="str" from ty)
  exact⟨typeIs_str s z t,λ_ e=>nomatch e⟩
 |int i=>
  obtain⟨t,rfl⟩:=r
  cases (show T="int" from ty)
  exact⟨typeIs_int s i t,λ_ e=>nomatch e⟩
 |ref p=>
  cases r
  rcases ty with⟨rfl,xs,hq⟩|⟨rfl,o,hk,hc,hd⟩|⟨rfl,hk⟩|⟨rfl,S,n,hk⟩
  ·obtain⟨its,_,pl,_⟩:=I.list hq
   refine⟨pl.isList.typeIs,λa e=>?_⟩
   cases e
   obtain⟨o,n,e,c,hd,_⟩:=pl
   exact⟨o,e,hd⟩
  ·refine⟨⟨o,I.kIn p o hk,hc⟩,λa e=>?_⟩
   cases e
   exact⟨o,I.kIn _ o hk,hd⟩
  ·have z: ∃o,s.heap.get? p=some o/\o.ExactDict:=by
    rcases hk with⟨kvs,hk⟩|⟨kvs,hk⟩
    ·obtain⟨_,_,_,_,o,_,_,e,ex,_⟩:=I.hok p _ hk
     exact⟨o,e,ex⟩
    ·obtain⟨_,_,_,_,o,_,_,e,ex,_⟩:=I.hok p _ hk
     exact⟨o,e,ex⟩
   obtain⟨o,e,ex⟩:=z
   refine⟨⟨o,e,ex.1⟩,λa e2=>?_⟩
   cases e2
   exact⟨o,e,ex.2.1⟩
  ·obtain⟨o,_,_,_,e,ex,_⟩:=I.hok p _ hk
   refine⟨⟨o,e,ex.1⟩,λa e2=>?_⟩
   cases e2
   exact⟨o,e,ex.2.1⟩
 |_=>exact False.elim ty
def tBM(K:PySem.W.Frag)(T:String)(r:V->List V->Hp->VK->Prop)(to:TE)(t:TA):TE:=λσ H Q=>to σ H λx H1=>tyV K T x H1/\t σ H1 λxs H2=>r x xs H2 Q
variable{o e:Expr}{es:List Expr}{to:TE}{t:TA}{name:Str}{apos cpos:Pos}{T id:String}{r:V->List V->Hp->VK->Prop}
theorem pe_bm(pa:PlainAttrs T)(slot:Slot T name id)(hty:typeOf (.builtin id)=pure (.type "method_descriptor"))(hm:MtR X id r)(ho:PE X o to)(ha:PA X (e::es) t)
  (hbase:attributeBase o name X.env (eval o X.env)=eval o X.env:=by rfl)
  (hfew:((backTo cpos (starEach (e::es) X.env)).all (λx=>!x.1)&&(backToKw cpos (keywordEach [] X.env)).all (λx=>x.1.isSome)
   &&decide ((e::es).length+([]:List Keyword).length+(if([]:List Keyword).isEmpty then 0 else 1)<30))=true:=by rfl)
  (hline:(apos.endLine==cpos.line)=true:=by rfl) (hs:starEach (e::es) X.env=(false,eval e X.env)::starEach es X.env:=by rfl) (hplain:(backTo cpos (starEach es X.env)).any (·.1)=false:=by rfl):
  PE X (.Call (.Attribute o name apos) (e::es) [] cpos) (tBM X.K T r to t):=by
 intro pins s σ H Q I h
 refine wpAny_Call_method_late hbase hfew hline rfl (thn (ho pins s σ H _ I h) λv s1 ⟨x,H1,I1,r1,ty,q1⟩=>?_)
 obtain⟨h1,h2⟩:=yNJ I1 r1 ty
 refine⟨T,id,pa,slot,hty,h1,h2,?_⟩
 have hA:=ha cpos pins s1 σ H1 _ I1 q1
 rw [hs]at hA ⊢
 refine Calls.callWith_builtin (by show(false || (backTo cpos (starEach es X.env)).any (·.1))=false;rw [hplain]<;>rfl) (Calls.evalArgs_plain ?_)
 exact thn hA λus s2 ⟨vs,H2,I2,r2,q2⟩=>hm pins s2 σ H2 x vs v us Q I2 r1 r2 q2
end
def MtM(X:Cx)(id:String)(r:V->List V->Hp->VK->Prop):Prop:=
 ∀(pins:List (Addr×Obj))(s:Shared)(σ:St)(H:Hp)(x:V)(xs:List V)(v:Value)(us:List Value)(Q:VK),Inv X pins σ H s->RelV x v->Vals xs us->r x xs H Q->
  wpAny (model X.prog X.w) X.A (call (.builtin id) (v::us)) (EP X pins σ Q) X.xe s
theorem Vals.one: ∀{x:V}{us:List Value},Vals [x] us-> ∃u,us=[u]/\RelV x u
 |_,_,.cons r .nil=>⟨_,rfl,r⟩
theorem Vals.rep{xs:List V}{us:List Value}(h:Vals xs us): ∀k:Nat,Vals (List.replicate k xs).flatten (List.replicate k us).flatten
 |0=>.nil
 |k+1=>by
  rw [replicate_succ,replicate_succ,flatten_cons,flatten_cons]
  exact Vals.append h (Vals.rep h k)
theorem foldl_rep(its:List Value): ∀(k:Nat)(acc:List Value),
  List.foldl (λx1 x2=>x1++x2) acc.toArray (List.replicate k its.toArray)=(acc++(List.replicate k its).flatten).toArray
 |0,acc=>by simp
 |k+1,acc=>by
  have e:acc.toArray++its.toArray=(acc++its).toArray:=by simp
  have e2:(acc++its)++(List.replicate k its).flatten=acc++(List.replicate (k+1) its).flatten:=by
   rw [replicate_succ,flatten_cons,aA]
  rw [<-e2, <-foldl_rep its k (acc++its), <-e,replicate_succ,foldl_cons]
section
variable{X:Cx}{pins:List (Addr×Obj)}{σ:St}{H:Hp}{s:Shared}{l b:Addr}{xs ys zs:List V}
theorem Inv.lset{its its':List Value}{n:Nat}{f:Array Value->Array Value}{t':Nat}(I:Inv X pins σ H s)(hH:H l=some (.lst xs))
  (e:s.heap.get? l=some {cls:=.type "list",data:=.seq its.toArray n}) (hf:f its.toArray=its'.toArray) (hv:Vals ys its') (hz:ys.length<=sizeLine):
  Inv X pins σ (upd H l (.lst ys)) {s with heap:=s.heap.update l (Obj.mapSeq f),toks:=t'}:=by
 have q:=PySem.IsL.update e f
 rw [hf]at q
 refine I.write (x:=l) (e:=l) (by rw [hH];exact trivial) (.inl rfl) (λb' u hb hu=>(Heap.get?_update_other s.heap (Obj.mapSeq f) (Ne.symm hb)).trans hu) ⟨_,q⟩ ?_
 exact⟨hz,its',_,hv,q⟩
theorem Inv.lnew{its:List Value}{t':Nat}(I:Inv X pins σ H s)(hv:Vals ys its)(hz:ys.length<=sizeLine):
  Inv X pins σ (upd H s.heap.objs.size (.lst ys)) {s with heap:=s.heap.push {cls:=.type "list",data:=.seq its.toArray},toks:=t'}:=
 I.laid (λ_ _ q=>hP0 _ q) (le_refl _) ⟨hz,its,0,hv,Heap.get?_push_size _ rfl⟩
theorem Inv.fresh(I:Inv X pins σ H s):H s.heap.objs.size=none:=I.hok.fresh (le_refl _)
theorem Inv.lstM(I:Inv X pins σ H s)(hH:H l=some (.lst xs)):xs.length<=sizeLine/\ ∃(its:List Value)(n:Nat),Vals xs its/\xs.length=its.length/\s.heap.get? l=some {cls:=.type "list",data:=.seq its.toArray n}:=by
 obtain⟨z,its,n,r,e⟩:=I.hok l _ hH
 exact⟨z,its,n,r,r.length,e⟩
theorem yEQ{n:Nat}(h:n<=sizeLine):Builtin.List.listTooLong n=false:=by
 unfold Builtin.List.listTooLong
 exact dF0 (by omega)
end
section
variable{X:Cx}
def yAG:V->List V->Hp->VK->Prop:=λx vs H Q=> ∃l xs y,x=.ref l/\vs=[y]/\H l=some (.lst xs)/\xs.length<sizeLine/\Q .non (upd H l (.lst (xs++[y])))
theorem yCL:MtM X "list.append" yAG:=by
 intro pins s σ H x vs v us Q I rx rv h
 obtain⟨l,xs,y,rfl,rfl,hH,hz,q⟩:=h
 cases rx
 obtain⟨u,rfl,ru⟩:=rv.one
 obtain⟨z,its,n,r,hl,e⟩:=I.lstM hH
 refine call_meets F.slot_list_append ⟨_,e,rfl⟩ F.entry_list_append (F.args_list_append_2 _ _) (PySem.list_append l its.toArray n u (by rw [sA];omega)) ⟨e,?_⟩
 refine⟨.non,_,I.lset (its':=its++[u]) hH e (by simp) (r.append (.cons ru .nil)) ?_,rfl,q⟩
 rw [lA,lS]
 omega
def rCat:R2:=λx y H Q=> ∃l b xs zs,x=.ref l/\y=.ref b/\H l=some (.lst xs)/\H b=some (.lst zs)/\xs.length+zs.length<=sizeLine/\ ∀p,H p=none->Q (.ref p) (upd H p (.lst (xs++zs)))
theorem yNK:OpR X (binaryOp .Add) rCat:=by
 intro pins s σ H x y v u Q I rx ry h
 obtain⟨l,b,xs,zs,rfl,rfl,hH,hB,hz,q⟩:=h
 cases rx
 cases ry
 obtain⟨z,its,n,r,hl,e⟩:=I.lstM hH
 obtain⟨z2,its2,n2,r2,hl2,e2⟩:=I.lstM hB
 refine PySem.P.add_list e e2 ?_ (by rw [sA,sA];omega)
 have ea:its.toArray++its2.toArray=(its++its2).toArray:=by simp
 rw [ea]
 exact⟨.ref _,_,I.lnew (t':=s.toks) (r.append r2) (by rw [lA];omega),rfl,q _ I.fresh⟩
def rRep:R2:=λx y H Q=> ∃l k xs,x=.ref l/\y=.int k/\H l=some (.lst xs)/\ -(2 ^ 63)<=k/\k<2 ^ 63/\xs.length * k.toNat<=sizeLine/\
 ∀p,H p=none->Q (.ref p) (upd H p (.lst (List.replicate k.toNat xs).flatten))
theorem len_rep{α:Type}(xs:List α)(k:Nat):(List.replicate k xs).flatten.length=k * xs.length:=by
 induction k with
 |zero=>simp
 |succ k ih=>rw [replicate_succ,flatten_cons,lA,ih,Nat.succ_mul,Nat.add_comm]
theorem yNL:OpR X (binaryOp .Mult) rRep:=by
 intro pins s σ H x y v u Q I rx ry h
 obtain⟨l,k,xs,rfl,rfl,hH,h1,h2,hz,q⟩:=h
 cases rx
 obtain⟨t,rfl⟩:=ry
 obtain⟨z,its,n,r,hl,e⟩:=I.lstM hH
 have hlen:its.toArray.size * k.toNat<=sizeLine:=by rw [sA, <-hl];exact hz
 have hcap: ¬its.toArray.size * k.toNat>(2 ^ 63 - 1) / 8:=by
  have:(sizeLine:Nat)<=(2 ^ 63 - 1) / 8:=by decide
  omega
 have hfit: ¬(!Builtin.List.listFitsIndex k)=true:=by
  rw [fitsIndex_both h1 h2]
  exact xF0
 have hlong: ¬Builtin.List.listTooLong (its.toArray.size * k.toNat)=true:=by
  rw [yEQ hlen]
  exact xF0
 have hnew:List.foldl (λx1 x2=>x1++x2) #[] (List.replicate (if its.toArray.isEmpty=true then 0 else k.toNat) its.toArray)=(List.replicate k.toNat its).flatten.toArray:=by
  have f0: ∀m:Nat,List.foldl (λx1 x2=>x1++x2) #[] (List.replicate m its.toArray)=(List.replicate m its).flatten.toArray:=λm=>by
   have:=foldl_rep its m []
   rw [nil_append]at this
   exact this
  rw [f0]
  cases its with
  |nil=>simp
  |cons a r'=>rw [iN (by simp)]
 refine wpAny_binaryOp_repeat_ref (T:="list") (U:="int") (by decide) ⟨_,e,rfl⟩ (λs'=>typeIs_int s' k t) noFill_list_mul F.fills_int_mul F.slot_int_rmul repeat_list F.slot_int_index.lookup
  (call_meets F.slot_int_rmul (typeIs_int s k t) F.entry_int_rmul (F.args_int_rmul_2 _ _) (int___rmul___int_list k t l its.toArray n)
   ⟨e,rfl,⟨_,e,rfl⟩,call_meets F.slot_list_mul ⟨_,e,rfl⟩ F.entry_list_mul (F.args_list_mul_2 _ _) (AutoListH.list___mul___list_int_3 l its.toArray n k t hfit hcap hlong) ⟨e,?_⟩⟩)
 rw [hnew]
 exact⟨.ref _,_,I.lnew (t':=s.toks) (r.rep k.toNat) (by rw [len_rep,Nat.mul_comm];exact hz),rfl,q _ I.fresh⟩
end
end L2
namespace Att
open PySem PySem.W PySem.Calls PyProof.Rows
theorem zNQ{P:Params}{h:Heap}: ∀(ns:List Int)(vs:List Value),WellAll P h vs (ns.map WData.int)->IntsAre vs ns:=by
 intro ns
 induction ns with
 |nil=>
  intro vs w
  rw [map_nil]at w
  cases w
  exact .nil
 |cons n ns ih=>
  intro vs w
  rw [map_cons]at w
  cases w with
  |cons a b=>
   cases a
   exact .cons _ _ (ih _ b)
theorem yCM{l:OpenLaw}{n:Nat}(hn:l.most=some n){P:Params}{h:Heap}{args:List WData}{vals:List Value}
  (hpre:l.row.toRowW.claim.pre args=true) (hwl:WellAll P h vals args):
  ∃a vs ns,vals=[Value.ref a]/\args=[WData.list (ns.map WData.int)]/\h.get? a=some {cls:=.type "list",data:=.seq vs.toArray}/\IntsAre vs ns/\ns.length<=n:=by
 have hsh:WShape.hasAll [] args [.list .int]=true:=(pre_splitW hpre).1
 have hc:l.pre.holds [] {args:=args}=true:=(pre_splitW hpre).2
 obtain⟨d,r,rfl,h1,h2⟩:=hasAllW_cons hsh
 obtain rfl:=hasAllW_nil h2
 obtain⟨xs,rfl,h3⟩:=hasW_list h1
 obtain⟨ns,rfl⟩:=items_int h3
 have hlen:ns.length<=n:=by
  unfold OpenLaw.pre at hc
  have h4:(WTm.not (.lt (.lit (.int (n:Int))) (.len (.arg 0)))).holds [] {args:=[.list (ns.map .int)]}=true:=by
   have h4:=(holds_andW hc).1
   rw [hn]at h4
   exact h4
  have h5:=condW_of h4 (w_not (w_lt w_lit (w_len_list (w_arg rfl))))
  rw [lM]at h5
  refine Nat.le_of_not_lt λq=>?_
  have q':(n:Int)<((ns.length:Nat):Int):=by omega
  first
   |(rw [dT0 q']at h5;exact absurd h5 (by decide))
   |(simp at h5;omega)
 cases hwl with
 |cons w1 w2=>
  cases w2
  cases w1 with
  |list ho hall=>exact⟨_,_,ns,rfl,rfl,ho,zNQ ns _ hall,hlen⟩
theorem yCN(l:OpenLaw)(args:List WData):l.row.toRowW.claim.post args (.bool true) args=true:=
 postW_of (r:=l.row.toRowW) (X:=(true==true))
  (show WShape.has [] (.bool true) .bool=true by first |rfl|decide|simp [WShape.has,WShape.arms,WShape.armsAll])
  (show(WTm.eq .res (.lit (.bool true))).value [] {args:=args,res:=some (.bool true),after:=args}=some (.bool (true==true))from w_eq_bool (w_res rfl) w_lit) rfl
theorem attach_call{l:OpenLaw}{n:Nat}{q:Program}{loose:List Str}{XP:(Str->Option Value)->Heap->Prop}{YP:World->Heap->Prop}{d:DefRec}
  (hn:l.most=some n) (hdf:d.params.defaults=[])
  (call: ∀(w:World)(s₀ s₁:Shared)(mg mb:Str->Option Value)(fa:Addr)(o:Obj)(pm cd doc:Value)(a:Addr)(vs:List Value)(ns:List Int),
   Ground q loose [] XP w s₀ mg mb s₁.heap->YP w s₁.heap->
   s₁.heap.get? fa=some o->o.data=.func (docDef d.name d.params d.body d.scope pm cd doc)->s₁.heap.CodeRec cd d.name->mg d.name=some (.ref fa)->
   s₁.heap.get? a=some {cls:=.type "list",data:=.seq vs.toArray}->IntsAre vs ns->ns.length<=n->s₁.gens=#[]->
   codeAny (model l.prog w) callerA (.call (.ref fa) ⟨[.ref a],[]⟩) (λr s'=>r=.ok (.ret (.bool true))/\OldK s₁.heap s'.heap/\s'.os=s₁.os/\AllBare s'.gens) s₁):
  WalkO q loose XP YP l.row.toRowW d [] (λf vs=>PySem.call f vs):=by
 intro w s₀ s₁ mg mb G Y fa o pm cd doc dV kV ho hd hcd hD hmg hg args vals as hpre hlay hrd hwl hlo
 obtain rfl:dV=.none:=Dflts.none hD hdf
 obtain rfl:kV=.none:=Dflts.noKw hD
 obtain⟨a,vs,ns,rfl,rfl,hobj,hints,hlen⟩:=yCM hn hpre hwl
 refine enter_call (codeAny_mono (call w s₀ s₁ mg mb fa o pm cd doc a vs ns G Y ho (fd_plain hd) hcd hmg hobj hints hlen hg) λr s' hq=>?_)
 obtain⟨rfl,h2,h3,h4⟩:=hq
 exact⟨.inl ⟨.bool true,.bool true,[],rfl,λ_=>rfl,.bool true,yCN l _,λ_=>⟨List.Pairwise.nil,λ_ hm=>(nomatch hm)⟩⟩,h2,h3,h4⟩
end Att
namespace L2
open PySem PySem.Spec PyProof.Rows
theorem zRQ: ∀{vs:List Value}{ns:List Int},IntsAre vs ns->Vals (ns.map V.int) vs
 |_,_,.nil=>.nil
 |_,_,.cons n t h=>.cons ⟨t,rfl⟩ (zRQ h)
def yER(H:Hp):Prop:= ∀b,H b=none\/ ∃o xs,H b=some (.frz o (.lst xs))
theorem yES{P:Program}{w:World}{K:PySem.W.Frag}{mg mb:Str->Option Value}{CX:CXT}{k:Nat}{fa a:Addr}{fd:FuncData}{x:Str}{sp:Sp}{s₁:Shared}{vs:List Value}{ns:List Int}
  (KX:K.In s₁.heap) (hns:s₁.heap.Ns mainGlobals mg) (hb:s₁.heap.Ns builtinsNs mb) (hbb: ∀x:Str,x≠"__name__"->mb x=bootBuiltins x) (hlim:s₁.heap.NoLimit) (hg:s₁.gens=#[])
  (ha:s₁.heap.get? a=some {cls:=.type "list",data:=.seq vs.toArray}) (hi:IntsAre vs ns) (hl:ns.length<=sizeLine) (hr:Room k callerA)
  (F: ∀base:Heap,K.In base->base.Ns mainGlobals mg->FnOk P w K mg base CX k fa fd [x] sp) (hbind: ∀(s:Shared)(u:Value),BindsTo s fd ⟨[u],[]⟩ [(x,u)])
  (hsp: ∀H:Hp,yER H->SqL K H a (ns.map V.int)->sp [.ref a] H (λv _=>v=.bl true) λ_ _ _=>False)
  (hCX: ∀H e s',CX [] H s₁ (λ_ _ _=>False) e s'->False):
  codeAny (model P w) callerA (.call (.ref fa) ⟨[.ref a],[]⟩) (λr s'=>r=.ok (.ret (.bool true))/\OldK s₁.heap s'.heap/\s'.os=s₁.os/\AllBare s'.gens) s₁:=by
 have rv:=zRQ hi
 have lenV:=hi.length
 have core: ∀H:Hp,yER H->SqL K H a (ns.map V.int)->HOk P w H s₁.heap->(∀b,H b≠none->b=a)->(H a≠none->K.lookup a=none)->
   codeAny (model P w) callerA (.call (.ref fa) ⟨[.ref a],[]⟩) (λr s'=>r=.ok (.ret (.bool true))/\OldK s₁.heap s'.heap/\s'.os=s₁.os/\AllBare s'.gens) s₁:=by
  intro H hO hS hok hA hK
  have base_of: ∀{b:Addr}{o:Obj},s₁.heap.get? b=some o->H b=none->(zSN s₁.heap H).get? b=some o:=λe n=>yDX e n
  have noA: ∀{b:Addr}{o:Obj}{es:Array DictEntry}{ep:Nat},s₁.heap.get? b=some o->o.data=.dict es ep->H b=none:=λ{b o es ep} e d=>by
   cases q:H b with
   |none=>rfl
   |some u=>
    have e':b=a:=hA b (by rw [q];simp)
    subst e'
    rw [ha]at e;cases e
    have d':Data.seq vs.toArray _=Data.dict es ep:=d
    cases d'
  have nsK: ∀{b:Addr}{m:Str->Option Value},s₁.heap.Ns b m->(zSN s₁.heap H).Ns b m:=λ{b m} ⟨o,es,ep,e,d,r⟩=>⟨o,es,ep,base_of e (noA e d),d,r⟩
  have hKb:K.In (zSN s₁.heap H):=λb o e=>base_of (KX b o e) (by
   cases q:H b with
   |none=>rfl
   |some u=>
    have e':b=a:=hA b (by rw [q];simp)
    subst e'
    rw [hK (by rw [q];simp)]at e;cases e)
  have hM:Mod K mg (zSN s₁.heap H):=⟨hKb,nsK hns,⟨mb,nsK hb,hbb⟩,let ⟨mc,h1,h2⟩:=hlim;⟨mc,nsK h1,h2⟩⟩
  have e0:Env0 P w K mg (zSN s₁.heap H) callerA [] s₁ H:=⟨rfl,hM,λb o e=>yHX e,Nat.le_of_eq (yCF _ _),trivial,λb hb=>absurd (show b∈([]:List Addr)from hb) (by simp),hok,.of_eq hg⟩
  refine codeAny_mono ((F _ hKb (nsK hns)).run callerA [] s₁ H ⟨[.ref a],[]⟩ [.ref a] [.ref a] _ _ hr e0 (hbind s₁ (.ref a)) (.cons rfl .nil) (hsp H hO hS)) λr s' h=>?_
  cases r with
  |error e=>exact(hCX H e s' h).elim
  |ok fl=>
   cases fl with
   |next=>exact False.elim h
   |brk=>exact False.elim h
   |cont=>exact False.elim h
   |ret u=>
    obtain⟨v,H',os,bare,un,hok',r',q⟩:=h
    have q':v=.bl true:=q
    subst q'
    obtain rfl:u=Value.bool true:=r'
    refine⟨rfl,OldK.of_keep λb o e=>?_,os,bare⟩
    cases q:H b with
    |none=>exact un.keep b o e q (by intro z;exact absurd (show b∈([]:List Addr)from z) (by simp)) (by simp)
    |some u=>
     rcases hO b with z|⟨ob,xs,z⟩
     ·rw [q]at z;cases z
     ·have z2:=un.frzs b ob _ z
      obtain⟨e1,_⟩:=hok b _ z
      obtain⟨e2,_⟩:=hok' b _ z2
      rw [e]at e1;cases e1
      exact e2
 cases hk:K.lookup a with
 |some o=>
  have e:=KX a o hk
  rw [ha]at e
  cases e
  refine core (λ_=>none) (λ_=>.inl rfl) (.inr ⟨_,vs.toArray,_,hk,rfl,rfl,rfl,by rw [sA,lenV];exact hl,by simpa using rv⟩) (λb u z=>by have z':(none:Option HO)=some u:=z;cases z') (λb z=>absurd rfl z) λz=>absurd rfl z
 |none=>
  refine core (λb=>if b=a then some (.frz {cls:=.type "list",data:=.seq vs.toArray} (.lst (ns.map V.int)))else none) (λb=>?_) (.inl (.inr ⟨{cls:=.type "list",data:=.seq vs.toArray},iP rfl⟩)) (λb u z=>?_) (λb z=>?_) λ_=>hk
  ·by_cases hb:b=a
   ·exact .inr ⟨_,_,iP hb⟩
   ·exact .inl (iN hb)
  ·by_cases hb:b=a
   ·have z':=(iP hb).symm.trans z
    cases z'
    subst hb
    exact⟨ha,by rw [lM];exact hl,vs,_,rv,ha⟩
   ·have z':=(iN hb).symm.trans z
    cases z'
  ·by_cases hb:b=a
   ·exact hb
   ·exact absurd (iN hb) z
theorem walk_of{l:PySem.W.OpenLaw}{n k:Nat}{q:Program}{loose:List Str}{XP:(Str->Option Value)->Heap->Prop}{YP:World->Heap->Prop}{d:DefRec}{K:Params->PySem.W.Frag}{CX:World->CXT}{sp:World->Sp}{x:Str}
  (hn:l.most=some n) (hn2:n<=sizeLine) (hdf:d.params.defaults=[]) (hr:Room k callerA)
  (hY: ∀(w:World)(h:Heap),YP w h->(K w.params).In h)
  (F: ∀(w:World)(mg:Str->Option Value)(fa:Addr)(h:Heap),(K w.params).In h->h.Ns mainGlobals mg->mg d.name=some (.ref fa)->
   ∃fd:FuncData,(∀(s:Shared)(u:Value),BindsTo s fd ⟨[u],[]⟩ [(x,u)])/\
    ∀base:Heap,(K w.params).In base->base.Ns mainGlobals mg->FnOk l.prog w (K w.params) mg base (CX w) k fa fd [x] (sp w))
  (hsp: ∀(w:World)(H:Hp)(a:Addr)(ns:List Int),ns.length<=n->yER H->SqL (K w.params) H a (ns.map V.int)->sp w [.ref a] H (λv _=>v=.bl true) λ_ _ _=>False)
  (hCX: ∀(w:World)(H:Hp)(s:Shared)(e:Value)(s':Shared),CX w [] H s (λ_ _ _=>False) e s'->False):
  PySem.W.WalkO q loose XP YP l.row.toRowW d [] (λf vs=>PySem.call f vs):=by
 refine Att.attach_call hn hdf λw s₀ s₁ mg mb fa o pm cd doc a vs ns G Y ho hd hcd hmg hobj hints hlen hg=>?_
 have KX:=hY w _ Y
 obtain⟨fd,hb,hF⟩:=F w mg fa _ KX G.T.g hmg
 exact yES KX G.T.g G.T.b G.T.builtins G.T.nolimit hg hobj hints (le_trans hlen hn2) hr hF hb (λH hO hS=>hsp w H a ns hlen hO hS) λH e s'=>hCX w H s₁ e s'
def zEZ(s:Stmt):Arguments:=match s with
 |.FunctionDef _ a _ _ _ _ _ _ _ _=>a
 |_=>{posonlyargs:=[],args:=[],vararg:=none,kwonlyargs:=[],kw_defaults:=[],kwarg:=none,defaults:=[]}
def zAP(s:Stmt):List Stmt:=match s with
 |.FunctionDef _ _ b _ _ _ _ _ _ _=>b
 |_=>[]
def zG(s:Stmt):Scope:=match s with
 |.FunctionDef _ _ _ _ _ _ sc _ _ _=>sc
 |_=>{kind:=.function,names:=[],isGenerator:=false,isCoroutine:=false}
abbrev CX0:CXT:=λ_ _ _ _ _ _=>False
abbrev E0:XK:=λ_ _ _=>False
theorem pass0{X:Cx}:zYH CX0 X E0:=λ_ _ _ _ _ _ _ h=>h.elim
structure Fun(K:PySem.W.Frag)(x qual:Str)(st:Stmt)(f:Addr)(fd:FuncData):Prop where
 ex: ∃(oc:Value)(od:Option Addr)(kV doc pm:Value)(an:Option Addr)(cdv ct:Value)(osl:Array (Option Value)),
  fd=PySem.W.fnOf x qual (zEZ st) (zAP st) (zG st) .none kV doc pm an cdv ct/\K.lookup f=some ⟨oc,od,.func fd,osl⟩/\PySem.W.codeIn K cdv qual=true
 kp:PySem.W.keepIn K (.ref f)=true
section
variable{P:Program}{w:World}{K:PySem.W.Frag}{mg:Str->Option Value}{base:Heap}
theorem Fun.ok{x qual:Str}{st:Stmt}{f:Addr}{fd:FuncData}{N ps:List Str}{k:Nat}{sp:Sp}(F:Fun K x qual st f fd)(S:FnScope N ps (zG st))(len: ∀vs H Q E,sp vs H Q E->vs.length=ps.length)
  (hbody: ∀(cdv:Value)(A:Around)(outer:List Env)(s:Shared)(H:Hp)(vs:List V)(Q:VK)(E:XK),Room k (A.deeper (envOfC qual (zG st) s.heap.objs.size f cdv))->sp vs H Q E->
   ∃t,PSs (zYI CX0 P w K mg base N qual (zG st) f cdv A outer s H E).nox (zAP st) t/\t {nx:=λ_ H'=>Q .non H',rt:=Q} (start N vs) H):FnOk P w K mg base CX0 (k+1) f fd ps sp:=by
 obtain⟨oc,od,kV,doc,pm,an,cdv,ct,osl,rfl,lk,hcd⟩:=F.ex
 refine fn_of lk hcd S len λA outer s H vs Q E hr hsp=>?_
 obtain⟨t,h,q⟩:=hbody cdv A outer s H vs Q E hr hsp
 exact⟨t,h.nox,q⟩
theorem Fun.binds{x qual:Str}{st:Stmt}{f:Addr}{fd:FuncData}{ps:List Str}(F:Fun K x qual st f fd)
  (h: ∀(kV doc pm:Value)(an:Option Addr)(cdv ct:Value)(us:List Value),us.length=ps.length->bindArgs (PySem.W.fnOf x qual (zEZ st) (zAP st) (zG st) .none kV doc pm an cdv ct) ⟨us,[]⟩=pure (ps.zip us)):Binds K fd ps []:=by
 obtain⟨oc,od,kV,doc,pm,an,cdv,ct,osl,rfl,lk,hcd⟩:=F.ex
 exact .all (h kV doc pm an cdv ct)
theorem yNM{x qual:Str}{st:Stmt}{f:Addr}{oc:Value}{od an:Option Addr}{osl:Array (Option Value)}{kV doc pm cdv ct:Value}(l:K.lookup f=some ⟨oc,od,.func (PySem.W.fnOf x qual (zEZ st) (zAP st) (zG st) .none kV doc pm an cdv ct),osl⟩)
  (c:PySem.W.codeIn K cdv qual=true) (k:PySem.W.keepIn K (.ref f)=true):Fun K x qual st f (PySem.W.fnOf x qual (zEZ st) (zAP st) (zG st) .none kV doc pm an cdv ct):=⟨⟨oc,od,kV,doc,pm,an,cdv,ct,osl,rfl,l,c⟩,k⟩
end
section
variable{X:Cx}
theorem pv(i:Nat){x:Str}{pos:Pos}(hN:X.N[i]? =some x:=by rfl)(hv:Vis X.env.scope x:=by first |exact Or.inl rfl|exact Or.inr (Or.inl rfl)|exact Or.inr (Or.inr rfl))(hd:(x==("__debug__":Str))=false:=by decide)
  (hcd:(x==("__classdict__":Str))=false:=by decide):PE X (.Name x pos) (tVar i):=yMK hN hv hd hcd
end
end L2
set_option maxHeartbeats 4000000
namespace L2
open PySem PySem.Spec PyProof.Rows
def zGD(env:Env)(l:List (Str×NameKind))(cs:List (Str×Addr)):List (Str×Addr):=
 l.foldl (λc y=>if y.2==.free then(y.1,(env.cells.lookup y.1).getD 0)::c else c) cs
theorem zSV{α β:Type}{l:List α}{f:α->β->Sem (ForInStep β)}{g:β->α->β}: ∀(c:β),(∀x∈l, ∀c,f x c=pure (.yield (g c x)))->
  forIn l c f=pure (l.foldl g c):=by
 induction l with
 |nil=>intro c _;rfl
 |cons x l ih=>
  intro c h
  rw [forIn_cons,h x mF0,pure_bind]
  exact ih _ λy hy=>h y (mO _ hy)
theorem zQP{scope:Scope}{env:Env}(h: ∀y∈scope.names,y.2=.free-> ∃c,env.cells.lookup y.1=some c):closureFor scope env=pure (zGD env scope.names []):=by
 unfold closureFor zGD
 dsimp only
 rw [zSV (g:=λc y=>if y.2==.free then(y.1,(env.cells.lookup y.1).getD 0)::c else c) [] ?_]
 ·rfl
 ·intro y hy c
  obtain⟨n,k⟩:=y
  by_cases hk:k=.free
  ·subst hk
   obtain⟨a,ha⟩:=h _ hy rfl
   have ha':env.cells.lookup n=some a:=ha
   simp [cellOf,ha']
  ·have e:(k==NameKind.free)=false:=by simpa using hk
   simp [e]
theorem zMX{env:Env}: ∀(l:List (Str×NameKind))(cs:List (Str×Addr)),(∀y∈l,y.2=.free-> ∃c,env.cells.lookup y.1=some c)->(∀p∈cs,env.cells.lookup p.1=some p.2)->
  ∀p∈zGD env l cs,env.cells.lookup p.1=some p.2
 |[],_,_,h=>h
 |(n,k)::l,cs,hl,h=>by
  refine zMX l _ (λy hy=>hl y (mO _ hy)) λp hp=>?_
  by_cases hk:k=.free
  ·subst hk
   obtain⟨c,hc⟩:=hl _ mF0 rfl
   have hc':env.cells.lookup n=some c:=hc
   have hp':p∈(n,(env.cells.lookup n).getD 0)::cs:=hp
   rcases mC.mp hp' with rfl|hp
   ·show env.cells.lookup n=some ((env.cells.lookup n).getD 0)
    rw [hc'];rfl
   ·exact h p hp
  ·have hp':p∈(if(k==NameKind.free)=true then(n,(env.cells.lookup n).getD 0)::cs else cs):=hp
   rw [iN (by simpa using hk)]at hp'
   exact h p hp'
theorem zOP{env:Env}: ∀(l:List (Str×NameKind))(cs:List (Str×Addr))(p:Str×Addr),p∈cs->p∈zGD env l cs
 |[],_,_,h=>h
 |(n,k)::l,cs,p,h=>by
  refine zOP l _ p ?_
  show p∈(if(k==.free)=true then(n,(env.cells.lookup n).getD 0)::cs else cs)
  split
  ·exact mO _ h
  ·exact h
theorem zGP{env:Env}: ∀(l:List (Str×NameKind))(cs:List (Str×Addr))(n:Str),(n,NameKind.free)∈l-> ∃c,(n,c)∈zGD env l cs
 |[],_,_,h=>nomatch h
 |(m,k)::l,cs,n,h=>by
  rcases mC.mp h with e|h
  ·have e1:n=m:=congrArg Prod.fst e
   have e2:NameKind.free=k:=congrArg Prod.snd e
   subst e1 e2
   exact⟨(env.cells.lookup n).getD 0,zOP l _ _ mF0⟩
  ·exact zGP l _ n h
theorem hX{β:Type}: ∀{l:List (Str×β)}{n:Str},(∃c,(n,c)∈l)-> ∃c,l.lookup n=some c
 |[],_,h=>let ⟨_,z⟩:=h;nomatch z
 |(m,b)::l,n,h=>by
  by_cases e:n=m
  ·subst e
   exact⟨b,by simp [lookup_cons]⟩
  ·obtain⟨c,hc⟩:=h
   rcases mC.mp hc with z|z
   ·cases z;exact absurd rfl e
   ·obtain⟨c',h'⟩:=hX ⟨c,z⟩
    refine⟨c',?_⟩
    have e':(n==m)=false:=by simpa using e
    simp [lookup_cons,e',h']
def yCO(scope osc:Scope):List (Str×NameKind):=scope.names.map λ(n,k)=>if(k==.free&&osc.kind==.function&&osc.names.lookup n==some .cell)then(n,.cell)else(n,k)
def zMY(osc:Scope)(N:List Str)(sc:Scope)(idx:List Nat):Bool:=
 decide (sc.kind=.function)&&sc.names.all (λy=>decide (sc.names.lookup y.1=some y.2))&&
 sc.names.all (λy=>decide (y.2≠.free) || decide (osc.names.lookup y.1=some .cell) || decide (osc.names.lookup y.1=some .free))&&
 idx.all (λi=>match N[i]? with
  |some y=>(decide (osc.names.lookup y=some .cell) || decide (osc.names.lookup y=some .free))&&decide (sc.names.lookup y=some .free)
  |none=>false)
abbrev clC(env:Env)(sc:Scope)(C:Addr):List (Str×Addr):=cellsFrom (C+1) sc.names (zGD env sc.names [])
theorem wM: ∀(l:List (Str×NameKind))(n:Nat)(acc:List (Str×Addr)),cellsFrom n l acc=cellsFrom n l []++acc
 |[],n,acc=>rfl
 |(x,k)::l,n,acc=>by
  unfold cellsFrom
  split
  ·rw [wM l (n+1) ((x,n)::acc),wM l (n+1) [(x,n)],aA];rfl
  ·exact wM l n acc
theorem zKU: ∀(l:List (Str×NameKind))(n:Nat){x:Str}{c:Addr},(x,c)∈cellsFrom n l []->(x,NameKind.cell)∈l/\n<=c
 |[],n,x,c,h=>nomatch h
 |(y,k)::l,n,x,c,h=>by
  unfold cellsFrom at h
  split at h
  ·rename_i hk
   rw [wM]at h
   rcases mem_append.mp h with h|h
   ·obtain⟨h1,h2⟩:=zKU l (n+1) h
    exact⟨mO _ h1,by omega⟩
   ·have e:=mS.mp h
    cases e
    have hk':k=.cell:=by simpa using hk
    subst hk'
    exact⟨mF0,le_refl _⟩
  ·obtain⟨h1,h2⟩:=zKU l n h
   exact⟨mO _ h1,h2⟩
theorem zJY{l:List (Str×NameKind)}{C:Nat}{x:Str}{c:Addr}(h:(x,c)∈cellsFrom (C+1) l []){n:Nat}(hC:n<=C):n<c:=Nat.lt_of_le_of_lt hC (zKU l (C+1) h).2
theorem zIK: ∀(l:List (Str×NameKind))(n:Nat){x:Str},(x,NameKind.cell)∈l-> ∃c,(x,c)∈cellsFrom n l []
 |[],n,x,h=>nomatch h
 |(y,k)::l,n,x,h=>by
  unfold cellsFrom
  rcases mC.mp h with e|h
  ·cases e
   rw [iP (by decide),wM]
   exact⟨n,mem_append_right _ mF0⟩
  ·split
   ·obtain⟨c,hc⟩:=zIK l (n+1) h
    rw [wM]
    exact⟨c,mem_append_left _ hc⟩
   ·exact zIK l n h
theorem own_apart: ∀(l:List (Str×NameKind))(n:Nat),(cellsFrom n l []).Pairwise λx y=>x.2≠y.2
 |[],n=>List.Pairwise.nil
 |(y,k)::l,n=>by
  unfold cellsFrom
  split
  ·rw [wM]
   refine List.pairwise_append.mpr ⟨own_apart l (n+1),List.pairwise_singleton _ _,λa ha b hb e=>?_⟩
   rw [mS.mp hb]at e
   have:=(zKU l (n+1) (x:=a.1) (c:=a.2) ha).2
   exact ne_of_gt this e
  ·exact own_apart l n
theorem zFA{β:Type}(x:Str): ∀(l m:List (Str×β)),(l++m).lookup x=(l.lookup x).or (m.lookup x)
 |[],m=>rfl
 |(y,b)::l,m=>by
  rw [cons_append,lookup_cons,lookup_cons]
  cases x==y with
  |true=>rfl
  |false=>exact zFA x l m
theorem zRR{β:Type}{x:Str}: ∀{l:List (Str×β)},(∀c,(x,c)∉l)->l.lookup x=none
 |[],_=>rfl
 |(y,b)::l,h=>by
  rw [lookup_cons]
  cases e:x==y with
  |true=>rw [beq_iff_eq.mp e]at h;exact absurd mF0 (h b)
  |false=>exact zRR λc hc=>h c (mO _ hc)
theorem zAX{env:Env}{sc:Scope}{C:Addr}{x:Str}{c:Addr}(e:(clC env sc C).lookup x=some c):(x,c)∈cellsFrom (C+1) sc.names []\/(zGD env sc.names []).lookup x=some c:=by
 unfold clC at e
 rw [wM,zFA]at e
 cases z:(cellsFrom (C+1) sc.names []).lookup x with
 |some c'=>rw [z]at e;cases e;exact .inl (PySem.mem_of_lookup z)
 |none=>rw [z]at e;exact .inr e
theorem yNN{env:Env}{sc:Scope}{C:Addr}{x:Str}{c:Addr}(h:(x,NameKind.cell)∈sc.names)(e:(clC env sc C).lookup x=some c):(x,c)∈cellsFrom (C+1) sc.names []:=by
 unfold clC at e
 rw [wM,zFA]at e
 obtain⟨c',h'⟩:=hX (zIK sc.names (C+1) h)
 rw [h']at e
 cases e
 exact PySem.mem_of_lookup h'
theorem yIO{env:Env}{sc:Scope}{C:Addr}{x:Str}(h:(x,NameKind.cell)∉sc.names):(clC env sc C).lookup x=(zGD env sc.names []).lookup x:=by
 unfold clC
 rw [wM,zFA,zRR λc hc=>h (zKU _ _ hc).1]
 rfl
def zLR(σ:St)(idx:List Nat):St:=idx.map λi=>(σ[i]?).join
theorem zBY(σ:St)(idx:List Nat):(zLR σ idx).length=idx.length:=by unfold zLR;rw [lM]
def yF(X:Cx)(sc:Scope)(T:List Str)(idx:List Nat)(C:Addr)(s₂:Shared)(H1:Hp)(fp:List Addr):Cx where
 prog:=X.prog
 w:=X.w
 K:=X.K
 mg:=X.mg
 base:=X.base
 A:=X.A
 N:=T++idx.map λi=>(X.N[i]?).getD Str.empty
 s₀:=s₂
 H₀:=H1
 env:=compEnvC sc (clC X.env sc C) C X.env
 outer:=X.stack
 stack:=X.stack
 ex:=fp
 fn:=λx=>sc.names.lookup x==some .cell
 calm:=X.calm
 pn:=[]
 xe:=λ_ _=>False
def yET(wi:TI)(g:TG)(tc:Addr->Shared->Hp->List Addr->TT)(te:Addr->Shared->Hp->List Addr->TE)(nt:Nat)(idx:List Nat):TE:=λσ H Q=>wi σ H λJ H1=> ∃W:Nat->Nat->List V->Hp->Prop,(∃m,W 0 m [] H1)/\ ∀i m ys H2,W i m ys H2->ys.length<=sizeLine/\
 ((J.stop i H2/\ ∀D,H2 D=none->Q (.ref D) (upd H2 D (.lst ys)))\/
   (J.go i H2/\ys.length<sizeLine/\ ∀x H3,J.yld i H2 x H3-> ∀τ:St,τ.length=nt->g x (τ++zLR σ idx) H3 λσ4 H4=>(∃τ',σ4=τ'++zLR σ idx/\τ'.length=nt)/\
    ∀C s₂ fp,tc C s₂ H1 fp σ4 H4 λb H5=>if b=true then te C s₂ H1 fp σ4 H5 λy H6=> ∃m',m'<m/\W (i+1) m' (ys++[y]) H6 else∃m',m'<m/\W (i+1) m' ys H5))
section
variable{prog:Program}{w:World}{A:Around}{R:Result->Shared->Prop}{s:Shared}
theorem zSW{elt target iter:Expr}{ifs:List Expr}{scope:Scope}{pos:Pos}{it acc:Value}{env:Env}(I:Nat->Shared->Prop)
  (turn: ∀n s,I n s->wpAny (model prog w) A (pyNext it) (λr s₁=>match r with
   |none=>R (.ok .next) s₁
   |some v=>wpAny (model prog w) A (letOwnedTupleGo target it v) (λ_ s₁'=>wpAny (model prog w) A (assign target env v) (λ_ s₂=>
     wpAny (model prog w) A (forIn ifs true λc r=>if r=true then do let ok <-isTrue c env (eval c env);pure (ForInStep.yield ok)else pure (ForInStep.yield r)) (λok s₃=>
      if ok=true then wpAny (model prog w) A (eval elt env) (λx s₄=>
       wpAny (model prog w) A (call (.builtin "list.append") [acc,x]) (λ_ s₅=> ∃m,m<n/\I m s₅) (λ_ _=>False) s₄) (λ_ _=>False) s₃
      else∃m,m<n/\I m s₃) (λ_ _=>False) s₂) (λ_ _=>False) s₁') (λ_ _=>False) s₁) (λ_ _=>False) s)
  (n:Nat) (h:I n s):codeAny (model prog w) A (.compLoop (.ListComp elt [⟨target,iter,ifs,0⟩] scope pos) 0 it acc env) R s:=by
 refine codeAny_loop rfl I (λn s hI=>?_) n h
 show wpAny _ A ((compTurn (.ListComp elt [⟨target,iter,ifs,0⟩] scope pos) 0 it acc env).onRaise (λx=>do noteFrame x env;theTreesLotGoes x)) _ _ s
 refine wpAny_noted ?_
 rw [compTurn_list]
 have no: ∀{E':VP}(v:Value)(s':Shared),False->E' v s':=λ_ _ z=>z.elim
 refine wB0 (wpAny_standAt (wB0 (wpAny_mono (turn n s hI) (λr s₁ h₁=>?_) (no))))
 cases r with
 |none=>exact wP0 h₁
 |some v=>
  refine wB0 (wpAny_mono h₁ (λ_ s₁' h₁'=>wB0 (wpAny_mono h₁' (λ_ s₂ h₂=>wB0 (wpAny_mono h₂ (λok s₃ h₃=>?_) no)) no)) no)
  cases ok with
  |false=>exact wP0 ⟨rfl,h₃⟩
  |true=>
   exact wB0 (wB0 (wpAny_mono h₃ (λx s₄ h₄=>wB0 (wpAny_mono h₄ (λ_ s₅ h₅=>wP0 (wP0 ⟨rfl,h₅⟩)) no)) no))
end
def yCP(X:Cx)(ifs:List Expr)(t:TT):Prop:=
 ∀(pins:List (Addr×Obj))(s:Shared)(σ:St)(H:Hp)(Q:Bool->Hp->Prop),Inv X pins σ H s->t σ H Q->
  wpAny (model X.prog X.w) X.A (forIn ifs true λc r=>if r=true then do let ok <-isTrue c X.env (eval c X.env);pure (ForInStep.yield ok)else pure (ForInStep.yield r)) (TP X pins σ Q) X.xe s
def tNoIf:TT:=λ_ H Q=>Q true H
theorem yEU{X:Cx}:yCP X [] tNoIf:=λ_ _ _ H _ I h=>wpAny_tests_nil ⟨H,I,h⟩
theorem yEV{X:Cx}{c:Expr}{t:TT}(h:PT X c t):yCP X [c] t:=λpins s σ H Q I q=>wpAny_tests_one (h pins s σ H Q I q)
structure CompF(osc:Scope)(N:List Str)(sc:Scope)(idx:List Nat):Prop where
 kind:sc.kind=.function
 uni: ∀y∈sc.names,sc.names.lookup y.1=some y.2
 frees: ∀y∈sc.names,y.2=.free->osc.names.lookup y.1=some .cell\/osc.names.lookup y.1=some .free
 cap: ∀i∈idx, ∃y,N[i]? =some y/\(osc.names.lookup y=some .cell\/osc.names.lookup y=some .free)/\sc.names.lookup y=some .free
theorem CompF.locs{osc:Scope}{N:List Str}{sc:Scope}{idx:List Nat}(F:CompF osc N sc idx): ∀y∈sc.names,y.2=.local->sc.names.lookup y.1=some .local:=λy hy e=>by rw [F.uni y hy,e]
theorem yIP{osc:Scope}{N:List Str}{sc:Scope}{idx:List Nat}(h:zMY osc N sc idx=true):CompF osc N sc idx:=by
 unfold zMY at h
 simp only [aE,all_eq_true,decide_eq_true_eq,or_eq_true]at h
 obtain⟨⟨⟨h1,h2⟩,h4⟩,h5⟩:=h
 refine⟨h1,λy hy=>h2 y hy,λy hy e=>?_,λi hi=>?_⟩
 ·rcases h4 y hy with(z|z)|z
  ·exact absurd e z
  ·exact .inl z
  ·exact .inr z
 ·have q:=h5 i hi
  cases e:N[i]? with
  |none=>rw [e]at q;cases q
  |some y=>
   rw [e]at q
   simp only [aE,decide_eq_true_eq,or_eq_true]at q
   exact⟨y,rfl,q.1,q.2⟩
theorem yEW{sc osc:Scope}{x:Str}(h:(yCO sc osc).lookup x=some .cell\/(yCO sc osc).lookup x=some .free):(x,NameKind.free)∈sc.names\/(x,NameKind.cell)∈sc.names:=by
 have key: ∀k',(k'=.cell\/k'=.free)->(x,k')∈yCO sc osc->(x,NameKind.free)∈sc.names\/(x,NameKind.cell)∈sc.names:=by
  intro k' hk' hm
  unfold yCO at hm
  obtain⟨⟨n,k⟩,hy,e⟩:=mM.mp hm
  dsimp only at e
  split at e
  ·rename_i hc
   cases e
   rw [aE,aE]at hc
   have:k=.free:=by simpa using hc.1.1
   subst this
   exact .inl hy
  ·cases e
   rcases hk' with rfl|rfl
   ·exact .inr hy
   ·exact .inl hy
 rcases h with h|h
 ·exact key _ (.inl rfl) (PySem.mem_of_lookup h)
 ·exact key _ (.inr rfl) (PySem.mem_of_lookup h)
theorem zRS{osc:Scope}{x:Str}: ∀{l:List (Str×NameKind)},l.lookup x=some .free->(l.map λ(n,k)=>if(k==NameKind.free&&osc.kind==.function&&osc.names.lookup n==some .cell)then(n,NameKind.cell)else(n,k)).lookup x=some .cell\/(l.map λ(n,k)=>if(k==NameKind.free&&osc.kind==.function&&osc.names.lookup n==some .cell)then(n,NameKind.cell)else(n,k)).lookup x=some .free
 |[],h=>by simp at h
 |(n,k)::l,h=>by
  have ih:=@zRS osc x l
  rw [lookup_cons]at h
  rw [map_cons]
  by_cases hc:(k==NameKind.free&&osc.kind==.function&&osc.names.lookup n==some .cell)=true
  ·dsimp only
   rw [iP hc,lookup_cons]
   cases hx:x==n with
   |true=>exact .inl rfl
   |false=>rw [hx]at h;exact ih h
  ·dsimp only
   rw [iN hc,lookup_cons]
   cases hx:x==n with
   |true=>rw [hx]at h;exact .inr h
   |false=>rw [hx]at h;exact ih h
section
variable{X:Cx}{pins:List (Addr×Obj)}{σ:St}{H1:Hp}{s₂:Shared}{sc:Scope}{T:List Str}{idx:List Nat}{C:Addr}{fp:List Addr}
theorem zVK(I:Inv X pins σ H1 s₂)(F:CompF X.env.scope X.N sc idx): ∀y∈sc.names,y.2=.free-> ∃c,X.env.cells.lookup y.1=some c:=
 λy hy e=>I.ok.has y.1 (F.frees y hy e)
theorem jL(I:Inv X pins σ H1 s₂)(F:CompF X.env.scope X.N sc idx){x:Str}{c:Addr}(e:(zGD X.env sc.names []).lookup x=some c):X.env.cells.lookup x=some c:=
 zMX sc.names [] (zVK I F) (λ_ z=>nomatch z) (x,c) (PySem.mem_of_lookup e)
theorem yIQ(I:Inv X pins σ H1 s₂)(F:CompF X.env.scope X.N sc idx){x:Str}{c:Addr}(hx:(x,NameKind.free)∈sc.names)(e:X.env.cells.lookup x=some c):(zGD X.env sc.names []).lookup x=some c:=by
 obtain⟨c',h'⟩:=hX (zGP (env:=X.env) sc.names [] x hx)
 rw [h']
 rw [jL I F h']at e
 exact e
theorem yCQ(I:Inv X pins σ H1 s₂)(F:CompF X.env.scope X.N sc idx)(hC:s₂.heap.objs.size<=C)(hfp: ∀b∈fp,zKT X pins H1 b)(hlt: ∀b∈fp,b<s₂.heap.objs.size):(yF X sc T idx C s₂ H1 fp).Ok where
 mod:=I.ok.mod
 kind:=F.kind
 glob:=I.ok.glob
 blt:=I.ok.blt
 above:=hC
 inj:=λx y c h1 h2=>by
  have low: ∀z,(zGD X.env sc.names []).lookup z=some c->c<s₂.heap.objs.size:=λz h=>let ⟨v,q⟩:=I.cell z c (jL I F h);q.lt
  rcases zAX h1 with z1|z1<;>rcases zAX h2 with z2|z2
  ·exact PySem.name_of_addr (own_apart sc.names (C+1)) z1 z2
  ·exact absurd (low y z2) (not_lt.mpr (le_of_lt (zJY z1 hC)))
  ·exact absurd (low x z1) (not_lt.mpr (le_of_lt (zJY z2 hC)))
  ·exact I.ok.inj x y c (jL I F z1) (jL I F z2)
 has:=λx hx=>by
  have hx':(yCO sc X.env.scope).lookup x=some .cell\/(yCO sc X.env.scope).lookup x=some .free:=hx
  show∃c,(clC X.env sc C).lookup x=some c
  unfold clC
  rw [wM]
  rcases yEW hx' with z|z
  ·obtain⟨c,hc⟩:=zGP (env:=X.env) sc.names [] x z
   exact hX ⟨c,mem_append_right _ hc⟩
  ·obtain⟨c,hc⟩:=zIK sc.names (C+1) z
   exact hX ⟨c,mem_append_left _ hc⟩
 cab:=λx c h e=>by
  have h':sc.names.lookup x=some .cell:=beq_iff_eq.mp h
  exact le_of_lt (zJY (yNN (PySem.mem_of_lookup h') e) hC)
 hd:=I.ok.hd
 frames:=I.ok.frames
 stk:=.inl rfl
 exf:=λb hb=>⟨ne_of_lt (lt_of_lt_of_le (hlt b hb) hC),λx c e=>by
  rcases zAX e with z|z
  ·exact ne_of_gt (lt_trans (hlt b hb) (zJY z hC))
  ·exact(hfp b hb).2.2.2.2.1 x c (jL I F z)⟩
 bs:=I.bs
 bsz:=le_trans I.ok.bsz I.sz
 noex:=λb o e hb=>by
  rcases (hfp b hb).2.2.2.1 with z|z
  ·exact I.ok.noex b o e z
  ·exact absurd (lt_of_lt_of_le (Heap.lt_size e) (le_trans I.ok.bsz z)) (lt_irrefl _)
 exfs:=λb hb z=>by
  rcases mC.mp (I.stkSub b z)with e|e
  ·exact(hfp b hb).2.1 e
  ·exact(hfp b hb).2.2.1 e
 funs:=I.stack
 frf:=I.stkFree
theorem zYM{s₄:Shared}{m:Str->Option Value}(I:Inv X pins σ H1 s₂)(F:CompF X.env.scope X.N sc idx)(hC:s₂.heap.objs.size<=C)(hfp: ∀b∈fp,zKT X pins H1 b)(hlt: ∀b∈fp,b<s₂.heap.objs.size)
  (kp: ∀b o,s₂.heap.get? b=some o->s₄.heap.get? b=some o) (ho:s₄.os=s₂.os) (hg:s₄.gens=s₂.gens) (hn:s₄.heap.Ns C m) (hcl: ∀x c,(x,c)∈cellsFrom (C+1) sc.names []->s₄.heap.IsCell c none):
  Inv (yF X sc T idx C s₂ H1 fp) [] (T.map (λ_=>none)++zLR σ idx) H1 s₄:=by
 have cellK: ∀c v,s₂.heap.IsCell c v->s₄.heap.IsCell c v:=λc v ⟨o,h1,h2⟩=>⟨o,kp c o h1,h2⟩
 refine⟨yCQ I F hC hfp hlt,ho,by rw [hg];exact I.bare,Un.kept kp,⟨m,hn,λi x v e1 e2 e3=>?_⟩,λx c e=>?_,I.hok.fresh hC,λx c e=>?_,λp hp=>absurd (show p∈([]:List (Addr×Obj))from hp) (by simp),I.hok.kept kp,?_⟩
 ·have e1':(T++idx.map λi=>(X.N[i]?).getD Str.empty)[i]? =some x:=e1
  by_cases hi:i<T.length
  ·rw [getElem?_append_left (by simpa using hi),getElem?_map]at e2
   cases z:T[i]? with
   |none=>rw [z]at e2;cases e2
   |some y=>rw [z]at e2;cases e2
  ·rw [getElem?_append_right (by simpa using hi)]at e2
   rw [getElem?_append_right (by omega)]at e1'
   rw [lM]at e2
   unfold zLR at e2
   rw [getElem?_map]at e1' e2
   cases z:idx[i - T.length]? with
   |none=>rw [z]at e2;cases e2
   |some j=>
    rw [z]at e1' e2
    have hj:j∈idx:=mem_of_getElem? z
    obtain⟨y,hy,k1,k2⟩:=F.cap j hj
    have ex:y=x:=by
     have q:(X.N[j]?).getD Str.empty=x:=Option.some.inj e1'
     rw [hy]at q;exact q
    subst ex
    have ev:σ[j]? =some (some v):=by
     have q:(σ[j]?).join=some v:=Option.some.inj e2
     cases w':σ[j]? with
     |none=>rw [w']at q;cases q
     |some a=>rw [w']at q;have q':a=some v:=q;rw [q']
    obtain⟨m0,hn0,hl0⟩:=I.loc
    have vis:Vis X.env.scope y:=k1.elim (λz=>.inr (.inl z)) λz=>.inr (.inr z)
    obtain⟨u,r,l⟩:=hl0 j y v hy ev vis
    refine⟨u,r,?_⟩
    rcases l with⟨kl,_⟩|⟨_,c,hc,q⟩
    ·have kl':X.env.scope.names.lookup y=some .local:=kl
     rcases k1 with z|z<;>rw [z]at kl'<;>cases kl'
    ·have nc:(y,NameKind.cell)∉sc.names:=λz=>by
      have:=F.uni _ z
      rw [k2]at this
      cases this
     refine .inr ⟨zRS (osc:=X.env.scope) k2,c,?_,cellK c _ q⟩
     show(clC X.env sc C).lookup y=some c
     rw [yIO nc]
     exact yIQ I F (PySem.mem_of_lookup k2) hc
 ·rcases zAX e with z|z
  ·exact⟨none,hcl x c z⟩
  ·obtain⟨v,q⟩:=I.cell x c (jL I F z)
   exact⟨v,cellK c v q⟩
 ·rcases zAX e with z|z
  ·exact I.hok.fresh (le_of_lt (zJY z hC))
  ·exact I.freeC x c (jL I F z)
 ·show(T.map (λ_=>(none:Option V))++zLR σ idx).length=(T++idx.map λi=>(X.N[i]?).getD Str.empty).length
  rw [lA,lA,lM,lM,zBY]
theorem zYN{σ1:St}{H':Hp}{s':Shared}{h':Heap}{D:Addr}{ys:List V}{its:List Value}{n:Nat}(I:Inv X pins σ H1 s₂)(hC:s₂.heap.objs.size<=C)(hfp: ∀b∈fp,zKT X pins H1 b)
  (J:Inv (yF X sc T idx C s₂ H1 fp) [] σ1 H' s') (hs:Heap.SameBut C s'.heap h') (hD:s₂.heap.objs.size<=D) (hDC:D≠C) (eD:s'.heap.get? D=some {cls:=.type "list",data:=.seq its.toArray n}) (nD:H' D=none) (r:Vals ys its) (hz:ys.length<=sizeLine):
  Inv X pins σ (upd H' D (.lst ys)) {s' with heap:=h'}:=by
 have old: ∀b o,s₂.heap.get? b=some o->b≠C/\b≠D:=λb o e=>⟨ne_of_lt (lt_of_lt_of_le (Heap.lt_size e) hC),ne_of_lt (lt_of_lt_of_le (Heap.lt_size e) hD)⟩
 have oldH: ∀b u,H1 b=some u->b≠D:=λb u e=>ne_of_lt (lt_of_lt_of_le (I.hok.lt e) hD)
 have nC:H' C=none:=J.free
 have B:Un (frs X.stack) fp H1 H' s₂.heap s'.heap:=J.base
 have mv: ∀b o,b≠C->s'.heap.get? b=some o->h'.get? b=some o:=λb o hb e=>(hs.2 b hb).trans e
 refine I.call' (s':={s' with heap:=h'}) (ch:=fp) J.os ⟨λb o e q hb hx=>?_,λb o e q hb hx=>?_,λb o e q hx=>?_,λb o e hx=>?_,λb xs e=>?_,λb o u e=>?_,λb ps e=>?_⟩ ?_ J.bare λb hb=>⟨(hfp b hb).2.2.2.1,(hfp b hb).2.1,(hfp b hb).2.2.2.2.1,(hfp b hb).2.2.2.2.2⟩
 ·exact mv b o (old b o e).1 (B.keep b o e q hb hx)
 ·obtain⟨sl,z⟩:=B.slot b o e q hb hx
  exact⟨sl,mv b _ (old b o e).1 z⟩
 ·rw [yG (old b o e).2];exact B.free b o e q hx
 ·obtain⟨o',z⟩:=B.there b o e hx
  exact⟨o',mv b o' (old b o e).1 z⟩
 ·rw [yG (oldH b _ e)];exact B.tups b xs e
 ·rw [yG (oldH b _ e)];exact B.frzs b o u e
 ·obtain⟨more,z⟩:=B.tbls b ps e
  exact⟨more,by rw [yG (oldH b _ e)];exact z⟩
 ·intro b u e
  by_cases hb:b=D
  ·subst hb
   rw [wL]at e;cases e
   exact⟨hz,its,n,r,mv b _ hDC eD⟩
  ·rw [yG hb]at e
   refine(J.hok b u e).stay (λc v hc q=>mv c v ?_ q) (λc q=>by rw [yG (xB q nD)];exact q) λc xs q=>by rw [yG (xB q nD)];exact q
   rcases hc with z|z
   ·rw [z];exact xB e nC
   ·exact xB z nC
end
section
variable{X:Cx}
theorem zQQ{M:Model}{A:Around}{E:VP}{s:Shared}{scope:Scope}{globals:Addr}{closure:List (Str×Addr)}{qual:Str}{outer:Env}{Q:Env->Shared->Prop}
  (hQ:Q (newEnv scope s.heap.objs.size globals (cellsFrom (s.heap.objs.size+1) scope.names closure) qual none .none (some outer) builtinsNs) {s with heap:=pushCells (s.heap.push {cls:=.type "dict",data:=.dict #[]}) scope.names}):
  wpAny M A (newFunctionEnv scope globals closure [] qual none .none (some outer)) Q E s:=by
 simp only [newFunctionEnv,Option.isSome_some,if_true]
 refine wB0 (wpAny_alloc ?_)
 refine wB0 (wpAny_layCells _ (λname kind cells=>by cases hkc:kind==NameKind.cell<;>simp [hkc]) _ _ _ _ ?_)
 rw [show({s with heap:=s.heap.push {cls:=.type "dict",data:=.dict #[]}}:Shared).heap.objs.size=s.heap.objs.size+1 from Heap.size_push ..]
 simp only [forIn_nil]
 exact wB0 (wP0 (wP0 hQ))
theorem zVL{elt tg iter:Expr}{ifs:List Expr}{pos:Pos}{sc:Scope}{wi:TI}{g:TG}{tc:Addr->Shared->Hp->List Addr->TT}{te:Addr->Shared->Hp->List Addr->TE}(T:List Str)(idx:List Nat)
  (hi:PI X tg iter wi) (hcalm:X.calm=true) (hB:zMY X.env.scope X.N sc idx=true)
  (hg: ∀C s₂ H1 fp,PG (yF X sc T idx C s₂ H1 fp) tg g)
  (hc: ∀C s₂ H1 fp,yCP (yF X sc T idx C s₂ H1 fp) ifs (tc C s₂ H1 fp))
  (he: ∀C s₂ H1 fp,PE (yF X sc T idx C s₂ H1 fp) elt (te C s₂ H1 fp))
  (hs: ∀x,foldedSetIterable iter X.env x=pure x:=by intro _;rfl)
  {pins:List (Addr×Obj)} {s:Shared} {σ:St} {H:Hp} {Q:VK} {use:Option (Value->Sem Unit)} {Q':VP} (I:Inv X pins σ H s) (h:yET wi g tc te T.length idx σ H Q)
  (fin: ∀(D C:Addr)(s4:Shared)(H':Hp)(r:_),(∀h',Heap.SameBut C s4.heap h'->Inv X pins σ H' {s4 with heap:=h'})->zKT X pins H' C->(∃m,s4.heap.Ns C m)->Q (.ref D) H'->
   compPost (model X.prog X.w) X.A X.xe use Q' (.ref D) C (.ok r) s4):
  wpAny (model X.prog X.w) X.A (comprehension (.ListComp elt [⟨tg,iter,ifs,0⟩] sc pos) sc X.env (firstIterPos [⟨tg,iter,ifs,0⟩] pos) (newList []) false (eval iter X.env) use) Q' X.xe s:=by
 have cf:=yIP hB
 refine wpAny_comprehension_free (use:=use) (cl:=zGD X.env sc.names []) rfl hs (zQP (zVK I cf)) cf.kind cf.locs ?_
 refine thn (hi pins s σ H _ I h) λv s1 h1=>thn h1 λitv s2 h2=>?_
 obtain⟨it,fp,tn,J,H2,e,I2,Tn,st2,f2,W,⟨m0,w0⟩,turn⟩:=h2
 subst e
 have hlt: ∀b∈fp,b<s2.heap.objs.size:=λb hb=>let ⟨o,e,_⟩:=Tn.obj _ _ st2 b hb;Heap.lt_size e
 refine wpAny_newObj_type (zQQ ?_)
 dsimp only
 generalize hH2:s2.heap.push {cls:=.type "list",dict:=none,data:=.seq ([]:List Value).toArray}=HH
 generalize hh1:pushCells (HH.push {cls:=.type "dict",data:=.dict #[]}) sc.names=h₁
 have hns₁:h₁.Ns HH.objs.size (λ_=>none):=hh1▸(Heap.Ns.new HH (.type "dict")).keeps (pushCells_keeps _ _)
 have hC:HH.objs.size=s2.heap.objs.size+1:=by rw [<-hH2,Heap.size_push]
 have hDC:s2.heap.objs.size≠HH.objs.size:=by rw [hC];exact ne_of_lt (lt_succ_self _)
 have hCle:s2.heap.objs.size<=HH.objs.size:=by rw [hC];exact le_succ _
 have up1: ∀b o,HH.get? b=some o->h₁.get? b=some o:=λb o e=>hh1▸pushCells_keeps _ _ b o (hP0 _ e)
 have old: ∀b o,s2.heap.get? b=some o->h₁.get? b=some o:=λb o e=>up1 b o (hH2▸hP0 _ e)
 have eD0:h₁.get? s2.heap.objs.size=some {cls:=.type "list",data:=.seq ([]:List Value).toArray 0}:=up1 _ _ (hH2▸Heap.get?_push_size _ rfl)
 have hcl: ∀x c,(x,c)∈cellsFrom (HH.objs.size+1) sc.names []->h₁.IsCell c none:=λx c hm=>by
  have ok:=cellsFrom_ok sc.names (HH.push {cls:=.type "dict",data:=.dict #[]}) 0 [] ⟨λ_ _ hm=>(nomatch hm),List.Pairwise.nil⟩ (zero_le _)
  rw [Heap.size_push,hh1]at ok
  exact(ok.empty x c hm).1
 have nD0:H2 s2.heap.objs.size=none:=I2.hok.fresh (le_refl _)
 have cD: ∀x c,(clC X.env sc HH.objs.size).lookup x=some c->c≠s2.heap.objs.size:=λx c e=>by
  rcases zAX e with z|z
  ·exact ne_of_gt (zJY z hCle)
  ·obtain⟨v,q⟩:=I2.cell x c (jL I2 cf z)
   exact ne_of_lt q.lt
 have loop: ∀s4:Shared,s4={s2 with heap:=h₁}->
   codeAny (model X.prog X.w) X.A (.compLoop (.ListComp elt [⟨tg,iter,ifs,0⟩] sc pos) 0 (.ref it) (.ref s2.heap.objs.size) (compEnvC sc (clC X.env sc HH.objs.size) HH.objs.size X.env))
    (compPost (model X.prog X.w) X.A X.xe use Q' (.ref s2.heap.objs.size) HH.objs.size) s4:=by
  rintro s4 rfl
  have J0:Inv (yF X sc T idx HH.objs.size s2 H2 fp) [] (T.map (λ_=>none)++zLR σ idx) H2 {s2 with heap:=h₁}:=
   zYM I2 cf hCle f2 hlt old rfl rfl hns₁ hcl
  refine zSW (λk s'=> ∃(i:Nat)(ys:List V)(its:List Value)(n:Nat)(H':Hp)(τ:St),Inv (yF X sc T idx HH.objs.size s2 H2 fp) [] (τ++zLR σ idx) H' s'/\τ.length=T.length/\tn i s'.heap/\(∀b∈fp,H' b=none)/\
   s'.heap.get? s2.heap.objs.size=some {cls:=.type "list",data:=.seq its.toArray n}/\H' s2.heap.objs.size=none/\Vals ys its/\W i k ys H') ?_ m0
   ⟨0,[],[],0,H2,T.map (λ_=>none),J0,by rw [lM],Tn.keep _ _ _ st2 λb _ o e=>old b o e,λb hb=>(f2 b hb).1,eD0,nD0,.nil,w0⟩
  rintro k s3 ⟨i,ys,its,n,H3,τ,I3,hτ,st3,fr3,eD3,nD3,r3,w3⟩
  obtain⟨hz,alt⟩:=turn i k ys H3 w3
  have hDfs:s2.heap.objs.size∉(yF X sc T idx HH.objs.size s2 H2 fp).fs:=λz=>by
   obtain⟨_,o,ho,_⟩:=I2.stack.mem (show s2.heap.objs.size∈frs X.stack from z)
   exact absurd (Heap.lt_size ho) (lt_irrefl _)
  have pinD: ∀{H':Hp}{s':Shared},s'.heap.get? s2.heap.objs.size=some {cls:=.type "list",data:=.seq its.toArray n}->H' s2.heap.objs.size=none->
    ∀p∈[(s2.heap.objs.size,({cls:=.type "list",data:=.seq its.toArray n}:Obj))],s'.heap.get? p.1=some p.2/\H' p.1=none/\p.1≠(yF X sc T idx HH.objs.size s2 H2 fp).env.locals/\p.1∉(yF X sc T idx HH.objs.size s2 H2 fp).fs/\ ∀v,p.2.data≠.cell v:=
   λ{H' s'} e1 e2 p hp=>by
    have ep:p=(s2.heap.objs.size,{cls:=.type "list",data:=.seq its.toArray n}):=by simpa using hp
    subst ep
    exact⟨e1,e2,hDC,hDfs,λv z=>by cases z⟩
  have P3:Inv (yF X sc T idx HH.objs.size s2 H2 fp) [(s2.heap.objs.size,{cls:=.type "list",data:=.seq its.toArray n})] (τ++zLR σ idx) H3 s3:=I3.pins_of (pinD eD3 nD3)
  have stat: ∀{H':Hp},(∀b∈fp,H' b=none)-> ∀b∈fp,zKT (yF X sc T idx HH.objs.size s2 H2 fp) [(s2.heap.objs.size,{cls:=.type "list",data:=.seq its.toArray n})] H' b:=λ{H'} hn b hb=>by
   have hb2:=hlt b hb
   refine⟨hn b hb,ne_of_lt (lt_of_lt_of_le hb2 hCle),I3.ok.exfs b hb,.inl hb,λx c e=>?_,λp hp=>?_⟩
   ·rcases zAX e with z|z
    ·exact ne_of_gt (lt_trans hb2 (zJY z hCle))
    ·exact(f2 b hb).2.2.2.2.1 x c (jL I2 cf z)
   have ep:p=(s2.heap.objs.size,({cls:=.type "list",data:=.seq its.toArray n}:Obj)):=by simpa [yF]using hp
   subst ep
   exact ne_of_gt hb2
  rcases alt with⟨stop,q⟩|⟨go,hl2,step⟩
  ·refine thn (Tn.done (yF X sc T idx HH.objs.size s2 H2 fp) rfl rfl rfl hcalm i _ s3 _ H3 (λ_ _=>False) P3 (stat fr3) st3 stop) λr s4 ⟨hr,I4⟩=>?_
   subst hr
   obtain⟨m,hn,_⟩:=id I4.loc
   have eD4:=(I4.pin (s2.heap.objs.size,{cls:=.type "list",data:=.seq its.toArray n}) (by simp)).1
   exact fin _ _ s4 _ _ (λh' hs'=>zYN I2 hCle f2 (I4.pins_of (λp hp=>nomatch hp)) hs' (le_refl _) hDC eD4 nD3 r3 hz) (I2.fpOk hCle (by rw [yG (Ne.symm hDC)];exact I4.free)) ⟨m,hn⟩ (q _ nD3)
  ·refine thn (Tn.item (yF X sc T idx HH.objs.size s2 H2 fp) rfl rfl rfl hcalm i _ s3 _ H3 (λ_ _=>False) P3 (stat fr3) st3 go) λr s4 ⟨u,hr,h4⟩=>?_
   subst hr
   refine thn h4 λ_ s5 ⟨x,H5,I5,r5,y5,st5,fr5⟩=>?_
   have I5':=I5.pinned (stat fr5) (Tn.obj _ _ st5)
   refine thn (hg HH.objs.size s2 H2 fp _ s5 _ H5 x u _ I5' r5 (step x H5 y5 τ hτ)) λ_ s6 ⟨σ6,H6,I6,⟨τ',e6,l6⟩,q6⟩=>?_
   subst e6
   refine thn (hc HH.objs.size s2 H2 fp _ s6 _ H6 _ I6 (q6 HH.objs.size s2 fp)) λok s7 ⟨H7,I7,q7⟩=>?_
   have mD:(s2.heap.objs.size,({cls:=.type "list",data:=.seq its.toArray n}:Obj))∈(yF X sc T idx HH.objs.size s2 H2 fp).pn++([(s2.heap.objs.size,{cls:=.type "list",data:=.seq its.toArray n})]++zLQ fp s5.heap):=
    mem_append_right _ (mem_append_left _ (by simp))
   have mF: ∀b∈fp, ∀o,s5.heap.get? b=some o->(b,o)∈(yF X sc T idx HH.objs.size s2 H2 fp).pn++([(s2.heap.objs.size,{cls:=.type "list",data:=.seq its.toArray n})]++zLQ fp s5.heap):=λb hb o e=>
    mem_append_right _ (mem_append_right _ (zJW hb e))
   cases ok with
   |false=>
    rw [iN xF0]at q7 ⊢
    obtain⟨m',hm',w7⟩:=q7
    refine⟨m',hm',i+1,ys,its,n,H7,τ',I7.pins_of (λp hp=>nomatch hp),l6,Tn.keep _ _ _ st5 λb hb o e=>(I7.pin _ (mF b hb o e)).1,λb hb=>?_,(I7.pin _ mD).1,(I7.pin _ mD).2.1,r3,w7⟩
    obtain⟨o,e,d⟩:=Tn.obj _ _ st5 b hb
    exact(I7.pin _ (mF b hb o e)).2.1
   |true=>
    rw [iP rfl]at q7 ⊢
    refine thn (he HH.objs.size s2 H2 fp _ s7 _ H7 _ I7 q7) λy s8 ⟨yv,H8,I8,r8,m',hm',w8⟩=>?_
    have eD8:=(I8.pin _ mD).1
    have nD8:=(I8.pin _ mD).2.1
    have hl:=r3.length
    have q:=PySem.IsL.update eD8 (λz=>z.push y)
    rw [show its.toArray.push y=(its++[y]).toArray by simp]at q
    refine call_meets PySem.F.slot_list_append ⟨_,eD8,rfl⟩ PySem.F.entry_list_append (PySem.F.args_list_append_2 _ _) (PySem.list_append s2.heap.objs.size its.toArray n y (by rw [sA];omega)) ⟨eD8,?_⟩
    have I9:Inv (yF X sc T idx HH.objs.size s2 H2 fp) [] (τ'++zLR σ idx) H8 s8:=I8.pins_of (λp hp=>nomatch hp)
    have up: ∀b o,b≠s2.heap.objs.size->s8.heap.get? b=some o->(s8.heap.update s2.heap.objs.size (Obj.mapSeq λz=>z.push y)).get? b=some o:=λb o hb e=>(Heap.get?_update_other s8.heap _ (Ne.symm hb)).trans e
    refine⟨m',hm',i+1,ys++[yv],its++[y],_,H8,τ',I9.turned (t':=s8.toks) up nD8 hDC (.inr (le_refl _)) cD (λp hp=>nomatch hp),l6,?_,λb hb=>?_,q,nD8,r3.append (.cons r8 .nil),w8⟩
    ·exact Tn.keep _ _ _ st5 λb hb o e=>up b o (ne_of_lt (hlt b hb)) (I8.pin _ (mF b hb o e)).1
    ·obtain⟨o,e,d⟩:=Tn.obj _ _ st5 b hb
     exact(I8.pin _ (mF b hb o e)).2.1
 exact codeAny_compStart_list (loop _ rfl) (Tn.self X.A 0 _ _ _ (Tn.keep _ _ _ st2 λb _ o e=>old b o e) (loop _ rfl))
theorem yIR{elt tg iter:Expr}{ifs:List Expr}{pos:Pos}{sc:Scope}{wi:TI}{g:TG}{tc:Addr->Shared->Hp->List Addr->TT}{te:Addr->Shared->Hp->List Addr->TE}(T:List Str)(idx:List Nat)
  (hi:PI X tg iter wi) (hcalm:X.calm=true) (hB:zMY X.env.scope X.N sc idx=true)
  (hg: ∀C s₂ H1 fp,PG (yF X sc T idx C s₂ H1 fp) tg g)
  (hc: ∀C s₂ H1 fp,yCP (yF X sc T idx C s₂ H1 fp) ifs (tc C s₂ H1 fp))
  (he: ∀C s₂ H1 fp,PE (yF X sc T idx C s₂ H1 fp) elt (te C s₂ H1 fp))
  (hs: ∀x,foldedSetIterable iter X.env x=pure x:=by intro _;rfl):
  PE X (.ListComp elt [⟨tg,iter,ifs,0⟩] sc pos) (yET wi g tc te T.length idx):=by
 intro pins s σ H Q I h
 rw [eval_ListComp]
 exact zVL T idx hi hcalm hB hg hc he hs (use:=none) I h λD C s4 H' r J _ ⟨m,hn⟩ q=>⟨m,hn,λh' hs'=>⟨.ref D,H',J h' hs',rfl,q⟩⟩
end
def mkS(x:List Nat):Str:=⟨x.toArray⟩
theorem yT(x:List Nat):(mkS x).length=x.length:=by simp [mkS,Str.length]
theorem gF(x:List Nat):(mkS x).cps.toList=x:=by simp [mkS]
theorem zKV{x y:List Nat}(h:mkS x=mkS y):x=y:=by
 have:=congrArg (λs=>s.cps.toList) h
 simpa [mkS]using this
theorem zSX(x y:List Nat):mkS x++mkS y=mkS (x++y):=by
 show Str.append (mkS x) (mkS y)=_
 simp [Str.append,mkS]
theorem yAH(c:Nat):(⟨#[c]⟩:Str)=mkS [c]:=rfl
def cN{α:Type}(xs:List α)(lo hi:Option Int):List α:=(xs.drop (HT.sIx xs.length 0 lo)).take (HT.sIx xs.length xs.length hi - HT.sIx xs.length 0 lo)
theorem strIdx(lo hi:Option Int)(n:Nat):Builtin.Str.strSliceIndices lo hi 1 n=(List.range (HT.sIx n n hi - HT.sIx n 0 lo)).map (HT.sIx n 0 lo+·):=by
 have e1:(match lo with |none=>(if(1:Int)>0 then(0:Int)else(n:Int) - 1)|some i=>if(1:Int)>0 then max 0 (min (if i<0 then i+(n:Int)else i) (n:Int))else max (-1) (min (if i<0 then i+(n:Int)else i) ((n:Int) - 1)))=((HT.sIx n 0 lo:Nat):Int):=by
  cases lo with
  |none=>simp [HT.sIx]
  |some i=>
   simp only [HT.sIx,show(1:Int)>0 by decide,if_true]
   by_cases h:i<0
   ·simp only [h,if_true];omega
   ·simp only [h,iF];omega
 have e2:(match hi with |none=>(if(1:Int)>0 then(n:Int)else -1)|some i=>if(1:Int)>0 then max 0 (min (if i<0 then i+(n:Int)else i) (n:Int))else max (-1) (min (if i<0 then i+(n:Int)else i) ((n:Int) - 1)))=((HT.sIx n n hi:Nat):Int):=by
  cases hi with
  |none=>simp [HT.sIx]
  |some i=>
   simp only [HT.sIx,show(1:Int)>0 by decide,if_true]
   by_cases h:i<0
   ·simp only [h,if_true];omega
   ·simp only [h,iF];omega
 rw [<-sliceRange_one]
 unfold Builtin.Str.strSliceIndices
 dsimp only
 rw [<-e1, <-e2]
 cases lo<;>cases hi<;>rfl
theorem yCR(x:List Nat)(lo hi:Option Int):Txt.slice (mkS x) lo hi=mkS (cN x lo hi):=by
 unfold Txt.slice
 rw [strIdx,yT]
 have hp:((List.range (HT.sIx x.length x.length hi - HT.sIx x.length 0 lo)).map (HT.sIx x.length 0 lo+·)).filterMap ((mkS x).cps[·]?)=cN x lo hi:=by
  have:=pick_run (mkS x).cps (HT.sIx x.length 0 lo) (HT.sIx x.length x.length hi - HT.sIx x.length 0 lo)
  rw [gF]at this
  exact this
 rw [hp]
 split
 ·rename_i hc
  rw [aE]at hc
  have hl:HT.sIx x.length x.length hi - HT.sIx x.length 0 lo=x.length:=by simpa using hc.2
  have h2:HT.sIx x.length x.length hi<=x.length:=HT.sIx_le _ _ (le_refl _) _
  have h3:HT.sIx x.length 0 lo<=x.length:=HT.sIx_le _ _ (zero_le _) _
  have e:HT.sIx x.length 0 lo=0:=by omega
  unfold cN
  rw [hl,e]
  simp
 ·rfl
section
variable{X:Cx}
def rSlS:V->Option Int->Option Int->Hp->VK->Prop:=λx lo hi H Q=> ∃cs,x=.str (mkS cs)/\cs.length<=sizeLine/\Q (.str (mkS (cN cs lo hi))) H
theorem yNO:SlR X rSlS:=by
 intro pins s σ H x v vl vu lo hi sl Q I rx hs pl pu h
 obtain⟨cs,rfl,hz,q⟩:=h
 obtain⟨t,rfl⟩:=rx
 have hl:(Txt.slice (mkS cs) lo hi).length<=sizeLine:=le_trans (Txt.slice_le _ _ _) (by rw [yT];exact hz)
 rw [<-yCR]at q
 refine⟨"str",_,slot_str_getitem.lookup,typeIs_str _ _ _,?_⟩
 obtain⟨o,ho,hc,hd⟩:=hs
 cases pl with
 |none=>
  cases pu with
  |none=>exact wpAny_getItem_str_slice (l:=none) (u:=none) (st:=none) ⟨o,ho,hc,hd⟩ rfl (post_val_or_str ⟨hl,λt' k=>⟨.str _,H,I.tok _,⟨_,rfl⟩,q⟩⟩)
  |int j uj=>exact wpAny_getItem_str_slice (l:=none) (u:=some (j,uj)) (st:=none) ⟨o,ho,hc,hd⟩ rfl (post_val_or_str ⟨hl,λt' k=>⟨.str _,H,I.tok _,⟨_,rfl⟩,q⟩⟩)
 |int i ui=>
  cases pu with
  |none=>exact wpAny_getItem_str_slice (l:=some (i,ui)) (u:=none) (st:=none) ⟨o,ho,hc,hd⟩ rfl (post_val_or_str ⟨hl,λt' k=>⟨.str _,H,I.tok _,⟨_,rfl⟩,q⟩⟩)
  |int j uj=>exact wpAny_getItem_str_slice (l:=some (i,ui)) (u:=some (j,uj)) (st:=none) ⟨o,ho,hc,hd⟩ rfl (post_val_or_str ⟨hl,λt' k=>⟨.str _,H,I.tok _,⟨_,rfl⟩,q⟩⟩)
theorem zEE:OpR X (compareOp .LtE) (λx y H Q=> ∃i j,x=.str i/\y=.str j/\Q (.bl (!(j.cps.toList<i.cps.toList))) H):=by
 intro pins s σ H x y v u Q I rx ry h
 obtain⟨i,j,rfl,rfl,q⟩:=h
 obtain⟨t,rfl⟩:=rx
 obtain⟨t',rfl⟩:=ry
 exact PySem.P.le_str ⟨.bl _,H,I,rfl,q⟩
def zOQ(cs:List Nat)(k:Int):List Nat:=(List.replicate k.toNat cs).flatten
theorem zLS(cs:List Nat): ∀(k:Nat)(acc:List Nat),List.foldl (λx1 x2=>x1++x2) acc.toArray (List.replicate k cs.toArray)=(acc++(List.replicate k cs).flatten).toArray
 |0,acc=>by simp
 |k+1,acc=>by
  rw [replicate_succ,foldl_cons,replicate_succ,flatten_cons, <-aA, <-zLS cs k (acc++cs)]
  simp
theorem zYO:OpR X (binaryOp .Mult) (λx y H Q=> ∃cs k,x=.str (mkS cs)/\y=.int k/\0<=k/\k<1000/\cs.length<=1000/\Q (.str (mkS (zOQ cs k))) H):=by
 intro pins s σ H x y v u Q I rx ry h
 obtain⟨cs,k,rfl,rfl,h0,h1,hc,q⟩:=h
 obtain⟨t,rfl⟩:=rx
 obtain⟨t',rfl⟩:=ry
 have hs:sizeLine=16777216:=sizeLine_eq
 have hprod:cs.length * k.toNat<=1000 * 1000:=Nat.mul_le_mul hc (by omega)
 have e: ∀b,Q (.str b) H->b=mkS (zOQ cs k)->True:=λ_ _ _=>trivial
 refine PySem.P.mul_str (by rw [dF0 (by omega),dF0 (by omega)];rfl) (λh2 _=>?_) (λ_ _=>?_) ?_
 ·rw [yT]
  have hk:1<=k:=by omega
  have:(1000:Int)<=(2 ^ 63 - 1) / k:=by
   rw [Int.le_ediv_iff_mul_le (by omega)]
   omega
  omega
 ·rw [yT]
  unfold PySem.Builtin.Str.tooLong
  exact dF0 (by omega)
 ·have made: ∀(z:Str),z=mkS (zOQ cs k)->z.length<=sizeLine->(Made.str z).post (EP X pins σ Q) s:=λz ez hz=>⟨hz,by rw [ez];exact⟨.str _,H,I.tok _,⟨_,rfl⟩,q⟩⟩
  have hlen:(zOQ cs k).length=k.toNat * cs.length:=by
   unfold zOQ;rw [len_rep]
  by_cases hn:k<1
  ·rw [iP hn]
   have hk:k.toNat=0:=by omega
   refine made _ ?_ (by decide)
   unfold zOQ;rw [hk];rfl
  ·rw [iN hn]
   by_cases h3:(k==1 || (mkS cs).length==0)=true
   ·rw [iP h3]
    refine⟨.str (mkS cs),H,I,⟨_,rfl⟩,?_⟩
    have:zOQ cs k=cs:=by
     unfold zOQ
     rw [or_eq_true]at h3
     rcases h3 with h3|h3
     ·have:k=1:=by simpa using h3
      subst this
      simp
     ·rw [yT]at h3
      have:cs=[]:=by cases cs with |nil=>rfl|cons _ _=>simp at h3
      subst this
      simp
    rw [this]at q
    exact q
   ·rw [iN h3]
    refine made _ ?_ ?_
    ·unfold zOQ mkS
     have:=zLS cs k.toNat []
     rw [nil_append]at this
     exact congrArg Str.mk this
    ·have e3:(List.foldl (λx1 x2=>x1++x2) #[] (List.replicate k.toNat (mkS cs).cps))=(zOQ cs k).toArray:=by
      have:=zLS cs k.toNat []
      rw [nil_append]at this
      exact this
     show(List.foldl (λx1 x2=>x1++x2) #[] (List.replicate k.toNat (mkS cs).cps)).size<=sizeLine
     rw [e3,sA,hlen,Nat.mul_comm]
     omega
theorem gX:CallR X (.builtin "all") (λxs H Q=> ∃(a:Addr)(bs:List Bool),xs=[.ref a]/\SqL X.K H a (bs.map V.bl)/\X.calm=true/\Q (.bl (bs.all id)) H):=by
 intro pins s σ H xs us Q I r h
 obtain⟨a,bs,rfl,hq,hc,q⟩:=h
 obtain⟨u,rfl,ru⟩:=vals1 r
 cases ru
 obtain⟨its,rv,pl,hz⟩:=I.list hq
 have hlen:its.length=bs.length:=by rw [<-rv.length,lM]
 refine PySem.call_all_walk (wpAny_pyIter_list pl.isList ?_)
 have hI:a≠s.heap.objs.size:=by
  obtain⟨o,ho,_⟩:=pl.isList
  exact ne_of_lt (Heap.lt_size ho)
 have I1: ∀(h':Heap)(tk:Nat),(∀b o,b∉[s.heap.objs.size]->(s.heap.push {cls:=.type "list_iterator",data:=.fields #[.ref a,.int 0 0]}).get? b=some o->h'.get? b=some o)->Inv X pins σ H {s with heap:=h',toks:=tk}:=λh' tk k=>
  I.kept λb o e=>k b o (by simpa using ne_of_lt (Heap.lt_size e)) (hP0 _ e)
 refine⟨s.heap.objs.size,[s.heap.objs.size,a],[s.heap.objs.size],its.toArray.size,_,_,λi=>bs.getD i false,rfl,PySem.Walks.list (by first |exact I.ok.hd hc|exact(show X.A.in1.handled=none from I.ok.hd hc)) _ a hI its.toArray,⟨⟨_,Heap.get?_push_size _ rfl,rfl,rfl⟩,pl.isList.at λo e=>hP0 _ e⟩,?_,λh' tk k=>?_⟩
 ·intro i v s' Q' E' hv hQ'
  have hv':its[i]? =some v:=by simpa using hv
  have hi:i<bs.length:=by rw [<-hlen];exact(gS0.mp hv').1
  have hb:(bs.map V.bl)[i]? =some (V.bl (bs.getD i false)):=by
   rw [getElem?_map,gE0 hi]
   simp [getD_eq_getElem?_getD,hi]
  obtain⟨u',hu',rv'⟩:=rv.get hb
  rw [hv']at hu'
  cases hu'
  cases rv'
  exact wpAny_truthy_bool hQ'
 ·refine⟨.bl (bs.all id),H,I1 h' tk k,?_,q⟩
  show Value.bool _=Value.bool _
  congr 1
  rw [sA,hlen]
  have: ∀(l:List Bool),(List.range l.length).all (λi=>l.getD i false)=l.all id:=by
   intro l
   rw [Bool.eq_iff_iff,all_eq_true,all_eq_true]
   constructor
   ·intro h x hx
    obtain⟨i,hi,rfl⟩:=List.getElem_of_mem hx
    have:=h i (mem_range.mpr hi)
    simpa [getD_eq_getElem?_getD,hi]using this
   ·intro h i hi
    have hi':=mem_range.mp hi
    have:=h l[i] (getElem_mem hi')
    simpa [getD_eq_getElem?_getD,hi']using this
  exact this bs
def Its(x:List Nat):It:=⟨λi _=>i<x.length,λi H v H'=>H'=H/\ ∃c,x[i]? =some c/\v=.str (mkS [c]),λi _=>x.length<=i⟩
def iStr(tl:TE):TI:=λσ H R=>tl σ H λv H1=> ∃x,v=.str (mkS x)/\R (Its x) H1
theorem zVM{P:Program}{w:World}{K:PySem.W.Frag}{tg:Expr}(it:Addr)(ty:String)(x:List Nat)(t:Tok)(hty:ty="str_ascii_iterator"\/ty="str_iterator"):
  Turn P w K tg (Its x) [it] it (λi h=>h.IsStrIter it ty (mkS x) t i) where
 mem:=by simp
 obj:=λi h st b hb=>by
  have e:b=it:=by simpa using hb
  subst e
  obtain⟨o,e,c,d⟩:=st
  exact⟨o,e,λv z=>by rw [d]at z;cases z⟩
 keep:=λi h h' st k=>let ⟨o,ho,r⟩:=st;⟨o,k it (by simp) o ho,r⟩
 item:=by
  intro X hP hw hK hc i pins s σ H E I hf st hg
  subst hP hw hK
  obtain⟨f0,f1,f2,f3,f4,f5⟩:=hf it (by simp)
  have hi:i<x.length:=hg
  have hxi:(mkS x).cps[i]? =some x[i]:=by simp [mkS,hi]
  have fin: ∀(h':Heap),h'.IsStrIter it ty (mkS x) t (i+1)->Heap.SameBut it s.heap h'-> ∃u,some (Value.str ⟨#[x[i]]⟩ s.toks)=some u/\
    wpAny (model X.prog X.w) X.A (letOwnedTupleGo tg (.ref it) u) (λ_ s2=> ∃y H',Inv X pins σ H' s2/\RelV y u/\(Its x).yld i H y H'/\s2.heap.IsStrIter it ty (mkS x) t (i+1)/\ ∀b∈[it],H' b=none) E {s with heap:=h',toks:=s.toks+1}:=λh' st' sb=>by
   have I1:Inv X pins σ H {s with heap:=h',toks:=s.toks+1}:=I.turned (λb o hb e=>(sb.2 b hb).trans e) f0 f1 f3 f4 f5
   obtain⟨o,e,c,d⟩:=id st'
   refine⟨_,rfl,yAC (s:={s with heap:=h',toks:=s.toks+1}) e c d (by rcases hty with rfl|rfl<;>decide) ⟨.str (mkS [x[i]]),H,I1,⟨_,rfl⟩,⟨rfl,x[i],by simp [hi],rfl⟩,st',λb hb=>(hf b hb).1⟩⟩
  rcases hty with rfl|rfl
  ·exact wpAny_pyNext_ascii_item st hxi λh' st' sb=>fin h' st' sb
  ·exact wpAny_pyNext_wide_item st hxi λh' st' sb=>fin h' st' sb
 done:=by
  intro X hP hw hK hc i pins s σ H E I hf st hg
  subst hP hw hK
  obtain⟨f0,f1,f2,f3,f4,f5⟩:=hf it (by simp)
  have hi:x.length<=i:=hg
  have hxi:(mkS x).cps[i]? =none:=by simp [mkS,hi]
  rcases hty with rfl|rfl
  ·exact wpAny_pyNext_ascii_end (I.ok.hd hc) st hxi λh' eb=>⟨rfl,I.turned (t':=s.toks) (λb o hb e=>eb b o hb e) f0 f1 f3 f4 f5⟩
  ·exact wpAny_pyNext_wide_end (I.ok.hd hc) st hxi λh' eb=>⟨rfl,I.turned (t':=s.toks) (λb o hb e=>eb b o hb e) f0 f1 f3 f4 f5⟩
 self:=λ_ _ _ _ _ st h=>by
  rcases hty with rfl|rfl
  ·exact wpAny_pyIter_striter_ascii st h
  ·exact wpAny_pyIter_striter_wide st h
theorem yNP{tg l:Expr}{tl:TE}(hl:PE X l tl):PI X tg l (iStr tl):=by
 intro pins s σ H R I h
 refine thn (hl pins s σ H _ I h) λv s1 ⟨x,H1,I1,r1,q1⟩=>?_
 obtain⟨cs,e,q⟩:=q1
 subst e
 obtain⟨t,rfl⟩:=r1
 have fp: ∀(o:Obj), ∀b∈[s1.heap.objs.size],zKT X pins H1 b:=λo b hb=>by
  have e:b=s1.heap.objs.size:=by simpa using hb
  subst e
  exact I1.fpOk (le_refl _) (I1.hok.fresh (le_refl _))
 cases ha:(mkS cs).cps.all (· <128)
 ·refine wpAny_pyIter_wide ha ?_
  exact⟨s1.heap.objs.size,[s1.heap.objs.size],_,_,H1,rfl,I1.kept (t':=s1.toks) λb o e=>hP0 _ e,zVM _ "str_iterator" cs t (.inr rfl),⟨_,Heap.get?_push_size _ rfl,rfl,rfl⟩,fp default,q⟩
 ·refine wpAny_pyIter_ascii ha ?_
  exact⟨s1.heap.objs.size,[s1.heap.objs.size],_,_,H1,rfl,I1.kept (t':=s1.toks) λb o e=>hP0 _ e,zVM _ "str_ascii_iterator" cs t (.inl rfl),⟨_,Heap.get?_push_size _ rfl,rfl,rfl⟩,fp default,q⟩
end
section
variable{X:Cx}
def PU(X:Cx)(e:Expr)(t:TE):Prop:= ∀(i:Nat)(x:Str)(pos' pos:Pos),X.N.Nodup->X.N[i]? =some x->Loc X.env.scope x->(X.fn x=true\/X.env.scope.names.lookup x=some .local)->
 swapsWith e (some (.Name x pos')) pos.line X.env=pure true->PS X (.Assign [.Name x pos'] e pos) (tAsg t (yEB i))
theorem yIS{elt tg iter:Expr}{ifs:List Expr}{pos:Pos}{sc:Scope}{wi:TI}{g:TG}{tc:Addr->Shared->Hp->List Addr->TT}{te:Addr->Shared->Hp->List Addr->TE}(T:List Str)(idx:List Nat)
  (hi:PI X tg iter wi) (hcalm:X.calm=true) (hB:zMY X.env.scope X.N sc idx=true)
  (hg: ∀C s₂ H1 fp,PG (yF X sc T idx C s₂ H1 fp) tg g)
  (hc: ∀C s₂ H1 fp,yCP (yF X sc T idx C s₂ H1 fp) ifs (tc C s₂ H1 fp))
  (he: ∀C s₂ H1 fp,PE (yF X sc T idx C s₂ H1 fp) elt (te C s₂ H1 fp))
  (hs: ∀x,foldedSetIterable iter X.env x=pure x:=by intro _;rfl):
  PU X (.ListComp elt [⟨tg,iter,ifs,0⟩] sc pos) (yET wi g tc te T.length idx):=by
 intro i x pos' spos hN hix hx hf hsw pins s σ H D I h
 rw [exec_Assign_Name_used _ _ _ _ hsw]
 refine wB0 (wpAny_standAt (wB0 ?_))
 rw [arm_evalThenUse_ListComp]
 refine wB0 (thn (zVL T idx hi hcalm hB hg hc he hs (use:=some (assign (.Name x pos') X.env)) (Q':=λ_ s'=> ∃σ' H',Inv X pins σ' H' s'/\D.nx σ' H') I h λDd C s4 H' _ J4 fo hm q=>?_) λ_ s' hq=>wP0 (wP0 hq))
 have I4:=J4 s4.heap (Heap.SameBut.refl _ _)
 refine wpAny_assign_Name (zRJ I4 hN hix hx (show RelV (.ref Dd) (.ref Dd)from rfl) (λs' I' ⟨a,hs',ha⟩=>?_) hf)
 obtain⟨m,hm⟩:=hm
 have hCa:C≠a:=by
  rintro rfl
  rcases ha with ha|ha
  ·exact fo.2.1 ha
  ·exact fo.2.2.2.2.1 x _ ha rfl
 refine⟨m,hm.sameBut hs' hCa,λh' hs''=>⟨_,H',?_,q⟩⟩
 exact I'.turned (t':=s'.toks) (λb o hb e=>(hs''.2 b hb).trans e) fo.1 fo.2.1 fo.2.2.2.1 fo.2.2.2.2.1 fo.2.2.2.2.2
end
end L2
namespace L2
namespace M
open PySem PySem.Spec PyProof.Rows
theorem yNQ{A:Around}{s:Shared}{y x:V}{u v:Value}(ry:RelV y u)(rx:RelV x v)(fy:kC y=true)(fx:kC x=true):SeqAt.RcAt A s u v (eqV y x):=by
 cases y with
 |non=>
  cases ry
  cases x with
  |non=>cases rx;exact SeqAt.RcAt.none_none
  |bl b=>cases rx;exact SeqAt.RcAt.none_bool b
  |int b=>obtain⟨t,rfl⟩:=rx;exact SeqAt.RcAt.none_int b t
  |str b=>obtain⟨t,rfl⟩:=rx;exact SeqAt.RcAt.none_str b t
  |_=>exact absurd (show false=true from fx) xF0
 |bl a=>
  cases ry
  cases x with
  |non=>cases rx;exact SeqAt.RcAt.bool_none a
  |bl b=>cases rx;exact SeqAt.RcAt.bool_bool a b
  |int b=>obtain⟨t,rfl⟩:=rx;exact SeqAt.RcAt.bool_int a b t
  |str b=>obtain⟨t,rfl⟩:=rx;exact SeqAt.RcAt.bool_str a b t
  |_=>exact absurd (show false=true from fx) xF0
 |int a=>
  obtain⟨t',rfl⟩:=ry
  cases x with
  |non=>cases rx;exact SeqAt.RcAt.int_none a t'
  |bl b=>cases rx;exact SeqAt.RcAt.int_bool a t' b
  |int b=>obtain⟨t,rfl⟩:=rx;exact SeqAt.RcAt.int_int a t' b t
  |str b=>obtain⟨t,rfl⟩:=rx;exact SeqAt.RcAt.int_str a t' b t
  |_=>exact absurd (show false=true from fx) xF0
 |str a=>
  obtain⟨t',rfl⟩:=ry
  cases x with
  |non=>cases rx;exact SeqAt.RcAt.str_none a t'
  |bl b=>cases rx;exact SeqAt.RcAt.str_bool a t' b
  |int b=>obtain⟨t,rfl⟩:=rx;exact SeqAt.RcAt.str_int a t' b t
  |str b=>obtain⟨t,rfl⟩:=rx;exact SeqAt.RcAt.str_str a t' b t
  |_=>exact absurd (show false=true from fx) xF0
 |_=>exact absurd (show false=true from fy) xF0
theorem yNR{A:Around}{s:Shared}{y x:V}{u v:Value}(ry:RelV y u)(rx:RelV x v)(fy:kC y=true)(fx:kC x=true):SeqAt.RcNeAt A s u v (!eqV y x):=by
 cases y with
 |non=>
  cases ry
  cases x with
  |non=>cases rx;exact SeqAt.RcNeAt.none_none
  |bl b=>cases rx;exact SeqAt.RcNeAt.none_bool b
  |int b=>obtain⟨t,rfl⟩:=rx;exact SeqAt.RcNeAt.none_int b t
  |str b=>obtain⟨t,rfl⟩:=rx;exact SeqAt.RcNeAt.none_str b t
  |_=>exact absurd (show false=true from fx) xF0
 |bl a=>
  cases ry
  cases x with
  |non=>cases rx;exact SeqAt.RcNeAt.bool_none a
  |bl b=>cases rx;exact SeqAt.RcNeAt.bool_bool a b
  |int b=>obtain⟨t,rfl⟩:=rx;exact SeqAt.RcNeAt.bool_int a b t
  |str b=>obtain⟨t,rfl⟩:=rx;exact SeqAt.RcNeAt.bool_str a b t
  |_=>exact absurd (show false=true from fx) xF0
 |int a=>
  obtain⟨t',rfl⟩:=ry
  cases x with
  |non=>cases rx;exact SeqAt.RcNeAt.int_none a t'
  |bl b=>cases rx;exact SeqAt.RcNeAt.int_bool a t' b
  |int b=>obtain⟨t,rfl⟩:=rx;exact SeqAt.RcNeAt.int_int a t' b t
  |str b=>obtain⟨t,rfl⟩:=rx;exact SeqAt.RcNeAt.int_str a t' b t
  |_=>exact absurd (show false=true from fx) xF0
 |str a=>
  obtain⟨t',rfl⟩:=ry
  cases x with
  |non=>cases rx;exact SeqAt.RcNeAt.str_none a t'
  |bl b=>cases rx;exact SeqAt.RcNeAt.str_bool a t' b
  |int b=>obtain⟨t,rfl⟩:=rx;exact SeqAt.RcNeAt.str_int a t' b t
  |str b=>obtain⟨t,rfl⟩:=rx;exact SeqAt.RcNeAt.str_str a t' b t
  |_=>exact absurd (show false=true from fx) xF0
 |_=>exact absurd (show false=true from fy) xF0
theorem eq_ll{A:Around}{s:Shared}{x:V}{v:Value}{l:Addr}{items:Array Value}(rx:RelV x v)(fx:kC x=true)(hl:s.heap.IsList l items)(hu:A.units<cLine):SeqAt.EqAt A s (.ref l) v false:=by
 cases x with
 |non=>cases rx;exact SeqAt.EqAt.list_none hl hu
 |bl b=>cases rx;exact SeqAt.EqAt.list_bool b hl hu
 |int b=>obtain⟨t,rfl⟩:=rx;exact SeqAt.EqAt.list_int b t hl hu
 |str b=>obtain⟨t,rfl⟩:=rx;exact SeqAt.EqAt.list_str b t hl hu
 |_=>exact absurd (show false=true from fx) xF0
theorem eq_lr{A:Around}{s:Shared}{x:V}{v:Value}{l:Addr}{items:Array Value}(rx:RelV x v)(fx:kC x=true)(hl:s.heap.IsList l items)(hu:A.units<cLine):SeqAt.EqAt A s v (.ref l) false:=by
 cases x with
 |non=>cases rx;exact SeqAt.EqAt.none_list hl hu
 |bl b=>cases rx;exact SeqAt.EqAt.bool_list b hl hu
 |int b=>obtain⟨t,rfl⟩:=rx;exact SeqAt.EqAt.int_list b t hl hu
 |str b=>obtain⟨t,rfl⟩:=rx;exact SeqAt.EqAt.str_list b t hl hu
 |_=>exact absurd (show false=true from fx) xF0
theorem yLE{A:Around}{s:Shared}{x:V}{v:Value}{l:Addr}{items:Array Value}(rx:RelV x v)(fx:kC x=true)(hl:s.heap.IsTuple l items)(hu:A.units<cLine):SeqAt.EqAt A s (.ref l) v false:=by
 cases x with
 |non=>cases rx;exact SeqAt.EqAt.tuple_none hl hu
 |bl b=>cases rx;exact SeqAt.EqAt.tuple_bool b hl hu
 |int b=>obtain⟨t,rfl⟩:=rx;exact SeqAt.EqAt.tuple_int b t hl hu
 |str b=>obtain⟨t,rfl⟩:=rx;exact SeqAt.EqAt.tuple_str b t hl hu
 |_=>exact absurd (show false=true from fx) xF0
theorem yLF{A:Around}{s:Shared}{x:V}{v:Value}{l:Addr}{items:Array Value}(rx:RelV x v)(fx:kC x=true)(hl:s.heap.IsTuple l items)(hu:A.units<cLine):SeqAt.EqAt A s v (.ref l) false:=by
 cases x with
 |non=>cases rx;exact SeqAt.EqAt.none_tuple hl hu
 |bl b=>cases rx;exact SeqAt.EqAt.bool_tuple b hl hu
 |int b=>obtain⟨t,rfl⟩:=rx;exact SeqAt.EqAt.int_tuple b t hl hu
 |str b=>obtain⟨t,rfl⟩:=rx;exact SeqAt.EqAt.str_tuple b t hl hu
 |_=>exact absurd (show false=true from fx) xF0
theorem rc_ll{A:Around}{s:Shared}{x:V}{v:Value}{l:Addr}{items:Array Value}(rx:RelV x v)(fx:kC x=true)(hl:s.heap.IsList l items)(hu:A.units<cLine):SeqAt.RcAt A s (.ref l) v false:=by
 cases x with
 |non=>cases rx;exact SeqAt.RcAt.list_none hl hu
 |bl b=>cases rx;exact SeqAt.RcAt.list_bool b hl hu
 |int b=>obtain⟨t,rfl⟩:=rx;exact SeqAt.RcAt.list_int b t hl hu
 |str b=>obtain⟨t,rfl⟩:=rx;exact SeqAt.RcAt.list_str b t hl hu
 |_=>exact absurd (show false=true from fx) xF0
theorem rc_lr{A:Around}{s:Shared}{x:V}{v:Value}{l:Addr}{items:Array Value}(rx:RelV x v)(fx:kC x=true)(hl:s.heap.IsList l items)(hu:A.units<cLine):SeqAt.RcAt A s v (.ref l) false:=by
 cases x with
 |non=>cases rx;exact SeqAt.RcAt.none_list hl hu
 |bl b=>cases rx;exact SeqAt.RcAt.bool_list b hl hu
 |int b=>obtain⟨t,rfl⟩:=rx;exact SeqAt.RcAt.int_list b t hl hu
 |str b=>obtain⟨t,rfl⟩:=rx;exact SeqAt.RcAt.str_list b t hl hu
 |_=>exact absurd (show false=true from fx) xF0
theorem rc_tl{A:Around}{s:Shared}{x:V}{v:Value}{l:Addr}{items:Array Value}(rx:RelV x v)(fx:kC x=true)(hl:s.heap.IsTuple l items)(hu:A.units<cLine):SeqAt.RcAt A s (.ref l) v false:=by
 cases x with
 |non=>cases rx;exact SeqAt.RcAt.tuple_none hl hu
 |bl b=>cases rx;exact SeqAt.RcAt.tuple_bool b hl hu
 |int b=>obtain⟨t,rfl⟩:=rx;exact SeqAt.RcAt.tuple_int b t hl hu
 |str b=>obtain⟨t,rfl⟩:=rx;exact SeqAt.RcAt.tuple_str b t hl hu
 |_=>exact absurd (show false=true from fx) xF0
theorem rc_tr{A:Around}{s:Shared}{x:V}{v:Value}{l:Addr}{items:Array Value}(rx:RelV x v)(fx:kC x=true)(hl:s.heap.IsTuple l items)(hu:A.units<cLine):SeqAt.RcAt A s v (.ref l) false:=by
 cases x with
 |non=>cases rx;exact SeqAt.RcAt.none_tuple hl hu
 |bl b=>cases rx;exact SeqAt.RcAt.bool_tuple b hl hu
 |int b=>obtain⟨t,rfl⟩:=rx;exact SeqAt.RcAt.int_tuple b t hl hu
 |str b=>obtain⟨t,rfl⟩:=rx;exact SeqAt.RcAt.str_tuple b t hl hu
 |_=>exact absurd (show false=true from fx) xF0
theorem rn_ll{A:Around}{s:Shared}{x:V}{v:Value}{l:Addr}{items:Array Value}(rx:RelV x v)(fx:kC x=true)(hl:s.heap.IsList l items)(hu:A.units<cLine):SeqAt.RcNeAt A s (.ref l) v true:=by
 cases x with
 |non=>cases rx;exact SeqAt.RcNeAt.list_none hl hu
 |bl b=>cases rx;exact SeqAt.RcNeAt.list_bool b hl hu
 |int b=>obtain⟨t,rfl⟩:=rx;exact SeqAt.RcNeAt.list_int b t hl hu
 |str b=>obtain⟨t,rfl⟩:=rx;exact SeqAt.RcNeAt.list_str b t hl hu
 |_=>exact absurd (show false=true from fx) xF0
theorem rn_lr{A:Around}{s:Shared}{x:V}{v:Value}{l:Addr}{items:Array Value}(rx:RelV x v)(fx:kC x=true)(hl:s.heap.IsList l items)(hu:A.units<cLine):SeqAt.RcNeAt A s v (.ref l) true:=by
 cases x with
 |non=>cases rx;exact SeqAt.RcNeAt.none_list hl hu
 |bl b=>cases rx;exact SeqAt.RcNeAt.bool_list b hl hu
 |int b=>obtain⟨t,rfl⟩:=rx;exact SeqAt.RcNeAt.int_list b t hl hu
 |str b=>obtain⟨t,rfl⟩:=rx;exact SeqAt.RcNeAt.str_list b t hl hu
 |_=>exact absurd (show false=true from fx) xF0
theorem rn_tl{A:Around}{s:Shared}{x:V}{v:Value}{l:Addr}{items:Array Value}(rx:RelV x v)(fx:kC x=true)(hl:s.heap.IsTuple l items)(hu:A.units<cLine):SeqAt.RcNeAt A s (.ref l) v true:=by
 cases x with
 |non=>cases rx;exact SeqAt.RcNeAt.tuple_none hl hu
 |bl b=>cases rx;exact SeqAt.RcNeAt.tuple_bool b hl hu
 |int b=>obtain⟨t,rfl⟩:=rx;exact SeqAt.RcNeAt.tuple_int b t hl hu
 |str b=>obtain⟨t,rfl⟩:=rx;exact SeqAt.RcNeAt.tuple_str b t hl hu
 |_=>exact absurd (show false=true from fx) xF0
theorem rn_tr{A:Around}{s:Shared}{x:V}{v:Value}{l:Addr}{items:Array Value}(rx:RelV x v)(fx:kC x=true)(hl:s.heap.IsTuple l items)(hu:A.units<cLine):SeqAt.RcNeAt A s v (.ref l) true:=by
 cases x with
 |non=>cases rx;exact SeqAt.RcNeAt.none_tuple hl hu
 |bl b=>cases rx;exact SeqAt.RcNeAt.bool_tuple b hl hu
 |int b=>obtain⟨t,rfl⟩:=rx;exact SeqAt.RcNeAt.int_tuple b t hl hu
 |str b=>obtain⟨t,rfl⟩:=rx;exact SeqAt.RcNeAt.str_tuple b t hl hu
 |_=>exact absurd (show false=true from fx) xF0
theorem yEX{y:V}(h:kC y=true):eqV y y=true:=by
 cases y<;>first |rfl|(simp [eqV];done)|exact absurd (show false=true from h) xF0
inductive NK where
 |key (k:Key)|tup (ks:List NK)
noncomputable instance:DecidableEq NK:=λ_ _=>Classical.propDecidable _
section
variable{prog:Program}{w:World}(knd:KeyKind prog w Key)
mutual
def isN(h:Heap):NK->Value->Prop
 |.key k,v=>knd.is k v=true
 |.tup ks,v=> ∃a o items n,v=.ref a/\h.get? a=some o/\o.cls=.type "tuple"/\o.data=.seq items n/\zJE h ks items.toList
def zJE(h:Heap):List NK->List Value->Prop
 |[],vs=>vs=[]
 |k::ks,vs=> ∃v r,vs=v::r/\isN h k v/\zJE h ks r
end
mutual
def zGQ:NK->Int
 |.key k=>knd.hash k
 |.tup ks=>reduceHash (Builtin.Tuple.tupleHashOf (zOR ks))
def zOR:List NK->List Int
 |[]=>[]
 |k::ks=>zGQ k::zOR ks
end
mutual
def zOS:NK->Nat
 |.key _=>1
 |.tup ks=>cR ks+1
def cR:List NK->Nat
 |[]=>0
 |k::ks=>zOS k+cR ks
end
mutual
def zNR:NK->Nat
 |.key _=>0
 |.tup ks=>zMZ ks+1
def zMZ:List NK->Nat
 |[]=>0
 |k::ks=>max (zNR k) (zMZ ks)
end
variable{knd}
theorem gG{h:Heap}{k:Key}{v:Value}:isN knd h (.key k) v↔knd.is k v=true:=by unfold isN;exact Iff.rfl
theorem wU{h:Heap}{ks:List NK}{v:Value}:isN knd h (.tup ks) v↔ ∃a o items n,v=.ref a/\h.get? a=some o/\o.cls=.type "tuple"/\o.data=.seq items n/\zJE knd h ks items.toList:=by
 conv=>lhs;unfold isN
theorem kY{h:Heap}{vs:List Value}:zJE knd h [] vs↔vs=[]:=by unfold zJE;exact Iff.rfl
theorem xL{h:Heap}{k:NK}{ks:List NK}{vs:List Value}:zJE knd h (k::ks) vs↔ ∃v r,vs=v::r/\isN knd h k v/\zJE knd h ks r:=by
 conv=>lhs;unfold zJE
mutual
theorem zSY{h:Heap}: ∀{x y:NK}{v:Value},isN knd h x v->isN knd h y v->x=y
 |.key k,.key k',v,hx,hy=>by rw [knd.inj v k k' (gG.mp hx) (gG.mp hy)]
 |.key k,.tup ks,v,hx,hy=>by
  obtain⟨a,o,items,n,rfl,_⟩:=wU.mp hy
  have:=knd.byValue _ _ (gG.mp hx)
  simp [carriedByValue]at this
 |.tup ks,.key k,v,hx,hy=>by
  obtain⟨a,o,items,n,rfl,_⟩:=wU.mp hx
  have:=knd.byValue _ _ (gG.mp hy)
  simp [carriedByValue]at this
 |.tup ks,.tup ks',v,hx,hy=>by
  obtain⟨a,o,items,n,e,ho,_,hd,hi⟩:=wU.mp hx
  obtain⟨a',o',items',n',e',ho',_,hd',hi'⟩:=wU.mp hy
  rw [e]at e'
  cases e'
  obtain rfl:o=o':=Option.some.inj (ho.symm.trans ho')
  rw [hd]at hd'
  injection hd' with h1 _
  subst h1
  rw [zVN hi hi']
theorem zVN{h:Heap}: ∀{xs ys:List NK}{vs:List Value},zJE knd h xs vs->zJE knd h ys vs->xs=ys
 |[],[],_,_,_=>rfl
 |[],y::ys,vs,hx,hy=>by
  obtain⟨v,r,e,_⟩:=xL.mp hy
  rw [kY.mp hx]at e;cases e
 |x::xs,[],vs,hx,hy=>by
  obtain⟨v,r,e,_⟩:=xL.mp hx
  rw [kY.mp hy]at e;cases e
 |x::xs,y::ys,vs,hx,hy=>by
  obtain⟨v,r,e,h1,h2⟩:=xL.mp hx
  obtain⟨v',r',e',h1',h2'⟩:=xL.mp hy
  rw [e]at e'
  cases e'
  rw [zSY h1 h1',zVN h2 h2']
end
mutual
theorem zVO{h h':Heap}(m: ∀a o items n,h.get? a=some o->o.data=.seq items n->h'.get? a=some o): ∀{x:NK}{v:Value},isN knd h x v->isN knd h' x v
 |.key k,v,hx=>gG.mpr (gG.mp hx)
 |.tup ks,v,hx=>by
  obtain⟨a,o,items,n,e,ho,hc,hd,hi⟩:=wU.mp hx
  exact wU.mpr ⟨a,o,items,n,e,m a o items n ho hd,hc,hd,zRT m hi⟩
theorem zRT{h h':Heap}(m: ∀a o items n,h.get? a=some o->o.data=.seq items n->h'.get? a=some o): ∀{xs:List NK}{vs:List Value},zJE knd h xs vs->zJE knd h' xs vs
 |[],vs,hx=>kY.mpr (kY.mp hx)
 |x::xs,vs,hx=>by
  obtain⟨v,r,e,h1,h2⟩:=xL.mp hx
  exact xL.mpr ⟨v,r,e,zVO m h1,zRT m h2⟩
end
theorem zOT: ∀ks:List NK,zOR knd ks=ks.map (zGQ knd)
 |[]=>by unfold zOR;rfl
 |k::ks=>by unfold zOR;rw [zOT ks];rfl
theorem zJZ:cR []=0:=by rw [cR]
theorem zGR(k:NK)(ks:List NK):cR (k::ks)=zOS k+cR ks:=by rw [cR]
theorem zOU(k:NK)(ks:List NK):zMZ (k::ks)=max (zNR k) (zMZ ks):=by rw [zMZ]
theorem zEF(ks:List NK):zNR (.tup ks)=zMZ ks+1:=by rw [zNR]
theorem zJI: ∀(xs ys:List NK),cR (xs++ys)=cR xs+cR ys
 |[],ys=>by rw [zJZ,nil_append,zero_add]
 |x::xs,ys=>by rw [cons_append,zGR,zGR,zJI xs ys];omega
theorem zKW{s:Shared}{ks:List NK}{a:Addr}(h:isN knd s.heap (.tup ks) (.ref a)):s.TypeIs (.ref a) "tuple":=by
 obtain⟨a',o,items,n,e,ho,hc,_⟩:=wU.mp h
 cases e
 exact⟨o,ho,hc⟩
theorem zVP: ∀(n:Nat){A:Around}{E:VP}{s:Shared}{k:NK}{v:Value}{Q:Int->Shared->Prop},zNR k<=n->A.units+n<cLine->isN knd s.heap k v->Q (zGQ knd k) {s with toks:=s.toks+zOS k}->wpAny (model prog w) A (pyHash v) Q E s
 |n,A,E,s,.key k,v,Q,_,_,hk,h=>knd.pyHash (gG.mp hk) (by rw [zGQ,zOS]at h;exact h)
 |0,A,E,s,.tup ks,v,Q,hd,_,_,_=>by rw [zEF]at hd;omega
 |n+1,A,E,s,.tup ks,v,Q,hdep,hu,hk,h=>by
  obtain⟨a,o,items,m,rfl,ho,hc,hd,hi⟩:=wU.mp hk
  have hT:s.TypeIs (.ref a) "tuple":=⟨o,ho,hc⟩
  rw [zEF]at hdep
  have hdl: ∀k∈ks,zNR k<=n:=by
   have: ∀ks:List NK,zMZ ks<=n-> ∀k∈ks,zNR k<=n:=by
    intro ks
    induction ks with
    |nil=>intro _ k hk;simp at hk
    |cons x xs ih=>
     intro hx k hk
     rw [zOU]at hx
     rcases mC.mp hk with rfl|hk
     ·omega
     ·exact ih (by omega) k hk
   exact this ks (by omega)
  rw [zGQ,zOS,zOT]at h
  unfold pyHash
  first |unfold pyHashByItsType|skip
  first |refine wB0 (wpAny_cRoomFor_or (.inr (show A.units<cLine by omega)) ?_)|skip
  refine wB0 (wpAny_specialOf hT F.slot_tuple_hash.lookup ?_)
  show wpAny _ _ (if(some (Value.builtin "tuple.__hash__")==some Value.none)=true then _ else _) Q E s
  rw [iN (by rw [beq_builtin_none];exact xF0)]
  refine wB0 (wpAny_specialOf hT F.slot_tuple_hash.lookup ?_)
  show wpAny _ _ (callSpecialIfBoundUnlessNone? (.ref a) "__hash__" _ >>= _) Q E s
  refine wB0 (wpAny_callSpecialIfBoundUnlessNone?_slot hT F.slot_tuple_hash (wpAny_call_entry F.slot_tuple_hash hT F.entry_tuple_hash ?_ (F.args_tuple_hash_1 _)))
  show wpAny _ _ (Builtin.Tuple.tupleItemsOf (.ref a) >>= _) _ _ s
  refine wB0 (wpAny_tupleItemsOf ho hd ?_)
  refine wB0 ?_
  rw [<-Array.forIn_toList]
  refine wpAny_forIn_list _
   (λrest (b:Array Int) s'=> ∃done left,ks=done++left/\zJE knd s.heap left rest/\b.toList=done.map (zGQ knd)/\s'={s with toks:=s.toks+cR done})
   _ ?_ ?_ _ _ ⟨[],ks,rfl,hi,rfl,by rw [zJZ];rfl⟩
  ·rintro x rest b s' ⟨done,left,rfl,hl,hb,rfl⟩
   cases left with
   |nil=>rw [kY]at hl;cases hl
   |cons k ks'=>
    obtain⟨v,r,e,h1,hl'⟩:=xL.mp hl
    cases e
    refine wB0 (zVP n (hdl k (by simp)) (show A.units+1+n<cLine by omega) h1 ?_)
    have e1:cR (done++[k])=cR done+zOS k:=by rw [zJI,zGR,zJZ];rfl
    first
     |exact wP0 ⟨done++[k],ks',by simp,hl',by simp [hb],by simp [add_assoc,e1]⟩
     |exact wB0 (wP0 (wP0 ⟨done++[k],ks',by simp,hl',by simp [hb],by simp [add_assoc,e1]⟩))
  ·rintro b s' ⟨done,left,rfl,hl,hb,rfl⟩
   cases left with
   |cons k ks'=>obtain⟨v,r,e,_⟩:=xL.mp hl;cases e
   |nil=>
    rw [aN]at h
    show wpAny _ _ (retInt (Builtin.Tuple.tupleHashOf b.toList)) _ _ _
    rw [hb]
    refine wpAny_ret_mkInt ?_
    show wpAny _ _ (if(decide (-(2:Int) ^ 63<=Builtin.Tuple.tupleHashOf (done.map (zGQ knd)))&&decide (Builtin.Tuple.tupleHashOf (done.map (zGQ knd))<2 ^ 63))=true then _ else _) Q E _
    unfold reduceHash at h
    by_cases hr:(decide (-(2:Int) ^ 63<=Builtin.Tuple.tupleHashOf (done.map (zGQ knd)))&&decide (Builtin.Tuple.tupleHashOf (done.map (zGQ knd))<2 ^ 63))=true
    ·rw [iP hr]
     rw [iP hr]at h
     exact wP0 (by simpa [add_assoc]using h)
    ·rw [iN hr]
     rw [iN hr]at h
     exact wB0 (wpAny_rule (wP0 (by simpa [add_assoc]using h)))
end
section
variable{prog:Program}{w:World}
abbrev mk(prog:Program)(w:World):KeyKind prog w Key:=gE prog w
theorem yIT(a b:Key):decide (NK.key a=NK.key b)=decide (a=b):=by
 by_cases h:a=b
 ·subst h;simp
 ·rw [dF0 h,dF0 λz=>h (NK.key.inj z)]
theorem yNS(a:Key)(b:List NK):decide (NK.key a=NK.tup b)=false:=dF0 λz=>nomatch z
theorem yNT(a:Key)(b:List NK):decide (NK.tup b=NK.key a)=false:=dF0 λz=>nomatch z
theorem yNU(a b:List NK):decide (NK.tup a=NK.tup b)=decide (a=b):=by
 by_cases h:a=b
 ·subst h;simp
 ·rw [dF0 h,dF0 λz=>h (NK.tup.inj z)]
theorem zVQ{k:Key}{v:Value}(h:(mk prog w).is k v=true): ∃x:V,RelV x v/\kC x=true:=by
 rcases xE (show zVC k v=true from h)with⟨i,t,rfl,rfl⟩|⟨x,t,rfl,rfl⟩
 ·exact⟨.int i,⟨t,rfl⟩,rfl⟩
 ·exact⟨.str x,⟨t,rfl⟩,rfl⟩
theorem yCS{A:Around}{E:VP}{s:Shared}{x y:List NK}{a b:Addr}{P:Fin->Shared->Prop}
  (he: ∀k1∈x, ∀k2 u v (Q:Bool->Shared->Prop),isN (mk prog w) s.heap k1 u->isN (mk prog w) s.heap k2 v->Q (decide (k1=k2)) s->wpAny (model prog w) A (eqBool u v) Q E s)
  (hx:isN (mk prog w) s.heap (.tup x) (.ref a)) (hy:isN (mk prog w) s.heap (.tup y) (.ref b)) (h:P (.done (.ret (.bool (decide (x=y))))) s):
  wpAny (model prog w) A (Builtin.«tuple.__eq__» ⟨[.ref a,.ref b],[]⟩) P E s:=by
 have hTb:=zKW hy
 obtain⟨_,oa,xs,na,e,hoa,_,hda,hia⟩:=wU.mp hx
 cases e
 obtain⟨_,ob,ys,nb,e,hob,_,hdb,hib⟩:=wU.mp hy
 cases e
 show wpAny _ _ (isInstance (.ref b) (.type "tuple") >>= _) _ _ s
 refine wB0 (wpAny_isInstance hTb isSubtype_tuple_tuple ?_)
 simp only [Bool.not_true,fT,iF]
 refine wB0 (wpAny_tupleItemsOf hoa hda ?_)
 refine wB0 (wpAny_tupleItemsOf hob hdb ?_)
 refine wB0 ?_
 refine wpAny_forIn_list _
  (λrest r s'=>r.1=none/\s'=s/\ ∃x' y' xs' ys',rest=List.zip xs' ys'/\(∀k∈x',k∈x)/\zJE (mk prog w) s.heap x' xs'/\zJE (mk prog w) s.heap y' ys'/\decide (x'=y')=decide (x=y)/\(xs'.length==ys'.length)=(xs.size==ys.size))
  _ ?_ ?_ _ _ ⟨rfl,rfl,x,y,xs.toList,ys.toList,rfl,λk hk=>hk,hia,hib,rfl,by simp⟩
 ·rintro⟨u,v⟩ rest r s' ⟨hr,rfl,x',y',xs',ys',hz,hm,hx',hy',hdec,hlen⟩
  cases x' with
  |nil=>rw [kY.mp hx']at hz;simp at hz
  |cons k1 x''=>
   cases y' with
   |nil=>rw [kY.mp hy']at hz;simp at hz
   |cons k2 y''=>
    obtain⟨u',xs'',rfl,h1,hx''⟩:=xL.mp hx'
    obtain⟨v',ys'',rfl,h2,hy''⟩:=xL.mp hy'
    simp only [zip_cons_cons,List.cons.injEq,Prod.mk.injEq]at hz
    obtain⟨⟨rfl,rfl⟩,rfl⟩:=hz
    refine wB0 (he k1 (hm k1 mF0) k2 _ _ _ h1 h2 ?_)
    by_cases hk:k1=k2
    ·subst hk
     rw [dT0 rfl]
     simp only [Bool.not_true,fT,iF]
     refine wP0 ⟨rfl,rfl,x'',y'',xs'',ys'',rfl,λk hk=>hm k (mO _ hk),hx'',hy'',?_,by simpa using hlen⟩
     rw [<-hdec]
     by_cases hxy:x''=y''
     ·simp [hxy]
     ·simp [hxy]
    ·rw [dF0 hk]
     simp only [Bool.not_false,if_true]
     have hf:decide (x=y)=false:=by rw [<-hdec];simp [hk]
     rw [hf]at h
     exact wB0 (wP0 (wP0 (wP0 h)))
 ·rintro⟨r1,r2⟩ s' ⟨hr,rfl,x',y',xs',ys',hz,hm,hx',hy',hdec,hlen⟩
  simp only at hr
  subst hr
  refine wP0 ?_
  have hfin:(xs.size==ys.size)=decide (x=y):=by
   rw [<-hdec, <-hlen]
   cases x' with
   |nil=>
    rw [kY.mp hx']
    cases y' with
    |nil=>rw [kY.mp hy'];simp
    |cons k2 y''=>obtain⟨v',ys'',rfl,h2,hy''⟩:=xL.mp hy';simp
   |cons k1 x''=>
    obtain⟨u',xs'',rfl,h1,hx''⟩:=xL.mp hx'
    cases y' with
    |nil=>rw [kY.mp hy'];simp
    |cons k2 y''=>obtain⟨v',ys'',rfl,h2,hy''⟩:=xL.mp hy';simp at hz
  show P (.done (.ret (.bool (xs.size==ys.size)))) s'
  rw [hfin];exact h
theorem zOV{n:Nat}: ∀{ks:List NK},zMZ ks<=n-> ∀k∈ks,zNR k<=n
 |[],_,k,hk=>by simp at hk
 |x::xs,hx,k,hk=>by
  rw [zOU]at hx
  rcases mC.mp hk with rfl|hk
  ·omega
  ·exact zOV (by omega) k hk
theorem zVR: ∀(n:Nat){A:Around}{E:VP}{s:Shared}{x y:NK}{u v:Value}{Q:Bool->Shared->Prop},zNR x<=n->A.units+n<cLine->isN (mk prog w) s.heap x u->isN (mk prog w) s.heap y v->Q (decide (x=y)) s->wpAny (model prog w) A (eqBool u v) Q E s
 |n,A,E,s,.key a,.key b,u,v,Q,_,_,hx,hy,h=>(mk prog w).eqBool (gG.mp hx) (gG.mp hy) (by rw [yIT]at h;exact h)
 |n,A,E,s,.key a,.tup b,u,v,Q,_,hu,hx,hy,h=>by
  obtain⟨z,rz,fz⟩:=zVQ (gG.mp hx)
  obtain⟨l,o,items,m,rfl,ho,hc,hd,_⟩:=wU.mp hy
  rw [yNS]at h
  exact yLF rz fz (items:=items) ⟨o,ho,hc,m,hd⟩ (by omega) prog w E Q h
 |n,A,E,s,.tup a,.key b,u,v,Q,_,hu,hx,hy,h=>by
  obtain⟨z,rz,fz⟩:=zVQ (gG.mp hy)
  obtain⟨l,o,items,m,rfl,ho,hc,hd,_⟩:=wU.mp hx
  rw [yNT]at h
  exact yLE rz fz (items:=items) ⟨o,ho,hc,m,hd⟩ (by omega) prog w E Q h
 |0,A,E,s,.tup a,.tup b,u,v,Q,hd,_,hx,hy,h=>by rw [zEF]at hd;omega
 |n+1,A,E,s,.tup x,.tup y,u,v,Q,hd,hu,hx,hy,h=>by
  obtain⟨a,_,_,_,ea,_⟩:=wU.mp hx
  obtain⟨b,_,_,_,eb,_⟩:=wU.mp hy
  subst ea eb
  rw [zEF]at hd
  rw [yNU]at h
  unfold eqBool
  try with_reducible refine wpAny_holding ?_
  show wpAny _ _ (if(Value.ref a==Value.ref b)=true then _ else _) Q E s
  by_cases hab:(Value.ref a==Value.ref b)=true
  ·rw [iP hab]
   have e:a=b:=by have:=eq_of_beq hab;injection this
   subst e
   have:x=y:=NK.tup.inj (zSY hx hy)
   subst this
   exact wB0 (wpAny_rule (wP0 (by simpa using h)))
  ·rw [iN hab]
   refine wB0 (wpAny_richCompare_same_room (op:=.Eq) (zKW hx) (zKW hy) F.slot_tuple_eq
    (wpAny_call_entry F.slot_tuple_eq (zKW hx) F.entry_tuple_eq (yCS (λk1 hk1 k2 u v Q h1 h2 h3=>zVR n (zOV (by omega) k1 hk1) (show A.units+1+n<cLine by omega) h1 h2 h3) hx hy ⟨_,rfl,(λe=>nomatch e),wpAny_truthy_bool h⟩) (F.args_tuple_eq_2 _ _)) (by omega))
theorem yAI: ∀(n m:Nat){A:Around}{E:VP}{s:Shared}{x:NK}{u:Value}{Q:Bool->Shared->Prop},zNR x<=n->n<m->isN (mk prog w) s.heap x u->Q true s->wpAny (model prog w) A (eqIsQuiet m u) Q E s
 |n,m,A,E,s,.key k,u,Q,_,_,hx,h=>by
  rw [eqIsQuiet_byValue m ((mk prog w).byValue _ _ (gG.mp hx))]
  exact wP0 h
 |0,m,A,E,s,.tup ks,u,Q,hd,_,hx,h=>by rw [zEF]at hd;omega
 |n+1,0,A,E,s,.tup ks,u,Q,hd,hm,hx,h=>by omega
 |n+1,m+1,A,E,s,.tup ks,u,Q,hdp,hm,hx,h=>by
  obtain⟨a,o,items,j,rfl,ho,hc,hd,hi⟩:=wU.mp hx
  have hT:s.TypeIs (.ref a) "tuple":=⟨o,ho,hc⟩
  rw [zEF]at hdp
  unfold eqIsQuiet
  refine wB0 (wpAny_specialOf hT F.slot_tuple_eq.lookup ?_)
  show wpAny _ _ (isInstance (.ref a) (.type "tuple") >>= _) _ _ s
  refine wB0 (wpAny_isInstance hT isSubtype_tuple_tuple ?_)
  simp only [Bool.not_true,fT,iF]
  refine wB0 (wpAny_seqItems ho hd ?_)
  refine wB0 ?_
  show wpAny _ _ (forIn items _ _) _ _ s
  rw [<-Array.forIn_toList]
  refine wpAny_forIn_list _ (λrest r s'=>r.1=none/\s'=s/\ ∃left,(∀k∈left,k∈ks)/\zJE (mk prog w) s.heap left rest) _ ?_ ?_ _ _ ⟨rfl,rfl,ks,λk hk=>hk,hi⟩
  ·rintro v rest r s' ⟨hr,rfl,left,hm',hl⟩
   cases left with
   |nil=>rw [kY]at hl;cases hl
   |cons k left=>
    obtain⟨v',r',e,h1,h2⟩:=xL.mp hl
    cases e
    refine wB0 (yAI n m (zOV (by omega) k (hm' k mF0)) (by omega) h1 ?_)
    simp only [Bool.not_true,fT,iF]
    exact wP0 ⟨rfl,rfl,left,λk hk=>hm' k (mO _ hk),h2⟩
  ·rintro⟨r1,r2⟩ s' ⟨hr,rfl,_⟩
   simp only at hr
   subst hr
   exact wP0 h
end
noncomputable def yEY(prog:Program)(w:World):HeapKind prog w NK where
 is:=λh k a=>isN (mk prog w) h k (.ref a)/\zNR k<=4
 hash:=zGQ (mk prog w)
 draws:=zOS
 room:=λA=>A.units+4<cLine
 inj:=λhx hy=>zSY hx.1 hy.1
 keeps:=λx ho hd hs=>⟨zVO (λa o' items n e q=>(hs.2 a λz=>by
  subst z
  rw [ho]at e;cases e
  rw [hd]at q;cases q).trans e) x.1,x.2⟩
 pyHash:=λhu hk h=>zVP 4 hk.2 hu hk.1 h
 eqBool:=λhu hx hy h=>zVR 4 hx.2 hu hx.1 hy.1 h
 quiet:=λhk h=>yAI 4 8 hk.2 (by decide) hk.1 h
def DN(P:Program)(w:World)(a:Addr)(xs:List (NK×Addr×Value)):HO:=
 .ext λh=>xs.length<=sizeLine/\(a==sysModules)=false/\ ∃o es ep,h.get? a=some o/\o.ExactDict/\o.data=.dict es ep/\es.toList=xs.map (entryOfKey (yEY P w))/\(xs.map (·.1)).Nodup
end M
end L2
namespace L2
open PySem PySem.Spec PyProof.Rows
def Fly(h:Heap)(e T:Addr)(cls:Value)(d:Option Addr)(fl:Value):Prop:=
 ∃oe vs oT ts,h.get? e=some oe/\oe.cls=cls/\oe.dict=d/\oe.data=.fields vs/\vs[1]? =some (.ref T)/\T≠e/\h.get? T=some oT/\oT.data=.fields ts/\ts[3]? =some fl
structure Mvd(fs:List Addr)(e T:Addr)(h h':Heap):Prop where
 keep: ∀b o,b≠e->b≠T->b∉fs->h.get? b=some o->h'.get? b=some o
 slot: ∀b o,b≠e->b≠T->h.get? b=some o-> ∃sl,h'.get? b=some {o with slots:=sl}
 there: ∀b o,h.get? b=some o-> ∃o',h'.get? b=some o'
theorem Mvd.new{fs:List Addr}{e T T':Addr}{h h1 h2:Heap}(a:Mvd fs e T h h1)(n:h.get? T'=none)(b:Mvd fs e T' h1 h2):Mvd fs e T h h2:=by
 have ne: ∀c o,h.get? c=some o->c≠T':=λc o q z=>by rw [z,n]at q;cases q
 exact⟨λc o h1 h2 h3 q=>b.keep c o h1 (ne c o q) h3 (a.keep c o h1 h2 h3 q),λc o h1 h2 q=>by
  obtain⟨sl,e1⟩:=a.slot c o h1 h2 q
  obtain⟨sl',e2⟩:=b.slot c _ h1 (ne c o q) e1
  exact⟨sl',e2⟩,λc o q=>let ⟨o',e1⟩:=a.there c o q;b.there c o' e1⟩
def CXe(P:Program)(w:World):CXT:=λouter H s E x s'=> ∃e T C d H',x=.ref e/\s'.os=s.os/\AllBare s'.gens/\Un (frs outer) [] H H' s.heap s'.heap/\HOk P w H' s'.heap/\Fly s'.heap e T (.ref C) d .none/\
 s.heap.get? e=none/\s.heap.get? T=none/\H' e=none/\H' T=none/\E (.ref C) d H'
abbrev bmV:List Value:=[.type "ValueError",.type "Exception",.type "BaseException",.type "object"]
def qn:List Str:=["__class__","__getattribute__","__getattr__","__setattr__","place","number"]
end L2
namespace L2
namespace M
open PySem PySem.Spec PyProof.Rows
inductive MV where
 |non|bl (b:Bool)|int (i:Int)|str (x:List Nat)|tup (ds:List MV)|scr (ds:List MV)|loc (l:Nat)|typ (n:String)|obj (c:Str) (ns:List Str) (ds:List MV)
instance:Inhabited MV:=⟨.non⟩
inductive MO where
 |lst (ds:List MV)|dic (kvs:List (MV×MV))|ins (c:Str) (fs:List (Str×MV))
abbrev Sto:=List MO
def SqF(K:PySem.W.Frag)(H:Hp)(a:Addr)(xs:List V):Prop:=
 (∃o,H a=some (.frz o (.lst xs)))\/
  ∃(o:Obj)(its:Array Value)(n:Nat),K.lookup a=some o/\o.cls=.type "list"/\o.dict=none/\o.data=.seq its n/\its.size<=sizeLine/\Vals xs its.toList
theorem SqF.l{K:PySem.W.Frag}{H:Hp}{a:Addr}{xs:List V}(h:SqF K H a xs):SqL K H a xs:=by
 rcases h with⟨o,h⟩|h
 ·exact .inl (.inr ⟨o,h⟩)
 ·exact .inr h
mutual
def Den(K:PySem.W.Frag)(α:List Addr)(H:Hp):MV->V->Prop
 |.non,v=>v=.non
 |.bl b,v=>v=.bl b
 |.int i,v=>v=.int i
 |.str x,v=>v=.str (mkS x)
 |.tup ds,v=> ∃a vs,v=.ref a/\SqT K H a vs/\DenL K α H ds vs
 |.scr ds,v=> ∃a vs,v=.ref a/\SqF K H a vs/\DenL K α H ds vs
 |.loc l,v=> ∃a,v=.ref a/\α[l]? =some a
 |.typ n,v=>v=.ty n
 |.obj c ns ds,v=> ∃a C dx vs o,v=.ref a/\H a=some (.frz o (.ins C dx (ns.zip vs)))/\PySem.W.nsIn K mainGlobals c=some (some (.ref C))/\(PySem.W.clsIn K C).map (·.name)=some c/\ns.length=vs.length/\DenL K α H ds vs
def DenL(K:PySem.W.Frag)(α:List Addr)(H:Hp):List MV->List V->Prop
 |[],vs=>vs=[]
 |d::ds,vs=> ∃v r,vs=v::r/\Den K α H d v/\DenL K α H ds r
end
structure Ex0(α:List Addr)(H:Hp)(α':List Addr)(H':Hp):Prop where
 pre: ∃t,α'=α++t
 tup: ∀b xs,H b=some (.tup xs)->H' b=some (.tup xs)
 frz: ∀b o u,H b=some (.frz o u)->H' b=some (.frz o u)
structure Ext(α:List Addr)(H:Hp)(α':List Addr)(H':Hp):Prop extends Ex0 α H α' H' where
 new: ∀b∈α',b∈α\/H b=none
 keep: ∀b o,H b=some o->b∉α->H' b=some o
 has: ∀b o,H b=some o-> ∃o',H' b=some o'
section
variable{K:PySem.W.Frag}{α α' α'':List Addr}{H H' H'':Hp}
theorem Ext.refl(α:List Addr)(H:Hp):Ext α H α H:=⟨⟨⟨[],by simp⟩,λ_ _ h=>h,λ_ _ _ h=>h⟩,λb h=>.inl h,λ_ _ h _=>h,λ_ o h=>⟨o,h⟩⟩
theorem Ex0.grow(α t:List Addr)(H:Hp):Ex0 α H (α++t) H:=⟨⟨t,rfl⟩,λ_ _ h=>h,λ_ _ _ h=>h⟩
theorem Ext.free(x:Ext α H α' H'){b:Addr}(h:H' b=none):H b=none:=by
 cases e:H b with
 |none=>rfl
 |some o=>obtain⟨o',h'⟩:=x.has b o e;rw [h]at h';cases h'
theorem Ext.out(x:Ext α H α' H'){b:Addr}{o:HO}(h:H b=some o)(n:b∉α):b∉α':=λz=>by
 rcases x.new b z with z|z
 ·exact n z
 ·rw [h]at z;cases z
theorem Ext.trans(x:Ext α H α' H')(y:Ext α' H' α'' H''):Ext α H α'' H'' where
 pre:=by
  obtain⟨t,rfl⟩:=x.pre
  obtain⟨u,rfl⟩:=y.pre
  exact⟨t++u,by rw [aA]⟩
 new:=λb h=>(y.new b h).elim (x.new b) λz=>.inr (x.free z)
 keep:=λb o h n=>y.keep b o (x.keep b o h n) (x.out h n)
 has:=λb o h=>let ⟨o',h'⟩:=x.has b o h;y.has b o' h'
 tup:=λb xs h=>y.tup b xs (x.tup b xs h)
 frz:=λb o u h=>y.frz b o u (x.frz b o u h)
theorem Ex0.at(x:Ex0 α H α' H'){l:Nat}{a:Addr}(h:α[l]? =some a):α'[l]? =some a:=by
 obtain⟨t,rfl⟩:=x.pre
 rw [getElem?_append_left (gS0.mp h).1]
 exact h
theorem Ex0.sqT(x:Ex0 α H α' H'){a:Addr}{vs:List V}(q:SqT K H a vs):SqT K H' a vs:=by
 rcases q with(q|⟨o,q⟩)|q
 ·exact .inl (.inl (x.tup a vs q))
 ·exact .inl (.inr ⟨o,x.frz a o _ q⟩)
 ·exact .inr q
theorem Ex0.sqF(x:Ex0 α H α' H'){a:Addr}{vs:List V}(q:SqF K H a vs):SqF K H' a vs:=by
 rcases q with⟨o,q⟩|q
 ·exact .inl ⟨o,x.frz a o _ q⟩
 ·exact .inr q
mutual
theorem Den.ex0(x:Ex0 α H α' H'): ∀{d:MV}{v:V},Den K α H d v->Den K α' H' d v
 |.non,_,q=>by unfold Den at q ⊢; exact q
 |.bl _,_,q=>by unfold Den at q ⊢; exact q
 |.int _,_,q=>by unfold Den at q ⊢; exact q
 |.str _,_,q=>by unfold Den at q ⊢; exact q
 |.typ _,_,q=>by unfold Den at q ⊢; exact q
 |.obj c ns ds,_,q=>by
  unfold Den at q ⊢
  obtain⟨a,C,dx,vs,o,e,h,hn,hc,hl,l⟩:=q
  exact⟨a,C,dx,vs,o,e,x.frz a _ _ h,hn,hc,hl,DenL.ex0 x l⟩
 |.loc _,_,q=>by
  unfold Den at q ⊢
  obtain⟨a,e,h⟩:=q
  exact⟨a,e,x.at h⟩
 |.tup ds,_,q=>by
  unfold Den at q ⊢
  obtain⟨a,vs,e,s,l⟩:=q
  exact⟨a,vs,e,x.sqT s,DenL.ex0 x l⟩
 |.scr ds,_,q=>by
  unfold Den at q ⊢
  obtain⟨a,vs,e,s,l⟩:=q
  exact⟨a,vs,e,x.sqF s,DenL.ex0 x l⟩
theorem DenL.ex0(x:Ex0 α H α' H'): ∀{ds:List MV}{vs:List V},DenL K α H ds vs->DenL K α' H' ds vs
 |[],_,q=>by unfold DenL at q ⊢; exact q
 |d::ds,_,q=>by
  unfold DenL at q ⊢
  obtain⟨v,r,e,a,l⟩:=q
  exact⟨v,r,e,Den.ex0 x a,DenL.ex0 x l⟩
end
theorem Den.ext(x:Ext α H α' H'){d:MV}{v:V}(q:Den K α H d v):Den K α' H' d v:=q.ex0 x.toEx0
theorem DenL.ext(x:Ext α H α' H'){d:List MV}{v:List V}(q:DenL K α H d v):DenL K α' H' d v:=q.ex0 x.toEx0
theorem zNZ:Den K α H .non .non:=by unfold Den;rfl
theorem wN(b:Bool):Den K α H (.bl b) (.bl b):=by unfold Den;rfl
theorem xM(i:Int):Den K α H (.int i) (.int i):=by unfold Den;rfl
theorem jM(x:List Nat):Den K α H (.str x) (.str (mkS x)):=by unfold Den;rfl
theorem yAJ(n:String):Den K α H (.typ n) (.ty n):=by unfold Den;rfl
theorem zBZ{ds:List MV}{a:Addr}{vs:List V}(s:SqT K H a vs)(l:DenL K α H ds vs):Den K α H (.tup ds) (.ref a):=by unfold Den;exact⟨a,vs,rfl,s,l⟩
theorem yAK{ds:List MV}{a:Addr}{vs:List V}(s:SqF K H a vs)(l:DenL K α H ds vs):Den K α H (.scr ds) (.ref a):=by unfold Den;exact⟨a,vs,rfl,s,l⟩
theorem zOA{l:Nat}{a:Addr}(h:α[l]? =some a):Den K α H (.loc l) (.ref a):=by unfold Den;exact⟨a,rfl,h⟩
theorem zAY{v:V}(d:Den K α H .non v):v=.non:=by unfold Den at d;exact d
theorem zEG{b:Bool}{v:V}(d:Den K α H (.bl b) v):v=.bl b:=by unfold Den at d;exact d
theorem gY{i:Int}{v:V}(d:Den K α H (.int i) v):v=.int i:=by unfold Den at d;exact d
theorem kZ{x:List Nat}{v:V}(d:Den K α H (.str x) v):v=.str (mkS x):=by unfold Den at d;exact d
theorem yIU{c:Str}{ns:List Str}{ds:List MV}{a C dx:Addr}{vs:List V}{o:Obj}(h:H a=some (.frz o (.ins C dx (ns.zip vs))))(hn:PySem.W.nsIn K mainGlobals c=some (some (.ref C)))(hc:(PySem.W.clsIn K C).map (·.name)=some c)(hl:ns.length=vs.length)(l:DenL K α H ds vs):Den K α H (.obj c ns ds) (.ref a):=by unfold Den;exact⟨a,C,dx,vs,o,rfl,h,hn,hc,hl,l⟩
theorem cS{c:Str}{ns:List Str}{ds:List MV}{v:V}(d:Den K α H (.obj c ns ds) v): ∃a C dx vs o,v=.ref a/\H a=some (.frz o (.ins C dx (ns.zip vs)))/\PySem.W.nsIn K mainGlobals c=some (some (.ref C))/\(PySem.W.clsIn K C).map (·.name)=some c/\ns.length=vs.length/\DenL K α H ds vs:=by unfold Den at d;exact d
theorem cT{n:String}{v:V}(d:Den K α H (.typ n) v):v=.ty n:=by unfold Den at d;exact d
theorem jA{ds:List MV}{v:V}(d:Den K α H (.tup ds) v): ∃a vs,v=.ref a/\SqT K H a vs/\DenL K α H ds vs:=by unfold Den at d;exact d
theorem cU{ds:List MV}{v:V}(d:Den K α H (.scr ds) v): ∃a vs,v=.ref a/\SqF K H a vs/\DenL K α H ds vs:=by unfold Den at d;exact d
theorem gZ{l:Nat}{v:V}(d:Den K α H (.loc l) v): ∃a,v=.ref a/\α[l]? =some a:=by unfold Den at d;exact d
theorem xF:DenL K α H [] []:=by unfold DenL;rfl
theorem yO{d:MV}{v:V}{ds:List MV}{vs:List V}(a:Den K α H d v)(l:DenL K α H ds vs):DenL K α H (d::ds) (v::vs):=by unfold DenL;exact⟨v,vs,rfl,a,l⟩
theorem DenL.uncons{d:MV}{ds:List MV}{vs:List V}(l:DenL K α H (d::ds) vs): ∃v r,vs=v::r/\Den K α H d v/\DenL K α H ds r:=by unfold DenL at l;exact l
theorem DenL.isnil{vs:List V}(l:DenL K α H [] vs):vs=[]:=by unfold DenL at l;exact l
theorem DenL.length: ∀{ds:List MV}{vs:List V},DenL K α H ds vs->vs.length=ds.length
 |[],_,q=>by rw [q.isnil];rfl
 |d::ds,_,q=>by
  obtain⟨v,r,rfl,_,l⟩:=q.uncons
  rw [lC,lC,DenL.length l]
theorem DenL.append: ∀{ds es:List MV}{vs us:List V},DenL K α H ds vs->DenL K α H es us->DenL K α H (ds++es) (vs++us)
 |[],_,_,_,q,l=>by rw [q.isnil];exact l
 |d::ds,_,_,_,q,l=>by
  obtain⟨v,r,rfl,a,l'⟩:=q.uncons
  exact yO a (DenL.append l' l)
theorem DenL.drop: ∀{ds:List MV}{vs:List V}(n:Nat),DenL K α H ds vs->DenL K α H (ds.drop n) (vs.drop n)
 |_,_,0,q=>q
 |[],_,n+1,q=>by rw [q.isnil];exact xF
 |d::ds,_,n+1,q=>by
  obtain⟨v,r,rfl,_,l⟩:=q.uncons
  exact DenL.drop n l
theorem DenL.take: ∀{ds:List MV}{vs:List V}(n:Nat),DenL K α H ds vs->DenL K α H (ds.take n) (vs.take n)
 |_,_,0,q=>xF
 |[],_,n+1,q=>by rw [q.isnil];exact xF
 |d::ds,_,n+1,q=>by
  obtain⟨v,r,rfl,a,l⟩:=q.uncons
  exact yO a (DenL.take n l)
theorem DenL.set{d:MV}{v:V}(a:Den K α H d v): ∀{ds:List MV}{vs:List V}(n:Nat),DenL K α H ds vs->DenL K α H (ds.set n d) (vs.set n v)
 |[],_,_,q=>by rw [q.isnil];exact xF
 |e::ds,_,0,q=>by
  obtain⟨v',r,rfl,a',l⟩:=q.uncons
  exact yO a l
 |e::ds,_,n+1,q=>by
  obtain⟨v',r,rfl,a',l⟩:=q.uncons
  exact yO a' (DenL.set a n l)
theorem DenL.get: ∀{ds:List MV}{vs:List V}{i:Nat}{v:V},DenL K α H ds vs->vs[i]? =some v-> ∃d,ds[i]? =some d/\Den K α H d v
 |[],_,_,_,q,e=>by rw [q.isnil]at e;simp at e
 |d::ds,_,0,_,q,e=>by
  obtain⟨v,r,rfl,a,l⟩:=q.uncons
  simp at e;subst e
  exact⟨d,rfl,a⟩
 |d::ds,_,i+1,_,q,e=>by
  obtain⟨v,r,rfl,a,l⟩:=q.uncons
  obtain⟨d',h1,h2⟩:=DenL.get (i:=i) l (by simpa using e)
  exact⟨d',by simpa using h1,h2⟩
theorem DenL.at{ds:List MV}{vs:List V}{i:Nat}{d:MV}(q:DenL K α H ds vs)(e:ds[i]? =some d): ∃v,vs[i]? =some v/\Den K α H d v:=by
 have hi:i<ds.length:=(gS0.mp e).1
 have hv:i<vs.length:=by rw [q.length];exact hi
 obtain⟨d',h1,h2⟩:=q.get (gE0 hv)
 rw [e]at h1;cases h1
 exact⟨_,gE0 hv,h2⟩
theorem DenL.cut{ds:List MV}{vs:List V}(q:DenL K α H ds vs)(lo hi:Option Int):DenL K α H (cN ds lo hi) (zVJ vs lo hi):=by
 unfold cN zVJ
 rw [q.length]
 exact(q.drop _).take _
theorem zRU: ∀(ns:List Int),DenL K α H (ns.map MV.int) (ns.map V.int)
 |[]=>xF
 |b::bs=>yO (xM b) (zRU bs)
end
structure Gm where
 K:PySem.W.Frag
 mg:Str->Option Value
 P:Program
 w:World
abbrev _root_.L2.Cx.g(X:Cx):Gm:=⟨X.K,X.mg,X.prog,X.w⟩
inductive DenF(K:PySem.W.Frag)(α:List Addr)(H:Hp):List (Str×MV)->List (Str×V)->Prop
 |nil:DenF K α H [] []
 |cons {x:Str} {d:MV} {v:V} {fs gs}:Den K α H d v->DenF K α H fs gs->DenF K α H ((x,d)::fs) ((x,v)::gs)
theorem DenF.ex0{K:PySem.W.Frag}{α α':List Addr}{H H':Hp}(x:Ex0 α H α' H'): ∀{fs gs},DenF K α H fs gs->DenF K α' H' fs gs
 |_,_,.nil=>.nil
 |_,_,.cons a l=>.cons (a.ex0 x) (DenF.ex0 x l)
def KeyD:MV->Key->Prop
 |.int i,k=>k=.inl i
 |.str x,k=>k=.inr (mkS x)
 |_,_=>False
inductive DenK(K:PySem.W.Frag)(α:List Addr)(H:Hp):List (MV×MV)->List (Key×V)->Prop
 |nil:DenK K α H [] []
 |cons {k:MV} {k':Key} {d:MV} {v:V} {fs gs}:KeyD k k'->Den K α H d v->DenK K α H fs gs->DenK K α H ((k,d)::fs) ((k',v)::gs)
theorem DenK.ex0{K:PySem.W.Frag}{α α':List Addr}{H H':Hp}(x:Ex0 α H α' H'): ∀{fs gs},DenK K α H fs gs->DenK K α' H' fs gs
 |_,_,.nil=>.nil
 |_,_,.cons k a l=>.cons k (a.ex0 x) (DenK.ex0 x l)
mutual
def nkOf:MV->Option NK
 |.int i=>some (.key (.inl i))
 |.str x=>some (.key (.inr (mkS x)))
 |.tup ds=>(yLG ds).map .tup
 |_=>none
def yLG:List MV->Option (List NK)
 |[]=>some []
 |d::ds=>(nkOf d).bind λk=>(yLG ds).map (k::·)
end
inductive DenN(K:PySem.W.Frag)(α:List Addr)(H:Hp):List (MV×MV)->List (NK×Addr×Value)->Prop
 |nil:DenN K α H [] []
 |cons {k:MV} {nk:NK} {a:Addr} {d:MV} {v:V} {u:Value} {fs xs}:nkOf k=some nk->zNR nk<=4->Den K α H k (.ref a)->Den K α H d v->RelV v u->DenN K α H fs xs->DenN K α H ((k,d)::fs) ((nk,a,u)::xs)
theorem DenN.ex0{K:PySem.W.Frag}{α α':List Addr}{H H':Hp}(x:Ex0 α H α' H'): ∀{fs xs},DenN K α H fs xs->DenN K α' H' fs xs
 |_,_,.nil=>.nil
 |_,_,.cons k e a d r l=>.cons k e (a.ex0 x) (d.ex0 x) r (DenN.ex0 x l)
def ObD(g:Gm)(α:List Addr)(H:Hp)(a:Addr):MO->Prop
 |.lst ds=> ∃vs,H a=some (.lst vs)/\DenL g.K α H ds vs
 |.dic kvs=>(∃ks,H a=some (.dK ks)/\DenK g.K α H kvs ks)\/ ∃xs,H a=some (DN g.P g.w a xs)/\DenN g.K α H kvs xs
 |.ins c fs=> ∃C gs,g.mg c=some (.ref C)/\DenF g.K α H fs gs/\
   ∃oe,H a=some (.ext λh=>h.get? a=some oe)/\oe.cls=.ref C/\(fs=[]\/ ∃dx od,oe.dict=some dx/\H dx=some (.frz od (.xd gs))/\ ∃vs,oe.data=.fields vs)
theorem ObD.there{g:Gm}{α:List Addr}{H:Hp}{a:Addr}{o:MO}(h:ObD g α H a o): ∃ho,H a=some ho/\(∀xs,ho≠.tup xs)/\ ∀ob u,ho≠.frz ob u:=by
 cases o with
 |lst ds=>obtain⟨vs,h,_⟩:=h;exact⟨_,h,(λxs z=>by cases z),λ_ _ z=>by cases z⟩
 |dic ds=>
  rcases h with⟨vs,h,_⟩|⟨vs,h,_⟩
  ·exact⟨_,h,(λxs z=>by cases z),λ_ _ z=>by cases z⟩
  ·exact⟨_,h,(λxs z=>by cases z),λ_ _ z=>by cases z⟩
 |ins c ds=>
  obtain⟨_,_,_,_,_,h,_⟩:=h
  exact⟨_,h,(λxs z=>by cases z),λ_ _ z=>by cases z⟩
theorem ObD.move{g:Gm}{α α':List Addr}{H H':Hp}{a:Addr}{o:MO}(h:ObD g α H a o)(x:Ex0 α H α' H')(e:H' a=H a):ObD g α' H' a o:=by
 cases o with
 |lst ds=>obtain⟨vs,h,l⟩:=h;exact⟨vs,e.trans h,l.ex0 x⟩
 |dic ds=>
  rcases h with⟨vs,h,l⟩|⟨vs,h,l⟩
  ·exact .inl ⟨vs,e.trans h,l.ex0 x⟩
  ·exact .inr ⟨vs,e.trans h,l.ex0 x⟩
 |ins c ds=>
  obtain⟨C,gs,m,l,oe,h,hc,hf⟩:=h
  exact⟨C,gs,m,l.ex0 x,oe,e.trans h,hc,hf.imp id λ⟨dx,od,h1,h2,h3⟩=>⟨dx,od,h1,x.frz _ _ _ h2,h3⟩⟩
structure Wd(g:Gm)(α:List Addr)(S:Sto)(H:Hp):Prop where
 len:α.length=S.length
 nd:α.Nodup
 obj: ∀(l:Nat)(a:Addr)(o:MO),α[l]? =some a->S[l]? =some o->ObD g α H a o
section
variable{g:Gm}{α α':List Addr}{S S':Sto}{H H':Hp}
theorem Wd.at(w:Wd g α S H){l:Nat}{o:MO}(h:S[l]? =some o): ∃a,α[l]? =some a/\ObD g α H a o:=by
 have hl:l<α.length:=by rw [w.len];exact(gS0.mp h).1
 exact⟨α[l],gE0 hl,w.obj l _ o (gE0 hl) h⟩
theorem Wd.of(w:Wd g α S H){l:Nat}{a:Addr}(h:α[l]? =some a): ∃o,S[l]? =some o/\ObD g α H a o:=by
 have hl:l<S.length:=by rw [<-w.len];exact(gS0.mp h).1
 exact⟨S[l],gE0 hl,w.obj l a _ h (gE0 hl)⟩
theorem Wd.mem(w:Wd g α S H){a:Addr}(h:a∈α): ∃ho,H a=some ho/\(∀xs,ho≠.tup xs)/\ ∀ob u,ho≠.frz ob u:=by
 obtain⟨l,hl⟩:=List.getElem?_of_mem h
 obtain⟨o,_,q⟩:=w.of hl
 exact q.there
theorem Wd.newx(w:Wd g α S H){p:Addr}{o:HO}(hp:H p=none):Ext α H α (upd H p o) where
 pre:=⟨[],by simp⟩
 new:=λb h=>.inl h
 keep:=λb o h _=>by rw [yG (xB h hp)];exact h
 has:=λb o h=>⟨o,by rw [yG (xB h hp)];exact h⟩
 tup:=λb o h=>by rw [yG (xB h hp)];exact h
 frz:=λb o u h=>by rw [yG (xB h hp)];exact h
theorem Wd.fresh(w:Wd g α S H){p:Addr}(hp:H p=none):p∉α:=λz=>by
 obtain⟨_,h,_⟩:=w.mem z;rw [hp]at h;cases h
theorem Wd.new(w:Wd g α S H){p:Addr}{o:HO}(hp:H p=none):Wd g α S (upd H p o):=
 ⟨w.len,w.nd,λl a ob h1 h2=>(w.obj l a ob h1 h2).move (w.newx hp).toEx0 (yG λz=>w.fresh hp (by rw [<-z];exact mem_of_getElem? h1))⟩
theorem Wd.writex(w:Wd g α S H){l:Nat}{a:Addr}{o:HO}(h:α[l]? =some a):Ext α H α (upd H a o) where
 pre:=⟨[],by simp⟩
 new:=λb h=>.inl h
 keep:=λb o e n=>by rw [yG λz=>n (by rw [z];exact mem_of_getElem? h)];exact e
 has:=λb o e=>by
  by_cases z:b=a
  ·subst z;exact⟨_,wL⟩
  ·exact⟨o,by rw [yG z];exact e⟩
 tup:=λb xs e=>by
  obtain⟨ho,h1,h2,_⟩:=w.mem (mem_of_getElem? h)
  rw [yG λz=>h2 xs (by subst z;rw [e]at h1;exact(Option.some.inj h1).symm)];exact e
 frz:=λb ob u e=>by
  obtain⟨ho,h1,_,h2⟩:=w.mem (mem_of_getElem? h)
  rw [yG λz=>h2 ob u (by subst z;rw [e]at h1;exact(Option.some.inj h1).symm)];exact e
theorem Wd.ne(w:Wd g α S H){l m:Nat}{a b:Addr}(h:α[l]? =some a)(h':α[m]? =some b)(n:l≠m):a≠b:=by
 rintro rfl
 obtain⟨h1,e1⟩:=gS0.mp h
 obtain⟨h2,e2⟩:=gS0.mp h'
 exact n ((getElem_inj w.nd).mp (e1.trans e2.symm))
theorem Wd.write(w:Wd g α S H){l:Nat}{a:Addr}{o:HO}{ob:MO}(h:α[l]? =some a)(q:ObD g α (upd H a o) a ob):Wd g α (S.set l ob) (upd H a o) where
 len:=by rw [length_set];exact w.len
 nd:=w.nd
 obj:=λm b ob' h1 h2=>by
  by_cases e:l=m
  ·subst e
   rw [h]at h1
   have hl:l<S.length:=by rw [<-w.len];exact(gS0.mp h).1
   rw [getElem?_set_self hl]at h2
   rw [<-Option.some.inj h1, <-Option.some.inj h2]
   exact q
  ·rw [getElem?_set_ne e]at h2
   exact(w.obj m b ob' h1 h2).move (w.writex h).toEx0 (yG (w.ne h1 h λz=>e z.symm))
theorem Wd.enterx(w:Wd g α S H){H0:Hp}{α0:List Addr}(x:Ext α0 H0 α H){b:Addr}(h0:H0 b=none)(n:b∉α):Ext α0 H0 (α++[b]) H where
 pre:=let ⟨t,e⟩:=x.pre;⟨t++[b],by rw [e,aA]⟩
 new:=λc hc=>(mem_append.mp hc).elim (x.new c) λz=>.inr (by rw [mS.mp z];exact h0)
 keep:=x.keep
 has:=x.has
 tup:=x.tup
 frz:=x.frz
theorem Wd.enter(w:Wd g α S H){b:Addr}{ds:List MV}{vs:List V}(h:H b=some (.lst vs))(n:b∉α)(l:DenL g.K α H ds vs):Wd g (α++[b]) (S++[.lst ds]) H where
 len:=by rw [lA,lA,w.len];rfl
 nd:=List.nodup_append.mpr ⟨w.nd,by simp,λa ha c hc=>by rw [mS.mp hc];rintro rfl;exact n ha⟩
 obj:=λm a o h1 h2=>by
  by_cases hm:m<α.length
  ·rw [getElem?_append_left hm]at h1
   rw [getElem?_append_left (by rw [<-w.len];exact hm)]at h2
   exact(w.obj m a o h1 h2).move (Ex0.grow α [b] H) rfl
  ·have hm':m=α.length:=by
    have:=(gS0.mp h1).1
    rw [lA,lS]at this
    omega
   subst hm'
   rw [getElem?_append_right (le_refl _),sub_self]at h1
   rw [getElem?_append_right (by rw [w.len];exact le_refl _),w.len,sub_self]at h2
   cases h1;cases h2
   exact⟨vs,h,l.ex0 (Ex0.grow α [b] H)⟩
end
inductive R(β:Type) where
 |ok (b:β) (S:Sto)|exc (c:Str) (fs:List (Str×MV)) (S:Sto)|no
def R.bind{β γ:Type}:R β->(β->Sto->R γ)->R γ
 |.ok b S,k=>k b S
 |.exc c fs S,_=>.exc c fs S
 |.no,_=>.no
theorem R.bind_ok{β γ:Type}(b:β)(S:Sto)(k:β->Sto->R γ):(R.ok b S).bind k=k b S:=rfl
inductive Er where
 |val (d:MV)|new (ds:List MV)
instance:Inhabited Er:=⟨.val .non⟩
def DenX(K:PySem.W.Frag)(α:List Addr)(H:Hp):Er->V->Prop
 |.val d,v=>Den K α H d v
 |.new ds,v=> ∃b vs,v=.ref b/\H b=some (.lst vs)/\b∉α/\DenL K α H ds vs
def DenE(K:PySem.W.Frag)(H:Hp)(α':List Addr)(H':Hp)(r:Er)(v:V):Prop:=DenX K α' H' r v/\match r with |.new _=> ∀a,v=.ref a->H a=none|_=>True
section
variable{K:PySem.W.Frag}{α α':List Addr}{H H0 H':Hp}
theorem DenX.ext(x:Ext α H α' H'): ∀{r:Er}{v:V},DenX K α H r v->DenX K α' H' r v
 |.val d,_,q=>Den.ext x q
 |.new ds,_,⟨b,vs,e,h,n,l⟩=>⟨b,vs,e,x.keep b _ h n,x.out h n,l.ext x⟩
theorem DenE.val{d:MV}{v:V}(q:Den K α' H' d v):DenE K H α' H' (.val d) v:=⟨q,trivial⟩
theorem DenE.back(hf: ∀b,H b=none->H0 b=none){r:Er}{v:V}(q:DenE K H α' H' r v):DenE K H0 α' H' r v:=by
 refine⟨q.1,?_⟩
 cases r with
 |new ds=>exact λa e=>hf a (q.2 a e)
 |_=>trivial
theorem DenE.ext{α'':List Addr}{H'':Hp}(x:Ext α' H' α'' H''){r:Er}{v:V}(q:DenE K H α' H' r v):DenE K H α'' H'' r v:=⟨q.1.ext x,q.2⟩
end
section
variable{K:PySem.W.Frag}{α:List Addr}{H:Hp}{v:V}
theorem zKA(d:DenX K α H (.val .non) v):v=.non:=zAY (K:=K) (α:=α) (H:=H) d
theorem zEH{b:Bool}(d:DenX K α H (.val (.bl b)) v):v=.bl b:=zEG (K:=K) (α:=α) (H:=H) d
theorem yW{b:Int}(d:DenX K α H (.val (.int b)) v):v=.int b:=gY (K:=K) (α:=α) (H:=H) d
theorem xC{b:List Nat}(d:DenX K α H (.val (.str b)) v):v=.str (mkS b):=kZ (K:=K) (α:=α) (H:=H) d
theorem yEZ{b:String}(d:DenX K α H (.val (.typ b)) v):v=.ty b:=cT (K:=K) (α:=α) (H:=H) d
theorem yNV{c:Str}{ns:List Str}{ds:List MV}(d:DenX K α H (.val (.obj c ns ds)) v): ∃a C dx vs o,v=.ref a/\H a=some (.frz o (.ins C dx (ns.zip vs)))/\PySem.W.nsIn K mainGlobals c=some (some (.ref C))/\(PySem.W.clsIn K C).map (·.name)=some c/\ns.length=vs.length/\DenL K α H ds vs:=cS (K:=K) (α:=α) (H:=H) d
theorem bA{ds:List MV}(d:DenX K α H (.val (.tup ds)) v): ∃a vs,v=.ref a/\SqT K H a vs/\DenL K α H ds vs:=jA (K:=K) (α:=α) (H:=H) d
theorem zOW{ds:List MV}(d:DenX K α H (.val (.scr ds)) v): ∃a vs,v=.ref a/\SqF K H a vs/\DenL K α H ds vs:=cU (K:=K) (α:=α) (H:=H) d
theorem zFB{l:Nat}(d:DenX K α H (.val (.loc l)) v): ∃a,v=.ref a/\α[l]? =some a:=gZ (K:=K) (α:=α) (H:=H) d
end
def zJJ:List Er->List V->List Addr
 |.new _::rs,.ref b::vs=>b::zJJ rs vs
 |_::rs,_::vs=>zJJ rs vs
 |_,_=>[]
inductive ArgsE(K:PySem.W.Frag)(H:Hp)(α':List Addr)(H':Hp):List Er->List V->Prop
 |nil:ArgsE K H α' H' [] []
 |cons {r v rs vs}:DenE K H α' H' r v->(∀ds b,r=.new ds->v=.ref b->b∉zJJ rs vs)->ArgsE K H α' H' rs vs->ArgsE K H α' H' (r::rs) (v::vs)
theorem ArgsE.nones{K:PySem.W.Frag}{H:Hp}{α':List Addr}{H':Hp}: ∀{rs vs},ArgsE K H α' H' rs vs-> ∀b∈zJJ rs vs,H b=none
 |_,_,.nil=>λb h=>by simp [zJJ]at h
 |.val d::_,v::_,.cons a n l=>λb h=>ArgsE.nones l b (by simpa [zJJ]using h)
 |.new ds::_,v::_,.cons a n l=>λb h=>by
  obtain⟨c,vs,rfl,_⟩:=a.1
  rcases mC.mp (show b∈c::zJJ _ _ from h)with rfl|h
  ·exact a.2 _ rfl
  ·exact ArgsE.nones l b h
theorem ArgsE.back{K:PySem.W.Frag}{H H0:Hp}{α':List Addr}{H':Hp}(hf: ∀b,H b=none->H0 b=none): ∀{rs vs},ArgsE K H α' H' rs vs->ArgsE K H0 α' H' rs vs
 |_,_,.nil=>.nil
 |_,_,.cons a n l=>.cons (a.back hf) n (ArgsE.back hf l)
theorem ArgsE.length{K:PySem.W.Frag}{H:Hp}{α':List Addr}{H':Hp}: ∀{rs vs},ArgsE K H α' H' rs vs->vs.length=rs.length
 |_,_,.nil=>rfl
 |_,_,.cons _ _ l=>by rw [lC,lC,ArgsE.length l]
class Dn (β:Type) (τ:outParam Type) where
 d:Gm->Hp->List Addr->Sto->Hp->β->τ->Prop
 back: ∀{g:Gm}{H H0:Hp}{α':List Addr}{S':Sto}{H':Hp}{b:β}{u:τ},(∀b,H b=none->H0 b=none)->d g H α' S' H' b u->d g H0 α' S' H' b u
instance:Dn Er V:=⟨λg H α' _ H' r v=>DenE g.K H α' H' r v,λhf q=>q.back hf⟩
instance:Dn Bool Bool:=⟨λ_ _ _ _ _ b u=>u=b,λ_ q=>q⟩
instance:Dn (List Er) (List V):=⟨λg H α' _ H' r v=>ArgsE g.K H α' H' r v,λhf q=>q.back hf⟩
instance:Dn (Option Int) (Option Int):=⟨λ_ _ _ _ _ b u=>u=b,λ_ q=>q⟩
abbrev XW:=Str->List (Str×MV)->Sto->List Addr->Hp->Prop
abbrev W0:XW:=λ_ _ _ _ _=>False
def Post{β τ:Type}[Dn β τ](g:Gm)(W:XW)(α:List Addr)(H:Hp):R β->(τ->Hp->Prop)->Prop
 |.ok b S,Q=> ∀u α' H',Ext α H α' H'->Wd g α' S H'->Dn.d g H α' S H' b u->Q u H'
 |.exc c fs S,_=> ∀α' H',Ext α H α' H'->Wd g α' S H'->W c fs S α' H'
 |.no,_=>False
section
variable{β τ γ υ:Type}[Dn β τ][Dn γ υ]{g:Gm}{W:XW}{α α':List Addr}{H H':Hp}
theorem Post.shift(x:Ext α H α' H'): ∀{m:R β}{Q:τ->Hp->Prop},Post g W α H m Q->Post g W α' H' m Q
 |.ok b S,Q,q=>λu α2 H2 x2 w2 d2=>q u α2 H2 (x.trans x2) w2 (Dn.back (λb h=>x.free h) d2)
 |.exc c fs S,_,q=>λα2 H2 x2 w2=>q α2 H2 (x.trans x2) w2
 |.no,_,q=>q
theorem Post.bind{m:R β}{k:β->Sto->R γ}{Q:υ->Hp->Prop}{Q':τ->Hp->Prop}(q:Post g W α H (m.bind k) Q)
  (f: ∀u b S1 α1 H1,m=.ok b S1->Ext α H α1 H1->Wd g α1 S1 H1->Dn.d g H α1 S1 H1 b u->Post g W α H (k b S1) Q->Q' u H1):Post g W α H m Q':=by
 cases m with
 |ok b S=>exact λu α1 H1 x w d=>f u b S α1 H1 rfl x w d q
 |exc c fs S=>exact q
 |no=>exact q
theorem Post.here{b:β}{S:Sto}{Q:τ->Hp->Prop}{u:τ}(q:Post g W α H (.ok b S) Q)(w:Wd g α S H)(d:Dn.d g H α S H b u):Q u H:=q u α H (Ext.refl α H) w d
end
theorem Post.val{g:Gm}{W:XW}{α:List Addr}{H:Hp}{d:MV}{S:Sto}{Q:VK}{v:V}(q:Post g W α H (.ok (Er.val d) S) Q)(w:Wd g α S H)(k:Den g.K α H d v):Q v H:=q.here w (DenE.val k)
theorem Post.newl{g:Gm}{W:XW}{α:List Addr}{H:Hp}{ds:List MV}{S:Sto}{Q:VK}{vs:List V}{p:Addr}(q:Post g W α H (.ok (Er.new ds) S) Q)(w:Wd g α S H)(hp:H p=none)(l:DenL g.K α H ds vs):Q (.ref p) (upd H p (.lst vs)):=
 q (.ref p) α _ (w.newx hp) (w.new hp) ⟨⟨p,vs,rfl,wL,w.fresh hp,l.ext (w.newx hp)⟩,λa e=>by cases e;exact hp⟩
theorem Post.newt{g:Gm}{W:XW}{α:List Addr}{H:Hp}{ds:List MV}{S:Sto}{Q:VK}{vs:List V}{p:Addr}(q:Post g W α H (.ok (Er.val (.tup ds)) S) Q)(w:Wd g α S H)(hp:H p=none)(l:DenL g.K α H ds vs):Q (.ref p) (upd H p (.tup vs)):=
 q (.ref p) α _ (w.newx hp) (w.new hp) (.val (zBZ (.of wL) (l.ext (w.newx hp))))
abbrev Rho:=List (Option MV)
structure Slots(K:PySem.W.Frag)(α:List Addr)(H:Hp)(ρ:Rho)(σ:St):Prop where
 len:σ.length=ρ.length
 slot: ∀(i:Nat)(d:MV),ρ[i]? =some (some d)-> ∃v,σ[i]? =some (some v)/\Den K α H d v
section
variable{K:PySem.W.Frag}{α α':List Addr}{H H':Hp}{ρ:Rho}{σ:St}
theorem Slots.ex0(q:Slots K α H ρ σ)(x:Ex0 α H α' H'):Slots K α' H' ρ σ:=⟨q.len,λi d e=>let ⟨v,h1,h2⟩:=q.slot i d e;⟨v,h1,h2.ex0 x⟩⟩
theorem Slots.ext(q:Slots K α H ρ σ)(x:Ext α H α' H'):Slots K α' H' ρ σ:=q.ex0 x.toEx0
theorem yIV{α:Type}{l:List α}{i j:Nat}{x y:α}(h:(l.set i x)[j]? =some y):(j=i/\y=x/\i<l.length)\/(j≠i/\l[j]? =some y):=by
 by_cases hj:i=j
 ·subst hj
  by_cases hl:i<l.length
  ·rw [getElem?_set_self hl]at h
   exact .inl ⟨rfl,(Option.some.inj h).symm,hl⟩
  ·rw [List.getElem?_eq_none (by rw [length_set];omega)]at h;cases h
 ·rw [getElem?_set_ne hj]at h
  exact .inr ⟨λz=>hj z.symm,h⟩
theorem Slots.set(q:Slots K α H ρ σ){i:Nat}{d:MV}{v:V}(h:Den K α H d v):Slots K α H (ρ.set i (some d)) (σ.set i (some v)):=by
 refine⟨by rw [length_set,length_set];exact q.len,λj e z=>?_⟩
 rcases yIV z with⟨rfl,e',hl⟩|⟨hj,e'⟩
 ·cases e'
  exact⟨v,by rw [getElem?_set_self (by rw [q.len];exact hl)],h⟩
 ·obtain⟨u,h1,h2⟩:=q.slot j e e'
  exact⟨u,by rw [getElem?_set_ne (Ne.symm hj)];exact h1,h2⟩
end
def Jd(X:Cx)(W:XW){β τ:Type}[Dn β τ](P:(St->Hp->(τ->Hp->Prop)->Prop)->Prop)(f:Rho->Sto->R β):Prop:=
 ∃t,P t/\ ∀α ρ S σ H Q,Wd X.g α S H->Slots X.K α H ρ σ->Post X.g W α H (f ρ S) Q->t σ H Q
abbrev PEm(X:Cx)(W:XW)(e:Expr)(f:Rho->Sto->R Er):Prop:=Jd X W (PE X e) f
abbrev PTm(X:Cx)(W:XW)(e:Expr)(f:Rho->Sto->R Bool):Prop:=Jd X W (PT X e) f
abbrev PWm(X:Cx)(W:XW)(e:Expr)(f:Rho->Sto->R Bool):Prop:=Jd X W (PW X e) f
abbrev PAm(X:Cx)(W:XW)(es:List Expr)(f:Rho->Sto->R (List Er)):Prop:=Jd X W (PA X es) f
abbrev POm(X:Cx)(W:XW)(e:Option Expr)(f:Rho->Sto->R (Option Int)):Prop:=Jd X W (PO X e) f
section
variable{X:Cx}{W:XW}{a b c e:Expr}{es:List Expr}{f g h:Rho->Sto->R Er}{tf tg:Rho->Sto->R Bool}{af:Rho->Sto->R (List Er)}{pos:Pos}
def rdSl:Option (Option MV)->Sto->R Er
 |some (some d),S=>.ok (.val d) S
 |_,_=>.no
theorem zA(i:Nat){x:Str}(hN:X.N[i]? =some x:=by rfl)(hv:Vis X.env.scope x:=by first |exact Or.inl rfl|exact Or.inr (Or.inl rfl)|exact Or.inr (Or.inr rfl))(hd:(x==("__debug__":Str))=false:=by decide)
  (hcd:(x==("__classdict__":Str))=false:=by decide):PEm X W (.Name x pos) (λρ S=>rdSl (ρ[i]?) S):=by
 refine⟨_,pv i hN hv hd hcd,λα ρ S σ H Q wd sl q=>?_⟩
 dsimp only at q
 cases z:ρ[i]? with
 |none=>rw [z]at q;exact q.elim
 |some o=>
  cases o with
  |none=>rw [z]at q;exact q.elim
  |some d=>
   rw [z]at q
   obtain⟨v,h1,h2⟩:=sl.slot i d z
   exact⟨v,h1,Post.val q wd h2⟩
theorem zE{i:Int}{j:Nat}:PEm X W (.Constant (.int i) j pos) (λ_ S=>.ok (.val (.int i)) S):=⟨_,zYC,λα ρ S σ H Q wd sl q=>Post.val q wd (xM i)⟩
theorem zGS{i:Bool}{j:Nat}:PEm X W (.Constant (.bool i) j pos) (λ_ S=>.ok (.val (.bl i)) S):=⟨_,pe_bl,λα ρ S σ H Q wd sl q=>Post.val q wd (wN i)⟩
theorem yFA{j:Nat}:PEm X W (.Constant .none j pos) (λ_ S=>.ok (.val .non) S):=⟨_,yML,λα ρ S σ H Q wd sl q=>Post.val q wd zNZ⟩
theorem zZ{x:Str}{j:Nat}(cs:List Nat)(hx:x=mkS cs:=by rfl):PEm X W (.Constant (.str x) j pos) (λ_ S=>.ok (.val (.str cs)) S):=
 ⟨_,yMM,λα ρ S σ H Q wd sl q=>Post.val q wd (by rw [hx];exact jM cs)⟩
theorem zOB{x:Str}{i:Int}{t:Tok}(hg:Gl X x)(hm:X.mg x=some (.int i t))(hd:(x==("__debug__":Str))=false:=by decide):PEm X W (.Name x pos) (λ_ S=>.ok (.val (.int i)) S):=
 ⟨_,zZZ (v:=.int i) hg hm ⟨t,rfl⟩ hd,λα ρ S σ H Q wd sl q=>Post.val q wd (xM i)⟩
theorem yIW{x:Str}{y:List Nat}{t:Tok}(hg:Gl X x)(hm:X.mg x=some (.str (mkS y) t))(hd:(x==("__debug__":Str))=false:=by decide):PEm X W (.Name x pos) (λ_ S=>.ok (.val (.str y)) S):=
 ⟨_,zZZ (v:=.str (mkS y)) hg hm ⟨t,rfl⟩ hd,λα ρ S σ H Q wd sl q=>Post.val q wd (jM y)⟩
theorem bB{x:Str}{T:String}(hg:Gl X x)(hm:X.mg x=none)(hv:bootBuiltins x=some (.type T))(hn:x≠"__name__":=by decide)(hd:(x==("__debug__":Str))=false:=by decide):PEm X W (.Name x pos) (λ_ S=>.ok (.val (.typ T)) S):=
 ⟨_,yHZ (v:=.ty T) hg hm hv rfl hn hd,λα ρ S σ H Q wd sl q=>Post.val q wd (yAJ T)⟩
theorem yNW{i:Int}{j:Nat}{p3:Pos}:PEm X W (.UnaryOp .USub (.Constant (.int i) j p3) pos) (λ_ S=>.ok (.val (.int (-i))) S):=
 ⟨_,yLC yEF zYC,λα ρ S σ H Q wd sl q=>⟨i,rfl,Post.val q wd (xM (-i))⟩⟩
def Op2(X:Cx)(W:XW)(r:R2)(F:Er->Er->Sto->R Er):Prop:= ∀p q x y α S H Q,Wd X.g α S H->DenX X.K α H p x->DenX X.K α H q y->Post X.g W α H (F p q S) Q->r x y H Q
theorem two{r:R2}{F:Er->Er->Sto->R Er}(hF:Op2 X W r F){ta tb:TE}(fa: ∀α ρ S σ H Q,Wd X.g α S H->Slots X.K α H ρ σ->Post X.g W α H (f ρ S) Q->ta σ H Q)
  (fb: ∀α ρ S σ H Q,Wd X.g α S H->Slots X.K α H ρ σ->Post X.g W α H (g ρ S) Q->tb σ H Q) {α:List Addr} {ρ:Rho} {S:Sto} {σ:St} {H:Hp} {Q:VK} (wd:Wd X.g α S H) (sl:Slots X.K α H ρ σ)
  (q:Post X.g W α H ((f ρ S).bind λp S1=>(g ρ S1).bind λq S2=>F p q S2) Q):ta σ H λx H1=>tb σ H1 λy H2=>r x y H2 Q:=
 fa α ρ S σ H _ wd sl (q.bind λu p S1 α1 H1 e1 x1 w1 d1 q1=>fb α1 ρ S1 σ H1 _ w1 (sl.ext x1) ((q1.shift x1).bind λu2 p2 S2 α2 H2 e2 x2 w2 d2 q2=>
  hF p p2 u u2 α2 S2 H2 Q w2 (d1.1.ext x2) d2.1 (q2.shift x2)))
theorem zRV{op:Operator}{r:R2}{F:Er->Er->Sto->R Er}(ho:OpR X (binaryOp op) r)(hF:Op2 X W r F)(ha:PEm X W a f)(hb:PEm X W b g):PEm X W (.BinOp a op b pos) (λρ S=>(f ρ S).bind λp S1=>(g ρ S1).bind λq S2=>F p q S2):=by
 obtain⟨ta,ha,fa⟩:=ha
 obtain⟨tb,hb,fb⟩:=hb
 exact⟨_,pe_op ho ha hb,λα ρ S σ H Q wd sl q=>two hF fa fb wd sl q⟩
theorem zOX{op:CmpOp}{r:R2}{F:Er->Er->Sto->R Er}(ho:OpR X (compareOp op) r)(hF:Op2 X W r F)(ha:PEm X W a f)(hb:PEm X W b g)(hm:behindInMarks op b=false:=by first |exact yEI _|with_unfolding_all rfl):
  PEm X W (.Compare a [op] [b] pos) (λρ S=>(f ρ S).bind λp S1=>(g ρ S1).bind λq S2=>F p q S2):=by
 obtain⟨ta,ha,fa⟩:=ha
 obtain⟨tb,hb,fb⟩:=hb
 exact⟨_,yIF ho ha hb hm,λα ρ S σ H Q wd sl q=>two hF fa fb wd sl q⟩
theorem pm_ix{r:R2}{F:Er->Er->Sto->R Er}(ho:IxR X r)(hF:Op2 X W r F)(ha:PEm X W a f)(hb:PEm X W b g)(hs:zSQ b:=by exact λ_ _=>rfl):
  PEm X W (.Subscript a b pos) (λρ S=>(f ρ S).bind λp S1=>(g ρ S1).bind λq S2=>F p q S2):=by
 obtain⟨ta,ha,fa⟩:=ha
 obtain⟨tb,hb,fb⟩:=hb
 exact⟨_,pe_ix ho ha hb hs,λα ρ S σ H Q wd sl q=>two hF fa fb wd sl q⟩
def asB:Er->Sto->R Bool
 |.val (.bl b),S=>.ok b S
 |_,_=>.no
theorem zVS{p:Er}{S:Sto}{α:List Addr}{H:Hp}{Q:Bool->Hp->Prop}(q:Post X.g W α H (asB p S) Q): ∃k,p=.val (.bl k)/\Post X.g W α H (.ok k S) Q:=by
 unfold asB at q
 split at q
 ·exact⟨_,rfl,q⟩
 ·exact q.elim
theorem zKX{β τ:Type}[Dn β τ]{p:Er}{S:Sto}{α:List Addr}{H:Hp}{k:Bool->Sto->R β}{Q:τ->Hp->Prop}(q:Post X.g W α H ((asB p S).bind k) Q): ∃c,p=.val (.bl c)/\Post X.g W α H (k c S) Q:=by
 unfold asB at q
 split at q
 ·exact⟨_,rfl,q⟩
 ·exact q.elim
theorem zLT{op:CmpOp}{r:R2}{F:Er->Er->Sto->R Er}(ho:OpR X (compareOp op) r)(hF:Op2 X W r F)(ha:PEm X W a f)(hb:PEm X W b g)(hm:behindInMarks op b=false:=by first |exact yEI _|with_unfolding_all rfl):
  PTm X W (.Compare a [op] [b] pos) (λρ S=>((f ρ S).bind λp S1=>(g ρ S1).bind λq S2=>F p q S2).bind asB):=by
 obtain⟨ta,ha,fa⟩:=ha
 obtain⟨tb,hb,fb⟩:=hb
 refine⟨_,yIG ho ha hb hm,λα ρ S σ H Q wd sl q=>?_⟩
 refine two hF fa fb wd sl (Q:=λx H'=> ∃k,x=.bl k/\Q k H') (q.bind λu p S1 α1 H1 e1 x1 w1 d1 q1=>?_)
 obtain⟨k,rfl,q2⟩:=zVS (q1.shift x1)
 exact⟨k,zEH d1.1,q2.here w1 rfl⟩
def chF(F G:Er->Er->Sto->R Er)(p q:Er)(S:Sto)(k:Sto->R Er):R Er:=(F p q S).bind λz S1=>(asB z S1).bind λc S2=>if c=true then(k S2).bind λr S3=>G q r S3 else .ok (.val (.bl false)) S2
theorem chain{r r':R2}{F G:Er->Er->Sto->R Er}(hF:Op2 X W r F)(hG:Op2 X W r' G){ta tb tc:TE}(fa: ∀α ρ S σ H Q,Wd X.g α S H->Slots X.K α H ρ σ->Post X.g W α H (f ρ S) Q->ta σ H Q)
  (fb: ∀α ρ S σ H Q,Wd X.g α S H->Slots X.K α H ρ σ->Post X.g W α H (g ρ S) Q->tb σ H Q) (fc: ∀α ρ S σ H Q,Wd X.g α S H->Slots X.K α H ρ σ->Post X.g W α H (h ρ S) Q->tc σ H Q) {α:List Addr} {ρ:Rho} {S:Sto} {σ:St} {H:Hp} {Q:VK} (wd:Wd X.g α S H) (sl:Slots X.K α H ρ σ)
  (q:Post X.g W α H ((f ρ S).bind λp S1=>(g ρ S1).bind λq S2=>chF F G p q S2 λS3=>h ρ S3) Q):zYE r r' ta tb tc σ H Q:=
 fa α ρ S σ H _ wd sl (q.bind λu p S1 α1 H1 e1 x1 w1 d1 q1=>fb α1 ρ S1 σ H1 _ w1 (sl.ext x1) ((q1.shift x1).bind λu2 p2 S2 α2 H2 e2 x2 w2 d2 q2=>by
  refine hF p p2 u u2 α2 S2 H2 _ w2 (d1.1.ext x2) d2.1 (Post.bind (q2.shift x2) λu3 p3 S3 α3 H3 e3 x3 w3 d3 q3=>?_)
  obtain⟨k,rfl,q4⟩:=zKX (q3.shift x3)
  refine⟨k,zEH d3.1,?_⟩
  cases k with
  |true=>
   rw [iP rfl]at q4 ⊢
   exact fc α3 ρ S3 σ H3 _ w3 (((sl.ext x1).ext x2).ext x3) (q4.bind λu5 p5 S5 α5 H5 e5 x5 w5 d5 q5=>hG p2 p5 u2 u5 α5 S5 H5 Q w5 ((d2.1.ext x3).ext x5) d5.1 (q5.shift x5))
  |false=>
   rw [iN xF0]at q4 ⊢
   exact Post.val q4 w3 (wN false)))
theorem zVT{op op':CmpOp}{r r':R2}{F G:Er->Er->Sto->R Er}(ho:OpR X (compareOp op) r)(ho':OpR X (compareOp op') r')(hF:Op2 X W r F)(hG:Op2 X W r' G)(ha:PEm X W a f)(hb:PEm X W b g)(hc:PEm X W c h)
  (hm:lastMarks [op,op'] [b,c]=false:=by with_unfolding_all rfl):
  PEm X W (.Compare a [op,op'] [b,c] pos) (λρ S=>(f ρ S).bind λp S1=>(g ρ S1).bind λq S2=>chF F G p q S2 λS3=>h ρ S3):=by
 obtain⟨ta,ha,fa⟩:=ha
 obtain⟨tb,hb,fb⟩:=hb
 obtain⟨tc,hc,fc⟩:=hc
 exact⟨_,yEJ ho ho' ha hb hc hm,λα ρ S σ H Q wd sl q=>chain hF hG fa fb fc wd sl q⟩
theorem yFB{op op':CmpOp}{r r':R2}{F G:Er->Er->Sto->R Er}(ho:OpR X (compareOp op) r)(ho':OpR X (compareOp op') r')(hF:Op2 X W r F)(hG:Op2 X W r' G)(ha:PEm X W a f)(hb:PEm X W b g)(hc:PEm X W c h)
  (hm:lastMarks [op,op'] [b,c]=false:=by with_unfolding_all rfl):
  PTm X W (.Compare a [op,op'] [b,c] pos) (λρ S=>((f ρ S).bind λp S1=>(g ρ S1).bind λq S2=>chF F G p q S2 λS3=>h ρ S3).bind asB):=by
 obtain⟨ta,ha,fa⟩:=ha
 obtain⟨tb,hb,fb⟩:=hb
 obtain⟨tc,hc,fc⟩:=hc
 refine⟨_,yEK ho ho' ha hb hc hm,λα ρ S σ H Q wd sl q=>?_⟩
 refine chain hF hG fa fb fc wd sl (Q:=λx H'=> ∃k,x=.bl k/\Q k H') (q.bind λu p S1 α1 H1 e1 x1 w1 d1 q1=>?_)
 obtain⟨k,rfl,q2⟩:=zVS (q1.shift x1)
 exact⟨k,zEH d1.1,q2.here w1 rfl⟩
def jR:Er->Sto->R Bool
 |.val .non,S=>.ok false S
 |.val (.bl b),S=>.ok b S
 |.val (.int i),S=>.ok (i !=0) S
 |.val (.str x),S=>if x.length<=sizeLine then .ok (!x.isEmpty) S else .no
 |.val (.tup ds),S=>.ok (!ds.isEmpty) S
 |.val (.scr ds),S=>.ok (!ds.isEmpty) S
 |.val (.loc l),S=>match S[l]? with
  |some (.lst ds)=>.ok (!ds.isEmpty) S
  |_=>.no
 |.val (.typ _),_=>.no
 |.val (.obj _ _ _),_=>.no
 |.new ds,S=>.ok (!ds.isEmpty) S
theorem zIL{ds:List MV}{vs:List V}{K:PySem.W.Frag}{α:List Addr}{H:Hp}(l:DenL K α H ds vs):(!vs.isEmpty)= !ds.isEmpty:=by
 have:=l.length
 cases ds<;>cases vs<;>simp_all
theorem yFC{p:Er}{x:V}{S:Sto}{α:List Addr}{H:Hp}{Q:Bool->Hp->Prop}(wd:Wd X.g α S H)(d:DenX X.K α H p x)(q:Post X.g W α H (jR p S) Q): ∃k,TruV X.K x H k/\Q k H:=by
 match p,d,q with
 |.val .non,d,q=>cases zKA d;exact⟨_,rfl,q.here wd rfl⟩
 |.val (.bl b),d,q=>cases zEH d;exact⟨_,rfl,q.here wd rfl⟩
 |.val (.int i),d,q=>cases yW d;exact⟨_,rfl,q.here wd rfl⟩
 |.val (.typ n),d,q=>exact q.elim
 |.val (.obj _ _ _),d,q=>exact q.elim
 |.val (.str z),d,q=>
  cases xC d
  have q':Post X.g W α H (if z.length<=sizeLine then R.ok (!z.isEmpty) S else R.no) Q:=q
  split at q'
  ·rename_i hz
   refine⟨_,⟨by rw [yT];exact hz,?_⟩,q'.here wd rfl⟩
   rw [yT]
   cases z with
   |nil=>rfl
   |cons c r=>
    have h0:((r.length:Int)+1)≠0:=by omega
    simp [h0]
  ·exact q'.elim
 |.val (.tup ds),d,q=>
  obtain⟨a,vs,rfl,s,l⟩:=bA d
  exact⟨_,.inr (.inl ⟨vs,s,(zIL l).symm⟩),q.here wd rfl⟩
 |.val (.scr ds),d,q=>
  obtain⟨a,vs,rfl,s,l⟩:=zOW d
  exact⟨_,.inl ⟨vs,s.l,(zIL l).symm⟩,q.here wd rfl⟩
 |.val (.loc n),d,q=>
  obtain⟨a,rfl,h⟩:=zFB d
  obtain⟨o,h1,h2⟩:=wd.of h
  have q':Post X.g W α H (match S[n]? with |some (.lst ds)=>R.ok (!ds.isEmpty) S|_=>R.no) Q:=q
  rw [h1]at q'
  cases o with
  |lst ds=>
   obtain⟨vs,h3,l⟩:=h2
   exact⟨_,.inl ⟨vs,.of h3,(zIL l).symm⟩,q'.here wd rfl⟩
  |dic ds=>exact q'.elim
  |ins c fs=>exact q'.elim
 |.new ds,⟨a,vs,ex,s,n,l⟩,q=>subst ex;exact⟨_,.inl ⟨vs,.of s,(zIL l).symm⟩,q.here wd rfl⟩
theorem zV(ha:PEm X W a f)(he: ∀whole,isTrue a X.env whole=(do let v <-whole;standAt a.pos;holding [v] (truthy v)):=by intro _;rfl):PTm X W a (λρ S=>(f ρ S).bind jR):=by
 obtain⟨ta,ha,fa⟩:=ha
 exact⟨_,yEL ha he,λα ρ S σ H Q wd sl q=>fa α ρ S σ H _ wd sl (q.bind λu p S1 α1 H1 e1 x1 w1 d1 q1=>yFC w1 d1.1 (q1.shift x1))⟩
end
section
variable{X:Cx}{W:XW}{a b c e:Expr}{es:List Expr}{f g h:Rho->Sto->R Er}{tf tg:Rho->Sto->R Bool}{af:Rho->Sto->R (List Er)}{pos:Pos}
def zOY(p:Er)(S:Sto)(k:Sto->R Er):R Er:=(asB p S).bind λc S1=>if c=true then k S1 else .ok (.val (.bl false)) S1
def orF(p:Er)(S:Sto)(k:Sto->R Er):R Er:=(asB p S).bind λc S1=>if c=true then .ok (.val (.bl true)) S1 else k S1
theorem zFC{op}(ha:PEm X W a f):PEm X W (.BoolOp op [a] pos) f:=let ⟨t,h,k⟩:=ha;⟨t,yMQ h,k⟩
theorem zFD(ha:PEm X W a f)(hb:PEm X W (.BoolOp .And (b::es) pos) g):PEm X W (.BoolOp .And (a::b::es) pos) (λρ S=>(f ρ S).bind λp S1=>zOY p S1 λS2=>g ρ S2):=by
 obtain⟨ta,ha,fa⟩:=ha
 obtain⟨tb,hb,fb⟩:=hb
 refine⟨_,yMR ha hb,λα ρ S σ H Q wd sl q=>fa α ρ S σ H _ wd sl (q.bind λu p S1 α1 H1 e1 x1 w1 d1 q1=>?_)⟩
 obtain⟨k,rfl,q2⟩:=zKX (q1.shift x1)
 refine⟨k,zEH d1.1,?_⟩
 cases k with
 |true=>rw [iP rfl]at q2 ⊢; exact fb α1 ρ S1 σ H1 _ w1 (sl.ext x1) q2
 |false=>rw [iN xF0]at q2 ⊢; exact Post.val q2 w1 (wN false)
theorem pm_or(ha:PEm X W a f)(hb:PEm X W (.BoolOp .Or (b::es) pos) g):PEm X W (.BoolOp .Or (a::b::es) pos) (λρ S=>(f ρ S).bind λp S1=>orF p S1 λS2=>g ρ S2):=by
 obtain⟨ta,ha,fa⟩:=ha
 obtain⟨tb,hb,fb⟩:=hb
 refine⟨_,pe_or ha hb,λα ρ S σ H Q wd sl q=>fa α ρ S σ H _ wd sl (q.bind λu p S1 α1 H1 e1 x1 w1 d1 q1=>?_)⟩
 obtain⟨k,rfl,q2⟩:=zKX (q1.shift x1)
 refine⟨k,zEH d1.1,?_⟩
 cases k with
 |true=>rw [iP rfl]at q2 ⊢; exact Post.val q2 w1 (wN true)
 |false=>rw [iN xF0]at q2 ⊢; exact fb α1 ρ S1 σ H1 _ w1 (sl.ext x1) q2
theorem yFD(ha:PEm X W a f):PEm X W (.UnaryOp .Not a pos) (λρ S=>(f ρ S).bind λp S1=>(asB p S1).bind λk S2=>.ok (.val (.bl !k)) S2):=by
 obtain⟨ta,ha,fa⟩:=ha
 refine⟨_,yMS ha,λα ρ S σ H Q wd sl q=>fa α ρ S σ H _ wd sl (q.bind λu p S1 α1 H1 e1 x1 w1 d1 q1=>?_)⟩
 obtain⟨k,rfl,q2⟩:=zKX (q1.shift x1)
 exact⟨k,zEH d1.1,Post.val q2 w1 (wN _)⟩
theorem yLH(hc:PTm X W c tf)(ha:PEm X W a f)(hb:PEm X W b g):PEm X W (.IfExp c a b pos) (λρ S=>(tf ρ S).bind λk S1=>if k=true then f ρ S1 else g ρ S1):=by
 obtain⟨tc,hc,fc⟩:=hc
 obtain⟨ta,ha,fa⟩:=ha
 obtain⟨tb,hb,fb⟩:=hb
 refine⟨_,yDY hc ha hb,λα ρ S σ H Q wd sl q=>fc α ρ S σ H _ wd sl (q.bind λu p S1 α1 H1 e1 x1 w1 d1 q1=>?_)⟩
 cases d1
 cases u with
 |true=>rw [iP rfl]at q1 ⊢; exact fa α1 ρ S1 σ H1 _ w1 (sl.ext x1) (q1.shift x1)
 |false=>rw [iN xF0]at q1 ⊢; exact fb α1 ρ S1 σ H1 _ w1 (sl.ext x1) (q1.shift x1)
theorem zSZ(ha:PTm X W a tf):PWm X W (.BoolOp .And [a] pos) tf:=let ⟨t,h,k⟩:=ha;⟨t,yIA h,k⟩
theorem zKB(ha:PTm X W a tf):PWm X W (.BoolOp .Or [a] pos) tf:=let ⟨t,h,k⟩:=ha;⟨t,yMN h,k⟩
theorem zYP(ha:PTm X W a tf)(hb:PWm X W (.BoolOp .And (b::es) pos) tg):PWm X W (.BoolOp .And (a::b::es) pos) (λρ S=>(tf ρ S).bind λk S1=>if k=true then tg ρ S1 else .ok false S1):=by
 obtain⟨ta,ha,fa⟩:=ha
 obtain⟨tb,hb,fb⟩:=hb
 refine⟨_,yMO ha hb,λα ρ S σ H Q wd sl q=>fa α ρ S σ H _ wd sl (q.bind λu p S1 α1 H1 e1 x1 w1 d1 q1=>?_)⟩
 cases d1
 cases u with
 |true=>rw [iP rfl]at q1 ⊢; exact fb α1 ρ S1 σ H1 _ w1 (sl.ext x1) (q1.shift x1)
 |false=>rw [iN xF0]at q1 ⊢; exact(q1.shift x1).here w1 rfl
theorem zNA(ha:PTm X W a tf)(hb:PWm X W (.BoolOp .Or (b::es) pos) tg):PWm X W (.BoolOp .Or (a::b::es) pos) (λρ S=>(tf ρ S).bind λk S1=>if k=true then .ok true S1 else tg ρ S1):=by
 obtain⟨ta,ha,fa⟩:=ha
 obtain⟨tb,hb,fb⟩:=hb
 refine⟨_,pw_or ha hb,λα ρ S σ H Q wd sl q=>fa α ρ S σ H _ wd sl (q.bind λu p S1 α1 H1 e1 x1 w1 d1 q1=>?_)⟩
 cases d1
 cases u with
 |true=>rw [iP rfl]at q1 ⊢; exact(q1.shift x1).here w1 rfl
 |false=>rw [iN xF0]at q1 ⊢; exact fb α1 ρ S1 σ H1 _ w1 (sl.ext x1) (q1.shift x1)
theorem zJK(h:PWm X W a tf):PTm X W a tf:=let ⟨t,h,k⟩:=h;⟨t,h.pt,k⟩
theorem xU(ha:PTm X W a tf):PTm X W (.UnaryOp .Not a pos) (λρ S=>(tf ρ S).bind λk S1=>.ok (!k) S1):=by
 obtain⟨ta,ha,fa⟩:=ha
 refine⟨_,yMP ha,λα ρ S σ H Q wd sl q=>fa α ρ S σ H _ wd sl (q.bind λu p S1 α1 H1 e1 x1 w1 d1 q1=>?_)⟩
 cases d1
 exact(q1.shift x1).here w1 rfl
end
section
variable{K:PySem.W.Frag}{H0:Hp}
def zU:List Er->Sto->List MV×Sto
 |[],S=>([],S)
 |.val d::rs,S=>((d::(zU rs S).1),(zU rs S).2)
 |.new xs::rs,S=>((.loc S.length::(zU rs (S++[.lst xs])).1),(zU rs (S++[.lst xs])).2)
theorem ArgsE.grow{H0:Hp}{α:List Addr}{H:Hp}{b:Addr}{rs:List Er}{vs:List V}(q:ArgsE K H0 α H rs vs)(n:b∉zJJ rs vs):ArgsE K H0 (α++[b]) H rs vs:=by
 induction q with
 |nil=>exact .nil
 |@cons r v rs vs a m l ih=>
  cases r with
  |val d=>exact .cons ⟨Den.ex0 (Ex0.grow α [b] H) a.1,trivial⟩ m (ih (by simpa [zJJ]using n))
  |new ds=>
   obtain⟨⟨c,us,rfl,h1,h2,h3⟩,h4⟩:=a
   have n':b∉c::zJJ rs vs:=n
   refine .cons ⟨⟨c,us,rfl,h1,λz=>?_,h3.ex0 (Ex0.grow α [b] H)⟩,h4⟩ m (ih λz=>n' (mO _ z))
   rcases mem_append.mp z with z|z
   ·exact h2 z
   ·exact n' (by rw [mS.mp z];exact mF0)
theorem zGT{g:Gm}{H0:Hp}{α0:List Addr}{H:Hp}: ∀{rs:List Er}{vs:List V}{α:List Addr}{S:Sto},Wd g α S H->Ext α0 H0 α H->ArgsE g.K H0 α H rs vs->
  ∃α',Ext α0 H0 α' H/\Ex0 α H α' H/\Wd g α' (zU rs S).2 H/\DenL g.K α' H (zU rs S).1 vs
 |_,_,α,S,w,x,.nil=>⟨α,x,⟨⟨[],by simp⟩,λ_ _ h=>h,λ_ _ _ h=>h⟩,w,xF⟩
 |.val d::rs,v::vs,α,S,w,x,.cons a n l=>by
  obtain⟨α',x',y',w',l'⟩:=zGT w x l
  exact⟨α',x',y',w',yO (Den.ex0 y' a.1) l'⟩
 |.new ds::rs,v::vs,α,S,w,x,.cons a n l=>by
  obtain⟨⟨c,us,rfl,h1,h2,h3⟩,h4⟩:=a
  obtain⟨α',x',y',w',l'⟩:=zGT (w.enter h1 h2 h3) (w.enterx x (h4 c rfl) h2) (l.grow (n ds c rfl rfl))
  refine⟨α',x',⟨?_,y'.tup,y'.frz⟩,w',yO (zOA (y'.at ?_)) l'⟩
  ·obtain⟨t,e⟩:=y'.pre
   exact⟨[c]++t,by rw [e,aA]⟩
  ·rw [<-w.len,getElem?_append_right (le_refl _),sub_self];rfl
theorem zLU: ∀(rs:List Er)(S:Sto),(zU rs S).1.length=rs.length
 |[],S=>rfl
 |.val d::rs,S=>by show(d::(zU rs S).1).length=_;rw [lC,zLU rs S];rfl
 |.new ds::rs,S=>by show(_::(zU rs _).1).length=_;rw [lC,zLU rs _];rfl
end
section
variable{X:Cx}{W:XW}{a b c e:Expr}{es:List Expr}{f g h:Rho->Sto->R Er}{tf tg:Rho->Sto->R Bool}{af:Rho->Sto->R (List Er)}{pos:Pos}
theorem zD:PAm X W [] (λ_ S=>.ok [] S):=⟨_,yEN,λα ρ S σ H Q wd sl q=>q.here wd .nil⟩
theorem zB(ha:PEm X W a f)(hr:PAm X W es af)(hs:starEach (a::es) X.env=(false,eval a X.env)::starEach es X.env:=by rfl):PAm X W (a::es) (λρ S=>(f ρ S).bind λp S1=>(af ρ S1).bind λps S2=>.ok (p::ps) S2):=by
 obtain⟨ta,ha,fa⟩:=ha
 obtain⟨tr,hr,fr⟩:=hr
 refine⟨_,yAD ha hr hs,λα ρ S σ H Q wd sl q=>fa α ρ S σ H _ wd sl (q.bind λu p S1 α1 H1 e1 x1 w1 d1 q1=>fr α1 ρ S1 σ H1 _ w1 (sl.ext x1) ?_)⟩
 have q1':Post X.g W α H ((af ρ S1).bind λps S2=>.ok (p::ps) S2) Q:=q1
 cases z:af ρ S1 with
 |ok ps S2=>
  rw [z]at q1'
  intro vs α2 H2 x2 w2 d2
  refine q1' (u::vs) α2 H2 (x1.trans x2) w2 (ArgsE.cons (DenE.ext x2 d1) (λds b er eu hb=>?_) (ArgsE.back (λb h=>x1.free h) d2))
  subst er eu
  obtain⟨⟨c,us,ec,h1,_⟩,_⟩:=d1
  cases ec
  have:=ArgsE.nones d2 _ hb
  rw [h1]at this;cases this
 |exc c fs S2=>rw [z]at q1';exact λα2 H2 x2 w2=>q1' α2 H2 (x1.trans x2) w2
 |no=>rw [z]at q1';exact q1'
def zGU(rs:List Er)(S:Sto):R Er:=if rs.length<=sizeLine then .ok (.val (.tup (zU rs S).1)) (zU rs S).2 else .no
def cV(rs:List Er)(S:Sto):R Er:=if rs.length<=sizeLine then .ok (.new (zU rs S).1) (zU rs S).2 else .no
theorem nF{x1}(h:PAm X W es af):PEm X W (.Tuple es x1 pos) (λρ S=>(af ρ S).bind zGU):=by
 obtain⟨t,h,k⟩:=h
 refine⟨_,yND h,λα ρ S σ H Q wd sl q=>k α ρ S σ H _ wd sl (q.bind λvs rs S1 α1 H1 e1 x1 w1 d1 q1=>?_)⟩
 have q1':Post X.g W α H (if rs.length<=sizeLine then R.ok (Er.val (.tup (zU rs S1).1)) (zU rs S1).2 else R.no) Q:=q1
 split at q1'
 ·rename_i hz
  obtain⟨α2,x2,y2,w2,l2⟩:=zGT w1 x1 d1
  exact⟨by rw [ArgsE.length d1];exact hz,λp hp=>(q1'.shift x2).newt w2 hp l2⟩
 ·exact q1'.elim
theorem bC(h:PAm X W es af):PEm X W (.List es pos) (λρ S=>(af ρ S).bind cV):=by
 obtain⟨t,h,k⟩:=h
 refine⟨_,yNE h,λα ρ S σ H Q wd sl q=>k α ρ S σ H _ wd sl (q.bind λvs rs S1 α1 H1 e1 x1 w1 d1 q1=>?_)⟩
 have q1':Post X.g W α H (if rs.length<=sizeLine then R.ok (Er.new (zU rs S1).1) (zU rs S1).2 else R.no) Q:=q1
 split at q1'
 ·rename_i hz
  obtain⟨α2,x2,y2,w2,l2⟩:=zGT w1 x1 d1
  exact⟨by rw [ArgsE.length d1];exact hz,λp hp=>(q1'.shift x2).newl w2 hp l2⟩
 ·exact q1'.elim
inductive ArgsX(K:PySem.W.Frag)(α:List Addr)(H:Hp):List Er->List V->Prop
 |nil:ArgsX K α H [] []
 |cons {r v rs vs}:DenX K α H r v->ArgsX K α H rs vs->ArgsX K α H (r::rs) (v::vs)
theorem ArgsE.x{K:PySem.W.Frag}{H0:Hp}{α:List Addr}{H:Hp}: ∀{rs vs},ArgsE K H0 α H rs vs->ArgsX K α H rs vs
 |_,_,.nil=>.nil
 |_,_,.cons a _ l=>.cons a.1 (ArgsE.x l)
def zGE(X:Cx)(W:XW)(r:List V->Hp->VK->Prop)(F:List Er->Sto->R Er):Prop:= ∀rs vs α S H Q,Wd X.g α S H->ArgsX X.K α H rs vs->Post X.g W α H (F rs S) Q->r vs H Q
theorem zL{id:String}{r:List V->Hp->VK->Prop}{F:List Er->Sto->R Er}{x:Str}{p:Pos}(hc:CallR X (.builtin id) r)(hF:zGE X W r F)(hg:Gl X x)(hm:X.mg x=none)(hv:bootBuiltins x=some (.builtin id))(ha:PAm X W (e::es) af)
  (hn:x≠"__name__":=by decide) (hdb:(x==("__debug__":Str))=false:=by decide)
  (he:starEach (e::es) X.env=(false,eval e X.env)::starEach es X.env:=by rfl) (hpl:(backTo pos (starEach es X.env)).any (·.1)=false:=by rfl):PEm X W (.Call (.Name x p) (e::es) [] pos) (λρ S=>(af ρ S).bind F):=by
 obtain⟨t,ha,k⟩:=ha
 exact⟨_,zVI hc hg hm hv ha hn hdb he hpl,λα ρ S σ H Q wd sl q=>k α ρ S σ H _ wd sl (q.bind λvs rs S1 α1 H1 e1 x1 w1 d1 q1=>hF rs vs α1 S1 H1 Q w1 (ArgsE.x d1) (q1.shift x1))⟩
theorem xP{T:String}{r:List V->Hp->VK->Prop}{F:List Er->Sto->R Er}{x:Str}{p:Pos}(hc:CallR X (.type T) r)(hF:zGE X W r F)(hg:Gl X x)(hm:X.mg x=none)(hv:bootBuiltins x=some (.type T))(ha:PAm X W (e::es) af)
  (hn:x≠"__name__":=by decide) (hdb:(x==("__debug__":Str))=false:=by decide)
  (he:starEach (e::es) X.env=(false,eval e X.env)::starEach es X.env:=by rfl) (hpl:(backTo pos (starEach es X.env)).any (·.1)=false:=by rfl):PEm X W (.Call (.Name x p) (e::es) [] pos) (λρ S=>(af ρ S).bind F):=by
 obtain⟨t,ha,k⟩:=ha
 exact⟨_,zRP hc hg hm hv ha hn hdb he hpl,λα ρ S σ H Q wd sl q=>k α ρ S σ H _ wd sl (q.bind λvs rs S1 α1 H1 e1 x1 w1 d1 q1=>hF rs vs α1 S1 H1 Q w1 (ArgsE.x d1) (q1.shift x1))⟩
def yCT(X:Cx)(W:XW)(r:V->List V->Hp->VK->Prop)(F:Er->List Er->Sto->R Er):Prop:= ∀p rs x vs α S H0 H Q α0,Wd X.g α S H->Ext α0 H0 α H->DenX X.K α H p x->ArgsE X.K H0 α H rs vs->Post X.g W α0 H0 (F p rs S) Q->r x vs H Q
def TyM(X:Cx)(T:String)(ty:Er->Sto->Bool):Prop:= ∀p x α S H,Wd X.g α S H->DenX X.K α H p x->ty p S=true->tyV X.K T x H
theorem zKY{T:String}{name:Str}{id:String}{r:V->List V->Hp->VK->Prop}{F:Er->List Er->Sto->R Er}{ty:Er->Sto->Bool}{apos:Pos}(pa:PlainAttrs T)(slot:Slot T name id)(hty:typeOf (.builtin id)=pure (.type "method_descriptor"))(hm:MtR X id r)(hF:yCT X W r F)(hT:TyM X T ty)
  (ho:PEm X W a f) (ha:PAm X W (e::es) af)
  (hbase:attributeBase a name X.env (eval a X.env)=eval a X.env:=by rfl)
  (hfew:((backTo pos (starEach (e::es) X.env)).all (λx=>!x.1)&&(backToKw pos (keywordEach [] X.env)).all (λx=>x.1.isSome)
   &&decide ((e::es).length+([]:List Keyword).length+(if([]:List Keyword).isEmpty then 0 else 1)<30))=true:=by rfl)
  (hline:(apos.endLine==pos.line)=true:=by rfl) (hs:starEach (e::es) X.env=(false,eval e X.env)::starEach es X.env:=by rfl) (hplain:(backTo pos (starEach es X.env)).any (·.1)=false:=by rfl):
  PEm X W (.Call (.Attribute a name apos) (e::es) [] pos) (λρ S=>(f ρ S).bind λp S1=>if ty p S1=true then(af ρ S1).bind λrs S2=>F p rs S2 else .no):=by
 obtain⟨to,ho,fo⟩:=ho
 obtain⟨t,ha,k⟩:=ha
 refine⟨_,pe_bm pa slot hty hm ho ha hbase hfew hline hs hplain,λα ρ S σ H Q wd sl q=>fo α ρ S σ H _ wd sl (q.bind λu p S1 α1 H1 e1 x1 w1 d1 q1=>?_)⟩
 split at q1
 ·rename_i hz
  exact⟨hT p u α1 S1 H1 w1 d1.1 hz,k α1 ρ S1 σ H1 _ w1 (sl.ext x1) ((q1.shift x1).bind λvs rs S2 α2 H2 e2 x2 w2 d2 q2=>hF p rs u vs α2 S2 H1 H2 Q α1 w2 x2 (d1.1.ext x2) d2 q2)⟩
 ·exact q1.elim
theorem gH:POm X W none (λ_ S=>.ok none S):=⟨_,yIJ,λα ρ S σ H Q wd sl q=>q.here wd rfl⟩
def asI:Er->Sto->R (Option Int)
 |.val (.int i),S=>.ok (some i) S
 |_,_=>.no
theorem dG(ha:PEm X W a f):POm X W (some a) (λρ S=>(f ρ S).bind asI):=by
 obtain⟨ta,ha,fa⟩:=ha
 refine⟨_,yIK ha,λα ρ S σ H Q wd sl q=>fa α ρ S σ H _ wd sl (q.bind λu p S1 α1 H1 e1 x1 w1 d1 q1=>?_)⟩
 unfold asI at q1
 split at q1
 ·exact⟨_,yW d1.1,(q1.shift x1).here w1 rfl⟩
 ·exact q1.elim
def Sl3(X:Cx)(W:XW)(r:V->Option Int->Option Int->Hp->VK->Prop)(F:Er->Option Int->Option Int->Sto->R Er):Prop:= ∀p lo hi x α S H Q,Wd X.g α S H->DenX X.K α H p x->Post X.g W α H (F p lo hi S) Q->r x lo hi H Q
theorem yFE{lo hi:Option Expr}{r:V->Option Int->Option Int->Hp->VK->Prop}{F:Er->Option Int->Option Int->Sto->R Er}{lf hf:Rho->Sto->R (Option Int)}{p2:Pos}(hr:SlR X r)(hF:Sl3 X W r F)(ha:PEm X W a f)(hl:POm X W lo lf)(hh:POm X W hi hf):
  PEm X W (.Subscript a (.Slice lo hi none p2) pos) (λρ S=>(f ρ S).bind λp S1=>(lf ρ S1).bind λl S2=>(hf ρ S2).bind λu S3=>F p l u S3):=by
 obtain⟨ta,ha,fa⟩:=ha
 obtain⟨tl,hl,fl⟩:=hl
 obtain⟨th,hh,fh⟩:=hh
 refine⟨_,yEP hr ha hl hh,λα ρ S σ H Q wd sl q=>fa α ρ S σ H _ wd sl (q.bind λu p S1 α1 H1 e1 x1 w1 d1 q1=>fl α1 ρ S1 σ H1 _ w1 (sl.ext x1) ((q1.shift x1).bind λu2 l S2 α2 H2 e2 x2 w2 d2 q2=>
  fh α2 ρ S2 σ H2 _ w2 ((sl.ext x1).ext x2) ((q2.shift x2).bind λu3 m S3 α3 H3 e3 x3 w3 d3 q3=>?_)))⟩
 cases d2
 cases d3
 exact hF p u2 u3 u α3 S3 H3 Q w3 ((d1.1.ext x2).ext x3) (q3.shift x3)
end
inductive Fl where
 |next (ρ:Rho)|ret (r:Er)|brk (ρ:Rho)|cont (ρ:Rho)
abbrev AX:=Rho->Sto->R Er
abbrev AY:=Rho->Sto->R Fl
abbrev AZ:=Rho->Sto->R Bool
def PostS(g:Gm)(W:XW)(α:List Addr)(H:Hp)(D:Ends):R Fl->Prop
 |.ok (.next ρ) S=> ∀σ α' H',Ext α H α' H'->Wd g α' S H'->Slots g.K α' H' ρ σ->D.nx σ H'
 |.ok (.ret r) S=> ∀v α' H',Ext α H α' H'->Wd g α' S H'->DenE g.K H α' H' r v->D.rt v H'
 |.ok (.brk ρ) S=> ∀σ α' H',Ext α H α' H'->Wd g α' S H'->Slots g.K α' H' ρ σ->D.bk σ H'
 |.ok (.cont ρ) S=> ∀σ α' H',Ext α H α' H'->Wd g α' S H'->Slots g.K α' H' ρ σ->D.ct σ H'
 |.exc c fs S=> ∀α' H',Ext α H α' H'->Wd g α' S H'->W c fs S α' H'
 |.no=>False
section
variable{g:Gm}{W:XW}{α α':List Addr}{H H':Hp}{D D':Ends}
theorem PostS.shift(x:Ext α H α' H'): ∀{m:R Fl},PostS g W α H D m->PostS g W α' H' D m
 |.ok (.next ρ) S,q=>λσ α2 H2 x2 w2 s2=>q σ α2 H2 (x.trans x2) w2 s2
 |.ok (.ret r) S,q=>λv α2 H2 x2 w2 d2=>q v α2 H2 (x.trans x2) w2 (d2.back λb h=>x.free h)
 |.ok (.brk ρ) S,q=>λσ α2 H2 x2 w2 s2=>q σ α2 H2 (x.trans x2) w2 s2
 |.ok (.cont ρ) S,q=>λσ α2 H2 x2 w2 s2=>q σ α2 H2 (x.trans x2) w2 s2
 |.exc c fs S,q=>λα2 H2 x2 w2=>q α2 H2 (x.trans x2) w2
 |.no,q=>q
theorem PostS.expr{β τ:Type}[Dn β τ]{m:R β}{k:β->Sto->R Fl}{Q':τ->Hp->Prop}(q:PostS g W α H D (m.bind k))
  (f: ∀u b S1 α1 H1,m=.ok b S1->Ext α H α1 H1->Wd g α1 S1 H1->Dn.d g H α1 S1 H1 b u->PostS g W α H D (k b S1)->Q' u H1):Post g W α H m Q':=by
 cases m with
 |ok b S=>exact λu α1 H1 x w d=>f u b S α1 H1 rfl x w d q
 |exc c fs S=>exact q
 |no=>exact q
theorem PostS.stmt{m:R Fl}{k:Fl->Sto->R Fl}(q:PostS g W α H D (m.bind k))
  (hn: ∀ρ S σ α1 H1,m=.ok (.next ρ) S->Ext α H α1 H1->Wd g α1 S H1->Slots g.K α1 H1 ρ σ->PostS g W α H D (k (.next ρ) S)->D'.nx σ H1)
  (hr: ∀r S v α1 H1,m=.ok (.ret r) S->Ext α H α1 H1->Wd g α1 S H1->DenE g.K H α1 H1 r v->PostS g W α H D (k (.ret r) S)->D'.rt v H1)
  (hb: ∀ρ S σ α1 H1,m=.ok (.brk ρ) S->Ext α H α1 H1->Wd g α1 S H1->Slots g.K α1 H1 ρ σ->PostS g W α H D (k (.brk ρ) S)->D'.bk σ H1)
  (hc: ∀ρ S σ α1 H1,m=.ok (.cont ρ) S->Ext α H α1 H1->Wd g α1 S H1->Slots g.K α1 H1 ρ σ->PostS g W α H D (k (.cont ρ) S)->D'.ct σ H1):PostS g W α H D' m:=by
 cases m with
 |ok fl S=>
  cases fl with
  |next ρ=>exact λσ α1 H1 x w s=>hn ρ S σ α1 H1 rfl x w s q
  |ret r=>exact λv α1 H1 x w d=>hr r S v α1 H1 rfl x w d q
  |brk ρ=>exact λσ α1 H1 x w s=>hb ρ S σ α1 H1 rfl x w s q
  |cont ρ=>exact λσ α1 H1 x w s=>hc ρ S σ α1 H1 rfl x w s q
 |exc c fs S=>exact q
 |no=>exact q
end
def PSm(X:Cx)(W:XW)(st:Stmt)(F:AY):Prop:=
 ∃t,PS X st t/\ ∀α ρ S σ H D,Wd X.g α S H->Slots X.K α H ρ σ->PostS X.g W α H D (F ρ S)->t D σ H
def zVU(X:Cx)(W:XW)(st:List Stmt)(F:AY):Prop:=
 ∃t,PSs X st t/\ ∀α ρ S σ H D,Wd X.g α S H->Slots X.K α H ρ σ->PostS X.g W α H D (F ρ S)->t D σ H
def zO(F G:AY):AY:=λρ S=>(F ρ S).bind λfl S1=>match fl with
 |.next ρ'=>G ρ' S1
 |.ret r=>.ok (.ret r) S1
 |.brk ρ'=>.ok (.brk ρ') S1
 |.cont ρ'=>.ok (.cont ρ') S1
section
variable{X:Cx}{W:XW}{st:Stmt}{sts as bs:List Stmt}{F G:AY}{f g:AX}{tf:AZ}{e c:Expr}{pos:Pos}
theorem yE:zVU X W [] (λρ S=>.ok (.next ρ) S):=⟨_,yIB,λα ρ S σ H D wd sl q=>q σ α H (Ext.refl α H) wd sl⟩
theorem zH(h:PSm X W st F):zVU X W [st] F:=let ⟨t,h,k⟩:=h;⟨t,yIC h,k⟩
theorem zF(h1:PSm X W st F)(h2:zVU X W sts G):zVU X W (st::sts) (zO F G):=by
 obtain⟨t,h1,k1⟩:=h1
 obtain⟨u,h2,k2⟩:=h2
 refine⟨_,yDZ h1 h2,λα ρ S σ H D wd sl q=>k1 α ρ S σ H _ wd sl (q.stmt ?_ ?_ ?_ ?_)⟩
 ·intro ρ1 S1 σ1 α1 H1 e x1 w1 s1 q1
  exact k2 α1 ρ1 S1 σ1 H1 D w1 s1 (PostS.shift x1 q1)
 ·intro r S1 v α1 H1 e x1 w1 d1 q1
  exact q1 v α1 H1 x1 w1 d1
 ·intro ρ1 S1 σ1 α1 H1 e x1 w1 s1 q1
  exact q1 σ1 α1 H1 x1 w1 s1
 ·intro ρ1 S1 σ1 α1 H1 e x1 w1 s1 q1
  exact q1 σ1 α1 H1 x1 w1 s1
theorem zN(he:PEm X W e f):PSm X W (.Return (some e) pos) (λρ S=>(f ρ S).bind λr S1=>.ok (.ret r) S1):=by
 obtain⟨t,he,k⟩:=he
 exact⟨_,yMT he,λα ρ S σ H D wd sl q=>k α ρ S σ H _ wd sl (q.expr λu r S1 α1 H1 e x1 w1 d1 q1=>q1 u α1 H1 x1 w1 d1)⟩
theorem bD:PSm X W st (λ_ _=>.no):=⟨_,yEA,λα ρ S σ H D wd sl q=>q.elim⟩
theorem zFE(he:PEm X W e f)(hs:swapsWith e none pos.line X.env=pure false:=by rfl):PSm X W (.Expr e pos) (λρ S=>(f ρ S).bind λ_ S1=>.ok (.next ρ) S1):=by
 obtain⟨t,he,k⟩:=he
 exact⟨_,yID he hs,λα ρ S σ H D wd sl q=>k α ρ S σ H _ wd sl (q.expr λu r S1 α1 H1 e x1 w1 d1 q1=>q1 σ α1 H1 x1 w1 (sl.ext x1))⟩
theorem yV(hc:PTm X W c tf)(ha:zVU X W as F)(hb:zVU X W bs G):PSm X W (.If c as bs pos) (λρ S=>(tf ρ S).bind λk S1=>if k=true then F ρ S1 else G ρ S1):=by
 obtain⟨tc,hc,kc⟩:=hc
 obtain⟨ta,ha,ka⟩:=ha
 obtain⟨tb,hb,kb⟩:=hb
 refine⟨_,ps_if hc ha hb,λα ρ S σ H D wd sl q=>kc α ρ S σ H _ wd sl (q.expr λu p S1 α1 H1 e x1 w1 d1 q1=>?_)⟩
 cases d1
 cases u with
 |true=>rw [iP rfl]at q1 ⊢; exact ka α1 ρ S1 σ H1 D w1 (sl.ext x1) (PostS.shift x1 q1)
 |false=>rw [iN xF0]at q1 ⊢; exact kb α1 ρ S1 σ H1 D w1 (sl.ext x1) (PostS.shift x1 q1)
instance:Dn Rho St:=⟨λg _ α' _ H' ρ σ=>Slots g.K α' H' ρ σ,λ_ q=>q⟩
def PGm(X:Cx)(W:XW)(tg:Expr)(gf:MV->Rho->Sto->R Rho):Prop:=
 ∃t,PG X tg t/\ ∀α ρ S σ H d v Q,Wd X.g α S H->Slots X.K α H ρ σ->Den X.K α H d v->Post X.g W α H (gf d ρ S) Q->t v σ H Q
def PGsm(X:Cx)(W:XW)(tgs:List Expr)(gf:List MV->Rho->Sto->R Rho):Prop:=
 ∃t,PGs X tgs t/\ ∀α ρ S σ H ds vs Q,Wd X.g α S H->Slots X.K α H ρ σ->DenL X.K α H ds vs->Post X.g W α H (gf ds ρ S) Q->t vs σ H Q
def gNm(i:Nat):MV->Rho->Sto->R Rho:=λd ρ S=>.ok (ρ.set i (some d)) S
theorem xD(i:Nat){x:Str}(hN:X.N.Nodup)(hi:X.N[i]? =some x:=by rfl)(hx:Loc X.env.scope x:=by first |exact Or.inl rfl|exact Or.inr rfl)(hf:X.fn x=true\/X.env.scope.names.lookup x=some .local:=by first |exact .inl rfl|exact .inr rfl|assumption):
  PGm X W (.Name x pos) (gNm i):=⟨_,yAA hN hi hx hf,λα ρ S σ H d v Q wd sl de q=>Post.here (b:=ρ.set i (some d)) q wd (sl.set de)⟩
def gR:List MV->Rho->Sto->R Rho
 |[],ρ,S=>.ok ρ S
 |_,_,_=>.no
def yB(g1:MV->Rho->Sto->R Rho)(g2:List MV->Rho->Sto->R Rho):List MV->Rho->Sto->R Rho
 |d::ds,ρ,S=>(g1 d ρ S).bind λρ1 S1=>g2 ds ρ1 S1
 |_,_,_=>.no
theorem zOZ:PGsm X W [] gR:=⟨_,yAB,λα ρ S σ H ds vs Q wd sl de q=>by
 cases ds with
 |nil=>exact⟨de.isnil,Post.here (b:=ρ) q wd sl⟩
 |cons d ds=>exact q.elim⟩
theorem dH{es:List Expr}{g1:MV->Rho->Sto->R Rho}{g2:List MV->Rho->Sto->R Rho}(h1:PGm X W e g1)(h2:PGsm X W es g2)(hs:(assignEach (e::es) X.env).map (·.2)=assign e X.env::(assignEach es X.env).map (·.2):=by rfl):PGsm X W (e::es) (yB g1 g2):=by
 obtain⟨t1,h1,k1⟩:=h1
 obtain⟨t2,h2,k2⟩:=h2
 refine⟨_,zVF h1 h2 hs,λα ρ S σ H ds vs Q wd sl de q=>?_⟩
 cases ds with
 |nil=>exact q.elim
 |cons d ds=>
  obtain⟨v,r,rfl,a,l⟩:=de.uncons
  refine⟨v,r,rfl,k1 α ρ S σ H d v _ wd sl a (Post.bind q λu p S1 α1 H1 e x1 w1 d1 q1=>k2 α1 p S1 u H1 ds r Q w1 d1 (l.ext x1) (q1.shift x1))⟩
def gTp(n:Nat)(g2:List MV->Rho->Sto->R Rho):MV->Rho->Sto->R Rho
 |.tup ds,ρ,S=>if ds.length=n then g2 ds ρ S else .no
 |_,_,_=>.no
theorem zPA{es:List Expr}{k n:Nat}{g2:List MV->Rho->Sto->R Rho}(hc:X.calm=true)(h:PGsm X W es g2)
  (hn:(assignEach es X.env).length=n:=by rfl) (hst:(assignEach es X.env).findIdx? (·.1)=none:=by rfl):PGm X W (.Tuple es k pos) (gTp n g2):=by
 obtain⟨t,h,k⟩:=h
 refine⟨_,yEC hc h hn hst,λα ρ S σ H d v Q wd sl de q=>?_⟩
 unfold gTp at q
 split at q
 ·split at q
  ·rename_i hl
   obtain⟨a,vs,rfl,s,l⟩:=jA de
   exact⟨a,vs,rfl,s,by rw [l.length];exact hl,k α ρ S σ H _ vs Q wd sl l q⟩
  ·exact q.elim
 ·exact q.elim
def nG(r:Er)(S:Sto):R MV:=match r with
 |.val d=>.ok d S
 |.new ds=>.ok (.loc S.length) (S++[.lst ds])
theorem zEI{g:Gm}{H0:Hp}{α0 α:List Addr}{H:Hp}{S:Sto}{r:Er}{v:V}(w:Wd g α S H)(x:Ext α0 H0 α H)(d:DenE g.K H0 α H r v):
  ∃d' S' α',nG r S=.ok d' S'/\Ext α0 H0 α' H/\Ex0 α H α' H/\Wd g α' S' H/\Den g.K α' H d' v:=by
 cases r with
 |val d'=>exact⟨d',S,α,rfl,x,⟨⟨[],by simp⟩,λ_ _ h=>h,λ_ _ _ h=>h⟩,w,d.1⟩
 |new ds=>
  obtain⟨⟨c,us,rfl,h1,h2,h3⟩,h4⟩:=d
  exact⟨.loc S.length,S++[.lst ds],α++[c],rfl,w.enterx x (h4 c rfl) h2,Ex0.grow α [c] H,w.enter h1 h2 h3,zOA (by rw [<-w.len,getElem?_append_right (le_refl _),sub_self];rfl)⟩
def zTA(ρ:Rho)(i:Nat)(r:Er)(S:Sto):R Fl:=(nG r S).bind λd S1=>.ok (.next (ρ.set i (some d))) S1
theorem zM(i:Nat){x:Str}{pos':Pos}(hN:X.N.Nodup)(he:PEm X W e f)(hi:X.N[i]? =some x:=by rfl)(hx:Loc X.env.scope x:=by first |exact Or.inl rfl|exact Or.inr rfl)
  (hs:swapsWith e (some (.Name x pos')) pos.line X.env=pure false:=by rfl) (hf:X.fn x=true\/X.env.scope.names.lookup x=some .local:=by first |exact .inl rfl|exact .inr rfl|assumption):
  PSm X W (.Assign [.Name x pos'] e pos) (λρ S=>(f ρ S).bind (zTA ρ i)):=by
 obtain⟨t,he,k⟩:=he
 refine⟨_,yMW hN hi hx he hs hf,λα ρ S σ H D wd sl q=>k α ρ S σ H _ wd sl (q.expr λu r S1 α1 H1 e x1 w1 d1 q1=>?_)⟩
 obtain⟨d',S',α',e1,x',y',w',de⟩:=zEI w1 x1 d1
 unfold zTA at q1
 rw [e1]at q1
 exact q1 _ α' H1 x' w' (((sl.ext x1).ex0 y').set de)
def asgF(gf:MV->Rho->Sto->R Rho)(ρ:Rho)(r:Er)(S:Sto):R Fl:=(nG r S).bind λd S1=>(gf d ρ S1).bind λρ' S2=>.ok (.next ρ') S2
theorem zTB{tg:Expr}{gf:MV->Rho->Sto->R Rho}(he:PEm X W e f)(hg:PGm X W tg gf)(hs:swapsWithSole [tg] e pos.line X.env=pure false:=by rfl)(hw:swappedStores [tg] e X.env=pure none:=by rfl)
  (h1:(assignEach [tg] X.env).map (·.2)=[assign tg X.env]:=by rfl):PSm X W (.Assign [tg] e pos) (λρ S=>(f ρ S).bind (asgF gf ρ)):=by
 obtain⟨t,he,k⟩:=he
 obtain⟨tg',hg,kg⟩:=hg
 refine⟨_,yMV he hg hs hw h1,λα ρ S σ H D wd sl q=>k α ρ S σ H _ wd sl (q.expr λu r S1 α1 H1 e x1 w1 d1 q1=>?_)⟩
 obtain⟨d',S',α',e1,x',y',w',de⟩:=zEI w1 x1 d1
 unfold asgF at q1
 rw [e1]at q1
 have q1:PostS X.g W α H D ((gf d' ρ S').bind λρ' S2=>.ok (.next ρ') S2):=q1
 exact kg α' ρ S' σ H1 d' u _ w' ((sl.ext x1).ex0 y') de ((PostS.shift x' q1).expr λσ2 ρ2 S2 α2 H2 e2 x2 w2 s2 q2=>q2 σ2 α2 H2 x2 w2 s2)
structure Wk where
 ds:List MV
 gs:List (Nat×List MV)
def stay(gs:List (Nat×List MV))(S:Sto):Prop:= ∀p∈gs,S[p.1]? =some (.lst p.2)
def ItM(g:Gm)(J:It)(P:List Addr->Sto->Hp->Prop)(ds:List MV):Prop:= ∀i α S H,P α S H->Wd g α S H->(i<ds.length->J.go i H/\ ∀x H',J.yld i H x H'->Ext α H α H'/\Wd g α S H'/\P α S H'/\ ∃d,ds[i]? =some d/\Den g.K α H' d x)/\(ds.length<=i->J.stop i H)
structure WkD(g:Gm)(α:List Addr)(S:Sto)(H:Hp)(k:Wk)(J:It)(P:List Addr->Sto->Hp->Prop):Prop where
 it:ItM g J P k.ds
 here:P α S H
 stays: ∀α1 S1 H1 α2 S2 H2,P α1 S1 H1->Ext α1 H1 α2 H2->Wd g α2 S2 H2->stay k.gs S2->P α2 S2 H2
 st:stay k.gs S
instance:Dn Wk It:=⟨λg _ α S H k J=> ∃P,WkD g α S H k J P,λ_ q=>q⟩
abbrev PIm(X:Cx)(W:XW)(tg iter:Expr)(f:Rho->Sto->R Wk):Prop:=Jd X W (PI X tg iter) f
variable{tg iter:Expr}
theorem zKZ{a:Addr}{ds:List MV}:ItM X.g (Itl X.K a) (λα S H=> ∃vs,SqL X.K H a vs/\DenL X.K α H ds vs) ds:=by
 intro i α S H ⟨vs,s,l⟩ w
 have hl:=l.length
 refine⟨λhi=>?_,λhi=>⟨vs,s,by omega⟩⟩
 have hv:i<vs.length:=by omega
 refine⟨⟨vs,vs[i],s,gE0 hv⟩,λx H' y=>?_⟩
 obtain⟨rfl,y⟩:=y
 obtain⟨d,h1,h2⟩:=l.get (y vs s)
 exact⟨Ext.refl _ _,w,⟨vs,s,l⟩,d,h1,h2⟩
theorem yAL{a:Addr}{ds:List MV}:ItM X.g (Itt X.K a) (λα S H=> ∃vs,SqT X.K H a vs/\DenL X.K α H ds vs) ds:=by
 intro i α S H ⟨vs,s,l⟩ w
 have hl:=l.length
 refine⟨λhi=>?_,λhi=>⟨vs,s,by omega⟩⟩
 have hv:i<vs.length:=by omega
 refine⟨⟨vs,vs[i],s,gE0 hv⟩,λx H' y=>?_⟩
 obtain⟨rfl,y⟩:=y
 obtain⟨d,h1,h2⟩:=l.get (y vs s)
 exact⟨Ext.refl _ _,w,⟨vs,s,l⟩,d,h1,h2⟩
theorem yIX{x:List Nat}:ItM X.g (Its x) (λ_ _ _=>True) (x.map λc=>.str [c]):=by
 intro i α S H _ w
 refine⟨λhi=>⟨show i<x.length by simpa using hi,λv H' y=>?_⟩,λhi=>by show x.length<=i;simpa using hi⟩
 obtain⟨rfl,c,h1,h2⟩:=y
 refine⟨Ext.refl _ _,w,trivial,.str [c],by rw [getElem?_map,h1];rfl,?_⟩
 rw [h2]
 exact jM [c]
theorem yCU{lo:Int}{n:Nat}:ItM X.g (Itr lo n) (λ_ _ _=>True) ((List.range n).map λk=>.int (lo+(k:Nat))):=by
 intro i α S H _ w
 refine⟨λhi=>⟨show i<n by simpa using hi,λv H' y=>?_⟩,λhi=>by show n<=i;simpa using hi⟩
 obtain⟨rfl,y⟩:=y
 have hi':i<n:=by simpa using hi
 refine⟨Ext.refl _ _,w,trivial,.int (lo+i),by rw [getElem?_map,List.getElem?_range hi'];rfl,?_⟩
 rw [y]
 exact xM _
def itL:Er->Sto->R Wk
 |.new ds,S=>.ok ⟨ds,[]⟩ S
 |.val (.scr ds),S=>.ok ⟨ds,[]⟩ S
 |.val (.loc l),S=>match S[l]? with
  |some (.lst ds)=>.ok ⟨ds,[(l,ds)]⟩ S
  |_=>.no
 |_,_=>.no
theorem bE{S:Sto}:stay [] S:=λp h=>by simp at h
theorem zCA(he:PEm X W iter f):PIm X W tg iter (λρ S=>(f ρ S).bind itL):=by
 obtain⟨t,he,k⟩:=he
 refine⟨_,yIE he,λα ρ S σ H Rc wd sl q=>k α ρ S σ H _ wd sl (q.bind λu p S1 α1 H1 e x1 w1 d1 q1=>?_)⟩
 replace q1:=q1.shift x1
 unfold itL at q1
 split at q1
 ·rename_i S0 ds
  obtain⟨⟨b,vs,rfl,h1,h2,h3⟩,h4⟩:=d1
  refine⟨b,rfl,⟨vs,.of h1⟩,q1.here (u:=Itl X.K b) w1 ⟨λα2 S2 H2=> ∃vs,SqL X.K H2 b vs/\DenL X.K α2 H2 ds vs/\H2 b=some (.lst vs)/\b∉α2,?_,⟨vs,.of h1,h3,h1,h2⟩,?_,bE⟩⟩
  ·intro i α2 S2 H2 ⟨vs2,a1,a2,a3,a4⟩ w2
   obtain⟨i1,i2⟩:=zKZ (X:=X) (a:=b) (ds:=ds) i α2 S2 H2 ⟨vs2,a1,a2⟩ w2
   refine⟨λhi=>⟨(i1 hi).1,λx H' y=>?_⟩,i2⟩
   obtain⟨j1,j2,j3,j4⟩:=(i1 hi).2 x H' y
   obtain⟨rfl,_⟩:=y
   exact⟨j1,j2,⟨vs2,a1,a2,a3,a4⟩,j4⟩
  ·intro α2 S2 H2 α3 S3 H3 ⟨vs2,a1,a2,a3,a4⟩ x w3 _
   exact⟨vs2,.of (x.keep b _ a3 a4),a2.ext x,x.keep b _ a3 a4,x.out a3 a4⟩
 ·rename_i S0 ds
  obtain⟨a,vs,rfl,s,l⟩:=zOW d1.1
  refine⟨a,rfl,⟨vs,s.l⟩,q1.here (u:=Itl X.K a) w1 ⟨λα2 S2 H2=> ∃vs,SqL X.K H2 a vs/\DenL X.K α2 H2 ds vs/\SqF X.K H2 a vs,?_,⟨vs,s.l,l,s⟩,?_,bE⟩⟩
  ·intro i α2 S2 H2 ⟨vs2,a1,a2,a3⟩ w2
   obtain⟨i1,i2⟩:=zKZ (X:=X) (a:=a) (ds:=ds) i α2 S2 H2 ⟨vs2,a1,a2⟩ w2
   refine⟨λhi=>⟨(i1 hi).1,λx H' y=>?_⟩,i2⟩
   obtain⟨j1,j2,j3,j4⟩:=(i1 hi).2 x H' y
   obtain⟨rfl,_⟩:=y
   exact⟨j1,j2,⟨vs2,a1,a2,a3⟩,j4⟩
  ·intro α2 S2 H2 α3 S3 H3 ⟨vs2,a1,a2,a3⟩ x w3 _
   exact⟨vs2,(x.sqF a3).l,a2.ext x,x.sqF a3⟩
 ·rename_i S0 n
  obtain⟨a,rfl,h⟩:=zFB d1.1
  obtain⟨o,h1,h2⟩:=w1.of h
  rw [h1]at q1
  cases o with
  |lst ds=>
   obtain⟨vs,h3,l⟩:=h2
   refine⟨a,rfl,⟨vs,.of h3⟩,Post.here (b:=(⟨ds,[(n,ds)]⟩:Wk)) q1 (u:=Itl X.K a) w1 ⟨λα2 S2 H2=> ∃vs,SqL X.K H2 a vs/\DenL X.K α2 H2 ds vs/\α2[n]? =some a,?_,⟨vs,.of h3,l,h⟩,?_,?_⟩⟩
   ·intro i α2 S2 H2 ⟨vs2,a1,a2,a3⟩ w2
    obtain⟨i1,i2⟩:=zKZ (X:=X) (a:=a) (ds:=ds) i α2 S2 H2 ⟨vs2,a1,a2⟩ w2
    refine⟨λhi=>⟨(i1 hi).1,λx H' y=>?_⟩,i2⟩
    obtain⟨j1,j2,j3,j4⟩:=(i1 hi).2 x H' y
    obtain⟨rfl,_⟩:=y
    exact⟨j1,j2,⟨vs2,a1,a2,a3⟩,j4⟩
   ·intro α2 S2 H2 α3 S3 H3 ⟨vs2,a1,a2,a3⟩ x w3 hs
    have a3':=x.at a3
    have:=w3.obj n a _ a3' (hs (n,ds) (by simp))
    obtain⟨vs3,b1,b2⟩:=this
    exact⟨vs3,.of b1,b2,a3'⟩
   ·intro p hp
    have:p=(n,ds):=by simpa using hp
    subst this
    exact h1
  |dic ds=>exact q1.elim
  |ins c fs=>exact q1.elim
 ·exact q1.elim
def itT:Er->Sto->R Wk
 |.val (.tup ds),S=>.ok ⟨ds,[]⟩ S
 |_,_=>.no
theorem zGV(he:PEm X W iter f):PIm X W tg iter (λρ S=>(f ρ S).bind itT):=by
 obtain⟨t,he,k⟩:=he
 refine⟨_,yMX he,λα ρ S σ H Rc wd sl q=>k α ρ S σ H _ wd sl (q.bind λu p S1 α1 H1 e x1 w1 d1 q1=>?_)⟩
 replace q1:=q1.shift x1
 unfold itT at q1
 split at q1
 ·rename_i S0 ds
  obtain⟨a,vs,rfl,s,l⟩:=bA d1.1
  exact⟨a,rfl,⟨vs,s⟩,q1.here (u:=Itt X.K a) w1 ⟨_,yAL,⟨vs,s,l⟩,λα2 S2 H2 α3 S3 H3 ⟨vs2,a1,a2⟩ x w3 _=>⟨vs2,x.sqT a1,a2.ext x⟩,bE⟩⟩
 ·exact q1.elim
def itS:Er->Sto->R Wk
 |.val (.str x),S=>.ok ⟨x.map λc=>.str [c],[]⟩ S
 |_,_=>.no
theorem yFF(he:PEm X W iter f):PIm X W tg iter (λρ S=>(f ρ S).bind itS):=by
 obtain⟨t,he,k⟩:=he
 refine⟨_,yNP he,λα ρ S σ H Rc wd sl q=>k α ρ S σ H _ wd sl (q.bind λu p S1 α1 H1 e x1 w1 d1 q1=>?_)⟩
 replace q1:=q1.shift x1
 unfold itS at q1
 split at q1
 ·rename_i S0 x
  exact⟨x,xC d1.1,q1.here (u:=Its x) w1 ⟨_,yIX,trivial,λ_ _ _ _ _ _ _ _ _ _=>trivial,bE⟩⟩
 ·exact q1.elim
def zEJ:List Er->Sto->R Wk
 |[.val (.int j)],S=>if -(2 ^ 62)<=j/\j<2 ^ 62 then .ok ⟨(List.range j.toNat).map λk=>.int (k:Nat),[]⟩ S else .no
 |_,_=>.no
variable{af:Rho->Sto->R (List Er)}{p:Pos}{a b:Expr}
theorem zNB{K:PySem.W.Frag}{H0:Hp}{α:List Addr}{H:Hp}{r:Er}{vs:List V}(d:ArgsE K H0 α H [r] vs): ∃v,vs=[v]/\DenX K α H r v:=by
 cases d with
 |cons a n l=>cases l;exact⟨_,rfl,a.1⟩
theorem args2{K:PySem.W.Frag}{H0:Hp}{α:List Addr}{H:Hp}{r r':Er}{vs:List V}(d:ArgsE K H0 α H [r,r'] vs): ∃v u,vs=[v,u]/\DenX K α H r v/\DenX K α H r' u:=by
 cases d with
 |cons a n l=>obtain⟨u,rfl,l'⟩:=zNB l;exact⟨_,u,rfl,a.1,l'⟩
theorem gS(hg:Gl X "range")(hm:X.mg "range"=none)(ha:PAm X W [a] af)(hs:starEach [a] X.env=[(false,eval a X.env)]:=by rfl):PIm X W tg (.Call (.Name "range" p) [a] [] pos) (λρ S=>(af ρ S).bind zEJ):=by
 obtain⟨t,ha,k⟩:=ha
 refine⟨_,yCG hg hm ha hs,λα ρ S σ H Rc wd sl q=>k α ρ S σ H _ wd sl (q.bind λvs rs S1 α1 H1 e x1 w1 d1 q1=>?_)⟩
 replace q1:=q1.shift x1
 unfold zEJ at q1
 split at q1
 ·split at q1
  ·rename_i S0 j hj
   obtain⟨v,rfl,dv⟩:=zNB d1
   cases yW dv
   have:=yCU (X:=X) (lo:=0) (n:=j.toNat)
   simp only [Int.zero_add]at this
   exact⟨j,rfl,hj.1,hj.2,q1.here (u:=Itr 0 j.toNat) w1 ⟨_,this,trivial,λ_ _ _ _ _ _ _ _ _ _=>trivial,bE⟩⟩
  ·exact q1.elim
 ·exact q1.elim
open Classical in
noncomputable def cO(gf:MV->Rho->Sto->R Rho)(body:AY)(gs:List (Nat×List MV)):List MV->AY
 |[],ρ,S=>.ok (.next ρ) S
 |d::ds,ρ,S=>(gf d ρ S).bind λρ0 S0=>(body ρ0 S0).bind λfl S1=>match fl with
  |.next ρ'=>if stay gs S1 then cO gf body gs ds ρ' S1 else .no
  |.cont ρ'=>if stay gs S1 then cO gf body gs ds ρ' S1 else .no
  |.brk ρ'=>.ok (.next ρ') S1
  |.ret r=>.ok (.ret r) S1
open Classical in
theorem gO{itf:Rho->Sto->R Wk}{gf:MV->Rho->Sto->R Rho}(hp:PassesOwn (model X.prog X.w) X.A X.env X.xe)(hc:X.calm=true)(hi:PIm X W tg iter itf)(hg:PGm X W tg gf)(hb:zVU X W as F)
  (hs: ∀y,foldedSetIterable iter X.env y=pure y:=by intro _;rfl):PSm X W (.For tg iter as [] pos) (λρ S=>(itf ρ S).bind λk S1=>cO gf F k.gs k.ds ρ S1):=by
 obtain⟨wi,hi,ki⟩:=hi
 obtain⟨tg',hg,kg⟩:=hg
 obtain⟨tb,hb,kb⟩:=hb
 refine⟨_,yMY hp hc hi hg hb hs,λα ρ S σ H D wd sl q=>ki α ρ S σ H _ wd sl (q.expr λJ k S1 α1 H1 e x1 w1 d1 q1=>?_)⟩
 obtain⟨P,hP⟩:=d1
 have sl1:=sl.ext x1
 replace q1:=PostS.shift x1 q1
 refine⟨λn m σ2 H2=>m=k.ds.length - n/\n<=k.ds.length/\ ∃α2 ρ2 S2,Wd X.g α2 S2 H2/\Slots X.K α2 H2 ρ2 σ2/\P α2 S2 H2/\PostS X.g W α2 H2 D (cO gf F k.gs (k.ds.drop n) ρ2 S2),⟨_,rfl,zero_le _,α1,ρ,S1,w1,sl1,hP.here,by simpa using q1⟩,?_⟩
 rintro n m σ2 H2 ⟨rfl,hn,α2,ρ2,S2,w2,sl2,p2,q2⟩
 obtain⟨i1,i2⟩:=hP.it n α2 S2 H2 p2 w2
 by_cases hlt:n<k.ds.length
 ·obtain⟨go,yl⟩:=i1 hlt
  refine .inr ⟨go,λσ3 H3=> ∃α3 ρ3 S3,Wd X.g α3 S3 H3/\Slots X.K α3 H3 ρ3 σ3/\P α3 S3 H3/\PostS X.g W α3 H3 D (cO gf F k.gs (k.ds.drop (n+1)) ρ3 S3),λσ3 H3 ⟨α3,ρ3,S3,h3⟩=>⟨k.ds.length - (n+1),by omega,rfl,hlt,α3,ρ3,S3,h3⟩,λv H3 y=>?_⟩
  obtain⟨x3,w3,p3,d,hd,dv⟩:=yl v H3 y
  have hdrop:k.ds.drop n=d::k.ds.drop (n+1):=by
   rw [List.drop_eq_getElem_cons hlt]
   have:=gE0 hlt
   rw [hd]at this
   rw [<-Option.some.inj this]
  rw [hdrop]at q2
  unfold cO at q2
  replace q2:=PostS.shift x3 q2
  refine kg α2 ρ2 S2 σ2 H3 d v _ w3 (sl2.ext x3) dv (q2.expr λσ4 ρ4 S4 α4 H4 e4 x4 w4 s4 q4=>?_)
  have p4: ∀α5 S5 H5,Ext α4 H4 α5 H5->Wd X.g α5 S5 H5->stay k.gs S5->P α5 S5 H5:=λα5 S5 H5 x5 w5 s5=>hP.stays α2 S2 H3 α5 S5 H5 p3 (x4.trans x5) w5 s5
  refine kb α4 ρ4 S4 σ4 H4 _ w4 s4 ((PostS.shift x4 q4).stmt ?_ ?_ ?_ ?_)
  ·intro ρ5 S5 σ5 α5 H5 e5 x5 w5 s5 q5
   have q5':PostS X.g W α4 H4 D (if stay k.gs S5 then cO gf F k.gs (k.ds.drop (n+1)) ρ5 S5 else .no):=q5
   split at q5'
   ·rename_i hst
    exact⟨α5,ρ5,S5,w5,s5,p4 α5 S5 H5 x5 w5 hst,PostS.shift x5 q5'⟩
   ·exact q5'.elim
  ·intro r S5 v5 α5 H5 e5 x5 w5 d5 q5
   exact q5 v5 α5 H5 x5 w5 d5
  ·intro ρ5 S5 σ5 α5 H5 e5 x5 w5 s5 q5
   exact q5 σ5 α5 H5 x5 w5 s5
  ·intro ρ5 S5 σ5 α5 H5 e5 x5 w5 s5 q5
   have q5':PostS X.g W α4 H4 D (if stay k.gs S5 then cO gf F k.gs (k.ds.drop (n+1)) ρ5 S5 else .no):=q5
   split at q5'
   ·rename_i hst
    exact⟨α5,ρ5,S5,w5,s5,p4 α5 S5 H5 x5 w5 hst,PostS.shift x5 q5'⟩
   ·exact q5'.elim
 ·have e:n=k.ds.length:=by omega
  subst e
  refine .inl ⟨i2 (le_refl _),?_⟩
  rw [drop_length]at q2
  exact q2 σ2 α2 H2 (Ext.refl _ _) w2 sl2
end
def noX{β:Type}:R β->R β
 |.ok b S=>.ok b S
 |_=>.no
theorem wB{β:Type}(b:β)(S:Sto):noX (R.ok b S)=.ok b S:=rfl
theorem Post.bindY{β τ γ υ:Type}[Dn β τ][Dn γ υ]{g:Gm}{W:XW}{α α':List Addr}{H H':Hp}(x:Ext α H α' H'){m:R β}{k:β->Sto->R γ}{Q:υ->Hp->Prop}{Q':τ->Hp->Prop}(q:Post g W α H ((noX m).bind k) Q)
  (f: ∀u b S1 α1 H1,m=.ok b S1->Ext α' H' α1 H1->Wd g α1 S1 H1->Dn.d g H' α1 S1 H1 b u->Post g W α H (k b S1) Q->Q' u H1):Post g W0 α' H' m Q':=by
 cases m with
 |ok b S=>exact λu α1 H1 x w d=>f u b S α1 H1 rfl x w d q
 |exc c fs S=>exact q.elim
 |no=>exact q
theorem R.bind_assoc{β γ δ:Type}(m:R β)(k1:β->Sto->R γ)(k2:γ->Sto->R δ):(m.bind k1).bind k2=m.bind λb S=>(k1 b S).bind k2:=by cases m<;>rfl
def blk(nt:Nat)(idx:List Nat)(ρ:Rho):Rho:=List.replicate nt none++idx.map λi=>(ρ[i]?).join
open Classical in
noncomputable def xG(gf:MV->Rho->Sto->R Rho)(cf:AZ)(ef:AX)(ρb:Rho)(gs:List (Nat×List MV)):List MV->Sto->R (List MV)
 |[],S=>.ok [] S
 |d::ds,S=>(noX (gf d ρb S)).bind λρ1 S0=>(noX (cf ρ1 S0)).bind λk S1=>
  if k=true then(noX (ef ρ1 S1)).bind λr S2=>(nG r S2).bind λy S3=>if stay gs S3 then(xG gf cf ef ρb gs ds S3).bind λout S4=>.ok (y::out) S4 else .no
  else if stay gs S1 then xG gf cf ef ρb gs ds S1 else .no
theorem yCV{K:PySem.W.Frag}{α:List Addr}{H:Hp}{ρ:Rho}{σ:St}(q:Slots K α H ρ σ)(nt:Nat)(idx:List Nat)(τ:St)(hτ:τ.length=nt):Slots K α H (blk nt idx ρ) (τ++zLR σ idx):=by
 refine⟨by unfold blk;rw [lA,lA,zBY,lM,length_replicate,hτ],λi d e=>?_⟩
 unfold blk at e
 by_cases hi:i<nt
 ·rw [getElem?_append_left (by rw [length_replicate];exact hi),List.getElem?_replicate]at e
  split at e<;>cases e
 ·rw [getElem?_append_right (by rw [length_replicate];omega),length_replicate,getElem?_map]at e
  cases z:idx[i - nt]? with
  |none=>rw [z]at e;cases e
  |some k=>
   rw [z]at e
   have e2:(ρ[k]?).join=some d:=Option.some.inj e
   cases z2:ρ[k]? with
   |none=>rw [z2]at e2;cases e2
   |some o=>
    rw [z2]at e2
    have e3:o=some d:=e2
    subst e3
    obtain⟨v,h1,h2⟩:=q.slot k d z2
    refine⟨v,?_,h2⟩
    rw [getElem?_append_right (by omega),hτ]
    unfold zLR
    rw [getElem?_map,z]
    show some (σ[k]?).join=some (some v)
    rw [h1];rfl
def Keeps(nt:Nat)(σ:St)(Q:St->Hp->Prop):St->Hp->Prop:=λσ' H'=>σ'.length=σ.length->(∀j,nt<=j->σ'[j]? =σ[j]?)->Q σ' H'
def PGn(nt:Nat)(X:Cx)(W:XW)(tg:Expr)(gf:MV->Rho->Sto->R Rho):Prop:=
 ∃t,PG X tg t/\ ∀α ρ S σ H d v Q,Wd X.g α S H->Slots X.K α H ρ σ->Den X.K α H d v->Post X.g W α H (gf d ρ S) (Keeps nt σ Q)->t v σ H Q
def PGsn(nt:Nat)(X:Cx)(W:XW)(tgs:List Expr)(gf:List MV->Rho->Sto->R Rho):Prop:=
 ∃t,PGs X tgs t/\ ∀α ρ S σ H ds vs Q,Wd X.g α S H->Slots X.K α H ρ σ->DenL X.K α H ds vs->Post X.g W α H (gf ds ρ S) (Keeps nt σ Q)->t vs σ H Q
section
variable{X:Cx}{W:XW}{e:Expr}{pos:Pos}{nt:Nat}
theorem wE(i:Nat){x:Str}(hN:X.N.Nodup)(hi:X.N[i]? =some x:=by rfl)(hx:Loc X.env.scope x:=by first |exact Or.inl rfl|exact Or.inr rfl)(hf:X.fn x=true\/X.env.scope.names.lookup x=some .local:=by first |exact .inl rfl|exact .inr rfl|assumption)(hlt:i<nt:=by decide):
  PGn nt X W (.Name x pos) (gNm i):=⟨_,yAA hN hi hx hf,λα ρ S σ H d v Q wd sl de q=>Post.here (b:=ρ.set i (some d)) q wd (sl.set de) (by rw [length_set]) λj hj=>by rw [getElem?_set_ne (by omega)]⟩
theorem yNX:PGsn nt X W [] gR:=⟨_,yAB,λα ρ S σ H ds vs Q wd sl de q=>by
 cases ds with
 |nil=>exact⟨de.isnil,Post.here (b:=ρ) q wd sl rfl λ_ _=>rfl⟩
 |cons d ds=>exact q.elim⟩
theorem Post.keeps{g:Gm}{W:XW}{α:List Addr}{H:Hp}{m:R Rho}{σ σ1:St}{Q:St->Hp->Prop}(h1:σ1.length=σ.length)(h2: ∀j,nt<=j->σ1[j]? =σ[j]?)(q:Post g W α H m (Keeps nt σ Q)):Post g W α H m (Keeps nt σ1 Q):=by
 cases m with
 |ok b S=>exact λu α1 H1 x w d k1 k2=>q u α1 H1 x w d (k1.trans h1) λj hj=>(k2 j hj).trans (h2 j hj)
 |exc c fs S=>exact q
 |no=>exact q
theorem yAM{es:List Expr}{g1:MV->Rho->Sto->R Rho}{g2:List MV->Rho->Sto->R Rho}(h1:PGn nt X W e g1)(h2:PGsn nt X W es g2)(hs:(assignEach (e::es) X.env).map (·.2)=assign e X.env::(assignEach es X.env).map (·.2):=by rfl):PGsn nt X W (e::es) (yB g1 g2):=by
 obtain⟨t1,h1,k1⟩:=h1
 obtain⟨t2,h2,k2⟩:=h2
 refine⟨_,zVF h1 h2 hs,λα ρ S σ H ds vs Q wd sl de q=>?_⟩
 cases ds with
 |nil=>exact q.elim
 |cons d ds=>
  obtain⟨v,r,rfl,a,l⟩:=de.uncons
  refine⟨v,r,rfl,k1 α ρ S σ H d v _ wd sl a (Post.bind q λu p S1 α1 H1 e x1 w1 d1 q1 k1 k2'=>k2 α1 p S1 u H1 ds r Q w1 d1 (l.ext x1) (Post.keeps k1 k2' (q1.shift x1)))⟩
theorem yNY{es:List Expr}{k n:Nat}{g2:List MV->Rho->Sto->R Rho}(hc:X.calm=true)(h:PGsn nt X W es g2)
  (hn:(assignEach es X.env).length=n:=by rfl) (hst:(assignEach es X.env).findIdx? (·.1)=none:=by rfl):PGn nt X W (.Tuple es k pos) (gTp n g2):=by
 obtain⟨t,h,k⟩:=h
 refine⟨_,yEC hc h hn hst,λα ρ S σ H d v Q wd sl de q=>?_⟩
 unfold gTp at q
 split at q
 ·split at q
  ·rename_i hl
   obtain⟨a,vs,rfl,s,l⟩:=jA de
   exact⟨a,vs,rfl,s,by rw [l.length];exact hl,k α ρ S σ H _ vs Q wd sl l q⟩
  ·exact q.elim
 ·exact q.elim
end
abbrev yFG(X:Cx)(W:XW)(ifs:List Expr)(f:AZ):Prop:=Jd X W (yCP X ifs) f
section
variable{X:Cx}{W:XW}{iter:Expr}{c:Expr}{tf:AZ}{pos:Pos}
theorem kU:yFG X W [] (λ_ S=>.ok true S):=⟨_,yEU,λα ρ S σ H Q wd sl q=>q.here wd rfl⟩
theorem yIY(h:PTm X W c tf):yFG X W [c] tf:=let ⟨t,h,k⟩:=h;⟨t,yEV h,k⟩
open Classical in
theorem yAN{elt tg:Expr}{ifs:List Expr}{sc:Scope}{itf:Rho->Sto->R Wk}{cf:AZ}{ef:AX}{gf:MV->Rho->Sto->R Rho}(osc:Scope)(N:List Str)(T:List Str)(idx:List Nat)
  (hi:PIm X W tg iter itf) (hcalm:X.calm=true)
  (hg: ∀C s₂ H1 fp,([]++T++idx.map λi=>(N[i]?).getD Str.empty).Nodup->PGn T.length (yF X sc T idx C s₂ H1 fp) W0 tg gf)
  (hc: ∀C s₂ H1 fp,yFG (yF X sc T idx C s₂ H1 fp) W0 ifs cf) (he: ∀C s₂ H1 fp,PEm (yF X sc T idx C s₂ H1 fp) W0 elt ef)
  (e1:X.env.scope=osc:=by rfl) (e2:X.N=N:=by rfl) (hB:zMY osc N sc idx=true:=by decide+kernel) (hN:([]++T++idx.map λi=>(N[i]?).getD Str.empty).Nodup:=by decide+kernel)
  (hs: ∀y,foldedSetIterable iter X.env y=pure y:=by intro _;rfl):
  Jd (β:=Er) (τ:=V) X W (λt=>PE X (.ListComp elt [⟨tg,iter,ifs,0⟩] sc pos) t/\PU X (.ListComp elt [⟨tg,iter,ifs,0⟩] sc pos) t) (λρ S=>(itf ρ S).bind λk S1=>if k.ds.length<1000000 then(xG gf cf ef (blk T.length idx ρ) k.gs k.ds S1).bind λout S2=>.ok (.new out) S2 else .no):=by
 obtain⟨wi,hi,ki⟩:=hi
 subst e1 e2
 have big:(1000000:Nat)<sizeLine:=by rw [sizeLine_eq];decide
 have hg': ∃t,(∀C s₂ H1 fp,PG (yF X sc T idx C s₂ H1 fp) tg t)/\ ∀α ρ S σ H d v Q,Wd X.g α S H->Slots X.K α H ρ σ->Den X.K α H d v->Post X.g W0 α H (gf d ρ S) (Keeps T.length σ Q)->t v σ H Q:=by
  refine⟨λv σ H Q=> ∃α ρ S d,Wd X.g α S H/\Slots X.K α H ρ σ/\Den X.K α H d v/\Post X.g W0 α H (gf d ρ S) (Keeps T.length σ Q),λC s₂ H1 fp pins s σ H v u Q I r ⟨α,ρ,S,d,h1,h2,h3,h4⟩=>?_,λα ρ S σ H d v Q h1 h2 h3 h4=>⟨α,ρ,S,d,h1,h2,h3,h4⟩⟩
  obtain⟨t,ht,kt⟩:=hg C s₂ H1 fp hN
  exact ht pins s σ H v u Q I r (kt α ρ S σ H d v Q h1 h2 h3 h4)
 obtain⟨tg',hg1,kg⟩:=hg'
 refine⟨_,⟨yIR T idx hi hcalm hB hg1 (λC s₂ H1 fp=>(Classical.choose_spec (hc C s₂ H1 fp)).1) (λC s₂ H1 fp=>(Classical.choose_spec (he C s₂ H1 fp)).1) hs,yIS T idx hi hcalm hB hg1 (λC s₂ H1 fp=>(Classical.choose_spec (hc C s₂ H1 fp)).1) (λC s₂ H1 fp=>(Classical.choose_spec (he C s₂ H1 fp)).1) hs⟩,λα ρ S σ H Q wd sl q=>ki α ρ S σ H _ wd sl (q.bind λJ k S1 α1 H1 e1 x1 w1 d1 q1=>?_)⟩
 obtain⟨P,hP⟩:=d1
 split at q1
 ·rename_i hlen
  refine⟨λn m ys H2=>m=k.ds.length - n/\n<=k.ds.length/\ys.length<=n/\ ∃α2 S2,Ext α H α2 H2/\Wd X.g α2 S2 H2/\P α2 S2 H2/\ ∃outs,DenL X.K α2 H2 outs ys/\Post X.g W α H ((xG gf cf ef (blk T.length idx ρ) k.gs (k.ds.drop n) S2).bind λo S'=>.ok (Er.new (outs++o)) S') Q,
   ⟨_,rfl,zero_le _,le_refl _,α1,S1,x1,w1,hP.here,[],xF,by simpa using q1⟩,?_⟩
  rintro n m ys H2 ⟨rfl,hn,hy,α2,S2,x2,w2,p2,outs,l,q2⟩
  obtain⟨i1,i2⟩:=hP.it n α2 S2 H2 p2 w2
  refine⟨by omega,?_⟩
  by_cases hlt:n<k.ds.length
  ·obtain⟨go,yl⟩:=i1 hlt
   refine .inr ⟨go,by omega,λv H3 y τ hτ=>?_⟩
   obtain⟨x3,w3,p3,d,hd,dv⟩:=yl v H3 y
   have hdrop:k.ds.drop n=d::k.ds.drop (n+1):=by
    rw [List.drop_eq_getElem_cons hlt]
    have:=gE0 hlt
    rw [hd]at this
    rw [<-Option.some.inj this]
   rw [hdrop]at q2
   unfold xG at q2
   have slb:=yCV (sl.ext (x2.trans x3)) T.length idx τ hτ
   refine kg α2 (blk T.length idx ρ) S2 _ H3 d v _ w3 slb dv ?_
   rw [R.bind_assoc]at q2
   refine q2.bindY (x2.trans x3) λσ4 ρ4 S4 α4 H4 e4 x4 w4 s4 q4 len4 kp4=>⟨⟨σ4.take T.length,?_,?_⟩,λC s₂ fp=>?_⟩
   ·refine List.ext_getElem? λj=>?_
    have hl4:σ4.length=T.length+idx.length:=by rw [len4,lA,zBY,hτ]
    by_cases hj:j<T.length
    ·rw [getElem?_append_left (by rw [lT];omega),List.getElem?_take_of_lt hj]
    ·rw [kp4 j (by omega),getElem?_append_right (by omega),getElem?_append_right (by rw [lT];omega),hτ,lT,Nat.min_eq_left (by omega)]
   ·rw [lT,len4,lA,zBY,hτ];omega
   have x34:Ext α H α4 H4:=(x2.trans x3).trans x4
   have p4: ∀α5 S5 H5,Ext α4 H4 α5 H5->Wd X.g α5 S5 H5->stay k.gs S5->P α5 S5 H5:=λα5 S5 H5 x5 w5 s5=>hP.stays α2 S2 H3 α5 S5 H5 p3 (x4.trans x5) w5 s5
   rw [R.bind_assoc]at q4
   refine(Classical.choose_spec (hc C s₂ H1 fp)).2 α4 ρ4 S4 σ4 H4 _ w4 s4 (q4.bindY x34 λb5 b5' S5 α5 H5 e5 x5 w5 d5 q5=>?_)
   cases d5
   cases b5 with
   |false=>
    rw [iN xF0]at q5 ⊢
    split at q5
    ·rename_i hst
     exact⟨k.ds.length - (n+1),by omega,rfl,hlt,by omega,α5,S5,x34.trans x5,w5,p4 α5 S5 H5 x5 w5 hst,outs,(l.ext (x3.trans x4)).ext x5,q5⟩
    ·exact q5.elim
   |true=>
    rw [iP rfl,R.bind_assoc]at q5
    rw [iP rfl]
    refine(Classical.choose_spec (he C s₂ H1 fp)).2 α5 ρ4 S5 σ4 H5 _ w5 (s4.ext x5) (q5.bindY (x34.trans x5) λy6 r6 S6 α6 H6 e6 x6 w6 d6 q6=>?_)
    obtain⟨d',S',α',e7,x7,y7,w7,de⟩:=zEI w6 x6 d6
    rw [e7]at q6
    have q6:Post X.g W α H ((if stay k.gs S' then(xG gf cf ef (blk T.length idx ρ) k.gs (k.ds.drop (n+1)) S').bind λout S4=>.ok (d'::out) S4 else .no).bind λo S'=>.ok (Er.new (outs++o)) S') Q:=q6
    split at q6
    ·rename_i hst
     refine⟨k.ds.length - (n+1),by omega,rfl,hlt,by rw [lA,lS];omega,α',S',(x34.trans x5).trans x7,w7,p4 α' S' H6 (x5.trans x7) w7 hst,outs++[d'],((l.ext (x3.trans x4)).ext (x5.trans x7)).append (yO de xF),?_⟩
     rw [R.bind_assoc]at q6
     have e8:(λ(o:List MV) (S':Sto)=>R.ok (Er.new ((outs++[d'])++o)) S')=(λ(b:List MV) S=>(R.ok (d'::b) S).bind λo S'=>.ok (Er.new (outs++o)) S'):=by
      funext o S'
      show _=R.ok (Er.new (outs++(d'::o))) S'
      rw [aA];rfl
     rw [e8]
     exact q6
    ·exact q6.elim
  ·have e:n=k.ds.length:=by omega
   subst e
   rw [drop_length]at q2
   have q3:Post X.g W α H (.ok (Er.new (outs++[])) S2) Q:=q2
   rw [aN]at q3
   exact .inl ⟨i2 (le_refl _),λD hD=>(q3.shift x2).newl w2 hD l⟩
 ·exact q1.elim
open Classical in
theorem zAQ{elt tg:Expr}{ifs:List Expr}{sc:Scope}{itf:Rho->Sto->R Wk}{cf:AZ}{ef:AX}{gf:MV->Rho->Sto->R Rho}(osc:Scope)(N:List Str)(T:List Str)(idx:List Nat)
  (hi:PIm X W tg iter itf) (hcalm:X.calm=true)
  (hg: ∀C s₂ H1 fp,([]++T++idx.map λi=>(N[i]?).getD Str.empty).Nodup->PGn T.length (yF X sc T idx C s₂ H1 fp) W0 tg gf)
  (hc: ∀C s₂ H1 fp,yFG (yF X sc T idx C s₂ H1 fp) W0 ifs cf) (he: ∀C s₂ H1 fp,PEm (yF X sc T idx C s₂ H1 fp) W0 elt ef)
  (e1:X.env.scope=osc:=by rfl) (e2:X.N=N:=by rfl) (hB:zMY osc N sc idx=true:=by decide+kernel) (hN:([]++T++idx.map λi=>(N[i]?).getD Str.empty).Nodup:=by decide+kernel)
  (hs: ∀y,foldedSetIterable iter X.env y=pure y:=by intro _;rfl):
  PEm X W (.ListComp elt [⟨tg,iter,ifs,0⟩] sc pos) (λρ S=>(itf ρ S).bind λk S1=>if k.ds.length<1000000 then(xG gf cf ef (blk T.length idx ρ) k.gs k.ds S1).bind λout S2=>.ok (.new out) S2 else .no):=let ⟨t,h,k⟩:=(yAN osc N T idx hi hcalm hg hc he e1 e2 hB hN hs);⟨t,h.1,k⟩
open Classical in
theorem zIM{x:Str}{pos' spos:Pos}(i:Nat)(hNN:X.N.Nodup){elt tg:Expr}{ifs:List Expr}{sc:Scope}{itf:Rho->Sto->R Wk}{cf:AZ}{ef:AX}{gf:MV->Rho->Sto->R Rho}(osc:Scope)(N:List Str)(T:List Str)(idx:List Nat)
  (hi:PIm X W tg iter itf) (hcalm:X.calm=true)
  (hg: ∀C s₂ H1 fp,([]++T++idx.map λi=>(N[i]?).getD Str.empty).Nodup->PGn T.length (yF X sc T idx C s₂ H1 fp) W0 tg gf)
  (hc: ∀C s₂ H1 fp,yFG (yF X sc T idx C s₂ H1 fp) W0 ifs cf) (he: ∀C s₂ H1 fp,PEm (yF X sc T idx C s₂ H1 fp) W0 elt ef)
  (e1:X.env.scope=osc:=by rfl) (e2:X.N=N:=by rfl) (hB:zMY osc N sc idx=true:=by decide+kernel) (hN:([]++T++idx.map λi=>(N[i]?).getD Str.empty).Nodup:=by decide+kernel)
  (hs: ∀y,foldedSetIterable iter X.env y=pure y:=by intro _;rfl)
  (hi2:X.N[i]? =some x:=by rfl) (hx:Loc X.env.scope x:=by first |exact Or.inl rfl|exact Or.inr rfl)
  (hsw:swapsWith (.ListComp elt [⟨tg,iter,ifs,0⟩] sc pos) (some (.Name x pos')) spos.line X.env=pure true:=by with_unfolding_all rfl) (hf:X.fn x=true\/X.env.scope.names.lookup x=some .local:=by first |exact .inl rfl|exact .inr rfl|assumption):
  PSm X W (.Assign [.Name x pos'] (.ListComp elt [⟨tg,iter,ifs,0⟩] sc pos) spos) (λρ S=>((itf ρ S).bind λk S1=>if k.ds.length<1000000 then(xG gf cf ef (blk T.length idx ρ) k.gs k.ds S1).bind λout S2=>.ok (.new out) S2 else .no).bind (zTA ρ i)):=by
 obtain⟨t,h,k⟩:=(yAN osc N T idx hi hcalm hg hc he e1 e2 hB hN hs)
 refine⟨_,h.2 i x pos' spos hNN hi2 hx hf hsw,λα ρ S σ H D wd sl q=>k α ρ S σ H _ wd sl (q.expr λu r S1 α1 H1 e x1 w1 d1 q1=>?_)⟩
 obtain⟨d',S',α',e1,x',y',w',de⟩:=zEI w1 x1 d1
 unfold zTA at q1
 rw [e1]at q1
 exact q1 _ α' H1 x' w' (((sl.ext x1).ex0 y').set de)
end
mutual
def lo(n:Nat):MV->Prop
 |.loc l=>l<n
 |.tup ds=>loL n ds
 |.scr ds=>loL n ds
 |.obj _ _ ds=>loL n ds
 |_=>True
def loL(n:Nat):List MV->Prop
 |[]=>True
 |d::ds=>lo n d/\loL n ds
end
def loO(n:Nat):MO->Prop
 |.lst ds=>loL n ds
 |.dic kvs=> ∀p∈kvs,lo n p.1/\lo n p.2
 |.ins _ fs=> ∀p∈fs,lo n p.2
section
variable{K:PySem.W.Frag}{α t:List Addr}{H:Hp}
mutual
theorem Den.back: ∀{d:MV}{v:V},Den K (α++t) H d v->lo α.length d->Den K α H d v
 |.non,_,q,_=>by cases zAY q;exact zNZ
 |.bl _,_,q,_=>by cases zEG q;exact wN _
 |.int _,_,q,_=>by cases gY q;exact xM _
 |.str _,_,q,_=>by cases kZ q;exact jM _
 |.typ _,_,q,_=>by cases cT q;exact yAJ _
 |.obj c ns ds,_,q,h=>by
  obtain⟨a,C,dx,vs,o,rfl,e,hn,hc,hl,l⟩:=cS q
  exact yIU e hn hc hl (DenL.back l (by unfold lo at h;exact h))
 |.loc l,_,q,h=>by
  obtain⟨a,rfl,e⟩:=gZ q
  have hl:l<α.length:=by unfold lo at h;exact h
  rw [getElem?_append_left hl]at e
  exact zOA e
 |.tup ds,_,q,h=>by
  obtain⟨a,vs,rfl,s,l⟩:=jA q
  exact zBZ s (DenL.back l (by unfold lo at h;exact h))
 |.scr ds,_,q,h=>by
  obtain⟨a,vs,rfl,s,l⟩:=cU q
  exact yAK s (DenL.back l (by unfold lo at h;exact h))
theorem DenL.back: ∀{ds:List MV}{vs:List V},DenL K (α++t) H ds vs->loL α.length ds->DenL K α H ds vs
 |[],_,q,_=>by rw [q.isnil];exact xF
 |d::ds,_,q,h=>by
  obtain⟨v,r,rfl,a,l⟩:=q.uncons
  unfold loL at h
  exact yO (Den.back a h.1) (DenL.back l h.2)
end
mutual
theorem Den.lo: ∀{d:MV}{v:V},Den K α H d v->lo α.length d
 |.non,_,q=>by unfold M.lo;trivial
 |.bl _,_,q=>by unfold M.lo;trivial
 |.int _,_,q=>by unfold M.lo;trivial
 |.str _,_,q=>by unfold M.lo;trivial
 |.typ _,_,q=>by unfold M.lo;trivial
 |.obj c ns ds,_,q=>by
  obtain⟨a,C,dx,vs,o,rfl,e,hn,hc,hl,l⟩:=cS q
  unfold M.lo
  exact DenL.lo l
 |.loc l,_,q=>by
  obtain⟨a,rfl,e⟩:=gZ q
  unfold M.lo
  exact(gS0.mp e).1
 |.tup ds,_,q=>by
  obtain⟨a,vs,rfl,s,l⟩:=jA q
  unfold M.lo
  exact DenL.lo l
 |.scr ds,_,q=>by
  obtain⟨a,vs,rfl,s,l⟩:=cU q
  unfold M.lo
  exact DenL.lo l
theorem DenL.lo: ∀{ds:List MV}{vs:List V},DenL K α H ds vs->loL α.length ds
 |[],_,q=>by unfold loL;trivial
 |d::ds,_,q=>by
  obtain⟨v,r,rfl,a,l⟩:=q.uncons
  unfold loL
  exact⟨Den.lo a,DenL.lo l⟩
end
theorem DenK.back: ∀{fs gs},DenK K (α++t) H fs gs->(∀p∈fs,M.lo α.length p.1/\M.lo α.length p.2)->DenK K α H fs gs
 |_,_,.nil,_=>.nil
 |_,_,.cons k a l,h=>.cons k (a.back (h _ mF0).2) (DenK.back l λp hp=>h p (mO _ hp))
theorem KeyD.lo{n:Nat}{k:MV}{k':Key}(h:KeyD k k'):M.lo n k:=by
 unfold KeyD at h
 split at h
 ·unfold M.lo;trivial
 ·unfold M.lo;trivial
 ·exact h.elim
theorem DenK.lo: ∀{fs gs},DenK K α H fs gs-> ∀p∈fs,M.lo α.length p.1/\M.lo α.length p.2
 |_,_,.nil=>λp h=>by simp at h
 |_,_,.cons k a l=>λp h=>(mC.mp h).elim (λe=>by subst e;exact⟨k.lo,a.lo⟩) (DenK.lo l p)
theorem DenN.back: ∀{fs xs},DenN K (α++t) H fs xs->(∀p∈fs,M.lo α.length p.1/\M.lo α.length p.2)->DenN K α H fs xs
 |_,_,.nil,_=>.nil
 |_,_,.cons k e a d r l,h=>.cons k e (a.back (h _ mF0).1) (d.back (h _ mF0).2) r (DenN.back l λp hp=>h p (mO _ hp))
theorem DenN.lo: ∀{fs xs},DenN K α H fs xs-> ∀p∈fs,M.lo α.length p.1/\M.lo α.length p.2
 |_,_,.nil=>λp h=>by simp at h
 |_,_,.cons k e a d r l=>λp h=>(mC.mp h).elim (λz=>by subst z;exact⟨a.lo,d.lo⟩) (DenN.lo l p)
theorem DenF.back: ∀{fs gs},DenF K (α++t) H fs gs->(∀p∈fs,M.lo α.length p.2)->DenF K α H fs gs
 |_,_,.nil,_=>.nil
 |_,_,.cons a l,h=>.cons (a.back (h _ mF0)) (DenF.back l λp hp=>h p (mO _ hp))
theorem DenF.lo: ∀{fs gs},DenF K α H fs gs-> ∀p∈fs,M.lo α.length p.2
 |_,_,.nil=>λp h=>by simp at h
 |_,_,.cons a l=>λp h=>(mC.mp h).elim (λe=>by subst e;exact a.lo) (DenF.lo l p)
theorem ObD.back{g:Gm}{a:Addr}{o:MO}(q:ObD g (α++t) H a o)(h:loO α.length o):ObD g α H a o:=by
 cases o with
 |lst ds=>obtain⟨vs,h1,l⟩:=q;exact⟨vs,h1,l.back h⟩
 |dic ds=>
  rcases q with⟨vs,h1,l⟩|⟨vs,h1,l⟩
  ·exact .inl ⟨vs,h1,l.back h⟩
  ·exact .inr ⟨vs,h1,l.back h⟩
 |ins c fs=>obtain⟨C,gs,m,l,r⟩:=q;exact⟨C,gs,m,l.back h,r⟩
theorem ObD.lo{g:Gm}{a:Addr}{o:MO}(q:ObD g α H a o):loO α.length o:=by
 cases o with
 |lst ds=>obtain⟨vs,h1,l⟩:=q;exact l.lo
 |dic ds=>
  rcases q with⟨vs,h1,l⟩|⟨vs,h1,l⟩
  ·exact l.lo
  ·exact l.lo
 |ins c fs=>obtain⟨C,gs,m,l,r⟩:=q;exact l.lo
end
def yAO(S S2:Sto):Prop:=S.length<=S2.length/\ ∀l,l<S.length->S2[l]? =S[l]? \/ ∃o,S2[l]? =some o/\loO S.length o
open Classical in
noncomputable def zEK(S:Sto)(r:Er)(S2:Sto):R Er:=
 if yAO S S2 then match r with
  |.val (.loc l)=>if l<S.length then .ok r (S2.take S.length)else match S2[l]? with
   |some (.lst ds)=>if loL S.length ds then .ok (.new ds) (S2.take S.length)else .ok r S2
   |_=>.ok r S2
  |.val d=>if lo S.length d then .ok r (S2.take S.length)else .ok r S2
  |.new ds=>if loL S.length ds then .ok r (S2.take S.length)else .ok r S2
 else .ok r S2
theorem yIZ{g:Gm}{α α1 α2 α3:List Addr}{H H1 H3:Hp}{S1 S3:Sto}{r:Er}{v:V}(x1:Ext α H α1 H1)(w1:Wd g α1 S1 H1)(h12: ∃t,α2=α1++t)(x2:Ext α H α2 H1)(x3:Ext α2 H1 α3 H3)(w3:Wd g α3 S3 H3)(d:DenE g.K H1 α3 H3 r v):
  ∃r' S' α',zEK S1 r S3=.ok r' S'/\Ext α H α' H3/\Wd g α' S' H3/\DenE g.K H α' H3 r' v:=by
 have x23:=x2.trans x3
 have dfull:DenE g.K H α3 H3 r v:=d.back λb h=>x1.free h
 unfold zEK
 by_cases hc:yAO S1 S3
 ·rw [iP hc]
  obtain⟨t,ht⟩: ∃t,α3=α1++t:=by
   obtain⟨t,e⟩:=h12
   obtain⟨u,e'⟩:=x3.pre
   exact⟨t++u,by rw [e',e,aA]⟩
  have hn:α1.length=S1.length:=w1.len
  have xc:Ext α H α1 H3:=⟨⟨x1.pre,x23.tup,x23.frz⟩,x1.new,x23.keep,x23.has⟩
  have wc:Wd g α1 (S3.take S1.length) H3:=by
   refine⟨by rw [lT,hn,Nat.min_eq_left hc.1],w1.nd,λl a o h1 h2=>?_⟩
   have hl:l<S1.length:=by rw [<-hn];exact(gS0.mp h1).1
   rw [List.getElem?_take_of_lt hl]at h2
   have h1':α3[l]? =some a:=by rw [ht,getElem?_append_left (by rw [hn];exact hl)];exact h1
   have q:=w3.obj l a o h1' h2
   rw [ht]at q
   refine q.back ?_
   rcases hc.2 l hl with e|⟨o',e,lo'⟩
   ·rw [e]at h2
    exact(w1.obj l a o h1 h2).lo
   ·rw [h2]at e
    cases e
    rw [hn];exact lo'
  have dlo: ∀d,lo S1.length d->Den g.K α3 H3 d v->DenE g.K H α1 H3 (.val d) v:=λd hd q=>.val ((ht▸q:Den g.K (α1++t) H3 d v).back (by rw [hn];exact hd))
  cases r with
  |new ds=>
   dsimp only
   split
   ·rename_i hl
    obtain⟨⟨b,vs,rfl,h1,h2,h3⟩,h4⟩:=dfull
    exact⟨_,_,α1,rfl,xc,wc,⟨b,vs,rfl,h1,λz=>h2 (by rw [ht];exact mem_append_left _ z),(ht▸h3:DenL g.K (α1++t) H3 ds vs).back (by rw [hn];exact hl)⟩,h4⟩
   ·exact⟨_,_,α3,rfl,x23,w3,dfull⟩
  |val mv=>
   have dd:Den g.K α3 H3 mv v:=dfull.1
   cases mv with
   |loc l=>
    dsimp only
    split
    ·rename_i hl
     exact⟨_,_,α1,rfl,xc,wc,dlo _ (by unfold lo;exact hl) dd⟩
    ·rename_i hl
     obtain⟨a,rfl,ha⟩:=gZ dd
     split
     ·rename_i ds hS
      split
      ·rename_i hlo
       obtain⟨vs,h1,h2⟩:=w3.obj l a _ ha hS
       have hna:a∉α1:=λz=>by
        obtain⟨m,hm⟩:=List.getElem?_of_mem z
        have hml:m<α1.length:=(gS0.mp hm).1
        have hm':α3[m]? =some a:=by rw [ht,getElem?_append_left hml];exact hm
        obtain⟨u1,e1⟩:=gS0.mp hm'
        obtain⟨u2,e2⟩:=gS0.mp ha
        have:=(getElem_inj w3.nd).mp (e1.trans e2.symm)
        omega
       refine⟨_,_,α1,rfl,xc,wc,⟨a,vs,rfl,h1,hna,(ht▸h2:DenL g.K (α1++t) H3 ds vs).back (by rw [hn];exact hlo)⟩,λb e=>?_⟩
       cases e
       rcases x23.new a (mem_of_getElem? ha)with z|z
       ·obtain⟨u,eu⟩:=x1.pre
        exact absurd (by rw [eu];exact mem_append_left _ z) hna
       ·exact z
      ·exact⟨_,_,α3,rfl,x23,w3,dfull⟩
     ·exact⟨_,_,α3,rfl,x23,w3,dfull⟩
   |non=>dsimp only;split;(· rename_i hl;exact⟨_,_,α1,rfl,xc,wc,dlo _ hl dd⟩);(· exact⟨_,_,α3,rfl,x23,w3,dfull⟩)
   |bl b=>dsimp only;split;(· rename_i hl;exact⟨_,_,α1,rfl,xc,wc,dlo _ hl dd⟩);(· exact⟨_,_,α3,rfl,x23,w3,dfull⟩)
   |int b=>dsimp only;split;(· rename_i hl;exact⟨_,_,α1,rfl,xc,wc,dlo _ hl dd⟩);(· exact⟨_,_,α3,rfl,x23,w3,dfull⟩)
   |str b=>dsimp only;split;(· rename_i hl;exact⟨_,_,α1,rfl,xc,wc,dlo _ hl dd⟩);(· exact⟨_,_,α3,rfl,x23,w3,dfull⟩)
   |typ b=>dsimp only;split;(· rename_i hl;exact⟨_,_,α1,rfl,xc,wc,dlo _ hl dd⟩);(· exact⟨_,_,α3,rfl,x23,w3,dfull⟩)
   |obj b b' b''=>dsimp only;split;(· rename_i hl;exact⟨_,_,α1,rfl,xc,wc,dlo _ hl dd⟩);(· exact⟨_,_,α3,rfl,x23,w3,dfull⟩)
   |tup b=>dsimp only;split;(· rename_i hl;exact⟨_,_,α1,rfl,xc,wc,dlo _ hl dd⟩);(· exact⟨_,_,α3,rfl,x23,w3,dfull⟩)
   |scr b=>dsimp only;split;(· rename_i hl;exact⟨_,_,α1,rfl,xc,wc,dlo _ hl dd⟩);(· exact⟨_,_,α3,rfl,x23,w3,dfull⟩)
 ·rw [iN hc]
  exact⟨_,_,α3,rfl,x23,w3,dfull⟩
def spM(g:Gm)(n:Nat)(F:List MV->Sto->R Er):Sp:=λvs H Q _=> ∃α S ds,Wd g α S H/\DenL g.K α H ds vs/\ds.length=n/\Post g W0 α H (F ds S) Q
noncomputable def zS(n:Nat)(F:List MV->Sto->R Er)(rs:List Er)(S:Sto):R Er:=if rs.length=n then(noX (F (zU rs S).1 (zU rs S).2)).bind λr S2=>zEK S r S2 else .no
section
variable{X:Cx}{W:XW}{e:Expr}{es:List Expr}{af:Rho->Sto->R (List Er)}{pos:Pos}
theorem yCW{n:Nat}{F:List MV->Sto->R Er}{rs:List Er}{vs:List V}{α α1:List Addr}{H H1:Hp}{S1:Sto}{Q:VK}(x1:Ext α H α1 H1)(w1:Wd X.g α1 S1 H1)(d1:ArgsE X.K H α1 H1 rs vs)(q:Post X.g W α H (zS n F rs S1) Q):
  spM X.g n F vs H1 Q E0:=by
 unfold zS at q
 split at q
 ·rename_i hl
  obtain⟨α2,x2,y2,w2,l2⟩:=zGT w1 x1 d1
  refine⟨α2,_,_,w2,l2,by rw [zLU];exact hl,?_⟩
  cases z:F (zU rs S1).1 (zU rs S1).2 with
  |ok r S3=>
   rw [z]at q
   intro v α3 H3 x3 w3 d3
   obtain⟨r',S',α',e',x',w',d'⟩:=yIZ x1 w1 y2.pre x2 x3 w3 d3
   have q:Post X.g W α H (zEK S1 r S3) Q:=q
   rw [e']at q
   exact q v α' H3 x' w' d'
  |exc c fs S3=>rw [z]at q;exact q.elim
  |no=>rw [z]at q;exact q.elim
 ·exact q.elim
theorem zOC{k n:Nat}{fa:Addr}{fd:FuncData}{ps:List Str}{F:List MV->Sto->R Er}{x:Str}{p:Pos}(G:FnOk X.prog X.w X.K X.mg X.base CX0 k fa fd ps (spM X.g n F))(hr:Room k X.A)(hg:Gl X x)(hm:X.mg x=some (.ref fa))
  (hk:PySem.W.keepIn X.K (.ref fa)=true) (hb:Binds X.K fd ps []) (ha:PAm X W (e::es) af) (hdb:(x==("__debug__":Str))=false:=by decide)
  (he:starEach (e::es) X.env=(false,eval e X.env)::starEach es X.env:=by rfl) (hpl:(backTo pos (starEach es X.env)).any (·.1)=false:=by rfl):
  PEm X W (.Call (.Name x p) (e::es) [] pos) (λρ S=>(af ρ S).bind λrs S1=>zS n F rs S1):=by
 obtain⟨t,ha,kk⟩:=ha
 refine⟨_,yIH G hr hg hm hk hb .nil pass0 ha hdb he hpl,λα ρ S σ H Q wd sl q=>kk α ρ S σ H _ wd sl (q.bind λvs rs S1 α1 H1 e1 x1 w1 d1 q1=>?_)⟩
 rw [aN]
 exact yCW x1 w1 d1 q1
end
def zP(N:List Str)(ds:List MV):Rho:=ds.map some++List.replicate (N.length - ds.length) none
def yR:R Fl->R Er
 |.ok (.next _) S=>.ok (.val .non) S
 |.ok (.ret r) S=>.ok r S
 |.exc c fs S=>.exc c fs S
 |_=>.no
theorem zVV{K:PySem.W.Frag}{α:List Addr}{N:List Str}{H:Hp}{ds:List MV}{vs:List V}(l:DenL K α H ds vs):Slots K α H (zP N ds) (start N vs):=by
 have hlen:=l.length
 refine⟨?_,λi d e=>?_⟩
 ·unfold start zP
  rw [lA,lA,lM,lM,length_replicate,length_replicate,hlen]
 ·unfold zP at e
  by_cases hi:i<ds.length
  ·rw [getElem?_append_left (by simpa using hi),getElem?_map]at e
   cases z:ds[i]? with
   |none=>rw [z]at e;cases e
   |some d'=>
    rw [z]at e
    obtain⟨v,h1,h2⟩:=l.at z
    have e':d'=d:=Option.some.inj (Option.some.inj e)
    subst e'
    refine⟨v,?_,h2⟩
    unfold start
    rw [getElem?_append_left (by rw [lM,hlen];exact hi),getElem?_map,h1];rfl
  ·rw [getElem?_append_right (by simpa using hi),List.getElem?_replicate]at e
   split at e<;>cases e
section
variable{P:Program}{w:World}{K:PySem.W.Frag}{mg:Str->Option Value}{base:Heap}
theorem okM{x qual:Str}{st:Stmt}{f:Addr}{fd:FuncData}{N ps:List Str}{k:Nat}(Fb:AY)(F:Fun K x qual st f fd)(Sc:FnScope N ps (zG st))
  (hbody: ∀(cdv:Value)(A:Around)(outer:List Env)(s:Shared)(H:Hp)(E:XK),Room k (A.deeper (envOfC qual (zG st) s.heap.objs.size f cdv))->
   zVU (zYI CX0 P w K mg base N qual (zG st) f cdv A outer s H E).nox W0 (zAP st) Fb):
  FnOk P w K mg base CX0 (k+1) f fd ps (spM ⟨K,mg,P,w⟩ ps.length λds S=>yR (Fb (zP N ds) S)):=by
 refine F.ok Sc (λvs H Q E h=>?_) (λcdv A outer s H vs Q E hr h=>?_)
 ·obtain⟨α,S,ds,_,l,hl,_⟩:=h
  rw [l.length,hl]
 ·obtain⟨α,S,ds,wd,l,hl,q⟩:=h
  obtain⟨t,ht,kk⟩:=hbody cdv A outer s H E hr
  refine⟨t,ht,kk α (zP N ds) S (start N vs) H _ wd (zVV l) ?_⟩
  dsimp only at q
  cases z:Fb (zP N ds) S with
  |ok fl S'=>
   rw [z]at q
   cases fl with
   |next ρ=>exact λσ α' H' x' w' s'=>q .non α' H' x' w' (DenE.val zNZ)
   |ret r=>exact λv α' H' x' w' d'=>q v α' H' x' w' d'
   |brk ρ=>exact q.elim
   |cont ρ=>exact q.elim
  |exc c fs S'=>rw [z]at q;exact λα' H' x' w'=>q α' H' x' w'
  |no=>rw [z]at q;exact q
end
inductive Vw where
 |fl (v:V)|tp (ds:List MV)|ls (ds:List MV)
def cP(S:Sto):Er->Option (List MV)
 |.new ds=>some ds
 |.val (.scr ds)=>some ds
 |.val (.loc l)=>match S[l]? with
  |some (.lst ds)=>some ds
  |_=>none
 |_=>none
def vwE(S:Sto):Er->Option Vw
 |.val .non=>some (.fl .non)
 |.val (.bl b)=>some (.fl (.bl b))
 |.val (.int i)=>some (.fl (.int i))
 |.val (.str x)=>some (.fl (.str (mkS x)))
 |.val (.tup ds)=>some (.tp ds)
 |.val (.typ _)=>none
 |.val (.obj _ _ _)=>none
 |r=>(cP S r).map .ls
def prs(e:MV->MV->Option Bool):List MV->List MV->Option (List Bool)
 |d::ds,f::fs=>(e d f).bind λk=>(prs e ds fs).map (k::·)
 |_,_=>some []
def eqW(e:MV->MV->Option Bool):Vw->Vw->Option Bool
 |.fl x,.fl y=>some (eqV x y)
 |.tp ds,.tp es=>(prs e ds es).map λbs=>bs.all id&&ds.length==es.length
 |.ls ds,.ls es=>if ds.length=es.length then(prs e ds es).map λbs=>bs.all id else some false
 |_,_=>some false
theorem zYQ(e:MV->MV->Option Bool)(ds es:List MV):eqW e (.tp ds) (.tp es)=(prs e ds es).map λbs=>bs.all id&&ds.length==es.length:=rfl
theorem zYR(e:MV->MV->Option Bool)(ds es:List MV):eqW e (.ls ds) (.ls es)=if ds.length=es.length then(prs e ds es).map λbs=>bs.all id else some false:=rfl
def eqv(S:Sto):Nat->MV->MV->Option Bool
 |0,_,_=>none
 |n+1,a,b=>(vwE S (.val a)).bind λx=>(vwE S (.val b)).bind λy=>eqW (eqv S n) x y
def zQR(S:Sto)(n:Nat)(a b:Er):Option Bool:=(vwE S a).bind λx=>(vwE S b).bind λy=>eqW (eqv S n) x y
section
variable{X:Cx}{α:List Addr}{S:Sto}{H:Hp}
theorem zGW{K:PySem.W.Frag}{g:Gm}(hK:g.K=K)(wd:Wd g α S H){r:Er}{ds:List MV}{x:V}(e:cP S r=some ds)(d:DenX K α H r x): ∃a vs,x=.ref a/\SqL K H a vs/\DenL K α H ds vs:=by
 subst hK
 unfold cP at e
 split at e
 ·cases e
  obtain⟨b,vs,rfl,h,_,l⟩:=d
  exact⟨b,vs,rfl,.of h,l⟩
 ·cases e
  obtain⟨a,vs,rfl,s,l⟩:=zOW d
  exact⟨a,vs,rfl,s.l,l⟩
 ·rename_i n
  obtain⟨a,rfl,h⟩:=zFB d
  split at e
  ·rename_i es hS
   cases e
   obtain⟨vs,h1,l⟩:=wd.obj n a _ h hS
   exact⟨a,vs,rfl,.of h1,l⟩
  ·cases e
 ·cases e
theorem zGF{r:Er}{x y:V}(e:vwE S r=some (.fl y))(d:DenX X.K α H r x):x=y/\kC y=true:=by
 unfold vwE at e
 split at e
 ·cases e;exact⟨zKA d,rfl⟩
 ·cases e;exact⟨zEH d,rfl⟩
 ·cases e;exact⟨yW d,rfl⟩
 ·cases e;exact⟨xC d,rfl⟩
 ·cases e
 ·cases e
 ·cases e
 ·cases z:cP S r<;>rw [z]at e<;>cases e
theorem zGG{r:Er}{x:V}{ds:List MV}(e:vwE S r=some (.tp ds))(d:DenX X.K α H r x): ∃a vs,x=.ref a/\SqT X.K H a vs/\DenL X.K α H ds vs:=by
 unfold vwE at e
 split at e
 ·cases e
 ·cases e
 ·cases e
 ·cases e
 ·cases e;exact bA d
 ·cases e
 ·cases e
 ·cases z:cP S r<;>rw [z]at e<;>cases e
theorem zGH(wd:Wd X.g α S H){r:Er}{x:V}{ds:List MV}(e:vwE S r=some (.ls ds))(d:DenX X.K α H r x): ∃a vs,x=.ref a/\SqL X.K H a vs/\DenL X.K α H ds vs:=by
 unfold vwE at e
 split at e
 ·cases e
 ·cases e
 ·cases e
 ·cases e
 ·cases e
 ·cases e
 ·cases e
 ·cases z:cP S r with
  |none=>rw [z]at e;cases e
  |some es=>rw [z]at e;cases e;exact zGW rfl wd z d
theorem zIN{e:MV->MV->Option Bool}: ∀{ds es:List MV}{bs:List Bool},prs e ds es=some bs->bs.length=min ds.length es.length
 |[],_,_,h=>by simp [prs]at h;subst h;simp
 |_::_,[],_,h=>by simp [prs]at h;subst h;simp
 |d::ds,f::fs,bs,h=>by
  unfold prs at h
  cases z:e d f with
  |none=>rw [z]at h;cases h
  |some k=>
   rw [z]at h
   cases z2:prs e ds fs with
   |none=>simp [z2]at h
   |some cs=>
    simp [z2]at h
    subst h
    simp [zIN z2]
theorem zTC{e:MV->MV->Option Bool}: ∀{ds es:List MV}{bs:List Bool}{j:Nat}{d f:MV},prs e ds es=some bs->ds[j]? =some d->es[j]? =some f->e d f=some (bs.getD j true)
 |[],_,_,_,_,_,h,h1,_=>by simp at h1
 |_::_,[],_,_,_,_,h,_,h2=>by simp at h2
 |d::ds,f::fs,bs,j,d',f',h,h1,h2=>by
  unfold prs at h
  cases z:e d f with
  |none=>rw [z]at h;cases h
  |some k=>
   rw [z]at h
   cases z2:prs e ds fs with
   |none=>simp [z2]at h
   |some cs=>
    simp [z2]at h
    subst h
    cases j with
    |zero=>simp at h1 h2;subst h1 h2;simpa using z
    |succ j=>simpa using zTC z2 (by simpa using h1) (by simpa using h2)
theorem range_all{bs:List Bool}{n:Nat}(h:bs.length=n):(List.range n).all (λj=>bs.getD j true)=bs.all id:=by
 subst h
 rw [Bool.eq_iff_iff,all_eq_true,all_eq_true]
 constructor
 ·intro h x hx
  obtain⟨i,hi,rfl⟩:=List.getElem_of_mem hx
  have:=h i (mem_range.mpr hi)
  simpa [getD_eq_getElem?_getD,hi]using this
 ·intro h i hi
  have hi':=mem_range.mp hi
  have:=h bs[i] (getElem_mem hi')
  simpa [getD_eq_getElem?_getD,hi']using this
variable{pins:List (Addr×Obj)}{σ:St}{s:Shared}
theorem zLA(I:Inv X pins σ H s){a:Addr}{xs ys:List V}(h:SqL X.K H a xs)(h':SqT X.K H a ys):False:=by
 obtain⟨_,_,pl,_⟩:=I.list h
 obtain⟨_,_,pt,_⟩:=I.tuple h'
 obtain⟨o,n,e,c,_,_⟩:=pl
 obtain⟨o',e',c',_⟩:=pt
 rw [e]at e'
 cases e'
 rw [c]at c'
 exact absurd c' (by simp)
theorem yFH(I:Inv X pins σ H s)(wd:Wd X.g α S H){e:MV->MV->Option Bool}(he: ∀d f v k,Den X.K α H d v->Den X.K α H f v->e d f=some k->k=true){a b:Er}{x:V}{p q:Vw}{k:Bool}
  (ha:vwE S a=some p) (hb:vwE S b=some q) (da:DenX X.K α H a x) (db:DenX X.K α H b x) (h:eqW e p q=some k):k=true:=by
 have hp: ∀{ds es:List MV}{vs:List V}{bs:List Bool},DenL X.K α H ds vs->DenL X.K α H es vs->prs e ds es=some bs->bs.all id=true:=by
  intro ds es vs bs l1 l2 z
  rw [all_eq_true]
  intro k hk
  obtain⟨i,hi,rfl⟩:=List.getElem_of_mem hk
  have hl:=zIN z
  have h1:i<ds.length:=by omega
  have h2:i<es.length:=by omega
  obtain⟨v,g1,g2⟩:=l1.at (gE0 h1)
  obtain⟨v',g3,g4⟩:=l2.at (gE0 h2)
  rw [g1]at g3;cases g3
  have:=he _ _ _ _ g2 g4 (zTC z (gE0 h1) (gE0 h2))
  simpa [getD_eq_getElem?_getD,hi]using this
 cases p with
 |fl y=>
  obtain⟨rfl,f1⟩:=zGF ha da
  cases q with
  |fl z=>obtain⟨rfl,f2⟩:=zGF hb db;cases h;exact yEX f1
  |tp ds=>obtain⟨a,vs,rfl,_⟩:=zGG hb db;exact absurd (show false=true from f1) xF0
  |ls ds=>obtain⟨a,vs,rfl,_⟩:=zGH wd hb db;exact absurd (show false=true from f1) xF0
 |tp ds=>
  obtain⟨a1,vs,rfl,s1,l1⟩:=zGG ha da
  cases q with
  |fl z=>obtain⟨rfl,f2⟩:=zGF hb db;exact absurd (show false=true from f2) xF0
  |tp es=>
   obtain⟨a2,us,e2,s2,l2⟩:=zGG hb db
   cases e2
   cases I.tuple_inj s1 s2
   rw [zYQ]at h
   cases z:prs e ds es with
   |none=>rw [z]at h;cases h
   |some bs=>
    rw [z]at h
    cases h
    show(bs.all id&&ds.length==es.length)=true
    rw [hp l1 l2 z, <-l1.length, <-l2.length];simp
  |ls es=>obtain⟨a2,us,e2,s2,l2⟩:=zGH wd hb db;cases e2;exact(zLA I s2 s1).elim
 |ls ds=>
  obtain⟨a1,vs,rfl,s1,l1⟩:=zGH wd ha da
  cases q with
  |fl z=>obtain⟨rfl,f2⟩:=zGF hb db;exact absurd (show false=true from f2) xF0
  |tp es=>obtain⟨a2,us,e2,s2,l2⟩:=zGG hb db;cases e2;exact(zLA I s1 s2).elim
  |ls es=>
   obtain⟨a2,us,e2,s2,l2⟩:=zGH wd hb db
   cases e2
   cases I.list_inj s1 s2
   rw [zYR]at h
   rw [iP (by rw [<-l1.length, <-l2.length])]at h
   cases z:prs e ds es with
   |none=>rw [z]at h;cases h
   |some bs=>rw [z]at h;cases h;exact hp l1 l2 z
theorem zPB(I:Inv X pins σ H s)(wd:Wd X.g α S H): ∀(n:Nat)(d f:MV)(v:V)(k:Bool),Den X.K α H d v->Den X.K α H f v->eqv S n d f=some k->k=true
 |0,_,_,_,_,_,_,h=>by cases h
 |n+1,d,f,v,k,h1,h2,h=>by
  unfold eqv at h
  cases za:vwE S (.val d)with
  |none=>rw [za]at h;cases h
  |some p=>
   cases zb:vwE S (.val f)with
   |none=>rw [za,zb]at h;cases h
   |some q=>
    rw [za,zb]at h
    exact yFH I wd (zPB I wd n) za zb (a:=.val d) (b:=.val f) h1 h2 h
theorem zLB{e:MV->MV->Option Bool}{A:Around}(he: ∀d f x y u v k,Den X.K α H d x->Den X.K α H f y->RelV x u->RelV y v->e d f=some k->SeqAt.EqAt A s u v k)
  {ds es:List MV} {vs us:List V} {its its2:List Value} {bs:List Bool} (l1:DenL X.K α H ds vs) (l2:DenL X.K α H es us) (r1:Vals vs its) (r2:Vals us its2) (z:prs e ds es=some bs):
  ∀j (h1:j<its.toArray.size) (h2:j<its2.toArray.size),SeqAt.EqAt A s its.toArray[j] its2.toArray[j] (bs.getD j true):=by
 intro j h1 h2
 have g1:j<vs.length:=by rw [r1.length];simpa using h1
 have g2:j<us.length:=by rw [r2.length];simpa using h2
 obtain⟨d,d1,d2⟩:=l1.get (gE0 g1)
 obtain⟨f,f1,f2⟩:=l2.get (gE0 g2)
 obtain⟨u,u1,u2⟩:=r1.get (gE0 g1)
 obtain⟨v,v1,v2⟩:=r2.get (gE0 g2)
 have e1:its.toArray[j]=u:=by
  have:its[j]? =some (its[j]'(by simpa using h1)):=gE0 _
  rw [u1]at this
  simpa using(Option.some.inj this).symm
 have e2:its2.toArray[j]=v:=by
  have:its2[j]? =some (its2[j]'(by simpa using h2)):=gE0 _
  rw [v1]at this
  simpa using(Option.some.inj this).symm
 rw [e1,e2]
 exact he d f _ _ u v _ d2 f2 u2 v2 (zTC z d1 f1)
theorem zTD(I:Inv X pins σ H s)(wd:Wd X.g α S H): ∀(n:Nat)(A:Around)(d f:MV)(x y:V)(u v:Value)(k:Bool),A.units+n<cLine->Den X.K α H d x->Den X.K α H f y->RelV x u->RelV y v->eqv S n d f=some k->SeqAt.EqAt A s u v k
 |0,_,_,_,_,_,_,_,_,_,_,_,_,_,h=>by cases h
 |n+1,A,d,f,x,y,u,v,k,hu,h1,h2,rx,ry,h=>by
  have hu0:A.units<cLine:=by omega
  have hsame:=h
  unfold eqv at h
  cases za:vwE S (.val d)with
  |none=>rw [za]at h;cases h
  |some p=>
   cases zb:vwE S (.val f)with
   |none=>rw [za,zb]at h;cases h
   |some q=>
    rw [za,zb]at h
    have h:eqW (eqv S n) p q=some k:=h
    have he:=λd f x y u v k a b c d' e=>zTD I wd n A.in1 d f x y u v k (show A.units+1+n<cLine by omega) a b c d' e
    cases p with
    |fl x'=>
     obtain⟨rfl,fx⟩:=zGF za (α:=α) (H:=H) (X:=X) h1
     cases q with
     |fl y'=>obtain⟨rfl,fy⟩:=zGF zb (α:=α) (H:=H) (X:=X) h2;cases h;exact yNI rx ry fx fy
     |tp es=>
      obtain⟨b,us,rfl,s2,l2⟩:=zGG zb (α:=α) (H:=H) (X:=X) h2
      cases ry;cases h
      obtain⟨its,_,pt,_⟩:=I.tuple s2
      exact yLF rx fx pt hu0
     |ls es=>
      obtain⟨b,us,rfl,s2,l2⟩:=zGH wd zb h2
      cases ry;cases h
      obtain⟨its,_,pl,_⟩:=I.list s2
      exact eq_lr rx fx pl.isList hu0
    |tp ds=>
     obtain⟨a,vs,rfl,s1,l1⟩:=zGG za (α:=α) (H:=H) (X:=X) h1
     cases rx
     obtain⟨its,r1,pt,_⟩:=I.tuple s1
     cases q with
     |fl y'=>obtain⟨rfl,fy⟩:=zGF zb (α:=α) (H:=H) (X:=X) h2;cases h;exact yLE ry fy pt hu0
     |tp es=>
      obtain⟨b,us,rfl,s2,l2⟩:=zGG zb (α:=α) (H:=H) (X:=X) h2
      cases ry
      by_cases hab:a=b
      ·subst hab
       rw [zPB I wd (n+1) d f _ k h1 h2 hsame]
       exact SeqAt.EqAt.same _
      ·obtain⟨its2,r2,pt2,_⟩:=I.tuple s2
       rw [zYQ]at h
       cases z:prs (eqv S n) ds es with
       |none=>rw [z]at h;cases h
       |some bs=>
        rw [z]at h
        cases h
        have:=SeqAt.RcAt.tuples pt pt2 hu0 (zLB he l1 l2 r1 r2 z)
        have hl:=zIN z
        rw [range_all (by rw [hl];simp [<-r1.length, <-r2.length,l1.length,l2.length])]at this
        have e3:(its.toArray.size==its2.toArray.size)=(ds.length==es.length):=by simp [<-r1.length, <-r2.length,l1.length,l2.length]
        rw [e3]at this
        exact SeqAt.EqAt.of_refs hab this
     |ls es=>
      obtain⟨b,us,rfl,s2,l2⟩:=zGH wd zb h2
      cases ry;cases h
      obtain⟨its2,_,pl,_⟩:=I.list s2
      exact SeqAt.EqAt.tuple_list pt pl.isList hu0
    |ls ds=>
     obtain⟨a,vs,rfl,s1,l1⟩:=zGH wd za h1
     cases rx
     obtain⟨its,r1,pl,_⟩:=I.list s1
     cases q with
     |fl y'=>obtain⟨rfl,fy⟩:=zGF zb (α:=α) (H:=H) (X:=X) h2;cases h;exact eq_ll ry fy pl.isList hu0
     |tp es=>
      obtain⟨b,us,rfl,s2,l2⟩:=zGG zb (α:=α) (H:=H) (X:=X) h2
      cases ry;cases h
      obtain⟨its2,_,pt,_⟩:=I.tuple s2
      exact SeqAt.EqAt.list_tuple pl.isList pt hu0
     |ls es=>
      obtain⟨b,us,rfl,s2,l2⟩:=zGH wd zb h2
      cases ry
      by_cases hab:a=b
      ·subst hab
       rw [zPB I wd (n+1) d f _ k h1 h2 hsame]
       exact SeqAt.EqAt.same _
      ·obtain⟨its2,r2,pl2,_⟩:=I.list s2
       rw [zYR]at h
       by_cases hl:ds.length=es.length
       ·rw [iP hl]at h
        cases z:prs (eqv S n) ds es with
        |none=>rw [z]at h;cases h
        |some bs=>
         rw [z]at h
         cases h
         have hs:its.toArray.size=its2.toArray.size:=by simp [<-r1.length, <-r2.length,l1.length,l2.length,hl]
         have:=SeqAt.RcAt.lists pl.isList pl2.isList hs hu0 (zLB he l1 l2 r1 r2 z)
         have hl':=zIN z
         rw [range_all (by rw [hl'];simp [<-r1.length,l1.length,hl])]at this
         exact SeqAt.EqAt.of_refs hab this
       ·rw [iN hl]at h
        cases h
        exact SeqAt.EqAt.of_refs hab (SeqAt.RcAt.lists_lengths pl.isList pl2.isList (by simpa [<-r1.length, <-r2.length,l1.length,l2.length]using hl) hu0)
theorem yLI{RC:Around->Shared->Value->Value->Bool->Prop}{tr:Bool->Bool}{A:Around}
  (hff: ∀x y u v,RelV x u->RelV y v->kC x=true->kC y=true->RC A s u v (tr (eqV x y)))
  (hfl: ∀x v l items,RelV x v->kC x=true->s.heap.IsList l items->A.units<cLine->RC A s v (.ref l) (tr false)/\RC A s (.ref l) v (tr false))
  (hft: ∀x v l items,RelV x v->kC x=true->s.heap.IsTuple l items->A.units<cLine->RC A s v (.ref l) (tr false)/\RC A s (.ref l) v (tr false))
  (hlt: ∀l b items items2,s.heap.IsList l items->s.heap.IsTuple b items2->A.units<cLine->RC A s (.ref l) (.ref b) (tr false)/\RC A s (.ref b) (.ref l) (tr false))
  (htt: ∀(l b:Addr)(items items2:Array Value)(e:Nat->Bool),s.heap.IsTuple l items->s.heap.IsTuple b items2->A.units<cLine->(∀j (h1:j<items.size) (h2:j<items2.size),SeqAt.EqAt A.in1 s items[j] items2[j] (e j))->RC A s (.ref l) (.ref b) (tr ((List.range (min items.size items2.size)).all e&&items.size==items2.size)))
  (hll: ∀(l b:Addr)(items items2:Array Value)(e:Nat->Bool),s.heap.IsList l items->s.heap.IsList b items2->items.size=items2.size->A.units<cLine->(∀j (h1:j<items.size) (h2:j<items2.size),SeqAt.EqAt A.in1 s items[j] items2[j] (e j))->RC A s (.ref l) (.ref b) (tr ((List.range items.size).all e)))
  (hln: ∀(l b:Addr)(items items2:Array Value),s.heap.IsList l items->s.heap.IsList b items2->(items.size !=items2.size)=true->A.units<cLine->RC A s (.ref l) (.ref b) (tr false))
  (I:Inv X pins σ H s) (wd:Wd X.g α S H) (n:Nat) {a b:Er} {x y:V} {u v:Value} {k:Bool} (hu:A.units+(n+1)<cLine) (h1:DenX X.K α H a x) (h2:DenX X.K α H b y) (rx:RelV x u) (ry:RelV y v) (h:zQR S n a b=some k):RC A s u v (tr k):=by
 have hu0:A.units<cLine:=by omega
 unfold zQR at h
 cases za:vwE S a with
 |none=>rw [za]at h;cases h
 |some p=>
  cases zb:vwE S b with
  |none=>rw [za,zb]at h;cases h
  |some q=>
   rw [za,zb]at h
   have h:eqW (eqv S n) p q=some k:=h
   have he:=λd f x y u v k a b c d' e=>zTD I wd n A.in1 d f x y u v k (show A.units+1+n<cLine by omega) a b c d' e
   cases p with
   |fl x'=>
    obtain⟨rfl,fx⟩:=zGF za h1
    cases q with
    |fl y'=>obtain⟨rfl,fy⟩:=zGF zb h2;cases h;exact hff _ _ _ _ rx ry fx fy
    |tp es=>
     obtain⟨b,us,rfl,s2,l2⟩:=zGG zb h2
     cases ry;cases h
     obtain⟨its,_,pt,_⟩:=I.tuple s2
     exact(hft _ _ _ _ rx fx pt hu0).1
    |ls es=>
     obtain⟨b,us,rfl,s2,l2⟩:=zGH wd zb h2
     cases ry;cases h
     obtain⟨its,_,pl,_⟩:=I.list s2
     exact(hfl _ _ _ _ rx fx pl.isList hu0).1
   |tp ds=>
    obtain⟨a,vs,rfl,s1,l1⟩:=zGG za h1
    cases rx
    obtain⟨its,r1,pt,_⟩:=I.tuple s1
    cases q with
    |fl y'=>obtain⟨rfl,fy⟩:=zGF zb h2;cases h;exact(hft _ _ _ _ ry fy pt hu0).2
    |tp es=>
     obtain⟨b,us,rfl,s2,l2⟩:=zGG zb h2
     cases ry
     obtain⟨its2,r2,pt2,_⟩:=I.tuple s2
     rw [zYQ]at h
     cases z:prs (eqv S n) ds es with
     |none=>rw [z]at h;cases h
     |some bs=>
      rw [z]at h
      cases h
      have:=htt _ _ _ _ _ pt pt2 hu0 (zLB he l1 l2 r1 r2 z)
      have hl:=zIN z
      rw [range_all (by rw [hl];simp [<-r1.length, <-r2.length,l1.length,l2.length])]at this
      have e3:(its.toArray.size==its2.toArray.size)=(ds.length==es.length):=by simp [<-r1.length, <-r2.length,l1.length,l2.length]
      rw [e3]at this
      exact this
    |ls es=>
     obtain⟨b,us,rfl,s2,l2⟩:=zGH wd zb h2
     cases ry;cases h
     obtain⟨its2,_,pl,_⟩:=I.list s2
     exact(hlt _ _ _ _ pl.isList pt hu0).2
   |ls ds=>
    obtain⟨a,vs,rfl,s1,l1⟩:=zGH wd za h1
    cases rx
    obtain⟨its,r1,pl,_⟩:=I.list s1
    cases q with
    |fl y'=>obtain⟨rfl,fy⟩:=zGF zb h2;cases h;exact(hfl _ _ _ _ ry fy pl.isList hu0).2
    |tp es=>
     obtain⟨b,us,rfl,s2,l2⟩:=zGG zb h2
     cases ry;cases h
     obtain⟨its2,_,pt,_⟩:=I.tuple s2
     exact(hlt _ _ _ _ pl.isList pt hu0).1
    |ls es=>
     obtain⟨b,us,rfl,s2,l2⟩:=zGH wd zb h2
     cases ry
     obtain⟨its2,r2,pl2,_⟩:=I.list s2
     rw [zYR]at h
     by_cases hl:ds.length=es.length
     ·rw [iP hl]at h
      cases z:prs (eqv S n) ds es with
      |none=>rw [z]at h;cases h
      |some bs=>
       rw [z]at h
       cases h
       have hs:its.toArray.size=its2.toArray.size:=by simp [<-r1.length, <-r2.length,l1.length,l2.length,hl]
       have:=hll _ _ _ _ _ pl.isList pl2.isList hs hu0 (zLB he l1 l2 r1 r2 z)
       have hl':=zIN z
       rw [range_all (by rw [hl'];simp [<-r1.length,l1.length,hl])]at this
       exact this
     ·rw [iN hl]at h
      cases h
      exact hln _ _ _ _ pl.isList pl2.isList (by simpa [<-r1.length, <-r2.length,l1.length,l2.length]using hl) hu0
theorem yNZ(I:Inv X pins σ H s)(wd:Wd X.g α S H)(n:Nat){A:Around}{a b:Er}{x y:V}{u v:Value}{k:Bool}(hu:A.units+(n+1)<cLine)(h1:DenX X.K α H a x)(h2:DenX X.K α H b y)(rx:RelV x u)(ry:RelV y v)(h:zQR S n a b=some k):SeqAt.RcAt A s u v k:=
 yLI (RC:=SeqAt.RcAt) (tr:=id) (λ_ _ _ _ a b c d=>yNQ a b c d) (λ_ _ _ _ a b c d=>⟨rc_lr a b c d,rc_ll a b c d⟩) (λ_ _ _ _ a b c d=>⟨rc_tr a b c d,rc_tl a b c d⟩)
  (λ_ _ _ _ a b c=>⟨SeqAt.RcAt.list_tuple a b c,SeqAt.RcAt.tuple_list b a c⟩) (λ_ _ _ _ _ a b c d=>SeqAt.RcAt.tuples a b c d) (λ_ _ _ _ _ a b c d e=>SeqAt.RcAt.lists a b c d e) (λ_ _ _ _ a b c d=>SeqAt.RcAt.lists_lengths a b c d)
  I wd n hu h1 h2 rx ry h
theorem yOA(I:Inv X pins σ H s)(wd:Wd X.g α S H)(n:Nat){A:Around}{a b:Er}{x y:V}{u v:Value}{k:Bool}(hu:A.units+(n+1)<cLine)(h1:DenX X.K α H a x)(h2:DenX X.K α H b y)(rx:RelV x u)(ry:RelV y v)(h:zQR S n a b=some k):SeqAt.RcNeAt A s u v (!k):=
 yLI (RC:=SeqAt.RcNeAt) (tr:=λb=>!b) (λ_ _ _ _ a b c d=>yNR a b c d) (λ_ _ _ _ a b c d=>⟨rn_lr a b c d,rn_ll a b c d⟩) (λ_ _ _ _ a b c d=>⟨rn_tr a b c d,rn_tl a b c d⟩)
  (λ_ _ _ _ a b c=>⟨SeqAt.RcNeAt.list_tuple a b c,SeqAt.RcNeAt.tuple_list b a c⟩) (λ_ _ _ _ _ a b c d=>SeqAt.RcNeAt.tuples a b c d) (λ_ _ _ _ _ a b c d e=>SeqAt.RcNeAt.lists a b c d e) (λ_ _ _ _ a b c d=>SeqAt.RcNeAt.lists_lengths a b c d)
  I wd n hu h1 h2 rx ry h
theorem yAP{α β:Type}: ∀{a c:List α}{b d:List β},a.length=b.length->c.length=d.length->a.zip b=c.zip d->a=c/\b=d
 |[],[],[],[],_,_,_=>⟨rfl,rfl⟩
 |[],_::_,[],_::_,_,_,e=>by simp at e
 |_::_,[],_::_,[],_,_,e=>by simp at e
 |x::a,y::c,z::b,w::d,h1,h2,e=>by
  simp only [zip_cons_cons,List.cons.injEq,Prod.mk.injEq]at e
  obtain⟨rfl,rfl⟩:=yAP (by simpa using h1) (by simpa using h2) e.2
  exact⟨by rw [e.1.1],by rw [e.1.2]⟩
mutual
theorem Den.inj(I:Inv X pins σ H s)(wd:Wd X.g α S H): ∀{d f:MV}{v:V},Den X.K α H d v->Den X.K α H f v->d=f
 |.non,f,v,h,h'=>by cases zAY h;cases f<;>first |rfl|(have:=zEG h';cases this;done)|(have:=gY h';cases this;done)|(have:=kZ h';cases this;done)|(have:=cT h';cases this;done)|(obtain⟨_,_,e,_⟩:=jA h';cases e;done)|(obtain⟨_,_,e,_⟩:=cU h';cases e;done)|(obtain⟨_,e,_⟩:=gZ h';cases e;done)|(obtain⟨_,_,_,_,_,e,_⟩:=cS h';cases e;done)
 |.bl b,f,v,h,h'=>by cases zEG h;cases f<;>first |(have:=zEG h';cases this;rfl;done)|(have:=zAY h';cases this;done)|(have:=gY h';cases this;done)|(have:=kZ h';cases this;done)|(have:=cT h';cases this;done)|(obtain⟨_,_,e,_⟩:=jA h';cases e;done)|(obtain⟨_,_,e,_⟩:=cU h';cases e;done)|(obtain⟨_,e,_⟩:=gZ h';cases e;done)|(obtain⟨_,_,_,_,_,e,_⟩:=cS h';cases e;done)
 |.int b,f,v,h,h'=>by cases gY h;cases f<;>first |(have:=gY h';cases this;rfl;done)|(have:=zAY h';cases this;done)|(have:=zEG h';cases this;done)|(have:=kZ h';cases this;done)|(have:=cT h';cases this;done)|(obtain⟨_,_,e,_⟩:=jA h';cases e;done)|(obtain⟨_,_,e,_⟩:=cU h';cases e;done)|(obtain⟨_,e,_⟩:=gZ h';cases e;done)|(obtain⟨_,_,_,_,_,e,_⟩:=cS h';cases e;done)
 |.str b,f,v,h,h'=>by cases kZ h;cases f<;>first |(have:=kZ h';rw [zKV (V.str.inj this)];done)|(have:=zAY h';cases this;done)|(have:=zEG h';cases this;done)|(have:=gY h';cases this;done)|(have:=cT h';cases this;done)|(obtain⟨_,_,e,_⟩:=jA h';cases e;done)|(obtain⟨_,_,e,_⟩:=cU h';cases e;done)|(obtain⟨_,e,_⟩:=gZ h';cases e;done)|(obtain⟨_,_,_,_,_,e,_⟩:=cS h';cases e;done)
 |.typ b,f,v,h,h'=>by cases cT h;cases f<;>first |(have:=cT h';cases this;rfl;done)|(have:=zAY h';cases this;done)|(have:=zEG h';cases this;done)|(have:=gY h';cases this;done)|(have:=kZ h';cases this;done)|(obtain⟨_,_,e,_⟩:=jA h';cases e;done)|(obtain⟨_,_,e,_⟩:=cU h';cases e;done)|(obtain⟨_,e,_⟩:=gZ h';cases e;done)|(obtain⟨_,_,_,_,_,e,_⟩:=cS h';cases e;done)
 |.tup ds,f,v,h,h'=>by
  obtain⟨a,vs,rfl,s1,l1⟩:=jA h
  cases f with
  |tup es=>
   obtain⟨a2,us,e2,s2,l2⟩:=jA h'
   cases e2
   cases I.tuple_inj s1 s2
   rw [DenL.inj I wd l1 l2]
  |scr es=>obtain⟨a2,us,e2,s2,l2⟩:=cU h';cases e2;exact(zLA I s2.l s1).elim
  |loc l=>
   obtain⟨a2,e2,h2⟩:=gZ h'
   cases e2
   obtain⟨ho,k1,k2,k3⟩:=wd.mem (mem_of_getElem? h2)
   rcases s1 with(s1|⟨o,s1⟩)|⟨o,its,n,s1,_⟩
   ·rw [k1]at s1;exact absurd (Option.some.inj s1) (k2 _)
   ·rw [k1]at s1;exact absurd (Option.some.inj s1) (k3 _ _)
   ·have:=(I.bs a o (I.mod.kin a o s1)).2;rw [k1]at this;cases this
  |non=>cases zAY h'
  |bl b=>cases zEG h'
  |int b=>cases gY h'
  |str b=>cases kZ h'
  |typ b=>cases cT h'
  |obj c ns es=>
   obtain⟨a2,C,dx,us,o2,e2,h2,_⟩:=cS h'
   cases e2
   rcases s1 with(s1|⟨o,s1⟩)|⟨o,its,n,s1,_⟩
   ·rw [h2]at s1;cases s1
   ·rw [h2]at s1;cases s1
   ·have:=(I.bs a o (I.mod.kin a o s1)).2;rw [h2]at this;cases this
 |.scr ds,f,v,h,h'=>by
  obtain⟨a,vs,rfl,s1,l1⟩:=cU h
  cases f with
  |scr es=>
   obtain⟨a2,us,e2,s2,l2⟩:=cU h'
   cases e2
   cases I.list_inj s1.l s2.l
   rw [DenL.inj I wd l1 l2]
  |tup es=>obtain⟨a2,us,e2,s2,l2⟩:=jA h';cases e2;exact(zLA I s1.l s2).elim
  |loc l=>
   obtain⟨a2,e2,h2⟩:=gZ h'
   cases e2
   obtain⟨ho,k1,k2,k3⟩:=wd.mem (mem_of_getElem? h2)
   rcases s1 with⟨o,s1⟩|⟨o,its,n,s1,_⟩
   ·rw [k1]at s1;exact absurd (Option.some.inj s1) (k3 _ _)
   ·have:=(I.bs a o (I.mod.kin a o s1)).2;rw [k1]at this;cases this
  |non=>cases zAY h'
  |bl b=>cases zEG h'
  |int b=>cases gY h'
  |str b=>cases kZ h'
  |typ b=>cases cT h'
  |obj c ns es=>
   obtain⟨a2,C,dx,us,o2,e2,h2,_⟩:=cS h'
   cases e2
   rcases s1 with⟨o,s1⟩|⟨o,its,n,s1,_⟩
   ·rw [h2]at s1;cases s1
   ·have:=(I.bs a o (I.mod.kin a o s1)).2;rw [h2]at this;cases this
 |.loc l,f,v,h,h'=>by
  obtain⟨a,rfl,h1⟩:=gZ h
  obtain⟨ho,k1,k2,k3⟩:=wd.mem (mem_of_getElem? h1)
  cases f with
  |loc m=>
   obtain⟨a2,e2,h2⟩:=gZ h'
   cases e2
   by_cases hlm:l=m
   ·rw [hlm]
   ·exact absurd rfl (wd.ne h1 h2 hlm)
  |tup es=>
   obtain⟨a2,us,e2,s1,l2⟩:=jA h'
   cases e2
   rcases s1 with(s1|⟨o,s1⟩)|⟨o,its,n,s1,_⟩
   ·rw [k1]at s1;exact absurd (Option.some.inj s1) (k2 _)
   ·rw [k1]at s1;exact absurd (Option.some.inj s1) (k3 _ _)
   ·have:=(I.bs a o (I.mod.kin a o s1)).2;rw [k1]at this;cases this
  |scr es=>
   obtain⟨a2,us,e2,s1,l2⟩:=cU h'
   cases e2
   rcases s1 with⟨o,s1⟩|⟨o,its,n,s1,_⟩
   ·rw [k1]at s1;exact absurd (Option.some.inj s1) (k3 _ _)
   ·have:=(I.bs a o (I.mod.kin a o s1)).2;rw [k1]at this;cases this
  |non=>cases zAY h'
  |bl b=>cases zEG h'
  |int b=>cases gY h'
  |str b=>cases kZ h'
  |typ b=>cases cT h'
  |obj c ns es=>
   obtain⟨a2,C,dx,us,o2,e2,h2,_⟩:=cS h'
   cases e2
   rw [k1]at h2;exact absurd (Option.some.inj h2) (k3 _ _)
 |.obj c ns ds,f,v,h,h'=>by
  obtain⟨a,C,dx,us,o2,rfl,h2,hn,hc,hl,l1⟩:=cS h
  cases f with
  |obj c' ns' es=>
   obtain⟨a2,C2,dx2,us2,o3,e2,h3,hn2,hc2,hl2,l2⟩:=cS h'
   cases e2
   rw [h2]at h3
   injection h3 with h3
   injection h3 with _ h3
   injection h3 with e1 e2 e3
   subst e1
   rw [hc]at hc2
   cases hc2
   obtain⟨rfl,rfl⟩:=yAP hl hl2 e3
   rw [DenL.inj I wd l1 l2]
  |tup es=>
   obtain⟨a2,us,e2,s1,l2⟩:=jA h'
   cases e2
   rcases s1 with(s1|⟨o,s1⟩)|⟨o,its,n,s1,_⟩
   ·rw [h2]at s1;cases s1
   ·rw [h2]at s1;cases s1
   ·have:=(I.bs a o (I.mod.kin a o s1)).2;rw [h2]at this;cases this
  |scr es=>
   obtain⟨a2,us,e2,s1,l2⟩:=cU h'
   cases e2
   rcases s1 with⟨o,s1⟩|⟨o,its,n,s1,_⟩
   ·rw [h2]at s1;cases s1
   ·have:=(I.bs a o (I.mod.kin a o s1)).2;rw [h2]at this;cases this
  |loc l=>
   obtain⟨a2,e2,h1⟩:=gZ h'
   cases e2
   obtain⟨ho,k1,k2,k3⟩:=wd.mem (mem_of_getElem? h1)
   rw [k1]at h2;exact absurd (Option.some.inj h2) (k3 _ _)
  |non=>cases zAY h'
  |bl b=>cases zEG h'
  |int b=>cases gY h'
  |str b=>cases kZ h'
  |typ b=>cases cT h'
theorem DenL.inj(I:Inv X pins σ H s)(wd:Wd X.g α S H): ∀{ds fs:List MV}{vs:List V},DenL X.K α H ds vs->DenL X.K α H fs vs->ds=fs
 |[],fs,vs,h,h'=>by
  cases h.isnil
  cases fs with
  |nil=>rfl
  |cons f fs=>obtain⟨_,_,e,_⟩:=h'.uncons;cases e
 |d::ds,fs,vs,h,h'=>by
  obtain⟨v,r,rfl,a,l⟩:=h.uncons
  cases fs with
  |nil=>cases h'.isnil
  |cons f fs=>
   obtain⟨v',r',e,a',l'⟩:=h'.uncons
   cases e
   rw [Den.inj I wd a a',DenL.inj I wd l l']
end
end
inductive LexR(A:Around)(s:Shared):List Value->List Value->Bool->Prop
 |nn:LexR A s [] [] false
 |nc (x xs):LexR A s [] (x::xs) true
 |cn (y ys):LexR A s (y::ys) [] false
 |eq {y x ys xs k}:SeqAt.EqAt A s y x true->LexR A s ys xs k->LexR A s (y::ys) (x::xs) k
 |ne {y x ys xs k}:SeqAt.EqAt A s y x false->(∀(prog:Program)(w:World)(E Q:VP),Q (.bool k) s->wpAny (model prog w) A (richCompare .Lt y x) Q E s)->LexR A s (y::ys) (x::xs) k
section
open PySem.SeqAt
open PySem.AutoSeq1 (wpAny_loadPart')
open PySem.MeetsSeq PySem.MeetsSeq2 PySem.MeetsSeq3
theorem zYS(l b:Addr)(its its2:Array Value)(n n2:Nat)(dd dd2:Option Addr)(sl sl2:Array (Option Value))(k:Bool):
  Meets (Builtin.«tuple.__lt__» ⟨[.ref l,.ref b],[]⟩)
   (λA R s=>s.heap.get? l=some {cls:=.type "tuple",dict:=dd,data:=.seq its n,slots:=sl}/\s.heap.get? b=some {cls:=.type "tuple",dict:=dd2,data:=.seq its2 n2,slots:=sl2}/\
    LexR A.in1 s its.toList its2.toList k/\R (.ok (.ret (.bool k))) s):=
 .of_wp λprog w A R s h=>by
  obtain⟨hp,g,d,tk,os⟩:=s;obtain⟨hl,hb,hx,h⟩:=h
  have f2:=AutoSeq1.sub_tuple_tuple
  wp_walk using wpAny_loadPart' hl,wpAny_loadPart' hb,wpAny_forIn_list _ (λrest b s'=>b.1=none/\s'=⟨hp,g,d,tk,os⟩/\ ∃(vs ws:List Value),rest=vs.zip ws/\
   LexR A.in1 ⟨hp,g,d,tk,os⟩ vs ws k/\vs.length+its2.size=ws.length+its.size) _
  case turn=>
   rintro⟨y,x⟩ rest b s' ⟨hb',rfl,vs,ws,hz,hlx,hlen⟩
   cases hlx with
   |nn=>rw [List.zip_nil_left]at hz;cases hz
   |nc x xs=>rw [List.zip_nil_left]at hz;cases hz
   |cn y ys=>rw [List.zip_nil_right]at hz;cases hz
   |@eq y' x' ys xs k' he hr=>
    rw [zip_cons_cons]at hz
    injection hz with hyx hrest
    injection hyx with hy hx
    subst hy hx
    simp only [lC]at hlen
    refine wB0 (he prog w _ _ ?_)
    wp_walk
    exact⟨rfl,rfl,_,_,hrest,hr,by omega⟩
   |@ne y' x' ys xs k' he hr=>
    rw [zip_cons_cons]at hz
    injection hz with hyx hrest
    injection hyx with hy hx
    subst hy hx
    refine wB0 (he prog w _ _ ?_)
    have hri:=hr prog w
    wp_walk using hri
    exact⟨_,rfl,by simpa using h⟩
  case fin=>
   rintro⟨b1,b2⟩ s' ⟨hb',rfl,vs,ws,hz,hlx,hlen⟩
   simp only at hb'
   subst hb'
   have hv:k=decide (its.size<its2.size):=by
    cases hlx with
    |nn=>simp only [length_nil]at hlen;exact(dF0 (by omega)).symm
    |nc x xs=>simp only [length_nil,lC]at hlen;exact(dT0 (by omega)).symm
    |cn y ys=>simp only [length_nil,lC]at hlen;exact(dF0 (by omega)).symm
    |eq he hr=>rw [zip_cons_cons]at hz;cases hz
    |ne he hr=>rw [zip_cons_cons]at hz;cases hz
   rw [hv]at h
   wp_walk
   exact⟨_,rfl,by simpa [Builtin.Tuple.tupleCompareSizes]using h⟩
  case h=>
   exact⟨rfl,rfl,its.toList,its2.toList,rfl,hx,by simp;omega⟩
end
theorem yFI{A:Around}{s:Shared}{l b:Addr}{its its2:Array Value}{k:Bool}(hl:IsTup s.heap l its)(hb:IsTup s.heap b its2)(hx:LexR A.in1 s its.toList its2.toList k)(hu:A.units<cLine)(prog:Program)(w:World)(E Q:VP)(h:Q (.bool k) s):
  wpAny (model prog w) A (richCompare .Lt (.ref l) (.ref b)) Q E s:=by
 obtain⟨⟨cls,dd,data,sl⟩,ho,hc,n,hd⟩:=id hl
 obtain⟨⟨cls2,dd2,data2,sl2⟩,ho2,hc2,n2,hd2⟩:=id hb
 simp only at hc hd hc2 hd2
 subst hc hd hc2 hd2
 exact richCompare_meets_room (op:=.Lt) ⟨_,ho,rfl⟩ ⟨_,ho2,rfl⟩ PySem.F.slot_tuple_lt PySem.F.entry_tuple_lt (PySem.F.args_tuple_lt_2 _ _) (zYS l b its its2 n n2 dd dd2 sl sl2 k)
  ⟨ho,ho2,hx,show Value.bool k≠Value.notImplemented/\Q (.bool k) s from⟨(λx=>nomatch x),h⟩⟩ hu
def yFJ(e l:MV->MV->Option Bool):List MV->List MV->Option Bool
 |[],[]=>some false
 |[],_::_=>some true
 |_::_,[]=>some false
 |d::ds,f::fs=>(e d f).bind λk=>if k=true then yFJ e l ds fs else l d f
def ltv(S:Sto):Nat->MV->MV->Option Bool
 |0,_,_=>none
 |n+1,.int i,.int j=>some (decide (i<j))
 |n+1,.str x,.str y=>some (decide (x<y))
 |n+1,.tup ds,.tup es=>yFJ (eqv S n) (ltv S n) ds es
 |_,_,_=>none
section
variable{X:Cx}{α:List Addr}{S:Sto}{H:Hp}{pins:List (Addr×Obj)}{σ:St}{s:Shared}
theorem yLJ{A:Around}{e l:MV->MV->Option Bool}(he: ∀d f x y u v k,Den X.K α H d x->Den X.K α H f y->RelV x u->RelV y v->e d f=some k->SeqAt.EqAt A s u v k)
  (hl: ∀d f x y u v k,Den X.K α H d x->Den X.K α H f y->RelV x u->RelV y v->l d f=some k-> ∀(prog:Program)(w:World)(E Q:VP),Q (.bool k) s->wpAny (model prog w) A (richCompare .Lt u v) Q E s):
  ∀{ds fs:List MV}{vs us:List V}{its its2:List Value}{k:Bool},DenL X.K α H ds vs->DenL X.K α H fs us->Vals vs its->Vals us its2->yFJ e l ds fs=some k->LexR A s its its2 k
 |[],[],_,_,_,_,k,l1,l2,r1,r2,h=>by
  cases l1.isnil;cases l2.isnil;cases r1;cases r2;cases h;exact .nn
 |[],f::fs,_,_,_,_,k,l1,l2,r1,r2,h=>by
  cases l1.isnil
  obtain⟨v,r,rfl,a,l⟩:=l2.uncons
  cases r1
  cases r2 with
  |cons a b=>cases h;exact .nc _ _
 |d::ds,[],_,_,_,_,k,l1,l2,r1,r2,h=>by
  cases l2.isnil
  obtain⟨v,r,rfl,a,l⟩:=l1.uncons
  cases r2
  cases r1 with
  |cons a b=>cases h;exact .cn _ _
 |d::ds,f::fs,_,_,_,_,k,l1,l2,r1,r2,h=>by
  obtain⟨v,r,rfl,a,l1'⟩:=l1.uncons
  obtain⟨v2,r3,rfl,a2,l2'⟩:=l2.uncons
  cases r1 with
  |cons b1 c1=>
   cases r2 with
   |cons b2 c2=>
    unfold yFJ at h
    cases z:e d f with
    |none=>rw [z]at h;cases h
    |some kk=>
     rw [z]at h
     have h:(if kk=true then yFJ e l ds fs else l d f)=some k:=h
     cases kk with
     |true=>
      rw [iP rfl]at h
      exact .eq (he d f _ _ _ _ _ a a2 b1 b2 z) (yLJ he hl l1' l2' c1 c2 h)
     |false=>
      rw [iN xF0]at h
      exact .ne (he d f _ _ _ _ _ a a2 b1 b2 z) (hl d f _ _ _ _ _ a a2 b1 b2 h)
theorem yFK(I:Inv X pins σ H s)(wd:Wd X.g α S H): ∀(n:Nat)(A:Around)(d f:MV)(x y:V)(u v:Value)(k:Bool),A.units+n<cLine->Den X.K α H d x->Den X.K α H f y->RelV x u->RelV y v->ltv S n d f=some k->
  ∀(prog:Program)(w:World)(E Q:VP),Q (.bool k) s->wpAny (model prog w) A (richCompare .Lt u v) Q E s
 |0,_,_,_,_,_,_,_,_,_,_,_,_,_,h=>by cases h
 |n+1,A,d,f,x,y,u,v,k,hu,h1,h2,rx,ry,h=>by
  intro prog w E Q hq
  unfold ltv at h
  split at h
  ·cases h
  ·cases h
   cases gY h1;cases gY h2
   obtain⟨t,rfl⟩:=rx
   obtain⟨t',rfl⟩:=ry
   exact(PyProof.Rows.lt_int hq:wpAny (model prog w) A (compareOp .Lt _ _) Q E s)
  ·cases h
   cases kZ h1;cases kZ h2
   obtain⟨t,rfl⟩:=rx
   obtain⟨t',rfl⟩:=ry
   refine(PySem.P.lt_str ?_:wpAny (model prog w) A (compareOp .Lt _ _) Q E s)
   rw [gF,gF]
   exact hq
  ·rename_i n' ds es hn
   obtain⟨a,vs,rfl,s1,l1⟩:=jA h1
   obtain⟨b,us,rfl,s2,l2⟩:=jA h2
   cases rx;cases ry
   obtain⟨its,r1,pt,_⟩:=I.tuple s1
   obtain⟨its2,r2,pt2,_⟩:=I.tuple s2
   cases hn
   refine yFI pt pt2 ?_ (by omega) prog w E Q hq
   exact yLJ (λd f x y u v k a b c d' e=>zTD I wd n A.in1 d f x y u v k (show A.units+1+n<cLine by omega) a b c d' e)
    (λd f x y u v k a b c d' e=>yFK I wd n A.in1 d f x y u v k (show A.units+1+n<cLine by omega) a b c d' e) l1 l2 r1 r2 h
  ·cases h
end
section
variable{X:Cx}{W:XW}{a b c e:Expr}{es:List Expr}{f g h:AX}{af:Rho->Sto->R (List Er)}{pos:Pos}
def iiF(C:Int->Int->Prop)[∀i j,Decidable (C i j)](g:Int->Int->Int):Er->Er->Sto->R Er
 |.val (.int i),.val (.int j),S=>if C i j then .ok (.val (.int (g i j))) S else .no
 |_,_,_=>.no
def ibF(g:Int->Int->Bool):Er->Er->Sto->R Er
 |.val (.int i),.val (.int j),S=>.ok (.val (.bl (g i j))) S
 |_,_,_=>.no
theorem zYT{C C':Int->Int->Prop}[∀i j,Decidable (C i j)]{g:Int->Int->Int}(h: ∀i j,C i j->C' i j):Op2 X W (rI C' λi j=>.int (g i j)) (iiF C g):=by
 intro p q x y α S H Q wd dp dq post
 unfold iiF at post
 split at post
 ·split at post
  ·rename_i hc
   exact⟨_,_,yW dp,yW dq,h _ _ hc,Post.val post wd (xM _)⟩
  ·exact post.elim
 ·exact post.elim
theorem yJA{g:Int->Int->Int}:Op2 X W (rI0 λi j=>.int (g i j)) (iiF (λ_ _=>True) g):=by
 intro p q x y α S H Q wd dp dq post
 unfold iiF at post
 split at post
 ·rw [iP trivial]at post
  exact⟨_,_,yW dp,yW dq,Post.val post wd (xM _)⟩
 ·exact post.elim
theorem yOB{g:Int->Int->Bool}:Op2 X W (rI0 λi j=>.bl (g i j)) (ibF g):=by
 intro p q x y α S H Q wd dp dq post
 unfold ibF at post
 split at post
 ·exact⟨_,_,yW dp,yW dq,Post.val post wd (wN _)⟩
 ·exact post.elim
abbrev yCX:=iiF (λ_ _=>True) λi j=>i - j
theorem zTE(ha:PEm X W a f)(hb:PEm X W b g):PEm X W (.BinOp a .Sub b pos) (λρ S=>(f ρ S).bind λp S1=>(g ρ S1).bind λq S2=>yCX p q S2):=zRV yNA yJA ha hb
def yCY(_ j:Int):Prop:=0<j/\j.natAbs.log2<9000
instance(i j:Int):Decidable (yCY i j):=inferInstanceAs (Decidable (_/\_))
abbrev dW:=iiF yCY λi j=>i / j
theorem yFL:OpR X (binaryOp .FloorDiv) (rI yCY λi j=>.int (i / j)):=opI λi j _ _ _ _ _ hc q=>by
 have e:i.fdiv j=i / j:=Int.fdiv_eq_ediv_of_nonneg i (Int.le_of_lt hc.1)
 refine floordiv_int (by have:=hc.1;omega) ?_ (.inl (PyProof.noPylong_of_log2 hc.2))
 rw [e]
 exact q
theorem xQ(ha:PEm X W a f)(hb:PEm X W b g):PEm X W (.BinOp a .FloorDiv b pos) (λρ S=>(f ρ S).bind λp S1=>(g ρ S1).bind λq S2=>dW p q S2):=zRV yFL (zYT λi j h=>h) ha hb
abbrev jB:=iiF (λ_ j=>0<j) λi j=>i % j
theorem yL(ha:PEm X W a f)(hb:PEm X W b g):PEm X W (.BinOp a .Mod b pos) (λρ S=>(f ρ S).bind λp S1=>(g ρ S1).bind λq S2=>jB p q S2):=zRV yNB (zYT λi j h=>h) ha hb
def yCZ(i j:Int):Prop:=0<=j/\(Builtin.Int.intBits i:Int) * j<=2 ^ 27
instance(i j:Int):Decidable (yCZ i j):=inferInstanceAs (Decidable (_/\_))
abbrev zKC:=iiF yCZ λi j=>i ^ j.toNat
theorem yJB:OpR X (binaryOp .Pow) (rI yCZ λi j=>.int (i ^ j.toNat)):=opI λ_ _ _ _ _ _ _ hc q=>pow_int hc.1 hc.2 q
theorem zGX(ha:PEm X W a f)(hb:PEm X W b g):PEm X W (.BinOp a .Pow b pos) (λρ S=>(f ρ S).bind λp S1=>(g ρ S1).bind λq S2=>zKC p q S2):=zRV yJB (zYT λi j h=>h) ha hb
def shlC(i j:Int):Prop:=0<=j/\j<=1000000/\i.natAbs<2 ^ 64
instance(i j:Int):Decidable (shlC i j):=inferInstanceAs (Decidable (_/\_/\_))
def usubF:Er->Sto->R Er
 |.val (.int i),S=>.ok (.val (.int (-i))) S
 |_,_=>.no
def lsW(S:Sto):Er->Option (List MV)
 |.new ds=>some ds
 |.val (.loc l)=>match S[l]? with
  |some (.lst ds)=>some ds
  |_=>none
 |_=>none
theorem zYU{α:List Addr}{S:Sto}{H:Hp}(wd:Wd X.g α S H){r:Er}{ds:List MV}{x:V}(e:lsW S r=some ds)(d:DenX X.K α H r x): ∃a vs,x=.ref a/\H a=some (.lst vs)/\DenL X.K α H ds vs:=by
 unfold lsW at e
 split at e
 ·cases e
  obtain⟨b,vs,rfl,h,_,l⟩:=d
  exact⟨b,vs,rfl,h,l⟩
 ·rename_i n
  obtain⟨a,rfl,h⟩:=zFB d
  split at e
  ·rename_i es hS
   cases e
   obtain⟨vs,h1,l⟩:=wd.obj n a _ h hS
   exact⟨a,vs,rfl,h1,l⟩
  ·cases e
 ·cases e
def yAQ(p q:Er)(S:Sto):R Er:=match lsW S p,lsW S q with
 |some x,some y=>if x.length+y.length<=sizeLine then .ok (.new (x++y)) S else .no
 |_,_=>.no
def xK:Er->Er->Sto->R Er
 |.val (.int i),.val (.int j),S=>.ok (.val (.int (i+j))) S
 |.val (.str x),.val (.str y),S=>if x.length+y.length<=sizeLine then .ok (.val (.str (x++y))) S else .no
 |.val (.tup x),.val (.tup y),S=>if x.length+y.length<=sizeLine then .ok (.val (.tup (x++y))) S else .no
 |p,q,S=>yAQ p q S
theorem yFM:OpR X (binaryOp .Add) (λx y H Q=> ∃a b ys,x=.ref a/\y=.ref b/\SqT X.K H a []/\SqT X.K H b ys/\Q (.ref b) H):=by
 intro pins s σ H x y v u Q I rx ry h
 obtain⟨a,b,ys,rfl,rfl,ha,hb,q⟩:=h
 cases rx
 cases ry
 obtain⟨its,r1,p1,_⟩:=I.tuple ha
 obtain⟨its2,r2,p2,_⟩:=I.tuple hb
 have e0:its=[]:=r1.nil_iff.mpr rfl
 subst e0
 obtain⟨⟨cls,dd,data,sl⟩,ho,hc,n,hd⟩:=id p1
 obtain⟨⟨cls2,dd2,data2,sl2⟩,ho2,hc2,n2,hd2⟩:=id p2
 simp only at hc hd hc2 hd2
 subst hc hd hc2 hd2
 exact concat_meets ⟨_,ho,rfl⟩ ⟨_,ho2,rfl⟩ noFill_tuple_add seq_tuple_add PySem.F.slot_tuple_add PySem.F.entry_tuple_add (PySem.F.args_tuple_add_2 _ _)
  (tuple_addW0 a b _ _ n n2 dd dd2 sl sl2 rfl) ⟨ho,ho2,⟨.ref b,H,I,rfl,q⟩⟩
theorem zY(ha:PEm X W a f)(hb:PEm X W b g):PEm X W (.BinOp a .Add b pos) (λρ S=>(f ρ S).bind λp S1=>(g ρ S1).bind λq S2=>xK p q S2):=by
 refine zRV (yMZ.or (zYG.or (yNK.or (yIL.or yFM)))) ?_ ha hb
 intro p q x y α S H Q wd dp dq post
 unfold xK at post
 split at post
 ·exact .inl ⟨_,_,yW dp,yW dq,Post.val post wd (xM _)⟩
 ·split at post
  ·rename_i hz
   refine .inr (.inl ⟨_,_,xC dp,xC dq,by rw [yT,yT];exact hz,?_⟩)
   rw [zSX]
   exact Post.val post wd (jM _)
  ·exact post.elim
 ·split at post
  ·rename_i xx yy hz
   obtain⟨a1,vs,rfl,s1,l1⟩:=bA dp
   obtain⟨a2,us,rfl,s2,l2⟩:=bA dq
   by_cases h0:vs=[]
   ·subst h0
    have e0:=l1.length
    refine .inr (.inr (.inr (.inr ⟨a1,a2,us,rfl,rfl,s1,s2,?_⟩)))
    have:xx=[]:=by cases xx with |nil=>rfl|cons _ _=>simp at e0
    subst this
    exact Post.val post wd (zBZ s2 l2)
   ·refine .inr (.inr (.inr (.inl ⟨a1,a2,vs,us,rfl,rfl,s1,s2,h0,by rw [l1.length,l2.length];exact hz,λh1=>?_,λh1 p hp=>Post.newt post wd hp (l1.append l2)⟩)))
    subst h1
    have e0:=l2.length
    have:yy=[]:=by cases yy with |nil=>rfl|cons _ _=>simp at e0
    subst this
    rw [aN]at post
    exact Post.val post wd (zBZ s1 l1)
  ·exact post.elim
 ·unfold yAQ at post
  split at post
  ·rename_i ds1 ds2 e1 e2
   split at post
   ·rename_i hz
    obtain⟨a1,vs,rfl,h1,l1⟩:=zYU wd e1 dp
    obtain⟨a2,us,rfl,h2,l2⟩:=zYU wd e2 dq
    exact .inr (.inr (.inl ⟨a1,a2,vs,us,rfl,rfl,h1,h2,by rw [l1.length,l2.length];exact hz,λp hp=>Post.newl post wd hp (l1.append l2)⟩))
   ·exact post.elim
  ·exact post.elim
def mulC(i j:Int):Prop:=(-(2 ^ 64)<i/\i<2 ^ 64)\/(-(2 ^ 64)<j/\j<2 ^ 64)\/(i.natAbs.log2<4000/\j.natAbs.log2<4000)
theorem yAR{i:Int}(h:i.natAbs.log2<4000):Builtin.Int.intBits i<=2 ^ 20:=by
 have e:(2:Nat) ^ 20=1048576:=by decide
 unfold Builtin.Int.intBits
 split<;>omega
theorem mulC.ok{i j:Int}(h:mulC i j):IntMulOk i j:=by
 rcases h with h|h|⟨h1,h2⟩
 ·exact CMul.ok (.inl h)
 ·exact CMul.ok (.inr h)
 ·exact .of_bits (yAR h1) (yAR h2)
theorem yJC{X:Cx}:OpR X (binaryOp .Mult) (rI mulC λi j=>.int (i * j)):=opI λ_ _ _ _ _ _ _ hc q=>mul_int q hc.ok
instance(i j:Int):Decidable (mulC i j):=inferInstanceAs (Decidable (_\/_\/_))
def yLK(p:Er)(k:Int)(S:Sto):R Er:=match lsW S p with
 |some x=>if 0<=k/\k<100000/\x.length * k.toNat<=sizeLine then .ok (.new (List.replicate k.toNat x).flatten) S else .no
 |none=>.no
def zQS:Er->Er->Sto->R Er
 |.val (.int i),.val (.int j),S=>if mulC i j then .ok (.val (.int (i * j))) S else .no
 |.val (.str x),.val (.int k),S=>if 0<=k/\k<1000/\x.length<=1000 then .ok (.val (.str (zOQ x k))) S else .no
 |p,.val (.int k),S=>yLK p k S
 |_,_,_=>.no
theorem DenL.rep{K:PySem.W.Frag}{α:List Addr}{H:Hp}{ds:List MV}{vs:List V}(l:DenL K α H ds vs): ∀k:Nat,DenL K α H (List.replicate k ds).flatten (List.replicate k vs).flatten
 |0=>xF
 |k+1=>by rw [replicate_succ,flatten_cons,replicate_succ,flatten_cons];exact l.append (DenL.rep l k)
theorem zPC(ha:PEm X W a f)(hb:PEm X W b g):PEm X W (.BinOp a .Mult b pos) (λρ S=>(f ρ S).bind λp S1=>(g ρ S1).bind λq S2=>zQS p q S2):=by
 refine zRV (yJC.or (zYO.or yNL)) ?_ ha hb
 intro p q x y α S H Q wd dp dq post
 unfold zQS at post
 split at post
 ·split at post
  ·rename_i hc
   exact .inl ⟨_,_,yW dp,yW dq,hc,Post.val post wd (xM _)⟩
  ·exact post.elim
 ·split at post
  ·rename_i hc
   exact .inr (.inl ⟨_,_,xC dp,yW dq,hc.1,hc.2.1,hc.2.2,Post.val post wd (jM _)⟩)
  ·exact post.elim
 ·unfold yLK at post
  split at post
  ·rename_i ds e1
   split at post
   ·rename_i hc
    obtain⟨a1,vs,rfl,h1,l1⟩:=zYU wd e1 dp
    exact .inr (.inr ⟨a1,_,vs,rfl,yW dq,h1,by omega,by omega,by rw [l1.length];exact hc.2.2,λp hp=>Post.newl post wd hp (l1.rep _)⟩)
   ·exact post.elim
  ·exact post.elim
 ·exact post.elim
def yS:Nat:=40
def eqF(p q:Er)(S:Sto):R Er:=match zQR S yS p q with
 |some k=>.ok (.val (.bl k)) S
 |none=>.no
def neF(p q:Er)(S:Sto):R Er:=match zQR S yS p q with
 |some k=>.ok (.val (.bl !k)) S
 |none=>.no
theorem yFN(hu:X.A.units+64<cLine):OpR X (compareOp .Eq) (λx y H Q=> ∃α S p q k,Wd X.g α S H/\DenX X.K α H p x/\DenX X.K α H q y/\zQR S yS p q=some k/\Q (.bl k) H):=by
 intro pins s σ H x y v u Q I rx ry h
 obtain⟨α,S,p,q,k,wd,dp,dq,e,hq⟩:=h
 exact yNZ I wd yS (by unfold yS;omega) dp dq rx ry e X.prog X.w _ _ ⟨.bl k,H,I,rfl,hq⟩
theorem yFO(hu:X.A.units+64<cLine):OpR X (compareOp .NotEq) (λx y H Q=> ∃α S p q k,Wd X.g α S H/\DenX X.K α H p x/\DenX X.K α H q y/\zQR S yS p q=some k/\Q (.bl (!k)) H):=by
 intro pins s σ H x y v u Q I rx ry h
 obtain⟨α,S,p,q,k,wd,dp,dq,e,hq⟩:=h
 exact yOA I wd yS (by unfold yS;omega) dp dq rx ry e X.prog X.w _ _ ⟨.bl (!k),H,I,rfl,hq⟩
theorem yAS:Op2 X W (λx y H Q=> ∃α S p q k,Wd X.g α S H/\DenX X.K α H p x/\DenX X.K α H q y/\zQR S yS p q=some k/\Q (.bl k) H) eqF:=by
 intro p q x y α S H Q wd dp dq post
 unfold eqF at post
 split at post
 ·rename_i k e
  exact⟨α,S,p,q,k,wd,dp,dq,e,Post.val post wd (wN _)⟩
 ·exact post.elim
theorem yAT:Op2 X W (λx y H Q=> ∃α S p q k,Wd X.g α S H/\DenX X.K α H p x/\DenX X.K α H q y/\zQR S yS p q=some k/\Q (.bl (!k)) H) neF:=by
 intro p q x y α S H Q wd dp dq post
 unfold neF at post
 split at post
 ·rename_i k e
  exact⟨α,S,p,q,k,wd,dp,dq,e,Post.val post wd (wN _)⟩
 ·exact post.elim
theorem zJL(hu:X.A.units+64<cLine)(ha:PEm X W a f)(hb:PEm X W b g):PEm X W (.Compare a [.Eq] [b] pos) (λρ S=>(f ρ S).bind λp S1=>(g ρ S1).bind λq S2=>eqF p q S2):=zOX (yFN hu) yAS ha hb
theorem zNC(hu:X.A.units+64<cLine)(ha:PEm X W a f)(hb:PEm X W b g):PTm X W (.Compare a [.Eq] [b] pos) (λρ S=>((f ρ S).bind λp S1=>(g ρ S1).bind λq S2=>eqF p q S2).bind asB):=zLT (yFN hu) yAS ha hb
theorem pm_ne(hu:X.A.units+64<cLine)(ha:PEm X W a f)(hb:PEm X W b g):PEm X W (.Compare a [.NotEq] [b] pos) (λρ S=>(f ρ S).bind λp S1=>(g ρ S1).bind λq S2=>neF p q S2):=zOX (yFO hu) yAT ha hb
theorem yLL(hu:X.A.units+64<cLine)(ha:PEm X W a f)(hb:PEm X W b g):PTm X W (.Compare a [.NotEq] [b] pos) (λρ S=>((f ρ S).bind λp S1=>(g ρ S1).bind λq S2=>neF p q S2).bind asB):=zLT (yFO hu) yAT ha hb
def ltF:Er->Er->Sto->R Er
 |.val d,.val f,S=>match ltv S yS d f with
  |some k=>.ok (.val (.bl k)) S
  |none=>.no
 |_,_,_=>.no
theorem zYV(hu:X.A.units+64<cLine):OpR X (compareOp .Lt) (λx y H Q=> ∃α S d f k,Wd X.g α S H/\Den X.K α H d x/\Den X.K α H f y/\ltv S yS d f=some k/\Q (.bl k) H):=by
 intro pins s σ H x y v u Q I rx ry h
 obtain⟨α,S,d,f,k,wd,dp,dq,e,hq⟩:=h
 exact yFK I wd yS X.A d f x y v u k (by unfold yS;omega) dp dq rx ry e X.prog X.w _ _ ⟨.bl k,H,I,rfl,hq⟩
theorem zTF:Op2 X W (λx y H Q=> ∃α S d f k,Wd X.g α S H/\Den X.K α H d x/\Den X.K α H f y/\ltv S yS d f=some k/\Q (.bl k) H) ltF:=by
 intro p q x y α S H Q wd dp dq post
 unfold ltF at post
 split at post
 ·split at post
  ·rename_i k e
   exact⟨α,S,_,_,k,wd,dp,dq,e,Post.val post wd (wN _)⟩
  ·exact post.elim
 ·exact post.elim
theorem pm_lt(hu:X.A.units+64<cLine)(ha:PEm X W a f)(hb:PEm X W b g):PEm X W (.Compare a [.Lt] [b] pos) (λρ S=>(f ρ S).bind λp S1=>(g ρ S1).bind λq S2=>ltF p q S2):=zOX (zYV hu) zTF ha hb
theorem zVW(hu:X.A.units+64<cLine)(ha:PEm X W a f)(hb:PEm X W b g):PTm X W (.Compare a [.Lt] [b] pos) (λρ S=>((f ρ S).bind λp S1=>(g ρ S1).bind λq S2=>ltF p q S2).bind asB):=zLT (zYV hu) zTF ha hb
abbrev gtF:=ibF λi j=>decide (j<i)
theorem yLM(ha:PEm X W a f)(hb:PEm X W b g):PTm X W (.Compare a [.Gt] [b] pos) (λρ S=>((f ρ S).bind λp S1=>(g ρ S1).bind λq S2=>gtF p q S2).bind asB):=zLT op_gt yOB ha hb
def leF:Er->Er->Sto->R Er
 |.val (.int i),.val (.int j),S=>.ok (.val (.bl (decide (i<=j)))) S
 |.val (.str x),.val (.str y),S=>.ok (.val (.bl (!decide (y<x)))) S
 |_,_,_=>.no
theorem zPD:Op2 X W (λx y H Q=>rI0 (λi j=>.bl (decide (i<=j))) x y H Q\/(∃i j,x=.str i/\y=.str j/\Q (.bl (!decide (j.cps.toList<i.cps.toList))) H)) leF:=by
 intro p q x y α S H Q wd dp dq post
 unfold leF at post
 split at post
 ·exact .inl ⟨_,_,yW dp,yW dq,Post.val post wd (wN _)⟩
 ·refine .inr ⟨_,_,xC dp,xC dq,?_⟩
  rw [gF,gF]
  exact Post.val post wd (wN _)
 ·exact post.elim
theorem yAU(ha:PEm X W a f)(hb:PEm X W b g)(hc:PEm X W c h)(hm:lastMarks [.LtE,.LtE] [b,c]=false:=by with_unfolding_all rfl):PEm X W (.Compare a [.LtE,.LtE] [b,c] pos) (λρ S=>(f ρ S).bind λp S1=>(g ρ S1).bind λq S2=>chF leF leF p q S2 λS3=>h ρ S3):=zVT (zVG.or zEE) (zVG.or zEE) zPD zPD ha hb hc hm
theorem zTG(ha:PEm X W a f)(hb:PEm X W b g)(hc:PEm X W c h)(hm:lastMarks [.LtE,.LtE] [b,c]=false:=by with_unfolding_all rfl):PTm X W (.Compare a [.LtE,.LtE] [b,c] pos) (λρ S=>((f ρ S).bind λp S1=>(g ρ S1).bind λq S2=>chF leF leF p q S2 λS3=>h ρ S3).bind asB):=yFB (zVG.or zEE) (zVG.or zEE) zPD zPD ha hb hc hm
theorem yJD(hu:X.A.units+64<cLine)(ha:PEm X W a f)(hb:PEm X W b g)(hc:PEm X W c h)(hm:lastMarks [.LtE,.Lt] [b,c]=false:=by with_unfolding_all rfl):PEm X W (.Compare a [.LtE,.Lt] [b,c] pos) (λρ S=>(f ρ S).bind λp S1=>(g ρ S1).bind λq S2=>chF leF ltF p q S2 λS3=>h ρ S3):=zVT (zVG.or zEE) (zYV hu) zPD zTF ha hb hc hm
def zTH:Er->Er->Sto->R Er
 |.val .non,.val .non,S=>.ok (.val (.bl true)) S
 |_,.val .non,S=>.ok (.val (.bl false)) S
 |_,_,_=>.no
theorem yFP{α:List Addr}{H:Hp}{p:Er}{x:V}(d:DenX X.K α H p x)(n:p≠.val .non):decide (x=.non)=false:=by
 cases p with
 |new ds=>obtain⟨b,vs,rfl,_⟩:=d;rfl
 |val m=>
  cases m with
  |non=>exact absurd rfl n
  |bl b=>cases zEH d;rfl
  |int b=>cases yW d;rfl
  |str b=>cases xC d;rfl
  |typ b=>cases yEZ d;rfl
  |obj b b' b''=>obtain⟨_,_,_,_,_,rfl,_⟩:=yNV d;rfl
  |tup b=>obtain⟨_,_,rfl,_⟩:=bA d;rfl
  |scr b=>obtain⟨_,_,rfl,_⟩:=zOW d;rfl
  |loc b=>obtain⟨_,rfl,_⟩:=zFB d;rfl
theorem yAV:Op2 X W (λx y H Q=>y=.non/\Q (.bl (decide (x=.non))) H) zTH:=by
 intro p q x y α S H Q wd dp dq post
 unfold zTH at post
 split at post
 ·cases zKA dp;exact⟨zKA dq,Post.val post wd (wN _)⟩
 ·rename_i p' S' hn
  rw [yFP dp (λz=>by first |exact hn z|exact hn z rfl|exact hn _ z|exact hn rfl z)]
  exact⟨zKA dq,Post.val post wd (wN _)⟩
 ·exact post.elim
theorem pm_is(ha:PEm X W a f)(hb:PEm X W b g):PEm X W (.Compare a [.Is] [b] pos) (λρ S=>(f ρ S).bind λp S1=>(g ρ S1).bind λq S2=>zTH p q S2):=zOX yEH yAV ha hb
theorem tm_is(ha:PEm X W a f)(hb:PEm X W b g):PTm X W (.Compare a [.Is] [b] pos) (λρ S=>((f ρ S).bind λp S1=>(g ρ S1).bind λq S2=>zTH p q S2).bind asB):=zLT yEH yAV ha hb
def getL(ds:List MV):Er->Sto->R Er
 |.val (.int i),S=>match atI ds i with |some d=>.ok (.val d) S|none=>.no
 |_,_=>.no
def ixF:Er->Er->Sto->R Er
 |.val (.str x),.val (.int i),S=>if x.length<=sizeLine then match atI x i with |some c=>.ok (.val (.str [c])) S|none=>.no else .no
 |.val (.tup ds),q,S=>getL ds q S
 |p,q,S=>match cP S p with |some ds=>getL ds q S|none=>.no
theorem yJE{K:PySem.W.Frag}{α:List Addr}{H:Hp}{ds:List MV}{vs:List V}{i:Int}{d:MV}(l:DenL K α H ds vs)(e:atI ds i=some d): ∃v,atI vs i=some v/\Den K α H d v:=by
 unfold atI at e ⊢
 rw [l.length]
 cases z:ixN ds.length i with
 |none=>rw [z]at e;cases e
 |some j=>
  rw [z]at e
  obtain⟨v,h1,h2⟩:=l.at (show ds[j]? =some d from e)
  exact⟨v,h1,h2⟩
theorem yA(ha:PEm X W a f)(hb:PEm X W b g)(hs:zSQ b:=by exact λ_ _=>rfl):PEm X W (.Subscript a b pos) (λρ S=>(f ρ S).bind λp S1=>(g ρ S1).bind λq S2=>ixF p q S2):=by
 refine pm_ix yNH ?_ ha hb hs
 intro p q x y α S H Q wd dp dq post
 have key: ∀{ds:List MV}{vs:List V}{i:Int}{d:MV},DenL X.K α H ds vs->atI ds i=some d->Post X.g W α H (.ok (Er.val d) S) Q-> ∃v,atI vs i=some v/\Q v H:=λl e post=>by
  obtain⟨v,h1,h2⟩:=yJE l e
  exact⟨v,h1,Post.val post wd h2⟩
 unfold ixF at post
 split at post
 ·split at post
  ·rename_i hz
   split at post
   ·rename_i ch e
    refine .inr (.inr ⟨_,_,ch,xC dp,yW dq,by rw [yT];exact hz,by rw [gF];exact e,?_⟩)
    exact Post.val post wd (jM [ch])
   ·exact post.elim
  ·exact post.elim
 ·unfold getL at post
  split at post
  ·split at post
   ·rename_i d e
    obtain⟨a1,vs,rfl,s1,l1⟩:=bA dp
    obtain⟨v,h1,h2⟩:=key l1 e post
    exact .inr (.inl ⟨a1,vs,_,v,rfl,yW dq,s1,h1,h2⟩)
   ·exact post.elim
  ·exact post.elim
 ·split at post
  ·rename_i ds el
   unfold getL at post
   split at post
   ·split at post
    ·rename_i d e
     obtain⟨a1,vs,rfl,s1,l1⟩:=zGW rfl wd el dp
     obtain⟨v,h1,h2⟩:=key l1 e post
     exact .inl ⟨a1,vs,_,v,rfl,yW dq,s1,h1,h2⟩
    ·exact post.elim
   ·exact post.elim
  ·exact post.elim
end
theorem zQT{prog:Program}{w:World}{A:Around}{E:VP}{s:Shared}{t sl:Addr}{its:Array Value}{vl vu:Value}{lo hi:Option Int}{Q:VP}(ht:IsTup s.heap t its)(hs:s.heap.IsSliceOf sl vl vu .none)(pl:IsPart vl lo)(pu:IsPart vu hi)
  (h0:HT.sIx its.size 0 lo=0) (h1:HT.sIx its.size its.size hi=its.size) (h:Q (.ref t) s):wpAny (model prog w) A (getItem (.ref t) (.ref sl)) Q E s:=by
 have hTs:s.TypeIs (.ref sl) "slice":=by obtain⟨os,hos,hcs,_⟩:=id hs;exact⟨os,hos,hcs⟩
 have hTt:=ht.typeIs
 unfold getItem
 try with_reducible refine wpAny_holding ?_
 first |refine wB0 (wP0 ?_)|skip
 refine wB0 (wpAny_sequenceKey hTt (by decide) ?_)
 refine wB0 (wpAny_callSpecial?_slot (name:=Str.ofString "__getitem__") hTt PyProof.Rows.slot_tuple_getitem (wpAny_call_entry PyProof.Rows.slot_tuple_getitem hTt entry_tuple_getitem ?_ (args_tuple_getitem _ _)))
 show wpAny _ _ (Builtin.Tuple.tupleItemsOf (.ref t) >>= _) _ _ s
 refine wB0 (tupleItemsOf_ ht (wB0 (wpAny_typeOf hTs ?_)))
 rw [iP (by decide)]
 refine wB0 (HT.sliceApplied_gen hs pl pu ?_)
 show wpAny _ _ (if(((HT.sIx its.size 0 lo:Nat):Int)==0&&(1:Int)==1&&(HT.sIx its.size its.size hi - HT.sIx its.size 0 lo)==its.size)=true then _ else _) _ _ s
 rw [iP (by rw [h0,h1];simp)]
 unfold Builtin.Tuple.tupleIsExact
 refine wB0 (wB0 (wpAny_typeOf hTt (wP0 ?_)))
 rw [iP (by decide)]
 refine wB0 (wpAny_rule ?_)
 first
  |exact wP0 ⟨_,rfl,wP0 h⟩
  |exact wB0 (wP0 (wP0 ⟨_,rfl,wP0 h⟩))
  |exact wB0 (wP0 ⟨_,rfl,wP0 h⟩)
section
variable{X:Cx}{W:XW}{a b c e:Expr}{es:List Expr}{f g h:AX}{af:Rho->Sto->R (List Er)}{pos:Pos}
theorem yJF:SlR X (λx lo hi H Q=> ∃a xs,x=.ref a/\SqT X.K H a xs/\HT.sIx xs.length 0 lo=0/\HT.sIx xs.length xs.length hi=xs.length/\Q (.ref a) H):=by
 intro pins s σ H x v vl vu lo hi sl Q I rx hs pl pu h
 obtain⟨a,xs,rfl,hx,h0,h1,q⟩:=h
 cases rx
 obtain⟨its,r,ht,hz⟩:=I.tuple hx
 have hlen:its.toArray.size=xs.length:=by rw [sA];exact r.length.symm
 exact⟨"tuple",_,PyProof.Rows.slot_tuple_getitem.lookup,ht.typeIs,zQT ht hs pl pu (by rw [hlen];exact h0) (by rw [hlen];exact h1) ⟨.ref a,H,I,rfl,q⟩⟩
def zJF:Er->Option Int->Option Int->Sto->R Er
 |.val (.str x),lo,hi,S=>if x.length<=sizeLine then .ok (.val (.str (cN x lo hi))) S else .no
 |.val (.tup ds),lo,hi,S=>.ok (.val (.tup (cN ds lo hi))) S
 |p,lo,hi,S=>match cP S p with |some ds=>.ok (.new (cN ds lo hi)) S|none=>.no
theorem yDA{α:Type}{ds:List α}{lo hi:Option Int}(h0:HT.sIx ds.length 0 lo=0)(h1:HT.sIx ds.length ds.length hi=ds.length):cN ds lo hi=ds:=by
 unfold cN
 rw [h0,h1]
 simp
theorem zCO{lo hi:Option Expr}{lf hf:Rho->Sto->R (Option Int)}{p2:Pos}(ha:PEm X W a f)(hl:POm X W lo lf)(hh:POm X W hi hf):PEm X W (.Subscript a (.Slice lo hi none p2) pos) (λρ S=>(f ρ S).bind λp S1=>(lf ρ S1).bind λl S2=>(hf ρ S2).bind λu S3=>zJF p l u S3):=by
 refine yFE (yNO.or (yIN.or (yNG.or yJF))) ?_ ha hl hh
 intro p lo hi x α S H Q wd dp post
 unfold zJF at post
 split at post
 ·split at post
  ·rename_i hz
   exact .inl ⟨_,xC dp,hz,Post.val post wd (jM _)⟩
  ·exact post.elim
 ·rename_i _ _ _ ds
  obtain⟨a1,vs,rfl,s1,l1⟩:=bA dp
  by_cases hw:HT.sIx vs.length 0 lo=0/\HT.sIx vs.length vs.length hi=vs.length
  ·have e:cN ds lo hi=ds:=yDA (by rw [<-l1.length];exact hw.1) (by rw [<-l1.length];exact hw.2)
   rw [e]at post
   exact .inr (.inr (.inr ⟨a1,vs,rfl,s1,hw.1,hw.2,Post.val post wd (zBZ s1 l1)⟩))
  ·exact .inr (.inr (.inl ⟨a1,vs,rfl,s1,hw,λp hp=>Post.newt post wd hp (l1.cut lo hi)⟩))
 ·split at post
  ·rename_i ds el
   obtain⟨a1,vs,rfl,s1,l1⟩:=zGW rfl wd el dp
   exact .inr (.inl ⟨a1,vs,rfl,s1,λp hp=>Post.newl post wd hp (l1.cut lo hi)⟩)
  ·exact post.elim
def zEL{α:Type}(ds:List α)(lo hi st:Option Int):List α:=(sliceRange (sliceBounds lo hi st ds.length).1 (sliceBounds lo hi st ds.length).2.1 (sliceBounds lo hi st ds.length).2.2).filterMap (ds[·]?)
theorem DenL.pick{K:PySem.W.Frag}{α:List Addr}{H:Hp}{ds:List MV}{vs:List V}(l:DenL K α H ds vs): ∀idx:List Nat,DenL K α H (idx.filterMap (ds[·]?)) (idx.filterMap (vs[·]?))
 |[]=>xF
 |i::idx=>by
  cases z:ds[i]? with
  |none=>
   have z2:vs[i]? =none:=by rw [List.getElem?_eq_none_iff,l.length];exact List.getElem?_eq_none_iff.mp z
   rw [List.filterMap_cons_none z,List.filterMap_cons_none z2]
   exact DenL.pick l idx
  |some d=>
   obtain⟨v,h1,h2⟩:=l.at z
   rw [List.filterMap_cons_some z,List.filterMap_cons_some h1]
   exact yO h2 (DenL.pick l idx)
theorem Vals.pick{xs:List V}{us:List Value}(r:Vals xs us): ∀idx:List Nat,Vals (idx.filterMap (xs[·]?)) (idx.filterMap (us[·]?))
 |[]=>.nil
 |i::idx=>by
  cases z:xs[i]? with
  |none=>rw [List.filterMap_cons_none z,List.filterMap_cons_none (r.none_of z)];exact Vals.pick r idx
  |some d=>
   obtain⟨v,h1,h2⟩:=r.get z
   rw [List.filterMap_cons_some z,List.filterMap_cons_some h1]
   exact .cons h2 (Vals.pick r idx)
def zVX(st:Int)(p:Er)(lo hi:Option Int)(S:Sto):R Er:=match cP S p with
 |some ds=>if(zEL ds lo hi (some st)).length<=sizeLine then .ok (.new (zEL ds lo hi (some st))) S else .no
 |none=>.no
theorem yJG{st:Int}{lo hi:Option Expr}{lf hf:Rho->Sto->R (Option Int)}{p2:Pos}{ste:Expr}(h0:st≠0)(ha:PEm X W a f)(hl:POm X W lo lf)(hh:POm X W hi hf)
  (hst: ∀pins s σ H (Q:VK),Inv X pins σ H s->Q (.int st) H->wpAny (model X.prog X.w) X.A (eval ste X.env) (EP X pins σ Q) X.xe s):
  PEm X W (.Subscript a (.Slice lo hi (some ste) p2) pos) (λρ S=>(f ρ S).bind λp S1=>(lf ρ S1).bind λl S2=>(hf ρ S2).bind λu S3=>zVX st p l u S3):=by
 obtain⟨ta,ha,fa⟩:=ha
 obtain⟨tl,hl,fl⟩:=hl
 obtain⟨th,hh,fh⟩:=hh
 refine⟨λσ H Q=>ta σ H λx H1=>tl σ H1 λl H2=>th σ H2 λu H3=> ∃a xs,x=.ref a/\SqL X.K H3 a xs/\(zEL xs l u (some st)).length<=sizeLine/\ ∀p,H3 p=none->Q (.ref p) (upd H3 p (.lst (zEL xs l u (some st)))),?_,λα ρ S σ H Q wd sl q=>fa α ρ S σ H _ wd sl (q.bind λu p S1 α1 H1 e1 x1 w1 d1 q1=>fl α1 ρ S1 σ H1 _ w1 (sl.ext x1) ((q1.shift x1).bind λu2 l S2 α2 H2 e2 x2 w2 d2 q2=>
  fh α2 ρ S2 σ H2 _ w2 ((sl.ext x1).ext x2) ((q2.shift x2).bind λu3 m S3 α3 H3 e3 x3 w3 d3 q3=>?_)))⟩
 ·intro pins s σ H Q I h
  refine Subscript_ (thn (ha pins s σ H _ I h) λv s1 ⟨x,H1,I1,r1,q1⟩=>?_)
  refine wpAny_Slice (thn (hl pins s1 σ H1 _ I1 q1) λvl s2 ⟨l,H2,I2,pl,q2⟩=>thn (hh pins s2 σ H2 _ I2 q2) λvu s3 ⟨u,H3,I3,pu,q3⟩=>?_)
  rw [evalPart_some]
  refine thn (hst pins s3 σ H3 (λw' H'=>w'=.int st/\H'=H3) I3 ⟨rfl,rfl⟩) λvs s4 ⟨y,H4,I4,r4,ey,eH⟩=>?_
  subst ey eH
  obtain⟨t4,rfl⟩:=r4
  obtain⟨a,xs,rfl,sq,hz2,q⟩:=q3
  cases r1
  have I5:Inv X pins σ H4 {s4 with heap:=s4.heap.push {cls:=.type "slice",data:=.fields #[vl,vu,.int st t4]}}:=I4.kept (t':=s4.toks) λb ob q=>hP0 _ q
  obtain⟨its,r,ht,hz⟩:=I5.list sq
  have hlen:=r.length
  refine tail_any (ops:=[.ref a,.ref s4.heap.objs.size]) (T:="list") ht.isList.typeIs slot_list_getitem.lookup ?_ (by with_unfolding_all rfl)
  refine wpAny_getItem_list_slice ht.isList (Heap.IsSliceOf.new ..) pl pu (.int st t4) (by intro z;exact h0 (Option.some.inj z)) ?_ (by rw [sA];omega)
  have ep:slicePick its.toArray l u (some st)=(zEL its l u (some st)).toArray:=by
   unfold slicePick zEL
   simp
  rw [ep]
  have el:xs.length=its.length:=hlen
  refine⟨.ref _,_,I5.laid (t':=s4.toks) (o:=.lst (zEL xs l u (some st))) (λb ob q=>hP0 _ q) (le_refl _) ?_,rfl,q _ (I5.hok.fresh (le_refl _))⟩
  refine⟨hz2,_,0,?_,Heap.get?_push_size _ rfl⟩
  unfold zEL
  rw [el]
  exact Vals.pick r _
 ·cases d2
  cases d3
  replace q3:=q3.shift x3
  unfold zVX at q3
  split at q3
  ·rename_i ds el
   split at q3
   ·rename_i hz
    obtain⟨a1,vs,e5,s1,l1⟩:=zGW rfl w3 el ((d1.1.ext x2).ext x3)
    have lp:DenL X.K α3 H3 (zEL ds u2 u3 (some st)) (zEL vs u2 u3 (some st)):=by
     unfold zEL
     rw [<-l1.length]
     exact l1.pick _
    exact⟨a1,vs,e5,s1,by rw [lp.length];exact hz,λp hp=>Post.newl q3 w3 hp lp⟩
   ·exact q3.elim
  ·exact q3.elim
theorem yFQ{i:Int}{j:Nat}{p3:Pos}: ∀pins s σ H (Q:VK),Inv X pins σ H s->Q (.int (-i)) H->wpAny (model X.prog X.w) X.A (eval (.UnaryOp .USub (.Constant (.int i) j p3) pos) X.env) (EP X pins σ Q) X.xe s:=λpins s σ H Q I h=>yLC yEF zYC pins s σ H Q I ⟨i,rfl,h⟩
end
section
variable{X:Cx}{W:XW}{a b c e:Expr}{es:List Expr}{f g h:AX}{af:Rho->Sto->R (List Er)}{pos:Pos}
def zVY(S:Sto)(n:Nat)(d:MV):List MV->Option (List Bool)
 |[]=>some []
 |y::ys=>(eqv S n y d).bind λk=>(zVY S n d ys).map (k::·)
section
variable{α:List Addr}{S:Sto}{H:Hp}{pins:List (Addr×Obj)}{σ:St}{s:Shared}
noncomputable def yDB(X:Cx)(α:List Addr)(S:Sto)(H:Hp)(n:Nat)(d:MV)(u:Value):Bool:=open Classical in decide (∃y x,Den X.K α H y x/\RelV x u/\eqv S n y d=some true)
open Classical in
theorem yJH(I:Inv X pins σ H s)(wd:Wd X.g α S H){n:Nat}{d y:MV}{x:V}{u:Value}{k:Bool}(dy:Den X.K α H y x)(r:RelV x u)(e:eqv S n y d=some k):yDB X α S H n d u=k:=by
 unfold yDB
 cases k with
 |true=>exact dT0 ⟨y,x,dy,r,e⟩
 |false=>
  refine dF0 λ⟨y',x',dy',r',e'⟩=>?_
  have ex:=r.inj r'
  subst ex
  rw [dy.inj I wd dy']at e
  rw [e]at e'
  cases e'
theorem zTI(I:Inv X pins σ H s)(wd:Wd X.g α S H){n:Nat}{A:Around}{d:MV}{x:V}{v:Value}(hu:A.units+n<cLine)(dd:Den X.K α H d x)(rx:RelV x v): ∀{ys:List MV}{vs:List V}{us:List Value}{bs:List Bool},DenL X.K α H ys vs->Vals vs us->zVY S n d ys=some bs->
  us.map (yDB X α S H n d)=bs/\ ∀u∈us,SeqAt.EqAt A s u v (yDB X α S H n d u)
 |[],_,_,bs,l,r,e=>by
  cases l.isnil;cases r;cases e
  exact⟨rfl,λu hu=>by cases hu⟩
 |y::ys,_,_,bs,l,r,e=>by
  obtain⟨v',r',rfl,dy,l'⟩:=l.uncons
  cases r with
  |cons r1 r2=>
   unfold zVY at e
   cases z:eqv S n y d with
   |none=>rw [z]at e;cases e
   |some k=>
    rw [z]at e
    cases z2:zVY S n d ys with
    |none=>simp [z2]at e
    |some cs=>
     simp [z2]at e
     subst e
     obtain⟨h1,h2⟩:=zTI I wd hu dd rx l' r2 z2
     have h3:=yJH I wd dy r1 z
     refine⟨by rw [map_cons,h1,h3],λu hu'=>?_⟩
     rcases mC.mp hu' with rfl|hu'
     ·rw [h3];exact zTD I wd n A y d _ _ _ _ k hu dy dd r1 rx z
     ·exact h2 u hu'
end
theorem any_map{us:List Value}{f:Value->Bool}{bs:List Bool}(h:us.map f=bs):us.toArray.any f=bs.any id:=by
 subst h
 simp [List.any_map]
def itemsOf(S:Sto):Er->Option (List MV)
 |.val (.tup ds)=>some ds
 |r=>cP S r
theorem zPE{α:List Addr}{S:Sto}{H:Hp}(wd:Wd X.g α S H){r:Er}{ds:List MV}{x:V}(e:itemsOf S r=some ds)(d:DenX X.K α H r x): ∃a vs,x=.ref a/\(SqL X.K H a vs\/SqT X.K H a vs)/\DenL X.K α H ds vs:=by
 unfold itemsOf at e
 split at e
 ·cases e
  obtain⟨a,vs,rfl,s,l⟩:=bA d
  exact⟨a,vs,rfl,.inr s,l⟩
 ·obtain⟨a,vs,rfl,s,l⟩:=zGW rfl wd e d
  exact⟨a,vs,rfl,.inl s,l⟩
def zTJ(neg:Bool)(p q:Er)(S:Sto):R Er:=match p with
 |.val d=>match itemsOf S q with
  |some ys=>match zVY S yS d ys with
   |some bs=>.ok (.val (.bl (if neg=true then !bs.any id else bs.any id))) S
   |none=>.no
  |none=>.no
 |.new _=>.no
def inF(neg:Bool):Er->Er->Sto->R Er
 |.val (.str [c]),.val (.str y),S=>.ok (.val (.bl (if neg=true then !decide (c∈y)else decide (c∈y)))) S
 |p,q,S=>zTJ neg p q S
abbrev rInM(X:Cx)(neg:Bool):R2:=λx y H Q=> ∃α S d q ys bs,Wd X.g α S H/\Den X.K α H d x/\DenX X.K α H q y/\itemsOf S q=some ys/\zVY S yS d ys=some bs/\Q (.bl (if neg=true then !bs.any id else bs.any id)) H
theorem yOC(hu:X.A.units+64<cLine):OpR X (compareOp .In) (rInM X false):=by
 intro pins s σ H x y v u Q I rx ry h
 obtain⟨α,S,d,q,ys,bs,wd,dd,dq,ei,ea,hq⟩:=h
 obtain⟨a,vs,rfl,sq,l⟩:=zPE wd ei dq
 cases ry
 rcases sq with sq|sq
 ·obtain⟨its,r,pl,_⟩:=I.list sq
  obtain⟨h1,h2⟩:=zTI I wd (A:=X.A.in1) (by show X.A.units+1+yS<cLine;unfold yS;omega) dd rx l r ea
  refine SeqAt.in_listAt (yDB X α S H yS d) pl.isList (λw hw=>h2 w (by simpa using hw)) ⟨.bl _,H,I,rfl,?_⟩
  rw [any_map h1]
  exact hq
 ·obtain⟨its,r,pl,_⟩:=I.tuple sq
  obtain⟨h1,h2⟩:=zTI I wd (A:=X.A.in1) (by show X.A.units+1+yS<cLine;unfold yS;omega) dd rx l r ea
  refine SeqAt.in_tupleAt (yDB X α S H yS d) pl (λw hw=>h2 w (by simpa using hw)) ⟨.bl _,H,I,rfl,?_⟩
  rw [any_map h1]
  exact hq
theorem yAW{neg:Bool}:Op2 X W (λx y H Q=>(∃i j,x=.str i/\y=.str j/\Q (.bl (if neg=true then !(!(Builtin.Str.occurrences j i 0 j.length 1).isEmpty)else !(Builtin.Str.occurrences j i 0 j.length 1).isEmpty)) H)\/rInM X neg x y H Q) (inF neg):=by
 intro p q x y α S H Q wd dp dq post
 unfold inF at post
 split at post
 ·refine .inl ⟨_,_,xC dp,xC dq,?_⟩
  rw [<-yAH,PySem.StrLaws.found_one,gF]
  exact Post.val post wd (wN _)
 ·unfold zTJ at post
  split at post
  ·rename_i d _
   split at post
   ·rename_i ys ei
    split at post
    ·rename_i bs ea
     exact .inr ⟨α,S,_,q,ys,bs,wd,dp,dq,ei,ea,Post.val post wd (wN _)⟩
    ·exact post.elim
   ·exact post.elim
  ·exact post.elim
theorem OpR.imp{f:Value->Value->Sem Value}{r r':R2}(h:OpR X f r)(i: ∀x y H Q,r' x y H Q->r x y H Q):OpR X f r':=λpins s σ H x y v u Q I rx ry q=>h pins s σ H x y v u Q I rx ry (i x y H Q q)
theorem yFR(hu:X.A.units+64<cLine):OpR X (compareOp .In) (λx y H Q=>(∃i j,x=.str i/\y=.str j/\Q (.bl (if(false:Bool)=true then !(!(Builtin.Str.occurrences j i 0 j.length 1).isEmpty)else !(Builtin.Str.occurrences j i 0 j.length 1).isEmpty)) H)\/rInM X false x y H Q):=
 OpR.imp (yCI.or (yOC hu)) λx y H Q q=>q.imp (λq=>q) λq=>q
theorem yLN(hu:X.A.units+64<cLine)(ha:PEm X W a f)(hb:PEm X W b g)(hm:behindInMarks .In b=false:=by with_unfolding_all rfl):PEm X W (.Compare a [.In] [b] pos) (λρ S=>(f ρ S).bind λp S1=>(g ρ S1).bind λq S2=>inF false p q S2):=zOX (yFR hu) yAW ha hb hm
theorem tm_in(hu:X.A.units+64<cLine)(ha:PEm X W a f)(hb:PEm X W b g)(hm:behindInMarks .In b=false:=by with_unfolding_all rfl):PTm X W (.Compare a [.In] [b] pos) (λρ S=>((f ρ S).bind λp S1=>(g ρ S1).bind λq S2=>inF false p q S2).bind asB):=zLT (yFR hu) yAW ha hb hm
theorem zCB{K:PySem.W.Frag}{α:List Addr}{H:Hp}{r:Er}{vs:List V}(d:ArgsX K α H [r] vs): ∃v,vs=[v]/\DenX K α H r v:=by
 cases d with
 |cons a l=>cases l;exact⟨_,rfl,a⟩
theorem yLO{K:PySem.W.Frag}{α:List Addr}{H:Hp}{r r':Er}{vs:List V}(d:ArgsX K α H [r,r'] vs): ∃v u,vs=[v,u]/\DenX K α H r v/\DenX K α H r' u:=by
 cases d with
 |cons a l=>obtain⟨u,rfl,l'⟩:=zCB l;exact⟨_,u,rfl,a,l'⟩
def jS:List Er->Sto->R Er
 |[.val (.str x)],S=>if x.length<=sizeLine then .ok (.val (.int x.length)) S else .no
 |[r],S=>match itemsOf S r with |some ds=>.ok (.val (.int ds.length)) S|none=>.no
 |_,_=>.no
theorem wV:zGE X W (λxs H Q=>(∃z,xs=[.str z]/\z.length<=sizeLine/\Q (.int z.length) H)\/ ∃p ys,xs=[.ref p]/\(SqL X.K H p ys\/SqT X.K H p ys)/\Q (.int ys.length) H) jS:=by
 intro rs vs α S H Q wd d post
 unfold jS at post
 split at post
 ·split at post
  ·rename_i hz
   obtain⟨v,rfl,dv⟩:=zCB d
   cases xC dv
   refine .inl ⟨_,rfl,by rw [yT];exact hz,?_⟩
   rw [yT]
   exact Post.val post wd (xM _)
  ·exact post.elim
 ·split at post
  ·rename_i ds e
   obtain⟨v,rfl,dv⟩:=zCB d
   obtain⟨a,us,rfl,sq,l⟩:=zPE wd e dv
   refine .inr ⟨a,us,rfl,sq,?_⟩
   rw [l.length]
   exact Post.val post wd (xM _)
  ·exact post.elim
 ·exact post.elim
theorem yH:CallR X (.builtin "len") (λxs H Q=>(∃z,xs=[.str z]/\z.length<=sizeLine/\Q (.int z.length) H)\/ ∃p ys,xs=[.ref p]/\(SqL X.K H p ys\/SqT X.K H p ys)/\Q (.int ys.length) H):=zST.or zSS
def absF:List Er->Sto->R Er
 |[.val (.int i)],S=>.ok (.val (.int (if i<0 then -i else i))) S
 |_,_=>.no
theorem yOD:zGE X W (λxs H Q=> ∃i,xs=[.int i]/\Q (.int (if i<0 then -i else i)) H) absF:=by
 intro rs vs α S H Q wd d post
 unfold absF at post
 split at post
 ·obtain⟨v,rfl,dv⟩:=zCB d
  cases yW dv
  exact⟨_,rfl,Post.val post wd (xM _)⟩
 ·exact post.elim
def zEM:List MV->Option (List Bool)
 |[]=>some []
 |.bl b::r=>(zEM r).map (b::·)
 |_::_=>none
theorem zRW{K:PySem.W.Frag}{α:List Addr}{H:Hp}: ∀{ds:List MV}{bs:List Bool}{vs:List V},zEM ds=some bs->DenL K α H ds vs->vs=bs.map V.bl
 |[],_,_,e,l=>by cases e;exact l.isnil
 |d::r,bs,_,e,l=>by
  cases d with
  |bl b=>
   unfold zEM at e
   cases z:zEM r with
   |none=>rw [z]at e;cases e
   |some cs=>
    rw [z]at e
    cases e
    obtain⟨v,us,rfl,dv,l'⟩:=l.uncons
    rw [zEG dv,zRW z l']
    rfl
  |_=>cases e
def zQU:List Er->Sto->R Er
 |[r],S=>match (cP S r).bind zEM with |some bs=>.ok (.val (.bl (bs.all id))) S|none=>.no
 |_,_=>.no
theorem zPF(hc:X.calm=true):zGE X W (λxs H Q=> ∃(a:Addr)(bs:List Bool),xs=[.ref a]/\SqL X.K H a (bs.map V.bl)/\X.calm=true/\Q (.bl (bs.all id)) H) zQU:=by
 intro rs vs α S H Q wd d post
 unfold zQU at post
 split at post
 ·split at post
  ·rename_i bs e
   obtain⟨v,rfl,dv⟩:=zCB d
   cases z:cP S _ with
   |none=>rw [z]at e;cases e
   |some ds=>
    rw [z]at e
    obtain⟨a1,us,rfl,s,l⟩:=zGW rfl wd z dv
    refine⟨a1,bs,rfl,?_,hc,Post.val post wd (wN _)⟩
    rw [<-zRW e l]
    exact s
  ·exact post.elim
 ·exact post.elim
def zCP(S:Sto):Er->Option String
 |.val .non=>some "NoneType"
 |.val (.bl _)=>some "bool"
 |.val (.int _)=>some "int"
 |.val (.str _)=>some "str"
 |.val (.tup _)=>some "tuple"
 |.val (.typ _)=>none
 |.val (.obj _ _ _)=>none
 |r=>(cP S r).map λ_=>"list"
def zQV(t T:String):Bool:=t==T || (t=="bool"&&T=="int")
def known(T:String):Bool:=T=="int" || T=="bool" || T=="str" || T=="tuple" || T=="list"
def hZ:List Er->Sto->R Er
 |[r,.val (.typ T)],S=>match zCP S r with
  |some t=>if known T=true then .ok (.val (.bl (zQV t T))) S else .no
  |none=>.no
 |_,_=>.no
theorem cW(K:PySem.W.Frag){t T:String}(ht:t="NoneType"\/t="bool"\/t="int"\/t="str"\/t="tuple"\/t="list")(hT:known T=true):PySem.W.kitOne K (.type t) (.type T)=some (zQV t T):=by
 have hT':T="int"\/T="bool"\/T="str"\/T="tuple"\/T="list":=by
  unfold known at hT
  simp only [or_eq_true,beq_iff_eq]at hT
  rcases hT with(((h|h)|h)|h)|h
  ·exact .inl h
  ·exact .inr (.inl h)
  ·exact .inr (.inr (.inl h))
  ·exact .inr (.inr (.inr (.inl h)))
  ·exact .inr (.inr (.inr (.inr h)))
 rcases ht with rfl|rfl|rfl|rfl|rfl|rfl<;>rcases hT' with rfl|rfl|rfl|rfl|rfl<;>kernel_rfl
theorem xH:CallR X (.builtin "isinstance") (λxs H Q=> ∃α S r x t T,xs=[x,.ty T]/\Wd X.g α S H/\DenX X.K α H r x/\zCP S r=some t/\known T=true/\Q (.bl (zQV t T)) H):=by
 intro pins s σ H xs us Q I rr h
 obtain⟨α,S,r,x,t,T,rfl,wd,d,et,hk,q⟩:=h
 obtain⟨u,w',rfl,rx,rT⟩:=vals2 rr
 cases rT
 have fin: ∀tk,EP X pins σ Q (.bool (zQV t T)) {s with toks:=tk}:=λtk=>⟨.bl _,H,I.tok _,rfl,q⟩
 unfold zCP at et
 split at et
 ·cases et
  cases zKA d
  cases rx
  exact PySem.W.kia_one PySem.W.kitx_none I.kIn True.intro (cW X.K (.inl rfl) hk) (λz=>nomatch z) fin
 ·cases et
  cases zEH d
  cases rx
  exact PySem.W.kia_one PySem.W.kitx_bool I.kIn True.intro (cW X.K (.inr (.inl rfl)) hk) (λz=>nomatch z) fin
 ·cases et
  cases yW d
  obtain⟨t,rfl⟩:=rx
  exact PySem.W.kia_one PySem.W.kitx_int I.kIn True.intro (cW X.K (.inr (.inr (.inl rfl))) hk) (λz=>nomatch z) fin
 ·cases et
  cases xC d
  obtain⟨t,rfl⟩:=rx
  exact PySem.W.kia_one PySem.W.kitx_str I.kIn True.intro (cW X.K (.inr (.inr (.inr (.inl rfl)))) hk) (λz=>nomatch z) fin
 ·cases et
  obtain⟨a,vs,rfl,sq,l⟩:=bA d
  cases rx
  obtain⟨its,r1,p1,_⟩:=I.tuple sq
  obtain⟨o,h1,h2,_⟩:=p1
  exact PySem.W.kia_one PySem.W.kitx_tuple I.kIn ⟨o,h1,h2⟩ (cW X.K (.inr (.inr (.inr (.inr (.inl rfl))))) hk) (λz=>nomatch z) fin
 ·cases et
 ·cases et
 ·cases z:cP S r with
  |none=>rw [z]at et;cases et
  |some ds=>
   rw [z]at et
   cases et
   obtain⟨a,vs,rfl,sq,l⟩:=zGW rfl wd z d
   cases rx
   obtain⟨its,r1,p1,_⟩:=I.list sq
   obtain⟨o,h1,h2,_⟩:=p1.isList
   exact PySem.W.kia_one PySem.W.kitx_list I.kIn ⟨o,h1,h2⟩ (cW X.K (.inr (.inr (.inr (.inr (.inr rfl))))) hk) (λz=>nomatch z) fin
theorem jC:zGE X W (λxs H Q=> ∃α S r x t T,xs=[x,.ty T]/\Wd X.g α S H/\DenX X.K α H r x/\zCP S r=some t/\known T=true/\Q (.bl (zQV t T)) H) hZ:=by
 intro rs vs α S H Q wd d post
 unfold hZ at post
 split at post
 ·split at post
  ·rename_i t et
   split at post
   ·rename_i hk
    obtain⟨v,u,rfl,d1,d2⟩:=yLO d
    cases yEZ d2
    exact⟨α,S,_,v,t,_,rfl,wd,d1,et,hk,Post.val post wd (wN _)⟩
   ·exact post.elim
  ·exact post.elim
 ·exact post.elim
def cX:List Er->Sto->R Er
 |[.val (.tup ds)],S=>.ok (.val (.tup ds)) S
 |[r],S=>match cP S r with |some ds=>.ok (.val (.tup ds)) S|none=>.no
 |_,_=>.no
theorem zAZ:zGE X W (λxs H Q=> ∃p ys,xs=[.ref p]/\((SqL X.K H p ys/\ ∀l,H l=none->Q (.ref l) (upd H l (.tup ys)))\/(SqT X.K H p ys/\Q (.ref p) H))) cX:=by
 intro rs vs α S H Q wd d post
 unfold cX at post
 split at post
 ·obtain⟨v,rfl,dv⟩:=zCB d
  obtain⟨a,us,rfl,sq,l⟩:=bA dv
  exact⟨a,us,rfl,.inr ⟨sq,Post.val post wd (zBZ sq l)⟩⟩
 ·split at post
  ·rename_i ds e
   obtain⟨v,rfl,dv⟩:=zCB d
   obtain⟨a,us,rfl,sq,l⟩:=zGW rfl wd e dv
   exact⟨a,us,rfl,.inl ⟨sq,λp hp=>Post.newt post wd hp l⟩⟩
  ·exact post.elim
 ·exact post.elim
def yAX:List Er->Sto->R Er
 |[r],S=>match itemsOf S r with |some ds=>.ok (.new ds) S|none=>.no
 |_,_=>.no
theorem yJI:zGE X W (λxs H Q=> ∃p ys,xs=[.ref p]/\(SqL X.K H p ys\/SqT X.K H p ys)/\ ∀l,H l=none->Q (.ref l) (upd H l (.lst ys))) yAX:=by
 intro rs vs α S H Q wd d post
 unfold yAX at post
 split at post
 ·split at post
  ·rename_i ds e
   obtain⟨v,rfl,dv⟩:=zCB d
   obtain⟨a,us,rfl,sq,l⟩:=zPE wd e dv
   exact⟨a,us,rfl,sq,λp hp=>Post.newl post wd hp l⟩
  ·exact post.elim
 ·exact post.elim
theorem wO:bootBuiltins "len"=some (.builtin "len"):=by decide+kernel
theorem yOE:bootBuiltins "abs"=some (.builtin "abs"):=by decide+kernel
theorem zPG:bootBuiltins "all"=some (.builtin "all"):=by decide+kernel
theorem zR:bootBuiltins "isinstance"=some (.builtin "isinstance"):=by decide+kernel
theorem zLV:bootBuiltins "int"=some (.type "int"):=by decide+kernel
theorem yAY:bootBuiltins "bool"=some (.type "bool"):=by decide+kernel
theorem zGY:bootBuiltins "str"=some (.type "str"):=by decide+kernel
theorem jD:bootBuiltins "tuple"=some (.type "tuple"):=by decide+kernel
theorem zLC:bootBuiltins "list"=some (.type "list"):=by decide+kernel
end
def zBX(n:Nat):List Nat:=(Nat.toDigits 10 n).map Char.toNat
def wS(i:Int):List Nat:=if i<0 then 45::zBX i.natAbs else zBX i.natAbs
theorem yFS(i:Int):Str.ofString (toString i)=mkS (wS i):=by
 have key:(Str.ofString (toString i)).cps.toList=wS i:=by
  unfold wS
  cases i with
  |ofNat m=>
   rw [iN (by have:(0:Int)<=Int.ofNat m:=Int.natCast_nonneg m;omega)]
   exact PySem.W.KIN.signs_num m
  |negSucc m=>
   rw [iP (Int.negSucc_lt_zero m),signs_ofString]
   show(String.toList ("-"++Nat.repr (m+1))).map Char.toNat=45::zBX (m+1)
   rw [String.toList_append,map_append,Nat.toList_repr]
   rfl
 have: ∀s:Str,s=mkS s.cps.toList:=λs=>by cases s;simp [mkS]
 rw [this (Str.ofString (toString i)),key]
section
variable{X:Cx}{W:XW}{a b c e o i:Expr}{es:List Expr}{f g h:AX}{af:Rho->Sto->R (List Er)}{pos apos:Pos}
theorem zVZ:CallR X (.type "str") (λxs H Q=>(∃i,xs=[.int i]/\i.natAbs.log2<1920/\Q (.str (mkS (wS i))) H)\/ ∃x,xs=[.str x]/\Q (.str x) H):=by
 intro pins s σ H xs us Q I r h
 rcases h with⟨i,rfl,hz,q⟩|⟨x,rfl,q⟩
 ·refine zSO pins s σ H _ us Q I r ⟨i,rfl,hz,?_⟩
  show Q (.str (Str.ofString (toString i))) H
  rw [yFS];exact q
 ·obtain⟨u,rfl,t,rfl⟩:=vals1 r
  exact PySem.P.str_of_str ⟨.str x,H,I,⟨_,rfl⟩,q⟩
def strF:List Er->Sto->R Er
 |[.val (.int i)],S=>if i.natAbs.log2<1920 then .ok (.val (.str (wS i))) S else .no
 |[.val (.str x)],S=>.ok (.val (.str x)) S
 |_,_=>.no
theorem yOF:zGE X W (λxs H Q=>(∃i,xs=[.int i]/\i.natAbs.log2<1920/\Q (.str (mkS (wS i))) H)\/ ∃x,xs=[.str x]/\Q (.str x) H) strF:=by
 intro rs vs α S H Q wd d post
 unfold strF at post
 split at post
 ·obtain⟨v,rfl,dv⟩:=zCB d
  cases yW dv
  split at post
  ·rename_i hz
   exact .inl ⟨_,rfl,hz,Post.val post wd (jM _)⟩
  ·exact post.elim
 ·obtain⟨v,rfl,dv⟩:=zCB d
  cases xC dv
  exact .inr ⟨_,rfl,Post.val post wd (jM _)⟩
 ·exact post.elim
theorem zGZ:CallR X (.type "int") (λxs H Q=>((∃i,xs=[.int i]/\Q (.int i) H)\/ ∃k,xs=[.bl k]/\Q (.int (if k then 1 else 0)) H)\/ ∃x n,xs=[.str x]/\PySem.intText? x=some n/\x.length<=640/\Q (.int n) H):=by
 refine yCJ.or ?_
 intro pins s σ H xs us Q I r h
 obtain⟨x,n,rfl,hn,hl,q⟩:=h
 obtain⟨u,rfl,t,rfl⟩:=vals1 r
 exact PySem.W.KIN.call_text hn hl ⟨.int n,H,I.tok _,⟨_,rfl⟩,q⟩
def zYW:List Er->Sto->R Er
 |[.val (.int i)],S=>.ok (.val (.int i)) S
 |[.val (.bl k)],S=>.ok (.val (.int (if k then 1 else 0))) S
 |[.val (.str x)],S=>match PySem.intText? (mkS x)with
  |some n=>if x.length<=640 then .ok (.val (.int n)) S else .no
  |none=>.no
 |_,_=>.no
theorem zYX:zGE X W (λxs H Q=>((∃i,xs=[.int i]/\Q (.int i) H)\/ ∃k,xs=[.bl k]/\Q (.int (if k then 1 else 0)) H)\/ ∃x n,xs=[.str x]/\PySem.intText? x=some n/\x.length<=640/\Q (.int n) H) zYW:=by
 intro rs vs α S H Q wd d post
 unfold zYW at post
 split at post
 ·obtain⟨v,rfl,dv⟩:=zCB d
  cases yW dv
  exact .inl (.inl ⟨_,rfl,Post.val post wd (xM _)⟩)
 ·obtain⟨v,rfl,dv⟩:=zCB d
  cases zEH dv
  exact .inl (.inr ⟨_,rfl,Post.val post wd (xM _)⟩)
 ·obtain⟨v,rfl,dv⟩:=zCB d
  cases xC dv
  split at post
  ·rename_i n hn
   split at post
   ·rename_i hz
    exact .inr ⟨_,n,rfl,hn,by rw [yT];exact hz,Post.val post wd (xM _)⟩
   ·exact post.elim
  ·exact post.elim
 ·exact post.elim
def kT:Er->Sto->Bool
 |.val (.str _),_=>true
 |_,_=>false
theorem ty_str:TyM X "str" kT:=by
 intro p x α S H wd d h
 unfold kT at h
 split at h
 ·cases xC d;rfl
 ·cases h
def zGI(p:Er)(S:Sto):Bool:=(cP S p).isSome
theorem yOG:TyM X "list" zGI:=by
 intro p x α S H wd d h
 unfold zGI at h
 cases z:cP S p with
 |none=>rw [z]at h;cases h
 |some ds=>
  obtain⟨a,vs,rfl,s,l⟩:=zGW rfl wd z d
  exact .inl ⟨rfl,vs,s⟩
theorem yJJ(x y:List Nat):Txt.startswith (mkS x) (mkS y)=(decide (y.length<=x.length)&&decide (x.take y.length=y)):=by
 show(decide (0+(mkS y).length<=(mkS x).length)&&PySem.Builtin.Str.subAt (mkS x) (mkS y) 0)=_
 rw [yT,yT,zero_add]
 congr 1
 unfold PySem.Builtin.Str.subAt
 rw [yT,Bool.eq_iff_iff,beq_iff_eq,decide_eq_true_eq,zero_add]
 constructor
 ·intro h
  have:=congrArg Array.toList h
  simpa [mkS]using this
 ·intro h
  apply Array.toList_inj.mp
  simpa [mkS]using h
def swF:Er->List Er->Sto->R Er
 |.val (.str x),[.val (.str y)],S=>.ok (.val (.bl (decide (y.length<=x.length)&&decide (x.take y.length=y)))) S
 |_,_,_=>.no
theorem yDC:MtR X "str.startswith" (λx xs H Q=> ∃y z,x=.str (mkS y)/\xs=[.str (mkS z)]/\Q (.bl (decide (z.length<=y.length)&&decide (y.take z.length=z))) H):=by
 intro pins s σ H x xs v us Q I rx rs h
 obtain⟨y,z,rfl,rfl,q⟩:=h
 obtain⟨t,rfl⟩:=rx
 obtain⟨u,rfl,t',rfl⟩:=vals1 rs
 refine PySem.SC.startswith ⟨.bl _,H,I,rfl,?_⟩
 rw [yJJ]
 exact q
theorem yDD:yCT X W (λx xs H Q=> ∃y z,x=.str (mkS y)/\xs=[.str (mkS z)]/\Q (.bl (decide (z.length<=y.length)&&decide (y.take z.length=z))) H) swF:=by
 intro p rs x vs α S H0 H Q α0 wd x0 dp da post
 replace post:=post.shift x0
 unfold swF at post
 split at post
 ·obtain⟨v,rfl,dv⟩:=zNB da
  exact⟨_,_,xC dp,by rw [xC dv],Post.val post wd (wN _)⟩
 ·exact post.elim
theorem zLW(ho:PEm X W a f)(ha:PAm X W (e::es) af)
  (hbase:attributeBase a "startswith" X.env (eval a X.env)=eval a X.env:=by rfl)
  (hfew:((backTo pos (starEach (e::es) X.env)).all (λx=>!x.1)&&(backToKw pos (keywordEach [] X.env)).all (λx=>x.1.isSome)
   &&decide ((e::es).length+([]:List Keyword).length+(if([]:List Keyword).isEmpty then 0 else 1)<30))=true:=by rfl)
  (hline:(apos.endLine==pos.line)=true:=by rfl) (hs:starEach (e::es) X.env=(false,eval e X.env)::starEach es X.env:=by rfl) (hplain:(backTo pos (starEach es X.env)).any (·.1)=false:=by rfl):
  PEm X W (.Call (.Attribute a "startswith" apos) (e::es) [] pos) (λρ S=>(f ρ S).bind λp S1=>if kT p S1=true then(af ρ S1).bind λrs S2=>swF p rs S2 else .no):=
 zKY PySem.F.plainAttrs_str PySem.F.slot_str_startswith PySem.F.type_str_startswith yDC yDD ty_str ho ha hbase hfew hline hs hplain
def strIdx(x y:List Nat):Option Nat:=(Builtin.Str.occurrences (mkS x) (mkS y) 0 (mkS x).length 1).head?
def zPH:Er->List Er->Sto->R Er
 |.val (.str x),[.val (.str y)],S=>match strIdx x y with |some i=>.ok (.val (.int (i:Nat))) S|none=>.no
 |_,_,_=>.no
theorem yJK:MtR X "str.index" (λx xs H Q=> ∃y z i,x=.str (mkS y)/\xs=[.str (mkS z)]/\strIdx y z=some i/\Q (.int (i:Nat)) H):=by
 intro pins s σ H x xs v us Q I rx rs h
 obtain⟨y,z,i,rfl,rfl,hi,q⟩:=h
 obtain⟨t,rfl⟩:=rx
 obtain⟨u,rfl,t',rfl⟩:=vals1 rs
 unfold strIdx at hi
 cases zz:Builtin.Str.occurrences (mkS y) (mkS z) 0 (mkS y).length 1 with
 |nil=>rw [zz]at hi;cases hi
 |cons k r=>
  rw [zz]at hi
  cases hi
  exact PySem.SC.index zz ⟨.int _,H,I.tok _,⟨_,rfl⟩,q⟩
theorem yJL:yCT X W (λx xs H Q=> ∃y z i,x=.str (mkS y)/\xs=[.str (mkS z)]/\strIdx y z=some i/\Q (.int (i:Nat)) H) zPH:=by
 intro p rs x vs α S H0 H Q α0 wd x0 dp da post
 replace post:=post.shift x0
 unfold zPH at post
 split at post
 ·split at post
  ·rename_i i hi
   obtain⟨v,rfl,dv⟩:=zNB da
   exact⟨_,_,i,xC dp,by rw [xC dv],hi,Post.val post wd (xM _)⟩
  ·exact post.elim
 ·exact post.elim
theorem yAZ(ho:PEm X W a f)(ha:PAm X W (e::es) af)
  (hbase:attributeBase a "index" X.env (eval a X.env)=eval a X.env:=by rfl)
  (hfew:((backTo pos (starEach (e::es) X.env)).all (λx=>!x.1)&&(backToKw pos (keywordEach [] X.env)).all (λx=>x.1.isSome)
   &&decide ((e::es).length+([]:List Keyword).length+(if([]:List Keyword).isEmpty then 0 else 1)<30))=true:=by rfl)
  (hline:(apos.endLine==pos.line)=true:=by rfl) (hs:starEach (e::es) X.env=(false,eval e X.env)::starEach es X.env:=by rfl) (hplain:(backTo pos (starEach es X.env)).any (·.1)=false:=by rfl):
  PEm X W (.Call (.Attribute a "index" apos) (e::es) [] pos) (λρ S=>(f ρ S).bind λp S1=>if kT p S1=true then(af ρ S1).bind λrs S2=>zPH p rs S2 else .no):=
 zKY PySem.F.plainAttrs_str PySem.F.slot_str_index PySem.F.type_str_index yJK yJL ty_str ho ha hbase hfew hline hs hplain
def zWA(p:Er)(S:Sto)(G:List MV->Option (List MV)):R Er:=match p with
 |.val (.loc l)=>match S[l]? with
  |some (.lst ds)=>match G ds with
   |some es=>.ok (.val .non) (S.set l (.lst es))
   |none=>.no
  |_=>.no
 |_=>.no
theorem yDE{α0 α:List Addr}{H0 H:Hp}{S:Sto}{p:Er}{x:V}{G:List MV->Option (List MV)}{Q:VK}(wd:Wd X.g α S H)(x0:Ext α0 H0 α H)(dp:DenX X.K α H p x)(post:Post X.g W α0 H0 (zWA p S G) Q):
  ∃a vs ds es,x=.ref a/\H a=some (.lst vs)/\DenL X.K α H ds vs/\G ds=some es/\ ∀us,DenL X.K α H es us->Q .non (upd H a (.lst us)):=by
 unfold zWA at post
 split at post
 ·rename_i l
  obtain⟨a,rfl,h⟩:=zFB dp
  obtain⟨ob,h1,h2⟩:=wd.of h
  rw [h1]at post
  cases ob with
  |lst ds=>
   obtain⟨vs,h3,l1⟩:=h2
   have post:Post X.g W α0 H0 (match G ds with |some es=>R.ok (Er.val .non) (S.set l (.lst es))|none=>R.no) Q:=post
   split at post
   ·rename_i es eg
    refine⟨a,vs,ds,es,rfl,h3,l1,eg,λus lu=>?_⟩
    have xw:=wd.writex h (o:=.lst us)
    exact(post.shift (x0.trans xw)).val (wd.write h ⟨us,wL,lu.ext xw⟩) zNZ
   ·exact post.elim
  |dic _=>exact post.elim
  |ins _ _=>exact post.elim
 ·exact post.elim
def zPI:Er->List Er->Sto->R Er
 |p,[r],S=>(nG r S).bind λy S1=>zWA p S1 λds=>if ds.length<sizeLine then some (ds++[y])else none
 |_,_,_=>.no
theorem yDF:yCT X W yAG zPI:=by
 intro p rs x vs α S H0 H Q α0 wd x0 dp da post
 match rs,da,post with
 |[],_,post=>exact post.elim
 |_::_::_,_,post=>exact post.elim
 |[r],da,post=>
  cases da with
  |cons d n l=>
   cases l
   obtain⟨d',S',α',e',x',y',w',dd⟩:=zEI wd x0 d
   have post:Post X.g W α0 H0 ((nG r S).bind λy S1=>zWA p S1 λds=>if ds.length<sizeLine then some (ds++[y])else none) Q:=post
   rw [e']at post
   have dp':DenX X.K α' H p x:=by
    cases p with
    |val m=>exact Den.ex0 y' dp
    |new ds=>exact post.elim
   obtain⟨a,us,ds,es,rfl,h1,l1,eg,k⟩:=yDE w' x' dp' post
   split at eg
   ·rename_i hz
    cases eg
    exact⟨a,us,_,rfl,rfl,h1,by rw [l1.length];exact hz,k _ (l1.append (yO dd xF))⟩
   ·cases eg
theorem cY(ho:PEm X W a f)(ha:PAm X W (e::es) af)
  (hbase:attributeBase a "append" X.env (eval a X.env)=eval a X.env:=by rfl)
  (hfew:((backTo pos (starEach (e::es) X.env)).all (λx=>!x.1)&&(backToKw pos (keywordEach [] X.env)).all (λx=>x.1.isSome)
   &&decide ((e::es).length+([]:List Keyword).length+(if([]:List Keyword).isEmpty then 0 else 1)<30))=true:=by rfl)
  (hline:(apos.endLine==pos.line)=true:=by rfl) (hs:starEach (e::es) X.env=(false,eval e X.env)::starEach es X.env:=by rfl) (hplain:(backTo pos (starEach es X.env)).any (·.1)=false:=by rfl):
  PEm X W (.Call (.Attribute a "append" apos) (e::es) [] pos) (λρ S=>(f ρ S).bind λp S1=>if zGI p S1=true then(af ρ S1).bind λrs S2=>zPI p rs S2 else .no):=
 zKY PySem.F.plainAttrs_list PySem.F.slot_list_append PySem.F.type_list_append yCL yDF yOG ho ha hbase hfew hline hs hplain
def zRX(p q:Er)(d:MV)(ρ:Rho)(S:Sto):R Rho:=match p,q with
 |.val (.loc l),.val (.int k)=>match S[l]? with
  |some (.lst ds)=>match ixN ds.length k with
   |some j=>.ok ρ (S.set l (.lst (ds.set j d)))
   |none=>.no
  |_=>.no
 |_,_=>.no
theorem yFT(ho:PEm X W o f)(hi:PEm X W i g)
  (ha: ∀v,assign (.Subscript o i pos) X.env v=(do
   let ov <-holding [v] (eval o X.env)
   let iv <-holding [v,ov] (eval i X.env)
   standAt pos
   holding [v,ov,iv] (setItem ov iv v)
   release [v,ov,iv] []):=by intro _;rfl):PGm X W (.Subscript o i pos) (λd ρ S=>(f ρ S).bind λp S1=>(g ρ S1).bind λq S2=>zRX p q d ρ S2):=by
 obtain⟨to,ho,fo⟩:=ho
 obtain⟨ti,hi,fi⟩:=hi
 refine⟨_,yED ho hi set_list ha,λα ρ S σ H d v Q wd sl de q=>fo α ρ S σ H _ wd sl (q.bind λu p S1 α1 H1 e1 x1 w1 d1 q1=>fi α1 ρ S1 σ H1 _ w1 (sl.ext x1) ((q1.shift x1).bind λu2 p2 S2 α2 H2 e2 x2 w2 d2 q2=>?_))⟩
 replace q2:=q2.shift x2
 have d1':=DenX.ext x2 d1.1
 unfold zRX at q2
 split at q2
 ·rename_i l k
  obtain⟨a,rfl,h⟩:=zFB d1'
  cases yW d2.1
  obtain⟨ob,h1,h2⟩:=w2.of h
  rw [h1]at q2
  cases ob with
  |lst ds=>
   obtain⟨vs,h3,l1⟩:=h2
   have q2:Post X.g W α2 H2 (match ixN ds.length k with |some j=>R.ok ρ (S2.set l (.lst (ds.set j d)))|none=>R.no) Q:=q2
   split at q2
   ·rename_i j ej
    have xw:=w2.writex h (o:=.lst (vs.set j v))
    have sl2:=((sl.ext x1).ext x2).ext xw
    exact⟨a,vs,k,j,rfl,rfl,h3,by rw [l1.length];exact ej,q2 σ α2 _ xw (w2.write h ⟨_,wL,(l1.set ((de.ext x1).ext x2) j).ext xw⟩) sl2⟩
   ·exact q2.elim
  |dic _=>exact q2.elim
  |ins _ _=>exact q2.elim
 ·exact q2.elim
end
theorem _root_.L2.Inv.turnedL{X:Cx}{pins:List (Addr×Obj)}{σ:St}{H:Hp}{s:Shared}{h':Heap}{t':Nat}{fp:List Addr}(I:Inv X pins σ H s)(k: ∀b o,b∉fp->s.heap.get? b=some o->h'.get? b=some o)
  (hf: ∀b∈fp,zKT X pins H b):Inv X pins σ H {s with heap:=h',toks:=t'}:=by
 have nit: ∀b u,H b=some u->b∉fp:=λb u e z=>by rw [(hf b z).1]at e;cases e
 refine I.step (g':=s.gens) (d':=s.drawn) (ch:=fp) (λb hb=>⟨(hf b hb).2.2.2.1,(hf b hb).2.1,(hf b hb).2.2.2.2.1,(hf b hb).2.2.2.2.2⟩) (λb o _ _ hc e _=>k b o hc e) (λb o _ _ hc e _=>⟨o.slots,k b o hc e⟩) (λ_ _ _ _ n=>n)
  (λb o hc e=>⟨o,k b o hc e⟩) (λ_ _ e=>e) (λ_ _ _ e=>e) (λb ps e=>⟨#[],by rw [e];simp⟩) (λm hm=>?_) (λb u e=>?_) I.bare
 ·obtain⟨o,es,ep,ho,r⟩:=hm
  exact⟨o,es,ep,k _ o (λz=>(hf _ z).2.1 rfl) ho,r⟩
 ·refine(I.hok b u e).stay (λc v hc q=>k c v ?_ q) (λ_ q=>q) λ_ _ q=>q
  rcases hc with z|z
  ·rw [z];exact nit b u e
  ·exact nit c _ z
def IsSub(k:Bool)(h:Heap)(it l:Addr)(i:Nat):Prop:=if k=true then h.IsListIter it l i else h.IsTupleIter it l i
def IsSeq(k:Bool)(h:Heap)(l:Addr)(its:Array Value):Prop:=if k=true then h.IsList l its else h.IsTuple l its
def zFF(k:Bool)(l:Addr):Obj:={cls:=.type (if k=true then "list_iterator" else "tuple_iterator"),data:=.fields #[.ref l,.int 0 0]}
theorem IsSub.mk'{k:Bool}{h:Heap}{it l:Addr}(e:h.get? it=some (zFF k l)):IsSub k h it l 0:=by
 cases k with
 |true=>exact⟨_,e,rfl,rfl⟩
 |false=>exact⟨_,e,rfl,rfl⟩
theorem IsSub.there{k:Bool}{h:Heap}{it l:Addr}{i:Nat}(x:IsSub k h it l i): ∃o,h.get? it=some o/\ ∀v,o.data≠.cell v:=by
 cases k with
 |true=>obtain⟨o,e,_,d⟩:=(x:h.IsListIter it l i);exact⟨o,e,λv z=>by rw [d]at z;cases z⟩
 |false=>obtain⟨o,e,_,d⟩:=(x:h.IsTupleIter it l i);exact⟨o,e,λv z=>by rw [d]at z;cases z⟩
theorem IsSub.move{k:Bool}{h h':Heap}{it l:Addr}{i:Nat}(x:IsSub k h it l i)(f: ∀o,h.get? it=some o->h'.get? it=some o):IsSub k h' it l i:=by
 cases k with
 |true=>obtain⟨o,e,r⟩:=(x:h.IsListIter it l i);exact⟨o,f o e,r⟩
 |false=>obtain⟨o,e,r⟩:=(x:h.IsTupleIter it l i);exact⟨o,f o e,r⟩
theorem IsSeq.move{k:Bool}{h h':Heap}{l:Addr}{its:Array Value}(x:IsSeq k h l its)(f: ∀o,h.get? l=some o->h'.get? l=some o):IsSeq k h' l its:=by
 cases k with
 |true=>obtain⟨o,e,r⟩:=(x:h.IsList l its);exact⟨o,f o e,r⟩
 |false=>obtain⟨o,e,r⟩:=(x:h.IsTuple l its);exact⟨o,f o e,r⟩
section
variable{prog:Program}{w:World}{A:Around}{E:VP}{s:Shared}
theorem zHA{k:Bool}{l:Addr}{its:Array Value}{Q:VP}(hl:IsSeq k s.heap l its)(h:Q (.ref s.heap.objs.size) {s with heap:=s.heap.push (zFF k l)}):wpAny (model prog w) A (pyIter (.ref l)) Q E s:=by
 cases k with
 |true=>exact wpAny_pyIter_list hl h
 |false=>exact wpAny_pyIter_tuple hl h
theorem zLD{k:Bool}{it l:Addr}{i:Nat}{its:Array Value}{x:Value}{Q:VP}(hit:IsSub k s.heap it l i)(hl:IsSeq k s.heap l its)(hx:its[i]? =some x)
  (hQ: ∀h',IsSub k h' it l (i+1)->Heap.SameBut it s.heap h'->Q x {s with heap:=h'}):wpAny (model prog w) A (Builtin.SmallTypes.nextOf (.ref it)) Q E s:=by
 cases k with
 |true=>exact wpAny_nextOf_list_item hit hl hx hQ
 |false=>
  have hit':s.heap.IsTupleIter it l i:=hit
  obtain⟨o,ho,hc,hd⟩:=id hit'
  obtain⟨ol,hol,_,nl,hdl⟩:=(hl:s.heap.IsTuple l its)
  unfold Builtin.SmallTypes.nextOf
  refine wB0 (wpAny_callSpecial?_slot (name:=Str.ofString "__next__") hit'.typeIs F.slot_tuple_iterator_next (wpAny_call_entry F.slot_tuple_iterator_next hit'.typeIs F.entry_tuple_iterator_next ?_ (F.args_tuple_iterator_next_1 _)))
  show wpAny _ _ (field (.ref it) 0 >>= _) _ _ s
  refine wB0 (wpAny_field ho hd (x:=.ref l) rfl ?_)
  show wpAny _ _ (if(Value.ref l==Value.none)=true then _ else _) _ _ s
  rw [iN (show¬((Value.ref l==Value.none)=true)from xF0)]
  show wpAny _ _ (field (.ref it) 1 >>= _) _ _ s
  refine wB0 (wpAny_field ho hd (x:=.int i 0) rfl ?_)
  show wpAny _ _ (seqItems? (.ref l) >>= _) _ _ s
  refine wB0 (wpAny_seqItems hol hdl ?_)
  simp only [toNat_natCast,hx]
  refine wB0 (wpAny_setField ho hd (by simp) (wP0 ⟨x,rfl,wP0 (hQ _ ?_ (Heap.SameBut.update ..))⟩))
  exact⟨_,Heap.get?_update_self _ ho (Obj.isFreed_of_fields (Obj.data_mapFields hd _)),(Obj.cls_mapFields ..).trans hc,by rw [Obj.data_mapFields hd];simp [rawInt]⟩
theorem zTK{k:Bool}{it l:Addr}{i:Nat}{its:Array Value}{Q:VP}(hh:A.handled=none)(hit:IsSub k s.heap it l i)(hl:IsSeq k s.heap l its)(hx:its[i]? =none)
  (hE: ∀h' e,Heap.ExtBut it s.heap h'->(∃o,h'.get? e=some o/\o.cls=.type "StopIteration")->E (.ref e) {s with heap:=h'}):wpAny (model prog w) A (Builtin.SmallTypes.nextOf (.ref it)) Q E s:=by
 cases k with
 |true=>exact wpAny_nextOf_list_end hh hit hl hx hE
 |false=>
  have hit':s.heap.IsTupleIter it l i:=hit
  obtain⟨o,ho,hc,hd⟩:=id hit'
  obtain⟨ol,hol,_,nl,hdl⟩:=(hl:s.heap.IsTuple l its)
  unfold Builtin.SmallTypes.nextOf
  refine wB0 (wpAny_callSpecial?_slot (name:=Str.ofString "__next__") hit'.typeIs F.slot_tuple_iterator_next (wpAny_call_entry F.slot_tuple_iterator_next hit'.typeIs F.entry_tuple_iterator_next ?_ (F.args_tuple_iterator_next_1 _)))
  show wpAny _ _ (field (.ref it) 0 >>= _) _ _ s
  refine wB0 (wpAny_field ho hd (x:=.ref l) rfl ?_)
  show wpAny _ _ (if(Value.ref l==Value.none)=true then _ else _) _ _ s
  rw [iN (show¬((Value.ref l==Value.none)=true)from xF0)]
  show wpAny _ _ (field (.ref it) 1 >>= _) _ _ s
  refine wB0 (wpAny_field ho hd (x:=.int i 0) rfl ?_)
  show wpAny _ _ (seqItems? (.ref l) >>= _) _ _ s
  refine wB0 (wpAny_seqItems hol hdl ?_)
  simp only [toNat_natCast,hx]
  refine wB0 (wpAny_rule (wB0 (wpAny_setField ho hd (by simp) ?_)))
  show wpAny _ _ (newExc (.type "StopIteration") [] >>= _) _ _ _
  refine wB0 ?_
  simp only [newExc,newTuple]
  refine wB0 (wpAny_newObj_type ?_ (by size_fits))
  refine wB0 (m:=firstArgMember _ _) (wpAny_of_eq (a:=Value.none) (by first |rfl|(simp only [firstArgMember];rfl)) ?_)
  refine wpAny_newObj_type ?_ (by size_fits)
  simp only [raiseNew]
  refine wB0 (wpAny_handled ?_)
  first |rw [show A.in1.handled=none from hh]|rw [hh]
  refine wB0 (wP0 (wpAny_throw ?_))
  exact hE _ _ (((Heap.SameBut.update ..).extBut.push _).push _) ⟨_,Heap.get?_push_size _ rfl,rfl⟩
end
structure ZipSt(k1 k2:Bool)(z TI TO i1 i2 l1 l2:Addr)(i:Nat)(h:Heap):Prop where
 z:IsZip h z TI TO .none
 ti:IsPair h TI (.ref i1) (.ref i2)
 to: ∃a b,IsPair h TO a b
 s1:IsSub k1 h i1 l1 i
 s2:IsSub k2 h i2 l2 i
structure Apart5(z TI TO i1 i2:Addr):Prop where
 TIz:TI≠z
 TOz:TO≠z
 i1z:i1≠z
 i2z:i2≠z
 TITO:TI≠TO
 TIi1:TI≠i1
 TIi2:TI≠i2
 TOi1:TO≠i1
 TOi2:TO≠i2
 i12:i1≠i2
section
variable{prog:Program}{w:World}{A:Around}{E:VP}{s:Shared}{k1 k2:Bool}{z TI TO i1 i2 l1 l2:Addr}{i:Nat}{xs ys:Array Value}
def Off(l z TO i1 i2:Addr):Prop:=l≠z/\l≠TO/\l≠i1/\l≠i2
theorem yFU{x y:Value}{Q:VP}(D:Apart5 z TI TO i1 i2)(o1:Off l1 z TO i1 i2)(o2:Off l2 z TO i1 i2)(st:ZipSt k1 k2 z TI TO i1 i2 l1 l2 i s.heap)(hl1:IsSeq k1 s.heap l1 xs)(hl2:IsSeq k2 s.heap l2 ys)(hx:xs[i]? =some x)(hy:ys[i]? =some y)
  (hQ: ∀h',IsZip h' z TI TO (rawInt s.heap.objs.size)->IsPair h' TO x y->IsSub k1 h' i1 l1 (i+1)->IsSub k2 h' i2 l2 (i+1)->IsPair h' s.heap.objs.size x y->
   (∀c o,c≠z->c≠TO->c≠i1->c≠i2->s.heap.get? c=some o->h'.get? c=some o)->Q (.ref s.heap.objs.size) {s with heap:=h'}):
  wpAny (model prog w) A (Builtin.«zip.__next__» ⟨[.ref z],[]⟩) (λfin s'=> ∃v,fin=.done (.ret v)/\Q v s') E s:=by
 obtain⟨hz,hTI,⟨a,b,hTO⟩,h1,h2⟩:=st
 show wpAny _ _ (field (.ref z) 2 >>= _) _ _ _
 refine wB0 (wpAny_field hz rfl (x:=.bool false) rfl ?_)
 show wpAny _ _ (field (.ref z) 3 >>= _) _ _ _
 refine wB0 (wpAny_field hz rfl (x:=.ref TI) rfl (wB0 (wpAny_seqItems hTI rfl ?_)))
 show wpAny _ _ (Builtin.SmallTypes.ownedTupleIsFree (.ref z) >>= _) _ _ _
 refine wB0 ?_
 unfold Builtin.SmallTypes.ownedTupleIsFree
 refine wB0 (wpAny_field hz rfl (x:=.none) rfl (wP0 ?_))
 simp only [if_true]
 refine wB0 (wpAny_rule (wB0 (wpAny_field hz rfl (x:=.ref TO) rfl (wB0 (wpAny_setField_rec hz (by simp) λha hza hsa=>?_)))))
 replace hza:IsZip ha z TI TO .ellipsis:=hza
 refine wB0 ?_
 simp only [List.zipIdx_cons,List.zipIdx_nil,forIn_cons,forIn_nil]
 refine wB0 (wB0 (wpAny_onRaise ?_))
 show wpAny _ _ (Builtin.SmallTypes.nextOf (.ref i1) >>= _) _ _ _
 refine wB0 (zLD (h1.move λo e=>hsa.extBut _ _ D.i1z e) (hl1.move λo e=>hsa.extBut _ _ o1.1 e) hx λhb h1b hsb=>wP0 ?_)
 have tob:IsPair hb TO a b:=hsb.extBut _ _ D.TOi1 (hsa.extBut _ _ D.TOz hTO)
 refine wB0 (wpAny_seqItems tob rfl (wB0 (wpAny_updateSeq_pair tob λhc toc hsc=>wB0 (wpAny_letGo (wP0 ?_)))))
 replace toc:IsPair hc TO x b:=toc
 refine wB0 (wB0 (wpAny_onRaise ?_))
 show wpAny _ _ (Builtin.SmallTypes.nextOf (.ref i2) >>= _) _ _ _
 have mv: ∀c o,c≠z->c≠TO->c≠i1->s.heap.get? c=some o->hc.get? c=some o:=λc o n1 n2 n3 e=>hsc.extBut _ _ n2 (hsb.extBut _ _ n3 (hsa.extBut _ _ n1 e))
 refine wB0 (zLD (h2.move λo e=>mv _ o D.i2z D.TOi2.symm D.i12.symm e) (hl2.move λo e=>mv _ o o2.1 o2.2.1 o2.2.2.1 e) hy λhd h2d hsd=>wP0 ?_)
 have tod:IsPair hd TO x b:=hsd.extBut _ _ D.TOi2 toc
 refine wB0 (wpAny_seqItems tod rfl (wB0 (wpAny_updateSeq_pair tod λhe toe hse=>wB0 (wpAny_letGo (wP0 (wP0 ?_))))))
 replace toe:IsPair he TO x y:=toe
 refine wB0 (wpAny_seqItems toe rfl (wB0 (wpAny_newTuple ?_)))
 have hsz:he.objs.size=s.heap.objs.size:=by rw [hse.1,hsd.1,hsc.1,hsb.1,hsa.1]
 have ze:IsZip he z TI TO .ellipsis:=hse.extBut _ _ D.TOz.symm (hsd.extBut _ _ D.i2z.symm (hsc.extBut _ _ D.TOz.symm (hsb.extBut _ _ D.i1z.symm hza)))
 have mve: ∀c o,c≠z->c≠TO->c≠i1->c≠i2->s.heap.get? c=some o->he.get? c=some o:=λc o n1 n2 n3 n4 e=>hse.extBut _ _ n2 (hsd.extBut _ _ n4 (mv c o n1 n2 n3 e))
 have s1e:IsSub k1 he i1 l1 (i+1):=h1b.move λo e=>hse.extBut _ _ D.TOi1.symm (hsd.extBut _ _ D.i12 (hsc.extBut _ _ D.TOi1.symm e))
 have s2e:IsSub k2 he i2 l2 (i+1):=h2d.move λo e=>hse.extBut _ _ D.TOi2.symm e
 have hzlt:z<he.objs.size:=Heap.lt_size ze
 show wpAny _ _ (Builtin.SmallTypes.ownedTupleHandOut (.ref z) (.ref he.objs.size) >>= _) _ _ _
 refine wB0 ?_
 unfold Builtin.SmallTypes.ownedTupleHandOut
 have zf:IsZip (he.push {cls:=.type "tuple",data:=.seq #[x,y]}) z TI TO .ellipsis:=hP0 _ ze
 refine wB0 (wpAny_setField_rec zf (by simp) λhg' zg hsg=>?_)
 replace zg:IsZip hg' z TI TO (rawInt he.objs.size):=zg
 refine wpAny_setField_rec zg (by simp) λhh' zh hsh=>?_
 replace zh:IsZip hh' z TI TO (rawInt he.objs.size):=zh
 have up: ∀c o,c≠z->he.get? c=some o->hh'.get? c=some o:=λc o c1 e=>hsh.extBut _ _ c1 (hsg.extBut _ _ c1 (hP0 _ e))
 have tT:IsPair hh' he.objs.size x y:=hsh.extBut _ _ (ne_of_gt hzlt) (hsg.extBut _ _ (ne_of_gt hzlt) (Heap.get?_push_size _ rfl))
 rw [hsz]at zh tT
 refine wP0 ⟨_,rfl,?_⟩
 show Q (.ref he.objs.size) _
 rw [hsz]
 exact hQ hh' zh (up _ _ D.TOz toe) (s1e.move λo e=>up _ o D.i1z e) (s2e.move λo e=>up _ o D.i2z e) tT λc o c1 c2 c3 c4 e=>up c o c1 (mve c o c1 c2 c3 c4 e)
theorem yJM{Q:Fin->Shared->Prop}(hh:A.handled=none)(D:Apart5 z TI TO i1 i2)(o1:Off l1 z TO i1 i2)(o2:Off l2 z TO i1 i2)(st:ZipSt k1 k2 z TI TO i1 i2 l1 l2 i s.heap)(hl1:IsSeq k1 s.heap l1 xs)(hl2:IsSeq k2 s.heap l2 ys)(hend:xs[i]? =none\/ys[i]? =none)
  (hE: ∀h' e,(∀c o,c≠z->c≠TO->c≠i1->c≠i2->s.heap.get? c=some o->h'.get? c=some o)->(∃o,h'.get? e=some o/\o.cls=.type "StopIteration")->E (.ref e) {s with heap:=h'}):
  wpAny (model prog w) A (Builtin.«zip.__next__» ⟨[.ref z],[]⟩) Q E s:=by
 obtain⟨hz,hTI,⟨a,b,hTO⟩,h1,h2⟩:=st
 show wpAny _ _ (field (.ref z) 2 >>= _) _ _ _
 refine wB0 (wpAny_field hz rfl (x:=.bool false) rfl ?_)
 show wpAny _ _ (field (.ref z) 3 >>= _) _ _ _
 refine wB0 (wpAny_field hz rfl (x:=.ref TI) rfl (wB0 (wpAny_seqItems hTI rfl ?_)))
 show wpAny _ _ (Builtin.SmallTypes.ownedTupleIsFree (.ref z) >>= _) _ _ _
 refine wB0 ?_
 unfold Builtin.SmallTypes.ownedTupleIsFree
 refine wB0 (wpAny_field hz rfl (x:=.none) rfl (wP0 ?_))
 simp only [if_true]
 refine wB0 (wpAny_rule (wB0 (wpAny_field hz rfl (x:=.ref TO) rfl (wB0 (wpAny_setField_rec hz (by simp) λha hza hsa=>?_)))))
 replace hza:IsZip ha z TI TO .ellipsis:=hza
 refine wB0 ?_
 simp only [List.zipIdx_cons,List.zipIdx_nil,forIn_cons,forIn_nil]
 refine wB0 (wB0 (wpAny_onRaise ?_))
 show wpAny _ _ (Builtin.SmallTypes.nextOf (.ref i1) >>= _) _ _ _
 cases hx:xs[i]? with
 |none=>
  refine wB0 (zTK hh (h1.move λo e=>hsa.extBut _ _ D.i1z e) (hl1.move λo e=>hsa.extBut _ _ o1.1 e) hx λhb e hsb he=>?_)
  obtain⟨oe,hoe,hce⟩:=he
  have hzb:IsZip hb z TI TO .ellipsis:=hsb _ _ D.i1z.symm hza
  have hez:e≠z:=λq=>by subst q;rw [hzb]at hoe;cases hoe;simp at hce
  exact wpAny_setField_rec hzb (by simp) λhc _ hsc=>hE hc e (λc o c1 _ c3 _ q=>hsc.extBut _ _ c1 (hsb _ _ c3 (hsa.extBut _ _ c1 q))) ⟨oe,hsc.extBut _ _ hez hoe,hce⟩
 |some x=>
  have hy:ys[i]? =none:=by rcases hend with h|h;(rw [hx]at h;cases h);exact h
  refine wB0 (zLD (h1.move λo e=>hsa.extBut _ _ D.i1z e) (hl1.move λo e=>hsa.extBut _ _ o1.1 e) hx λhb h1b hsb=>wP0 ?_)
  have tob:IsPair hb TO a b:=hsb.extBut _ _ D.TOi1 (hsa.extBut _ _ D.TOz hTO)
  refine wB0 (wpAny_seqItems tob rfl (wB0 (wpAny_updateSeq_pair tob λhc toc hsc=>wB0 (wpAny_letGo (wP0 ?_)))))
  refine wB0 (wB0 (wpAny_onRaise ?_))
  show wpAny _ _ (Builtin.SmallTypes.nextOf (.ref i2) >>= _) _ _ _
  have mv: ∀c o,c≠z->c≠TO->c≠i1->s.heap.get? c=some o->hc.get? c=some o:=λc o n1 n2 n3 e=>hsc.extBut _ _ n2 (hsb.extBut _ _ n3 (hsa.extBut _ _ n1 e))
  refine wB0 (zTK hh (h2.move λo e=>mv _ o D.i2z D.TOi2.symm D.i12.symm e) (hl2.move λo e=>mv _ o o2.1 o2.2.1 o2.2.2.1 e) hy λhd e hsd he=>?_)
  obtain⟨oe,hoe,hce⟩:=he
  have hzd:IsZip hd z TI TO .ellipsis:=hsd _ _ D.i2z.symm (hsc.extBut _ _ D.TOz.symm (hsb.extBut _ _ D.i1z.symm hza))
  have hez:e≠z:=λq=>by subst q;rw [hzd]at hoe;cases hoe;simp at hce
  exact wpAny_setField_rec hzd (by simp) λhg' _ hsg=>hE hg' e (λc o c1 c2 c3 c4 q=>hsg.extBut _ _ c1 (hsd _ _ c4 (mv c o c1 c2 c3 q))) ⟨oe,hsg.extBut _ _ hez hoe,hce⟩
theorem zYY(k1 k2:Bool)(l1 l2:Addr)(xs ys:Array Value):
  Meets (Builtin.«zip.__new__» ⟨[.type "zip",.ref l1,.ref l2],[]⟩) (λ_ R s=>IsSeq k1 s.heap l1 xs/\IsSeq k2 s.heap l2 ys/\
   R (.ok (.ret (.ref (s.heap.objs.size+4)))) {s with heap:=((((s.heap.push (zFF k1 l1)).push (zFF k2 l2)).push {cls:=.type "tuple",data:=.seq #[.ref s.heap.objs.size,.ref (s.heap.objs.size+1)]}).push {cls:=.type "tuple",data:=.seq #[.none,.none]}).push {cls:=.type "zip",data:=.fields #[.none,.bool false,.bool false,.ref (s.heap.objs.size+2),.ref (s.heap.objs.size+3)]}}):=
 .of_wp λprog w A R s h=>by
  obtain⟨hp,g,d,tk,os⟩:=s;obtain⟨hl1,hl2,h⟩:=h
  have hsub:=sub_zip
  have hL1:IsSeq k1 (Shared.heap ⟨hp,g,d,tk,os⟩) l1 xs:=hl1
  have hL2:IsSeq k2 (Shared.heap ⟨hp.push (zFF k1 l1),g,d,tk,os⟩) l2 ys:=hl2.move λo e=>hP0 _ e
  have z1: ∀(h:Heap)(o:Obj),(h.push o).objs.size=h.objs.size+1:=λh o=>Heap.size_push ..
  simp only [z1]at h ⊢
  wp_walk using zHA hL1,zHA hL2
  exact⟨_,rfl,by simp only [z1];exact h⟩
theorem yFV(hl1:IsSeq k1 s.heap l1 xs)(hl2:IsSeq k2 s.heap l2 ys){Q:VP}
  (h: ∀h',ZipSt k1 k2 (s.heap.objs.size+4) (s.heap.objs.size+2) (s.heap.objs.size+3) s.heap.objs.size (s.heap.objs.size+1) l1 l2 0 h'->(∀c o,s.heap.get? c=some o->h'.get? c=some o)->Q (.ref (s.heap.objs.size+4)) {s with heap:=h'}):
  wpAny (model prog w) A (call (.type "zip") [.ref l1,.ref l2]) Q E s:=by
 refine callType_new F.called_zip (by decide) (F.typeCall_zip_2 _ _) (F.newCall_zip_2 _ _) (λobj=>F.args_object_init_3 obj _ _) F.entry_zip_new (zYY k1 k2 l1 l2 xs ys) ⟨hl1,hl2,?_⟩
 have z1: ∀(h:Heap)(o:Obj),(h.push o).objs.size=h.objs.size+1:=λh o=>Heap.size_push ..
 have pg: ∀(h:Heap)(o:Obj)(n:Nat),o.isFreed=false->h.objs.size=n->(h.push o).get? n=some o:=λh o n hf e=>by subst e;exact Heap.get?_push_size _ hf
 have up: ∀(h:Heap)(o u:Obj)(n:Nat),h.get? n=some u->(h.push o).get? n=some u:=λh o u n e=>hP0 _ e
 refine⟨⟨_,pg _ _ _ rfl (by simp only [z1]),rfl⟩,h _ ⟨pg _ _ _ rfl (by simp only [z1]),up _ _ _ _ (up _ _ _ _ (pg _ _ _ rfl (by simp only [z1]))),⟨.none,.none,up _ _ _ _ (pg _ _ _ rfl (by simp only [z1]))⟩,?_,?_⟩ λc o e=>up _ _ _ _ (up _ _ _ _ (up _ _ _ _ (up _ _ _ _ (up _ _ _ _ e))))⟩
 ·exact IsSub.mk' (up _ _ _ _ (up _ _ _ _ (up _ _ _ _ (up _ _ _ _ (pg _ _ _ rfl rfl)))))
 ·exact IsSub.mk' (up _ _ _ _ (up _ _ _ _ (up _ _ _ _ (pg _ _ _ rfl (by simp only [z1])))))
end
theorem apart_new(n:Nat):Apart5 (n+4) (n+2) (n+3) n (n+1):=by
 constructor<;>(show(_:Nat)≠_;omega)
def SqK(k:Bool)(K:PySem.W.Frag)(H:Hp)(a:Addr)(xs:List V):Prop:=if k=true then SqL K H a xs else SqT K H a xs
def Itz(K:PySem.W.Frag)(k1 k2:Bool)(l1 l2:Addr):It:=
 ⟨λi H=> ∃xs ys x y,SqK k1 K H l1 xs/\SqK k2 K H l2 ys/\xs[i]? =some x/\ys[i]? =some y,
   λi H v H'=> ∃p x y,H p=none/\v=.ref p/\H'=upd H p (.tup [x,y])/\(∀xs,SqK k1 K H l1 xs->xs[i]? =some x)/\ ∀ys,SqK k2 K H l2 ys->ys[i]? =some y,
   λi H=> ∃xs ys,SqK k1 K H l1 xs/\SqK k2 K H l2 ys/\(xs.length<=i\/ys.length<=i)⟩
section
variable{X:Cx}{pins:List (Addr×Obj)}{σ:St}{H:Hp}{s:Shared}
theorem _root_.L2.Inv.seqK(I:Inv X pins σ H s){k:Bool}{a:Addr}{xs:List V}(h:SqK k X.K H a xs): ∃its:List Value,Vals xs its/\IsSeq k s.heap a its.toArray/\xs.length<=sizeLine:=by
 cases k with
 |true=>obtain⟨its,r,p,z⟩:=I.list h;exact⟨its,r,p.isList,z⟩
 |false=>obtain⟨its,r,p,z⟩:=I.tuple h;exact⟨its,r,p,z⟩
theorem _root_.L2.Inv.seqK_inj(I:Inv X pins σ H s){k:Bool}{a:Addr}{xs ys:List V}(h:SqK k X.K H a xs)(h':SqK k X.K H a ys):xs=ys:=by
 cases k with
 |true=>exact I.list_inj h h'
 |false=>exact I.tuple_inj h h'
theorem zCC(I:Inv X pins σ H s){k:Bool}{l b:Addr}{xs:List V}(h:SqK k X.K H l xs)(hb:zKT X pins H b):l≠b:=by
 rintro rfl
 have kk: ∀o,X.K.lookup l=some o->False:=λo e=>by
  have e1:=I.mod.kin l o e
  rcases hb.2.2.2.1 with z|z
  ·exact I.ok.noex l o e1 z
  ·exact absurd (lt_of_lt_of_le (Heap.lt_size e1) (le_trans I.ok.bsz z)) (lt_irrefl _)
 cases k with
 |true=>
  rcases (h:SqL X.K H l xs)with(h|⟨o,h⟩)|⟨o,its,n,h,_⟩
  ·rw [hb.1]at h;cases h
  ·rw [hb.1]at h;cases h
  ·exact kk o h
 |false=>
  rcases (h:SqT X.K H l xs)with(h|⟨o,h⟩)|⟨o,its,n,h,_⟩
  ·rw [hb.1]at h;cases h
  ·rw [hb.1]at h;cases h
  ·exact kk o h
end
theorem yFW{P:Program}{w:World}{K:PySem.W.Frag}{elts:List Expr}{kt:Nat}{pt:Pos}{k1 k2:Bool}{z TI TO i1 i2 l1 l2:Addr}(D:Apart5 z TI TO i1 i2):
  Turn P w K (.Tuple elts kt pt) (Itz K k1 k2 l1 l2) [z,TI,TO,i1,i2] z (λi h=>ZipSt k1 k2 z TI TO i1 i2 l1 l2 i h) where
 mem:=by simp
 obj:=λi h st b hb=>by
  obtain⟨hz,hTI,⟨a,b',hTO⟩,h1,h2⟩:=st
  have hb':b=z\/b=TI\/b=TO\/b=i1\/b=i2:=by simpa using hb
  rcases hb' with rfl|rfl|rfl|rfl|rfl
  ·exact⟨_,hz,λv q=>by cases q⟩
  ·exact⟨_,hTI,λv q=>by cases q⟩
  ·exact⟨_,hTO,λv q=>by cases q⟩
  ·exact h1.there
  ·exact h2.there
 keep:=λi h h' st k=>by
  obtain⟨hz,hTI,⟨a,b',hTO⟩,h1,h2⟩:=st
  exact⟨k z (by simp) _ hz,k TI (by simp) _ hTI,⟨a,b',k TO (by simp) _ hTO⟩,h1.move λo e=>k i1 (by simp) o e,h2.move λo e=>k i2 (by simp) o e⟩
 item:=by
  intro X hP hw hK hc i pins s σ H E I hf st hg
  subst hP hw hK
  obtain⟨xs,ys,x,y,q1,q2,hx,hy⟩:=hg
  obtain⟨its,r1,p1,_⟩:=I.seqK q1
  obtain⟨its2,r2,p2,_⟩:=I.seqK q2
  obtain⟨u,hu,ru⟩:=r1.get hx
  obtain⟨v,hv,rv⟩:=r2.get hy
  have off: ∀{k:Bool}{l:Addr}{xs:List V},SqK k X.K H l xs->Off l z TO i1 i2:=λq=>⟨zCC I q (hf z (by simp)),zCC I q (hf TO (by simp)),zCC I q (hf i1 (by simp)),zCC I q (hf i2 (by simp))⟩
  have hT:s.TypeIs (.ref z) "zip":=⟨_,st.z,rfl⟩
  unfold pyNext
  refine wB0 (wpAny_attempt (wpAny_callSpecial?_slot (name:=Str.ofString "__next__") hT F.slot_zip_next (wpAny_call_entry F.slot_zip_next hT F.entry_zip_next
   (yFU D (off q1) (off q2) st p1 p2 (x:=u) (y:=v) (by simpa using hu) (by simpa using hv) λh' a1 a2 a3 a4 a5 a6=>wP0 ⟨_,rfl,?_⟩) (F.args_zip_next_1 _))))
  refine wpAny_letOwnedTupleGo_zip a1 λh2 z2 sb2=>?_
  have hpn:H s.heap.objs.size=none:=I.hok.fresh (le_refl _)
  have I0:Inv X pins σ (upd H s.heap.objs.size (.tup [x,y])) {s with heap:=s.heap.push {cls:=.type "tuple",data:=.seq #[u,v]}}:=
   I.laid (t':=s.toks) (o:=.tup [x,y]) (λb o e=>hP0 _ e) (le_refl _) ⟨by show 2<=sizeLine;decide,[u,v],.cons ru (.cons rv .nil),⟨_,Heap.get?_push_size _ rfl,rfl,_,rfl⟩⟩
  have lt: ∀b∈[z,TI,TO,i1,i2],b<s.heap.objs.size:=λb hb=>by
   have: ∃o,s.heap.get? b=some o:=by
    obtain⟨hz,hTI,⟨a,b',hTO⟩,g1,g2⟩:=st
    have hb':b=z\/b=TI\/b=TO\/b=i1\/b=i2:=by simpa using hb
    rcases hb' with rfl|rfl|rfl|rfl|rfl
    ·exact⟨_,hz⟩
    ·exact⟨_,hTI⟩
    ·exact⟨_,hTO⟩
    ·obtain⟨o,e,_⟩:=g1.there;exact⟨o,e⟩
    ·obtain⟨o,e,_⟩:=g2.there;exact⟨o,e⟩
   obtain⟨o,e⟩:=this
   exact Heap.lt_size e
  have fr: ∀b∈[z,TI,TO,i1,i2],upd H s.heap.objs.size (.tup [x,y]) b=none:=λb hb=>by rw [yG (ne_of_lt (lt b hb))];exact(hf b hb).1
  have zne:s.heap.objs.size≠z:=ne_of_gt (lt z (by simp))
  have mv: ∀b o,b∉[z,TI,TO,i1,i2]->(s.heap.push {cls:=.type "tuple",data:=.seq #[u,v]}).get? b=some o->h2.get? b=some o:=λb o hb e=>by
   simp only [mC,nM0,or_false,not_or]at hb
   refine sb2.extBut _ _ hb.1 ?_
   by_cases hbs:b=s.heap.objs.size
   ·subst hbs
    rw [Heap.get?_push_size _ rfl]at e
    cases e
    exact a5
   ·rw [Heap.get?_push_ne _ _ _ hbs]at e
    exact a6 b o hb.1 hb.2.2.1 hb.2.2.2.1 hb.2.2.2.2 e
  have I2:=I0.turnedL (h':=h2) (t':=s.toks) mv λb hb=>let ⟨_,c2,c3,c4,c5,c6⟩:=hf b hb;⟨fr b hb,c2,c3,c4,c5,c6⟩
  refine⟨.ref s.heap.objs.size,_,I2,rfl,⟨s.heap.objs.size,x,y,hpn,rfl,rfl,λzs hz=>?_,λzs hz=>?_⟩,⟨z2,?_,⟨u,v,?_⟩,?_,?_⟩,fr⟩
  ·rw [I.seqK_inj hz q1];exact hx
  ·rw [I.seqK_inj hz q2];exact hy
  ·exact sb2.extBut _ _ D.TIz (a6 TI _ D.TIz D.TITO D.TIi1 D.TIi2 st.ti)
  ·exact sb2.extBut _ _ D.TOz a2
  ·exact a3.move λo e=>sb2.extBut _ _ D.i1z e
  ·exact a4.move λo e=>sb2.extBut _ _ D.i2z e
 done:=by
  intro X hP hw hK hc i pins s σ H E I hf st hg
  subst hP hw hK
  obtain⟨xs,ys,q1,q2,hx⟩:=hg
  obtain⟨its,r1,p1,_⟩:=I.seqK q1
  obtain⟨its2,r2,p2,_⟩:=I.seqK q2
  have off: ∀{k:Bool}{l:Addr}{xs:List V},SqK k X.K H l xs->Off l z TO i1 i2:=λq=>⟨zCC I q (hf z (by simp)),zCC I q (hf TO (by simp)),zCC I q (hf i1 (by simp)),zCC I q (hf i2 (by simp))⟩
  have hT:s.TypeIs (.ref z) "zip":=⟨_,st.z,rfl⟩
  have e1:=r1.length
  have e2:=r2.length
  unfold pyNext
  refine wB0 (wpAny_attempt (wpAny_callSpecial?_slot (name:=Str.ofString "__next__") hT F.slot_zip_next (wpAny_call_entry F.slot_zip_next hT F.entry_zip_next
   (yJM (I.ok.hd hc) D (off q1) (off q2) st p1 p2 (by rcases hx with h|h;(exact .inl (by simp;omega));exact .inr (by simp;omega)) λh' e hk he=>?_) (F.args_zip_next_1 _))))
  obtain⟨o,ho,hcl⟩:=he
  refine wB0 (wpAny_isInstance (T:="StopIteration") (b:=true) ⟨o,ho,hcl⟩ isSubtype_stop (wP0 ⟨rfl,?_⟩))
  refine I.turnedL (h':=h') (t':=s.toks) (λb o hb e=>?_) hf
  simp only [mC,nM0,or_false,not_or]at hb
  exact hk b o hb.1 hb.2.2.1 hb.2.2.2.1 hb.2.2.2.2 e
 self:=λ_ _ _ _ _ st h=>wpAny_pyIter_zip st.z h
structure Sr where
 k:Bool
 ds:List MV
 gs:List (Nat×List MV)
def srcOf(S:Sto):Er->Option Sr
 |.val (.tup ds)=>some ⟨false,ds,[]⟩
 |.new ds=>some ⟨true,ds,[]⟩
 |.val (.scr ds)=>some ⟨true,ds,[]⟩
 |.val (.loc l)=>match S[l]? with
  |some (.lst ds)=>some ⟨true,ds,[(l,ds)]⟩
  |_=>none
 |_=>none
structure SrcD(X:Cx)(q:Sr)(l:Addr)(P:List Addr->Sto->Hp->Prop):Prop where
 get: ∀α S H,P α S H-> ∃vs,SqK q.k X.K H l vs/\DenL X.K α H q.ds vs
 stays: ∀α1 S1 H1 α2 S2 H2,P α1 S1 H1->Ext α1 H1 α2 H2->Wd X.g α2 S2 H2->stay q.gs S2->P α2 S2 H2
 st: ∀α S H,P α S H->stay q.gs S
theorem zPJ{X:Cx}{α:List Addr}{S:Sto}{H:Hp}(wd:Wd X.g α S H){r:Er}{x:V}{q:Sr}(e:srcOf S r=some q)(d:DenX X.K α H r x): ∃l P,x=.ref l/\P α S H/\SrcD X q l P:=by
 unfold srcOf at e
 split at e
 ·rename_i ds
  cases e
  obtain⟨a,vs,rfl,s,l⟩:=bA d
  exact⟨a,λα S H=> ∃vs,SqT X.K H a vs/\DenL X.K α H ds vs,rfl,⟨vs,s,l⟩,λα S H h=>h,λα1 S1 H1 α2 S2 H2 ⟨vs,h1,h2⟩ x w _=>⟨vs,x.sqT h1,h2.ext x⟩,λ_ _ _ _=>bE⟩
 ·rename_i ds
  cases e
  obtain⟨b,vs,rfl,h,n,l⟩:=d
  exact⟨b,λα S H=> ∃vs,H b=some (.lst vs)/\b∉α/\DenL X.K α H ds vs,rfl,⟨vs,h,n,l⟩,λα S H ⟨vs,h1,_,h2⟩=>⟨vs,(SqL.of h1:SqL X.K H b vs),h2⟩,
   λα1 S1 H1 α2 S2 H2 ⟨vs,h1,h2,h3⟩ x w _=>⟨vs,x.keep b _ h1 h2,x.out h1 h2,h3.ext x⟩,λ_ _ _ _=>bE⟩
 ·rename_i ds
  cases e
  obtain⟨a,vs,rfl,s,l⟩:=zOW d
  exact⟨a,λα S H=> ∃vs,SqF X.K H a vs/\DenL X.K α H ds vs,rfl,⟨vs,s,l⟩,λα S H ⟨vs,h1,h2⟩=>⟨vs,h1.l,h2⟩,λα1 S1 H1 α2 S2 H2 ⟨vs,h1,h2⟩ x w _=>⟨vs,x.sqF h1,h2.ext x⟩,λ_ _ _ _=>bE⟩
 ·rename_i n
  split at e
  ·rename_i ds hS
   cases e
   obtain⟨a,rfl,h⟩:=zFB d
   obtain⟨vs,h1,h2⟩:=wd.obj n a _ h hS
   refine⟨a,λα S H=> ∃vs,H a=some (.lst vs)/\DenL X.K α H ds vs/\α[n]? =some a/\S[n]? =some (.lst ds),rfl,⟨vs,h1,h2,h,hS⟩,λα S H ⟨vs,h1,h2,_⟩=>⟨vs,(SqL.of h1:SqL X.K H a vs),h2⟩,?_,?_⟩
   ·intro α1 S1 H1 α2 S2 H2 ⟨vs,a1,a2,a3,a4⟩ x w hs
    have hs':=hs (n,ds) (by simp)
    obtain⟨us,b1,b2⟩:=w.obj n a _ (x.at a3) hs'
    exact⟨us,b1,b2,x.at a3,hs'⟩
   ·intro α S H ⟨vs,_,_,_,a4⟩ p hp
    have:p=(n,ds):=by simpa using hp
    subst this
    exact a4
  ·cases e
 ·cases e
def iZip(K:PySem.W.Frag)(ta:TA):TI:=λσ H R=>ta σ H λvs H1=> ∃k1 k2 l1 l2,vs=[.ref l1,.ref l2]/\(∃xs,SqK k1 K H1 l1 xs)/\(∃ys,SqK k2 K H1 l2 ys)/\R (Itz K k1 k2 l1 l2) H1
section
variable{X:Cx}{W:XW}{a b:Expr}{elts:List Expr}{kt:Nat}{pt p pos:Pos}{ta:TA}{af:Rho->Sto->R (List Er)}
theorem yOH:bootBuiltins "zip"=some (.type "zip"):=by decide+kernel
theorem yJN:bootBuiltins "enumerate"=some (.type "enumerate"):=by decide+kernel
theorem yOI(hg:Gl X "zip")(hm:X.mg "zip"=none)(ha:PA X [a,b] ta)(hs:starEach [a,b] X.env=[(false,eval a X.env),(false,eval b X.env)]:=by rfl)(hs2:starEach [b] X.env=[(false,eval b X.env)]:=by rfl):
  PI X (.Tuple elts kt pt) (.Call (.Name "zip" p) [a,b] [] pos) (iZip X.K ta):=by
 intro pins s σ H R I h
 refine Call_ (zLP I hg hm yOH (PyProof.Rows.callWith_type1 (thn (ha pos pins s σ H _ I h) λus s1 ⟨vs,H1,I1,r1,q1⟩=>?_) (by rw [hs,hs2]) (by rw [hs2];rfl)))
 obtain⟨k1,k2,l1,l2,rfl,⟨xs,c1⟩,⟨ys,c2⟩,q⟩:=q1
 cases r1 with
 |cons r rr=>
  cases rr with
  |cons r' rr=>
   cases rr
   cases r
   cases r'
   obtain⟨its,v1,p1,_⟩:=I1.seqK c1
   obtain⟨its2,v2,p2,_⟩:=I1.seqK c2
   refine yFV p1 p2 λh' st hk=>wpAny_pyIter_zip st.z ?_
   have I2:Inv X pins σ H1 {s1 with heap:=h'}:=I1.kept (t':=s1.toks) hk
   refine⟨_,_,_,_,H1,rfl,I2,yFW (apart_new _),st,λb hb=>?_,q⟩
   have hle:s1.heap.objs.size<=b:=by
    have hb':b=s1.heap.objs.size+4\/b=s1.heap.objs.size+2\/b=s1.heap.objs.size+3\/b=s1.heap.objs.size\/b=s1.heap.objs.size+1:=by simpa using hb
    rcases hb' with h|h|h|h|h<;>rw [h]<;>(first |exact le_refl _|exact Nat.le_add_right _ _)
   exact I1.fpOk hle (I1.hok.fresh hle)
def pairs(xs ys:List MV):List MV:=List.zipWith (λx y=>.tup [x,y]) xs ys
def itZ(rs:List Er)(S:Sto):R Wk:=match rs with
 |[p,q]=>match srcOf S p with
  |some a=>match srcOf S q with
   |some b=>.ok ⟨pairs a.ds b.ds,a.gs++b.gs⟩ S
   |none=>.no
  |none=>.no
 |_=>.no
theorem yOJ(hg:Gl X "zip")(hm:X.mg "zip"=none)(ha:PAm X W [a,b] af)(hs:starEach [a,b] X.env=[(false,eval a X.env),(false,eval b X.env)]:=by rfl)(hs2:starEach [b] X.env=[(false,eval b X.env)]:=by rfl):
  PIm X W (.Tuple elts kt pt) (.Call (.Name "zip" p) [a,b] [] pos) (λρ S=>(af ρ S).bind itZ):=by
 obtain⟨t,ha,k⟩:=ha
 refine⟨_,yOI hg hm ha hs hs2,λα ρ S σ H Rc wd sl q=>k α ρ S σ H _ wd sl (q.bind λvs rs S1 α1 H1 e x1 w1 d1 q1=>?_)⟩
 replace q1:=q1.shift x1
 unfold itZ at q1
 split at q1
 ·rename_i r1 r2
  split at q1
  ·rename_i s1 e1
   split at q1
   ·rename_i s2 e2
    obtain⟨u,v,rfl,du,dv⟩:=args2 d1
    obtain⟨l1,P1,rfl,p1,D1⟩:=zPJ w1 e1 du
    obtain⟨l2,P2,rfl,p2,D2⟩:=zPJ w1 e2 dv
    have g1:=D1.get _ _ _ p1
    have g2:=D2.get _ _ _ p2
    refine⟨s1.k,s2.k,l1,l2,rfl,⟨_,g1.choose_spec.1⟩,⟨_,g2.choose_spec.1⟩,q1.here (u:=Itz X.K s1.k s2.k l1 l2) w1 ⟨λα S H=>P1 α S H/\P2 α S H,?_,⟨p1,p2⟩,?_,?_⟩⟩
    ·intro i α2 S2 H2 ⟨b1,b2⟩ w2
     obtain⟨us,c1,c2⟩:=D1.get _ _ _ b1
     obtain⟨ws,c3,c4⟩:=D2.get _ _ _ b2
     have hl:(pairs s1.ds s2.ds).length=min us.length ws.length:=by unfold pairs;rw [List.length_zipWith,c2.length,c4.length]
     refine⟨λhi=>?_,λhi=>?_⟩
     ·have hi:i<(pairs s1.ds s2.ds).length:=hi
      have h1:i<us.length:=by omega
      have h2:i<ws.length:=by omega
      refine⟨⟨us,ws,us[i],ws[i],c1,c3,gE0 h1,gE0 h2⟩,?_⟩
      rintro x H' ⟨pp,xx,yy,hp,rfl,rfl,hx,hy⟩
      obtain⟨d,hd,dd⟩:=c2.get (hx us c1)
      obtain⟨f,hf,df⟩:=c4.get (hy ws c3)
      have xn:=w2.newx (o:=.tup [xx,yy]) hp
      have wn:=w2.new (o:=.tup [xx,yy]) hp
      refine⟨xn,wn,⟨D1.stays _ _ _ _ _ _ b1 xn wn (D1.st _ _ _ b1),D2.stays _ _ _ _ _ _ b2 xn wn (D2.st _ _ _ b2)⟩,.tup [d,f],?_,?_⟩
      ·unfold pairs;rw [List.getElem?_zipWith,hd,hf]
      ·exact zBZ (.of wL) (yO (dd.ext xn) (yO (df.ext xn) xF))
     ·have hi:(pairs s1.ds s2.ds).length<=i:=hi
      refine⟨us,ws,c1,c3,?_⟩
      by_cases h1:us.length<=i
      ·exact .inl h1
      ·exact .inr (by omega)
    ·intro α1 S1 H1 α2 S2 H2 ⟨b1,b2⟩ x w hs
     exact⟨D1.stays _ _ _ _ _ _ b1 x w λp hp=>hs p (mem_append_left _ hp),D2.stays _ _ _ _ _ _ b2 x w λp hp=>hs p (mem_append_right _ hp)⟩
    ·intro p hp
     rcases mem_append.mp hp with h|h
     ·exact D1.st _ _ _ p1 p h
     ·exact D2.st _ _ _ p2 p h
   ·exact q1.elim
  ·exact q1.elim
 ·exact q1.elim
end
structure EnSt(k:Bool)(e it l:Addr)(i:Nat)(h:Heap):Prop where
 e: ∃old,IsEnum h e it i old
 s:IsSub k h it l i
section
variable{prog:Program}{w:World}{A:Around}{E:VP}{s:Shared}{k:Bool}{e it l:Addr}{i:Nat}{its:Array Value}
theorem yJO{x old:Value}{Q:VP}(he:IsEnum s.heap e it i old)(hit:IsSub k s.heap it l i)(hl:IsSeq k s.heap l its)(hx:its[i]? =some x)(hne:e≠it)
  (hQ: ∀h',IsEnumOut h' e it ((i:Int)+1) x s.heap.objs.size->IsSub k h' it l (i+1)->h'.get? s.heap.objs.size=some {cls:=.type "tuple",data:=.seq #[.int i s.toks,x]}->
   (∀b o,b≠e->b≠it->s.heap.get? b=some o->h'.get? b=some o)->Q (.ref s.heap.objs.size) {s with heap:=h',toks:=s.toks+1}):
  wpAny (model prog w) A (Builtin.«enumerate.__next__» ⟨[.ref e],[]⟩) (λfin s'=> ∃v,fin=.done (.ret v)/\Q v s') E s:=by
 obtain⟨hp,g,d,tk,os⟩:=s
 show wpAny _ _ (field (.ref e) 2 >>= _) _ _ _
 refine wB0 (wpAny_field he rfl (x:=.ref it) rfl (wB0 (zLD hit hl hx λha ita hsa=>?_)))
 replace hsa:Heap.SameBut it hp ha:=hsa
 have ea:IsEnum ha e it i old:=(hsa.2 e hne).trans he
 show wpAny _ _ (field (.ref e) 3 >>= _) _ _ ⟨ha,g,d,tk,os⟩
 refine wB0 (wpAny_field ea rfl (x:=rawInt i) rfl ?_)
 show wpAny _ _ (field (.ref e) 4 >>= _) _ _ ⟨ha,g,d,tk,os⟩
 refine wB0 (wpAny_field ea rfl (x:=.none) rfl ?_)
 show wpAny _ _ (mkInt i >>= _) _ _ ⟨ha,g,d,tk,os⟩
 refine wB0 (wpAny_mkInt ?_)
 show wpAny _ _ (setField (.ref e) 3 (rawInt ((i:Int)+1)) >>= _) _ _ ⟨ha,g,d,tk+1,os⟩
 refine wB0 (wpAny_setField_rec ea (by simp) λhb eb hsb=>?_)
 replace hsb:Heap.SameBut e ha hb:=hsb
 replace eb:IsEnum hb e it ((i:Int)+1) old:=eb
 show wpAny _ _ (setField (.ref e) 4 .none >>= _) _ _ ⟨hb,g,d,tk+1,os⟩
 refine wB0 (wpAny_setField_rec eb (by simp) λhc ec hsc=>?_)
 replace hsc:Heap.SameBut e hb hc:=hsc
 replace ec:IsEnum hc e it ((i:Int)+1) old:=ec
 show wpAny _ _ (newTuple [.int i tk,x] >>= _) _ _ ⟨hc,g,d,tk+1,os⟩
 refine wB0 (wpAny_newTuple ?_)
 have hsz:hc.objs.size=hp.objs.size:=by rw [hsc.1,hsb.1,hsa.1]
 have hel:e<hp.objs.size:=Heap.lt_size he
 have ed:IsEnum (hc.push {cls:=.type "tuple",data:=.seq #[.int i tk,x]}) e it ((i:Int)+1) old:=hP0 _ ec
 have td:(hc.push {cls:=.type "tuple",data:=.seq #[.int i tk,x]}).get? hp.objs.size=some {cls:=.type "tuple",data:=.seq #[.int i tk,x]}:=by rw [<-hsz];exact Heap.get?_push_size _ rfl
 have kd: ∀b o,b≠e->b≠it->hp.get? b=some o->(hc.push {cls:=.type "tuple",data:=.seq #[.int i tk,x]}).get? b=some o:=λb o n1 n2 q=>
  hP0 _ (hsc.extBut b o n1 (hsb.extBut b o n1 (hsa.extBut b o n2 q)))
 have sd:IsSub k (hc.push {cls:=.type "tuple",data:=.seq #[.int i tk,x]}) it l (i+1):=ita.move λo q=>hP0 _ (hsc.extBut _ o (Ne.symm hne) (hsb.extBut _ o (Ne.symm hne) q))
 generalize hc.push {cls:=.type "tuple",data:=.seq #[.int i tk,x]}=hd at ed td kd sd ⊢
 show wpAny _ _ (Builtin.SmallTypes.ownedTupleIsFree (.ref e) >>= _) _ _ ⟨hd,g,d,tk+1,os⟩
 rw [hsz]
 refine wB0 ?_
 unfold Builtin.SmallTypes.ownedTupleIsFree
 refine wB0 (wpAny_field ed rfl (x:=.none) rfl (wP0 ?_))
 simp only [if_true]
 refine wB0 (wpAny_rule (wB0 (wpAny_field ed rfl (x:=old) rfl (wB0 (wpAny_setField_rec ed (by simp) λhf ef hsf=>?_)))))
 replace hsf:Heap.SameBut e hd hf:=hsf
 replace ef:IsEnum hf e it ((i:Int)+1) x:=ef
 show wpAny _ _ (Builtin.SmallTypes.ownedTupleHandOut (.ref e) (.ref hp.objs.size) >>= _) _ _ ⟨hf,g,d,tk+1,os⟩
 refine wB0 ?_
 unfold Builtin.SmallTypes.ownedTupleHandOut
 refine wB0 (wpAny_setField_rec ef (by simp) λhg' eg hsg=>?_)
 replace hsg:Heap.SameBut e hf hg':=hsg
 replace eg:IsEnumOut hg' e it ((i:Int)+1) x hp.objs.size:=eg
 refine wpAny_setField_rec eg (by simp) λhh' eh hsh=>?_
 replace hsh:Heap.SameBut e hg' hh':=hsh
 replace eh:IsEnumOut hh' e it ((i:Int)+1) x hp.objs.size:=eh
 have up: ∀b o,b≠e->hd.get? b=some o->hh'.get? b=some o:=λb o n q=>hsh.extBut b o n (hsg.extBut b o n (hsf.extBut b o n q))
 exact wB0 (wpAny_letGo (wP0 ⟨_,rfl,hQ hh' eh (sd.move λo q=>up _ o (Ne.symm hne) q) (up _ _ (ne_of_gt hel) td) λb o n1 n2 q=>up b o n1 (kd b o n1 n2 q)⟩))
theorem zYZ(k:Bool)(l:Addr)(its:Array Value):
  Meets (Builtin.«enumerate.__new__» ⟨[.type "enumerate",.ref l],[]⟩) (λ_ R s=>IsSeq k s.heap l its/\
   R (.ok (.ret (.ref (s.heap.objs.size+1)))) {s with heap:=(s.heap.push (zFF k l)).push {cls:=.type "enumerate",data:=.fields #[.none,.bool false,.ref s.heap.objs.size,rawInt 0,.none,.none]}}):=
 .of_wp λprog w A R s h=>by
  obtain⟨hp,g,d,tk,os⟩:=s;obtain⟨hl,h⟩:=h
  have hsub:=sub_enumerate
  have hL:IsSeq k (Shared.heap ⟨hp,g,d,tk,os⟩) l its:=hl
  have z1: ∀(h:Heap)(o:Obj),(h.push o).objs.size=h.objs.size+1:=λh o=>Heap.size_push ..
  wp_walk
  refine wpAny_stack_any λst=>wP0 ?_
  split
  ·rename_i c _ _ _ _ _
   cases (c==Value.type "enumerate")
   ·wp_walk using zHA hL
    exact⟨_,rfl,by simp only [z1];exact h⟩
   ·wp_walk using zHA hL
    exact⟨_,rfl,by simp only [z1];exact h⟩
  ·wp_walk using zHA hL
   exact⟨_,rfl,by simp only [z1];exact h⟩
end
def zRY(K:PySem.W.Frag)(F:List MV->Sto->R Er):Sp:=λvs H Q _=> ∃ds,DenL K [] H ds vs/\ds.length=1/\ ∀g:Gm,g.K=K->Post g W0 [] H (F ds []) Q
theorem yFX{g:Gm}{F:List MV->Sto->R Er}: ∀vs H Q E,zRY g.K F vs H Q E->spM g 1 F vs H Q E:=λvs H Q E ⟨ds,l,hl,q⟩=>⟨[],[],ds,⟨rfl,by simp,λl a o h=>by simp at h⟩,l,hl,q g rfl⟩
theorem yOK{K:PySem.W.Frag}{H:Hp}{a:Addr}{xs:List V}(hO:yER H)(h:SqL K H a xs):SqF K H a xs:=by
 rcases h with(h|⟨o,h⟩)|h
 ·rcases hO a with z|⟨o,ys,z⟩
  ·rw [z]at h;cases h
  ·rw [z]at h;cases h
 ·exact .inl ⟨o,h⟩
 ·exact .inr h
theorem yFY{K:PySem.W.Frag}{F:List MV->Sto->R Er}{H:Hp}{a:Addr}{ns:List Int}(hO:yER H)(hS:SqL K H a (ns.map V.int))(h: ∃S,F [.scr (ns.map MV.int)] []=.ok (.val (.bl true)) S):zRY K F [.ref a] H (λv _=>v=.bl true) λ_ _ _=>False:=by
 obtain⟨S,h⟩:=h
 refine⟨_,yO (yAK (yOK hO hS) (zRU ns)) xF,rfl,λg _=>?_⟩
 rw [h]
 exact λv α' H' x w d=>zEH d.1
theorem bok{β γ:Type}(b:β)(S:Sto)(k:β->Sto->R γ):(R.ok b S).bind k=k b S:=by
 have h:=R.bind_ok b S k
 exact Eq.trans h rfl
theorem yJP(d:MV)(S:Sto):rdSl (some (some d)) S=.ok (.val d) S:=rfl
theorem zPK{S T:Sto}:yAO S (S++T):=⟨by rw [lA];omega,λl hl=>.inl (getElem?_append_left hl)⟩
theorem zPL(n:Nat)(i:Int):lo n (.int i):=by unfold lo;trivial
theorem gP(n:Nat)(i:List Nat):lo n (.str i):=by unfold lo;trivial
theorem zWB(n:Nat)(i:Bool):lo n (.bl i):=by unfold lo;trivial
theorem yOL(n:Nat):lo n .non:=by unfold lo;trivial
theorem zZA{n:Nat}{ds:List MV}(h:loL n ds):lo n (.tup ds):=by unfold lo;exact h
theorem zKD{n:Nat}: ∀{ds:List MV},(∀d∈ds,lo n d)->loL n ds
 |[],_=>by unfold loL;trivial
 |d::ds,h=>by unfold loL;exact⟨h d mF0,zKD λe he=>h e (mO _ he)⟩
theorem yFZ{S T:Sto}{d:MV}(h:lo S.length d)(hn: ∀l,d≠.loc l):zEK S (.val d) (S++T)=.ok (.val d) S:=by
 unfold zEK
 rw [iP zPK]
 have e:(S++T).take S.length=S:=by simp
 cases d with
 |loc l=>exact absurd rfl (hn l)
 |_=>dsimp only;rw [iP h,e]
theorem yGA{S T:Sto}{ds:List MV}(h:loL S.length ds):zEK S (.new ds) (S++T)=.ok (.new ds) S:=by
 unfold zEK
 rw [iP zPK]
 have e:(S++T).take S.length=S:=by simp
 dsimp only
 rw [iP h,e]
theorem yGB{S T:Sto}{l:Nat}{ds:List MV}(hl:S.length<=l)(hS:(S++T)[l]? =some (.lst ds))(h:loL S.length ds):zEK S (.val (.loc l)) (S++T)=.ok (.new ds) S:=by
 unfold zEK
 rw [iP zPK]
 have e:(S++T).take S.length=S:=by simp
 dsimp only
 rw [iN (by omega),hS]
 dsimp only
 rw [iP h,e]
theorem zBA{n:Nat}{F:List MV->Sto->R Er}{rs:List Er}{S T:Sto}{d:MV}(hn:rs.length=n)(hF:F (zU rs S).1 (zU rs S).2=.ok (.val d) (S++T))(h:lo S.length d)(hd: ∀l,d≠.loc l):zS n F rs S=.ok (.val d) S:=by
 unfold zS
 rw [iP hn,hF]
 exact yFZ h hd
theorem zWC{n:Nat}{F:List MV->Sto->R Er}{rs:List Er}{S T:Sto}{ds:List MV}(hn:rs.length=n)(hF:F (zU rs S).1 (zU rs S).2=.ok (.new ds) (S++T))(h:loL S.length ds):zS n F rs S=.ok (.new ds) S:=by
 unfold zS
 rw [iP hn,hF]
 exact yGA h
theorem yGC{n:Nat}{F:List MV->Sto->R Er}{rs:List Er}{S T:Sto}{l:Nat}{ds:List MV}(hn:rs.length=n)(hF:F (zU rs S).1 (zU rs S).2=.ok (.val (.loc l)) (S++T))(hl:S.length<=l)(hS:(S++T)[l]? =some (.lst ds))(h:loL S.length ds):zS n F rs S=.ok (.new ds) S:=by
 unfold zS
 rw [iP hn,hF]
 exact yGB hl hS h
theorem yI{n:Nat}{F:List MV->Sto->R Er}{rs:List Er}{S:Sto}{d:MV}(hn:rs.length=n)(hF:F (zU rs S).1 (zU rs S).2=.ok (.val d) S)(h:lo S.length d)(hd: ∀l,d≠.loc l):zS n F rs S=.ok (.val d) S:=zBA (T:=[]) hn (by rw [aN];exact hF) h hd
theorem zWD{gf:MV->Rho->Sto->R Rho}{body:AY}{gs:List (Nat×List MV)}{L:List MV}(I:Nat->Rho->Sto->Prop)
  (st: ∀i d,L[i]? =some d-> ∀ρ S,I i ρ S-> ∃ρ' S',((gf d ρ S).bind λρ0 S0=>body ρ0 S0)=.ok (.next ρ') S'/\stay gs S'/\I (i+1) ρ' S'):
  ∀(n i:Nat){ρ:Rho}{S:Sto},n+i=L.length->I i ρ S-> ∃ρ' S',cO gf body gs (L.drop i) ρ S=.ok (.next ρ') S'/\I L.length ρ' S'
 |0,i,ρ,S,hn,h=>by
  have e:i=L.length:=by omega
  subst e
  rw [drop_length]
  exact⟨ρ,S,rfl,h⟩
 |n+1,i,ρ,S,hn,h=>by
  have hi:i<L.length:=by omega
  obtain⟨ρ1,S1,e,hs,h1⟩:=st i L[i] (gE0 hi) ρ S h
  obtain⟨ρ2,S2,e2,h2⟩:=zWD I st n (i+1) (by omega) h1
  refine⟨ρ2,S2,?_,h2⟩
  rw [List.drop_eq_getElem_cons hi]
  unfold cO
  cases z:gf L[i] ρ S with
  |ok ρ0 S0=>
   rw [z]at e
   have e:body ρ0 S0=.ok (.next ρ1) S1:=e
   rw [bok]
   show(body ρ0 S0).bind _=_
   rw [e,bok]
   dsimp only
   rw [iP hs]
   exact e2
  |exc c fs S0=>rw [z]at e;cases e
  |no=>rw [z]at e;cases e
theorem yOM{gf:MV->Rho->Sto->R Rho}{body:AY}{gs:List (Nat×List MV)}{L:List MV}(I:Nat->Rho->Sto->Prop)
  (st: ∀i d,L[i]? =some d-> ∀ρ S,I i ρ S-> ∃ρ' S',((gf d ρ S).bind λρ0 S0=>body ρ0 S0)=.ok (.next ρ') S'/\stay gs S'/\I (i+1) ρ' S') {ρ:Rho} {S:Sto} (h:I 0 ρ S):
  ∃ρ' S',cO gf body gs L ρ S=.ok (.next ρ') S'/\I L.length ρ' S':=zWD I st L.length 0 (by omega) h
section
variable{S:Sto}
theorem as_bl(b:Bool)(S:Sto):asB (.val (.bl b)) S=.ok b S:=rfl
theorem as_int(i:Int)(S:Sto):asI (.val (.int i)) S=.ok (some i) S:=rfl
theorem yON(b:Bool)(S:Sto):jR (.val (.bl b)) S=.ok b S:=rfl
theorem add_int(i j:Int)(S:Sto):xK (.val (.int i)) (.val (.int j)) S=.ok (.val (.int (i+j))) S:=rfl
theorem sub_int(i j:Int)(S:Sto):yCX (.val (.int i)) (.val (.int j)) S=.ok (.val (.int (i - j))) S:=rfl
theorem add_str{x y:List Nat}(h:x.length+y.length<=sizeLine):xK (.val (.str x)) (.val (.str y)) S=.ok (.val (.str (x++y))) S:=iP h
theorem zTL{p q:Er}{x y:List MV}(h1:lsW S p=some x)(h2:lsW S q=some y)(h:x.length+y.length<=sizeLine):xK p q S=.ok (.new (x++y)) S:=by
 have e:yAQ p q S=.ok (.new (x++y)) S:=by
  unfold yAQ
  rw [h1,h2]
  exact iP h
 unfold xK
 split
 ·cases h1
 ·cases h1
 ·cases h1
 ·exact e
theorem yOO{g:Int->Int->Bool}(i j:Int)(S:Sto):ibF g (.val (.int i)) (.val (.int j)) S=.ok (.val (.bl (g i j))) S:=rfl
theorem yJQ(i j:Int):eqV (.int i) (.int j)=decide (i=j):=by
 show(i==j)=_
 by_cases h:i=j
 ·subst h;simp
 ·rw [dF0 h];simpa using h
theorem yJR(x y:List Nat):eqV (.str (mkS x)) (.str (mkS y))=decide (x=y):=by
 show(mkS x==mkS y)=_
 by_cases h:x=y
 ·subst h;simp
 ·rw [dF0 h]
  have:mkS x≠mkS y:=λz=>h (zKV z)
  simpa using this
theorem zTM(n:Nat)(i j:Int):eqv S (n+1) (.int i) (.int j)=some (decide (i=j)):=by rw [<-yJQ];rfl
theorem zOD(n:Nat)(x y:List Nat):eqv S (n+1) (.str x) (.str y)=some (decide (x=y)):=by rw [<-yJR];rfl
theorem yOP(n:Nat)(x:Int)(y:List Nat):eqv S (n+1) (.int x) (.str y)=some false:=rfl
theorem yOQ(n:Nat)(x:List Nat)(y:Int):eqv S (n+1) (.str x) (.int y)=some false:=rfl
theorem yJS(d f:MV):eqF (.val d) (.val f) S=match eqv S (yS+1) d f with |some k=>.ok (.val (.bl k)) S|none=>.no:=rfl
theorem yJT(d f:MV):neF (.val d) (.val f) S=match eqv S (yS+1) d f with |some k=>.ok (.val (.bl !k)) S|none=>.no:=rfl
theorem yGD{d f:MV}{k:Bool}(h:eqv S (yS+1) d f=some k):eqF (.val d) (.val f) S=.ok (.val (.bl k)) S:=by rw [yJS,h]
theorem zZB{d f:MV}{k:Bool}(h:eqv S (yS+1) d f=some k):neF (.val d) (.val f) S=.ok (.val (.bl !k)) S:=by rw [yJT,h]
theorem eq_int(i j:Int)(S:Sto):eqF (.val (.int i)) (.val (.int j)) S=.ok (.val (.bl (decide (i=j)))) S:=yGD (zTM _ i j)
theorem eq_str(x y:List Nat)(S:Sto):eqF (.val (.str x)) (.val (.str y)) S=.ok (.val (.bl (decide (x=y)))) S:=yGD (zOD _ x y)
theorem ne_int(i j:Int)(S:Sto):neF (.val (.int i)) (.val (.int j)) S=.ok (.val (.bl (!decide (i=j)))) S:=zZB (zTM _ i j)
theorem lt_int(i j:Int)(S:Sto):ltF (.val (.int i)) (.val (.int j)) S=.ok (.val (.bl (decide (i<j)))) S:=rfl
theorem lt_str(i j:List Nat)(S:Sto):ltF (.val (.str i)) (.val (.str j)) S=.ok (.val (.bl (decide (i<j)))) S:=rfl
theorem yX{b:Int}(h:0<b)(h2:b<1073741824)(a:Int)(S:Sto):dW (.val (.int a)) (.val (.int b)) S=.ok (.val (.int (a / b))) S:=by
 refine iP ⟨h,?_⟩
 have h3:b.natAbs<2 ^ 30:=by omega
 have:=(log2_lt (by omega:b.natAbs≠0)).mpr h3
 omega
theorem mod_lit{b:Int}(h:0<b)(a:Int)(S:Sto):jB (.val (.int a)) (.val (.int b)) S=.ok (.val (.int (a % b))) S:=iP h
theorem zOE{b:Int}(h: -(2 ^ 64)<b/\b<2 ^ 64)(a:Int)(S:Sto):zQS (.val (.int a)) (.val (.int b)) S=.ok (.val (.int (a * b))) S:=iP (Or.inr (Or.inl h))
theorem yGE{a:Int}(h: -(2 ^ 64)<a/\a<2 ^ 64)(b:Int)(S:Sto):zQS (.val (.int a)) (.val (.int b)) S=.ok (.val (.int (a * b))) S:=iP (Or.inl h)
theorem yJU{a b:Int}(h:yCZ a b)(S:Sto):zKC (.val (.int a)) (.val (.int b)) S=.ok (.val (.int (a ^ b.toNat))) S:=iP h
theorem yJV(ρ:Rho)(i:Nat)(d:MV)(S:Sto):zTA ρ i (.val d) S=.ok (.next (ρ.set i (some d))) S:=rfl
theorem yJW(ρ:Rho)(i:Nat)(ds:List MV)(S:Sto):zTA ρ i (.new ds) S=.ok (.next (ρ.set i (some (.loc S.length)))) (S++[.lst ds]):=rfl
theorem yJX(S:Sto):zU [] S=([],S):=rfl
theorem yJY(d:MV)(rs:List Er)(S:Sto):zU (.val d::rs) S=(d::(zU rs S).1,(zU rs S).2):=rfl
theorem zC{F G:AY}{ρ ρ':Rho}{S S':Sto}(h:F ρ S=.ok (.next ρ') S'):zO F G ρ S=G ρ' S':=by unfold zO;rw [h];rfl
theorem wF{F G:AY}{ρ:Rho}{S S':Sto}{r:Er}(h:F ρ S=.ok (.ret r) S'):zO F G ρ S=.ok (.ret r) S':=by unfold zO;rw [h];rfl
theorem wD(S:Sto):stay [] S:=bE
theorem yZ{gf:MV->Rho->Sto->R Rho}{b:AY}{gs:List (Nat×List MV)}{d:MV}{ds:List MV}{ρ ρ0 ρ':Rho}{S0 S':Sto}(hg:gf d ρ S=.ok ρ0 S0)(h:b ρ0 S0=.ok (.next ρ') S')(hs:stay gs S'):cO gf b gs (d::ds) ρ S=cO gf b gs ds ρ' S':=by
 conv=>lhs;unfold cO
 rw [hg,bok,h,bok]
 dsimp only
 rw [iP hs]
theorem dI{α:Type}{xs:List α}{i:Int}(h0:0<=i)(h1:i<xs.length): ∃c,atI xs i=some c:=by
 refine⟨xs[i.toNat]'(by omega),?_⟩
 unfold atI ixN
 rw [iP h0,iP h1]
 exact gE0 _
theorem dL{α:Type}{P:α->Prop}{xs:List α}{i:Int}{e:α}(h: ∀e∈xs,P e)(z:atI xs i=some e):P e:=by
 unfold atI at z
 cases q:ixN xs.length i with
 |none=>rw [q]at z;cases z
 |some j=>rw [q]at z;exact h e (mem_of_getElem? (show xs[j]? =some e from z))
theorem ix_str{x:List Nat}{i:Int}{c:Nat}(h:x.length<=sizeLine)(hk:atI x i=some c):ixF (.val (.str x)) (.val (.int i)) S=.ok (.val (.str [c])) S:=by
 show(if x.length<=sizeLine then match atI x i with |some c=>R.ok (Er.val (.str [c])) S|none=>.no else .no)=_
 rw [iP h,hk]
theorem ix_tup{ds:List MV}{i:Int}{d:MV}(hk:atI ds i=some d):ixF (.val (.tup ds)) (.val (.int i)) S=.ok (.val d) S:=by
 show(match atI ds i with |some d=>R.ok (Er.val d) S|none=>.no)=_
 rw [hk]
theorem nH{l:Nat}{ds:List MV}{i:Int}{d:MV}(hS:S[l]? =some (.lst ds))(hk:atI ds i=some d):ixF (.val (.loc l)) (.val (.int i)) S=.ok (.val d) S:=by
 have e:cP S (.val (.loc l))=some ds:=by unfold cP;dsimp only;rw [hS]
 show(match cP S (.val (.loc l))with |some ds=>getL ds (.val (.int i)) S|none=>.no)=_
 rw [e]
 show(match atI ds i with |some d=>R.ok (Er.val d) S|none=>.no)=_
 rw [hk]
theorem zIO{l:Nat}{ds:List MV}(hS:S[l]? =some (.lst ds)):jS [.val (.loc l)] S=.ok (.val (.int ds.length)) S:=by
 have e:cP S (.val (.loc l))=some ds:=by unfold cP;dsimp only;rw [hS]
 have e2:itemsOf S (.val (.loc l))=some ds:=by unfold itemsOf;exact e
 show(match itemsOf S (.val (.loc l))with |some ds=>R.ok (Er.val (.int ds.length)) S|none=>.no)=_
 rw [e2]
theorem zEN{l:Nat}{ds:List MV}(hS:S[l]? =some (.lst ds)):cP S (.val (.loc l))=some ds:=by unfold cP;dsimp only;rw [hS]
theorem zTN{l:Nat}{ds:List MV}(hS:S[l]? =some (.lst ds)):lsW S (.val (.loc l))=some ds:=by unfold lsW;dsimp only;rw [hS]
theorem zOF{l:Nat}{ds:List MV}(hS:S[l]? =some (.lst ds)):itL (.val (.loc l)) S=.ok ⟨ds,[(l,ds)]⟩ S:=by unfold itL;dsimp only;rw [hS]
theorem zBB{l:Nat}{ds:List MV}(hS:S[l]? =some (.lst ds)):stay [(l,ds)] S:=λp hp=>by
 have:p=(l,ds):=by simpa using hp
 subst this;exact hS
theorem zHB{j:Int}(h: -(2 ^ 62)<=j/\j<2 ^ 62):zEJ [.val (.int j)] S=.ok ⟨(List.range j.toNat).map λk=>.int (k:Nat),[]⟩ S:=iP h
theorem cut_str{x:List Nat}(h:x.length<=sizeLine)(lo hi:Option Int):zJF (.val (.str x)) lo hi S=.ok (.val (.str (cN x lo hi))) S:=iP h
theorem yBA{α:Type}(x:List α)(k:Int)(h0:0<=k):cN x none (some k)=x.take k.toNat:=by
 unfold cN
 have h1:HT.sIx x.length 0 none=0:=rfl
 rw [h1]
 have h2:HT.sIx x.length x.length (some k)=min k.toNat x.length:=by
  unfold HT.sIx
  simp only
  split<;>omega
 rw [h2,List.drop_zero,Nat.sub_zero]
 by_cases hk:k.toNat<=x.length
 ·rw [Nat.min_eq_left hk]
 ·rw [Nat.min_eq_right (by omega),List.take_length,List.take_of_length_le (by omega)]
theorem fits{n:Nat}(h:n<=1000000):n<=sizeLine:=by rw [sizeLine_eq];exact le_trans h (by decide)
theorem zBC{rs:List Er}(h:rs.length<=1000000):cV rs S=.ok (.new (zU rs S).1) (zU rs S).2:=iP (fits h)
theorem zZC{rs:List Er}(h:rs.length<=1000000):zGU rs S=.ok (.val (.tup (zU rs S).1)) (zU rs S).2:=iP (fits h)
theorem lst0(S:Sto):cV [] S=.ok (.new []) S:=zBC (by simp)
theorem lst1(a:MV)(S:Sto):cV [.val a] S=.ok (.new [a]) S:=zBC (by simp)
theorem lst2(a b:MV)(S:Sto):cV [.val a,.val b] S=.ok (.new [a,b]) S:=zBC (by simp)
theorem lst3(a b c:MV)(S:Sto):cV [.val a,.val b,.val c] S=.ok (.new [a,b,c]) S:=zBC (by simp)
theorem lst6(a b c d e f:MV)(S:Sto):cV [.val a,.val b,.val c,.val d,.val e,.val f] S=.ok (.new [a,b,c,d,e,f]) S:=zBC (by simp)
theorem tup2(a b:MV)(S:Sto):zGU [.val a,.val b] S=.ok (.val (.tup [a,b])) S:=zZC (by simp)
theorem tup3(a b c:MV)(S:Sto):zGU [.val a,.val b,.val c] S=.ok (.val (.tup [a,b,c])) S:=zZC (by simp)
theorem yOR(i:Int)(S:Sto):hZ [.val (.int i),.val (.typ "str")] S=.ok (.val (.bl false)) S:=rfl
theorem yOS(i:List Nat)(S:Sto):hZ [.val (.str i),.val (.typ "str")] S=.ok (.val (.bl true)) S:=rfl
theorem yOT(i:Int)(S:Sto):hZ [.val (.int i),.val (.typ "tuple")] S=.ok (.val (.bl false)) S:=rfl
theorem yOU(i:List Nat)(S:Sto):hZ [.val (.str i),.val (.typ "tuple")] S=.ok (.val (.bl false)) S:=rfl
theorem yOV(i:List MV)(S:Sto):hZ [.val (.tup i),.val (.typ "tuple")] S=.ok (.val (.bl true)) S:=rfl
theorem yOW(i:Bool)(S:Sto):hZ [.val (.bl i),.val (.typ "bool")] S=.ok (.val (.bl true)) S:=rfl
theorem bF{gf:MV->Rho->Sto->R Rho}{cf:AZ}{ef:AX}{ρb:Rho}{gs:List (Nat×List MV)}{F:MV->MV}(hs:stay gs S):
  ∀{ds:List MV},(∀d∈ds, ∃ρ1,gf d ρb S=.ok ρ1 S/\cf ρ1 S=.ok true S/\ef ρ1 S=.ok (.val (F d)) S)->xG gf cf ef ρb gs ds S=.ok (ds.map F) S
 |[],_=>rfl
 |d::ds,st=>by
  obtain⟨ρ1,h1,h2,h3⟩:=st d mF0
  have e:=bF hs (ds:=ds) λd hd=>st d (mO _ hd)
  unfold xG
  rw [h1,wB,bok,h2,wB,bok,iP rfl,h3,wB,bok]
  unfold nG
  rw [bok,iP hs,e]
  rfl
def Nm(x:List Nat):Prop:=1<=x.length/\x.length<=8/\ ∀c∈x,97<=c/\c<=122
def Vl:MV->Prop
 |.int i=> -(10 ^ 30)<i/\i<10 ^ 30
 |.str x=>Nm x
 |_=>False
theorem Vl.cases{d:MV}(h:Vl d):(∃i,d=.int i/\ -(10 ^ 30)<i/\i<10 ^ 30)\/ ∃x,d=.str x/\Nm x:=by
 cases d with
 |int i=>exact .inl ⟨i,rfl,h⟩
 |str x=>exact .inr ⟨x,rfl,h⟩
 |_=>exact h.elim
theorem Vl.lo{d:MV}(h:Vl d)(n:Nat):lo n d:=by
 rcases h.cases with⟨i,rfl,_⟩|⟨x,rfl,_⟩
 ·exact zPL n i
 ·exact gP n x
end
def Ite(K:PySem.W.Frag)(k:Bool)(l:Addr):It:=
 ⟨λi H=> ∃xs x,SqK k K H l xs/\xs[i]? =some x,
   λi H v H'=> ∃p x,H p=none/\v=.ref p/\H'=upd H p (.tup [.int (i:Nat),x])/\(∀xs,SqK k K H l xs->xs[i]? =some x),
   λi H=> ∃xs,SqK k K H l xs/\xs.length<=i⟩
section
variable{prog:Program}{w:World}{A:Around}{E:VP}{s:Shared}{k:Bool}{e it l:Addr}{i:Nat}{its:Array Value}
theorem yDG(hl:IsSeq k s.heap l its){Q:VP}
  (h: ∀h',EnSt k (s.heap.objs.size+1) s.heap.objs.size l 0 h'->(∀c o,s.heap.get? c=some o->h'.get? c=some o)->Q (.ref (s.heap.objs.size+1)) {s with heap:=h'}):
  wpAny (model prog w) A (call (.type "enumerate") [.ref l]) Q E s:=by
 refine callType_new F.called_enumerate (by decide) (F.typeCall_enumerate_1 _) (F.newCall_enumerate_1 _) (λobj=>F.args_object_init_2 obj _) F.entry_enumerate_new (zYZ k l its) ⟨hl,?_⟩
 have hz:(s.heap.push (zFF k l)).objs.size=s.heap.objs.size+1:=Heap.size_push ..
 show _/\_
 have he:IsEnum ((s.heap.push (zFF k l)).push {cls:=.type "enumerate",data:=.fields #[.none,.bool false,.ref s.heap.objs.size,rawInt 0,.none,.none]}) (s.heap.objs.size+1) s.heap.objs.size 0 .none:=by
  have:=Heap.get?_push_size (s.heap.push (zFF k l)) (o:={cls:=.type "enumerate",data:=.fields #[.none,.bool false,.ref s.heap.objs.size,rawInt 0,.none,.none]}) rfl
  rw [hz]at this;exact this
 refine⟨⟨_,he,rfl⟩,h _ ⟨⟨.none,he⟩,IsSub.mk' (hP0 _ (Heap.get?_push_size _ rfl))⟩ λb o x=>hP0 _ (hP0 _ x)⟩
end
theorem yDH{P:Program}{w:World}{K:PySem.W.Frag}{elts:List Expr}{kt:Nat}{pt:Pos}{k:Bool}{e it l:Addr}(hne:e≠it):
  Turn P w K (.Tuple elts kt pt) (Ite K k l) [e,it] e (λi h=>EnSt k e it l i h) where
 mem:=by simp
 obj:=λi h st b hb=>by
  obtain⟨⟨old,he⟩,hs⟩:=st
  have hb':b=e\/b=it:=by simpa using hb
  rcases hb' with rfl|rfl
  ·exact⟨_,he,λv q=>by cases q⟩
  ·exact hs.there
 keep:=λi h h' st kk=>by
  obtain⟨⟨old,he⟩,hs⟩:=st
  exact⟨⟨old,kk e (by simp) _ he⟩,hs.move λo q=>kk it (by simp) o q⟩
 item:=by
  intro X hP hw hK hc i pins s σ H E I hf st hg
  subst hP hw hK
  obtain⟨xs,x,q1,hx⟩:=hg
  obtain⟨its,r1,p1,_⟩:=I.seqK q1
  obtain⟨u,hu,ru⟩:=r1.get hx
  obtain⟨⟨old,he⟩,hs⟩:=st
  have hT:s.TypeIs (.ref e) "enumerate":=⟨_,he,rfl⟩
  unfold pyNext
  refine wB0 (wpAny_attempt (wpAny_callSpecial?_slot (name:=Str.ofString "__next__") hT F.slot_enumerate_next (wpAny_call_entry F.slot_enumerate_next hT F.entry_enumerate_next
   (yJO he hs p1 (x:=u) (by simpa using hu) hne λh' a1 a2 a3 a4=>wP0 ⟨_,rfl,?_⟩) (F.args_enumerate_next_1 _))))
  refine wpAny_letOwnedTupleGo_enum a1 λh2 z2 sb2=>?_
  have hpn:H s.heap.objs.size=none:=I.hok.fresh (le_refl _)
  have I0:Inv X pins σ (upd H s.heap.objs.size (.tup [.int (i:Nat),x])) {s with heap:=s.heap.push {cls:=.type "tuple",data:=.seq #[.int i s.toks,u]},toks:=s.toks+1}:=
   I.laid (t':=s.toks+1) (o:=.tup [.int (i:Nat),x]) (λb o e=>hP0 _ e) (le_refl _) ⟨by show 2<=sizeLine;decide,[.int i s.toks,u],.cons ⟨_,rfl⟩ (.cons ru .nil),⟨_,Heap.get?_push_size _ rfl,rfl,_,rfl⟩⟩
  have lt: ∀b∈[e,it],b<s.heap.objs.size:=λb hb=>by
   have hb':b=e\/b=it:=by simpa using hb
   rcases hb' with rfl|rfl
   ·exact Heap.lt_size he
   ·obtain⟨o,eo,_⟩:=hs.there;exact Heap.lt_size eo
  have fr: ∀b∈[e,it],upd H s.heap.objs.size (.tup [.int (i:Nat),x]) b=none:=λb hb=>by rw [yG (ne_of_lt (lt b hb))];exact(hf b hb).1
  have mv: ∀b o,b∉[e,it]->(s.heap.push {cls:=.type "tuple",data:=.seq #[.int i s.toks,u]}).get? b=some o->h2.get? b=some o:=λb o hb eo=>by
   simp only [mC,nM0,or_false,not_or]at hb
   refine sb2.extBut _ _ hb.1 ?_
   by_cases hbs:b=s.heap.objs.size
   ·subst hbs
    rw [Heap.get?_push_size _ rfl]at eo
    cases eo
    exact a3
   ·rw [Heap.get?_push_ne _ _ _ hbs]at eo
    exact a4 b o hb.1 hb.2 eo
  have I2:=I0.turnedL (h':=h2) (t':=s.toks+1) mv λb hb=>let ⟨_,c2,c3,c4,c5,c6⟩:=hf b hb;⟨fr b hb,c2,c3,c4,c5,c6⟩
  refine⟨.ref s.heap.objs.size,_,I2,rfl,⟨s.heap.objs.size,x,hpn,rfl,rfl,λzs hz=>?_⟩,⟨⟨u,?_⟩,?_⟩,fr⟩
  ·rw [I.seqK_inj hz q1];exact hx
  ·simpa using z2
  ·exact a2.move λo eo=>sb2.extBut _ _ (Ne.symm hne) eo
 done:=by
  intro X hP hw hK hc i pins s σ H E I hf st hg
  subst hP hw hK
  obtain⟨xs,q1,hx⟩:=hg
  obtain⟨its,r1,p1,_⟩:=I.seqK q1
  obtain⟨⟨old,he⟩,hs⟩:=st
  have hT:s.TypeIs (.ref e) "enumerate":=⟨_,he,rfl⟩
  have e1:=r1.length
  unfold pyNext
  refine wB0 (wpAny_attempt (wpAny_callSpecial?_slot (name:=Str.ofString "__next__") hT F.slot_enumerate_next (wpAny_call_entry F.slot_enumerate_next hT F.entry_enumerate_next ?_ (F.args_enumerate_next_1 _))))
  show wpAny _ _ (field (.ref e) 2 >>= _) _ _ _
  refine wB0 (wpAny_field he rfl (x:=.ref it) rfl ?_)
  refine wB0 (zTK (I.ok.hd hc) hs p1 (by simp;omega) λh' x hk hx'=>?_)
  obtain⟨o,ho,hcl⟩:=hx'
  refine wB0 (wpAny_isInstance (T:="StopIteration") (b:=true) ⟨o,ho,hcl⟩ isSubtype_stop (wP0 ⟨rfl,?_⟩))
  refine I.turnedL (h':=h') (t':=s.toks) (λb o hb eo=>?_) hf
  simp only [mC,nM0,or_false,not_or]at hb
  exact hk b o hb.2 eo
 self:=λ_ _ _ _ _ st h=>let ⟨⟨_,he⟩,_⟩:=st;wpAny_pyIter_enum he h
def iEnum(K:PySem.W.Frag)(ta:TA):TI:=λσ H R=>ta σ H λvs H1=> ∃k l,vs=[.ref l]/\(∃xs,SqK k K H1 l xs)/\R (Ite K k l) H1
section
variable{X:Cx}{W:XW}{a:Expr}{elts:List Expr}{kt:Nat}{pt p pos:Pos}{ta:TA}{af:Rho->Sto->R (List Er)}
theorem yJZ(hg:Gl X "enumerate")(hm:X.mg "enumerate"=none)(ha:PA X [a] ta)(hs:starEach [a] X.env=[(false,eval a X.env)]:=by rfl):
  PI X (.Tuple elts kt pt) (.Call (.Name "enumerate" p) [a] [] pos) (iEnum X.K ta):=by
 intro pins s σ H R I h
 refine Call_ (zLP I hg hm yJN (PyProof.Rows.callWith_type1 (thn (ha pos pins s σ H _ I h) λus s1 ⟨vs,H1,I1,r1,q1⟩=>?_) (by rw [hs];rfl) (by rfl)))
 obtain⟨k,l,rfl,⟨xs,c1⟩,q⟩:=q1
 cases r1 with
 |cons r rr=>
  cases rr
  cases r
  obtain⟨its,v1,p1,_⟩:=I1.seqK c1
  refine yDG p1 λh' st hk=>let ⟨⟨_,he⟩,_⟩:=id st;wpAny_pyIter_enum he ?_
  have I2:Inv X pins σ H1 {s1 with heap:=h'}:=I1.kept (t':=s1.toks) hk
  refine⟨_,_,_,_,H1,rfl,I2,yDH (ne_of_gt (lt_succ_self _)),st,λb hb=>?_,q⟩
  have hle:s1.heap.objs.size<=b:=by
   have hb':b=s1.heap.objs.size+1\/b=s1.heap.objs.size:=by simpa using hb
   rcases hb' with h|h<;>rw [h]<;>(first |exact le_refl _|exact Nat.le_add_right _ _)
  exact I1.fpOk hle (I1.hok.fresh hle)
def zTO(xs:List MV):List MV:=xs.zipIdx.map λp=>.tup [.int (p.2:Nat),p.1]
def itE(rs:List Er)(S:Sto):R Wk:=match rs with
 |[p]=>match srcOf S p with
  |some a=>.ok ⟨zTO a.ds,a.gs⟩ S
  |none=>.no
 |_=>.no
theorem yKA(hg:Gl X "enumerate")(hm:X.mg "enumerate"=none)(ha:PAm X W [a] af)(hs:starEach [a] X.env=[(false,eval a X.env)]:=by rfl):
  PIm X W (.Tuple elts kt pt) (.Call (.Name "enumerate" p) [a] [] pos) (λρ S=>(af ρ S).bind itE):=by
 obtain⟨t,ha,k⟩:=ha
 refine⟨_,yJZ hg hm ha hs,λα ρ S σ H Rc wd sl q=>k α ρ S σ H _ wd sl (q.bind λvs rs S1 α1 H1 e x1 w1 d1 q1=>?_)⟩
 replace q1:=q1.shift x1
 unfold itE at q1
 split at q1
 ·rename_i r1
  split at q1
  ·rename_i s1 e1
   obtain⟨u,rfl,du⟩:=zNB d1
   obtain⟨l1,P1,rfl,p1,D1⟩:=zPJ w1 e1 du
   have g1:=D1.get _ _ _ p1
   have hlen:(zTO s1.ds).length=s1.ds.length:=by unfold zTO;rw [lM,List.length_zipIdx]
   refine⟨s1.k,l1,rfl,⟨_,g1.choose_spec.1⟩,q1.here (u:=Ite X.K s1.k l1) w1 ⟨λα S H=>P1 α S H,?_,p1,?_,?_⟩⟩
   ·intro i α2 S2 H2 b1 w2
    obtain⟨us,c1,c2⟩:=D1.get _ _ _ b1
    have hl:=c2.length
    refine⟨λhi=>?_,λhi=>?_⟩
    ·have hi:i<(zTO s1.ds).length:=hi
     have h1:i<us.length:=by omega
     refine⟨⟨us,us[i],c1,gE0 h1⟩,?_⟩
     rintro x H' ⟨pp,xx,hp,rfl,rfl,hx⟩
     obtain⟨d,hd,dd⟩:=c2.get (hx us c1)
     have xn:=w2.newx (o:=.tup [.int (i:Nat),xx]) hp
     have wn:=w2.new (o:=.tup [.int (i:Nat),xx]) hp
     refine⟨xn,wn,D1.stays _ _ _ _ _ _ b1 xn wn (D1.st _ _ _ b1),.tup [.int (i:Nat),d],?_,?_⟩
     ·unfold zTO;rw [getElem?_map,List.getElem?_zipIdx,hd];simp
     ·exact zBZ (.of wL) (yO (xM _) (yO (dd.ext xn) xF))
    ·have hi:(zTO s1.ds).length<=i:=hi
     exact⟨us,c1,by omega⟩
   ·intro α1 S1 H1 α2 S2 H2 b1 x w hs
    exact D1.stays _ _ _ _ _ _ b1 x w hs
   ·exact D1.st _ _ _ p1
  ·exact q1.elim
 ·exact q1.elim
end
noncomputable instance:DecidableEq MV:=λ_ _=>Classical.propDecidable _
noncomputable def look(kvs:List (MV×MV))(k:MV):Option MV:=(kvs.find? λp=>decide (p.1=k)).map (·.2)
noncomputable def putK(kvs:List (MV×MV))(k d:MV):List (MV×MV):=if(look kvs k).isSome=true then kvs.map (λp=>if p.1=k then(p.1,d)else p)else kvs++[(k,d)]
section
variable{X:Cx}{pins:List (Addr×Obj)}{σ:St}{H:Hp}{s:Shared}{α:List Addr}
theorem yDI(p:MV×MV)(kvs:List (MV×MV))(k:MV):look (p::kvs) k=if p.1=k then some p.2 else look kvs k:=by
 unfold look
 rw [List.find?_cons]
 by_cases h:p.1=k
 ·rw [dT0 h,iP h];rfl
 ·rw [dF0 h,iN h]
end
section
variable{X:Cx}{W:XW}{a b o i:Expr}{f g:AX}{pos:Pos}
theorem yOX{pins:List (Addr×Obj)}{σ:St}{H:Hp}{s:Shared}(I:Inv X pins σ H s):sysModules<s.heap.objs.size:=lt_trans (by decide) ((I.mod.glob.keeps I.bk).lt)
theorem Wd.put{gg:Gm}{α:List Addr}{S:Sto}{H:Hp}{p:Addr}{ho:HO}{m:MO}(w:Wd gg α S H)(hp:H p=none)(q:ObD gg (α++[p]) (upd H p ho) p m):Ext α H (α++[p]) (upd H p ho)/\Wd gg (α++[p]) (S++[m]) (upd H p ho):=by
 have x:=w.newx (o:=ho) hp
 have nw:=w.new (o:=ho) hp
 have np:=w.fresh hp
 refine⟨⟨⟨⟨[p],rfl⟩,x.tup,x.frz⟩,λb hb=>?_,x.keep,x.has⟩,⟨?_,?_,λl c ob h1 h2=>?_⟩⟩
 ·rcases mem_append.mp hb with h|h
  ·exact .inl h
  ·rw [mS.mp h];exact .inr hp
 ·rw [lA,lA,w.len];rfl
 ·exact List.nodup_append.mpr ⟨w.nd,by simp,λa ha c hc=>by rw [mS.mp hc];rintro rfl;exact np ha⟩
 ·by_cases hl:l<α.length
  ·rw [getElem?_append_left hl]at h1
   rw [getElem?_append_left (by rw [<-w.len];exact hl)]at h2
   exact(nw.obj l c ob h1 h2).move (Ex0.grow α [p] _) rfl
  ·have hl':l=α.length:=by
    have:=(gS0.mp h1).1
    rw [lA,lS]at this
    omega
   subst hl'
   rw [getElem?_append_right (le_refl _),sub_self]at h1
   rw [getElem?_append_right (by rw [w.len];exact le_refl _),w.len,sub_self]at h2
   cases h1;cases h2
   exact q
def yGF(S:Sto):R Er:=.ok (.val (.loc S.length)) (S++[.dic []])
theorem yGG:PEm X W (.Dict [] [] pos) (λ_ S=>yGF S):=by
 refine⟨λσ H Q=> ∀p,H p=none->Q (.ref p) (upd H p (.dK [])),λpins s σ H Q I h=>?_,λα ρ S σ H Q wd sl q p hp=>?_⟩
 ·exact wpAny_Dict_empty ⟨.ref s.heap.objs.size,_,I.laid (a:=s.heap.objs.size) (o:=.dK []) (t':=s.toks) (λ_ _ q=>hP0 _ q) (le_refl _)
   ⟨zero_le _,beq_eq_false_iff_ne.mpr (Ne.symm (ne_of_lt (yOX I))),[],.nil,Heap.DictOf.new s.heap⟩,rfl,h _ (I.hok.fresh (le_refl _))⟩
 ·obtain⟨x,w'⟩:=wd.put (ho:=.dK []) (m:=.dic []) hp (.inl ⟨[],wL,.nil⟩)
  exact q (.ref p) (α++[p]) _ x w' (DenE.val (zOA (by rw [<-wd.len,getElem?_append_right (le_refl _),sub_self];rfl)))
theorem DenN.length{α:List Addr}{H:Hp}: ∀{kvs xs},DenN X.K α H kvs xs->xs.length=kvs.length
 |_,_,.nil=>rfl
 |_,_,.cons _ _ _ _ _ l=>by rw [lC,lC,DenN.length l]
end
theorem yLP{P:Program}{w:World}{K:PySem.W.Frag}{mg:Str->Option Value}{base:Heap}{k m:Nat}{f:Addr}{fd:FuncData}{ps:List Str}{g:Gm}:FnOk P w K mg base CX0 k f fd ps (spM g m λ_ _=>.no):=
 ⟨λvs H Q E ⟨_,_,_,_,_,_,q⟩=>q.elim,λ_ _ _ _ _ _ _ _ _ _ _ _ _ ⟨_,_,_,_,_,_,q⟩=>q.elim⟩
def FsD(g:Gm)(α:List Addr)(H:Hp)(d:Option Addr)(fs:List (Str×MV)):Prop:=fs=[]\/ ∃dx gs od,d=some dx/\H dx=some (.frz od (.xd gs))/\DenF g.K α H fs gs
abbrev WE(g:Gm)(E:XK):XW:=λc fs _ α H=> ∀C d,g.mg c=some (.ref C)->FsD g α H d fs->E (.ref C) d H
def yOY:MV->Bool
 |.non=>true
 |.bl _=>true
 |.int _=>true
 |.str _=>true
 |_=>false
theorem Post.wmono{β τ:Type}[Dn β τ]{g:Gm}{W W':XW}{α:List Addr}{H:Hp}(f: ∀c fs S α' H',W c fs S α' H'->W' c fs S α' H'): ∀{m:R β}{Q:τ->Hp->Prop},Post g W α H m Q->Post g W' α H m Q
 |.ok b S,Q,q=>q
 |.exc c fs S,_,q=>λα' H' x w=>f _ _ _ _ _ (q α' H' x w)
 |.no,_,q=>q
def XCl(K:PySem.W.Frag)(C:Addr)(bm:List Value)(init:Option Value):Prop:=
 ∃nm q N bs hd sn sub ab col dd k0 k1 k2 k3 k5,K.lookup C=some (excClassObj nm q C N bs bm hd sn sub ab col dd k0 k1 k2 k3 k5 "ValueError.__new__")/\PySem.W.nsOkIn K N=true/\PySem.W.nsIn K N "__init__"=some init/\(∀n∈qn,PySem.W.nsIn K N n=some none)/\hd=true
def XEach(K:PySem.W.Frag)(mg:Str->Option Value)(M:Addr):List (Str×Addr)->Prop
 |[]=>True
 |(c,C)::r=>(mg c=some (.ref C)/\ ∃i,XCl K C (.ref M::bmV) i)/\XEach K mg M r
theorem XEach.at{K:PySem.W.Frag}{mg:Str->Option Value}{M:Addr}: ∀{cs:List (Str×Addr)},XEach K mg M cs-> ∀{c C},(c,C)∈cs->mg c=some (.ref C)/\ ∃i,XCl K C (.ref M::bmV) i
 |(c,C)::r,h,c',C',z=>by
  rcases mC.mp z with z|z
  ·cases z;exact h.1
  ·exact XEach.at h.2 z
def spX(g:Gm)(n:Nat)(F:List MV->Sto->R Er):Sp:=λvs H Q E=> ∃α S ds,Wd g α S H/\DenL g.K α H ds vs/\ds.length=n/\Post g (WE g E) α H (F ds S) Q
noncomputable def yBB(n:Nat)(F:List MV->Sto->R Er)(rs:List Er)(S:Sto):R Er:=if rs.length=n then(match F (zU rs S).1 (zU rs S).2 with
 |.ok r S2=>zEK S r S2
 |.exc c fs S2=>if fs.all (λp=>yOY p.2)=true then(zEK S (.val .non) S2).bind λ_ S3=>.exc c fs S3 else .no
 |.no=>.no)else .no
section
variable{P:Program}{w:World}{K:PySem.W.Frag}{mg:Str->Option Value}{base:Heap}
theorem _root_.L2.FnOk.noX{k n:Nat}{f:Addr}{fd:FuncData}{ps:List Str}{g:Gm}{F:List MV->Sto->R Er}(G:FnOk P w K mg base (CXe P w) k f fd ps (spX g n F)):FnOk P w K mg base CX0 k f fd ps (spM g n F):=by
 have up: ∀{vs H Q}, ∀{E},spM g n F vs H Q E->spX g n F vs H Q E0:=λ⟨α,S,ds,h1,h2,h3,h4⟩=>⟨α,S,ds,h1,h2,h3,h4.wmono λ_ _ _ _ _ z=>z.elim⟩
 refine⟨λvs H Q E h=>G.len vs H Q E0 (up h),λA outer s H args us vs Q E hr e0 hb hv h=>codeAny_mono (G.run A outer s H args us vs Q E0 hr e0 hb hv (up h)) λr s' hq=>?_⟩
 cases r with
 |error e=>
  obtain⟨_,_,_,_,_,_,_,_,_,_,_,_,_,_,_,z⟩:=hq
  exact z
 |ok fl=>cases fl<;>exact hq
end
end M
end L2
namespace L2
open PySem PySem.Spec PyProof.Rows
structure Out(X:Cx)(pins:List (Addr×Obj))(H:Hp)(s:Shared)(b:Addr):Prop where
 s0:X.s₀.heap.get? b=none
 h:H b=none
 pin: ∀p∈X.pn++pins,p.1≠b
 fld: ∃o vs,s.heap.get? b=some o/\o.data=.fields vs
section
variable{X:Cx}{pins:List (Addr×Obj)}{σ:St}{H:Hp}{s:Shared}{e T b:Addr}{h':Heap}
theorem Out.ne(o:Out X pins H s b){c:Addr}{oc:Obj}(hc:s.heap.get? c=some oc)(nf: ∀vs,oc.data≠.fields vs):c≠b:=λz=>by
 obtain⟨ob,vs,h1,h2⟩:=o.fld
 rw [z,h1]at hc;cases hc
 exact nf vs h2
theorem Out.loc(o:Out X pins H s b)(I:Inv X pins σ H s):X.env.locals≠b:=by
 obtain⟨m,⟨oL,es,ep,h1,h2,_⟩,_⟩:=I.loc
 exact o.ne h1 λvs z=>by rw [h2]at z;cases z
end
end L2
namespace L2
namespace M
open PySem PySem.Spec PyProof.Rows
def endF(i:Nat):Fl->Sto->R Fl
 |.next ρ,S=>.ok (.next (ρ.set i none)) S
 |.ret r,S=>.ok (.ret r) S
 |.brk ρ,S=>.ok (.brk (ρ.set i none)) S
 |.cont ρ,S=>.ok (.cont (ρ.set i none)) S
def tryF(ns:List Str)(i:Nat)(kn:Er->Sto->R Fl)(Fh:AY)(ρ:Rho):R Er->R Fl
 |.ok r S=>kn r S
 |.exc c fs S=>if c∈ns then(noX (Fh (ρ.set i (some (.loc S.length))) (S++[.ins c fs]))).bind (endF i)else .no
 |.no=>.no
section
variable{X:Cx}{W:XW}{tg iter a:Expr}{f:AX}{af:Rho->Sto->R (List Er)}{e:Expr}{es:List Expr}{pos apos:Pos}
def Itq(K:PySem.W.Frag)(k:Bool)(a:Addr):It:=if k=true then Itl K a else Itt K a
def iSeq(K:PySem.W.Frag)(tl:TE):TI:=λσ H R=>tl σ H λx H1=> ∃k a,x=.ref a/\(∃xs,SqK k K H1 a xs)/\R (Itq K k a) H1
theorem yOZ{l:Expr}{tl:TE}(hl:PE X l tl):PI X tg l (iSeq X.K tl):=by
 intro pins s σ H R I h
 refine thn (hl pins s σ H _ I h) λv s1 ⟨x,H1,I1,r1,q1⟩=>?_
 obtain⟨k,a,e,⟨xs,hq⟩,q⟩:=q1
 subst e
 cases r1
 cases k with
 |true=>
  obtain⟨its,rv,p,hz⟩:=I1.list (show SqL X.K H1 a xs from hq)
  refine wpAny_pyIter_list p.isList ?_
  refine⟨s1.heap.objs.size,[s1.heap.objs.size],_,_,H1,rfl,I1.kept (t':=s1.toks) λb o e=>hP0 _ e,zRK a _,⟨_,Heap.get?_push_size _ rfl,rfl,rfl⟩,λb hb=>?_,q⟩
  have e:b=s1.heap.objs.size:=by simpa using hb
  subst e
  exact I1.fpOk (le_refl _) (I1.hok.fresh (le_refl _))
 |false=>
  obtain⟨its,rv,p,hz⟩:=I1.tuple (show SqT X.K H1 a xs from hq)
  refine wpAny_pyIter_tuple (show s1.heap.IsTuple a its.toArray from p) ?_
  refine⟨s1.heap.objs.size,[s1.heap.objs.size],_,_,H1,rfl,I1.kept (t':=s1.toks) λb o e=>hP0 _ e,zOM a _,⟨_,Heap.get?_push_size _ rfl,rfl,rfl⟩,λb hb=>?_,q⟩
  have e:b=s1.heap.objs.size:=by simpa using hb
  subst e
  exact I1.fpOk (le_refl _) (I1.hok.fresh (le_refl _))
def itQ(r:Er)(S:Sto):R Wk:=match srcOf S r with
 |some q=>.ok ⟨q.ds,q.gs⟩ S
 |none=>.no
theorem yGH(he:PEm X W iter f):PIm X W tg iter (λρ S=>(f ρ S).bind itQ):=by
 obtain⟨t,he,k⟩:=he
 refine⟨_,yOZ he,λα ρ S σ H Rc wd sl q=>k α ρ S σ H _ wd sl (q.bind λu p S1 α1 H1 e x1 w1 d1 q1=>?_)⟩
 replace q1:=q1.shift x1
 unfold itQ at q1
 split at q1
 ·rename_i q e1
  obtain⟨l1,P1,rfl,p1,D1⟩:=zPJ w1 e1 d1.1
  have g1:=D1.get _ _ _ p1
  refine⟨q.k,l1,rfl,⟨_,g1.choose_spec.1⟩,q1.here (u:=Itq X.K q.k l1) w1 ⟨λα S H=>P1 α S H,?_,p1,λα1 S1 H1 α2 S2 H2 b1 x w hs=>D1.stays _ _ _ _ _ _ b1 x w hs,D1.st _ _ _ p1⟩⟩
  intro i α2 S2 H2 b1 w2
  obtain⟨us,c1,c2⟩:=D1.get _ _ _ b1
  obtain⟨qk,qd,qg⟩:=q
  cases qk with
  |true=>
   obtain⟨i1,i2⟩:=zKZ (X:=X) (a:=l1) (ds:=qd) i α2 S2 H2 ⟨us,c1,c2⟩ w2
   refine⟨λhi=>⟨(i1 hi).1,λx H' y=>?_⟩,i2⟩
   obtain⟨j1,j2,j3,j4⟩:=(i1 hi).2 x H' y
   obtain⟨rfl,_⟩:=y
   exact⟨j1,j2,b1,j4⟩
  |false=>
   obtain⟨i1,i2⟩:=yAL (X:=X) (a:=l1) (ds:=qd) i α2 S2 H2 ⟨us,c1,c2⟩ w2
   refine⟨λhi=>⟨(i1 hi).1,λx H' y=>?_⟩,i2⟩
   obtain⟨j1,j2,j3,j4⟩:=(i1 hi).2 x H' y
   obtain⟨rfl,_⟩:=y
   exact⟨j1,j2,b1,j4⟩
 ·exact q1.elim
def popF(p:Er)(rs:List Er)(S:Sto):R Er:=match p,rs with
 |.val (.loc l),[.val (.int i)]=>match S[l]? with
  |some (.lst ds)=>if -(2 ^ 63)<=i/\i<2 ^ 63 then match ixN ds.length i with
   |some j=>match ds[j]? with
    |some d=>.ok (.val d) (S.set l (.lst (ds.eraseIdx j)))
    |none=>.no
   |none=>.no
   else .no
  |_=>.no
 |_,_=>.no
def zPM:List MV->Option (List String)
 |[]=>some []
 |.typ n::r=>if known n=true then(zPM r).map (n::·)else none
 |_=>none
def zWE:List Er->Sto->R Er
 |[r,.val (.tup ts)],S=>match zCP S r with
  |some t=>match zPM ts with
   |some ns=>.ok (.val (.bl (ns.any (zQV t)))) S
   |none=>.no
  |none=>.no
 |_,_=>.no
end
section
variable{X:Cx}{W:XW}{a b o i:Expr}{f g:AX}{pos:Pos}{pins:List (Addr×Obj)}{σ:St}{H:Hp}{s:Shared}{α:List Addr}
def Kinds(t:String):Prop:=t="NoneType"\/t="bool"\/t="int"\/t="str"\/t="tuple"\/t="list"
theorem yPA{S:Sto}{r:Er}{x:V}{u:Value}{t:String}(I:Inv X pins σ H s)(wd:Wd X.g α S H)(d:DenX X.K α H r x)(rx:RelV x u)(et:zCP S r=some t):
  ∃Hh:Heap->Prop,PySem.W.KitX X.K u (.type t) Hh/\Hh s.heap/\u≠.builtin "__main__.__loader__#opaque"/\Kinds t:=by
 unfold zCP at et
 split at et
 ·cases et
  cases zKA d
  cases rx
  exact⟨_,PySem.W.kitx_none,True.intro,(λz=>nomatch z),.inl rfl⟩
 ·cases et
  cases zEH d
  cases rx
  exact⟨_,PySem.W.kitx_bool,True.intro,(λz=>nomatch z),.inr (.inl rfl)⟩
 ·cases et
  cases yW d
  obtain⟨t,rfl⟩:=rx
  exact⟨_,PySem.W.kitx_int,True.intro,(λz=>nomatch z),.inr (.inr (.inl rfl))⟩
 ·cases et
  cases xC d
  obtain⟨t,rfl⟩:=rx
  exact⟨_,PySem.W.kitx_str,True.intro,(λz=>nomatch z),.inr (.inr (.inr (.inl rfl)))⟩
 ·cases et
  obtain⟨a,vs,rfl,sq,l⟩:=bA d
  cases rx
  obtain⟨its,r1,p1,_⟩:=I.tuple sq
  obtain⟨o,h1,h2,_⟩:=p1
  exact⟨_,PySem.W.kitx_tuple,⟨o,h1,h2⟩,(λz=>nomatch z),.inr (.inr (.inr (.inr (.inl rfl))))⟩
 ·cases et
 ·cases et
 ·cases z:cP S r with
  |none=>rw [z]at et;cases et
  |some ds=>
   rw [z]at et
   cases et
   obtain⟨a,vs,rfl,sq,l⟩:=zGW rfl wd z d
   cases rx
   obtain⟨its,r1,p1,_⟩:=I.list sq
   obtain⟨o,h1,h2,_⟩:=p1.isList
   exact⟨_,PySem.W.kitx_list,⟨o,h1,h2⟩,(λz=>nomatch z),.inr (.inr (.inr (.inr (.inr rfl))))⟩
theorem yBC{t:String}(ht:Kinds t): ∀{ts:List MV}{ns:List String}{vs:List V}{us:List Value},zPM ts=some ns->DenL X.K α H ts vs->Vals vs us->PySem.W.kitAny X.K (.type t) us=some (ns.any (zQV t))
 |[],ns,vs,us,hn,d,r=>by
  cases hn
  rw [d.isnil]at r
  cases r
  rfl
 |x::ts,ns,vs,us,hn,d,r=>by
  obtain⟨v,vr,rfl,dv,l⟩:=d.uncons
  cases x with
  |typ n=>
   unfold zPM at hn
   split at hn
   ·rename_i hk
    cases z:zPM ts with
    |none=>rw [z]at hn;cases hn
    |some ns'=>
     rw [z]at hn
     cases hn
     cases cT dv
     cases r with
     |cons r1 r2=>
      cases r1
      rw [PySem.W.kitAny,cW X.K ht hk,any_cons]
      cases hb:zQV t n with
      |true=>rfl
      |false=>exact yBC ht z l r2
   ·cases hn
  |_=>cases hn
theorem yDJ:CallR X (.builtin "isinstance") (λxs H Q=> ∃α S r x y t ts ns,xs=[x,y]/\Wd X.g α S H/\DenX X.K α H r x/\DenX X.K α H (.val (.tup ts)) y/\zCP S r=some t/\zPM ts=some ns/\Q (.bl (ns.any (zQV t))) H):=by
 intro pins s σ H xs us Q I rr h
 obtain⟨α,S,r,x,y,t,ts,ns,rfl,wd,d,dy,et,hn,q⟩:=h
 obtain⟨u,w',rfl,rx,ry⟩:=vals2 rr
 obtain⟨a,vs,rfl,sq,l⟩:=bA dy
 cases ry
 obtain⟨its,r1,p1,_⟩:=I.tuple sq
 obtain⟨Hh,kx,hh,hx,ht⟩:=yPA I wd d rx et
 obtain⟨⟨oc,od,oda,os⟩,h1,h2,n,h3⟩:=p1
 cases h2
 cases h3
 exact PySem.W.kia_tup kx I.kIn hh h1 (yBC ht hn l r1) hx λtk=>⟨.bl _,H,I.tok _,rfl,q⟩
theorem yKB:zGE X W (λxs H Q=> ∃α S r x y t ts ns,xs=[x,y]/\Wd X.g α S H/\DenX X.K α H r x/\DenX X.K α H (.val (.tup ts)) y/\zCP S r=some t/\zPM ts=some ns/\Q (.bl (ns.any (zQV t))) H) zWE:=by
 intro rs vs α S H Q wd d post
 unfold zWE at post
 split at post
 ·split at post
  ·rename_i t et
   split at post
   ·rename_i ns hn
    obtain⟨v,u,rfl,d1,d2⟩:=yLO d
    exact⟨α,S,_,v,u,t,_,ns,rfl,wd,d1,d2,et,hn,Post.val post wd (wN _)⟩
   ·exact post.elim
  ·exact post.elim
 ·exact post.elim
def zWF(kvs:List (Key×V))(k:Key)(v:V):List (Key×V):=if(kvs.any λkv=>decide (kv.1=k))=true then kvs.map (λkv=>if kv.1=k then(kv.1,v)else kv)else kvs++[(k,v)]
theorem yGI(kvs:List (Key×V))(k:Key)(v:V):(zWF kvs k v).length<=kvs.length+1:=by
 unfold zWF
 split
 ·rw [lM];exact le_succ _
 ·rw [lA];exact le_refl _
theorem yPB{kvs:List (Key×V)}{vs:List (Key×Value)}(r:KV kvs vs)(k:Key):(kvs.any λkv=>decide (kv.1=k))=vs.any λkv=>decide (kv.1=k):=by
 unfold KV at r
 induction r with
 |nil=>rfl
 |cons h t ih=>rw [any_cons,any_cons,ih,h.1]
theorem yKC{kvs:List (Key×V)}{vs:List (Key×Value)}(r:KV kvs vs)(k:Key){y:V}{u:Value}(ry:RelV y u):KV (kvs.map λkv=>if kv.1=k then(kv.1,y)else kv) (vs.map λkv=>if kv.1=k then(kv.1,u)else kv):=by
 unfold KV at r ⊢
 induction r with
 |nil=>exact .nil
 |@cons p q ps qs h t ih=>
  rw [map_cons,map_cons]
  refine .cons ?_ ih
  by_cases e:p.1=k
  ·rw [iP e,iP (h.1.symm.trans e)];exact⟨h.1,ry⟩
  ·rw [iN e,iN λz=>e (h.1.trans z)];exact h
theorem yKD{kvs:List (Key×V)}{vs:List (Key×Value)}(r:KV kvs vs){p:Key×V}{q:Key×Value}(h:p.1=q.1/\RelV p.2 q.2):KV (kvs++[p]) (vs++[q]):=by
 unfold KV at r ⊢
 induction r with
 |nil=>exact .cons h .nil
 |cons h' t ih=>exact .cons h' ih
theorem yPC{kvs:List (Key×V)}{vs:List (Key×Value)}(r:KV kvs vs)(k:Key){y:V}{u:Value}(ry:RelV y u):KV (zWF kvs k y) (stored vs k u):=by
 unfold zWF stored
 rw [yPB r k]
 by_cases e:(vs.any λkv=>decide (kv.1=k))=true
 ·rw [iP e,iP e];exact yKC r k ry
 ·rw [iN e,iN e];exact yKD r ⟨rfl,ry⟩
def bG:MV->Bool
 |.str _=>true
 |_=>false
theorem yBD{k:MV}{a b:Key}(h:KeyD k a)(h':KeyD k b):a=b:=by
 cases k with
 |int i=>exact Eq.trans (show a=.inl i from h) (show b=.inl i from h').symm
 |str x=>exact Eq.trans (show a=.inr (mkS x)from h) (show b=.inr (mkS x)from h').symm
 |_=>exact False.elim h
theorem zWG{k k':MV}{a:Key}(h:KeyD k a)(h':KeyD k' a):k=k':=by
 cases k with
 |int i=>
  have e:a=.inl i:=h
  subst e
  cases k' with
  |int j=>have e':(Sum.inl i:Key)=.inl j:=h';cases e';rfl
  |str y=>have e':(Sum.inl i:Key)=.inr (mkS y):=h';cases e'
  |_=>exact False.elim h'
 |str x=>
  have e:a=.inr (mkS x):=h
  subst e
  cases k' with
  |int j=>have e':(Sum.inr (mkS x):Key)=.inl j:=h';cases e'
  |str y=>
   have e':(Sum.inr (mkS x):Key)=.inr (mkS y):=h'
   injection e' with e'
   rw [zKV e']
  |_=>exact False.elim h'
 |_=>exact False.elim h
theorem zWH: ∀{kvs:List (MV×MV)}{ks:List (Key×V)}{k:MV}{k':Key},DenK X.K α H kvs ks->KeyD k k'->(ks.any λkv=>decide (kv.1=k'))=(look kvs k).isSome
 |_,_,k,k',.nil,hk=>rfl
 |_,_,k,k',.cons (k:=c) (k':=c') hc a l,hk=>by
  rw [yDI,any_cons]
  by_cases h:c=k
  ·subst h
   rw [iP rfl,dT0 (yBD hc hk)];rfl
  ·have hn: ¬c'=k':=λz=>h (zWG hc (z.symm▸hk))
   rw [iN h,dF0 hn,Bool.false_or]
   exact zWH l hk
theorem zPN: ∀{kvs:List (MV×MV)}{ks:List (Key×V)}{k d:MV}{k':Key}{v:V},DenK X.K α H kvs ks->KeyD k k'->Den X.K α H d v->DenK X.K α H (kvs.map λp=>if p.1=k then(p.1,d)else p) (ks.map λkv=>if kv.1=k' then(kv.1,v)else kv)
 |_,_,k,d,k',v,.nil,hk,hd=>.nil
 |_,_,k,d,k',v,.cons (k:=c) (k':=c') hc a l,hk,hd=>by
  rw [map_cons,map_cons]
  by_cases h:c=k
  ·subst h
   rw [iP rfl,iP (yBD hc hk)]
   exact .cons hc hd (zPN l hk hd)
  ·have hn: ¬c'=k':=λz=>h (zWG hc (z.symm▸hk))
   rw [iN h,iN hn]
   exact .cons hc a (zPN l hk hd)
theorem DenK.append: ∀{kvs kvs':List (MV×MV)}{xs xs':List (Key×V)},DenK X.K α H kvs xs->DenK X.K α H kvs' xs'->DenK X.K α H (kvs++kvs') (xs++xs')
 |_,_,_,_,.nil,h=>h
 |_,_,_,_,.cons hk a l,h=>.cons hk a (DenK.append l h)
theorem DenK.length: ∀{kvs:List (MV×MV)}{xs:List (Key×V)},DenK X.K α H kvs xs->xs.length=kvs.length
 |_,_,.nil=>rfl
 |_,_,.cons _ _ l=>by rw [lC,lC,DenK.length l]
theorem yGJ{kvs:List (MV×MV)}{ks:List (Key×V)}{k d:MV}{k':Key}{v:V}(l:DenK X.K α H kvs ks)(hk:KeyD k k')(hd:Den X.K α H d v):DenK X.K α H (putK kvs k d) (zWF ks k' v):=by
 unfold putK zWF
 rw [zWH l hk]
 by_cases h:(look kvs k).isSome=true
 ·rw [iP h,iP h];exact zPN l hk hd
 ·rw [iN h,iN h];exact l.append (.cons hk hd .nil)
def DK(X:Cx)(H:Hp)(d:Addr)(ks:List (Key×V)):Prop:=H d=some (.dK ks)\/(ks=[]/\H d=some (DN X.prog X.w d []))
theorem dk_of{kvs:List (MV×MV)}{d:Addr}(ob:ObD X.g α H d (.dic kvs))(hk:kvs.all (λp=>bG p.1)=true): ∃ks,DK X H d ks/\DenK X.K α H kvs ks:=by
 rcases ob with⟨ks,h,l⟩|⟨xs,h,l⟩
 ·exact⟨ks,.inl h,l⟩
 ·cases l with
  |nil=>exact⟨[],.inr ⟨rfl,h⟩,.nil⟩
  |@cons k nk a d v u fs xs hn e ha hd r l=>
   rw [all_cons,aE]at hk
   cases k with
   |str x=>exact absurd (kZ ha) (λz=>nomatch z)
   |_=>exact absurd hk.1 xF0
theorem yBE(I:Inv X pins σ H s){ks:List (Key×V)}{d:Addr}(h:DK X H d ks):ks.length<=sizeLine/\(d==sysModules)=false/\ ∃vs,KV ks vs/\s.heap.DictOf (gE X.prog X.w) d vs:=by
 rcases h with h|⟨rfl,h⟩
 ·exact(show ObjOk X.prog X.w H s.heap d (.dK ks)from I.hok d _ h)
 ·obtain⟨⟨hz,hs,o,es,ep,ho,hc,hd,he,hn⟩,_⟩:=(show ObjOk X.prog X.w H s.heap d (DN X.prog X.w d [])from I.hok d _ h)
  have he':es.toList=[]:=he
  refine⟨zero_le _,hs,[],.nil,o,es,ep,ho,hc,hd,λe hm=>?_,by rw [he'];exact .nil,List.nodup_nil⟩
  rw [<-Array.mem_toList_iff,he']at hm
  exact absurd hm (by simp)
def rSetK(X:Cx):TSet:=λo i v H Q=> ∃(ks:List (Key×V))(d:Addr)(x:List Nat),o=.ref d/\i=.str (mkS x)/\DK X H d ks/\ks.length<sizeLine/\Q (upd H d (.dK (zWF ks (.inr (mkS x)) v)))
theorem yDK:PSet X (rSetK X):=by
 intro pins s σ H o i v ov iv u Q I ro ri rv h
 obtain⟨ks,d,x,rfl,rfl,dd,hz,q⟩:=h
 cases ro
 obtain⟨t,rfl⟩:=ri
 obtain⟨z,hd,vs,rel,dm⟩:=yBE I dd
 have hl:ks.length=vs.length:=Paired.length rel
 have hp:=yGI ks (.inr (mkS x)) v
 refine wpAny_setItem_pairs (knd:=gE X.prog X.w) (hsz:=by omega) (zMV X.prog X.w (mkS x) t) dm λh' dm' hs'=>⟨_,?_,q⟩
 have mu:Mut (H d):=by
  rcases dd with z|⟨_,z⟩<;>rw [z]<;>exact trivial
 have he: ∃q,h'.get? d=some q:=let ⟨q,_,_,hq,_⟩:=dm';⟨q,hq⟩
 exact I.write (t':=_) (x:=d) (e:=d) mu (.inl rfl) (λb uo hb eo=>(hs'.2 b hb).trans eo) he ⟨by omega,hd,_,yPC rel _ rv,dm'⟩
noncomputable def zND(S:Sto):Er->Option (Nat×List (MV×MV))
 |.val (.loc l)=>match S[l]? with
  |some (.dic kvs)=>if kvs.all (λp=>bG p.1)=true then some (l,kvs)else none
  |_=>none
 |_=>none
theorem yGK{S:Sto}(wd:Wd X.g α S H){r:Er}{x:V}{l:Nat}{kvs:List (MV×MV)}(e:zND S r=some (l,kvs))(d:DenX X.K α H r x):
  ∃c ks,x=.ref c/\α[l]? =some c/\S[l]? =some (.dic kvs)/\DK X H c ks/\DenK X.K α H kvs ks/\kvs.all (λp=>bG p.1)=true:=by
 unfold zND at e
 split at e
 ·rename_i n
  obtain⟨c,rfl,h⟩:=zFB d
  split at e
  ·rename_i ks hS
   split at e
   ·rename_i hk
    obtain⟨rfl,rfl⟩:=Prod.mk.inj (Option.some.inj e)
    obtain⟨xs,dd,l⟩:=dk_of (wd.obj _ c _ h hS) hk
    exact⟨c,xs,rfl,h,hS,dd,l,hk⟩
   ·cases e
  ·cases e
 ·cases e
noncomputable def zWI(p q:Er)(d:MV)(ρ:Rho)(S:Sto):R Rho:=match q with
 |.val (.str x)=>match zND S p with
  |some (l,kvs)=>if kvs.length<1000000 then .ok ρ (S.set l (.dic (putK kvs (.str x) d)))else .no
  |none=>.no
 |_=>.no
theorem yKE(ho:PEm X W o f)(hi:PEm X W i g)
  (ha: ∀v,assign (.Subscript o i pos) X.env v=(do
   let ov <-holding [v] (eval o X.env)
   let iv <-holding [v,ov] (eval i X.env)
   standAt pos
   holding [v,ov,iv] (setItem ov iv v)
   release [v,ov,iv] []):=by intro _;rfl):PGm X W (.Subscript o i pos) (λd ρ S=>(f ρ S).bind λp S1=>(g ρ S1).bind λq S2=>zWI p q d ρ S2):=by
 obtain⟨to,ho,fo⟩:=ho
 obtain⟨ti,hi,fi⟩:=hi
 refine⟨_,yED ho hi yDK ha,λα ρ S σ H d v Q wd sl de q=>fo α ρ S σ H _ wd sl (q.bind λu p S1 α1 H1 e1 x1 w1 d1 q1=>fi α1 ρ S1 σ H1 _ w1 (sl.ext x1) ((q1.shift x1).bind λu2 p2 S2 α2 H2 e2 x2 w2 d2 q2=>?_))⟩
 replace q2:=q2.shift x2
 have d1':=DenX.ext x2 d1.1
 have de2:=(de.ext x1).ext x2
 unfold zWI at q2
 split at q2
 ·rename_i x
  split at q2
  ·rename_i l kvs e
   split at q2
   ·rename_i hk
    obtain⟨c,ks,rfl,hc,hS,dd,dl,hall⟩:=yGK w2 e d1'
    cases xC d2.1
    refine⟨ks,c,x,rfl,rfl,dd,?_,?_⟩
    ·rw [dl.length]
     exact lt_of_lt_of_le hk (fits (le_refl _))
    ·have xw:=w2.writex hc (o:=.dK (zWF ks (.inr (mkS x)) v))
     have sl2:=((sl.ext x1).ext x2).ext xw
     exact q2 σ α2 _ xw (w2.write hc (.inl ⟨_,wL,(yGJ (k:=.str x) dl (show KeyD (.str x) (.inr (mkS x))from rfl) de2).ex0 xw.toEx0⟩)) sl2
   ·exact q2.elim
  ·exact q2.elim
 ·exact q2.elim
theorem zZD:CallR X (.type "list") (λxs H Q=> ∃d ks,xs=[.ref d]/\DK X H d ks/\X.calm=true/\ ∀l,H l=none->Q (.ref l) (upd H l (.lst (ks.map λp=>kV p.1)))):=by
 intro pins s σ H xs us Q I r h
 obtain⟨d,ks,rfl,dd,hc,q⟩:=h
 obtain⟨u,rfl,rx⟩:=vals1 r
 cases rx
 obtain⟨z,hd,vs,rel,dm⟩:=yBE I dd
 obtain⟨ep,hat⟩:=dm.dictAt
 have hl:ks.length=vs.length:=Paired.length rel
 refine PySem.W.kdl_call (PySem.W.kdl_dict (knd:=gE X.prog X.w) (kvs:=vs) (ep:=ep) hd) (I.ok.hd hc) hat (by omega) λh' tk acc c' hk hS hacc=>?_
 have rv:Vals (ks.map λp=>kV p.1) acc.toList:=by
  have key: ∀{ks:List (Key×V)}{vs:List (Key×Value)}{us:List Value},KV ks vs->us.length=vs.length->(∀(j:Nat)(v:Value),us[j]? =some v-> ∃(k:Key)(x:Value),vs[j]? =some (k,x)/\(gE X.prog X.w).is k v=true)->Vals (ks.map λp=>kV p.1) us:=by
   intro ks vs us kv
   unfold KV at kv
   induction kv generalizing us with
   |nil=>intro hl _;cases us with
    |nil=>exact .nil
    |cons a b=>simp at hl
   |@cons p q ps qs h t ih=>
    intro hl hv
    cases us with
    |nil=>simp at hl
    |cons a b=>
     obtain⟨k,x,e,hi⟩:=hv 0 a rfl
     simp only [List.getElem?_cons_zero,Option.some.injEq]at e
     subst e
     rw [map_cons]
     refine .cons ?_ (ih (by simpa using hl) λj v hj=>by simpa using hv (j+1) v (by simpa using hj))
     rw [h.1]
     rcases xE hi with⟨i,t,e1,e2⟩|⟨i,t,e1,e2⟩
     ·subst e2;rw [show k=.inl i from e1];exact⟨t,rfl⟩
     ·subst e2;rw [show k=.inr i from e1];exact⟨t,rfl⟩
  exact key rel (by rw [Array.length_toList];exact hacc.1) λj v e=>hacc.2 j v (by rw [<-Array.getElem?_toList];exact e)
 refine⟨.ref s.heap.objs.size,_,I.laid (t':=tk) hk (le_refl _) (show ObjOk X.prog X.w _ h' _ (.lst (ks.map λp=>kV p.1))from⟨by rw [lM];exact z,acc.toList,c',rv,?_⟩),rfl,q _ (I.hok.fresh (le_refl _))⟩
 rw [Array.toArray_toList]
 exact hS
noncomputable def zPO:List Er->Sto->R Er
 |[r],S=>match zND S r with |some (_,kvs)=>.ok (.new (kvs.map (·.1))) S|none=>.no
 |_,_=>.no
theorem zRZ: ∀{kvs:List (MV×MV)}{ks:List (Key×V)},DenK X.K α H kvs ks->DenL X.K α H (kvs.map (·.1)) (ks.map λp=>kV p.1)
 |_,_,.nil=>xF
 |_,_,.cons (k:=c) (k':=c') hc a l=>by
  refine yO ?_ (zRZ l)
  cases c with
  |int i=>rw [show c'=.inl i from hc];exact xM i
  |str x=>rw [show c'=.inr (mkS x)from hc];exact jM x
  |_=>exact False.elim hc
theorem yGL(hc:X.calm=true):zGE X W (λxs H Q=> ∃d ks,xs=[.ref d]/\DK X H d ks/\X.calm=true/\ ∀l,H l=none->Q (.ref l) (upd H l (.lst (ks.map λp=>kV p.1)))) zPO:=by
 intro rs vs α S H Q wd d post
 unfold zPO at post
 split at post
 ·split at post
  ·rename_i n kvs e
   obtain⟨v,rfl,dv⟩:=zCB d
   obtain⟨c,ks,rfl,h1,h2,dd,dl,_⟩:=yGK wd e dv
   exact⟨c,ks,rfl,dd,hc,λl hl=>Post.newl post wd hl (zRZ dl)⟩
  ·exact post.elim
 ·exact post.elim
end
def inK(k:Key)(l:List Key):Bool:=l.any λj=>decide (j=k)
def zCQ(val:Nat->Key):Nat->List Key
 |0=>[]
 |i+1=>if inK (val i) (zCQ val i)=true then zCQ val i else zCQ val i++[val i]
theorem zIP(val:Nat->Key)(i:Nat):zCQ val (i+1)=if inK (val i) (zCQ val i)=true then zCQ val i else zCQ val i++[val i]:=rfl
theorem yBF(val:Nat->Key): ∀i,(zCQ val i).length<=i
 |0=>le_refl _
 |i+1=>by
  have ih:=yBF val i
  rw [zIP]
  split
  ·exact le_trans ih (le_succ _)
  ·rw [lA];exact Nat.succ_le_succ ih
theorem yGM(val:Nat->Key)(i:Nat)(k:Key):inK k (zCQ val (i+1))=(inK k (zCQ val i) || decide (k=val i)):=by
 rw [zIP]
 by_cases h:inK (val i) (zCQ val i)=true
 ·rw [iP h]
  by_cases e:k=val i
  ·rw [e,h];rfl
  ·rw [dF0 e,Bool.or_false]
 ·rw [iN h]
  unfold inK
  rw [List.any_append,any_cons,List.any_nil,Bool.or_false]
  congr 1
  by_cases e:val i=k
  ·rw [dT0 e,dT0 e.symm]
  ·rw [dF0 e,dF0 λz=>e z.symm]
theorem yGN(val:Nat->Key)(i:Nat):(zCQ val (i+1)).length=if inK (val i) (zCQ val i)=true then(zCQ val i).length else(zCQ val i).length+1:=by
 rw [zIP]
 split
 ·rfl
 ·rw [lA];rfl
abbrev KSet(P:Program)(w:World)(h:Heap)(D:Addr)(val:Nat->Key)(i:Nat):Prop:=h.SetOf (gE P w) D (λk=>inK k (zCQ val i)) (zCQ val i).length
theorem KSet.move{P:Program}{w:World}{h h':Heap}{D:Addr}{val:Nat->Key}{i:Nat}(x:KSet P w h D val i)(m: ∀o,h.get? D=some o->h'.get? D=some o):KSet P w h' D val i:=by
 obtain⟨o,es,ep,t,ho,r⟩:=x
 exact⟨o,es,ep,t,m o ho,r⟩
def StrAt(val:Nat->Key)(i:Nat)(v:Value):Prop:= ∃x t,val i=.inr x/\v=.str x t
theorem StrAt.is{P:Program}{w:World}{val:Nat->Key}{i:Nat}{v:Value}(h:StrAt val i v):(gE P w).is (val i) v=true/\v.scannable=true:=by
 obtain⟨x,t,e,rfl⟩:=h
 rw [e]
 exact⟨zMV P w x t,rfl⟩
section
variable{P:Program}{w:World}{A:Around}{R:Result->Shared->Prop}{I D:Addr}{fp wr:List Addr}{G:Array GenState->Array GenState->Prop}{n:Nat}{Pv:Nat->Value->Prop}{St:Nat->Shared->Prop}{val:Nat->Key}
theorem zLX(W:PySem.WalksS P w A.in1 I fp wr G n Pv St)(hD:D∉fp)(hv: ∀i v,Pv i v->StrAt val i v)(hb:n+1<scanBound):
  ∀(k i:Nat)(s:Shared),i+k=n->St i s->KSet P w s.heap D val i->
   (∀s',PySem.Moved (D::wr) G s s'->KSet P w s'.heap D val n->R (.ok (.ret .none)) s')->codeAny (model P w) A (.builtin "set.update.loop" ⟨[.ref D,.ref I],[]⟩) R s
 |0,i,s,hk,st,hs,q=>by
  have e:i=n:=hk
  subst e
  refine codeAny_builtin F.entry_set_update_loop ?_
  rw [Around.under_plainId F.plain_set_update_loop _]
  show wpAny _ A.in1 (pyNext (.ref I) >>= _) _ _ s
  refine wB0 (W.done s _ _ st λs' m=>?_)
  exact wP0 (q s' (m.mono λb hb=>.tail _ hb) (hs.move λo=>m.heap D o λz=>hD (W.sub _ z)))
 |k+1,i,s,hk,st,hs,q=>by
  refine codeAny_builtin F.entry_set_update_loop ?_
  rw [Around.under_plainId F.plain_set_update_loop _]
  show wpAny _ A.in1 (pyNext (.ref I) >>= _) _ _ s
  refine wB0 (W.item i s _ _ (by omega) st λv s' hP st' m=>?_)
  obtain⟨hi,hsc⟩:=(hv i v hP).is (P:=P) (w:=w)
  have hs1:KSet P w s'.heap D val i:=hs.move λo=>m.heap D o λz=>hD (W.sub _ z)
  have le:=yBF val i
  show wpAny _ A.in1 (holding [v] (setAdd D v) >>= _) _ _ s'
  refine wB0 (wpAny_holding ?_)
  unfold setAdd
  refine wpAny_holding (wB0 ((gE P w).pyHash hi ?_))
  refine wpAny_setAddHashed_of (s:={s' with toks:=s'.toks+1}) hi hsc hs1 (by omega) λh2 sb hs2=>?_
  have hs3:KSet P w h2 D val (i+1):=by
   unfold KSet
   rw [show(λk=>inK k (zCQ val (i+1)))=(λk=>inK k (zCQ val i) || decide (k=val i))from funext (yGM val i),yGN]
   exact hs2
  refine wP0 ⟨plainId_quiet F.plain_set_update_loop _,zLX W hD hv hb k (i+1) _ (by omega) (W.frame _ s' _ _ st' (le_succ _) λb hb o e=>?_) hs3 λs2 m2 hs4=>?_⟩
  ·rw [sb.2 b λz=>hD (z▸hb)];exact e
  ·refine q s2 (PySem.Moved.trans W.gtrans ((m.mono λb hb=>.tail _ hb).then_heap (le_succ _) λb o hb e=>?_) m2) hs4
   rw [sb.2 b λz=>hb (by rw [z];exact .head _)];exact e
end
section
variable{P:Program}{w:World}{A:Around}{E:VP}{s:Shared}
abbrev yK(led:Bool):Obj:={cls:=.type "set",dict:=none,data:=.set #[] 0 (.fresh 0 0 led)}
theorem yLQ{h:Heap}{a:Addr}{led:Bool}{val:Nat->Key}(ho:h.get? a=some (yK led)):KSet P w h a val 0:=
 ⟨yK led,#[],0,_,ho,⟨rfl,rfl,rfl⟩,rfl,λe he=>absurd he (by simp),λk=>⟨λz=>absurd (show false=true from z) xF0,λ⟨e,he,_⟩=>absurd he (by simp)⟩,by unfold scanBound;decide,rfl,rfl⟩
end
section
variable{P:Program}{w:World}{A:Around}{E:VP}{s:Shared}
theorem call_set_list{l:Addr}{items:Array Value}{val:Nat->Key}{Q:VP}(hh:A.handled=none)(hl:s.heap.IsList l items)(hv: ∀(i:Nat)(v:Value),items[i]? =some v->StrAt val i v)(hb:items.size+1<scanBound)
  (h: ∀(h':Heap)(tk:Nat),KSet P w h' s.heap.objs.size val items.size->(∀b o,s.heap.get? b=some o->h'.get? b=some o)->Q (.ref s.heap.objs.size) {s with heap:=h',toks:=tk}):
  wpAny (model P w) A (call (.type "set") [.ref l]) Q E s:=by
 obtain⟨c,tl,hmro⟩:=F.called_set.mro
 have hmade:=F.called_set.made
 have hsub:=F.called_set.sub
 refine wpAny_call (codeAny_of_tree ?_)
 show wpAny _ _ (callAny (.type "set") _) _ _ _
 refine wP0 ⟨Code.quiet_builtin _ (by decide+kernel),codeAny_builtin F.entry_type_call ?_⟩
 rw [Around.under_plain (weight_type_call_type "set" [.ref l] []) rfl]
 have h1:=F.called_set.notType
 have h2:=F.called_set.canCreate
 have hct:=F.typeCall_set_1 (.ref l)
 repeat (any_goals (first |assumption|wp_step))
 refine codeAny_mono (code_set_new_1 (.ref l) (E:=E) (Q₁:=λob s1=> ∃led:Bool,ob=.ref s.heap.objs.size/\s1={s with heap:=s.heap.push (yK led)}) λled=>⟨led,rfl,rfl⟩) λr s1 hr=>?_
 cases r with
 |error e=>exact hr
 |ok fl=>
  cases fl with
  |ret ob=>
   obtain⟨led,rfl,rfl⟩:=hr
   have g0:(s.heap.push (yK led)).get? s.heap.objs.size=some (yK led):=Heap.get?_push_size _ rfl
   have hT:Shared.TypeIs {s with heap:=s.heap.push (yK led)} (.ref s.heap.objs.size) "set":=⟨_,g0,rfl⟩
   have hli:=F.called_set.init.lookup
   have hbi:=F.called_set.init.bind (.ref s.heap.objs.size)
   repeat (any_goals (first |assumption|wp_step))
   refine codeAny_mono (codeAny_call_builtin (R:=wants (λr s2=>r=.none/\ ∃h' tk,s2={s with heap:=h',toks:=tk}/\KSet P w h' s.heap.objs.size val items.size/\ ∀b o,s.heap.get? b=some o->h'.get? b=some o) E)
    F.called_set.init.plain F.entry_set_init (check_set_init_1 hT ?_)) λr2 s2 hr2=>?_
   ·have hl1:(s.heap.push (yK led)).IsList l items:=hl.push _
    obtain⟨⟨oc,od,oda,os⟩,hol,hcl,nl,hdl⟩:=hl
    cases hcl
    cases hdl
    have hol':(s.heap.push (yK led)).get? l=some {cls:=.type "list",dict:=od,data:=.seq items nl,slots:=os}:=hP0 _ hol
    have hsls:=PySem.F.sub_list_set
    have hslf:=PySem.F.sub_list_frozenset
    have hne:(Value.type "list"==Value.type "dict")=false:=by decide
    have lt:l<s.heap.objs.size:=Heap.lt_size hol
    unfold Builtin.«set.__init__» noKeywords Builtin.Frozenset.updateFrom
    generalize hPI:pyIter=PI
    wp_walk
    subst hPI
    refine wpAny_pyIter_list hl1 ?_
    refine wB0 (wpAny_runValue ?_)
    have h3:A.in1.in1.in1.handled=none:=by simp [hh]
    have lt2:l<(s.heap.push (yK led)).objs.size:=by rw [Heap.size_push];exact lt_succ_of_lt lt
    have out:s.heap.objs.size∉[(s.heap.push (yK led)).objs.size,l]:=by
     rw [Heap.size_push]
     intro z
     rcases mC.mp z with z|z
     ·exact absurd z (ne_of_lt (lt_succ_self _))
     ·exact absurd (mS.mp z) (ne_of_gt lt)
    refine zLX ((Walks.list h3 _ l (ne_of_lt lt2) items).toS) (D:=s.heap.objs.size) (val:=val) out hv hb items.size 0 _ (zero_add _) ⟨⟨_,Heap.get?_push_size _ rfl,rfl,rfl⟩,hl1.push _⟩ ?hS0 ?hR
    case hS0=>
     have gg:((s.heap.push (yK led)).push {cls:=.type "list_iterator",data:=.fields #[.ref l,.int 0 0]}).get? s.heap.objs.size=some (yK led):=hP0 _ g0
     exact yLQ gg
    case hR=>
     intro s' m hs'
     obtain⟨h',g',d',tk',os'⟩:=s'
     have e1:g'=s.gens:=m.gens
     have e2:d'=s.drawn:=m.drawn
     have e3:os'=s.os:=m.os
     subst e1;subst e2;subst e3
     show wpAny _ _ _ _ _ _
     refine wP0 ?_
     show wpAny _ _ (ret Value.none) _ _ _
     refine wP0 ⟨rfl,h',tk',rfl,hs',λb o e=>?_⟩
     have hb0:=Heap.lt_size e
     refine m.heap b o (λz=>?_) (hP0 _ (hP0 _ e))
     rcases mC.mp z with z|z
     ·exact absurd z (ne_of_lt hb0)
     ·rw [Heap.size_push]at z
      exact absurd (mS.mp z) (ne_of_lt (lt_succ_of_lt hb0))
   ·cases r2 with
    |error e=>exact hr2
    |ok fl2=>
     cases fl2 with
     |ret r=>
      obtain⟨rfl,h',tk,rfl,hs',hk'⟩:=hr2
      repeat (any_goals (first |assumption|wp_step))
      exact h _ _ hs' hk'
     |_=>exact hr2.elim
  |_=>exact hr.elim
end
section
variable{P:Program}{w:World}{A:Around}{E:VP}{s:Shared}
theorem zPP{l:Addr}{items:Array Value}{val:Nat->Key}{Q:VP}(hh:A.handled=none)(hl:s.heap.IsTuple l items)(hv: ∀(i:Nat)(v:Value),items[i]? =some v->StrAt val i v)(hb:items.size+1<scanBound)
  (h: ∀(h':Heap)(tk:Nat),KSet P w h' s.heap.objs.size val items.size->(∀b o,s.heap.get? b=some o->h'.get? b=some o)->Q (.ref s.heap.objs.size) {s with heap:=h',toks:=tk}):
  wpAny (model P w) A (call (.type "set") [.ref l]) Q E s:=by
 obtain⟨c,tl,hmro⟩:=F.called_set.mro
 have hmade:=F.called_set.made
 have hsub:=F.called_set.sub
 refine wpAny_call (codeAny_of_tree ?_)
 show wpAny _ _ (callAny (.type "set") _) _ _ _
 refine wP0 ⟨Code.quiet_builtin _ (by decide+kernel),codeAny_builtin F.entry_type_call ?_⟩
 rw [Around.under_plain (weight_type_call_type "set" [.ref l] []) rfl]
 have h1:=F.called_set.notType
 have h2:=F.called_set.canCreate
 have hct:=F.typeCall_set_1 (.ref l)
 repeat (any_goals (first |assumption|wp_step))
 refine codeAny_mono (code_set_new_1 (.ref l) (E:=E) (Q₁:=λob s1=> ∃led:Bool,ob=.ref s.heap.objs.size/\s1={s with heap:=s.heap.push (yK led)}) λled=>⟨led,rfl,rfl⟩) λr s1 hr=>?_
 cases r with
 |error e=>exact hr
 |ok fl=>
  cases fl with
  |ret ob=>
   obtain⟨led,rfl,rfl⟩:=hr
   have g0:(s.heap.push (yK led)).get? s.heap.objs.size=some (yK led):=Heap.get?_push_size _ rfl
   have hT:Shared.TypeIs {s with heap:=s.heap.push (yK led)} (.ref s.heap.objs.size) "set":=⟨_,g0,rfl⟩
   have hli:=F.called_set.init.lookup
   have hbi:=F.called_set.init.bind (.ref s.heap.objs.size)
   repeat (any_goals (first |assumption|wp_step))
   refine codeAny_mono (codeAny_call_builtin (R:=wants (λr s2=>r=.none/\ ∃h' tk,s2={s with heap:=h',toks:=tk}/\KSet P w h' s.heap.objs.size val items.size/\ ∀b o,s.heap.get? b=some o->h'.get? b=some o) E)
    F.called_set.init.plain F.entry_set_init (check_set_init_1 hT ?_)) λr2 s2 hr2=>?_
   ·have hl1:(s.heap.push (yK led)).IsTuple l items:=hl.push _
    obtain⟨⟨oc,od,oda,os⟩,hol,hcl,nl,hdl⟩:=hl
    cases hcl
    cases hdl
    have hol':(s.heap.push (yK led)).get? l=some {cls:=.type "tuple",dict:=od,data:=.seq items nl,slots:=os}:=hP0 _ hol
    have hsls:=PySem.F.sub_tuple_set
    have hslf:=PySem.F.sub_tuple_frozenset
    have hne:(Value.type "tuple"==Value.type "dict")=false:=by decide
    have lt:l<s.heap.objs.size:=Heap.lt_size hol
    unfold Builtin.«set.__init__» noKeywords Builtin.Frozenset.updateFrom
    generalize hPI:pyIter=PI
    wp_walk
    subst hPI
    refine wpAny_pyIter_tuple hl1 ?_
    refine wB0 (wpAny_runValue ?_)
    have h3:A.in1.in1.in1.handled=none:=by simp [hh]
    have lt2:l<(s.heap.push (yK led)).objs.size:=by rw [Heap.size_push];exact lt_succ_of_lt lt
    have out:s.heap.objs.size∉[(s.heap.push (yK led)).objs.size,l]:=by
     rw [Heap.size_push]
     intro z
     rcases mC.mp z with z|z
     ·exact absurd z (ne_of_lt (lt_succ_self _))
     ·exact absurd (mS.mp z) (ne_of_gt lt)
    refine zLX ((Walks.tuple h3 _ l (ne_of_lt lt2) items).toS) (D:=s.heap.objs.size) (val:=val) out hv hb items.size 0 _ (zero_add _) ⟨⟨_,Heap.get?_push_size _ rfl,rfl,rfl⟩,hl1.push _⟩ ?hS0 ?hR
    case hS0=>
     have gg:((s.heap.push (yK led)).push {cls:=.type "tuple_iterator",data:=.fields #[.ref l,.int 0 0]}).get? s.heap.objs.size=some (yK led):=hP0 _ g0
     exact yLQ gg
    case hR=>
     intro s' m hs'
     obtain⟨h',g',d',tk',os'⟩:=s'
     have e1:g'=s.gens:=m.gens
     have e2:d'=s.drawn:=m.drawn
     have e3:os'=s.os:=m.os
     subst e1;subst e2;subst e3
     show wpAny _ _ _ _ _ _
     refine wP0 ?_
     show wpAny _ _ (ret Value.none) _ _ _
     refine wP0 ⟨rfl,h',tk',rfl,hs',λb o e=>?_⟩
     have hb0:=Heap.lt_size e
     refine m.heap b o (λz=>?_) (hP0 _ (hP0 _ e))
     rcases mC.mp z with z|z
     ·exact absurd z (ne_of_lt hb0)
     ·rw [Heap.size_push]at z
      exact absurd (mS.mp z) (ne_of_lt (lt_succ_of_lt hb0))
   ·cases r2 with
    |error e=>exact hr2
    |ok fl2=>
     cases fl2 with
     |ret r=>
      obtain⟨rfl,h',tk,rfl,hs',hk'⟩:=hr2
      repeat (any_goals (first |assumption|wp_step))
      exact h _ _ hs' hk'
     |_=>exact hr2.elim
  |_=>exact hr.elim
end
section
variable{X:Cx}{W:XW}{e:Expr}{af:Rho->Sto->R (List Er)}{p1 p2 pos1 pos2:Pos}
def zTP(ys:List (List Nat))(i:Nat):Key:=.inr (mkS (ys.getD i []))
def diff(ys:List (List Nat)):Nat:=(zCQ (zTP ys) ys.length).length
def setO(P:Program)(w:World)(l:Addr)(ys:List (List Nat)):HO:=.ext λh=>KSet P w h l (zTP ys) ys.length
theorem zTQ: ∀{ys:List (List Nat)}{us:List Value},Vals (ys.map λx=>V.str (mkS x)) us->us.length=ys.length/\ ∀(i:Nat)(v:Value),us[i]? =some v->StrAt (zTP ys) i v
 |[],us,r=>by
  cases r
  exact⟨rfl,λi v h=>by simp at h⟩
 |y::ys,us,r=>by
  rw [map_cons]at r
  cases r with
  |cons r1 r2=>
   obtain⟨t,rfl⟩:=r1
   obtain⟨h1,h2⟩:=zTQ r2
   refine⟨by rw [lC,lC,h1],λi v h=>?_⟩
   cases i with
   |zero=>
    simp at h
    exact⟨mkS y,t,rfl,h.symm⟩
   |succ i=>
    obtain⟨x,t',e1,e2⟩:=h2 i v (by simpa using h)
    exact⟨x,t',e1,e2⟩
theorem yDL:CallR X (.type "set") (λxs H Q=> ∃a k ys,xs=[.ref a]/\SqK k X.K H a (ys.map λx=>V.str (mkS x))/\ys.length<4000/\X.calm=true/\ ∀l,H l=none->Q (.ref l) (upd H l (setO X.prog X.w l ys))):=by
 intro pins s σ H xs us Q I r h
 obtain⟨a,k,ys,rfl,hq,hn,hc,q⟩:=h
 obtain⟨u,rfl,rx⟩:=vals1 r
 cases rx
 have fin: ∀(h':Heap)(tk:Nat)(n:Nat),n=ys.length->KSet X.prog X.w h' s.heap.objs.size (zTP ys) n->(∀b o,s.heap.get? b=some o->h'.get? b=some o)->EP X pins σ Q (.ref s.heap.objs.size) {s with heap:=h',toks:=tk}:=by
  intro h' tk n en hs kp
  subst en
  refine⟨.ref s.heap.objs.size,_,I.laid (o:=setO X.prog X.w s.heap.objs.size ys) (t':=tk) kp (le_refl _) ⟨hs,?_,λh1 h2 z mv=>z.move mv⟩,rfl,q _ (I.hok.fresh (le_refl _))⟩
  obtain⟨o,_,_,_,ho,_⟩:=hs
  exact⟨o,ho⟩
 cases k with
 |true=>
  obtain⟨its,rv,p,hz⟩:=I.list (show SqL X.K H a _ from hq)
  obtain⟨e1,e2⟩:=zTQ rv
  have sz:its.toArray.size=ys.length:=by rw [sA];exact e1
  exact call_set_list (val:=zTP ys) (I.ok.hd hc) p.isList (λi v h=>e2 i v (by simpa using h)) (by rw [sz];unfold scanBound;omega) λh' tk hs kp=>fin h' tk _ sz hs kp
 |false=>
  obtain⟨its,rv,p,hz⟩:=I.tuple (show SqT X.K H a _ from hq)
  obtain⟨e1,e2⟩:=zTQ rv
  have sz:its.toArray.size=ys.length:=by rw [sA];exact e1
  exact zPP (val:=zTP ys) (I.ok.hd hc) (show s.heap.IsTuple a its.toArray from p) (λi v h=>e2 i v (by simpa using h)) (by rw [sz];unfold scanBound;omega) λh' tk hs kp=>fin h' tk _ sz hs kp
theorem yDM:CallR X (.builtin "len") (λxs H Q=> ∃l ys,xs=[.ref l]/\ys.length<4000/\H l=some (setO X.prog X.w l ys)/\Q (.int (diff ys:Nat)) H):=by
 intro pins s σ H xs us Q I r h
 obtain⟨l,ys,rfl,hn,hl,q⟩:=h
 obtain⟨u,rfl,rx⟩:=vals1 r
 cases rx
 obtain⟨hs,_⟩:=(show ObjOk X.prog X.w H s.heap l (setO X.prog X.w l ys)from I.hok l _ hl)
 obtain⟨o,es,ep,t,ho,hex,hd,hel,hmem,hb,hf,hz⟩:=hs
 have hdz:diff ys=es.size:=hz.symm
 rw [hdz]at q
 have hb':es.size<4096:=hb
 exact call_len_set ho hex hd hf (by omega) ⟨.int (es.size:Nat),H,I.tok _,⟨s.toks+1,rfl⟩,q⟩
def strsOf:List MV->Option (List (List Nat))
 |[]=>some []
 |.str x::r=>(strsOf r).map (x::·)
 |_=>none
theorem zWJ{K:PySem.W.Frag}{α:List Addr}{H:Hp}: ∀{ds:List MV}{ys:List (List Nat)}{vs:List V},strsOf ds=some ys->DenL K α H ds vs->vs=ys.map λx=>V.str (mkS x)
 |[],ys,vs,h,d=>by
  cases h
  rw [d.isnil];rfl
 |x::ds,ys,vs,h,d=>by
  obtain⟨v,r,rfl,dv,l⟩:=d.uncons
  cases x with
  |str x=>
   unfold strsOf at h
   cases z:strsOf ds with
   |none=>rw [z]at h;cases h
   |some zs=>
    rw [z]at h
    cases h
    rw [map_cons,kZ dv,zWJ z l]
  |_=>cases h
def zSA(rs:List Er)(S:Sto):R Er:=match rs with
 |[r]=>match srcOf S r with
  |some q=>match strsOf q.ds with
   |some ys=>if ys.length<4000 then .ok (.val (.int (diff ys:Nat))) S else .no
   |none=>.no
  |none=>.no
 |_=>.no
theorem yPD:bootBuiltins "set"=some (.type "set"):=by decide+kernel
theorem yKF(hc:X.calm=true)(hg:Gl X "len")(hm:X.mg "len"=none)(hg2:Gl X "set")(hm2:X.mg "set"=none)(ha:PAm X W [e] af)
  (he:starEach [e] X.env=(false,eval e X.env)::starEach [] X.env:=by rfl) (hpl:(backTo pos2 (starEach [] X.env)).any (·.1)=false:=by rfl)
  (he1:starEach [.Call (.Name "set" p2) [e] [] pos2] X.env=(false,eval (.Call (.Name "set" p2) [e] [] pos2) X.env)::starEach [] X.env:=by rfl) (hpl1:(backTo pos1 (starEach [] X.env)).any (·.1)=false:=by rfl):
  PEm X W (.Call (.Name "len" p1) [.Call (.Name "set" p2) [e] [] pos2] [] pos1) (λρ S=>(af ρ S).bind zSA):=by
 obtain⟨t,ha,k⟩:=ha
 refine⟨_,zVI yDM hg hm wO (yAD (zRP yDL hg2 hm2 yPD ha (by decide) (by decide) he hpl) yEN he1) (by decide) (by decide) he1 hpl1,λα ρ S σ H Q wd sl q=>k α ρ S σ H _ wd sl (q.bind λvs rs S1 α1 H1 e1 x1 w1 d1 q1=>?_)⟩
 replace q1:=q1.shift x1
 unfold zSA at q1
 split at q1
 ·rename_i r
  split at q1
  ·rename_i q e1
   split at q1
   ·rename_i ys ey
    split at q1
    ·rename_i hn
     obtain⟨u,rfl,du⟩:=zNB d1
     obtain⟨l1,P1,rfl,pp,D1⟩:=zPJ w1 e1 du
     obtain⟨us,c1,c2⟩:=D1.get _ _ _ pp
     rw [zWJ ey c2]at c1
     exact⟨l1,q.k,ys,rfl,c1,hn,hc,λl hl=>⟨l,ys,rfl,hn,wL,(q1.shift (w1.newx hl)).val (w1.new hl) (xM _)⟩⟩
    ·exact q1.elim
   ·exact q1.elim
  ·exact q1.elim
 ·exact q1.elim
theorem yBG{ys:List (List Nat)}(h:ys.Nodup): ∀i,i<=ys.length->zCQ (zTP ys) i=(ys.take i).map λx=>(.inr (mkS x):Key)
 |0,_=>rfl
 |i+1,hi=>by
  have hl:i<ys.length:=hi
  rw [zIP,yBG h i (le_of_lt hl)]
  have hv:zTP ys i=.inr (mkS ys[i]):=by
   unfold zTP
   rw [getD_eq_getElem?_getD,gE0 hl];rfl
  rw [iN,List.take_add_one,gE0 hl,map_append,hv]
  ·rfl
  ·intro z
   unfold inK at z
   obtain⟨y,hy,e⟩:=List.any_eq_true.mp z
   obtain⟨x,hx,rfl⟩:=mM.mp hy
   have e:=of_decide_eq_true e
   rw [hv]at e
   injection e with e
   have e:=zKV e
   obtain⟨j,hj,ej⟩:=List.mem_take_iff_getElem.mp hx
   have:j=i:=(getElem_inj h).mp (ej.trans e)
   omega
theorem yKG{ys:List (List Nat)}(h:ys.Nodup):diff ys=ys.length:=by
 unfold diff
 rw [yBG h _ (le_refl _),List.take_length,lM]
end
def VAt(d:Addr)(us:List Value)(ep:Nat)(h:Heap):Prop:= ∃o es,h.get? d=some o/\o.ExactDict/\o.data=.dict es ep/\es.toList.map (·.val)=us
theorem VAt.at{d:Addr}{us:List Value}{ep:Nat}{h h':Heap}(x:VAt d us ep h)(m: ∀o,h.get? d=some o->h'.get? d=some o):VAt d us ep h':=let ⟨o,es,ho,r⟩:=x;⟨o,es,m o ho,r⟩
theorem VAt.size{d:Addr}{us:List Value}{ep:Nat}{h:Heap}(x:VAt d us ep h): ∃o es,h.get? d=some o/\o.ExactDict/\o.data=.dict es ep/\es.size=us.length/\ ∀i (hi:i<es.size),us[i]? =some es[i].val:=by
 obtain⟨o,es,ho,hc,hd,e⟩:=x
 refine⟨o,es,ho,hc,hd,by rw [<-e,lM,Array.length_toList],λi hi=>?_⟩
 rw [<-e,getElem?_map,Array.getElem?_toList,Array.getElem?_eq_getElem hi]
 rfl
end M
end L2
namespace L2
open PySem PySem.Spec PyProof.Rows
abbrev BIG:Nat:=10 ^ 100
section
variable{X:Cx}{par:Str}{i:Nat}{pins:List (Addr×Obj)}{σ:St}{H:Hp}
def tJ(i:Nat):TE:=λσ H Q=> ∃n,σ[i]? =some (some (.int n))/\n.natAbs<BIG/\ ∀y:Str,Q (.str y) H
end
end L2
namespace L2
namespace M
open PySem PySem.Spec PyProof.Rows
structure DefM(K:PySem.W.Frag)(mg:Str->Option Value)(x:Str)(st:Stmt):Prop where
 ex: ∃f fd,mg x=some (.ref f)/\Fun K x x st f fd
theorem def_mk{K:PySem.W.Frag}{mg:Str->Option Value}{h:Heap}{x:Str}{st:Stmt}{g:Addr}{od an:Option Addr}{sl:Array (Option Value)}{oc kV dc pm cd ct:Value}(a:PySem.W.nsIn K mainGlobals x=some (some (.ref g)))
  (l:K.lookup g=some ⟨oc,od,.func (PySem.W.fnOf x x (zEZ st) (zAP st) (zG st) .none kV dc pm an cd ct),sl⟩) (c:PySem.W.codeIn K cd x=true) (k:PySem.W.keepIn K (.ref g)=true) (X:K.In h) (GG:h.Ns mainGlobals mg):DefM K mg x st:=⟨_,_,PySem.W.mg_of X GG a,yNM l c k⟩
structure Cal(P:Program)(w:World)(K:PySem.W.Frag)(mg:Str->Option Value)(base:Heap)(CX:CXT)(x:Str)(k:Nat)(ps:List Str)(sp:Sp):Prop where
 ex: ∃fa fd,FnOk P w K mg base CX k fa fd ps sp/\mg x=some (.ref fa)/\PySem.W.keepIn K (.ref fa)=true/\Binds K fd ps []
abbrev CalM(P:Program)(w:World)(K:PySem.W.Frag)(mg:Str->Option Value)(base:Heap)(x:Str)(k n:Nat)(ps:List Str)(F:List MV->Sto->R Er):Prop:=Cal P w K mg base CX0 x k ps (spM ⟨K,mg,P,w⟩ n F)
abbrev CalX(P:Program)(w:World)(K:PySem.W.Frag)(mg:Str->Option Value)(base:Heap)(x:Str)(k n:Nat)(ps:List Str)(F:List MV->Sto->R Er):Prop:=Cal P w K mg base (CXe P w) x k ps (spX ⟨K,mg,P,w⟩ n F)
section
variable{P:Program}{w:World}{K:PySem.W.Frag}{mg:Str->Option Value}{base:Heap}{x:Str}{st:Stmt}{N ps:List Str}{k n:Nat}{F:List MV->Sto->R Er}
abbrev yPE(x:Str)(st:Stmt)(ps:List Str):Prop:= ∀(kV doc pm:Value)(an:Option Addr)(cdv ct:Value)(us:List Value),us.length=ps.length->bindArgs (PySem.W.fnOf x x (zEZ st) (zAP st) (zG st) .none kV doc pm an cdv ct) ⟨us,[]⟩=pure (ps.zip us)
theorem okC(D:DefM K mg x st)(hb:yPE x st ps)(h: ∀f fd,Fun K x x st f fd->FnOk P w K mg base CX0 k f fd ps (spM ⟨K,mg,P,w⟩ n F)):CalM P w K mg base x k n ps F:=
 let ⟨f,fd,m,Fu⟩:=D.ex;⟨f,fd,h f fd Fu,m,Fu.kp,Fu.binds hb⟩
theorem Cal.noX(G:CalX P w K mg base x k n ps F):CalM P w K mg base x k n ps F:=let ⟨fa,fd,G,m,kp,b⟩:=G.ex;⟨fa,fd,G.noX,m,kp,b⟩
theorem yPF{l:PySem.W.OpenLaw}{fa:Addr}{p:Str}(D:DefM K mg x st)(hfa:mg x=some (.ref fa))(hb: ∀(kV doc pm:Value)(an:Option Addr)(cdv ct:Value)(s:Shared)(v:Value),BindsTo s (PySem.W.fnOf x x (zEZ st) (zAP st) (zG st) .none kV doc pm an cdv ct) ⟨[v],[]⟩ [(p,v)])
  (h: ∀base f fd,Fun K x x st f fd->FnOk l.prog w K mg base CX0 k f fd [p] (spM ⟨K,mg,l.prog,w⟩ 1 F)):
  ∃fd:FuncData,(∀(s:Shared)(v:Value),BindsTo s fd ⟨[v],[]⟩ [(p,v)])/\ ∀base:Heap,K.In base->base.Ns mainGlobals mg->FnOk l.prog w K mg base CX0 k fa fd [p] (zRY K F):=by
 obtain⟨f,fd,m,Fu⟩:=D.ex
 rw [hfa]at m
 cases m
 refine⟨fd,?_,λbase _ _=>(h base fa fd Fu).imp λvs H Q E=>yFX (g:=⟨K,mg,l.prog,w⟩) vs H Q E⟩
 obtain⟨_,_,_,_,_,_,_,_,_,rfl,_,_⟩:=Fu.ex
 exact hb _ _ _ _ _ _
end
section
variable{X:Cx}{W:XW}{E:XK}{e:Expr}{es:List Expr}{af:Rho->Sto->R (List Er)}{k n:Nat}{ps:List Str}{F:List MV->Sto->R Er}{x:Str}{p pos:Pos}
theorem zI(G:CalM X.prog X.w X.K X.mg X.base x k n ps F)(hr:Room k X.A)(hg:Gl X x)(ha:PAm X W (e::es) af)(hdb:(x==("__debug__":Str))=false:=by decide)
  (he:starEach (e::es) X.env=(false,eval e X.env)::starEach es X.env:=by rfl) (hpl:(backTo pos (starEach es X.env)).any (·.1)=false:=by rfl):PEm X W (.Call (.Name x p) (e::es) [] pos) (λρ S=>(af ρ S).bind λrs S1=>zS n F rs S1):=
 let ⟨_,_,G,m,kp,b⟩:=G.ex;zOC G hr hg m kp b ha hdb he hpl
variable{M:Addr}{cs:List (Str×Addr)}{i j:Nat}{nm y:Str}{Fh:AY}{b0:Stmt}{suite:List Stmt}{mp hpos cpos epos pos':Pos}{ns:List Str}
end
end M
end L2
namespace L2
open PySem PySem.Spec PyProof.Rows
structure RoomH(k:Nat)(A:Around):Prop where
 dp:A.depth+3 * k+5<recursionLimit
 un:A.units+16 * k+200<cLine
theorem RoomH.depth{k:Nat}{A:Around}(r:RoomH k A):A.depth<recursionLimit:=by have:=r.dp;omega
theorem RoomH.units{k:Nat}{A:Around}(r:RoomH k A):A.units+64<cLine:=by have:=r.un;omega
structure FnOkH(P:Program)(w:World)(K:PySem.W.Frag)(mg:Str->Option Value)(base:Heap)(k:Nat)(f:Addr)(fd:FuncData)(ps:List Str)(sp:Sp):Prop where
 len: ∀vs H Q E,sp vs H Q E->vs.length=ps.length
 run: ∀(A:Around)(outer:List Env)(s:Shared)(H:Hp)(args:Args)(us:List Value)(vs:List V)(Q:VK)(E:XK),RoomH k A->Env0 P w K mg base A outer s H->BindsTo s fd args (ps.zip us)->Vals vs us->sp vs H Q E->
  codeAny (model P w) A (.call (.ref f) args) (CR CX0 outer P w H s Q E) s
namespace M
section
variable{P:Program}{w:World}{K:PySem.W.Frag}{mg:Str->Option Value}{base:Heap}{x:Str}{st:Stmt}{N ps:List Str}{k n:Nat}{F:List MV->Sto->R Er}
structure CalH(P:Program)(w:World)(K:PySem.W.Frag)(mg:Str->Option Value)(base:Heap)(x:Str)(k n:Nat)(ps:List Str)(F:List MV->Sto->R Er):Prop where
 ex: ∃fa fd,FnOkH P w K mg base k fa fd ps (spM ⟨K,mg,P,w⟩ n F)/\mg x=some (.ref fa)/\PySem.W.keepIn K (.ref fa)=true/\Binds K fd ps []
end
section
variable{X:Cx}{W:XW}{o e:Expr}{es:List Expr}{f:AX}{af:Rho->Sto->R (List Er)}{apos pos:Pos}
def lit3F(kvs:List (MV×MV))(S:Sto):R Er:=.ok (.val (.loc S.length)) (S++[.dic kvs])
end
noncomputable section
variable{α β:Type}
def vJ(i:Nat)(ρ:Rho)(S:Sto):R Er:=rdSl (ρ[i]?) S
def kJ(d:MV)(_:Rho)(S:Sto):R Er:=.ok (.val d) S
def bJ(f:Rho->Sto->R α)(F:α->Sto->R β)(ρ:Rho)(S:Sto):R β:=(f ρ S).bind F
def dJ(F:Er->Er->Sto->R Er)(f g:AX)(ρ:Rho)(S:Sto):R Er:=(f ρ S).bind λp S=>(g ρ S).bind λq S=>F p q S
def nJ(f:AX)(ρ:Rho)(S:Sto):R Er:=(f ρ S).bind λp S=>(asB p S).bind λk S=>.ok (.val (.bl !k)) S
def aJ(f g:AX)(ρ:Rho)(S:Sto):R Er:=(f ρ S).bind λp S=>zOY p S λS=>g ρ S
def oJ(f g:AX)(ρ:Rho)(S:Sto):R Er:=(f ρ S).bind λp S=>orF p S λS=>g ρ S
def iJ(c:AZ)(f g:Rho->Sto->R α)(ρ:Rho)(S:Sto):R α:=(c ρ S).bind λk S=>if k=true then f ρ S else g ρ S
def mJ(_:Rho)(S:Sto):R (Option Int):=.ok none S
def tJ(F:Er->Option Int->Option Int->Sto->R Er)(f:AX)(g h:Rho->Sto->R (Option Int))(ρ:Rho)(S:Sto):R Er:=(f ρ S).bind λp S=>(g ρ S).bind λl S=>(h ρ S).bind λu S=>F p l u S
def lJ(k:List (MV×MV))(_:Rho)(S:Sto):R Er:=lit3F k S
def zJ(_:Rho)(S:Sto):R Er:=yGF S
def fJ(n:Nat)(F:List MV->Sto->R Er)(a:Rho->Sto->R (List Er))(ρ:Rho)(S:Sto):R Er:=(a ρ S).bind λr S=>zS n F r S
def xJ(n:Nat)(F:List MV->Sto->R Er)(a:Rho->Sto->R (List Er))(ρ:Rho)(S:Sto):R Er:=(a ρ S).bind λr S=>yBB n F r S
def hJ(F:List MV->Sto->R Er)(_:Rho)(S:Sto):R Er:=zS 0 F [] S
def eJ(t:Er->Sto->Bool)(F:Er->List Er->Sto->R Er)(f:AX)(a:Rho->Sto->R (List Er))(ρ:Rho)(S:Sto):R Er:=(f ρ S).bind λp S=>if t p S=true then(a ρ S).bind λr S=>F p r S else .no
def gJ(t:Er->Sto->Bool)(F:Er->List Er->Sto->R Er)(f:AX)(ρ:Rho)(S:Sto):R Er:=(f ρ S).bind λp S=>if t p S=true then F p [] S else .no
def uJ(_:Rho)(S:Sto):R Bool:=.ok true S
def pJ(i:Rho->Sto->R Wk)(g:MV->Rho->Sto->R Rho)(c:AZ)(e:AX)(n:Nat)(I:List Nat)(ρ:Rho)(S:Sto):R Er:=(i ρ S).bind λk S=>if k.ds.length<1000000 then(xG g c e (blk n I ρ) k.gs k.ds S).bind λo S=>.ok (.new o) S else .no
def jJ(F G:Er->Er->Sto->R Er)(f g h:AX)(ρ:Rho)(S:Sto):R Er:=(f ρ S).bind λp S=>(g ρ S).bind λq S=>chF F G p q S λS=>h ρ S
def qJ(f:AZ)(ρ:Rho)(S:Sto):R Bool:=(f ρ S).bind λk S=>.ok (!k) S
def rJ(f g:AZ)(ρ:Rho)(S:Sto):R Bool:=(f ρ S).bind λk S=>if k=true then g ρ S else .ok false S
def sJ(f g:AZ)(ρ:Rho)(S:Sto):R Bool:=(f ρ S).bind λk S=>if k=true then .ok true S else g ρ S
def wJ(_:Rho)(S:Sto):R (List Er):=.ok [] S
def yJ(f:AX)(g:Rho->Sto->R (List Er))(ρ:Rho)(S:Sto):R (List Er):=(f ρ S).bind λp S=>(g ρ S).bind λl S=>.ok (p::l) S
def AJ(f:AX)(ρ:Rho)(S:Sto):R Fl:=(f ρ S).bind λr S=>.ok (.ret r) S
def BJ(f:AX)(ρ:Rho)(S:Sto):R Fl:=(f ρ S).bind λ_ S=>.ok (.next ρ) S
def CJ(f:AX)(i:Nat)(ρ:Rho)(S:Sto):R Fl:=(f ρ S).bind (zTA ρ i)
def DJ(F:Er->Er->MV->Rho->Sto->R Rho)(f g:AX)(d:MV)(ρ:Rho)(S:Sto):R Rho:=(f ρ S).bind λp S=>(g ρ S).bind λq S=>F p q d ρ S
def EJ(f:AX)(g:MV->Rho->Sto->R Rho)(ρ:Rho)(S:Sto):R Fl:=(f ρ S).bind (asgF g ρ)
def FJ(i:Rho->Sto->R Wk)(g:MV->Rho->Sto->R Rho)(b:AY)(ρ:Rho)(S:Sto):R Fl:=(i ρ S).bind λk S=>cO g b k.gs k.ds ρ S
def GJ(a:Rho->Sto->R (List Er))(c:Str)(ρ:Rho)(S:Sto):R Fl:=(a ρ S).bind λr S=>if r.length<=10 then .exc c [] S else .no
def HJ(cs:List Str)(i:Nat)(h:AY)(n:Nat)(F:List MV->Sto->R Er)(a:Rho->Sto->R (List Er))(ρ:Rho)(S:Sto):R Fl:=(noX (a ρ S)).bind λr S=>tryF cs i (λ_ S=>.ok (.next ρ) S) h ρ (yBB n F r S)
def IJ(cs:List Str)(i j:Nat)(h:AY)(n:Nat)(F:List MV->Sto->R Er)(a:Rho->Sto->R (List Er))(ρ:Rho)(S:Sto):R Fl:=(noX (a ρ S)).bind λr S=>tryF cs i (zTA ρ j) h ρ (yBB n F r S)
def JJ(ρ:Rho)(S:Sto):R Fl:=.ok (.next ρ) S
end
section
variable{X:Cx}{W:XW}{a e:Expr}{tg:Expr}{p pos:Pos}{ta:TA}{f:AX}{af:Rho->Sto->R (List Er)}
def augF(F:Er->Er->Sto->R Er)(i:Nat)(f:AX)(ρ:Rho)(S:Sto):R Fl:=(rdSl (ρ[i]?) S).bind λp S1=>(f ρ S1).bind λq S2=>(F p q S2).bind (zTA ρ i)
end
noncomputable section
def KJ(n:Nat)(F:List MV->Sto->R Er)(a:Rho->Sto->R (List Er))(ρ:Rho)(S:Sto):R Er:=(noX (a ρ S)).bind λr S=>yBB n F r S
def LJ(c:AZ)(f g:AX)(ρ:Rho)(S:Sto):R Er:=(noX (c ρ S)).bind λk S=>if k=true then f ρ S else g ρ S
def MJ(cs:List Str)(i:Nat)(h:AY)(f:AX)(ρ:Rho)(S:Sto):R Fl:=tryF cs i (λ_ S=>.ok (.next ρ) S) h ρ (f ρ S)
end
end M
end L2
namespace L2
open PySem PySem.Spec PyProof.Rows
namespace M
section
variable{X:Cx}{W:XW}{a e:Expr}{es:List Expr}{f g:AX}{af:Rho->Sto->R (List Er)}{pos apos p p2:Pos}{fld m:Str}
noncomputable def selM(m:Str)(l:List (Str×(List MV->Sto->R Er))):Er->Option (List MV->Sto->R Er)
 |.val (.obj c ns _)=>if m∈ns then none else l.lookup c
 |_=>none
noncomputable def NJ(m:Str)(n:Nat)(l:List (Str×(List MV->Sto->R Er)))(f:AX)(af:Rho->Sto->R (List Er))(ρ:Rho)(S:Sto):R Er:=(f ρ S).bind λp S=>match selM m l p with
 |some F=>(af ρ S).bind λr S=>zS n F (p::r) S
 |none=>.no
end
def zX(y:List Nat):List (List Nat)->List Nat
 |[]=>[]
 |[x]=>x
 |x::r=>x++y++zX y r
theorem zPQ(y:List Nat): ∀zs:List (List Nat),Str.join (mkS y) (zs.map mkS)=mkS (zX y zs)
 |[]=>rfl
 |[x]=>rfl
 |x::z::r=>by
  show mkS x++mkS y++Str.join (mkS y) ((z::r).map mkS)=mkS (x++y++zX y (z::r))
  rw [zPQ y (z::r),zSX,zSX]
theorem yBH{y:Str}: ∀(l:List Str)(n k:Nat),(∀z∈l,z.length+y.length<=1000)->l.length<=k->l.foldl (λa z=>a+z.length+y.length) n<=n+1000 * k
 |[],n,k,_,_=>Nat.le_add_right _ _
 |z::l,n,0,_,h=>by simp at h
 |z::l,n,k+1,hz,h=>by
  rw [foldl_cons]
  have h1:=yBH l (n+z.length+y.length) k (λw hw=>hz w (mO _ hw)) (by simpa using h)
  have h2:=hz z mF0
  omega
theorem joinOk_of{y:List Nat}{zs:List (List Nat)}(h0:y.length<=100)(h1:zs.length<=1000)(h2: ∀z∈zs,z.length<=900):JoinOk (mkS y) (zs.map mkS)=true:=by
 unfold JoinOk
 rw [Bool.not_eq_true']
 unfold Builtin.Str.tooLong
 rw [List.foldl_toArray,decide_eq_false_iff_not]
 have:=yBH (y:=mkS y) (zs.map mkS) 0 1000 (λz hz=>by
  obtain⟨w,hw,rfl⟩:=mM.mp hz
  have:=h2 w hw
  rw [yT,yT]
  omega) (by rw [lM];exact h1)
 rw [sizeLine_eq]
 omega
def zCR:List MV->Option (List (List Nat))
 |[]=>some []
 |.str x::ds=>(zCR ds).map (x::·)
 |_::_=>none
theorem yBI{K:PySem.W.Frag}{α:List Addr}{H:Hp}: ∀{ds:List MV}{zs:List (List Nat)}{vs:List V}{us:List Value},zCR ds=some zs->DenL K α H ds vs->Vals vs us-> ∃l:List (Str×Tok),us=strValues l/\l.map (·.1)=zs.map mkS
 |[],zs,vs,us,e,d,r=>by
  cases e
  rw [d.isnil]at r
  cases r
  exact⟨[],rfl,rfl⟩
 |x::ds,zs,vs,us,e,d,r=>by
  obtain⟨v,r',rfl,d1,d2⟩:=d.uncons
  cases r with
  |cons a b=>
   cases x<;>first |(cases e)|skip
   rename_i i
   unfold zCR at e
   cases z:zCR ds with
   |none=>rw [z]at e;cases e
   |some ms=>
    rw [z]at e
    cases e
    cases kZ d1
    obtain⟨t,rfl⟩:=a
    obtain⟨l,rfl,hl⟩:=yBI z d2 b
    exact⟨(mkS i,t)::l,rfl,by rw [map_cons,hl];rfl⟩
section
variable{X:Cx}{W:XW}{a e:Expr}{es:List Expr}{f:AX}{af:Rho->Sto->R (List Er)}{apos pos:Pos}
theorem yKH:MtR X "str.join" (λx xs H Q=> ∃y l vs ds zs α,x=.str (mkS y)/\xs=[.ref l]/\SqL X.K H l vs/\zCR ds=some zs/\DenL X.K α H ds vs/\(y.length<=100/\zs.length<=1000/\ ∀z∈zs,z.length<=900)/\Q (.str (mkS (zX y zs))) H):=by
 intro pins s σ H x xs v us Q I rx rs h
 obtain⟨y,l,vs,ds,zs,α,rfl,rfl,hl,hz,hd,hc,q⟩:=h
 obtain⟨t,rfl⟩:=rx
 obtain⟨u,rfl,r1⟩:=vals1 rs
 cases r1
 obtain⟨its,rv,p,_⟩:=I.list hl
 obtain⟨ps,rfl,hp⟩:=yBI hz hd rv
 refine PySem.SC.join p.isList hp (joinOk_of hc.1 hc.2.1 hc.2.2) λt' k=>⟨.str (mkS (zX y zs)),H,I.tok _,⟨t',?_⟩,q⟩
 show Value.str (Builtin.Str.glued (mkS y) (zs.map mkS)) t'=_
 rw [StrLaws.glued_eq_join,zPQ]
open Classical in
noncomputable def zNE:Er->List Er->Sto->R Er
 |.val (.str y),[r],S=>match cP S r with
  |some ds=>match zCR ds with
   |some zs=>if y.length<=100/\zs.length<=1000/\ ∀z∈zs,z.length<=900 then .ok (.val (.str (zX y zs))) S else .no
   |none=>.no
  |none=>.no
 |_,_,_=>.no
theorem yKI:yCT X W (λx xs H Q=> ∃y l vs ds zs α,x=.str (mkS y)/\xs=[.ref l]/\SqL X.K H l vs/\zCR ds=some zs/\DenL X.K α H ds vs/\(y.length<=100/\zs.length<=1000/\ ∀z∈zs,z.length<=900)/\Q (.str (mkS (zX y zs))) H) zNE:=by
 intro p rs x vs α S H0 H Q α0 wd x0 dp da post
 replace post:=post.shift x0
 unfold zNE at post
 split at post
 ·split at post
  ·rename_i ds e
   split at post
   ·rename_i zs hz
    split at post
    ·rename_i hc
     obtain⟨v,rfl,dv⟩:=zNB da
     obtain⟨l,us,rfl,h1,h2⟩:=zGW rfl wd e dv
     exact⟨_,l,us,ds,zs,α,xC dp,rfl,h1,hz,h2,hc,Post.val post wd (jM _)⟩
    ·exact post.elim
   ·exact post.elim
  ·exact post.elim
 ·exact post.elim
theorem zTR(ho:PEm X W a f)(ha:PAm X W (e::es) af)
  (hbase:attributeBase a "join" X.env (eval a X.env)=eval a X.env:=by rfl)
  (hfew:((backTo pos (starEach (e::es) X.env)).all (λx=>!x.1)&&(backToKw pos (keywordEach [] X.env)).all (λx=>x.1.isSome)
   &&decide ((e::es).length+([]:List Keyword).length+(if([]:List Keyword).isEmpty then 0 else 1)<30))=true:=by rfl)
  (hline:(apos.endLine==pos.line)=true:=by rfl) (hs:starEach (e::es) X.env=(false,eval e X.env)::starEach es X.env:=by rfl) (hplain:(backTo pos (starEach es X.env)).any (·.1)=false:=by rfl):
  PEm X W (.Call (.Attribute a "join" apos) (e::es) [] pos) (λρ S=>(f ρ S).bind λp S1=>if kT p S1=true then(af ρ S1).bind λrs S2=>zNE p rs S2 else .no):=
 zKY PySem.F.plainAttrs_str PySem.F.slot_str_join PySem.F.type_str_join yKH yKI ty_str ho ha hbase hfew hline hs hplain
end
def zCS(c:Nat):List Nat->List (List Nat)
 |[]=>[[]]
 |a::x=>if a=c then []::zCS c x else match zCS c x with
  |[]=>[[a]]
  |p::r=>(a::p)::r
theorem zTS(c:Nat): ∀x,zCS c x≠[]
 |[]=>by simp [zCS]
 |a::x=>by
  unfold zCS
  split
  ·simp
  ·split<;>simp
theorem zWK(c:Nat): ∀x,zX [c] (zCS c x)=x
 |[]=>rfl
 |a::x=>by
  have ih:=zWK c x
  unfold zCS
  by_cases h:a=c
  ·rw [iP h]
   cases hs:zCS c x with
   |nil=>exact absurd hs (zTS c x)
   |cons p r=>
    rw [hs]at ih
    show []++[c]++zX [c] (p::r)=_
    rw [ih,h]
    rfl
  ·rw [iN h]
   cases hs:zCS c x with
   |nil=>exact absurd hs (zTS c x)
   |cons p r=>
    rw [hs]at ih
    dsimp only
    cases r with
    |nil=>show a::p=_;rw [show p=x from ih]
    |cons q r=>show(a::p)++[c]++zX [c] (q::r)=_;rw [<-ih];rfl
theorem zWL(c:Nat): ∀x, ∀p∈zCS c x,c∉p
 |[],p,h=>by
  rw [show zCS c []=[[]]from rfl,mS]at h
  rw [h];simp
 |a::x,p,h=>by
  have ih:=zWL c x
  unfold zCS at h
  split at h
  ·rcases mC.mp h with rfl|h
   ·simp
   ·exact ih p h
  ·rename_i hac
   split at h
   ·rename_i hs;exact absurd hs (zTS c x)
   ·rename_i q r hs
    rw [hs]at ih
    rcases mC.mp h with rfl|h
    ·intro hm
     rcases mC.mp hm with e|hm
     ·exact hac e.symm
     ·exact ih q mF0 hm
    ·exact ih p (mO _ h)
theorem zSB{c:Nat}: ∀{p q a b:List Nat},c∉p->c∉q->p++c::a=q++c::b->p=q/\a=b
 |[],[],a,b,_,_,h=>by injection h with _ h;exact⟨rfl,h⟩
 |[],y::q,a,b,_,hq,h=>by injection h with h _;exact absurd (mC.mpr (.inl h)) hq
 |x::p,[],a,b,hp,_,h=>by injection h with h _;exact absurd (mC.mpr (.inl h.symm)) hp
 |x::p,y::q,a,b,hp,hq,h=>by
  injection h with h1 h2
  obtain⟨e1,e2⟩:=zSB (λz=>hp (mO _ z)) (λz=>hq (mO _ z)) h2
  exact⟨by rw [h1,e1],e2⟩
theorem zWM{c:Nat}: ∀{P Q:List (List Nat)},P≠[]->Q≠[]->(∀p∈P,c∉p)->(∀q∈Q,c∉q)->zX [c] P=zX [c] Q->P=Q
 |[],_,h,_,_,_,_=>absurd rfl h
 |_,[],_,h,_,_,_=>absurd rfl h
 |[p],[q],_,_,_,_,h=>by rw [show p=q from h]
 |[p],q::q2::Q,_,_,hP,_,h=>by
  have h':p=q++[c]++zX [c] (q2::Q):=h
  exact absurd (by rw [h'];simp) (hP p mF0)
 |p::p2::P,[q],_,_,_,hQ,h=>by
  have h':p++[c]++zX [c] (p2::P)=q:=h
  exact absurd (by rw [<-h'];simp) (hQ q mF0)
 |p::p2::P,q::q2::Q,_,_,hP,hQ,h=>by
  have h':p++[c]++zX [c] (p2::P)=q++[c]++zX [c] (q2::Q):=h
  rw [aA,aA]at h'
  obtain⟨e1,e2⟩:=zSB (hP p mF0) (hQ q mF0) h'
  rw [e1,zWM (by simp) (by simp) (λz hz=>hP z (mO _ hz)) (λz hz=>hQ z (mO _ hz)) e2]
theorem zNF{c:Nat}{P:List (List Nat)}(h:P≠[])(hP: ∀p∈P,c∉p):zCS c (zX [c] P)=P:=zWM (zTS _ _) h (zWL c _) hP (zWK c _)
theorem zSC(x:List Nat)(c:Nat):Txt.split (mkS x) (mkS [c])=(zCS c x).map mkS:=by
 have h1:=StrLaws.join_split (mkS x) (mkS [c])
 have h2:=StrLaws.split_free (mkS x) c
 have h3:=split_pos (mkS x) (mkS [c])
 rw [yAH]at h2
 generalize Txt.split (mkS x) (mkS [c])=L at h1 h2 h3
 obtain⟨P,rfl⟩: ∃P:List (List Nat),L=P.map mkS:=⟨L.map λs=>s.cps.toList,by
  rw [map_map]
  have:(mkS∘λs:Str=>s.cps.toList)=id:=funext λs=>by cases s;simp [mkS]
  rw [this,List.map_id]⟩
 rw [zPQ]at h1
 have h1':=zKV h1
 congr 1
 rw [<-h1']
 symm
 refine zNF (λe=>by rw [e]at h3;simp at h3) λp hp=>?_
 have:=h2 (mkS p) (mM.mpr ⟨p,hp,rfl⟩)
 rwa [gF]at this
section
variable{prog:Program}{w:World}{A:Around}{E:VP}{s:Shared}{x y:Str}{t u:Tok}{Q:VP}
open Builtin Builtin.Str in
theorem zZE(hy:(y.length==0)=false)
  (hq: ∀l k,l.map (·.1)=Txt.split x y->Q (.ref s.heap.objs.size) {s with heap:=s.heap.push {cls:=.type "list",data:=.seq (strValues l).toArray},toks:=k})
  (hsz:x.length<=sizeLine) (hsz2:(partsBetween x (occurrences x y 0 x.length (x.length+1)) y.length).length<=sizeLine):
  wpAny (model prog w) A (call (.builtin "str.split") [.str x t,.str y u]) Q E s:=by
 cases h1:(decide (x.length<y.length) || decide (strKind x<strKind y))
 ·cases hf:(occurrences x y 0 x.length (x.length+1)).isEmpty
  ·refine call_meets F.slot_str_split (typeIs_str _ _ _) F.entry_str_split (F.args_str_split_2 _ _) (meets_str_split_sep x y t u h1 hy hf hsz hsz2) ?_
   show wants Q E _ {s with toks:=_,heap:=s.heap.push {cls:=.type "list",data:=.seq (strsFrom s.toks (partsBetween x (occurrences x y 0 x.length (x.length+1)) y.length)).toArray}}
   rw [strsFrom_eq]
   exact hq (numbered s.toks _) _ ((numbered_texts _ _).trans ((iN (ne_true_of_eq_false h1)).trans (iN (ne_true_of_eq_false hf))).symm)
  ·exact call_meets F.slot_str_split (typeIs_str _ _ _) F.entry_str_split (F.args_str_split_2 _ _) (meets_str_split_not_found x y t u h1 hy hf)
    (hq [(x,t)] s.toks ((iN (ne_true_of_eq_false h1)).trans (iP hf)).symm)
 ·exact call_meets F.slot_str_split (typeIs_str _ _ _) F.entry_str_split (F.args_str_split_2 _ _) (meets_str_split_cannot_occur x y t u h1)
   (hq [(x,t)] s.toks (iP h1).symm)
end
section
variable{X:Cx}{W:XW}{a e:Expr}{es:List Expr}{f:AX}{af:Rho->Sto->R (List Er)}{apos pos:Pos}
theorem zSD: ∀{l:List (Str×Tok)}{ps:List (List Nat)},l.map (·.1)=ps.map mkS->Vals (ps.map λp=>V.str (mkS p)) (strValues l)
 |[],[],_=>.nil
 |[],_::_,h=>by cases h
 |_::_,[],h=>by cases h
 |(x,t)::l,p::ps,h=>by
  rw [map_cons,map_cons]at h
  injection h with h1 h2
  cases (show x=mkS p from h1)
  exact .cons ⟨t,rfl⟩ (zSD h2)
theorem yGO:MtR X "str.split" (λx xs H Q=> ∃(z:List Nat)(c:Nat),x=.str (mkS z)/\xs=[.str (mkS [c])]/\z.length<=100000/\ ∀l,H l=none->Q (.ref l) (upd H l (.lst ((zCS c z).map λp=>V.str (mkS p))))):=by
 intro pins s σ H x xs v us Q I rx rs h
 obtain⟨z,c,rfl,rfl,hz,q⟩:=h
 obtain⟨t,rfl⟩:=rx
 obtain⟨u,rfl,r1⟩:=vals1 rs
 obtain⟨t2,rfl⟩:=r1
 have hl2:(Txt.split (mkS z) (mkS [c])).length<=z.length+2:=by have:=split_le (mkS z) (mkS [c]);rwa [yT]at this
 have hsl:=sizeLine_eq
 refine zZE (by rw [yT];rfl) (λl k e=>?_) (by rw [yT];omega) ?_
 ·rw [zSC]at e
  have hlen:((zCS c z).map λp=>V.str (mkS p)).length<=sizeLine:=by
   rw [zSC,lM]at hl2
   rw [lM]
   omega
  refine⟨.ref s.heap.objs.size,_,I.laid (t':=k) (λb o eb=>hP0 _ eb) (le_refl _) (show ObjOk X.prog X.w _ _ _ (.lst ((zCS c z).map λp=>V.str (mkS p)))from⟨hlen,strValues l,0,zSD e,Heap.get?_push_size _ rfl⟩),rfl,q _ (I.hok.fresh (le_refl _))⟩
 ·rw [length_partsBetween]
  have:=StrLaws.occ_length_le (mkS z) (mkS [c]) 0 (mkS z).length ((mkS z).length+1)
  rw [yT]at this ⊢
  omega
def zPR:Er->List Er->Sto->R Er
 |.val (.str z),[.val (.str [c])],S=>if z.length<=100000 then .ok (.new ((zCS c z).map MV.str)) S else .no
 |_,_,_=>.no
theorem zSE{K:PySem.W.Frag}{α:List Addr}{H:Hp}: ∀(ps:List (List Nat)),DenL K α H (ps.map MV.str) (ps.map λp=>V.str (mkS p))
 |[]=>xF
 |p::ps=>yO (jM p) (zSE ps)
theorem yGP:yCT X W (λx xs H Q=> ∃(z:List Nat)(c:Nat),x=.str (mkS z)/\xs=[.str (mkS [c])]/\z.length<=100000/\ ∀l,H l=none->Q (.ref l) (upd H l (.lst ((zCS c z).map λp=>V.str (mkS p))))) zPR:=by
 intro p rs x vs α S H0 H Q α0 wd x0 dp da post
 replace post:=post.shift x0
 unfold zPR at post
 split at post
 ·split at post
  ·rename_i hz
   obtain⟨v,rfl,dv⟩:=zNB da
   have e1:=xC dp
   have e2:=xC dv
   exact⟨_,_,e1,by rw [e2],hz,λl hl=>Post.newl post wd hl (zSE _)⟩
  ·exact post.elim
 ·exact post.elim
theorem yGQ(ho:PEm X W a f)(ha:PAm X W (e::es) af)
  (hbase:attributeBase a "split" X.env (eval a X.env)=eval a X.env:=by rfl)
  (hfew:((backTo pos (starEach (e::es) X.env)).all (λx=>!x.1)&&(backToKw pos (keywordEach [] X.env)).all (λx=>x.1.isSome)
   &&decide ((e::es).length+([]:List Keyword).length+(if([]:List Keyword).isEmpty then 0 else 1)<30))=true:=by rfl)
  (hline:(apos.endLine==pos.line)=true:=by rfl) (hs:starEach (e::es) X.env=(false,eval e X.env)::starEach es X.env:=by rfl) (hplain:(backTo pos (starEach es X.env)).any (·.1)=false:=by rfl):
  PEm X W (.Call (.Attribute a "split" apos) (e::es) [] pos) (λρ S=>(f ρ S).bind λp S1=>if kT p S1=true then(af ρ S1).bind λrs S2=>zPR p rs S2 else .no):=
 zKY PySem.F.plainAttrs_str PySem.F.slot_str_split PySem.F.type_str_split yGO yGP ty_str ho ha hbase hfew hline hs hplain
end
section
variable{X:Cx}{W:XW}{a b:Expr}{f g:AX}{pos:Pos}
def shrC(i j:Int):Prop:=0<=j
instance(i j:Int):Decidable (shrC i j):=inferInstanceAs (Decidable (_<=_))
end
end M
end L2
namespace L2
namespace M
namespace My
open PySem PySem.Spec PyProof.Rows
local macro_rules
 | `(tactic|simp? [$xs,*] $[$l:location]?)=>`(tactic|simp only [List.getElem?_cons_zero,List.getElem?_cons_succ,yJP,bok,as_int,as_bl,yON,add_int,sub_int,eq_int,yOO,lst0,lst1,lst2,lst3,lst6,tup2,tup3,yOR,yOS,yOT,yOU,yOV,yOW,yJV,yJW,List.set_cons_zero,List.set_cons_succ,if_true,yJY,yJX,vJ,kJ,bJ,dJ,nJ,aJ,oJ,iJ,mJ,tJ,lJ,zJ,fJ,xJ,hJ,eJ,gJ,uJ,pJ,jJ,qJ,rJ,sJ,wJ,yJ,AJ,BJ,CJ,DJ,EJ,FJ,GJ,HJ,IJ,JJ,KJ,LJ,MJ,NJ,$xs,*] $[$l:location]?)
abbrev cZ:List Str:=["thing","least","most"]
abbrev zLY:List Str:=["thing","tables","wide"]
abbrev zKE:List Str:=["atoms","names","atom","term"]
abbrev zIQ:List Str:=["things","atoms","standing"]
abbrev zCT:List Str:=["tables","head","atoms","place","atom"]
abbrev zHC:List Str:=["pieces","sign","parts","piece"]
abbrev kD:List Str:=["tables","text","halves","head","atoms"]
abbrev zKF:List Str:=["_law_cell","_law_prime","_law_number_here"]
abbrev zHD:List Str:=["_law_cell","_law_letters","_law_number_here","_law_name_here","_law_k"]
abbrev zHE:List Str:=["_law_cell","_law_number_here","_law_letters","_law_name_here","_law_at","_law_turned","_law_other","_law_great"]
abbrev zCU:List Str:=["_law_cell","_law_most","_law_number_here","_law_many","_law_tables_here","_law_k","_law_wide"]
abbrev zAR:List Str:=["_law_cell","_law_many","_law_letters","_law_number_here","_law_size","_law_at","_law_beginning","_law_base","_law_j","_law_turned","_law_words_here"]
abbrev zHF:List Str:=["_law_cell","_law_tables_here","_law_words_here","_law_pool_here","_law_wide","_law_number_here","_law_t","_law_terms","_law_k"]
abbrev kE:List Str:=["_law_cells","_law_tables_here","_law_words_here","_law_pool_here","_law_wide","_law_atoms","_law_terms","_law_t","_law_some","_law_there","_law_number_here","_law_head","_law_k"]
abbrev zNG:List Str:=["_law_question_here","_law_text_here","_law_word","_law_k","_law_t","_law_terms","_law_kind","_law_thing"]
abbrev yBJ:List Str:=["_law_script","_law_words_here","_law_pool_here","_law_tables_here","_law_told","_law_start","_law_many","_law_cells","_law_question_here","_law_text_here"]
noncomputable section
abbrev AF:=AY
abbrev AE:=AX
def zFG:AF:=(AJ (aJ (bJ (yJ (vJ 0) (yJ (kJ (.typ "int")) wJ)) hZ) (nJ (bJ (yJ (vJ 0) (yJ (kJ (.typ "bool")) wJ)) hZ))))
def zBD:AF:=(zFG)
def gQ(ds:List MV)(S:Sto):R Er:=yR (zBD (zP ["thing"] ds) S)
def dM:AZ:=uJ
def kP:AE:=(jJ leF leF (kJ (.str [97])) (vJ 0) (kJ (.str [122])))
def dX:AF:=(iJ (sJ (qJ (bJ (bJ (yJ (vJ 0) (yJ (kJ (.typ "str")) wJ)) hZ) jR)) (qJ (bJ (jJ leF leF (kJ (.int 1)) (bJ (yJ (vJ 0) wJ) jS) (kJ (.int 8))) asB))) ((AJ (kJ (.bl false)))) (JJ))
def dY:AF:=(AJ (bJ (yJ (pJ (bJ (vJ 0) itS) (gNm 0) (dM) (kP) 1 []) wJ) zQU))
def zEO:AF:=zO (dX) ((dY))
def wP(ds:List MV)(S:Sto):R Er:=yR (zEO (zP ["thing"] ds) S)
def bH:AF:=(iJ (bJ (fJ 1 gQ (yJ (vJ 0) wJ)) jR) ((AJ (dJ ltF (bJ (yJ (vJ 0) wJ) absF) (dJ zKC (kJ (.int 10)) (kJ (.int 30)))))) (JJ))
def zLE:AF:=(AJ (fJ 1 wP (yJ (vJ 0) wJ)))
def zKG:AF:=zO (bH) ((zLE))
def zFH(ds:List MV)(S:Sto):R Er:=yR (zKG (zP ["thing"] ds) S)
def zLF:AF:=(AJ (aJ (bJ (yJ (vJ 0) (yJ (kJ (.typ "tuple")) wJ)) hZ) (jJ leF leF (vJ 1) (bJ (yJ (vJ 0) wJ) jS) (vJ 2))))
def zKH:AF:=(zLF)
def wW(ds:List MV)(S:Sto):R Er:=yR (zKH (zP cZ ds) S)
def zAK:AF:=(AJ (aJ (fJ 1 gQ (yJ (vJ 0) wJ)) (jJ leF ltF (kJ (.int 0)) (vJ 0) (vJ 1))))
def bI:AF:=(zAK)
def xY(ds:List MV)(S:Sto):R Er:=yR (bI (zP ["thing","bound"] ds) S)
def dZ:AF:=(iJ (qJ (bJ (fJ 3 wW (yJ (vJ 0) (yJ (kJ (.int 2)) (yJ (kJ (.int 2)) wJ)))) jR)) ((AJ (kJ (.bl false)))) (JJ))
def nA:AF:=(iJ (bJ (dJ eqF (dJ ixF (vJ 0) (kJ (.int 0))) (kJ (.str [118,97,114]))) asB) ((AJ (fJ 1 wP (yJ (dJ ixF (vJ 0) (kJ (.int 1))) wJ)))) (JJ))
def zHG:AF:=(AJ (aJ (dJ eqF (dJ ixF (vJ 0) (kJ (.int 0))) (kJ (.str [105,115]))) (fJ 1 zFH (yJ (dJ ixF (vJ 0) (kJ (.int 1))) wJ))))
def zEP:AF:=zO (dZ) (zO (nA) ((zHG)))
def zIR(ds:List MV)(S:Sto):R Er:=yR (zEP (zP ["thing"] ds) S)
def zJM:AZ:=uJ
def zCV:AE:=(fJ 1 zIR (yJ (vJ 0) wJ))
def zHH:AF:=(iJ (sJ (qJ (bJ (fJ 3 wW (yJ (vJ 0) (yJ (kJ (.int 2)) (yJ (kJ (.int 2)) wJ)))) jR)) (qJ (bJ (fJ 2 xY (yJ (dJ ixF (vJ 0) (kJ (.int 0))) (yJ (bJ (yJ (vJ 1) wJ) jS) wJ))) jR))) ((AJ (kJ (.bl false)))) (JJ))
def zHI:AF:=(CJ (dJ ixF (dJ ixF (vJ 1) (dJ ixF (vJ 0) (kJ (.int 0)))) (kJ (.int 0))) 2)
def zHJ:AF:=(AJ (aJ (fJ 3 wW (yJ (dJ ixF (vJ 0) (kJ (.int 1))) (yJ (vJ 2) (yJ (vJ 2) wJ)))) (bJ (yJ (pJ (bJ (dJ ixF (vJ 0) (kJ (.int 1))) itT) (gNm 0) (zJM) (zCV) 1 []) wJ) zQU)))
def zLZ:AF:=zO (zHH) (zO (zHI) ((zHJ)))
def zIS(ds:List MV)(S:Sto):R Er:=yR (zLZ (zP zLY ds) S)
noncomputable def zBE:AY:=(iJ (bJ (dJ eqF (dJ ixF (vJ 3) (kJ (.int 0))) (kJ (.str [118,97,114]))) asB) ((EJ (kJ (.bl true)) (DJ zWI (vJ 1) (dJ ixF (vJ 3) (kJ (.int 1)))))) (JJ))
noncomputable def zAS:AY:=(zBE)
noncomputable def zHK:AY:=(FJ (bJ (dJ ixF (vJ 2) (kJ (.int 1))) itT) (gNm 3) (zAS))
noncomputable def zFI:AY:=(zHK)
def zFJ:AF:=(CJ zJ 1)
def zFK:AF:=(FJ (bJ (vJ 0) itQ) (gNm 2) (zFI))
def zFL:AF:=(AJ (bJ (yJ (vJ 1) wJ) zPO))
def zPS:AF:=zO (zFJ) (zO (zFK) ((zFL)))
def dA(ds:List MV)(S:Sto):R Er:=yR (zPS (zP zKE ds) S)
def zJN:AZ:=uJ
def zCW:AE:=(dJ (inF false) (vJ 0) (vJ 1))
def zHL:AF:=(CJ (fJ 1 dA (yJ (vJ 1) wJ)) 2)
def zHM:AF:=(iJ (sJ (bJ (dJ gtF (bJ (yJ (vJ 0) wJ) jS) (kJ (.int 4))) asB) (qJ (bJ (bJ (yJ (pJ (bJ (vJ 0) itQ) (gNm 0) (zJN) (zCW) 1 [2]) wJ) zQU) jR))) ((AJ (kJ (.bl false)))) (JJ))
def zHN:AF:=(AJ (dJ eqF (bJ (yJ (vJ 0) wJ) zSA) (bJ (yJ (vJ 0) wJ) jS)))
def zSF:AF:=zO (zHL) (zO (zHM) ((zHN)))
def zAW(ds:List MV)(S:Sto):R Er:=yR (zSF (zP zIQ ds) S)
def zPT:AF:=(AJ (bJ (yJ (vJ 0) (yJ (bJ (yJ (kJ (.typ "list")) (yJ (kJ (.typ "tuple")) wJ)) zGU) wJ)) zWE))
def zPU:AF:=(zPT)
def zHO(ds:List MV)(S:Sto):R Er:=yR (zPU (zP ["thing"] ds) S)
noncomputable def zCD:AY:=(iJ (qJ (bJ (fJ 2 zIS (yJ (vJ 4) (yJ (vJ 0) wJ))) jR)) ((λ_ _=>R.no)) (JJ))
noncomputable def nI:AY:=(zCD)
def nK:AF:=(iJ (qJ (bJ (fJ 1 zHO (yJ (vJ 2) wJ)) jR)) ((λ_ _=>R.no)) (JJ))
def nL:AF:=(FJ (bJ (yJ (vJ 2) wJ) itE) (gTp 2 (yB (gNm 3) (yB (gNm 4) gR))) (nI))
def nM:AF:=(iJ (sJ (qJ (bJ (jJ leF leF (kJ (.int 1)) (bJ (yJ (vJ 2) wJ) jS) (kJ (.int 4))) asB)) (sJ (qJ (bJ (fJ 1 zHO (yJ (vJ 1) wJ)) jR)) (qJ (bJ (fJ 2 zAW (yJ (vJ 1) (yJ (vJ 2) wJ))) jR)))) ((λ_ _=>R.no)) (JJ))
def nN:AF:=(AJ (bJ (yJ (bJ (yJ (vJ 1) wJ) cX) (yJ (bJ (yJ (vJ 2) wJ) cX) wJ)) zGU))
def zJO:AF:=zO (nK) (zO (nL) (zO (nM) ((nN))))
def kQ(ds:List MV)(S:Sto):R Er:=yR (zJO (zP zCT ds) S)
def zHP:AF:=(AJ (bJ (yJ (vJ 0) wJ) strF))
def zFM:AF:=(zHP)
def jN(ds:List MV)(S:Sto):R Er:=yR (zFM (zP ["value"] ds) S)
def zAL:AZ:=uJ
def jT:AE:=(dJ (inF false) (vJ 0) (kJ (.str [48,49,50,51,52,53,54,55,56,57])))
def bK:AF:=(CJ (iJ (bJ (eJ kT swF (vJ 0) (yJ (kJ (.str [45])) wJ)) jR) (tJ zJF (vJ 0) (bJ (kJ (.int 1)) asI) mJ) (vJ 0)) 1)
def bL:AF:=(iJ (qJ (bJ (jJ leF leF (kJ (.int 1)) (bJ (yJ (vJ 1) wJ) jS) (kJ (.int 30))) asB)) ((AJ (kJ (.bl false)))) (JJ))
def bM:AF:=(iJ (qJ (bJ (bJ (yJ (pJ (bJ (vJ 1) itS) (gNm 0) (zAL) (jT) 1 []) wJ) zQU) jR)) ((AJ (kJ (.bl false)))) (JJ))
def bN:AF:=(AJ (oJ (dJ eqF (vJ 0) (kJ (.str [48]))) (dJ neF (dJ ixF (vJ 1) (kJ (.int 0))) (kJ (.str [48])))))
def nO:AF:=zO (bK) (zO (bL) (zO (bM) ((bN))))
def xV(ds:List MV)(S:Sto):R Er:=yR (nO (zP ["text","figures"] ds) S)
def zHQ:AF:=(iJ (qJ (bJ (bJ (yJ (vJ 0) (yJ (kJ (.typ "str")) wJ)) hZ) jR)) ((λ_ _=>R.no)) (JJ))
def jE:AF:=(iJ (bJ (fJ 1 wP (yJ (vJ 0) wJ)) jR) ((AJ (vJ 0))) (JJ))
def zBF:AF:=(iJ (bJ (fJ 1 xV (yJ (vJ 0) wJ)) jR) ((AJ (bJ (yJ (vJ 0) wJ) zYW))) (JJ))
def zPV:AF:=(λ_ _=>R.no)
def zAT:AF:=zO (zHQ) (zO (jE) (zO (zBF) ((zPV))))
def wX(ds:List MV)(S:Sto):R Er:=yR (zAT (zP ["text"] ds) S)
def zJP:AF:=(AJ (iJ (bJ (dJ eqF (dJ ixF (vJ 0) (kJ (.int 0))) (kJ (.str [118,97,114]))) asB) (dJ xK (kJ (.str [63])) (dJ ixF (vJ 0) (kJ (.int 1)))) (fJ 1 jN (yJ (dJ ixF (vJ 0) (kJ (.int 1))) wJ))))
def zHR:AF:=(zJP)
def zCE(ds:List MV)(S:Sto):R Er:=yR (zHR (zP ["term"] ds) S)
def zGJ:AZ:=uJ
def nP:AE:=(fJ 1 zCE (yJ (vJ 0) wJ))
def zCX:AF:=(AJ (eJ kT zNE (kJ (.str [32])) (yJ (dJ xK (bJ (yJ (fJ 1 jN (yJ (dJ ixF (vJ 0) (kJ (.int 0))) wJ)) wJ) cV) (pJ (bJ (dJ ixF (vJ 0) (kJ (.int 1))) itT) (gNm 0) (zGJ) (nP) 1 [])) wJ)))
def zHS:AF:=(zCX)
def zCF(ds:List MV)(S:Sto):R Er:=yR (zHS (zP ["atom"] ds) S)
def jU:AZ:=uJ
def wG:AE:=(dJ xK (kJ (.str [63])) (vJ 0))
def zAM:AZ:=uJ
def jV:AE:=(fJ 1 zCF (yJ (vJ 0) wJ))
def bO:AF:=(CJ (pJ (bJ (dJ ixF (vJ 0) (kJ (.int 0))) itT) (gNm 0) (jU) (wG) 1 []) 1)
def bP:AF:=(AJ (eJ kT zNE (kJ (.str [32])) (yJ (dJ xK (vJ 1) (bJ (yJ (kJ (.str [58])) (yJ (eJ kT zNE (kJ (.str [32,59,32])) (yJ (pJ (bJ (dJ ixF (vJ 0) (kJ (.int 1))) itT) (gNm 0) (zAM) (jV) 1 []) wJ)) wJ)) cV)) wJ)))
def nQ:AF:=zO (bO) ((bP))
def kF(ds:List MV)(S:Sto):R Er:=yR (nQ (zP ["question","head"] ds) S)
def zCY:AF:=(iJ (sJ (qJ (bJ (eJ kT swF (vJ 0) (yJ (kJ (.str [63])) wJ)) jR)) (qJ (bJ (fJ 1 wP (yJ (tJ zJF (vJ 0) (bJ (kJ (.int 1)) asI) mJ) wJ)) jR))) ((λ_ _=>R.no)) (JJ))
def zCZ:AF:=(AJ (tJ zJF (vJ 0) (bJ (kJ (.int 1)) asI) mJ))
def zHT:AF:=zO (zCY) ((zCZ))
def gT(ds:List MV)(S:Sto):R Er:=yR (zHT (zP ["piece"] ds) S)
def gB:AF:=(iJ (bJ (eJ kT swF (vJ 0) (yJ (kJ (.str [63])) wJ)) jR) ((AJ (bJ (yJ (kJ (.str [118,97,114])) (yJ (fJ 1 gT (yJ (vJ 0) wJ)) wJ)) zGU))) (JJ))
def zDA:AF:=(AJ (bJ (yJ (kJ (.str [105,115])) (yJ (fJ 1 wX (yJ (vJ 0) wJ)) wJ)) zGU))
def zHU:AF:=zO (gB) ((zDA))
def zCG(ds:List MV)(S:Sto):R Er:=yR (zHU (zP ["piece"] ds) S)
def gI:AZ:=uJ
def kG:AE:=(fJ 1 zCG (yJ (vJ 0) wJ))
def zDB:AF:=(iJ (sJ (bJ (dJ eqF (bJ (yJ (vJ 0) wJ) jS) (kJ (.int 0))) asB) (qJ (bJ (fJ 1 xV (yJ (dJ ixF (vJ 0) (kJ (.int 0))) wJ)) jR))) ((λ_ _=>R.no)) (JJ))
def zDC:AF:=(AJ (bJ (yJ (fJ 1 wX (yJ (dJ ixF (vJ 0) (kJ (.int 0))) wJ)) (yJ (bJ (yJ (pJ (bJ (tJ zJF (vJ 0) (bJ (kJ (.int 1)) asI) mJ) itL) (gNm 0) (gI) (kG) 1 []) wJ) cX) wJ)) zGU))
def zHV:AF:=zO (zDB) ((zDC))
def zCH(ds:List MV)(S:Sto):R Er:=yR (zHV (zP ["pieces"] ds) S)
noncomputable def nR:AY:=(iJ (bJ (dJ eqF (vJ 3) (vJ 1)) asB) ((BJ (eJ zGI zPI (vJ 2) (yJ (bJ wJ cV) wJ)))) ((BJ (eJ zGI zPI (dJ ixF (vJ 2) (kJ (.int (-1)))) (yJ (vJ 3) wJ)))))
noncomputable def kR:AY:=(nR)
def zDD:AF:=(CJ (bJ (yJ (bJ wJ cV) wJ) cV) 2)
def zDE:AF:=(FJ (bJ (vJ 0) itL) (gNm 3) (kR))
def zJQ:AF:=(AJ (vJ 2))
def zNH:AF:=zO (zDD) (zO (zDE) ((zJQ)))
def jF(ds:List MV)(S:Sto):R Er:=yR (zNH (zP zHC ds) S)
def jW:AZ:=uJ
def wH:AE:=(fJ 1 gT (yJ (vJ 0) wJ))
def jX:AZ:=uJ
def wI:AE:=(fJ 1 zCH (yJ (vJ 0) wJ))
def zCI:AF:=(iJ (qJ (bJ (bJ (yJ (vJ 1) (yJ (kJ (.typ "str")) wJ)) hZ) jR)) ((λ_ _=>R.no)) (JJ))
def bQ:AF:=(CJ (fJ 2 jF (yJ (eJ kT zPR (vJ 1) (yJ (kJ (.str [32])) wJ)) (yJ (kJ (.str [58])) wJ))) 2)
def bR:AF:=(iJ (bJ (dJ neF (bJ (yJ (vJ 2) wJ) jS) (kJ (.int 2))) asB) ((λ_ _=>R.no)) (JJ))
def bS:AF:=(CJ (pJ (bJ (dJ ixF (vJ 2) (kJ (.int 0))) itL) (gNm 0) (jW) (wH) 1 []) 3)
def bT:AF:=(CJ (pJ (bJ (fJ 2 jF (yJ (dJ ixF (vJ 2) (kJ (.int 1))) (yJ (kJ (.str [59])) wJ))) itL) (gNm 0) (jX) (wI) 1 []) 4)
def bU:AF:=(AJ (fJ 3 kQ (yJ (vJ 0) (yJ (vJ 3) (yJ (vJ 4) wJ)))))
def zGK:AF:=zO (zCI) (zO (bQ) (zO (bR) (zO (bS) (zO (bT) ((bU))))))
def xW(ds:List MV)(S:Sto):R Er:=yR (zGK (zP kD ds) S)
def dB:AF:=(iJ (bJ (dJ ltF (vJ 1) (bJ (yJ (vJ 0) wJ) jS)) asB) ((AJ (dJ ixF (vJ 0) (vJ 1)))) (JJ))
def zMA:AF:=(AJ (kJ (.int 0)))
def zBG:AF:=zO (dB) ((zMA))
def yC(ds:List MV)(S:Sto):R Er:=yR (zBG (zP ["_law_script","_law_k"] ds) S)
def zFN:AF:=(iJ (bJ (dJ eqF (dJ jB (vJ 0) (kJ (.int 2))) (kJ (.int 0))) asB) ((AJ (dJ jB (dJ dW (vJ 0) (kJ (.int 2))) (dJ zKC (dJ zKC (kJ (.int 10)) (kJ (.int 60))) (kJ (.int 10)))))) (JJ))
def zFO:AF:=(CJ (dJ jB (dJ zQS (dJ xK (dJ jB (vJ 0) (kJ (.int 2147483629))) (kJ (.int 7))) (kJ (.int 48271))) (vJ 1)) 2)
def zFP:AF:=(AJ (dJ xK (dJ zQS (dJ jB (dJ zQS (vJ 2) (vJ 2)) (kJ (.int 2147483579))) (kJ (.int 1000003))) (vJ 2)))
def zKI:AF:=zO (zFN) (zO (zFO) ((zFP)))
def yM(ds:List MV)(S:Sto):R Er:=yR (zKI (zP zKF ds) S)
noncomputable def nS:AY:=(CJ (dJ xK (vJ 3) (dJ ixF (vJ 1) (dJ jB (vJ 2) (kJ (.int 26))))) 3)
noncomputable def nT:AY:=(CJ (dJ dW (vJ 2) (kJ (.int 26))) 2)
noncomputable def dN:AY:=zO (nS) ((nT))
def zJR:AF:=(CJ (kJ (.str [97,98,99,100,101,102,103,104,105,106,107,108,109,110,111,112,113,114,115,116,117,118,119,120,121,122])) 1)
def zDF:AF:=(CJ (dJ dW (vJ 0) (kJ (.int 8))) 2)
def zJS:AF:=(CJ (kJ (.str [])) 3)
def zDG:AF:=(FJ (bJ (yJ (dJ xK (kJ (.int 1)) (dJ jB (vJ 0) (kJ (.int 8)))) wJ) zEJ) (gNm 4) (dN))
def zQW:AF:=(AJ (vJ 3))
def zNI:AF:=zO (zJR) (zO (zDF) (zO (zJS) (zO (zDG) ((zQW)))))
def gU(ds:List MV)(S:Sto):R Er:=yR (zNI (zP zHD ds) S)
def zDH:AF:=(CJ (fJ 2 yM (yJ (vJ 0) (yJ (kJ (.int 2147483587)) wJ))) 1)
def zJT:AF:=(CJ (kJ (.str [97,98,99,100,101,102,103,104,105,106,107,108,109,110,111,112,113,114,115,116,117,118,119,120,121,122])) 2)
def zDI:AF:=(CJ (fJ 1 gU (yJ (vJ 1) wJ)) 3)
def zDJ:AF:=(CJ (dJ dW (vJ 1) (dJ zQS (kJ (.int 8)) (dJ zKC (kJ (.int 26)) (kJ (.int 8))))) 1)
def zDK:AF:=(CJ (dJ jB (vJ 1) (bJ (yJ (vJ 3) wJ) jS)) 4)
def zDL:AF:=(CJ (dJ xK (dJ xK (eJ kT zPH (vJ 2) (yJ (dJ ixF (vJ 3) (vJ 4)) wJ)) (kJ (.int 1))) (dJ jB (dJ dW (vJ 1) (kJ (.int 8))) (kJ (.int 25)))) 5)
def zDM:AF:=(CJ (dJ xK (dJ xK (tJ zJF (vJ 3) mJ (bJ (vJ 4) asI)) (dJ ixF (vJ 2) (dJ jB (vJ 5) (kJ (.int 26))))) (tJ zJF (vJ 3) (bJ (dJ xK (vJ 4) (kJ (.int 1))) asI) mJ)) 6)
def zDN:AF:=(CJ (dJ dW (vJ 1) (kJ (.int 200))) 1)
def zDO:AF:=(CJ (dJ xK (dJ jB (dJ zKC (dJ xK (dJ zQS (dJ jB (vJ 1) (dJ zKC (kJ (.int 10)) (kJ (.int 30)))) (kJ (.int 48271))) (kJ (.int 11))) (kJ (.int 4))) (dJ yCX (dJ zKC (kJ (.int 10)) (kJ (.int 30))) (kJ (.int 3)))) (kJ (.int 1))) 7)
def bV:AF:=(iJ (bJ (dJ eqF (dJ jB (vJ 1) (kJ (.int 2))) (kJ (.int 1))) asB) ((CJ (dJ xK (dJ jB (dJ dW (vJ 1) (kJ (.int 2))) (dJ yCX (dJ zKC (kJ (.int 10)) (kJ (.int 30))) (kJ (.int 3)))) (kJ (.int 1))) 7)) (JJ))
def zBH:AF:=(AJ (bJ (yJ (dJ jB (dJ dW (vJ 1) (kJ (.int 64))) (kJ (.int 5))) (yJ (vJ 7) (yJ (vJ 3) (yJ (dJ yCX (kJ (.int 0)) (vJ 7)) (yJ (vJ 6) (yJ (dJ xK (dJ jB (dJ dW (vJ 1) (kJ (.int 320))) (kJ (.int 5))) (kJ (.int 7))) (yJ (dJ xK (vJ 7) (kJ (.int 1))) wJ))))))) cV))
def zNJ:AF:=zO (zDH) (zO (zJT) (zO (zDI) (zO (zDJ) (zO (zDK) (zO (zDL) (zO (zDM) (zO (zDN) (zO (zDO) (zO (bV) ((zBH)))))))))))
def gV(ds:List MV)(S:Sto):R Er:=yR (zNJ (zP zHE ds) S)
def zEQ(self:List MV->Sto->R Er):AZ:=uJ
def dC(self:List MV->Sto->R Er):AE:=(fJ 2 self (yJ (vJ 0) (yJ (vJ 1) wJ)))
def xR(self:List MV->Sto->R Er):AF:=(iJ (bJ (dJ zTH (vJ 1) (kJ .non)) asB) ((AJ (dJ zTH (vJ 0) (kJ .non)))) (JJ))
def xS(self:List MV->Sto->R Er):AF:=(iJ (bJ (bJ (yJ (vJ 1) (yJ (kJ (.typ "str")) wJ)) hZ) jR) ((AJ (aJ (bJ (yJ (vJ 0) (yJ (kJ (.typ "str")) wJ)) hZ) (dJ eqF (vJ 0) (vJ 1))))) (JJ))
def jG(self:List MV->Sto->R Er):AF:=(iJ (bJ (bJ (yJ (vJ 1) (yJ (kJ (.typ "int")) wJ)) hZ) jR) ((AJ (aJ (bJ (yJ (vJ 0) (yJ (kJ (.typ "int")) wJ)) hZ) (aJ (nJ (bJ (yJ (vJ 0) (yJ (kJ (.typ "bool")) wJ)) hZ)) (dJ eqF (vJ 0) (vJ 1)))))) (JJ))
def zBI(self:List MV->Sto->R Er):AF:=(iJ (rJ (bJ (bJ (yJ (vJ 1) (yJ (kJ (.typ "list")) wJ)) hZ) jR) (qJ (bJ (bJ (yJ (vJ 0) (yJ (kJ (.typ "list")) wJ)) hZ) jR))) ((AJ (kJ (.bl false)))) (JJ))
def zBJ(self:List MV->Sto->R Er):AF:=(iJ (rJ (bJ (bJ (yJ (vJ 1) (yJ (kJ (.typ "tuple")) wJ)) hZ) jR) (qJ (bJ (bJ (yJ (vJ 0) (yJ (kJ (.typ "tuple")) wJ)) hZ) jR))) ((AJ (kJ (.bl false)))) (JJ))
def zHW(self:List MV->Sto->R Er):AF:=(AJ (aJ (dJ eqF (bJ (yJ (vJ 0) wJ) jS) (bJ (yJ (vJ 1) wJ) jS)) (bJ (yJ (pJ (bJ (yJ (vJ 0) (yJ (vJ 1) wJ)) itZ) (gTp 2 (yB (gNm 0) (yB (gNm 1) gR))) (zEQ self) (dC self) 2 []) wJ) zQU)))
def zFQ(self:List MV->Sto->R Er):AF:=zO (xR self) (zO (xS self) (zO (jG self) (zO (zBI self) (zO (zBJ self) ((zHW self))))))
def zQ:Nat->List MV->Sto->R Er
 |0=>λ_ _=>.no
 |n+1=>λds S=>yR (zFQ (zQ n) (zP ["_law_told","_law_due"] ds) S)
noncomputable def bW:AY:=(CJ (dJ xK (kJ (.int 1)) (dJ jB (vJ 2) (kJ (.int 4)))) 6)
noncomputable def bX:AY:=(BJ (eJ zGI zPI (vJ 4) (yJ (bJ (yJ (vJ 6) (yJ (dJ jB (dJ dW (vJ 2) (kJ (.int 4))) (dJ xK (vJ 6) (kJ (.int 1)))) wJ)) zGU) wJ)))
noncomputable def bY:AY:=(CJ (dJ dW (vJ 2) (kJ (.int 20))) 2)
noncomputable def gK:AY:=zO (bW) (zO (bX) ((bY)))
def nU:AF:=(CJ (fJ 2 yM (yJ (vJ 0) (yJ (kJ (.int 2147483629)) wJ))) 2)
def nV:AF:=(CJ (dJ xK (kJ (.int 1)) (dJ jB (vJ 2) (vJ 1))) 3)
def nW:AF:=(CJ (dJ dW (vJ 2) (vJ 1)) 2)
def nX:AF:=(CJ (bJ wJ cV) 4)
def nY:AF:=(FJ (bJ (yJ (vJ 3) wJ) zEJ) (gNm 5) (gK))
def nZ:AF:=(AJ (bJ (yJ (vJ 4) wJ) cX))
def zJU:AF:=zO (nU) (zO (nV) (zO (nW) (zO (nX) (zO (nY) ((nZ))))))
def kS(ds:List MV)(S:Sto):R Er:=yR (zJU (zP zCU ds) S)
noncomputable def dD:AY:=(CJ (dJ xK (vJ 7) (dJ ixF (vJ 2) (dJ jB (vJ 3) (kJ (.int 26))))) 7)
noncomputable def dE:AY:=(CJ (dJ dW (vJ 3) (kJ (.int 26))) 3)
noncomputable def bZ:AY:=zO (dD) ((dE))
def jO:AZ:=uJ
def wQ:AE:=(dJ xK (dJ xK (tJ zJF (vJ 3) mJ (bJ (vJ 2) asI)) (dJ ixF (vJ 1) (dJ jB (dJ xK (vJ 4) (vJ 0)) (kJ (.int 26))))) (tJ zJF (vJ 3) (bJ (dJ xK (vJ 2) (kJ (.int 1))) asI) mJ))
def zHX:AF:=(CJ (kJ (.str [97,98,99,100,101,102,103,104,105,106,107,108,109,110,111,112,113,114,115,116,117,118,119,120,121,122])) 2)
def zBK:AF:=(CJ (fJ 2 yM (yJ (vJ 0) (yJ (kJ (.int 2147483647)) wJ))) 3)
def zBL:AF:=(CJ (dJ xK (kJ (.int 1)) (dJ jB (vJ 3) (kJ (.int 7)))) 4)
def zBM:AF:=(CJ (dJ jB (dJ dW (vJ 3) (kJ (.int 7))) (vJ 4)) 5)
def zBN:AF:=(CJ (dJ eqF (dJ jB (dJ dW (vJ 3) (kJ (.int 49))) (kJ (.int 3))) (kJ (.int 1))) 6)
def zBO:AF:=(CJ (dJ dW (vJ 3) (kJ (.int 147))) 3)
def zHY:AF:=(CJ (kJ (.str [])) 7)
def zBP:AF:=(FJ (bJ (yJ (vJ 4) wJ) zEJ) (gNm 8) (bZ))
def zBQ:AF:=(CJ (eJ kT zPH (vJ 2) (yJ (dJ ixF (vJ 7) (vJ 5)) wJ)) 9)
def zAA:AF:=(CJ (pJ (bJ (yJ (vJ 1) wJ) zEJ) (gNm 0) (jO) (wQ) 1 [2,5,7,9]) 10)
def gL:AF:=(iJ (bJ (vJ 6) jR) ((EJ (dJ xK (dJ ixF (vJ 10) (kJ (.int 0))) (dJ ixF (vJ 2) (dJ jB (vJ 3) (kJ (.int 26))))) (DJ zRX (vJ 10) (kJ (.int 1))))) (JJ))
def zGL:AF:=(AJ (vJ 10))
def zLG:AF:=zO (zHX) (zO (zBK) (zO (zBL) (zO (zBM) (zO (zBN) (zO (zBO) (zO (zHY) (zO (zBP) (zO (zBQ) (zO (zAA) (zO (gL) ((zGL))))))))))))
def wY(ds:List MV)(S:Sto):R Er:=yR (zLG (zP zAR ds) S)
noncomputable def kH:AY:=(iJ (bJ (dJ ltF (dJ jB (vJ 5) (kJ (.int 5))) (kJ (.int 3))) asB) ((BJ (eJ zGI zPI (vJ 7) (yJ (bJ (yJ (kJ (.str [118,97,114])) (yJ (dJ ixF (vJ 2) (dJ jB (dJ dW (vJ 5) (kJ (.int 5))) (bJ (yJ (vJ 2) wJ) jS))) wJ)) zGU) wJ)))) ((BJ (eJ zGI zPI (vJ 7) (yJ (bJ (yJ (kJ (.str [105,115])) (yJ (dJ ixF (vJ 3) (dJ jB (dJ dW (vJ 5) (kJ (.int 5))) (vJ 4))) wJ)) zGU) wJ)))))
noncomputable def zAB:AY:=(CJ (dJ dW (vJ 5) (kJ (.int 210))) 5)
noncomputable def gC:AY:=zO (kH) ((zAB))
def zDP:AF:=(CJ (fJ 2 yM (yJ (vJ 0) (yJ (kJ (.int 2147483549)) wJ))) 5)
def zDQ:AF:=(CJ (dJ jB (vJ 5) (bJ (yJ (vJ 1) wJ) jS)) 6)
def zDR:AF:=(CJ (dJ dW (vJ 5) (bJ (yJ (vJ 1) wJ) jS)) 5)
def zDS:AF:=(CJ (bJ wJ cV) 7)
def zDT:AF:=(FJ (bJ (yJ (dJ ixF (dJ ixF (vJ 1) (vJ 6)) (kJ (.int 0))) wJ) zEJ) (gNm 8) (gC))
def zDU:AF:=(AJ (bJ (yJ (vJ 6) (yJ (bJ (yJ (vJ 7) wJ) cX) wJ)) zGU))
def zNK:AF:=zO (zDP) (zO (zDQ) (zO (zDR) (zO (zDS) (zO (zDT) ((zDU))))))
def gW(ds:List MV)(S:Sto):R Er:=yR (zNK (zP zHF ds) S)
def jY:AZ:=uJ
def wK:AE:=(fJ 5 gW (yJ (vJ 0) (yJ (vJ 1) (yJ (vJ 2) (yJ (vJ 3) (yJ (vJ 4) wJ))))))
noncomputable def zAN:AY:=(CJ (dJ xK (vJ 6) (bJ (yJ (vJ 8) wJ) yAX)) 6)
noncomputable def kW:AY:=(zAN)
def jZ:AZ:=(bJ (dJ (inF false) (bJ (yJ (kJ (.str [118,97,114])) (yJ (vJ 0) wJ)) zGU) (vJ 1)) asB)
def zAO:AE:=(vJ 0)
noncomputable def yN:AY:=(iJ (rJ (bJ (dJ gtF (dJ jB (vJ 10) (kJ (.int 3))) (kJ (.int 0))) asB) (bJ (dJ ltF (bJ (yJ (vJ 11) wJ) jS) (kJ (.int 4))) asB)) ((BJ (eJ zGI zPI (vJ 11) (yJ (dJ ixF (vJ 9) (vJ 12)) wJ)))) (JJ))
noncomputable def hU:AY:=(CJ (dJ dW (vJ 10) (kJ (.int 3))) 10)
noncomputable def xZ:AY:=zO (yN) ((hU))
def cA:AF:=(CJ (bJ (yJ (pJ (bJ (tJ zJF (vJ 0) (bJ (kJ (.int 1)) asI) mJ) itL) (gNm 0) (jY) (wK) 1 [1,2,3,4]) wJ) cX) 5)
def cB:AF:=(CJ (bJ wJ cV) 6)
def cC:AF:=(FJ (bJ (vJ 5) itT) (gTp 2 (yB (gNm 7) (yB (gNm 8) gR))) (kW))
def cE:AF:=(CJ (pJ (bJ (vJ 2) itL) (gNm 0) (jZ) (zAO) 1 [6]) 9)
def cF:AF:=(CJ (fJ 2 yM (yJ (dJ ixF (vJ 0) (kJ (.int 0))) (yJ (kJ (.int 2147483489)) wJ))) 10)
def cG:AF:=(CJ (bJ wJ cV) 11)
def cH:AF:=(FJ (bJ (yJ (bJ (yJ (vJ 9) wJ) jS) wJ) zEJ) (gNm 12) (xZ))
def kX:AF:=(iJ (bJ (dJ eqF (dJ jB (vJ 10) (kJ (.int 2))) (kJ (.int 1))) asB) ((CJ (tJ (zVX (-1)) (vJ 11) mJ mJ) 11)) (JJ))
def cI:AF:=(AJ (bJ (yJ (bJ (yJ (vJ 11) wJ) cX) (yJ (vJ 5) wJ)) zGU))
def zGM:AF:=zO (cA) (zO (cB) (zO (cC) (zO (cE) (zO (cF) (zO (cG) (zO (cH) (zO (kX) ((cI)))))))))
def xO(ds:List MV)(S:Sto):R Er:=yR (zGM (zP kE ds) S)
def kI(self:List MV->Sto->R Er):AF:=(iJ (bJ (dJ ltF (vJ 0) (kJ (.int 0))) asB) ((AJ (dJ xK (kJ (.str [45])) (fJ 1 self (yJ (dJ yCX (kJ (.int 0)) (vJ 0)) wJ))))) (JJ))
def kK(self:List MV->Sto->R Er):AF:=(iJ (bJ (dJ ltF (vJ 0) (kJ (.int 10))) asB) ((AJ (dJ ixF (kJ (.str [48,49,50,51,52,53,54,55,56,57])) (vJ 0)))) (JJ))
def zAC(self:List MV->Sto->R Er):AF:=(AJ (dJ xK (fJ 1 self (yJ (dJ dW (vJ 0) (kJ (.int 10))) wJ)) (dJ ixF (kJ (.str [48,49,50,51,52,53,54,55,56,57])) (dJ jB (vJ 0) (kJ (.int 10))))))
def wC(self:List MV->Sto->R Er):AF:=zO (kI self) (zO (kK self) ((zAC self)))
def zT:Nat->List MV->Sto->R Er
 |0=>λ_ _=>.no
 |n+1=>λds S=>yR (wC (zT n) (zP ["_law_number_here"] ds) S)
def zBR:AF:=(iJ (bJ (bJ (yJ (vJ 0) (yJ (kJ (.typ "str")) wJ)) hZ) jR) ((AJ (vJ 0))) (JJ))
def zBS:AF:=(AJ (fJ 1 (zT 33) (yJ (vJ 0) wJ)))
def zFR:AF:=zO (zBR) ((zBS))
def cJ(ds:List MV)(S:Sto):R Er:=yR (zFR (zP ["_law_value_here"] ds) S)
noncomputable def zGN:AY:=(CJ (dJ xK (dJ xK (dJ xK (vJ 1) (kJ (.str [63]))) (vJ 2)) (kJ (.str [32]))) 1)
noncomputable def dO:AY:=(zGN)
noncomputable def zAD:AY:=(CJ (dJ xK (dJ xK (vJ 1) (dJ ixF (bJ (yJ (kJ (.str [32])) (yJ (kJ (.str [32,63])) wJ)) cV) (bJ (yJ (dJ eqF (vJ 6) (kJ (.str [118,97,114]))) wJ) zYW))) (fJ 1 cJ (yJ (vJ 7) wJ))) 1)
noncomputable def gD:AY:=(zAD)
noncomputable def zAE:AY:=(EJ (dJ ixF (dJ ixF (vJ 0) (kJ (.int 1))) (vJ 3)) (gTp 2 (yB (gNm 4) (yB (gNm 5) gR))))
noncomputable def zAF:AY:=(CJ (dJ xK (dJ xK (vJ 1) (dJ ixF (bJ (yJ (kJ (.str [32,59,32])) (yJ (kJ (.str [32])) wJ)) cV) (bJ (yJ (dJ eqF (vJ 3) (kJ (.int 0))) wJ) zYW))) (fJ 1 (zT 33) (yJ (vJ 4) wJ))) 1)
noncomputable def zAG:AY:=(FJ (bJ (vJ 5) itT) (gTp 2 (yB (gNm 6) (yB (gNm 7) gR))) (gD))
noncomputable def dP:AY:=zO (zAE) (zO (zAF) ((zAG)))
def zDV:AF:=(CJ (kJ (.str [])) 1)
def zDW:AF:=(FJ (bJ (dJ ixF (vJ 0) (kJ (.int 0))) itT) (gNm 2) (dO))
def zDX:AF:=(CJ (dJ xK (vJ 1) (kJ (.str [58]))) 1)
def zDY:AF:=(FJ (bJ (yJ (bJ (yJ (dJ ixF (vJ 0) (kJ (.int 1))) wJ) jS) wJ) zEJ) (gNm 3) (dP))
def zJV:AF:=(AJ (vJ 1))
def zHZ:AF:=zO (zDV) (zO (zDW) (zO (zDX) (zO (zDY) ((zJV)))))
def zCJ(ds:List MV)(S:Sto):R Er:=yR (zHZ (zP zNG ds) S)
def zMB:AZ:=uJ
def zIT:AE:=(fJ 2 yC (yJ (vJ 1) (yJ (dJ xK (vJ 2) (vJ 0)) wJ)))
noncomputable def zMC:AY:=(CJ (dJ xK (kJ (.int 1)) (dJ jB (dJ dW (fJ 2 yC (yJ (vJ 0) (yJ (vJ 5) wJ))) (kJ (.int 64))) (kJ (.int 4)))) 6)
noncomputable def zMD:AY:=(CJ (pJ (bJ (yJ (dJ xK (kJ (.int 1)) (vJ 6)) wJ) zEJ) (gNm 0) (zMB) (zIT) 1 [0,5]) 7)
noncomputable def zME:AY:=(CJ (fJ 5 xO (yJ (vJ 7) (yJ (vJ 3) (yJ (vJ 1) (yJ (vJ 2) (yJ (kJ (.int 7)) wJ)))))) 8)
noncomputable def zMF:AY:=(CJ (fJ 1 kF (yJ (vJ 8) wJ)) 9)
noncomputable def zMG:AY:=(iJ (sJ (qJ (bJ (bJ (yJ (vJ 9) (yJ (kJ (.typ "str")) wJ)) hZ) jR)) (bJ (dJ neF (vJ 9) (fJ 1 zCJ (yJ (vJ 8) wJ))) asB)) ((AJ (kJ (.bl false)))) (JJ))
noncomputable def zMH:AY:=(BJ (eJ zGI zPI (vJ 4) (yJ (bJ (yJ (vJ 9) (yJ (vJ 8) wJ)) zGU) wJ)))
noncomputable def zTT:AY:=zO (zMC) (zO (zMD) (zO (zME) (zO (zMF) (zO (zMG) ((zMH))))))
noncomputable def zSG:AY:=(iJ (qJ (bJ (fJ 2 (zQ 8) (yJ (fJ 2 xW (yJ (vJ 3) (yJ (vJ 9) wJ))) (yJ (vJ 8) wJ))) jR)) ((AJ (kJ (.bl false)))) (JJ))
noncomputable def zOG:AY:=(zSG)
def zTU:AF:=(CJ (fJ 2 wY (yJ (fJ 2 yC (yJ (vJ 0) (yJ (kJ (.int 0)) wJ))) (yJ (kJ (.int 6)) wJ))) 1)
def zTV:AF:=(CJ (fJ 1 gV (yJ (fJ 2 yC (yJ (vJ 0) (yJ (kJ (.int 1)) wJ))) wJ)) 2)
def zTW:AF:=(EJ (dJ ixF (vJ 1) (kJ (.int 0))) (DJ zRX (vJ 2) (kJ (.int 4))))
def zTX:AF:=(CJ (fJ 2 kS (yJ (fJ 2 yC (yJ (vJ 0) (yJ (kJ (.int 2)) wJ))) (yJ (kJ (.int 4)) wJ))) 3)
def zTY:AF:=(CJ (bJ wJ cV) 4)
def zTZ:AF:=(FJ (bJ (bJ (yJ (kJ (.int 3)) (yJ (kJ (.int 8)) wJ)) cV) itL) (gNm 5) (zTT))
def zUA:AF:=(FJ (bJ (dJ xK (vJ 4) (tJ zJF (vJ 4) mJ (bJ (kJ (.int 1)) asI))) itL) (gTp 2 (yB (gNm 9) (yB (gNm 8) gR))) (zOG))
def zUB:AF:=(AJ (dJ eqF (fJ 1 kF (yJ (dJ ixF (dJ ixF (vJ 4) (kJ (.int 0))) (kJ (.int 1))) wJ)) (dJ ixF (dJ ixF (vJ 4) (kJ (.int 0))) (kJ (.int 0)))))
def yLR:AF:=zO (zTU) (zO (zTV) (zO (zTW) (zO (zTX) (zO (zTY) (zO (zTZ) (zO (zUA) ((zUB))))))))
def zSH(ds:List MV)(S:Sto):R Er:=yR (yLR (zP yBJ ds) S)
end
def abc:List Nat:=[97,98,99,100,101,102,103,104,105,106,107,108,109,110,111,112,113,114,115,116,117,118,119,120,121,122]
theorem yDN(c n:Int)(x:List Nat)(s:Option MV)(S:Sto)(h:x.length<=1000): ∃k,(97<=k/\k<=122)/\dN [some (.int c),some (.str abc),some (.int n),some (.str x),s] S=
  .ok (.next [some (.int c),some (.str abc),some (.int (n / 26)),some (.str (x++[k])),s]) S:=by
 obtain⟨k,hk⟩:=dI (xs:=abc) (i:=n % 26) (eN _ (by decide)) (by have:=eL n (show(0:Int)<26 by decide);show n % 26<26;exact this)
 refine⟨k,dL (P:=λk=>97<=k/\k<=122) (by decide) hk,?_⟩
 have h1:nS [some (.int c),some (.str abc),some (.int n),some (.str x),s] S=.ok (.next [some (.int c),some (.str abc),some (.int n),some (.str (x++[k])),s]) S:=by
  unfold nS
  simp? [mod_lit (show(0:Int)<26 by decide),ix_str (show abc.length<=sizeLine by rw [sizeLine_eq];decide) hk]
  rw [add_str (fits (by rw [lS];omega))]
  rfl
 have h2:nT [some (.int c),some (.str abc),some (.int n),some (.str (x++[k])),s] S=.ok (.next [some (.int c),some (.str abc),some (.int (n / 26)),some (.str (x++[k])),s]) S:=by
  unfold nT
  simp? [yX (b:=26) (by decide) (by decide)]
 unfold dN
 rw [zC h1,h2]
theorem zSI(c:Int)(S:Sto): ∀(ds:List MV)(n:Int)(x:List Nat)(s:Option MV),x.length+ds.length<=1000->(∀c∈x,97<=c/\c<=122)-> ∃n' x' s',cO (gNm 4) dN [] ds [some (.int c),some (.str abc),some (.int n),some (.str x),s] S=
  .ok (.next [some (.int c),some (.str abc),some (.int n'),some (.str x'),s']) S/\x'.length=x.length+ds.length/\ ∀c∈x',97<=c/\c<=122
 |[],n,x,s,_,hx=>⟨n,x,s,rfl,rfl,hx⟩
 |d::ds,n,x,s,h,hx=>by
  rw [lC]at h
  obtain⟨k,hl,hk⟩:=yDN c n x (some d) S (by omega)
  obtain⟨n',x',s',h1,h2,h3⟩:=zSI c S ds (n / 26) (x++[k]) (some d) (by rw [lA,lS];omega) (by
   intro c hc
   rw [mem_append,mS]at hc
   rcases hc with hc|rfl
   ·exact hx c hc
   ·exact hl)
  refine⟨n',x',s',?_,by rw [h2,lA,lS,lC];omega,h3⟩
  rw [yZ rfl hk (wD S)]
  exact h1
theorem yKJ(c:Int)(S:Sto): ∃x,gU [.int c] S=.ok (.val (.str x)) S/\Nm x:=by
 have hm0:0<=c % 8:=eN _ (by decide)
 have hm1:c % 8<8:=eL _ (by decide)
 have hn:((List.range (1+c % 8).toNat).map λk=>MV.int (k:Nat)).length=(1+c % 8).toNat:=by rw [lM,length_range]
 obtain⟨n',x',s',h1,h2,h3⟩:=zSI c S ((List.range (1+c % 8).toNat).map λk=>MV.int (k:Nat)) (c / 8) [] none (by rw [hn];simp only [length_nil];omega) (by simp)
 rw [hn,length_nil]at h2
 refine⟨x',?_,by omega,by omega,h3⟩
 have e1:zJR [some (.int c),none,none,none,none] S=.ok (.next [some (.int c),some (.str abc),none,none,none]) S:=rfl
 have e2:zDF [some (.int c),some (.str abc),none,none,none] S=.ok (.next [some (.int c),some (.str abc),some (.int (c / 8)),none,none]) S:=by
  unfold zDF
  simp? [yX (b:=8) (by decide) (by decide)]
 have e3:zJS [some (.int c),some (.str abc),some (.int (c / 8)),none,none] S=.ok (.next [some (.int c),some (.str abc),some (.int (c / 8)),some (.str []),none]) S:=rfl
 have e4:zDG [some (.int c),some (.str abc),some (.int (c / 8)),some (.str []),none] S=.ok (.next [some (.int c),some (.str abc),some (.int n'),some (.str x'),s']) S:=by
  unfold zDG
  simp? [mod_lit (show(0:Int)<8 by decide)]
  rw [zHB (by omega),bok]
  exact h1
 have hs:zP zHD [.int c]=[some (.int c),none,none,none,none]:=rfl
 unfold gU zNI
 rw [hs,zC e1,zC e2,zC e3,zC e4]
 rfl
theorem p1060(S:Sto):zKC (.val (.int 10)) (.val (.int 60)) S=.ok (.val (.int (10 ^ 60))) S:=rfl
theorem p600(S:Sto):zKC (.val (.int (10 ^ 60))) (.val (.int 10)) S=.ok (.val (.int ((10 ^ 60) ^ 10))) S:=by
 show(if yCZ (10 ^ 60) 10 then R.ok (Er.val (.int ((10 ^ 60) ^ (10:Int).toNat))) S else .no)=_
 rw [iP (by decide+kernel)]
 rfl
theorem pp30(S:Sto):zKC (.val (.int 10)) (.val (.int 30)) S=.ok (.val (.int (10 ^ 30))) S:=rfl
theorem pp268(S:Sto):zKC (.val (.int 26)) (.val (.int 8)) S=.ok (.val (.int 208827064576)) S:=rfl
theorem yKK{b:Int}(h:yCY 0 b)(a:Int)(S:Sto):dW (.val (.int a)) (.val (.int b)) S=.ok (.val (.int (a / b))) S:=iP (show yCY a b from h)
theorem yPG{a:Int}(h:0<=a/\a<4294967296)(S:Sto):zQS (.val (.int a)) (.val (.int a)) S=.ok (.val (.int (a * a))) S:=
 zOE ⟨Int.lt_of_lt_of_le (by decide) h.1,Int.lt_trans h.2 (by decide)⟩ a S
theorem zPW(c p:Int)(hp:0<p/\p<4294967296)(S:Sto): ∃n,zS 2 yM [.val (.int c),.val (.int p)] S=.ok (.val (.int n)) S:=by
 have hs:zP zKF [.int c,.int p]=[some (.int c),some (.int p),none]:=rfl
 have h600:(0:Int)<(10 ^ 60) ^ 10:=Int.pow_pos (Int.pow_pos (by decide))
 have e1:zFN [some (.int c),some (.int p),none] S=if decide (c % 2=0)=true then .ok (.ret (.val (.int (c / 2 % (10 ^ 60) ^ 10)))) S else .ok (.next [some (.int c),some (.int p),none]) S:=by
  unfold zFN
  simp? [mod_lit (show(0:Int)<2 by decide),yX (b:=2) (by decide) (by decide),p1060,p600,mod_lit h600]
 have fin: ∀n,yM [.int c,.int p] S=.ok (.val (.int n)) S-> ∃n,zS 2 yM [.val (.int c),.val (.int p)] S=.ok (.val (.int n)) S:=λn h=>⟨n,yI rfl h (zPL _ _) (λl=>by simp)⟩
 cases hb:decide (c % 2=0)with
 |true=>
  refine fin (c / 2 % (10 ^ 60) ^ 10) ?_
  rw [hb,iP rfl]at e1
  unfold yM zKI
  rw [hs,wF e1]
  rfl
 |false=>
  rw [hb,iN xF0]at e1
  have hn0:0<=(c % 2147483629+7) * 48271 % p:=eN _ (by omega)
  have hn1:(c % 2147483629+7) * 48271 % p<p:=eL _ hp.1
  have e2:zFO [some (.int c),some (.int p),none] S=.ok (.next [some (.int c),some (.int p),some (.int ((c % 2147483629+7) * 48271 % p))]) S:=by
   unfold zFO
   simp? [mod_lit (show(0:Int)<2147483629 by decide),zOE (show -(2 ^ 64)<(48271:Int)/\(48271:Int)<2 ^ 64 by decide),mod_lit hp.1]
  generalize (c % 2147483629+7) * 48271 % p=m at hn0 hn1 e2
  have e3:zFP [some (.int c),some (.int p),some (.int m)] S=.ok (.ret (.val (.int (m * m % 2147483579 * 1000003+m)))) S:=by
   unfold zFP
   simp? [yPG (a:=m) ⟨hn0,by omega⟩,mod_lit (show(0:Int)<2147483579 by decide),zOE (show -(2 ^ 64)<(1000003:Int)/\(1000003:Int)<2 ^ 64 by decide)]
  refine fin (m * m % 2147483579 * 1000003+m) ?_
  unfold yM zKI
  rw [hs,zC e1,zC e2,e3]
  rfl
theorem yBK: ∀k,k<26->strIdx abc [97+k]=some k:=by decide+kernel
abbrev P8(c n:Int)(a b x4 x5 x6 x7:Option MV):Rho:=[some (.int c),some (.int n),a,b,x4,x5,x6,x7]
section
variable{c n:Int}{a b x4 x5 x6 x7:Option MV}{S:Sto}{x:List Nat}{at' tn:Int}
theorem po4:zDJ (P8 c n a b x4 x5 x6 x7) S=.ok (.next (P8 c (n / 1670616516608) a b x4 x5 x6 x7)) S:=by
 unfold zDJ
 simp? [pp268,yGE (show -(2 ^ 64)<(8:Int)/\(8:Int)<2 ^ 64 by decide),yKK (show yCY 0 (8 * 208827064576) by decide+kernel)]
 rfl
theorem po5(hx:Nm x):zDK (P8 c n a (some (.str x)) x4 x5 x6 x7) S=.ok (.next (P8 c n a (some (.str x)) (some (.int (n % x.length))) x5 x6 x7)) S:=by
 have hl:jS [.val (.str x)] S=.ok (.val (.int x.length)) S:=iP (fits (by have:=hx.2.1;omega))
 have hp:(0:Int)<(x.length:Int):=by have:=hx.1;omega
 unfold zDK
 simp? [hl,mod_lit hp]
theorem po6(hx:Nm x)(h0:0<=at')(h1:at'<x.length): ∃tn,zDL (P8 c n (some (.str abc)) (some (.str x)) (some (.int at')) x5 x6 x7) S=.ok (.next (P8 c n (some (.str abc)) (some (.str x)) (some (.int at')) (some (.int tn)) x6 x7)) S:=by
 obtain⟨k,hk⟩:=dI (xs:=x) h0 h1
 obtain⟨k0,k1⟩:=dL (P:=λc=>97<=c/\c<=122) hx.2.2 hk
 have hi:=yBK (k - 97) (by omega)
 rw [show 97+(k - 97)=k by omega]at hi
 have hsi:zPH (.val (.str abc)) [.val (.str [k])] S=.ok (.val (.int ((k - 97:Nat):Int))) S:=by
  show(match strIdx abc [k]with |some i=>R.ok (Er.val (.int (i:Nat))) S|none=>.no)=_
  rw [hi]
 refine⟨((k - 97:Nat):Int)+1+n / 8 % 25,?_⟩
 unfold zDL
 simp? [ix_str (S:=S) (fits (show x.length<=1000000 by have:=hx.2.1;omega)) hk,show kT (.val (.str abc)) S=true from rfl,hsi,yX (b:=8) (by decide) (by decide),mod_lit (show(0:Int)<25 by decide)]
theorem po7(hx:Nm x)(h0:0<=at')(h1:at'<x.length): ∃y,Nm y/\zDM (P8 c n (some (.str abc)) (some (.str x)) (some (.int at')) (some (.int tn)) x6 x7) S=.ok (.next (P8 c n (some (.str abc)) (some (.str x)) (some (.int at')) (some (.int tn)) (some (.str y)) x7)) S:=by
 obtain⟨k,hk⟩:=dI (xs:=abc) (i:=tn % 26) (eN _ (by decide)) (by have:=eL tn (show(0:Int)<26 by decide);show tn % 26<26;exact this)
 have hkl:=dL (P:=λk=>97<=k/\k<=122) (by decide) hk
 have c1:cN x none (some at')=x.take at'.toNat:=yBA _ _ h0
 have c2:cN x (some (at'+1)) none=x.drop (at'.toNat+1):=by
  unfold cN
  have z1:HT.sIx x.length 0 (some (at'+1))=at'.toNat+1:=by
   unfold HT.sIx
   simp only
   split<;>omega
  have z2:HT.sIx x.length x.length none=x.length:=rfl
  rw [z1,z2]
  rw [List.take_of_length_le (by rw [length_drop];omega)]
 have hlen:=hx.2.1
 refine⟨x.take at'.toNat++[k]++x.drop (at'.toNat+1),⟨?_,?_,?_⟩,?_⟩
 ·simp only [lA,lS];omega
 ·simp only [lA,lS,lT,length_drop];omega
 ·intro z hz
  rw [mem_append,mem_append,mS]at hz
  rcases hz with(hz|rfl)|hz
  ·exact hx.2.2 z (List.mem_of_mem_take hz)
  ·exact hkl
  ·exact hx.2.2 z (List.mem_of_mem_drop hz)
 ·unfold zDM
  simp? [cut_str (S:=S) (fits (show x.length<=1000000 by omega)),c1,mod_lit (show(0:Int)<26 by decide),ix_str (show abc.length<=sizeLine by rw [sizeLine_eq];decide) hk,c2]
  rw [add_str (x:=x.take at'.toNat) (y:=[k]) (fits (by rw [lS,lT];omega)),bok]
  simp? [cut_str (S:=S) (fits (show x.length<=1000000 by omega)),c2]
  rw [add_str (fits (by simp only [lA,lS,lT,length_drop];omega)),bok]
  rfl
theorem po8:zDN (P8 c n a b x4 x5 x6 x7) S=.ok (.next (P8 c (n / 200) a b x4 x5 x6 x7)) S:=by
 unfold zDN
 simp? [yX (b:=200) (by decide) (by decide)]
theorem po9: ∃g,(1<=g/\g<=10 ^ 30 - 3)/\zDO (P8 c n a b x4 x5 x6 x7) S=.ok (.next (P8 c n a b x4 x5 x6 (some (.int g)))) S:=by
 have h0:0<=n % 10 ^ 30:=eN _ (by decide)
 have h1:n % 10 ^ 30<10 ^ 30:=eL _ (by decide)
 have h2:0<=(n % 10 ^ 30 * 48271+11) ^ (4:Int).toNat % (10 ^ 30 - 3):=eN _ (by decide)
 have h3:(n % 10 ^ 30 * 48271+11) ^ (4:Int).toNat % (10 ^ 30 - 3)<10 ^ 30 - 3:=eL _ (by decide)
 have h4:yCZ (n % 10 ^ 30 * 48271+11) 4:=by
  refine⟨by decide,?_⟩
  have hb:Builtin.Int.intBits (n % 10 ^ 30 * 48271+11)<=200:=by
   unfold Builtin.Int.intBits
   split
   ·omega
   ·rename_i hn
    have hn':(n % 10 ^ 30 * 48271+11).natAbs≠0:=by omega
    have:=(log2_lt hn').mpr (show(n % 10 ^ 30 * 48271+11).natAbs<2 ^ 199 by omega)
    omega
  omega
 refine⟨(n % 10 ^ 30 * 48271+11) ^ (4:Int).toNat % (10 ^ 30 - 3)+1,⟨by omega,by omega⟩,?_⟩
 unfold zDO
 simp? [pp30,mod_lit (show(0:Int)<10 ^ 30 by decide),zOE (show -(2 ^ 64)<(48271:Int)/\(48271:Int)<2 ^ 64 by decide),yJU h4,mod_lit (show(0:Int)<10 ^ 30 - 3 by decide)]
theorem po10{g:Int}(hg:1<=g/\g<=10 ^ 30 - 3): ∃g',(1<=g'/\g'<=10 ^ 30 - 3)/\bV (P8 c n a b x4 x5 x6 (some (.int g))) S=.ok (.next (P8 c n a b x4 x5 x6 (some (.int g')))) S:=by
 have h2:0<=n / 2 % (10 ^ 30 - 3):=eN _ (by decide)
 have h3:n / 2 % (10 ^ 30 - 3)<10 ^ 30 - 3:=eL _ (by decide)
 have e:bV (P8 c n a b x4 x5 x6 (some (.int g))) S=if decide (n % 2=1)=true then .ok (.next (P8 c n a b x4 x5 x6 (some (.int (n / 2 % (10 ^ 30 - 3)+1))))) S else .ok (.next (P8 c n a b x4 x5 x6 (some (.int g)))) S:=by
  unfold bV
  simp? [mod_lit (show(0:Int)<2 by decide),yX (b:=2) (by decide) (by decide),pp30,mod_lit (show(0:Int)<10 ^ 30 - 3 by decide)]
 cases hb:decide (n % 2=1)with
 |true=>exact⟨n / 2 % (10 ^ 30 - 3)+1,⟨by omega,by omega⟩,by rw [e,hb,iP rfl]⟩
 |false=>exact⟨g,hg,by rw [e,hb,iN xF0]⟩
theorem lst7(a b c d e f g:MV)(S:Sto):cV [.val a,.val b,.val c,.val d,.val e,.val f,.val g] S=.ok (.new [a,b,c,d,e,f,g]) S:=zBC (by simp)
theorem po11{g:Int}{y:List Nat}(hg:1<=g/\g<=10 ^ 30 - 3)(hx:Nm x)(hy:Nm y): ∃vs,vs.length=7/\(∀d∈vs,Vl d)/\zBH (P8 c n a (some (.str x)) x4 x5 (some (.str y)) (some (.int g))) S=.ok (.ret (.new vs)) S:=by
 have h0:0<=n / 64 % 5:=eN _ (by decide)
 have h1:n / 64 % 5<5:=eL _ (by decide)
 have h2:0<=n / 320 % 5:=eN _ (by decide)
 have h3:n / 320 % 5<5:=eL _ (by decide)
 refine⟨[.int (n / 64 % 5),.int g,.str x,.int (0 - g),.str y,.int (n / 320 % 5+7),.int (g+1)],rfl,?_,?_⟩
 ·intro d hd
  simp only [mC,nM0,or_false]at hd
  rcases hd with rfl|rfl|rfl|rfl|rfl|rfl|rfl
  ·exact⟨by omega,by omega⟩
  ·exact⟨by omega,by omega⟩
  ·exact hx
  ·exact⟨by omega,by omega⟩
  ·exact hy
  ·exact⟨by omega,by omega⟩
  ·exact⟨by omega,by omega⟩
 ·unfold zBH
  simp? [yX (b:=64) (by decide) (by decide),mod_lit (show(0:Int)<5 by decide),yX (b:=320) (by decide) (by decide),lst7]
end
theorem yKL(c:Int)(S:Sto): ∃vs,vs.length=7/\(∀d∈vs,Vl d)/\zS 1 gV [.val (.int c)] S=.ok (.new vs) S:=by
 obtain⟨n,hn⟩:=zPW c 2147483587 ⟨by decide,by decide⟩ S
 obtain⟨x,hx,nx⟩:=yKJ n S
 have hc:zS 1 gU [.val (.int n)] S=.ok (.val (.str x)) S:=yI rfl hx (gP _ x) (λl=>by simp)
 have hs:zP zHE [.int c]=[some (.int c),none,none,none,none,none,none,none]:=rfl
 have e1:zDH [some (.int c),none,none,none,none,none,none,none] S=.ok (.next (P8 c n none none none none none none)) S:=by
  unfold zDH
  simp? [hn]
 have e2:zJT (P8 c n none none none none none none) S=.ok (.next (P8 c n (some (.str abc)) none none none none none)) S:=rfl
 have e3:zDI (P8 c n (some (.str abc)) none none none none none) S=.ok (.next (P8 c n (some (.str abc)) (some (.str x)) none none none none)) S:=by
  unfold zDI
  simp? [hc]
 have hp:0<x.length:=by have:=nx.1;omega
 have hm0:0<=n / 1670616516608 % (x.length:Int):=eN _ (by omega)
 have hm1:n / 1670616516608 % (x.length:Int)<x.length:=eL _ (by omega)
 obtain⟨tn,e6⟩:=po6 (c:=c) (n:=n / 1670616516608) (x5:=none) (x6:=none) (x7:=none) (S:=S) nx hm0 hm1
 obtain⟨y,ny,e7⟩:=po7 (c:=c) (n:=n / 1670616516608) (tn:=tn) (x6:=none) (x7:=none) (S:=S) nx hm0 hm1
 obtain⟨g,hg,e9⟩:=po9 (c:=c) (n:=n / 1670616516608 / 200) (a:=some (.str abc)) (b:=some (.str x)) (x4:=some (.int (n / 1670616516608 % (x.length:Int)))) (x5:=some (.int tn)) (x6:=some (.str y)) (x7:=none) (S:=S)
 obtain⟨g',hg',e10⟩:=po10 (c:=c) (n:=n / 1670616516608 / 200) (a:=some (.str abc)) (b:=some (.str x)) (x4:=some (.int (n / 1670616516608 % (x.length:Int)))) (x5:=some (.int tn)) (x6:=some (.str y)) (S:=S) hg
 obtain⟨vs,hl,hv,e11⟩:=po11 (c:=c) (n:=n / 1670616516608 / 200) (a:=some (.str abc)) (x4:=some (.int (n / 1670616516608 % (x.length:Int)))) (x5:=some (.int tn)) (S:=S) hg' nx ny
 refine⟨vs,hl,hv,zWC (T:=[]) rfl ?_ (zKD λd hd=>(hv d hd).lo _)⟩
 rw [aN]
 show gV [.int c] S=_
 unfold gV zNJ
 rw [hs,zC e1,zC e2,zC e3,zC po4,zC (po5 nx),zC e6,zC e7,zC po8,zC e9,zC e10,e11]
 rfl
theorem zIU{S:Sto}{l:Nat}{ds:List MV}{d:MV}(hS:S[l]? =some (.lst ds))(hz:ds.length<1000000):zPI (.val (.loc l)) [.val d] S=.ok (.val .non) (S.set l (.lst (ds++[d]))):=by
 show zWA (.val (.loc l)) S (λds=>if ds.length<sizeLine then some (ds++[d])else none)=_
 unfold zWA
 dsimp only
 rw [hS]
 dsimp only
 rw [iP (lt_of_lt_of_le hz (fits (le_refl _)))]
theorem zFS{S:Sto}{l:Nat}{ds:List MV}(hS:S[l]? =some (.lst ds)):zGI (.val (.loc l)) S=true:=by
 unfold zGI
 rw [zEN hS];rfl
theorem zWN{S:Sto}{l:Nat}{ds:List MV}{k:Int}{j:Nat}{d:MV}{ρ:Rho}(hS:S[l]? =some (.lst ds))(hj:ixN ds.length k=some j):zRX (.val (.loc l)) (.val (.int k)) d ρ S=.ok ρ (S.set l (.lst (ds.set j d))):=by
 unfold zRX
 dsimp only
 rw [hS]
 dsimp only
 rw [hj]
theorem get_set{S:Sto}{l:Nat}{o o':MO}(h:S[l]? =some o):(S.set l o')[l]? =some o':=getElem?_set_self (gS0.mp h).1
theorem zIV{S:Sto}{l:Nat}{ds:List MV}(hS:S[l]? =some (.lst ds)):cX [.val (.loc l)] S=.ok (.val (.tup ds)) S:=by
 show(match cP S (.val (.loc l))with |some ds=>R.ok (Er.val (.tup ds)) S|none=>.no)=_
 rw [zEN hS]
theorem zLH(ds:List MV)(S:Sto):jS [.val (.tup ds)] S=.ok (.val (.int ds.length)) S:=rfl
theorem zOH(gf:MV->Rho->Sto->R Rho)(ρ:Rho)(d:MV)(S:Sto):asgF gf ρ (.val d) S=(gf d ρ S).bind λρ' S2=>.ok (.next ρ') S2:=rfl
def tbl(p:Int×Int):MV:=.tup [.int p.1,.int p.2]
def TOk(ts:List (Int×Int)):Prop:=1<=ts.length/\ts.length<=4/\ ∀p∈ts,1<=p.1/\p.1<=4/\0<=p.2/\p.2<=p.1
abbrev P7(c m n k:MV)(l:Nat)(x5 x6:Option MV):Rho:=[some c,some m,some n,some k,some (.loc l),x5,x6]
theorem yGR{c m k:MV}{n:Int}{l:Nat}{x5 x6:Option MV}{S:Sto}{ts:List (Int×Int)}(hS:S[l]? =some (.lst (ts.map tbl)))(hl:ts.length<1000):
  ∃p n',(1<=p.1/\p.1<=4/\0<=p.2/\p.2<=p.1)/\gK (P7 c m (.int n) k l x5 x6) S=.ok (.next (P7 c m (.int n') k l x5 (some (.int p.1)))) (S.set l (.lst ((ts++[p]).map tbl))):=by
 have h0:0<=n % 4:=eN _ (by decide)
 have h1:n % 4<4:=eL _ (by decide)
 have hp:(0:Int)<1+n % 4+1:=by omega
 have h2:0<=n / 4 % (1+n % 4+1):=eN _ (by omega)
 have h3:n / 4 % (1+n % 4+1)<1+n % 4+1:=eL _ hp
 refine⟨(1+n % 4,n / 4 % (1+n % 4+1)),n / 20,⟨by show 1<=1+n % 4;omega,by show 1+n % 4<=4;omega,h2,by show n / 4 % (1+n % 4+1)<=1+n % 4;omega⟩,?_⟩
 have e1:bW (P7 c m (.int n) k l x5 x6) S=.ok (.next (P7 c m (.int n) k l x5 (some (.int (1+n % 4))))) S:=by
  unfold bW
  simp? [mod_lit (show(0:Int)<4 by decide)]
 have e2:bX (P7 c m (.int n) k l x5 (some (.int (1+n % 4)))) S=.ok (.next (P7 c m (.int n) k l x5 (some (.int (1+n % 4))))) (S.set l (.lst ((ts++[(1+n % 4,n / 4 % (1+n % 4+1))]).map tbl))):=by
  unfold bX
  simp? [zFS hS,yX (b:=4) (by decide) (by decide),mod_lit hp,zIU hS (show(ts.map tbl).length<1000000 by rw [lM];omega)]
  rw [map_append]
  rfl
 have e3:bY (P7 c m (.int n) k l x5 (some (.int (1+n % 4)))) (S.set l (.lst ((ts++[(1+n % 4,n / 4 % (1+n % 4+1))]).map tbl)))=.ok (.next (P7 c m (.int (n / 20)) k l x5 (some (.int (1+n % 4))))) (S.set l (.lst ((ts++[(1+n % 4,n / 4 % (1+n % 4+1))]).map tbl))):=by
  unfold bY
  simp? [yX (b:=20) (by decide) (by decide)]
 unfold gK
 rw [zC e1,zC e2,e3]
theorem yDO(c:Int)(S:Sto): ∃ts,TOk ts/\zS 2 kS [.val (.int c),.val (.int 4)] S=.ok (.val (.tup (ts.map tbl))) S:=by
 obtain⟨n,hn⟩:=zPW c 2147483629 ⟨by decide,by decide⟩ S
 have h0:0<=n % 4:=eN _ (by decide)
 have h1:n % 4<4:=eL _ (by decide)
 have hs:zP zCU [.int c,.int 4]=[some (.int c),some (.int 4),none,none,none,none,none]:=rfl
 have e1:nU [some (.int c),some (.int 4),none,none,none,none,none] S=.ok (.next [some (.int c),some (.int 4),some (.int n),none,none,none,none]) S:=by
  unfold nU
  simp? [hn]
 have e2:nV [some (.int c),some (.int 4),some (.int n),none,none,none,none] S=.ok (.next [some (.int c),some (.int 4),some (.int n),some (.int (1+n % 4)),none,none,none]) S:=by
  unfold nV
  simp? [mod_lit (show(0:Int)<4 by decide)]
 have e3:nW [some (.int c),some (.int 4),some (.int n),some (.int (1+n % 4)),none,none,none] S=.ok (.next [some (.int c),some (.int 4),some (.int (n / 4)),some (.int (1+n % 4)),none,none,none]) S:=by
  unfold nW
  simp? [yX (b:=4) (by decide) (by decide)]
 have e4:nX [some (.int c),some (.int 4),some (.int (n / 4)),some (.int (1+n % 4)),none,none,none] S=.ok (.next (P7 (.int c) (.int 4) (.int (n / 4)) (.int (1+n % 4)) S.length none none)) (S++[.lst []]):=by
  unfold nX
  simp? [bok]
 have hlen:((List.range (1+n % 4).toNat).map λk=>MV.int (k:Nat)).length=(1+n % 4).toNat:=by rw [lM,length_range]
 obtain⟨ρ',S',e,x5,x6,n',ts,hρ,hS',hl,hT⟩:=yOM (L:=(List.range (1+n % 4).toNat).map λk=>MV.int (k:Nat)) (gf:=gNm 5) (body:=gK) (gs:=[]) (S:=S++[.lst []]) (ρ:=P7 (.int c) (.int 4) (.int (n / 4)) (.int (1+n % 4)) S.length none none)
  (λi ρ S'=> ∃x5 x6 n' ts,ρ=P7 (.int c) (.int 4) (.int n') (.int (1+n % 4)) S.length x5 x6/\S'=S++[.lst (ts.map tbl)]/\ts.length=i/\ ∀p∈ts,1<=p.1/\p.1<=4/\0<=p.2/\p.2<=p.1) (λi d hi ρ S1 ⟨x5,x6,n',ts,hρ,hS1,hl,hT⟩=>by
   subst hρ hS1
   have hil:i<5:=by have:=(gS0.mp hi).1;omega
   obtain⟨p,n'',hp,hb⟩:=yGR (c:=.int c) (m:=.int 4) (k:=.int (1+n % 4)) (n:=n') (l:=S.length) (x5:=some d) (x6:=x6) (S:=S++[.lst (ts.map tbl)]) (ts:=ts) (by simp) (by omega)
   refine⟨P7 (.int c) (.int 4) (.int n'') (.int (1+n % 4)) S.length (some d) (some (.int p.1)),S++[.lst ((ts++[p]).map tbl)],?_,wD _,some d,some (.int p.1),n'',ts++[p],rfl,rfl,by rw [lA,hl];rfl,?_⟩
   ·rw [show gNm 5 d (P7 (.int c) (.int 4) (.int n') (.int (1+n % 4)) S.length x5 x6) (S++[.lst (ts.map tbl)])=.ok (P7 (.int c) (.int 4) (.int n') (.int (1+n % 4)) S.length (some d) x6) (S++[.lst (ts.map tbl)])from rfl,bok,hb]
    rw [show(S++[MO.lst (ts.map tbl)]).set S.length (.lst ((ts++[p]).map tbl))=S++[.lst ((ts++[p]).map tbl)] by simp]
   ·intro q hq
    rw [mem_append,mS]at hq
    rcases hq with hq|rfl
    ·exact hT q hq
    ·exact hp) ⟨none,none,n / 4,[],rfl,rfl,rfl,λp hp=>by simp at hp⟩
 subst hρ hS'
 rw [hlen]at hl
 have e5:nY (P7 (.int c) (.int 4) (.int (n / 4)) (.int (1+n % 4)) S.length none none) (S++[.lst []])=.ok (.next (P7 (.int c) (.int 4) (.int n') (.int (1+n % 4)) S.length x5 x6)) (S++[.lst (ts.map tbl)]):=by
  unfold nY
  simp? [zHB (S:=S++[.lst []]) (show -(2 ^ 62)<=1+n % 4/\1+n % 4<2 ^ 62 by omega)]
  exact e
 have e6:nZ (P7 (.int c) (.int 4) (.int n') (.int (1+n % 4)) S.length x5 x6) (S++[.lst (ts.map tbl)])=.ok (.ret (.val (.tup (ts.map tbl)))) (S++[.lst (ts.map tbl)]):=by
  unfold nZ
  simp? [zIV (S:=S++[.lst (ts.map tbl)]) (l:=S.length) (ds:=ts.map tbl) (by simp)]
 refine⟨ts,⟨by omega,by omega,hT⟩,zBA (T:=[.lst (ts.map tbl)]) rfl ?_ (zZA (zKD λd hd=>?_)) (λl=>by simp)⟩
 ·show kS [.int c,.int 4] S=_
  unfold kS zJU
  rw [hs,zC e1,zC e2,zC e3,zC e4,zC e5,e6]
  rfl
 ·obtain⟨p,_,rfl⟩:=mM.mp hd
  exact zZA (zKD λe he=>by simp at he;rcases he with rfl|rfl<;>exact zPL _ _)
mutual
def pd:MV->Bool
 |.int _=>true
 |.str _=>true
 |.tup ds=>pdL ds
 |_=>false
def pdL:List MV->Bool
 |[]=>true
 |d::ds=>pd d&&pdL ds
end
mutual
def dpt:MV->Nat
 |.tup ds=>zMI ds+1
 |_=>0
def zMI:List MV->Nat
 |[]=>0
 |d::ds=>max (dpt d) (zMI ds)
end
theorem wR(ds:List MV):pd (.tup ds)=pdL ds:=by rw [pd]
theorem dQ:pdL []=true:=by rw [pdL]
theorem yP(d:MV)(ds:List MV):pdL (d::ds)=(pd d&&pdL ds):=by rw [pdL]
theorem dR(ds:List MV):dpt (.tup ds)=zMI ds+1:=by rw [dpt]
theorem xX(d:MV)(ds:List MV):zMI (d::ds)=max (dpt d) (zMI ds):=by rw [zMI]
theorem zER:zMI []=0:=by rw [zMI]
theorem yGS(i:Int):pd (.int i)=true:=by rw [pd]
theorem zDZ(i:List Nat):pd (.str i)=true:=by rw [pd]
theorem yBL(i:Int):dpt (.int i)=0:=by simp [dpt]
theorem zCK(i:List Nat):dpt (.str i)=0:=by simp [dpt]
theorem dS: ∀{ds:List MV},(∀d∈ds,pd d=true)->pdL ds=true
 |[],_=>dQ
 |d::ds,h=>by rw [yP,h d mF0,dS λe he=>h e (mO _ he)];rfl
theorem zOI: ∀{ds:List MV},pdL ds=true-> ∀d∈ds,pd d=true
 |[],_,d,h=>by simp at h
 |e::ds,hp,d,h=>by
  rw [yP,aE]at hp
  rcases mC.mp h with rfl|h
  ·exact hp.1
  ·exact zOI hp.2 d h
theorem zOJ: ∀{ds:List MV}{n:Nat},(∀d∈ds,dpt d<=n)->zMI ds<=n
 |[],n,_=>by rw [zER];exact zero_le _
 |d::ds,n,h=>by
  rw [xX]
  have h1:=h d mF0
  have h2:=zOJ λe he=>h e (mO _ he)
  omega
theorem zPX: ∀{ds:List MV}, ∀d∈ds,dpt d<=zMI ds
 |[],d,h=>by simp at h
 |e::ds,d,h=>by
  rw [xX]
  rcases mC.mp h with rfl|h
  ·exact Nat.le_max_left _ _
  ·exact le_trans (zPX d h) (Nat.le_max_right _ _)
theorem zPY{d:MV}(h:pd d=true):(∃i,d=.int i)\/(∃x,d=.str x)\/ ∃ds,d=.tup ds/\pdL ds=true:=by
 cases d with
 |int i=>exact .inl ⟨i,rfl⟩
 |str x=>exact .inr (.inl ⟨x,rfl⟩)
 |tup ds=>exact .inr (.inr ⟨ds,rfl,by rw [<-wR];exact h⟩)
 |_=>rw [pd]at h<;>first |cases h|(intros;simp)
theorem dec_is{p:Prop}[Decidable p]{q:Prop}[Decidable q](h:p↔q):decide p=decide q:=by
 by_cases hq:q
 ·rw [dT0 hq,dT0 (h.mpr hq)]
 ·rw [dF0 hq,dF0 λz=>hq (h.mp z)]
theorem zWO{e:MV->MV->Option Bool}: ∀{ds es:List MV},(∀d∈ds, ∀f∈es,e d f=some (decide (d=f)))-> ∃bs,prs e ds es=some bs/\(bs.all id&&ds.length==es.length)=decide (ds=es)
 |[],[],_=>⟨[],rfl,by simp⟩
 |[],_::_,_=>⟨[],rfl,by simp⟩
 |_::_,[],_=>⟨[],rfl,by simp⟩
 |d::ds,f::es,h=>by
  obtain⟨bs,h1,h2⟩:=zWO (e:=e) (ds:=ds) (es:=es) λa ha b hb=>h a (mO _ ha) b (mO _ hb)
  refine⟨decide (d=f)::bs,?_,?_⟩
  ·unfold prs
   rw [h d mF0 f mF0,h1]
   rfl
  ·by_cases hd:d=f
   ·subst hd
    rw [all_cons,dT0 rfl]
    simp only [id,Bool.true_and,lC]
    rw [show(ds.length+1==es.length+1)=(ds.length==es.length) by simp,h2]
    exact dec_is (by simp)
   ·rw [all_cons,dF0 hd]
    rw [dF0 (show¬(d::ds=f::es)from λz=>hd (List.cons.inj z).1)]
    rfl
theorem zWP{S:Sto}: ∀(n:Nat){d e:MV},pd d=true->pd e=true->dpt d<n->eqv S n d e=some (decide (d=e))
 |0,d,e,_,_,h=>by omega
 |n+1,d,e,hd,he,h=>by
  rcases zPY hd with⟨i,rfl⟩|⟨x,rfl⟩|⟨ds,rfl,pds⟩<;>rcases zPY he with⟨j,rfl⟩|⟨y,rfl⟩|⟨es,rfl,pes⟩
  ·rw [zTM];exact congrArg some (dec_is (by simp))
  ·rw [yOP,dF0 (by simp)]
  ·rw [dF0 (by simp)];rfl
  ·rw [yOQ,dF0 (by simp)]
  ·rw [zOD];exact congrArg some (dec_is (by simp))
  ·rw [dF0 (by simp)];rfl
  ·rw [dF0 (by simp)];rfl
  ·rw [dF0 (by simp)];rfl
  ·rw [dR]at h
   obtain⟨bs,h1,h2⟩:=zWO (e:=eqv S n) (ds:=ds) (es:=es) λa ha b hb=>zWP n (zOI pds a ha) (zOI pes b hb) (by have:=zPX a ha;omega)
   show((prs (eqv S n) ds es).map λbs=>bs.all id&&ds.length==es.length)=_
   rw [h1]
   show some (bs.all id&&ds.length==es.length)=_
   rw [h2]
   exact congrArg some (dec_is (by simp))
theorem zWQ{S:Sto}{d:MV}(hd:pd d=true): ∀{ys:List MV},(∀y∈ys,pd y=true/\dpt y<40)->zVY S yS d ys=some (ys.map λy=>decide (y=d))
 |[],_=>rfl
 |y::ys,h=>by
  have h1:=h y mF0
  unfold zVY
  rw [zWP yS h1.1 hd (by unfold yS;exact h1.2),zWQ hd λz hz=>h z (mO _ hz)]
  rfl
theorem le_int(i j:Int)(S:Sto):leF (.val (.int i)) (.val (.int j)) S=.ok (.val (.bl (decide (i<=j)))) S:=rfl
theorem le_str(i j:List Nat)(S:Sto):leF (.val (.str i)) (.val (.str j)) S=.ok (.val (.bl (!decide (j<i)))) S:=rfl
theorem yGT(i:Int)(S:Sto):hZ [.val (.int i),.val (.typ "int")] S=.ok (.val (.bl true)) S:=rfl
theorem yGU(i:Int)(S:Sto):hZ [.val (.int i),.val (.typ "bool")] S=.ok (.val (.bl false)) S:=rfl
theorem yPH(i:List Nat)(S:Sto):hZ [.val (.str i),.val (.typ "int")] S=.ok (.val (.bl false)) S:=rfl
theorem dU{n:Nat}{F:List MV->Sto->R Er}{rs:List Er}{S:Sto}{b:Bool}(hn:rs.length=n)(hF:F (zU rs S).1 (zU rs S).2=.ok (.val (.bl b)) S):zS n F rs S=.ok (.val (.bl b)) S:=yI hn hF (zWB _ _) (λl=>by simp)
theorem zNL(i:Int)(S:Sto):zS 1 gQ [.val (.int i)] S=.ok (.val (.bl true)) S:=dU rfl (by
 show yR (zBD [some (.int i)] S)=_
 unfold zBD zFG
 simp? [yGT,yGU,zOY]
 rfl)
theorem zWR(i:List Nat)(S:Sto):zS 1 gQ [.val (.str i)] S=.ok (.val (.bl false)) S:=dU rfl (by
 show yR (zBD [some (.str i)] S)=_
 unfold zBD zFG
 simp? [yPH,zOY]
 rfl)
theorem yDP{c:Nat}(h:97<=c/\c<=122):(!decide ([c]<[97]))=true/\(!decide ([122]<[c]))=true:=by
 have h1: ¬([c]<[97]):=by
  intro z
  rw [List.cons_lt_cons_iff]at z
  rcases z with z|⟨_,z⟩
  ·omega
  ·exact absurd z (by simp)
 have h2: ¬([122]<[c]):=by
  intro z
  rw [List.cons_lt_cons_iff]at z
  rcases z with z|⟨_,z⟩
  ·omega
  ·exact absurd z (by simp)
 exact⟨by rw [dF0 h1];rfl,by rw [dF0 h2];rfl⟩
theorem zLI: ∀{n:Nat}{S:Sto},zQU [.new (List.replicate n (.bl true))] S=.ok (.val (.bl true)) S:=by
 intro n S
 have h: ∀n:Nat,zEM (List.replicate n (.bl true))=some (List.replicate n true):=by
  intro n
  induction n with
  |zero=>rfl
  |succ n ih=>rw [replicate_succ,replicate_succ];unfold zEM;rw [ih];rfl
 show(match (some (List.replicate n (MV.bl true))).bind zEM with |some bs=>R.ok (Er.val (.bl (bs.all id))) S|none=>.no)=_
 rw [show(some (List.replicate n (MV.bl true))).bind zEM=some (List.replicate n true)from h n]
 show R.ok (Er.val (.bl ((List.replicate n true).all id))) S=_
 rw [show(List.replicate n true).all id=true by simp]
theorem zLJ{ds:List MV}:ds.map (λ_=>MV.bl true)=List.replicate ds.length (.bl true):=by
 induction ds with
 |nil=>rfl
 |cons d ds ih=>rw [map_cons,lC,replicate_succ,ih]
theorem zZF{x:List Nat}(h:Nm x)(S:Sto):zS 1 wP [.val (.str x)] S=.ok (.val (.bl true)) S:=dU rfl (by
 have hl: ∀S,jS [.val (.str x)] S=.ok (.val (.int x.length)) S:=λS=>iP (fits (by have:=h.2.1;omega))
 have e1:dX [some (.str x)] S=.ok (.next [some (.str x)]) S:=by
  unfold dX
  simp? [hl,chF,le_int,dT0 (show(1:Int)<=x.length by have:=h.1;omega),dT0 (show(x.length:Int)<=8 by have:=h.2.1;omega)]
  rfl
 have hc:xG (gNm 0) dM kP (blk 1 [] [some (.str x)]) [] (x.map λc=>.str [c]) S=.ok ((x.map λc=>MV.str [c]).map λ_=>.bl true) S:=bF (wD S) λd hd=>by
  obtain⟨c,hc,rfl⟩:=mM.mp hd
  obtain⟨h1,h2⟩:=yDP (h.2.2 c hc)
  refine⟨[some (.str [c])],rfl,rfl,?_⟩
  unfold kP
  simp? [chF,le_str,h1,h2]
 have e2:dY [some (.str x)] S=.ok (.ret (.val (.bl true))) S:=by
  unfold dY
  simp? [bok]
  show(((((if(x.map λc=>MV.str [c]).length<1000000 then(xG (gNm 0) dM kP (blk 1 [] [some (.str x)]) [] (x.map λc=>.str [c]) S).bind λo S=>R.ok (Er.new o) S else .no).bind λp S1=>R.ok [p] S1).bind zQU).bind λr S1=>R.ok (Fl.ret r) S1))=_
  rw [iP (by rw [lM];have:=h.2.1;omega),hc,bok,bok,bok,zLJ,zLI]
  rfl
 show yR (zEO [some (.str x)] S)=_
 unfold zEO
 rw [zC e1,e2]
 rfl)
theorem yKM{d:MV}(h:Vl d)(S:Sto):zS 1 zFH [.val d] S=.ok (.val (.bl true)) S:=dU rfl (by
 show yR (zKG [some d] S)=_
 unfold zKG
 rcases h.cases with⟨i,rfl,h0,h1⟩|⟨x,rfl,hx⟩
 ·have habs:absF [.val (.int i)] S=.ok (.val (.int (if i<0 then -i else i))) S:=rfl
  have hlt:decide ((if i<0 then -i else i)<(10:Int) ^ 30)=true:=dT0 (by split<;>omega)
  rw [wF (show bH [some (.int i)] S=.ok (.ret (.val (.bl true))) S by
   unfold bH
   simp? [zNL,habs,show zKC (.val (.int 10)) (.val (.int 30)) S=.ok (.val (.int (10 ^ 30))) S from rfl,lt_int,hlt])]
  rfl
 ·rw [zC (show bH [some (.str x)] S=.ok (.next [some (.str x)]) S by
   unfold bH
   simp? [zWR]
   rfl)]
  unfold zLE
  simp? [zZF hx]
  rfl)
theorem yKN(ds:List MV)(a b:Int)(S:Sto):zS 3 wW [.val (.tup ds),.val (.int a),.val (.int b)] S=.ok (.val (.bl (decide (a<=ds.length)&&decide ((ds.length:Int)<=b)))) S:=dU rfl (by
 show yR (zKH [some (.tup ds),some (.int a),some (.int b)] S)=_
 unfold zKH zLF
 simp? [zOY,zLH,chF,le_int]
 cases decide (a<=(ds.length:Int))<;>rfl)
theorem yKO(i b:Int)(S:Sto):zS 2 xY [.val (.int i),.val (.int b)] S=.ok (.val (.bl (decide (0<=i)&&decide (i<b)))) S:=dU rfl (by
 show yR (bI [some (.int i),some (.int b)] S)=_
 unfold bI zAK
 simp? [zNL,zOY,chF,le_int,lt_int]
 cases decide (0<=i)<;>rfl)
theorem zZG{i b:Int}(h0:0<=i)(h1:i<b)(S:Sto):zS 2 xY [.val (.int i),.val (.int b)] S=.ok (.val (.bl true)) S:=by
 rw [yKO,dT0 h0,dT0 h1];rfl
theorem zPZ{ds:List MV}{a b:Int}(h0:a<=ds.length)(h1:(ds.length:Int)<=b)(S:Sto):zS 3 wW [.val (.tup ds),.val (.int a),.val (.int b)] S=.ok (.val (.bl true)) S:=by
 rw [yKN,dT0 h0,dT0 h1];rfl
theorem zZH(a b:MV)(S:Sto):zS 3 wW [.val (.tup [a,b]),.val (.int 2),.val (.int 2)] S=.ok (.val (.bl true)) S:=zPZ (by simp) (by simp) S
def SqM(S:Sto)(m:MV)(ds:List MV):Prop:=m=.tup ds\/ ∃l,m=.loc l/\S[l]? =some (.lst ds)
theorem SqM.len{S:Sto}{m:MV}{ds:List MV}(h:SqM S m ds):jS [.val m] S=.ok (.val (.int ds.length)) S:=by
 rcases h with rfl|⟨l,rfl,hS⟩
 ·rfl
 ·exact zIO hS
theorem SqM.app{S T:Sto}{m:MV}{ds:List MV}(h:SqM S m ds):SqM (S++T) m ds:=by
 rcases h with h|⟨l,h,hS⟩
 ·exact .inl h
 ·exact .inr ⟨l,h,by rw [getElem?_append_left (gS0.mp hS).1];exact hS⟩
section
variable{S:Sto}
theorem SqM.tuple{m:MV}{ds:List MV}(h:SqM S m ds):cX [.val m] S=.ok (.val (.tup ds)) S:=by
 rcases h with rfl|⟨l,rfl,hS⟩
 ·rfl
 ·exact zIV hS
end
theorem zWS{n:Nat}{F:List MV->Sto->R Er}{rs:List Er}{S T:Sto}{r:Er}{ds:List MV}{as:List MV}{S2:Sto}(hn:rs.length=n)(hE:zU rs S=(as,S2))(hF:F as S2=.ok r (S++T))(hr:r=.new ds\/ ∃l,r=.val (.loc l)/\S.length<=l/\(S++T)[l]? =some (.lst ds))(h:loL S.length ds):zS n F rs S=.ok (.new ds) S:=by
 have hF':F (zU rs S).1 (zU rs S).2=.ok r (S++T):=by rw [hE];exact hF
 rcases hr with rfl|⟨l,rfl,h1,h2⟩
 ·exact zWC hn hF' h
 ·exact yGC hn hF' h1 h2 h
theorem yKP(neg:Bool)(p:Er)(l:Nat)(S:Sto):inF neg p (.val (.loc l)) S=zTJ neg p (.val (.loc l)) S:=by
 unfold inF
 split
 ·rename_i h;cases h
 ·rfl
theorem yBM{S:Sto}{l:Nat}{d:MV}{ys:List MV}(neg:Bool)(hS:S[l]? =some (.lst ys))(hd:pd d=true)(h: ∀y∈ys,pd y=true/\dpt y<40):inF neg (.val d) (.val (.loc l)) S=.ok (.val (.bl (if neg=true then !decide (d∈ys)else decide (d∈ys)))) S:=by
 have e1:itemsOf S (.val (.loc l))=some ys:=by unfold itemsOf;exact zEN hS
 rw [yKP]
 unfold zTJ
 dsimp only
 rw [e1]
 dsimp only
 rw [zWQ hd h]
 dsimp only
 have ha:(ys.map λy=>decide (y=d)).any id=decide (d∈ys):=by
  rw [List.any_map]
  by_cases hm:d∈ys
  ·rw [dT0 hm,List.any_eq_true]
   exact⟨d,hm,by simp⟩
  ·rw [dF0 hm]
   rw [List.any_eq_false]
   intro y hy
   simp only [Function.comp,id,decide_eq_true_eq]
   rintro rfl
   exact hm hy
 rw [ha]
theorem gt_int(i j:Int)(S:Sto):gtF (.val (.int i)) (.val (.int j)) S=.ok (.val (.bl (decide (j<i)))) S:=rfl
abbrev VAR:List Nat:=[118,97,114]
abbrev IS:List Nat:=[105,115]
def zJG(d:MV):Prop:=(∃x,Nm x/\d=.tup [.str VAR,.str x])\/ ∃v,Vl v/\d=.tup [.str IS,v]
def kL(ts:List (Int×Int))(a:MV):Prop:= ∃(t:Int)(tms:List MV)(p:Int×Int),a=.tup [.int t,.tup tms]/\0<=t/\t<ts.length/\atI (ts.map tbl) t=some (tbl p)/\(tms.length:Int)=p.1/\1<=p.1/\p.1<=4/\ ∀d∈tms,zJG d
mutual
theorem zQA{n:Nat}: ∀{d:MV},pd d=true->lo n d
 |.int i,_=>zPL n i
 |.str x,_=>gP n x
 |.tup ds,h=>zZA (yGV (by rw [wR]at h;exact h))
 |.non,_=>yOL n
 |.bl b,_=>zWB n b
 |.scr ds,h=>by unfold pd at h;cases h
 |.loc l,h=>by unfold pd at h;cases h
 |.typ t,h=>by unfold pd at h;cases h
theorem yGV{n:Nat}: ∀{ds:List MV},pdL ds=true->loL n ds
 |[],_=>zKD λd hd=>by simp at hd
 |d::ds,h=>by
  rw [yP,aE]at h
  unfold loL
  exact⟨zQA h.1,yGV h.2⟩
end
theorem zWT{d:MV}(h:zJG d):pd d=true/\dpt d<=1:=by
 rcases h with⟨x,_,rfl⟩|⟨v,hv,rfl⟩
 ·exact⟨by rw [wR,yP,yP,dQ,zDZ,zDZ];rfl,by rw [dR,xX,xX,zER,zCK,zCK];decide⟩
 ·rcases hv.cases with⟨i,rfl,_⟩|⟨x,rfl,_⟩
  ·exact⟨by rw [wR,yP,yP,dQ,zDZ,yGS];rfl,by rw [dR,xX,xX,zER,zCK,yBL];decide⟩
  ·exact⟨by rw [wR,yP,yP,dQ,zDZ,zDZ];rfl,by rw [dR,xX,xX,zER,zCK,zCK];decide⟩
theorem zQB{ts:List (Int×Int)}{a:MV}(h:kL ts a):pd a=true/\dpt a<=3:=by
 obtain⟨t,tms,p,rfl,_,_,_,_,_,_,hT⟩:=h
 have h1:pdL tms=true:=dS λd hd=>(zWT (hT d hd)).1
 have h2:zMI tms<=1:=zOJ λd hd=>(zWT (hT d hd)).2
 refine⟨by rw [wR,yP,yP,dQ,yGS,wR,h1];rfl,?_⟩
 rw [dR,xX,xX,zER,yBL,dR]
 omega
def vn:MV->Option (List Nat)
 |.tup [.str w,.str x]=>if w=VAR then some x else none
 |_=>none
def zNM:MV->List MV
 |.tup [_,.tup tms]=>tms
 |_=>[]
def zNS(as:List MV):List (List Nat):=as.flatMap λa=>(zNM a).filterMap vn
theorem yGW(x:List Nat):vn (.tup [.str VAR,.str x])=some x:=by simp [vn]
theorem yBN(S:Sto):eqF (.val (.str VAR)) (.val (.str VAR)) S=.ok (.val (.bl true)) S:=by rw [eq_str,dT0 rfl]
theorem yBO(S:Sto):eqF (.val (.str IS)) (.val (.str VAR)) S=.ok (.val (.bl false)) S:=by rw [eq_str,dF0 (by decide)]
theorem eq_ii(S:Sto):eqF (.val (.str IS)) (.val (.str IS)) S=.ok (.val (.bl true)) S:=by rw [eq_str,dT0 rfl]
theorem xN(S:Sto)(o:MO):(S++[o])[S.length]? =some o:=by simp
theorem zLK(S:Sto)(o o':MO):(S++[o]).set S.length o'=S++[o']:=by simp
theorem zOK{fs:List (List Nat)}: ∀y∈fs.map MV.str,pd y=true/\dpt y<40:=λd hd=>by obtain⟨u,_,rfl⟩:=mM.mp hd;exact⟨zDZ u,by rw [zCK];decide⟩
theorem zNT(a b:MV)(S:Sto):ixF (.val (.tup [a,b])) (.val (.int 0)) S=.ok (.val a) S:=rfl
theorem zNU(a b:MV)(S:Sto):ixF (.val (.tup [a,b])) (.val (.int 1)) S=.ok (.val b) S:=rfl
theorem yPI{d:MV}(h:zJG d)(S:Sto):zS 1 zIR [.val d] S=.ok (.val (.bl true)) S:=dU rfl (by
 rcases h with⟨x,hx,rfl⟩|⟨v,hv,rfl⟩
 ·have e1:dZ [some (.tup [.str VAR,.str x])] S=.ok (.next [some (.tup [.str VAR,.str x])]) S:=by
   unfold dZ
   simp? [zZH]
   rfl
  have e2:nA [some (.tup [.str VAR,.str x])] S=.ok (.ret (.val (.bl true))) S:=by
   unfold nA
   simp? [zNT,zNU,yBN,zZF hx]
  show yR (zEP [some (.tup [.str VAR,.str x])] S)=_
  unfold zEP
  rw [zC e1,wF e2]
  rfl
 ·have e1:dZ [some (.tup [.str IS,v])] S=.ok (.next [some (.tup [.str IS,v])]) S:=by
   unfold dZ
   simp? [zZH]
   rfl
  have e2:nA [some (.tup [.str IS,v])] S=.ok (.next [some (.tup [.str IS,v])]) S:=by
   unfold nA
   simp? [zNT,zNU,yBO,fT,iF]
  have e3:zHG [some (.tup [.str IS,v])] S=.ok (.ret (.val (.bl true))) S:=by
   unfold zHG
   simp? [zNT,zNU,eq_ii,zOY,yKM hv]
  show yR (zEP [some (.tup [.str IS,v])] S)=_
  unfold zEP
  rw [zC e1,zC e2,e3]
  rfl)
theorem yPJ{ts:List (Int×Int)}{a:MV}(h:kL ts a)(S:Sto):zS 2 zIS [.val a,.val (.tup (ts.map tbl))] S=.ok (.val (.bl true)) S:=dU rfl (by
 obtain⟨t,tms,p,rfl,t0,t1,hd,hl,p1,p3,hT⟩:=h
 have tl:(((ts.map tbl).length:Nat):Int)=ts.length:=by rw [lM]
 have e1:zHH [some (.tup [.int t,.tup tms]),some (.tup (ts.map tbl)),none] S=.ok (.next [some (.tup [.int t,.tup tms]),some (.tup (ts.map tbl)),none]) S:=by
  unfold zHH
  simp? [zZH,zNT,zLH,zZG t0 (show t<(((ts.map tbl).length:Nat):Int) by omega)]
  rfl
 have e2:zHI [some (.tup [.int t,.tup tms]),some (.tup (ts.map tbl)),none] S=.ok (.next [some (.tup [.int t,.tup tms]),some (.tup (ts.map tbl)),some (.int p.1)]) S:=by
  unfold zHI
  simp? [zNT,ix_tup (S:=S) hd,show∀S:Sto,ixF (.val (tbl p)) (.val (.int 0)) S=.ok (.val (.int p.1)) S from λS=>rfl]
 have hc:xG (gNm 0) zJM zCV [none] [] tms S=.ok (tms.map λ_=>MV.bl true) S:=bF (F:=λ_=>.bl true) (wD _) λd hd=>⟨[some d],rfl,rfl,by
  unfold zCV
  simp? [yPI (hT d hd) S]⟩
 have hlt:tms.length<1000000:=by omega
 have e3:zHJ [some (.tup [.int t,.tup tms]),some (.tup (ts.map tbl)),some (.int p.1)] S=.ok (.ret (.val (.bl true))) S:=by
  unfold zHJ
  simp? [zNU,zPZ (show p.1<=tms.length by omega) (show(tms.length:Int)<=p.1 by omega),zOY,show∀(ds:List MV)(S:Sto),itT (.val (.tup ds)) S=.ok ⟨ds,[]⟩ S from λds S=>rfl,hlt,show blk 1 [] [some (.tup [.int t,.tup tms]),some (.tup (ts.map tbl)),some (.int p.1)]=[none]from rfl,hc,zLJ,zLI]
 show yR (zLZ [some (.tup [.int t,.tup tms]),some (.tup (ts.map tbl)),none] S)=_
 unfold zLZ
 rw [zC e1,zC e2,e3]
 rfl)
theorem yKQ{S:Sto}{m:MV}{ds:List MV}(h:SqM S m ds):zWE [.val m,.val (.tup [.typ "list",.typ "tuple"])] S=.ok (.val (.bl true)) S:=by
 rcases h with rfl|⟨l,rfl,hS⟩
 ·rfl
 ·have e:zCP S (.val (.loc l))=some "list":=by
   show(cP S (.val (.loc l))).map (λ_=>"list")=_
   rw [zEN hS];rfl
  unfold zWE
  dsimp only
  rw [e]
  rfl
theorem zWU{S:Sto}{m:MV}{ds:List MV}(h:SqM S m ds):zS 1 zHO [.val m] S=.ok (.val (.bl true)) S:=dU rfl (by
 show yR (zPU [some m] S)=_
 unfold zPU zPT
 simp? [yKQ h]
 rfl)
theorem SqM.itQ{S:Sto}{m:MV}{ds:List MV}(h:SqM S m ds): ∃gs,(∀T,stay gs (S++T))/\ ∀T,itQ (.val m) (S++T)=.ok ⟨ds,gs⟩ (S++T):=by
 rcases h with rfl|⟨l,rfl,hS⟩
 ·exact⟨[],λT=>wD _,λT=>rfl⟩
 ·have hT: ∀T,(S++T)[l]? =some (.lst ds):=λT=>by rw [getElem?_append_left (gS0.mp hS).1];exact hS
  refine⟨[(l,ds)],λT=>zBB (hT T),λT=>?_⟩
  have e:srcOf (S++T) (.val (.loc l))=some ⟨true,ds,[(l,ds)]⟩:=by
   unfold srcOf
   dsimp only
   rw [hT T]
  unfold L2.M.itQ
  rw [e]
theorem yGX{kvs:List (MV×MV)}{k:MV}(h:(look kvs k).isSome=true):k∈kvs.map (·.1):=by
 unfold look at h
 rw [Option.isSome_map]at h
 obtain⟨p,hp⟩:=Option.isSome_iff_exists.mp h
 have h1:=List.find?_some hp
 exact mM.mpr ⟨p,List.mem_of_find?_eq_some hp,of_decide_eq_true h1⟩
theorem yGY(kvs:List (MV×MV))(k d:MV):(∀j∈kvs.map (·.1),j∈(putK kvs k d).map (·.1))/\k∈(putK kvs k d).map (·.1)/\(putK kvs k d).length<=kvs.length+1/\(bG k=true->kvs.all (λp=>bG p.1)=true->(putK kvs k d).all (λp=>bG p.1)=true):=by
 unfold putK
 by_cases h:(look kvs k).isSome=true
 ·rw [iP h]
  have e:(kvs.map λp=>if p.1=k then(p.1,d)else p).map (·.1)=kvs.map (·.1):=by
   rw [map_map]
   refine List.map_congr_left λp _=>?_
   show(if p.1=k then(p.1,d)else p).1=p.1
   split<;>rfl
  refine⟨λj hj=>by rw [e];exact hj,by rw [e];exact yGX h,by rw [lM];exact le_succ _,λ_ ha=>?_⟩
  rw [all_eq_true]at ha ⊢
  intro p hp
  have:p.1∈kvs.map (·.1):=by rw [<-e];exact List.mem_map_of_mem hp
  obtain⟨q,hq,eq⟩:=mM.mp this
  rw [<-eq]
  exact ha q hq
 ·rw [iN h,map_append]
  refine⟨λj hj=>mem_append_left _ hj,mem_append_right _ (mS.mpr rfl),by rw [lA];exact le_refl _,λhk ha=>?_⟩
  rw [List.all_append,ha]
  simp [hk]
theorem yDQ{S:Sto}{kvs:List (MV×MV)}{x:List Nat}{d:MV}{ρ:Rho}(ha:kvs.all (λp=>bG p.1)=true)(hl:kvs.length<1000000):zWI (.val (.loc S.length)) (.val (.str x)) d ρ (S++[.dic kvs])=.ok ρ (S++[.dic (putK kvs (.str x) d)]):=by
 have e:zND (S++[.dic kvs]) (.val (.loc S.length))=some (S.length,kvs):=by
  unfold zND
  dsimp only
  rw [xN]
  dsimp only
  rw [iP ha]
 unfold zWI
 dsimp only
 rw [e]
 dsimp only
 rw [iP hl,zLK]
abbrev D4(m:MV)(n:Nat)(a t:Option MV):Rho:=[some m,some (.loc n),a,t]
theorem zMJ{S:Sto}{m:MV}{a:Option MV}: ∀(tms:List MV),(∀d∈tms,zJG d)-> ∀(kvs:List (MV×MV))(t:Option MV),kvs.all (λp=>bG p.1)=true->kvs.length+tms.length<1000->
  ∃(kvs':List (MV×MV))(t':Option MV),kvs'.all (λp=>bG p.1)=true/\kvs'.length<=kvs.length+tms.length/\(∀j∈kvs.map (·.1),j∈kvs'.map (·.1))/\(∀x∈tms.filterMap vn,MV.str x∈kvs'.map (·.1))/\cO (gNm 3) zAS [] tms (D4 m S.length a t) (S++[.dic kvs])=.ok (.next (D4 m S.length a t')) (S++[.dic kvs'])
 |[],_,kvs,t,ha,_=>⟨kvs,t,ha,le_refl _,λj hj=>hj,λx hx=>by simp at hx,rfl⟩
 |d::tms,hT,kvs,t,ha,hl=>by
  rw [lC]at hl
  rcases hT d mF0 with⟨x,hx,rfl⟩|⟨v,hv,rfl⟩
  ·obtain⟨p1,p2,p3,p4⟩:=yGY kvs (.str x) (.bl true)
   obtain⟨k2,t2,b1,b2,b3,b4,b5⟩:=zMJ tms (λe he=>hT e (mO _ he)) (putK kvs (.str x) (.bl true)) (some (.tup [.str VAR,.str x])) (p4 rfl ha) (by omega)
   refine⟨k2,t2,b1,by rw [lC];omega,λj hj=>b3 j (p1 j hj),λy hy=>?_,?_⟩
   ·rw [filterMap_cons,yGW]at hy
    rcases mC.mp hy with rfl|hy
    ·exact b3 _ p2
    ·exact b4 y hy
   ·rw [yZ (show gNm 3 (.tup [.str VAR,.str x]) (D4 m S.length a t) (S++[.dic kvs])=.ok (D4 m S.length a (some (.tup [.str VAR,.str x]))) (S++[.dic kvs])from rfl) (ρ':=D4 m S.length a (some (.tup [.str VAR,.str x]))) (S':=S++[.dic (putK kvs (.str x) (.bl true))]) ?_ (wD _)]
    ·exact b5
    ·unfold zAS zBE
     simp? [zNT,zNU,yBN,zOH,yDQ ha (show kvs.length<1000000 by omega)]
  ·obtain⟨k2,t2,b1,b2,b3,b4,b5⟩:=zMJ tms (λe he=>hT e (mO _ he)) kvs (some (.tup [.str IS,v])) ha (by omega)
   have hv0:vn (.tup [.str IS,v])=none:=by
    cases v with
    |str y=>simp [vn]
    |_=>rfl
   refine⟨k2,t2,b1,by rw [lC];omega,b3,λy hy=>?_,?_⟩
   ·rw [filterMap_cons,hv0]at hy
    exact b4 y hy
   ·rw [yZ (show gNm 3 (.tup [.str IS,v]) (D4 m S.length a t) (S++[.dic kvs])=.ok (D4 m S.length a (some (.tup [.str IS,v]))) (S++[.dic kvs])from rfl) (ρ':=D4 m S.length a (some (.tup [.str IS,v]))) (S':=S++[.dic kvs]) ?_ (wD _)]
    ·exact b5
    ·unfold zAS zBE
     simp? [zNT,zNU,yBO,fT,iF]
theorem zSJ{ts:List (Int×Int)}{S:Sto}{m:MV}{gs:List (Nat×List MV)}(hg: ∀T,stay gs (S++T)): ∀(as:List MV),(∀d∈as,kL ts d)-> ∀(kvs:List (MV×MV))(a t:Option MV),kvs.all (λp=>bG p.1)=true->kvs.length+4 * as.length<1000->
  ∃(kvs':List (MV×MV))(a' t':Option MV),kvs'.all (λp=>bG p.1)=true/\(∀j∈kvs.map (·.1),j∈kvs'.map (·.1))/\(∀x∈zNS as,MV.str x∈kvs'.map (·.1))/\cO (gNm 2) zFI gs as (D4 m S.length a t) (S++[.dic kvs])=.ok (.next (D4 m S.length a' t')) (S++[.dic kvs'])
 |[],_,kvs,a,t,ha,_=>⟨kvs,a,t,ha,λj hj=>hj,λx hx=>by simp [zNS]at hx,rfl⟩
 |d::as,hA,kvs,a,t,ha,hl=>by
  rw [lC]at hl
  obtain⟨ti,tms,p,rfl,_,_,_,h3,h4,h5,hT⟩:=hA d mF0
  obtain⟨k1,t1,a1,a2,a3,a4,a5⟩:=zMJ (S:=S) (m:=m) (a:=some (.tup [.int ti,.tup tms])) tms hT kvs t ha (by omega)
  obtain⟨k2,a2',t2,b1,b2,b3,b4⟩:=zSJ hg as (λe he=>hA e (mO _ he)) k1 (some (.tup [.int ti,.tup tms])) t1 a1 (by omega)
  refine⟨k2,a2',t2,b1,λj hj=>b2 j (a3 j hj),λx hx=>?_,?_⟩
  ·unfold zNS at hx
   rw [flatMap_cons,mem_append]at hx
   rcases hx with h|h
   ·exact b2 _ (a4 x h)
   ·exact b3 x h
  ·rw [yZ (show gNm 2 (.tup [.int ti,.tup tms]) (D4 m S.length a t) (S++[.dic kvs])=.ok (D4 m S.length (some (.tup [.int ti,.tup tms])) t) (S++[.dic kvs])from rfl) (ρ':=D4 m S.length (some (.tup [.int ti,.tup tms])) t1) (S':=S++[.dic k1]) ?_ (hg _)]
   ·exact b4
   ·unfold zFI zHK
    simp? [zNU,show∀(ds:List MV)(S:Sto),itT (.val (.tup ds)) S=.ok ⟨ds,[]⟩ S from λds S=>rfl]
    exact a5
theorem c_nin{ts:List (Int×Int)}{S:Sto}{m:MV}{as:List MV}(h:SqM S m as)(hA: ∀d∈as,kL ts d)(hl:as.length<=4):
  ∃ks:List MV,(∀k∈ks,bG k=true)/\(∀x∈zNS as,MV.str x∈ks)/\zS 1 dA [.val m] S=.ok (.new ks) S:=by
 obtain⟨gs,hg,hit⟩:=h.itQ
 obtain⟨kvs,a',t',h1,_,h3,h4⟩:=zSJ (m:=m) hg as hA [] none none rfl (by simp only [length_nil];omega)
 have hs:zP zKE [m]=[some m,none,none,none]:=rfl
 have e1:zFJ [some m,none,none,none] S=.ok (.next (D4 m S.length none none)) (S++[.dic []]):=by
  unfold zFJ
  simp? [yGF]
 have e2:zFK (D4 m S.length none none) (S++[.dic []])=.ok (.next (D4 m S.length a' t')) (S++[.dic kvs]):=by
  unfold zFK
  simp? [hit]
  exact h4
 have hk:zPO [.val (.loc S.length)] (S++[.dic kvs])=.ok (.new (kvs.map (·.1))) (S++[.dic kvs]):=by
  have e:zND (S++[.dic kvs]) (.val (.loc S.length))=some (S.length,kvs):=by
   unfold zND
   dsimp only
   rw [xN]
   dsimp only
   rw [iP h1]
  unfold zPO
  dsimp only
  rw [e]
 have e3:zFL (D4 m S.length a' t') (S++[.dic kvs])=.ok (.ret (.new (kvs.map (·.1)))) (S++[.dic kvs]):=by
  unfold zFL
  simp? [hk]
 have hF:dA [m] S=.ok (.new (kvs.map (·.1))) (S++[.dic kvs]):=by
  unfold dA zPS
  rw [hs,zC e1,zC e2,e3]
  rfl
 have hall: ∀k∈kvs.map (·.1),bG k=true:=λk hk=>by
  obtain⟨p,hp,rfl⟩:=mM.mp hk
  exact all_eq_true.mp h1 p hp
 refine⟨kvs.map (·.1),hall,h3,zWS rfl (show zU [.val m] S=([m],S)from rfl) hF (.inl rfl) (zKD λd hd=>?_)⟩
 have:=hall d hd
 cases d with
 |str x=>exact gP _ _
 |_=>exact absurd this xF0
theorem yKR{ks:List MV}(h: ∀k∈ks,bG k=true): ∀y∈ks,pd y=true/\dpt y<40:=λd hd=>by
 have:=h d hd
 cases d with
 |str x=>exact⟨zDZ x,by rw [zCK];decide⟩
 |_=>exact absurd this xF0
theorem strs_map: ∀(hs:List (List Nat)),strsOf (hs.map MV.str)=some hs
 |[]=>rfl
 |h::hs=>by
  show(strsOf (hs.map MV.str)).map (h::·)=_
  rw [strs_map hs];rfl
theorem yKS{S:Sto}{m:MV}{hs:List (List Nat)}(h:SqM S m (hs.map MV.str))(hn:hs.Nodup)(hl:hs.length<4000):zSA [.val m] S=.ok (.val (.int (hs.length:Nat))) S:=by
 have e: ∃q:Sr,srcOf S (.val m)=some q/\q.ds=hs.map MV.str:=by
  rcases h with rfl|⟨l,rfl,hS⟩
  ·exact⟨_,rfl,rfl⟩
  ·refine⟨⟨true,hs.map MV.str,[(l,hs.map MV.str)]⟩,?_,rfl⟩
   unfold srcOf
   dsimp only
   rw [hS]
 obtain⟨q,e1,e2⟩:=e
 unfold zSA
 dsimp only
 rw [e1]
 dsimp only
 rw [e2,strs_map]
 dsimp only
 rw [iP hl,yKG hn]
section
variable{ts:List (Int×Int)}{S:Sto}{hm am:MV}{hs:List (List Nat)}{as:List MV}
theorem yPK(h:SqM S hm (hs.map MV.str))(ha:SqM S am as)(hA: ∀d∈as,kL ts d)(h4:as.length<=4)(hn:hs.Nodup)(h3:hs.length<=4)(hin: ∀y∈hs,y∈zNS as):zS 2 zAW [.val hm,.val am] S=.ok (.val (.bl true)) S:=by
 obtain⟨ks,k1,k2,hc⟩:=c_nin ha hA h4
 have hst:zP zIQ [hm,am]=[some hm,some am,none]:=rfl
 have e1:zHL [some hm,some am,none] S=.ok (.next [some hm,some am,some (.loc S.length)]) (S++[.lst ks]):=by
  unfold zHL
  simp? [hc]
 obtain⟨gs,hg,hit⟩:=h.itQ
 have hlen:jS [.val hm] (S++[.lst ks])=.ok (.val (.int (((hs.map MV.str).length:Nat):Int))) (S++[.lst ks]):=(h.app (T:=[.lst ks])).len
 have hcm:xG (gNm 0) zJN zCW [none,some (.loc S.length)] gs (hs.map MV.str) (S++[.lst ks])=.ok ((hs.map MV.str).map λ_=>MV.bl true) (S++[.lst ks]):=bF (F:=λ_=>.bl true) (hg _) λd hd=>⟨[some d,some (.loc S.length)],rfl,rfl,by
  obtain⟨y,hy,rfl⟩:=mM.mp hd
  unfold zCW
  simp? [yBM false (xN S (.lst ks)) (zDZ y) (yKR k1),fT,iF,dT0 (k2 y (hin y hy))]⟩
 have hlt:(hs.map MV.str).length<1000000:=by rw [lM];omega
 have hgt:decide ((4:Int)<(((hs.map MV.str).length:Nat):Int))=false:=dF0 (by rw [lM];omega)
 have e2:zHM [some hm,some am,some (.loc S.length)] (S++[.lst ks])=.ok (.next [some hm,some am,some (.loc S.length)]) (S++[.lst ks]):=by
  unfold zHM
  simp? [hlen,gt_int,hgt,hit,hlt,show blk 1 [2] [some hm,some am,some (.loc S.length)]=[none,some (.loc S.length)]from rfl,hcm,zLJ,zLI,fT,iF,Bool.not_true]
 have hls:zSA [.val hm] (S++[.lst ks])=.ok (.val (.int (hs.length:Nat))) (S++[.lst ks]):=yKS (h.app (T:=[.lst ks])) hn (by omega)
 have e3:zHN [some hm,some am,some (.loc S.length)] (S++[.lst ks])=.ok (.ret (.val (.bl true))) (S++[.lst ks]):=by
  unfold zHN
  simp? [hls,hlen,lM,decide_true]
 refine zBA (T:=[.lst ks]) rfl ?_ (zWB _ _) (λl=>by simp)
 show zAW [hm,am] S=_
 unfold zAW zSF
 rw [hst,zC e1,zC e2,e3]
 rfl
theorem SqM.itE{m:MV}{ds:List MV}(h:SqM S m ds): ∃gs,stay gs S/\itE [.val m] S=.ok ⟨zTO ds,gs⟩ S:=by
 rcases h with rfl|⟨l,rfl,hS⟩
 ·exact⟨[],wD _,rfl⟩
 ·refine⟨[(l,ds)],zBB hS,?_⟩
  have e:srcOf S (.val (.loc l))=some ⟨true,ds,[(l,ds)]⟩:=by
   unfold srcOf
   dsimp only
   rw [hS]
  unfold L2.M.itE
  dsimp only
  rw [e]
abbrev Q5(tt hm am:MV)(p a:Option MV):Rho:=[some tt,some hm,some am,p,a]
theorem yGZ{gs:List (Nat×List MV)}(hg:stay gs S): ∀(L:List MV),(∀d∈L, ∃i a,d=.tup [i,a]/\kL ts a)-> ∀(p a:Option MV), ∃p' a',cO (gTp 2 (yB (gNm 3) (yB (gNm 4) gR))) nI gs L (Q5 (.tup (ts.map tbl)) hm am p a) S=.ok (.next (Q5 (.tup (ts.map tbl)) hm am p' a')) S
 |[],_,p,a=>⟨p,a,rfl⟩
 |d::L,hL,p,a=>by
  obtain⟨i,x,rfl,hx⟩:=hL d mF0
  obtain⟨p',a',ih⟩:=yGZ hg L (λe he=>hL e (mO _ he)) (some i) (some x)
  refine⟨p',a',?_⟩
  rw [yZ (show gTp 2 (yB (gNm 3) (yB (gNm 4) gR)) (.tup [i,x]) (Q5 (.tup (ts.map tbl)) hm am p a) S=.ok (Q5 (.tup (ts.map tbl)) hm am (some i) (some x)) S from rfl) (ρ':=Q5 (.tup (ts.map tbl)) hm am (some i) (some x)) (S':=S) ?_ hg]
  ·exact ih
  ·unfold nI zCD
   simp? [yPJ hx,Bool.not_true,fT,iF]
theorem zZI(h:SqM S hm (hs.map MV.str))(ha:SqM S am as)(hA: ∀d∈as,kL ts d)(h1:1<=as.length)(h4:as.length<=4)(hn:hs.Nodup)(h3:hs.length<=4)(hin: ∀y∈hs,y∈zNS as):
  zS 3 kQ [.val (.tup (ts.map tbl)),.val hm,.val am] S=.ok (.val (.tup [.tup (hs.map MV.str),.tup as])) S:=by
 have hst:zP zCT [.tup (ts.map tbl),hm,am]=[some (.tup (ts.map tbl)),some hm,some am,none,none]:=rfl
 have e1:nK (Q5 (.tup (ts.map tbl)) hm am none none) S=.ok (.next (Q5 (.tup (ts.map tbl)) hm am none none)) S:=by
  unfold nK
  simp? [zWU ha,Bool.not_true,fT,iF]
 obtain⟨gs,hg,hit⟩:=ha.itE
 obtain⟨p',a',hlp⟩:=yGZ (ts:=ts) (hm:=hm) (am:=am) hg (zTO as) (λd hd=>by
  unfold zTO at hd
  obtain⟨q,hq,rfl⟩:=mM.mp hd
  have hm:=List.mem_zipIdx hq
  refine⟨_,_,rfl,hA _ ?_⟩
  rw [hm.2.2]
  exact getElem_mem _) none none
 have e2:nL (Q5 (.tup (ts.map tbl)) hm am none none) S=.ok (.next (Q5 (.tup (ts.map tbl)) hm am p' a')) S:=by
  unfold nL
  simp? [hit]
  exact hlp
 have e3:nM (Q5 (.tup (ts.map tbl)) hm am p' a') S=.ok (.next (Q5 (.tup (ts.map tbl)) hm am p' a')) S:=by
  unfold nM
  simp? [ha.len,chF,le_int,dT0 (show(1:Int)<=(as.length:Nat) by omega),dT0 (show((as.length:Nat):Int)<=4 by omega),zWU h,yPK h ha hA h4 hn h3 hin,Bool.not_true,fT,iF]
 have e4:nN (Q5 (.tup (ts.map tbl)) hm am p' a') S=.ok (.ret (.val (.tup [.tup (hs.map MV.str),.tup as]))) S:=by
  unfold nN
  simp? [h.tuple,ha.tuple]
 refine yI rfl ?_ (zQA ?_) (λl=>by simp)
 ·show kQ [.tup (ts.map tbl),hm,am] S=_
  unfold kQ zJO
  rw [hst,zC e1,zC e2,zC e3,e4]
  rfl
 ·rw [wR,yP,yP,dQ,wR,wR,dS (λd hd=>(zOK d hd).1),dS (λd hd=>(zQB (hA d hd)).1)]
  rfl
end
theorem yKT(i:Int)(S:Sto):zTH (.val (.int i)) (.val .non) S=.ok (.val (.bl false)) S:=rfl
theorem yKU(i:List Nat)(S:Sto):zTH (.val (.str i)) (.val .non) S=.ok (.val (.bl false)) S:=rfl
theorem yHA(i:List MV)(S:Sto):zTH (.val (.tup i)) (.val .non) S=.ok (.val (.bl false)) S:=rfl
theorem yPL(i:List MV)(S:Sto):hZ [.val (.tup i),.val (.typ "str")] S=.ok (.val (.bl false)) S:=rfl
theorem yPM(i:List MV)(S:Sto):hZ [.val (.tup i),.val (.typ "int")] S=.ok (.val (.bl false)) S:=rfl
theorem yPN(i:List MV)(S:Sto):hZ [.val (.tup i),.val (.typ "list")] S=.ok (.val (.bl false)) S:=rfl
theorem zQC(ds:List MV):pairs ds ds=ds.map λd=>.tup [d,d]:=by
 induction ds with
 |nil=>rfl
 |cons d ds ih=>show MV.tup [d,d]::pairs ds ds=_;rw [ih];rfl
mutual
def sm:MV->Bool
 |.tup ds=>decide (ds.length<1000)&&smL ds
 |_=>true
def smL:List MV->Bool
 |[]=>true
 |d::ds=>sm d&&smL ds
end
theorem zMK(ds:List MV):sm (.tup ds)=(decide (ds.length<1000)&&smL ds):=by rw [sm]
theorem zWV(d:MV)(ds:List MV):smL (d::ds)=(sm d&&smL ds):=by rw [smL]
theorem yBP: ∀{ds:List MV},smL ds=true-> ∀d∈ds,sm d=true
 |[],_,d,h=>by simp at h
 |e::ds,hp,d,h=>by
  rw [zWV,aE]at hp
  rcases mC.mp h with rfl|h
  ·exact hp.1
  ·exact yBP hp.2 d h
theorem zIW: ∀{ds:List MV},(∀d∈ds,sm d=true)->smL ds=true
 |[],_=>by rw [smL]
 |d::ds,h=>by rw [zWV,h d mF0,zIW λe he=>h e (mO _ he)];rfl
theorem zWW: ∀(n:Nat){d:MV}(S:Sto),pd d=true->sm d=true->dpt d<n->zS 2 (zQ n) [.val d,.val d] S=.ok (.val (.bl true)) S
 |0,d,S,_,_,h=>by omega
 |n+1,d,S,hp,hsm,h=>dU rfl (by
  show yR (zFQ (zQ n) [some d,some d] S)=_
  unfold zFQ
  rcases zPY hp with⟨i,rfl⟩|⟨x,rfl⟩|⟨ds,rfl,pds⟩
  ·rw [zC (show xR (zQ n) [some (.int i),some (.int i)] S=.ok (.next [some (.int i),some (.int i)]) S by unfold xR;simp? [yKT];rfl)]
   rw [zC (show xS (zQ n) [some (.int i),some (.int i)] S=.ok (.next [some (.int i),some (.int i)]) S by unfold xS;simp? [bok];rfl)]
   rw [wF (show jG (zQ n) [some (.int i),some (.int i)] S=.ok (.ret (.val (.bl true))) S by unfold jG;simp? [yGT,yGU,zOY];first |rfl|simp [bok])]
   rfl
  ·rw [zC (show xR (zQ n) [some (.str x),some (.str x)] S=.ok (.next [some (.str x),some (.str x)]) S by unfold xR;simp? [yKU];rfl)]
   rw [wF (show xS (zQ n) [some (.str x),some (.str x)] S=.ok (.ret (.val (.bl true))) S by unfold xS;simp? [zOY,eq_str];first |rfl|simp [bok])]
   rfl
  ·rw [dR]at h
   rw [zMK,aE,decide_eq_true_eq]at hsm
   have hlen:ds.length<1000000:=by omega
   have hc:xG (gTp 2 (yB (gNm 0) (yB (gNm 1) gR))) (zEQ (zQ n)) (dC (zQ n)) [none,none] [] (pairs ds ds) S=.ok ((pairs ds ds).map λ_=>.bl true) S:=bF (wD S) λe he=>by
    rw [zQC]at he
    obtain⟨x,hx,rfl⟩:=mM.mp he
    refine⟨[some x,some x],rfl,rfl,?_⟩
    unfold dC
    simp? [zWW n S (zOI pds x hx) (yBP hsm.2 x hx) (by have:=zPX x hx;omega)]
   rw [zC (show xR (zQ n) [some (.tup ds),some (.tup ds)] S=.ok (.next [some (.tup ds),some (.tup ds)]) S by unfold xR;simp? [yHA];rfl)]
   rw [zC (show xS (zQ n) [some (.tup ds),some (.tup ds)] S=.ok (.next [some (.tup ds),some (.tup ds)]) S by unfold xS;simp? [yPL];rfl)]
   rw [zC (show jG (zQ n) [some (.tup ds),some (.tup ds)] S=.ok (.next [some (.tup ds),some (.tup ds)]) S by unfold jG;simp? [yPM];rfl)]
   rw [zC (show zBI (zQ n) [some (.tup ds),some (.tup ds)] S=.ok (.next [some (.tup ds),some (.tup ds)]) S by unfold zBI;simp? [yPN];rfl)]
   rw [zC (show zBJ (zQ n) [some (.tup ds),some (.tup ds)] S=.ok (.next [some (.tup ds),some (.tup ds)]) S by unfold zBJ;simp? [bok];rfl)]
   unfold zHW
   simp? [zLH,zOY,show itZ [.val (.tup ds),.val (.tup ds)] S=.ok ⟨pairs ds ds,[]⟩ S from rfl]
   rw [iP (show(pairs ds ds).length<1000000 by rw [zQC,lM];exact hlen)]
   rw [show blk 2 [] [some (.tup ds),some (.tup ds)]=[none,none]from rfl,hc,zLJ]
   simp [bok,zLI]
   rfl)
def letB(x:List Nat):Bool:=x.all λc=>decide (97<=c/\c<=122)
def yDR(x:List Nat):Bool:=x.all λc=>decide (48<=c/\c<=57)
theorem at0{α:Type}(c:α)(t:List α):atI (c::t) 0=some c:=by
 unfold atI ixN
 simp
theorem yPO(a b:Nat):([a]<[b])↔a<b:=by
 rw [List.cons_lt_cons_iff]
 simp
theorem yPP(a b:Nat):(!decide ([b]<[a]))=decide (a<=b):=by
 rw [decide_eq_decide.mpr (yPO b a)]
 by_cases h:a<=b
 ·rw [dT0 h,dF0 (by omega)];rfl
 ·rw [dF0 h,dT0 (by omega)];rfl
theorem yBQ{α:Type}(f:α->Bool): ∀l:List α,zEM (l.map λc=>.bl (f c))=some (l.map f)
 |[]=>rfl
 |c::l=>by rw [map_cons,map_cons];unfold zEM;rw [yBQ f l];rfl
theorem all_map{α:Type}(f:α->Bool)(l:List α)(S:Sto):zQU [.new (l.map λc=>.bl (f c))] S=.ok (.val (.bl (l.all f))) S:=by
 show(match (some (l.map λc=>MV.bl (f c))).bind zEM with |some bs=>R.ok (Er.val (.bl (bs.all id))) S|none=>.no)=_
 rw [show(some (l.map λc=>MV.bl (f c))).bind zEM=some (l.map f)from yBQ f l]
 show R.ok (Er.val (.bl ((l.map f).all id))) S=_
 rw [List.all_map];rfl
theorem len_str{x:List Nat}(h:x.length<=1000)(S:Sto):jS [.val (.str x)] S=.ok (.val (.int x.length)) S:=iP (fits (by omega))
theorem yHB(x:List Nat)(S:Sto):itS (.val (.str x)) S=.ok ⟨x.map λc=>.str [c],[]⟩ S:=rfl
def sOne(f:Nat->Bool):MV->MV
 |.str [c]=>.bl (f c)
 |_=>.non
theorem zQD{gf:MV->Rho->Sto->R Rho}{cf:AZ}{ef:AX}{ρb:Rho}{S:Sto}(f:Nat->Bool)(x:List Nat)(h: ∀c, ∃ρ1,gf (.str [c]) ρb S=.ok ρ1 S/\cf ρ1 S=.ok true S/\ef ρ1 S=.ok (.val (.bl (f c))) S):
  xG gf cf ef ρb [] (x.map λc=>.str [c]) S=.ok (x.map λc=>.bl (f c)) S:=by
 rw [bF (F:=sOne f) (wD S) λd hd=>by
  obtain⟨c,_,rfl⟩:=mM.mp hd
  exact h c]
 rw [map_map]
 rfl
def zLL(x:List Nat):Bool:=(decide (1<=(x.length:Int))&&decide ((x.length:Int)<=8))&&letB x
theorem yLS(x:List Nat)(h:x.length<=1000)(S:Sto):zS 1 wP [.val (.str x)] S=.ok (.val (.bl (zLL x))) S:=yI rfl (by
 show yR (zEO [some (.str x)] S)=_
 have e1:dX [some (.str x)] S=if(decide (1<=(x.length:Int))&&decide ((x.length:Int)<=8))=true then .ok (.next [some (.str x)]) S else .ok (.ret (.val (.bl false))) S:=by
  unfold dX
  simp? [len_str h,chF,le_int]
  cases decide (1<=(x.length:Int))<;>cases decide ((x.length:Int)<=8)<;>rfl
 have hc:=zQD (gf:=gNm 0) (cf:=dM) (ef:=kP) (ρb:=blk 1 [] [some (.str x)]) (S:=S) (λc=>decide (97<=c/\c<=122)) x λc=>⟨[some (.str [c])],rfl,rfl,by
  unfold kP
  simp? [chF,le_str,yPP]
  rw [Bool.decide_and]
  cases decide (97<=c)<;>cases decide (c<=122)<;>rfl⟩
 have e2:dY [some (.str x)] S=.ok (.ret (.val (.bl (letB x)))) S:=by
  unfold dY
  simp? [yHB]
  rw [iP (by rw [lM];omega),hc]
  simp? [all_map]
  rfl
 unfold zEO zLL
 cases z:(decide (1<=(x.length:Int))&&decide ((x.length:Int)<=8))with
 |true=>rw [z,iP rfl]at e1;rw [zC e1,e2];rfl
 |false=>rw [z,iN xF0]at e1;rw [wF e1];rfl) (zWB _ _) (by intro l z;cases z)
def bare(x:List Nat):List Nat:=match x with
 |45::r=>r
 |_=>x
theorem yHC(x:List Nat):(bare x).length<=x.length:=by
 unfold bare
 split
 ·simp
 ·exact le_refl _
theorem cut1(c:Nat)(r:List Nat):cN (c::r) (some 1) none=r:=by
 unfold cN
 simp [HT.sIx]
def zZJ(x:List Nat):Bool:=(decide (1<=((bare x).length:Int))&&decide (((bare x).length:Int)<=30))&&(yDR (bare x)&&(decide (x=[48]) || !decide ((bare x).take 1=[48])))
theorem yPQ(c:Nat)(S:Sto):inF false (.val (.str [c])) (.val (.str [48,49,50,51,52,53,54,55,56,57])) S=.ok (.val (.bl (decide (48<=c/\c<=57)))) S:=by
 show R.ok (Er.val (.bl (decide (c∈[48,49,50,51,52,53,54,55,56,57])))) S=_
 rw [show decide (c∈[48,49,50,51,52,53,54,55,56,57])=decide (48<=c/\c<=57)from decide_eq_decide.mpr (by simp only [mC,nM0,or_false];omega)]
theorem yLT(x:List Nat)(h:x.length<=1000)(S:Sto):zS 1 xV [.val (.str x)] S=.ok (.val (.bl (zZJ x))) S:=yI rfl (by
 show yR (nO [some (.str x),none] S)=_
 have hb:=yHC x
 have h1:bK [some (.str x),none] S=.ok (.next [some (.str x),some (.str (bare x))]) S:=by
  unfold bK
  simp? [show∀S,kT (.val (.str x)) S=true from λ_=>rfl,show∀S,swF (.val (.str x)) [.val (.str [45])] S=.ok (.val (.bl (decide (1<=x.length)&&decide (x.take 1=[45])))) S from λ_=>rfl,cut_str (fits (show x.length<=1000000 by omega))]
  match x with
  |[]=>rfl
  |c::r=>
   by_cases hc:c=45
   ·subst hc
    rw [iP (by simp),cut1]
    rfl
   ·rw [iN (by simp [hc])]
    unfold bare
    split
    ·rename_i z;cases z;exact absurd rfl hc
    ·rfl
 have h2:bL [some (.str x),some (.str (bare x))] S=if(decide (1<=((bare x).length:Int))&&decide (((bare x).length:Int)<=30))=true then .ok (.next [some (.str x),some (.str (bare x))]) S else .ok (.ret (.val (.bl false))) S:=by
  unfold bL
  simp? [len_str (show(bare x).length<=1000 by omega),chF,le_int]
  cases decide (1<=((bare x).length:Int))<;>cases decide (((bare x).length:Int)<=30)<;>rfl
 have hc:=zQD (gf:=gNm 0) (cf:=zAL) (ef:=jT) (ρb:=blk 1 [] [some (.str x),some (.str (bare x))]) (S:=S) (λc=>decide (48<=c/\c<=57)) (bare x) λc=>⟨[some (.str [c])],rfl,rfl,by
  unfold jT
  simp? [yPQ]⟩
 have h3:bM [some (.str x),some (.str (bare x))] S=if yDR (bare x)=true then .ok (.next [some (.str x),some (.str (bare x))]) S else .ok (.ret (.val (.bl false))) S:=by
  unfold bM
  simp? [yHB]
  rw [iP (by rw [lM];omega),hc]
  simp? [all_map]
  show(if(!yDR (bare x))=true then _ else _)=_
  cases yDR (bare x)<;>rfl
 have h4:1<=(bare x).length->bN [some (.str x),some (.str (bare x))] S=.ok (.ret (.val (.bl (decide (x=[48]) || !decide ((bare x).take 1=[48]))))) S:=by
  intro hl
  unfold bN
  simp? [eq_str]
  match hz:bare x,hl with
  |c::t,_=>
   rw [hz]at hb
   have hi: ∀S,ixF (.val (.str (c::t))) (.val (.int 0)) S=.ok (.val (.str [c])) S:=λS=>ix_str (fits (by omega)) (at0 c t)
   simp? [orF,hi,zZB (zOD _ [c] [48])]
   cases decide (x=[48])<;>rfl
 unfold nO zZJ
 rw [zC h1]
 cases c1:(decide (1<=((bare x).length:Int))&&decide (((bare x).length:Int)<=30))with
 |false=>rw [c1,iN xF0]at h2;rw [wF h2];rfl
 |true=>
  rw [c1,iP rfl]at h2;rw [zC h2]
  cases c2:yDR (bare x)with
  |false=>rw [c2,iN xF0]at h3;rw [wF h3];rfl
  |true=>
   rw [c2,iP rfl]at h3;rw [zC h3,h4 (by rw [aE,decide_eq_true_eq]at c1;omega)];rfl) (zWB _ _) (by intro l z;cases z)
def valOf(x:List Nat):Int:=match x with
 |45::r=> -((PySem.NumText.digitsVal r:Nat):Int)
 |_=>((PySem.NumText.digitsVal x:Nat):Int)
theorem yPR(x:List Nat):(∃r,x=45::r)\/ ∀r,x≠45::r:=by
 by_cases h: ∃r,x=45::r
 ·exact .inl h
 ·exact .inr λr e=>h ⟨r,e⟩
theorem yBR{x:List Nat}(h: ∀r,x≠45::r):bare x=x:=by
 unfold bare
 split
 ·exact absurd rfl (h _)
 ·rfl
theorem yHD{x:List Nat}(h: ∀r,x≠45::r):valOf x=((PySem.NumText.digitsVal x:Nat):Int):=by
 unfold valOf
 split
 ·exact absurd rfl (h _)
 ·rfl
theorem yBS{x:List Nat}(h:yDR x=true):PySem.NumText.AllDigits x:=λc hc=>of_decide_eq_true (all_eq_true.mp h c hc)
theorem int5{x:List Nat}(h:zZJ x=true)(hl:x.length<=100)(S:Sto):zYW [.val (.str x)] S=.ok (.val (.int (valOf x))) S:=by
 unfold zZJ at h
 rw [aE,aE,aE,decide_eq_true_eq]at h
 obtain⟨⟨h1,_⟩,h2,_⟩:=h
 have hs:(mkS x).length<=4300:=by rw [yT];omega
 have hv:PySem.intText? (mkS x)=some (valOf x):=by
  rcases yPR x with⟨r,rfl⟩|hx
  ·exact PySem.intText_neg (x:=mkS (45::r)) (cs:=r) (gF _) (yBS h2) (by rintro rfl;simp [bare]at h1) hs
  ·rw [yBR hx]at h1 h2
   have:=PySem.intText_digits (x:=mkS x) (by rw [gF];exact yBS h2) (by rw [gF];rintro rfl;simp at h1) hs
   rw [gF]at this
   rw [yHD hx]
   exact this
 show(match PySem.intText? (mkS x)with |some n=>if x.length<=640 then R.ok (Er.val (.int n)) S else .no|none=>.no)=_
 rw [hv]
 exact iP (by omega)
theorem zQX: ∀d:Nat,d<10->(Nat.digitChar d).toNat=48+d:=by decide
theorem zIX{m:Nat}(h:m<10):zBX m=[48+m]:=by
 unfold zBX
 rw [Nat.toDigits_of_lt_base h]
 show [(Nat.digitChar m).toNat]=_
 rw [zQX m h]
theorem zML{m:Nat}(h: ¬m<10):zBX m=zBX (m / 10)++[48+m % 10]:=by
 have hm:m % 10<10:=mod_lt m (by decide)
 have t:Nat.toDigits 10 (m / 10)++Nat.toDigits 10 (m % 10)=Nat.toDigits 10 (10 * (m / 10)+m % 10):=Nat.toDigits_append_toDigits (by decide) (by omega) hm
 rw [Nat.div_add_mod]at t
 have e:=zIX hm
 unfold zBX at e ⊢
 rw [<-t,map_append,e]
theorem yHE(cs:List Nat)(c:Nat):PySem.NumText.digitsVal (cs++[c])=PySem.NumText.digitsVal cs * 10+(c - 48):=by
 unfold PySem.NumText.digitsVal
 rw [List.foldl_append]
 rfl
theorem zQE(m:Nat):(∀c∈zBX m,48<=c/\c<=57)/\PySem.NumText.digitsVal (zBX m)=m/\ ∃c r,zBX m=c::r/\(m≠0->c≠48):=by
 induction m using Nat.strongRecOn with
 |ind m ih=>
  by_cases h:m<10
  ·rw [zIX h]
   refine⟨λc hc=>by rw [mS.mp hc];omega,?_,48+m,[],rfl,λz=>by omega⟩
   show 0 * 10+(48+m - 48)=m
   omega
  ·obtain⟨h1,h2,c,r,h3,h4⟩:=ih (m / 10) (by omega)
   rw [zML h]
   refine⟨λc hc=>?_,?_,c,r++[48+m % 10],by rw [h3];rfl,λ_=>h4 (by omega)⟩
   ·rcases mem_append.mp hc with z|z
    ·exact h1 c z
    ·rw [mS.mp z];omega
   ·rw [yHE,h2];omega
theorem zIA: ∀(k m:Nat),m<10 ^ (k+1)->(zBX m).length<=k+1
 |0,m,h=>by rw [zIX (by omega)];exact le_refl _
 |k+1,m,h=>by
  by_cases hm:m<10
  ·rw [zIX hm];simp
  ·rw [zML hm,lA,lS]
   have:=zIA k (m / 10) (by rw [Nat.pow_succ]at h;omega)
   omega
theorem yKV{i:Int}(h1: -(10 ^ 30)<i)(h2:i<10 ^ 30):i.natAbs<10 ^ 30:=by
 have e:((10 ^ 30:Nat):Int)=(10:Int) ^ 30:=by decide+kernel
 generalize (10 ^ 30:Nat)=k at e ⊢
 omega
theorem jP{i:Int}(h:i.natAbs<10 ^ 30):(∀c∈wS i,c=45\/48<=c/\c<=57)/\(wS i).length<=31/\bare (wS i)=zBX i.natAbs/\valOf (wS i)=i/\(wS i=[48]\/i≠0)/\wS i≠[]:=by
 obtain⟨h1,h2,c,r,h3,h4⟩:=zQE i.natAbs
 have hl:=zIA 29 i.natAbs h
 by_cases hi:i<0
 ·have e:wS i=45::zBX i.natAbs:=by unfold wS;rw [iP hi]
  rw [e]
  refine⟨λc hc=>?_,by rw [lC];omega,rfl,?_,.inr (by omega),by simp⟩
  ·rcases mC.mp hc with z|z
   ·exact .inl z
   ·exact .inr (h1 c z)
  ·show -((PySem.NumText.digitsVal (zBX i.natAbs):Nat):Int)=i
   rw [h2];omega
 ·have e:wS i=zBX i.natAbs:=by unfold wS;rw [iN hi]
  have hn: ∀r,zBX i.natAbs≠45::r:=λr z=>by
   have:=h1 45 (by rw [z];exact mF0)
   omega
  rw [e]
  refine⟨λc hc=>.inr (h1 c hc),by omega,yBR hn,by rw [yHD hn,h2];omega,?_,by rw [h3];simp⟩
  by_cases z:i=0
  ·subst z;exact .inl (zIX (by decide))
  ·exact .inr z
theorem zUC{i:Int}(h:i.natAbs<10 ^ 30):zZJ (wS i)=true:=by
 obtain⟨f1,f2,f3,f4,f5,f6⟩:=jP h
 obtain⟨h1,h2,c,r,h3,h4⟩:=zQE i.natAbs
 have hl:=zIA 29 i.natAbs h
 unfold zZJ
 rw [f3,aE,aE,aE,decide_eq_true_eq,decide_eq_true_eq]
 refine⟨⟨by rw [h3,lC];omega,by omega⟩,all_eq_true.mpr λc hc=>dT0 (h1 c hc),?_⟩
 rcases f5 with z|z
 ·rw [dT0 z];rfl
 ·rw [h3,show(c::r).take 1=[c]from rfl,dF0 (show¬[c]=[48]from λe=>h4 (by omega) (by simpa using e))]
  simp
theorem zZK{i:Int}(h:i.natAbs<10 ^ 30):zLL (wS i)=false:=by
 obtain⟨f1,f2,f3,f4,f5,f6⟩:=jP h
 cases hn:zLL (wS i)with
 |false=>rfl
 |true=>
  unfold zLL at hn
  rw [aE]at hn
  cases he:wS i with
  |nil=>exact absurd he f6
  |cons c r=>
   have h1:=of_decide_eq_true (all_eq_true.mp hn.2 c (by rw [he];exact mF0))
   have h2:=f1 c (by rw [he];exact mF0)
   omega
theorem yHF{x:List Nat}(h:Nm x):zLL x=true:=by
 unfold zLL letB
 rw [aE,aE,decide_eq_true_eq,decide_eq_true_eq,all_eq_true]
 exact⟨⟨by have:=h.1;omega,by have:=h.2.1;omega⟩,λc hc=>dT0 (h.2.2 c hc)⟩
def wT:MV->List Nat
 |.int i=>wS i
 |.str x=>x
 |_=>[]
theorem nB{d:MV}(h:Vl d):(∃i:Int,d=.int i/\i.natAbs<10 ^ 30)\/ ∃x,d=.str x/\Nm x:=by
 rcases h.cases with⟨i,rfl,h1,h2⟩|⟨x,rfl,h1⟩
 ·exact .inl ⟨i,rfl,yKV h1 h2⟩
 ·exact .inr ⟨x,rfl,h1⟩
theorem zZL{d:MV}(h:Vl d):(wT d).length<=31:=by
 rcases nB h with⟨i,rfl,h1⟩|⟨x,rfl,h1⟩
 ·exact(jP h1).2.1
 ·exact le_trans h1.2.1 (by decide)
theorem zWX{d:MV}(h:Vl d): ∀c∈wT d,c=45\/(48<=c/\c<=57)\/(97<=c/\c<=122):=by
 rcases nB h with⟨i,rfl,h1⟩|⟨x,rfl,h1⟩
 ·intro c hc
  rcases (jP h1).1 c hc with z|z
  ·exact .inl z
  ·exact .inr (.inl z)
 ·exact λc hc=>.inr (.inr (h1.2.2 c hc))
theorem yLU{d:MV}(h:Vl d):wT d≠[]:=by
 rcases nB h with⟨i,rfl,h1⟩|⟨x,rfl,h1⟩
 ·exact(jP h1).2.2.2.2.2
 ·intro e
  rw [show x=[]from e]at h1
  exact absurd h1.1 (by decide)
theorem yPS{d:MV}(h:Vl d)(S:Sto):strF [.val d] S=.ok (.val (.str (wT d))) S:=by
 rcases nB h with⟨i,rfl,h1⟩|⟨x,rfl,h1⟩
 ·refine iP ?_
  by_cases z:i.natAbs=0
  ·rw [z];decide
  ·exact(log2_lt z).mpr (lt_trans h1 (by decide+kernel))
 ·rfl
theorem yLV{d:MV}(h:Vl d)(S:Sto):zS 1 jN [.val d] S=.ok (.val (.str (wT d))) S:=yI rfl (by
 show yR (zFM [some d] S)=_
 unfold zFM zHP
 simp? [yPS h]
 rfl) (gP _ _) (λl=>by simp)
theorem yLW{d:MV}(h:Vl d)(S:Sto):zS 1 wX [.val (.str (wT d))] S=.ok (.val d) S:=by
 have hl:=zZL h
 refine yI rfl ?_ (h.lo _) (λl=>by rintro rfl;rcases nB h with⟨i,e,_⟩|⟨x,e,_⟩<;>cases e)
 show yR (zAT [some (.str (wT d))] S)=_
 have e1:zHQ [some (.str (wT d))] S=.ok (.next [some (.str (wT d))]) S:=rfl
 rcases nB h with⟨i,rfl,h1⟩|⟨x,rfl,h1⟩
 ·obtain⟨f1,f2,f3,f4,f5,f6⟩:=jP h1
  have e2:jE [some (.str (wT (.int i)))] S=.ok (.next [some (.str (wT (.int i)))]) S:=by
   unfold jE
   simp? [yLS (wT (.int i)) (by omega),show zLL (wT (.int i))=false from zZK h1,fT,iF]
  have e3:zBF [some (.str (wT (.int i)))] S=.ok (.ret (.val (.int i))) S:=by
   unfold zBF
   simp? [yLT (wT (.int i)) (by omega),show zZJ (wT (.int i))=true from zUC h1,int5 (x:=wT (.int i)) (zUC h1) (by omega)]
   rw [show valOf (wT (.int i))=i from f4]
  unfold zAT
  rw [zC e1,zC e2,wF e3]
  rfl
 ·have e2:jE [some (.str (wT (.str x)))] S=.ok (.ret (.val (.str x))) S:=by
   unfold jE
   simp? [yLS (wT (.str x)) (by omega),show zLL (wT (.str x))=true from yHF h1]
   rfl
  unfold zAT
  rw [zC e1,wF e2]
  rfl
def D10:List Nat:=[48,49,50,51,52,53,54,55,56,57]
theorem at10: ∀m:Nat,m<10->atI D10 (m:Int)=some (48+m):=by decide
theorem ln1{self:List MV->Sto->R Er}{i:Int}(h: ¬i<0)(S:Sto):kI self [some (.int i)] S=.ok (.next [some (.int i)]) S:=by
 unfold kI
 simp? [lt_int,dF0 h,fT,iF]
theorem ln2{self:List MV->Sto->R Er}{m:Nat}(h:m<10)(S:Sto):kK self [some (.int (m:Nat))] S=.ok (.ret (.val (.str (zBX m)))) S:=by
 have hi: ∀S,ixF (.val (.str [48,49,50,51,52,53,54,55,56,57])) (.val (.int (m:Nat))) S=.ok (.val (.str [48+m])) S:=λS=>ix_str (x:=D10) (fits (by decide)) (at10 m h)
 unfold kK
 simp? [lt_int,dT0 (show((m:Nat):Int)<10 by omega),hi,zIX h]
theorem ln2n{self:List MV->Sto->R Er}{m:Nat}(h: ¬m<10)(S:Sto):kK self [some (.int (m:Nat))] S=.ok (.next [some (.int (m:Nat))]) S:=by
 unfold kK
 simp? [lt_int,dF0 (show¬((m:Nat):Int)<10 by omega),fT,iF]
theorem lnum: ∀(k m n:Nat),m<10 ^ (k+1)->k<=1000-> ∀S:Sto,zS 1 (zT (n+(k+1))) [.val (.int (m:Nat))] S=.ok (.val (.str (zBX m))) S
 |0,m,n,h,_,S=>yI rfl (by
   show yR (wC (zT n) [some (.int (m:Nat))] S)=_
   unfold wC
   rw [zC (ln1 (by omega) S),wF (ln2 (by omega) S)]
   rfl) (gP _ _) (λl=>by simp)
 |k+1,m,n,h,hk,S=>yI rfl (by
   show yR (wC (zT (n+(k+1))) [some (.int (m:Nat))] S)=_
   unfold wC
   rw [zC (ln1 (by omega) S)]
   by_cases hm:m<10
   ·rw [wF (ln2 hm S)]
    rfl
   ·have hl:m / 10<10 ^ (k+1):=by rw [Nat.pow_succ]at h;omega
    have hc: ∀S,zS 1 (zT (n+(k+1))) [.val (.int ((m:Int) / 10))] S=.ok (.val (.str (zBX (m / 10)))) S:=λS=>lnum k (m / 10) n hl (by omega) S
    have hi: ∀S,ixF (.val (.str [48,49,50,51,52,53,54,55,56,57])) (.val (.int ((m:Int) % 10))) S=.ok (.val (.str [48+m % 10])) S:=λS=>ix_str (x:=D10) (fits (by decide)) (at10 (m % 10) (by omega))
    have hb:=zIA k (m / 10) hl
    have e3:zAC (zT (n+(k+1))) [some (.int (m:Nat))] S=.ok (.ret (.val (.str (zBX m)))) S:=by
     unfold zAC
     simp? [yX (b:=10) (by decide) (by decide),hc,mod_lit (show(0:Int)<10 by decide),hi]
     rw [add_str (fits (by rw [lS];omega)),zML hm]
     rfl
    rw [zC (ln2n hm S),e3]
    rfl) (gP _ _) (λl=>by simp)
theorem yBT{i:Int}(h:i.natAbs<10 ^ 30)(S:Sto):zS 1 (zT 33) [.val (.int i)] S=.ok (.val (.str (wS i))) S:=by
 by_cases hi:i<0
 ·refine yI rfl ?_ (gP _ _) (λl=>by simp)
  show yR (wC (zT 32) [some (.int i)] S)=_
  have hc: ∀S,zS 1 (zT 32) [.val (.int (0 - i))] S=.ok (.val (.str (zBX i.natAbs))) S:=λS=>by
   have:=lnum 29 i.natAbs 2 h (by decide) S
   rw [show((i.natAbs:Nat):Int)=0 - i by omega]at this
   exact this
  have hb:=zIA 29 i.natAbs h
  have e1:kI (zT 32) [some (.int i)] S=.ok (.ret (.val (.str (wS i)))) S:=by
   unfold kI
   simp? [lt_int,dT0 hi,sub_int,hc]
   rw [add_str (fits (by rw [lS];omega))]
   unfold wS
   rw [iP hi]
   rfl
  unfold wC
  rw [wF e1]
  rfl
 ·have:=lnum 29 i.natAbs 3 h (by decide) S
  rw [show((i.natAbs:Nat):Int)=i by omega]at this
  unfold wS
  rw [iN hi]
  exact this
theorem yLX{d:MV}(h:Vl d)(S:Sto):zS 1 cJ [.val d] S=.ok (.val (.str (wT d))) S:=yI rfl (by
 show yR (zFR [some d] S)=_
 unfold zFR
 rcases nB h with⟨i,rfl,h1⟩|⟨x,rfl,h1⟩
 ·have e1:zBR [some (.int i)] S=.ok (.next [some (.int i)]) S:=rfl
  have e2:zBS [some (.int i)] S=.ok (.ret (.val (.str (wS i)))) S:=by
   unfold zBS
   simp? [yBT h1]
  rw [zC e1,e2]
  rfl
 ·have e1:zBR [some (.str x)] S=.ok (.ret (.val (.str x))) S:=rfl
  rw [wF e1]
  rfl) (gP _ _) (λl=>by simp)
def tT:MV->List Nat
 |.tup [.str w,v]=>if w=VAR then 63::wT v else wT v
 |_=>[]
def aP:MV->List (List Nat)
 |.tup [.int t,.tup tms]=>wS t::tms.map tT
 |_=>[]
theorem zMM(x:List Nat):tT (.tup [.str VAR,.str x])=63::x:=by
 show(if VAR=VAR then 63::wT (.str x)else wT (.str x))=_
 rw [iP rfl]
 rfl
theorem zSK(v:MV):tT (.tup [.str IS,v])=wT v:=by
 show(if IS=VAR then 63::wT v else wT v)=_
 rw [iN (by decide)]
theorem yHG{d:MV}(h:zJG d):(tT d).length<=32:=by
 rcases h with⟨x,hx,rfl⟩|⟨v,hv,rfl⟩
 ·rw [zMM,lC];have:=hx.2.1;omega
 ·rw [zSK];have:=zZL hv;omega
def okS(c:Nat):Prop:=c=45\/c=63\/(48<=c/\c<=57)\/(97<=c/\c<=122)
theorem yHH{d:MV}(h:zJG d): ∀c∈tT d,okS c:=by
 rcases h with⟨x,hx,rfl⟩|⟨v,hv,rfl⟩
 ·intro c hc
  rw [zMM]at hc
  rcases mC.mp hc with z|z
  ·exact .inr (.inl z)
  ·exact .inr (.inr (.inr (hx.2.2 c z)))
 ·intro c hc
  rw [zSK]at hc
  rcases zWX hv c hc with z|z
  ·exact .inl z
  ·exact .inr (.inr z)
theorem tT_ne{d:MV}(h:zJG d):tT d≠[]:=by
 rcases h with⟨x,hx,rfl⟩|⟨v,hv,rfl⟩
 ·rw [zMM];simp
 ·rw [zSK];exact yLU hv
theorem zSL{ts:List (Int×Int)}{a:MV}(hT:TOk ts)(h:kL ts a): ∀z∈aP a,z.length<=32/\z≠[]/\ ∀c∈z,okS c:=by
 obtain⟨t,tms,p,rfl,t0,t1,hd,hl,p1,p3,hTm⟩:=h
 intro z hz
 rcases mC.mp hz with rfl|hz
 ·have hb:t.natAbs<10 ^ 30:=by
   have h4:=hT.2.1
   have:t.natAbs<4:=by omega
   exact lt_trans this (by decide)
  obtain⟨f1,f2,f3,f4,f5,f6⟩:=jP hb
  refine⟨by omega,f6,λc hc=>?_⟩
  rcases f1 c hc with z|z
  ·exact .inl z
  ·exact .inr (.inr (.inl z))
 ·obtain⟨d,hd,rfl⟩:=mM.mp hz
  exact⟨yHG (hTm d hd),tT_ne (hTm d hd),yHH (hTm d hd)⟩
theorem zUD{ts:List (Int×Int)}{a:MV}(h:kL ts a):(aP a).length<=5:=by
 obtain⟨t,tms,p,rfl,t0,t1,hd,hl,p1,p3,hTm⟩:=h
 show(wS t::tms.map tT).length<=5
 rw [lC,lM]
 omega
theorem zWY: ∀zs:List (List Nat),zCR (zs.map MV.str)=some zs
 |[]=>rfl
 |z::zs=>by
  show(zCR (zs.map MV.str)).map (z::·)=_
  rw [zWY zs]
  rfl
theorem zUE{y:List Nat}{zs:List (List Nat)}(h0:y.length<=100)(h1:zs.length<=1000)(h2: ∀z∈zs,z.length<=900)(S:Sto):zNE (.val (.str y)) [.new (zs.map MV.str)] S=.ok (.val (.str (zX y zs))) S:=by
 show(match some (zs.map MV.str)with
  |some ds=>match zCR ds with
   |some zs=>if y.length<=100/\zs.length<=1000/\ ∀z∈zs,z.length<=900 then R.ok (Er.val (.str (zX y zs))) S else .no
   |none=>.no
  |none=>.no)=_
 dsimp only
 rw [zWY]
 exact iP ⟨h0,h1,h2⟩
theorem zIY{y:List Nat}{B:Nat}: ∀zs:List (List Nat),(∀z∈zs,z.length<=B)->(zX y zs).length<=zs.length * (B+y.length)
 |[],_=>zero_le _
 |[x],h=>by
  have:=h x mF0
  show x.length<=1 * (B+y.length)
  omega
 |x::z::r,h=>by
  have h1:=h x mF0
  have h2:=zIY (y:=y) (z::r) λw hw=>h w (mO _ hw)
  show(x++y++zX y (z::r)).length<=(r.length+1+1) * (B+y.length)
  rw [show(z::r).length=r.length+1 from rfl]at h2
  rw [lA,lA,Nat.succ_mul (r.length+1)]
  omega
theorem st_ok{d:MV}(h:zJG d)(S:Sto):zS 1 zCE [.val d] S=.ok (.val (.str (tT d))) S:=yI rfl (by
 show yR (zHR [some d] S)=_
 unfold zHR zJP
 rcases h with⟨x,hx,rfl⟩|⟨v,hv,rfl⟩
 ·simp? [zNT,zNU,yBN]
  rw [add_str (fits (by have:=hx.2.1;simp only [lS];omega)),zMM]
  rfl
 ·simp? [zNT,zNU,yBO,fT,iF,yLV hv,zSK]
  rfl) (gP _ _) (λl=>by simp)
theorem zMN(ds:List MV)(S:Sto):itT (.val (.tup ds)) S=.ok ⟨ds,[]⟩ S:=rfl
theorem yKW{x y:List MV}(h:x.length+y.length<=1000000)(S:Sto):xK (.new x) (.new y) S=.ok (.new (x++y)) S:=zTL rfl rfl (fits h)
theorem lst1(a:MV)(S:Sto):cV [.val a] S=.ok (.new [a]) S:=zBC (by simp)
theorem lst2(a b:MV)(S:Sto):cV [.val a,.val b] S=.ok (.new [a,b]) S:=zBC (by simp)
theorem zFT(x:List Nat)(S:Sto):kT (.val (.str x)) S=true:=rfl
theorem yHI{i:Int}(h:i.natAbs<10 ^ 30):Vl (.int i):=by
 have e:((10 ^ 30:Nat):Int)=(10:Int) ^ 30:=by decide+kernel
 generalize (10 ^ 30:Nat)=k at e h
 exact⟨by omega,by omega⟩
theorem sa_ok{ts:List (Int×Int)}{a:MV}(hT:TOk ts)(h:kL ts a)(S:Sto):zS 1 zCF [.val a] S=.ok (.val (.str (zX [32] (aP a)))) S:=yI rfl (by
 have hP:=zSL hT h
 have hL:=zUD h
 obtain⟨t,tms,p,rfl,t0,t1,hd,hl,p1,p3,hTm⟩:=h
 have hb:t.natAbs<10 ^ 30:=by
  have h4:=hT.2.1
  have:t.natAbs<4:=by omega
  exact lt_trans this (by decide)
 have hc:xG (gNm 0) zGJ nP [none] [] tms S=.ok (tms.map λd=>.str (tT d)) S:=bF (F:=λd=>.str (tT d)) (wD _) λd hd=>⟨[some d],rfl,rfl,by
  unfold nP
  simp? [st_ok (hTm d hd) S]⟩
 have hlt:tms.length<1000000:=by omega
 show yR (zHS [some (.tup [.int t,.tup tms])] S)=_
 have e1:zCX [some (.tup [.int t,.tup tms])] S=.ok (.ret (.val (.str (zX [32] (aP (.tup [.int t,.tup tms])))))) S:=by
  unfold zCX
  simp? [zNT,zNU,yLV (yHI hb),lst1,zMN,hlt,show blk 1 [] [some (.tup [.int t,.tup tms])]=[none]from rfl,hc,zFT]
  rw [yKW (by rw [lM];simp only [lS];omega),bok]
  rw [show [MV.str (wT (.int t))]++tms.map (λd=>MV.str (tT d))=(aP (.tup [.int t,.tup tms])).map MV.str by
   show _=MV.str (wS t)::(tms.map tT).map MV.str
   rw [map_map]
   rfl]
  rw [bok,zUE (y:=[32]) (zs:=aP (.tup [.int t,.tup tms])) (by decide) (by omega) (λz hz=>by have:=(hP z hz).1;omega)]
  rfl
 unfold zHS
 rw [e1]
 rfl) (gP _ _) (λl=>by simp)
def hP(hs:List (List Nat)):List (List Nat):=hs.map (63::·)
def mT(as:List MV):List Nat:=zX [32,59,32] (as.map λa=>zX [32] (aP a))
def qT(hs:List (List Nat))(as:List MV):List Nat:=zX [32] (hP hs++[[58],mT as])
section
variable{ts:List (Int×Int)}{hs:List (List Nat)}{as:List MV}
theorem zZM(hT:TOk ts){a:MV}(h:kL ts a):(zX [32] (aP a)).length<=165:=by
 have h1:=zIY (y:=[32]) (B:=32) (aP a) λz hz=>(zSL hT h z hz).1
 have h2:=zUD h
 have h3:(aP a).length * (32+[32].length)<=5 * (32+[32].length):=Nat.mul_le_mul_right _ h2
 exact le_trans h1 h3
theorem yPT(hT:TOk ts)(hA: ∀d∈as,kL ts d)(h4:as.length<=4):(mT as).length<=672:=by
 have h1:=zIY (y:=[32,59,32]) (B:=165) (as.map λa=>zX [32] (aP a)) λz hz=>by
  obtain⟨a,ha,rfl⟩:=mM.mp hz
  exact zZM hT (hA a ha)
 rw [lM]at h1
 have h3:as.length * (165+[32,59,32].length)<=4 * (165+[32,59,32].length):=Nat.mul_le_mul_right _ h4
 exact le_trans h1 h3
theorem yHJ(hT:TOk ts)(hA: ∀d∈as,kL ts d)(h4:as.length<=4)(hN: ∀y∈hs,Nm y): ∀z∈hP hs++[[58],mT as],z.length<=900:=by
 intro z hz
 rcases mem_append.mp hz with h|h
 ·obtain⟨y,hy,rfl⟩:=mM.mp h
  have:=(hN y hy).2.1
  rw [lC];omega
 ·rcases mC.mp h with rfl|h
  ·decide
  ·rw [mS.mp h]
   have:=yPT hT hA h4
   omega
theorem yPU(hT:TOk ts)(hA: ∀d∈as,kL ts d)(h4:as.length<=4)(hN: ∀y∈hs,Nm y)(hl:hs.length<=4):(qT hs as).length<=10000:=by
 have h1:=zIY (y:=[32]) (B:=900) (hP hs++[[58],mT as]) (yHJ hT hA h4 hN)
 have h2:(hP hs++[[58],mT as]).length<=6:=by
  rw [lA]
  unfold hP
  rw [lM]
  show hs.length+2<=6
  omega
 have h3:(hP hs++[[58],mT as]).length * (900+[32].length)<=6 * (900+[32].length):=Nat.mul_le_mul_right _ h2
 exact le_trans h1 (le_trans h3 (by decide))
def qV(hs:List (List Nat))(as:List MV):MV:=.tup [.tup (hs.map MV.str),.tup as]
theorem yLY(hT:TOk ts)(hA: ∀d∈as,kL ts d)(h4:as.length<=4)(hN: ∀y∈hs,Nm y)(hl:hs.length<=4)(S:Sto):zS 1 kF [.val (qV hs as)] S=.ok (.val (.str (qT hs as))) S:=by
 refine zBA (T:=[.lst ((hP hs).map MV.str)]) rfl ?_ (gP _ _) (λl=>by simp)
 show yR (nQ [some (qV hs as),none] S)=_
 have hlh:(hs.map MV.str).length<1000000:=by rw [lM];omega
 have hla:as.length<1000000:=by omega
 have hc1:xG (gNm 0) jU wG [none] [] (hs.map MV.str) S=.ok ((hP hs).map MV.str) S:=by
  have:=bF (gf:=gNm 0) (cf:=jU) (ef:=wG) (ρb:=[none]) (S:=S) (F:=λd=>match d with |.str x=>.str (63::x)|_=>.non) (wD S) (ds:=hs.map MV.str) λd hd=>by
   obtain⟨y,hy,rfl⟩:=mM.mp hd
   refine⟨[some (.str y)],rfl,rfl,?_⟩
   unfold wG
   simp? [bok]
   rw [add_str (fits (by have:=(hN y hy).2.1;simp only [lS];omega))]
   rfl
  rw [this]
  unfold hP
  rw [map_map,map_map]
  rfl
 have hc2: ∀S,xG (gNm 0) zAM jV [none] [] as S=.ok (as.map λa=>.str (zX [32] (aP a))) S:=λS=>bF (F:=λa=>.str (zX [32] (aP a))) (wD _) λd hd=>⟨[some d],rfl,rfl,by
  unfold jV
  simp? [sa_ok hT (hA d hd) S]⟩
 have e1:bO [some (qV hs as),none] S=.ok (.next [some (qV hs as),some (.loc S.length)]) (S++[.lst ((hP hs).map MV.str)]):=by
  unfold bO qV
  simp? [zNT,zMN,hlh,show blk 1 [] [some (MV.tup [.tup (hs.map MV.str),.tup as]),none]=[none]from rfl,hc1]
 have hm:as.map (λa=>MV.str (zX [32] (aP a)))=(as.map λa=>zX [32] (aP a)).map MV.str:=by rw [map_map];rfl
 have hj: ∀S,zNE (.val (.str [32,59,32])) [.new (as.map λa=>.str (zX [32] (aP a)))] S=.ok (.val (.str (mT as))) S:=λS=>by
  rw [hm]
  exact zUE (by decide) (by rw [lM];omega) (λz hz=>by
   obtain⟨a,ha,rfl⟩:=mM.mp hz
   have:=zZM hT (hA a ha)
   omega) S
 have ha:xK (.val (.loc S.length)) (.new [.str [58],.str (mT as)]) (S++[.lst ((hP hs).map MV.str)])=.ok (.new ((hP hs++[[58],mT as]).map MV.str)) (S++[.lst ((hP hs).map MV.str)]):=by
  rw [zTL (zTN (xN S _)) rfl (fits (by unfold hP;simp only [lM,lC,length_nil];omega)),map_append]
  rfl
 have e2:bP [some (qV hs as),some (.loc S.length)] (S++[.lst ((hP hs).map MV.str)])=.ok (.ret (.val (.str (qT hs as)))) (S++[.lst ((hP hs).map MV.str)]):=by
  unfold bP qV
  simp? [zNU,zMN,hla,show∀x,blk 1 [] [some (MV.tup [.tup (hs.map MV.str),.tup as]),x]=[none]from λ_=>rfl,hc2,zFT,hj,lst2,ha]
  rw [zUE (y:=[32]) (zs:=hP hs++[[58],mT as]) (by decide) (by unfold hP;simp only [lA,lM,lC,length_nil];omega) (yHJ hT hA h4 hN)]
  rfl
 unfold nQ
 rw [zC e1,e2]
 rfl
end
theorem yLZ(x:List Nat)(S:Sto):swF (.val (.str x)) [.val (.str [63])] S=.ok (.val (.bl (decide (1<=x.length)&&decide (x.take 1=[63])))) S:=rfl
theorem sw63(x:List Nat)(S:Sto):swF (.val (.str (63::x))) [.val (.str [63])] S=.ok (.val (.bl true)) S:=by
 rw [yLZ]
 simp
theorem yMA{x:List Nat}(h:Nm x)(S:Sto):zS 1 gT [.val (.str (63::x))] S=.ok (.val (.str x)) S:=yI rfl (by
 have hx:=h.2.1
 have hcut: ∀S,zJF (.val (.str (63::x))) (some 1) none S=.ok (.val (.str x)) S:=λS=>by rw [cut_str (fits (by rw [lC];omega)),cut1]
 show yR (zHT [some (.str (63::x))] S)=_
 have e1:zCY [some (.str (63::x))] S=.ok (.next [some (.str (63::x))]) S:=by
  unfold zCY
  simp? [zFT,sw63,hcut,zZF h,Bool.not_true,fT,iF]
 have e2:zCZ [some (.str (63::x))] S=.ok (.ret (.val (.str x))) S:=by
  unfold zCZ
  simp? [hcut]
 unfold zHT
 rw [zC e1,e2]
 rfl) (gP _ _) (λl=>by simp)
theorem tup2(a b:MV)(S:Sto):zGU [.val a,.val b] S=.ok (.val (.tup [a,b])) S:=zZC (by simp)
theorem rt_ok{d:MV}(h:zJG d)(S:Sto):zS 1 zCG [.val (.str (tT d))] S=.ok (.val d) S:=by
 refine yI rfl ?_ (zQA (zWT h).1) (λl=>by rintro rfl;rcases h with⟨x,_,e⟩|⟨v,_,e⟩<;>cases e)
 show yR (zHU [some (.str (tT d))] S)=_
 unfold zHU
 rcases h with⟨x,hx,rfl⟩|⟨v,hv,rfl⟩
 ·rw [zMM]
  have e1:gB [some (.str (63::x))] S=.ok (.ret (.val (.tup [.str VAR,.str x]))) S:=by
   unfold gB
   simp? [zFT,sw63,yMA hx,tup2]
  rw [wF e1]
  rfl
 ·rw [zSK]
  have hs:swF (.val (.str (wT v))) [.val (.str [63])] S=.ok (.val (.bl false)) S:=by
   rw [yLZ]
   cases hw:wT v with
   |nil=>exact absurd hw (yLU hv)
   |cons c r=>
    have:=zWX hv c (by rw [hw];exact mF0)
    rw [show(c::r).take 1=[c]from rfl,dF0 (show¬[c]=[63]from λe=>by
     have:c=63:=by simpa using e
     omega),Bool.and_false]
  have e1:gB [some (.str (wT v))] S=.ok (.next [some (.str (wT v))]) S:=by
   unfold gB
   simp? [zFT,hs,fT,iF]
  have e2:zDA [some (.str (wT v))] S=.ok (.ret (.val (.tup [.str IS,v]))) S:=by
   unfold zDA
   simp? [yLW hv,tup2]
  rw [zC e1,e2]
  rfl
theorem zUF{S:Sto}{l:Nat}{ds:List MV}(hS:S[l]? =some (.lst ds))(a b:Option Int):zJF (.val (.loc l)) a b S=.ok (.new (cN ds a b)) S:=by
 unfold zJF
 dsimp only
 rw [zEN hS]
theorem yMB(c:MV)(r:List MV):cN (c::r) (some 1) none=r:=by
 unfold cN
 simp [HT.sIx]
theorem ra_ok{ts:List (Int×Int)}{a:MV}{S:Sto}{l:Nat}(hT:TOk ts)(h:kL ts a)(hS:S[l]? =some (.lst ((aP a).map MV.str))):zS 1 zCH [.val (.loc l)] S=.ok (.val a) S:=by
 refine yI rfl ?_ (zQA (zQB h).1) (λl=>by rintro rfl;obtain⟨t,tms,p,e,_⟩:=h;cases e)
 obtain⟨t,tms,p,rfl,t0,t1,hd,hl,p1,p3,hTm⟩:=h
 have hb:t.natAbs<10 ^ 30:=by
  have h4:=hT.2.1
  have:t.natAbs<4:=by omega
  exact lt_trans this (by decide)
 have hS':S[l]? =some (.lst (.str (wS t)::(tms.map λd=>MV.str (tT d)))):=by
  rw [hS]
  show some (MO.lst (MV.str (wS t)::(tms.map tT).map MV.str))=_
  rw [map_map]
  rfl
 show yR (zHV [some (.loc l)] S)=_
 have hlen:=zIO hS'
 have hdl:=(jP hb).2.1
 have e1:zDB [some (.loc l)] S=.ok (.next [some (.loc l)]) S:=by
  unfold zDB
  simp? [hlen,dF0 (show¬(((MV.str (wS t)::(tms.map λd=>MV.str (tT d))).length:Nat):Int)=0 by rw [lC];omega),fT,iF,nH hS' (at0 _ _),yLT (wS t) (by omega),zUC hb,Bool.not_true]
 have hc:xG (gNm 0) gI kG [none] [] (tms.map λd=>MV.str (tT d)) S=.ok tms S:=by
  have: ∀L:List MV,(∀d∈L,zJG d)->xG (gNm 0) gI kG [none] [] (L.map λd=>MV.str (tT d)) S=.ok L S:=by
   intro L
   induction L with
   |nil=>intro _;rfl
   |cons d L ih=>
    intro h
    have e:kG [some (.str (tT d))] S=.ok (.val d) S:=by
     unfold kG
     simp? [rt_ok (h d mF0)]
    rw [map_cons]
    unfold xG
    rw [show gNm 0 (.str (tT d)) [none] S=.ok [some (.str (tT d))] S from rfl,wB,bok,show gI [some (.str (tT d))] S=.ok true S from rfl,wB,bok,iP rfl,e,wB,bok]
    unfold nG
    rw [bok,iP (wD _),ih λe he=>h e (mO _ he)]
    rfl
  exact this tms hTm
 have hlt:(tms.map λd=>MV.str (tT d)).length<1000000:=by rw [lM];omega
 have e2:zDC [some (.loc l)] S=.ok (.ret (.val (.tup [.int t,.tup tms]))) S:=by
  unfold zDC
  simp? [nH hS' (at0 _ _),show zS 1 wX [.val (.str (wS t))] S=.ok (.val (.int t)) S from yLW (yHI hb) S,zUF hS',yMB,show∀(ds:List MV)(S:Sto),itL (.new ds) S=.ok ⟨ds,[]⟩ S from λ_ _=>rfl,hlt,show blk 1 [] [some (MV.loc l)]=[none]from rfl,hc,show∀(o:List MV)(S:Sto),cX [.new o] S=.ok (.val (.tup o)) S from λ_ _=>rfl,tup2]
 unfold zHV
 rw [zC e1,e2]
 rfl
def lc(b i:Nat):Nat:=if i=0 then b else b+1+i
theorem yPV{b i j:Nat}(h:lc b i=lc b j):i=j:=by
 unfold lc at h
 split at h<;>split at h<;>omega
theorem yMC(b i:Nat):lc b i≠b+1:=by
 unfold lc
 split<;>omega
theorem lc_le(b i:Nat):b<=lc b i:=by
 unfold lc
 split<;>omega
def lcs(b n:Nat):List MV:=(List.range n).map λi=>.loc (lc b i)
theorem zWZ(b n:Nat):lcs b (n+1)=lcs b n++[.loc (lc b n)]:=by
 unfold lcs
 rw [List.range_succ,map_append]
 rfl
theorem zOL(b n:Nat):(lcs b n).length=n:=by
 unfold lcs
 rw [lM,length_range]
structure PtS(B:Sto)(Ps:List (List MV))(S:Sto):Prop where
 len:S.length=B.length+1+Ps.length
 out:S[B.length+1]? =some (.lst (lcs B.length Ps.length))
 inn: ∀i p,Ps[i]? =some p->S[lc B.length i]? =some (.lst p)
 old: ∀l,l<B.length->S[l]? =B[l]?
theorem PtS.app{B S:Sto}{Ps:List (List MV)}(h:PtS B Ps S): ∃T,S=B++T:=by
 refine⟨S.drop B.length,List.ext_getElem? λl=>?_⟩
 by_cases hl:l<B.length
 ·rw [getElem?_append_left hl,h.old l hl]
 ·rw [getElem?_append_right (by omega),List.getElem?_drop,show B.length+(l - B.length)=l by omega]
def prt(s:List Nat):List (List Nat)->List (List MV)->List MV->List (List MV)
 |[],D,c=>D++[c]
 |x::ps,D,c=>if x=s then prt s ps (D++[c]) []else prt s ps D (c++[.str x])
theorem zZN(s:List Nat): ∀(ps:List (List Nat))(D:List (List MV))(c:List MV),1<=(prt s ps D c).length
 |[],D,c=>by show 1<=(D++[c]).length;rw [lA,lS];omega
 |x::ps,D,c=>by
  unfold prt
  split
  ·exact zZN s ps _ _
  ·exact zZN s ps _ _
theorem zLM{s:List Nat}: ∀(ps qs:List (List Nat))(D:List (List MV))(c:List MV),s∉ps->prt s (ps++qs) D c=prt s qs D (c++ps.map MV.str)
 |[],qs,D,c,_=>by rw [nil_append,map_nil,aN]
 |x::ps,qs,D,c,h=>by
  show(if x=s then prt s (ps++qs) (D++[c]) []else prt s (ps++qs) D (c++[.str x]))=_
  rw [iN (λe=>h (by rw [e];exact mF0)),zLM ps qs D _ λz=>h (mO _ z),aA]
  rfl
theorem zXA(s:List Nat)(qs:List (List Nat))(D:List (List MV))(c:List MV):prt s (s::qs) D c=prt s qs (D++[c]) []:=iP rfl
theorem yBU{s:List Nat}{ps:List (List Nat)}(D:List (List MV))(c:List MV)(h:s∉ps):prt s ps D c=D++[c++ps.map MV.str]:=by
 have:=zLM ps [] D c h
 rw [aN]at this
 exact this
theorem yKX(xs:List MV)(a:MV):atI (xs++[a]) (-1)=some a:=by
 have h:ixN (xs++[a]).length (-1)=some xs.length:=by
  unfold ixN
  rw [lA,lS]
  simp only [show¬(0:Int)<= -1 by decide,iF]
  first
   |(rw [iP (by omega)];exact congrArg some (by omega))
   |(split<;>first |(exact congrArg some (by omega))|omega)
 unfold atI
 rw [h]
 show(xs++[a])[xs.length]? =some a
 rw [getElem?_append_right (le_refl _),sub_self]
 rfl
theorem yBV{n:Nat}: ∀{ds:List MV},loL n ds-> ∀d∈ds,lo n d
 |[],_,d,h=>by simp at h
 |e::ds,hp,d,h=>by
  unfold loL at hp
  rcases mC.mp h with rfl|h
  ·exact hp.1
  ·exact yBV hp.2 d h
section
variable{B S:Sto}{q:Nat}{s:List Nat}{D:List (List MV)}{c:List MV}
theorem yPW(h:PtS B (D++[c]) S):PtS B ((D++[c])++[[]]) ((S++[MO.lst []]).set (B.length+1) (MO.lst (lcs B.length (D++[c]).length++[MV.loc S.length]))):=by
 have hn:(D++[c]).length=D.length+1:=by rw [lA];rfl
 have hS:=h.len
 have hm:((D++[c])++[([]:List MV)]).length=(D++[c]).length+1:=by rw [lA];rfl
 have e:S.length=lc B.length (D++[c]).length:=by
  unfold lc
  rw [iN (by omega)]
  omega
 refine⟨?_,?_,λi p hi=>?_,λl hl=>?_⟩
 ·rw [length_set,lA,lA]
  show S.length+1=B.length+1+((D++[c]).length+1)
  omega
 ·rw [getElem?_set_self (by rw [lA];omega),hm,zWZ,e]
 ·rw [getElem?_set_ne (λz=>yMC _ _ z.symm)]
  by_cases hlt:i<(D++[c]).length
  ·rw [getElem?_append_left hlt]at hi
   have:=h.inn i p hi
   rw [getElem?_append_left (gS0.mp this).1]
   exact this
  ·have hi2:=(gS0.mp hi).1
   rw [lA,lS]at hi2
   have hi3:i=(D++[c]).length:=by omega
   rw [hi3]at hi ⊢
   rw [<-e,xN]
   rw [getElem?_append_right (le_refl _),sub_self]at hi
   cases hi
   rfl
 ·rw [getElem?_set_ne (by omega),getElem?_append_left (by omega)]
  exact h.old l hl
theorem yPX(h:PtS B (D++[c]) S)(d:MV):PtS B (D++[c++[d]]) (S.set (lc B.length D.length) (.lst (c++[d]))):=by
 have hn:(D++[c]).length=D.length+1:=by rw [lA];rfl
 have hn2:(D++[c++[d]]).length=D.length+1:=by rw [lA];rfl
 have hS:=h.len
 have hl:=lc_le B.length D.length
 have hin:=h.inn D.length c (by rw [getElem?_append_right (le_refl _),sub_self];rfl)
 refine⟨by rw [length_set,hS,hn,hn2],?_,λi p hi=>?_,λl hl2=>?_⟩
 ·rw [getElem?_set_ne (yMC _ _),h.out,hn,hn2]
 ·by_cases hlt:i<D.length
  ·rw [getElem?_append_left hlt]at hi
   rw [getElem?_set_ne (λz=>by have:=yPV z;omega)]
   exact h.inn i p (by rw [getElem?_append_left hlt];exact hi)
  ·have hi2:=(gS0.mp hi).1
   rw [hn2]at hi2
   have hi3:i=D.length:=by omega
   subst hi3
   rw [getElem?_append_right (le_refl _),sub_self]at hi
   cases hi
   exact get_set hin
 ·rw [getElem?_set_ne (by omega)]
  exact h.old l hl2
theorem zUG{L:List MV}(hq:B[q]? =some (.lst L)): ∀(ps:List (List Nat))(D:List (List MV))(c:List MV)(S:Sto)(x:Option MV),PtS B (D++[c]) S->D.length+c.length+ps.length<=10000->
  ∃S' x',cO (gNm 3) kR [(q,L)] (ps.map MV.str) [some (.loc q),some (.str s),some (.loc (B.length+1)),x] S=.ok (.next [some (.loc q),some (.str s),some (.loc (B.length+1)),x']) S'/\PtS B (prt s ps D c) S'
 |[],D,c,S,x,h,_=>⟨S,x,rfl,h⟩
 |y::ps,D,c,S,x,h,hz=>by
  have hn:(D++[c]).length=D.length+1:=by rw [lA];rfl
  have hql:=(gS0.mp hq).1
  rw [lC]at hz
  have g:gNm 3 (.str y) [some (.loc q),some (.str s),some (.loc (B.length+1)),x] S=.ok [some (.loc q),some (.str s),some (.loc (B.length+1)),some (.str y)] S:=rfl
  by_cases hy:y=s
  ·have hS2:=yPW h
   obtain⟨S',x',h1,h2⟩:=zUG hq ps (D++[c]) [] _ (some (.str y)) hS2 (by rw [hn];simp only [length_nil];omega)
   refine⟨S',x',?_,by unfold prt;rw [iP hy];exact h2⟩
   have ha:zPI (.val (.loc (B.length+1))) [.new []] S=.ok (.val .non) ((S++[MO.lst []]).set (B.length+1) (MO.lst (lcs B.length (D++[c]).length++[MV.loc S.length]))):=by
    show zWA (.val (.loc (B.length+1))) (S++[.lst []]) (λds=>if ds.length<sizeLine then some (ds++[.loc S.length])else none)=_
    unfold zWA
    dsimp only
    rw [getElem?_append_left (by have:=h.len;omega),h.out]
    dsimp only
    rw [iP (lt_of_lt_of_le (show(lcs B.length (D++[c]).length).length<1000000 by rw [zOL];omega) (fits (le_refl _)))]
   have hb:kR [some (.loc q),some (.str s),some (.loc (B.length+1)),some (.str y)] S=.ok (.next [some (.loc q),some (.str s),some (.loc (B.length+1)),some (.str y)]) ((S++[MO.lst []]).set (B.length+1) (MO.lst (lcs B.length (D++[c]).length++[MV.loc S.length]))):=by
    unfold kR nR
    simp? [eq_str,dT0 hy,zFS h.out,show cV [] S=.ok (.new []) S from zBC (by simp),ha]
   rw [map_cons,yZ g hb (zBB (by rw [hS2.old q hql];exact hq))]
   exact h1
  ·have hS2:=yPX h (.str y)
   obtain⟨S',x',h1,h2⟩:=zUG hq ps D (c++[.str y]) _ (some (.str y)) hS2 (by rw [lA,lS];omega)
   refine⟨S',x',?_,by unfold prt;rw [iN hy];exact h2⟩
   have hin:=h.inn D.length c (by rw [getElem?_append_right (le_refl _),sub_self];rfl)
   have hix:ixF (.val (.loc (B.length+1))) (.val (.int (-1))) S=.ok (.val (.loc (lc B.length D.length))) S:=nH h.out (by rw [hn,zWZ];exact yKX _ _)
   have hb:kR [some (.loc q),some (.str s),some (.loc (B.length+1)),some (.str y)] S=.ok (.next [some (.loc q),some (.str s),some (.loc (B.length+1)),some (.str y)]) (S.set (lc B.length D.length) (.lst (c++[.str y]))):=by
    unfold kR nR
    simp? [eq_str,dF0 hy,fT,iF,hix,zFS hin,zIU hin (show c.length<1000000 by omega)]
   rw [map_cons,yZ g hb (zBB (by rw [hS2.old q hql];exact hq))]
   exact h1
end
theorem yBW{S B:Sto}{q:Nat}{s:List Nat}{ps:List (List Nat)}{rs:List Er}(hn:rs.length=2)(he:zU rs S=([.loc q,.str s],B))(hq:B[q]? =some (.lst (ps.map MV.str)))(hB:S.length<=B.length)(hl:ps.length<=9000):
  ∃S',zS 2 jF rs S=.ok (.val (.loc (B.length+1))) S'/\PtS B (prt s ps [] []) S':=by
 have h0:PtS B ([]++[[]]) (B++[.lst []]++[.lst [.loc B.length]]):=by
  refine⟨by simp,?_,λi p hi=>?_,λl hl=>?_⟩
  ·have:=xN (B++[MO.lst []]) (.lst [.loc B.length])
   rw [lA]at this
   exact this
  ·match i,hi with
   |0,hi=>
    cases hi
    show(B++[MO.lst []]++[.lst [.loc B.length]])[B.length]? =_
    simp
   |i+1,hi=>simp at hi
  ·rw [aA,getElem?_append_left hl]
 obtain⟨S',x',h1,h2⟩:=zUG (s:=s) hq ps [] [] _ none h0 (by simp only [length_nil];omega)
 refine⟨S',?_,h2⟩
 have hF:jF [.loc q,.str s] B=.ok (.val (.loc (B.length+1))) S':=by
  have hs:zP zHC [.loc q,.str s]=[some (.loc q),some (.str s),none,none]:=rfl
  have e1:zDD [some (.loc q),some (.str s),none,none] B=.ok (.next [some (.loc q),some (.str s),some (.loc (B.length+1)),none]) (B++[.lst []]++[.lst [.loc B.length]]):=by
   unfold zDD
   simp? [show cV [] B=.ok (.new []) B from zBC (by simp),show cV [.new []] B=.ok (.new [.loc B.length]) (B++[.lst []])from zBC (by simp)]
   rw [lA]
   rfl
  have hql:(B++[MO.lst []]++[.lst [.loc B.length]])[q]? =some (.lst (ps.map MV.str)):=by
   rw [aA,getElem?_append_left (gS0.mp hq).1]
   exact hq
  have e2:zDE [some (.loc q),some (.str s),some (.loc (B.length+1)),none] (B++[.lst []]++[.lst [.loc B.length]])=.ok (.next [some (.loc q),some (.str s),some (.loc (B.length+1)),x']) S':=by
   unfold zDE
   simp? [zOF hql]
   exact h1
  have e3:zJQ [some (.loc q),some (.str s),some (.loc (B.length+1)),x'] S'=.ok (.ret (.val (.loc (B.length+1)))) S':=rfl
  unfold jF zNH
  rw [hs,zC e1,zC e2,e3]
  rfl
 have hlo: ¬loL S.length (lcs B.length (prt s ps [] []).length):=by
  have h1:=zZN s ps [] []
  intro z
  have hm:MV.loc B.length∈lcs B.length (prt s ps [] []).length:=mM.mpr ⟨0,mem_range.mpr (by omega),rfl⟩
  have:=yBV z _ hm
  unfold lo at this
  omega
 unfold zS
 rw [iP hn,he,hF,wB,bok]
 unfold zEK
 by_cases hc:yAO S S'
 ·rw [iP hc]
  dsimp only
  rw [iN (by omega),h2.out]
  dsimp only
  rw [iN hlo]
 ·rw [iN hc]
theorem zES(y:List Nat): ∀(P Q:List (List Nat)),P≠[]->Q≠[]->zX y (P++Q)=zX y P++y++zX y Q
 |[],_,h,_=>absurd rfl h
 |[x],[],_,h=>absurd rfl h
 |[x],z::Q,_,_=>rfl
 |x::z::P,Q,_,h=>by
  show x++y++zX y (z::P++Q)=x++y++zX y (z::P)++y++zX y Q
  rw [zES y (z::P) Q (by simp) h]
  simp only [aA]
def zET:List MV->List (List Nat)
 |[]=>[]
 |[a]=>aP a
 |a::r=>aP a++[59]::zET r
section
variable{ts:List (Int×Int)}{hs:List (List Nat)}{as:List MV}
theorem yMD{a:MV}(h:kL ts a):aP a≠[]:=by
 obtain⟨t,tms,p,rfl,_⟩:=h
 show wS t::tms.map tT≠[]
 simp
theorem yHK: ∀{as:List MV},as≠[]->(∀d∈as,kL ts d)->zET as≠[]
 |[],h,_=>absurd rfl h
 |[a],_,hA=>yMD (hA a mF0)
 |a::b::r,_,hA=>by
  show aP a++[59]::zET (b::r)≠[]
  simp
theorem zXB: ∀{as:List MV},as≠[]->(∀d∈as,kL ts d)->mT as=zX [32] (zET as)
 |[],h,_=>absurd rfl h
 |[a],_,_=>rfl
 |a::b::r,_,hA=>by
  have hB: ∀d∈b::r,kL ts d:=λd hd=>hA d (mO _ hd)
  show zX [32] (aP a)++[32,59,32]++mT (b::r)=zX [32] (aP a++([[59]]++zET (b::r)))
  rw [zES [32] (aP a) _ (yMD (hA a mF0)) (by simp),zES [32] [[59]] _ (by simp) (yHK (by simp) hB),zXB (by simp) hB]
  show _=_++[32]++([59]++[32]++_)
  simp only [aA,cons_append,nil_append]
def pcs(hs:List (List Nat))(as:List MV):List (List Nat):=hP hs++[58]::zET as
theorem yPY(h1:as≠[])(hA: ∀d∈as,kL ts d):qT hs as=zX [32] (pcs hs as):=by
 unfold qT pcs
 rw [show hP hs++[[58],mT as]=(hP hs++[[58]])++[mT as] by simp,show hP hs++[58]::zET as=(hP hs++[[58]])++zET as by simp]
 rw [zES [32] _ [mT as] (by simp) (by simp),zES [32] _ (zET as) (by simp) (yHK h1 hA),zXB h1 hA]
 rfl
theorem zUH: ∀{as:List MV}{z:List Nat},z∈zET as->z=[59]\/ ∃a∈as,z∈aP a
 |[],z,h=>by simp [zET]at h
 |[a],z,h=>.inr ⟨a,mF0,h⟩
 |a::b::r,z,h=>by
  have h:z∈aP a++[59]::zET (b::r):=h
  rcases mem_append.mp h with h|h
  ·exact .inr ⟨a,mF0,h⟩
  ·rcases mC.mp h with h|h
   ·exact .inl h
   ·rcases zUH h with z|⟨c,hc,hz⟩
    ·exact .inl z
    ·exact .inr ⟨c,mO _ hc,hz⟩
theorem zIZ{z:List Nat}{c:Nat}(h: ∀c∈z,okS c)(hc: ¬okS c):c∉z/\z≠[c]:=
 ⟨λe=>hc (h c e),λe=>hc (h c (by rw [e];exact mS.mpr rfl))⟩
theorem ns32: ¬okS 32:=by unfold okS;omega
theorem ns58: ¬okS 58:=by unfold okS;omega
theorem ns59: ¬okS 59:=by unfold okS;omega
theorem zXC(hN: ∀y∈hs,Nm y): ∀z∈hP hs, ∀c∈z,okS c:=by
 intro z hz c hc
 obtain⟨y,hy,rfl⟩:=mM.mp hz
 rcases mC.mp hc with e|e
 ·exact .inr (.inl e)
 ·exact .inr (.inr (.inr ((hN y hy).2.2 c e)))
theorem yKY(hT:TOk ts)(h1:as≠[])(hA: ∀d∈as,kL ts d)(hN: ∀y∈hs,Nm y):zCS 32 (qT hs as)=pcs hs as:=by
 rw [yPY h1 hA]
 refine zNF (by unfold pcs;simp) λz hz=>?_
 rcases mem_append.mp hz with h|h
 ·exact(zIZ (zXC hN z h) ns32).1
 ·rcases mC.mp h with h|h
  ·rw [h];decide
  ·rcases zUH h with h|⟨a,ha,h⟩
   ·rw [h];decide
   ·exact(zIZ (zSL hT (hA a ha) z h).2.2 ns32).1
theorem yHL(hT:TOk ts)(hA: ∀d∈as,kL ts d)(hN: ∀y∈hs,Nm y):prt [58] (pcs hs as) [] []=[(hP hs).map MV.str,(zET as).map MV.str]:=by
 unfold pcs
 rw [zLM _ _ _ _ (λz=>(zIZ (zXC hN _ z) ns58).2 rfl),zXA,yBU _ _ (λz=>by
  rcases zUH z with h|⟨a,ha,h⟩
  ·exact absurd h (by decide)
  ·exact(zIZ (zSL hT (hA a ha) _ h).2.2 ns58).2 rfl)]
 rfl
theorem yBX(hT:TOk ts): ∀(as:List MV)(D:List (List MV)),as≠[]->(∀d∈as,kL ts d)->prt [59] (zET as) D []=D++as.map λa=>(aP a).map MV.str
 |[],D,h,_=>absurd rfl h
 |[a],D,_,hA=>yBU _ _ (λz=>(zIZ (zSL hT (hA a mF0) _ z).2.2 ns59).2 rfl)
 |a::b::r,D,_,hA=>by
  show prt [59] (aP a++[59]::zET (b::r)) D []=_
  rw [zLM _ _ _ _ (λz=>(zIZ (zSL hT (hA a mF0) _ z).2.2 ns59).2 rfl),zXA,yBX hT (b::r) _ (by simp) λd hd=>hA d (mO _ hd),aA]
  rfl
theorem yBY: ∀{as:List MV},(∀d∈as,kL ts d)->(zET as).length<=6 * as.length
 |[],_=>zero_le _
 |[a],hA=>by
  have:=zUD (hA a mF0)
  show(aP a).length<=6 * 1
  omega
 |a::b::r,hA=>by
  have h1:=zUD (hA a mF0)
  have h2:=yBY (as:=b::r) λd hd=>hA d (mO _ hd)
  show(aP a++[59]::zET (b::r)).length<=6 * ((b::r).length+1)
  rw [lA,lC]
  omega
theorem zJA{gf:MV->Rho->Sto->R Rho}{cf:AZ}{ef:AX}{ρb:Rho}{gs:List (Nat×List MV)}{S:Sto}(hg:stay gs S): ∀(L:List (MV×MV)),(∀p∈L, ∃ρ1,gf p.1 ρb S=.ok ρ1 S/\cf ρ1 S=.ok true S/\ef ρ1 S=.ok (.val p.2) S)->xG gf cf ef ρb gs (L.map (·.1)) S=.ok (L.map (·.2)) S
 |[],_=>rfl
 |p::L,h=>by
  obtain⟨ρ1,g,c,e⟩:=h p mF0
  rw [map_cons,map_cons]
  unfold xG
  rw [g,wB,bok,c,wB,bok,iP rfl,e,wB,bok]
  unfold nG
  rw [bok,iP hg,zJA hg L λq hq=>h q (mO _ hq)]
  rfl
def zZO(b:Nat)(as:List MV):List (MV×MV):=(lcs b as.length).zip as
theorem yPZ(b:Nat)(as:List MV):(zZO b as).map (·.1)=lcs b as.length:=by
 unfold zZO
 exact List.map_fst_zip (by rw [zOL];exact le_refl _)
theorem yQA(b:Nat)(as:List MV):(zZO b as).map (·.2)=as:=by
 unfold zZO
 exact List.map_snd_zip (by rw [zOL];exact le_refl _)
theorem yHM{b:Nat}{as:List MV}{p:MV×MV}(h:p∈zZO b as): ∃i a,as[i]? =some a/\p=(.loc (lc b i),a):=by
 unfold zZO at h
 obtain⟨i,hi⟩:=List.mem_iff_getElem?.mp h
 rw [List.getElem?_zip_eq_some]at hi
 obtain⟨h1,h2⟩:=hi
 refine⟨i,p.2,h2,?_⟩
 unfold lcs at h1
 rw [getElem?_map]at h1
 have hr:=(gS0.mp h2).1
 rw [List.getElem?_range hr]at h1
 have:p.1=.loc (lc b i):=by
  cases h1':p.1<;>rw [h1']at h1<;>simp at h1 ⊢
  exact h1.symm
 rw [<-this]
end
section
variable{ts:List (Int×Int)}{hs:List (List Nat)}{as:List MV}
theorem rq_ok(hT:TOk ts)(h1:1<=as.length)(h4:as.length<=4)(hA: ∀d∈as,kL ts d)(hN: ∀y∈hs,Nm y)(hl:hs.length<=4)(hn:hs.Nodup)(hin: ∀y∈hs,y∈zNS as)(S:Sto):
  zS 2 xW [.val (.tup (ts.map tbl)),.val (.str (qT hs as))] S=.ok (.val (qV hs as)) S:=by
 have hne:as≠[]:=by rintro rfl;exact absurd h1 (by decide)
 have hq:=yPU hT hA h4 hN hl
 have hmid:=yBY hA
 have hpl:(pcs hs as).length<=9000:=by
  unfold pcs hP
  rw [lA,lM,lC]
  omega
 have hml:(zET as).length<=9000:=by omega
 have hsp: ∀S,zPR (.val (.str (qT hs as))) [.val (.str [32])] S=.ok (.new ((pcs hs as).map MV.str)) S:=λS=>by
  show(if(qT hs as).length<=100000 then R.ok (Er.new ((zCS 32 (qT hs as)).map MV.str)) S else .no)=_
  rw [iP (by omega),yKY hT hne hA hN]
 obtain⟨S1,c1,p1⟩:=yBW (S:=S) (B:=S++[.lst ((pcs hs as).map MV.str)]) (q:=S.length) (s:=[58]) (ps:=pcs hs as) (rs:=[.new ((pcs hs as).map MV.str),.val (.str [58])]) rfl rfl (xN S _) (by rw [lA];omega) hpl
 rw [yHL hT hA hN]at p1
 rw [show(S++[MO.lst ((pcs hs as).map MV.str)]).length=S.length+1 from by rw [lA];rfl]at c1
 obtain⟨b,hb⟩: ∃b,b=(S++[MO.lst ((pcs hs as).map MV.str)]).length:=⟨_,rfl⟩
 have hb':b=S.length+1:=by rw [hb,lA];rfl
 have o1:=p1.out
 have i0:=p1.inn 0 _ rfl
 have i1:=p1.inn 1 _ rfl
 rw [<-hb]at o1 i0 i1
 rw [<-hb']at c1
 have o1':S1[b+1]? =some (.lst [.loc (lc b 0),.loc (lc b 1)]):=o1
 have hc:xG (gNm 0) jW wH [none] [(lc b 0,(hP hs).map MV.str)] ((hP hs).map MV.str) S1=.ok (hs.map MV.str) S1:=by
  have:=zJA (gf:=gNm 0) (cf:=jW) (ef:=wH) (ρb:=[none]) (zBB i0) (hs.map λy=>(MV.str (63::y),MV.str y)) λp hp=>by
   obtain⟨y,hy,rfl⟩:=mM.mp hp
   refine⟨[some (.str (63::y))],rfl,rfl,?_⟩
   unfold wH
   simp? [yMA (hN y hy)]
  have hh:List.map ((λx:MV×MV=>x.1)∘λy=>(MV.str (63::y),MV.str y)) hs=(hP hs).map MV.str:=by
   unfold hP
   rw [map_map]
   rfl
  rw [map_map,map_map,hh]at this
  exact this
 have hlt:((hP hs).map MV.str).length<1000000:=by unfold hP;rw [lM,lM];omega
 obtain⟨S2,hS2⟩: ∃S2,S2=S1++[MO.lst (hs.map MV.str)]:=⟨_,rfl⟩
 have i1':S2[lc b 1]? =some (.lst ((zET as).map MV.str)):=by
  rw [hS2,getElem?_append_left (gS0.mp i1).1]
  exact i1
 obtain⟨S3,c3,p3⟩:=yBW (S:=S2) (B:=S2) (q:=lc b 1) (s:=[59]) (ps:=zET as) (rs:=[.val (.loc (lc b 1)),.val (.str [59])]) rfl rfl i1' (le_refl _) hml
 rw [yBX hT as [] hne hA,nil_append]at p3
 have o3:=p3.out
 rw [lM]at o3
 have hc3:xG (gNm 0) jX wI [none] [(S2.length+1,lcs S2.length as.length)] (lcs S2.length as.length) S3=.ok as S3:=by
  have:=zJA (gf:=gNm 0) (cf:=jX) (ef:=wI) (ρb:=[none]) (zBB o3) (zZO S2.length as) λp hp=>by
   obtain⟨i,a,hi,rfl⟩:=yHM hp
   refine⟨[some (.loc (lc S2.length i))],rfl,rfl,?_⟩
   unfold wI
   simp? [ra_ok hT (hA a (mem_of_getElem? hi)) (p3.inn i ((aP a).map MV.str) (by rw [getElem?_map,hi];rfl))]
  rw [yPZ,yQA]at this
  exact this
 have hlt3:(lcs S2.length as.length).length<1000000:=by rw [zOL];omega
 have hst:zP kD [.tup (ts.map tbl),.str (qT hs as)]=[some (.tup (ts.map tbl)),some (.str (qT hs as)),none,none,none]:=rfl
 have e1:zCI [some (.tup (ts.map tbl)),some (.str (qT hs as)),none,none,none] S=.ok (.next [some (.tup (ts.map tbl)),some (.str (qT hs as)),none,none,none]) S:=rfl
 have e2:bQ [some (.tup (ts.map tbl)),some (.str (qT hs as)),none,none,none] S=.ok (.next [some (.tup (ts.map tbl)),some (.str (qT hs as)),some (.loc (b+1)),none,none]) S1:=by
  unfold bQ
  simp? [zFT,hsp,c1]
 have e3:bR [some (.tup (ts.map tbl)),some (.str (qT hs as)),some (.loc (b+1)),none,none] S1=.ok (.next [some (.tup (ts.map tbl)),some (.str (qT hs as)),some (.loc (b+1)),none,none]) S1:=by
  unfold bR
  simp? [zIO o1',ne_int]
  rfl
 have e4:bS [some (.tup (ts.map tbl)),some (.str (qT hs as)),some (.loc (b+1)),none,none] S1=.ok (.next [some (.tup (ts.map tbl)),some (.str (qT hs as)),some (.loc (b+1)),some (.loc S1.length),none]) S2:=by
  unfold bS
  simp? [nH o1' (show atI [MV.loc (lc b 0),.loc (lc b 1)] 0=some (.loc (lc b 0))from rfl),zOF i0,hlt,show∀a b c,blk 1 [] [some a,some b,some c,none,none]=[none]from λ_ _ _=>rfl,hc]
  rw [hS2]
 have o2':S2[b+1]? =some (.lst [.loc (lc b 0),.loc (lc b 1)]):=by
  rw [hS2,getElem?_append_left (gS0.mp o1').1]
  exact o1'
 have e5:bT [some (.tup (ts.map tbl)),some (.str (qT hs as)),some (.loc (b+1)),some (.loc S1.length),none] S2=.ok (.next [some (.tup (ts.map tbl)),some (.str (qT hs as)),some (.loc (b+1)),some (.loc S1.length),some (.loc S3.length)]) (S3++[.lst as]):=by
  unfold bT
  simp? [nH o2' (show atI [MV.loc (lc b 0),.loc (lc b 1)] 1=some (.loc (lc b 1))from rfl),c3,zOF o3,hlt3,show∀a b c d,blk 1 [] [some a,some b,some c,some d,none]=[none]from λ_ _ _ _=>rfl,hc3]
 have s1:S2[S1.length]? =some (.lst (hs.map MV.str)):=by rw [hS2];exact xN _ _
 have s3:(S3++[MO.lst as])[S1.length]? =some (.lst (hs.map MV.str)):=by
  have hlt:=(gS0.mp s1).1
  have:=p3.len
  rw [getElem?_append_left (by omega),p3.old _ hlt]
  exact s1
 have e6:bU [some (.tup (ts.map tbl)),some (.str (qT hs as)),some (.loc (b+1)),some (.loc S1.length),some (.loc S3.length)] (S3++[.lst as])=.ok (.ret (.val (qV hs as))) (S3++[.lst as]):=by
  unfold bU
  simp? [zZI (ts:=ts) (S:=S3++[.lst as]) (hm:=.loc S1.length) (am:=.loc S3.length) (hs:=hs) (as:=as) (.inr ⟨_,rfl,s3⟩) (.inr ⟨_,rfl,xN _ _⟩) hA h1 h4 hn hl hin]
  rfl
 obtain⟨T1,t1⟩:=p1.app
 obtain⟨T3,t3⟩:=p3.app
 have hST:S3++[MO.lst as]=S++([.lst ((pcs hs as).map MV.str)]++T1++[.lst (hs.map MV.str)]++T3++[.lst as]):=by
  rw [t3,hS2,t1]
  simp only [aA]
 have hpd:pd (qV hs as)=true:=by
  unfold qV
  rw [wR,yP,yP,dQ,wR,wR,dS (λd hd=>(zOK d hd).1),dS (λd hd=>(zQB (hA d hd)).1)]
  rfl
 refine zBA (T:=[.lst ((pcs hs as).map MV.str)]++T1++[.lst (hs.map MV.str)]++T3++[.lst as]) rfl ?_ (zQA hpd) (λl=>by unfold qV;simp)
 rw [<-hST]
 show xW [.tup (ts.map tbl),.str (qT hs as)] S=_
 unfold xW zGK
 rw [hst,zC e1,zC e2,zC e3,zC e4,zC e5,e6]
 rfl
end
theorem zKJ(y:List Nat): ∀(x:List Nat)(r:List (List Nat)),zX y (x::r)=x++r.flatMap (y++·)
 |x,[]=>by
  show x=x++[]
  rw [aN]
 |x,z::r=>by
  show x++y++zX y (z::r)=x++((y++z)++r.flatMap (y++·))
  rw [zKJ y z r]
  simp only [aA]
def hW(hs:List (List Nat)):List Nat:=hs.flatMap λy=>63::y++[32]
def tW(tms:List MV):List Nat:=tms.flatMap λd=>32::tT d
def zJH(k:Nat):List Nat:=if k=0 then [32]else [32,59,32]
def aW:Nat->List MV->List Nat
 |_,[]=>[]
 |k,a::r=>zJH k++zX [32] (aP a)++aW (k+1) r
theorem aP_W(t:Int)(tms:List MV):zX [32] (aP (.tup [.int t,.tup tms]))=wS t++tW tms:=by
 show zX [32] (wS t::tms.map tT)=_
 rw [zKJ]
 unfold tW
 rw [List.flatMap_map]
 rfl
theorem yBZ(k:Nat): ∀r:List MV,aW (k+1) r=(r.map λa=>zX [32] (aP a)).flatMap ([32,59,32]++·)
 |[]=>rfl
 |a::r=>by
  show zJH (k+1)++zX [32] (aP a)++aW (k+1+1) r=_
  rw [yBZ (k+1) r]
  rfl
theorem aW_mT{as:List MV}(h:as≠[]):aW 0 as=[32]++mT as:=by
 cases as with
 |nil=>exact absurd rfl h
 |cons a r=>
  show [32]++zX [32] (aP a)++aW 1 r=[32]++zX [32,59,32] (zX [32] (aP a)::r.map λa=>zX [32] (aP a))
  rw [zKJ,yBZ 0 r]
  simp only [aA]
theorem qT_W: ∀(hs:List (List Nat)){as:List MV},as≠[]->qT hs as=hW hs++[58]++aW 0 as
 |[],as,h=>by
  rw [aW_mT h]
  show [58]++[32]++mT as=[]++[58]++([32]++mT as)
  rfl
 |y::hs,as,h=>by
  have ih:=qT_W hs h
  have e:qT (y::hs) as=(63::y)++[32]++qT hs as:=by
   unfold qT hP
   cases hs with
   |nil=>rfl
   |cons z hs=>rfl
  rw [e,ih]
  unfold hW
  rw [flatMap_cons]
  simp only [aA]
abbrev X8(q:MV)(x:List Nat)(w k t u v z:Option MV):Rho:=[some q,some (.str x),w,k,t,u,v,z]
section
variable{q:MV}{S:Sto}
theorem zXD{k t u v z:Option MV}: ∀(hs:List (List Nat))(x:List Nat)(w:Option MV),(∀y∈hs,Nm y)->x.length+20 * hs.length<=900000->
  ∃w',cO (gNm 2) dO [] (hs.map MV.str) (X8 q x w k t u v z) S=.ok (.next (X8 q (x++hW hs) w' k t u v z)) S
 |[],x,w,_,_=>⟨w,by rw [show hW []=[]from rfl,aN];rfl⟩
 |y::hs,x,w,hN,hl=>by
  have hy:=(hN y mF0).2.1
  rw [lC]at hl
  have hb:dO (X8 q x (some (.str y)) k t u v z) S=.ok (.next (X8 q (x++(63::y++[32])) (some (.str y)) k t u v z)) S:=by
   unfold dO zGN
   simp? [bok]
   rw [add_str (x:=x) (y:=[63]) (fits (by rw [lS];omega)),bok]
   rw [add_str (x:=x++[63]) (y:=y) (fits (by rw [lA,lS];omega)),bok]
   rw [add_str (fits (by rw [lA,lA,lS,lS];omega))]
   rw [show x++[63]++y++[32]=x++(63::y++[32]) by simp]
   rfl
  obtain⟨w',h1⟩:=zXD (k:=k) (t:=t) (u:=u) (v:=v) (z:=z) hs (x++(63::y++[32])) (some (.str y)) (λd hd=>hN d (mO _ hd)) (by simp only [lA,lC,length_nil];omega)
  refine⟨w',?_⟩
  rw [map_cons,yZ (show gNm 2 (.str y) (X8 q x w k t u v z) S=.ok (X8 q x (some (.str y)) k t u v z) S from rfl) hb (wD _),h1]
  rw [show x++hW (y::hs)=x++(63::y++[32])++hW hs by unfold hW;rw [flatMap_cons];simp only [aA]]
theorem zZP(b:Bool)(S:Sto):zYW [.val (.bl b)] S=.ok (.val (.int (if b then 1 else 0))) S:=rfl
theorem yHN{w k t u:Option MV}{x:List Nat}{d:MV}(h:zJG d)(hx:x.length<=900000)(v z:Option MV):
  ∃v' z',(gTp 2 (yB (gNm 6) (yB (gNm 7) gR)) d (X8 q x w k t u v z) S).bind (λρ S=>gD ρ S)=.ok (.next (X8 q (x++32::tT d) w k t u v' z')) S:=by
 rcases h with⟨y,hy,rfl⟩|⟨e,he,rfl⟩
 ·refine⟨some (.str VAR),some (.str y),?_⟩
  have hy2:=hy.2.1
  rw [show gTp 2 (yB (gNm 6) (yB (gNm 7) gR)) (.tup [.str VAR,.str y]) (X8 q x w k t u v z) S=.ok (X8 q x w k t u (some (.str VAR)) (some (.str y))) S from rfl,bok]
  unfold gD zAD
  simp? [lst2,yBN,zZP,show ixF (.new [.str [32],.str [32,63]]) (.val (.int 1)) S=.ok (.val (.str [32,63])) S from rfl]
  rw [add_str (x:=x) (y:=[32,63]) (fits (by simp only [lC,length_nil];omega)),bok]
  simp? [show zS 1 cJ [.val (.str y)] S=.ok (.val (.str y)) S from yLX (d:=.str y) hy S]
  rw [add_str (fits (by simp only [lA,lC,length_nil];omega)),zMM]
  rw [show x++[32,63]++y=x++32::63::y by simp]
  rfl
 ·refine⟨some (.str IS),some e,?_⟩
  have hy2:=zZL he
  rw [show gTp 2 (yB (gNm 6) (yB (gNm 7) gR)) (.tup [.str IS,e]) (X8 q x w k t u v z) S=.ok (X8 q x w k t u (some (.str IS)) (some e)) S from rfl,bok]
  unfold gD zAD
  simp? [lst2,yBO,zZP,show ixF (.new [.str [32],.str [32,63]]) (.val (.int 0)) S=.ok (.val (.str [32])) S from rfl,fT,iF]
  rw [add_str (x:=x) (y:=[32]) (fits (by simp only [lC,length_nil];omega)),bok]
  simp? [yLX he]
  rw [add_str (fits (by simp only [lA,lC,length_nil];omega)),zSK]
  rw [show x++[32]++wT e=x++32::wT e by simp]
  rfl
theorem zXE{w k t u:Option MV}: ∀(tms:List MV)(x:List Nat)(v z:Option MV),(∀d∈tms,zJG d)->x.length+40 * tms.length<=900000->
  ∃v' z',cO (gTp 2 (yB (gNm 6) (yB (gNm 7) gR))) gD [] tms (X8 q x w k t u v z) S=.ok (.next (X8 q (x++tW tms) w k t u v' z')) S
 |[],x,v,z,_,_=>⟨v,z,by rw [show tW []=[]from rfl,aN];rfl⟩
 |d::tms,x,v,z,hT,hl=>by
  rw [lC]at hl
  have hd:=hT d mF0
  have hdl:=yHG hd
  obtain⟨v1,z1,hb⟩:=yHN (q:=q) (S:=S) (w:=w) (k:=k) (t:=t) (u:=u) (x:=x) hd (by omega) v z
  obtain⟨v',z',h1⟩:=zXE (w:=w) (k:=k) (t:=t) (u:=u) tms (x++32::tT d) v1 z1 (λe he=>hT e (mO _ he)) (by rw [lA,lC];omega)
  refine⟨v',z',?_⟩
  obtain⟨ρ0,S0,hg⟩: ∃ρ0 S0,gTp 2 (yB (gNm 6) (yB (gNm 7) gR)) d (X8 q x w k t u v z) S=.ok ρ0 S0:=by
   rcases hd with⟨y,hy,rfl⟩|⟨e,he,rfl⟩
   ·exact⟨_,_,rfl⟩
   ·exact⟨_,_,rfl⟩
  rw [hg,bok]at hb
  rw [yZ hg hb (wD _),h1]
  rw [show x++tW (d::tms)=x++32::tT d++tW tms by unfold tW;rw [flatMap_cons,aA]]
theorem yHO{ts:List (Int×Int)}{hs:List (List Nat)}{P R:List MV}{a:MV}{x:List Nat}{w t u v z:Option MV}(hT:TOk ts)(ha:kL ts a)(hx:x.length<=800000):
  ∃t' u' v' z',dP (X8 (qV hs (P++a::R)) x w (some (.int (P.length:Nat))) t u v z) S=.ok (.next (X8 (qV hs (P++a::R)) (x++(zJH P.length++zX [32] (aP a))) w (some (.int (P.length:Nat))) t' u' v' z')) S:=by
 have hat:atI (P++a::R) ((P.length:Nat):Int)=some a:=by
  have h:ixN (P++a::R).length ((P.length:Nat):Int)=some P.length:=by
   unfold ixN
   rw [iP (by omega),iP (by rw [lA,lC];omega)]
   rfl
  unfold atI
  rw [h]
  show(P++a::R)[P.length]? =some a
  rw [getElem?_append_right (le_refl _),sub_self]
  rfl
 have hsl:(zJH P.length).length<=3:=by unfold zJH;split<;>decide
 obtain⟨ti,tms,p,rfl,t0,t1,hd,hl,p1,p3,hTm⟩:=ha
 have hb:ti.natAbs<10 ^ 30:=by
  have h4:=hT.2.1
  have:ti.natAbs<4:=by omega
  exact lt_trans this (by decide)
 have hdl:=(jP hb).2.1
 obtain⟨v',z',h3⟩:=zXE (q:=qV hs (P++.tup [.int ti,.tup tms]::R)) (S:=S) (w:=w) (k:=some (.int (P.length:Nat))) (t:=some (.int ti)) (u:=some (.tup tms)) tms (x++zJH P.length++wS ti) v z hTm (by simp only [lA];omega)
 refine⟨some (.int ti),some (.tup tms),v',z',?_⟩
 have e1:zAE (X8 (qV hs (P++.tup [.int ti,.tup tms]::R)) x w (some (.int (P.length:Nat))) t u v z) S=.ok (.next (X8 (qV hs (P++.tup [.int ti,.tup tms]::R)) x w (some (.int (P.length:Nat))) (some (.int ti)) (some (.tup tms)) v z)) S:=by
  unfold zAE qV
  simp? [zNU,ix_tup (S:=S) hat,zOH]
  rfl
 have hix:ixF (.new [.str [32,59,32],.str [32]]) (.val (.int (if decide (((P.length:Nat):Int)=0)=true then 1 else 0))) S=.ok (.val (.str (zJH P.length))) S:=by
  unfold zJH
  by_cases h0:P.length=0
  ·rw [iP (dT0 (show((P.length:Nat):Int)=0 by omega)),iP h0];rfl
  ·rw [iN (by rw [dF0 (show¬((P.length:Nat):Int)=0 by omega)];exact xF0),iN h0];rfl
 have e2:zAF (X8 (qV hs (P++.tup [.int ti,.tup tms]::R)) x w (some (.int (P.length:Nat))) (some (.int ti)) (some (.tup tms)) v z) S=.ok (.next (X8 (qV hs (P++.tup [.int ti,.tup tms]::R)) (x++zJH P.length++wS ti) w (some (.int (P.length:Nat))) (some (.int ti)) (some (.tup tms)) v z)) S:=by
  unfold zAF
  simp? [lst2,zZP,hix]
  rw [add_str (x:=x) (y:=zJH P.length) (fits (by omega)),bok]
  simp? [yBT hb]
  rw [add_str (fits (by rw [lA];omega))]
  rfl
 have e3:zAG (X8 (qV hs (P++.tup [.int ti,.tup tms]::R)) (x++zJH P.length++wS ti) w (some (.int (P.length:Nat))) (some (.int ti)) (some (.tup tms)) v z) S=.ok (.next (X8 (qV hs (P++.tup [.int ti,.tup tms]::R)) (x++(zJH P.length++zX [32] (aP (.tup [.int ti,.tup tms])))) w (some (.int (P.length:Nat))) (some (.int ti)) (some (.tup tms)) v' z')) S:=by
  unfold zAG
  simp? [zMN]
  rw [h3,aP_W]
  simp only [aA]
 unfold dP
 rw [zC e1,zC e2,e3]
theorem zXF{ts:List (Int×Int)}{hs:List (List Nat)}{as:List MV}{w:Option MV}(hT:TOk ts)(hA: ∀d∈as,kL ts d): ∀(R P:List MV)(x:List Nat)(k t u v z:Option MV),as=P++R->x.length+200 * R.length<=800000->
  ∃k' t' u' v' z',cO (gNm 3) dP [] ((List.range' P.length R.length).map λi=>MV.int (i:Nat)) (X8 (qV hs as) x w k t u v z) S=.ok (.next (X8 (qV hs as) (x++aW P.length R) w k' t' u' v' z')) S
 |[],P,x,k,t,u,v,z,_,_=>⟨k,t,u,v,z,by rw [show aW P.length []=[] by cases P<;>rfl,aN];rfl⟩
 |a::R,P,x,k,t,u,v,z,e,hl=>by
  subst e
  rw [lC]at hl
  have ha:=hA a (mem_append_right _ mF0)
  have hal:=zZM hT ha
  have hsl:(zJH P.length).length<=3:=by unfold zJH;split<;>decide
  obtain⟨t1,u1,v1,z1,hb⟩:=yHO (S:=S) (hs:=hs) (P:=P) (R:=R) (x:=x) (w:=w) (t:=t) (u:=u) (v:=v) (z:=z) hT ha (by omega)
  obtain⟨k',t',u',v',z',h1⟩:=zXF (hs:=hs) (w:=w) hT hA R (P++[a]) (x++(zJH P.length++zX [32] (aP a))) (some (.int (P.length:Nat))) t1 u1 v1 z1 (by simp) (by simp only [lA];omega)
  refine⟨k',t',u',v',z',?_⟩
  rw [lC,List.range'_succ,map_cons,yZ (show gNm 3 (.int (P.length:Nat)) (X8 (qV hs (P++a::R)) x w k t u v z) S=.ok (X8 (qV hs (P++a::R)) x w (some (.int (P.length:Nat))) t u v z) S from rfl) hb (wD _)]
  rw [lA,lS]at h1
  rw [h1]
  rw [show aW P.length (a::R)=zJH P.length++zX [32] (aP a)++aW (P.length+1) R from rfl]
  simp only [aA]
end
theorem yQB{ts:List (Int×Int)}{hs:List (List Nat)}{as:List MV}(hT:TOk ts)(h1:1<=as.length)(h4:as.length<=4)(hA: ∀d∈as,kL ts d)(hN: ∀y∈hs,Nm y)(hl:hs.length<=4)(S:Sto):zS 1 zCJ [.val (qV hs as)] S=.ok (.val (.str (qT hs as))) S:=by
 have hne:as≠[]:=by rintro rfl;exact absurd h1 (by decide)
 refine yI rfl ?_ (gP _ _) (λl=>by simp)
 show yR (zHZ (X8 (qV hs as) [] none none none none none none |>.set 1 none) S)=_
 have hwl:(hW hs).length<=20 * hs.length:=by
  have: ∀hs:List (List Nat),(∀y∈hs,Nm y)->(hW hs).length<=20 * hs.length:=by
   intro hs
   induction hs with
   |nil=>intro _;exact zero_le _
   |cons y hs ih=>
    intro h
    have h2:=(h y mF0).2.1
    have h3:=ih λd hd=>h d (mO _ hd)
    have e:(hW (y::hs)).length=(63::y++[32]).length+(hW hs).length:=by
     unfold hW
     rw [flatMap_cons,lA]
    rw [e,lA,lC,lS,lC]
    omega
  exact this hs hN
 obtain⟨w',l1⟩:=zXD (q:=qV hs as) (S:=S) (k:=none) (t:=none) (u:=none) (v:=none) (z:=none) hs [] none hN (by simp only [length_nil];omega)
 rw [nil_append]at l1
 obtain⟨k',t',u',v',z',l2⟩:=zXF (S:=S) (hs:=hs) (w:=w') hT hA as [] (hW hs++[58]) none none none none none rfl (by rw [lA,lS];omega)
 have e1:zDV [some (qV hs as),none,none,none,none,none,none,none] S=.ok (.next (X8 (qV hs as) [] none none none none none none)) S:=rfl
 have e2:zDW (X8 (qV hs as) [] none none none none none none) S=.ok (.next (X8 (qV hs as) (hW hs) w' none none none none none)) S:=by
  unfold zDW qV
  simp? [zNT,zMN]
  exact l1
 have e3:zDX (X8 (qV hs as) (hW hs) w' none none none none none) S=.ok (.next (X8 (qV hs as) (hW hs++[58]) w' none none none none none)) S:=by
  unfold zDX
  simp? [bok]
  rw [add_str (fits (by rw [lS];omega))]
  rfl
 have hr:zEJ [.val (.int (as.length:Nat))] S=.ok ⟨(List.range' 0 as.length).map λi=>MV.int (i:Nat),[]⟩ S:=by
  rw [zHB (by omega),toNat_natCast,List.range_eq_range']
 have e4:zDY (X8 (qV hs as) (hW hs++[58]) w' none none none none none) S=.ok (.next (X8 (qV hs as) (qT hs as) w' k' t' u' v' z')) S:=by
  unfold zDY
  simp? [show∀S,ixF (.val (qV hs as)) (.val (.int 1)) S=.ok (.val (.tup as)) S from λ_=>rfl,zLH,hr]
  rw [qT_W hs hne]
  exact l2
 have e5:zJV (X8 (qV hs as) (qT hs as) w' k' t' u' v' z') S=.ok (.ret (.val (.str (qT hs as)))) S:=rfl
 unfold zHZ
 show yR (zO zDV _ [some (qV hs as),none,none,none,none,none,none,none] S)=_
 rw [zC e1,zC e2,zC e3,zC e4,e5]
 rfl
theorem yHP{α:Type}(xs:List α):zEL xs none none (some (-1))=xs.reverse:=by
 have e:zEL xs none none (some (-1))=(sliceRange ((xs.length:Int) - 1) (-1) (-1)).filterMap (xs[·]?):=rfl
 rw [e,PySem.W.krv_sliceRange,PySem.W.krv_range,List.filterMap_reverse]
 have:=PySem.W.krv_all xs.toArray
 simp only [sA,List.getElem?_toArray]at this
 rw [this]
theorem zNN{S:Sto}{gf:MV->Rho->Sto->R Rho}{cf:AZ}{ef:AX}{ρb:Rho}{gs:List (Nat×List MV)}{p:MV->Bool}(hs:stay gs S):
  ∀{ds:List MV},(∀d∈ds, ∃ρ1,gf d ρb S=.ok ρ1 S/\cf ρ1 S=.ok (p d) S/\ef ρ1 S=.ok (.val d) S)->xG gf cf ef ρb gs ds S=.ok (ds.filter p) S
 |[],_=>rfl
 |d::ds,st=>by
  obtain⟨ρ1,h1,h2,h3⟩:=st d mF0
  have e:=zNN hs (p:=p) (ds:=ds) λd hd=>st d (mO _ hd)
  unfold xG
  cases hp:p d with
  |true=>
   rw [h1,wB,bok,h2,wB,bok,hp,iP rfl,h3,wB,bok]
   unfold nG
   rw [bok,iP hs,e,List.filter_cons_of_pos hp]
   rfl
  |false=>
   rw [h1,wB,bok,h2,wB,bok,hp,iN xF0,iP hs,e,List.filter_cons_of_neg (by rw [hp];exact xF0)]
def wd(b:List Nat)(at' tn k:Nat):List Nat:=b.take at'++[97+(tn+k) % 26]++b.drop (at'+1)
theorem zQF{b:List Nat}{at':Nat}(h:at'<b.length)(tn k:Nat):(wd b at' tn k).length=b.length:=by
 unfold wd
 simp only [lA,lS,lT,length_drop]
 omega
theorem zQG{b:List Nat}{at':Nat}(hb:Nm b)(h:at'<b.length)(tn k:Nat):Nm (wd b at' tn k):=by
 refine⟨by rw [zQF h];exact hb.1,by rw [zQF h];exact hb.2.1,λc hc=>?_⟩
 unfold wd at hc
 rw [mem_append,mem_append,mS]at hc
 rcases hc with(hc|rfl)|hc
 ·exact hb.2.2 c (List.mem_of_mem_take hc)
 ·omega
 ·exact hb.2.2 c (List.mem_of_mem_drop hc)
theorem yQC{b:List Nat}{at' tn i j:Nat}(hi:i<6)(hj:j<6)(e:wd b at' tn i=wd b at' tn j):i=j:=by
 unfold wd at e
 rw [aA,aA]at e
 have e2:=List.append_cancel_left e
 have e3:97+(tn+i) % 26=97+(tn+j) % 26:=(List.cons.inj e2).1
 omega
def wds(b:List Nat)(at' tn:Nat):List (List Nat):=(List.range 6).map (wd b at' tn)
theorem yQD(b:List Nat)(at' tn:Nat):(wds b at' tn).Nodup:=by
 unfold wds
 unfold List.Nodup
 rw [List.pairwise_map]
 exact List.Pairwise.imp_of_mem (λ{i j} hi hj hne e=>hne (yQC (mem_range.mp hi) (mem_range.mp hj) e)) (List.nodup_range (n:=6))
abbrev W11(c:Int)(n z at' tn:Option MV)(bg bs j wh:Option MV):Rho:=[some (.int c),some (.int 6),some (.str abc),n,z,at',bg,bs,j,tn,wh]
theorem yKZ(c n:Int)(x:List Nat)(z a t g j w:Option MV)(S:Sto)(h:x.length<=1000): ∃k,(97<=k/\k<=122)/\bZ (W11 c (some (.int n)) z a t g (some (.str x)) j w) S=
  .ok (.next (W11 c (some (.int (n / 26))) z a t g (some (.str (x++[k]))) j w)) S:=by
 obtain⟨k,hk⟩:=dI (xs:=abc) (i:=n % 26) (eN _ (by decide)) (by have:=eL n (show(0:Int)<26 by decide);show n % 26<26;exact this)
 refine⟨k,dL (P:=λk=>97<=k/\k<=122) (by decide) hk,?_⟩
 have h1:dD (W11 c (some (.int n)) z a t g (some (.str x)) j w) S=.ok (.next (W11 c (some (.int n)) z a t g (some (.str (x++[k]))) j w)) S:=by
  unfold dD
  simp? [mod_lit (show(0:Int)<26 by decide),ix_str (show abc.length<=sizeLine by rw [sizeLine_eq];decide) hk]
  rw [add_str (fits (by rw [lS];omega))]
  rfl
 have h2:dE (W11 c (some (.int n)) z a t g (some (.str (x++[k]))) j w) S=.ok (.next (W11 c (some (.int (n / 26))) z a t g (some (.str (x++[k]))) j w)) S:=by
  unfold dE
  simp? [yX (b:=26) (by decide) (by decide)]
 unfold bZ
 rw [zC h1,h2]
theorem yCA(c:Int)(z a t g w:Option MV)(S:Sto): ∀(ds:List MV)(n:Int)(x:List Nat)(s:Option MV),x.length+ds.length<=1000->(∀c∈x,97<=c/\c<=122)-> ∃n' x' s',cO (gNm 8) bZ [] ds (W11 c (some (.int n)) z a t g (some (.str x)) s w) S=
  .ok (.next (W11 c (some (.int n')) z a t g (some (.str x')) s' w)) S/\x'.length=x.length+ds.length/\ ∀c∈x',97<=c/\c<=122
 |[],n,x,s,_,hx=>⟨n,x,s,rfl,rfl,hx⟩
 |d::ds,n,x,s,h,hx=>by
  rw [lC]at h
  obtain⟨k,hl,hk⟩:=yKZ c n x z a t g (some d) w S (by omega)
  obtain⟨n',x',s',h1,h2,h3⟩:=yCA c z a t g w S ds (n / 26) (x++[k]) (some d) (by rw [lA,lS];omega) (by
   intro c hc
   rw [mem_append,mS]at hc
   rcases hc with hc|rfl
   ·exact hx c hc
   ·exact hl)
  refine⟨n',x',s',?_,by rw [h2,lA,lS,lC];omega,h3⟩
  rw [yZ rfl hk (wD S)]
  exact h1
theorem yQE: ∀k:Nat,k<26->atI abc (k:Int)=some (97+k):=by decide
theorem yQF{a b x:List Nat}{r:List (List Nat)}(h:(a::b::r).Nodup)(ha:x≠a)(hr:x∉r):(a::x::r).Nodup:=by
 rw [nodup_cons,nodup_cons]at h ⊢
 obtain⟨h1,h2,h3⟩:=h
 refine⟨λz=>?_,hr,h3⟩
 rcases mC.mp z with e|e
 ·exact ha e.symm
 ·exact h1 (mO _ e)
theorem yHQ(c:Int)(S:Sto): ∃ws:List (List Nat),ws.length=6/\(∀y∈ws,Nm y)/\ws.Nodup/\zS 2 wY [.val (.int c),.val (.int 6)] S=.ok (.new (ws.map MV.str)) S:=by
 obtain⟨n,hn⟩:=zPW c 2147483647 ⟨by decide,by decide⟩ S
 have z0:0<=n % 7:=eN _ (by decide)
 have z1:n % 7<7:=eL _ (by decide)
 have hz:(0:Int)<1+n % 7:=by omega
 obtain⟨at',hat⟩: ∃at':Nat,n / 7 % (1+n % 7)=(at':Nat):=⟨(n / 7 % (1+n % 7)).toNat,(Int.toNat_of_nonneg (eN _ (by omega))).symm⟩
 have a1:(at':Int)<1+n % 7:=by rw [<-hat];exact eL _ hz
 have hrl:((List.range (1+n % 7).toNat).map λk=>MV.int (k:Nat)).length=(1+n % 7).toNat:=by rw [lM,length_range]
 obtain⟨bg,hbg⟩: ∃bg:Bool,bg=decide (n / 49 % 3=1):=⟨_,rfl⟩
 obtain⟨n',b,s',l1,l2,l3⟩:=yCA c (some (.int (1+n % 7))) (some (.int (at':Nat))) none (some (.bl bg)) none S ((List.range (1+n % 7).toNat).map λk=>MV.int (k:Nat)) (n / 147) [] none (by rw [hrl];simp only [length_nil];omega) (by simp)
 rw [hrl,length_nil]at l2
 have hb:Nm b:=⟨by omega,by omega,l3⟩
 have hb7:b.length<=7:=by omega
 have hal:at'<b.length:=by omega
 obtain⟨k,hk⟩:=dI (xs:=b) (i:=(at':Int)) (by omega) (by omega)
 obtain⟨k0,k1⟩:=dL (P:=λc=>97<=c/\c<=122) l3 hk
 have hi:=yBK (k - 97) (by omega)
 rw [show 97+(k - 97)=k by omega]at hi
 have hsi: ∀S,zPH (.val (.str abc)) [.val (.str [k])] S=.ok (.val (.int ((k - 97:Nat):Int))) S:=λS=>by
  show(match strIdx abc [k]with |some i=>R.ok (Er.val (.int (i:Nat))) S|none=>.no)=_
  rw [hi]
 generalize htn:k - 97=tn at hsi
 have c1:cN b none (some (at':Int))=b.take at':=by rw [yBA _ _ (by omega)];rfl
 have c2:cN b (some ((at':Int)+1)) none=b.drop (at'+1):=by
  unfold cN
  have y1:HT.sIx b.length 0 (some ((at':Int)+1))=at'+1:=by
   unfold HT.sIx
   simp only
   split<;>omega
  have y2:HT.sIx b.length b.length none=b.length:=rfl
  rw [y1,y2]
  rw [List.take_of_length_le (by rw [length_drop];omega)]
 have hc: ∀S,xG (gNm 0) jO wQ [none,some (.str abc),some (.int (at':Nat)),some (.str b),some (.int (tn:Nat))] [] ((List.range 6).map λk=>MV.int (k:Nat)) S=.ok ((wds b at' tn).map MV.str) S:=λS=>by
  have:=zJA (gf:=gNm 0) (cf:=jO) (ef:=wQ) (ρb:=[none,some (.str abc),some (.int (at':Nat)),some (.str b),some (.int (tn:Nat))]) (S:=S) (gs:=[]) (wD S) ((List.range 6).map λk=>(MV.int (k:Nat),MV.str (wd b at' tn k))) λp hp=>by
   obtain⟨i,hi,rfl⟩:=mM.mp hp
   refine⟨[some (.int (i:Nat)),some (.str abc),some (.int (at':Nat)),some (.str b),some (.int (tn:Nat))],rfl,rfl,?_⟩
   have hm:(((tn:Nat):Int)+((i:Nat):Int)) % 26=(((tn+i) % 26:Nat):Int):=by omega
   have hx: ∀S,ixF (.val (.str abc)) (.val (.int ((((tn:Nat):Int)+((i:Nat):Int)) % 26))) S=.ok (.val (.str [97+(tn+i) % 26])) S:=λS=>by
    rw [hm]
    exact ix_str (show abc.length<=sizeLine by rw [sizeLine_eq];decide) (yQE _ (mod_lt _ (by decide)))
   unfold wQ
   simp? [cut_str (S:=S) (fits (show b.length<=1000000 by omega)),c1,mod_lit (show(0:Int)<26 by decide),hx]
   rw [add_str (x:=b.take at') (y:=[97+(tn+i) % 26]) (fits (by rw [lS,lT];omega)),bok]
   simp? [cut_str (S:=S) (fits (show b.length<=1000000 by omega)),c2]
   rw [add_str (fits (by simp only [lA,lS,lT,length_drop];omega))]
   rfl
  have h1:List.map ((λx:MV×MV=>x.1)∘λk:Nat=>(MV.int (k:Nat),MV.str (wd b at' tn k))) (List.range 6)=(List.range 6).map λk:Nat=>MV.int (k:Nat):=rfl
  have h2:List.map ((λx:MV×MV=>x.2)∘λk:Nat=>(MV.int (k:Nat),MV.str (wd b at' tn k))) (List.range 6)=(wds b at' tn).map MV.str:=by
   unfold wds
   rw [map_map]
   rfl
  rw [map_map,map_map,h1,h2]at this
  exact this
 have hs:zP zAR [.int c,.int 6]=[some (.int c),some (.int 6),none,none,none,none,none,none,none,none,none]:=rfl
 have e1:zHX [some (.int c),some (.int 6),none,none,none,none,none,none,none,none,none] S=.ok (.next (W11 c none none none none none none none none)) S:=rfl
 have e2:zBK (W11 c none none none none none none none none) S=.ok (.next (W11 c (some (.int n)) none none none none none none none)) S:=by
  unfold zBK
  simp? [hn]
 have e3:zBL (W11 c (some (.int n)) none none none none none none none) S=.ok (.next (W11 c (some (.int n)) (some (.int (1+n % 7))) none none none none none none)) S:=by
  unfold zBL
  simp? [mod_lit (show(0:Int)<7 by decide)]
 have e4:zBM (W11 c (some (.int n)) (some (.int (1+n % 7))) none none none none none none) S=.ok (.next (W11 c (some (.int n)) (some (.int (1+n % 7))) (some (.int (at':Nat))) none none none none none)) S:=by
  unfold zBM
  simp? [yX (b:=7) (by decide) (by decide),mod_lit hz,hat]
 have e5:zBN (W11 c (some (.int n)) (some (.int (1+n % 7))) (some (.int (at':Nat))) none none none none none) S=.ok (.next (W11 c (some (.int n)) (some (.int (1+n % 7))) (some (.int (at':Nat))) none (some (.bl bg)) none none none)) S:=by
  unfold zBN
  simp? [yX (b:=49) (by decide) (by decide),mod_lit (show(0:Int)<3 by decide),hbg]
 have e6:zBO (W11 c (some (.int n)) (some (.int (1+n % 7))) (some (.int (at':Nat))) none (some (.bl bg)) none none none) S=.ok (.next (W11 c (some (.int (n / 147))) (some (.int (1+n % 7))) (some (.int (at':Nat))) none (some (.bl bg)) none none none)) S:=by
  unfold zBO
  simp? [yX (b:=147) (by decide) (by decide)]
 have e7:zHY (W11 c (some (.int (n / 147))) (some (.int (1+n % 7))) (some (.int (at':Nat))) none (some (.bl bg)) none none none) S=.ok (.next (W11 c (some (.int (n / 147))) (some (.int (1+n % 7))) (some (.int (at':Nat))) none (some (.bl bg)) (some (.str [])) none none)) S:=rfl
 have e8:zBP (W11 c (some (.int (n / 147))) (some (.int (1+n % 7))) (some (.int (at':Nat))) none (some (.bl bg)) (some (.str [])) none none) S=.ok (.next (W11 c (some (.int n')) (some (.int (1+n % 7))) (some (.int (at':Nat))) none (some (.bl bg)) (some (.str b)) s' none)) S:=by
  unfold zBP
  simp? [zHB (S:=S) (show -(2 ^ 62)<=1+n % 7/\1+n % 7<2 ^ 62 by omega)]
  exact l1
 have e9:zBQ (W11 c (some (.int n')) (some (.int (1+n % 7))) (some (.int (at':Nat))) none (some (.bl bg)) (some (.str b)) s' none) S=.ok (.next (W11 c (some (.int n')) (some (.int (1+n % 7))) (some (.int (at':Nat))) (some (.int (tn:Nat))) (some (.bl bg)) (some (.str b)) s' none)) S:=by
  unfold zBQ
  simp? [ix_str (S:=S) (fits (show b.length<=1000000 by omega)) hk,zFT,hsi]
 have e10:zAA (W11 c (some (.int n')) (some (.int (1+n % 7))) (some (.int (at':Nat))) (some (.int (tn:Nat))) (some (.bl bg)) (some (.str b)) s' none) S=.ok (.next (W11 c (some (.int n')) (some (.int (1+n % 7))) (some (.int (at':Nat))) (some (.int (tn:Nat))) (some (.bl bg)) (some (.str b)) s' (some (.loc S.length)))) (S++[.lst ((wds b at' tn).map MV.str)]):=by
  unfold zAA
  simp? [zHB (S:=S) (j:=6) (by decide)]
  rw [iP (by decide)]
  show((xG (gNm 0) jO wQ [none,some (.str abc),some (.int (at':Nat)),some (.str b),some (.int (tn:Nat))] [] ((List.range 6).map λk=>MV.int (k:Nat)) S).bind _).bind _=_
  rw [hc]
  rfl
 have nd:=yQD b at' tn
 have nmw: ∀y∈wds b at' tn,Nm y:=λy hy=>by
  obtain⟨i,_,rfl⟩:=mM.mp hy
  exact zQG hb hal tn i
 have fin: ∀ws:List (List Nat),gL (W11 c (some (.int n')) (some (.int (1+n % 7))) (some (.int (at':Nat))) (some (.int (tn:Nat))) (some (.bl bg)) (some (.str b)) s' (some (.loc S.length))) (S++[.lst ((wds b at' tn).map MV.str)])=.ok (.next (W11 c (some (.int n')) (some (.int (1+n % 7))) (some (.int (at':Nat))) (some (.int (tn:Nat))) (some (.bl bg)) (some (.str b)) s' (some (.loc S.length)))) (S++[.lst (ws.map MV.str)])->zS 2 wY [.val (.int c),.val (.int 6)] S=.ok (.new (ws.map MV.str)) S:=by
  intro ws e11
  have e12:zGL (W11 c (some (.int n')) (some (.int (1+n % 7))) (some (.int (at':Nat))) (some (.int (tn:Nat))) (some (.bl bg)) (some (.str b)) s' (some (.loc S.length))) (S++[.lst (ws.map MV.str)])=.ok (.ret (.val (.loc S.length))) (S++[.lst (ws.map MV.str)]):=rfl
  have hF:wY [.int c,.int 6] S=.ok (.val (.loc S.length)) (S++[.lst (ws.map MV.str)]):=by
   unfold wY zLG
   rw [hs,zC e1,zC e2,zC e3,zC e4,zC e5,zC e6,zC e7,zC e8,zC e9,zC e10,zC e11,e12]
   rfl
  exact zWS rfl (show zU [.val (.int c),.val (.int 6)] S=([.int c,.int 6],S)from rfl) hF (.inr ⟨_,rfl,le_refl _,xN S _⟩) (zKD λd hd=>by
   obtain⟨y,_,rfl⟩:=mM.mp hd
   exact gP _ _)
 cases hbg2:bg with
 |false=>
  refine⟨wds b at' tn,rfl,nmw,nd,fin _ ?_⟩
  unfold gL
  rw [hbg2]
  simp? [fT,iF]
 |true=>
  obtain⟨q,hq⟩:=dI (xs:=abc) (i:=n' % 26) (eN _ (by decide)) (by have:=eL n' (show(0:Int)<26 by decide);show n' % 26<26;exact this)
  have hq2:=dL (P:=λk=>97<=k/\k<=122) (by decide) hq
  have w0l:=zQF (b:=b) hal tn 0
  have hx:Nm (wd b at' tn 0++[q]):=by
   have h0:=zQG hb hal tn 0
   refine⟨by rw [lA,lS];omega,by rw [lA,lS];omega,λc hc=>?_⟩
   rcases mem_append.mp hc with z|z
   ·exact h0.2.2 c z
   ·rw [mS.mp z];exact hq2
  have hne: ∀k,wd b at' tn 0++[q]≠wd b at' tn k:=λk e=>by
   have:=congrArg List.length e
   rw [lA,lS,zQF hal,zQF hal]at this
   omega
  refine⟨[wd b at' tn 0,wd b at' tn 0++[q],wd b at' tn 2,wd b at' tn 3,wd b at' tn 4,wd b at' tn 5],rfl,?_,?_,fin _ ?_⟩
  ·intro y hy
   simp only [mC,nM0,or_false]at hy
   rcases hy with rfl|rfl|rfl|rfl|rfl|rfl
   ·exact zQG hb hal tn 0
   ·exact hx
   ·exact zQG hb hal tn 2
   ·exact zQG hb hal tn 3
   ·exact zQG hb hal tn 4
   ·exact zQG hb hal tn 5
  ·refine yQF (b:=wd b at' tn 1) nd (hne 0) λz=>?_
   simp only [mC,nM0,or_false]at z
   rcases z with z|z|z|z
   ·exact hne 2 z
   ·exact hne 3 z
   ·exact hne 4 z
   ·exact hne 5 z
  ·have hS:=xN S (MO.lst ((wds b at' tn).map MV.str))
   have hx0:ixF (.val (.loc S.length)) (.val (.int 0)) (S++[.lst ((wds b at' tn).map MV.str)])=.ok (.val (.str (wd b at' tn 0))) (S++[.lst ((wds b at' tn).map MV.str)]):=nH hS rfl
   unfold gL
   rw [hbg2]
   simp? [hx0,mod_lit (show(0:Int)<26 by decide),ix_str (show abc.length<=sizeLine by rw [sizeLine_eq];decide) hq]
   rw [add_str (fits (by rw [lS];omega)),bok]
   simp? [zOH,zWN (j:=1) hS (show ixN ((wds b at' tn).map MV.str).length 1=some 1 from rfl),zLK]
   rfl
abbrev A9(c:Int)(tt:MV)(w p:Nat)(n t tm k:Option MV):Rho:=[some (.int c),some tt,some (.loc w),some (.loc p),some (.int 7),n,t,tm,k]
section
variable{S:Sto}{w p:Nat}{ws:List (List Nat)}{vs:List MV}{ts:List (Int×Int)}
theorem yHR{c n:Int}{tt:MV}{t k:Option MV}{m:Nat}{tms:List MV}(hw:S[w]? =some (.lst (ws.map MV.str)))(h6:ws.length=6)(hN: ∀y∈ws,Nm y)(hp:S[p]? =some (.lst vs))(h7:vs.length=7)(hV: ∀d∈vs,Vl d)(hm:S[m]? =some (.lst tms))(hl:tms.length<1000):
  ∃d,zJG d/\gC (A9 c tt w p (some (.int n)) t (some (.loc m)) k) S=.ok (.next (A9 c tt w p (some (.int (n / 210))) t (some (.loc m)) k)) (S.set m (.lst (tms++[d]))):=by
 have hwl:jS [.val (.loc w)] S=.ok (.val (.int 6)) S:=by
  rw [zIO hw,lM,h6];rfl
 obtain⟨d,hd⟩:=dI (xs:=ws.map MV.str) (i:=n / 5 % 6) (eN _ (by decide)) (by rw [lM,h6];exact eL _ (by decide))
 obtain⟨y,hy,rfl⟩: ∃y,Nm y/\d=.str y:=dL (P:=λd=> ∃y,Nm y/\d=.str y) (λe he=>by obtain⟨u,hu,rfl⟩:=mM.mp he;exact⟨u,hN u hu,rfl⟩) hd
 obtain⟨v,hv⟩:=dI (xs:=vs) (i:=n / 5 % 7) (eN _ (by decide)) (by rw [h7];exact eL _ (by decide))
 have hvl:=dL hV hv
 have e2: ∀S',zAB (A9 c tt w p (some (.int n)) t (some (.loc m)) k) S'=.ok (.next (A9 c tt w p (some (.int (n / 210))) t (some (.loc m)) k)) S':=λS'=>by
  unfold zAB
  simp? [yX (b:=210) (by decide) (by decide)]
 have h1:tms.length<1000000:=by omega
 by_cases hc:n % 5<3
 ·refine⟨.tup [.str VAR,.str y],.inl ⟨y,hy,rfl⟩,?_⟩
  have e1:kH (A9 c tt w p (some (.int n)) t (some (.loc m)) k) S=.ok (.next (A9 c tt w p (some (.int n)) t (some (.loc m)) k)) (S.set m (.lst (tms++[.tup [.str VAR,.str y]]))):=by
   unfold kH
   simp? [mod_lit (show(0:Int)<5 by decide),lt_int,dT0 hc,zFS hm,yX (b:=5) (by decide) (by decide),hwl,mod_lit (show(0:Int)<6 by decide),nH hw hd,tup2,zIU hm h1]
  unfold gC
  rw [zC e1,e2]
 ·refine⟨.tup [.str IS,v],.inr ⟨v,hvl,rfl⟩,?_⟩
  have e1:kH (A9 c tt w p (some (.int n)) t (some (.loc m)) k) S=.ok (.next (A9 c tt w p (some (.int n)) t (some (.loc m)) k)) (S.set m (.lst (tms++[.tup [.str IS,v]]))):=by
   unfold kH
   simp? [mod_lit (show(0:Int)<5 by decide),lt_int,dF0 hc,fT,iF,zFS hm,yX (b:=5) (by decide) (by decide),mod_lit (show(0:Int)<7 by decide),nH hp hv,tup2,zIU hm h1]
  unfold gC
  rw [zC e1,e2]
theorem yME{o:MO}{i:Nat}{e:MO}(h:S[i]? =some e):(S++[o])[i]? =some e:=by
 rw [getElem?_append_left (gS0.mp h).1];exact h
theorem zXG{c:Int}{tt:MV}{t:Option MV}(hw:S[w]? =some (.lst (ws.map MV.str)))(h6:ws.length=6)(hN: ∀y∈ws,Nm y)(hp:S[p]? =some (.lst vs))(h7:vs.length=7)(hV: ∀d∈vs,Vl d): ∀(L:List MV)(n:Int)(tms:List MV)(k:Option MV),tms.length+L.length<1000->(∀d∈tms,zJG d)->
  ∃n' tms' k',cO (gNm 8) gC [] L (A9 c tt w p (some (.int n)) t (some (.loc S.length)) k) (S++[.lst tms])=.ok (.next (A9 c tt w p (some (.int n')) t (some (.loc S.length)) k')) (S++[.lst tms'])/\tms'.length=tms.length+L.length/\ ∀d∈tms',zJG d
 |[],n,tms,k,_,h=>⟨n,tms,k,rfl,rfl,h⟩
 |e::L,n,tms,k,hl,h=>by
  rw [lC]at hl
  obtain⟨d,hd,hb⟩:=yHR (S:=S++[.lst tms]) (c:=c) (n:=n) (tt:=tt) (t:=t) (k:=some e) (m:=S.length) (tms:=tms) (yME hw) h6 hN (yME hp) h7 hV (xN S _) (by omega)
  rw [zLK]at hb
  obtain⟨n',tms',k',h1,h2,h3⟩:=zXG (c:=c) (tt:=tt) (t:=t) hw h6 hN hp h7 hV L (n / 210) (tms++[d]) (some e) (by rw [lA,lS];omega) (λx hx=>by
   rcases mem_append.mp hx with z|z
   ·exact h x z
   ·rw [mS.mp z];exact hd)
  refine⟨n',tms',k',?_,by rw [h2,lA,lS,lC];omega,h3⟩
  rw [yZ (show gNm 8 e (A9 c tt w p (some (.int n)) t (some (.loc S.length)) k) (S++[.lst tms])=.ok (A9 c tt w p (some (.int n)) t (some (.loc S.length)) (some e)) (S++[.lst tms])from rfl) hb (wD _)]
  exact h1
theorem yHS(c:Int)(hT:TOk ts)(hw:S[w]? =some (.lst (ws.map MV.str)))(h6:ws.length=6)(hN: ∀y∈ws,Nm y)(hp:S[p]? =some (.lst vs))(h7:vs.length=7)(hV: ∀d∈vs,Vl d):
  ∃a,kL ts a/\zS 5 gW [.val (.int c),.val (.tup (ts.map tbl)),.val (.loc w),.val (.loc p),.val (.int 7)] S=.ok (.val a) S:=by
 obtain⟨n,hn⟩:=zPW c 2147483549 ⟨by decide,by decide⟩ S
 have tl:jS [.val (.tup (ts.map tbl))] S=.ok (.val (.int (ts.length:Nat))) S:=by rw [zLH,lM]
 have t0:(0:Int)<((ts.length:Nat):Int):=by have:=hT.1;omega
 have t1:((ts.length:Nat):Int)<1073741824:=by have:=hT.2.1;omega
 have i0:0<=n % ((ts.length:Nat):Int):=eN _ (by omega)
 have i1:n % ((ts.length:Nat):Int)<((ts.length:Nat):Int):=eL _ t0
 obtain⟨d,hd⟩:=dI (xs:=ts.map tbl) (i:=n % ((ts.length:Nat):Int)) i0 (by rw [lM];exact i1)
 obtain⟨pp,hpp,rfl⟩: ∃pp,(1<=pp.1/\pp.1<=4/\0<=pp.2/\pp.2<=pp.1)/\d=tbl pp:=dL (P:=λd=> ∃pp,(1<=pp.1/\pp.1<=4/\0<=pp.2/\pp.2<=pp.1)/\d=tbl pp) (λe he=>by obtain⟨u,hu,rfl⟩:=mM.mp he;exact⟨u,hT.2.2 u hu,rfl⟩) hd
 obtain⟨i,hi⟩: ∃i,i=n % ((ts.length:Nat):Int):=⟨_,rfl⟩
 rw [<-hi]at i0 i1 hd
 have hrl:((List.range pp.1.toNat).map λk=>MV.int (k:Nat)).length=pp.1.toNat:=by rw [lM,length_range]
 obtain⟨n',tms,k',l1,l2,l3⟩:=zXG (c:=c) (tt:=.tup (ts.map tbl)) (t:=some (.int i)) hw h6 hN hp h7 hV ((List.range pp.1.toNat).map λk=>MV.int (k:Nat)) (n / ((ts.length:Nat):Int)) [] none (by rw [hrl];simp only [length_nil];omega) (by simp)
 rw [hrl,length_nil]at l2
 have ok:kL ts (.tup [.int i,.tup tms]):=⟨i,tms,pp,rfl,i0,i1,hd,by omega,hpp.1,hpp.2.1,l3⟩
 have hs:zP zHF [.int c,.tup (ts.map tbl),.loc w,.loc p,.int 7]=A9 c (.tup (ts.map tbl)) w p none none none none:=rfl
 have e1:zDP (A9 c (.tup (ts.map tbl)) w p none none none none) S=.ok (.next (A9 c (.tup (ts.map tbl)) w p (some (.int n)) none none none)) S:=by
  unfold zDP
  simp? [hn]
 have e2:zDQ (A9 c (.tup (ts.map tbl)) w p (some (.int n)) none none none) S=.ok (.next (A9 c (.tup (ts.map tbl)) w p (some (.int n)) (some (.int i)) none none)) S:=by
  unfold zDQ
  simp? [tl,mod_lit t0,hi]
 have e3:zDR (A9 c (.tup (ts.map tbl)) w p (some (.int n)) (some (.int i)) none none) S=.ok (.next (A9 c (.tup (ts.map tbl)) w p (some (.int (n / ((ts.length:Nat):Int)))) (some (.int i)) none none)) S:=by
  unfold zDR
  simp? [tl,yX t0 t1]
 have e4:zDS (A9 c (.tup (ts.map tbl)) w p (some (.int (n / ((ts.length:Nat):Int)))) (some (.int i)) none none) S=.ok (.next (A9 c (.tup (ts.map tbl)) w p (some (.int (n / ((ts.length:Nat):Int)))) (some (.int i)) (some (.loc S.length)) none)) (S++[.lst []]):=by
  unfold zDS
  simp? [bok]
 have e5:zDT (A9 c (.tup (ts.map tbl)) w p (some (.int (n / ((ts.length:Nat):Int)))) (some (.int i)) (some (.loc S.length)) none) (S++[.lst []])=.ok (.next (A9 c (.tup (ts.map tbl)) w p (some (.int n')) (some (.int i)) (some (.loc S.length)) k')) (S++[.lst tms]):=by
  unfold zDT
  simp? [ix_tup (S:=S++[.lst []]) hd,show∀S:Sto,ixF (.val (tbl pp)) (.val (.int 0)) S=.ok (.val (.int pp.1)) S from λ_=>rfl,zHB (S:=S++[.lst []]) (j:=pp.1) (by omega)]
  exact l1
 have e6:zDU (A9 c (.tup (ts.map tbl)) w p (some (.int n')) (some (.int i)) (some (.loc S.length)) k') (S++[.lst tms])=.ok (.ret (.val (.tup [.int i,.tup tms]))) (S++[.lst tms]):=by
  unfold zDU
  simp? [zIV (xN S (MO.lst tms)),tup2]
 refine⟨_,ok,zBA (T:=[.lst tms]) rfl ?_ (zQA (zQB ok).1) (λl=>by simp)⟩
 show gW [.int c,.tup (ts.map tbl),.loc w,.loc p,.int 7] S=_
 unfold gW zNK
 rw [hs,zC e1,zC e2,zC e3,zC e4,zC e5,e6]
 rfl
theorem zSM(hT:TOk ts)(hw:S[w]? =some (.lst (ws.map MV.str)))(h6:ws.length=6)(hN: ∀y∈ws,Nm y)(hp:S[p]? =some (.lst vs))(h7:vs.length=7)(hV: ∀d∈vs,Vl d): ∀(cs:List Int), ∃as,as.length=cs.length/\(∀d∈as,kL ts d)/\xG (gNm 0) jY wK [none,some (.tup (ts.map tbl)),some (.loc w),some (.loc p),some (.int 7)] [] (cs.map MV.int) S=.ok as S
 |[]=>⟨[],rfl,by simp,rfl⟩
 |c::cs=>by
  obtain⟨a,ha,hc⟩:=yHS c hT hw h6 hN hp h7 hV
  obtain⟨as,h1,h2,h3⟩:=zSM hT hw h6 hN hp h7 hV cs
  refine⟨a::as,by rw [lC,lC,h1],λd hd=>(mC.mp hd).elim (λz=>z▸ha) (h2 d),?_⟩
  have e:wK [some (.int c),some (.tup (ts.map tbl)),some (.loc w),some (.loc p),some (.int 7)] S=.ok (.val a) S:=by
   unfold wK
   simp? [hc]
  rw [map_cons]
  unfold xG
  rw [show gNm 0 (.int c) [none,some (.tup (ts.map tbl)),some (.loc w),some (.loc p),some (.int 7)] S=.ok [some (.int c),some (.tup (ts.map tbl)),some (.loc w),some (.loc p),some (.int 7)] S from rfl,wB,bok,show jY [some (.int c),some (.tup (ts.map tbl)),some (.loc w),some (.loc p),some (.int 7)] S=.ok true S from rfl,wB,bok,iP rfl,e,wB,bok]
  unfold nG
  rw [bok,iP (wD _),h3]
  rfl
end
abbrev Q13(q w p:Nat)(tt:MV)(a tm t s th n h k:Option MV):Rho:=[some (.loc q),some tt,some (.loc w),some (.loc p),some (.int 7),a,tm,t,s,th,n,h,k]
theorem zUI{S U:Sto}{i:Nat}{e:MO}(h:S[i]? =some e):(S++U)[i]? =some e:=by
 rw [getElem?_append_left (gS0.mp h).1];exact h
theorem yHT(ds:List MV)(S:Sto):yAX [.val (.tup ds)] S=.ok (.new ds) S:=rfl
section
variable{S:Sto}{q w p:Nat}{tt:MV}{ts:List (Int×Int)}
theorem yCB{a th n h k:Option MV}: ∀(as:List MV),(∀d∈as,kL ts d)-> ∀(U:Sto)(m:Nat)(acc:List MV)(t s:Option MV),(S++U)[m]? =some (.lst acc)->acc.length+4 * as.length<=1000->
  ∃U' m' t' s',cO (gTp 2 (yB (gNm 7) (yB (gNm 8) gR))) kW [] as (Q13 q w p tt a (some (.loc m)) t s th n h k) (S++U)=.ok (.next (Q13 q w p tt a (some (.loc m')) t' s' th n h k)) (S++U')/\(S++U')[m']? =some (.lst (acc++as.flatMap zNM))
 |[],_,U,m,acc,t,s,hm,_=>⟨U,m,t,s,rfl,by rw [List.flatMap_nil,aN];exact hm⟩
 |d::as,hA,U,m,acc,t,s,hm,hl=>by
  rw [lC]at hl
  obtain⟨ti,tms,pp,rfl,_,_,_,h3,h4,h5,hT⟩:=hA d mF0
  have hb:kW (Q13 q w p tt a (some (.loc m)) (some (.int ti)) (some (.tup tms)) th n h k) (S++U)=.ok (.next (Q13 q w p tt a (some (.loc (S++U).length)) (some (.int ti)) (some (.tup tms)) th n h k)) (S++U++[.lst (acc++tms)]):=by
   unfold kW zAN
   simp? [yHT]
   rw [zTL (zTN hm) rfl (fits (by omega))]
   rfl
  obtain⟨U',m',t',s',h1,h2⟩:=yCB (a:=a) (th:=th) (n:=n) (h:=h) (k:=k) as (λe he=>hA e (mO _ he)) (U++[.lst (acc++tms)]) (S++U).length (acc++tms) (some (.int ti)) (some (.tup tms)) (by rw [<-aA];exact xN _ _) (by rw [lA];omega)
  refine⟨U',m',t',s',?_,?_⟩
  ·rw [yZ (show gTp 2 (yB (gNm 7) (yB (gNm 8) gR)) (.tup [.int ti,.tup tms]) (Q13 q w p tt a (some (.loc m)) t s th n h k) (S++U)=.ok (Q13 q w p tt a (some (.loc m)) (some (.int ti)) (some (.tup tms)) th n h k) (S++U)from rfl) hb (wD _)]
   rw [aA]
   exact h1
  ·rw [h2,flatMap_cons,aA]
   rfl
theorem yLA{a tm t s:Option MV}{l g:Nat}{P R hd:List (List Nat)}{y:List Nat}{n:Int}(hl:S[l]? =some (.lst ((P++y::R).map MV.str)))(hg:S[g]? =some (.lst (hd.map MV.str)))(h4:hd.length<=4):
  (xZ (Q13 q w p tt a tm t s (some (.loc l)) (some (.int n)) (some (.loc g)) (some (.int (P.length:Nat)))) S=.ok (.next (Q13 q w p tt a tm t s (some (.loc l)) (some (.int (n / 3))) (some (.loc g)) (some (.int (P.length:Nat))))) S)\/
  (hd.length<4/\xZ (Q13 q w p tt a tm t s (some (.loc l)) (some (.int n)) (some (.loc g)) (some (.int (P.length:Nat)))) S=.ok (.next (Q13 q w p tt a tm t s (some (.loc l)) (some (.int (n / 3))) (some (.loc g)) (some (.int (P.length:Nat))))) (S.set g (.lst ((hd++[y]).map MV.str)))):=by
 have hlen:jS [.val (.loc g)] S=.ok (.val (.int (hd.length:Nat))) S:=by rw [zIO hg,lM]
 have hat:atI ((P++y::R).map MV.str) ((P.length:Nat):Int)=some (.str y):=by
  have h:ixN ((P++y::R).map MV.str).length ((P.length:Nat):Int)=some P.length:=by
   unfold ixN
   rw [iP (by omega),iP (by rw [lM,lA,lC];omega)]
   rfl
  unfold atI
  rw [h]
  show((P++y::R).map MV.str)[P.length]? =_
  rw [getElem?_map,getElem?_append_right (le_refl _),sub_self]
  rfl
 have e2: ∀S',hU (Q13 q w p tt a tm t s (some (.loc l)) (some (.int n)) (some (.loc g)) (some (.int (P.length:Nat)))) S'=.ok (.next (Q13 q w p tt a tm t s (some (.loc l)) (some (.int (n / 3))) (some (.loc g)) (some (.int (P.length:Nat))))) S':=λS'=>by
  unfold hU
  simp? [yX (b:=3) (by decide) (by decide)]
 unfold xZ
 by_cases h1:0<n % 3
 ·by_cases h2:hd.length<4
  ·right
   refine⟨h2,?_⟩
   have e1:yN (Q13 q w p tt a tm t s (some (.loc l)) (some (.int n)) (some (.loc g)) (some (.int (P.length:Nat)))) S=.ok (.next (Q13 q w p tt a tm t s (some (.loc l)) (some (.int n)) (some (.loc g)) (some (.int (P.length:Nat))))) (S.set g (.lst (hd.map MV.str++[.str y]))):=by
    unfold yN
    simp? [mod_lit (show(0:Int)<3 by decide),gt_int,dT0 h1,hlen,lt_int,dT0 (show((hd.length:Nat):Int)<4 by omega),zFS hg,nH hl hat,zIU hg (show(hd.map MV.str).length<1000000 by rw [lM];omega)]
   rw [zC e1,e2,map_append]
   rfl
  ·left
   have e1:yN (Q13 q w p tt a tm t s (some (.loc l)) (some (.int n)) (some (.loc g)) (some (.int (P.length:Nat)))) S=.ok (.next (Q13 q w p tt a tm t s (some (.loc l)) (some (.int n)) (some (.loc g)) (some (.int (P.length:Nat))))) S:=by
    unfold yN
    simp? [mod_lit (show(0:Int)<3 by decide),gt_int,dT0 h1,hlen,lt_int,dF0 (show¬((hd.length:Nat):Int)<4 by omega),fT,iF]
   rw [zC e1,e2]
 ·left
  have e1:yN (Q13 q w p tt a tm t s (some (.loc l)) (some (.int n)) (some (.loc g)) (some (.int (P.length:Nat)))) S=.ok (.next (Q13 q w p tt a tm t s (some (.loc l)) (some (.int n)) (some (.loc g)) (some (.int (P.length:Nat))))) S:=by
   unfold yN
   simp? [mod_lit (show(0:Int)<3 by decide),gt_int,dF0 h1,fT,iF]
  rw [zC e1,e2]
theorem zUJ{a tm t s:Option MV}{l:Nat}{th:List (List Nat)}(hl:S[l]? =some (.lst (th.map MV.str))): ∀(R P hd:List (List Nat))(n:Int)(k:Option MV),th=P++R->hd.Sublist P->hd.length<=4->
  ∃(n':Int)(k':Option MV)(hd':List (List Nat)),cO (gNm 12) xZ [] ((List.range' P.length R.length).map λi=>MV.int (i:Nat)) (Q13 q w p tt a tm t s (some (.loc l)) (some (.int n)) (some (.loc S.length)) k) (S++[.lst (hd.map MV.str)])=.ok (.next (Q13 q w p tt a tm t s (some (.loc l)) (some (.int n')) (some (.loc S.length)) k')) (S++[.lst (hd'.map MV.str)])/\hd'.Sublist th/\hd'.length<=4
 |[],P,hd,n,k,e,hs,h4=>⟨n,k,hd,rfl,by rw [e,aN];exact hs,h4⟩
 |y::R,P,hd,n,k,e,hs,h4=>by
  subst e
  have hg:=xN S (MO.lst (hd.map MV.str))
  have g:gNm 12 (.int (P.length:Nat)) (Q13 q w p tt a tm t s (some (.loc l)) (some (.int n)) (some (.loc S.length)) k) (S++[.lst (hd.map MV.str)])=.ok (Q13 q w p tt a tm t s (some (.loc l)) (some (.int n)) (some (.loc S.length)) (some (.int (P.length:Nat)))) (S++[.lst (hd.map MV.str)]):=rfl
  rw [lC,List.range'_succ,map_cons]
  rcases yLA (S:=S++[.lst (hd.map MV.str)]) (q:=q) (w:=w) (p:=p) (tt:=tt) (a:=a) (tm:=tm) (t:=t) (s:=s) (n:=n) (zUI hl) hg h4 with hb|⟨hlt,hb⟩
  ·obtain⟨n',k',hd',h1,h2,h3⟩:=zUJ (a:=a) (tm:=tm) (t:=t) (s:=s) hl R (P++[y]) hd (n / 3) (some (.int (P.length:Nat))) (by simp) (hs.trans (List.sublist_append_left _ _)) h4
   rw [lA,lS]at h1
   exact⟨n',k',hd',by rw [yZ g hb (wD _)];exact h1,h2,h3⟩
  ·rw [zLK]at hb
   obtain⟨n',k',hd',h1,h2,h3⟩:=zUJ (a:=a) (tm:=tm) (t:=t) (s:=s) hl R (P++[y]) (hd++[y]) (n / 3) (some (.int (P.length:Nat))) (by simp) (hs.append (List.Sublist.refl _)) (by rw [lA,lS];omega)
   rw [lA,lS]at h1
   exact⟨n',k',hd',by rw [yZ g hb (wD _)];exact h1,h2,h3⟩
theorem yLB{as:List MV}(hA: ∀d∈as,kL ts d){y:List Nat}(h:MV.tup [.str VAR,.str y]∈as.flatMap zNM):y∈zNS as:=by
 unfold zNS
 obtain⟨a,ha,hm⟩:=mem_flatMap.mp h
 exact mem_flatMap.mpr ⟨a,ha,mem_filterMap.mpr ⟨_,hm,yGW y⟩⟩
theorem yMF{as:List MV}(hA: ∀d∈as,kL ts d): ∀d∈as.flatMap zNM,zJG d:=λd hd=>by
 obtain⟨a,ha,hm⟩:=mem_flatMap.mp hd
 obtain⟨ti,tms,pp,rfl,_,_,_,_,_,_,hT⟩:=hA a ha
 exact hT d hm
theorem yHU{ws:List (List Nat)}{vs:List MV}{c0:Int}{cs:List Int}(hT:TOk ts)(hw:S[w]? =some (.lst (ws.map MV.str)))(h6:ws.length=6)(hN: ∀y∈ws,Nm y)(hnd:ws.Nodup)(hp:S[p]? =some (.lst vs))(h7:vs.length=7)(hV: ∀d∈vs,Vl d)(hq:S[q]? =some (.lst ((c0::cs).map MV.int)))(h1:1<=cs.length)(h4:cs.length<=4):
  ∃hs as,as.length=cs.length/\(∀d∈as,kL ts d)/\(∀y∈hs,Nm y)/\hs.length<=4/\hs.Nodup/\(∀y∈hs,y∈zNS as)/\zS 5 xO [.val (.loc q),.val (.tup (ts.map tbl)),.val (.loc w),.val (.loc p),.val (.int 7)] S=.ok (.val (qV hs as)) S:=by
 obtain⟨as,a1,hA,hca⟩:=zSM hT hw h6 hN hp h7 hV cs
 have hst:zP kE [.loc q,.tup (ts.map tbl),.loc w,.loc p,.int 7]=Q13 q w p (.tup (ts.map tbl)) none none none none none none none none:=rfl
 have hcl:(cs.map MV.int).length<1000000:=by rw [lM];omega
 have e1:cA (Q13 q w p (.tup (ts.map tbl)) none none none none none none none none) S=.ok (.next (Q13 q w p (.tup (ts.map tbl)) (some (.tup as)) none none none none none none none)) S:=by
  unfold cA
  simp? [zUF hq,show cN ((c0::cs).map MV.int) (some 1) none=cs.map MV.int from yMB _ _,show∀(ds:List MV)(S:Sto),itL (.new ds) S=.ok ⟨ds,[]⟩ S from λ_ _=>rfl,hcl,show blk 1 [1,2,3,4] (Q13 q w p (.tup (ts.map tbl)) none none none none none none none none)=[none,some (.tup (ts.map tbl)),some (.loc w),some (.loc p),some (.int 7)]from rfl,hca,show∀(o:List MV)(S:Sto),cX [.new o] S=.ok (.val (.tup o)) S from λ_ _=>rfl]
 have e2:cB (Q13 q w p (.tup (ts.map tbl)) (some (.tup as)) none none none none none none none) S=.ok (.next (Q13 q w p (.tup (ts.map tbl)) (some (.tup as)) (some (.loc S.length)) none none none none none none)) (S++[.lst []]):=by
  unfold cB
  simp? [bok]
 obtain⟨U,m,t',s',l1,hm⟩:=yCB (S:=S) (q:=q) (w:=w) (p:=p) (tt:=.tup (ts.map tbl)) (a:=some (.tup as)) (th:=none) (n:=none) (h:=none) (k:=none) as hA [.lst []] S.length [] none none (xN S _) (by simp only [length_nil];omega)
 rw [nil_append]at hm
 have e3:cC (Q13 q w p (.tup (ts.map tbl)) (some (.tup as)) (some (.loc S.length)) none none none none none none) (S++[.lst []])=.ok (.next (Q13 q w p (.tup (ts.map tbl)) (some (.tup as)) (some (.loc m)) t' s' none none none none)) (S++U):=by
  unfold cC
  simp? [zMN]
  exact l1
 have hpdt: ∀y∈as.flatMap zNM,pd y=true/\dpt y<40:=λd hd=>⟨(zWT (yMF hA d hd)).1,by have:=(zWT (yMF hA d hd)).2;omega⟩
 have hwU:=zUI (U:=U) hw
 have hcf:=zNN (S:=S++U) (gf:=gNm 0) (cf:=jZ) (ef:=zAO) (ρb:=[none,some (.loc m)]) (gs:=[(w,ws.map MV.str)]) (p:=λd=>decide (MV.tup [.str VAR,d]∈as.flatMap zNM)) (zBB hwU) (ds:=ws.map MV.str) λd hd=>by
  obtain⟨y,hy,rfl⟩:=mM.mp hd
  refine⟨[some (.str y),some (.loc m)],rfl,?_,rfl⟩
  unfold jZ
  simp? [tup2,yBM false hm (show pd (.tup [.str VAR,.str y])=true by rw [wR,yP,yP,dQ,zDZ,zDZ];rfl) hpdt,fT,iF]
 obtain⟨th,hth⟩: ∃th,th=ws.filter λy=>decide (MV.tup [.str VAR,.str y]∈as.flatMap zNM):=⟨_,rfl⟩
 have hfm:(ws.map MV.str).filter (λd=>decide (MV.tup [.str VAR,d]∈as.flatMap zNM))=th.map MV.str:=by
  rw [hth,List.filter_map]
  rfl
 rw [hfm]at hcf
 have hsub:th.Sublist ws:=by rw [hth];exact List.filter_sublist
 have htl:th.length<=6:=by have:=hsub.length_le;omega
 have hwl:(ws.map MV.str).length<1000000:=by rw [lM];omega
 have e4:cE (Q13 q w p (.tup (ts.map tbl)) (some (.tup as)) (some (.loc m)) t' s' none none none none) (S++U)=.ok (.next (Q13 q w p (.tup (ts.map tbl)) (some (.tup as)) (some (.loc m)) t' s' (some (.loc (S++U).length)) none none none)) (S++U++[.lst (th.map MV.str)]):=by
  unfold cE
  simp? [zOF hwU,hwl,show blk 1 [6] (Q13 q w p (.tup (ts.map tbl)) (some (.tup as)) (some (.loc m)) t' s' none none none none)=[none,some (.loc m)]from rfl,hcf]
 obtain⟨S4,hS4⟩: ∃S4,S4=S++U++[MO.lst (th.map MV.str)]:=⟨_,rfl⟩
 obtain⟨l,hl⟩: ∃l,l=(S++U).length:=⟨_,rfl⟩
 rw [<-hS4, <-hl]at e4
 have hl4:S4[l]? =some (.lst (th.map MV.str)):=by rw [hS4,hl];exact xN _ _
 have hq4:S4[q]? =some (.lst ((c0::cs).map MV.int)):=by rw [hS4,aA];exact zUI hq
 obtain⟨n,hn⟩:=zPW c0 2147483489 ⟨by decide,by decide⟩ S4
 have e5:cF (Q13 q w p (.tup (ts.map tbl)) (some (.tup as)) (some (.loc m)) t' s' (some (.loc l)) none none none) S4=.ok (.next (Q13 q w p (.tup (ts.map tbl)) (some (.tup as)) (some (.loc m)) t' s' (some (.loc l)) (some (.int n)) none none)) S4:=by
  unfold cF
  simp? [nH hq4 (show atI ((c0::cs).map MV.int) 0=some (.int c0)from at0 _ _),hn]
 have e6:cG (Q13 q w p (.tup (ts.map tbl)) (some (.tup as)) (some (.loc m)) t' s' (some (.loc l)) (some (.int n)) none none) S4=.ok (.next (Q13 q w p (.tup (ts.map tbl)) (some (.tup as)) (some (.loc m)) t' s' (some (.loc l)) (some (.int n)) (some (.loc S4.length)) none)) (S4++[.lst []]):=by
  unfold cG
  simp? [bok]
 obtain⟨n',k',hd,l7,hds,hd4⟩:=zUJ (S:=S4) (q:=q) (w:=w) (p:=p) (tt:=.tup (ts.map tbl)) (a:=some (.tup as)) (tm:=some (.loc m)) (t:=t') (s:=s') hl4 th [] [] n none rfl (List.Sublist.refl _) (by decide)
 have hlen: ∀T,jS [.val (.loc l)] (S4++T)=.ok (.val (.int (th.length:Nat))) (S4++T):=λT=>by rw [zIO (zUI hl4),lM]
 have hr: ∀S,zEJ [.val (.int (th.length:Nat))] S=.ok ⟨(List.range' 0 th.length).map λi=>MV.int (i:Nat),[]⟩ S:=λS=>by
  rw [zHB (by omega),toNat_natCast,List.range_eq_range']
 have e7:cH (Q13 q w p (.tup (ts.map tbl)) (some (.tup as)) (some (.loc m)) t' s' (some (.loc l)) (some (.int n)) (some (.loc S4.length)) none) (S4++[.lst []])=.ok (.next (Q13 q w p (.tup (ts.map tbl)) (some (.tup as)) (some (.loc m)) t' s' (some (.loc l)) (some (.int n')) (some (.loc S4.length)) k')) (S4++[.lst (hd.map MV.str)]):=by
  unfold cH
  simp? [hlen,hr]
  exact l7
 have hg:=xN S4 (MO.lst (hd.map MV.str))
 have nd:=(hds.trans hsub).nodup hnd
 have memW: ∀y∈hd,y∈ws/\y∈zNS as:=λy hy=>by
  have h:=hds.subset hy
  rw [hth,mem_filter]at h
  exact⟨h.1,yLB hA (of_decide_eq_true h.2)⟩
 have fin: ∀(hs:List (List Nat))(g:Nat)(V:Sto),(S4++V)[g]? =some (.lst (hs.map MV.str))->kX (Q13 q w p (.tup (ts.map tbl)) (some (.tup as)) (some (.loc m)) t' s' (some (.loc l)) (some (.int n')) (some (.loc S4.length)) k') (S4++[.lst (hd.map MV.str)])=.ok (.next (Q13 q w p (.tup (ts.map tbl)) (some (.tup as)) (some (.loc m)) t' s' (some (.loc l)) (some (.int n')) (some (.loc g)) k')) (S4++V)->zS 5 xO [.val (.loc q),.val (.tup (ts.map tbl)),.val (.loc w),.val (.loc p),.val (.int 7)] S=.ok (.val (qV hs as)) S:=by
  intro hs g V hgV e8
  have e9:cI (Q13 q w p (.tup (ts.map tbl)) (some (.tup as)) (some (.loc m)) t' s' (some (.loc l)) (some (.int n')) (some (.loc g)) k') (S4++V)=.ok (.ret (.val (qV hs as))) (S4++V):=by
   unfold cI qV
   simp? [zIV hgV,tup2]
  have hpd:pd (qV hs as)=true:=by
   unfold qV
   rw [wR,yP,yP,dQ,wR,wR,dS (λd hd=>(zOK d hd).1),dS (λd hd=>(zQB (hA d hd)).1)]
   rfl
  refine zBA (T:=U++[.lst (th.map MV.str)]++V) rfl ?_ (zQA hpd) (λl=>by unfold qV;simp)
  rw [show S++(U++[MO.lst (th.map MV.str)]++V)=S4++V by rw [hS4];simp only [aA]]
  show xO [.loc q,.tup (ts.map tbl),.loc w,.loc p,.int 7] S=_
  unfold xO zGM
  rw [hst,zC e1,zC e2,zC e3,zC e4,zC e5,zC e6,zC e7,zC e8,e9]
  rfl
 by_cases hodd:n' % 2=1
 ·refine⟨hd.reverse,as,a1,hA,λy hy=>hN y (memW y (List.mem_reverse.mp hy)).1,by rw [List.length_reverse];exact hd4,(by unfold List.Nodup;rw [List.pairwise_reverse];exact List.Pairwise.imp (λh e=>h e.symm) nd),λy hy=>(memW y (List.mem_reverse.mp hy)).2,fin _ (S4++[MO.lst (hd.map MV.str)]).length ([.lst (hd.map MV.str)]++[.lst (hd.reverse.map MV.str)]) (by rw [<-aA];exact xN _ _) ?_⟩
  have st:zVX (-1) (.val (.loc S4.length)) none none (S4++[.lst (hd.map MV.str)])=.ok (.new (hd.reverse.map MV.str)) (S4++[.lst (hd.map MV.str)]):=by
   unfold zVX
   rw [zEN hg]
   dsimp only
   rw [yHP,iP (fits (by rw [List.length_reverse,lM];omega)),List.map_reverse]
  unfold kX
  simp? [mod_lit (show(0:Int)<2 by decide),dT0 hodd,st]
  rw [aA]
 ·refine⟨hd,as,a1,hA,λy hy=>hN y (memW y hy).1,hd4,nd,λy hy=>(memW y hy).2,fin _ S4.length [.lst (hd.map MV.str)] hg ?_⟩
  unfold kX
  simp? [mod_lit (show(0:Int)<2 by decide),dF0 hodd,fT,iF]
end
theorem zLN(ns:List Int)(k:Int)(hk:0<=k)(S:Sto): ∃c,zS 2 yC [.val (.scr (ns.map MV.int)),.val (.int k)] S=.ok (.val (.int c)) S:=by
 have hlen:jS [.val (.scr (ns.map MV.int))] S=.ok (.val (.int ns.length)) S:=by
  show R.ok (Er.val (.int (((ns.map MV.int).length:Nat):Int))) S=_
  rw [lM]
 have e1:dB [some (.scr (ns.map MV.int)),some (.int k)] S=if decide (k<ns.length)=true then(ixF (.val (.scr (ns.map MV.int))) (.val (.int k)) S).bind λr S1=>.ok (.ret r) S1 else .ok (.next [some (.scr (ns.map MV.int)),some (.int k)]) S:=by
  unfold dB
  simp? [hlen,lt_int]
 have fin: ∀c,yC [.scr (ns.map MV.int),.int k] S=.ok (.val (.int c)) S-> ∃c,zS 2 yC [.val (.scr (ns.map MV.int)),.val (.int k)] S=.ok (.val (.int c)) S:=λc h=>⟨c,yI rfl h (zPL _ _) (λl=>by simp)⟩
 have hs:zP ["_law_script","_law_k"] [.scr (ns.map MV.int),.int k]=[some (.scr (ns.map MV.int)),some (.int k)]:=rfl
 by_cases hlt:k<ns.length
 ·obtain⟨d,hd⟩:=dI (xs:=ns.map MV.int) (i:=k) hk (by rw [lM];exact hlt)
  obtain⟨c,rfl⟩: ∃c,d=.int c:=dL (P:=λd=> ∃c,d=.int c) (λe he=>by obtain⟨c,_,rfl⟩:=mM.mp he;exact⟨c,rfl⟩) hd
  have hix:ixF (.val (.scr (ns.map MV.int))) (.val (.int k)) S=.ok (.val (.int c)) S:=by
   show(match atI (ns.map MV.int) k with |some d=>R.ok (Er.val d) S|none=>.no)=_
   rw [hd]
  refine fin c ?_
  rw [dT0 hlt,iP rfl,hix,bok]at e1
  unfold yC zBG
  rw [hs,wF e1]
  rfl
 ·refine fin 0 ?_
  rw [dF0 hlt,iN xF0]at e1
  unfold yC zBG
  rw [hs,zC e1]
  rfl
def Gd(ts:List (Int×Int))(z:List (List Nat)×List MV):Prop:=1<=z.2.length/\z.2.length<=4/\(∀d∈z.2,kL ts d)/\(∀y∈z.1,Nm y)/\z.1.length<=4/\z.1.Nodup/\ ∀y∈z.1,y∈zNS z.2
def tp(z:List (List Nat)×List MV):MV:=.tup [.str (qT z.1 z.2),qV z.1 z.2]
theorem sm_at{ts:List (Int×Int)}{a:MV}(h:kL ts a):sm a=true:=by
 obtain⟨t,tms,p,rfl,_,_,_,h3,h4,h5,hT⟩:=h
 have ht: ∀d∈tms,sm d=true:=λd hd=>by
  rcases hT d hd with⟨x,_,rfl⟩|⟨v,hv,rfl⟩
  ·rfl
  ·rcases nB hv with⟨i,rfl,_⟩|⟨x,rfl,_⟩<;>rfl
 have h1:sm (.tup tms)=true:=by
  rw [zMK,dT0 (show tms.length<1000 by omega),zIW ht]
  rfl
 rw [zMK,dT0 (by simp),zIW λd hd=>?_]
 ·rfl
 ·simp only [mC,nM0,or_false]at hd
  rcases hd with rfl|rfl
  ·rfl
  ·exact h1
theorem al_ok{ts:List (Int×Int)}{z:List (List Nat)×List MV}(h:Gd ts z)(S:Sto):zS 2 (zQ 8) [.val (qV z.1 z.2),.val (qV z.1 z.2)] S=.ok (.val (.bl true)) S:=by
 obtain⟨h1,h4,hA,hN,hl,hn,hin⟩:=h
 refine zWW 8 S ?_ ?_ ?_
 ·unfold qV
  rw [wR,yP,yP,dQ,wR,wR,dS (λd hd=>(zOK d hd).1),dS (λd hd=>(zQB (hA d hd)).1)]
  rfl
 ·unfold qV
  have a1:sm (.tup (z.1.map MV.str))=true:=by
   rw [zMK,dT0 (show(z.1.map MV.str).length<1000 by rw [lM];omega),zIW λd hd=>by obtain⟨y,_,rfl⟩:=mM.mp hd;rfl]
   rfl
  have a2:sm (.tup z.2)=true:=by
   rw [zMK,dT0 (show z.2.length<1000 by omega),zIW λd hd=>sm_at (hA d hd)]
   rfl
  rw [zMK,dT0 (by simp),zIW λd hd=>?_]
  ·rfl
  ·simp only [mC,nM0,or_false]at hd
   rcases hd with rfl|rfl
   ·exact a1
   ·exact a2
 ·unfold qV
  have d1:zMI (z.1.map MV.str)<=0:=zOJ λd hd=>by obtain⟨u,_,rfl⟩:=mM.mp hd;rw [zCK];exact le_refl _
  have d2:zMI z.2<=3:=zOJ λd hd=>(zQB (hA d hd)).2
  rw [dR,xX,xX,zER,dR,dR]
  omega
abbrev L10(ns:List Int)(tt:MV)(st m c q t:Option MV):Rho:=[some (.scr (ns.map MV.int)),some (.loc 0),some (.loc 1),some tt,some (.loc 2),st,m,c,q,t]
theorem zXH(ns:List Int)(s0:Int)(h0:0<=s0)(S:Sto): ∀(L:List Nat), ∃cs:List Int,cs.length=L.length/\xG (gNm 0) zMB zIT [none,some (.scr (ns.map MV.int)),some (.int s0)] [] (L.map λk=>MV.int (k:Nat)) S=.ok (cs.map MV.int) S
 |[]=>⟨[],rfl,rfl⟩
 |k::L=>by
  obtain⟨cs,h1,h2⟩:=zXH ns s0 h0 S L
  obtain⟨c,hc⟩:=zLN ns (s0+(k:Nat)) (by omega) S
  refine⟨c::cs,by rw [lC,lC,h1],?_⟩
  have e:zIT [some (.int (k:Nat)),some (.scr (ns.map MV.int)),some (.int s0)] S=.ok (.val (.int c)) S:=by
   unfold zIT
   simp? [hc]
  rw [map_cons]
  unfold xG
  rw [show gNm 0 (.int (k:Nat)) [none,some (.scr (ns.map MV.int)),some (.int s0)] S=.ok [some (.int (k:Nat)),some (.scr (ns.map MV.int)),some (.int s0)] S from rfl,wB,bok,show zMB [some (.int (k:Nat)),some (.scr (ns.map MV.int)),some (.int s0)] S=.ok true S from rfl,wB,bok,iP rfl,e,wB,bok]
  unfold nG
  rw [bok,iP (wD _),h2]
  rfl
section
variable{ns:List Int}{ts:List (Int×Int)}{ws:List (List Nat)}{vs:List MV}
theorem yHV{s0:Int}{zs:List (List (List Nat)×List MV)}{U:Sto}{m c q t:Option MV}(h0:0<=s0)(hT:TOk ts)(h6:ws.length=6)(hN: ∀y∈ws,Nm y)(hnd:ws.Nodup)(h7:vs.length=7)(hV: ∀d∈vs,Vl d)(hz:zs.length<=10):
  ∃z m' c' q' t' U',Gd ts z/\zTT (L10 ns (.tup (ts.map tbl)) (some (.int s0)) m c q t) (.lst (ws.map MV.str)::.lst vs::.lst (zs.map tp)::U)=.ok (.next (L10 ns (.tup (ts.map tbl)) (some (.int s0)) m' c' q' t')) (.lst (ws.map MV.str)::.lst vs::.lst ((zs++[z]).map tp)::U'):=by
 obtain⟨S,hS⟩: ∃S:Sto,S=.lst (ws.map MV.str)::.lst vs::.lst (zs.map tp)::U:=⟨_,rfl⟩
 obtain⟨x,hx⟩:=zLN ns s0 h0 S
 have m0:0<=x / 64 % 4:=eN _ (by decide)
 have m1:x / 64 % 4<4:=eL _ (by decide)
 obtain⟨cs,hcl,hcc⟩:=zXH ns s0 h0 S (List.range (1+(1+x / 64 % 4)).toNat)
 rw [length_range]at hcl
 match cs,hcl,hcc with
 |[],hcl,_=>simp only [length_nil]at hcl;omega
 |c0::cr,hcl,hcc=>
  rw [lC]at hcl
  obtain⟨S2,hS2⟩: ∃S2:Sto,S2=S++[.lst ((c0::cr).map MV.int)]:=⟨_,rfl⟩
  have hw:S2[0]? =some (.lst (ws.map MV.str)):=by rw [hS2,hS];rfl
  have hp:S2[1]? =some (.lst vs):=by rw [hS2,hS];rfl
  have hq:S2[S.length]? =some (.lst ((c0::cr).map MV.int)):=by rw [hS2];exact xN _ _
  have ht:S2[2]? =some (.lst (zs.map tp)):=by rw [hS2,hS];rfl
  obtain⟨hs,as,a1,hA,hNs,hl4,hsn,hin,hqc⟩:=yHU (S:=S2) (q:=S.length) (w:=0) (p:=1) hT hw h6 hN hnd hp h7 hV hq (by omega) (by omega)
  have as1:1<=as.length:=by omega
  have as4:as.length<=4:=by omega
  have G:Gd ts (hs,as):=⟨as1,as4,hA,hNs,hl4,hsn,hin⟩
  have hrl:((List.range (1+(1+x / 64 % 4)).toNat).map λk=>MV.int (k:Nat)).length<1000000:=by rw [lM,length_range];omega
  refine⟨(hs,as),some (.int (1+x / 64 % 4)),some (.loc S.length),some (qV hs as),some (.str (qT hs as)),U++[.lst ((c0::cr).map MV.int)],G,?_⟩
  have e1:zMC (L10 ns (.tup (ts.map tbl)) (some (.int s0)) m c q t) S=.ok (.next (L10 ns (.tup (ts.map tbl)) (some (.int s0)) (some (.int (1+x / 64 % 4))) c q t)) S:=by
   unfold zMC
   simp? [hx,yX (b:=64) (by decide) (by decide),mod_lit (show(0:Int)<4 by decide)]
  have e2:zMD (L10 ns (.tup (ts.map tbl)) (some (.int s0)) (some (.int (1+x / 64 % 4))) c q t) S=.ok (.next (L10 ns (.tup (ts.map tbl)) (some (.int s0)) (some (.int (1+x / 64 % 4))) (some (.loc S.length)) q t)) S2:=by
   unfold zMD
   simp? [zHB (S:=S) (j:=1+(1+x / 64 % 4)) (by omega),hrl,show blk 1 [0,5] (L10 ns (.tup (ts.map tbl)) (some (.int s0)) (some (.int (1+x / 64 % 4))) c q t)=[none,some (.scr (ns.map MV.int)),some (.int s0)]from rfl,hcc]
   rw [hS2]
  have e3:zME (L10 ns (.tup (ts.map tbl)) (some (.int s0)) (some (.int (1+x / 64 % 4))) (some (.loc S.length)) q t) S2=.ok (.next (L10 ns (.tup (ts.map tbl)) (some (.int s0)) (some (.int (1+x / 64 % 4))) (some (.loc S.length)) (some (qV hs as)) t)) S2:=by
   unfold zME
   simp? [hqc]
  have e4:zMF (L10 ns (.tup (ts.map tbl)) (some (.int s0)) (some (.int (1+x / 64 % 4))) (some (.loc S.length)) (some (qV hs as)) t) S2=.ok (.next (L10 ns (.tup (ts.map tbl)) (some (.int s0)) (some (.int (1+x / 64 % 4))) (some (.loc S.length)) (some (qV hs as)) (some (.str (qT hs as))))) S2:=by
   unfold zMF
   simp? [yLY hT hA as4 hNs hl4]
  have e5:zMG (L10 ns (.tup (ts.map tbl)) (some (.int s0)) (some (.int (1+x / 64 % 4))) (some (.loc S.length)) (some (qV hs as)) (some (.str (qT hs as)))) S2=.ok (.next (L10 ns (.tup (ts.map tbl)) (some (.int s0)) (some (.int (1+x / 64 % 4))) (some (.loc S.length)) (some (qV hs as)) (some (.str (qT hs as))))) S2:=by
   unfold zMG
   simp? [show∀(x:List Nat)(S:Sto),hZ [.val (.str x),.val (.typ "str")] S=.ok (.val (.bl true)) S from λ_ _=>rfl,yQB hT as1 as4 hA hNs hl4,zZB (S:=S2) (zOD _ (qT hs as) (qT hs as)),decide_true,Bool.not_true,fT,iF]
  have e6:zMH (L10 ns (.tup (ts.map tbl)) (some (.int s0)) (some (.int (1+x / 64 % 4))) (some (.loc S.length)) (some (qV hs as)) (some (.str (qT hs as)))) S2=.ok (.next (L10 ns (.tup (ts.map tbl)) (some (.int s0)) (some (.int (1+x / 64 % 4))) (some (.loc S.length)) (some (qV hs as)) (some (.str (qT hs as))))) (S2.set 2 (.lst (zs.map tp++[tp (hs,as)]))):=by
   unfold zMH
   simp? [zFS ht,tup2,zIU ht (show(zs.map tp).length<1000000 by rw [lM];omega)]
   rfl
  rw [<-hS]
  unfold zTT
  rw [zC e1,zC e2,zC e3,zC e4,zC e5,e6,hS2,hS,map_append]
  rfl
theorem yCC{st m c:Option MV}(hT:TOk ts)(S:Sto): ∀(zs:List (List (List Nat)×List MV)),(∀z∈zs,Gd ts z)-> ∀(q t:Option MV), ∃q' t',cO (gTp 2 (yB (gNm 9) (yB (gNm 8) gR))) zOG [] (zs.map tp) (L10 ns (.tup (ts.map tbl)) st m c q t) S=.ok (.next (L10 ns (.tup (ts.map tbl)) st m c q' t')) S
 |[],_,q,t=>⟨q,t,rfl⟩
 |z::zs,h,q,t=>by
  have hg:=h z mF0
  have hg':=hg
  obtain⟨h1,h4,hA,hN,hl,hn,hin⟩:=hg'
  obtain⟨q',t',ih⟩:=yCC (st:=st) (m:=m) (c:=c) hT S zs (λe he=>h e (mO _ he)) (some (qV z.1 z.2)) (some (.str (qT z.1 z.2)))
  refine⟨q',t',?_⟩
  have hb:zOG (L10 ns (.tup (ts.map tbl)) st m c (some (qV z.1 z.2)) (some (.str (qT z.1 z.2)))) S=.ok (.next (L10 ns (.tup (ts.map tbl)) st m c (some (qV z.1 z.2)) (some (.str (qT z.1 z.2))))) S:=by
   unfold zOG zSG
   simp? [rq_ok hT h1 h4 hA hN hl hn hin,al_ok hg,Bool.not_true,fT,iF]
  rw [map_cons,yZ (show gTp 2 (yB (gNm 9) (yB (gNm 8) gR)) (tp z) (L10 ns (.tup (ts.map tbl)) st m c q t) S=.ok (L10 ns (.tup (ts.map tbl)) st m c (some (qV z.1 z.2)) (some (.str (qT z.1 z.2)))) S from rfl) hb (wD _)]
  exact ih
end
theorem yHW(ns:List Int)(h:ns.length<=63): ∃S,zSH [.scr (ns.map MV.int)] []=.ok (.val (.bl true)) S:=by
 obtain⟨x0,hx0⟩:=zLN ns 0 (by decide) []
 obtain⟨ws,h6,hN,hnd,hws⟩:=yHQ x0 []
 obtain⟨x1,hx1⟩:=zLN ns 1 (by decide) [.lst (ws.map MV.str)]
 obtain⟨vs0,v7,hV0,hvs⟩:=yKL x1 [.lst (ws.map MV.str)]
 match ws,h6 with
 |w0::wr,h6=>
 obtain⟨vs,hvs'⟩: ∃vs,vs=vs0.set 4 (.str w0):=⟨_,rfl⟩
 have h7:vs.length=7:=by rw [hvs',length_set,v7]
 have hV: ∀d∈vs,Vl d:=λd hd=>by
  rw [hvs']at hd
  rcases List.mem_or_eq_of_mem_set hd with z|z
  ·exact hV0 d z
  ·rw [z];exact hN w0 mF0
 obtain⟨x2,hx2⟩:=zLN ns 2 (by decide) [.lst ((w0::wr).map MV.str),.lst vs]
 obtain⟨ts,hT,hts⟩:=yDO x2 [.lst ((w0::wr).map MV.str),.lst vs]
 have hst:zP yBJ [.scr (ns.map MV.int)]=[some (.scr (ns.map MV.int)),none,none,none,none,none,none,none,none,none]:=rfl
 have e1:zTU [some (.scr (ns.map MV.int)),none,none,none,none,none,none,none,none,none] []=.ok (.next [some (.scr (ns.map MV.int)),some (.loc 0),none,none,none,none,none,none,none,none]) [.lst ((w0::wr).map MV.str)]:=by
  unfold zTU
  simp? [hx0,hws]
  rfl
 have e2:zTV [some (.scr (ns.map MV.int)),some (.loc 0),none,none,none,none,none,none,none,none] [.lst ((w0::wr).map MV.str)]=.ok (.next [some (.scr (ns.map MV.int)),some (.loc 0),some (.loc 1),none,none,none,none,none,none,none]) [.lst ((w0::wr).map MV.str),.lst vs0]:=by
  unfold zTV
  simp? [hx1,hvs]
  rfl
 have g0:([MO.lst ((w0::wr).map MV.str),.lst vs0]:Sto)[0]? =some (.lst ((w0::wr).map MV.str)):=rfl
 have g1:([MO.lst ((w0::wr).map MV.str),.lst vs0]:Sto)[1]? =some (.lst vs0):=rfl
 have e3:zTW [some (.scr (ns.map MV.int)),some (.loc 0),some (.loc 1),none,none,none,none,none,none,none] [.lst ((w0::wr).map MV.str),.lst vs0]=.ok (.next [some (.scr (ns.map MV.int)),some (.loc 0),some (.loc 1),none,none,none,none,none,none,none]) [.lst ((w0::wr).map MV.str),.lst vs]:=by
  unfold zTW
  simp? [nH g0 (show atI ((w0::wr).map MV.str) 0=some (.str w0)from at0 _ _),zOH,zWN (j:=4) g1 (show ixN vs0.length 4=some 4 by rw [v7];rfl)]
  rw [hvs']
 have e4:zTX [some (.scr (ns.map MV.int)),some (.loc 0),some (.loc 1),none,none,none,none,none,none,none] [.lst ((w0::wr).map MV.str),.lst vs]=.ok (.next [some (.scr (ns.map MV.int)),some (.loc 0),some (.loc 1),some (.tup (ts.map tbl)),none,none,none,none,none,none]) [.lst ((w0::wr).map MV.str),.lst vs]:=by
  unfold zTX
  simp? [hx2,hts]
 have e5:zTY [some (.scr (ns.map MV.int)),some (.loc 0),some (.loc 1),some (.tup (ts.map tbl)),none,none,none,none,none,none] [.lst ((w0::wr).map MV.str),.lst vs]=.ok (.next (L10 ns (.tup (ts.map tbl)) none none none none none)) [.lst ((w0::wr).map MV.str),.lst vs,.lst []]:=by
  unfold zTY
  simp? [bok]
  try rfl
 obtain⟨z1,m1,c1,q1,t1,U1,G1,b1⟩:=yHV (ns:=ns) (ts:=ts) (ws:=w0::wr) (vs:=vs) (s0:=3) (zs:=[]) (U:=[]) (m:=none) (c:=none) (q:=none) (t:=none) (by decide) hT h6 hN hnd h7 hV (by decide)
 obtain⟨z2,m2,c2,q2,t2,U2,G2,b2⟩:=yHV (ns:=ns) (ts:=ts) (ws:=w0::wr) (vs:=vs) (s0:=8) (zs:=[z1]) (U:=U1) (m:=m1) (c:=c1) (q:=q1) (t:=t1) (by decide) hT h6 hN hnd h7 hV (by simp)
 have e6:zTZ (L10 ns (.tup (ts.map tbl)) none none none none none) [.lst ((w0::wr).map MV.str),.lst vs,.lst []]=.ok (.next (L10 ns (.tup (ts.map tbl)) (some (.int 8)) m2 c2 q2 t2)) (.lst ((w0::wr).map MV.str)::.lst vs::.lst ([z1,z2].map tp)::U2):=by
  unfold zTZ
  simp? [lst2,show∀(ds:List MV)(S:Sto),itL (.new ds) S=.ok ⟨ds,[]⟩ S from λ_ _=>rfl]
  rw [yZ (show gNm 5 (.int 3) (L10 ns (.tup (ts.map tbl)) none none none none none) [.lst ((w0::wr).map MV.str),.lst vs,.lst []]=.ok (L10 ns (.tup (ts.map tbl)) (some (.int 3)) none none none none) [.lst ((w0::wr).map MV.str),.lst vs,.lst []]from rfl) b1 (wD _)]
  rw [nil_append]
  rw [yZ (show gNm 5 (.int 8) (L10 ns (.tup (ts.map tbl)) (some (.int 3)) m1 c1 q1 t1) (.lst ((w0::wr).map MV.str)::.lst vs::.lst ([z1].map tp)::U1)=.ok (L10 ns (.tup (ts.map tbl)) (some (.int 8)) m1 c1 q1 t1) (.lst ((w0::wr).map MV.str)::.lst vs::.lst ([z1].map tp)::U1)from rfl) b2 (wD _)]
  rfl
 obtain⟨S,hS⟩: ∃S:Sto,S=.lst ((w0::wr).map MV.str)::.lst vs::.lst ([z1,z2].map tp)::U2:=⟨_,rfl⟩
 rw [<-hS]at e6
 have hd:S[2]? =some (.lst ([z1,z2].map tp)):=by rw [hS];rfl
 obtain⟨q3,t3,l3⟩:=yCC (ns:=ns) (ts:=ts) (st:=some (.int 8)) (m:=m2) (c:=c2) hT S [z1,z2,z1] (λz hz=>by
  simp only [mC,nM0,or_false]at hz
  rcases hz with rfl|rfl|rfl
  ·exact G1
  ·exact G2
  ·exact G1) q2 t2
 have hadd:xK (.val (.loc 2)) (.new [tp z1]) S=.ok (.new ([z1,z2,z1].map tp)) S:=by
  rw [zTL (zTN hd) rfl (fits (by simp))]
  rfl
 have e7:zUA (L10 ns (.tup (ts.map tbl)) (some (.int 8)) m2 c2 q2 t2) S=.ok (.next (L10 ns (.tup (ts.map tbl)) (some (.int 8)) m2 c2 q3 t3)) S:=by
  unfold zUA
  simp? [zUF hd,show cN ([z1,z2].map tp) none (some 1)=[tp z1]from rfl,hadd,show∀(ds:List MV)(S:Sto),itL (.new ds) S=.ok ⟨ds,[]⟩ S from λ_ _=>rfl]
  exact l3
 obtain⟨g1',g4,gA,gN,gl,gn,gin⟩:=G1
 have e8:zUB (L10 ns (.tup (ts.map tbl)) (some (.int 8)) m2 c2 q3 t3) S=.ok (.ret (.val (.bl true))) S:=by
  unfold zUB
  simp? [nH hd (show atI ([z1,z2].map tp) 0=some (tp z1)from rfl),show∀S,ixF (.val (tp z1)) (.val (.int 0)) S=.ok (.val (.str (qT z1.1 z1.2))) S from λ_=>rfl,show∀S,ixF (.val (tp z1)) (.val (.int 1)) S=.ok (.val (qV z1.1 z1.2)) S from λ_=>rfl,yLY hT gA g4 gN gl,eq_str,decide_true]
 refine⟨S,?_⟩
 unfold zSH yLR
 rw [hst,zC e1,zC e2,zC e3,zC e4,zC e5,zC e6,zC e7,e8]
 rfl
section
variable{P:Program}{w:World}{K:PySem.W.Frag}{mg:Str->Option Value}{base:Heap}
def top(i:Nat):Stmt:=PySem.Challenge.pw_mendsure_k37_questions_written_and_read.main.body.getD i (.Pass ⟨0,0,0,0⟩)
abbrev zKK:Stmt:=top 6
theorem zXI:FnScope ["thing"] ["thing"] (zG zKK):=fsK (by decide+kernel)
theorem zXJ(D:DefM K mg "is_whole" zKK)(zEX:mg "int"=none)(zK:mg "isinstance"=none)(zKS:mg "bool"=none):(CalM P w K mg base) "is_whole" 1 1 ["thing"] gQ:=
 by have h:=okC (P:=P) (w:=w) (base:=base) D (λ_ _ _ _ _ _ us hl=>match us,hl with |[_],_=>rfl) λf fd F=>okM (k:=0) _ F zXI λcdv A outer s H E hr=>(zH (zN (zFD (zL xH jC rfl zK zR (zB (zA 0) (zB (bB rfl zEX zLV) zD))) (zFC (yFD (zL xH jC rfl zK zR (zB (zA 0) (zB (bB rfl zKS yAY) zD))))))))
    exact h
abbrev zJB:Stmt:=top 7
theorem zZQ:FnScope ["thing"] ["thing"] (zG zJB):=fsK (by decide+kernel)
theorem zZR(D:DefM K mg "is_name" zJB)(cQ:mg "str"=none)(zK:mg "isinstance"=none)(xA:mg "len"=none){zBW:Tok}(jH:mg "MOST_LETTERS"=some (.int 8 zBW))(zEY:mg "all"=none):(CalM P w K mg base) "is_name" 1 1 ["thing"] wP:=
 by have h:=okC (P:=P) (w:=w) (base:=base) D (λ_ _ _ _ _ _ us hl=>match us,hl with |[_],_=>rfl) λf fd F=>okM (k:=0) _ F zZQ λcdv A outer s H E hr=>(zF (yV (zJK (zNA (xU (zV (zL xH jC rfl zK zR (zB (zA 0) (zB (bB rfl cQ zGY) zD))))) (zKB (xU (zTG zE (zL yH wV rfl xA wO (zB (zA 0) zD)) (zOB rfl jH)))))) (zH (zN zGS)) yE) (zH (zN (zL gX (zPF rfl) rfl zEY zPG (zB (zAQ (zG zJB) ["thing"] ["sign"] [] (yFF (zA 0)) rfl (λ_ _ _ _ hN=>(wE 0 hN)) (λ_ _ _ _=>kU) (λ_ _ _ _=>(yAU (zZ [97]) (zA 0) (zZ [122])))) zD)))))
    exact h
abbrev zKL:Stmt:=top 8
theorem zXK:FnScope ["thing"] ["thing"] (zG zKL):=fsK (by decide+kernel)
theorem zXL(D:DefM K mg "is_value" zKL)(zKR:(CalM P w K mg base) "is_whole" 1 1 ["thing"] gQ)(zXQ:mg "abs"=none)(dF:(CalM P w K mg base) "is_name" 1 1 ["thing"] wP):(CalM P w K mg base) "is_value" 2 1 ["thing"] zFH:=
 by have h:=okC (P:=P) (w:=w) (base:=base) D (λ_ _ _ _ _ _ us hl=>match us,hl with |[_],_=>rfl) λf fd F=>okM (k:=1) _ F zXK λcdv A outer s H E hr=>(zF (yV (zV (zI zKR (hr.mono (by decide)) rfl (zB (zA 0) zD))) (zH (zN (pm_lt hr.units (zL yEM yOD rfl zXQ yOE (zB (zA 0) zD)) (zGX zE zE)))) yE) (zH (zN (zI dF (hr.mono (by decide)) rfl (zB (zA 0) zD)))))
    exact h
abbrev zKM:Stmt:=top 10
theorem zXM:FnScope cZ cZ (zG zKM):=fsK (by decide+kernel)
theorem zXN(D:DefM K mg "is_tuple" zKM)(yY:mg "tuple"=none)(zK:mg "isinstance"=none)(xA:mg "len"=none):(CalM P w K mg base) "is_tuple" 1 3 cZ wW:=
 by have h:=okC (P:=P) (w:=w) (base:=base) D (λ_ _ _ _ _ _ us hl=>match us,hl with |[_,_,_],_=>rfl) λf fd F=>okM (k:=0) _ F zXM λcdv A outer s H E hr=>(zH (zN (zFD (zL xH jC rfl zK zR (zB (zA 0) (zB (bB rfl yY jD) zD))) (zFC (yAU (zA 1) (zL yH wV rfl xA wO (zB (zA 0) zD)) (zA 2))))))
    exact h
abbrev cK:Stmt:=top 11
theorem zKN:FnScope ["thing","bound"] ["thing","bound"] (zG cK):=fsK (by decide+kernel)
theorem zKO(D:DefM K mg "is_number_below" cK)(zKR:(CalM P w K mg base) "is_whole" 1 1 ["thing"] gQ):(CalM P w K mg base) "is_number_below" 2 2 ["thing","bound"] xY:=
 by have h:=okC (P:=P) (w:=w) (base:=base) D (λ_ _ _ _ _ _ us hl=>match us,hl with |[_,_],_=>rfl) λf fd F=>okM (k:=1) _ F zKN λcdv A outer s H E hr=>(zH (zN (zFD (zI zKR (hr.mono (by decide)) rfl (zB (zA 0) zD)) (zFC (yJD hr.units zE (zA 0) (zA 1))))))
    exact h
abbrev zMO:Stmt:=top 15
theorem zZS:FnScope ["thing"] ["thing"] (zG zMO):=fsK (by decide+kernel)
theorem zZT(D:DefM K mg "is_term" zMO)(zFY:(CalM P w K mg base) "is_tuple" 1 3 cZ wW)(dF:(CalM P w K mg base) "is_name" 1 1 ["thing"] wP)(zZX:(CalM P w K mg base) "is_value" 2 1 ["thing"] zFH):(CalM P w K mg base) "is_term" 3 1 ["thing"] zIR:=
 by have h:=okC (P:=P) (w:=w) (base:=base) D (λ_ _ _ _ _ _ us hl=>match us,hl with |[_],_=>rfl) λf fd F=>okM (k:=2) _ F zZS λcdv A outer s H E hr=>(zF (yV (xU (zV (zI zFY (hr.mono (by decide)) rfl (zB (zA 0) (zB zE (zB zE zD)))))) (zH (zN zGS)) yE) (zF (yV (zNC hr.units (yA (zA 0) zE) (zZ [118,97,114])) (zH (zN (zI dF (hr.mono (by decide)) rfl (zB (yA (zA 0) zE) zD)))) yE) (zH (zN (zFD (zJL hr.units (yA (zA 0) zE) (zZ [105,115])) (zFC (zI zZX (hr.mono (by decide)) rfl (zB (yA (zA 0) zE) zD))))))))
    exact h
abbrev zJC:Stmt:=top 16
theorem zQH:FnScope zLY ["thing","tables"] (zG zJC):=fsK (by decide+kernel)
theorem zZU(D:DefM K mg "is_atom" zJC)(zFY:(CalM P w K mg base) "is_tuple" 1 3 cZ wW)(zLO:(CalM P w K mg base) "is_number_below" 2 2 ["thing","bound"] xY)(xA:mg "len"=none)(yDW:(CalM P w K mg base) "is_term" 3 1 ["thing"] zIR)(zEY:mg "all"=none):(CalM P w K mg base) "is_atom" 4 2 ["thing","tables"] zIS:=
 by have h:=okC (P:=P) (w:=w) (base:=base) D (λ_ _ _ _ _ _ us hl=>match us,hl with |[_,_],_=>rfl) λf fd F=>okM (k:=3) _ F zQH λcdv A outer s H E hr=>(zF (yV (zJK (zNA (xU (zV (zI zFY (hr.mono (by decide)) rfl (zB (zA 0) (zB zE (zB zE zD)))))) (zKB (xU (zV (zI zLO (hr.mono (by decide)) rfl (zB (yA (zA 0) zE) (zB (zL yH wV rfl xA wO (zB (zA 1) zD)) zD)))))))) (zH (zN zGS)) yE) (zF (zM 2 zQH.nd (yA (yA (zA 1) (yA (zA 0) zE)) zE)) (zH (zN (zFD (zI zFY (hr.mono (by decide)) rfl (zB (yA (zA 0) zE) (zB (zA 2) (zB (zA 2) zD)))) (zFC (zL gX (zPF rfl) rfl zEY zPG (zB (zAQ (zG zJC) zLY ["term"] [] (zGV (yA (zA 0) zE)) rfl (λ_ _ _ _ hN=>(wE 0 hN)) (λ_ _ _ _=>kU) (λ_ _ _ _=>(zI yDW (hr.mono (by decide)) rfl (zB (zA 0) zD)))) zD))))))))
    exact h
abbrev zKP:Stmt:=top 17
theorem zCL:FnScope zKE ["atoms"] (zG zKP):=fsK (by decide+kernel)
theorem zXO(D:DefM K mg "names_in" zKP)(zAI:mg "list"=none):(CalM P w K mg base) "names_in" 1 1 ["atoms"] dA:=
 by have h:=okC (P:=P) (w:=w) (base:=base) D (λ_ _ _ _ _ _ us hl=>match us,hl with |[_],_=>rfl) λf fd F=>okM (k:=0) _ F zCL λcdv A outer s H E hr=>(zF (zM 1 zCL.nd yGG) (zF (gO PassesOwn.never rfl (yGH (zA 0)) (xD 2 zCL.nd) (zH (gO PassesOwn.never rfl (zGV (yA (zA 2) zE)) (xD 3 zCL.nd) (zH (yV (zNC hr.units (yA (zA 3) zE) (zZ [118,97,114])) (zH (zTB zGS (yKE (zA 1) (yA (zA 3) zE)))) yE))))) (zH (zN (xP zZD (yGL rfl) rfl zAI zLC (zB (zA 1) zD))))))
    exact h
abbrev zJD:Stmt:=top 18
theorem zQI:FnScope zIQ ["things","atoms"] (zG zJD):=fsK (by decide+kernel)
theorem zZV(D:DefM K mg "is_head" zJD)(zZW:(CalM P w K mg base) "names_in" 1 1 ["atoms"] dA)(xA:mg "len"=none){zFZ:Tok}(cM:mg "MOST_NAMES"=some (.int 4 zFZ))(zEY:mg "all"=none)(zXR:mg "set"=none):(CalM P w K mg base) "is_head" 2 2 ["things","atoms"] zAW:=
 by have h:=okC (P:=P) (w:=w) (base:=base) D (λ_ _ _ _ _ _ us hl=>match us,hl with |[_,_],_=>rfl) λf fd F=>okM (k:=1) _ F zQI λcdv A outer s H E hr=>(zF (zM 2 zQI.nd (zI zZW (hr.mono (by decide)) rfl (zB (zA 1) zD))) (zF (yV (zJK (zNA (yLM (zL yH wV rfl xA wO (zB (zA 0) zD)) (zOB rfl cM)) (zKB (xU (zV (zL gX (zPF rfl) rfl zEY zPG (zB (zAQ (zG zJD) zIQ ["thing"] [2] (yGH (zA 0)) rfl (λ_ _ _ _ hN=>(wE 0 hN)) (λ_ _ _ _=>kU) (λ_ _ _ _=>(yLN hr.units (zA 0) (zA 1)))) zD))))))) (zH (zN zGS)) yE) (zH (zN (zJL hr.units (yKF rfl rfl xA rfl zXR (zB (zA 0) zD)) (zL yH wV rfl xA wO (zB (zA 0) zD)))))))
    exact h
abbrev zQJ:Stmt:=top 19
theorem yDS:FnScope ["thing"] ["thing"] (zG zQJ):=fsK (by decide+kernel)
theorem yDT(D:DefM K mg "listed" zQJ)(zAI:mg "list"=none)(yY:mg "tuple"=none)(zK:mg "isinstance"=none):(CalM P w K mg base) "listed" 1 1 ["thing"] zHO:=
 by have h:=okC (P:=P) (w:=w) (base:=base) D (λ_ _ _ _ _ _ us hl=>match us,hl with |[_],_=>rfl) λf fd F=>okM (k:=0) _ F yDS λcdv A outer s H E hr=>(zH (zN (zL yDJ yKB rfl zK zR (zB (zA 0) (zB (nF (zB (bB rfl zAI zLC) (zB (bB rfl yY jD) zD))) zD)))))
    exact h
abbrev zEA:Stmt:=top 20
theorem zBT:FnScope zCT ["tables","head","atoms"] (zG zEA):=fsK (by decide+kernel)
theorem zQK(D:DefM K mg "question_of" zEA)(zYA:(CalM P w K mg base) "listed" 1 1 ["thing"] zHO)(nE:mg "enumerate"=none)(yDV:(CalM P w K mg base) "is_atom" 4 2 ["thing","tables"] zIS)(xA:mg "len"=none){zGC:Tok}(cL:mg "MOST_ATOMS"=some (.int 4 zGC))(yDU:(CalM P w K mg base) "is_head" 2 2 ["things","atoms"] zAW)(yY:mg "tuple"=none):(CalM P w K mg base) "question_of" 5 3 ["tables","head","atoms"] kQ:=
 by have h:=okC (P:=P) (w:=w) (base:=base) D (λ_ _ _ _ _ _ us hl=>match us,hl with |[_,_,_],_=>rfl) λf fd F=>okM (k:=4) _ F zBT λcdv A outer s H E hr=>(zF (yV (xU (zV (zI zYA (hr.mono (by decide)) rfl (zB (zA 2) zD)))) (zH bD) yE) (zF (gO PassesOwn.never rfl (yKA rfl nE (zB (zA 2) zD)) (zPA (n:=2) rfl (dH (xD 3 zBT.nd) (dH (xD 4 zBT.nd) zOZ))) (zH (yV (xU (zV (zI yDV (hr.mono (by decide)) rfl (zB (zA 4) (zB (zA 0) zD))))) (zH bD) yE))) (zF (yV (zJK (zNA (xU (zTG zE (zL yH wV rfl xA wO (zB (zA 2) zD)) (zOB rfl cL))) (zNA (xU (zV (zI zYA (hr.mono (by decide)) rfl (zB (zA 1) zD)))) (zKB (xU (zV (zI yDU (hr.mono (by decide)) rfl (zB (zA 1) (zB (zA 2) zD))))))))) (zH bD) yE) (zH (zN (nF (zB (xP wA zAZ rfl yY jD (zB (zA 1) zD)) (zB (xP wA zAZ rfl yY jD (zB (zA 2) zD)) zD))))))))
    exact h
abbrev zFU:Stmt:=top 24
theorem zQY:FnScope ["value"] ["value"] (zG zFU):=fsK (by decide+kernel)
theorem zQZ(D:DefM K mg "show_value" zFU)(cQ:mg "str"=none):(CalM P w K mg base) "show_value" 1 1 ["value"] jN:=
 by have h:=okC (P:=P) (w:=w) (base:=base) D (λ_ _ _ _ _ _ us hl=>match us,hl with |[_],_=>rfl) λf fd F=>okM (k:=0) _ F zQY λcdv A outer s H E hr=>(zH (zN (xP zVZ yOF rfl cQ zGY (zB (zA 0) zD))))
    exact h
abbrev gM:Stmt:=top 25
theorem zEU:FnScope ["text","figures"] ["text"] (zG gM):=fsK (by decide+kernel)
theorem zMP(D:DefM K mg "writes_number" gM)(xA:mg "len"=none){zBV:Tok}(jI:mg "MOST_FIGURES"=some (.int 30 zBV)){zMU:Tok}(zEW:mg "FIGURES"=some (.str (mkS [48,49,50,51,52,53,54,55,56,57]) zMU))(zEY:mg "all"=none):(CalM P w K mg base) "writes_number" 1 1 ["text"] xV:=
 by have h:=okC (P:=P) (w:=w) (base:=base) D (λ_ _ _ _ _ _ us hl=>match us,hl with |[_],_=>rfl) λf fd F=>okM (k:=0) _ F zEU λcdv A outer s H E hr=>(zF (zM 1 zEU.nd (yLH (zV (zLW (zA 0) (zB (zZ [45]) zD))) (zCO (zA 0) (dG zE) gH) (zA 0))) (zF (yV (xU (zTG zE (zL yH wV rfl xA wO (zB (zA 1) zD)) (zOB rfl jI))) (zH (zN zGS)) yE) (zF (yV (xU (zV (zL gX (zPF rfl) rfl zEY zPG (zB (zAQ (zG gM) ["text","figures"] ["figure"] [] (yFF (zA 1)) rfl (λ_ _ _ _ hN=>(wE 0 hN)) (λ_ _ _ _=>kU) (λ_ _ _ _=>(yLN hr.units (zA 0) (yIW (y:=[48,49,50,51,52,53,54,55,56,57]) rfl zEW)))) zD)))) (zH (zN zGS)) yE) (zH (zN (pm_or (zJL hr.units (zA 0) (zZ [48])) (zFC (pm_ne hr.units (yA (zA 1) zE) (zZ [48])))))))))
    exact h
abbrev zFV:Stmt:=top 26
theorem zRA:FnScope ["text"] ["text"] (zG zFV):=fsK (by decide+kernel)
theorem zRB(D:DefM K mg "read_value" zFV)(cQ:mg "str"=none)(zK:mg "isinstance"=none)(dF:(CalM P w K mg base) "is_name" 1 1 ["thing"] wP)(zAJ:(CalM P w K mg base) "writes_number" 1 1 ["text"] xV)(zEX:mg "int"=none):(CalM P w K mg base) "read_value" 2 1 ["text"] wX:=
 by have h:=okC (P:=P) (w:=w) (base:=base) D (λ_ _ _ _ _ _ us hl=>match us,hl with |[_],_=>rfl) λf fd F=>okM (k:=1) _ F zRA λcdv A outer s H E hr=>(zF (yV (xU (zV (zL xH jC rfl zK zR (zB (zA 0) (zB (bB rfl cQ zGY) zD))))) (zH bD) yE) (zF (yV (zV (zI dF (hr.mono (by decide)) rfl (zB (zA 0) zD))) (zH (zN (zA 0))) yE) (zF (yV (zV (zI zAJ (hr.mono (by decide)) rfl (zB (zA 0) zD))) (zH (zN (xP zGZ zYX rfl zEX zLV (zB (zA 0) zD)))) yE) (zH bD))))
    exact h
abbrev zIB:Stmt:=top 28
theorem zUK:FnScope ["term"] ["term"] (zG zIB):=fsK (by decide+kernel)
theorem zUL(D:DefM K mg "show_term" zIB)(zGA:(CalM P w K mg base) "show_value" 1 1 ["value"] jN):(CalM P w K mg base) "show_term" 2 1 ["term"] zCE:=
 by have h:=okC (P:=P) (w:=w) (base:=base) D (λ_ _ _ _ _ _ us hl=>match us,hl with |[_],_=>rfl) λf fd F=>okM (k:=1) _ F zUK λcdv A outer s H E hr=>(zH (zN (yLH (zNC hr.units (yA (zA 0) zE) (zZ [118,97,114])) (zY (zZ [63]) (yA (zA 0) zE)) (zI zGA (hr.mono (by decide)) rfl (zB (yA (zA 0) zE) zD)))))
    exact h
abbrev zCM:Stmt:=top 29
theorem zUM:FnScope ["atom"] ["atom"] (zG zCM):=fsK (by decide+kernel)
theorem zUN(D:DefM K mg "show_atom" zCM)(zGA:(CalM P w K mg base) "show_value" 1 1 ["value"] jN)(zXZ:(CalM P w K mg base) "show_term" 2 1 ["term"] zCE):(CalM P w K mg base) "show_atom" 3 1 ["atom"] zCF:=
 by have h:=okC (P:=P) (w:=w) (base:=base) D (λ_ _ _ _ _ _ us hl=>match us,hl with |[_],_=>rfl) λf fd F=>okM (k:=2) _ F zUM λcdv A outer s H E hr=>(zH (zN (zTR (zZ [32]) (zB (zY (bC (zB (zI zGA (hr.mono (by decide)) rfl (zB (yA (zA 0) zE) zD)) zD)) (zAQ (zG zCM) ["atom"] ["term"] [] (zGV (yA (zA 0) zE)) rfl (λ_ _ _ _ hN=>(wE 0 hN)) (λ_ _ _ _=>kU) (λ_ _ _ _=>(zI zXZ (hr.mono (by decide)) rfl (zB (zA 0) zD))))) zD))))
    exact h
abbrev kM:Stmt:=top 30
theorem zEV:FnScope ["question","head"] ["question"] (zG kM):=fsK (by decide+kernel)
theorem zMQ(D:DefM K mg "show_question" kM)(zXU:(CalM P w K mg base) "show_atom" 3 1 ["atom"] zCF):(CalM P w K mg base) "show_question" 4 1 ["question"] kF:=
 by have h:=okC (P:=P) (w:=w) (base:=base) D (λ_ _ _ _ _ _ us hl=>match us,hl with |[_],_=>rfl) λf fd F=>okM (k:=3) _ F zEV λcdv A outer s H E hr=>(zF (zIM 1 zEV.nd (zG kM) ["question","head"] ["name"] [] (zGV (yA (zA 0) zE)) rfl (λ_ _ _ _ hN=>(wE 0 hN)) (λ_ _ _ _=>kU) (λ_ _ _ _=>(zY (zZ [63]) (zA 0)))) (zH (zN (zTR (zZ [32]) (zB (zY (zA 1) (bC (zB (zZ [58]) (zB (zTR (zZ [32,59,32]) (zB (zAQ (zG kM) ["question","head"] ["atom"] [] (zGV (yA (zA 0) zE)) rfl (λ_ _ _ _ hN=>(wE 0 hN)) (λ_ _ _ _=>kU) (λ_ _ _ _=>(zI zXU (hr.mono (by decide)) rfl (zB (zA 0) zD)))) zD)) zD)))) zD)))))
    exact h
abbrev zIC:Stmt:=top 31
theorem zUO:FnScope ["piece"] ["piece"] (zG zIC):=fsK (by decide+kernel)
theorem zUP(D:DefM K mg "read_name" zIC)(dF:(CalM P w K mg base) "is_name" 1 1 ["thing"] wP):(CalM P w K mg base) "read_name" 2 1 ["piece"] gT:=
 by have h:=okC (P:=P) (w:=w) (base:=base) D (λ_ _ _ _ _ _ us hl=>match us,hl with |[_],_=>rfl) λf fd F=>okM (k:=1) _ F zUO λcdv A outer s H E hr=>(zF (yV (zJK (zNA (xU (zV (zLW (zA 0) (zB (zZ [63]) zD)))) (zKB (xU (zV (zI dF (hr.mono (by decide)) rfl (zB (zCO (zA 0) (dG zE) gH) zD))))))) (zH bD) yE) (zH (zN (zCO (zA 0) (dG zE) gH))))
    exact h
abbrev zID:Stmt:=top 32
theorem zUQ:FnScope ["piece"] ["piece"] (zG zID):=fsK (by decide+kernel)
theorem zUR(D:DefM K mg "read_term" zID)(zIJ:(CalM P w K mg base) "read_name" 2 1 ["piece"] gT)(zGB:(CalM P w K mg base) "read_value" 2 1 ["text"] wX):(CalM P w K mg base) "read_term" 3 1 ["piece"] zCG:=
 by have h:=okC (P:=P) (w:=w) (base:=base) D (λ_ _ _ _ _ _ us hl=>match us,hl with |[_],_=>rfl) λf fd F=>okM (k:=2) _ F zUQ λcdv A outer s H E hr=>(zF (yV (zV (zLW (zA 0) (zB (zZ [63]) zD))) (zH (zN (nF (zB (zZ [118,97,114]) (zB (zI zIJ (hr.mono (by decide)) rfl (zB (zA 0) zD)) zD))))) yE) (zH (zN (nF (zB (zZ [105,115]) (zB (zI zGB (hr.mono (by decide)) rfl (zB (zA 0) zD)) zD))))))
    exact h
abbrev zCN:Stmt:=top 33
theorem zUS:FnScope ["pieces"] ["pieces"] (zG zCN):=fsK (by decide+kernel)
theorem zUT(D:DefM K mg "read_atom" zCN)(xA:mg "len"=none)(zAJ:(CalM P w K mg base) "writes_number" 1 1 ["text"] xV)(zGB:(CalM P w K mg base) "read_value" 2 1 ["text"] wX)(zXT:(CalM P w K mg base) "read_term" 3 1 ["piece"] zCG)(yY:mg "tuple"=none):(CalM P w K mg base) "read_atom" 4 1 ["pieces"] zCH:=
 by have h:=okC (P:=P) (w:=w) (base:=base) D (λ_ _ _ _ _ _ us hl=>match us,hl with |[_],_=>rfl) λf fd F=>okM (k:=3) _ F zUS λcdv A outer s H E hr=>(zF (yV (zJK (zNA (zNC hr.units (zL yH wV rfl xA wO (zB (zA 0) zD)) zE) (zKB (xU (zV (zI zAJ (hr.mono (by decide)) rfl (zB (yA (zA 0) zE) zD))))))) (zH bD) yE) (zH (zN (nF (zB (zI zGB (hr.mono (by decide)) rfl (zB (yA (zA 0) zE) zD)) (zB (xP wA zAZ rfl yY jD (zB (zAQ (zG zCN) ["pieces"] ["piece"] [] (zCA (zCO (zA 0) (dG zE) gH)) rfl (λ_ _ _ _ hN=>(wE 0 hN)) (λ_ _ _ _=>kU) (λ_ _ _ _=>(zI zXT (hr.mono (by decide)) rfl (zB (zA 0) zD)))) zD)) zD))))))
    exact h
abbrev zIE:Stmt:=top 34
theorem zFW:FnScope zHC ["pieces","sign"] (zG zIE):=fsK (by decide+kernel)
theorem zUU(D:DefM K mg "parted_at" zIE):(CalM P w K mg base) "parted_at" 1 2 ["pieces","sign"] jF:=
 by have h:=okC (P:=P) (w:=w) (base:=base) D (λ_ _ _ _ _ _ us hl=>match us,hl with |[_,_],_=>rfl) λf fd F=>okM (k:=0) _ F zFW λcdv A outer s H E hr=>(zF (zM 2 zFW.nd (bC (zB (bC zD) zD))) (zF (gO PassesOwn.never rfl (zCA (zA 0)) (xD 3 zFW.nd) (zH (yV (zNC hr.units (zA 3) (zA 1)) (zH (zFE (cY (zA 2) (zB (bC zD) zD)))) (zH (zFE (cY (yA (zA 2) yNW) (zB (zA 3) zD))))))) (zH (zN (zA 2)))))
    exact h
abbrev kN:Stmt:=top 35
theorem jQ:FnScope kD ["tables","text"] (zG kN):=fsK (by decide+kernel)
theorem zMR(D:DefM K mg "read_question" kN)(cQ:mg "str"=none)(zK:mg "isinstance"=none)(zNP:(CalM P w K mg base) "parted_at" 1 2 ["pieces","sign"] jF)(xA:mg "len"=none)(zIJ:(CalM P w K mg base) "read_name" 2 1 ["piece"] gT)(zXX:(CalM P w K mg base) "read_atom" 4 1 ["pieces"] zCH)(zRH:(CalM P w K mg base) "question_of" 5 3 ["tables","head","atoms"] kQ):(CalM P w K mg base) "read_question" 6 2 ["tables","text"] xW:=
 by have h:=okC (P:=P) (w:=w) (base:=base) D (λ_ _ _ _ _ _ us hl=>match us,hl with |[_,_],_=>rfl) λf fd F=>okM (k:=5) _ F jQ λcdv A outer s H E hr=>(zF (yV (xU (zV (zL xH jC rfl zK zR (zB (zA 1) (zB (bB rfl cQ zGY) zD))))) (zH bD) yE) (zF (zM 2 jQ.nd (zI zNP (hr.mono (by decide)) rfl (zB (yGQ (zA 1) (zB (zZ [32]) zD)) (zB (zZ [58]) zD)))) (zF (yV (yLL hr.units (zL yH wV rfl xA wO (zB (zA 2) zD)) zE) (zH bD) yE) (zF (zIM 3 jQ.nd (zG kN) kD ["piece"] [] (zCA (yA (zA 2) zE)) rfl (λ_ _ _ _ hN=>(wE 0 hN)) (λ_ _ _ _=>kU) (λ_ _ _ _=>(zI zIJ (hr.mono (by decide)) rfl (zB (zA 0) zD)))) (zF (zIM 4 jQ.nd (zG kN) kD ["pieces"] [] (zCA (zI zNP (hr.mono (by decide)) rfl (zB (yA (zA 2) zE) (zB (zZ [59]) zD)))) rfl (λ_ _ _ _ hN=>(wE 0 hN)) (λ_ _ _ _=>kU) (λ_ _ _ _=>(zI zXX (hr.mono (by decide)) rfl (zB (zA 0) zD)))) (zH (zN (zI zRH (hr.mono (by decide)) rfl (zB (zA 0) (zB (zA 3) (zB (zA 4) zD)))))))))))
    exact h
abbrev zBU:Stmt:=top 37
theorem zNV:FnScope ["_law_script","_law_k"] ["_law_script","_law_k"] (zG zBU):=fsK (by decide+kernel)
theorem zNW(D:DefM K mg "_law_cell_at" zBU)(xA:mg "len"=none):(CalM P w K mg base) "_law_cell_at" 1 2 ["_law_script","_law_k"] yC:=
 by have h:=okC (P:=P) (w:=w) (base:=base) D (λ_ _ _ _ _ _ us hl=>match us,hl with |[_,_],_=>rfl) λf fd F=>okM (k:=0) _ F zNV λcdv A outer s H E hr=>(zF (yV (zVW hr.units (zA 1) (zL yH wV rfl xA wO (zB (zA 0) zD))) (zH (zN (yA (zA 0) (zA 1)))) yE) (zH (zN zE)))
    exact h
abbrev zKQ:Stmt:=top 38
theorem zNO:FnScope zKF ["_law_cell","_law_prime"] (zG zKQ):=fsK (by decide+kernel)
theorem zXP(D:DefM K mg "_law_mix" zKQ):(CalM P w K mg base) "_law_mix" 1 2 ["_law_cell","_law_prime"] yM:=
 by have h:=okC (P:=P) (w:=w) (base:=base) D (λ_ _ _ _ _ _ us hl=>match us,hl with |[_,_],_=>rfl) λf fd F=>okM (k:=0) _ F zNO λcdv A outer s H E hr=>(zF (yV (zNC hr.units (yL (zA 0) zE) zE) (zH (zN (yL (xQ (zA 0) zE) (zGX (zGX zE zE) zE)))) yE) (zF (zM 2 zNO.nd (yL (zPC (zY (yL (zA 0) zE) zE) zE) (zA 1))) (zH (zN (zY (zPC (yL (zPC (zA 2) (zA 2)) zE) zE) (zA 2))))))
    exact h
abbrev zIF:Stmt:=top 39
theorem wZ:FnScope zHD ["_law_cell"] (zG zIF):=fsK (by decide+kernel)
theorem zUV(D:DefM K mg "_law_name" zIF)(xT:mg "range"=none):(CalM P w K mg base) "_law_name" 1 1 ["_law_cell"] gU:=
 by have h:=okC (P:=P) (w:=w) (base:=base) D (λ_ _ _ _ _ _ us hl=>match us,hl with |[_],_=>rfl) λf fd F=>okM (k:=0) _ F wZ λcdv A outer s H E hr=>(zF (zM 1 wZ.nd (zZ [97,98,99,100,101,102,103,104,105,106,107,108,109,110,111,112,113,114,115,116,117,118,119,120,121,122])) (zF (zM 2 wZ.nd (xQ (zA 0) zE)) (zF (zM 3 wZ.nd (zZ [])) (zF (gO PassesOwn.never rfl (gS rfl xT (zB (zY zE (yL (zA 0) zE)) zD)) (xD 4 wZ.nd) (zF (zM 3 wZ.nd (zY (zA 3) (yA (zA 1) (yL (zA 2) zE)))) (zH (zM 2 wZ.nd (xQ (zA 2) zE))))) (zH (zN (zA 3)))))))
    exact h
abbrev zIG:Stmt:=top 40
theorem yU:FnScope zHE ["_law_cell"] (zG zIG):=fsK (by decide+kernel)
theorem zUW(D:DefM K mg "_law_pool" zIG)(kB:(CalM P w K mg base) "_law_mix" 1 2 ["_law_cell","_law_prime"] yM)(zXV:(CalM P w K mg base) "_law_name" 1 1 ["_law_cell"] gU)(xA:mg "len"=none):(CalM P w K mg base) "_law_pool" 2 1 ["_law_cell"] gV:=
 by have h:=okC (P:=P) (w:=w) (base:=base) D (λ_ _ _ _ _ _ us hl=>match us,hl with |[_],_=>rfl) λf fd F=>okM (k:=1) _ F yU λcdv A outer s H E hr=>(zF (zM 1 yU.nd (zI kB (hr.mono (by decide)) rfl (zB (zA 0) (zB zE zD)))) (zF (zM 2 yU.nd (zZ [97,98,99,100,101,102,103,104,105,106,107,108,109,110,111,112,113,114,115,116,117,118,119,120,121,122])) (zF (zM 3 yU.nd (zI zXV (hr.mono (by decide)) rfl (zB (zA 1) zD))) (zF (zM 1 yU.nd (xQ (zA 1) (zPC zE (zGX zE zE)))) (zF (zM 4 yU.nd (yL (zA 1) (zL yH wV rfl xA wO (zB (zA 3) zD)))) (zF (zM 5 yU.nd (zY (zY (yAZ (zA 2) (zB (yA (zA 3) (zA 4)) zD)) zE) (yL (xQ (zA 1) zE) zE))) (zF (zM 6 yU.nd (zY (zY (zCO (zA 3) gH (dG (zA 4))) (yA (zA 2) (yL (zA 5) zE))) (zCO (zA 3) (dG (zY (zA 4) zE)) gH))) (zF (zM 1 yU.nd (xQ (zA 1) zE)) (zF (zM 7 yU.nd (zY (yL (zGX (zY (zPC (yL (zA 1) (zGX zE zE)) zE) zE) zE) (zTE (zGX zE zE) zE)) zE)) (zF (yV (zNC hr.units (yL (zA 1) zE) zE) (zH (zM 7 yU.nd (zY (yL (xQ (zA 1) zE) (zTE (zGX zE zE) zE)) zE))) yE) (zH (zN (bC (zB (yL (xQ (zA 1) zE) zE) (zB (zA 7) (zB (zA 3) (zB (zTE zE (zA 7)) (zB (zA 6) (zB (zY (yL (xQ (zA 1) zE) zE) zE) (zB (zY (zA 7) zE) zD))))))))))))))))))))
    exact h
abbrev zAU:Stmt:=top 41
theorem zRC:FnScope ["_law_told","_law_due"] ["_law_told","_law_due"] (zG zAU):=fsK (by decide+kernel)
theorem zRD(D:DefM K mg "_law_alike" zAU)(cQ:mg "str"=none)(zK:mg "isinstance"=none)(zEX:mg "int"=none)(zKS:mg "bool"=none)(zAI:mg "list"=none)(yY:mg "tuple"=none)(xA:mg "len"=none)(zXS:mg "zip"=none)(zEY:mg "all"=none):(CalM P w K mg base) "_law_alike" 8 2 ["_law_told","_law_due"] (zQ 8):=by
 obtain⟨f,fd,hself,F⟩:=D.ex
 have kself:=F.kp
 have bself:=F.binds (ps:=["_law_told","_law_due"]) (λ_ _ _ _ _ _ us hl=>match us,hl with |[_,_],_=>rfl)
 have all: ∀n,FnOk P w K mg base CX0 (0+n) f fd ["_law_told","_law_due"] (spM ⟨K,mg,P,w⟩ 2 (zQ n)):=by
  intro n
  induction n with
  |zero=>exact yLP
  |succ n ih0=>
   have ih: ∀m,m=n->FnOk P w K mg base CX0 (0+m) f fd ["_law_told","_law_due"] (spM ⟨K,mg,P,w⟩ 2 (zQ m)):=λm e=>e▸ih0
   have h:=okM (P:=P) (w:=w) (mg:=mg) (base:=base) (k:=0+n) _ F zRC λcdv A outer s H E hr=>(zF (yV (tm_is (zA 1) yFA) (zH (zN (pm_is (zA 0) yFA))) yE) (zF (yV (zV (zL xH jC rfl zK zR (zB (zA 1) (zB (bB rfl cQ zGY) zD)))) (zH (zN (zFD (zL xH jC rfl zK zR (zB (zA 0) (zB (bB rfl cQ zGY) zD))) (zFC (zJL hr.units (zA 0) (zA 1)))))) yE) (zF (yV (zV (zL xH jC rfl zK zR (zB (zA 1) (zB (bB rfl zEX zLV) zD)))) (zH (zN (zFD (zL xH jC rfl zK zR (zB (zA 0) (zB (bB rfl zEX zLV) zD))) (zFD (yFD (zL xH jC rfl zK zR (zB (zA 0) (zB (bB rfl zKS yAY) zD)))) (zFC (zJL hr.units (zA 0) (zA 1))))))) yE) (zF (yV (zJK (zYP (zV (zL xH jC rfl zK zR (zB (zA 1) (zB (bB rfl zAI zLC) zD)))) (zSZ (xU (zV (zL xH jC rfl zK zR (zB (zA 0) (zB (bB rfl zAI zLC) zD)))))))) (zH (zN zGS)) yE) (zF (yV (zJK (zYP (zV (zL xH jC rfl zK zR (zB (zA 1) (zB (bB rfl yY jD) zD)))) (zSZ (xU (zV (zL xH jC rfl zK zR (zB (zA 0) (zB (bB rfl yY jD) zD)))))))) (zH (zN zGS)) yE) (zH (zN (zFD (zJL hr.units (zL yH wV rfl xA wO (zB (zA 0) zD)) (zL yH wV rfl xA wO (zB (zA 1) zD))) (zFC (zL gX (zPF rfl) rfl zEY zPG (zB (zAQ (zG zAU) ["_law_told","_law_due"] ["_law_one","_law_other"] [] (yOJ rfl zXS (zB (zA 0) (zB (zA 1) zD))) rfl (λ_ _ _ _ hN=>(yNY (n:=2) rfl (yAM (wE 0 hN) (yAM (wE 1 hN) yNX)))) (λ_ _ _ _=>kU) (λ_ _ _ _=>(zOC (ih n rfl) (hr.mono (by omega)) rfl hself kself bself (zB (zA 0) (zB (zA 1) zD))))) zD)))))))))))
   exact h
 exact⟨f,fd,all 8,hself,kself,bself⟩
abbrev zEB:Stmt:=top 42
theorem xI:FnScope zCU ["_law_cell","_law_most"] (zG zEB):=fsK (by decide+kernel)
theorem zQL(D:DefM K mg "_law_tables" zEB)(kB:(CalM P w K mg base) "_law_mix" 1 2 ["_law_cell","_law_prime"] yM)(xT:mg "range"=none)(yY:mg "tuple"=none):(CalM P w K mg base) "_law_tables" 2 2 ["_law_cell","_law_most"] kS:=
 by have h:=okC (P:=P) (w:=w) (base:=base) D (λ_ _ _ _ _ _ us hl=>match us,hl with |[_,_],_=>rfl) λf fd F=>okM (k:=1) _ F xI λcdv A outer s H E hr=>(zF (zM 2 xI.nd (zI kB (hr.mono (by decide)) rfl (zB (zA 0) (zB zE zD)))) (zF (zM 3 xI.nd (zY zE (yL (zA 2) (zA 1)))) (zF (zM 2 xI.nd (xQ (zA 2) (zA 1))) (zF (zM 4 xI.nd (bC zD)) (zF (gO PassesOwn.never rfl (gS rfl xT (zB (zA 3) zD)) (xD 5 xI.nd) (zF (zM 6 xI.nd (zY zE (yL (zA 2) zE))) (zF (zFE (cY (zA 4) (zB (nF (zB (zA 6) (zB (yL (xQ (zA 2) zE) (zY (zA 6) zE)) zD))) zD))) (zH (zM 2 xI.nd (xQ (zA 2) zE)))))) (zH (zN (xP wA zAZ rfl yY jD (zB (zA 4) zD)))))))))
    exact h
abbrev zAV:Stmt:=top 43
theorem yD:FnScope zAR ["_law_cell","_law_many"] (zG zAV):=fsK (by decide+kernel)
theorem zRE(D:DefM K mg "_law_words" zAV)(kB:(CalM P w K mg base) "_law_mix" 1 2 ["_law_cell","_law_prime"] yM)(xT:mg "range"=none):(CalM P w K mg base) "_law_words" 2 2 ["_law_cell","_law_many"] wY:=
 by have h:=okC (P:=P) (w:=w) (base:=base) D (λ_ _ _ _ _ _ us hl=>match us,hl with |[_,_],_=>rfl) λf fd F=>okM (k:=1) _ F yD λcdv A outer s H E hr=>(zF (zM 2 yD.nd (zZ [97,98,99,100,101,102,103,104,105,106,107,108,109,110,111,112,113,114,115,116,117,118,119,120,121,122])) (zF (zM 3 yD.nd (zI kB (hr.mono (by decide)) rfl (zB (zA 0) (zB zE zD)))) (zF (zM 4 yD.nd (zY zE (yL (zA 3) zE))) (zF (zM 5 yD.nd (yL (xQ (zA 3) zE) (zA 4))) (zF (zM 6 yD.nd (zJL hr.units (yL (xQ (zA 3) zE) zE) zE)) (zF (zM 3 yD.nd (xQ (zA 3) zE)) (zF (zM 7 yD.nd (zZ [])) (zF (gO PassesOwn.never rfl (gS rfl xT (zB (zA 4) zD)) (xD 8 yD.nd) (zF (zM 7 yD.nd (zY (zA 7) (yA (zA 2) (yL (zA 3) zE)))) (zH (zM 3 yD.nd (xQ (zA 3) zE))))) (zF (zM 9 yD.nd (yAZ (zA 2) (zB (yA (zA 7) (zA 5)) zD))) (zF (zIM 10 yD.nd (zG zAV) zAR ["_law_k"] [2,5,7,9] (gS rfl xT (zB (zA 1) zD)) rfl (λ_ _ _ _ hN=>(wE 0 hN)) (λ_ _ _ _=>kU) (λ_ _ _ _=>(zY (zY (zCO (zA 3) gH (dG (zA 2))) (yA (zA 1) (yL (zY (zA 4) (zA 0)) zE))) (zCO (zA 3) (dG (zY (zA 2) zE)) gH)))) (zF (yV (zV (zA 6)) (zH (zTB (zY (yA (zA 10) zE) (yA (zA 2) (yL (zA 3) zE))) (yFT (zA 10) zE))) yE) (zH (zN (zA 10))))))))))))))
    exact h
abbrev zIH:Stmt:=top 44
theorem kA:FnScope zHF ["_law_cell","_law_tables_here","_law_words_here","_law_pool_here","_law_wide"] (zG zIH):=fsK (by decide+kernel)
theorem zUX(D:DefM K mg "_law_atom" zIH)(kB:(CalM P w K mg base) "_law_mix" 1 2 ["_law_cell","_law_prime"] yM)(xA:mg "len"=none)(xT:mg "range"=none)(yY:mg "tuple"=none):(CalM P w K mg base) "_law_atom" 2 5 ["_law_cell","_law_tables_here","_law_words_here","_law_pool_here","_law_wide"] gW:=
 by have h:=okC (P:=P) (w:=w) (base:=base) D (λ_ _ _ _ _ _ us hl=>match us,hl with |[_,_,_,_,_],_=>rfl) λf fd F=>okM (k:=1) _ F kA λcdv A outer s H E hr=>(zF (zM 5 kA.nd (zI kB (hr.mono (by decide)) rfl (zB (zA 0) (zB zE zD)))) (zF (zM 6 kA.nd (yL (zA 5) (zL yH wV rfl xA wO (zB (zA 1) zD)))) (zF (zM 5 kA.nd (xQ (zA 5) (zL yH wV rfl xA wO (zB (zA 1) zD)))) (zF (zM 7 kA.nd (bC zD)) (zF (gO PassesOwn.never rfl (gS rfl xT (zB (yA (yA (zA 1) (zA 6)) zE) zD)) (xD 8 kA.nd) (zF (yV (zVW hr.units (yL (zA 5) zE) zE) (zH (zFE (cY (zA 7) (zB (nF (zB (zZ [118,97,114]) (zB (yA (zA 2) (yL (xQ (zA 5) zE) (zL yH wV rfl xA wO (zB (zA 2) zD)))) zD))) zD)))) (zH (zFE (cY (zA 7) (zB (nF (zB (zZ [105,115]) (zB (yA (zA 3) (yL (xQ (zA 5) zE) (zA 4))) zD))) zD))))) (zH (zM 5 kA.nd (xQ (zA 5) zE))))) (zH (zN (nF (zB (zA 6) (zB (xP wA zAZ rfl yY jD (zB (zA 7) zD)) zD))))))))))
    exact h
abbrev kO:Stmt:=top 45
theorem zW:FnScope kE ["_law_cells","_law_tables_here","_law_words_here","_law_pool_here","_law_wide"] (zG kO):=fsK (by decide+kernel)
theorem zMS(D:DefM K mg "_law_question" kO)(zXW:(CalM P w K mg base) "_law_atom" 2 5 ["_law_cell","_law_tables_here","_law_words_here","_law_pool_here","_law_wide"] gW)(yY:mg "tuple"=none)(zAI:mg "list"=none)(kB:(CalM P w K mg base) "_law_mix" 1 2 ["_law_cell","_law_prime"] yM)(xT:mg "range"=none)(xA:mg "len"=none):(CalM P w K mg base) "_law_question" 3 5 ["_law_cells","_law_tables_here","_law_words_here","_law_pool_here","_law_wide"] xO:=
 by have h:=okC (P:=P) (w:=w) (base:=base) D (λ_ _ _ _ _ _ us hl=>match us,hl with |[_,_,_,_,_],_=>rfl) λf fd F=>okM (k:=2) _ F zW λcdv A outer s H E hr=>(zF (zM 5 zW.nd (xP wA zAZ rfl yY jD (zB (zAQ (zG kO) kE ["_law_cell"] [1,2,3,4] (zCA (zCO (zA 0) (dG zE) gH)) rfl (λ_ _ _ _ hN=>(wE 0 hN)) (λ_ _ _ _=>kU) (λ_ _ _ _=>(zI zXW (hr.mono (by decide)) rfl (zB (zA 0) (zB (zA 1) (zB (zA 2) (zB (zA 3) (zB (zA 4) zD)))))))) zD))) (zF (zM 6 zW.nd (bC zD)) (zF (gO PassesOwn.never rfl (zGV (zA 5)) (zPA (n:=2) rfl (dH (xD 7 zW.nd) (dH (xD 8 zW.nd) zOZ))) (zH (zM 6 zW.nd (zY (zA 6) (xP zSU yJI rfl zAI zLC (zB (zA 8) zD)))))) (zF (zIM 9 zW.nd (zG kO) kE ["_law_word"] [6] (zCA (zA 2)) rfl (λ_ _ _ _ hN=>(wE 0 hN)) (λ_ _ _ _=>(yIY (tm_in hr.units (nF (zB (zZ [118,97,114]) (zB (zA 0) zD))) (zA 1)))) (λ_ _ _ _=>(zA 0))) (zF (zM 10 zW.nd (zI kB (hr.mono (by decide)) rfl (zB (yA (zA 0) zE) (zB zE zD)))) (zF (zM 11 zW.nd (bC zD)) (zF (gO PassesOwn.never rfl (gS rfl xT (zB (zL yH wV rfl xA wO (zB (zA 9) zD)) zD)) (xD 12 zW.nd) (zF (yV (zJK (zYP (yLM (yL (zA 10) zE) zE) (zSZ (zVW hr.units (zL yH wV rfl xA wO (zB (zA 11) zD)) zE)))) (zH (zFE (cY (zA 11) (zB (yA (zA 9) (zA 12)) zD)))) yE) (zH (zM 10 zW.nd (xQ (zA 10) zE))))) (zF (yV (zNC hr.units (yL (zA 10) zE) zE) (zH (zM 11 zW.nd (yJG (st:= -1) (by decide) (zA 11) gH gH yFQ))) yE) (zH (zN (nF (zB (xP wA zAZ rfl yY jD (zB (zA 11) zD)) (zB (zA 5) zD)))))))))))))
    exact h
abbrev zEC:Stmt:=top 46
theorem zQM:FnScope ["_law_number_here"] ["_law_number_here"] (zG zEC):=fsK (by decide+kernel)
theorem zQN(D:DefM K mg "_law_number" zEC):(CalM P w K mg base) "_law_number" 33 1 ["_law_number_here"] (zT 33):=by
 obtain⟨f,fd,hself,F⟩:=D.ex
 have kself:=F.kp
 have bself:=F.binds (ps:=["_law_number_here"]) (λ_ _ _ _ _ _ us hl=>match us,hl with |[_],_=>rfl)
 have all: ∀n,FnOk P w K mg base CX0 (0+n) f fd ["_law_number_here"] (spM ⟨K,mg,P,w⟩ 1 (zT n)):=by
  intro n
  induction n with
  |zero=>exact yLP
  |succ n ih0=>
   have ih: ∀m,m=n->FnOk P w K mg base CX0 (0+m) f fd ["_law_number_here"] (spM ⟨K,mg,P,w⟩ 1 (zT m)):=λm e=>e▸ih0
   have h:=okM (P:=P) (w:=w) (mg:=mg) (base:=base) (k:=0+n) _ F zQM λcdv A outer s H E hr=>(zF (yV (zVW hr.units (zA 0) zE) (zH (zN (zY (zZ [45]) (zOC (ih n rfl) (hr.mono (by omega)) rfl hself kself bself (zB (zTE zE (zA 0)) zD))))) yE) (zF (yV (zVW hr.units (zA 0) zE) (zH (zN (yA (zZ [48,49,50,51,52,53,54,55,56,57]) (zA 0)))) yE) (zH (zN (zY (zOC (ih n rfl) (hr.mono (by omega)) rfl hself kself bself (zB (xQ (zA 0) zE) zD)) (yA (zZ [48,49,50,51,52,53,54,55,56,57]) (yL (zA 0) zE)))))))
   exact h
 exact⟨f,fd,all 33,hself,kself,bself⟩
abbrev zFX:Stmt:=top 47
theorem zRF:FnScope ["_law_value_here"] ["_law_value_here"] (zG zFX):=fsK (by decide+kernel)
theorem zRG(D:DefM K mg "_law_value" zFX)(cQ:mg "str"=none)(zK:mg "isinstance"=none)(zED:(CalM P w K mg base) "_law_number" 33 1 ["_law_number_here"] (zT 33)):(CalM P w K mg base) "_law_value" 34 1 ["_law_value_here"] cJ:=
 by have h:=okC (P:=P) (w:=w) (base:=base) D (λ_ _ _ _ _ _ us hl=>match us,hl with |[_],_=>rfl) λf fd F=>okM (k:=33) _ F zRF λcdv A outer s H E hr=>(zF (yV (zV (zL xH jC rfl zK zR (zB (zA 0) (zB (bB rfl cQ zGY) zD)))) (zH (zN (zA 0))) yE) (zH (zN (zI zED (hr.mono (by decide)) rfl (zB (zA 0) zD)))))
    exact h
abbrev zII:Stmt:=top 48
theorem yQ:FnScope zNG ["_law_question_here"] (zG zII):=fsK (by decide+kernel)
theorem zUY(D:DefM K mg "_law_text" zII)(xT:mg "range"=none)(xA:mg "len"=none)(zEX:mg "int"=none)(zED:(CalM P w K mg base) "_law_number" 33 1 ["_law_number_here"] (zT 33))(zUZ:(CalM P w K mg base) "_law_value" 34 1 ["_law_value_here"] cJ):(CalM P w K mg base) "_law_text" 35 1 ["_law_question_here"] zCJ:=
 by have h:=okC (P:=P) (w:=w) (base:=base) D (λ_ _ _ _ _ _ us hl=>match us,hl with |[_],_=>rfl) λf fd F=>okM (k:=34) _ F yQ λcdv A outer s H E hr=>(zF (zM 1 yQ.nd (zZ [])) (zF (gO PassesOwn.never rfl (zGV (yA (zA 0) zE)) (xD 2 yQ.nd) (zH (zM 1 yQ.nd (zY (zY (zY (zA 1) (zZ [63])) (zA 2)) (zZ [32]))))) (zF (zM 1 yQ.nd (zY (zA 1) (zZ [58]))) (zF (gO PassesOwn.never rfl (gS rfl xT (zB (zL yH wV rfl xA wO (zB (yA (zA 0) zE) zD)) zD)) (xD 3 yQ.nd) (zF (zTB (yA (yA (zA 0) zE) (zA 3)) (zPA (n:=2) rfl (dH (xD 4 yQ.nd) (dH (xD 5 yQ.nd) zOZ)))) (zF (zM 1 yQ.nd (zY (zY (zA 1) (yA (bC (zB (zZ [32,59,32]) (zB (zZ [32]) zD))) (xP zGZ zYX rfl zEX zLV (zB (zJL hr.units (zA 3) zE) zD)))) (zI zED (hr.mono (by decide)) rfl (zB (zA 4) zD)))) (zH (gO PassesOwn.never rfl (zGV (zA 5)) (zPA (n:=2) rfl (dH (xD 6 yQ.nd) (dH (xD 7 yQ.nd) zOZ))) (zH (zM 1 yQ.nd (zY (zY (zA 1) (yA (bC (zB (zZ [32]) (zB (zZ [32,63]) zD))) (xP zGZ zYX rfl zEX zLV (zB (zJL hr.units (zA 6) (zZ [118,97,114])) zD)))) (zI zUZ (hr.mono (by decide)) rfl (zB (zA 7) zD)))))))))) (zH (zN (zA 1)))))))
    exact h
abbrev yCD:Stmt:=top 49
theorem zAH:FnScope yBJ ["_law_script"] (zG yCD):=fsK (by decide+kernel)
theorem yQG{f:Addr}{fd:FuncData}(F:Fun K "law" "law" yCD f fd)(zVB:(CalM P w K mg base) "_law_words" 2 2 ["_law_cell","_law_many"] wY)(jK:(CalM P w K mg base) "_law_cell_at" 1 2 ["_law_script","_law_k"] yC)(zXY:(CalM P w K mg base) "_law_pool" 2 1 ["_law_cell"] gV)(zRI:(CalM P w K mg base) "_law_tables" 2 2 ["_law_cell","_law_most"] kS)(xT:mg "range"=none)(zNX:(CalM P w K mg base) "_law_question" 3 5 ["_law_cells","_law_tables_here","_law_words_here","_law_pool_here","_law_wide"] xO)(zGO:(CalM P w K mg base) "show_question" 4 1 ["question"] kF)(cQ:mg "str"=none)(zK:mg "isinstance"=none)(zYB:(CalM P w K mg base) "_law_text" 35 1 ["_law_question_here"] zCJ)(zVA:(CalM P w K mg base) "_law_alike" 8 2 ["_law_told","_law_due"] (zQ 8))(zNY:(CalM P w K mg base) "read_question" 6 2 ["tables","text"] xW):FnOk P w K mg base CX0 36 f fd ["_law_script"] (spM ⟨K,mg,P,w⟩ 1 zSH):=
 by have h:=okM (P:=P) (w:=w) (mg:=mg) (base:=base) (k:=35) _ F zAH λcdv A outer s H E hr=>(zF (zM 1 zAH.nd (zI zVB (hr.mono (by decide)) rfl (zB (zI jK (hr.mono (by decide)) rfl (zB (zA 0) (zB zE zD))) (zB zE zD)))) (zF (zM 2 zAH.nd (zI zXY (hr.mono (by decide)) rfl (zB (zI jK (hr.mono (by decide)) rfl (zB (zA 0) (zB zE zD))) zD))) (zF (zTB (yA (zA 1) zE) (yFT (zA 2) zE)) (zF (zM 3 zAH.nd (zI zRI (hr.mono (by decide)) rfl (zB (zI jK (hr.mono (by decide)) rfl (zB (zA 0) (zB zE zD))) (zB zE zD)))) (zF (zM 4 zAH.nd (bC zD)) (zF (gO PassesOwn.never rfl (zCA (bC (zB zE (zB zE zD)))) (xD 5 zAH.nd) (zF (zM 6 zAH.nd (zY zE (yL (xQ (zI jK (hr.mono (by decide)) rfl (zB (zA 0) (zB (zA 5) zD))) zE) zE))) (zF (zIM 7 zAH.nd (zG yCD) yBJ ["_law_k"] [0,5] (gS rfl xT (zB (zY zE (zA 6)) zD)) rfl (λ_ _ _ _ hN=>(wE 0 hN)) (λ_ _ _ _=>kU) (λ_ _ _ _=>(zI jK (hr.mono (by decide)) rfl (zB (zA 1) (zB (zY (zA 2) (zA 0)) zD))))) (zF (zM 8 zAH.nd (zI zNX (hr.mono (by decide)) rfl (zB (zA 7) (zB (zA 3) (zB (zA 1) (zB (zA 2) (zB zE zD))))))) (zF (zM 9 zAH.nd (zI zGO (hr.mono (by decide)) rfl (zB (zA 8) zD))) (zF (yV (zJK (zNA (xU (zV (zL xH jC rfl zK zR (zB (zA 9) (zB (bB rfl cQ zGY) zD))))) (zKB (yLL hr.units (zA 9) (zI zYB (hr.mono (by decide)) rfl (zB (zA 8) zD)))))) (zH (zN zGS)) yE) (zH (zFE (cY (zA 4) (zB (nF (zB (zA 9) (zB (zA 8) zD))) zD)))))))))) (zF (gO PassesOwn.never rfl (zCA (zY (zA 4) (zCO (zA 4) gH (dG zE)))) (zPA (n:=2) rfl (dH (xD 9 zAH.nd) (dH (xD 8 zAH.nd) zOZ))) (zH (yV (xU (zV (zI zVA (hr.mono (by decide)) rfl (zB (zI zNY (hr.mono (by decide)) rfl (zB (zA 3) (zB (zA 9) zD))) (zB (zA 8) zD))))) (zH (zN zGS)) yE))) (zH (zN (zJL hr.units (zI zGO (hr.mono (by decide)) rfl (zB (yA (yA (zA 4) zE) zE) zD)) (yA (yA (zA 4) zE) zE)))))))))))
    exact h
end
theorem all_mk{l:PySem.W.OpenLaw}{w:World}{K:PySem.W.Frag}{h:Heap}{mg:Str->Option Value}{fa:Addr}(X:K.In h)(GG:h.Ns mainGlobals mg)(hfa:mg "law"=some (.ref fa))
  (D0:DefM K mg "is_whole" zKK)
  (D1:DefM K mg "is_name" zJB)
  (D2:DefM K mg "is_value" zKL)
  (D3:DefM K mg "is_tuple" zKM)
  (D4:DefM K mg "is_number_below" cK)
  (D5:DefM K mg "is_term" zMO)
  (D6:DefM K mg "is_atom" zJC)
  (D7:DefM K mg "names_in" zKP)
  (D8:DefM K mg "is_head" zJD)
  (D9:DefM K mg "listed" zQJ)
  (D10:DefM K mg "question_of" zEA)
  (D11:DefM K mg "show_value" zFU)
  (D12:DefM K mg "writes_number" gM)
  (D13:DefM K mg "read_value" zFV)
  (D14:DefM K mg "show_term" zIB)
  (D15:DefM K mg "show_atom" zCM)
  (D16:DefM K mg "show_question" kM)
  (D17:DefM K mg "read_name" zIC)
  (D18:DefM K mg "read_term" zID)
  (D19:DefM K mg "read_atom" zCN)
  (D20:DefM K mg "parted_at" zIE)
  (D21:DefM K mg "read_question" kN)
  (D22:DefM K mg "_law_cell_at" zBU)
  (D23:DefM K mg "_law_mix" zKQ)
  (D24:DefM K mg "_law_name" zIF)
  (D25:DefM K mg "_law_pool" zIG)
  (D26:DefM K mg "_law_alike" zAU)
  (D27:DefM K mg "_law_tables" zEB)
  (D28:DefM K mg "_law_words" zAV)
  (D29:DefM K mg "_law_atom" zIH)
  (D30:DefM K mg "_law_question" kO)
  (D31:DefM K mg "_law_number" zEC)
  (D32:DefM K mg "_law_value" zFX)
  (D33:DefM K mg "_law_text" zII)
  (D34:DefM K mg "law" yCD)
  {zMU:Tok} {v_FIGURES:Str} (zEW:PySem.W.nsIn K mainGlobals "FIGURES"=some (some (.str v_FIGURES zMU))) (zMT:v_FIGURES=mkS [48,49,50,51,52,53,54,55,56,57])
  {zGC:Tok} (cL:PySem.W.nsIn K mainGlobals "MOST_ATOMS"=some (some (.int 4 zGC)))
  {zBV:Tok} (jI:PySem.W.nsIn K mainGlobals "MOST_FIGURES"=some (some (.int 30 zBV)))
  {zBW:Tok} (jH:PySem.W.nsIn K mainGlobals "MOST_LETTERS"=some (some (.int 8 zBW)))
  {zFZ:Tok} (cM:PySem.W.nsIn K mainGlobals "MOST_NAMES"=some (some (.int 4 zFZ)))
  (zXQ:PySem.W.nsIn K mainGlobals "abs"=some none)
  (zEY:PySem.W.nsIn K mainGlobals "all"=some none)
  (zKS:PySem.W.nsIn K mainGlobals "bool"=some none)
  (nE:PySem.W.nsIn K mainGlobals "enumerate"=some none)
  (zEX:PySem.W.nsIn K mainGlobals "int"=some none)
  (zK:PySem.W.nsIn K mainGlobals "isinstance"=some none)
  (xA:PySem.W.nsIn K mainGlobals "len"=some none)
  (zAI:PySem.W.nsIn K mainGlobals "list"=some none)
  (xT:PySem.W.nsIn K mainGlobals "range"=some none)
  (zXR:PySem.W.nsIn K mainGlobals "set"=some none)
  (cQ:PySem.W.nsIn K mainGlobals "str"=some none)
  (yY:PySem.W.nsIn K mainGlobals "tuple"=some none)
  (zXS:PySem.W.nsIn K mainGlobals "zip"=some none)
  : ∃fd:FuncData,(∀(s:Shared)(v:Value),BindsTo s fd ⟨[v],[]⟩ [("_law_script",v)])/\ ∀base:Heap,K.In base->base.Ns mainGlobals mg->FnOk l.prog w K mg base CX0 36 fa fd ["_law_script"] (zRY K zSH):=by
 have Z_abs:=PySem.W.mg_none_of X GG zXQ
 have Z_all:=PySem.W.mg_none_of X GG zEY
 have Z_bool:=PySem.W.mg_none_of X GG zKS
 have Z_enumerate:=PySem.W.mg_none_of X GG nE
 have Z_int:=PySem.W.mg_none_of X GG zEX
 have Z_isinstance:=PySem.W.mg_none_of X GG zK
 have Z_len:=PySem.W.mg_none_of X GG xA
 have Z_list:=PySem.W.mg_none_of X GG zAI
 have Z_range:=PySem.W.mg_none_of X GG xT
 have Z_set:=PySem.W.mg_none_of X GG zXR
 have Z_str:=PySem.W.mg_none_of X GG cQ
 have Z_tuple:=PySem.W.mg_none_of X GG yY
 have Z_zip:=PySem.W.mg_none_of X GG zXS
 subst zMT
 have M_FIGURES:=PySem.W.mg_of X GG zEW
 have M_MOST_ATOMS:=PySem.W.mg_of X GG cL
 have M_MOST_FIGURES:=PySem.W.mg_of X GG jI
 have M_MOST_LETTERS:=PySem.W.mg_of X GG jH
 have M_MOST_NAMES:=PySem.W.mg_of X GG cM
 refine yPF D34 hfa (λ_ _ _ _ _ _ s v=>.of_eq rfl) λbase f fd F=>?_
 have G0:=zXJ (P:=l.prog) (w:=w) (base:=base) D0 Z_int Z_isinstance Z_bool
 have G1:=zZR (P:=l.prog) (w:=w) (base:=base) D1 Z_str Z_isinstance Z_len M_MOST_LETTERS Z_all
 have G2:=zXL (P:=l.prog) (w:=w) (base:=base) D2 G0 Z_abs G1
 have G3:=zXN (P:=l.prog) (w:=w) (base:=base) D3 Z_tuple Z_isinstance Z_len
 have G4:=zKO (P:=l.prog) (w:=w) (base:=base) D4 G0
 have G5:=zZT (P:=l.prog) (w:=w) (base:=base) D5 G3 G1 G2
 have G6:=zZU (P:=l.prog) (w:=w) (base:=base) D6 G3 G4 Z_len G5 Z_all
 have G7:=zXO (P:=l.prog) (w:=w) (base:=base) D7 Z_list
 have G8:=zZV (P:=l.prog) (w:=w) (base:=base) D8 G7 Z_len M_MOST_NAMES Z_all Z_set
 have G9:=yDT (P:=l.prog) (w:=w) (base:=base) D9 Z_list Z_tuple Z_isinstance
 have G10:=zQK (P:=l.prog) (w:=w) (base:=base) D10 G9 Z_enumerate G6 Z_len M_MOST_ATOMS G8 Z_tuple
 have G11:=zQZ (P:=l.prog) (w:=w) (base:=base) D11 Z_str
 have G12:=zMP (P:=l.prog) (w:=w) (base:=base) D12 Z_len M_MOST_FIGURES M_FIGURES Z_all
 have G13:=zRB (P:=l.prog) (w:=w) (base:=base) D13 Z_str Z_isinstance G1 G12 Z_int
 have G14:=zUL (P:=l.prog) (w:=w) (base:=base) D14 G11
 have G15:=zUN (P:=l.prog) (w:=w) (base:=base) D15 G11 G14
 have G16:=zMQ (P:=l.prog) (w:=w) (base:=base) D16 G15
 have G17:=zUP (P:=l.prog) (w:=w) (base:=base) D17 G1
 have G18:=zUR (P:=l.prog) (w:=w) (base:=base) D18 G17 G13
 have G19:=zUT (P:=l.prog) (w:=w) (base:=base) D19 Z_len G12 G13 G18 Z_tuple
 have G20:=zUU (P:=l.prog) (w:=w) (base:=base) D20
 have G21:=zMR (P:=l.prog) (w:=w) (base:=base) D21 Z_str Z_isinstance G20 Z_len G17 G19 G10
 have G22:=zNW (P:=l.prog) (w:=w) (base:=base) D22 Z_len
 have G23:=zXP (P:=l.prog) (w:=w) (base:=base) D23
 have G24:=zUV (P:=l.prog) (w:=w) (base:=base) D24 Z_range
 have G25:=zUW (P:=l.prog) (w:=w) (base:=base) D25 G23 G24 Z_len
 have G26:=zRD (P:=l.prog) (w:=w) (base:=base) D26 Z_str Z_isinstance Z_int Z_bool Z_list Z_tuple Z_len Z_zip Z_all
 have G27:=zQL (P:=l.prog) (w:=w) (base:=base) D27 G23 Z_range Z_tuple
 have G28:=zRE (P:=l.prog) (w:=w) (base:=base) D28 G23 Z_range
 have G29:=zUX (P:=l.prog) (w:=w) (base:=base) D29 G23 Z_len Z_range Z_tuple
 have G30:=zMS (P:=l.prog) (w:=w) (base:=base) D30 G29 Z_tuple Z_list G23 Z_range Z_len
 have G31:=zQN (P:=l.prog) (w:=w) (base:=base) D31
 have G32:=zRG (P:=l.prog) (w:=w) (base:=base) D32 Z_str Z_isinstance G31
 have G33:=zUY (P:=l.prog) (w:=w) (base:=base) D33 Z_range Z_len Z_int G31 G32
 exact yQG (P:=l.prog) (w:=w) (base:=base) F G28 G22 G25 G27 Z_range G30 G16 Z_str Z_isinstance G33 G26 G21
theorem walk{l:PySem.W.OpenLaw}{q:Program}{loose:List Str}{XP:(Str->Option Value)->Heap->Prop}{YP:World->Heap->Prop}{d:DefRec}{K:Params->PySem.W.Frag}(hn:l.most=some 63)(hdf:d.params.defaults=[])
  (hY: ∀(w:World)(h:Heap),YP w h->(K w.params).In h)
  (F: ∀(w:World)(mg:Str->Option Value)(fa:Addr)(h:Heap),(K w.params).In h->h.Ns mainGlobals mg->mg d.name=some (.ref fa)->
   ∃fd:FuncData,(∀(s:Shared)(u:Value),BindsTo s fd ⟨[u],[]⟩ [("_law_script",u)])/\ ∀base:Heap,(K w.params).In base->base.Ns mainGlobals mg->FnOk l.prog w (K w.params) mg base CX0 36 fa fd ["_law_script"] (zRY (K w.params) zSH)):
  PySem.W.WalkO q loose XP YP l.row.toRowW d [] (λf vs=>PySem.call f vs):=
 L2.walk_of (n:=63) (k:=36) (x:="_law_script") (CX:=λ_=>CX0) (sp:=λw=>zRY (K w.params) zSH) hn (by decide) hdf ⟨rfl,by decide,by decide⟩ hY F
  (λw H a ns hl hO hS=>yFY hO hS (yHW ns hl)) λ_ _ _ _ _ z=>z
end My
end M
end L2
noncomputable def zTw : PySem.Params → PySem.Heap := fun P => { PySem.W.boot_heap P with objs := #[] }
noncomputable def PySem.W.Fast.tw14518717223480187484 := zTw
theorem PySem.W.Fast.te14518717223480187484 : PySem.W.Fast.tw14518717223480187484 = zTw := rfl
noncomputable def PySem.W.Fast.tw5472684857340773023 := zTw
theorem PySem.W.Fast.te5472684857340773023 : PySem.W.Fast.tw5472684857340773023 = zTw := rfl
noncomputable def PySem.W.Fast.tw9190084519665857853 := zTw
theorem PySem.W.Fast.te9190084519665857853 : PySem.W.Fast.tw9190084519665857853 = zTw := rfl
noncomputable def PySem.W.Fast.tw18445271508210038458 := zTw
theorem PySem.W.Fast.te18445271508210038458 : PySem.W.Fast.tw18445271508210038458 = zTw := rfl
noncomputable def PySem.W.Fast.tw17728893043074870791 := zTw
theorem PySem.W.Fast.te17728893043074870791 : PySem.W.Fast.tw17728893043074870791 = zTw := rfl
noncomputable def PySem.W.Fast.tw16948141159290385430 := zTw
theorem PySem.W.Fast.te16948141159290385430 : PySem.W.Fast.tw16948141159290385430 = zTw := rfl
noncomputable def PySem.W.Fast.tw16614665284040772329 := zTw
theorem PySem.W.Fast.te16614665284040772329 : PySem.W.Fast.tw16614665284040772329 = zTw := rfl
noncomputable def PySem.W.Fast.tw10884463305520166086 := zTw
theorem PySem.W.Fast.te10884463305520166086 : PySem.W.Fast.tw10884463305520166086 = zTw := rfl
noncomputable def PySem.W.Fast.tw1907446237833079615 := zTw
theorem PySem.W.Fast.te1907446237833079615 : PySem.W.Fast.tw1907446237833079615 = zTw := rfl
noncomputable def PySem.W.Fast.tw13772795632734931664 := zTw
theorem PySem.W.Fast.te13772795632734931664 : PySem.W.Fast.tw13772795632734931664 = zTw := rfl
noncomputable def PySem.W.Fast.tw17414698471046480004 := zTw
theorem PySem.W.Fast.te17414698471046480004 : PySem.W.Fast.tw17414698471046480004 = zTw := rfl
noncomputable def PySem.W.Fast.tw9061971408805008349 := zTw
theorem PySem.W.Fast.te9061971408805008349 : PySem.W.Fast.tw9061971408805008349 = zTw := rfl
noncomputable def PySem.W.Fast.tw12164173633665629950 := zTw
theorem PySem.W.Fast.te12164173633665629950 : PySem.W.Fast.tw12164173633665629950 = zTw := rfl
open PySem PySem.W PyProof.Rows
set_option maxRecDepth 100000 in
set_option maxHeartbeats 0 in
theorem PySem.Challenge.cw_mendsure_k37_questions_written_and_read_holds : PySem.Challenge.rw_mendsure_k37_questions_written_and_read.Holds := by
  w_on; o_law; k_head; (case hw => w_witness2)
  k_fill
  refine L2.M.My.walk (l := PySem.Challenge.rw_mendsure_k37_questions_written_and_read) rfl rfl (fun w h Y => PySem.W.kIn_of Y) ?F
  case F =>
    intro w mg fa h KX G hmg
    refine' L2.M.My.all_mk KX G hmg ?D0 ?D1 ?D2 ?D3 ?D4 ?D5 ?D6 ?D7 ?D8 ?D9 ?D10 ?D11 ?D12 ?D13 ?D14 ?D15 ?D16 ?D17 ?D18 ?D19 ?D20 ?D21 ?D22 ?D23 ?D24 ?D25 ?D26 ?D27 ?D28 ?D29 ?D30 ?D31 ?D32 ?D33 ?D34 ?zEW ?zMT ?cL ?jI ?jH ?cM ?zXQ ?zEY ?zKS ?nE ?zEX ?zK ?xA ?zAI ?xT ?zXR ?cQ ?yY ?zXS
    (case D0 => exact L2.M.def_mk (by k_is) (by k_is) (by k_is) (by k_is) KX G)
    (case D1 => exact L2.M.def_mk (by k_is) (by k_is) (by k_is) (by k_is) KX G)
    (case D2 => exact L2.M.def_mk (by k_is) (by k_is) (by k_is) (by k_is) KX G)
    (case D3 => exact L2.M.def_mk (by k_is) (by k_is) (by k_is) (by k_is) KX G)
    (case D4 => exact L2.M.def_mk (by k_is) (by k_is) (by k_is) (by k_is) KX G)
    (case D5 => exact L2.M.def_mk (by k_is) (by k_is) (by k_is) (by k_is) KX G)
    (case D6 => exact L2.M.def_mk (by k_is) (by k_is) (by k_is) (by k_is) KX G)
    (case D7 => exact L2.M.def_mk (by k_is) (by k_is) (by k_is) (by k_is) KX G)
    (case D8 => exact L2.M.def_mk (by k_is) (by k_is) (by k_is) (by k_is) KX G)
    (case D9 => exact L2.M.def_mk (by k_is) (by k_is) (by k_is) (by k_is) KX G)
    (case D10 => exact L2.M.def_mk (by k_is) (by k_is) (by k_is) (by k_is) KX G)
    (case D11 => exact L2.M.def_mk (by k_is) (by k_is) (by k_is) (by k_is) KX G)
    (case D12 => exact L2.M.def_mk (by k_is) (by k_is) (by k_is) (by k_is) KX G)
    (case D13 => exact L2.M.def_mk (by k_is) (by k_is) (by k_is) (by k_is) KX G)
    (case D14 => exact L2.M.def_mk (by k_is) (by k_is) (by k_is) (by k_is) KX G)
    (case D15 => exact L2.M.def_mk (by k_is) (by k_is) (by k_is) (by k_is) KX G)
    (case D16 => exact L2.M.def_mk (by k_is) (by k_is) (by k_is) (by k_is) KX G)
    (case D17 => exact L2.M.def_mk (by k_is) (by k_is) (by k_is) (by k_is) KX G)
    (case D18 => exact L2.M.def_mk (by k_is) (by k_is) (by k_is) (by k_is) KX G)
    (case D19 => exact L2.M.def_mk (by k_is) (by k_is) (by k_is) (by k_is) KX G)
    (case D20 => exact L2.M.def_mk (by k_is) (by k_is) (by k_is) (by k_is) KX G)
    (case D21 => exact L2.M.def_mk (by k_is) (by k_is) (by k_is) (by k_is) KX G)
    (case D22 => exact L2.M.def_mk (by k_is) (by k_is) (by k_is) (by k_is) KX G)
    (case D23 => exact L2.M.def_mk (by k_is) (by k_is) (by k_is) (by k_is) KX G)
    (case D24 => exact L2.M.def_mk (by k_is) (by k_is) (by k_is) (by k_is) KX G)
    (case D25 => exact L2.M.def_mk (by k_is) (by k_is) (by k_is) (by k_is) KX G)
    (case D26 => exact L2.M.def_mk (by k_is) (by k_is) (by k_is) (by k_is) KX G)
    (case D27 => exact L2.M.def_mk (by k_is) (by k_is) (by k_is) (by k_is) KX G)
    (case D28 => exact L2.M.def_mk (by k_is) (by k_is) (by k_is) (by k_is) KX G)
    (case D29 => exact L2.M.def_mk (by k_is) (by k_is) (by k_is) (by k_is) KX G)
    (case D30 => exact L2.M.def_mk (by k_is) (by k_is) (by k_is) (by k_is) KX G)
    (case D31 => exact L2.M.def_mk (by k_is) (by k_is) (by k_is) (by k_is) KX G)
    (case D32 => exact L2.M.def_mk (by k_is) (by k_is) (by k_is) (by k_is) KX G)
    (case D33 => exact L2.M.def_mk (by k_is) (by k_is) (by k_is) (by k_is) KX G)
    (case D34 => exact L2.M.def_mk (by k_is) (by k_is) (by k_is) (by k_is) KX G)
    (case zEW => k_is)
    (case zMT => rfl)
    (case cL => k_is)
    (case jI => k_is)
    (case jH => k_is)
    (case cM => k_is)
    (case zXQ => k_is)
    (case zEY => k_is)
    (case zKS => k_is)
    (case nE => k_is)
    (case zEX => k_is)
    (case zK => k_is)
    (case xA => k_is)
    (case zAI => k_is)
    (case xT => k_is)
    (case zXR => k_is)
    (case cQ => k_is)
    (case yY => k_is)
    (case zXS => k_is)
