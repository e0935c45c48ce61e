import PyProof.Rows.All
import Wide.All
import OpenK.AllK
import Wide.FinOn
import Lean
import PyProof.EqAt
import PyProof.EqKinds
import PyProof.TupleCall
import PySem.Challenge.RW_mendsure_k53_books_that_are_not_plain
set_option Elab.async false
set_option linter.all false
set_option maxRecDepth 100000
open List (all_cons all_eq_true contains_cons drop_length ext_getElem? flatten_cons flatten_nil getD_eq_getElem?_getD getElem?_append_left getElem?_append_right getElem?_map getElem?_set_ne getElem?_set_self getElem_inj getElem_mem length_drop length_nil length_range length_replicate length_set map_append map_cons map_map mem_append mem_append_left mem_append_right mem_of_getElem? mem_range nil_append nodup_append nodup_cons of_mem_zip replicate_succ reverse_cons zip_cons_cons)
open Bool (or_eq_true)
open Nat (add_assoc le_of_lt le_refl le_succ le_trans lt_irrefl lt_of_lt_of_le ne_of_gt ne_of_lt sub_self zero_le)
open Int (eq_ofNat_of_zero_le toNat_natCast)
theorem xF0:¬(false=true):=Bool.false_ne_true
theorem t1M{A:Type}{x0 x1:A}{l:List A}:x1∈x0::x1::l:=.tail _ (.head _)
theorem t2M{A:Type}{x0 x1 x2:A}{l:List A}:x2∈x0::x1::x2::l:=(.tail _ (.tail _ (.head _)))
theorem t3M{A:Type}{x0 x1 x2 x3:A}{l:List A}:x3∈x0::x1::x2::x3::l:=(.tail _ (.tail _ (.tail _ (.head _))))
theorem t4M{A:Type}{x0 x1 x2 x3 x4:A}{l:List A}:x4∈x0::x1::x2::x3::x4::l:=(.tail _ (.tail _ (.tail _ (.tail _ (.head _)))))
theorem t5M{A:Type}{x0 x1 x2 x3 x4 x5:A}{l:List A}:x5∈x0::x1::x2::x3::x4::x5::l:=(.tail _ (.tail _ (.tail _ (.tail _ (.tail _ (.head _))))))
theorem t6M{A:Type}{x0 x1 x2 x3 x4 x5 x6:A}{l:List A}:x6∈x0::x1::x2::x3::x4::x5::x6::l:=(.tail _ (.tail _ (.tail _ (.tail _ (.tail _ (.tail _ (.head _)))))))
theorem t7M{A:Type}{x0 x1 x2 x3 x4 x5 x6 x7:A}{l:List A}:x7∈x0::x1::x2::x3::x4::x5::x6::x7::l:=(.tail _ (.tail _ (.tail _ (.tail _ (.tail _ (.tail _ (.tail _ (.head _))))))))
theorem t8M{A:Type}{x0 x1 x2 x3 x4 x5 x6 x7 x8:A}{l:List A}:x8∈x0::x1::x2::x3::x4::x5::x6::x7::x8::l:=(.tail _ (.tail _ (.tail _ (.tail _ (.tail _ (.tail _ (.tail _ (.tail _ (.head _)))))))))
theorem t9M{A:Type}{x0 x1 x2 x3 x4 x5 x6 x7 x8 x9:A}{l:List A}:x9∈x0::x1::x2::x3::x4::x5::x6::x7::x8::x9::l:=(.tail _ (.tail _ (.tail _ (.tail _ (.tail _ (.tail _ (.tail _ (.tail _ (.tail _ (.head _))))))))))
theorem t10M{A:Type}{x0 x1 x2 x3 x4 x5 x6 x7 x8 x9 x10:A}{l:List A}:x10∈x0::x1::x2::x3::x4::x5::x6::x7::x8::x9::x10::l:=(.tail _ (.tail _ (.tail _ (.tail _ (.tail _ (.tail _ (.tail _ (.tail _ (.tail _ (.tail _ (.head _)))))))))))
theorem t11M{A:Type}{x0 x1 x2 x3 x4 x5 x6 x7 x8 x9 x10 x11:A}{l:List A}:x11∈x0::x1::x2::x3::x4::x5::x6::x7::x8::x9::x10::x11::l:=(.tail _ (.tail _ (.tail _ (.tail _ (.tail _ (.tail _ (.tail _ (.tail _ (.tail _ (.tail _ (.tail _ (.head _))))))))))))
abbrev dF0:=@decide_eq_false
abbrev dT0:=@decide_eq_true
abbrev iP:=@if_pos
abbrev iN0:=@if_neg
abbrev mC:=@List.mem_cons
abbrev lC0:=@List.length_cons
abbrev mO:=@List.mem_cons_of_mem
abbrev lM0:=@List.length_map
abbrev nM0:=@List.not_mem_nil
abbrev mS:=@List.mem_singleton
abbrev mF0:=@List.mem_cons_self
abbrev fT:=@Bool.false_eq_true
abbrev sA:=@List.size_toArray
abbrev lS:=@List.length_singleton
abbrev eL:=@Int.emod_lt_of_pos
abbrev eN:=@Int.emod_nonneg
abbrev aE:=@Bool.and_eq_true
abbrev iF:=@if_false
abbrev aN:=@List.append_nil
abbrev lA:=@List.length_append
abbrev gS0:=@List.getElem?_eq_some_iff
abbrev gE0:=@List.getElem?_eq_getElem
abbrev wB0:=@PySem.wpAny_bind
abbrev wP0:=@PySem.wpAny_pure
abbrev hP0:=@PySem.Heap.get?_push_of_some
abbrev mM0:=@List.mem_map
abbrev lT:=@List.length_take
abbrev aA:=@List.append_assoc
namespace L2
open PySem PySem.Spec PyProof.Rows
abbrev Key:=Sum Int Str
def zOQ:Key->Value->Bool
 |.inl k,v=>Value.isInt k v
 |.inr x,v=>Value.isStrOf x v
def keyH(w:World):Key->Int
 |.inl k=>hashInt k
 |.inr x=>hashStr w x
theorem xS: ∀{k:Key}{v:Value},zOQ k v=true->(∃i t,k=Sum.inl i/\v=Value.int i t)\/(∃x t,k=Sum.inr x/\v=Value.str x t)
 |.inl i,v,h=>by
  obtain⟨t,e⟩:=Value.isInt_shape (k:=i) (v:=v) h
  exact .inl ⟨i,t,rfl,e⟩
 |.inr x,v,h=>by
  obtain⟨t,e⟩:=Value.isStrOf_shape (x:=x) (v:=v) h
  exact .inr ⟨x,t,rfl,e⟩
theorem yMP(a b:Int):decide ((Sum.inl a:Key)=Sum.inl b)=(a==b):=by
 by_cases e:a=b
 ·subst e;simp
 ·have h: ¬(Sum.inl a:Key)=Sum.inl b:=λq=>e (Sum.inl.inj q)
  rw [dF0 h]
  exact(beq_eq_false_iff_ne.mpr e).symm
theorem yMQ(a b:Str):decide ((Sum.inr a:Key)=Sum.inr b)=decide (a=b):=by
 by_cases e:a=b
 ·subst e;simp
 ·have h: ¬(Sum.inr a:Key)=Sum.inr b:=λq=>e (Sum.inr.inj q)
  rw [dF0 h,dF0 e]
theorem yMR(a:Int)(b:Str):decide ((Sum.inl a:Key)=Sum.inr b)=false:=dF0 (λq=>nomatch q)
theorem yMS(a:Str)(b:Int):decide ((Sum.inr a:Key)=Sum.inl b)=false:=dF0 (λq=>nomatch q)
def zOC(prog:Program)(w:World):PySem.KeyKind prog w Key where
 is:=zOQ
 hash:=keyH w
 inj:=λv a b ha hb=>by
  rcases xS ha with⟨i,t,rfl,rfl⟩|⟨x,t,rfl,rfl⟩
  ·rcases xS hb with⟨j,u,rfl,e⟩|⟨y,u,rfl,e⟩
   ·injection e with e1 _;rw [e1]
   ·exact nomatch e
  ·rcases xS hb with⟨j,u,rfl,e⟩|⟨y,u,rfl,e⟩
   ·exact nomatch e
   ·injection e with e1 _;rw [e1]
 byValue:=λk v h=>by
  rcases xS h with⟨i,t,rfl,rfl⟩|⟨x,t,rfl,rfl⟩<;>rfl
 pyHash:=λhv h=>by
  rcases xS hv with⟨i,t,rfl,rfl⟩|⟨x,t,rfl,rfl⟩
  ·exact wpAny_pyHash_int h
  ·exact wpAny_pyHash_str h
 eqBool:=λhu hv h=>by
  rcases xS hu with⟨i,t,rfl,rfl⟩|⟨x,t,rfl,rfl⟩
  ·rcases xS hv with⟨j,u,rfl,rfl⟩|⟨y,u,rfl,rfl⟩
   ·rw [yMP]at h;exact wpAny_eqBool_int h
   ·rw [yMR]at h;exact SeqAt.EqAt.int_str i t y u _ _ _ _ h
  ·rcases xS hv with⟨j,u,rfl,rfl⟩|⟨y,u,rfl,rfl⟩
   ·rw [yMS]at h;exact SeqAt.EqAt.str_int x t j u _ _ _ _ h
   ·rw [yMQ]at h;exact wpAny_eqBool_str h
 «strs»:=λk x t v h=>by
  rcases xS h with⟨i,u,rfl,e⟩|⟨y,u,rfl,e⟩
  ·exact nomatch e
  ·injection e with e1 _
   subst e1
   cases v<;>rfl
inductive V where
 |non|bl (b:Bool)|int (i:Int)|str (x:Str)|byt (b:Array UInt8)|flt (b:UInt64)|ref (a:Addr)|ty (n:String)
 deriving DecidableEq
def RelV:V->Value->Prop
 |.non,u=>u=Value.none
 |.bl b,u=>u=Value.bool b
 |.int i,u=> ∃t,u=Value.int i t
 |.str x,u=> ∃t,u=Value.str x t
 |.byt b,u=> ∃t,u=Value.bytes b t
 |.flt b,u=> ∃t,u=Value.float b t
 |.ref a,u=>u=Value.ref a
 |.ty n,u=>u=Value.type n
abbrev Vals:List V->List Value->Prop:=Paired RelV
theorem Vals.length{xs:List V}{us:List Value}(r:Vals xs us):xs.length=us.length:=Paired.length r
theorem Vals.get: ∀{xs:List V}{us:List Value}{i:Nat}{x:V},Vals xs us->xs[i]? =some x-> ∃u,us[i]? =some u/\RelV x u
 |_,_,_,_,.nil,e=>by simp at e
 |_,_,0,_,.cons r _,e=>by simp at e;subst e;exact⟨_,rfl,r⟩
 |_,_,i+1,x,.cons _ t,e=>by
  obtain⟨u,h1,h2⟩:=Vals.get (i:=i) (x:=x) t (by simpa using e)
  exact⟨u,by simpa using h1,h2⟩
theorem Vals.set{x:V}{u:Value}(r:RelV x u): ∀{xs:List V}{us:List Value}(i:Nat),Vals xs us->Vals (xs.set i x) (us.set i u)
 |_,_,_,.nil=>.nil
 |_,_,0,.cons _ t=>.cons r t
 |_,_,i+1,.cons q t=>.cons q (Vals.set r i t)
theorem Vals.append: ∀{xs ys:List V}{us ws:List Value},Vals xs us->Vals ys ws->Vals (xs++ys) (us++ws)
 |_,_,_,_,.nil,s=>s
 |_,_,_,_,.cons r t,s=>.cons r (Vals.append t s)
theorem Vals.take: ∀{xs:List V}{us:List Value}(n:Nat),Vals xs us->Vals (xs.take n) (us.take n)
 |_,_,0,_=>.nil
 |_,_,_+1,.nil=>.nil
 |_,_,n+1,.cons r t=>.cons r (Vals.take n t)
theorem Vals.drop: ∀{xs:List V}{us:List Value}(n:Nat),Vals xs us->Vals (xs.drop n) (us.drop n)
 |_,_,0,r=>r
 |_,_,_+1,.nil=>.nil
 |_,_,n+1,.cons _ t=>Vals.drop n t
def RelO:Option V->Option Value->Prop
 |some v,some u=>RelV v u
 |none,none=>True
 |_,_=>False
def KV{κ:Type}:List (κ×V)->List (κ×Value)->Prop:=Paired λ(p:κ×V) (q:κ×Value)=>p.1=q.1/\RelV p.2 q.2
def kV:Key->V
 |.inl i=>.int i
 |.inr x=>.str x
inductive HO where
 |lst (xs:List V)
 |tup (xs:List V)
 |dK (kvs:List (Key×V))|dT (kvs:List (List Key×V))
 |set (S:Int->Bool) (n:Nat)
 |ins (C dx:Addr) (fs:List (Str×V))
 |own (x:Addr)
 |xd (fs:List (Str×V))
 |met (f x:Addr)
 |rng (lo hi:Int)
 |frz (o:Obj) (u:HO)
 |tbl (ps:Array Value)
 |ext (φ:Heap->Prop)
abbrev Hp:=Addr->Option HO
def upd(H:Hp)(a:Addr)(o:HO):Hp:=λb=>if b=a then some o else H b
theorem xF{H:Hp}{a:Addr}{o:HO}:upd H a o a=some o:=by unfold upd;rw [iP rfl]
theorem yA{H:Hp}{a b:Addr}{o:HO}(h:b≠a):upd H a o b=H b:=by unfold upd;rw [iN0 h]
theorem yC{H:Hp}{a b:Addr}{o:HO}(h:H a=some o)(h':H b=none):a≠b:=by
 intro e;subst e;rw [h]at h';cases h'
section
variable(P:Program)(w:World)
def ObjOk(H:Hp)(h:Heap)(a:Addr):HO->Prop
 |.lst xs=>xs.length<=sizeLine/\ ∃(its:List Value)(n:Nat),Vals xs its/\h.get? a=some {cls:=.type "list",data:=.seq its.toArray n}
 |.tup xs=>xs.length<=sizeLine/\ ∃its:List Value,Vals xs its/\IsTup h a its.toArray
 |.dK kvs=>kvs.length<=sizeLine/\(a==sysModules)=false/\ ∃vs,KV kvs vs/\h.DictOf (zOC P w) a vs
 |.dT kvs=>kvs.length<=sizeLine/\(a==sysModules)=false/\ ∃xs:List (List Key×Addr×Value),
   Paired (λ(p:List Key×V) (q:List Key×Addr×Value)=>p.1=q.1/\H q.2.1=some (.tup (p.1.map kV))/\RelV p.2 q.2.2) kvs xs/\
   ∃o es ep,h.get? a=some o/\o.ExactDict/\o.data=.dict es ep/\es.toList=xs.map (entryOfKey (tupleKind (zOC P w)))/\(xs.map (·.1)).Nodup
 |.set S n=>h.SetOf (intKind P w) a S n
 |.ins C dx fs=>H dx=some (.own a)/\fs.length<=1000/\dx≠a/\h.get? a=some (PySem.W.instObj C dx)/\
   ∃mA,h.Ns1 dx mA/\(∀f,RelO (fs.lookup f) (mA f))/\PySem.Within mA (fs.map (·.1))
 |.own _=> ∃o,h.get? a=some o
 |.xd fs=> ∃mA,h.Ns1 a mA/\ ∀f,RelO (fs.lookup f) (mA f)
 |.rng lo hi=> ∃t u v,h.get? a=some {cls:=.type "range",data:=.fields #[.int lo t,.int hi u,.int 1 v]}
 |.frz o u=>h.get? a=some o/\ObjOk H h a u
 |.tbl ps=>h.get? a=some {cls:=.none,data:=.fields ps}
 |.met f x=>h.get? a=some (PySem.W.methodObj (.ref f) (.ref x))
 |.ext φ=>φ h/\(∃o,h.get? a=some o)/\ ∀h1 h2:Heap,φ h1->(∀o,h1.get? a=some o->h2.get? a=some o)->φ h2
def HOk(H:Hp)(h:Heap):Prop:= ∀a o,H a=some o->ObjOk P w H h a o
end
section
variable{P:Program}{w:World}{H H':Hp}{h h':Heap}{a:Addr}{o:HO}
theorem ObjOk.lt(x:ObjOk P w H h a o):a<h.objs.size:=by
 cases o with
 |lst xs=>obtain⟨_,_,_,_,e⟩:=x;exact Heap.lt_size e
 |tup xs=>obtain⟨_,_,_,p⟩:=x;exact p.lt
 |dK kvs=>obtain⟨_,_,_,_,o,_,_,e,_⟩:=x;exact Heap.lt_size e
 |dT kvs=>obtain⟨_,_,_,_,o,_,_,e,_⟩:=x;exact Heap.lt_size e
 |set S n=>obtain⟨o,_,_,_,e,_⟩:=x;exact Heap.lt_size e
 |ins C dx fs=>obtain⟨_,_,_,e,_⟩:=x;exact Heap.lt_size e
 |own y=>obtain⟨_,e⟩:=x;exact Heap.lt_size e
 |xd fs=>obtain⟨_,⟨_,_,_,e,_⟩,_⟩:=x;exact Heap.lt_size e
 |rng lo hi=>obtain⟨_,_,_,e⟩:=x;exact Heap.lt_size e
 |frz ob u=>obtain⟨e,_⟩:=x;exact Heap.lt_size e
 |tbl ps=>exact Heap.lt_size (show h.get? a=some _ from x)
 |met f y=>exact Heap.lt_size (show h.get? a=some _ from x)
 |ext φ=>obtain⟨_,⟨_,e⟩,_⟩:=x;exact Heap.lt_size e
theorem Paired.mapP{α β:Type}{F G:α->β->Prop}: ∀{l₁:List α}{l₂:List β},Paired F l₁ l₂->(∀a b,F a b->G a b)->Paired G l₁ l₂
 |_,_,.nil,_=>.nil
 |_,_,.cons r t,f=>.cons (f _ _ r) (Paired.mapP t f)
theorem ObjOk.stay(x:ObjOk P w H h a o)(k: ∀b u,(b=a\/H b=some (.own a))->h.get? b=some u->h'.get? b=some u)
  (ho: ∀b,H b=some (.own a)->H' b=some (.own a)) (ht: ∀b xs,H b=some (.tup xs)->H' b=some (.tup xs)):ObjOk P w H' h' a o:=by
 induction o with
 |lst xs=>obtain⟨z,its,n,r,e⟩:=x;exact⟨z,its,n,r,k _ _ (.inl rfl) e⟩
 |tup xs=>obtain⟨z,its,r,ob,e,c⟩:=x;exact⟨z,its,r,ob,k _ _ (.inl rfl) e,c⟩
 |dK kvs=>obtain⟨z,y,vs,r,ob,es,ep,e,c⟩:=x;exact⟨z,y,vs,r,ob,es,ep,k _ _ (.inl rfl) e,c⟩
 |dT kvs=>
  obtain⟨z,y,xs,r,ob,es,ep,e,c⟩:=x
  exact⟨z,y,xs,Paired.mapP r λp q z=>⟨z.1,ht _ _ z.2.1,z.2.2⟩,ob,es,ep,k _ _ (.inl rfl) e,c⟩
 |set S n=>obtain⟨ob,es,ep,t,e,c⟩:=x;exact⟨ob,es,ep,t,k _ _ (.inl rfl) e,c⟩
 |ins C dx fs=>
  obtain⟨d,z,ne,e,mA,⟨od,es,ep,e2,c⟩,r⟩:=x
  exact⟨ho _ d,z,ne,k _ _ (.inl rfl) e,mA,⟨od,es,ep,k _ _ (.inr d) e2,c⟩,r⟩
 |own y=>obtain⟨ob,e⟩:=x;exact⟨ob,k _ _ (.inl rfl) e⟩
 |xd fs=>obtain⟨mA,⟨od,es,ep,e,c⟩,r⟩:=x;exact⟨mA,⟨od,es,ep,k _ _ (.inl rfl) e,c⟩,r⟩
 |rng lo hi=>obtain⟨t,u,v,e⟩:=x;exact⟨t,u,v,k _ _ (.inl rfl) e⟩
 |frz ob u ih=>obtain⟨e,q⟩:=x;exact⟨k _ _ (.inl rfl) e,ih q⟩
 |tbl ps=>
  have e:h.get? a=some {cls:=.none,data:=.fields ps}:=x
  show h'.get? a=some {cls:=.none,data:=.fields ps}
  exact k a _ (.inl rfl) e
 |met f y=>
  have e:h.get? a=some (PySem.W.methodObj (.ref f) (.ref y)):=x
  show h'.get? a=some (PySem.W.methodObj (.ref f) (.ref y))
  exact k a _ (.inl rfl) e
 |ext φ=>obtain⟨p,⟨o,e⟩,st⟩:=x;exact⟨st _ _ p λo q=>k _ _ (.inl rfl) q,⟨o,k _ _ (.inl rfl) e⟩,st⟩
theorem HOk.lt(x:HOk P w H h)(e:H a=some o):a<h.objs.size:=(x a o e).lt
theorem HOk.fresh(x:HOk P w H h)(e:h.objs.size<=a):H a=none:=by
 cases q:H a with
 |none=>rfl
 |some u=>exact absurd (lt_of_lt_of_le (x.lt q) e) (lt_irrefl _)
theorem HOk.kept(x:HOk P w H h)(k: ∀b u,h.get? b=some u->h'.get? b=some u):HOk P w H h':=λa o e=>
 (x a o e).stay (λb u _ q=>k b u q) (λ_ q=>q) λ_ _ q=>q
theorem HOk.laid(x:HOk P w H h)(k: ∀b u,h.get? b=some u->h'.get? b=some u)(hp:h.objs.size<=a)(new:ObjOk P w (upd H a o) h' a o):HOk P w (upd H a o) h':=λb u e=>by
 have hn:=x.fresh hp
 by_cases hb:b=a
 ·subst hb;rw [xF]at e;cases e;exact new
 ·rw [yA hb]at e
  exact(x b u e).stay (λc v _ q=>k c v q) (λc q=>by rw [yA (yC q hn)];exact q) λc xs q=>by rw [yA (yC q hn)];exact q
end
def Rd(H:Hp)(a:Addr)(u:HO):Prop:=H a=some u\/ ∃o,H a=some (.frz o u)
theorem Rd.ok{P:Program}{w:World}{H:Hp}{h:Heap}{a:Addr}{u:HO}(r:Rd H a u)(x:HOk P w H h):ObjOk P w H h a u:=by
 rcases r with r|⟨o,r⟩
 ·exact x a u r
 ·obtain⟨_,q⟩:=x a _ r
  exact q
def Mut:Option HO->Prop
 |some (.lst _)=>True
 |some (.dK _)=>True
 |some (.dT _)=>True
 |some (.set _ _)=>True
 |some (.ins _ _ _)=>True
 |some (.ext _)=>True
 |_=>False
section
variable{P:Program}{w:World}{H:Hp}{h h':Heap}{x e:Addr}{o':HO}
theorem HOk.write(ok:HOk P w H h)(mu:Mut (H x))(he:e=x\/H e=some (.own x))(k: ∀b u,b≠e->h.get? b=some u->h'.get? b=some u)(heo: ∃u,h'.get? e=some u)
  (new:ObjOk P w (upd H x o') h' x o'):HOk P w (upd H x o') h':=λb u q=>by
 have nown: ∀c y,H c=some (.own y)->c≠x:=λc y r z=>by subst z;rw [r]at mu;exact mu
 have ntup: ∀c xs,H c=some (.tup xs)->c≠x:=λc xs r z=>by subst z;rw [r]at mu;exact mu
 by_cases hb:b=x
 ·subst hb;rw [xF]at q;cases q;exact new
 ·rw [yA hb]at q
  by_cases hbe:b=e
  ·have q':H b=some (.own x):=by
    rcases he with z|z
    ·exact absurd (hbe.trans z) hb
    ·rw [hbe];exact z
   rw [q]at q';cases q'
   obtain⟨v,hv⟩:=heo
   exact⟨v,by rw [hbe];exact hv⟩
  ·refine(ok b u q).stay (λc v hc r=>k c v ?_ r) (λc r=>by rw [yA (nown c b r)];exact r) λc xs r=>by rw [yA (ntup c xs r)];exact r
   rcases hc with rfl|hc
   ·exact hbe
   ·rintro rfl
    rcases he with z|z
    ·exact nown c b hc z
    ·rw [hc]at z;cases z;exact hb rfl
end
structure Un(fs ex:List Addr)(H H':Hp)(h h':Heap):Prop where
 keep: ∀b o,h.get? b=some o->H b=none->b∉fs->b∉ex->h'.get? b=some o
 slot: ∀b o,h.get? b=some o->H b=none->b∈fs->b∉ex-> ∃sl,h'.get? b=some {o with slots:=sl}
 free: ∀b o,h.get? b=some o->H b=none->b∉ex->H' b=none
 there: ∀b o,h.get? b=some o->b∉ex-> ∃o',h'.get? b=some o'
 tups: ∀b xs,H b=some (.tup xs)->H' b=some (.tup xs)
 frzs: ∀b o u,H b=some (.frz o u)->H' b=some (.frz o u)
 tbls: ∀b ps,H b=some (.tbl ps)-> ∃more,H' b=some (.tbl (ps++more))
section
variable{fs fs' ex ex':List Addr}{H H1 H2:Hp}{h h1 h2 h':Heap}{a x e:Addr}{o:HO}
theorem Un.any(u:Un fs ex H H1 h h1){b:Addr}{ob:Obj}(q:h.get? b=some ob)(n:H b=none)(hx:b∉ex): ∃sl,h1.get? b=some {ob with slots:=sl}:=by
 by_cases hb:b∈fs
 ·exact u.slot b ob q n hb hx
 ·exact⟨ob.slots,u.keep b ob q n hb hx⟩
theorem Un.kept(k: ∀b u,h.get? b=some u->h'.get? b=some u):Un fs ex H H h h':=
 ⟨λb ob q _ _ _=>k b ob q,λb ob q _ _ _=>⟨ob.slots,k b ob q⟩,λ_ _ _ n _=>n,λb ob q _=>⟨ob,k b ob q⟩,λ_ _ q=>q,λ_ _ _ q=>q,λ_ ps q=>⟨#[],by rw [q];simp⟩⟩
theorem Un.refl:Un fs ex H H h h:=Un.kept λ_ _ q=>q
theorem Un.laid(k: ∀b u,h.get? b=some u->h'.get? b=some u)(hp:h.objs.size<=a)(hn:H a=none):Un fs ex H (upd H a o) h h' where
 keep:=λb u q _ _ _=>k b u q
 slot:=λb u q _ _ _=>⟨u.slots,k b u q⟩
 free:=λb u q n _=>by rw [yA (ne_of_lt (lt_of_lt_of_le (Heap.lt_size q) hp))];exact n
 there:=λb u q _=>⟨u,k b u q⟩
 tups:=λb xs q=>by rw [yA (yC q hn)];exact q
 frzs:=λb u xs q=>by rw [yA (yC q hn)];exact q
 tbls:=λb ps q=>⟨#[],by rw [yA (yC q hn),q];simp⟩
theorem Un.write(mu:Mut (H x))(he:e=x\/H e=some (.own x))(k: ∀b u,b≠e->h.get? b=some u->h'.get? b=some u)(heo: ∃u,h'.get? e=some u):Un fs ex H (upd H x o) h h':=by
 have hx: ∀b,H b=none->b≠x:=λb n z=>by subst z;rw [n]at mu;exact mu
 have hb: ∀b,H b=none->b≠e:=λb n z=>by
  subst z
  rcases he with r|r
  ·exact hx b n r
  ·rw [n]at r;cases r
 have hm: ∀b u,H b=some u-> ¬Mut (some u)->b≠x:=λb u q nm z=>by subst z;rw [q]at mu;exact nm mu
 refine⟨λb u q n _ _=>k b u (hb b n) q,λb u q n _ _=>⟨u.slots,k b u (hb b n) q⟩,λb u q n _=>by rw [yA (hx b n)];exact n,λb u q _=>?_,
  λb xs q=>by rw [yA (hm b _ q λz=>z)];exact q,λb u xs q=>by rw [yA (hm b _ q λz=>z)];exact q,λb ps q=>⟨#[],by rw [yA (hm b _ q λz=>z),q];simp⟩⟩
 by_cases hbe:b=e
 ·subst hbe;exact heo
 ·exact⟨u,k b u hbe q⟩
end
def trk(h:Heap)(H:Hp):List Addr:=(List.range h.objs.size).filter λa=>(H a).isSome
def zTN(h:Heap)(H:Hp):Heap:=PySem.W.hideAll h (trk h H)
theorem yCY(h:Heap)(H:Hp):(zTN h H).objs.size=h.objs.size:=PySem.W.hideAll_size _ _
theorem yFA{h:Heap}{H:Hp}{b:Addr}{o:Obj}(e:h.get? b=some o)(n:H b=none):(zTN h H).get? b=some o:=
 PySem.W.hideAll_get _ e λhm=>by
  have q:(H b).isSome=true:=(List.mem_filter.mp hm).2
  rw [n]at q;simp at q
theorem yIV{h:Heap}{H:Hp}{b:Addr}{o:Obj}(e:(zTN h H).get? b=some o):h.get? b=some o/\H b=none:=by
 have e':h.get? b=some o:=PySem.W.of_hideAll (trk h H) e
 refine⟨e',?_⟩
 cases q:H b with
 |none=>rfl
 |some x=>
  have hm:b∈trk h H:=List.mem_filter.mpr ⟨mem_range.mpr (Heap.lt_size e'),by simp [q]⟩
  have z:(zTN h H).get? b=none:=PySem.W.hideAll_none (trk h H) hm
  rw [z]at e;cases e
def yIW(g h:Heap)(L:Addr):List (Addr×Obj):=(List.range h.objs.size).filterMap λa=>if a=L\/(g.get? a).isSome=true then none else(h.get? a).map λo=>(a,o)
def dL(g h:Heap)(L d:Addr):List (Addr×Obj):=(yIW g h L).filter λp=>decide (p.1≠d)
structure Mod(K:PySem.W.Frag)(mg:Str->Option Value)(base:Heap):Prop where
 kin:K.In base
 glob:base.Ns mainGlobals mg
 blt: ∃mb,base.Ns builtinsNs mb/\ ∀x:Str,x≠"__name__"->mb x=bootBuiltins x
 nolimit:base.NoLimit
structure Cx where
 prog:Program
 w:World
 K:PySem.W.Frag
 mg:Str->Option Value
 base:Heap
 A:Around
 N:List Str
 s₀:Shared
 H₀:Hp
 env:Env
 outer:List Env
 stack:List Env
 ex:List Addr
 fn:Str->Bool
 calm:Bool
 pn:List (Addr×Obj)
 xe:Value->Shared->Prop
def frs(l:List Env):List Addr:=l.filterMap (·.frame)
abbrev Cx.fs(X:Cx):List Addr:=frs X.outer
def Vis(sc:Scope)(x:Str):Prop:=sc.names.lookup x=some .local\/sc.names.lookup x=some .cell\/sc.names.lookup x=some .free
def Loc(sc:Scope)(x:Str):Prop:=sc.names.lookup x=some .local\/sc.names.lookup x=some .cell
def Look(env:Env)(h:Heap)(m:Str->Option Value)(x:Str)(u:Value):Prop:=
 (env.kindOf x=some .local/\m x=some u)\/((env.kindOf x=some .cell\/env.kindOf x=some .free)/\ ∃c,env.cells.lookup x=some c/\h.IsCell c (some u))
structure Cx.Ok(X:Cx):Prop where
 mod:Mod X.K X.mg X.base
 kind:X.env.scope.kind=.function
 glob:X.env.globals=mainGlobals
 blt:X.env.builtins=builtinsNs
 above:X.s₀.heap.objs.size<=X.env.locals
 inj: ∀x y c,X.env.cells.lookup x=some c->X.env.cells.lookup y=some c->x=y
 has: ∀x,(X.env.kindOf x=some .cell\/X.env.kindOf x=some .free)-> ∃c,X.env.cells.lookup x=some c
 cab: ∀x c,X.fn x=true->X.env.cells.lookup x=some c->X.s₀.heap.objs.size<=c
 hd:X.calm=true->X.A.handled=none
 frames:X.A.frames=some X.stack
 stk:X.stack=X.outer\/(X.stack=X.env::X.outer/\X.env.frame=some X.env.locals)
 exf: ∀b∈X.ex,b≠X.env.locals/\ ∀x c,X.env.cells.lookup x=some c->c≠b
 bs: ∀b o,X.base.get? b=some o->X.s₀.heap.get? b=some o/\X.H₀ b=none
 bsz:X.base.objs.size<=X.s₀.heap.objs.size
 noex: ∀b o,X.base.get? b=some o->b∉X.ex
 exfs: ∀b∈X.ex,b∉X.fs
 funs:X.s₀.heap.FunFrames X.base X.outer
 frf: ∀b∈X.fs,X.H₀ b=none
structure Inv(X:Cx)(pins:List (Addr×Obj))(σ:List (Option V))(H:Hp)(s:Shared):Prop where
 ok:X.Ok
 os:s.os=X.s₀.os
 bare:AllBare s.gens
 base:Un X.fs X.ex X.H₀ H X.s₀.heap s.heap
 loc: ∃m,s.heap.Ns X.env.locals m/\ ∀(i:Nat)(x:Str)(v:V),X.N[i]? =some x->σ[i]? =some (some v)->Vis X.env.scope x-> ∃u,RelV v u/\Look X.env s.heap m x u
 cell: ∀x c,X.env.cells.lookup x=some c-> ∃v,s.heap.IsCell c v
 free:H X.env.locals=none
 freeC: ∀x c,X.env.cells.lookup x=some c->H c=none
 pin: ∀p∈X.pn++pins,s.heap.get? p.1=some p.2/\H p.1=none/\p.1≠X.env.locals/\p.1∉X.fs/\ ∀v,p.2.data≠.cell v
 hok:HOk X.prog X.w H s.heap
 len:σ.length=X.N.length
section
variable{X:Cx}{pins:List (Addr×Obj)}{σ:List (Option V)}{H H':Hp}{s:Shared}{h':Heap}
theorem Cx.Ok.nofr(ok:X.Ok){b:Addr}{o:Obj}(e:X.base.get? b=some o):b∉X.fs:=λhb=>by
 have:=(ok.funs.mem hb).1
 rw [e]at this;cases this
theorem Inv.bs(I:Inv X pins σ H s): ∀b o,X.base.get? b=some o->s.heap.get? b=some o/\H b=none:=λb o e=>
 ⟨I.base.keep b o (I.ok.bs b o e).1 (I.ok.bs b o e).2 (I.ok.nofr e) (I.ok.noex b o e),I.base.free b o (I.ok.bs b o e).1 (I.ok.bs b o e).2 (I.ok.noex b o e)⟩
theorem Inv.bk(I:Inv X pins σ H s): ∀b o,X.base.get? b=some o->s.heap.get? b=some o:=λb o e=>(I.bs b o e).1
theorem Inv.mod(I:Inv X pins σ H s):Mod X.K X.mg X.base:=I.ok.mod
theorem Inv.kIn(I:Inv X pins σ H s):X.K.In s.heap:=I.ok.mod.kin.keeps I.bk
theorem Inv.lt(I:Inv X pins σ H s):X.env.locals<s.heap.objs.size:=let ⟨_,hn,_⟩:=I.loc;hn.lt
theorem Inv.sz(I:Inv X pins σ H s):X.s₀.heap.objs.size<=s.heap.objs.size:=le_trans I.ok.above (le_of_lt I.lt)
theorem Inv.nofs(I:Inv X pins σ H s){a:Addr}(h:s.heap.objs.size<=a):a∉X.fs:=λhb=>by
 obtain⟨_,o,ho,_⟩:=I.ok.funs.mem hb
 exact absurd (lt_of_lt_of_le (Heap.lt_size ho) (le_trans I.sz h)) (lt_irrefl _)
theorem Inv.cne(I:Inv X pins σ H s): ∀x c,X.env.cells.lookup x=some c->c≠X.env.locals:=λx c e z=>by
 obtain⟨v,o,ho,hd⟩:=I.cell x c e
 obtain⟨m,⟨o',es,ep,ho',hd',_⟩,_⟩:=I.loc
 rw [z,ho']at ho;cases ho;rw [hd']at hd;cases hd
theorem Inv.funs(I:Inv X pins σ H s):s.heap.FunFrames X.base X.outer:=by
 have all: ∀(l:List Env),(∀b∈frs l,b∈X.fs)->X.s₀.heap.FunFrames X.base l->s.heap.FunFrames X.base l:=by
  intro l
  induction l with
  |nil=>intro _ _;trivial
  |cons env r ih=>
   intro hs hl
   obtain⟨hk,⟨L,o,hf,hn,ho,hd⟩,hr⟩:=hl
   have hL:L∈X.fs:=hs L (by unfold frs;rw [List.filterMap_cons,hf];exact mF0)
   obtain⟨sl,e⟩:=I.base.slot L o ho (I.ok.frf L hL) hL λz=>I.ok.exfs L z hL
   exact⟨hk,⟨L,_,hf,hn,e,hd⟩,ih (λb hb=>hs b (by unfold frs;rw [List.filterMap_cons,hf];exact mO _ hb)) hr⟩
 exact all X.outer (λ_ hb=>hb) I.ok.funs
theorem Inv.stack(I:Inv X pins σ H s):s.heap.FunFrames X.base X.stack:=by
 rcases I.ok.stk with e|⟨e,hf⟩
 ·rw [e];exact I.funs
 ·rw [e]
  obtain⟨m,hn,_⟩:=I.loc
  refine .cons (by rw [I.ok.kind];decide) hf hn ?_ I.funs
  exact Heap.get?_none_of_le (le_trans I.ok.bsz I.ok.above)
theorem Inv.stkSub(I:Inv X pins σ H s): ∀b∈frs X.stack,b∈X.env.locals::X.fs:=λb hb=>by
 rcases I.ok.stk with e|⟨e,hf⟩
 ·rw [e]at hb;exact mO _ hb
 ·rw [e]at hb
  unfold frs at hb
  rw [List.filterMap_cons,hf]at hb
  exact hb
theorem Inv.stkFree(I:Inv X pins σ H s): ∀b∈frs X.stack,H b=none:=λb hb=>by
 rcases mC.mp (I.stkSub b hb)with e|hb
 ·rw [e];exact I.free
 ·obtain⟨_,o,ho,_⟩:=I.ok.funs.mem hb
  exact I.base.free b o ho (I.ok.frf b hb) λz=>I.ok.exfs b z hb
theorem Inv.step{g':Array GenState}{t':Nat}{d':Drawn}{ch:List Addr}(I:Inv X pins σ H s)
  (hch: ∀b∈ch,(b∈X.ex\/X.s₀.heap.objs.size<=b)/\b≠X.env.locals/\(∀x c,X.env.cells.lookup x=some c->c≠b)/\ ∀p∈X.pn++pins,p.1≠b)
  (keep: ∀b o,b≠X.env.locals->b∉X.fs->b∉ch->s.heap.get? b=some o->H b=none->h'.get? b=some o)
  (slot: ∀b o,b≠X.env.locals->b∈X.fs->b∉ch->s.heap.get? b=some o->H b=none-> ∃sl,h'.get? b=some {o with slots:=sl}) (free: ∀b o,b∉ch->s.heap.get? b=some o->H b=none->H' b=none)
  (there: ∀b o,b∉ch->s.heap.get? b=some o-> ∃o',h'.get? b=some o')
  (tups: ∀b xs,H b=some (.tup xs)->H' b=some (.tup xs)) (frzs: ∀b o u,H b=some (.frz o u)->H' b=some (.frz o u)) (tbls: ∀b ps,H b=some (.tbl ps)-> ∃more,H' b=some (.tbl (ps++more)))
  (ns: ∀m,s.heap.Ns X.env.locals m->h'.Ns X.env.locals m) (hok:HOk X.prog X.w H' h') (hg:AllBare g'):
  Inv X pins σ H' {s with heap:=h',gens:=g',drawn:=d',toks:=t'}:=by
 have neL: ∀b o,X.s₀.heap.get? b=some o->b≠X.env.locals:=λb o e=>ne_of_lt (lt_of_lt_of_le (Heap.lt_size e) I.ok.above)
 have neC: ∀b o,X.s₀.heap.get? b=some o->b∉X.ex->b∉ch:=λb o e hx hb=>by
  rcases (hch b hb).1 with z|z
  ·exact hx z
  ·exact absurd (lt_of_lt_of_le (Heap.lt_size e) z) (lt_irrefl _)
 have cellK: ∀x c,X.env.cells.lookup x=some c-> ∀v,s.heap.IsCell c v->h'.IsCell c v:=λx c e v ⟨o,ho,hd⟩=>by
  have nch:c∉ch:=λz=>(hch c z).2.2.1 x c e rfl
  by_cases hc:c∈X.fs
  ·obtain⟨sl,q⟩:=slot c o (I.cne x c e) hc nch ho (I.freeC x c e)
   exact⟨_,q,hd⟩
  ·exact⟨o,keep c o (I.cne x c e) hc nch ho (I.freeC x c e),hd⟩
 refine⟨I.ok,I.os,hg,⟨λb o e n hb hx=>?_,λb o e n hb hx=>?_,λb o e n hx=>?_,λb o e hx=>?_,λb xs e=>tups b xs (I.base.tups b xs e),λb o xs e=>frzs b o xs (I.base.frzs b o xs e),λb ps e=>?_⟩,?_,λx c e=>?_,?_,λx c e=>?_,λp hp=>?_,hok,I.len⟩
 ·exact keep b o (neL b o e) hb (neC b o e hx) (I.base.keep b o e n hb hx) (I.base.free b o e n hx)
 ·obtain⟨sl,e1⟩:=I.base.slot b o e n hb hx
  obtain⟨sl',e2⟩:=slot b _ (neL b o e) hb (neC b o e hx) e1 (I.base.free b o e n hx)
  exact⟨sl',e2⟩
 ·obtain⟨o',e1⟩:=I.base.there b o e hx
  exact free b o' (neC b o e hx) e1 (I.base.free b o e n hx)
 ·obtain⟨o',e1⟩:=I.base.there b o e hx
  exact there b o' (neC b o e hx) e1
 ·obtain⟨m1,e1⟩:=I.base.tbls b ps e
  obtain⟨m2,e2⟩:=tbls b _ e1
  exact⟨m1++m2,by rw [e2,Array.append_assoc]⟩
 ·obtain⟨m,hn,hl⟩:=I.loc
  refine⟨m,ns m hn,λi x v e1 e2 e3=>?_⟩
  obtain⟨u,r,l⟩:=hl i x v e1 e2 e3
  refine⟨u,r,?_⟩
  rcases l with l|⟨k,c,e,z⟩
  ·exact .inl l
  ·exact .inr ⟨k,c,e,cellK x c e _ z⟩
 ·obtain⟨v,z⟩:=I.cell x c e
  exact⟨v,cellK x c e v z⟩
 ·obtain⟨m,⟨o,_,_,ho,_⟩,_⟩:=I.loc
  exact free _ o (λz=>(hch _ z).2.1 rfl) ho I.free
 ·obtain⟨v,o,ho,hd⟩:=I.cell x c e
  exact free c o (λz=>(hch c z).2.2.1 x c e rfl) ho (I.freeC x c e)
 ·obtain⟨e,n,ne,nf,d⟩:=I.pin p hp
  have nch:p.1∉ch:=λz=>(hch p.1 z).2.2.2 p hp rfl
  exact⟨keep p.1 p.2 ne nf nch e n,free p.1 p.2 nch e n,ne,nf,d⟩
theorem Inv.un{t':Nat}(I:Inv X pins σ H s)(u:Un X.fs [] H H' s.heap h')(hok:HOk X.prog X.w H' h'):Inv X pins σ H' {s with heap:=h',toks:=t'}:=by
 obtain⟨m,⟨o,es,ep,ho,r⟩,_⟩:=id I.loc
 obtain⟨sl,hL⟩:=u.any ho I.free (by simp)
 exact I.step (g':=s.gens) (d':=s.drawn) (ch:=[]) (λ_ z=>nomatch z) (λb o _ hb _ e n=>u.keep b o e n hb (by simp)) (λb o _ hb _ e n=>u.slot b o e n hb (by simp)) (λb o _ e n=>u.free b o e n (by simp)) (λb o _ e=>u.there b o e (by simp)) u.tups u.frzs u.tbls (λm' hm=>by
  obtain⟨o',es',ep',ho',r'⟩:=hm
  rw [ho]at ho';cases ho'
  exact⟨_,es',ep',hL,r'⟩) hok I.bare
theorem Inv.call{g':Array GenState}{t':Nat}{d':Drawn}{ch:List Addr}(I:Inv X pins σ H s)(u:Un (frs X.stack) ch H H' s.heap h')(hok:HOk X.prog X.w H' h')(hg:AllBare g')
  (hch: ∀b∈ch,(b∈X.ex\/X.s₀.heap.objs.size<=b)/\b≠X.env.locals/\(∀x c,X.env.cells.lookup x=some c->c≠b)/\ ∀p∈X.pn++pins,p.1≠b):
  Inv X pins σ H' {s with heap:=h',gens:=g',drawn:=d',toks:=t'}:=by
 obtain⟨m,⟨o,es,ep,ho,r⟩,_⟩:=id I.loc
 obtain⟨sl,hL⟩:=u.any ho I.free λz=>(hch _ z).2.1 rfl
 exact I.step (ch:=ch) hch (λb o hL hb hc e n=>u.keep b o e n (λz=>(mC.mp (I.stkSub b z)).elim hL hb) hc) (λb o _ _ hc e n=>u.any e n hc) (λb o hc e n=>u.free b o e n hc) (λb o hc e=>u.there b o e hc) u.tups u.frzs u.tbls (λm' hm=>by
  obtain⟨o',es',ep',ho',r'⟩:=hm
  rw [ho]at ho';cases ho'
  exact⟨_,es',ep',hL,r'⟩) hok hg
theorem Inv.turned{t':Nat}{it:Addr}(I:Inv X pins σ H s)(k: ∀b o,b≠it->s.heap.get? b=some o->h'.get? b=some o)(hn:H it=none)(hL:it≠X.env.locals)
  (h1:it∈X.ex\/X.s₀.heap.objs.size<=it) (h2: ∀x c,X.env.cells.lookup x=some c->c≠it) (h3: ∀p∈X.pn++pins,p.1≠it):Inv X pins σ H {s with heap:=h',toks:=t'}:=by
 have nit: ∀b u,H b=some u->b≠it:=λb u e z=>by rw [z,hn]at e;cases e
 refine I.step (g':=s.gens) (d':=s.drawn) (ch:=[it]) (λb hb=>?_) (λb o _ _ hc e _=>k b o (λz=>hc (by simp [z])) e) (λb o _ _ hc e _=>⟨o.slots,k b o (λz=>hc (by simp [z])) e⟩) (λ_ _ _ _ n=>n)
  (λb o hc e=>⟨o,k b o (λz=>hc (by simp [z])) e⟩) (λ_ _ e=>e) (λ_ _ _ e=>e) (λb ps e=>⟨#[],by rw [e];simp⟩) (λm hm=>?_) (λb u e=>?_) I.bare
 ·have e:b=it:=by simpa using hb
  subst e
  exact⟨h1,hL,h2,h3⟩
 ·obtain⟨o,es,ep,ho,r⟩:=hm
  exact⟨o,es,ep,k _ o (Ne.symm hL) ho,r⟩
 ·refine(I.hok b u e).stay (λc v hc q=>k c v ?_ q) (λ_ q=>q) λ_ _ q=>q
  rcases hc with z|z
  ·rw [z];exact nit b u e
  ·exact nit c _ z
theorem Inv.tok(I:Inv X pins σ H s)(t:Nat):Inv X pins σ H {s with toks:=t}:=I.un (h':=s.heap) (t':=t) Un.refl I.hok
theorem Inv.kept{t':Nat}(I:Inv X pins σ H s)(k: ∀b u,s.heap.get? b=some u->h'.get? b=some u):Inv X pins σ H {s with heap:=h',toks:=t'}:=I.un (Un.kept k) (I.hok.kept k)
theorem Inv.laid{a:Addr}{o:HO}{t':Nat}(I:Inv X pins σ H s)(k: ∀b u,s.heap.get? b=some u->h'.get? b=some u)(hp:s.heap.objs.size<=a)(new:ObjOk X.prog X.w (upd H a o) h' a o):
  Inv X pins σ (upd H a o) {s with heap:=h',toks:=t'}:=I.un (Un.laid k hp (I.hok.fresh hp)) (I.hok.laid k hp new)
theorem Inv.write{x e:Addr}{o:HO}{t':Nat}(I:Inv X pins σ H s)(mu:Mut (H x))(he:e=x\/H e=some (.own x))(k: ∀b u,b≠e->s.heap.get? b=some u->h'.get? b=some u)(heo: ∃u,h'.get? e=some u)
  (new:ObjOk X.prog X.w (upd H x o) h' x o):Inv X pins σ (upd H x o) {s with heap:=h',toks:=t'}:=I.un (Un.write mu he k heo) (I.hok.write mu he k heo new)
theorem Inv.pins_of{pins':List (Addr×Obj)}(I:Inv X pins σ H s)(h: ∀p∈pins',s.heap.get? p.1=some p.2/\H p.1=none/\p.1≠X.env.locals/\p.1∉X.fs/\ ∀v,p.2.data≠.cell v):Inv X pins' σ H s:=
 ⟨I.ok,I.os,I.bare,I.base,I.loc,I.cell,I.free,I.freeC,λp hp=>(mem_append.mp hp).elim (λz=>I.pin p (mem_append_left _ z)) (h p),I.hok,I.len⟩
theorem zOR{N:List Str}(hN:N.Nodup){i j:Nat}{x:Str}(a:N[i]? =some x)(b:N[j]? =some x):i=j:=by
 obtain⟨h1,e1⟩:=gS0.mp a
 obtain⟨h2,e2⟩:=gS0.mp b
 exact(getElem_inj hN).mp (e1.trans e2.symm)
theorem zSH{M:Model}{A:Around}{E:Value->Shared->Prop}{i:Nat}{x:Str}{v:V}{u:Value}{Q:Unit->Shared->Prop}(I:Inv X pins σ H s)(hN:X.N.Nodup)(hi:X.N[i]? =some x)(hx:Loc X.env.scope x)(r:RelV v u)
  (h: ∀s',Inv X pins (σ.set i (some v)) H s'->(∃a,Heap.SameBut a s.heap s'.heap/\(a=X.env.locals\/X.env.cells.lookup x=some a))->Q () s') (hf:X.fn x=true\/X.env.scope.names.lookup x=some .local:=by first |exact .inl rfl|exact .inr rfl|assumption):wpAny M A (storeName X.env x u) Q E s:=by
 obtain⟨m,hn,hl⟩:=id I.loc
 have hcls:(X.env.scope.kind==.class || (X.env.scope.kind==.module&&X.env.locals !=X.env.globals))=false:=by rw [I.ok.kind];rfl
 have hiσ:i<σ.length:=by rw [I.len];exact(gS0.mp hi).1
 have cne:=I.cne
 have tracked: ∀{a:Addr}{h':Heap},(∃o,s.heap.get? a=some o/\H a=none)->Heap.SameBut a s.heap h'->HOk X.prog X.w H h':=λ{a h'} ha hs b ob e=>by
  obtain⟨_,_,hfree⟩:=ha
  refine(I.hok b ob e).stay (λc w' hc q=>(hs.2 c ?_).trans q) (λ_ q=>q) λ_ _ q=>q
  rintro rfl
  rcases hc with rfl|hc
  ·rw [hfree]at e;cases e
  ·rw [hfree]at hc;cases hc
 rcases hx with hk|hk
 ·refine wpAny_storeName_local hk hn (λh' hn' hs=>?_) hcls
  obtain⟨oL,_,_,hoL,_⟩:=id hn
  refine h _ ⟨I.ok,I.os,I.bare,⟨λb o e n hb hx=>?_,λb o e n hb hx=>?_,I.base.free,λb o e hx=>?_,I.base.tups,I.base.frzs,I.base.tbls⟩,⟨_,hn',λj y v' e1 e2 e3=>?_⟩,λy c e=>?_,I.free,I.freeC,λp hp=>?_,tracked ⟨oL,hoL,I.free⟩ hs,by simpa using I.len⟩ ⟨_,hs,.inl rfl⟩
  ·exact(hs.2 b (ne_of_lt (lt_of_lt_of_le (Heap.lt_size e) I.ok.above))).trans (I.base.keep b o e n hb hx)
  ·obtain⟨sl,e1⟩:=I.base.slot b o e n hb hx
   exact⟨sl,(hs.2 b (ne_of_lt (lt_of_lt_of_le (Heap.lt_size e) I.ok.above))).trans e1⟩
  ·obtain⟨o',e1⟩:=I.base.there b o e hx
   exact⟨o',(hs.2 b (ne_of_lt (lt_of_lt_of_le (Heap.lt_size e) I.ok.above))).trans e1⟩
  ·by_cases hj:j=i
   ·subst hj
    rw [hi]at e1;cases e1
    rw [getElem?_set_self hiσ]at e2
    cases e2
    exact⟨u,r,.inl ⟨hk,by simp⟩⟩
   ·rw [getElem?_set_ne (Ne.symm hj)]at e2
    obtain⟨u',r',q⟩:=hl j y v' e1 e2 e3
    refine⟨u',r',?_⟩
    rcases q with⟨k,e⟩|⟨k,c,e,z⟩
    ·refine .inl ⟨k,?_⟩
     have:y≠x:=λe=>hj (zOR hN e1 (e▸hi))
     simp [this,e]
    ·exact .inr ⟨k,c,e,z.sameBut hs (cne y c e)⟩
  ·obtain⟨w',z⟩:=I.cell y c e
   exact⟨w',z.sameBut hs (cne y c e)⟩
  ·obtain⟨e,n,ne,nf,d⟩:=I.pin p hp
   exact⟨(hs.2 p.1 ne).trans e,n,ne,nf,d⟩
 ·have hfn:X.fn x=true:=by
   rcases hf with z|z
   ·exact z
   ·rw [z]at hk;cases hk
  obtain⟨c,hc⟩:=I.ok.has x (.inl hk)
  obtain⟨w',z⟩:=I.cell x c hc
  refine wpAny_storeName_cell I.ok.kind hk hc z (λh' hc' hs=>?_)
  obtain⟨oc,hoc,hocd⟩:=id z
  refine h {s with heap:=h'} ⟨I.ok,I.os,I.bare,⟨λb o e n hb hx=>?_,λb o e n hb hx=>?_,I.base.free,λb o e hx=>?_,I.base.tups,I.base.frzs,I.base.tbls⟩,⟨m,hn.sameBut hs (Ne.symm (cne x c hc)),λj y v' e1 e2 e3=>?_⟩,λy c' e=>?_,I.free,I.freeC,λp hp=>?_,tracked ⟨oc,hoc,I.freeC x c hc⟩ hs,by simpa using I.len⟩ ⟨c,hs,.inr hc⟩
  ·exact(hs.2 b (ne_of_lt (lt_of_lt_of_le (Heap.lt_size e) (I.ok.cab x c hfn hc)))).trans (I.base.keep b o e n hb hx)
  ·obtain⟨sl,e1⟩:=I.base.slot b o e n hb hx
   exact⟨sl,(hs.2 b (ne_of_lt (lt_of_lt_of_le (Heap.lt_size e) (I.ok.cab x c hfn hc)))).trans e1⟩
  ·obtain⟨o',e1⟩:=I.base.there b o e hx
   exact⟨o',(hs.2 b (ne_of_lt (lt_of_lt_of_le (Heap.lt_size e) (I.ok.cab x c hfn hc)))).trans e1⟩
  ·by_cases hj:j=i
   ·subst hj
    rw [hi]at e1;cases e1
    rw [getElem?_set_self hiσ]at e2
    cases e2
    exact⟨u,r,.inr ⟨.inl hk,c,hc,hc'⟩⟩
   ·rw [getElem?_set_ne (Ne.symm hj)]at e2
    obtain⟨u',r',q⟩:=hl j y v' e1 e2 e3
    refine⟨u',r',?_⟩
    rcases q with q|⟨k,c',e,z'⟩
    ·exact .inl q
    ·refine .inr ⟨k,c',e,z'.sameBut hs ?_⟩
     rintro rfl
     exact hj (zOR hN e1 (I.ok.inj _ _ _ e hc▸hi))
  ·by_cases hcc:c'=c
   ·subst hcc;exact⟨_,hc'⟩
   ·obtain⟨w2,z2⟩:=I.cell y c' e
    exact⟨w2,z2.sameBut hs hcc⟩
  ·obtain⟨e,n,ne,nf,d⟩:=I.pin p hp
   refine⟨(hs.2 p.1 ?_).trans e,n,ne,nf,d⟩
   intro q
   rw [q,hoc]at e
   have q':oc=p.2:=Option.some.inj e
   exact d w' (by rw [<-q'];exact hocd)
theorem zOS{M:Model}{A:Around}{E:Value->Shared->Prop}{i:Nat}{x:Str}{v:V}{u:Value}{Q:Unit->Shared->Prop}(I:Inv X pins σ H s)(hN:X.N.Nodup)(hi:X.N[i]? =some x)(hx:Loc X.env.scope x)(r:RelV v u)
  (h: ∀s',Inv X pins (σ.set i (some v)) H s'->Q () s') (hf:X.fn x=true\/X.env.scope.names.lookup x=some .local:=by first |exact .inl rfl|exact .inr rfl|assumption):wpAny M A (storeName X.env x u) Q E s:=
 zSH I hN hi hx r (λs' I' _=>h s' I') hf
theorem Inv.call'{s':Shared}{ch:List Addr}(I:Inv X pins σ H s)(ho:s'.os=s.os)(u:Un (frs X.stack) ch H H' s.heap s'.heap)(hok:HOk X.prog X.w H' s'.heap)(hg:AllBare s'.gens)
  (hch: ∀b∈ch,(b∈X.ex\/X.s₀.heap.objs.size<=b)/\b≠X.env.locals/\(∀x c,X.env.cells.lookup x=some c->c≠b)/\ ∀p∈X.pn++pins,p.1≠b):Inv X pins σ H' s':=by
 obtain⟨h',g',d',t',o'⟩:=s'
 have e:o'=s.os:=ho
 subst e
 exact I.call (g':=g') (t':=t') (d':=d') u hok hg hch
end
abbrev XK:=Value->Option Addr->Hp->Prop
abbrev St:=List (Option V)
abbrev VK:=V->Hp->Prop
abbrev TE:=St->Hp->VK->Prop
abbrev TT:=St->Hp->(Bool->Hp->Prop)->Prop
abbrev TA:=St->Hp->(List V->Hp->Prop)->Prop
structure Ends where
 nx:St->Hp->Prop
 rt:VK
 bk:St->Hp->Prop:=λ_ _=>False
 ct:St->Hp->Prop:=λ_ _=>False
abbrev TS:=Ends->St->Hp->Prop
def EP(X:Cx)(pins:List (Addr×Obj))(σ:St)(Q:VK)(u:Value)(s':Shared):Prop:= ∃v H',Inv X pins σ H' s'/\RelV v u/\Q v H'
def TP(X:Cx)(pins:List (Addr×Obj))(σ:St)(Q:Bool->Hp->Prop)(b:Bool)(s':Shared):Prop:= ∃H',Inv X pins σ H' s'/\Q b H'
def AP(X:Cx)(pins:List (Addr×Obj))(σ:St)(Q:List V->Hp->Prop)(us:List Value)(s':Shared):Prop:= ∃vs H',Inv X pins σ H' s'/\Vals vs us/\Q vs H'
def SP(X:Cx)(pins:List (Addr×Obj))(D:Ends)(f:Flow)(s':Shared):Prop:=
 match f with
 |.next=> ∃σ' H',Inv X pins σ' H' s'/\D.nx σ' H'
 |.brk=> ∃σ' H',Inv X pins σ' H' s'/\D.bk σ' H'
 |.cont=> ∃σ' H',Inv X pins σ' H' s'/\D.ct σ' H'
 |.ret u=> ∃v σ' H',Inv X pins σ' H' s'/\RelV v u/\D.rt v H'
def PE(X:Cx)(e:Expr)(t:TE):Prop:=
 ∀(pins:List (Addr×Obj))(s:Shared)(σ:St)(H:Hp)(Q:VK),Inv X pins σ H s->t σ H Q->wpAny (model X.prog X.w) X.A (eval e X.env) (EP X pins σ Q) X.xe s
def PT(X:Cx)(e:Expr)(t:TT):Prop:=
 ∀(pins:List (Addr×Obj))(s:Shared)(σ:St)(H:Hp)(Q:Bool->Hp->Prop),Inv X pins σ H s->t σ H Q->wpAny (model X.prog X.w) X.A (isTrue e X.env (eval e X.env)) (TP X pins σ Q) X.xe s
def PW(X:Cx)(e:Expr)(t:TT):Prop:=
 ∀(whole:Sem Value)(pins:List (Addr×Obj))(s:Shared)(σ:St)(H:Hp)(Q:Bool->Hp->Prop),Inv X pins σ H s->t σ H Q->wpAny (model X.prog X.w) X.A (isTrue e X.env whole) (TP X pins σ Q) X.xe s
theorem PW.pt{X:Cx}{e:Expr}{t:TT}(h:PW X e t):PT X e t:=h _
def PA(X:Cx)(es:List Expr)(t:TA):Prop:=
 ∀(pos:Pos)(pins:List (Addr×Obj))(s:Shared)(σ:St)(H:Hp)(Q:List V->Hp->Prop),Inv X pins σ H s->t σ H Q->wpAny (model X.prog X.w) X.A (spliced (backTo pos (starEach es X.env))) (AP X pins σ Q) X.xe s
def PS(X:Cx)(st:Stmt)(t:TS):Prop:=
 ∀(pins:List (Addr×Obj))(s:Shared)(σ:St)(H:Hp)(D:Ends),Inv X pins σ H s->t D σ H->wpAny (model X.prog X.w) X.A (exec st X.env) (SP X pins D) X.xe s
def PSs(X:Cx)(st:List Stmt)(t:TS):Prop:=
 ∀(pins:List (Addr×Obj))(s:Shared)(σ:St)(H:Hp)(D:Ends),Inv X pins σ H s->t D σ H->wpAny (model X.prog X.w) X.A (execs st X.env) (SP X pins D) X.xe s
theorem thn{α:Type}{t:Sem α}{Q Q':α->Shared->Prop}{M:Model}{A:Around}{E:Value->Shared->Prop}{s:Shared}(h:wpAny M A t Q E s)(hQ: ∀a s,Q a s->Q' a s):wpAny M A t Q' E s:=wpAny_mono h hQ λ_ _ x=>x
section
variable{X:Cx}
def tVar(i:Nat):TE:=λσ H Q=> ∃v,σ[i]? =some (some v)/\Q v H
def tC(v:V):TE:=λ_ H Q=>Q v H
theorem yMT{i:Nat}{x:Str}{pos:Pos}(hN:X.N[i]? =some x)(hv:Vis X.env.scope x)(hd:(x==("__debug__":Str))=false:=by decide)(hcd:(x==("__classdict__":Str))=false:=by decide):PE X (.Name x pos) (tVar i):=by
 intro pins s σ H Q I h
 obtain⟨v,e,h⟩:=h
 obtain⟨m,hn,hl⟩:=I.loc
 obtain⟨u,r,l⟩:=hl i x v hN e hv
 have fin:EP X pins σ Q u s:=⟨v,H,I,r,h⟩
 rcases l with⟨hk,hm⟩|⟨hk,c,hc,hcell⟩
 ·exact wpAny_Name (wpAny_loadName_local I.ok.kind hk hn hm fin) hd
 ·rcases hk with hk|hk
  ·exact wpAny_Name (wpAny_loadName_cell I.ok.kind hk hc hcell fin) hd
  ·exact wpAny_Name (wpAny_loadName_free I.ok.kind hk hc hcell fin hcd) hd
theorem yFB{i j pos}:PE X (.Constant (.int i) j pos) (tC (.int i)):=λ_ _ _ H _ I h=>wpAny_Constant_int ⟨.int i,H,I.tok _,⟨_,rfl⟩,h⟩
theorem pe_bl{b j pos}:PE X (.Constant (.bool b) j pos) (tC (.bl b)):=λ_ _ _ H _ I h=>Constant_bool ⟨.bl b,H,I,rfl,h⟩
theorem yMU{x j pos}:PE X (.Constant (.str x) j pos) (tC (.str x)):=λ_ _ _ H _ I h=>Calls.Constant_str ⟨.str x,H,I.tok _,⟨_,rfl⟩,h⟩
def Gl(X:Cx)(x:Str):Prop:=X.env.kindOf x=some .globalImplicit
theorem zHW{E:Value->Shared->Prop}{pins:List (Addr×Obj)}{s:Shared}{σ:St}{H:Hp}{x:Str}{u:Value}{pos:Pos}{Q:Value->Shared->Prop}(I:Inv X pins σ H s)(hg:Gl X x)(hm:X.mg x=some u)(h:Q u s)
  (hd:(x==("__debug__":Str))=false:=by decide):wpAny (model X.prog X.w) X.A (eval (.Name x pos) X.env) Q E s:=
 Calls.Name_function_global I.ok.kind hg (Calls.loadGlobal_global (by rw [I.ok.glob];exact I.mod.glob.keeps I.bk) hm h) hd
theorem zMA{E:Value->Shared->Prop}{pins:List (Addr×Obj)}{s:Shared}{σ:St}{H:Hp}{x:Str}{u:Value}{pos:Pos}{Q:Value->Shared->Prop}(I:Inv X pins σ H s)(hg:Gl X x)(hm:X.mg x=none)(hv:bootBuiltins x=some u)(h:Q u s)
  (hn:x≠"__name__":=by decide) (hd:(x==("__debug__":Str))=false:=by decide):wpAny (model X.prog X.w) X.A (eval (.Name x pos) X.env) Q E s:=by
 obtain⟨mb,h1,h2⟩:=I.mod.blt
 exact Calls.Name_function_global I.ok.kind hg (Calls.loadGlobal_builtin (by rw [I.ok.glob];exact I.mod.glob.keeps I.bk) hm (by rw [I.ok.blt];exact h1.keeps I.bk) ((h2 x hn).trans hv) h) hd
theorem zTO{x:Str}{v:V}{u:Value}{pos:Pos}(hg:Gl X x)(hm:X.mg x=some u)(r:RelV v u)(hd:(x==("__debug__":Str))=false:=by decide):PE X (.Name x pos) (tC v):=
 λ_ _ _ H _ I h=>zHW I hg hm ⟨v,H,I,r,h⟩ hd
theorem yBB{x:Str}{v:V}{u:Value}{pos:Pos}(hg:Gl X x)(hm:X.mg x=none)(hv:bootBuiltins x=some u)(r:RelV v u)(hn:x≠"__name__":=by decide)(hd:(x==("__debug__":Str))=false:=by decide):PE X (.Name x pos) (tC v):=
 λ_ _ _ H _ I h=>zMA I hg hm hv ⟨v,H,I,r,h⟩ hn hd
variable{a b:Expr}{ta tb:TE}{pos:Pos}
variable{tA tB':TT}{dL:List Expr}
def tOr(t u:TT):TT:=λσ H Q=>t σ H λc H1=>if c=true then Q true H1 else u σ H1 Q
def tNot(t:TT):TT:=λσ H Q=>t σ H λc H1=>Q (!c) H1
theorem yMV(ha:PT X a tA):PW X (.BoolOp .Or [a] pos) tA:=by
 intro wh pins s σ H Q I h
 refine isTrue_or (thn (ha pins s σ H Q I h) λc s1 e=>?_)
 cases c with
 |false=>exact isTrue_or_nil e
 |true=>exact e
theorem pw_or(ha:PT X a tA)(hb:PW X (.BoolOp .Or (b::dL) pos) tB'):PW X (.BoolOp .Or (a::b::dL) pos) (tOr tA tB'):=by
 intro wh pins s σ H Q I h
 refine isTrue_or (thn (ha pins s σ H _ I h) λc s1 ⟨H1,I1,q1⟩=>?_)
 cases c with
 |true=>exact⟨H1,I1,q1⟩
 |false=>exact hb wh pins s1 σ H1 Q I1 q1
theorem yMW(ha:PT X a tA):PT X (.UnaryOp .Not a pos) (tNot tA):=by
 intro pins s σ H Q I h
 exact isTrue_not (ha pins s σ H (λc H1=>Q (!c) H1) I h)
def tAndV(ta tb:TE):TE:=λσ H Q=>ta σ H λx H1=> ∃c,x=.bl c/\if c=true then tb σ H1 Q else Q (.bl false) H1
def tNotV(ta:TE):TE:=λσ H Q=>ta σ H λx H1=> ∃c,x=.bl c/\Q (.bl (!c)) H1
theorem yMX{op}{t:TE}(h:PE X a t):PE X (.BoolOp op [a] pos) t:=λpins s σ H Q I hw=>BoolOp_one (h pins s σ H Q I hw)
theorem yMY(ha:PE X a ta)(hb:PE X (.BoolOp .And (b::dL) pos) tb):PE X (.BoolOp .And (a::b::dL) pos) (tAndV ta tb):=by
 intro pins s σ H Q I h
 refine BoolOp_and (thn (ha pins s σ H _ I h) λv s1 ⟨x,H1,I1,r1,q1⟩=>?_)
 obtain⟨c,rfl,q1⟩:=q1
 cases r1
 refine wpAny_truthy_bool ?_
 cases c with
 |true=>exact hb pins s1 σ H1 Q I1 q1
 |false=>exact⟨.bl false,H1,I1,rfl,q1⟩
theorem yMZ(ha:PE X a ta):PE X (.UnaryOp .Not a pos) (tNotV ta):=by
 intro pins s σ H Q I h
 refine UnaryOp_ (thn (ha pins s σ H _ I h) λv s1 ⟨x,H1,I1,r1,q1⟩=>?_)
 obtain⟨c,rfl,q1⟩:=q1
 cases r1
 exact not_of (wpAny_truthy_bool ⟨.bl (!c),H1,I1,rfl,q1⟩)
end
def SqL(K:PySem.W.Frag)(H:Hp)(a:Addr)(xs:List V):Prop:=
 Rd H a (.lst xs)\/
  ∃(o:Obj)(its:Array Value)(n:Nat),K.lookup a=some o/\o.cls=.type "list"/\o.dict=none/\o.data=.seq its n/\its.size<=sizeLine/\Vals xs its.toList
def SqT(K:PySem.W.Frag)(H:Hp)(a:Addr)(xs:List V):Prop:=
 Rd H a (.tup xs)\/
  ∃(o:Obj)(its:Array Value)(n:Nat),K.lookup a=some o/\o.cls=.type "tuple"/\o.data=.seq its n/\its.size<=sizeLine/\Vals xs its.toList
def absV:Value->Option V
 |.none=>some .non
 |.bool b=>some (.bl b)
 |.int i _=>some (.int i)
 |.str x _=>some (.str x)
 |.bytes b _=>some (.byt b)
 |.float b _=>some (.flt b)
 |.ref a=>some (.ref a)
 |.type n=>some (.ty n)
 |_=>none
theorem RelV.abs{x:V}{u:Value}(r:RelV x u):absV u=some x:=by
 cases x with
 |non=>cases r;rfl
 |bl _=>cases r;rfl
 |int _=>obtain⟨t,rfl⟩:=r;rfl
 |str _=>obtain⟨t,rfl⟩:=r;rfl
 |byt _=>obtain⟨t,rfl⟩:=r;rfl
 |flt _=>obtain⟨t,rfl⟩:=r;rfl
 |ref _=>cases r;rfl
 |ty _=>cases r;rfl
theorem RelV.inj{x y:V}{u:Value}(r:RelV x u)(q:RelV y u):x=y:=Option.some.inj (r.abs.symm.trans q.abs)
theorem Vals.inj: ∀{xs ys:List V}{us:List Value},Vals xs us->Vals ys us->xs=ys
 |_,_,_,.nil,.nil=>rfl
 |_,_,_,.cons r t,.cons r' t'=>by rw [r.inj r',Vals.inj t t']
section
variable{X:Cx}{pins:List (Addr×Obj)}{σ:St}{H:Hp}{s:Shared}{a:Addr}{xs ys:List V}
theorem SqL.of{K:PySem.W.Frag}(h:H a=some (.lst xs)):SqL K H a xs:=.inl (.inl h)
theorem SqT.of{K:PySem.W.Frag}(h:H a=some (.tup xs)):SqT K H a xs:=.inl (.inl h)
theorem Inv.list(I:Inv X pins σ H s)(h:SqL X.K H a xs): ∃its:List Value,Vals xs its/\PlainL s.heap a its.toArray/\xs.length<=sizeLine:=by
 rcases h with h|⟨o,its,n,hk,hc,hd,hs,hz,r⟩
 ·obtain⟨z,its,n,r,e⟩:=h.ok I.hok
  exact⟨its,r,⟨_,n,e,rfl,rfl,rfl⟩,z⟩
 ·refine⟨its.toList,r,⟨o,n,I.kIn a o hk,hc,hd,by simpa using hs⟩,?_⟩
  have e:=r.length
  simp only [Array.length_toList]at e
  omega
theorem Inv.tuple(I:Inv X pins σ H s)(h:SqT X.K H a xs): ∃its:List Value,Vals xs its/\IsTup s.heap a its.toArray/\xs.length<=sizeLine:=by
 rcases h with h|⟨o,its,n,hk,hc,hs,hz,r⟩
 ·obtain⟨z,its,r,p⟩:=h.ok I.hok
  exact⟨its,r,p,z⟩
 ·refine⟨its.toList,r,⟨o,I.kIn a o hk,hc,n,by simpa using hs⟩,?_⟩
  have e:=r.length
  simp only [Array.length_toList]at e
  omega
theorem Inv.list_inj(I:Inv X pins σ H s)(h:SqL X.K H a xs)(h':SqL X.K H a ys):xs=ys:=by
 obtain⟨its,r,⟨o,n,e,_,_,d⟩,_⟩:=I.list h
 obtain⟨its',r',⟨o',n',e',_,_,d'⟩,_⟩:=I.list h'
 rw [e]at e';cases e'
 rw [d]at d'
 injection d' with d1 _
 have:its=its':=by simpa using congrArg Array.toList d1
 subst this
 exact r.inj r'
theorem Inv.tuple_inj(I:Inv X pins σ H s)(h:SqT X.K H a xs)(h':SqT X.K H a ys):xs=ys:=by
 obtain⟨its,r,⟨o,e,_,n,d⟩,_⟩:=I.tuple h
 obtain⟨its',r',⟨o',e',_,n',d'⟩,_⟩:=I.tuple h'
 rw [e]at e';cases e'
 rw [d]at d'
 injection d' with d1 _
 have:its=its':=by simpa using congrArg Array.toList d1
 subst this
 exact r.inj r'
end
abbrev Cx.wish(X:Cx)(E:Value->Shared->Prop):Cx:={X with xe:=E}
abbrev Cx.nox(X:Cx):Cx:=X.wish λ_ _=>False
theorem Cx.Ok.wish{X:Cx}(ok:X.Ok)(E:Value->Shared->Prop):(X.wish E).Ok:=
 ⟨ok.mod,ok.kind,ok.glob,ok.blt,ok.above,ok.inj,ok.has,ok.cab,ok.hd,ok.frames,ok.stk,ok.exf,ok.bs,ok.bsz,ok.noex,ok.exfs,ok.funs,ok.frf⟩
theorem Cx.Ok.unwish{X:Cx}{E:Value->Shared->Prop}(ok:(X.wish E).Ok):X.Ok:=
 ⟨ok.mod,ok.kind,ok.glob,ok.blt,ok.above,ok.inj,ok.has,ok.cab,ok.hd,ok.frames,ok.stk,ok.exf,ok.bs,ok.bsz,ok.noex,ok.exfs,ok.funs,ok.frf⟩
section
variable{X:Cx}{pins:List (Addr×Obj)}{σ:St}{H:Hp}{s:Shared}{E:Value->Shared->Prop}
theorem Inv.wish(I:Inv X pins σ H s)(E:Value->Shared->Prop):Inv (X.wish E) pins σ H s:=⟨I.ok.wish E,I.os,I.bare,I.base,I.loc,I.cell,I.free,I.freeC,I.pin,I.hok,I.len⟩
theorem Inv.unwish(I:Inv (X.wish E) pins σ H s):Inv X pins σ H s:=⟨I.ok.unwish,I.os,I.bare,I.base,I.loc,I.cell,I.free,I.freeC,I.pin,I.hok,I.len⟩
theorem SP.unwish{D:Ends}{f:Flow}{s':Shared}(h:SP (X.wish E) pins D f s'):SP X pins D f s':=by
 cases f with
 |next=>obtain⟨σ',H',I,q⟩:=h;exact⟨σ',H',I.unwish,q⟩
 |brk=>obtain⟨σ',H',I,q⟩:=h;exact⟨σ',H',I.unwish,q⟩
 |cont=>obtain⟨σ',H',I,q⟩:=h;exact⟨σ',H',I.unwish,q⟩
 |ret u=>obtain⟨v,σ',H',I,r,q⟩:=h;exact⟨v,σ',H',I.unwish,r,q⟩
theorem PSs.nox{st:List Stmt}{t:TS}(h:PSs X.nox st t):PSs X st t:=λpins s σ H D I hw=>
 wpAny_mono (h pins s σ H D (I.wish _) hw) (λ_ _ q=>q.unwish) λ_ _ z=>False.elim z
end
section
variable{X:Cx}{st:Stmt}{dL:List Stmt}{t u:TS}{e:Expr}{te:TE}{pos:Pos}
def tNext:TS:=λD σ H=>D.nx σ H
def tSeq(t u:TS):TS:=λD σ H=>t {D with nx:=u D} σ H
theorem yIX:PSs X [] tNext:=λ_ _ σ H _ I h=>wpAny_execs_nil ⟨σ,H,I,h⟩
theorem yFC(h1:PS X st t)(h2:PSs X dL u):PSs X (st::dL) (tSeq t u):=by
 intro pins s σ H D I h
 refine wpAny_execs_cons (thn (h1 pins s σ H {D with nx:=u D} I h) λf s1 q=>?_)
 cases f with
 |next=>
  obtain⟨σ',H',I',q⟩:=q
  exact h2 pins s1 σ' H' D I' q
 |ret v=>exact q
 |brk=>exact q
 |cont=>exact q
theorem yIY(h1:PS X st t):PSs X [st] t:=by
 intro pins s σ H D I h
 refine wpAny_execs_cons (thn (h1 pins s σ H D I h) λf s1 q=>?_)
 cases f with
 |next=>exact wpAny_execs_nil q
 |ret v=>exact q
 |brk=>exact q
 |cont=>exact q
theorem Inv.quiet{pins:List (Addr×Obj)}{σ:St}{H:Hp}{s:Shared}(I:Inv X pins σ H s):interactive X.env=false:=by simp [interactive,I.ok.kind]
def tDrop(te:TE):TS:=λD σ H=>te σ H λ_ H1=>D.nx σ H1
theorem yIZ(he:PE X e te)(hs:swapsWith e none pos.line X.env=pure false:=by rfl):PS X (.Expr e pos) (tDrop te):=by
 intro pins s σ H D I h
 exact wpAny_Expr_any (thn (he pins s σ H _ I h) λv s1 ⟨x,H1,I1,r1,q1⟩=>⟨σ,H1,I1,q1⟩) I.quiet hs
def tRet(te:TE):TS:=λD σ H=>te σ H D.rt
theorem yNA(he:PE X e te):PS X (.Return (some e) pos) (tRet te):=by
 intro pins s σ H D I h
 exact wpAny_Return_some (thn (he pins s σ H _ I h) λv s1 ⟨x,H1,I1,r1,q1⟩=>⟨x,σ,H1,I1,r1,q1⟩)
def tIfS(c:TT)(t u:TS):TS:=λD σ H=>c σ H λb H1=>if b=true then t D σ H1 else u D σ H1
theorem ps_if{c:Expr}{a b:List Stmt}{tc:TT}(hc:PT X c tc)(ha:PSs X a t)(hb:PSs X b u):PS X (.If c a b pos) (tIfS tc t u):=by
 intro pins s σ H D I h
 refine wpAny_If (thn (hc pins s σ H _ I h) λd s1 ⟨H1,I1,q1⟩=>?_)
 cases d with
 |true=>exact ha pins s1 σ H1 D I1 q1
 |false=>exact hb pins s1 σ H1 D I1 q1
def yNB:TS:=λ_ _ _=>False
theorem yFD:PS X st yNB:=λ_ _ _ _ _ _ h=>h.elim
end
abbrev TG:=V->St->Hp->(St->Hp->Prop)->Prop
abbrev TGs:=List V->St->Hp->(St->Hp->Prop)->Prop
def PG(X:Cx)(target:Expr)(t:TG):Prop:=
 ∀(pins:List (Addr×Obj))(s:Shared)(σ:St)(H:Hp)(v:V)(u:Value)(Q:St->Hp->Prop),Inv X pins σ H s->RelV v u->t v σ H Q->
  wpAny (model X.prog X.w) X.A (assign target X.env u) (λ_ s'=> ∃σ' H',Inv X pins σ' H' s'/\Q σ' H') X.xe s
def PGs(X:Cx)(ts:List Expr)(t:TGs):Prop:=
 ∀(pins:List (Addr×Obj))(s:Shared)(σ:St)(H:Hp)(vs:List V)(us:List Value)(Q:St->Hp->Prop),Inv X pins σ H s->Vals vs us->t vs σ H Q->
  wpAny (model X.prog X.w) X.A (assignInOrder ((assignEach ts X.env).map (·.2)) us) (λ_ s'=> ∃σ' H',Inv X pins σ' H' s'/\Q σ' H') X.xe s
abbrev TSet:=V->V->V->Hp->(Hp->Prop)->Prop
def PSet(X:Cx)(t:TSet):Prop:=
 ∀(pins:List (Addr×Obj))(s:Shared)(σ:St)(H:Hp)(o i v:V)(ov iv u:Value)(Q:Hp->Prop),Inv X pins σ H s->RelV o ov->RelV i iv->RelV v u->t o i v H Q->
  wpAny (model X.prog X.w) X.A (setItem ov iv u) (λ_ s'=> ∃H',Inv X pins σ H' s'/\Q H') X.xe s
section
variable{X:Cx}{pos:Pos}
def yFE(i:Nat):TG:=λv σ H Q=>Q (σ.set i (some v)) H
theorem yBC{i:Nat}{x:Str}(hN:X.N.Nodup)(hi:X.N[i]? =some x)(hx:Loc X.env.scope x)(hf:X.fn x=true\/X.env.scope.names.lookup x=some .local:=by first |exact .inl rfl|exact .inr rfl|assumption):PG X (.Name x pos) (yFE i):=by
 intro pins s σ H v u Q I r h
 exact wpAny_assign_Name (zOS I hN hi hx r (λs' I'=>⟨_,H,I',h⟩) hf)
def gNil:TGs:=λvs σ H Q=>vs=[]/\Q σ H
def gCons(t:TG)(u:TGs):TGs:=λvs σ H Q=> ∃v r,vs=v::r/\t v σ H λσ' H'=>u r σ' H' Q
theorem yJA:PGs X [] gNil:=by
 intro pins s σ H vs us Q I r h
 obtain⟨e,h⟩:=h
 subst e
 cases r
 exact assignInOrder_nil ⟨σ,H,I,h⟩
theorem yFF{e:Expr}{es:List Expr}{t:TG}{u:TGs}(h1:PG X e t)(h2:PGs X es u)
  (hs:(assignEach (e::es) X.env).map (·.2)=assign e X.env::(assignEach es X.env).map (·.2):=by rfl):PGs X (e::es) (gCons t u):=by
 intro pins s σ H vs us Q I r h
 obtain⟨v,vr,e1,h⟩:=h
 subst e1
 cases r with
 |cons r rr=>
  rw [hs]
  refine assignInOrder_cons (thn (h1 pins s σ H _ _ _ I r h) λ_ s1 ⟨σ1,H1,I1,q1⟩=>?_)
  exact h2 pins s1 σ1 H1 _ _ Q I1 rr q1
def gTup(K:PySem.W.Frag)(n:Nat)(t:TGs):TG:=λv σ H Q=> ∃a xs,v=.ref a/\SqT K H a xs/\xs.length=n/\t xs σ H Q
theorem yNC{es:List Expr}{k:Nat}{t:TGs}{n:Nat}(hc:X.calm=true)(h:PGs X es t)
  (hn:(assignEach es X.env).length=n:=by rfl) (hst:(assignEach es X.env).findIdx? (·.1)=none:=by rfl):PG X (.Tuple es k pos) (gTup X.K n t):=by
 intro pins s σ H v u Q I r hw
 obtain⟨a,xs,e1,hq,hl,hw⟩:=hw
 subst e1
 cases r
 obtain⟨its,rv,ht,hz⟩:=I.tuple hq
 refine assign_Tuple_tuple (I.ok.hd hc) ht (by simp [hn, <-hl,rv.length]) hst λh' hx=>?_
 have I1:Inv X pins σ H {s with heap:=h'}:=I.kept (t':=s.toks) λb o e=>hx b o (ne_of_lt (Heap.lt_size e)) e
 exact h pins _ σ H xs _ Q I1 (by simpa using rv) hw
def gSub(to ti:TE)(t:TSet):TG:=λv σ H Q=>to σ H λo H1=>ti σ H1 λi H2=>t o i v H2 λH3=>Q σ H3
theorem yFG{o i:Expr}{to ti:TE}{t:TSet}(ho:PE X o to)(hi:PE X i ti)(hs:PSet X t)
  (ha: ∀v,assign (.Subscript o i pos) X.env v=(do
   let ov <-holding [v] (eval o X.env)
   let iv <-holding [v,ov] (eval i X.env)
   standAt pos
   holding [v,ov,iv] (setItem ov iv v)
   release [v,ov,iv] []):=by intro _;rfl):PG X (.Subscript o i pos) (gSub to ti t):=by
 intro pins s σ H v u Q I r h
 rw [ha]
 refine wB0 (wpAny_holding (thn (ho pins s σ H _ I h) λov s1 ⟨x,H1,I1,r1,q1⟩=>?_))
 refine wB0 (wpAny_holding (thn (hi pins s1 σ H1 _ I1 q1) λiv s2 ⟨y,H2,I2,r2,q2⟩=>?_))
 refine wB0 (wpAny_standAt (wB0 (wpAny_holding (thn (hs pins s2 σ H2 x y v ov iv u _ I2 r1 r2 r q2) λ_ s3 ⟨H3,I3,q3⟩=>?_))))
 exact wpAny_release ⟨σ,H3,I3,q3⟩
def tAsg(te:TE)(g:TG):TS:=λD σ H=>te σ H λx H1=>g x σ H1 D.nx
theorem yND{tg e:Expr}{te:TE}{g:TG}(he:PE X e te)(hg:PG X tg g)(hs:swapsWithSole [tg] e pos.line X.env=pure false:=by rfl)(hw:swappedStores [tg] e X.env=pure none:=by rfl)
  (h1:(assignEach [tg] X.env).map (·.2)=[assign tg X.env]:=by rfl):PS X (.Assign [tg] e pos) (tAsg te g):=by
 intro pins s σ H D I h
 refine wpAny_Assign_stores (thn (he pins s σ H _ I h) λv s1 ⟨x,H1,I1,r1,q1⟩=>?_) hs hw
 rw [h1]
 exact thn (hg pins s1 σ H1 x v _ I1 r1 q1) λ_ s2 q=>q
theorem yNE{i:Nat}{x:Str}{e:Expr}{te:TE}{pos':Pos}(hN:X.N.Nodup)(hi:X.N[i]? =some x)(hx:Loc X.env.scope x)(he:PE X e te)(hs:swapsWith e (some (.Name x pos')) pos.line X.env=pure false:=by rfl)(hf:X.fn x=true\/X.env.scope.names.lookup x=some .local:=by first |exact .inl rfl|exact .inr rfl|assumption):
  PS X (.Assign [.Name x pos'] e pos) (tAsg te (yFE i)):=by
 intro pins s σ H D I h
 refine wpAny_Assign_Name (thn (he pins s σ H _ I h) λv s1 ⟨y,H1,I1,r1,q1⟩=>?_) hs
 exact zOS I1 hN hi hx r1 (λs2 I2=>⟨_,H1,I2,q1⟩) hf
end
structure It where
 go:Nat->Hp->Prop
 yld:Nat->Hp->V->Hp->Prop
 stop:Nat->Hp->Prop
def zMB(X:Cx)(pins:List (Addr×Obj))(H:Hp)(b:Addr):Prop:=
 H b=none/\b≠X.env.locals/\b∉X.fs/\(b∈X.ex\/X.s₀.heap.objs.size<=b)/\(∀x c,X.env.cells.lookup x=some c->c≠b)/\ ∀p∈X.pn++pins,p.1≠b
theorem Inv.fpOk{X:Cx}{pins:List (Addr×Obj)}{σ:St}{H H':Hp}{s:Shared}{b:Addr}(I:Inv X pins σ H s)(hb:s.heap.objs.size<=b)(hn:H' b=none):zMB X pins H' b:=by
 refine⟨hn,ne_of_gt (lt_of_lt_of_le I.lt hb),I.nofs hb,.inr (le_trans I.sz hb),λx c e z=>?_,λp hp z=>?_⟩
 ·obtain⟨v,q⟩:=I.cell x c e
  exact absurd (lt_of_lt_of_le q.lt (by rw [z];exact hb)) (lt_irrefl _)
 ·exact absurd (lt_of_lt_of_le (Heap.lt_size (I.pin p hp).1) (by rw [z];exact hb)) (lt_irrefl _)
structure Turn(P:Program)(w:World)(K:PySem.W.Frag)(tg:Expr)(J:It)(fp:List Addr)(it:Addr)(tn:Nat->Heap->Prop):Prop where
 mem:it∈fp
 obj: ∀i h,tn i h-> ∀b∈fp, ∃o,h.get? b=some o/\ ∀v,o.data≠.cell v
 keep: ∀i h h',tn i h->(∀b∈fp, ∀o,h.get? b=some o->h'.get? b=some o)->tn i h'
 item: ∀(X:Cx),X.prog=P->X.w=w->X.K=K->X.calm=true-> ∀(i:Nat)(pins:List (Addr×Obj))(s:Shared)(σ:St)(H:Hp)(E:Value->Shared->Prop),Inv X pins σ H s->(∀b∈fp,zMB X pins H b)->tn i s.heap->J.go i H->
  wpAny (model P w) X.A (pyNext (.ref it)) (λr s1=> ∃u,r=some u/\
   wpAny (model P w) X.A (letOwnedTupleGo tg (.ref it) u) (λ_ s2=> ∃x H',Inv X pins σ H' s2/\RelV x u/\J.yld i H x H'/\tn (i+1) s2.heap/\ ∀b∈fp,H' b=none) E s1) E s
 done: ∀(X:Cx),X.prog=P->X.w=w->X.K=K->X.calm=true-> ∀(i:Nat)(pins:List (Addr×Obj))(s:Shared)(σ:St)(H:Hp)(E:Value->Shared->Prop),Inv X pins σ H s->(∀b∈fp,zMB X pins H b)->tn i s.heap->J.stop i H->
  wpAny (model P w) X.A (pyNext (.ref it)) (λr s1=>r=none/\Inv X pins σ H s1) E s
 self: ∀(A:Around)(i:Nat)(s:Shared)(Q:Value->Shared->Prop)(E:Value->Shared->Prop),tn i s.heap->Q (.ref it) s->wpAny (model P w) A (pyIter (.ref it)) Q E s
abbrev TI:=St->Hp->(It->Hp->Prop)->Prop
def PIE(X:Cx)(pins:List (Addr×Obj))(σ:St)(tg:Expr)(R:It->Hp->Prop)(itv:Value)(s2:Shared):Prop:=
 ∃(it:Addr)(fp:List Addr)(tn:Nat->Heap->Prop)(J:It)(H':Hp),itv=.ref it/\Inv X pins σ H' s2/\Turn X.prog X.w X.K tg J fp it tn/\tn 0 s2.heap/\(∀b∈fp,zMB X pins H' b)/\R J H'
def PI(X:Cx)(tg iter:Expr)(wi:TI):Prop:=
 ∀(pins:List (Addr×Obj))(s:Shared)(σ:St)(H:Hp)(R:It->Hp->Prop),Inv X pins σ H s->wi σ H R->
  wpAny (model X.prog X.w) X.A (eval iter X.env) (λv s1=>wpAny (model X.prog X.w) X.A (pyIter v) (PIE X pins σ tg R) X.xe s1) X.xe s
theorem yBD{M:Model}{A:Around}{E:Value->Shared->Prop}{s:Shared}{tg:Expr}{it:Addr}{u:Value}{o:Obj}{n:String}{vs:Array Value}{Q:Unit->Shared->Prop}(ho:s.heap.get? it=some o)(hc:o.cls=.type n)(hd:o.data=.fields vs)
  (hn:["enumerate","zip","dict_itemiterator","dict_reverseitemiterator","odict_iterator","itertools.zip_longest","itertools.pairwise"].contains n=false) (hQ:Q () s):wpAny M A (letOwnedTupleGo tg (.ref it) u) Q E s:=by
 unfold letOwnedTupleGo
 cases tg<;>first
  |exact wP0 hQ
  |(cases u<;>first
    |exact wP0 hQ
    |(refine wB0 (wpAny_load ho ?_)
      rw [hc,hd]
      show wpAny M A (if(["enumerate","zip","dict_itemiterator","dict_reverseitemiterator","odict_iterator","itertools.zip_longest","itertools.pairwise"].contains n&&vs[0]? ==some (rawInt _))=true then _ else _) Q E s
      rw [iN0 (by intro h;rw [hn,Bool.false_and]at h;cases h)]
      exact wP0 hQ))
def Itl(K:PySem.W.Frag)(a:Addr):It:=
 ⟨λi H=> ∃xs x,SqL K H a xs/\xs[i]? =some x,λi H x H'=>H'=H/\ ∀xs,SqL K H a xs->xs[i]? =some x,λi H=> ∃xs,SqL K H a xs/\xs.length<=i⟩
def Itt(K:PySem.W.Frag)(a:Addr):It:=
 ⟨λi H=> ∃xs x,SqT K H a xs/\xs[i]? =some x,λi H x H'=>H'=H/\ ∀xs,SqT K H a xs->xs[i]? =some x,λi H=> ∃xs,SqT K H a xs/\xs.length<=i⟩
def Itr(lo:Int)(n:Nat):It:=⟨λi _=>i<n,λi H x H'=>H'=H/\x=.int (lo+i),λi _=>n<=i⟩
theorem yCZ{P:Program}{w:World}{K:PySem.W.Frag}{tg:Expr}(a it:Addr):Turn P w K tg (Itl K a) [it] it (λi h=>h.IsListIter it a i) where
 mem:=by simp
 obj:=λi h st b hb=>by
  have e:b=it:=by simpa using hb
  subst e
  obtain⟨o,e,c,d⟩:=st
  exact⟨o,e,λv z=>by rw [d]at z;cases z⟩
 keep:=λi h h' st k=>st.at λo e=>k it (by simp) o e
 item:=by
  intro X hP hw hK hc i pins s σ H E I hf st hg
  subst hP hw hK
  obtain⟨xs,x,hq,hx⟩:=hg
  obtain⟨its,rv,p,hz⟩:=I.list hq
  obtain⟨u,hu,ru⟩:=rv.get hx
  obtain⟨f0,f1,f2,f3,f4,f5⟩:=hf it (by simp)
  refine wpAny_pyNext_list_item st p.isList (x:=u) (by simpa using hu) λh' st' sb=>?_
  have I1:Inv X pins σ H {s with heap:=h'}:=I.turned (t':=s.toks) (λb o hb e=>(sb.2 b hb).trans e) f0 f1 f3 f4 f5
  obtain⟨o,e,c,d⟩:=id st'
  exact⟨u,rfl,yBD (s:={s with heap:=h'}) e c d (by decide) ⟨x,H,I1,ru,⟨rfl,λys hy=>by rw [I.list_inj hy hq];exact hx⟩,st',λb hb=>(hf b hb).1⟩⟩
 done:=by
  intro X hP hw hK hc i pins s σ H E I hf st hg
  subst hP hw hK
  obtain⟨xs,hq,hx⟩:=hg
  obtain⟨its,rv,p,hz⟩:=I.list hq
  obtain⟨f0,f1,f2,f3,f4,f5⟩:=hf it (by simp)
  have hl:=rv.length
  exact wpAny_pyNext_list_end (I.ok.hd hc) st p.isList (by simp;omega) λh' eb=>⟨rfl,I.turned (t':=s.toks) (λb o hb e=>eb b o hb e) f0 f1 f3 f4 f5⟩
 self:=λ_ _ _ _ _ st h=>wpAny_pyIter_listiter st h
theorem zYR{P:Program}{w:World}{K:PySem.W.Frag}{tg:Expr}(a it:Addr):Turn P w K tg (Itt K a) [it] it (λi h=>h.IsTupleIter it a i) where
 mem:=by simp
 obj:=λi h st b hb=>by
  have e:b=it:=by simpa using hb
  subst e
  obtain⟨o,e,c,d⟩:=st
  exact⟨o,e,λv z=>by rw [d]at z;cases z⟩
 keep:=λi h h' st k=>st.at λo e=>k it (by simp) o e
 item:=by
  intro X hP hw hK hc i pins s σ H E I hf st hg
  subst hP hw hK
  obtain⟨xs,x,hq,hx⟩:=hg
  obtain⟨its,rv,p,hz⟩:=I.tuple hq
  obtain⟨u,hu,ru⟩:=rv.get hx
  obtain⟨f0,f1,f2,f3,f4,f5⟩:=hf it (by simp)
  refine wpAny_pyNext_tuple_item st (show s.heap.IsTuple a its.toArray from p) (x:=u) (by simpa using hu) λh' st' sb=>?_
  have I1:Inv X pins σ H {s with heap:=h'}:=I.turned (t':=s.toks) (λb o hb e=>(sb.2 b hb).trans e) f0 f1 f3 f4 f5
  obtain⟨o,e,c,d⟩:=id st'
  exact⟨u,rfl,yBD (s:={s with heap:=h'}) e c d (by decide) ⟨x,H,I1,ru,⟨rfl,λys hy=>by rw [I.tuple_inj hy hq];exact hx⟩,st',λb hb=>(hf b hb).1⟩⟩
 done:=by
  intro X hP hw hK hc i pins s σ H E I hf st hg
  subst hP hw hK
  obtain⟨xs,hq,hx⟩:=hg
  obtain⟨its,rv,p,hz⟩:=I.tuple hq
  obtain⟨f0,f1,f2,f3,f4,f5⟩:=hf it (by simp)
  have hl:=rv.length
  exact wpAny_pyNext_tuple_end (I.ok.hd hc) st (show s.heap.IsTuple a its.toArray from p) (by simp;omega) λh' eb=>⟨rfl,I.turned (t':=s.toks) (λb o hb e=>eb b o hb e) f0 f1 f3 f4 f5⟩
 self:=λ_ _ _ _ _ st h=>wpAny_pyIter_tupleiter st h
theorem zYS{P:Program}{w:World}{K:PySem.W.Frag}{tg:Expr}(it:Addr)(lo:Int)(n:Nat):Turn P w K tg (Itr lo n) [it] it (λi h=>IsRangeIter h it (lo+(i:Nat) * 1) ((n:Int) - (i:Nat)) 1) where
 mem:=by simp
 obj:=λi h st b hb=>by
  have e:b=it:=by simpa using hb
  subst e
  exact⟨_,st,λv z=>by
   have z':Data.fields _=Data.cell v:=z
   cases z'⟩
 keep:=λi h h' st k=>k it (by simp) _ st
 item:=by
  intro X hP hw hK hc i pins s σ H E I hf st hg
  subst hP hw hK
  obtain⟨f0,f1,f2,f3,f4,f5⟩:=hf it (by simp)
  have W:=Walks.range (prog:=X.prog) (w:=X.w) (I.ok.hd hc) it lo 1 n
  refine W.item i s _ _ hg st λv h' tk hv st' kk=>?_
  obtain⟨t,rfl⟩:=hv
  have I1:Inv X pins σ H {s with heap:=h',toks:=tk}:=I.turned (λb o hb e=>kk b o (by simpa using hb) e) f0 f1 f3 f4 f5
  refine⟨_,rfl,yBD (s:={s with heap:=h',toks:=tk}) (n:="range_iterator") st' rfl rfl (by decide) ⟨.int (lo+i),H,I1,⟨t,?_⟩,⟨rfl,rfl⟩,st',λb hb=>(hf b hb).1⟩⟩
  rw [Int.mul_one]
 done:=by
  intro X hP hw hK hc i pins s σ H E I hf st hg
  subst hP hw hK
  obtain⟨f0,f1,f2,f3,f4,f5⟩:=hf it (by simp)
  exact wpAny_pyNext_range_end (I.ok.hd hc) st (by have:n<=i:=hg;omega) λh' eb=>⟨rfl,I.turned (t':=s.toks) (λb o hb e=>eb b o hb e) f0 f1 f3 f4 f5⟩
 self:=λ_ _ _ _ _ st h=>wpAny_pyIter_rangeiter st h
section
variable{X:Cx}{tg:Expr}
def iList(K:PySem.W.Frag)(tl:TE):TI:=λσ H R=>tl σ H λx H1=> ∃a,x=.ref a/\(∃xs,SqL K H1 a xs)/\R (Itl K a) H1
def iTup(K:PySem.W.Frag)(tl:TE):TI:=λσ H R=>tl σ H λx H1=> ∃a,x=.ref a/\(∃xs,SqT K H1 a xs)/\R (Itt K a) H1
theorem yJB{l:Expr}{tl:TE}(hl:PE X l tl):PI X tg l (iList X.K tl):=by
 intro pins s σ H R I h
 refine thn (hl pins s σ H _ I h) λv s1 ⟨x,H1,I1,r1,q1⟩=>?_
 obtain⟨a,e,⟨xs,hq⟩,q⟩:=q1
 subst e
 cases r1
 obtain⟨its,rv,p,hz⟩:=I1.list hq
 refine wpAny_pyIter_list p.isList ?_
 refine⟨s1.heap.objs.size,[s1.heap.objs.size],_,_,H1,rfl,I1.kept (t':=s1.toks) λb o e=>hP0 _ e,yCZ a _,⟨_,Heap.get?_push_size _ rfl,rfl,rfl⟩,λb hb=>?_,q⟩
 have e:b=s1.heap.objs.size:=by simpa using hb
 subst e
 exact I1.fpOk (le_refl _) (I1.hok.fresh (le_refl _))
theorem yNF{l:Expr}{tl:TE}(hl:PE X l tl):PI X tg l (iTup X.K tl):=by
 intro pins s σ H R I h
 refine thn (hl pins s σ H _ I h) λv s1 ⟨x,H1,I1,r1,q1⟩=>?_
 obtain⟨a,e,⟨xs,hq⟩,q⟩:=q1
 subst e
 cases r1
 obtain⟨its,rv,p,hz⟩:=I1.tuple hq
 refine wpAny_pyIter_tuple (show s1.heap.IsTuple a its.toArray from p) ?_
 refine⟨s1.heap.objs.size,[s1.heap.objs.size],_,_,H1,rfl,I1.kept (t':=s1.toks) λb o e=>hP0 _ e,zYR a _,⟨_,Heap.get?_push_size _ rfl,rfl,rfl⟩,λb hb=>?_,q⟩
 have e:b=s1.heap.objs.size:=by simpa using hb
 subst e
 exact I1.fpOk (le_refl _) (I1.hok.fresh (le_refl _))
theorem yFH{pins:List (Addr×Obj)}{σ:St}{H:Hp}{s:Shared}{R:It->Hp->Prop}{E:Value->Shared->Prop}{lo hi:Int}{t u v:Tok}{tk:Nat}(I:Inv X pins σ H s)(h1: -(2 ^ 62)<=lo)(h2:lo<2 ^ 62)(h3: -(2 ^ 62)<=hi)(h4:hi<2 ^ 62)
  (q:R (Itr lo (hi - lo).toNat) H):wpAny (model X.prog X.w) X.A (pyIter (.ref s.heap.objs.size)) (PIE X pins σ tg R) E {s with heap:=s.heap.push {cls:=.type "range",data:=.fields #[.int lo t,.int hi u,.int 1 v]},toks:=tk}:=by
 refine wpAny_pyIter_range (IsRange.new ..) (small_one h1 h2 h3 h4) ?_
 have I1:Inv X pins σ H {s with heap:=s.heap.push {cls:=.type "range",data:=.fields #[.int lo t,.int hi u,.int 1 v]},toks:=tk}:=I.kept λb o e=>hP0 _ e
 refine⟨(s.heap.push {cls:=.type "range",data:=.fields #[.int lo t,.int hi u,.int 1 v]}).objs.size,[(s.heap.push {cls:=.type "range",data:=.fields #[.int lo t,.int hi u,.int 1 v]}).objs.size],_,_,H,rfl,
  I1.kept (t':=tk) λb o e=>hP0 _ e,zYS _ lo (hi - lo).toNat,?_,λb hb=>?_,q⟩
 ·have e1:lo+((0:Nat):Int) * 1=lo:=by simp
  have e2:(((hi - lo).toNat:Nat):Int) - ((0:Nat):Int)=Builtin.Range.rangeSize lo hi 1:=by rw [rangeSize_one];split<;>omega
  show IsRangeIter _ _ (lo+((0:Nat):Int) * 1) ((((hi - lo).toNat:Nat):Int) - ((0:Nat):Int)) 1
  rw [e1,e2]
  exact Heap.get?_push_size _ rfl
 ·have e:b=(s.heap.push {cls:=.type "range",data:=.fields #[.int lo t,.int hi u,.int 1 v]}).objs.size:=by simpa using hb
  subst e
  exact I1.fpOk (le_refl _) (I1.hok.fresh (le_refl _))
def iRng1(ta:TA):TI:=λσ H R=>ta σ H λvs H1=> ∃j:Int,vs=[.int j]/\ -(2 ^ 62)<=j/\j<2 ^ 62/\R (Itr 0 j.toNat) H1
theorem yDA{a:Expr}{ta:TA}{p pos:Pos}(hg:Gl X "range")(hm:X.mg "range"=none)(ha:PA X [a] ta)(hs:starEach [a] X.env=[(false,eval a X.env)]:=by rfl):PI X tg (.Call (.Name "range" p) [a] [] pos) (iRng1 ta):=by
 intro pins s σ H R I h
 refine Call_ (zMA I hg hm boot_range (PyProof.Rows.callWith_type1 (thn (ha pos pins s σ H _ I h) λus s1 ⟨vs,H1,I1,r1,q1⟩=>?_) hs rfl))
 obtain⟨j,e,q1,q2,q⟩:=q1
 subst e
 cases r1 with
 |cons r rr=>
  cases rr
  obtain⟨t,rfl⟩:=r
  exact call_range_1 (yFH I1 (by omega) (by omega) q1 q2 (by simpa using q))
def tFor(wi:TI)(g:TG)(tb:TS):TS:=λD σ H=>wi σ H λJ H1=> ∃W:Nat->Nat->St->Hp->Prop,(∃m,W 0 m σ H1)/\ ∀i m σ H,W i m σ H->
 (J.stop i H/\D.nx σ H)\/(J.go i H/\ ∃N:St->Hp->Prop,(∀σ' H',N σ' H'-> ∃m',m'<m/\W (i+1) m' σ' H')/\ ∀x H',J.yld i H x H'->g x σ H' λσ2 H2=>tb {D with nx:=N,ct:=N,bk:=D.nx} σ2 H2)
def zMC(fp:List Addr)(h:Heap):List (Addr×Obj):=fp.filterMap λb=>(h.get? b).map λo=>(b,o)
theorem zIZ{fp:List Addr}{h:Heap}{b:Addr}{o:Obj}(hb:b∈fp)(e:h.get? b=some o):(b,o)∈zMC fp h:=List.mem_filterMap.mpr ⟨b,hb,by rw [e];rfl⟩
theorem yDB{fp:List Addr}{h:Heap}{p:Addr×Obj}(hp:p∈zMC fp h):p.1∈fp/\h.get? p.1=some p.2:=by
 obtain⟨b,hb,e⟩:=List.mem_filterMap.mp hp
 cases q:h.get? b with
 |none=>rw [q]at e;cases e
 |some o=>
  rw [q]at e
  have e':(b,o)=p:=Option.some.inj e
  subst e'
  exact⟨hb,q⟩
theorem Inv.pinned{pins:List (Addr×Obj)}{σ:St}{H:Hp}{s:Shared}{fp:List Addr}(I:Inv X pins σ H s)(hf: ∀b∈fp,zMB X pins H b)(ho: ∀b∈fp, ∃o,s.heap.get? b=some o/\ ∀v,o.data≠.cell v):Inv X (pins++zMC fp s.heap) σ H s:=
 I.pins_of λp hp=>(mem_append.mp hp).elim (λz=>I.pin p (mem_append_right _ z)) λz=>by
  obtain⟨hb,e⟩:=yDB z
  obtain⟨f0,f1,f2,_⟩:=hf p.1 hb
  obtain⟨o,e',d⟩:=ho p.1 hb
  rw [e]at e';cases e'
  exact⟨e,f0,f1,f2,d⟩
theorem Inv.unpinned{pins pl:List (Addr×Obj)}{σ:St}{H:Hp}{s:Shared}(I:Inv X (pins++pl) σ H s):Inv X pins σ H s:=I.pins_of λp hp=>I.pin p (mem_append_right _ (mem_append_left _ hp))
theorem yNG{iter:Expr}{body:List Stmt}{wi:TI}{g:TG}{tb:TS}{pos:Pos}(hp:PassesOwn (model X.prog X.w) X.A X.env X.xe)(hc:X.calm=true)(hi:PI X tg iter wi)(hg:PG X tg g)(hb:PSs X body tb)
  (hs: ∀x,foldedSetIterable iter X.env x=pure x:=by intro _;rfl):PS X (.For tg iter body [] pos) (tFor wi g tb):=by
 intro pins s σ H D I h
 refine wpAny_For (thn (hi pins s σ H _ I h) λv s1 h1=>thn h1 λitv s2 h2=>?_) hs
 obtain⟨it,fp,tn,J,H2,e,I2,T,st2,f2,W,⟨m0,w0⟩,turn⟩:=h2
 subst e
 have stat: ∀{H':Hp},(∀b∈fp,H' b=none)-> ∀b∈fp,zMB X pins H' b:=λhn b hb=>⟨hn b hb,(f2 b hb).2⟩
 refine codeAny_forLoop_any (λn s'=> ∃i σ' H',Inv X pins σ' H' s'/\tn i s'.heap/\(∀b∈fp,H' b=none)/\W i n σ' H') ?_ m0 ⟨0,σ,H2,I2,st2,λb hb=>(f2 b hb).1,w0⟩
 rintro n s3 ⟨i,σ3,H3,I3,st3,fr3,w3⟩
 rcases turn i n σ3 H3 w3 with⟨stop,qn⟩|⟨go,N,hN,step⟩
 ·refine wpAny_passesOwn hp (thn (T.done X rfl rfl rfl hc i pins s3 σ3 H3 X.xe I3 (stat fr3) st3 stop) λr s4 ⟨hr,I4⟩=>?_)
  subst hr
  exact wpAny_execs_nil ⟨σ3,H3,I4,qn⟩
 ·refine wpAny_passesOwn hp (thn (T.item X rfl rfl rfl hc i pins s3 σ3 H3 X.xe I3 (stat fr3) st3 go) λr s4 ⟨u,hr,h4⟩=>?_)
  subst hr
  refine wpAny_passesOwn hp (thn h4 λ_ s5 ⟨x,H5,I5,r5,y5,st5,fr5⟩=>?_)
  have I5':=I5.pinned (stat fr5) (T.obj _ _ st5)
  refine wpAny_passesOwn hp (thn (hg _ s5 σ3 H5 x u _ I5' r5 (step x H5 y5)) λ_ s6 ⟨σ6,H6,I6,q6⟩=>?_)
  refine wpAny_passesOwn hp (thn (hb _ s6 σ6 H6 _ I6 q6) λf s7 q7=>?_)
  have again: ∀{σ7:St}{H7:Hp},Inv X (pins++zMC fp s5.heap) σ7 H7 s7->N σ7 H7-> ∃m,m<n/\ ∃i σ' H',Inv X pins σ' H' s7/\tn i s7.heap/\(∀b∈fp,H' b=none)/\W i m σ' H':=λ{σ7 H7} I7 n7=>by
   obtain⟨m',hm,w7⟩:=hN σ7 H7 n7
   refine⟨m',hm,i+1,σ7,H7,I7.unpinned,T.keep _ _ _ st5 λb hb o e=>(I7.pin (b,o) (mem_append_right _ (mem_append_right _ (zIZ hb e)))).1,λb hb=>?_,w7⟩
   obtain⟨o,e,d⟩:=T.obj _ _ st5 b hb
   exact(I7.pin (b,o) (mem_append_right _ (mem_append_right _ (zIZ hb e)))).2.1
  cases f with
  |next=>obtain⟨σ7,H7,I7,n7⟩:=q7;exact again I7 n7
  |cont=>obtain⟨σ7,H7,I7,n7⟩:=q7;exact again I7 n7
  |brk=>obtain⟨σ7,H7,I7,q7⟩:=q7;exact⟨σ7,H7,I7.unpinned,q7⟩
  |ret v=>obtain⟨x7,σ7,H7,I7,r7,q7⟩:=q7;exact⟨x7,σ7,H7,I7.unpinned,r7,q7⟩
end
abbrev R2:=V->V->Hp->VK->Prop
def OpR(X:Cx)(f:Value->Value->Sem Value)(r:R2):Prop:=
 ∀(pins:List (Addr×Obj))(s:Shared)(σ:St)(H:Hp)(x y:V)(v u:Value)(Q:VK),Inv X pins σ H s->RelV x v->RelV y u->r x y H Q->
  wpAny (model X.prog X.w) X.A (f v u) (EP X pins σ Q) X.xe s
def UnR(X:Cx)(f:Value->Sem Value)(r:V->Hp->VK->Prop):Prop:=
 ∀(pins:List (Addr×Obj))(s:Shared)(σ:St)(H:Hp)(x:V)(v:Value)(Q:VK),Inv X pins σ H s->RelV x v->r x H Q->
  wpAny (model X.prog X.w) X.A (f v) (EP X pins σ Q) X.xe s
def CallR(X:Cx)(f:Value)(r:List V->Hp->VK->Prop):Prop:=
 ∀(pins:List (Addr×Obj))(s:Shared)(σ:St)(H:Hp)(xs:List V)(us:List Value)(Q:VK),Inv X pins σ H s->Vals xs us->r xs H Q->
  wpAny (model X.prog X.w) X.A (call f us) (EP X pins σ Q) X.xe s
def TruR(X:Cx)(r:V->Hp->(Bool->Hp->Prop)->Prop):Prop:=
 ∀(pins:List (Addr×Obj))(s:Shared)(σ:St)(H:Hp)(x:V)(v:Value)(Q:Bool->Hp->Prop),Inv X pins σ H s->RelV x v->r x H Q->
  wpAny (model X.prog X.w) X.A (truthy v) (TP X pins σ Q) X.xe s
def tOp(r:R2)(ta tb:TE):TE:=λσ H Q=>ta σ H λx H1=>tb σ H1 λy H2=>r x y H2 Q
def tUn(r:V->Hp->VK->Prop)(ta:TE):TE:=λσ H Q=>ta σ H λx H1=>r x H1 Q
def rI(C:Int->Int->Prop)(g:Int->Int->V):R2:=λx y H Q=> ∃i j,x=.int i/\y=.int j/\C i j/\Q (g i j) H
def rI0(g:Int->Int->V):R2:=λx y H Q=> ∃i j,x=.int i/\y=.int j/\Q (g i j) H
def rU(g:Int->V):V->Hp->VK->Prop:=λx H Q=> ∃i,x=.int i/\Q (g i) H
section
variable{X:Cx}{a b c:Expr}{ta tb tc:TE}{pos:Pos}
theorem binT(ha:PE X a ta)(hb:PE X b tb){pins:List (Addr×Obj)}{s:Shared}{σ:St}{H:Hp}{R:V->V->Hp->Prop}(I:Inv X pins σ H s)
  (h:ta σ H λx H1=>tb σ H1 λy H2=>R x y H2) {Q:Value->Shared->Prop} {f:Value->Value->Sem Value}
  (hf: ∀v u s2 x y H2,Inv X pins σ H2 s2->RelV x v->RelV y u->R x y H2->wpAny (model X.prog X.w) X.A (f v u) Q X.xe s2):
  wpAny (model X.prog X.w) X.A (eval a X.env) (λv s₁=>wpAny (model X.prog X.w) X.A (eval b X.env) (λu s₂=>wpAny (model X.prog X.w) X.A (f v u) Q X.xe s₂) X.xe s₁) X.xe s:=by
 refine thn (ha pins s σ H _ I h) λv s1 ⟨x,H1,I1,r1,q1⟩=>?_
 refine thn (hb pins s1 σ H1 _ I1 q1) λu s2 ⟨y,H2,I2,r2,q2⟩=>?_
 exact hf v u s2 x y H2 I2 r1 r2 q2
theorem pe_op{op:Operator}{r:R2}(ho:OpR X (binaryOp op) r)(ha:PE X a ta)(hb:PE X b tb):PE X (.BinOp a op b pos) (tOp r ta tb):=by
 intro pins s σ H Q I h
 exact wpAny_BinOp (binT ha hb I h λv u s2 x y H2 I2 rx ry q=>ho pins s2 σ H2 x y v u Q I2 rx ry q)
theorem pe_un{op:UnaryOp}{r:V->Hp->VK->Prop}(ho:UnR X (unaryOp op) r)(ha:PE X a ta):PE X (.UnaryOp op a pos) (tUn r ta):=by
 intro pins s σ H Q I h
 exact UnaryOp_ (thn (ha pins s σ H _ I h) λv s1 ⟨x,H1,I1,r1,q1⟩=>ho pins s1 σ H1 x v Q I1 r1 q1)
theorem opI{f:Value->Value->Sem Value}{C:Int->Int->Prop}{g:Int->Int->Int}
  (rule: ∀(i j:Int)(t u:Tok)(s:Shared)(Q:Value->Shared->Prop)(E:Value->Shared->Prop),C i j->Q (.int (g i j) s.toks) {s with toks:=s.toks+1}->wpAny (model X.prog X.w) X.A (f (.int i t) (.int j u)) Q E s):
  OpR X f (rI C λi j=>.int (g i j)):=by
 intro pins s σ H x y v u Q I rx ry h
 obtain⟨i,j,rfl,rfl,hc,q⟩:=h
 obtain⟨t,rfl⟩:=rx
 obtain⟨t',rfl⟩:=ry
 exact rule i j t t' s _ _ hc ⟨.int (g i j),H,I.tok _,⟨_,rfl⟩,q⟩
theorem opI0{f:Value->Value->Sem Value}{g:Int->Int->Int}
  (rule: ∀(i j:Int)(t u:Tok)(s:Shared)(Q:Value->Shared->Prop)(E:Value->Shared->Prop),Q (.int (g i j) s.toks) {s with toks:=s.toks+1}->wpAny (model X.prog X.w) X.A (f (.int i t) (.int j u)) Q E s):
  OpR X f (rI0 λi j=>.int (g i j)):=by
 intro pins s σ H x y v u Q I rx ry h
 obtain⟨i,j,rfl,rfl,q⟩:=h
 obtain⟨t,rfl⟩:=rx
 obtain⟨t',rfl⟩:=ry
 exact rule i j t t' s _ _ ⟨.int (g i j),H,I.tok _,⟨_,rfl⟩,q⟩
theorem opB0{f:Value->Value->Sem Value}{g:Int->Int->Bool}
  (rule: ∀(i j:Int)(t u:Tok)(s:Shared)(Q:Value->Shared->Prop)(E:Value->Shared->Prop),Q (.bool (g i j)) s->wpAny (model X.prog X.w) X.A (f (.int i t) (.int j u)) Q E s):
  OpR X f (rI0 λi j=>.bl (g i j)):=by
 intro pins s σ H x y v u Q I rx ry h
 obtain⟨i,j,rfl,rfl,q⟩:=h
 obtain⟨t,rfl⟩:=rx
 obtain⟨t',rfl⟩:=ry
 exact rule i j t t' s _ _ ⟨.bl (g i j),H,I,rfl,q⟩
def CMul(i j:Int):Prop:=(-(2 ^ 64)<i/\i<2 ^ 64)\/(-(2 ^ 64)<j/\j<2 ^ 64)
theorem CMul.ok{i j:Int}(h:CMul i j):IntMulOk i j:=by
 rcases h with⟨h1,h2⟩|⟨h1,h2⟩
 ·exact .of_left (intBits_le_64 h1 h2)
 ·exact .of_right (intBits_le_64 h1 h2)
theorem yNH:OpR X (binaryOp .Add) (rI0 λi j=>.int (i+j)):=opI0 λ_ _ _ _ _ _ _ q=>add_int q
theorem yNI:OpR X (binaryOp .Sub) (rI0 λi j=>.int (i - j)):=opI0 λ_ _ _ _ _ _ _ q=>sub_int q
theorem yNJ:OpR X (binaryOp .Mod) (rI (λ_ j=>0<j) λi j=>.int (i % j)):=opI λi j _ _ _ _ _ hc q=>by
 have h1:(0:Int)<j:=hc
 exact mod_int' (by omega) (by rw [Int.fmod_eq_emod_of_nonneg i (by omega)];exact q)
theorem unI{f:Value->Sem Value}{g:Int->Int}
  (rule: ∀(i:Int)(t:Tok)(s:Shared)(Q:Value->Shared->Prop)(E:Value->Shared->Prop),Q (.int (g i) s.toks) {s with toks:=s.toks+1}->wpAny (model X.prog X.w) X.A (f (.int i t)) Q E s):
  UnR X f (rU λi=>.int (g i)):=by
 intro pins s σ H x v Q I rx h
 obtain⟨i,rfl,q⟩:=h
 obtain⟨t,rfl⟩:=rx
 exact rule i t s _ _ ⟨.int (g i),H,I.tok _,⟨_,rfl⟩,q⟩
theorem yNK:UnR X (unaryOp .USub) (rU λi=>.int (-i)):=unI λ_ _ _ _ _ q=>neg_int q
end
section
variable{X:Cx}{a b c:Expr}{ta tb tc:TE}{pos:Pos}
theorem yFI{pins:List (Addr×Obj)}{σ:St}{H:Hp}{s:Shared}{Q:VK}{k k':Bool}(I:Inv X pins σ H s)(q:Q (.bl k) H)(e:k=k'):EP X pins σ Q (.bool k') s:=by
 subst e
 exact⟨.bl k,H,I,rfl,q⟩
theorem zVZ:OpR X (compareOp .LtE) (rI0 λi j=>.bl (decide (i<=j))):=opB0 λ_ _ _ _ _ _ _ q=>le_int q
theorem op_gt:OpR X (compareOp .Gt) (rI0 λi j=>.bl (decide (j<i))):=opB0 λ_ _ _ _ _ _ _ q=>gt_int q
theorem yDC:OpR X (compareOp .In) (λx y H Q=> ∃i j,x=.str i/\y=.str j/\Q (.bl (!(Builtin.Str.occurrences j i 0 j.length 1).isEmpty)) H):=by
 intro pins s σ H x y v u Q I rx ry h
 obtain⟨i,j,rfl,rfl,q⟩:=h
 obtain⟨t,rfl⟩:=rx
 obtain⟨t',rfl⟩:=ry
 exact in_str (yFI I q rfl)
theorem zTP:OpR X (compareOp .NotIn) (λx y H Q=> ∃i j,x=.str i/\y=.str j/\Q (.bl (!(!(Builtin.Str.occurrences j i 0 j.length 1).isEmpty))) H):=by
 intro pins s σ H x y v u Q I rx ry h
 obtain⟨i,j,rfl,rfl,q⟩:=h
 obtain⟨t,rfl⟩:=rx
 obtain⟨t',rfl⟩:=ry
 exact notIn_str (yFI I q rfl)
theorem OpR.or{f:Value->Value->Sem Value}{r r':R2}(h:OpR X f r)(h':OpR X f r'):OpR X f (λx y H Q=>r x y H Q\/r' x y H Q):=by
 intro pins s σ H x y v u Q I rx ry q
 rcases q with q|q
 ·exact h pins s σ H x y v u Q I rx ry q
 ·exact h' pins s σ H x y v u Q I rx ry q
theorem yFJ(b:Expr){op:CmpOp}(h:op≠.In:=by decide)(h2:op≠.NotIn:=by decide):behindInMarks op b=false:=by
 have e1:(op==CmpOp.In)=false:=by cases op<;>first |rfl|exact absurd rfl h
 have e2:(op==CmpOp.NotIn)=false:=by cases op<;>first |rfl|exact absurd rfl h2
 cases b<;>simp [behindInMarks,e1,e2]
theorem yJC{op:CmpOp}{r:R2}(ho:OpR X (compareOp op) r)(ha:PE X a ta)(hb:PE X b tb)(hm:behindInMarks op b=false):PE X (.Compare a [op] [b] pos) (tOp r ta tb):=by
 intro pins s σ H Q I h
 exact wpAny_Compare1 (binT ha hb I h λv u s2 x y H2 I2 rx ry q=>ho pins s2 σ H2 x y v u Q I2 rx ry q) hm
def yME(t:TE):TT:=λσ H Q=>t σ H λx H'=> ∃k,x=.bl k/\Q k H'
theorem yJD{op:CmpOp}{r:R2}(ho:OpR X (compareOp op) r)(ha:PE X a ta)(hb:PE X b tb)(hm:behindInMarks op b=false):PT X (.Compare a [op] [b] pos) (yME (tOp r ta tb)):=by
 intro pins s σ H Q I h
 refine wpAny_isTrue_Compare1 (thn (ha pins s σ H _ I h) λv s1 ⟨x,H1,I1,r1,q1⟩=>thn (hb pins s1 σ H1 _ I1 q1) λu s2 ⟨y,H2,I2,r2,q2⟩=>
  thn (ho pins s2 σ H2 x y v u _ I2 r1 r2 q2) λc s3 ⟨z,H3,I3,r3,k,e,q3⟩=>?_) hm
 subst e
 cases r3
 exact wpAny_truthy_bool ⟨H3,I3,q3⟩
def zYT(r r':R2)(ta tb tc:TE):TE:=λσ H Q=>ta σ H λx H1=>tb σ H1 λy H2=>r x y H2 λz H3=> ∃k,z=.bl k/\
 (if k=true then tc σ H3 λw' H4=>r' y w' H4 Q else Q (.bl false) H3)
theorem yFK{op op':CmpOp}{r r':R2}(ho:OpR X (compareOp op) r)(ho':OpR X (compareOp op') r')(ha:PE X a ta)(hb:PE X b tb)(hc:PE X c tc)
  (hm:lastMarks [op,op'] [b,c]=false:=by with_unfolding_all rfl):PE X (.Compare a [op,op'] [b,c] pos) (zYT r r' ta tb tc):=by
 intro pins s σ H Q I h
 refine Compare_chain (thn (ha pins s σ H _ I h) λv s1 ⟨x,H1,I1,r1,q1⟩=>chain_link (thn (hb pins s1 σ H1 _ I1 q1) λu s2 ⟨y,H2,I2,r2,q2⟩=>
  thn (ho pins s2 σ H2 x y v u _ I2 r1 r2 q2) λd s3 ⟨z,H3,I3,r3,k,e,q3⟩=>?_)) hm
 subst e
 cases r3
 refine wpAny_truthy_bool ?_
 cases k with
 |false=>exact ite_ff ⟨.bl false,H3,I3,rfl,q3⟩
 |true=>exact ite_tt (chain_last (thn (hc pins s3 σ H3 _ I3 q3) λw' s4 ⟨z',H4,I4,r4,q4⟩=>ho' pins s4 σ H4 y z' u w' Q I4 r2 r4 q4))
theorem yFL{op op':CmpOp}{r r':R2}(ho:OpR X (compareOp op) r)(ho':OpR X (compareOp op') r')(ha:PE X a ta)(hb:PE X b tb)(hc:PE X c tc)
  (hm:lastMarks [op,op'] [b,c]=false:=by with_unfolding_all rfl):PT X (.Compare a [op,op'] [b,c] pos) (yME (zYT r r' ta tb tc)):=by
 intro pins s σ H Q I h
 refine isTrue_chain (thn (ha pins s σ H _ I h) λv s1 ⟨x,H1,I1,r1,q1⟩=>test_link (thn (hb pins s1 σ H1 _ I1 q1) λu s2 ⟨y,H2,I2,r2,q2⟩=>
  thn (ho pins s2 σ H2 x y v u _ I2 r1 r2 q2) λd s3 ⟨z,H3,I3,r3,k,e,q3⟩=>?_)) hm
 subst e
 cases r3
 refine wpAny_truthy_bool ?_
 cases k with
 |false=>
  obtain⟨k',e',q'⟩:=q3
  cases e'
  exact ite_ff ⟨H3,I3,q'⟩
 |true=>
  refine ite_tt (test_last (thn (hc pins s3 σ H3 _ I3 q3) λw' s4 ⟨z',H4,I4,r4,q4⟩=>thn (ho' pins s4 σ H4 y z' u w' _ I4 r2 r4 q4) λd' s5 ⟨z2,H5,I5,r5,k2,e2,q5⟩=>?_))
  subst e2
  cases r5
  exact wpAny_truthy_bool ⟨H5,I5,q5⟩
def TruV(K:PySem.W.Frag)(x:V)(H:Hp)(k:Bool):Prop:=
 match x with
 |.non=>k=false
 |.bl b=>k=b
 |.int i=>k=(i !=0)
 |.str y=>y.length<=sizeLine/\k=((y.length:Int) !=0)
 |.byt y=>y.size<=sizeLine/\k=((y.size:Int) !=0)
 |.ref p=>(∃xs,SqL K H p xs/\k= !xs.isEmpty)\/(∃xs,SqT K H p xs/\k= !xs.isEmpty)\/ ∃kvs,H p=some (.dK kvs)/\k= !kvs.isEmpty
 |_=>False
theorem zYU{κ:Type}{kvs:List (κ×V)}{vs:List (κ×Value)}(r:KV kvs vs):(!vs.isEmpty)= !kvs.isEmpty:=by
 cases r<;>rfl
theorem zOT{xs:List V}{its:List Value}(r:Vals xs its):(!its.toArray.isEmpty)= !xs.isEmpty:=by
 cases r<;>simp
theorem zJA:(sizeLine:Nat)<2 ^ 63:=by rw [sizeLine_eq];decide
theorem yNL:TruR X (λx H Q=> ∃k,TruV X.K x H k/\Q k H):=by
 intro pins s σ H x v Q I rx h
 obtain⟨k,e,q⟩:=h
 have hl:=zJA
 have hs:sizeLine=16777216:=sizeLine_eq
 cases x with
 |non=>
  cases rx
  have e':k=false:=e
  subst e'
  exact truthy_none ⟨H,I,q⟩
 |bl b=>
  cases rx
  have e':k=b:=e
  subst e'
  exact wpAny_truthy_bool ⟨H,I,q⟩
 |int i=>
  obtain⟨t,rfl⟩:=rx
  have e':k=(i !=0):=e
  subst e'
  exact PySem.P.truthy_int ⟨H,I,q⟩
 |str y=>
  obtain⟨t,rfl⟩:=rx
  obtain⟨hy,e'⟩:y.length<=sizeLine/\k=((y.length:Int) !=0):=e
  subst e'
  exact PySem.P.truthy_str (by omega) ⟨H,I.tok _,q⟩
 |byt y=>
  obtain⟨t,rfl⟩:=rx
  obtain⟨hy,e'⟩:y.size<=sizeLine/\k=((y.size:Int) !=0):=e
  subst e'
  exact PySem.W.truthy_bytes (by omega) ⟨H,I.tok _,q⟩
 |ref p=>
  cases rx
  have e':(∃xs,SqL X.K H p xs/\k= !xs.isEmpty)\/(∃xs,SqT X.K H p xs/\k= !xs.isEmpty)\/ ∃kvs,H p=some (.dK kvs)/\k= !kvs.isEmpty:=e
  rcases e' with⟨xs,hx,e'⟩|⟨xs,hx,e'⟩|⟨kvs,hx,e'⟩
  ·subst e'
   obtain⟨its,r,pl,hz⟩:=I.list hx
   have hlen:=r.length
   exact wpAny_truthy_list pl.isList (by simp only [sA];omega) ⟨H,I.tok _,by rw [zOT r];exact q⟩
  ·subst e'
   obtain⟨its,r,pl,hz⟩:=I.tuple hx
   have hlen:=r.length
   exact truthy_tuple pl (by simp only [sA];omega) ⟨H,I.tok _,by rw [zOT r];exact q⟩
  ·subst e'
   obtain⟨hz,hS,vs,r,m⟩:kvs.length<=sizeLine/\(p==sysModules)=false/\ ∃vs,KV kvs vs/\s.heap.DictOf (zOC X.prog X.w) p vs:=I.hok p _ hx
   have hlen:kvs.length=vs.length:=Paired.length r
   exact wpAny_truthy_dict hS m (by omega) ⟨H,I.tok _,by rw [zYU r];exact q⟩
 |_=>exact(show False from e).elim
theorem yFM(ha:PE X a ta)(he: ∀whole,isTrue a X.env whole=(do let v <-whole;standAt a.pos;holding [v] (truthy v))):
  PT X a (λσ H Q=>ta σ H λx H'=> ∃k,TruV X.K x H' k/\Q k H'):=by
 intro pins s σ H Q I h
 exact isTrue_plain (thn (ha pins s σ H _ I h) λv s1 ⟨x,H1,I1,r1,q1⟩=>yNL pins s1 σ H1 x v Q I1 r1 q1) (he _)
theorem zYV:OpR X (binaryOp .Add) (λx y H Q=> ∃i j,x=.str i/\y=.str j/\i.length+j.length<=sizeLine/\Q (.str (i++j)) H):=by
 intro pins s σ H x y v u Q I rx ry h
 obtain⟨i,j,rfl,rfl,hz,q⟩:=h
 obtain⟨t,rfl⟩:=rx
 obtain⟨t',rfl⟩:=ry
 exact add_str (λt' tk=>⟨.str (i++j),H,I.tok _,⟨_,rfl⟩,q⟩) hz
theorem vals1{x:V}{us:List Value}(r:Vals [x] us): ∃u,us=[u]/\RelV x u:=by
 cases r with
 |cons r1 r2=>cases r2;exact⟨_,rfl,r1⟩
theorem vals2{x y:V}{us:List Value}(r:Vals [x,y] us): ∃u w',us=[u,w']/\RelV x u/\RelV y w':=by
 cases r with
 |cons r1 r2=>
  cases r2 with
  |cons r3 r4=>cases r4;exact⟨_,_,rfl,r1,r3⟩
theorem yFN:CallR X (.builtin "abs") (λxs H Q=> ∃i,xs=[.int i]/\Q (.int (if i<0 then -i else i)) H):=by
 intro pins s σ H xs us Q I r h
 obtain⟨i,rfl,q⟩:=h
 obtain⟨u,rfl,t,rfl⟩:=vals1 r
 exact call_abs_int λu tk=>⟨.int (if i<0 then -i else i),H,I.tok _,⟨_,rfl⟩,q⟩
end
structure Cls(K:PySem.W.Frag)(C:Addr):Prop where
 pg:PySem.W.plainGet K C Str.empty=true
 hd:PySem.W.hasDictIn K C=true
 po:PySem.W.plainOver K C=true
 sa:PySem.W.findIn K (.ref C) "__setattr__"=some (some (.builtin "object.__setattr__"))
section
variable{X:Cx}{pins:List (Addr×Obj)}{σ:St}{H:Hp}{s:Shared}{A:Around}{E:Value->Shared->Prop}{Q:Value->Shared->Prop}{c:Value}{b:Bool}
inductive zJF(K:PySem.W.Frag)(H:Hp):V->Value->Prop where
 |non:zJF K H .non (.type "NoneType")
 |bl (x:Bool):zJF K H (.bl x) (.type "bool")
 |int (i:Int):zJF K H (.int i) (.type "int")
 |str (x:Str):zJF K H (.str x) (.type "str")
 |flt (x:UInt64):zJF K H (.flt x) (.type "float")
 |lst {a:Addr} {xs:List V} (e:H a=some (.lst xs)):zJF K H (.ref a) (.type "list")
 |frz {a:Addr} {o:Obj} {xs:List V} (e:H a=some (.frz o (.lst xs))):zJF K H (.ref a) (.type "list")
 |tup {a:Addr} {xs:List V} (e:H a=some (.tup xs)):zJF K H (.ref a) (.type "tuple")
 |dK {a:Addr} {kvs:List (Key×V)} (e:H a=some (.dK kvs)):zJF K H (.ref a) (.type "dict")
 |dT {a:Addr} {kvs:List (List Key×V)} (e:H a=some (.dT kvs)):zJF K H (.ref a) (.type "dict")
 |ins {a C dx:Addr} {fs:List (Str×V)} (e:H a=some (.ins C dx fs)) (cl:Cls K C) (ha:PySem.W.findIn K (.ref C) "__class__"=some (some (.builtin "object.__class__")))
   (hn:PySem.W.specialIn K (.builtin "object.__class__") "__get__"=some (some (.builtin "getset_descriptor.__get__"))) (htk:PySem.W.takesIn K (.builtin "object.__class__")=some true)
   (hm:PySem.W.mroIn K C (.type "object")=some true):zJF K H (.ref a) (.ref C)
end
structure Room(k:Nat)(A:Around):Prop where
 hd:A.handled=none
 dp:A.depth+3 * k+5<recursionLimit
 un:A.units+16 * k+200<cLine
theorem Room.mono{j k:Nat}{A:Around}(r:Room k A)(h:j<=k):Room j A:=⟨r.hd,by have:=r.dp;omega,by have:=r.un;omega⟩
theorem Room.deeper{k:Nat}{A:Around}(r:Room (k+1) A)(env:Env):Room k (A.deeper env):=
 ⟨r.hd,by have:=r.dp;show A.depth+1+3 * k+5<_;omega,by have:=r.un;show A.units+3+16 * k+200<_;omega⟩
theorem Room.in1{k:Nat}{A:Around}(r:Room (k+1) A):Room k A.in1:=
 ⟨r.hd,by have:=r.dp;show A.depth+3 * k+5<_;omega,by have:=r.un;show A.units+1+16 * k+200<_;omega⟩
theorem Room.depth{k:Nat}{A:Around}(r:Room k A):A.depth<recursionLimit:=by have:=r.dp;omega
theorem Room.units{k:Nat}{A:Around}(r:Room k A):A.units+64<cLine:=by have:=r.un;omega
def tNil:TA:=λ_ H Q=>Q [] H
def tCons(ta:TE)(tr:TA):TA:=λσ H Q=>ta σ H λx H1=>tr σ H1 λxs H2=>Q (x::xs) H2
section
variable{X:Cx}{e:Expr}{es:List Expr}{te:TE}{t:TA}{pos:Pos}
theorem zOU:PA X [] tNil:=λ_ _ _ _ H Q I h=>Calls.spliced_nil ⟨[],H,I,.nil,h⟩
theorem zDM(ha:PE X e te)(hr:PA X es t)(hs:starEach (e::es) X.env=(false,eval e X.env)::starEach es X.env:=by rfl):PA X (e::es) (tCons te t):=by
 intro pos pins s σ H Q I h
 rw [hs]
 show wpAny _ _ (spliced ((false,eval e X.env)::backTo pos (starEach es X.env))) _ _ s
 refine Calls.spliced_cons (thn (ha pins s σ H _ I h) λu s1 ⟨x,H1,I1,r1,q1⟩=>?_)
 exact thn (hr pos pins s1 σ H1 _ I1 q1) λus s2 ⟨xs,H2,I2,r2,q2⟩=>⟨x::xs,H2,I2,.cons r1 r2,q2⟩
def tTup(t:TA):TE:=λσ H Q=>t σ H λxs H1=>xs.length<=sizeLine/\ ∀p,H1 p=none->Q (.ref p) (upd H1 p (.tup xs))
def tLst(t:TA):TE:=λσ H Q=>t σ H λxs H1=>xs.length<=sizeLine/\ ∀p,H1 p=none->Q (.ref p) (upd H1 p (.lst xs))
theorem yNM{x1}(h:PA X es t):PE X (.Tuple es x1 pos) (tTup t):=by
 intro pins s σ H Q I hq
 refine wpAny_Tuple_spliced (thn (h pos pins s σ H _ I hq) λus s1 ⟨xs,H1,I1,r,z,q⟩=>⟨by rw [<-r.length];exact z,?_⟩)
 have hf:H1 s1.heap.objs.size=none:=I1.hok.fresh (le_refl _)
 refine⟨.ref s1.heap.objs.size,upd H1 s1.heap.objs.size (.tup xs),I1.laid (t':=s1.toks) (λb u e=>hP0 _ e) (le_refl _) ?_,rfl,q _ hf⟩
 exact⟨z,us,r,⟨_,Heap.get?_push_size _ rfl,rfl,_,rfl⟩⟩
theorem yNN(h:PA X es t):PE X (.List es pos) (tLst t):=by
 intro pins s σ H Q I hq
 refine wpAny_List_spliced (thn (h pos pins s σ H _ I hq) λus s1 ⟨xs,H1,I1,r,z,q⟩=>⟨by rw [<-r.length];exact z,?_⟩)
 have hf:H1 s1.heap.objs.size=none:=I1.hok.fresh (le_refl _)
 refine⟨.ref s1.heap.objs.size,upd H1 s1.heap.objs.size (.lst xs),I1.laid (t':=s1.toks) (λb u e=>hP0 _ e) (le_refl _) ?_,rfl,q _ hf⟩
 exact⟨z,us,0,r,Heap.get?_push_size _ rfl⟩
end
abbrev Sp:=List V->Hp->VK->XK->Prop
abbrev CXT:=List Env->Hp->Shared->XK->Value->Shared->Prop
structure Env0(P:Program)(w:World)(K:PySem.W.Frag)(mg:Str->Option Value)(base:Heap)(A:Around)(outer:List Env)(s:Shared)(H:Hp):Prop where
 frames:A.frames=some outer
 mod:Mod K mg base
 bs: ∀b o,base.get? b=some o->s.heap.get? b=some o/\H b=none
 bsz:base.objs.size<=s.heap.objs.size
 funs:s.heap.FunFrames base outer
 frf: ∀b∈frs outer,H b=none
 hok:HOk P w H s.heap
 bare:AllBare s.gens
def CE(outer:List Env)(P:Program)(w:World)(H:Hp)(s:Shared)(Q:VK)(u:Value)(s':Shared):Prop:=
 ∃v H',s'.os=s.os/\AllBare s'.gens/\Un (frs outer) [] H H' s.heap s'.heap/\HOk P w H' s'.heap/\RelV v u/\Q v H'
def CR(CX:CXT)(outer:List Env)(P:Program)(w:World)(H:Hp)(s:Shared)(Q:VK)(E:XK)(r:Result)(s':Shared):Prop:=
 match r with
 |.ok (.ret u)=>CE outer P w H s Q u s'
 |.ok _=>False
 |.error e=>CX outer H s E e s'
structure FnOk(P:Program)(w:World)(K:PySem.W.Frag)(mg:Str->Option Value)(base:Heap)(CX:CXT)(k:Nat)(f:Addr)(fd:FuncData)(ps:List Str)(sp:Sp):Prop where
 len: ∀vs H Q E,sp vs H Q E->vs.length=ps.length
 run: ∀(A:Around)(outer:List Env)(s:Shared)(H:Hp)(args:Args)(us:List Value)(vs:List V)(Q:VK)(E:XK),Room k A->Env0 P w K mg base A outer s H->BindsTo s fd args (ps.zip us)->Vals vs us->sp vs H Q E->
  codeAny (model P w) A (.call (.ref f) args) (CR CX outer P w H s Q E) s
theorem FnOk.imp{P:Program}{w:World}{K:PySem.W.Frag}{mg:Str->Option Value}{base:Heap}{CX:CXT}{k:Nat}{f:Addr}{fd:FuncData}{ps:List Str}{sp sp':Sp}(F:FnOk P w K mg base CX k f fd ps sp)
  (h: ∀vs H Q E,sp' vs H Q E->sp vs H Q E):FnOk P w K mg base CX k f fd ps sp':=
 ⟨λvs H Q E q=>F.len vs H Q E (h _ _ _ _ q),λA outer s H args us vs Q E hr he hb hv hs=>F.run A outer s H args us vs Q E hr he hb hv (h _ _ _ _ hs)⟩
theorem Env0.in1{P:Program}{w:World}{K:PySem.W.Frag}{mg:Str->Option Value}{base:Heap}{A:Around}{outer:List Env}{s:Shared}{H:Hp}(e:Env0 P w K mg base A outer s H):
  Env0 P w K mg base A.in1 outer s H:=⟨e.frames,e.mod,e.bs,e.bsz,e.funs,e.frf,e.hok,e.bare⟩
section
variable{X:Cx}{pins:List (Addr×Obj)}{σ:St}{H:Hp}{s s':Shared}
theorem Inv.env0(I:Inv X pins σ H s):Env0 X.prog X.w X.K X.mg X.base X.A X.stack s H:=
 ⟨I.ok.frames,I.ok.mod,I.bs,le_trans I.ok.bsz I.sz,I.stack,I.stkFree,I.hok,I.bare⟩
theorem Inv.after{Q:VK}{u:Value}(I:Inv X pins σ H s)(h:CE X.stack X.prog X.w H s Q u s'):EP X pins σ Q u s':=by
 obtain⟨v,H',os,bare,un,hok,r,q⟩:=h
 obtain⟨hh,g,d,t,os'⟩:=s'
 obtain rfl:os'=s.os:=os
 exact⟨v,H',I.call (h':=hh) (g':=g) (d':=d) (t':=t) (ch:=[]) un hok bare (λb z=>absurd z (by simp)),r,q⟩
end
def tCall(sp:Sp)(dvs:List V)(E:XK)(t:TA):TE:=λσ H Q=>t σ H λvs H1=>sp (vs++dvs) H1 Q E
def Binds(K:PySem.W.Frag)(fd:FuncData)(ps:List Str)(ds:List Value):Prop:=
 ∀(s:Shared)(us:List Value),K.In s.heap->(us++ds).length=ps.length->BindsTo s fd ⟨us,[]⟩ (ps.zip (us++ds))
theorem Binds.all{K:PySem.W.Frag}{fd:FuncData}{ps:List Str}(h: ∀us:List Value,us.length=ps.length->bindArgs fd ⟨us,[]⟩=pure (ps.zip us)):Binds K fd ps []:=λs us _ hl=>by
 rw [aN]at hl ⊢
 exact .of_eq (h us hl)
def zTQ(CX:CXT)(X:Cx)(E:XK):Prop:= ∀(pins:List (Addr×Obj))(σ:St)(H:Hp)(s:Shared)(e:Value)(s':Shared),Inv X pins σ H s->CX X.stack H s E e s'->X.xe e s'
section
variable{X:Cx}{CX:CXT}{k:Nat}{f C:Addr}{fd:FuncData}{ps:List Str}{sp:Sp}{dvs:List V}{ds:List Value}{E:XK}{x m:Str}{p pos apos:Pos}{e o:Expr}{es:List Expr}{ta:TE}{t:TA}
theorem yNO{pins:List (Addr×Obj)}{σ:St}{H:Hp}{s:Shared}{Q:VK}{us:List Value}{vs:List V}(F:FnOk X.prog X.w X.K X.mg X.base CX k f fd ps sp)(hr:Room k X.A)(hb:Binds X.K fd ps ds)(hd:Vals dvs ds)(hx:zTQ CX X E)
  (I:Inv X pins σ H s) (r:Vals vs us) (h:sp (vs++dvs) H Q E):wpAny (model X.prog X.w) X.A (call (.ref f) us) (EP X pins σ Q) X.xe s:=by
 have r2:Vals (vs++dvs) (us++ds):=r.append hd
 have hl:(us++ds).length=ps.length:=by rw [<-r2.length];exact F.len _ _ _ _ h
 refine wpAny_call (codeAny_mono (F.run X.A X.stack s H ⟨us,[]⟩ (us++ds) (vs++dvs) Q E hr I.env0 (hb s us I.kIn hl) r2 h) λr s' hq=>?_)
 cases r with
 |error e=>exact hx pins σ H s e s' I hq
 |ok fl=>
  cases fl with
  |ret u=>exact I.after hq
  |next=>exact False.elim hq
  |brk=>exact False.elim hq
  |cont=>exact False.elim hq
theorem yBE(F:FnOk X.prog X.w X.K X.mg X.base CX k f fd ps sp)(hr:Room k X.A)(hg:Gl X x)(hm:X.mg x=some (.ref f))(hk:PySem.W.keepIn X.K (.ref f)=true)(hb:Binds X.K fd ps ds)(hd:Vals dvs ds)(hx:zTQ CX X E)
  (ha:PA X (e::es) t) (hdb:(x==("__debug__":Str))=false:=by decide) (he:starEach (e::es) X.env=(false,eval e X.env)::starEach es X.env:=by rfl) (hpl:(backTo pos (starEach es X.env)).any (·.1)=false:=by rfl):
  PE X (.Call (.Name x p) (e::es) [] pos) (tCall sp dvs E t):=by
 intro pins s σ H Q I h
 refine wpAny_Call_Name_kw (zHW I hg hm ?_ hdb)
 refine PySem.W.callWith_K (h₀:=X.base) I.ok.mod.kin hk (thn (ha pos pins s σ H _ I h) λus s1 ⟨vs,H1,I1,r,q⟩=>⟨I1.kIn,?_⟩) he hpl
 exact yNO F hr hb hd hx I1 r q
end
structure FnScope(N P:List Str)(sc:Scope):Prop where
 kind:sc.kind=.function
 co:sc.isCoroutine=false
 gen:sc.isGenerator=false
 nd:N.Nodup
 pre:N.take P.length=P
 par: ∀x∈P,sc.names.lookup x=some .local\/sc.names.lookup x=some .cell
 nofree: ∀y∈sc.names,y.2≠.free
theorem fsK{N P:List Str}{sc:Scope}(h:N.Nodup/\N.take P.length=P/\(∀x∈P,sc.names.lookup x=some .local\/sc.names.lookup x=some .cell)/\∀y∈sc.names,y.2≠.free)(a:sc.kind=.function:=by rfl)(b:sc.isCoroutine=false:=by rfl)(c:sc.isGenerator=false:=by rfl):FnScope N P sc:=⟨a,b,c,h.1,h.2.1,h.2.2.1,h.2.2.2⟩
theorem zSI{kindOf:Str->Option NameKind}{x:Str}: ∀{binds:List (Str×Value)}{m:Str->Option Value},(∀v,(x,v)∉binds)->bindL kindOf binds m x=m x
 |[],_,_=>rfl
 |(n,v)::r,m,h=>by
  unfold bindL
  rw [zSI λw hw=>h w (mO _ hw)]
  split
  ·have:x≠n:=by rintro rfl;exact h v mF0
   simp [this]
  ·rfl
theorem zSJ{kindOf:Str->Option NameKind}{x:Str}: ∀{binds:List (Str×Value)}{m:Str->Option Value},(∀v,(x,v)∉binds)->bindC kindOf binds m x=m x
 |[],_,_=>rfl
 |(n,v)::r,m,h=>by
  unfold bindC
  rw [zSJ λw hw=>h w (mO _ hw)]
  split
  ·rfl
  ·have:x≠n:=by rintro rfl;exact h v mF0
   simp [this]
theorem zSK{kindOf:Str->Option NameKind}{x:Str}{v:Value}: ∀{P:List Str}{vs:List Value}{i:Nat}{m:Str->Option Value},P.Nodup->P[i]? =some x->vs[i]? =some v->kindOf x=some .local->
  bindL kindOf (P.zip vs) m x=some v
 |[],_,_,_,_,h,_,_=>by simp at h
 |_::_,[],_,_,_,_,h,_=>by simp at h
 |p::P,w::vs,0,m,nd,h1,h2,hk=>by
  simp at h1 h2;subst h1;subst h2
  show bindL kindOf ((p,w)::P.zip vs) m p=_
  unfold bindL
  rw [zSI λv hv=>(nodup_cons.mp nd).1 (of_mem_zip hv).1,iP hk]
  simp
 |p::P,w::vs,i+1,m,nd,h1,h2,hk=>by
  show bindL kindOf ((p,w)::P.zip vs) m x=_
  unfold bindL
  exact zSK (i:=i) (nodup_cons.mp nd).2 (by simpa using h1) (by simpa using h2) hk
theorem zSL{kindOf:Str->Option NameKind}{x:Str}{v:Value}: ∀{P:List Str}{vs:List Value}{i:Nat}{m:Str->Option Value},P.Nodup->P[i]? =some x->vs[i]? =some v->kindOf x≠some .local->
  bindC kindOf (P.zip vs) m x=some v
 |[],_,_,_,_,h,_,_=>by simp at h
 |_::_,[],_,_,_,_,h,_=>by simp at h
 |p::P,w::vs,0,m,nd,h1,h2,hk=>by
  simp at h1 h2;subst h1;subst h2
  show bindC kindOf ((p,w)::P.zip vs) m p=_
  unfold bindC
  rw [zSJ λv hv=>(nodup_cons.mp nd).1 (of_mem_zip hv).1,iN0 hk]
  simp
 |p::P,w::vs,i+1,m,nd,h1,h2,hk=>by
  show bindC kindOf ((p,w)::P.zip vs) m x=_
  unfold bindC
  exact zSL (i:=i) (nodup_cons.mp nd).2 (by simpa using h1) (by simpa using h2) hk
def start(N:List Str)(vs:List V):St:=vs.map some++List.replicate (N.length - vs.length) none
def zOV(CX:CXT)(P:Program)(w:World)(K:PySem.W.Frag)(mg:Str->Option Value)(base:Heap)(N:List Str)(qual:Str)(scope:Scope)(f:Addr)(cd:Value)(A:Around)(outer:List Env)(s:Shared)(H:Hp)(E:XK):Cx where
 prog:=P
 w:=w
 K:=K
 mg:=mg
 base:=base
 A:=A.deeper (envOfC qual scope s.heap.objs.size f cd)
 N:=N
 s₀:=s
 H₀:=H
 env:=envOfC qual scope s.heap.objs.size f cd
 outer:=outer
 stack:=envOfC qual scope s.heap.objs.size f cd::outer
 ex:=[]
 calm:=true
 fn:=λ_=>true
 pn:=[]
 xe:=λe s'=>wpAny (model P w) (A.deeper (envOfC qual scope s.heap.objs.size f cd)) (leaving (envOfC qual scope s.heap.objs.size f cd) e) (λ_ s''=>CX outer H s E e s'') (λe' s''=>CX outer H s E e' s'') s'
theorem zWA{sc:Scope}{n:Nat}{x:Str}(h:sc.names.lookup x=some .cell): ∃c,(cellsFrom n sc.names []).lookup x=some c:=by
 have q:=PySem.W.cellsFrom_some sc.names n [] (.inl h)
 exact Option.isSome_iff_exists.mp q
theorem zSM{CX:CXT}{P:Program}{w:World}{K:PySem.W.Frag}{mg:Str->Option Value}{base:Heap}{N ps:List Str}{qual:Str}{scope:Scope}{f:Addr}{cd:Value}{A:Around}{outer:List Env}{s s1:Shared}{H:Hp}{E:XK}{us:List Value}{vs:List V}
  (S:FnScope N ps scope) (hd:A.handled=none) (e0:Env0 P w K mg base A outer s H) (hl:vs.length=ps.length) (r:Vals vs us)
  (x:InCallC s s.heap.objs.size (bindL (envOfC qual scope s.heap.objs.size f cd).kindOf (ps.zip us) λ_=>none) (cellsFrom (s.heap.objs.size+1) scope.names []) (bindC (envOfC qual scope s.heap.objs.size f cd).kindOf (ps.zip us) λ_=>none) s1):
  Inv (zOV CX P w K mg base N qual scope f cd A outer s H E) [] (start N vs) H s1:=by
 have hpl:ps.length<=N.length:=by have:=congrArg List.length S.pre;rw [lT]at this;omega
 obtain⟨h1,tk,rfl,hk⟩:=x.done
 have noA: ∀b:Addr,b∉(zOV CX P w K mg base N qual scope f cd A outer s H E).ex:=λb z=>absurd (show b∈([]:List Addr)from z) (by simp)
 refine⟨⟨e0.mod,S.kind,rfl,rfl,le_refl _,λy z c h1 h2=>?_,λy hy=>?_,λy c _ h=>?_,λ_=>hd,Around.frames_deeper e0.frames,.inr ⟨rfl,rfl⟩,λb z=>absurd z (noA b),e0.bs,e0.bsz,λb _ _=>noA b,λb z=>absurd z (noA b),e0.funs,e0.frf⟩,
  rfl,e0.bare,Un.kept hk,⟨_,x.toInCall.ns,λi y v h1 h2 h3=>?_⟩,λy c h=>⟨_,x.cell y c h⟩,e0.hok.fresh (le_refl _),λy c h=>?_,λp hp=>absurd (show p∈([]:List (Addr×Obj))from hp) (by simp),e0.hok.kept hk,?_⟩
 ·exact name_of_addr x.apart (PySem.mem_of_lookup h1) (PySem.mem_of_lookup h2)
 ·have hy:scope.names.lookup y=some .cell\/scope.names.lookup y=some .free:=hy
  rcases hy with hy|hy
  ·exact zWA hy
  ·exact absurd rfl (S.nofree _ (PySem.mem_of_lookup hy))
 ·exact le_of_lt (x.above y c (PySem.mem_of_lookup h))
 ·have hi:i<vs.length:=by
   unfold start at h2
   by_cases hi:i<vs.length
   ·exact hi
   ·rw [getElem?_append_right (by simpa using hi)]at h2
    rw [List.getElem?_replicate]at h2
    split at h2<;>cases h2
  have ha:vs[i]? =some v:=by
   unfold start at h2
   rw [getElem?_append_left (by simpa using hi),getElem?_map]at h2
   cases e:vs[i]? with
   |none=>rw [e]at h2;cases h2
   |some a=>rw [e]at h2;cases h2;rfl
  obtain⟨u,hu,rv⟩:=r.get ha
  have hp:ps[i]? =some y:=by
   rw [<-S.pre,List.getElem?_take_of_lt (by omega)];exact h1
  have ndP:ps.Nodup:=by rw [<-S.pre];exact S.nd.sublist (List.take_sublist _ _)
  refine⟨u,rv,?_⟩
  rcases S.par y (mem_of_getElem? hp)with k|k
  ·exact .inl ⟨k,zSK ndP hp hu k⟩
  ·obtain⟨c,e⟩:=zWA (n:=s.heap.objs.size+1) k
   refine .inr ⟨.inl k,c,e,?_⟩
   have q:=x.cell y c e
   rw [zSL ndP hp hu (by show scope.names.lookup y≠_;rw [k];decide)]at q
   exact q
 ·exact e0.hok.fresh (le_of_lt (x.above y c (PySem.mem_of_lookup h)))
 ·unfold start
  show _=N.length
  rw [lA,lM0,length_replicate]
  omega
theorem yMF{CX:CXT}{P:Program}{w:World}{K:PySem.W.Frag}{mg:Str->Option Value}{base:Heap}{k:Nat}{f:Addr}{name qual:Str}{params:Arguments}{body:List Stmt}{scope:Scope}{dV kV doc pm cdv ct oc:Value}{an od:Option Addr}
  {osl:Array (Option Value)} {N ps:List Str} {sp:Sp} (lk:K.lookup f=some ⟨oc,od,.func (PySem.W.fnOf name qual params body scope dV kV doc pm an cdv ct),osl⟩) (hcd:PySem.W.codeIn K cdv qual=true) (S:FnScope N ps scope)
  (len: ∀vs H Q E,sp vs H Q E->vs.length=ps.length)
  (hbody: ∀(A:Around)(outer:List Env)(s:Shared)(H:Hp)(vs:List V)(Q:VK)(E:XK),Room k (A.deeper (envOfC qual scope s.heap.objs.size f cdv))->sp vs H Q E->
   ∃t,PSs (zOV CX P w K mg base N qual scope f cdv A outer s H E) body t/\t {nx:=λ_ H'=>Q .non H',rt:=Q} (start N vs) H):
  FnOk P w K mg base CX (k+1) f (PySem.W.fnOf name qual params body scope dV kV doc pm an cdv ct) ps sp:=by
 refine⟨len,λA outer s H args us vs Q E hr e0 hb r hsp=>?_⟩
 have hl:=len _ _ _ _ hsp
 have KX:K.In s.heap:=e0.mod.kin.keeps λb o e=>(e0.bs b o e).1
 have lim:s.heap.NoLimit:=e0.mod.nolimit.keeps λb o e=>(e0.bs b o e).1
 have hkind: ∀y∈ps.zip us,scope.names.lookup y.1=some .local\/(scope.names.lookup y.1=some .cell/\((cellsFrom (s.heap.objs.size+1) scope.names []).lookup y.1).isSome=true):=λ⟨n,v⟩ hy=>by
  rcases S.par n (of_mem_zip hy).1 with q|q
  ·exact .inl q
  ·exact .inr ⟨q,PySem.W.cellsFrom_some _ _ _ (.inl q)⟩
 refine codeAny_call_function hr.depth (KX _ _ lk) rfl S.co S.gen rfl (PySem.W.codeRec_of KX hcd) (hb _ _ _ _ ?_)
 refine wpAny_newFunctionEnv_cells S.kind hkind λenv he s1 x=>?_
 subst he
 refine⟨lim.keeps x.toInCall.keep,codeAny_func ?_⟩
 obtain⟨t,ht,hq⟩:=hbody A outer s H vs Q E (hr.deeper _) hsp
 have I:Inv (zOV CX P w K mg base N qual scope f cdv A outer s H E) [] (start N vs) H s1:=zSM S hr.hd e0 hl r x
 refine wpAny_mono (ht [] s1 (start N vs) H _ I hq) (λfl s' hs=>?_) λe s' hs=>hs
 have fin: ∀{σ':St}{H':Hp}{v:V}{u:Value},Inv (zOV CX P w K mg base N qual scope f cdv A outer s H E) [] σ' H' s'->RelV v u->Q v H'->CE outer P w H s Q u s':=
  λ{σ' H' v u} J rv q=>⟨v,H',J.os,J.bare,J.base,J.hok,rv,q⟩
 cases fl with
 |ret u=>
  obtain⟨v,σ',H',J,rv,q⟩:=hs
  exact fin J rv q
 |next=>
  obtain⟨σ',H',J,q⟩:=hs
  exact fin (v:=V.non) (u:=Value.none) J rfl q
 |brk=>
  obtain⟨_,_,_,q⟩:=hs
  exact False.elim q
 |cont=>
  obtain⟨_,_,_,q⟩:=hs
  exact False.elim q
section
variable{X:Cx}{x:Str}{p pos:Pos}{e:Expr}{es:List Expr}{t:TA}{id T:String}{r:List V->Hp->VK->Prop}
def tCB(r:List V->Hp->VK->Prop)(t:TA):TE:=λσ H Q=>t σ H λvs H1=>r vs H1 Q
theorem zOW(hc:CallR X (.builtin id) r)(hg:Gl X x)(hm:X.mg x=none)(hv:bootBuiltins x=some (.builtin id))(ha:PA X (e::es) t)(hn:x≠"__name__":=by decide)(hdb:(x==("__debug__":Str))=false:=by decide)
  (he:starEach (e::es) X.env=(false,eval e X.env)::starEach es X.env:=by rfl) (hpl:(backTo pos (starEach es X.env)).any (·.1)=false:=by rfl):PE X (.Call (.Name x p) (e::es) [] pos) (tCB r t):=by
 intro pins s σ H Q I h
 refine wpAny_Call_Name_kw (zMA I hg hm hv ?_ hn hdb)
 exact PyProof.Rows.callWith_builtin1 (thn (ha pos pins s σ H _ I h) λus s1 ⟨vs,H1,I1,r1,q1⟩=>hc pins s1 σ H1 vs us Q I1 r1 q1) he hpl
theorem zMD(hc:CallR X (.type T) r)(hg:Gl X x)(hm:X.mg x=none)(hv:bootBuiltins x=some (.type T))(ha:PA X (e::es) t)(hn:x≠"__name__":=by decide)(hdb:(x==("__debug__":Str))=false:=by decide)
  (he:starEach (e::es) X.env=(false,eval e X.env)::starEach es X.env:=by rfl) (hpl:(backTo pos (starEach es X.env)).any (·.1)=false:=by rfl):PE X (.Call (.Name x p) (e::es) [] pos) (tCB r t):=by
 intro pins s σ H Q I h
 refine wpAny_Call_Name_kw (zMA I hg hm hv ?_ hn hdb)
 exact PyProof.Rows.callWith_type1 (thn (ha pos pins s σ H _ I h) λus s1 ⟨vs,H1,I1,r1,q1⟩=>hc pins s1 σ H1 vs us Q I1 r1 q1) he hpl
end
end L2
namespace HT
open PySem PyProof.Rows
section
variable{prog:Program}{w:World}{A:Around}{E:Value->Shared->Prop}{s:Shared}
theorem cat_tup{t b:Addr}{vs ws:List Value}{Q:Value->Shared->Prop}(ht:IsTup s.heap t vs.toArray)(hb:IsTup s.heap b ws.toArray)(hv:vs≠[])
  (h1:ws=[]->Q (.ref t) s) (h2:ws≠[]->Q (.ref s.heap.objs.size) {s with heap:=s.heap.push {cls:=.type "tuple",data:=.seq (vs++ws).toArray}})
  (hsz:vs.length+ws.length<=sizeLine):wpAny (model prog w) A (binaryOp .Add (.ref t) (.ref b)) Q E s:=by
 obtain⟨⟨cls,dd,data,sl⟩,ho,hc,n,hd⟩:=id ht
 obtain⟨⟨cls2,dd2,data2,sl2⟩,ho2,hc2,n2,hd2⟩:=id hb
 simp only at hc hd hc2 hd2
 subst hc hd hc2 hd2
 have e:vs.toArray++ws.toArray=(vs++ws).toArray:=by simp
 by_cases hw:ws=[]
 ·exact concat_meets ⟨_,ho,rfl⟩ ⟨_,ho2,rfl⟩ noFill_tuple_add seq_tuple_add PySem.F.slot_tuple_add PySem.F.entry_tuple_add (PySem.F.args_tuple_add_2 _ _)
   (tuple_addW1 t b vs.toArray ws.toArray n n2 dd dd2 sl sl2 (by simpa using hv) (by simp [hw])) ⟨ho,ho2,h1 hw⟩
 ·refine concat_meets ⟨_,ho,rfl⟩ ⟨_,ho2,rfl⟩ noFill_tuple_add seq_tuple_add PySem.F.slot_tuple_add PySem.F.entry_tuple_add (PySem.F.args_tuple_add_2 _ _)
   (tuple_addW2 t b vs.toArray ws.toArray n n2 dd dd2 sl sl2 (by simpa using hv) (by simpa using hw) (by rw [sA,sA];exact hsz)) ⟨ho,ho2,?_⟩
  rw [e]
  exact h2 hw
def sIx(n d:Nat):Option Int->Nat
 |none=>d
 |some v=>if v<0 then(v+(n:Int)).toNat else min v.toNat n
theorem sIx_le(n d:Nat)(hd:d<=n)(o:Option Int):sIx n d o<=n:=by
 cases o with
 |none=>exact hd
 |some v=>
  show(if v<0 then(v+(n:Int)).toNat else min v.toNat n)<=n
  by_cases hv:v<0
  ·rw [iP hv];omega
  ·rw [iN0 hv];exact Nat.min_le_right _ _
theorem yBF(v:Int)(n d:Nat):(if v<0 then max (v+(n:Int)) 0 else min v (n:Int))=((sIx n d (some v):Nat):Int):=by
 show(if v<0 then max (v+(n:Int)) 0 else min v (n:Int))=(((if v<0 then(v+(n:Int)).toNat else min v.toNat n):Nat):Int)
 by_cases hv:v<0
 ·simp only [iP hv];omega
 ·simp only [iN0 hv];omega
theorem zYW(lo hi:Option Int)(n:Nat):Builtin.Slice.sliceAdjust lo hi 1 (n:Int)=(((sIx n 0 lo:Nat):Int),((sIx n n hi:Nat):Int)):=by
 have h1: ¬((1:Int)<0):=by omega
 unfold Builtin.Slice.sliceAdjust
 simp only [h1,iF]
 refine Prod.ext ?_ ?_
 ·cases lo with
  |none=>rfl
  |some v=>exact yBF v n 0
 ·cases hi with
  |none=>rfl
  |some v=>exact yBF v n n
theorem zYX(i j:Nat):Builtin.Slice.slicePlaces (i:Int) (j:Int) 1=j - i:=by
 unfold Builtin.Slice.slicePlaces
 have h1:(1:Int)>0:=by omega
 simp only [h1,if_true,Int.ediv_one]
 split<;>omega
theorem zOX{v:Value}{o:Option Int}{Q:Option Int->Shared->Prop}(p:IsPart v o)(h:Q o s):wpAny (model prog w) A (Builtin.Slice.slicePartIndex v) Q E s:=by
 cases p with
 |none=>exact slicePart_none h
 |int i t=>exact slicePart_int h
theorem sliceApplied_gen{sl:Addr}{vl vu:Value}{lo hi:Option Int}{n:Nat}{Q:Int×Int×Nat->Shared->Prop}(hs:s.heap.IsSliceOf sl vl vu .none)(pl:IsPart vl lo)(pu:IsPart vu hi)
  (h:Q (((sIx n 0 lo:Nat):Int),1,sIx n n hi - sIx n 0 lo) s):wpAny (model prog w) A (Builtin.Slice.sliceApplied (.ref sl) (pure (n:Int))) Q E s:=by
 obtain⟨os,hos,hcs,hds⟩:=id hs
 unfold Builtin.Slice.sliceApplied Builtin.Slice.sliceFields
 refine wB0 (wB0 (wpAny_field hos hds (x:=vl) rfl (wB0 (wpAny_field hos hds (x:=vu) rfl (wB0 (wpAny_field hos hds (x:=.none) rfl (wP0 ?_)))))))
 refine wB0 (slicePart_none ?_)
 show wpAny _ _ (if((1:Int)==0)=true then _ else _) _ _ s
 rw [iN0 (by decide)]
 refine wB0 (zOX pl (wB0 (zOX pu (wB0 (wP0 ?_)))))
 show wpAny _ _ (match Builtin.Slice.sliceAdjust lo hi 1 (n:Int)with |(lo,hi)=>pure (lo,(1:Int),Builtin.Slice.slicePlaces lo hi 1)) _ _ s
 rw [zYW lo hi n]
 show wpAny _ _ (pure (((sIx n 0 lo:Nat):Int),(1:Int),Builtin.Slice.slicePlaces ((sIx n 0 lo:Nat):Int) ((sIx n n hi:Nat):Int) 1)) _ _ s
 rw [zYX]
 exact wP0 h
theorem yFO(xs:Array Value)(i k:Nat):((List.range k).filterMap λ(m:Nat)=>xs[((i:Int)+(m:Int) * 1).toNat]?).toArray=((xs.toList.drop i).take k).toArray:=by
 have e:(λ(m:Nat)=>xs[((i:Int)+(m:Int) * 1).toNat]?)=λm=>xs[i+m]? :=by
  funext m
  have:((i:Int)+(m:Int) * 1).toNat=i+m:=by omega
  rw [this]
 rw [e]
 have:=pick_run xs i k
 rw [List.filterMap_map]at this
 have e2:((λx=>xs[x]?)∘λx=>i+x)=λm=>xs[i+m]? :=rfl
 rw [e2]at this
 rw [this]
theorem getItem_tuple_cut{t sl:Addr}{items:Array Value}{vl vu:Value}{lo hi:Option Int}{Q:Value->Shared->Prop}(ht:IsTup s.heap t items)(hs:s.heap.IsSliceOf sl vl vu .none)(pl:IsPart vl lo)(pu:IsPart vu hi)
  (hw: ¬(sIx items.size 0 lo=0/\sIx items.size items.size hi=items.size))
  (h:Q (.ref s.heap.objs.size) {s with heap:=s.heap.push {cls:=.type "tuple",data:=.seq ((items.toList.drop (sIx items.size 0 lo)).take (sIx items.size items.size hi - sIx items.size 0 lo)).toArray}})
  (hsz:items.size<=sizeLine):wpAny (model prog w) A (getItem (.ref t) (.ref sl)) Q E s:=by
 have htake:sizeOk (.seq ((items.toList.drop (sIx items.size 0 lo)).take (sIx items.size items.size hi - sIx items.size 0 lo)).toArray):=by
  show((items.toList.drop (sIx items.size 0 lo)).take (sIx items.size items.size hi - sIx items.size 0 lo)).toArray.size<=sizeLine
  rw [sA,lT,length_drop,Array.length_toList]
  omega
 have hj:sIx items.size items.size hi<=items.size:=sIx_le _ _ (le_refl _) hi
 obtain⟨os,hos,hcs,hds⟩:=id hs
 have hTs:s.TypeIs (.ref sl) "slice":=⟨os,hos,hcs⟩
 unfold getItem
 try with_reducible refine wpAny_holding ?_
 first |refine wB0 (wP0 ?_)|skip
 refine wB0 (wpAny_sequenceKey ht.typeIs (by decide) ?_)
 refine wB0 (wpAny_callSpecial?_slot (name:=Str.ofString "__getitem__") ht.typeIs PyProof.Rows.slot_tuple_getitem
  (wpAny_call_entry PyProof.Rows.slot_tuple_getitem ht.typeIs entry_tuple_getitem ?_ (args_tuple_getitem _ _)))
 show wpAny _ _ (Builtin.Tuple.tupleItemsOf (.ref t) >>= _) _ _ s
 refine wB0 (tupleItemsOf_ ht ?_)
 refine wB0 (wpAny_typeOf hTs ?_)
 rw [iP (by decide)]
 refine wB0 (sliceApplied_gen hs pl pu ?_)
 have hno: ¬((((sIx items.size 0 lo:Nat):Int)==0&&(1:Int)==1&&(sIx items.size items.size hi - sIx items.size 0 lo)==items.size)=true):=by
  intro q
  rw [aE,aE]at q
  have q1:((sIx items.size 0 lo:Nat):Int)=0:=eq_of_beq q.1.1
  have q2:sIx items.size items.size hi - sIx items.size 0 lo=items.size:=eq_of_beq q.2
  exact hw ⟨by omega,by omega⟩
 show wpAny _ _ (if(((sIx items.size 0 lo:Nat):Int)==0&&(1:Int)==1&&(sIx items.size items.size hi - sIx items.size 0 lo)==items.size)=true then _ else _) _ _ s
 rw [iN0 hno,yFO]
 first
  |exact wB0 (m:=Builtin.Tuple.tupleExact _) (wpAny_newObj_type (wP0 ⟨_,rfl,wP0 h⟩) htake)
  |exact wB0 (m:=Builtin.Tuple.tupleExact _) (wpAny_newObj_type (wB0 (wP0 (wP0 ⟨_,rfl,wP0 h⟩))) htake)
  |exact wB0 (wB0 (m:=Builtin.Tuple.tupleExact _) (wpAny_newObj_type (wP0 (wP0 ⟨_,rfl,wP0 h⟩)) htake))
  |exact wB0 (wB0 (m:=Builtin.Tuple.tupleExact _) (wpAny_newObj_type (wP0 ⟨_,rfl,wP0 h⟩) htake))
end
end HT
namespace L2
open PySem PySem.Spec PyProof.Rows
abbrev TO:=St->Hp->(Option Int->Hp->Prop)->Prop
def PO(X:Cx)(e:Option Expr)(t:TO):Prop:=
 ∀(pins:List (Addr×Obj))(s:Shared)(σ:St)(H:Hp)(Q:Option Int->Hp->Prop),Inv X pins σ H s->t σ H Q->
  wpAny (model X.prog X.w) X.A (evalPart e X.env) (λu s'=> ∃o H',Inv X pins σ H' s'/\IsPart u o/\Q o H') X.xe s
def yJE:TO:=λ_ H Q=>Q none H
def tPart(t:TE):TO:=λσ H Q=>t σ H λx H1=> ∃i,x=.int i/\Q (some i) H1
section
variable{X:Cx}{e:Expr}{te:TE}{lo hi:Option Expr}{tl th:TO}{pos p2:Pos}
theorem yJF:PO X none yJE:=by
 intro pins s σ H Q I h
 rw [evalPart_none]
 exact wP0 ⟨none,H,I,.none,h⟩
theorem yJG(h:PE X e te):PO X (some e) (tPart te):=by
 intro pins s σ H Q I hw
 rw [evalPart_some]
 refine thn (h pins s σ H _ I hw) λu s1 ⟨x,H1,I1,r1,q1⟩=>?_
 obtain⟨i,rfl,q⟩:=q1
 obtain⟨t,rfl⟩:=r1
 exact⟨some i,H1,I1,.int i t,q⟩
def SlR(X:Cx)(r:V->Option Int->Option Int->Hp->VK->Prop):Prop:=
 ∀(pins:List (Addr×Obj))(s:Shared)(σ:St)(H:Hp)(x:V)(v vl vu:Value)(lo hi:Option Int)(sl:Addr)(Q:VK),Inv X pins σ H s->RelV x v->s.heap.IsSliceOf sl vl vu .none->IsPart vl lo->IsPart vu hi->r x lo hi H Q->
  ∃T id,typeLookup (.type T) "__getitem__"=pure (some (.builtin id))/\s.TypeIs v T/\wpAny (model X.prog X.w) X.A (getItem v (.ref sl)) (EP X pins σ Q) X.xe s
theorem SlR.or{r r':V->Option Int->Option Int->Hp->VK->Prop}(h:SlR X r)(h':SlR X r'):SlR X (λx lo hi H Q=>r x lo hi H Q\/r' x lo hi H Q):=by
 intro pins s σ H x v vl vu lo hi sl Q I rx hs pl pu q
 rcases q with q|q
 ·exact h pins s σ H x v vl vu lo hi sl Q I rx hs pl pu q
 ·exact h' pins s σ H x v vl vu lo hi sl Q I rx hs pl pu q
def tSl(r:V->Option Int->Option Int->Hp->VK->Prop)(te:TE)(tl th:TO):TE:=λσ H Q=>te σ H λx H1=>tl σ H1 λl H2=>th σ H2 λu H3=>r x l u H3 Q
theorem yFP{r:V->Option Int->Option Int->Hp->VK->Prop}(hr:SlR X r)(he:PE X e te)(hl:PO X lo tl)(hu:PO X hi th):PE X (.Subscript e (.Slice lo hi none p2) pos) (tSl r te tl th):=by
 intro pins s σ H Q I h
 refine Subscript_ (thn (he pins s σ H _ I h) λv s1 ⟨x,H1,I1,r1,q1⟩=>?_)
 refine wpAny_Slice (thn (hl pins s1 σ H1 _ I1 q1) λvl s2 ⟨l,H2,I2,pl,q2⟩=>thn (hu pins s2 σ H2 _ I2 q2) λvu s3 ⟨u,H3,I3,pu,q3⟩=>?_)
 rw [evalPart_none]
 refine wP0 ?_
 have I4:Inv X pins σ H3 {s3 with heap:=s3.heap.push {cls:=.type "slice",data:=.fields #[vl,vu,.none]}}:=I3.kept (t':=s3.toks) λb ob q=>hP0 _ q
 obtain⟨T,id,hT,ht,hg⟩:=hr pins {s3 with heap:=s3.heap.push {cls:=.type "slice",data:=.fields #[vl,vu,.none]}} σ H3 x v vl vu l u s3.heap.objs.size Q I4 r1 (Heap.IsSliceOf.new ..) pl pu q3
 show wpAny (model X.prog X.w) X.A (subscriptTail e (.Slice lo hi none p2) v (.ref s3.heap.objs.size)) (EP X pins σ Q) X.xe {s3 with heap:=s3.heap.push {cls:=.type "slice",data:=.fields #[vl,vu,.none]}}
 exact tail_any (ops:=[.ref s3.heap.objs.size,v]) ht hT hg (by with_unfolding_all rfl)
def zWB(xs:List V)(lo hi:Option Int):List V:=(xs.drop (HT.sIx xs.length 0 lo)).take (HT.sIx xs.length xs.length hi - HT.sIx xs.length 0 lo)
theorem zNI(xs:List V)(lo hi:Option Int):(zWB xs lo hi).length<=xs.length:=by
 unfold zWB
 rw [lT,length_drop]
 omega
def rSlT(K:PySem.W.Frag):V->Option Int->Option Int->Hp->VK->Prop:=λx lo hi H Q=> ∃a xs,x=.ref a/\SqT K H a xs/\
 ¬(HT.sIx xs.length 0 lo=0/\HT.sIx xs.length xs.length hi=xs.length)/\ ∀p,H p=none->Q (.ref p) (upd H p (.tup (zWB xs lo hi)))
theorem yNP:SlR X (rSlT X.K):=by
 intro pins s σ H x v vl vu lo hi sl Q I rx hs pl pu h
 obtain⟨a,xs,rfl,hx,hw,q⟩:=h
 cases rx
 obtain⟨its,r,ht,hz⟩:=I.tuple hx
 have hlen:its.toArray.size=xs.length:=by rw [sA];exact r.length.symm
 refine⟨"tuple",_,PyProof.Rows.slot_tuple_getitem.lookup,ht.typeIs,?_⟩
 refine HT.getItem_tuple_cut ht hs pl pu (by rw [hlen];exact hw) ?_ (by rw [hlen];exact hz)
 rw [hlen]
 refine⟨.ref s.heap.objs.size,_,I.laid (t':=s.toks) (o:=.tup (zWB xs lo hi)) (λb ob q=>hP0 _ q) (le_refl _) ?_,rfl,q _ (I.hok.fresh (le_refl _))⟩
 exact⟨le_trans (zNI xs lo hi) hz,_,(r.drop (HT.sIx xs.length 0 lo)).take (HT.sIx xs.length xs.length hi - HT.sIx xs.length 0 lo),IsTup.new _ _⟩
def rCatT(K:PySem.W.Frag):R2:=λx y H Q=> ∃a b xs ys,x=.ref a/\y=.ref b/\SqT K H a xs/\SqT K H b ys/\xs≠[]/\xs.length+ys.length<=sizeLine/\
 (ys=[]->Q (.ref a) H)/\(ys≠[]-> ∀p,H p=none->Q (.ref p) (upd H p (.tup (xs++ys))))
theorem Vals.nil_iff{xs:List V}{us:List Value}(r:Vals xs us):us=[]↔xs=[]:=by
 cases r with
 |nil=>simp
 |cons _ _=>simp
theorem yJH:OpR X (binaryOp .Add) (rCatT X.K):=by
 intro pins s σ H x y v u Q I rx ry h
 obtain⟨a,b,xs,ys,rfl,rfl,ha,hb,hx,hz,q1,q2⟩:=h
 cases rx
 cases ry
 obtain⟨its,r1,p1,_⟩:=I.tuple ha
 obtain⟨its2,r2,p2,_⟩:=I.tuple hb
 refine HT.cat_tup p1 p2 (λz=>hx (r1.nil_iff.mp z)) (λz=>⟨.ref a,H,I,rfl,q1 (r2.nil_iff.mp z)⟩) (λz=>?_) (by rw [<-r1.length, <-r2.length];exact hz)
 refine⟨.ref s.heap.objs.size,_,I.laid (t':=s.toks) (o:=.tup (xs++ys)) (λb ob q=>hP0 _ q) (le_refl _) ?_,rfl,q2 (λw=>z (r2.nil_iff.mpr w)) _ (I.hok.fresh (le_refl _))⟩
 exact⟨by rw [lA];exact hz,_,r1.append r2,IsTup.new _ _⟩
end
def ixN(n:Nat)(i:Int):Option Nat:=if 0<=i then(if i<n then some i.toNat else none)else if -(n:Int)<=i then some (i+n).toNat else none
def atI{α:Type}(xs:List α)(i:Int):Option α:=(ixN xs.length i).bind λj=>xs[j]?
theorem yBG{n:Nat}{i:Int}{j:Nat}(h:ixN n i=some j):seqIndex? i n=some j/\j<n/\ -(n:Int)<=i/\i<n:=by
 unfold ixN at h
 by_cases h0:0<=i
 ·rw [iP h0]at h
  by_cases h1:i<n
  ·rw [iP h1]at h
   have e:i.toNat=j:=Option.some.inj h
   exact⟨by rw [seqIndex_of h0 h1,e],by omega,by omega,h1⟩
  ·rw [iN0 h1]at h;cases h
 ·rw [iN0 h0]at h
  by_cases h1: -(n:Int)<=i
  ·rw [iP h1]at h
   have e:(i+n).toNat=j:=Option.some.inj h
   exact⟨by rw [seqIndex_neg (by omega) h1,e],by omega,h1,by omega⟩
  ·rw [iN0 h1]at h;cases h
theorem zTR{α:Type}{xs:List α}{i:Int}{v:α}(h:atI xs i=some v): ∃j,seqIndex? i xs.length=some j/\xs[j]? =some v/\j<xs.length/\ -(xs.length:Int)<=i/\i<xs.length:=by
 unfold atI at h
 cases e:ixN xs.length i with
 |none=>rw [e]at h;cases h
 |some j=>
  rw [e]at h
  obtain⟨h1,h2,h3,h4⟩:=yBG e
  exact⟨j,h1,h,h2,h3,h4⟩
def zTS(b:Expr):Prop:= ∀o i,subscripted b false o i=operate [o,i] (getItem o i)
def IxR(X:Cx)(r:R2):Prop:=
 ∀(value slice:Expr)(pins:List (Addr×Obj))(s:Shared)(σ:St)(H:Hp)(x y:V)(v u:Value)(Q:VK),Inv X pins σ H s->RelV x v->RelV y u->r x y H Q->
  subscripted slice false v u=operate [v,u] (getItem v u)->wpAny (model X.prog X.w) X.A (subscriptTail value slice v u) (EP X pins σ Q) X.xe s
def MtR(X:Cx)(id:String)(r:V->List V->Hp->VK->Prop):Prop:=
 ∀(pins:List (Addr×Obj))(s:Shared)(σ:St)(H:Hp)(x:V)(xs:List V)(v:Value)(us:List Value)(Q:VK),Inv X pins σ H s->RelV x v->Vals xs us->r x xs H Q->
  wpAny (model X.prog X.w) X.A (call (.builtin id) (v::us)) (EP X pins σ Q) X.xe s
section
variable{X:Cx}{a b:Expr}{ta tb:TE}{pos:Pos}
theorem IxR.or{r r':R2}(h:IxR X r)(h':IxR X r'):IxR X (λx y H Q=>r x y H Q\/r' x y H Q):=by
 intro value slice pins s σ H x y v u Q I rx ry q hs
 rcases q with q|q
 ·exact h value slice pins s σ H x y v u Q I rx ry q hs
 ·exact h' value slice pins s σ H x y v u Q I rx ry q hs
theorem pe_ix{r:R2}(hr:IxR X r)(ha:PE X a ta)(hb:PE X b tb)(hs:zTS b):PE X (.Subscript a b pos) (tOp r ta tb):=by
 intro pins s σ H Q I h
 exact Subscript_ (binT ha hb I h λv u s2 x y H2 I2 rx ry q=>hr a b pins s2 σ H2 x y v u Q I2 rx ry q (hs _ _))
def rIxL(K:PySem.W.Frag):R2:=λx y H Q=> ∃p xs i v,x=.ref p/\y=.int i/\SqL K H p xs/\atI xs i=some v/\Q v H
def rIxT(K:PySem.W.Frag):R2:=λx y H Q=> ∃p xs i v,x=.ref p/\y=.int i/\SqT K H p xs/\atI xs i=some v/\Q v H
def rIxS:R2:=λx y H Q=> ∃z i c,x=.str z/\y=.int i/\z.length<=sizeLine/\atI z.cps.toList i=some c/\Q (.str ⟨#[c]⟩) H
theorem yJI:IxR X (rIxL X.K):=by
 intro value slice pins s σ H x y v u Q I rx ry h hs
 obtain⟨p,xs,i,z,rfl,rfl,hq,he,q⟩:=h
 cases rx
 obtain⟨t,rfl⟩:=ry
 obtain⟨its,r,pl,hz⟩:=I.list hq
 obtain⟨j,h1,h2,h3,h4,h5⟩:=zTR he
 obtain⟨w,ew,rw'⟩:=r.get h2
 have hl:=r.length
 have hn:=zJA
 have fin:EP X pins σ Q w s:=⟨z,H,I,rw',q⟩
 by_cases h0:0<=i
 ·have hj:i.toNat=j:=by
   rw [seqIndex_of h0 h5]at h1
   exact Option.some.inj h1
  exact item_listR pl.isList h0 (by omega) (by rw [hj];simpa using ew) fin hs
 ·have hj:(i+(its.toArray.size:Int)).toNat=j:=by
   rw [seqIndex_neg (by omega) h4]at h1
   rw [sA, <-hl]
   exact Option.some.inj h1
  exact subscriptTail_builtinR (x:=w) pl.isList.typeIs slot_list_getitem.lookup
   (wpAny_getItem_list_neg (Q:=λr s'=>r=w/\EP X pins σ Q r s') pl.isList (by omega) (by rw [sA]<;>omega) (by omega) (by rw [hj];simpa using ew) ⟨rfl,fin⟩) hs
theorem ix_tup:IxR X (rIxT X.K):=by
 intro value slice pins s σ H x y v u Q I rx ry h hs
 obtain⟨p,xs,i,z,rfl,rfl,hq,he,q⟩:=h
 cases rx
 obtain⟨t,rfl⟩:=ry
 obtain⟨its,r,pl,hz⟩:=I.tuple hq
 obtain⟨j,h1,h2,h3,h4,h5⟩:=zTR he
 obtain⟨w,ew,rw'⟩:=r.get h2
 have hl:=r.length
 have hn:=zJA
 have fin:EP X pins σ Q w s:=⟨z,H,I,rw',q⟩
 exact subscriptTail_builtinR (x:=w) pl.typeIs slot_tuple_getitem.lookup
  (getItem_tuple (j:=j) (Q:=λr s'=>r=w/\EP X pins σ Q r s') pl (by omega) (by omega) (by rw [sA, <-hl];exact h1) (by simpa using ew) ⟨rfl,fin⟩) hs
theorem ix_str:IxR X rIxS:=by
 intro value slice pins s σ H x y v u Q I rx ry h hs
 obtain⟨z,i,c,rfl,rfl,hz,he,q⟩:=h
 obtain⟨t,rfl⟩:=rx
 obtain⟨t',rfl⟩:=ry
 obtain⟨j,h1,h2,h3,h4,h5⟩:=zTR he
 have hl:z.cps.toList.length=z.length:=by simp [Str.length]
 rw [hl]at h1 h4 h5
 have hn:=zJA
 exact tail_any (typeIs_str s z t) slot_str_getitem.lookup (getItem_str (c:=c) (by
  have e1:decide (i< -(2 ^ 63:Int))=false:=dF0 (by omega)
  have e2:decide (i>=2 ^ 63)=false:=dF0 (by omega)
  rw [e1,e2,Bool.or_false]) (by rw [h1];simpa using h2) ⟨.str ⟨#[c]⟩,H,I.tok _,⟨_,rfl⟩,q⟩) hs
def rIx(K:PySem.W.Frag):R2:=λx y H Q=>rIxL K x y H Q\/rIxT K x y H Q\/rIxS x y H Q
theorem yNQ:IxR X (rIx X.K):=yJI.or (ix_tup.or ix_str)
theorem zYY(its:List Value)(n j:Nat)(u:Value):Obj.mapSeq (·.setIfInBounds j u) {cls:=.type "list",data:=.seq its.toArray n}={cls:=.type "list",data:=.seq (its.set j u).toArray n}:=by
 simp [Obj.mapSeq]
theorem Inv.lst{pins:List (Addr×Obj)}{σ:St}{H:Hp}{s:Shared}{p:Addr}{xs:List V}(I:Inv X pins σ H s)(h:H p=some (.lst xs)):
  ∃(its:List Value)(n:Nat),Vals xs its/\s.heap.get? p=some {cls:=.type "list",data:=.seq its.toArray n}/\xs.length<=sizeLine:=by
 obtain⟨z,its,n,r,e⟩:=I.hok p _ h
 exact⟨its,n,r,e,z⟩
theorem Inv.lstUpd{pins:List (Addr×Obj)}{σ:St}{H:Hp}{s:Shared}{p:Addr}{xs ys:List V}{its its':List Value}{n n':Nat}{f:Obj->Obj}(I:Inv X pins σ H s)(h:H p=some (.lst xs))
  (ho:s.heap.get? p=some {cls:=.type "list",data:=.seq its.toArray n}) (hf:f {cls:=.type "list",data:=.seq its.toArray n}={cls:=.type "list",data:=.seq its'.toArray n'}) (r:Vals ys its') (hz:ys.length<=sizeLine) (t:Nat):
  Inv X pins σ (upd H p (.lst ys)) {s with heap:=s.heap.update p f,toks:=t}:=by
 have e:(s.heap.update p f).get? p=some {cls:=.type "list",data:=.seq its'.toArray n'}:=by
  rw [Heap.get?_update_self f ho (by rw [hf]<;>rfl),hf]
 refine I.write (x:=p) (e:=p) (by rw [h];trivial) (.inl rfl) (λb u hb q=>(Heap.get?_update_other _ _ (Ne.symm hb)).trans q) ⟨_,e⟩ ?_
 exact⟨hz,its',n',r,e⟩
def rSetL:V->V->V->Hp->(Hp->Prop)->Prop:=λo i v H Q=> ∃p xs k j,o=.ref p/\i=.int k/\H p=some (.lst xs)/\ixN xs.length k=some j/\Q (upd H p (.lst (xs.set j v)))
theorem set_list:PSet X rSetL:=by
 intro pins s σ H o i v ov iv u Q I ro ri rv h
 obtain⟨p,xs,k,j,rfl,rfl,hp,hj,q⟩:=h
 cases ro
 obtain⟨t,rfl⟩:=ri
 obtain⟨its,n,r,ho,hz⟩:=I.lst hp
 obtain⟨h1,h2,h3,h4⟩:=yBG hj
 have hl:=r.length
 have hn:=zJA
 have I':Inv X pins σ (upd H p (.lst (xs.set j v))) {s with heap:=s.heap.update p (Obj.mapSeq (·.setIfInBounds j u))}:=
  I.lstUpd hp ho (zYY its n j u) (r.set rv j) (by rw [length_set];exact hz) s.toks
 by_cases h0:0<=k
 ·have hk:k.toNat=j:=by
   rw [seqIndex_of h0 h4]at h1
   exact Option.some.inj h1
  exact PySem.W.ki_setAt ho h0 (by omega) (by rw [sA, <-hl];exact h4) (by rw [hk];exact⟨_,I',q⟩)
 ·have hk:(k+(its.toArray.size:Int)).toNat=j:=by
   rw [seqIndex_neg (by omega) h3]at h1
   rw [sA, <-hl]
   exact Option.some.inj h1
  exact PySem.W.ki_setBack ho (by omega) (by rw [sA, <-hl];exact h3) (by omega) (by rw [hk];exact⟨_,I',q⟩)
theorem zTT(lo hi:Option Int)(n:Nat):(sliceBounds lo hi none n).1=((HT.sIx n 0 lo:Nat):Int)/\(sliceBounds lo hi none n).2.1=((HT.sIx n n hi:Nat):Int)/\(sliceBounds lo hi none n).2.2=1:=by
 refine⟨?_,?_,rfl⟩
 ·cases lo with
  |none=>simp [sliceBounds,HT.sIx]
  |some i=>
   simp only [sliceBounds,HT.sIx,Option.getD_none,show(1:Int)>0 by decide,if_true]
   by_cases h:i<0
   ·simp only [h,if_true]<;>omega
   ·simp only [h,iF]<;>omega
 ·cases hi with
  |none=>simp [sliceBounds,HT.sIx]
  |some i=>
   simp only [sliceBounds,HT.sIx,Option.getD_none,show(1:Int)>0 by decide,if_true]
   by_cases h:i<0
   ·simp only [h,if_true]<;>omega
   ·simp only [h,iF]<;>omega
theorem zRR(its:List Value)(lo hi:Option Int):slicePick its.toArray lo hi none=((its.drop (HT.sIx its.length 0 lo)).take (HT.sIx its.length its.length hi - HT.sIx its.length 0 lo)).toArray:=by
 obtain⟨h1,h2,h3⟩:=zTT lo hi its.toArray.size
 unfold slicePick
 rw [h1,h2,h3]
 simp only [sliceRange_one,pick_run,sA]<;>rfl
def rSlL(K:PySem.W.Frag):V->Option Int->Option Int->Hp->VK->Prop:=λx lo hi H Q=> ∃a xs,x=.ref a/\SqL K H a xs/\ ∀p,H p=none->Q (.ref p) (upd H p (.lst (zWB xs lo hi)))
theorem yJJ:SlR X (rSlL X.K):=by
 intro pins s σ H x v vl vu lo hi sl Q I rx hs pl pu h
 obtain⟨a,xs,rfl,hx,q⟩:=h
 cases rx
 obtain⟨its,r,ht,hz⟩:=I.list hx
 have hlen:=r.length
 refine⟨"list",_,slot_list_getitem.lookup,ht.isList.typeIs,?_⟩
 refine wpAny_getItem_list_slice ht.isList hs pl pu .none (by simp) ?_ (by rw [sA]<;>omega)
 rw [zRR, <-hlen]
 refine⟨.ref s.heap.objs.size,_,I.laid (t':=s.toks) (o:=.lst (zWB xs lo hi)) (λb ob q=>hP0 _ q) (le_refl _) ?_,rfl,q _ (I.hok.fresh (le_refl _))⟩
 exact⟨le_trans (zNI xs lo hi) hz,_,0,(r.drop (HT.sIx xs.length 0 lo)).take (HT.sIx xs.length xs.length hi - HT.sIx xs.length 0 lo),Heap.get?_push_size _ rfl⟩
def wS:V->Bool
 |.non=>true
 |.bl _=>true
 |.int _=>true
 |.str _=>true
 |_=>false
def eqV:V->V->Bool
 |.non,.non=>true
 |.bl a,.bl b=>a==b
 |.bl a,.int b=>(if a then 1 else 0)==b
 |.int a,.bl b=>a==(if b then 1 else 0)
 |.int a,.int b=>a==b
 |.str a,.str b=>a==b
 |_,_=>false
theorem yNR{A:Around}{s:Shared}{y x:V}{u v:Value}(ry:RelV y u)(rx:RelV x v)(fy:wS y=true)(fx:wS x=true):SeqAt.EqAt A s u v (eqV y x):=by
 cases y with
 |non=>
  cases ry
  cases x with
  |non=>cases rx;exact SeqAt.EqAt.same _
  |bl b=>cases rx;exact SeqAt.EqAt.none_bool b
  |int b=>obtain⟨t,rfl⟩:=rx;exact SeqAt.EqAt.none_int b t
  |str b=>obtain⟨t,rfl⟩:=rx;exact SeqAt.EqAt.none_str b t
  |_=>exact absurd (show false=true from fx) xF0
 |bl a=>
  cases ry
  cases x with
  |non=>cases rx;exact SeqAt.EqAt.bool_none a
  |bl b=>cases rx;exact SeqAt.EqAt.bool_bool a b
  |int b=>obtain⟨t,rfl⟩:=rx;exact SeqAt.EqAt.bool_int a b t
  |str b=>obtain⟨t,rfl⟩:=rx;exact SeqAt.EqAt.bool_str a b t
  |_=>exact absurd (show false=true from fx) xF0
 |int a=>
  obtain⟨t',rfl⟩:=ry
  cases x with
  |non=>cases rx;exact SeqAt.EqAt.int_none a t'
  |bl b=>cases rx;exact SeqAt.EqAt.int_bool a t' b
  |int b=>obtain⟨t,rfl⟩:=rx;exact SeqAt.EqAt.int_int a t' b t
  |str b=>obtain⟨t,rfl⟩:=rx;exact SeqAt.EqAt.int_str a t' b t
  |_=>exact absurd (show false=true from fx) xF0
 |str a=>
  obtain⟨t',rfl⟩:=ry
  cases x with
  |non=>cases rx;exact SeqAt.EqAt.str_none a t'
  |bl b=>cases rx;exact SeqAt.EqAt.str_bool a t' b
  |int b=>obtain⟨t,rfl⟩:=rx;exact SeqAt.EqAt.str_int a t' b t
  |str b=>obtain⟨t,rfl⟩:=rx;exact SeqAt.EqAt.str_str a t' b t
  |_=>exact absurd (show false=true from fx) xF0
 |_=>exact absurd (show false=true from fy) xF0
theorem zTU:CallR X (.builtin "len") (λxs H Q=> ∃p ys,xs=[.ref p]/\(SqL X.K H p ys\/SqT X.K H p ys)/\Q (.int ys.length) H):=by
 intro pins s σ H xs us Q I r h
 obtain⟨p,ys,rfl,hq,q⟩:=h
 obtain⟨u,rfl,rx⟩:=vals1 r
 cases rx
 have hn:=zJA
 rcases hq with hq|hq
 ·obtain⟨its,r',pl,hz⟩:=I.list hq
  have hlen:=r'.length
  exact Calls.call_len_list pl.isList (by simp only [sA]<;>omega) ⟨.int ys.length,H,I.tok _,⟨s.toks+1,by rw [sA,hlen]⟩,q⟩
 ·obtain⟨its,r',pl,hz⟩:=I.tuple hq
  have hlen:=r'.length
  exact len_tuple pl (by simp only [sA]<;>omega) ⟨.int ys.length,H,I.tok _,⟨s.toks+1,by rw [sA,hlen]⟩,q⟩
theorem zTV:CallR X (.builtin "len") (λxs H Q=> ∃z,xs=[.str z]/\z.length<=sizeLine/\Q (.int z.length) H):=by
 intro pins s σ H xs us Q I r h
 obtain⟨z,rfl,hz,q⟩:=h
 obtain⟨u,rfl,t,rfl⟩:=vals1 r
 have hn:=zJA
 exact len_str (by omega) ⟨.int z.length,H,I.tok _,⟨_,rfl⟩,q⟩
theorem CallR.or{f:Value}{r r':List V->Hp->VK->Prop}(h:CallR X f r)(h':CallR X f r'):CallR X f (λxs H Q=>r xs H Q\/r' xs H Q):=by
 intro pins s σ H xs us Q I rs q
 rcases q with q|q
 ·exact h pins s σ H xs us Q I rs q
 ·exact h' pins s σ H xs us Q I rs q
theorem yR:CallR X (.type "tuple") (λxs H Q=> ∃p ys,xs=[.ref p]/\((SqL X.K H p ys/\ ∀l,H l=none->Q (.ref l) (upd H l (.tup ys)))\/(SqT X.K H p ys/\Q (.ref p) H))):=by
 intro pins s σ H xs us Q I r h
 obtain⟨p,ys,rfl,h⟩:=h
 obtain⟨u,rfl,rx⟩:=vals1 r
 cases rx
 rcases h with⟨hq,q⟩|⟨hq,q⟩
 ·obtain⟨its,r',pl,hz⟩:=I.list hq
  have hlen:=r'.length
  refine call_tuple_list pl.isList (λh' kp=>?_) (by simp only [sA]<;>omega)
  have I1:Inv X pins σ H {s with heap:=h'}:=I.kept (t':=s.toks) kp
  have I2:Inv X pins σ (upd H h'.objs.size (.tup ys)) {s with heap:=h'.push {cls:=.type "tuple",data:=.seq its.toArray}}:=
   I1.laid (t':=s.toks) (λb o e=>hP0 _ e) (le_refl _) (show ObjOk X.prog X.w _ _ _ (.tup ys)from⟨hz,its,r',IsTup.new _ _⟩)
  exact⟨.ref h'.objs.size,_,I2,rfl,q _ (I1.hok.fresh (le_refl _))⟩
 ·obtain⟨its,r',pl,hz⟩:=I.tuple hq
  exact call_tuple_same pl ⟨.ref p,H,I,rfl,q⟩
def tyV(K:PySem.W.Frag)(T:String)(x:V)(H:Hp):Prop:=match x with
 |.str _=>T="str"
 |.int _=>T="int"
 |.ref p=>(T="list"/\ ∃xs,SqL K H p xs)\/(T="tuple"/\ ∃o,K.lookup p=some o/\o.cls=.type "tuple"/\o.dict=none)\/
   (T="dict"/\((∃kvs,H p=some (.dK kvs))\/ ∃kvs,H p=some (.dT kvs)))\/(T="set"/\ ∃S n,H p=some (.set S n))
 |_=>False
theorem yNS{pins:List (Addr×Obj)}{σ:St}{H:Hp}{s:Shared}{T:String}{x:V}{v:Value}(I:Inv X pins σ H s)(r:RelV x v)(ty:tyV X.K T x H):
  s.TypeIs v T/\ ∀a,v=.ref a-> ∃ob,s.heap.get? a=some ob/\ob.dict=none:=by
 cases x with
 |str z=>
  obtain⟨t,rfl⟩:=r
  cases (show T="str" from ty)
  exact⟨typeIs_str s z t,λ_ e=>nomatch e⟩
 |int i=>
  obtain⟨t,rfl⟩:=r
  cases (show T="int" from ty)
  exact⟨typeIs_int s i t,λ_ e=>nomatch e⟩
 |ref p=>
  cases r
  rcases ty with⟨rfl,xs,hq⟩|⟨rfl,o,hk,hc,hd⟩|⟨rfl,hk⟩|⟨rfl,S,n,hk⟩
  ·obtain⟨its,_,pl,_⟩:=I.list hq
   refine⟨pl.isList.typeIs,λa e=>?_⟩
   cases e
   obtain⟨o,n,e,c,hd,_⟩:=pl
   exact⟨o,e,hd⟩
  ·refine⟨⟨o,I.kIn p o hk,hc⟩,λa e=>?_⟩
   cases e
   exact⟨o,I.kIn _ o hk,hd⟩
  ·have z: ∃o,s.heap.get? p=some o/\o.ExactDict:=by
    rcases hk with⟨kvs,hk⟩|⟨kvs,hk⟩
    ·obtain⟨_,_,_,_,o,_,_,e,ex,_⟩:=I.hok p _ hk
     exact⟨o,e,ex⟩
    ·obtain⟨_,_,_,_,o,_,_,e,ex,_⟩:=I.hok p _ hk
     exact⟨o,e,ex⟩
   obtain⟨o,e,ex⟩:=z
   refine⟨⟨o,e,ex.1⟩,λa e2=>?_⟩
   cases e2
   exact⟨o,e,ex.2.1⟩
  ·obtain⟨o,_,_,_,e,ex,_⟩:=I.hok p _ hk
   refine⟨⟨o,e,ex.1⟩,λa e2=>?_⟩
   cases e2
   exact⟨o,e,ex.2.1⟩
 |_=>exact False.elim ty
def tBM(K:PySem.W.Frag)(T:String)(r:V->List V->Hp->VK->Prop)(to:TE)(t:TA):TE:=λσ H Q=>to σ H λx H1=>tyV K T x H1/\t σ H1 λxs H2=>r x xs H2 Q
variable{o e:Expr}{es:List Expr}{to:TE}{t:TA}{name:Str}{apos cpos:Pos}{T id:String}{r:V->List V->Hp->VK->Prop}
theorem pe_bm(pa:PlainAttrs T)(slot:Slot T name id)(hty:typeOf (.builtin id)=pure (.type "method_descriptor"))(hm:MtR X id r)(ho:PE X o to)(ha:PA X (e::es) t)
  (hbase:attributeBase o name X.env (eval o X.env)=eval o X.env:=by rfl)
  (hfew:((backTo cpos (starEach (e::es) X.env)).all (λx=>!x.1)&&(backToKw cpos (keywordEach [] X.env)).all (λx=>x.1.isSome)
   &&decide ((e::es).length+([]:List Keyword).length+(if([]:List Keyword).isEmpty then 0 else 1)<30))=true:=by rfl)
  (hline:(apos.endLine==cpos.line)=true:=by rfl) (hs:starEach (e::es) X.env=(false,eval e X.env)::starEach es X.env:=by rfl) (hplain:(backTo cpos (starEach es X.env)).any (·.1)=false:=by rfl):
  PE X (.Call (.Attribute o name apos) (e::es) [] cpos) (tBM X.K T r to t):=by
 intro pins s σ H Q I h
 refine wpAny_Call_method_late hbase hfew hline rfl (thn (ho pins s σ H _ I h) λv s1 ⟨x,H1,I1,r1,ty,q1⟩=>?_)
 obtain⟨h1,h2⟩:=yNS I1 r1 ty
 refine⟨T,id,pa,slot,hty,h1,h2,?_⟩
 have hA:=ha cpos pins s1 σ H1 _ I1 q1
 rw [hs]at hA ⊢
 refine Calls.callWith_builtin (by show(false || (backTo cpos (starEach es X.env)).any (·.1))=false;rw [hplain]<;>rfl) (Calls.evalArgs_plain ?_)
 exact thn hA λus s2 ⟨vs,H2,I2,r2,q2⟩=>hm pins s2 σ H2 x vs v us Q I2 r1 r2 q2
end
def MtM(X:Cx)(id:String)(r:V->List V->Hp->VK->Prop):Prop:=
 ∀(pins:List (Addr×Obj))(s:Shared)(σ:St)(H:Hp)(x:V)(xs:List V)(v:Value)(us:List Value)(Q:VK),Inv X pins σ H s->RelV x v->Vals xs us->r x xs H Q->
  wpAny (model X.prog X.w) X.A (call (.builtin id) (v::us)) (EP X pins σ Q) X.xe s
theorem Vals.one: ∀{x:V}{us:List Value},Vals [x] us-> ∃u,us=[u]/\RelV x u
 |_,_,.cons r .nil=>⟨_,rfl,r⟩
theorem Vals.zero: ∀{us:List Value},Vals [] us->us=[]
 |_,.nil=>rfl
theorem Vals.reverse{xs:List V}{us:List Value}(h:Vals xs us):Vals xs.reverse us.reverse:=by
 induction h with
 |nil=>exact .nil
 |cons r t ih=>rw [reverse_cons,reverse_cons];exact Vals.append ih (.cons r .nil)
theorem Vals.rep{xs:List V}{us:List Value}(h:Vals xs us): ∀k:Nat,Vals (List.replicate k xs).flatten (List.replicate k us).flatten
 |0=>.nil
 |k+1=>by
  rw [replicate_succ,replicate_succ,flatten_cons,flatten_cons]
  exact Vals.append h (Vals.rep h k)
theorem foldl_rep(its:List Value): ∀(k:Nat)(acc:List Value),
  List.foldl (λx1 x2=>x1++x2) acc.toArray (List.replicate k its.toArray)=(acc++(List.replicate k its).flatten).toArray
 |0,acc=>by simp
 |k+1,acc=>by
  have e:acc.toArray++its.toArray=(acc++its).toArray:=by simp
  have e2:(acc++its)++(List.replicate k its).flatten=acc++(List.replicate (k+1) its).flatten:=by
   rw [replicate_succ,flatten_cons,aA]
  rw [<-e2, <-foldl_rep its k (acc++its), <-e,replicate_succ,List.foldl_cons]
section
variable{X:Cx}{pins:List (Addr×Obj)}{σ:St}{H:Hp}{s:Shared}{l b:Addr}{xs ys zs:List V}
theorem Inv.lset{its its':List Value}{n:Nat}{f:Array Value->Array Value}{t':Nat}(I:Inv X pins σ H s)(hH:H l=some (.lst xs))
  (e:s.heap.get? l=some {cls:=.type "list",data:=.seq its.toArray n}) (hf:f its.toArray=its'.toArray) (hv:Vals ys its') (hz:ys.length<=sizeLine):
  Inv X pins σ (upd H l (.lst ys)) {s with heap:=s.heap.update l (Obj.mapSeq f),toks:=t'}:=by
 have q:=PySem.IsL.update e f
 rw [hf]at q
 refine I.write (x:=l) (e:=l) (by rw [hH];exact trivial) (.inl rfl) (λb' u hb hu=>(Heap.get?_update_other s.heap (Obj.mapSeq f) (Ne.symm hb)).trans hu) ⟨_,q⟩ ?_
 exact⟨hz,its',_,hv,q⟩
theorem Inv.lnew{its:List Value}{t':Nat}(I:Inv X pins σ H s)(hv:Vals ys its)(hz:ys.length<=sizeLine):
  Inv X pins σ (upd H s.heap.objs.size (.lst ys)) {s with heap:=s.heap.push {cls:=.type "list",data:=.seq its.toArray},toks:=t'}:=
 I.laid (λ_ _ q=>hP0 _ q) (le_refl _) ⟨hz,its,0,hv,Heap.get?_push_size _ rfl⟩
theorem Inv.fresh(I:Inv X pins σ H s):H s.heap.objs.size=none:=I.hok.fresh (le_refl _)
theorem Inv.lstM(I:Inv X pins σ H s)(hH:H l=some (.lst xs)):xs.length<=sizeLine/\ ∃(its:List Value)(n:Nat),Vals xs its/\xs.length=its.length/\s.heap.get? l=some {cls:=.type "list",data:=.seq its.toArray n}:=by
 obtain⟨z,its,n,r,e⟩:=I.hok l _ hH
 exact⟨z,its,n,r,r.length,e⟩
theorem yFQ{n:Nat}(h:n<=sizeLine):Builtin.List.listTooLong n=false:=by
 unfold Builtin.List.listTooLong
 exact dF0 (by omega)
end
section
variable{X:Cx}
def yBH:V->List V->Hp->VK->Prop:=λx vs H Q=> ∃l xs y,x=.ref l/\vs=[y]/\H l=some (.lst xs)/\xs.length<sizeLine/\Q .non (upd H l (.lst (xs++[y])))
theorem yDD:MtM X "list.append" yBH:=by
 intro pins s σ H x vs v us Q I rx rv h
 obtain⟨l,xs,y,rfl,rfl,hH,hz,q⟩:=h
 cases rx
 obtain⟨u,rfl,ru⟩:=rv.one
 obtain⟨z,its,n,r,hl,e⟩:=I.lstM hH
 refine call_meets F.slot_list_append ⟨_,e,rfl⟩ F.entry_list_append (F.args_list_append_2 _ _) (PySem.list_append l its.toArray n u (by rw [sA];omega)) ⟨e,?_⟩
 refine⟨.non,_,I.lset (its':=its++[u]) hH e (by simp) (r.append (.cons ru .nil)) ?_,rfl,q⟩
 rw [lA,lS]
 omega
def rCat:R2:=λx y H Q=> ∃l b xs zs,x=.ref l/\y=.ref b/\H l=some (.lst xs)/\H b=some (.lst zs)/\xs.length+zs.length<=sizeLine/\ ∀p,H p=none->Q (.ref p) (upd H p (.lst (xs++zs)))
theorem yNT:OpR X (binaryOp .Add) rCat:=by
 intro pins s σ H x y v u Q I rx ry h
 obtain⟨l,b,xs,zs,rfl,rfl,hH,hB,hz,q⟩:=h
 cases rx
 cases ry
 obtain⟨z,its,n,r,hl,e⟩:=I.lstM hH
 obtain⟨z2,its2,n2,r2,hl2,e2⟩:=I.lstM hB
 refine PySem.P.add_list e e2 ?_ (by rw [sA,sA];omega)
 have ea:its.toArray++its2.toArray=(its++its2).toArray:=by simp
 rw [ea]
 exact⟨.ref _,_,I.lnew (t':=s.toks) (r.append r2) (by rw [lA];omega),rfl,q _ I.fresh⟩
def rRep:R2:=λx y H Q=> ∃l k xs,x=.ref l/\y=.int k/\H l=some (.lst xs)/\ -(2 ^ 63)<=k/\k<2 ^ 63/\xs.length * k.toNat<=sizeLine/\
 ∀p,H p=none->Q (.ref p) (upd H p (.lst (List.replicate k.toNat xs).flatten))
theorem len_rep{α:Type}(xs:List α)(k:Nat):(List.replicate k xs).flatten.length=k * xs.length:=by
 induction k with
 |zero=>simp
 |succ k ih=>rw [replicate_succ,flatten_cons,lA,ih,Nat.succ_mul,Nat.add_comm]
theorem yNU:OpR X (binaryOp .Mult) rRep:=by
 intro pins s σ H x y v u Q I rx ry h
 obtain⟨l,k,xs,rfl,rfl,hH,h1,h2,hz,q⟩:=h
 cases rx
 obtain⟨t,rfl⟩:=ry
 obtain⟨z,its,n,r,hl,e⟩:=I.lstM hH
 have hlen:its.toArray.size * k.toNat<=sizeLine:=by rw [sA, <-hl];exact hz
 have hcap: ¬its.toArray.size * k.toNat>(2 ^ 63 - 1) / 8:=by
  have:(sizeLine:Nat)<=(2 ^ 63 - 1) / 8:=by decide
  omega
 have hfit: ¬(!Builtin.List.listFitsIndex k)=true:=by
  rw [fitsIndex_both h1 h2]
  exact xF0
 have hlong: ¬Builtin.List.listTooLong (its.toArray.size * k.toNat)=true:=by
  rw [yFQ hlen]
  exact xF0
 have hnew:List.foldl (λx1 x2=>x1++x2) #[] (List.replicate (if its.toArray.isEmpty=true then 0 else k.toNat) its.toArray)=(List.replicate k.toNat its).flatten.toArray:=by
  have f0: ∀m:Nat,List.foldl (λx1 x2=>x1++x2) #[] (List.replicate m its.toArray)=(List.replicate m its).flatten.toArray:=λm=>by
   have:=foldl_rep its m []
   rw [nil_append]at this
   exact this
  rw [f0]
  cases its with
  |nil=>simp
  |cons a r'=>rw [iN0 (by simp)]
 refine wpAny_binaryOp_repeat_ref (T:="list") (U:="int") (by decide) ⟨_,e,rfl⟩ (λs'=>typeIs_int s' k t) noFill_list_mul F.fills_int_mul F.slot_int_rmul repeat_list F.slot_int_index.lookup
  (call_meets F.slot_int_rmul (typeIs_int s k t) F.entry_int_rmul (F.args_int_rmul_2 _ _) (int___rmul___int_list k t l its.toArray n)
   ⟨e,rfl,⟨_,e,rfl⟩,call_meets F.slot_list_mul ⟨_,e,rfl⟩ F.entry_list_mul (F.args_list_mul_2 _ _) (AutoListH.list___mul___list_int_3 l its.toArray n k t hfit hcap hlong) ⟨e,?_⟩⟩)
 rw [hnew]
 exact⟨.ref _,_,I.lnew (t':=s.toks) (r.rep k.toNat) (by rw [len_rep,Nat.mul_comm];exact hz),rfl,q _ I.fresh⟩
end
end L2
namespace Att
open PySem PySem.W PySem.Calls PyProof.Rows
theorem zNW{P:Params}{h:Heap}: ∀(ns:List Int)(vs:List Value),WellAll P h vs (ns.map WData.int)->IntsAre vs ns:=by
 intro ns
 induction ns with
 |nil=>
  intro vs w
  rw [List.map_nil]at w
  cases w
  exact .nil
 |cons n ns ih=>
  intro vs w
  rw [map_cons]at w
  cases w with
  |cons a b=>
   cases a
   exact .cons _ _ (ih _ b)
theorem yDE{l:OpenLaw}{n:Nat}(hn:l.most=some n){P:Params}{h:Heap}{args:List WData}{vals:List Value}
  (hpre:l.row.toRowW.claim.pre args=true) (hwl:WellAll P h vals args):
  ∃a vs ns,vals=[Value.ref a]/\args=[WData.list (ns.map WData.int)]/\h.get? a=some {cls:=.type "list",data:=.seq vs.toArray}/\IntsAre vs ns/\ns.length<=n:=by
 have hsh:WShape.hasAll [] args [.list .int]=true:=(pre_splitW hpre).1
 have hc:l.pre.holds [] {args:=args}=true:=(pre_splitW hpre).2
 obtain⟨d,r,rfl,h1,h2⟩:=hasAllW_cons hsh
 obtain rfl:=hasAllW_nil h2
 obtain⟨xs,rfl,h3⟩:=hasW_list h1
 obtain⟨ns,rfl⟩:=items_int h3
 have hlen:ns.length<=n:=by
  unfold OpenLaw.pre at hc
  have h4:(WTm.not (.lt (.lit (.int (n:Int))) (.len (.arg 0)))).holds [] {args:=[.list (ns.map .int)]}=true:=by
   have h4:=(holds_andW hc).1
   rw [hn]at h4
   exact h4
  have h5:=condW_of h4 (w_not (w_lt w_lit (w_len_list (w_arg rfl))))
  rw [lM0]at h5
  refine Nat.le_of_not_lt λq=>?_
  have q':(n:Int)<((ns.length:Nat):Int):=by omega
  first
   |(rw [dT0 q']at h5;exact absurd h5 (by decide))
   |(simp at h5;omega)
 cases hwl with
 |cons w1 w2=>
  cases w2
  cases w1 with
  |list ho hall=>exact⟨_,_,ns,rfl,rfl,ho,zNW ns _ hall,hlen⟩
theorem yDF(l:OpenLaw)(args:List WData):l.row.toRowW.claim.post args (.bool true) args=true:=
 postW_of (r:=l.row.toRowW) (X:=(true==true))
  (show WShape.has [] (.bool true) .bool=true by first |rfl|decide|simp [WShape.has,WShape.arms,WShape.armsAll])
  (show(WTm.eq .res (.lit (.bool true))).value [] {args:=args,res:=some (.bool true),after:=args}=some (.bool (true==true))from w_eq_bool (w_res rfl) w_lit) rfl
theorem attach_call{l:OpenLaw}{n:Nat}{q:Program}{loose:List Str}{XP:(Str->Option Value)->Heap->Prop}{YP:World->Heap->Prop}{d:DefRec}
  (hn:l.most=some n) (hdf:d.params.defaults=[])
  (call: ∀(w:World)(s₀ s₁:Shared)(mg mb:Str->Option Value)(fa:Addr)(o:Obj)(pm cd doc:Value)(a:Addr)(vs:List Value)(ns:List Int),
   Ground q loose [] XP w s₀ mg mb s₁.heap->YP w s₁.heap->
   s₁.heap.get? fa=some o->o.data=.func (docDef d.name d.params d.body d.scope pm cd doc)->s₁.heap.CodeRec cd d.name->mg d.name=some (.ref fa)->
   s₁.heap.get? a=some {cls:=.type "list",data:=.seq vs.toArray}->IntsAre vs ns->ns.length<=n->s₁.gens=#[]->
   codeAny (model l.prog w) callerA (.call (.ref fa) ⟨[.ref a],[]⟩) (λr s'=>r=.ok (.ret (.bool true))/\OldK s₁.heap s'.heap/\s'.os=s₁.os/\AllBare s'.gens) s₁):
  WalkO q loose XP YP l.row.toRowW d [] (λf vs=>PySem.call f vs):=by
 intro w s₀ s₁ mg mb G Y fa o pm cd doc dV kV ho hd hcd hD hmg hg args vals as hpre hlay hrd hwl hlo
 obtain rfl:dV=.none:=Dflts.none hD hdf
 obtain rfl:kV=.none:=Dflts.noKw hD
 obtain⟨a,vs,ns,rfl,rfl,hobj,hints,hlen⟩:=yDE hn hpre hwl
 refine enter_call (codeAny_mono (call w s₀ s₁ mg mb fa o pm cd doc a vs ns G Y ho (fd_plain hd) hcd hmg hobj hints hlen hg) λr s' hq=>?_)
 obtain⟨rfl,h2,h3,h4⟩:=hq
 exact⟨.inl ⟨.bool true,.bool true,[],rfl,λ_=>rfl,.bool true,yDF l _,λ_=>⟨List.Pairwise.nil,λ_ hm=>(nomatch hm)⟩⟩,h2,h3,h4⟩
end Att
namespace L2
open PySem PySem.Spec PyProof.Rows
theorem zSN: ∀{vs:List Value}{ns:List Int},IntsAre vs ns->Vals (ns.map V.int) vs
 |_,_,.nil=>.nil
 |_,_,.cons n t h=>.cons ⟨t,rfl⟩ (zSN h)
def yFR(H:Hp):Prop:= ∀b,H b=none\/ ∃o xs,H b=some (.frz o (.lst xs))
theorem yFS{P:Program}{w:World}{K:PySem.W.Frag}{mg mb:Str->Option Value}{CX:CXT}{k:Nat}{fa a:Addr}{fd:FuncData}{x:Str}{sp:Sp}{s₁:Shared}{vs:List Value}{ns:List Int}
  (KX:K.In s₁.heap) (hns:s₁.heap.Ns mainGlobals mg) (hb:s₁.heap.Ns builtinsNs mb) (hbb: ∀x:Str,x≠"__name__"->mb x=bootBuiltins x) (hlim:s₁.heap.NoLimit) (hg:s₁.gens=#[])
  (ha:s₁.heap.get? a=some {cls:=.type "list",data:=.seq vs.toArray}) (hi:IntsAre vs ns) (hl:ns.length<=sizeLine) (hr:Room k callerA)
  (F: ∀base:Heap,K.In base->base.Ns mainGlobals mg->FnOk P w K mg base CX k fa fd [x] sp) (hbind: ∀(s:Shared)(u:Value),BindsTo s fd ⟨[u],[]⟩ [(x,u)])
  (hsp: ∀H:Hp,yFR H->SqL K H a (ns.map V.int)->sp [.ref a] H (λv _=>v=.bl true) λ_ _ _=>False)
  (hCX: ∀H e s',CX [] H s₁ (λ_ _ _=>False) e s'->False):
  codeAny (model P w) callerA (.call (.ref fa) ⟨[.ref a],[]⟩) (λr s'=>r=.ok (.ret (.bool true))/\OldK s₁.heap s'.heap/\s'.os=s₁.os/\AllBare s'.gens) s₁:=by
 have rv:=zSN hi
 have lenV:=hi.length
 have core: ∀H:Hp,yFR H->SqL K H a (ns.map V.int)->HOk P w H s₁.heap->(∀b,H b≠none->b=a)->(H a≠none->K.lookup a=none)->
   codeAny (model P w) callerA (.call (.ref fa) ⟨[.ref a],[]⟩) (λr s'=>r=.ok (.ret (.bool true))/\OldK s₁.heap s'.heap/\s'.os=s₁.os/\AllBare s'.gens) s₁:=by
  intro H hO hS hok hA hK
  have base_of: ∀{b:Addr}{o:Obj},s₁.heap.get? b=some o->H b=none->(zTN s₁.heap H).get? b=some o:=λe n=>yFA e n
  have noA: ∀{b:Addr}{o:Obj}{es:Array DictEntry}{ep:Nat},s₁.heap.get? b=some o->o.data=.dict es ep->H b=none:=λ{b o es ep} e d=>by
   cases q:H b with
   |none=>rfl
   |some u=>
    have e':b=a:=hA b (by rw [q];simp)
    subst e'
    rw [ha]at e;cases e
    have d':Data.seq vs.toArray _=Data.dict es ep:=d
    cases d'
  have nsK: ∀{b:Addr}{m:Str->Option Value},s₁.heap.Ns b m->(zTN s₁.heap H).Ns b m:=λ{b m} ⟨o,es,ep,e,d,r⟩=>⟨o,es,ep,base_of e (noA e d),d,r⟩
  have hKb:K.In (zTN s₁.heap H):=λb o e=>base_of (KX b o e) (by
   cases q:H b with
   |none=>rfl
   |some u=>
    have e':b=a:=hA b (by rw [q];simp)
    subst e'
    rw [hK (by rw [q];simp)]at e;cases e)
  have hM:Mod K mg (zTN s₁.heap H):=⟨hKb,nsK hns,⟨mb,nsK hb,hbb⟩,let ⟨mc,h1,h2⟩:=hlim;⟨mc,nsK h1,h2⟩⟩
  have e0:Env0 P w K mg (zTN s₁.heap H) callerA [] s₁ H:=⟨rfl,hM,λb o e=>yIV e,Nat.le_of_eq (yCY _ _),trivial,λb hb=>absurd (show b∈([]:List Addr)from hb) (by simp),hok,.of_eq hg⟩
  refine codeAny_mono ((F _ hKb (nsK hns)).run callerA [] s₁ H ⟨[.ref a],[]⟩ [.ref a] [.ref a] _ _ hr e0 (hbind s₁ (.ref a)) (.cons rfl .nil) (hsp H hO hS)) λr s' h=>?_
  cases r with
  |error e=>exact(hCX H e s' h).elim
  |ok fl=>
   cases fl with
   |next=>exact False.elim h
   |brk=>exact False.elim h
   |cont=>exact False.elim h
   |ret u=>
    obtain⟨v,H',os,bare,un,hok',r',q⟩:=h
    have q':v=.bl true:=q
    subst q'
    obtain rfl:u=Value.bool true:=r'
    refine⟨rfl,OldK.of_keep λb o e=>?_,os,bare⟩
    cases q:H b with
    |none=>exact un.keep b o e q (by intro z;exact absurd (show b∈([]:List Addr)from z) (by simp)) (by simp)
    |some u=>
     rcases hO b with z|⟨ob,xs,z⟩
     ·rw [q]at z;cases z
     ·have z2:=un.frzs b ob _ z
      obtain⟨e1,_⟩:=hok b _ z
      obtain⟨e2,_⟩:=hok' b _ z2
      rw [e]at e1;cases e1
      exact e2
 cases hk:K.lookup a with
 |some o=>
  have e:=KX a o hk
  rw [ha]at e
  cases e
  refine core (λ_=>none) (λ_=>.inl rfl) (.inr ⟨_,vs.toArray,_,hk,rfl,rfl,rfl,by rw [sA,lenV];exact hl,by simpa using rv⟩) (λb u z=>by have z':(none:Option HO)=some u:=z;cases z') (λb z=>absurd rfl z) λz=>absurd rfl z
 |none=>
  refine core (λb=>if b=a then some (.frz {cls:=.type "list",data:=.seq vs.toArray} (.lst (ns.map V.int)))else none) (λb=>?_) (.inl (.inr ⟨{cls:=.type "list",data:=.seq vs.toArray},iP rfl⟩)) (λb u z=>?_) (λb z=>?_) λ_=>hk
  ·by_cases hb:b=a
   ·exact .inr ⟨_,_,iP hb⟩
   ·exact .inl (iN0 hb)
  ·by_cases hb:b=a
   ·have z':=(iP hb).symm.trans z
    cases z'
    subst hb
    exact⟨ha,by rw [lM0];exact hl,vs,_,rv,ha⟩
   ·have z':=(iN0 hb).symm.trans z
    cases z'
  ·by_cases hb:b=a
   ·exact hb
   ·exact absurd (iN0 hb) z
theorem walk_of{l:PySem.W.OpenLaw}{n k:Nat}{q:Program}{loose:List Str}{XP:(Str->Option Value)->Heap->Prop}{YP:World->Heap->Prop}{d:DefRec}{K:Params->PySem.W.Frag}{CX:World->CXT}{sp:World->Sp}{x:Str}
  (hn:l.most=some n) (hn2:n<=sizeLine) (hdf:d.params.defaults=[]) (hr:Room k callerA)
  (hY: ∀(w:World)(h:Heap),YP w h->(K w.params).In h)
  (F: ∀(w:World)(mg:Str->Option Value)(fa:Addr)(h:Heap),(K w.params).In h->h.Ns mainGlobals mg->mg d.name=some (.ref fa)->
   ∃fd:FuncData,(∀(s:Shared)(u:Value),BindsTo s fd ⟨[u],[]⟩ [(x,u)])/\
    ∀base:Heap,(K w.params).In base->base.Ns mainGlobals mg->FnOk l.prog w (K w.params) mg base (CX w) k fa fd [x] (sp w))
  (hsp: ∀(w:World)(H:Hp)(a:Addr)(ns:List Int),ns.length<=n->yFR H->SqL (K w.params) H a (ns.map V.int)->sp w [.ref a] H (λv _=>v=.bl true) λ_ _ _=>False)
  (hCX: ∀(w:World)(H:Hp)(s:Shared)(e:Value)(s':Shared),CX w [] H s (λ_ _ _=>False) e s'->False):
  PySem.W.WalkO q loose XP YP l.row.toRowW d [] (λf vs=>PySem.call f vs):=by
 refine Att.attach_call hn hdf λw s₀ s₁ mg mb fa o pm cd doc a vs ns G Y ho hd hcd hmg hobj hints hlen hg=>?_
 have KX:=hY w _ Y
 obtain⟨fd,hb,hF⟩:=F w mg fa _ KX G.T.g hmg
 exact yFS KX G.T.g G.T.b G.T.builtins G.T.nolimit hg hobj hints (le_trans hlen hn2) hr hF hb (λH hO hS=>hsp w H a ns hlen hO hS) λH e s'=>hCX w H s₁ e s'
def zDN(s:Stmt):Arguments:=match s with
 |.FunctionDef _ a _ _ _ _ _ _ _ _=>a
 |_=>{posonlyargs:=[],args:=[],vararg:=none,kwonlyargs:=[],kw_defaults:=[],kwarg:=none,defaults:=[]}
def jD(s:Stmt):List Stmt:=match s with
 |.FunctionDef _ _ b _ _ _ _ _ _ _=>b
 |_=>[]
def zH(s:Stmt):Scope:=match s with
 |.FunctionDef _ _ _ _ _ _ sc _ _ _=>sc
 |_=>{kind:=.function,names:=[],isGenerator:=false,isCoroutine:=false}
abbrev CX0:CXT:=λ_ _ _ _ _ _=>False
abbrev E0:XK:=λ_ _ _=>False
theorem pass0{X:Cx}:zTQ CX0 X E0:=λ_ _ _ _ _ _ _ h=>h.elim
structure Fun(K:PySem.W.Frag)(x qual:Str)(st:Stmt)(f:Addr)(fd:FuncData):Prop where
 ex: ∃(oc:Value)(od:Option Addr)(kV doc pm:Value)(an:Option Addr)(cdv ct:Value)(osl:Array (Option Value)),
  fd=PySem.W.fnOf x qual (zDN st) (jD st) (zH st) .none kV doc pm an cdv ct/\K.lookup f=some ⟨oc,od,.func fd,osl⟩/\PySem.W.codeIn K cdv qual=true
 kp:PySem.W.keepIn K (.ref f)=true
section
variable{P:Program}{w:World}{K:PySem.W.Frag}{mg:Str->Option Value}{base:Heap}
theorem Fun.ok{x qual:Str}{st:Stmt}{f:Addr}{fd:FuncData}{N ps:List Str}{k:Nat}{sp:Sp}(F:Fun K x qual st f fd)(S:FnScope N ps (zH st))(len: ∀vs H Q E,sp vs H Q E->vs.length=ps.length)
  (hbody: ∀(cdv:Value)(A:Around)(outer:List Env)(s:Shared)(H:Hp)(vs:List V)(Q:VK)(E:XK),Room k (A.deeper (envOfC qual (zH st) s.heap.objs.size f cdv))->sp vs H Q E->
   ∃t,PSs (zOV CX0 P w K mg base N qual (zH st) f cdv A outer s H E).nox (jD st) t/\t {nx:=λ_ H'=>Q .non H',rt:=Q} (start N vs) H):FnOk P w K mg base CX0 (k+1) f fd ps sp:=by
 obtain⟨oc,od,kV,doc,pm,an,cdv,ct,osl,rfl,lk,hcd⟩:=F.ex
 refine yMF lk hcd S len λA outer s H vs Q E hr hsp=>?_
 obtain⟨t,h,q⟩:=hbody cdv A outer s H vs Q E hr hsp
 exact⟨t,h.nox,q⟩
theorem Fun.binds{x qual:Str}{st:Stmt}{f:Addr}{fd:FuncData}{ps:List Str}(F:Fun K x qual st f fd)
  (h: ∀(kV doc pm:Value)(an:Option Addr)(cdv ct:Value)(us:List Value),us.length=ps.length->bindArgs (PySem.W.fnOf x qual (zDN st) (jD st) (zH st) .none kV doc pm an cdv ct) ⟨us,[]⟩=pure (ps.zip us)):Binds K fd ps []:=by
 obtain⟨oc,od,kV,doc,pm,an,cdv,ct,osl,rfl,lk,hcd⟩:=F.ex
 exact .all (h kV doc pm an cdv ct)
theorem yNV{x qual:Str}{st:Stmt}{f:Addr}{oc:Value}{od an:Option Addr}{osl:Array (Option Value)}{kV doc pm cdv ct:Value}(l:K.lookup f=some ⟨oc,od,.func (PySem.W.fnOf x qual (zDN st) (jD st) (zH st) .none kV doc pm an cdv ct),osl⟩)
  (c:PySem.W.codeIn K cdv qual=true) (k:PySem.W.keepIn K (.ref f)=true):Fun K x qual st f (PySem.W.fnOf x qual (zDN st) (jD st) (zH st) .none kV doc pm an cdv ct):=⟨⟨oc,od,kV,doc,pm,an,cdv,ct,osl,rfl,l,c⟩,k⟩
end
section
variable{X:Cx}
theorem pv(i:Nat){x:Str}{pos:Pos}(hN:X.N[i]? =some x:=by rfl)(hv:Vis X.env.scope x:=by first |exact Or.inl rfl|exact Or.inr (Or.inl rfl)|exact Or.inr (Or.inr rfl))(hd:(x==("__debug__":Str))=false:=by decide)
  (hcd:(x==("__classdict__":Str))=false:=by decide):PE X (.Name x pos) (tVar i):=yMT hN hv hd hcd
end
end L2
set_option maxHeartbeats 4000000
namespace L2
open PySem PySem.Spec PyProof.Rows
def zFQ(env:Env)(l:List (Str×NameKind))(cs:List (Str×Addr)):List (Str×Addr):=
 l.foldl (λc y=>if y.2==.free then(y.1,(env.cells.lookup y.1).getD 0)::c else c) cs
theorem zTW{α β:Type}{l:List α}{f:α->β->Sem (ForInStep β)}{g:β->α->β}: ∀(c:β),(∀x∈l, ∀c,f x c=pure (.yield (g c x)))->
  forIn l c f=pure (l.foldl g c):=by
 induction l with
 |nil=>intro c _;rfl
 |cons x l ih=>
  intro c h
  rw [List.forIn_cons,h x mF0,pure_bind]
  exact ih _ λy hy=>h y (mO _ hy)
theorem zRS{scope:Scope}{env:Env}(h: ∀y∈scope.names,y.2=.free-> ∃c,env.cells.lookup y.1=some c):closureFor scope env=pure (zFQ env scope.names []):=by
 unfold closureFor zFQ
 dsimp only
 rw [zTW (g:=λc y=>if y.2==.free then(y.1,(env.cells.lookup y.1).getD 0)::c else c) [] ?_]
 ·rfl
 ·intro y hy c
  obtain⟨n,k⟩:=y
  by_cases hk:k=.free
  ·subst hk
   obtain⟨a,ha⟩:=h _ hy rfl
   have ha':env.cells.lookup n=some a:=ha
   simp [cellOf,ha']
  ·have e:(k==NameKind.free)=false:=by simpa using hk
   simp [e]
theorem zNJ{env:Env}: ∀(l:List (Str×NameKind))(cs:List (Str×Addr)),(∀y∈l,y.2=.free-> ∃c,env.cells.lookup y.1=some c)->(∀p∈cs,env.cells.lookup p.1=some p.2)->
  ∀p∈zFQ env l cs,env.cells.lookup p.1=some p.2
 |[],_,_,h=>h
 |(n,k)::l,cs,hl,h=>by
  refine zNJ l _ (λy hy=>hl y (mO _ hy)) λp hp=>?_
  by_cases hk:k=.free
  ·subst hk
   obtain⟨c,hc⟩:=hl _ mF0 rfl
   have hc':env.cells.lookup n=some c:=hc
   have hp':p∈(n,(env.cells.lookup n).getD 0)::cs:=hp
   rcases mC.mp hp' with rfl|hp
   ·show env.cells.lookup n=some ((env.cells.lookup n).getD 0)
    rw [hc'];rfl
   ·exact h p hp
  ·have hp':p∈(if(k==NameKind.free)=true then(n,(env.cells.lookup n).getD 0)::cs else cs):=hp
   rw [iN0 (by simpa using hk)]at hp'
   exact h p hp'
theorem zOY{env:Env}: ∀(l:List (Str×NameKind))(cs:List (Str×Addr))(p:Str×Addr),p∈cs->p∈zFQ env l cs
 |[],_,_,h=>h
 |(n,k)::l,cs,p,h=>by
  refine zOY l _ p ?_
  show p∈(if(k==.free)=true then(n,(env.cells.lookup n).getD 0)::cs else cs)
  split
  ·exact mO _ h
  ·exact h
theorem zFR{env:Env}: ∀(l:List (Str×NameKind))(cs:List (Str×Addr))(n:Str),(n,NameKind.free)∈l-> ∃c,(n,c)∈zFQ env l cs
 |[],_,_,h=>nomatch h
 |(m,k)::l,cs,n,h=>by
  rcases mC.mp h with e|h
  ·have e1:n=m:=congrArg Prod.fst e
   have e2:NameKind.free=k:=congrArg Prod.snd e
   subst e1 e2
   exact⟨(env.cells.lookup n).getD 0,zOY l _ _ mF0⟩
  ·exact zFR l _ n h
theorem zBM{β:Type}: ∀{l:List (Str×β)}{n:Str},(∃c,(n,c)∈l)-> ∃c,l.lookup n=some c
 |[],_,h=>let ⟨_,z⟩:=h;nomatch z
 |(m,b)::l,n,h=>by
  by_cases e:n=m
  ·subst e
   exact⟨b,by simp [List.lookup_cons]⟩
  ·obtain⟨c,hc⟩:=h
   rcases mC.mp hc with z|z
   ·cases z;exact absurd rfl e
   ·obtain⟨c',h'⟩:=zBM ⟨c,z⟩
    refine⟨c',?_⟩
    have e':(n==m)=false:=by simpa using e
    simp [List.lookup_cons,e',h']
def zRT(scope osc:Scope):List (Str×NameKind):=scope.names.map λ(n,k)=>if(k==.free&&osc.kind==.function&&osc.names.lookup n==some .cell)then(n,.cell)else(n,k)
def zNK(osc:Scope)(N:List Str)(sc:Scope)(idx:List Nat):Bool:=
 decide (sc.kind=.function)&&sc.names.all (λy=>decide (y.2≠.cell))&&sc.names.all (λy=>decide (y.2≠.local) || decide (sc.names.lookup y.1=some .local))&&
 sc.names.all (λy=>decide (y.2≠.free) || decide (osc.names.lookup y.1=some .cell) || decide (osc.names.lookup y.1=some .free))&&
 idx.all (λi=>match N[i]? with
  |some y=>(decide (osc.names.lookup y=some .cell) || decide (osc.names.lookup y=some .free))&&(decide ((zRT sc osc).lookup y=some .cell) || decide ((zRT sc osc).lookup y=some .free))
  |none=>false)
def zME(σ:St)(idx:List Nat):St:=idx.map λi=>(σ[i]?).join
theorem zBC(σ:St)(idx:List Nat):(zME σ idx).length=idx.length:=by unfold zME;rw [lM0]
def yI(X:Cx)(sc:Scope)(T:List Str)(idx:List Nat)(C:Addr)(s₂:Shared)(H1:Hp)(fp:List Addr):Cx where
 prog:=X.prog
 w:=X.w
 K:=X.K
 mg:=X.mg
 base:=X.base
 A:=X.A
 N:=T++idx.map λi=>(X.N[i]?).getD Str.empty
 s₀:=s₂
 H₀:=H1
 env:=compEnvC sc (zFQ X.env sc.names []) C X.env
 outer:=X.stack
 stack:=X.stack
 ex:=fp
 fn:=λ_=>false
 calm:=X.calm
 pn:=[]
 xe:=λ_ _=>False
def yFT(wi:TI)(g:TG)(tc:Addr->Shared->Hp->List Addr->TT)(te:Addr->Shared->Hp->List Addr->TE)(nt:Nat)(idx:List Nat):TE:=λσ H Q=>wi σ H λJ H1=> ∃W:Nat->Nat->List V->Hp->Prop,(∃m,W 0 m [] H1)/\ ∀i m ys H2,W i m ys H2->ys.length<=sizeLine/\
 ((J.stop i H2/\ ∀D,H2 D=none->Q (.ref D) (upd H2 D (.lst ys)))\/
   (J.go i H2/\ys.length<sizeLine/\ ∀x H3,J.yld i H2 x H3-> ∀τ:St,τ.length=nt->g x (τ++zME σ idx) H3 λσ4 H4=>(∃τ',σ4=τ'++zME σ idx/\τ'.length=nt)/\
    ∀C s₂ fp,tc C s₂ H1 fp σ4 H4 λb H5=>if b=true then te C s₂ H1 fp σ4 H5 λy H6=> ∃m',m'<m/\W (i+1) m' (ys++[y]) H6 else∃m',m'<m/\W (i+1) m' ys H5))
section
variable{prog:Program}{w:World}{A:Around}{R:Result->Shared->Prop}{s:Shared}
theorem zTX{elt target iter:Expr}{ifs:List Expr}{scope:Scope}{pos:Pos}{it acc:Value}{env:Env}(I:Nat->Shared->Prop)
  (turn: ∀n s,I n s->wpAny (model prog w) A (pyNext it) (λr s₁=>match r with
   |none=>R (.ok .next) s₁
   |some v=>wpAny (model prog w) A (letOwnedTupleGo target it v) (λ_ s₁'=>wpAny (model prog w) A (assign target env v) (λ_ s₂=>
     wpAny (model prog w) A (forIn ifs true λc r=>if r=true then do let ok <-isTrue c env (eval c env);pure (ForInStep.yield ok)else pure (ForInStep.yield r)) (λok s₃=>
      if ok=true then wpAny (model prog w) A (eval elt env) (λx s₄=>
       wpAny (model prog w) A (call (.builtin "list.append") [acc,x]) (λ_ s₅=> ∃m,m<n/\I m s₅) (λ_ _=>False) s₄) (λ_ _=>False) s₃
      else∃m,m<n/\I m s₃) (λ_ _=>False) s₂) (λ_ _=>False) s₁') (λ_ _=>False) s₁) (λ_ _=>False) s)
  (n:Nat) (h:I n s):codeAny (model prog w) A (.compLoop (.ListComp elt [⟨target,iter,ifs,0⟩] scope pos) 0 it acc env) R s:=by
 refine codeAny_loop rfl I (λn s hI=>?_) n h
 show wpAny _ A ((compTurn (.ListComp elt [⟨target,iter,ifs,0⟩] scope pos) 0 it acc env).onRaise (λx=>do noteFrame x env;theTreesLotGoes x)) _ _ s
 refine wpAny_noted ?_
 rw [compTurn_list]
 have no: ∀{E':Value->Shared->Prop}(v:Value)(s':Shared),False->E' v s':=λ_ _ z=>z.elim
 refine wB0 (wpAny_standAt (wB0 (wpAny_mono (turn n s hI) (λr s₁ h₁=>?_) (no))))
 cases r with
 |none=>exact wP0 h₁
 |some v=>
  refine wB0 (wpAny_mono h₁ (λ_ s₁' h₁'=>wB0 (wpAny_mono h₁' (λ_ s₂ h₂=>wB0 (wpAny_mono h₂ (λok s₃ h₃=>?_) no)) no)) no)
  cases ok with
  |false=>exact wP0 ⟨rfl,h₃⟩
  |true=>
   exact wB0 (wB0 (wpAny_mono h₃ (λx s₄ h₄=>wB0 (wpAny_mono h₄ (λ_ s₅ h₅=>wP0 (wP0 ⟨rfl,h₅⟩)) no)) no))
end
def yFU(X:Cx)(ifs:List Expr)(t:TT):Prop:=
 ∀(pins:List (Addr×Obj))(s:Shared)(σ:St)(H:Hp)(Q:Bool->Hp->Prop),Inv X pins σ H s->t σ H Q->
  wpAny (model X.prog X.w) X.A (forIn ifs true λc r=>if r=true then do let ok <-isTrue c X.env (eval c X.env);pure (ForInStep.yield ok)else pure (ForInStep.yield r)) (TP X pins σ Q) X.xe s
def tNoIf:TT:=λ_ H Q=>Q true H
theorem yFV{X:Cx}:yFU X [] tNoIf:=λ_ _ _ H _ I h=>wpAny_tests_nil ⟨H,I,h⟩
structure CompF(osc:Scope)(N:List Str)(sc:Scope)(idx:List Nat):Prop where
 kind:sc.kind=.function
 nocell: ∀y∈sc.names,y.2≠.cell
 locs: ∀y∈sc.names,y.2=.local->sc.names.lookup y.1=some .local
 frees: ∀y∈sc.names,y.2=.free->osc.names.lookup y.1=some .cell\/osc.names.lookup y.1=some .free
 cap: ∀i∈idx, ∃y,N[i]? =some y/\(osc.names.lookup y=some .cell\/osc.names.lookup y=some .free)/\((zRT sc osc).lookup y=some .cell\/(zRT sc osc).lookup y=some .free)
theorem yJK{osc:Scope}{N:List Str}{sc:Scope}{idx:List Nat}(h:zNK osc N sc idx=true):CompF osc N sc idx:=by
 unfold zNK at h
 simp only [aE,all_eq_true,decide_eq_true_eq,or_eq_true]at h
 obtain⟨⟨⟨⟨h1,h2⟩,h3⟩,h4⟩,h5⟩:=h
 refine⟨h1,λy hy=>h2 y hy,λy hy e=>?_,λy hy e=>?_,λi hi=>?_⟩
 ·rcases h3 y hy with z|z
  ·exact absurd e z
  ·exact z
 ·rcases h4 y hy with(z|z)|z
  ·exact absurd e z
  ·exact .inl z
  ·exact .inr z
 ·have q:=h5 i hi
  cases e:N[i]? with
  |none=>rw [e]at q;cases q
  |some y=>
   rw [e]at q
   simp only [aE,decide_eq_true_eq,or_eq_true]at q
   exact⟨y,rfl,q.1,q.2⟩
theorem zSO{sc osc:Scope}{x:Str}(hno: ∀y∈sc.names,y.2≠.cell)(h:(zRT sc osc).lookup x=some .cell\/(zRT sc osc).lookup x=some .free):(x,NameKind.free)∈sc.names:=by
 have key: ∀k',(k'=.cell\/k'=.free)->(x,k')∈zRT sc osc->(x,NameKind.free)∈sc.names:=by
  intro k' hk' hm
  unfold zRT at hm
  obtain⟨⟨n,k⟩,hy,e⟩:=mM0.mp hm
  dsimp only at e
  split at e
  ·rename_i hc
   cases e
   rw [aE,aE]at hc
   have:k=.free:=by simpa using hc.1.1
   subst this
   exact hy
  ·cases e
   rcases hk' with rfl|rfl
   ·exact absurd rfl (hno _ hy)
   ·exact hy
 rcases h with h|h
 ·exact key _ (.inl rfl) (PySem.mem_of_lookup h)
 ·exact key _ (.inr rfl) (PySem.mem_of_lookup h)
section
variable{X:Cx}{pins:List (Addr×Obj)}{σ:St}{H1:Hp}{s₂:Shared}{sc:Scope}{T:List Str}{idx:List Nat}{C:Addr}{fp:List Addr}
theorem zWC(I:Inv X pins σ H1 s₂)(F:CompF X.env.scope X.N sc idx): ∀y∈sc.names,y.2=.free-> ∃c,X.env.cells.lookup y.1=some c:=
 λy hy e=>I.ok.has y.1 (F.frees y hy e)
theorem jS(I:Inv X pins σ H1 s₂)(F:CompF X.env.scope X.N sc idx){x:Str}{c:Addr}(e:(zFQ X.env sc.names []).lookup x=some c):X.env.cells.lookup x=some c:=
 zNJ sc.names [] (zWC I F) (λ_ z=>nomatch z) (x,c) (PySem.mem_of_lookup e)
theorem yJL(I:Inv X pins σ H1 s₂)(F:CompF X.env.scope X.N sc idx){x:Str}{c:Addr}(hx:(x,NameKind.free)∈sc.names)(e:X.env.cells.lookup x=some c):(zFQ X.env sc.names []).lookup x=some c:=by
 obtain⟨c',h'⟩:=zBM (zFR (env:=X.env) sc.names [] x hx)
 rw [h']
 rw [jS I F h']at e
 exact e
theorem yDG(I:Inv X pins σ H1 s₂)(F:CompF X.env.scope X.N sc idx)(hC:s₂.heap.objs.size<=C)(hfp: ∀b∈fp,zMB X pins H1 b)(hlt: ∀b∈fp,b<s₂.heap.objs.size):(yI X sc T idx C s₂ H1 fp).Ok where
 mod:=I.ok.mod
 kind:=F.kind
 glob:=I.ok.glob
 blt:=I.ok.blt
 above:=hC
 inj:=λx y c h1 h2=>I.ok.inj x y c (jS I F h1) (jS I F h2)
 has:=λx hx=>by
  have hx':(zRT sc X.env.scope).lookup x=some .cell\/(zRT sc X.env.scope).lookup x=some .free:=hx
  exact zBM (zFR sc.names [] x (zSO F.nocell hx'))
 cab:=λx c h _=>nomatch h
 hd:=I.ok.hd
 frames:=I.ok.frames
 stk:=.inl rfl
 exf:=λb hb=>⟨ne_of_lt (lt_of_lt_of_le (hlt b hb) hC),λx c e=>(hfp b hb).2.2.2.2.1 x c (jS I F e)⟩
 bs:=I.bs
 bsz:=le_trans I.ok.bsz I.sz
 noex:=λb o e hb=>by
  rcases (hfp b hb).2.2.2.1 with z|z
  ·exact I.ok.noex b o e z
  ·exact absurd (lt_of_lt_of_le (Heap.lt_size e) (le_trans I.ok.bsz z)) (lt_irrefl _)
 exfs:=λb hb z=>by
  rcases mC.mp (I.stkSub b z)with e|e
  ·exact(hfp b hb).2.1 e
  ·exact(hfp b hb).2.2.1 e
 funs:=I.stack
 frf:=I.stkFree
theorem zYZ{s₄:Shared}{m:Str->Option Value}(I:Inv X pins σ H1 s₂)(F:CompF X.env.scope X.N sc idx)(hC:s₂.heap.objs.size<=C)(hfp: ∀b∈fp,zMB X pins H1 b)(hlt: ∀b∈fp,b<s₂.heap.objs.size)
  (kp: ∀b o,s₂.heap.get? b=some o->s₄.heap.get? b=some o) (ho:s₄.os=s₂.os) (hg:s₄.gens=s₂.gens) (hn:s₄.heap.Ns C m):
  Inv (yI X sc T idx C s₂ H1 fp) [] (T.map (λ_=>none)++zME σ idx) H1 s₄:=by
 have cellK: ∀c v,s₂.heap.IsCell c v->s₄.heap.IsCell c v:=λc v ⟨o,h1,h2⟩=>⟨o,kp c o h1,h2⟩
 refine⟨yDG I F hC hfp hlt,ho,by rw [hg];exact I.bare,Un.kept kp,⟨m,hn,λi x v e1 e2 e3=>?_⟩,λx c e=>?_,I.hok.fresh hC,λx c e=>I.freeC x c (jS I F e),λp hp=>absurd (show p∈([]:List (Addr×Obj))from hp) (by simp),I.hok.kept kp,?_⟩
 ·have e1':(T++idx.map λi=>(X.N[i]?).getD Str.empty)[i]? =some x:=e1
  by_cases hi:i<T.length
  ·rw [getElem?_append_left (by simpa using hi),getElem?_map]at e2
   cases z:T[i]? with
   |none=>rw [z]at e2;cases e2
   |some y=>rw [z]at e2;cases e2
  ·rw [getElem?_append_right (by simpa using hi)]at e2
   rw [getElem?_append_right (by omega)]at e1'
   rw [lM0]at e2
   unfold zME at e2
   rw [getElem?_map]at e1' e2
   cases z:idx[i - T.length]? with
   |none=>rw [z]at e2;cases e2
   |some j=>
    rw [z]at e1' e2
    have hj:j∈idx:=mem_of_getElem? z
    obtain⟨y,hy,k1,k2⟩:=F.cap j hj
    have ex:y=x:=by
     have q:(X.N[j]?).getD Str.empty=x:=Option.some.inj e1'
     rw [hy]at q;exact q
    subst ex
    have ev:σ[j]? =some (some v):=by
     have q:(σ[j]?).join=some v:=Option.some.inj e2
     cases w':σ[j]? with
     |none=>rw [w']at q;cases q
     |some a=>rw [w']at q;have q':a=some v:=q;rw [q']
    obtain⟨m0,hn0,hl0⟩:=I.loc
    have vis:Vis X.env.scope y:=k1.elim (λz=>.inr (.inl z)) λz=>.inr (.inr z)
    obtain⟨u,r,l⟩:=hl0 j y v hy ev vis
    refine⟨u,r,?_⟩
    rcases l with⟨kl,_⟩|⟨_,c,hc,q⟩
    ·have kl':X.env.scope.names.lookup y=some .local:=kl
     rcases k1 with z|z<;>rw [z]at kl'<;>cases kl'
    ·exact .inr ⟨k2,c,yJL I F (zSO F.nocell k2) hc,cellK c _ q⟩
 ·obtain⟨v,q⟩:=I.cell x c (jS I F e)
  exact⟨v,cellK c v q⟩
 ·show(T.map (λ_=>(none:Option V))++zME σ idx).length=(T++idx.map λi=>(X.N[i]?).getD Str.empty).length
  rw [lA,lA,lM0,lM0,zBC]
theorem zZA{σ1:St}{H':Hp}{s':Shared}{h':Heap}{D:Addr}{ys:List V}{its:List Value}{n:Nat}(I:Inv X pins σ H1 s₂)(hC:s₂.heap.objs.size<=C)(hfp: ∀b∈fp,zMB X pins H1 b)
  (J:Inv (yI X sc T idx C s₂ H1 fp) [] σ1 H' s') (hs:Heap.SameBut C s'.heap h') (hD:s₂.heap.objs.size<=D) (hDC:D≠C) (eD:s'.heap.get? D=some {cls:=.type "list",data:=.seq its.toArray n}) (nD:H' D=none) (r:Vals ys its) (hz:ys.length<=sizeLine):
  Inv X pins σ (upd H' D (.lst ys)) {s' with heap:=h'}:=by
 have old: ∀b o,s₂.heap.get? b=some o->b≠C/\b≠D:=λb o e=>⟨ne_of_lt (lt_of_lt_of_le (Heap.lt_size e) hC),ne_of_lt (lt_of_lt_of_le (Heap.lt_size e) hD)⟩
 have oldH: ∀b u,H1 b=some u->b≠D:=λb u e=>ne_of_lt (lt_of_lt_of_le (I.hok.lt e) hD)
 have nC:H' C=none:=J.free
 have B:Un (frs X.stack) fp H1 H' s₂.heap s'.heap:=J.base
 have mv: ∀b o,b≠C->s'.heap.get? b=some o->h'.get? b=some o:=λb o hb e=>(hs.2 b hb).trans e
 refine I.call' (s':={s' with heap:=h'}) (ch:=fp) J.os ⟨λb o e q hb hx=>?_,λb o e q hb hx=>?_,λb o e q hx=>?_,λb o e hx=>?_,λb xs e=>?_,λb o u e=>?_,λb ps e=>?_⟩ ?_ J.bare λb hb=>⟨(hfp b hb).2.2.2.1,(hfp b hb).2.1,(hfp b hb).2.2.2.2.1,(hfp b hb).2.2.2.2.2⟩
 ·exact mv b o (old b o e).1 (B.keep b o e q hb hx)
 ·obtain⟨sl,z⟩:=B.slot b o e q hb hx
  exact⟨sl,mv b _ (old b o e).1 z⟩
 ·rw [yA (old b o e).2];exact B.free b o e q hx
 ·obtain⟨o',z⟩:=B.there b o e hx
  exact⟨o',mv b o' (old b o e).1 z⟩
 ·rw [yA (oldH b _ e)];exact B.tups b xs e
 ·rw [yA (oldH b _ e)];exact B.frzs b o u e
 ·obtain⟨more,z⟩:=B.tbls b ps e
  exact⟨more,by rw [yA (oldH b _ e)];exact z⟩
 ·intro b u e
  by_cases hb:b=D
  ·subst hb
   rw [xF]at e;cases e
   exact⟨hz,its,n,r,mv b _ hDC eD⟩
  ·rw [yA hb]at e
   refine(J.hok b u e).stay (λc v hc q=>mv c v ?_ q) (λc q=>by rw [yA (yC q nD)];exact q) λc xs q=>by rw [yA (yC q nD)];exact q
   rcases hc with z|z
   ·rw [z];exact yC e nC
   ·exact yC z nC
end
section
variable{X:Cx}
theorem zWD{elt tg iter:Expr}{ifs:List Expr}{pos:Pos}{sc:Scope}{wi:TI}{g:TG}{tc:Addr->Shared->Hp->List Addr->TT}{te:Addr->Shared->Hp->List Addr->TE}(T:List Str)(idx:List Nat)
  (hi:PI X tg iter wi) (hcalm:X.calm=true) (hB:zNK X.env.scope X.N sc idx=true)
  (hg: ∀C s₂ H1 fp,PG (yI X sc T idx C s₂ H1 fp) tg g)
  (hc: ∀C s₂ H1 fp,yFU (yI X sc T idx C s₂ H1 fp) ifs (tc C s₂ H1 fp))
  (he: ∀C s₂ H1 fp,PE (yI X sc T idx C s₂ H1 fp) elt (te C s₂ H1 fp))
  (hs: ∀x,foldedSetIterable iter X.env x=pure x:=by intro _;rfl)
  {pins:List (Addr×Obj)} {s:Shared} {σ:St} {H:Hp} {Q:VK} {use:Option (Value->Sem Unit)} {Q':Value->Shared->Prop} (I:Inv X pins σ H s) (h:yFT wi g tc te T.length idx σ H Q)
  (fin: ∀(D C:Addr)(s4:Shared)(H':Hp)(r:_),(∀h',Heap.SameBut C s4.heap h'->Inv X pins σ H' {s4 with heap:=h'})->zMB X pins H' C->(∃m,s4.heap.Ns C m)->Q (.ref D) H'->
   compPost (model X.prog X.w) X.A X.xe use Q' (.ref D) C (.ok r) s4):
  wpAny (model X.prog X.w) X.A (comprehension (.ListComp elt [⟨tg,iter,ifs,0⟩] sc pos) sc X.env (firstIterPos [⟨tg,iter,ifs,0⟩] pos) (newList []) false (eval iter X.env) use) Q' X.xe s:=by
 have cf:=yJK hB
 refine wpAny_comprehension_free (use:=use) (cl:=zFQ X.env sc.names []) rfl hs (zRS (zWC I cf)) cf.kind cf.locs ?_
 refine thn (hi pins s σ H _ I h) λv s1 h1=>thn h1 λitv s2 h2=>?_
 obtain⟨it,fp,tn,J,H2,e,I2,Tn,st2,f2,W,⟨m0,w0⟩,turn⟩:=h2
 subst e
 have hlt: ∀b∈fp,b<s2.heap.objs.size:=λb hb=>let ⟨o,e,_⟩:=Tn.obj _ _ st2 b hb;Heap.lt_size e
 refine wpAny_newObj_type (wpAny_newFunctionEnv cf.nocell (by intro y hy;simp at hy) (λh₁ hns₁ hsb₁=>?_) cf.kind)
 dsimp only at hns₁ hsb₁ ⊢
 generalize hH2:s2.heap.push {cls:=.type "list",dict:=none,data:=.seq ([]:List Value).toArray}=HH at hns₁ hsb₁ ⊢
 have hC:HH.objs.size=s2.heap.objs.size+1:=by rw [<-hH2,Heap.size_push]
 have hDC:s2.heap.objs.size≠HH.objs.size:=by rw [hC];exact ne_of_lt (Nat.lt_succ_self _)
 have hCle:s2.heap.objs.size<=HH.objs.size:=by rw [hC];exact le_succ _
 have old: ∀b o,s2.heap.get? b=some o->h₁.get? b=some o:=λb o e=>hsb₁.extBut b o (by rw [hC];exact ne_of_lt (Nat.lt_succ_of_lt (Heap.lt_size e))) (hP0 _ (hH2▸hP0 _ e))
 have eD0:h₁.get? s2.heap.objs.size=some {cls:=.type "list",data:=.seq ([]:List Value).toArray 0}:=hsb₁.extBut _ _ hDC (hP0 _ (hH2▸Heap.get?_push_size _ rfl))
 have nD0:H2 s2.heap.objs.size=none:=I2.hok.fresh (le_refl _)
 have cD: ∀x c,(zFQ X.env sc.names []).lookup x=some c->c≠s2.heap.objs.size:=λx c e=>by
  obtain⟨v,q⟩:=I2.cell x c (jS I2 cf e)
  exact ne_of_lt q.lt
 have loop: ∀s4:Shared,s4={s2 with heap:=h₁,toks:=s2.toks+([]:List (Str×Value)).length}->
   codeAny (model X.prog X.w) X.A (.compLoop (.ListComp elt [⟨tg,iter,ifs,0⟩] sc pos) 0 (.ref it) (.ref s2.heap.objs.size) (compEnvC sc (zFQ X.env sc.names []) HH.objs.size X.env))
    (compPost (model X.prog X.w) X.A X.xe use Q' (.ref s2.heap.objs.size) HH.objs.size) s4:=by
  rintro s4 rfl
  have J0:Inv (yI X sc T idx HH.objs.size s2 H2 fp) [] (T.map (λ_=>none)++zME σ idx) H2 {s2 with heap:=h₁,toks:=s2.toks+([]:List (Str×Value)).length}:=
   zYZ I2 cf hCle f2 hlt old rfl rfl hns₁
  refine zTX (λk s'=> ∃(i:Nat)(ys:List V)(its:List Value)(n:Nat)(H':Hp)(τ:St),Inv (yI X sc T idx HH.objs.size s2 H2 fp) [] (τ++zME σ idx) H' s'/\τ.length=T.length/\tn i s'.heap/\(∀b∈fp,H' b=none)/\
   s'.heap.get? s2.heap.objs.size=some {cls:=.type "list",data:=.seq its.toArray n}/\H' s2.heap.objs.size=none/\Vals ys its/\W i k ys H') ?_ m0
   ⟨0,[],[],0,H2,T.map (λ_=>none),J0,by rw [lM0],Tn.keep _ _ _ st2 λb _ o e=>old b o e,λb hb=>(f2 b hb).1,eD0,nD0,.nil,w0⟩
  rintro k s3 ⟨i,ys,its,n,H3,τ,I3,hτ,st3,fr3,eD3,nD3,r3,w3⟩
  obtain⟨hz,alt⟩:=turn i k ys H3 w3
  have hDfs:s2.heap.objs.size∉(yI X sc T idx HH.objs.size s2 H2 fp).fs:=λz=>by
   obtain⟨_,o,ho,_⟩:=I2.stack.mem (show s2.heap.objs.size∈frs X.stack from z)
   exact absurd (Heap.lt_size ho) (lt_irrefl _)
  have pinD: ∀{H':Hp}{s':Shared},s'.heap.get? s2.heap.objs.size=some {cls:=.type "list",data:=.seq its.toArray n}->H' s2.heap.objs.size=none->
    ∀p∈[(s2.heap.objs.size,({cls:=.type "list",data:=.seq its.toArray n}:Obj))],s'.heap.get? p.1=some p.2/\H' p.1=none/\p.1≠(yI X sc T idx HH.objs.size s2 H2 fp).env.locals/\p.1∉(yI X sc T idx HH.objs.size s2 H2 fp).fs/\ ∀v,p.2.data≠.cell v:=
   λ{H' s'} e1 e2 p hp=>by
    have ep:p=(s2.heap.objs.size,{cls:=.type "list",data:=.seq its.toArray n}):=by simpa using hp
    subst ep
    exact⟨e1,e2,hDC,hDfs,λv z=>by cases z⟩
  have P3:Inv (yI X sc T idx HH.objs.size s2 H2 fp) [(s2.heap.objs.size,{cls:=.type "list",data:=.seq its.toArray n})] (τ++zME σ idx) H3 s3:=I3.pins_of (pinD eD3 nD3)
  have stat: ∀{H':Hp},(∀b∈fp,H' b=none)-> ∀b∈fp,zMB (yI X sc T idx HH.objs.size s2 H2 fp) [(s2.heap.objs.size,{cls:=.type "list",data:=.seq its.toArray n})] H' b:=λ{H'} hn b hb=>by
   have hb2:=hlt b hb
   refine⟨hn b hb,ne_of_lt (lt_of_lt_of_le hb2 hCle),I3.ok.exfs b hb,.inl hb,λx c e=>(f2 b hb).2.2.2.2.1 x c (jS I2 cf e),λp hp=>?_⟩
   have ep:p=(s2.heap.objs.size,({cls:=.type "list",data:=.seq its.toArray n}:Obj)):=by simpa [yI]using hp
   subst ep
   exact ne_of_gt hb2
  rcases alt with⟨stop,q⟩|⟨go,hl2,step⟩
  ·refine thn (Tn.done (yI X sc T idx HH.objs.size s2 H2 fp) rfl rfl rfl hcalm i _ s3 _ H3 (λ_ _=>False) P3 (stat fr3) st3 stop) λr s4 ⟨hr,I4⟩=>?_
   subst hr
   obtain⟨m,hn,_⟩:=id I4.loc
   have eD4:=(I4.pin (s2.heap.objs.size,{cls:=.type "list",data:=.seq its.toArray n}) (by simp)).1
   exact fin _ _ s4 _ _ (λh' hs'=>zZA I2 hCle f2 (I4.pins_of (λp hp=>nomatch hp)) hs' (le_refl _) hDC eD4 nD3 r3 hz) (I2.fpOk hCle (by rw [yA (Ne.symm hDC)];exact I4.free)) ⟨m,hn⟩ (q _ nD3)
  ·refine thn (Tn.item (yI X sc T idx HH.objs.size s2 H2 fp) rfl rfl rfl hcalm i _ s3 _ H3 (λ_ _=>False) P3 (stat fr3) st3 go) λr s4 ⟨u,hr,h4⟩=>?_
   subst hr
   refine thn h4 λ_ s5 ⟨x,H5,I5,r5,y5,st5,fr5⟩=>?_
   have I5':=I5.pinned (stat fr5) (Tn.obj _ _ st5)
   refine thn (hg HH.objs.size s2 H2 fp _ s5 _ H5 x u _ I5' r5 (step x H5 y5 τ hτ)) λ_ s6 ⟨σ6,H6,I6,⟨τ',e6,l6⟩,q6⟩=>?_
   subst e6
   refine thn (hc HH.objs.size s2 H2 fp _ s6 _ H6 _ I6 (q6 HH.objs.size s2 fp)) λok s7 ⟨H7,I7,q7⟩=>?_
   have mD:(s2.heap.objs.size,({cls:=.type "list",data:=.seq its.toArray n}:Obj))∈(yI X sc T idx HH.objs.size s2 H2 fp).pn++([(s2.heap.objs.size,{cls:=.type "list",data:=.seq its.toArray n})]++zMC fp s5.heap):=
    mem_append_right _ (mem_append_left _ (by simp))
   have mF: ∀b∈fp, ∀o,s5.heap.get? b=some o->(b,o)∈(yI X sc T idx HH.objs.size s2 H2 fp).pn++([(s2.heap.objs.size,{cls:=.type "list",data:=.seq its.toArray n})]++zMC fp s5.heap):=λb hb o e=>
    mem_append_right _ (mem_append_right _ (zIZ hb e))
   cases ok with
   |false=>
    rw [iN0 xF0]at q7 ⊢
    obtain⟨m',hm',w7⟩:=q7
    refine⟨m',hm',i+1,ys,its,n,H7,τ',I7.pins_of (λp hp=>nomatch hp),l6,Tn.keep _ _ _ st5 λb hb o e=>(I7.pin _ (mF b hb o e)).1,λb hb=>?_,(I7.pin _ mD).1,(I7.pin _ mD).2.1,r3,w7⟩
    obtain⟨o,e,d⟩:=Tn.obj _ _ st5 b hb
    exact(I7.pin _ (mF b hb o e)).2.1
   |true=>
    rw [iP rfl]at q7 ⊢
    refine thn (he HH.objs.size s2 H2 fp _ s7 _ H7 _ I7 q7) λy s8 ⟨yv,H8,I8,r8,m',hm',w8⟩=>?_
    have eD8:=(I8.pin _ mD).1
    have nD8:=(I8.pin _ mD).2.1
    have hl:=r3.length
    have q:=PySem.IsL.update eD8 (λz=>z.push y)
    rw [show its.toArray.push y=(its++[y]).toArray by simp]at q
    refine call_meets PySem.F.slot_list_append ⟨_,eD8,rfl⟩ PySem.F.entry_list_append (PySem.F.args_list_append_2 _ _) (PySem.list_append s2.heap.objs.size its.toArray n y (by rw [sA];omega)) ⟨eD8,?_⟩
    have I9:Inv (yI X sc T idx HH.objs.size s2 H2 fp) [] (τ'++zME σ idx) H8 s8:=I8.pins_of (λp hp=>nomatch hp)
    have up: ∀b o,b≠s2.heap.objs.size->s8.heap.get? b=some o->(s8.heap.update s2.heap.objs.size (Obj.mapSeq λz=>z.push y)).get? b=some o:=λb o hb e=>(Heap.get?_update_other s8.heap _ (Ne.symm hb)).trans e
    refine⟨m',hm',i+1,ys++[yv],its++[y],_,H8,τ',I9.turned (t':=s8.toks) up nD8 hDC (.inr (le_refl _)) cD (λp hp=>nomatch hp),l6,?_,λb hb=>?_,q,nD8,r3.append (.cons r8 .nil),w8⟩
    ·exact Tn.keep _ _ _ st5 λb hb o e=>up b o (ne_of_lt (hlt b hb)) (I8.pin _ (mF b hb o e)).1
    ·obtain⟨o,e,d⟩:=Tn.obj _ _ st5 b hb
     exact(I8.pin _ (mF b hb o e)).2.1
 exact codeAny_compStart_list (loop _ rfl) (Tn.self X.A 0 _ _ _ (Tn.keep _ _ _ st2 λb _ o e=>old b o e) (loop _ rfl))
theorem yJM{elt tg iter:Expr}{ifs:List Expr}{pos:Pos}{sc:Scope}{wi:TI}{g:TG}{tc:Addr->Shared->Hp->List Addr->TT}{te:Addr->Shared->Hp->List Addr->TE}(T:List Str)(idx:List Nat)
  (hi:PI X tg iter wi) (hcalm:X.calm=true) (hB:zNK X.env.scope X.N sc idx=true)
  (hg: ∀C s₂ H1 fp,PG (yI X sc T idx C s₂ H1 fp) tg g)
  (hc: ∀C s₂ H1 fp,yFU (yI X sc T idx C s₂ H1 fp) ifs (tc C s₂ H1 fp))
  (he: ∀C s₂ H1 fp,PE (yI X sc T idx C s₂ H1 fp) elt (te C s₂ H1 fp))
  (hs: ∀x,foldedSetIterable iter X.env x=pure x:=by intro _;rfl):
  PE X (.ListComp elt [⟨tg,iter,ifs,0⟩] sc pos) (yFT wi g tc te T.length idx):=by
 intro pins s σ H Q I h
 rw [eval_ListComp]
 exact zWD T idx hi hcalm hB hg hc he hs (use:=none) I h λD C s4 H' r J _ ⟨m,hn⟩ q=>⟨m,hn,λh' hs'=>⟨.ref D,H',J h' hs',rfl,q⟩⟩
end
def mkS(x:List Nat):Str:=⟨x.toArray⟩
theorem jE(x:List Nat):(mkS x).length=x.length:=by simp [mkS,Str.length]
theorem zDO(x:List Nat):(mkS x).cps.toList=x:=by simp [mkS]
theorem zTY{x y:List Nat}(h:mkS x=mkS y):x=y:=by
 have:=congrArg (λs=>s.cps.toList) h
 simpa [mkS]using this
theorem yJN(x y:List Nat):mkS x++mkS y=mkS (x++y):=by
 show Str.append (mkS x) (mkS y)=_
 simp [Str.append,mkS]
theorem yJO(c:Nat):(⟨#[c]⟩:Str)=mkS [c]:=rfl
def cF{α:Type}(xs:List α)(lo hi:Option Int):List α:=(xs.drop (HT.sIx xs.length 0 lo)).take (HT.sIx xs.length xs.length hi - HT.sIx xs.length 0 lo)
theorem strIdx(lo hi:Option Int)(n:Nat):Builtin.Str.strSliceIndices lo hi 1 n=(List.range (HT.sIx n n hi - HT.sIx n 0 lo)).map (HT.sIx n 0 lo+·):=by
 have e1:(match lo with |none=>(if(1:Int)>0 then(0:Int)else(n:Int) - 1)|some i=>if(1:Int)>0 then max 0 (min (if i<0 then i+(n:Int)else i) (n:Int))else max (-1) (min (if i<0 then i+(n:Int)else i) ((n:Int) - 1)))=((HT.sIx n 0 lo:Nat):Int):=by
  cases lo with
  |none=>simp [HT.sIx]
  |some i=>
   simp only [HT.sIx,show(1:Int)>0 by decide,if_true]
   by_cases h:i<0
   ·simp only [h,if_true];omega
   ·simp only [h,iF];omega
 have e2:(match hi with |none=>(if(1:Int)>0 then(n:Int)else -1)|some i=>if(1:Int)>0 then max 0 (min (if i<0 then i+(n:Int)else i) (n:Int))else max (-1) (min (if i<0 then i+(n:Int)else i) ((n:Int) - 1)))=((HT.sIx n n hi:Nat):Int):=by
  cases hi with
  |none=>simp [HT.sIx]
  |some i=>
   simp only [HT.sIx,show(1:Int)>0 by decide,if_true]
   by_cases h:i<0
   ·simp only [h,if_true];omega
   ·simp only [h,iF];omega
 rw [<-sliceRange_one]
 unfold Builtin.Str.strSliceIndices
 dsimp only
 rw [<-e1, <-e2]
 cases lo<;>cases hi<;>rfl
theorem yDH(x:List Nat)(lo hi:Option Int):Txt.slice (mkS x) lo hi=mkS (cF x lo hi):=by
 unfold Txt.slice
 rw [strIdx,jE]
 have hp:((List.range (HT.sIx x.length x.length hi - HT.sIx x.length 0 lo)).map (HT.sIx x.length 0 lo+·)).filterMap ((mkS x).cps[·]?)=cF x lo hi:=by
  have:=pick_run (mkS x).cps (HT.sIx x.length 0 lo) (HT.sIx x.length x.length hi - HT.sIx x.length 0 lo)
  rw [zDO]at this
  exact this
 rw [hp]
 split
 ·rename_i hc
  rw [aE]at hc
  have hl:HT.sIx x.length x.length hi - HT.sIx x.length 0 lo=x.length:=by simpa using hc.2
  have h2:HT.sIx x.length x.length hi<=x.length:=HT.sIx_le _ _ (le_refl _) _
  have h3:HT.sIx x.length 0 lo<=x.length:=HT.sIx_le _ _ (zero_le _) _
  have e:HT.sIx x.length 0 lo=0:=by omega
  unfold cF
  rw [hl,e]
  simp
 ·rfl
section
variable{X:Cx}
def rSlS:V->Option Int->Option Int->Hp->VK->Prop:=λx lo hi H Q=> ∃cs,x=.str (mkS cs)/\cs.length<=sizeLine/\Q (.str (mkS (cF cs lo hi))) H
theorem yNW:SlR X rSlS:=by
 intro pins s σ H x v vl vu lo hi sl Q I rx hs pl pu h
 obtain⟨cs,rfl,hz,q⟩:=h
 obtain⟨t,rfl⟩:=rx
 have hl:(Txt.slice (mkS cs) lo hi).length<=sizeLine:=le_trans (Txt.slice_le _ _ _) (by rw [jE];exact hz)
 rw [<-yDH]at q
 refine⟨"str",_,slot_str_getitem.lookup,typeIs_str _ _ _,?_⟩
 obtain⟨o,ho,hc,hd⟩:=hs
 cases pl with
 |none=>
  cases pu with
  |none=>exact wpAny_getItem_str_slice (l:=none) (u:=none) (st:=none) ⟨o,ho,hc,hd⟩ rfl (post_val_or_str ⟨hl,λt' k=>⟨.str _,H,I.tok _,⟨_,rfl⟩,q⟩⟩)
  |int j uj=>exact wpAny_getItem_str_slice (l:=none) (u:=some (j,uj)) (st:=none) ⟨o,ho,hc,hd⟩ rfl (post_val_or_str ⟨hl,λt' k=>⟨.str _,H,I.tok _,⟨_,rfl⟩,q⟩⟩)
 |int i ui=>
  cases pu with
  |none=>exact wpAny_getItem_str_slice (l:=some (i,ui)) (u:=none) (st:=none) ⟨o,ho,hc,hd⟩ rfl (post_val_or_str ⟨hl,λt' k=>⟨.str _,H,I.tok _,⟨_,rfl⟩,q⟩⟩)
  |int j uj=>exact wpAny_getItem_str_slice (l:=some (i,ui)) (u:=some (j,uj)) (st:=none) ⟨o,ho,hc,hd⟩ rfl (post_val_or_str ⟨hl,λt' k=>⟨.str _,H,I.tok _,⟨_,rfl⟩,q⟩⟩)
theorem zCY:OpR X (compareOp .LtE) (λx y H Q=> ∃i j,x=.str i/\y=.str j/\Q (.bl (!(j.cps.toList<i.cps.toList))) H):=by
 intro pins s σ H x y v u Q I rx ry h
 obtain⟨i,j,rfl,rfl,q⟩:=h
 obtain⟨t,rfl⟩:=rx
 obtain⟨t',rfl⟩:=ry
 exact PySem.P.le_str ⟨.bl _,H,I,rfl,q⟩
def zOZ(cs:List Nat)(k:Int):List Nat:=(List.replicate k.toNat cs).flatten
theorem zMF(cs:List Nat): ∀(k:Nat)(acc:List Nat),List.foldl (λx1 x2=>x1++x2) acc.toArray (List.replicate k cs.toArray)=(acc++(List.replicate k cs).flatten).toArray
 |0,acc=>by simp
 |k+1,acc=>by
  rw [replicate_succ,List.foldl_cons,replicate_succ,flatten_cons, <-aA, <-zMF cs k (acc++cs)]
  simp
theorem zZB:OpR X (binaryOp .Mult) (λx y H Q=> ∃cs k,x=.str (mkS cs)/\y=.int k/\0<=k/\k<1000/\cs.length<=1000/\Q (.str (mkS (zOZ cs k))) H):=by
 intro pins s σ H x y v u Q I rx ry h
 obtain⟨cs,k,rfl,rfl,h0,h1,hc,q⟩:=h
 obtain⟨t,rfl⟩:=rx
 obtain⟨t',rfl⟩:=ry
 have hs:sizeLine=16777216:=sizeLine_eq
 have hprod:cs.length * k.toNat<=1000 * 1000:=Nat.mul_le_mul hc (by omega)
 have e: ∀b,Q (.str b) H->b=mkS (zOZ cs k)->True:=λ_ _ _=>trivial
 refine PySem.P.mul_str (by rw [dF0 (by omega),dF0 (by omega)];rfl) (λh2 _=>?_) (λ_ _=>?_) ?_
 ·rw [jE]
  have hk:1<=k:=by omega
  have:(1000:Int)<=(2 ^ 63 - 1) / k:=by
   rw [Int.le_ediv_iff_mul_le (by omega)]
   omega
  omega
 ·rw [jE]
  unfold PySem.Builtin.Str.tooLong
  exact dF0 (by omega)
 ·have made: ∀(z:Str),z=mkS (zOZ cs k)->z.length<=sizeLine->(Made.str z).post (EP X pins σ Q) s:=λz ez hz=>⟨hz,by rw [ez];exact⟨.str _,H,I.tok _,⟨_,rfl⟩,q⟩⟩
  have hlen:(zOZ cs k).length=k.toNat * cs.length:=by
   unfold zOZ;rw [len_rep]
  by_cases hn:k<1
  ·rw [iP hn]
   have hk:k.toNat=0:=by omega
   refine made _ ?_ (by decide)
   unfold zOZ;rw [hk];rfl
  ·rw [iN0 hn]
   by_cases h3:(k==1 || (mkS cs).length==0)=true
   ·rw [iP h3]
    refine⟨.str (mkS cs),H,I,⟨_,rfl⟩,?_⟩
    have:zOZ cs k=cs:=by
     unfold zOZ
     rw [or_eq_true]at h3
     rcases h3 with h3|h3
     ·have:k=1:=by simpa using h3
      subst this
      simp
     ·rw [jE]at h3
      have:cs=[]:=by cases cs with |nil=>rfl|cons _ _=>simp at h3
      subst this
      simp
    rw [this]at q
    exact q
   ·rw [iN0 h3]
    refine made _ ?_ ?_
    ·unfold zOZ mkS
     have:=zMF cs k.toNat []
     rw [nil_append]at this
     exact congrArg Str.mk this
    ·have e3:(List.foldl (λx1 x2=>x1++x2) #[] (List.replicate k.toNat (mkS cs).cps))=(zOZ cs k).toArray:=by
      have:=zMF cs k.toNat []
      rw [nil_append]at this
      exact this
     show(List.foldl (λx1 x2=>x1++x2) #[] (List.replicate k.toNat (mkS cs).cps)).size<=sizeLine
     rw [e3,sA,hlen,Nat.mul_comm]
     omega
theorem hW:CallR X (.builtin "all") (λxs H Q=> ∃(a:Addr)(bs:List Bool),xs=[.ref a]/\SqL X.K H a (bs.map V.bl)/\X.calm=true/\Q (.bl (bs.all id)) H):=by
 intro pins s σ H xs us Q I r h
 obtain⟨a,bs,rfl,hq,hc,q⟩:=h
 obtain⟨u,rfl,ru⟩:=vals1 r
 cases ru
 obtain⟨its,rv,pl,hz⟩:=I.list hq
 have hlen:its.length=bs.length:=by rw [<-rv.length,lM0]
 refine PySem.call_all_walk (wpAny_pyIter_list pl.isList ?_)
 have hI:a≠s.heap.objs.size:=by
  obtain⟨o,ho,_⟩:=pl.isList
  exact ne_of_lt (Heap.lt_size ho)
 have I1: ∀(h':Heap)(tk:Nat),(∀b o,b∉[s.heap.objs.size]->(s.heap.push {cls:=.type "list_iterator",data:=.fields #[.ref a,.int 0 0]}).get? b=some o->h'.get? b=some o)->Inv X pins σ H {s with heap:=h',toks:=tk}:=λh' tk k=>
  I.kept λb o e=>k b o (by simpa using ne_of_lt (Heap.lt_size e)) (hP0 _ e)
 refine⟨s.heap.objs.size,[s.heap.objs.size,a],[s.heap.objs.size],its.toArray.size,_,_,λi=>bs.getD i false,rfl,PySem.Walks.list (by first |exact I.ok.hd hc|exact(show X.A.in1.handled=none from I.ok.hd hc)) _ a hI its.toArray,⟨⟨_,Heap.get?_push_size _ rfl,rfl,rfl⟩,pl.isList.at λo e=>hP0 _ e⟩,?_,λh' tk k=>?_⟩
 ·intro i v s' Q' E' hv hQ'
  have hv':its[i]? =some v:=by simpa using hv
  have hi:i<bs.length:=by rw [<-hlen];exact(gS0.mp hv').1
  have hb:(bs.map V.bl)[i]? =some (V.bl (bs.getD i false)):=by
   rw [getElem?_map,gE0 hi]
   simp [getD_eq_getElem?_getD,hi]
  obtain⟨u',hu',rv'⟩:=rv.get hb
  rw [hv']at hu'
  cases hu'
  cases rv'
  exact wpAny_truthy_bool hQ'
 ·refine⟨.bl (bs.all id),H,I1 h' tk k,?_,q⟩
  show Value.bool _=Value.bool _
  congr 1
  rw [sA,hlen]
  have: ∀(l:List Bool),(List.range l.length).all (λi=>l.getD i false)=l.all id:=by
   intro l
   rw [Bool.eq_iff_iff,all_eq_true,all_eq_true]
   constructor
   ·intro h x hx
    obtain⟨i,hi,rfl⟩:=List.getElem_of_mem hx
    have:=h i (mem_range.mpr hi)
    simpa [getD_eq_getElem?_getD,hi]using this
   ·intro h i hi
    have hi':=mem_range.mp hi
    have:=h l[i] (getElem_mem hi')
    simpa [getD_eq_getElem?_getD,hi']using this
  exact this bs
def Its(x:List Nat):It:=⟨λi _=>i<x.length,λi H v H'=>H'=H/\ ∃c,x[i]? =some c/\v=.str (mkS [c]),λi _=>x.length<=i⟩
def iStr(tl:TE):TI:=λσ H R=>tl σ H λv H1=> ∃x,v=.str (mkS x)/\R (Its x) H1
theorem zWE{P:Program}{w:World}{K:PySem.W.Frag}{tg:Expr}(it:Addr)(ty:String)(x:List Nat)(t:Tok)(hty:ty="str_ascii_iterator"\/ty="str_iterator"):
  Turn P w K tg (Its x) [it] it (λi h=>h.IsStrIter it ty (mkS x) t i) where
 mem:=by simp
 obj:=λi h st b hb=>by
  have e:b=it:=by simpa using hb
  subst e
  obtain⟨o,e,c,d⟩:=st
  exact⟨o,e,λv z=>by rw [d]at z;cases z⟩
 keep:=λi h h' st k=>let ⟨o,ho,r⟩:=st;⟨o,k it (by simp) o ho,r⟩
 item:=by
  intro X hP hw hK hc i pins s σ H E I hf st hg
  subst hP hw hK
  obtain⟨f0,f1,f2,f3,f4,f5⟩:=hf it (by simp)
  have hi:i<x.length:=hg
  have hxi:(mkS x).cps[i]? =some x[i]:=by simp [mkS,hi]
  have fin: ∀(h':Heap),h'.IsStrIter it ty (mkS x) t (i+1)->Heap.SameBut it s.heap h'-> ∃u,some (Value.str ⟨#[x[i]]⟩ s.toks)=some u/\
    wpAny (model X.prog X.w) X.A (letOwnedTupleGo tg (.ref it) u) (λ_ s2=> ∃y H',Inv X pins σ H' s2/\RelV y u/\(Its x).yld i H y H'/\s2.heap.IsStrIter it ty (mkS x) t (i+1)/\ ∀b∈[it],H' b=none) E {s with heap:=h',toks:=s.toks+1}:=λh' st' sb=>by
   have I1:Inv X pins σ H {s with heap:=h',toks:=s.toks+1}:=I.turned (λb o hb e=>(sb.2 b hb).trans e) f0 f1 f3 f4 f5
   obtain⟨o,e,c,d⟩:=id st'
   refine⟨_,rfl,yBD (s:={s with heap:=h',toks:=s.toks+1}) e c d (by rcases hty with rfl|rfl<;>decide) ⟨.str (mkS [x[i]]),H,I1,⟨_,rfl⟩,⟨rfl,x[i],by simp [hi],rfl⟩,st',λb hb=>(hf b hb).1⟩⟩
  rcases hty with rfl|rfl
  ·exact wpAny_pyNext_ascii_item st hxi λh' st' sb=>fin h' st' sb
  ·exact wpAny_pyNext_wide_item st hxi λh' st' sb=>fin h' st' sb
 done:=by
  intro X hP hw hK hc i pins s σ H E I hf st hg
  subst hP hw hK
  obtain⟨f0,f1,f2,f3,f4,f5⟩:=hf it (by simp)
  have hi:x.length<=i:=hg
  have hxi:(mkS x).cps[i]? =none:=by simp [mkS,hi]
  rcases hty with rfl|rfl
  ·exact wpAny_pyNext_ascii_end (I.ok.hd hc) st hxi λh' eb=>⟨rfl,I.turned (t':=s.toks) (λb o hb e=>eb b o hb e) f0 f1 f3 f4 f5⟩
  ·exact wpAny_pyNext_wide_end (I.ok.hd hc) st hxi λh' eb=>⟨rfl,I.turned (t':=s.toks) (λb o hb e=>eb b o hb e) f0 f1 f3 f4 f5⟩
 self:=λ_ _ _ _ _ st h=>by
  rcases hty with rfl|rfl
  ·exact wpAny_pyIter_striter_ascii st h
  ·exact wpAny_pyIter_striter_wide st h
theorem yNX{tg l:Expr}{tl:TE}(hl:PE X l tl):PI X tg l (iStr tl):=by
 intro pins s σ H R I h
 refine thn (hl pins s σ H _ I h) λv s1 ⟨x,H1,I1,r1,q1⟩=>?_
 obtain⟨cs,e,q⟩:=q1
 subst e
 obtain⟨t,rfl⟩:=r1
 have fp: ∀(o:Obj), ∀b∈[s1.heap.objs.size],zMB X pins H1 b:=λo b hb=>by
  have e:b=s1.heap.objs.size:=by simpa using hb
  subst e
  exact I1.fpOk (le_refl _) (I1.hok.fresh (le_refl _))
 cases ha:(mkS cs).cps.all (· <128)
 ·refine wpAny_pyIter_wide ha ?_
  exact⟨s1.heap.objs.size,[s1.heap.objs.size],_,_,H1,rfl,I1.kept (t':=s1.toks) λb o e=>hP0 _ e,zWE _ "str_iterator" cs t (.inr rfl),⟨_,Heap.get?_push_size _ rfl,rfl,rfl⟩,fp default,q⟩
 ·refine wpAny_pyIter_ascii ha ?_
  exact⟨s1.heap.objs.size,[s1.heap.objs.size],_,_,H1,rfl,I1.kept (t':=s1.toks) λb o e=>hP0 _ e,zWE _ "str_ascii_iterator" cs t (.inl rfl),⟨_,Heap.get?_push_size _ rfl,rfl,rfl⟩,fp default,q⟩
end
section
variable{X:Cx}
def PU(X:Cx)(e:Expr)(t:TE):Prop:= ∀(i:Nat)(x:Str)(pos' pos:Pos),X.N.Nodup->X.N[i]? =some x->Loc X.env.scope x->(X.fn x=true\/X.env.scope.names.lookup x=some .local)->
 swapsWith e (some (.Name x pos')) pos.line X.env=pure true->PS X (.Assign [.Name x pos'] e pos) (tAsg t (yFE i))
theorem yJP{elt tg iter:Expr}{ifs:List Expr}{pos:Pos}{sc:Scope}{wi:TI}{g:TG}{tc:Addr->Shared->Hp->List Addr->TT}{te:Addr->Shared->Hp->List Addr->TE}(T:List Str)(idx:List Nat)
  (hi:PI X tg iter wi) (hcalm:X.calm=true) (hB:zNK X.env.scope X.N sc idx=true)
  (hg: ∀C s₂ H1 fp,PG (yI X sc T idx C s₂ H1 fp) tg g)
  (hc: ∀C s₂ H1 fp,yFU (yI X sc T idx C s₂ H1 fp) ifs (tc C s₂ H1 fp))
  (he: ∀C s₂ H1 fp,PE (yI X sc T idx C s₂ H1 fp) elt (te C s₂ H1 fp))
  (hs: ∀x,foldedSetIterable iter X.env x=pure x:=by intro _;rfl):
  PU X (.ListComp elt [⟨tg,iter,ifs,0⟩] sc pos) (yFT wi g tc te T.length idx):=by
 intro i x pos' spos hN hix hx hf hsw pins s σ H D I h
 rw [exec_Assign_Name_used _ _ _ _ hsw]
 refine wB0 (wpAny_standAt (wB0 ?_))
 rw [arm_evalThenUse_ListComp]
 refine wB0 (thn (zWD T idx hi hcalm hB hg hc he hs (use:=some (assign (.Name x pos') X.env)) (Q':=λ_ s'=> ∃σ' H',Inv X pins σ' H' s'/\D.nx σ' H') I h λDd C s4 H' _ J4 fo hm q=>?_) λ_ s' hq=>wP0 (wP0 hq))
 have I4:=J4 s4.heap (Heap.SameBut.refl _ _)
 refine wpAny_assign_Name (zSH I4 hN hix hx (show RelV (.ref Dd) (.ref Dd)from rfl) (λs' I' ⟨a,hs',ha⟩=>?_) hf)
 obtain⟨m,hm⟩:=hm
 have hCa:C≠a:=by
  rintro rfl
  rcases ha with ha|ha
  ·exact fo.2.1 ha
  ·exact fo.2.2.2.2.1 x _ ha rfl
 refine⟨m,hm.sameBut hs' hCa,λh' hs''=>⟨_,H',?_,q⟩⟩
 exact I'.turned (t':=s'.toks) (λb o hb e=>(hs''.2 b hb).trans e) fo.1 fo.2.1 fo.2.2.2.1 fo.2.2.2.2.1 fo.2.2.2.2.2
end
end L2
namespace L2
namespace M
open PySem PySem.Spec PyProof.Rows
theorem yNY{A:Around}{s:Shared}{y x:V}{u v:Value}(ry:RelV y u)(rx:RelV x v)(fy:wS y=true)(fx:wS x=true):SeqAt.RcAt A s u v (eqV y x):=by
 cases y with
 |non=>
  cases ry
  cases x with
  |non=>cases rx;exact SeqAt.RcAt.none_none
  |bl b=>cases rx;exact SeqAt.RcAt.none_bool b
  |int b=>obtain⟨t,rfl⟩:=rx;exact SeqAt.RcAt.none_int b t
  |str b=>obtain⟨t,rfl⟩:=rx;exact SeqAt.RcAt.none_str b t
  |_=>exact absurd (show false=true from fx) xF0
 |bl a=>
  cases ry
  cases x with
  |non=>cases rx;exact SeqAt.RcAt.bool_none a
  |bl b=>cases rx;exact SeqAt.RcAt.bool_bool a b
  |int b=>obtain⟨t,rfl⟩:=rx;exact SeqAt.RcAt.bool_int a b t
  |str b=>obtain⟨t,rfl⟩:=rx;exact SeqAt.RcAt.bool_str a b t
  |_=>exact absurd (show false=true from fx) xF0
 |int a=>
  obtain⟨t',rfl⟩:=ry
  cases x with
  |non=>cases rx;exact SeqAt.RcAt.int_none a t'
  |bl b=>cases rx;exact SeqAt.RcAt.int_bool a t' b
  |int b=>obtain⟨t,rfl⟩:=rx;exact SeqAt.RcAt.int_int a t' b t
  |str b=>obtain⟨t,rfl⟩:=rx;exact SeqAt.RcAt.int_str a t' b t
  |_=>exact absurd (show false=true from fx) xF0
 |str a=>
  obtain⟨t',rfl⟩:=ry
  cases x with
  |non=>cases rx;exact SeqAt.RcAt.str_none a t'
  |bl b=>cases rx;exact SeqAt.RcAt.str_bool a t' b
  |int b=>obtain⟨t,rfl⟩:=rx;exact SeqAt.RcAt.str_int a t' b t
  |str b=>obtain⟨t,rfl⟩:=rx;exact SeqAt.RcAt.str_str a t' b t
  |_=>exact absurd (show false=true from fx) xF0
 |_=>exact absurd (show false=true from fy) xF0
theorem yNZ{A:Around}{s:Shared}{y x:V}{u v:Value}(ry:RelV y u)(rx:RelV x v)(fy:wS y=true)(fx:wS x=true):SeqAt.RcNeAt A s u v (!eqV y x):=by
 cases y with
 |non=>
  cases ry
  cases x with
  |non=>cases rx;exact SeqAt.RcNeAt.none_none
  |bl b=>cases rx;exact SeqAt.RcNeAt.none_bool b
  |int b=>obtain⟨t,rfl⟩:=rx;exact SeqAt.RcNeAt.none_int b t
  |str b=>obtain⟨t,rfl⟩:=rx;exact SeqAt.RcNeAt.none_str b t
  |_=>exact absurd (show false=true from fx) xF0
 |bl a=>
  cases ry
  cases x with
  |non=>cases rx;exact SeqAt.RcNeAt.bool_none a
  |bl b=>cases rx;exact SeqAt.RcNeAt.bool_bool a b
  |int b=>obtain⟨t,rfl⟩:=rx;exact SeqAt.RcNeAt.bool_int a b t
  |str b=>obtain⟨t,rfl⟩:=rx;exact SeqAt.RcNeAt.bool_str a b t
  |_=>exact absurd (show false=true from fx) xF0
 |int a=>
  obtain⟨t',rfl⟩:=ry
  cases x with
  |non=>cases rx;exact SeqAt.RcNeAt.int_none a t'
  |bl b=>cases rx;exact SeqAt.RcNeAt.int_bool a t' b
  |int b=>obtain⟨t,rfl⟩:=rx;exact SeqAt.RcNeAt.int_int a t' b t
  |str b=>obtain⟨t,rfl⟩:=rx;exact SeqAt.RcNeAt.int_str a t' b t
  |_=>exact absurd (show false=true from fx) xF0
 |str a=>
  obtain⟨t',rfl⟩:=ry
  cases x with
  |non=>cases rx;exact SeqAt.RcNeAt.str_none a t'
  |bl b=>cases rx;exact SeqAt.RcNeAt.str_bool a t' b
  |int b=>obtain⟨t,rfl⟩:=rx;exact SeqAt.RcNeAt.str_int a t' b t
  |str b=>obtain⟨t,rfl⟩:=rx;exact SeqAt.RcNeAt.str_str a t' b t
  |_=>exact absurd (show false=true from fx) xF0
 |_=>exact absurd (show false=true from fy) xF0
theorem eq_ll{A:Around}{s:Shared}{x:V}{v:Value}{l:Addr}{items:Array Value}(rx:RelV x v)(fx:wS x=true)(hl:s.heap.IsList l items)(hu:A.units<cLine):SeqAt.EqAt A s (.ref l) v false:=by
 cases x with
 |non=>cases rx;exact SeqAt.EqAt.list_none hl hu
 |bl b=>cases rx;exact SeqAt.EqAt.list_bool b hl hu
 |int b=>obtain⟨t,rfl⟩:=rx;exact SeqAt.EqAt.list_int b t hl hu
 |str b=>obtain⟨t,rfl⟩:=rx;exact SeqAt.EqAt.list_str b t hl hu
 |_=>exact absurd (show false=true from fx) xF0
theorem eq_lr{A:Around}{s:Shared}{x:V}{v:Value}{l:Addr}{items:Array Value}(rx:RelV x v)(fx:wS x=true)(hl:s.heap.IsList l items)(hu:A.units<cLine):SeqAt.EqAt A s v (.ref l) false:=by
 cases x with
 |non=>cases rx;exact SeqAt.EqAt.none_list hl hu
 |bl b=>cases rx;exact SeqAt.EqAt.bool_list b hl hu
 |int b=>obtain⟨t,rfl⟩:=rx;exact SeqAt.EqAt.int_list b t hl hu
 |str b=>obtain⟨t,rfl⟩:=rx;exact SeqAt.EqAt.str_list b t hl hu
 |_=>exact absurd (show false=true from fx) xF0
theorem yMG{A:Around}{s:Shared}{x:V}{v:Value}{l:Addr}{items:Array Value}(rx:RelV x v)(fx:wS x=true)(hl:s.heap.IsTuple l items)(hu:A.units<cLine):SeqAt.EqAt A s (.ref l) v false:=by
 cases x with
 |non=>cases rx;exact SeqAt.EqAt.tuple_none hl hu
 |bl b=>cases rx;exact SeqAt.EqAt.tuple_bool b hl hu
 |int b=>obtain⟨t,rfl⟩:=rx;exact SeqAt.EqAt.tuple_int b t hl hu
 |str b=>obtain⟨t,rfl⟩:=rx;exact SeqAt.EqAt.tuple_str b t hl hu
 |_=>exact absurd (show false=true from fx) xF0
theorem yMH{A:Around}{s:Shared}{x:V}{v:Value}{l:Addr}{items:Array Value}(rx:RelV x v)(fx:wS x=true)(hl:s.heap.IsTuple l items)(hu:A.units<cLine):SeqAt.EqAt A s v (.ref l) false:=by
 cases x with
 |non=>cases rx;exact SeqAt.EqAt.none_tuple hl hu
 |bl b=>cases rx;exact SeqAt.EqAt.bool_tuple b hl hu
 |int b=>obtain⟨t,rfl⟩:=rx;exact SeqAt.EqAt.int_tuple b t hl hu
 |str b=>obtain⟨t,rfl⟩:=rx;exact SeqAt.EqAt.str_tuple b t hl hu
 |_=>exact absurd (show false=true from fx) xF0
theorem rc_ll{A:Around}{s:Shared}{x:V}{v:Value}{l:Addr}{items:Array Value}(rx:RelV x v)(fx:wS x=true)(hl:s.heap.IsList l items)(hu:A.units<cLine):SeqAt.RcAt A s (.ref l) v false:=by
 cases x with
 |non=>cases rx;exact SeqAt.RcAt.list_none hl hu
 |bl b=>cases rx;exact SeqAt.RcAt.list_bool b hl hu
 |int b=>obtain⟨t,rfl⟩:=rx;exact SeqAt.RcAt.list_int b t hl hu
 |str b=>obtain⟨t,rfl⟩:=rx;exact SeqAt.RcAt.list_str b t hl hu
 |_=>exact absurd (show false=true from fx) xF0
theorem rc_lr{A:Around}{s:Shared}{x:V}{v:Value}{l:Addr}{items:Array Value}(rx:RelV x v)(fx:wS x=true)(hl:s.heap.IsList l items)(hu:A.units<cLine):SeqAt.RcAt A s v (.ref l) false:=by
 cases x with
 |non=>cases rx;exact SeqAt.RcAt.none_list hl hu
 |bl b=>cases rx;exact SeqAt.RcAt.bool_list b hl hu
 |int b=>obtain⟨t,rfl⟩:=rx;exact SeqAt.RcAt.int_list b t hl hu
 |str b=>obtain⟨t,rfl⟩:=rx;exact SeqAt.RcAt.str_list b t hl hu
 |_=>exact absurd (show false=true from fx) xF0
theorem rc_tl{A:Around}{s:Shared}{x:V}{v:Value}{l:Addr}{items:Array Value}(rx:RelV x v)(fx:wS x=true)(hl:s.heap.IsTuple l items)(hu:A.units<cLine):SeqAt.RcAt A s (.ref l) v false:=by
 cases x with
 |non=>cases rx;exact SeqAt.RcAt.tuple_none hl hu
 |bl b=>cases rx;exact SeqAt.RcAt.tuple_bool b hl hu
 |int b=>obtain⟨t,rfl⟩:=rx;exact SeqAt.RcAt.tuple_int b t hl hu
 |str b=>obtain⟨t,rfl⟩:=rx;exact SeqAt.RcAt.tuple_str b t hl hu
 |_=>exact absurd (show false=true from fx) xF0
theorem rc_tr{A:Around}{s:Shared}{x:V}{v:Value}{l:Addr}{items:Array Value}(rx:RelV x v)(fx:wS x=true)(hl:s.heap.IsTuple l items)(hu:A.units<cLine):SeqAt.RcAt A s v (.ref l) false:=by
 cases x with
 |non=>cases rx;exact SeqAt.RcAt.none_tuple hl hu
 |bl b=>cases rx;exact SeqAt.RcAt.bool_tuple b hl hu
 |int b=>obtain⟨t,rfl⟩:=rx;exact SeqAt.RcAt.int_tuple b t hl hu
 |str b=>obtain⟨t,rfl⟩:=rx;exact SeqAt.RcAt.str_tuple b t hl hu
 |_=>exact absurd (show false=true from fx) xF0
theorem rn_ll{A:Around}{s:Shared}{x:V}{v:Value}{l:Addr}{items:Array Value}(rx:RelV x v)(fx:wS x=true)(hl:s.heap.IsList l items)(hu:A.units<cLine):SeqAt.RcNeAt A s (.ref l) v true:=by
 cases x with
 |non=>cases rx;exact SeqAt.RcNeAt.list_none hl hu
 |bl b=>cases rx;exact SeqAt.RcNeAt.list_bool b hl hu
 |int b=>obtain⟨t,rfl⟩:=rx;exact SeqAt.RcNeAt.list_int b t hl hu
 |str b=>obtain⟨t,rfl⟩:=rx;exact SeqAt.RcNeAt.list_str b t hl hu
 |_=>exact absurd (show false=true from fx) xF0
theorem rn_lr{A:Around}{s:Shared}{x:V}{v:Value}{l:Addr}{items:Array Value}(rx:RelV x v)(fx:wS x=true)(hl:s.heap.IsList l items)(hu:A.units<cLine):SeqAt.RcNeAt A s v (.ref l) true:=by
 cases x with
 |non=>cases rx;exact SeqAt.RcNeAt.none_list hl hu
 |bl b=>cases rx;exact SeqAt.RcNeAt.bool_list b hl hu
 |int b=>obtain⟨t,rfl⟩:=rx;exact SeqAt.RcNeAt.int_list b t hl hu
 |str b=>obtain⟨t,rfl⟩:=rx;exact SeqAt.RcNeAt.str_list b t hl hu
 |_=>exact absurd (show false=true from fx) xF0
theorem rn_tl{A:Around}{s:Shared}{x:V}{v:Value}{l:Addr}{items:Array Value}(rx:RelV x v)(fx:wS x=true)(hl:s.heap.IsTuple l items)(hu:A.units<cLine):SeqAt.RcNeAt A s (.ref l) v true:=by
 cases x with
 |non=>cases rx;exact SeqAt.RcNeAt.tuple_none hl hu
 |bl b=>cases rx;exact SeqAt.RcNeAt.tuple_bool b hl hu
 |int b=>obtain⟨t,rfl⟩:=rx;exact SeqAt.RcNeAt.tuple_int b t hl hu
 |str b=>obtain⟨t,rfl⟩:=rx;exact SeqAt.RcNeAt.tuple_str b t hl hu
 |_=>exact absurd (show false=true from fx) xF0
theorem rn_tr{A:Around}{s:Shared}{x:V}{v:Value}{l:Addr}{items:Array Value}(rx:RelV x v)(fx:wS x=true)(hl:s.heap.IsTuple l items)(hu:A.units<cLine):SeqAt.RcNeAt A s v (.ref l) true:=by
 cases x with
 |non=>cases rx;exact SeqAt.RcNeAt.none_tuple hl hu
 |bl b=>cases rx;exact SeqAt.RcNeAt.bool_tuple b hl hu
 |int b=>obtain⟨t,rfl⟩:=rx;exact SeqAt.RcNeAt.int_tuple b t hl hu
 |str b=>obtain⟨t,rfl⟩:=rx;exact SeqAt.RcNeAt.str_tuple b t hl hu
 |_=>exact absurd (show false=true from fx) xF0
theorem yFW{y:V}(h:wS y=true):eqV y y=true:=by
 cases y<;>first |rfl|(simp [eqV];done)|exact absurd (show false=true from h) xF0
inductive NK where
 |key (k:Key)|tup (ks:List NK)
noncomputable instance:DecidableEq NK:=λ_ _=>Classical.propDecidable _
section
variable{prog:Program}{w:World}(knd:KeyKind prog w Key)
mutual
def isN(h:Heap):NK->Value->Prop
 |.key k,v=>knd.is k v=true
 |.tup ks,v=> ∃a o items n,v=.ref a/\h.get? a=some o/\o.cls=.type "tuple"/\o.data=.seq items n/\zFS h ks items.toList
def zFS(h:Heap):List NK->List Value->Prop
 |[],vs=>vs=[]
 |k::ks,vs=> ∃v r,vs=v::r/\isN h k v/\zFS h ks r
end
mutual
def zFT:NK->Int
 |.key k=>knd.hash k
 |.tup ks=>reduceHash (Builtin.Tuple.tupleHashOf (zPA ks))
def zPA:List NK->List Int
 |[]=>[]
 |k::ks=>zFT k::zPA ks
end
mutual
def zPB:NK->Nat
 |.key _=>1
 |.tup ks=>gZ ks+1
def gZ:List NK->Nat
 |[]=>0
 |k::ks=>zPB k+gZ ks
end
mutual
def dM:NK->Nat
 |.key _=>0
 |.tup ks=>zIN ks+1
def zIN:List NK->Nat
 |[]=>0
 |k::ks=>max (dM k) (zIN ks)
end
variable{knd}
theorem kC{h:Heap}{k:Key}{v:Value}:isN knd h (.key k) v↔knd.is k v=true:=by unfold isN;exact Iff.rfl
theorem wG{h:Heap}{ks:List NK}{v:Value}:isN knd h (.tup ks) v↔ ∃a o items n,v=.ref a/\h.get? a=some o/\o.cls=.type "tuple"/\o.data=.seq items n/\zFS knd h ks items.toList:=by
 conv=>lhs;unfold isN
theorem wT{h:Heap}{vs:List Value}:zFS knd h [] vs↔vs=[]:=by unfold zFS;exact Iff.rfl
theorem xB{h:Heap}{k:NK}{ks:List NK}{vs:List Value}:zFS knd h (k::ks) vs↔ ∃v r,vs=v::r/\isN knd h k v/\zFS knd h ks r:=by
 conv=>lhs;unfold zFS
mutual
theorem zTZ{h:Heap}: ∀{x y:NK}{v:Value},isN knd h x v->isN knd h y v->x=y
 |.key k,.key k',v,hx,hy=>by rw [knd.inj v k k' (kC.mp hx) (kC.mp hy)]
 |.key k,.tup ks,v,hx,hy=>by
  obtain⟨a,o,items,n,rfl,_⟩:=wG.mp hy
  have:=knd.byValue _ _ (kC.mp hx)
  simp [carriedByValue]at this
 |.tup ks,.key k,v,hx,hy=>by
  obtain⟨a,o,items,n,rfl,_⟩:=wG.mp hx
  have:=knd.byValue _ _ (kC.mp hy)
  simp [carriedByValue]at this
 |.tup ks,.tup ks',v,hx,hy=>by
  obtain⟨a,o,items,n,e,ho,_,hd,hi⟩:=wG.mp hx
  obtain⟨a',o',items',n',e',ho',_,hd',hi'⟩:=wG.mp hy
  rw [e]at e'
  cases e'
  obtain rfl:o=o':=Option.some.inj (ho.symm.trans ho')
  rw [hd]at hd'
  injection hd' with h1 _
  subst h1
  rw [zWF hi hi']
theorem zWF{h:Heap}: ∀{xs ys:List NK}{vs:List Value},zFS knd h xs vs->zFS knd h ys vs->xs=ys
 |[],[],_,_,_=>rfl
 |[],y::ys,vs,hx,hy=>by
  obtain⟨v,r,e,_⟩:=xB.mp hy
  rw [wT.mp hx]at e;cases e
 |x::xs,[],vs,hx,hy=>by
  obtain⟨v,r,e,_⟩:=xB.mp hx
  rw [wT.mp hy]at e;cases e
 |x::xs,y::ys,vs,hx,hy=>by
  obtain⟨v,r,e,h1,h2⟩:=xB.mp hx
  obtain⟨v',r',e',h1',h2'⟩:=xB.mp hy
  rw [e]at e'
  cases e'
  rw [zTZ h1 h1',zWF h2 h2']
end
mutual
theorem zWG{h h':Heap}(m: ∀a o items n,h.get? a=some o->o.data=.seq items n->h'.get? a=some o): ∀{x:NK}{v:Value},isN knd h x v->isN knd h' x v
 |.key k,v,hx=>kC.mpr (kC.mp hx)
 |.tup ks,v,hx=>by
  obtain⟨a,o,items,n,e,ho,hc,hd,hi⟩:=wG.mp hx
  exact wG.mpr ⟨a,o,items,n,e,m a o items n ho hd,hc,hd,zSP m hi⟩
theorem zSP{h h':Heap}(m: ∀a o items n,h.get? a=some o->o.data=.seq items n->h'.get? a=some o): ∀{xs:List NK}{vs:List Value},zFS knd h xs vs->zFS knd h' xs vs
 |[],vs,hx=>wT.mpr (wT.mp hx)
 |x::xs,vs,hx=>by
  obtain⟨v,r,e,h1,h2⟩:=xB.mp hx
  exact xB.mpr ⟨v,r,e,zWG m h1,zSP m h2⟩
end
theorem zPC: ∀ks:List NK,zPA knd ks=ks.map (zFT knd)
 |[]=>by unfold zPA;rfl
 |k::ks=>by unfold zPA;rw [zPC ks];rfl
theorem zJB:gZ []=0:=by rw [gZ]
theorem zFU(k:NK)(ks:List NK):gZ (k::ks)=zPB k+gZ ks:=by rw [gZ]
theorem zJC(k:NK)(ks:List NK):zIN (k::ks)=max (dM k) (zIN ks):=by rw [zIN]
theorem nH(ks:List NK):dM (.tup ks)=zIN ks+1:=by rw [dM]
theorem zIO: ∀(xs ys:List NK),gZ (xs++ys)=gZ xs+gZ ys
 |[],ys=>by rw [zJB,nil_append,Nat.zero_add]
 |x::xs,ys=>by rw [List.cons_append,zFU,zFU,zIO xs ys];omega
theorem zKR{s:Shared}{ks:List NK}{a:Addr}(h:isN knd s.heap (.tup ks) (.ref a)):s.TypeIs (.ref a) "tuple":=by
 obtain⟨a',o,items,n,e,ho,hc,_⟩:=wG.mp h
 cases e
 exact⟨o,ho,hc⟩
theorem zWH: ∀(n:Nat){A:Around}{E:Value->Shared->Prop}{s:Shared}{k:NK}{v:Value}{Q:Int->Shared->Prop},dM k<=n->A.units+n<cLine->isN knd s.heap k v->Q (zFT knd k) {s with toks:=s.toks+zPB k}->wpAny (model prog w) A (pyHash v) Q E s
 |n,A,E,s,.key k,v,Q,_,_,hk,h=>knd.pyHash (kC.mp hk) (by rw [zFT,zPB]at h;exact h)
 |0,A,E,s,.tup ks,v,Q,hd,_,_,_=>by rw [nH]at hd;omega
 |n+1,A,E,s,.tup ks,v,Q,hdep,hu,hk,h=>by
  obtain⟨a,o,items,m,rfl,ho,hc,hd,hi⟩:=wG.mp hk
  have hT:s.TypeIs (.ref a) "tuple":=⟨o,ho,hc⟩
  rw [nH]at hdep
  have hdl: ∀k∈ks,dM k<=n:=by
   have: ∀ks:List NK,zIN ks<=n-> ∀k∈ks,dM k<=n:=by
    intro ks
    induction ks with
    |nil=>intro _ k hk;simp at hk
    |cons x xs ih=>
     intro hx k hk
     rw [zJC]at hx
     rcases mC.mp hk with rfl|hk
     ·omega
     ·exact ih (by omega) k hk
   exact this ks (by omega)
  rw [zFT,zPB,zPC]at h
  unfold pyHash
  first |unfold pyHashByItsType|skip
  first |refine wB0 (wpAny_cRoomFor_or (.inr (show A.units<cLine by omega)) ?_)|skip
  refine wB0 (wpAny_specialOf hT F.slot_tuple_hash.lookup ?_)
  show wpAny _ _ (if(some (Value.builtin "tuple.__hash__")==some Value.none)=true then _ else _) Q E s
  rw [iN0 (by rw [beq_builtin_none];exact xF0)]
  refine wB0 (wpAny_specialOf hT F.slot_tuple_hash.lookup ?_)
  show wpAny _ _ (callSpecialIfBoundUnlessNone? (.ref a) "__hash__" _ >>= _) Q E s
  refine wB0 (wpAny_callSpecialIfBoundUnlessNone?_slot hT F.slot_tuple_hash (wpAny_call_entry F.slot_tuple_hash hT F.entry_tuple_hash ?_ (F.args_tuple_hash_1 _)))
  show wpAny _ _ (Builtin.Tuple.tupleItemsOf (.ref a) >>= _) _ _ s
  refine wB0 (wpAny_tupleItemsOf ho hd ?_)
  refine wB0 ?_
  rw [<-Array.forIn_toList]
  refine wpAny_forIn_list _
   (λdL (b:Array Int) s'=> ∃done left,ks=done++left/\zFS knd s.heap left dL/\b.toList=done.map (zFT knd)/\s'={s with toks:=s.toks+gZ done})
   _ ?_ ?_ _ _ ⟨[],ks,rfl,hi,rfl,by rw [zJB];rfl⟩
  ·rintro x dL b s' ⟨done,left,rfl,hl,hb,rfl⟩
   cases left with
   |nil=>rw [wT]at hl;cases hl
   |cons k ks'=>
    obtain⟨v,r,e,h1,hl'⟩:=xB.mp hl
    cases e
    refine wB0 (zWH n (hdl k (by simp)) (show A.units+1+n<cLine by omega) h1 ?_)
    have e1:gZ (done++[k])=gZ done+zPB k:=by rw [zIO,zFU,zJB];rfl
    first
     |exact wP0 ⟨done++[k],ks',by simp,hl',by simp [hb],by simp [add_assoc,e1]⟩
     |exact wB0 (wP0 (wP0 ⟨done++[k],ks',by simp,hl',by simp [hb],by simp [add_assoc,e1]⟩))
  ·rintro b s' ⟨done,left,rfl,hl,hb,rfl⟩
   cases left with
   |cons k ks'=>obtain⟨v,r,e,_⟩:=xB.mp hl;cases e
   |nil=>
    rw [aN]at h
    show wpAny _ _ (retInt (Builtin.Tuple.tupleHashOf b.toList)) _ _ _
    rw [hb]
    refine wpAny_ret_mkInt ?_
    show wpAny _ _ (if(decide (-(2:Int) ^ 63<=Builtin.Tuple.tupleHashOf (done.map (zFT knd)))&&decide (Builtin.Tuple.tupleHashOf (done.map (zFT knd))<2 ^ 63))=true then _ else _) Q E _
    unfold reduceHash at h
    by_cases hr:(decide (-(2:Int) ^ 63<=Builtin.Tuple.tupleHashOf (done.map (zFT knd)))&&decide (Builtin.Tuple.tupleHashOf (done.map (zFT knd))<2 ^ 63))=true
    ·rw [iP hr]
     rw [iP hr]at h
     exact wP0 (by simpa [add_assoc]using h)
    ·rw [iN0 hr]
     rw [iN0 hr]at h
     exact wB0 (wpAny_rule (wP0 (by simpa [add_assoc]using h)))
end
section
variable{prog:Program}{w:World}
abbrev mk(prog:Program)(w:World):KeyKind prog w Key:=zOC prog w
theorem yJQ(a b:Key):decide (NK.key a=NK.key b)=decide (a=b):=by
 by_cases h:a=b
 ·subst h;simp
 ·rw [dF0 h,dF0 λz=>h (NK.key.inj z)]
theorem yOA(a:Key)(b:List NK):decide (NK.key a=NK.tup b)=false:=dF0 λz=>nomatch z
theorem yOB(a:Key)(b:List NK):decide (NK.tup b=NK.key a)=false:=dF0 λz=>nomatch z
theorem yOC(a b:List NK):decide (NK.tup a=NK.tup b)=decide (a=b):=by
 by_cases h:a=b
 ·subst h;simp
 ·rw [dF0 h,dF0 λz=>h (NK.tup.inj z)]
theorem zWI{k:Key}{v:Value}(h:(mk prog w).is k v=true): ∃x:V,RelV x v/\wS x=true:=by
 rcases xS (show zOQ k v=true from h)with⟨i,t,rfl,rfl⟩|⟨x,t,rfl,rfl⟩
 ·exact⟨.int i,⟨t,rfl⟩,rfl⟩
 ·exact⟨.str x,⟨t,rfl⟩,rfl⟩
theorem yDI{A:Around}{E:Value->Shared->Prop}{s:Shared}{x y:List NK}{a b:Addr}{P:Fin->Shared->Prop}
  (he: ∀k1∈x, ∀k2 u v (Q:Bool->Shared->Prop),isN (mk prog w) s.heap k1 u->isN (mk prog w) s.heap k2 v->Q (decide (k1=k2)) s->wpAny (model prog w) A (eqBool u v) Q E s)
  (hx:isN (mk prog w) s.heap (.tup x) (.ref a)) (hy:isN (mk prog w) s.heap (.tup y) (.ref b)) (h:P (.done (.ret (.bool (decide (x=y))))) s):
  wpAny (model prog w) A (Builtin.«tuple.__eq__» ⟨[.ref a,.ref b],[]⟩) P E s:=by
 have hTb:=zKR hy
 obtain⟨_,oa,xs,na,e,hoa,_,hda,hia⟩:=wG.mp hx
 cases e
 obtain⟨_,ob,ys,nb,e,hob,_,hdb,hib⟩:=wG.mp hy
 cases e
 show wpAny _ _ (isInstance (.ref b) (.type "tuple") >>= _) _ _ s
 refine wB0 (wpAny_isInstance hTb isSubtype_tuple_tuple ?_)
 simp only [Bool.not_true,fT,iF]
 refine wB0 (wpAny_tupleItemsOf hoa hda ?_)
 refine wB0 (wpAny_tupleItemsOf hob hdb ?_)
 refine wB0 ?_
 refine wpAny_forIn_list _
  (λdL r s'=>r.1=none/\s'=s/\ ∃x' y' xs' ys',dL=List.zip xs' ys'/\(∀k∈x',k∈x)/\zFS (mk prog w) s.heap x' xs'/\zFS (mk prog w) s.heap y' ys'/\decide (x'=y')=decide (x=y)/\(xs'.length==ys'.length)=(xs.size==ys.size))
  _ ?_ ?_ _ _ ⟨rfl,rfl,x,y,xs.toList,ys.toList,rfl,λk hk=>hk,hia,hib,rfl,by simp⟩
 ·rintro⟨u,v⟩ dL r s' ⟨hr,rfl,x',y',xs',ys',hz,hm,hx',hy',hdec,hlen⟩
  cases x' with
  |nil=>rw [wT.mp hx']at hz;simp at hz
  |cons k1 x''=>
   cases y' with
   |nil=>rw [wT.mp hy']at hz;simp at hz
   |cons k2 y''=>
    obtain⟨u',xs'',rfl,h1,hx''⟩:=xB.mp hx'
    obtain⟨v',ys'',rfl,h2,hy''⟩:=xB.mp hy'
    simp only [zip_cons_cons,List.cons.injEq,Prod.mk.injEq]at hz
    obtain⟨⟨rfl,rfl⟩,rfl⟩:=hz
    refine wB0 (he k1 (hm k1 mF0) k2 _ _ _ h1 h2 ?_)
    by_cases hk:k1=k2
    ·subst hk
     rw [dT0 rfl]
     simp only [Bool.not_true,fT,iF]
     refine wP0 ⟨rfl,rfl,x'',y'',xs'',ys'',rfl,λk hk=>hm k (mO _ hk),hx'',hy'',?_,by simpa using hlen⟩
     rw [<-hdec]
     by_cases hxy:x''=y''
     ·simp [hxy]
     ·simp [hxy]
    ·rw [dF0 hk]
     simp only [Bool.not_false,if_true]
     have hf:decide (x=y)=false:=by rw [<-hdec];simp [hk]
     rw [hf]at h
     exact wB0 (wP0 (wP0 (wP0 h)))
 ·rintro⟨r1,r2⟩ s' ⟨hr,rfl,x',y',xs',ys',hz,hm,hx',hy',hdec,hlen⟩
  simp only at hr
  subst hr
  refine wP0 ?_
  have hfin:(xs.size==ys.size)=decide (x=y):=by
   rw [<-hdec, <-hlen]
   cases x' with
   |nil=>
    rw [wT.mp hx']
    cases y' with
    |nil=>rw [wT.mp hy'];simp
    |cons k2 y''=>obtain⟨v',ys'',rfl,h2,hy''⟩:=xB.mp hy';simp
   |cons k1 x''=>
    obtain⟨u',xs'',rfl,h1,hx''⟩:=xB.mp hx'
    cases y' with
    |nil=>rw [wT.mp hy'];simp
    |cons k2 y''=>obtain⟨v',ys'',rfl,h2,hy''⟩:=xB.mp hy';simp at hz
  show P (.done (.ret (.bool (xs.size==ys.size)))) s'
  rw [hfin];exact h
theorem zPD{n:Nat}: ∀{ks:List NK},zIN ks<=n-> ∀k∈ks,dM k<=n
 |[],_,k,hk=>by simp at hk
 |x::xs,hx,k,hk=>by
  rw [zJC]at hx
  rcases mC.mp hk with rfl|hk
  ·omega
  ·exact zPD (by omega) k hk
theorem zWJ: ∀(n:Nat){A:Around}{E:Value->Shared->Prop}{s:Shared}{x y:NK}{u v:Value}{Q:Bool->Shared->Prop},dM x<=n->A.units+n<cLine->isN (mk prog w) s.heap x u->isN (mk prog w) s.heap y v->Q (decide (x=y)) s->wpAny (model prog w) A (eqBool u v) Q E s
 |n,A,E,s,.key a,.key b,u,v,Q,_,_,hx,hy,h=>(mk prog w).eqBool (kC.mp hx) (kC.mp hy) (by rw [yJQ]at h;exact h)
 |n,A,E,s,.key a,.tup b,u,v,Q,_,hu,hx,hy,h=>by
  obtain⟨z,rz,fz⟩:=zWI (kC.mp hx)
  obtain⟨l,o,items,m,rfl,ho,hc,hd,_⟩:=wG.mp hy
  rw [yOA]at h
  exact yMH rz fz (items:=items) ⟨o,ho,hc,m,hd⟩ (by omega) prog w E Q h
 |n,A,E,s,.tup a,.key b,u,v,Q,_,hu,hx,hy,h=>by
  obtain⟨z,rz,fz⟩:=zWI (kC.mp hy)
  obtain⟨l,o,items,m,rfl,ho,hc,hd,_⟩:=wG.mp hx
  rw [yOB]at h
  exact yMG rz fz (items:=items) ⟨o,ho,hc,m,hd⟩ (by omega) prog w E Q h
 |0,A,E,s,.tup a,.tup b,u,v,Q,hd,_,hx,hy,h=>by rw [nH]at hd;omega
 |n+1,A,E,s,.tup x,.tup y,u,v,Q,hd,hu,hx,hy,h=>by
  obtain⟨a,_,_,_,ea,_⟩:=wG.mp hx
  obtain⟨b,_,_,_,eb,_⟩:=wG.mp hy
  subst ea eb
  rw [nH]at hd
  rw [yOC]at h
  unfold eqBool
  try with_reducible refine wpAny_holding ?_
  show wpAny _ _ (if(Value.ref a==Value.ref b)=true then _ else _) Q E s
  by_cases hab:(Value.ref a==Value.ref b)=true
  ·rw [iP hab]
   have e:a=b:=by have:=eq_of_beq hab;injection this
   subst e
   have:x=y:=NK.tup.inj (zTZ hx hy)
   subst this
   exact wB0 (wpAny_rule (wP0 (by simpa using h)))
  ·rw [iN0 hab]
   refine wB0 (wpAny_richCompare_same_room (op:=.Eq) (zKR hx) (zKR hy) F.slot_tuple_eq
    (wpAny_call_entry F.slot_tuple_eq (zKR hx) F.entry_tuple_eq (yDI (λk1 hk1 k2 u v Q h1 h2 h3=>zWJ n (zPD (by omega) k1 hk1) (show A.units+1+n<cLine by omega) h1 h2 h3) hx hy ⟨_,rfl,(λe=>nomatch e),wpAny_truthy_bool h⟩) (F.args_tuple_eq_2 _ _)) (by omega))
theorem yBI: ∀(n m:Nat){A:Around}{E:Value->Shared->Prop}{s:Shared}{x:NK}{u:Value}{Q:Bool->Shared->Prop},dM x<=n->n<m->isN (mk prog w) s.heap x u->Q true s->wpAny (model prog w) A (eqIsQuiet m u) Q E s
 |n,m,A,E,s,.key k,u,Q,_,_,hx,h=>by
  rw [eqIsQuiet_byValue m ((mk prog w).byValue _ _ (kC.mp hx))]
  exact wP0 h
 |0,m,A,E,s,.tup ks,u,Q,hd,_,hx,h=>by rw [nH]at hd;omega
 |n+1,0,A,E,s,.tup ks,u,Q,hd,hm,hx,h=>by omega
 |n+1,m+1,A,E,s,.tup ks,u,Q,hdp,hm,hx,h=>by
  obtain⟨a,o,items,j,rfl,ho,hc,hd,hi⟩:=wG.mp hx
  have hT:s.TypeIs (.ref a) "tuple":=⟨o,ho,hc⟩
  rw [nH]at hdp
  unfold eqIsQuiet
  refine wB0 (wpAny_specialOf hT F.slot_tuple_eq.lookup ?_)
  show wpAny _ _ (isInstance (.ref a) (.type "tuple") >>= _) _ _ s
  refine wB0 (wpAny_isInstance hT isSubtype_tuple_tuple ?_)
  simp only [Bool.not_true,fT,iF]
  refine wB0 (wpAny_seqItems ho hd ?_)
  refine wB0 ?_
  show wpAny _ _ (forIn items _ _) _ _ s
  rw [<-Array.forIn_toList]
  refine wpAny_forIn_list _ (λdL r s'=>r.1=none/\s'=s/\ ∃left,(∀k∈left,k∈ks)/\zFS (mk prog w) s.heap left dL) _ ?_ ?_ _ _ ⟨rfl,rfl,ks,λk hk=>hk,hi⟩
  ·rintro v dL r s' ⟨hr,rfl,left,hm',hl⟩
   cases left with
   |nil=>rw [wT]at hl;cases hl
   |cons k left=>
    obtain⟨v',r',e,h1,h2⟩:=xB.mp hl
    cases e
    refine wB0 (yBI n m (zPD (by omega) k (hm' k mF0)) (by omega) h1 ?_)
    simp only [Bool.not_true,fT,iF]
    exact wP0 ⟨rfl,rfl,left,λk hk=>hm' k (mO _ hk),h2⟩
  ·rintro⟨r1,r2⟩ s' ⟨hr,rfl,_⟩
   simp only at hr
   subst hr
   exact wP0 h
end
noncomputable def zCZ(prog:Program)(w:World):HeapKind prog w NK where
 is:=λh k a=>isN (mk prog w) h k (.ref a)/\dM k<=4
 hash:=zFT (mk prog w)
 draws:=zPB
 room:=λA=>A.units+4<cLine
 inj:=λhx hy=>zTZ hx.1 hy.1
 keeps:=λx ho hd hs=>⟨zWG (λa o' items n e q=>(hs.2 a λz=>by
  subst z
  rw [ho]at e;cases e
  rw [hd]at q;cases q).trans e) x.1,x.2⟩
 pyHash:=λhu hk h=>zWH 4 hk.2 hu hk.1 h
 eqBool:=λhu hx hy h=>zWJ 4 hx.2 hu hx.1 hy.1 h
 quiet:=λhk h=>yBI 4 8 hk.2 (by decide) hk.1 h
def DN(P:Program)(w:World)(a:Addr)(xs:List (NK×Addr×Value)):HO:=
 .ext λh=>xs.length<=sizeLine/\(a==sysModules)=false/\ ∃o es ep,h.get? a=some o/\o.ExactDict/\o.data=.dict es ep/\es.toList=xs.map (entryOfKey (zCZ P w))/\(xs.map (·.1)).Nodup
end M
end L2
namespace L2
open PySem PySem.Spec PyProof.Rows
def Fly(h:Heap)(e T:Addr)(cls:Value)(d:Option Addr)(fl:Value):Prop:=
 ∃oe vs oT ts,h.get? e=some oe/\oe.cls=cls/\oe.dict=d/\oe.data=.fields vs/\vs[1]? =some (.ref T)/\T≠e/\h.get? T=some oT/\oT.data=.fields ts/\ts[3]? =some fl
def Born(h:Heap)(e:Addr)(cls:Value)(d:Option Addr):Prop:= ∃oe vs,h.get? e=some oe/\oe.cls=cls/\oe.dict=d/\oe.data=.fields vs/\vs[1]? =some .none
structure Mvd(fs:List Addr)(e T:Addr)(h h':Heap):Prop where
 keep: ∀b o,b≠e->b≠T->b∉fs->h.get? b=some o->h'.get? b=some o
 slot: ∀b o,b≠e->b≠T->h.get? b=some o-> ∃sl,h'.get? b=some {o with slots:=sl}
 there: ∀b o,h.get? b=some o-> ∃o',h'.get? b=some o'
theorem Mvd.new{fs:List Addr}{e T T':Addr}{h h1 h2:Heap}(a:Mvd fs e T h h1)(n:h.get? T'=none)(b:Mvd fs e T' h1 h2):Mvd fs e T h h2:=by
 have ne: ∀c o,h.get? c=some o->c≠T':=λc o q z=>by rw [z,n]at q;cases q
 exact⟨λc o h1 h2 h3 q=>b.keep c o h1 (ne c o q) h3 (a.keep c o h1 h2 h3 q),λc o h1 h2 q=>by
  obtain⟨sl,e1⟩:=a.slot c o h1 h2 q
  obtain⟨sl',e2⟩:=b.slot c _ h1 (ne c o q) e1
  exact⟨sl',e2⟩,λc o q=>let ⟨o',e1⟩:=a.there c o q;b.there c o' e1⟩
theorem zPE(f:Array Value->Array Value)(o:Obj):(Obj.mapFields f o).dict=o.dict:=by
 obtain⟨c,d,dt,sl⟩:=o;cases dt<;>rfl
section
variable{M:Model}{A:Around}{E:Value->Shared->Prop}{s:Shared}{base:Heap}{env:Env}{outer:List Env}{L e T:Addr}{cls:Value}{d:Option Addr}{Q:Unit->Shared->Prop}
theorem yFX{oe:Obj}{vs:Array Value}{head:Value}{hadNext:Bool}(hfr:A.frames=some (env::outer))(hl:s.heap.FunFrames base (env::outer))(hf:env.frame=some L)
  (he:s.heap.get? e=some oe) (hd:oe.data=.fields vs) (hsz:1<vs.size)
  (h: ∀h' T',s.heap.get? T'=none->Mvd (frs (env::outer)) e e s.heap h'->Fly h' e T' oe.cls oe.dict (rawInt L)->Q () {s with heap:=h'}):
  wpAny M A (do let a <-frameOf env;let pl <-entryPlaceOf L hadNext;let b <-EntryCells.newEntry head a .none (rawInt L) .none pl;setField (.ref e) 1 b) Q E s:=by
 have hene:e∉(env::outer).filterMap (·.frame):=λhm=>by
  obtain⟨_,o,ho,hnf⟩:=hl.mem hm
  rw [he]at ho;injection ho with ho;subst ho;exact hnf vs hd
 refine wB0 (wpAny_frameOf_fun hfr hl hf λh₁ hs₁=>?_)
 refine wB0 (wpAny_entryPlaceOf λpl hpl=>?_)
 unfold EntryCells.newEntry newFields
 refine wB0 (wpAny_newObj_type ?_ (hpl.sizeOk5 _ _ _ _ _))
 have he₁:h₁.get? e=some oe:=(hs₁.2.1 e hene).trans he
 have he₂:=hP0 (h:=h₁) {cls:=.type "traceback",dict:=none,data:=.fields ([head,.ref L,.none,rawInt L,.none]++(if pl.isEmpty then List.replicate 6 Value.none else pl)).toArray} he₁
 refine wpAny_setField he₂ hd hsz ?_
 have hTe:h₁.objs.size≠e:=ne_of_gt (Heap.lt_size he₁)
 have hd₃:=Obj.data_mapFields hd (·.setIfInBounds 1 (Value.ref h₁.objs.size))
 have he₃:=Heap.get?_update_self (Obj.mapFields (·.setIfInBounds 1 (Value.ref h₁.objs.size))) he₂ (Obj.isFreed_of_fields hd₃)
 have hT₃:=(Heap.get?_update_other (h₁.push {cls:=.type "traceback",dict:=none,data:=.fields ([head,.ref L,.none,rawInt L,.none]++(if pl.isEmpty then List.replicate 6 Value.none else pl)).toArray})
  (Obj.mapFields (·.setIfInBounds 1 (Value.ref h₁.objs.size))) (Ne.symm hTe)).trans (Heap.get?_push_size h₁ rfl)
 have keep: ∀b o,b≠e->h₁.get? b=some o->
   ((h₁.push {cls:=.type "traceback",dict:=none,data:=.fields ([head,.ref L,.none,rawInt L,.none]++(if pl.isEmpty then List.replicate 6 Value.none else pl)).toArray}).update e (Obj.mapFields (·.setIfInBounds 1 (Value.ref h₁.objs.size)))).get? b=some o:=
  λb o hbe hb=>by
   rw [Heap.get?_update_other _ _ (Ne.symm hbe)]
   exact hP0 _ hb
 refine h _ h₁.objs.size ?_ ⟨λb o hbe _ hbf hb=>keep b o hbe ((hs₁.2.1 b hbf).trans hb),λb o hbe _ hb=>?_,λb o hb=>?_⟩ ?_
 ·cases q:s.heap.get? h₁.objs.size with
  |none=>rfl
  |some o=>
   obtain⟨sl,hs⟩:=hs₁.2.2 _ o q
   exact absurd (Heap.lt_size hs) (lt_irrefl _)
 ·obtain⟨sl,hs⟩:=hs₁.2.2 b o hb
  exact⟨sl,keep b _ hbe hs⟩
 ·by_cases hbe:b=e
  ·subst hbe;exact⟨_,he₃⟩
  ·obtain⟨sl,hs⟩:=hs₁.2.2 b o hb
   exact⟨_,keep b _ hbe hs⟩
 ·exact⟨_,_,_,_,he₃,Obj.cls_mapFields _ _,zPE _ _,hd₃,by simp [hsz],hTe,hT₃,rfl,by first |(simp;done)|(rcases hpl with rfl|⟨_,_,_,_,_,_,_,rfl⟩<;>simp)⟩
theorem zZC(hfr:A.frames=some (env::outer))(hl:s.heap.FunFrames base (env::outer))(hf:env.frame=some L)(hb:Born s.heap e cls d)
  (h: ∀h' T',s.heap.get? T'=none->Mvd (frs (env::outer)) e e s.heap h'->Fly h' e T' cls d (rawInt L)->Q () {s with heap:=h'}):wpAny M A (noteFrame (.ref e) env) Q E s:=by
 obtain⟨oe,vs,he,rfl,rfl,hd,h1⟩:=hb
 unfold noteFrame
 simp only [hf]
 refine wB0 (wpAny_field he hd h1 ?_)
 rw [iN0 (by decide)]
 exact yFX hfr hl hf he hd (Array.getElem?_eq_some_iff.mp h1).1 h
theorem setT{oT:Obj}{ts:Array Value}{x:Value}{h0:Heap}(hT:h0.get? T=some oT)(hdT:oT.data=.fields ts):Mvd (frs (env::outer)) e T h0 (h0.update T (Obj.mapFields (·.setIfInBounds 3 x))):=by
 have other: ∀b,b≠T->(h0.update T (Obj.mapFields (·.setIfInBounds 3 x))).get? b=h0.get? b:=λb hb=>Heap.get?_update_other _ _ (Ne.symm hb)
 refine⟨λb o _ hbT _ hb=>(other b hbT).trans hb,λb o _ hbT hb=>⟨o.slots,(other b hbT).trans hb⟩,λb o hb=>?_⟩
 by_cases hbT:b=T
 ·subst hbT
  exact⟨_,Heap.get?_update_self _ hT (Obj.isFreed_of_fields (Obj.data_mapFields hdT _))⟩
 ·exact⟨o,(other b hbT).trans hb⟩
theorem zSQ(hfr:A.frames=some (env::outer))(hl:s.heap.FunFrames base (env::outer))(hf:env.frame=some L)(hb:Fly s.heap e T cls d .none)
  (h: ∀h' T',s.heap.get? T'=none->Mvd (frs (env::outer)) e T s.heap h'->Fly h' e T' cls d (rawInt L)->Q () {s with heap:=h'}):wpAny M A (noteFrame (.ref e) env) Q E s:=by
 obtain⟨oe,vs,oT,ts,he,rfl,rfl,hd,h1,hTe,hT,hdT,h3⟩:=hb
 unfold noteFrame
 simp only [hf]
 refine wB0 (wpAny_field he hd h1 ?_)
 rw [iP (show(Value.ref T !=Value.none)=true from by simp)]
 refine wB0 (wpAny_field hT hdT h3 ?_)
 rw [iN0 (show¬((Value.none==rawInt L)=true)from by simp [rawInt])]
 refine wB0 (wpAny_setField hT hdT (Array.getElem?_eq_some_iff.mp h3).1 ?_)
 have mv:=setT (env:=env) (outer:=outer) (e:=e) (x:=Value.none) hT hdT
 have other: ∀b,b≠T->(s.heap.update T (Obj.mapFields (·.setIfInBounds 3 Value.none))).get? b=s.heap.get? b:=λb hb=>Heap.get?_update_other _ _ (Ne.symm hb)
 have noRecord: ∀b o,s.heap.get? b=some o->(∀vs,o.data≠.fields vs)->b≠T:=λb o hb hnf q=>by
  rw [q,hT]at hb;injection hb with hb;subst hb;exact hnf ts hdT
 refine yFX (s:={s with heap:=s.heap.update T (Obj.mapFields (·.setIfInBounds 3 Value.none))}) hfr (hl.of_keeps λb o hb hnf=>⟨o,(other b (noRecord b o hb hnf)).trans hb,rfl⟩) hf ((other e (Ne.symm hTe)).trans he) hd (Array.getElem?_eq_some_iff.mp h1).1
  λh' T' n m f=>h h' T' ?_ ⟨λb o hbe hbT hbf hb=>m.keep b o hbe hbe hbf (mv.keep b o hbe hbT hbf hb),λb o hbe hbT hb=>?_,λb o hb=>?_⟩ f
 ·cases q:s.heap.get? T' with
  |none=>rfl
  |some o=>
   obtain⟨o',hs⟩:=mv.there _ o q
   have n':(s.heap.update T (Obj.mapFields (·.setIfInBounds 3 Value.none))).get? T'=none:=n
   rw [n']at hs;cases hs
 ·obtain⟨sl,e1⟩:=mv.slot b o hbe hbT hb
  obtain⟨sl',e2⟩:=m.slot b _ hbe hbe e1
  exact⟨sl',e2⟩
 ·obtain⟨o',e1⟩:=mv.there b o hb
  exact m.there b o' e1
theorem zBD{fl:Value}(hb:Fly s.heap e T cls d fl)(h: ∀h',Mvd (frs (env::outer)) e T s.heap h'->Fly h' e T cls d .none->Q () {s with heap:=h'}):wpAny M A (setFlight (.ref e) none) Q E s:=by
 obtain⟨oe,vs,oT,ts,he,rfl,rfl,hd,h1,hTe,hT,hdT,h3⟩:=hb
 have hsz3:3<ts.size:=(Array.getElem?_eq_some_iff.mp h3).1
 unfold setFlight
 refine wB0 (wpAny_field he hd h1 ?_)
 rw [iP (show(Value.ref T !=Value.none)=true from by simp)]
 refine wpAny_setField hT hdT hsz3 (h _ (setT hT hdT) ?_)
 exact⟨oe,vs,_,_,(Heap.get?_update_other _ _ hTe).trans he,rfl,rfl,hd,h1,hTe,Heap.get?_update_self _ hT (Obj.isFreed_of_fields (Obj.data_mapFields hdT _)),Obj.data_mapFields hdT _,by simp [hsz3]⟩
theorem zWK(hfr:A.frames=some (env::outer))(hl:s.heap.FunFrames base (env::outer))(hf:env.frame=some L)(hb:Born s.heap e cls d)
  (h: ∀h' T',s.heap.get? T'=none->Mvd (frs (env::outer)) e e s.heap h'->Fly h' e T' cls d .none->Q () {s with heap:=h'}):wpAny M A (leaving env (.ref e)) Q E s:=by
 unfold leaving
 refine wB0 (zZC hfr hl hf hb λh1 T' n m f=>zBD (env:=env) (outer:=outer) f λh2 m2 f2=>h h2 T' n (m.new n m2) f2)
theorem zZD(hfr:A.frames=some (env::outer))(hl:s.heap.FunFrames base (env::outer))(hf:env.frame=some L)(hb:Fly s.heap e T cls d .none)
  (h: ∀h' T',s.heap.get? T'=none->Mvd (frs (env::outer)) e T s.heap h'->Fly h' e T' cls d .none->Q () {s with heap:=h'}):wpAny M A (leaving env (.ref e)) Q E s:=by
 unfold leaving
 refine wB0 (zSQ hfr hl hf hb λh1 T' n m f=>zBD (env:=env) (outer:=outer) f λh2 m2 f2=>h h2 T' n (m.new n m2) f2)
end
theorem ObjOk.here{P:Program}{w:World}{H:Hp}{h:Heap}{a:Addr}{o:HO}(x:ObjOk P w H h a o): ∃ob,h.get? a=some ob:=by
 cases o with
 |lst xs=>obtain⟨_,_,_,_,e⟩:=x;exact⟨_,e⟩
 |tup xs=>obtain⟨_,_,_,ob,e,_⟩:=x;exact⟨_,e⟩
 |dK kvs=>obtain⟨_,_,_,_,o,_,_,e,_⟩:=x;exact⟨_,e⟩
 |dT kvs=>obtain⟨_,_,_,_,o,_,_,e,_⟩:=x;exact⟨_,e⟩
 |set S n=>obtain⟨o,_,_,_,e,_⟩:=x;exact⟨_,e⟩
 |ins C dx fs=>obtain⟨_,_,_,e,_⟩:=x;exact⟨_,e⟩
 |own y=>exact x
 |xd fs=>obtain⟨_,⟨_,_,_,e,_⟩,_⟩:=x;exact⟨_,e⟩
 |rng lo hi=>obtain⟨_,_,_,e⟩:=x;exact⟨_,e⟩
 |frz ob u=>obtain⟨e,_⟩:=x;exact⟨_,e⟩
 |tbl ps=>exact⟨_,(show h.get? a=some _ from x)⟩
 |met f y=>exact⟨_,(show h.get? a=some _ from x)⟩
 |ext φ=>obtain⟨_,e,_⟩:=x;exact e
theorem HOk.none_of{P:Program}{w:World}{H:Hp}{h:Heap}{a:Addr}(x:HOk P w H h)(n:h.get? a=none):H a=none:=by
 cases q:H a with
 |none=>rfl
 |some u=>
  obtain⟨ob,e⟩:=(x a u q).here
  rw [n]at e;cases e
section
variable{X:Cx}{pins:List (Addr×Obj)}{σ:St}{H:Hp}{s:Shared}
theorem Inv.older(J:Inv X pins σ H s)(hex:X.ex=[]){b:Addr}(n:s.heap.get? b=none):X.s₀.heap.get? b=none:=by
 cases q:X.s₀.heap.get? b with
 |none=>rfl
 |some o=>
  obtain⟨o',e⟩:=J.base.there b o q (by rw [hex];simp)
  rw [n]at e;cases e
theorem Inv.moved{e T:Addr}{h':Heap}(J:Inv X pins σ H s)(hex:X.ex=[])(m:Mvd (frs X.stack) e T s.heap h')(ne:X.s₀.heap.get? e=none)(nT:X.s₀.heap.get? T=none)(he:H e=none)(hT:H T=none):
  Un X.fs [] X.H₀ H X.s₀.heap h'/\HOk X.prog X.w H h':=by
 have nex: ∀b:Addr,b∉X.ex:=λb=>by rw [hex];simp
 have ne1: ∀b o,X.s₀.heap.get? b=some o->b≠e:=λb o q z=>by rw [z,ne]at q;cases q
 have ne2: ∀b o,X.s₀.heap.get? b=some o->b≠T:=λb o q z=>by rw [z,nT]at q;cases q
 refine⟨⟨λb o q n hb _=>?_,λb o q n hb _=>?_,λb o q n _=>J.base.free b o q n (nex b),λb o q _=>?_,J.base.tups,J.base.frzs,J.base.tbls⟩,λb u q=>(J.hok b u q).stay (λc v hc r=>?_) (λ_ q=>q) λ_ _ q=>q⟩
 ·refine m.keep b o (ne1 b o q) (ne2 b o q) (λz=>?_) (J.base.keep b o q n hb (nex b))
  rcases mC.mp (J.stkSub b z)with z|z
  ·exact absurd z (ne_of_lt (lt_of_lt_of_le (Heap.lt_size q) J.ok.above))
  ·exact hb z
 ·obtain⟨sl,e1⟩:=J.base.slot b o q n hb (nex b)
  obtain⟨sl',e2⟩:=m.slot b _ (ne1 b o q) (ne2 b o q) e1
  exact⟨sl',e2⟩
 ·obtain⟨o',e1⟩:=J.base.there b o q (nex b)
  exact m.there b o' e1
 ·have hc': ∃z,H c=some z:=by
   rcases hc with rfl|hc
   ·exact⟨_,q⟩
   ·exact⟨_,hc⟩
  obtain⟨z,hz⟩:=hc'
  refine m.keep c v (λy=>by rw [y,he]at hz;cases hz) (λy=>by rw [y,hT]at hz;cases hz) (λy=>?_) r
  rw [J.stkFree c y]at hz;cases hz
end
def CXe(P:Program)(w:World):CXT:=λouter H s E x s'=> ∃e T C d H',x=.ref e/\s'.os=s.os/\AllBare s'.gens/\Un (frs outer) [] H H' s.heap s'.heap/\HOk P w H' s'.heap/\Fly s'.heap e T (.ref C) d .none/\
 s.heap.get? e=none/\s.heap.get? T=none/\H' e=none/\H' T=none/\E (.ref C) d H'
structure XOk(X:Cx)(E:XK):Prop where
 pass:zTQ (CXe X.prog X.w) X E
 born: ∀(pins:List (Addr×Obj))(σ:St)(H:Hp)(s:Shared)(e C:Addr)(d:Option Addr),Inv X pins σ H s->Born s.heap e (.ref C) d->X.s₀.heap.get? e=none->H e=none->E (.ref C) d H->X.xe (.ref e) s
section
variable{P:Program}{w:World}{K:PySem.W.Frag}{mg:Str->Option Value}{base:Heap}{N:List Str}{qual:Str}{scope:Scope}{f:Addr}{cd:Value}{A:Around}{outer:List Env}{s:Shared}{H:Hp}{E:XK}
theorem zZE:XOk (zOV (CXe P w) P w K mg base N qual scope f cd A outer s H E) E:=by
 refine⟨λpins σ H1 s1 x s2 I h=>?_,λpins σ H1 s1 e C d J b ne he q=>?_⟩
 ·obtain⟨e,T,C,d,H',rfl,os,bare,un,hok,fl,ne,nT,he,hT,q⟩:=h
  have J:Inv _ pins σ H' s2:=I.call' (ch:=[]) os un hok bare (λ_ z=>nomatch z)
  have ne':=I.older rfl ne
  have nT':=I.older rfl nT
  refine zZD J.ok.frames J.stack rfl fl λh' T' n m f'=>?_
  obtain⟨u,hk⟩:=J.moved rfl m ne' nT' he hT
  exact⟨e,T',C,d,H',rfl,J.os,J.bare,u,hk,f',ne',J.older rfl n,he,J.hok.none_of n,q⟩
 ·refine zWK J.ok.frames J.stack rfl b λh' T' n m f'=>?_
  obtain⟨u,hk⟩:=J.moved rfl m ne ne he he
  exact⟨e,T',C,d,H1,rfl,J.os,J.bare,u,hk,f',ne,J.older rfl n,he,J.hok.none_of n,q⟩
end
abbrev bmV:List Value:=[.type "ValueError",.type "Exception",.type "BaseException",.type "object"]
def qn:List Str:=["__class__","__getattribute__","__getattr__","__setattr__","place","number"]
def zMG(h:Heap)(C M:Addr):Prop:=
 ∃nm q N bs hd sn sub ab col dd k0 k1 k2 k3 k5 nw mN,h.get? C=some (excClassObj nm q C N bs (.ref M::bmV) hd sn sub ab col dd k0 k1 k2 k3 k5 nw)/\h.Ns N mN/\(∀n∈qn,mN n=none)/\
  ∃nm q N bs hd sn sub ab col dd k0 k1 k2 k3 k5 nw mN,h.get? M=some (excClassObj nm q M N bs bmV hd sn sub ab col dd k0 k1 k2 k3 k5 nw)/\h.Ns N mN/\(∀n∈qn,mN n=none)
section
variable{Mo:Model}{A:Around}{E:Value->Shared->Prop}{h:Heap}{g:Array GenState}{d:Drawn}{t:Nat}{os:OsState}{C M:Addr}
theorem zFV(O:zMG h C M){base:Value}{Q:Bool->Shared->Prop}(hq:Q ((Value.ref C::.ref M::bmV).contains base) ⟨h,g,d,t,os⟩):wpAny Mo A (isSubtype (.ref C) base) Q E ⟨h,g,d,t,os⟩:=by
 obtain⟨nm,q,N,bs,hd,sn,sub,ab,col,dd,k0,k1,k2,k3,k5,nw,mN,hC,_⟩:=O
 exact wpAny_isSubtype_exc hC hq
theorem zUA(O:zMG h C M){n:Str}(hn:n∈qn){y:Option Value}(hB:typeLookup (.type "ValueError") n=pure y){Q:Option Value->Shared->Prop}(hq:Q y ⟨h,g,d,t,os⟩):wpAny Mo A (typeLookup (.ref C) n) Q E ⟨h,g,d,t,os⟩:=by
 obtain⟨nm,q,N,bs,hd,sn,sub,ab,col,dd,k0,k1,k2,k3,k5,nw,mN,hC,hN,hmN,_,_,_,_,_,_,_,_,_,_,_,_,_,_,_,_,mM,hM,hNM,hmM⟩:=O
 have hrest:lookupAlong bmV n=pure y:=by
  rw [typeLookup_eq,F.excBase_ValueError.mroIs]at hB
  exact hB
 rw [typeLookup_eq]
 refine wB0 (wpAny_mroOf_exc hC ?_)
 rw [lookupAlong_cons]
 refine wB0 (wpAny_classOwn_exc hC hN ?_)
 rw [hmN n hn,lookupAlong_cons]
 refine wB0 (wpAny_classOwn_exc hM hNM ?_)
 rw [hmM n hn,hrest]
 exact wP0 hq
theorem yFY(O:zMG h C M): ∃o,h.get? C=some o/\o.cls=.type "type"/\ ∃cd,o.data=.cls cd:=by
 obtain⟨_,_,_,_,_,_,_,_,_,_,_,_,_,_,_,_,_,hC,_⟩:=O
 exact⟨_,hC,rfl,_,rfl⟩
end
theorem qn1:("__class__":Str)∈qn:=.head _
theorem qn2:("__getattribute__":Str)∈qn:=.tail _ (.head _)
theorem qn3:("__getattr__":Str)∈qn:=.tail _ t1M
theorem yFZ:typeLookup (.type "ValueError") "__class__"=pure (some (.builtin "object.__class__")):=by rw [typeLookup_type,builtinLookup_eq_fast];kernel_rfl
theorem lk_ga:typeLookup (.type "ValueError") "__getattribute__"=pure (some (.builtin "BaseException.__getattribute__")):=by rw [typeLookup_type,builtinLookup_eq_fast];kernel_rfl
theorem yGA:typeLookup (.type "ValueError") "__getattr__"=pure none:=by rw [typeLookup_type,builtinLookup_eq_fast];kernel_rfl
section
variable{prog:Program}{w:World}{A:Around}{E:Value->Shared->Prop}{h:Heap}{g:Array GenState}{d:Drawn}{t:Nat}{os:OsState}{C M a:Addr}{o:Obj}
theorem zZF{R:Result->Shared->Prop}(O:zMG h C M)(hx:h.get? a=some o)(hc:o.cls=.ref C)(hq:R (.ok (.ret (.ref C))) ⟨h,g,d,t,os⟩):
  codeAny (model prog w) A (.call (.builtin "getset_descriptor.__get__") ⟨[.builtin "object.__class__",.ref a,.ref C],[]⟩) R ⟨h,g,d,t,os⟩:=by
 have hT5:(⟨h,g,d,t,os⟩:Shared).TypeIs (.builtin "object.__class__") "getset_descriptor":=F.typeOf_object_class
 have ho:(Value.ref C::.ref M::bmV).contains (.type (".".intercalate ("object.__class__".cutAt '.').dropLast))=true:=by
  rw [F.owner_object_class];simp [contains_cons]
 refine codeAny_call_builtin F.slot_gs_get.plain F.entry_gs_get (F.slot_gs_get.check _ _ _ _ _ _ _ _ hT5 (F.args_gs_get _ _ _) ?_)
 repeat (any_goals (first |assumption|(with_reducible refine wpAny_loadPart_at hx ?_;rw [hc])|(with_reducible refine zFV O ?_;rw [ho])|wp_step))
 refine⟨Code.quiet_builtin _ (by decide+kernel),codeAny_builtin F.entry_object_class ?_⟩
 repeat (any_goals (first |assumption|(with_reducible refine wpAny_loadPart_at hx ?_;rw [hc])|wp_step))
theorem yDJ{Mo:Model}{nameV:Value}{Q:Unit->Shared->Prop}(O:zMG h C M)(hx:h.get? a=some o)(hc:o.cls=.ref C)(hq:Q () ⟨h,g,d,t,os⟩):wpAny Mo A (checkBuiltinCall "BaseException.__getattribute__" ⟨[.ref a,nameV],[]⟩) Q E ⟨h,g,d,t,os⟩:=by
 have hk:builtinKind "BaseException.__getattribute__"=some .slot:=by decide+kernel
 have hs:splitId "BaseException.__getattribute__"=some ("BaseException","__getattribute__"):=by decide+kernel
 have hb:(Value.ref C::.ref M::bmV).contains (.type "BaseException")=true:=by simp [contains_cons]
 have ha:=F.args_bexc_ga (.ref a) nameV
 simp only [checkBuiltinCall,hk,hs]
 refine wB0 ?_
 unfold isInstance
 repeat (first |(with_reducible refine wpAny_loadPart_at hx ?_;rw [hc])|(with_reducible refine zFV O ?_;rw [hb])|wp_step)
 exact hq
theorem zUB{tk:Tok}{Q:Fin->Shared->Prop}(O:zMG h C M)(hx:h.get? a=some o)(hc:o.cls=.ref C)(hq:Q (.done (.ret (.ref C))) ⟨h,g,d,t,os⟩):
  wpAny (model prog w) A (Builtin.«object.__getattribute__» ⟨[.ref a,.str "__class__" tk],[]⟩) Q E ⟨h,g,d,t,os⟩:=by
 have hT5:(⟨h,g,d,t,os⟩:Shared).TypeIs (.builtin "object.__class__") "getset_descriptor":=F.typeOf_object_class
 have f5:=F.typeOf_object_class
 have f6:=F.slot_gs_get.lookup
 have f7:=F.slot_gs_set.lookup
 repeat (any_goals (first |assumption|(with_reducible refine wpAny_loadPart_at hx ?_;rw [hc])|with_reducible refine zUA O qn1 yFZ ?_|wp_step))
 refine zZF O hx hc ?_
 repeat (any_goals (first |assumption|wp_step))
theorem zWL{tk:Tok}{R:Result->Shared->Prop}(O:zMG h C M)(hx:h.get? a=some o)(hc:o.cls=.ref C)(hq:R (.ok (.ret (.ref C))) ⟨h,g,d,t,os⟩):
  codeAny (model prog w) A (.call (.builtin "BaseException.__getattribute__") ⟨[.ref a,.str "__class__" tk],[]⟩) R ⟨h,g,d,t,os⟩:=
 codeAny_call_builtin F.attrBase_ValueError.ga.plain F.entry_bexc_ga (yDJ O hx hc (zUB O hx hc hq))
theorem yDK{tk:Tok}{fill expr:Bool}{Q:Value->Shared->Prop}(O:zMG h C M)(hx:h.get? a=some o)(hc:o.cls=.ref C)(hq:Q (.ref C) ⟨h,g,d,t,os⟩):
  wpAny (model prog w) A (getAttrBy (.ref a) (.str "__class__" tk) fill expr) Q E ⟨h,g,d,t,os⟩:=by
 have f3:=F.attrBase_ValueError.ga.bind (.ref a)
 have hx0:(expr&&onTheHeap (Value.builtin "BaseException.__getattribute__"))=false:=by cases expr<;>rfl
 have hx2:(Value.builtin "BaseException.__getattribute__"==Value.builtin "object.__getattribute__")=false:=by decide+kernel
 have hx1:(onTheHeap (Value.ref C)&&Value.builtin "BaseException.__getattribute__"==Value.builtin "object.__getattribute__")=false:=by rw [hx2];rfl
 repeat (any_goals (first |assumption|(with_reducible refine wpAny_loadPart_at hx ?_;rw [hc])|with_reducible refine zUA O qn2 lk_ga ?_|with_reducible refine zUA O qn3 yGA ?_|wp_step))
 refine zWL O hx hc ?_
 repeat (any_goals (first |assumption|wp_step))
theorem zWM{Q:Option Value->Shared->Prop}(O:zMG h C M)(hx:h.get? a=some o)(hc:o.cls=.ref C)(hq:Q (some (.ref C)) ⟨h,g,d,t+1,os⟩):wpAny (model prog w) A (getAttr? (.ref a) "__class__") Q E ⟨h,g,d,t,os⟩:=by
 unfold getAttr? getAttrBy?
 repeat (any_goals (first |assumption|with_reducible apply yDK O hx hc|wp_step))
theorem yJR{D:Addr}{dD:Option Addr}{cD:ClassData}{sD:Array (Option Value)}{oC:Obj}{Q:Fin->Shared->Prop}(O:zMG h C M)(hx:h.get? a=some o)(hc:o.cls=.ref C)(hD:h.get? D=some {cls:=.type "type",dict:=dD,data:=.cls cD,slots:=sD})(hC:h.get? C=some oC)(hCc:oC.cls=.type "type")(hCd: ∃cd,oC.data=.cls cd)(hn:(Value.ref C::.ref M::bmV).contains (.ref D)=false)(hq:Q (.done (.ret (.bool false))) ⟨h,g,d,t+1,os⟩):
  wpAny (model prog w) A (Builtin.«isinstance.nested» ⟨[.ref a,.ref D,rawInt 0],[]⟩) Q E ⟨h,g,d,t,os⟩:=by
 have hne:(Value.ref C==Value.ref D)=false:=by
  rw [contains_cons,Bool.or_eq_false_iff]at hn
  have:=hn.1
  rw [beq_eq_false_iff_ne]at this ⊢
  exact this.symm
 obtain⟨cd,hCd⟩:=hCd
 obtain⟨c1,c2,c3,c4⟩:=oC
 dsimp only at hCc hCd
 subst hCc hCd
 repeat (any_goals (first |assumption|(with_reducible refine wpAny_loadPart_at hx ?_;rw [hc])|with_reducible refine wpAny_loadPart_at hD ?_|with_reducible refine wpAny_loadPart_at hC ?_|(with_reducible refine zFV O ?_;rw [hn])|with_reducible apply zWM O hx hc|wp_step))
theorem yDL{Q:Fin->Shared->Prop}(hx:h.get? a=some o)(hc:o.cls=.ref C)(hq:Q (.done (.ret (.bool true))) ⟨h,g,d,t,os⟩):
  wpAny (model prog w) A (Builtin.«isinstance.nested» ⟨[.ref a,.ref C,rawInt 0],[]⟩) Q E ⟨h,g,d,t,os⟩:=by
 repeat (any_goals (first |assumption|(with_reducible refine wpAny_loadPart_at hx ?_;rw [hc])|wp_step))
theorem yJS{T:String}{Q:Fin->Shared->Prop}(O:zMG h C M)(hx:h.get? a=some o)(hc:o.cls=.ref C)(hty:typeOf (.type T)=pure (.type "type"))(hn:(Value.ref C::.ref M::bmV).contains (.type T)=true)(hq:Q (.done (.ret (.bool true))) ⟨h,g,d,t,os⟩):
  wpAny (model prog w) A (Builtin.«isinstance.nested» ⟨[.ref a,.type T,rawInt 0],[]⟩) Q E ⟨h,g,d,t,os⟩:=by
 have hne:(Value.ref C==Value.type T)=false:=rfl
 repeat (any_goals (first |assumption|(with_reducible refine wpAny_loadPart_at hx ?_;rw [hc])|(with_reducible refine zFV O ?_;rw [hn])|wp_step))
end
end L2
namespace L2
namespace M
open PySem PySem.Spec PyProof.Rows
inductive MV where
 |non|bl (b:Bool)|int (i:Int)|str (x:List Nat)|tup (ds:List MV)|scr (ds:List MV)|loc (l:Nat)|typ (n:String)
instance:Inhabited MV:=⟨.non⟩
inductive MO where
 |lst (ds:List MV)|dic (kvs:List (MV×MV))|ins (c:Str) (fs:List (Str×MV))
abbrev Sto:=List MO
def SqF(K:PySem.W.Frag)(H:Hp)(a:Addr)(xs:List V):Prop:=
 (∃o,H a=some (.frz o (.lst xs)))\/
  ∃(o:Obj)(its:Array Value)(n:Nat),K.lookup a=some o/\o.cls=.type "list"/\o.dict=none/\o.data=.seq its n/\its.size<=sizeLine/\Vals xs its.toList
theorem SqF.l{K:PySem.W.Frag}{H:Hp}{a:Addr}{xs:List V}(h:SqF K H a xs):SqL K H a xs:=by
 rcases h with⟨o,h⟩|h
 ·exact .inl (.inr ⟨o,h⟩)
 ·exact .inr h
mutual
def Den(K:PySem.W.Frag)(α:List Addr)(H:Hp):MV->V->Prop
 |.non,v=>v=.non
 |.bl b,v=>v=.bl b
 |.int i,v=>v=.int i
 |.str x,v=>v=.str (mkS x)
 |.tup ds,v=> ∃a vs,v=.ref a/\SqT K H a vs/\DenL K α H ds vs
 |.scr ds,v=> ∃a vs,v=.ref a/\SqF K H a vs/\DenL K α H ds vs
 |.loc l,v=> ∃a,v=.ref a/\α[l]? =some a
 |.typ n,v=>v=.ty n
def DenL(K:PySem.W.Frag)(α:List Addr)(H:Hp):List MV->List V->Prop
 |[],vs=>vs=[]
 |d::ds,vs=> ∃v r,vs=v::r/\Den K α H d v/\DenL K α H ds r
end
structure Ex0(α:List Addr)(H:Hp)(α':List Addr)(H':Hp):Prop where
 pre: ∃t,α'=α++t
 tup: ∀b xs,H b=some (.tup xs)->H' b=some (.tup xs)
 frz: ∀b o u,H b=some (.frz o u)->H' b=some (.frz o u)
structure Ext(α:List Addr)(H:Hp)(α':List Addr)(H':Hp):Prop extends Ex0 α H α' H' where
 new: ∀b∈α',b∈α\/H b=none
 keep: ∀b o,H b=some o->b∉α->H' b=some o
 has: ∀b o,H b=some o-> ∃o',H' b=some o'
section
variable{K:PySem.W.Frag}{α α' α'':List Addr}{H H' H'':Hp}
theorem Ext.refl(α:List Addr)(H:Hp):Ext α H α H:=⟨⟨⟨[],by simp⟩,λ_ _ h=>h,λ_ _ _ h=>h⟩,λb h=>.inl h,λ_ _ h _=>h,λ_ o h=>⟨o,h⟩⟩
theorem Ex0.grow(α t:List Addr)(H:Hp):Ex0 α H (α++t) H:=⟨⟨t,rfl⟩,λ_ _ h=>h,λ_ _ _ h=>h⟩
theorem Ext.free(x:Ext α H α' H'){b:Addr}(h:H' b=none):H b=none:=by
 cases e:H b with
 |none=>rfl
 |some o=>obtain⟨o',h'⟩:=x.has b o e;rw [h]at h';cases h'
theorem Ext.out(x:Ext α H α' H'){b:Addr}{o:HO}(h:H b=some o)(n:b∉α):b∉α':=λz=>by
 rcases x.new b z with z|z
 ·exact n z
 ·rw [h]at z;cases z
theorem Ext.trans(x:Ext α H α' H')(y:Ext α' H' α'' H''):Ext α H α'' H'' where
 pre:=by
  obtain⟨t,rfl⟩:=x.pre
  obtain⟨u,rfl⟩:=y.pre
  exact⟨t++u,by rw [aA]⟩
 new:=λb h=>(y.new b h).elim (x.new b) λz=>.inr (x.free z)
 keep:=λb o h n=>y.keep b o (x.keep b o h n) (x.out h n)
 has:=λb o h=>let ⟨o',h'⟩:=x.has b o h;y.has b o' h'
 tup:=λb xs h=>y.tup b xs (x.tup b xs h)
 frz:=λb o u h=>y.frz b o u (x.frz b o u h)
theorem Ex0.at(x:Ex0 α H α' H'){l:Nat}{a:Addr}(h:α[l]? =some a):α'[l]? =some a:=by
 obtain⟨t,rfl⟩:=x.pre
 rw [getElem?_append_left (gS0.mp h).1]
 exact h
theorem Ex0.sqT(x:Ex0 α H α' H'){a:Addr}{vs:List V}(q:SqT K H a vs):SqT K H' a vs:=by
 rcases q with(q|⟨o,q⟩)|q
 ·exact .inl (.inl (x.tup a vs q))
 ·exact .inl (.inr ⟨o,x.frz a o _ q⟩)
 ·exact .inr q
theorem Ex0.sqF(x:Ex0 α H α' H'){a:Addr}{vs:List V}(q:SqF K H a vs):SqF K H' a vs:=by
 rcases q with⟨o,q⟩|q
 ·exact .inl ⟨o,x.frz a o _ q⟩
 ·exact .inr q
mutual
theorem Den.ex0(x:Ex0 α H α' H'): ∀{d:MV}{v:V},Den K α H d v->Den K α' H' d v
 |.non,_,q=>by unfold Den at q ⊢; exact q
 |.bl _,_,q=>by unfold Den at q ⊢; exact q
 |.int _,_,q=>by unfold Den at q ⊢; exact q
 |.str _,_,q=>by unfold Den at q ⊢; exact q
 |.typ _,_,q=>by unfold Den at q ⊢; exact q
 |.loc _,_,q=>by
  unfold Den at q ⊢
  obtain⟨a,e,h⟩:=q
  exact⟨a,e,x.at h⟩
 |.tup ds,_,q=>by
  unfold Den at q ⊢
  obtain⟨a,vs,e,s,l⟩:=q
  exact⟨a,vs,e,x.sqT s,DenL.ex0 x l⟩
 |.scr ds,_,q=>by
  unfold Den at q ⊢
  obtain⟨a,vs,e,s,l⟩:=q
  exact⟨a,vs,e,x.sqF s,DenL.ex0 x l⟩
theorem DenL.ex0(x:Ex0 α H α' H'): ∀{ds:List MV}{vs:List V},DenL K α H ds vs->DenL K α' H' ds vs
 |[],_,q=>by unfold DenL at q ⊢; exact q
 |d::ds,_,q=>by
  unfold DenL at q ⊢
  obtain⟨v,r,e,a,l⟩:=q
  exact⟨v,r,e,Den.ex0 x a,DenL.ex0 x l⟩
end
theorem Den.ext(x:Ext α H α' H'){d:MV}{v:V}(q:Den K α H d v):Den K α' H' d v:=q.ex0 x.toEx0
theorem DenL.ext(x:Ext α H α' H'){d:List MV}{v:List V}(q:DenL K α H d v):DenL K α' H' d v:=q.ex0 x.toEx0
theorem zBE:Den K α H .non .non:=by unfold Den;rfl
theorem wD(b:Bool):Den K α H (.bl b) (.bl b):=by unfold Den;rfl
theorem wA(i:Int):Den K α H (.int i) (.int i):=by unfold Den;rfl
theorem dN(x:List Nat):Den K α H (.str x) (.str (mkS x)):=by unfold Den;rfl
theorem yBJ(n:String):Den K α H (.typ n) (.ty n):=by unfold Den;rfl
theorem zBF{ds:List MV}{a:Addr}{vs:List V}(s:SqT K H a vs)(l:DenL K α H ds vs):Den K α H (.tup ds) (.ref a):=by unfold Den;exact⟨a,vs,rfl,s,l⟩
theorem yBK{ds:List MV}{a:Addr}{vs:List V}(s:SqF K H a vs)(l:DenL K α H ds vs):Den K α H (.scr ds) (.ref a):=by unfold Den;exact⟨a,vs,rfl,s,l⟩
theorem zKS{l:Nat}{a:Addr}(h:α[l]? =some a):Den K α H (.loc l) (.ref a):=by unfold Den;exact⟨a,rfl,h⟩
theorem nI{v:V}(d:Den K α H .non v):v=.non:=by unfold Den at d;exact d
theorem zDA{b:Bool}{v:V}(d:Den K α H (.bl b) v):v=.bl b:=by unfold Den at d;exact d
theorem kS{i:Int}{v:V}(d:Den K α H (.int i) v):v=.int i:=by unfold Den at d;exact d
theorem jK{x:List Nat}{v:V}(d:Den K α H (.str x) v):v=.str (mkS x):=by unfold Den at d;exact d
theorem nK{n:String}{v:V}(d:Den K α H (.typ n) v):v=.ty n:=by unfold Den at d;exact d
theorem kF{ds:List MV}{v:V}(d:Den K α H (.tup ds) v): ∃a vs,v=.ref a/\SqT K H a vs/\DenL K α H ds vs:=by unfold Den at d;exact d
theorem cS{ds:List MV}{v:V}(d:Den K α H (.scr ds) v): ∃a vs,v=.ref a/\SqF K H a vs/\DenL K α H ds vs:=by unfold Den at d;exact d
theorem bA{l:Nat}{v:V}(d:Den K α H (.loc l) v): ∃a,v=.ref a/\α[l]? =some a:=by unfold Den at d;exact d
theorem xG:DenL K α H [] []:=by unfold DenL;rfl
theorem yX{d:MV}{v:V}{ds:List MV}{vs:List V}(a:Den K α H d v)(l:DenL K α H ds vs):DenL K α H (d::ds) (v::vs):=by unfold DenL;exact⟨v,vs,rfl,a,l⟩
theorem DenL.uncons{d:MV}{ds:List MV}{vs:List V}(l:DenL K α H (d::ds) vs): ∃v r,vs=v::r/\Den K α H d v/\DenL K α H ds r:=by unfold DenL at l;exact l
theorem DenL.isnil{vs:List V}(l:DenL K α H [] vs):vs=[]:=by unfold DenL at l;exact l
theorem DenL.length: ∀{ds:List MV}{vs:List V},DenL K α H ds vs->vs.length=ds.length
 |[],_,q=>by rw [q.isnil];rfl
 |d::ds,_,q=>by
  obtain⟨v,r,rfl,_,l⟩:=q.uncons
  rw [lC0,lC0,DenL.length l]
theorem DenL.append: ∀{ds es:List MV}{vs us:List V},DenL K α H ds vs->DenL K α H es us->DenL K α H (ds++es) (vs++us)
 |[],_,_,_,q,l=>by rw [q.isnil];exact l
 |d::ds,_,_,_,q,l=>by
  obtain⟨v,r,rfl,a,l'⟩:=q.uncons
  exact yX a (DenL.append l' l)
theorem DenL.drop: ∀{ds:List MV}{vs:List V}(n:Nat),DenL K α H ds vs->DenL K α H (ds.drop n) (vs.drop n)
 |_,_,0,q=>q
 |[],_,n+1,q=>by rw [q.isnil];exact xG
 |d::ds,_,n+1,q=>by
  obtain⟨v,r,rfl,_,l⟩:=q.uncons
  exact DenL.drop n l
theorem DenL.take: ∀{ds:List MV}{vs:List V}(n:Nat),DenL K α H ds vs->DenL K α H (ds.take n) (vs.take n)
 |_,_,0,q=>xG
 |[],_,n+1,q=>by rw [q.isnil];exact xG
 |d::ds,_,n+1,q=>by
  obtain⟨v,r,rfl,a,l⟩:=q.uncons
  exact yX a (DenL.take n l)
theorem DenL.reverse: ∀{ds:List MV}{vs:List V},DenL K α H ds vs->DenL K α H ds.reverse vs.reverse
 |[],_,q=>by rw [q.isnil];exact xG
 |d::ds,_,q=>by
  obtain⟨v,r,rfl,a,l⟩:=q.uncons
  rw [reverse_cons,reverse_cons]
  exact(DenL.reverse l).append (yX a xG)
theorem DenL.set{d:MV}{v:V}(a:Den K α H d v): ∀{ds:List MV}{vs:List V}(n:Nat),DenL K α H ds vs->DenL K α H (ds.set n d) (vs.set n v)
 |[],_,_,q=>by rw [q.isnil];exact xG
 |e::ds,_,0,q=>by
  obtain⟨v',r,rfl,a',l⟩:=q.uncons
  exact yX a l
 |e::ds,_,n+1,q=>by
  obtain⟨v',r,rfl,a',l⟩:=q.uncons
  exact yX a' (DenL.set a n l)
theorem DenL.get: ∀{ds:List MV}{vs:List V}{i:Nat}{v:V},DenL K α H ds vs->vs[i]? =some v-> ∃d,ds[i]? =some d/\Den K α H d v
 |[],_,_,_,q,e=>by rw [q.isnil]at e;simp at e
 |d::ds,_,0,_,q,e=>by
  obtain⟨v,r,rfl,a,l⟩:=q.uncons
  simp at e;subst e
  exact⟨d,rfl,a⟩
 |d::ds,_,i+1,_,q,e=>by
  obtain⟨v,r,rfl,a,l⟩:=q.uncons
  obtain⟨d',h1,h2⟩:=DenL.get (i:=i) l (by simpa using e)
  exact⟨d',by simpa using h1,h2⟩
theorem DenL.at{ds:List MV}{vs:List V}{i:Nat}{d:MV}(q:DenL K α H ds vs)(e:ds[i]? =some d): ∃v,vs[i]? =some v/\Den K α H d v:=by
 have hi:i<ds.length:=(gS0.mp e).1
 have hv:i<vs.length:=by rw [q.length];exact hi
 obtain⟨d',h1,h2⟩:=q.get (gE0 hv)
 rw [e]at h1;cases h1
 exact⟨_,gE0 hv,h2⟩
theorem DenL.cut{ds:List MV}{vs:List V}(q:DenL K α H ds vs)(lo hi:Option Int):DenL K α H (cF ds lo hi) (zWB vs lo hi):=by
 unfold cF zWB
 rw [q.length]
 exact(q.drop _).take _
theorem zHX: ∀(ns:List Int),DenL K α H (ns.map MV.int) (ns.map V.int)
 |[]=>xG
 |b::bs=>yX (wA b) (zHX bs)
end
structure Gm where
 K:PySem.W.Frag
 mg:Str->Option Value
 P:Program
 w:World
abbrev _root_.L2.Cx.g(X:Cx):Gm:=⟨X.K,X.mg,X.prog,X.w⟩
inductive DenF(K:PySem.W.Frag)(α:List Addr)(H:Hp):List (Str×MV)->List (Str×V)->Prop
 |nil:DenF K α H [] []
 |cons {x:Str} {d:MV} {v:V} {fs gs}:Den K α H d v->DenF K α H fs gs->DenF K α H ((x,d)::fs) ((x,v)::gs)
theorem DenF.ex0{K:PySem.W.Frag}{α α':List Addr}{H H':Hp}(x:Ex0 α H α' H'): ∀{fs gs},DenF K α H fs gs->DenF K α' H' fs gs
 |_,_,.nil=>.nil
 |_,_,.cons a l=>.cons (a.ex0 x) (DenF.ex0 x l)
def KeyD:MV->Key->Prop
 |.int i,k=>k=.inl i
 |.str x,k=>k=.inr (mkS x)
 |_,_=>False
inductive DenK(K:PySem.W.Frag)(α:List Addr)(H:Hp):List (MV×MV)->List (Key×V)->Prop
 |nil:DenK K α H [] []
 |cons {k:MV} {k':Key} {d:MV} {v:V} {fs gs}:KeyD k k'->Den K α H d v->DenK K α H fs gs->DenK K α H ((k,d)::fs) ((k',v)::gs)
theorem DenK.ex0{K:PySem.W.Frag}{α α':List Addr}{H H':Hp}(x:Ex0 α H α' H'): ∀{fs gs},DenK K α H fs gs->DenK K α' H' fs gs
 |_,_,.nil=>.nil
 |_,_,.cons k a l=>.cons k (a.ex0 x) (DenK.ex0 x l)
mutual
def wL:MV->Option NK
 |.int i=>some (.key (.inl i))
 |.str x=>some (.key (.inr (mkS x)))
 |.tup ds=>(kT ds).map .tup
 |_=>none
def kT:List MV->Option (List NK)
 |[]=>some []
 |d::ds=>(wL d).bind λk=>(kT ds).map (k::·)
end
inductive DenN(K:PySem.W.Frag)(α:List Addr)(H:Hp):List (MV×MV)->List (NK×Addr×Value)->Prop
 |nil:DenN K α H [] []
 |cons {k:MV} {nk:NK} {a:Addr} {d:MV} {v:V} {u:Value} {fs xs}:wL k=some nk->dM nk<=4->Den K α H k (.ref a)->Den K α H d v->RelV v u->DenN K α H fs xs->DenN K α H ((k,d)::fs) ((nk,a,u)::xs)
theorem DenN.ex0{K:PySem.W.Frag}{α α':List Addr}{H H':Hp}(x:Ex0 α H α' H'): ∀{fs xs},DenN K α H fs xs->DenN K α' H' fs xs
 |_,_,.nil=>.nil
 |_,_,.cons k e a d r l=>.cons k e (a.ex0 x) (d.ex0 x) r (DenN.ex0 x l)
def ObD(g:Gm)(α:List Addr)(H:Hp)(a:Addr):MO->Prop
 |.lst ds=> ∃vs,H a=some (.lst vs)/\DenL g.K α H ds vs
 |.dic kvs=>(∃ks,H a=some (.dK ks)/\DenK g.K α H kvs ks)\/ ∃xs,H a=some (DN g.P g.w a xs)/\DenN g.K α H kvs xs
 |.ins c fs=> ∃C gs,g.mg c=some (.ref C)/\DenF g.K α H fs gs/\
   ∃oe,H a=some (.ext λh=>h.get? a=some oe)/\oe.cls=.ref C/\(fs=[]\/ ∃dx od,oe.dict=some dx/\H dx=some (.frz od (.xd gs))/\ ∃vs,oe.data=.fields vs)
theorem ObD.there{g:Gm}{α:List Addr}{H:Hp}{a:Addr}{o:MO}(h:ObD g α H a o): ∃ho,H a=some ho/\(∀xs,ho≠.tup xs)/\ ∀ob u,ho≠.frz ob u:=by
 cases o with
 |lst ds=>obtain⟨vs,h,_⟩:=h;exact⟨_,h,(λxs z=>by cases z),λ_ _ z=>by cases z⟩
 |dic ds=>
  rcases h with⟨vs,h,_⟩|⟨vs,h,_⟩
  ·exact⟨_,h,(λxs z=>by cases z),λ_ _ z=>by cases z⟩
  ·exact⟨_,h,(λxs z=>by cases z),λ_ _ z=>by cases z⟩
 |ins c ds=>
  obtain⟨_,_,_,_,_,h,_⟩:=h
  exact⟨_,h,(λxs z=>by cases z),λ_ _ z=>by cases z⟩
theorem ObD.move{g:Gm}{α α':List Addr}{H H':Hp}{a:Addr}{o:MO}(h:ObD g α H a o)(x:Ex0 α H α' H')(e:H' a=H a):ObD g α' H' a o:=by
 cases o with
 |lst ds=>obtain⟨vs,h,l⟩:=h;exact⟨vs,e.trans h,l.ex0 x⟩
 |dic ds=>
  rcases h with⟨vs,h,l⟩|⟨vs,h,l⟩
  ·exact .inl ⟨vs,e.trans h,l.ex0 x⟩
  ·exact .inr ⟨vs,e.trans h,l.ex0 x⟩
 |ins c ds=>
  obtain⟨C,gs,m,l,oe,h,hc,hf⟩:=h
  exact⟨C,gs,m,l.ex0 x,oe,e.trans h,hc,hf.imp id λ⟨dx,od,h1,h2,h3⟩=>⟨dx,od,h1,x.frz _ _ _ h2,h3⟩⟩
structure Wd(g:Gm)(α:List Addr)(S:Sto)(H:Hp):Prop where
 len:α.length=S.length
 nd:α.Nodup
 obj: ∀(l:Nat)(a:Addr)(o:MO),α[l]? =some a->S[l]? =some o->ObD g α H a o
section
variable{g:Gm}{α α':List Addr}{S S':Sto}{H H':Hp}
theorem Wd.of(w:Wd g α S H){l:Nat}{a:Addr}(h:α[l]? =some a): ∃o,S[l]? =some o/\ObD g α H a o:=by
 have hl:l<S.length:=by rw [<-w.len];exact(gS0.mp h).1
 exact⟨S[l],gE0 hl,w.obj l a _ h (gE0 hl)⟩
theorem Wd.mem(w:Wd g α S H){a:Addr}(h:a∈α): ∃ho,H a=some ho/\(∀xs,ho≠.tup xs)/\ ∀ob u,ho≠.frz ob u:=by
 obtain⟨l,hl⟩:=List.getElem?_of_mem h
 obtain⟨o,_,q⟩:=w.of hl
 exact q.there
theorem Wd.newx(w:Wd g α S H){p:Addr}{o:HO}(hp:H p=none):Ext α H α (upd H p o) where
 pre:=⟨[],by simp⟩
 new:=λb h=>.inl h
 keep:=λb o h _=>by rw [yA (yC h hp)];exact h
 has:=λb o h=>⟨o,by rw [yA (yC h hp)];exact h⟩
 tup:=λb o h=>by rw [yA (yC h hp)];exact h
 frz:=λb o u h=>by rw [yA (yC h hp)];exact h
theorem Wd.fresh(w:Wd g α S H){p:Addr}(hp:H p=none):p∉α:=λz=>by
 obtain⟨_,h,_⟩:=w.mem z;rw [hp]at h;cases h
theorem Wd.new(w:Wd g α S H){p:Addr}{o:HO}(hp:H p=none):Wd g α S (upd H p o):=
 ⟨w.len,w.nd,λl a ob h1 h2=>(w.obj l a ob h1 h2).move (w.newx hp).toEx0 (yA λz=>w.fresh hp (by rw [<-z];exact mem_of_getElem? h1))⟩
theorem Wd.writex(w:Wd g α S H){l:Nat}{a:Addr}{o:HO}(h:α[l]? =some a):Ext α H α (upd H a o) where
 pre:=⟨[],by simp⟩
 new:=λb h=>.inl h
 keep:=λb o e n=>by rw [yA λz=>n (by rw [z];exact mem_of_getElem? h)];exact e
 has:=λb o e=>by
  by_cases z:b=a
  ·subst z;exact⟨_,xF⟩
  ·exact⟨o,by rw [yA z];exact e⟩
 tup:=λb xs e=>by
  obtain⟨ho,h1,h2,_⟩:=w.mem (mem_of_getElem? h)
  rw [yA λz=>h2 xs (by subst z;rw [e]at h1;exact(Option.some.inj h1).symm)];exact e
 frz:=λb ob u e=>by
  obtain⟨ho,h1,_,h2⟩:=w.mem (mem_of_getElem? h)
  rw [yA λz=>h2 ob u (by subst z;rw [e]at h1;exact(Option.some.inj h1).symm)];exact e
theorem Wd.ne(w:Wd g α S H){l m:Nat}{a b:Addr}(h:α[l]? =some a)(h':α[m]? =some b)(n:l≠m):a≠b:=by
 rintro rfl
 obtain⟨h1,e1⟩:=gS0.mp h
 obtain⟨h2,e2⟩:=gS0.mp h'
 exact n ((getElem_inj w.nd).mp (e1.trans e2.symm))
theorem Wd.write(w:Wd g α S H){l:Nat}{a:Addr}{o:HO}{ob:MO}(h:α[l]? =some a)(q:ObD g α (upd H a o) a ob):Wd g α (S.set l ob) (upd H a o) where
 len:=by rw [length_set];exact w.len
 nd:=w.nd
 obj:=λm b ob' h1 h2=>by
  by_cases e:l=m
  ·subst e
   rw [h]at h1
   have hl:l<S.length:=by rw [<-w.len];exact(gS0.mp h).1
   rw [getElem?_set_self hl]at h2
   rw [<-Option.some.inj h1, <-Option.some.inj h2]
   exact q
  ·rw [getElem?_set_ne e]at h2
   exact(w.obj m b ob' h1 h2).move (w.writex h).toEx0 (yA (w.ne h1 h λz=>e z.symm))
theorem Wd.enterx(w:Wd g α S H){H0:Hp}{α0:List Addr}(x:Ext α0 H0 α H){b:Addr}(h0:H0 b=none)(n:b∉α):Ext α0 H0 (α++[b]) H where
 pre:=let ⟨t,e⟩:=x.pre;⟨t++[b],by rw [e,aA]⟩
 new:=λc hc=>(mem_append.mp hc).elim (x.new c) λz=>.inr (by rw [mS.mp z];exact h0)
 keep:=x.keep
 has:=x.has
 tup:=x.tup
 frz:=x.frz
theorem Wd.enter(w:Wd g α S H){b:Addr}{ds:List MV}{vs:List V}(h:H b=some (.lst vs))(n:b∉α)(l:DenL g.K α H ds vs):Wd g (α++[b]) (S++[.lst ds]) H where
 len:=by rw [lA,lA,w.len];rfl
 nd:=nodup_append.mpr ⟨w.nd,by simp,λa ha c hc=>by rw [mS.mp hc];rintro rfl;exact n ha⟩
 obj:=λm a o h1 h2=>by
  by_cases hm:m<α.length
  ·rw [getElem?_append_left hm]at h1
   rw [getElem?_append_left (by rw [<-w.len];exact hm)]at h2
   exact(w.obj m a o h1 h2).move (Ex0.grow α [b] H) rfl
  ·have hm':m=α.length:=by
    have:=(gS0.mp h1).1
    rw [lA,lS]at this
    omega
   subst hm'
   rw [getElem?_append_right (le_refl _),sub_self]at h1
   rw [getElem?_append_right (by rw [w.len];exact le_refl _),w.len,sub_self]at h2
   cases h1;cases h2
   exact⟨vs,h,l.ex0 (Ex0.grow α [b] H)⟩
end
inductive R(β:Type) where
 |ok (b:β) (S:Sto)|exc (c:Str) (fs:List (Str×MV)) (S:Sto)|no
def R.bind{β γ:Type}:R β->(β->Sto->R γ)->R γ
 |.ok b S,k=>k b S
 |.exc c fs S,_=>.exc c fs S
 |.no,_=>.no
theorem R.bind_ok{β γ:Type}(b:β)(S:Sto)(k:β->Sto->R γ):(R.ok b S).bind k=k b S:=rfl
inductive Er where
 |val (d:MV)|new (ds:List MV)
instance:Inhabited Er:=⟨.val .non⟩
def DenX(K:PySem.W.Frag)(α:List Addr)(H:Hp):Er->V->Prop
 |.val d,v=>Den K α H d v
 |.new ds,v=> ∃b vs,v=.ref b/\H b=some (.lst vs)/\b∉α/\DenL K α H ds vs
def DenE(K:PySem.W.Frag)(H:Hp)(α':List Addr)(H':Hp)(r:Er)(v:V):Prop:=DenX K α' H' r v/\match r with |.new _=> ∀a,v=.ref a->H a=none|_=>True
section
variable{K:PySem.W.Frag}{α α':List Addr}{H H0 H':Hp}
theorem DenX.ext(x:Ext α H α' H'): ∀{r:Er}{v:V},DenX K α H r v->DenX K α' H' r v
 |.val d,_,q=>Den.ext x q
 |.new ds,_,⟨b,vs,e,h,n,l⟩=>⟨b,vs,e,x.keep b _ h n,x.out h n,l.ext x⟩
theorem DenE.val{d:MV}{v:V}(q:Den K α' H' d v):DenE K H α' H' (.val d) v:=⟨q,trivial⟩
theorem DenE.back(hf: ∀b,H b=none->H0 b=none){r:Er}{v:V}(q:DenE K H α' H' r v):DenE K H0 α' H' r v:=by
 refine⟨q.1,?_⟩
 cases r with
 |new ds=>exact λa e=>hf a (q.2 a e)
 |_=>trivial
theorem DenE.ext{α'':List Addr}{H'':Hp}(x:Ext α' H' α'' H''){r:Er}{v:V}(q:DenE K H α' H' r v):DenE K H α'' H'' r v:=⟨q.1.ext x,q.2⟩
end
section
variable{K:PySem.W.Frag}{α:List Addr}{H:Hp}{v:V}
theorem zZG(d:DenX K α H (.val .non) v):v=.non:=nI (K:=K) (α:=α) (H:=H) d
theorem zFW{b:Bool}(d:DenX K α H (.val (.bl b)) v):v=.bl b:=zDA (K:=K) (α:=α) (H:=H) d
theorem xL{b:Int}(d:DenX K α H (.val (.int b)) v):v=.int b:=kS (K:=K) (α:=α) (H:=H) d
theorem kG{b:List Nat}(d:DenX K α H (.val (.str b)) v):v=.str (mkS b):=jK (K:=K) (α:=α) (H:=H) d
theorem yOD{b:String}(d:DenX K α H (.val (.typ b)) v):v=.ty b:=nK (K:=K) (α:=α) (H:=H) d
theorem nL{ds:List MV}(d:DenX K α H (.val (.tup ds)) v): ∃a vs,v=.ref a/\SqT K H a vs/\DenL K α H ds vs:=kF (K:=K) (α:=α) (H:=H) d
theorem zUC{ds:List MV}(d:DenX K α H (.val (.scr ds)) v): ∃a vs,v=.ref a/\SqF K H a vs/\DenL K α H ds vs:=cS (K:=K) (α:=α) (H:=H) d
theorem zDP{l:Nat}(d:DenX K α H (.val (.loc l)) v): ∃a,v=.ref a/\α[l]? =some a:=bA (K:=K) (α:=α) (H:=H) d
end
def zIP:List Er->List V->List Addr
 |.new _::rs,.ref b::vs=>b::zIP rs vs
 |_::rs,_::vs=>zIP rs vs
 |_,_=>[]
inductive ArgsE(K:PySem.W.Frag)(H:Hp)(α':List Addr)(H':Hp):List Er->List V->Prop
 |nil:ArgsE K H α' H' [] []
 |cons {r v rs vs}:DenE K H α' H' r v->(∀ds b,r=.new ds->v=.ref b->b∉zIP rs vs)->ArgsE K H α' H' rs vs->ArgsE K H α' H' (r::rs) (v::vs)
theorem ArgsE.nones{K:PySem.W.Frag}{H:Hp}{α':List Addr}{H':Hp}: ∀{rs vs},ArgsE K H α' H' rs vs-> ∀b∈zIP rs vs,H b=none
 |_,_,.nil=>λb h=>by simp [zIP]at h
 |.val d::_,v::_,.cons a n l=>λb h=>ArgsE.nones l b (by simpa [zIP]using h)
 |.new ds::_,v::_,.cons a n l=>λb h=>by
  obtain⟨c,vs,rfl,_⟩:=a.1
  rcases mC.mp (show b∈c::zIP _ _ from h)with rfl|h
  ·exact a.2 _ rfl
  ·exact ArgsE.nones l b h
theorem ArgsE.back{K:PySem.W.Frag}{H H0:Hp}{α':List Addr}{H':Hp}(hf: ∀b,H b=none->H0 b=none): ∀{rs vs},ArgsE K H α' H' rs vs->ArgsE K H0 α' H' rs vs
 |_,_,.nil=>.nil
 |_,_,.cons a n l=>.cons (a.back hf) n (ArgsE.back hf l)
theorem ArgsE.length{K:PySem.W.Frag}{H:Hp}{α':List Addr}{H':Hp}: ∀{rs vs},ArgsE K H α' H' rs vs->vs.length=rs.length
 |_,_,.nil=>rfl
 |_,_,.cons _ _ l=>by rw [lC0,lC0,ArgsE.length l]
class Dn (β:Type) (τ:outParam Type) where
 d:Gm->Hp->List Addr->Sto->Hp->β->τ->Prop
 back: ∀{g:Gm}{H H0:Hp}{α':List Addr}{S':Sto}{H':Hp}{b:β}{u:τ},(∀b,H b=none->H0 b=none)->d g H α' S' H' b u->d g H0 α' S' H' b u
instance:Dn Er V:=⟨λg H α' _ H' r v=>DenE g.K H α' H' r v,λhf q=>q.back hf⟩
instance:Dn Bool Bool:=⟨λ_ _ _ _ _ b u=>u=b,λ_ q=>q⟩
instance:Dn (List Er) (List V):=⟨λg H α' _ H' r v=>ArgsE g.K H α' H' r v,λhf q=>q.back hf⟩
instance:Dn (Option Int) (Option Int):=⟨λ_ _ _ _ _ b u=>u=b,λ_ q=>q⟩
abbrev XW:=Str->List (Str×MV)->Sto->List Addr->Hp->Prop
abbrev W0:XW:=λ_ _ _ _ _=>False
def Post{β τ:Type}[Dn β τ](g:Gm)(W:XW)(α:List Addr)(H:Hp):R β->(τ->Hp->Prop)->Prop
 |.ok b S,Q=> ∀u α' H',Ext α H α' H'->Wd g α' S H'->Dn.d g H α' S H' b u->Q u H'
 |.exc c fs S,_=> ∀α' H',Ext α H α' H'->Wd g α' S H'->W c fs S α' H'
 |.no,_=>False
section
variable{β τ γ υ:Type}[Dn β τ][Dn γ υ]{g:Gm}{W:XW}{α α':List Addr}{H H':Hp}
theorem Post.shift(x:Ext α H α' H'): ∀{m:R β}{Q:τ->Hp->Prop},Post g W α H m Q->Post g W α' H' m Q
 |.ok b S,Q,q=>λu α2 H2 x2 w2 d2=>q u α2 H2 (x.trans x2) w2 (Dn.back (λb h=>x.free h) d2)
 |.exc c fs S,_,q=>λα2 H2 x2 w2=>q α2 H2 (x.trans x2) w2
 |.no,_,q=>q
theorem Post.bind{m:R β}{k:β->Sto->R γ}{Q:υ->Hp->Prop}{Q':τ->Hp->Prop}(q:Post g W α H (m.bind k) Q)
  (f: ∀u b S1 α1 H1,m=.ok b S1->Ext α H α1 H1->Wd g α1 S1 H1->Dn.d g H α1 S1 H1 b u->Post g W α H (k b S1) Q->Q' u H1):Post g W α H m Q':=by
 cases m with
 |ok b S=>exact λu α1 H1 x w d=>f u b S α1 H1 rfl x w d q
 |exc c fs S=>exact q
 |no=>exact q
theorem Post.here{b:β}{S:Sto}{Q:τ->Hp->Prop}{u:τ}(q:Post g W α H (.ok b S) Q)(w:Wd g α S H)(d:Dn.d g H α S H b u):Q u H:=q u α H (Ext.refl α H) w d
end
theorem Post.val{g:Gm}{W:XW}{α:List Addr}{H:Hp}{d:MV}{S:Sto}{Q:VK}{v:V}(q:Post g W α H (.ok (Er.val d) S) Q)(w:Wd g α S H)(k:Den g.K α H d v):Q v H:=q.here w (DenE.val k)
theorem Post.newl{g:Gm}{W:XW}{α:List Addr}{H:Hp}{ds:List MV}{S:Sto}{Q:VK}{vs:List V}{p:Addr}(q:Post g W α H (.ok (Er.new ds) S) Q)(w:Wd g α S H)(hp:H p=none)(l:DenL g.K α H ds vs):Q (.ref p) (upd H p (.lst vs)):=
 q (.ref p) α _ (w.newx hp) (w.new hp) ⟨⟨p,vs,rfl,xF,w.fresh hp,l.ext (w.newx hp)⟩,λa e=>by cases e;exact hp⟩
theorem Post.newt{g:Gm}{W:XW}{α:List Addr}{H:Hp}{ds:List MV}{S:Sto}{Q:VK}{vs:List V}{p:Addr}(q:Post g W α H (.ok (Er.val (.tup ds)) S) Q)(w:Wd g α S H)(hp:H p=none)(l:DenL g.K α H ds vs):Q (.ref p) (upd H p (.tup vs)):=
 q (.ref p) α _ (w.newx hp) (w.new hp) (.val (zBF (.of xF) (l.ext (w.newx hp))))
abbrev Rho:=List (Option MV)
structure Slots(K:PySem.W.Frag)(α:List Addr)(H:Hp)(ρ:Rho)(σ:St):Prop where
 len:σ.length=ρ.length
 slot: ∀(i:Nat)(d:MV),ρ[i]? =some (some d)-> ∃v,σ[i]? =some (some v)/\Den K α H d v
section
variable{K:PySem.W.Frag}{α α':List Addr}{H H':Hp}{ρ:Rho}{σ:St}
theorem Slots.ex0(q:Slots K α H ρ σ)(x:Ex0 α H α' H'):Slots K α' H' ρ σ:=⟨q.len,λi d e=>let ⟨v,h1,h2⟩:=q.slot i d e;⟨v,h1,h2.ex0 x⟩⟩
theorem Slots.ext(q:Slots K α H ρ σ)(x:Ext α H α' H'):Slots K α' H' ρ σ:=q.ex0 x.toEx0
theorem yBL{α:Type}{l:List α}{i j:Nat}{x y:α}(h:(l.set i x)[j]? =some y):(j=i/\y=x/\i<l.length)\/(j≠i/\l[j]? =some y):=by
 by_cases hj:i=j
 ·subst hj
  by_cases hl:i<l.length
  ·rw [getElem?_set_self hl]at h
   exact .inl ⟨rfl,(Option.some.inj h).symm,hl⟩
  ·rw [List.getElem?_eq_none (by rw [length_set];omega)]at h;cases h
 ·rw [getElem?_set_ne hj]at h
  exact .inr ⟨λz=>hj z.symm,h⟩
theorem Slots.set(q:Slots K α H ρ σ){i:Nat}{d:MV}{v:V}(h:Den K α H d v):Slots K α H (ρ.set i (some d)) (σ.set i (some v)):=by
 refine⟨by rw [length_set,length_set];exact q.len,λj e z=>?_⟩
 rcases yBL z with⟨rfl,e',hl⟩|⟨hj,e'⟩
 ·cases e'
  exact⟨v,by rw [getElem?_set_self (by rw [q.len];exact hl)],h⟩
 ·obtain⟨u,h1,h2⟩:=q.slot j e e'
  exact⟨u,by rw [getElem?_set_ne (Ne.symm hj)];exact h1,h2⟩
end
def Jd(X:Cx)(W:XW){β τ:Type}[Dn β τ](P:(St->Hp->(τ->Hp->Prop)->Prop)->Prop)(f:Rho->Sto->R β):Prop:=
 ∃t,P t/\ ∀α ρ S σ H Q,Wd X.g α S H->Slots X.K α H ρ σ->Post X.g W α H (f ρ S) Q->t σ H Q
abbrev PEm(X:Cx)(W:XW)(e:Expr)(f:Rho->Sto->R Er):Prop:=Jd X W (PE X e) f
abbrev PTm(X:Cx)(W:XW)(e:Expr)(f:Rho->Sto->R Bool):Prop:=Jd X W (PT X e) f
abbrev PWm(X:Cx)(W:XW)(e:Expr)(f:Rho->Sto->R Bool):Prop:=Jd X W (PW X e) f
abbrev PAm(X:Cx)(W:XW)(es:List Expr)(f:Rho->Sto->R (List Er)):Prop:=Jd X W (PA X es) f
abbrev POm(X:Cx)(W:XW)(e:Option Expr)(f:Rho->Sto->R (Option Int)):Prop:=Jd X W (PO X e) f
section
variable{X:Cx}{W:XW}{a b c e:Expr}{es:List Expr}{f g h:Rho->Sto->R Er}{tf tg:Rho->Sto->R Bool}{af:Rho->Sto->R (List Er)}{pos:Pos}
def rdSl:Option (Option MV)->Sto->R Er
 |some (some d),S=>.ok (.val d) S
 |_,_=>.no
theorem zB(i:Nat){x:Str}(hN:X.N[i]? =some x:=by rfl)(hv:Vis X.env.scope x:=by first |exact Or.inl rfl|exact Or.inr (Or.inl rfl)|exact Or.inr (Or.inr rfl))(hd:(x==("__debug__":Str))=false:=by decide)
  (hcd:(x==("__classdict__":Str))=false:=by decide):PEm X W (.Name x pos) (λρ S=>rdSl (ρ[i]?) S):=by
 refine⟨_,pv i hN hv hd hcd,λα ρ S σ H Q wd sl q=>?_⟩
 dsimp only at q
 cases z:ρ[i]? with
 |none=>rw [z]at q;exact q.elim
 |some o=>
  cases o with
  |none=>rw [z]at q;exact q.elim
  |some d=>
   rw [z]at q
   obtain⟨v,h1,h2⟩:=sl.slot i d z
   exact⟨v,h1,Post.val q wd h2⟩
theorem zD{i:Int}{j:Nat}:PEm X W (.Constant (.int i) j pos) (λ_ S=>.ok (.val (.int i)) S):=⟨_,yFB,λα ρ S σ H Q wd sl q=>Post.val q wd (wA i)⟩
theorem nM{i:Bool}{j:Nat}:PEm X W (.Constant (.bool i) j pos) (λ_ S=>.ok (.val (.bl i)) S):=⟨_,pe_bl,λα ρ S σ H Q wd sl q=>Post.val q wd (wD i)⟩
theorem xW{x:Str}{j:Nat}(cs:List Nat)(hx:x=mkS cs:=by rfl):PEm X W (.Constant (.str x) j pos) (λ_ S=>.ok (.val (.str cs)) S):=
 ⟨_,yMU,λα ρ S σ H Q wd sl q=>Post.val q wd (by rw [hx];exact dN cs)⟩
theorem zDQ{x:Str}{i:Int}{t:Tok}(hg:Gl X x)(hm:X.mg x=some (.int i t))(hd:(x==("__debug__":Str))=false:=by decide):PEm X W (.Name x pos) (λ_ S=>.ok (.val (.int i)) S):=
 ⟨_,zTO (v:=.int i) hg hm ⟨t,rfl⟩ hd,λα ρ S σ H Q wd sl q=>Post.val q wd (wA i)⟩
theorem zWN{x:Str}{T:String}(hg:Gl X x)(hm:X.mg x=none)(hv:bootBuiltins x=some (.type T))(hn:x≠"__name__":=by decide)(hd:(x==("__debug__":Str))=false:=by decide):PEm X W (.Name x pos) (λ_ S=>.ok (.val (.typ T)) S):=
 ⟨_,yBB (v:=.ty T) hg hm hv rfl hn hd,λα ρ S σ H Q wd sl q=>Post.val q wd (yBJ T)⟩
theorem yOE{i:Int}{j:Nat}{p3:Pos}:PEm X W (.UnaryOp .USub (.Constant (.int i) j p3) pos) (λ_ S=>.ok (.val (.int (-i))) S):=
 ⟨_,pe_un yNK yFB,λα ρ S σ H Q wd sl q=>⟨i,rfl,Post.val q wd (wA (-i))⟩⟩
def Op2(X:Cx)(W:XW)(r:R2)(F:Er->Er->Sto->R Er):Prop:= ∀p q x y α S H Q,Wd X.g α S H->DenX X.K α H p x->DenX X.K α H q y->Post X.g W α H (F p q S) Q->r x y H Q
theorem two{r:R2}{F:Er->Er->Sto->R Er}(hF:Op2 X W r F){ta tb:TE}(fa: ∀α ρ S σ H Q,Wd X.g α S H->Slots X.K α H ρ σ->Post X.g W α H (f ρ S) Q->ta σ H Q)
  (fb: ∀α ρ S σ H Q,Wd X.g α S H->Slots X.K α H ρ σ->Post X.g W α H (g ρ S) Q->tb σ H Q) {α:List Addr} {ρ:Rho} {S:Sto} {σ:St} {H:Hp} {Q:VK} (wd:Wd X.g α S H) (sl:Slots X.K α H ρ σ)
  (q:Post X.g W α H ((f ρ S).bind λp S1=>(g ρ S1).bind λq S2=>F p q S2) Q):ta σ H λx H1=>tb σ H1 λy H2=>r x y H2 Q:=
 fa α ρ S σ H _ wd sl (q.bind λu p S1 α1 H1 e1 x1 w1 d1 q1=>fb α1 ρ S1 σ H1 _ w1 (sl.ext x1) ((q1.shift x1).bind λu2 p2 S2 α2 H2 e2 x2 w2 d2 q2=>
  hF p p2 u u2 α2 S2 H2 Q w2 (d1.1.ext x2) d2.1 (q2.shift x2)))
theorem zSR{op:Operator}{r:R2}{F:Er->Er->Sto->R Er}(ho:OpR X (binaryOp op) r)(hF:Op2 X W r F)(ha:PEm X W a f)(hb:PEm X W b g):PEm X W (.BinOp a op b pos) (λρ S=>(f ρ S).bind λp S1=>(g ρ S1).bind λq S2=>F p q S2):=by
 obtain⟨ta,ha,fa⟩:=ha
 obtain⟨tb,hb,fb⟩:=hb
 exact⟨_,pe_op ho ha hb,λα ρ S σ H Q wd sl q=>two hF fa fb wd sl q⟩
theorem zUD{op:CmpOp}{r:R2}{F:Er->Er->Sto->R Er}(ho:OpR X (compareOp op) r)(hF:Op2 X W r F)(ha:PEm X W a f)(hb:PEm X W b g)(hm:behindInMarks op b=false:=by first |exact yFJ _|with_unfolding_all rfl):
  PEm X W (.Compare a [op] [b] pos) (λρ S=>(f ρ S).bind λp S1=>(g ρ S1).bind λq S2=>F p q S2):=by
 obtain⟨ta,ha,fa⟩:=ha
 obtain⟨tb,hb,fb⟩:=hb
 exact⟨_,yJC ho ha hb hm,λα ρ S σ H Q wd sl q=>two hF fa fb wd sl q⟩
theorem pm_ix{r:R2}{F:Er->Er->Sto->R Er}(ho:IxR X r)(hF:Op2 X W r F)(ha:PEm X W a f)(hb:PEm X W b g)(hs:zTS b:=by exact λ_ _=>rfl):
  PEm X W (.Subscript a b pos) (λρ S=>(f ρ S).bind λp S1=>(g ρ S1).bind λq S2=>F p q S2):=by
 obtain⟨ta,ha,fa⟩:=ha
 obtain⟨tb,hb,fb⟩:=hb
 exact⟨_,pe_ix ho ha hb hs,λα ρ S σ H Q wd sl q=>two hF fa fb wd sl q⟩
def asB:Er->Sto->R Bool
 |.val (.bl b),S=>.ok b S
 |_,_=>.no
theorem zWO{p:Er}{S:Sto}{α:List Addr}{H:Hp}{Q:Bool->Hp->Prop}(q:Post X.g W α H (asB p S) Q): ∃k,p=.val (.bl k)/\Post X.g W α H (.ok k S) Q:=by
 unfold asB at q
 split at q
 ·exact⟨_,rfl,q⟩
 ·exact q.elim
theorem zPF{β τ:Type}[Dn β τ]{p:Er}{S:Sto}{α:List Addr}{H:Hp}{k:Bool->Sto->R β}{Q:τ->Hp->Prop}(q:Post X.g W α H ((asB p S).bind k) Q): ∃c,p=.val (.bl c)/\Post X.g W α H (k c S) Q:=by
 unfold asB at q
 split at q
 ·exact⟨_,rfl,q⟩
 ·exact q.elim
theorem zMH{op:CmpOp}{r:R2}{F:Er->Er->Sto->R Er}(ho:OpR X (compareOp op) r)(hF:Op2 X W r F)(ha:PEm X W a f)(hb:PEm X W b g)(hm:behindInMarks op b=false:=by first |exact yFJ _|with_unfolding_all rfl):
  PTm X W (.Compare a [op] [b] pos) (λρ S=>((f ρ S).bind λp S1=>(g ρ S1).bind λq S2=>F p q S2).bind asB):=by
 obtain⟨ta,ha,fa⟩:=ha
 obtain⟨tb,hb,fb⟩:=hb
 refine⟨_,yJD ho ha hb hm,λα ρ S σ H Q wd sl q=>?_⟩
 refine two hF fa fb wd sl (Q:=λx H'=> ∃k,x=.bl k/\Q k H') (q.bind λu p S1 α1 H1 e1 x1 w1 d1 q1=>?_)
 obtain⟨k,rfl,q2⟩:=zWO (q1.shift x1)
 exact⟨k,zFW d1.1,q2.here w1 rfl⟩
def chF(F G:Er->Er->Sto->R Er)(p q:Er)(S:Sto)(k:Sto->R Er):R Er:=(F p q S).bind λz S1=>(asB z S1).bind λc S2=>if c=true then(k S2).bind λr S3=>G q r S3 else .ok (.val (.bl false)) S2
theorem chain{r r':R2}{F G:Er->Er->Sto->R Er}(hF:Op2 X W r F)(hG:Op2 X W r' G){ta tb tc:TE}(fa: ∀α ρ S σ H Q,Wd X.g α S H->Slots X.K α H ρ σ->Post X.g W α H (f ρ S) Q->ta σ H Q)
  (fb: ∀α ρ S σ H Q,Wd X.g α S H->Slots X.K α H ρ σ->Post X.g W α H (g ρ S) Q->tb σ H Q) (fc: ∀α ρ S σ H Q,Wd X.g α S H->Slots X.K α H ρ σ->Post X.g W α H (h ρ S) Q->tc σ H Q) {α:List Addr} {ρ:Rho} {S:Sto} {σ:St} {H:Hp} {Q:VK} (wd:Wd X.g α S H) (sl:Slots X.K α H ρ σ)
  (q:Post X.g W α H ((f ρ S).bind λp S1=>(g ρ S1).bind λq S2=>chF F G p q S2 λS3=>h ρ S3) Q):zYT r r' ta tb tc σ H Q:=
 fa α ρ S σ H _ wd sl (q.bind λu p S1 α1 H1 e1 x1 w1 d1 q1=>fb α1 ρ S1 σ H1 _ w1 (sl.ext x1) ((q1.shift x1).bind λu2 p2 S2 α2 H2 e2 x2 w2 d2 q2=>by
  refine hF p p2 u u2 α2 S2 H2 _ w2 (d1.1.ext x2) d2.1 (Post.bind (q2.shift x2) λu3 p3 S3 α3 H3 e3 x3 w3 d3 q3=>?_)
  obtain⟨k,rfl,q4⟩:=zPF (q3.shift x3)
  refine⟨k,zFW d3.1,?_⟩
  cases k with
  |true=>
   rw [iP rfl]at q4 ⊢
   exact fc α3 ρ S3 σ H3 _ w3 (((sl.ext x1).ext x2).ext x3) (q4.bind λu5 p5 S5 α5 H5 e5 x5 w5 d5 q5=>hG p2 p5 u2 u5 α5 S5 H5 Q w5 ((d2.1.ext x3).ext x5) d5.1 (q5.shift x5))
  |false=>
   rw [iN0 xF0]at q4 ⊢
   exact Post.val q4 w3 (wD false)))
theorem zWP{op op':CmpOp}{r r':R2}{F G:Er->Er->Sto->R Er}(ho:OpR X (compareOp op) r)(ho':OpR X (compareOp op') r')(hF:Op2 X W r F)(hG:Op2 X W r' G)(ha:PEm X W a f)(hb:PEm X W b g)(hc:PEm X W c h)
  (hm:lastMarks [op,op'] [b,c]=false:=by with_unfolding_all rfl):
  PEm X W (.Compare a [op,op'] [b,c] pos) (λρ S=>(f ρ S).bind λp S1=>(g ρ S1).bind λq S2=>chF F G p q S2 λS3=>h ρ S3):=by
 obtain⟨ta,ha,fa⟩:=ha
 obtain⟨tb,hb,fb⟩:=hb
 obtain⟨tc,hc,fc⟩:=hc
 exact⟨_,yFK ho ho' ha hb hc hm,λα ρ S σ H Q wd sl q=>chain hF hG fa fb fc wd sl q⟩
theorem yGB{op op':CmpOp}{r r':R2}{F G:Er->Er->Sto->R Er}(ho:OpR X (compareOp op) r)(ho':OpR X (compareOp op') r')(hF:Op2 X W r F)(hG:Op2 X W r' G)(ha:PEm X W a f)(hb:PEm X W b g)(hc:PEm X W c h)
  (hm:lastMarks [op,op'] [b,c]=false:=by with_unfolding_all rfl):
  PTm X W (.Compare a [op,op'] [b,c] pos) (λρ S=>((f ρ S).bind λp S1=>(g ρ S1).bind λq S2=>chF F G p q S2 λS3=>h ρ S3).bind asB):=by
 obtain⟨ta,ha,fa⟩:=ha
 obtain⟨tb,hb,fb⟩:=hb
 obtain⟨tc,hc,fc⟩:=hc
 refine⟨_,yFL ho ho' ha hb hc hm,λα ρ S σ H Q wd sl q=>?_⟩
 refine chain hF hG fa fb fc wd sl (Q:=λx H'=> ∃k,x=.bl k/\Q k H') (q.bind λu p S1 α1 H1 e1 x1 w1 d1 q1=>?_)
 obtain⟨k,rfl,q2⟩:=zWO (q1.shift x1)
 exact⟨k,zFW d1.1,q2.here w1 rfl⟩
def zBA:Er->Sto->R Bool
 |.val .non,S=>.ok false S
 |.val (.bl b),S=>.ok b S
 |.val (.int i),S=>.ok (i !=0) S
 |.val (.str x),S=>if x.length<=sizeLine then .ok (!x.isEmpty) S else .no
 |.val (.tup ds),S=>.ok (!ds.isEmpty) S
 |.val (.scr ds),S=>.ok (!ds.isEmpty) S
 |.val (.loc l),S=>match S[l]? with
  |some (.lst ds)=>.ok (!ds.isEmpty) S
  |_=>.no
 |.val (.typ _),_=>.no
 |.new ds,S=>.ok (!ds.isEmpty) S
theorem zHY{ds:List MV}{vs:List V}{K:PySem.W.Frag}{α:List Addr}{H:Hp}(l:DenL K α H ds vs):(!vs.isEmpty)= !ds.isEmpty:=by
 have:=l.length
 cases ds<;>cases vs<;>simp_all
theorem yGC{p:Er}{x:V}{S:Sto}{α:List Addr}{H:Hp}{Q:Bool->Hp->Prop}(wd:Wd X.g α S H)(d:DenX X.K α H p x)(q:Post X.g W α H (zBA p S) Q): ∃k,TruV X.K x H k/\Q k H:=by
 match p,d,q with
 |.val .non,d,q=>cases zZG d;exact⟨_,rfl,q.here wd rfl⟩
 |.val (.bl b),d,q=>cases zFW d;exact⟨_,rfl,q.here wd rfl⟩
 |.val (.int i),d,q=>cases xL d;exact⟨_,rfl,q.here wd rfl⟩
 |.val (.typ n),d,q=>exact q.elim
 |.val (.str z),d,q=>
  cases kG d
  have q':Post X.g W α H (if z.length<=sizeLine then R.ok (!z.isEmpty) S else R.no) Q:=q
  split at q'
  ·rename_i hz
   refine⟨_,⟨by rw [jE];exact hz,?_⟩,q'.here wd rfl⟩
   rw [jE]
   cases z with
   |nil=>rfl
   |cons c r=>
    have h0:((r.length:Int)+1)≠0:=by omega
    simp [h0]
  ·exact q'.elim
 |.val (.tup ds),d,q=>
  obtain⟨a,vs,rfl,s,l⟩:=nL d
  exact⟨_,.inr (.inl ⟨vs,s,(zHY l).symm⟩),q.here wd rfl⟩
 |.val (.scr ds),d,q=>
  obtain⟨a,vs,rfl,s,l⟩:=zUC d
  exact⟨_,.inl ⟨vs,s.l,(zHY l).symm⟩,q.here wd rfl⟩
 |.val (.loc n),d,q=>
  obtain⟨a,rfl,h⟩:=zDP d
  obtain⟨o,h1,h2⟩:=wd.of h
  have q':Post X.g W α H (match S[n]? with |some (.lst ds)=>R.ok (!ds.isEmpty) S|_=>R.no) Q:=q
  rw [h1]at q'
  cases o with
  |lst ds=>
   obtain⟨vs,h3,l⟩:=h2
   exact⟨_,.inl ⟨vs,.of h3,(zHY l).symm⟩,q'.here wd rfl⟩
  |dic ds=>exact q'.elim
  |ins c fs=>exact q'.elim
 |.new ds,⟨a,vs,ex,s,n,l⟩,q=>subst ex;exact⟨_,.inl ⟨vs,.of s,(zHY l).symm⟩,q.here wd rfl⟩
theorem yT(ha:PEm X W a f)(he: ∀whole,isTrue a X.env whole=(do let v <-whole;standAt a.pos;holding [v] (truthy v)):=by intro _;rfl):PTm X W a (λρ S=>(f ρ S).bind zBA):=by
 obtain⟨ta,ha,fa⟩:=ha
 exact⟨_,yFM ha he,λα ρ S σ H Q wd sl q=>fa α ρ S σ H _ wd sl (q.bind λu p S1 α1 H1 e1 x1 w1 d1 q1=>yGC w1 d1.1 (q1.shift x1))⟩
end
section
variable{X:Cx}{W:XW}{a b c e:Expr}{es:List Expr}{f g h:Rho->Sto->R Er}{tf tg:Rho->Sto->R Bool}{af:Rho->Sto->R (List Er)}{pos:Pos}
def zJD(p:Er)(S:Sto)(k:Sto->R Er):R Er:=(asB p S).bind λc S1=>if c=true then k S1 else .ok (.val (.bl false)) S1
def orF(p:Er)(S:Sto)(k:Sto->R Er):R Er:=(asB p S).bind λc S1=>if c=true then .ok (.val (.bl true)) S1 else k S1
theorem cT{op}(ha:PEm X W a f):PEm X W (.BoolOp op [a] pos) f:=let ⟨t,h,k⟩:=ha;⟨t,yMX h,k⟩
theorem hX(ha:PEm X W a f)(hb:PEm X W (.BoolOp .And (b::es) pos) g):PEm X W (.BoolOp .And (a::b::es) pos) (λρ S=>(f ρ S).bind λp S1=>zJD p S1 λS2=>g ρ S2):=by
 obtain⟨ta,ha,fa⟩:=ha
 obtain⟨tb,hb,fb⟩:=hb
 refine⟨_,yMY ha hb,λα ρ S σ H Q wd sl q=>fa α ρ S σ H _ wd sl (q.bind λu p S1 α1 H1 e1 x1 w1 d1 q1=>?_)⟩
 obtain⟨k,rfl,q2⟩:=zPF (q1.shift x1)
 refine⟨k,zFW d1.1,?_⟩
 cases k with
 |true=>rw [iP rfl]at q2 ⊢; exact fb α1 ρ S1 σ H1 _ w1 (sl.ext x1) q2
 |false=>rw [iN0 xF0]at q2 ⊢; exact Post.val q2 w1 (wD false)
theorem yOF(ha:PEm X W a f):PEm X W (.UnaryOp .Not a pos) (λρ S=>(f ρ S).bind λp S1=>(asB p S1).bind λk S2=>.ok (.val (.bl !k)) S2):=by
 obtain⟨ta,ha,fa⟩:=ha
 refine⟨_,yMZ ha,λα ρ S σ H Q wd sl q=>fa α ρ S σ H _ wd sl (q.bind λu p S1 α1 H1 e1 x1 w1 d1 q1=>?_)⟩
 obtain⟨k,rfl,q2⟩:=zPF (q1.shift x1)
 exact⟨k,zFW d1.1,Post.val q2 w1 (wD _)⟩
theorem zBN(ha:PTm X W a tf):PWm X W (.BoolOp .Or [a] pos) tf:=let ⟨t,h,k⟩:=ha;⟨t,yMV h,k⟩
theorem zFX(ha:PTm X W a tf)(hb:PWm X W (.BoolOp .Or (b::es) pos) tg):PWm X W (.BoolOp .Or (a::b::es) pos) (λρ S=>(tf ρ S).bind λk S1=>if k=true then .ok true S1 else tg ρ S1):=by
 obtain⟨ta,ha,fa⟩:=ha
 obtain⟨tb,hb,fb⟩:=hb
 refine⟨_,pw_or ha hb,λα ρ S σ H Q wd sl q=>fa α ρ S σ H _ wd sl (q.bind λu p S1 α1 H1 e1 x1 w1 d1 q1=>?_)⟩
 cases d1
 cases u with
 |true=>rw [iP rfl]at q1 ⊢; exact(q1.shift x1).here w1 rfl
 |false=>rw [iN0 xF0]at q1 ⊢; exact fb α1 ρ S1 σ H1 _ w1 (sl.ext x1) (q1.shift x1)
theorem zIQ(h:PWm X W a tf):PTm X W a tf:=let ⟨t,h,k⟩:=h;⟨t,h.pt,k⟩
theorem kB(ha:PTm X W a tf):PTm X W (.UnaryOp .Not a pos) (λρ S=>(tf ρ S).bind λk S1=>.ok (!k) S1):=by
 obtain⟨ta,ha,fa⟩:=ha
 refine⟨_,yMW ha,λα ρ S σ H Q wd sl q=>fa α ρ S σ H _ wd sl (q.bind λu p S1 α1 H1 e1 x1 w1 d1 q1=>?_)⟩
 cases d1
 exact(q1.shift x1).here w1 rfl
end
section
variable{K:PySem.W.Frag}{H0:Hp}
def zQ:List Er->Sto->List MV×Sto
 |[],S=>([],S)
 |.val d::rs,S=>((d::(zQ rs S).1),(zQ rs S).2)
 |.new xs::rs,S=>((.loc S.length::(zQ rs (S++[.lst xs])).1),(zQ rs (S++[.lst xs])).2)
theorem ArgsE.grow{H0:Hp}{α:List Addr}{H:Hp}{b:Addr}{rs:List Er}{vs:List V}(q:ArgsE K H0 α H rs vs)(n:b∉zIP rs vs):ArgsE K H0 (α++[b]) H rs vs:=by
 induction q with
 |nil=>exact .nil
 |@cons r v rs vs a m l ih=>
  cases r with
  |val d=>exact .cons ⟨Den.ex0 (Ex0.grow α [b] H) a.1,trivial⟩ m (ih (by simpa [zIP]using n))
  |new ds=>
   obtain⟨⟨c,us,rfl,h1,h2,h3⟩,h4⟩:=a
   have n':b∉c::zIP rs vs:=n
   refine .cons ⟨⟨c,us,rfl,h1,λz=>?_,h3.ex0 (Ex0.grow α [b] H)⟩,h4⟩ m (ih λz=>n' (mO _ z))
   rcases mem_append.mp z with z|z
   ·exact h2 z
   ·exact n' (by rw [mS.mp z];exact mF0)
theorem zDB{g:Gm}{H0:Hp}{α0:List Addr}{H:Hp}: ∀{rs:List Er}{vs:List V}{α:List Addr}{S:Sto},Wd g α S H->Ext α0 H0 α H->ArgsE g.K H0 α H rs vs->
  ∃α',Ext α0 H0 α' H/\Ex0 α H α' H/\Wd g α' (zQ rs S).2 H/\DenL g.K α' H (zQ rs S).1 vs
 |_,_,α,S,w,x,.nil=>⟨α,x,⟨⟨[],by simp⟩,λ_ _ h=>h,λ_ _ _ h=>h⟩,w,xG⟩
 |.val d::rs,v::vs,α,S,w,x,.cons a n l=>by
  obtain⟨α',x',y',w',l'⟩:=zDB w x l
  exact⟨α',x',y',w',yX (Den.ex0 y' a.1) l'⟩
 |.new ds::rs,v::vs,α,S,w,x,.cons a n l=>by
  obtain⟨⟨c,us,rfl,h1,h2,h3⟩,h4⟩:=a
  obtain⟨α',x',y',w',l'⟩:=zDB (w.enter h1 h2 h3) (w.enterx x (h4 c rfl) h2) (l.grow (n ds c rfl rfl))
  refine⟨α',x',⟨?_,y'.tup,y'.frz⟩,w',yX (zKS (y'.at ?_)) l'⟩
  ·obtain⟨t,e⟩:=y'.pre
   exact⟨[c]++t,by rw [e,aA]⟩
  ·rw [<-w.len,getElem?_append_right (le_refl _),sub_self];rfl
theorem zHZ: ∀(rs:List Er)(S:Sto),(zQ rs S).1.length=rs.length
 |[],S=>rfl
 |.val d::rs,S=>by show(d::(zQ rs S).1).length=_;rw [lC0,zHZ rs S];rfl
 |.new ds::rs,S=>by show(_::(zQ rs _).1).length=_;rw [lC0,zHZ rs _];rfl
end
section
variable{X:Cx}{W:XW}{a b c e:Expr}{es:List Expr}{f g h:Rho->Sto->R Er}{tf tg:Rho->Sto->R Bool}{af:Rho->Sto->R (List Er)}{pos:Pos}
theorem zC:PAm X W [] (λ_ S=>.ok [] S):=⟨_,zOU,λα ρ S σ H Q wd sl q=>q.here wd .nil⟩
theorem zA(ha:PEm X W a f)(hr:PAm X W es af)(hs:starEach (a::es) X.env=(false,eval a X.env)::starEach es X.env:=by rfl):PAm X W (a::es) (λρ S=>(f ρ S).bind λp S1=>(af ρ S1).bind λps S2=>.ok (p::ps) S2):=by
 obtain⟨ta,ha,fa⟩:=ha
 obtain⟨tr,hr,fr⟩:=hr
 refine⟨_,zDM ha hr hs,λα ρ S σ H Q wd sl q=>fa α ρ S σ H _ wd sl (q.bind λu p S1 α1 H1 e1 x1 w1 d1 q1=>fr α1 ρ S1 σ H1 _ w1 (sl.ext x1) ?_)⟩
 have q1':Post X.g W α H ((af ρ S1).bind λps S2=>.ok (p::ps) S2) Q:=q1
 cases z:af ρ S1 with
 |ok ps S2=>
  rw [z]at q1'
  intro vs α2 H2 x2 w2 d2
  refine q1' (u::vs) α2 H2 (x1.trans x2) w2 (ArgsE.cons (DenE.ext x2 d1) (λds b er eu hb=>?_) (ArgsE.back (λb h=>x1.free h) d2))
  subst er eu
  obtain⟨⟨c,us,ec,h1,_⟩,_⟩:=d1
  cases ec
  have:=ArgsE.nones d2 _ hb
  rw [h1]at this;cases this
 |exc c fs S2=>rw [z]at q1';exact λα2 H2 x2 w2=>q1' α2 H2 (x1.trans x2) w2
 |no=>rw [z]at q1';exact q1'
def jY(rs:List Er)(S:Sto):R Er:=if rs.length<=sizeLine then .ok (.val (.tup (zQ rs S).1)) (zQ rs S).2 else .no
def jZ(rs:List Er)(S:Sto):R Er:=if rs.length<=sizeLine then .ok (.new (zQ rs S).1) (zQ rs S).2 else .no
theorem xZ{x1}(h:PAm X W es af):PEm X W (.Tuple es x1 pos) (λρ S=>(af ρ S).bind jY):=by
 obtain⟨t,h,k⟩:=h
 refine⟨_,yNM h,λα ρ S σ H Q wd sl q=>k α ρ S σ H _ wd sl (q.bind λvs rs S1 α1 H1 e1 x1 w1 d1 q1=>?_)⟩
 have q1':Post X.g W α H (if rs.length<=sizeLine then R.ok (Er.val (.tup (zQ rs S1).1)) (zQ rs S1).2 else R.no) Q:=q1
 split at q1'
 ·rename_i hz
  obtain⟨α2,x2,y2,w2,l2⟩:=zDB w1 x1 d1
  exact⟨by rw [ArgsE.length d1];exact hz,λp hp=>(q1'.shift x2).newt w2 hp l2⟩
 ·exact q1'.elim
theorem xN(h:PAm X W es af):PEm X W (.List es pos) (λρ S=>(af ρ S).bind jZ):=by
 obtain⟨t,h,k⟩:=h
 refine⟨_,yNN h,λα ρ S σ H Q wd sl q=>k α ρ S σ H _ wd sl (q.bind λvs rs S1 α1 H1 e1 x1 w1 d1 q1=>?_)⟩
 have q1':Post X.g W α H (if rs.length<=sizeLine then R.ok (Er.new (zQ rs S1).1) (zQ rs S1).2 else R.no) Q:=q1
 split at q1'
 ·rename_i hz
  obtain⟨α2,x2,y2,w2,l2⟩:=zDB w1 x1 d1
  exact⟨by rw [ArgsE.length d1];exact hz,λp hp=>(q1'.shift x2).newl w2 hp l2⟩
 ·exact q1'.elim
inductive ArgsX(K:PySem.W.Frag)(α:List Addr)(H:Hp):List Er->List V->Prop
 |nil:ArgsX K α H [] []
 |cons {r v rs vs}:DenX K α H r v->ArgsX K α H rs vs->ArgsX K α H (r::rs) (v::vs)
theorem ArgsE.x{K:PySem.W.Frag}{H0:Hp}{α:List Addr}{H:Hp}: ∀{rs vs},ArgsE K H0 α H rs vs->ArgsX K α H rs vs
 |_,_,.nil=>.nil
 |_,_,.cons a _ l=>.cons a.1 (ArgsE.x l)
def zNL(X:Cx)(W:XW)(r:List V->Hp->VK->Prop)(F:List Er->Sto->R Er):Prop:= ∀rs vs α S H Q,Wd X.g α S H->ArgsX X.K α H rs vs->Post X.g W α H (F rs S) Q->r vs H Q
theorem zO{id:String}{r:List V->Hp->VK->Prop}{F:List Er->Sto->R Er}{x:Str}{p:Pos}(hc:CallR X (.builtin id) r)(hF:zNL X W r F)(hg:Gl X x)(hm:X.mg x=none)(hv:bootBuiltins x=some (.builtin id))(ha:PAm X W (e::es) af)
  (hn:x≠"__name__":=by decide) (hdb:(x==("__debug__":Str))=false:=by decide)
  (he:starEach (e::es) X.env=(false,eval e X.env)::starEach es X.env:=by rfl) (hpl:(backTo pos (starEach es X.env)).any (·.1)=false:=by rfl):PEm X W (.Call (.Name x p) (e::es) [] pos) (λρ S=>(af ρ S).bind F):=by
 obtain⟨t,ha,k⟩:=ha
 exact⟨_,zOW hc hg hm hv ha hn hdb he hpl,λα ρ S σ H Q wd sl q=>k α ρ S σ H _ wd sl (q.bind λvs rs S1 α1 H1 e1 x1 w1 d1 q1=>hF rs vs α1 S1 H1 Q w1 (ArgsE.x d1) (q1.shift x1))⟩
theorem wY{T:String}{r:List V->Hp->VK->Prop}{F:List Er->Sto->R Er}{x:Str}{p:Pos}(hc:CallR X (.type T) r)(hF:zNL X W r F)(hg:Gl X x)(hm:X.mg x=none)(hv:bootBuiltins x=some (.type T))(ha:PAm X W (e::es) af)
  (hn:x≠"__name__":=by decide) (hdb:(x==("__debug__":Str))=false:=by decide)
  (he:starEach (e::es) X.env=(false,eval e X.env)::starEach es X.env:=by rfl) (hpl:(backTo pos (starEach es X.env)).any (·.1)=false:=by rfl):PEm X W (.Call (.Name x p) (e::es) [] pos) (λρ S=>(af ρ S).bind F):=by
 obtain⟨t,ha,k⟩:=ha
 exact⟨_,zMD hc hg hm hv ha hn hdb he hpl,λα ρ S σ H Q wd sl q=>k α ρ S σ H _ wd sl (q.bind λvs rs S1 α1 H1 e1 x1 w1 d1 q1=>hF rs vs α1 S1 H1 Q w1 (ArgsE.x d1) (q1.shift x1))⟩
def MtdM(X:Cx)(W:XW)(r:V->List V->Hp->VK->Prop)(F:Er->List Er->Sto->R Er):Prop:= ∀p rs x vs α S H0 H Q α0,Wd X.g α S H->Ext α0 H0 α H->DenX X.K α H p x->ArgsE X.K H0 α H rs vs->Post X.g W α0 H0 (F p rs S) Q->r x vs H Q
def TyM(X:Cx)(T:String)(ty:Er->Sto->Bool):Prop:= ∀p x α S H,Wd X.g α S H->DenX X.K α H p x->ty p S=true->tyV X.K T x H
theorem yBM{T:String}{name:Str}{id:String}{r:V->List V->Hp->VK->Prop}{F:Er->List Er->Sto->R Er}{ty:Er->Sto->Bool}{apos:Pos}(pa:PlainAttrs T)(slot:Slot T name id)(hty:typeOf (.builtin id)=pure (.type "method_descriptor"))(hm:MtR X id r)(hF:MtdM X W r F)(hT:TyM X T ty)
  (ho:PEm X W a f) (ha:PAm X W (e::es) af)
  (hbase:attributeBase a name X.env (eval a X.env)=eval a X.env:=by rfl)
  (hfew:((backTo pos (starEach (e::es) X.env)).all (λx=>!x.1)&&(backToKw pos (keywordEach [] X.env)).all (λx=>x.1.isSome)
   &&decide ((e::es).length+([]:List Keyword).length+(if([]:List Keyword).isEmpty then 0 else 1)<30))=true:=by rfl)
  (hline:(apos.endLine==pos.line)=true:=by rfl) (hs:starEach (e::es) X.env=(false,eval e X.env)::starEach es X.env:=by rfl) (hplain:(backTo pos (starEach es X.env)).any (·.1)=false:=by rfl):
  PEm X W (.Call (.Attribute a name apos) (e::es) [] pos) (λρ S=>(f ρ S).bind λp S1=>if ty p S1=true then(af ρ S1).bind λrs S2=>F p rs S2 else .no):=by
 obtain⟨to,ho,fo⟩:=ho
 obtain⟨t,ha,k⟩:=ha
 refine⟨_,pe_bm pa slot hty hm ho ha hbase hfew hline hs hplain,λα ρ S σ H Q wd sl q=>fo α ρ S σ H _ wd sl (q.bind λu p S1 α1 H1 e1 x1 w1 d1 q1=>?_)⟩
 split at q1
 ·rename_i hz
  exact⟨hT p u α1 S1 H1 w1 d1.1 hz,k α1 ρ S1 σ H1 _ w1 (sl.ext x1) ((q1.shift x1).bind λvs rs S2 α2 H2 e2 x2 w2 d2 q2=>hF p rs u vs α2 S2 H1 H2 Q α1 w2 x2 (d1.1.ext x2) d2 q2)⟩
 ·exact q1.elim
theorem zUE:POm X W none (λ_ S=>.ok none S):=⟨_,yJF,λα ρ S σ H Q wd sl q=>q.here wd rfl⟩
def asI:Er->Sto->R (Option Int)
 |.val (.int i),S=>.ok (some i) S
 |_,_=>.no
theorem dO(ha:PEm X W a f):POm X W (some a) (λρ S=>(f ρ S).bind asI):=by
 obtain⟨ta,ha,fa⟩:=ha
 refine⟨_,yJG ha,λα ρ S σ H Q wd sl q=>fa α ρ S σ H _ wd sl (q.bind λu p S1 α1 H1 e1 x1 w1 d1 q1=>?_)⟩
 unfold asI at q1
 split at q1
 ·exact⟨_,xL d1.1,(q1.shift x1).here w1 rfl⟩
 ·exact q1.elim
def Sl3(X:Cx)(W:XW)(r:V->Option Int->Option Int->Hp->VK->Prop)(F:Er->Option Int->Option Int->Sto->R Er):Prop:= ∀p lo hi x α S H Q,Wd X.g α S H->DenX X.K α H p x->Post X.g W α H (F p lo hi S) Q->r x lo hi H Q
theorem yGD{lo hi:Option Expr}{r:V->Option Int->Option Int->Hp->VK->Prop}{F:Er->Option Int->Option Int->Sto->R Er}{lf hf:Rho->Sto->R (Option Int)}{p2:Pos}(hr:SlR X r)(hF:Sl3 X W r F)(ha:PEm X W a f)(hl:POm X W lo lf)(hh:POm X W hi hf):
  PEm X W (.Subscript a (.Slice lo hi none p2) pos) (λρ S=>(f ρ S).bind λp S1=>(lf ρ S1).bind λl S2=>(hf ρ S2).bind λu S3=>F p l u S3):=by
 obtain⟨ta,ha,fa⟩:=ha
 obtain⟨tl,hl,fl⟩:=hl
 obtain⟨th,hh,fh⟩:=hh
 refine⟨_,yFP hr ha hl hh,λα ρ S σ H Q wd sl q=>fa α ρ S σ H _ wd sl (q.bind λu p S1 α1 H1 e1 x1 w1 d1 q1=>fl α1 ρ S1 σ H1 _ w1 (sl.ext x1) ((q1.shift x1).bind λu2 l S2 α2 H2 e2 x2 w2 d2 q2=>
  fh α2 ρ S2 σ H2 _ w2 ((sl.ext x1).ext x2) ((q2.shift x2).bind λu3 m S3 α3 H3 e3 x3 w3 d3 q3=>?_)))⟩
 cases d2
 cases d3
 exact hF p u2 u3 u α3 S3 H3 Q w3 ((d1.1.ext x2).ext x3) (q3.shift x3)
end
inductive Fl where
 |next (ρ:Rho)|ret (r:Er)|brk (ρ:Rho)|cont (ρ:Rho)
def PostS(g:Gm)(W:XW)(α:List Addr)(H:Hp)(D:Ends):R Fl->Prop
 |.ok (.next ρ) S=> ∀σ α' H',Ext α H α' H'->Wd g α' S H'->Slots g.K α' H' ρ σ->D.nx σ H'
 |.ok (.ret r) S=> ∀v α' H',Ext α H α' H'->Wd g α' S H'->DenE g.K H α' H' r v->D.rt v H'
 |.ok (.brk ρ) S=> ∀σ α' H',Ext α H α' H'->Wd g α' S H'->Slots g.K α' H' ρ σ->D.bk σ H'
 |.ok (.cont ρ) S=> ∀σ α' H',Ext α H α' H'->Wd g α' S H'->Slots g.K α' H' ρ σ->D.ct σ H'
 |.exc c fs S=> ∀α' H',Ext α H α' H'->Wd g α' S H'->W c fs S α' H'
 |.no=>False
section
variable{g:Gm}{W:XW}{α α':List Addr}{H H':Hp}{D D':Ends}
theorem PostS.shift(x:Ext α H α' H'): ∀{m:R Fl},PostS g W α H D m->PostS g W α' H' D m
 |.ok (.next ρ) S,q=>λσ α2 H2 x2 w2 s2=>q σ α2 H2 (x.trans x2) w2 s2
 |.ok (.ret r) S,q=>λv α2 H2 x2 w2 d2=>q v α2 H2 (x.trans x2) w2 (d2.back λb h=>x.free h)
 |.ok (.brk ρ) S,q=>λσ α2 H2 x2 w2 s2=>q σ α2 H2 (x.trans x2) w2 s2
 |.ok (.cont ρ) S,q=>λσ α2 H2 x2 w2 s2=>q σ α2 H2 (x.trans x2) w2 s2
 |.exc c fs S,q=>λα2 H2 x2 w2=>q α2 H2 (x.trans x2) w2
 |.no,q=>q
theorem PostS.expr{β τ:Type}[Dn β τ]{m:R β}{k:β->Sto->R Fl}{Q':τ->Hp->Prop}(q:PostS g W α H D (m.bind k))
  (f: ∀u b S1 α1 H1,m=.ok b S1->Ext α H α1 H1->Wd g α1 S1 H1->Dn.d g H α1 S1 H1 b u->PostS g W α H D (k b S1)->Q' u H1):Post g W α H m Q':=by
 cases m with
 |ok b S=>exact λu α1 H1 x w d=>f u b S α1 H1 rfl x w d q
 |exc c fs S=>exact q
 |no=>exact q
theorem PostS.stmt{m:R Fl}{k:Fl->Sto->R Fl}(q:PostS g W α H D (m.bind k))
  (hn: ∀ρ S σ α1 H1,m=.ok (.next ρ) S->Ext α H α1 H1->Wd g α1 S H1->Slots g.K α1 H1 ρ σ->PostS g W α H D (k (.next ρ) S)->D'.nx σ H1)
  (hr: ∀r S v α1 H1,m=.ok (.ret r) S->Ext α H α1 H1->Wd g α1 S H1->DenE g.K H α1 H1 r v->PostS g W α H D (k (.ret r) S)->D'.rt v H1)
  (hb: ∀ρ S σ α1 H1,m=.ok (.brk ρ) S->Ext α H α1 H1->Wd g α1 S H1->Slots g.K α1 H1 ρ σ->PostS g W α H D (k (.brk ρ) S)->D'.bk σ H1)
  (hc: ∀ρ S σ α1 H1,m=.ok (.cont ρ) S->Ext α H α1 H1->Wd g α1 S H1->Slots g.K α1 H1 ρ σ->PostS g W α H D (k (.cont ρ) S)->D'.ct σ H1):PostS g W α H D' m:=by
 cases m with
 |ok fl S=>
  cases fl with
  |next ρ=>exact λσ α1 H1 x w s=>hn ρ S σ α1 H1 rfl x w s q
  |ret r=>exact λv α1 H1 x w d=>hr r S v α1 H1 rfl x w d q
  |brk ρ=>exact λσ α1 H1 x w s=>hb ρ S σ α1 H1 rfl x w s q
  |cont ρ=>exact λσ α1 H1 x w s=>hc ρ S σ α1 H1 rfl x w s q
 |exc c fs S=>exact q
 |no=>exact q
end
def PSm(X:Cx)(W:XW)(st:Stmt)(F:Rho->Sto->R Fl):Prop:=
 ∃t,PS X st t/\ ∀α ρ S σ H D,Wd X.g α S H->Slots X.K α H ρ σ->PostS X.g W α H D (F ρ S)->t D σ H
def zMI(X:Cx)(W:XW)(st:List Stmt)(F:Rho->Sto->R Fl):Prop:=
 ∃t,PSs X st t/\ ∀α ρ S σ H D,Wd X.g α S H->Slots X.K α H ρ σ->PostS X.g W α H D (F ρ S)->t D σ H
def zU(F G:Rho->Sto->R Fl):Rho->Sto->R Fl:=λρ S=>(F ρ S).bind λfl S1=>match fl with
 |.next ρ'=>G ρ' S1
 |.ret r=>.ok (.ret r) S1
 |.brk ρ'=>.ok (.brk ρ') S1
 |.cont ρ'=>.ok (.cont ρ') S1
section
variable{X:Cx}{W:XW}{st:Stmt}{sts as bs:List Stmt}{F G:Rho->Sto->R Fl}{f g:Rho->Sto->R Er}{tf:Rho->Sto->R Bool}{e c:Expr}{pos:Pos}
theorem yQ:zMI X W [] (λρ S=>.ok (.next ρ) S):=⟨_,yIX,λα ρ S σ H D wd sl q=>q σ α H (Ext.refl α H) wd sl⟩
theorem zK(h:PSm X W st F):zMI X W [st] F:=let ⟨t,h,k⟩:=h;⟨t,yIY h,k⟩
theorem zF(h1:PSm X W st F)(h2:zMI X W sts G):zMI X W (st::sts) (zU F G):=by
 obtain⟨t,h1,k1⟩:=h1
 obtain⟨u,h2,k2⟩:=h2
 refine⟨_,yFC h1 h2,λα ρ S σ H D wd sl q=>k1 α ρ S σ H _ wd sl (q.stmt ?_ ?_ ?_ ?_)⟩
 ·intro ρ1 S1 σ1 α1 H1 e x1 w1 s1 q1
  exact k2 α1 ρ1 S1 σ1 H1 D w1 s1 (PostS.shift x1 q1)
 ·intro r S1 v α1 H1 e x1 w1 d1 q1
  exact q1 v α1 H1 x1 w1 d1
 ·intro ρ1 S1 σ1 α1 H1 e x1 w1 s1 q1
  exact q1 σ1 α1 H1 x1 w1 s1
 ·intro ρ1 S1 σ1 α1 H1 e x1 w1 s1 q1
  exact q1 σ1 α1 H1 x1 w1 s1
theorem zR(he:PEm X W e f):PSm X W (.Return (some e) pos) (λρ S=>(f ρ S).bind λr S1=>.ok (.ret r) S1):=by
 obtain⟨t,he,k⟩:=he
 exact⟨_,yNA he,λα ρ S σ H D wd sl q=>k α ρ S σ H _ wd sl (q.expr λu r S1 α1 H1 e x1 w1 d1 q1=>q1 u α1 H1 x1 w1 d1)⟩
theorem wU:PSm X W st (λ_ _=>.no):=⟨_,yFD,λα ρ S σ H D wd sl q=>q.elim⟩
theorem dP(he:PEm X W e f)(hs:swapsWith e none pos.line X.env=pure false:=by rfl):PSm X W (.Expr e pos) (λρ S=>(f ρ S).bind λ_ S1=>.ok (.next ρ) S1):=by
 obtain⟨t,he,k⟩:=he
 exact⟨_,yIZ he hs,λα ρ S σ H D wd sl q=>k α ρ S σ H _ wd sl (q.expr λu r S1 α1 H1 e x1 w1 d1 q1=>q1 σ α1 H1 x1 w1 (sl.ext x1))⟩
theorem xY(hc:PTm X W c tf)(ha:zMI X W as F)(hb:zMI X W bs G):PSm X W (.If c as bs pos) (λρ S=>(tf ρ S).bind λk S1=>if k=true then F ρ S1 else G ρ S1):=by
 obtain⟨tc,hc,kc⟩:=hc
 obtain⟨ta,ha,ka⟩:=ha
 obtain⟨tb,hb,kb⟩:=hb
 refine⟨_,ps_if hc ha hb,λα ρ S σ H D wd sl q=>kc α ρ S σ H _ wd sl (q.expr λu p S1 α1 H1 e x1 w1 d1 q1=>?_)⟩
 cases d1
 cases u with
 |true=>rw [iP rfl]at q1 ⊢; exact ka α1 ρ S1 σ H1 D w1 (sl.ext x1) (PostS.shift x1 q1)
 |false=>rw [iN0 xF0]at q1 ⊢; exact kb α1 ρ S1 σ H1 D w1 (sl.ext x1) (PostS.shift x1 q1)
instance:Dn Rho St:=⟨λg _ α' _ H' ρ σ=>Slots g.K α' H' ρ σ,λ_ q=>q⟩
def PGm(X:Cx)(W:XW)(tg:Expr)(gf:MV->Rho->Sto->R Rho):Prop:=
 ∃t,PG X tg t/\ ∀α ρ S σ H d v Q,Wd X.g α S H->Slots X.K α H ρ σ->Den X.K α H d v->Post X.g W α H (gf d ρ S) Q->t v σ H Q
def PGsm(X:Cx)(W:XW)(tgs:List Expr)(gf:List MV->Rho->Sto->R Rho):Prop:=
 ∃t,PGs X tgs t/\ ∀α ρ S σ H ds vs Q,Wd X.g α S H->Slots X.K α H ρ σ->DenL X.K α H ds vs->Post X.g W α H (gf ds ρ S) Q->t vs σ H Q
def gNm(i:Nat):MV->Rho->Sto->R Rho:=λd ρ S=>.ok (ρ.set i (some d)) S
theorem xI(i:Nat){x:Str}(hN:X.N.Nodup)(hi:X.N[i]? =some x:=by rfl)(hx:Loc X.env.scope x:=by first |exact Or.inl rfl|exact Or.inr rfl)(hf:X.fn x=true\/X.env.scope.names.lookup x=some .local:=by first |exact .inl rfl|exact .inr rfl|assumption):
  PGm X W (.Name x pos) (gNm i):=⟨_,yBC hN hi hx hf,λα ρ S σ H d v Q wd sl de q=>Post.here (b:=ρ.set i (some d)) q wd (sl.set de)⟩
def jT:List MV->Rho->Sto->R Rho
 |[],ρ,S=>.ok ρ S
 |_,_,_=>.no
def yF(g1:MV->Rho->Sto->R Rho)(g2:List MV->Rho->Sto->R Rho):List MV->Rho->Sto->R Rho
 |d::ds,ρ,S=>(g1 d ρ S).bind λρ1 S1=>g2 ds ρ1 S1
 |_,_,_=>.no
theorem zMJ:PGsm X W [] jT:=⟨_,yJA,λα ρ S σ H ds vs Q wd sl de q=>by
 cases ds with
 |nil=>exact⟨de.isnil,Post.here (b:=ρ) q wd sl⟩
 |cons d ds=>exact q.elim⟩
theorem jF{es:List Expr}{g1:MV->Rho->Sto->R Rho}{g2:List MV->Rho->Sto->R Rho}(h1:PGm X W e g1)(h2:PGsm X W es g2)(hs:(assignEach (e::es) X.env).map (·.2)=assign e X.env::(assignEach es X.env).map (·.2):=by rfl):PGsm X W (e::es) (yF g1 g2):=by
 obtain⟨t1,h1,k1⟩:=h1
 obtain⟨t2,h2,k2⟩:=h2
 refine⟨_,yFF h1 h2 hs,λα ρ S σ H ds vs Q wd sl de q=>?_⟩
 cases ds with
 |nil=>exact q.elim
 |cons d ds=>
  obtain⟨v,r,rfl,a,l⟩:=de.uncons
  refine⟨v,r,rfl,k1 α ρ S σ H d v _ wd sl a (Post.bind q λu p S1 α1 H1 e x1 w1 d1 q1=>k2 α1 p S1 u H1 ds r Q w1 d1 (l.ext x1) (q1.shift x1))⟩
def gTp(n:Nat)(g2:List MV->Rho->Sto->R Rho):MV->Rho->Sto->R Rho
 |.tup ds,ρ,S=>if ds.length=n then g2 ds ρ S else .no
 |_,_,_=>.no
theorem zMK{es:List Expr}{k n:Nat}{g2:List MV->Rho->Sto->R Rho}(hc:X.calm=true)(h:PGsm X W es g2)
  (hn:(assignEach es X.env).length=n:=by rfl) (hst:(assignEach es X.env).findIdx? (·.1)=none:=by rfl):PGm X W (.Tuple es k pos) (gTp n g2):=by
 obtain⟨t,h,k⟩:=h
 refine⟨_,yNC hc h hn hst,λα ρ S σ H d v Q wd sl de q=>?_⟩
 unfold gTp at q
 split at q
 ·split at q
  ·rename_i hl
   obtain⟨a,vs,rfl,s,l⟩:=kF de
   exact⟨a,vs,rfl,s,by rw [l.length];exact hl,k α ρ S σ H _ vs Q wd sl l q⟩
  ·exact q.elim
 ·exact q.elim
def hZ(r:Er)(S:Sto):R MV:=match r with
 |.val d=>.ok d S
 |.new ds=>.ok (.loc S.length) (S++[.lst ds])
theorem nE{g:Gm}{H0:Hp}{α0 α:List Addr}{H:Hp}{S:Sto}{r:Er}{v:V}(w:Wd g α S H)(x:Ext α0 H0 α H)(d:DenE g.K H0 α H r v):
  ∃d' S' α',hZ r S=.ok d' S'/\Ext α0 H0 α' H/\Ex0 α H α' H/\Wd g α' S' H/\Den g.K α' H d' v:=by
 cases r with
 |val d'=>exact⟨d',S,α,rfl,x,⟨⟨[],by simp⟩,λ_ _ h=>h,λ_ _ _ h=>h⟩,w,d.1⟩
 |new ds=>
  obtain⟨⟨c,us,rfl,h1,h2,h3⟩,h4⟩:=d
  exact⟨.loc S.length,S++[.lst ds],α++[c],rfl,w.enterx x (h4 c rfl) h2,Ex0.grow α [c] H,w.enter h1 h2 h3,zKS (by rw [<-w.len,getElem?_append_right (le_refl _),sub_self];rfl)⟩
def zUF(ρ:Rho)(i:Nat)(r:Er)(S:Sto):R Fl:=(hZ r S).bind λd S1=>.ok (.next (ρ.set i (some d))) S1
theorem zM(i:Nat){x:Str}{pos':Pos}(hN:X.N.Nodup)(he:PEm X W e f)(hi:X.N[i]? =some x:=by rfl)(hx:Loc X.env.scope x:=by first |exact Or.inl rfl|exact Or.inr rfl)
  (hs:swapsWith e (some (.Name x pos')) pos.line X.env=pure false:=by rfl) (hf:X.fn x=true\/X.env.scope.names.lookup x=some .local:=by first |exact .inl rfl|exact .inr rfl|assumption):
  PSm X W (.Assign [.Name x pos'] e pos) (λρ S=>(f ρ S).bind (zUF ρ i)):=by
 obtain⟨t,he,k⟩:=he
 refine⟨_,yNE hN hi hx he hs hf,λα ρ S σ H D wd sl q=>k α ρ S σ H _ wd sl (q.expr λu r S1 α1 H1 e x1 w1 d1 q1=>?_)⟩
 obtain⟨d',S',α',e1,x',y',w',de⟩:=nE w1 x1 d1
 unfold zUF at q1
 rw [e1]at q1
 exact q1 _ α' H1 x' w' (((sl.ext x1).ex0 y').set de)
def asgF(gf:MV->Rho->Sto->R Rho)(ρ:Rho)(r:Er)(S:Sto):R Fl:=(hZ r S).bind λd S1=>(gf d ρ S1).bind λρ' S2=>.ok (.next ρ') S2
theorem yGE{tg:Expr}{gf:MV->Rho->Sto->R Rho}(he:PEm X W e f)(hg:PGm X W tg gf)(hs:swapsWithSole [tg] e pos.line X.env=pure false:=by rfl)(hw:swappedStores [tg] e X.env=pure none:=by rfl)
  (h1:(assignEach [tg] X.env).map (·.2)=[assign tg X.env]:=by rfl):PSm X W (.Assign [tg] e pos) (λρ S=>(f ρ S).bind (asgF gf ρ)):=by
 obtain⟨t,he,k⟩:=he
 obtain⟨tg',hg,kg⟩:=hg
 refine⟨_,yND he hg hs hw h1,λα ρ S σ H D wd sl q=>k α ρ S σ H _ wd sl (q.expr λu r S1 α1 H1 e x1 w1 d1 q1=>?_)⟩
 obtain⟨d',S',α',e1,x',y',w',de⟩:=nE w1 x1 d1
 unfold asgF at q1
 rw [e1]at q1
 have q1:PostS X.g W α H D ((gf d' ρ S').bind λρ' S2=>.ok (.next ρ') S2):=q1
 exact kg α' ρ S' σ H1 d' u _ w' ((sl.ext x1).ex0 y') de ((PostS.shift x' q1).expr λσ2 ρ2 S2 α2 H2 e2 x2 w2 s2 q2=>q2 σ2 α2 H2 x2 w2 s2)
structure Wk where
 ds:List MV
 gs:List (Nat×List MV)
def stay(gs:List (Nat×List MV))(S:Sto):Prop:= ∀p∈gs,S[p.1]? =some (.lst p.2)
def ItM(g:Gm)(J:It)(P:List Addr->Sto->Hp->Prop)(ds:List MV):Prop:= ∀i α S H,P α S H->Wd g α S H->(i<ds.length->J.go i H/\ ∀x H',J.yld i H x H'->Ext α H α H'/\Wd g α S H'/\P α S H'/\ ∃d,ds[i]? =some d/\Den g.K α H' d x)/\(ds.length<=i->J.stop i H)
structure WkD(g:Gm)(α:List Addr)(S:Sto)(H:Hp)(k:Wk)(J:It)(P:List Addr->Sto->Hp->Prop):Prop where
 it:ItM g J P k.ds
 here:P α S H
 stays: ∀α1 S1 H1 α2 S2 H2,P α1 S1 H1->Ext α1 H1 α2 H2->Wd g α2 S2 H2->stay k.gs S2->P α2 S2 H2
 st:stay k.gs S
instance:Dn Wk It:=⟨λg _ α S H k J=> ∃P,WkD g α S H k J P,λ_ q=>q⟩
abbrev PIm(X:Cx)(W:XW)(tg iter:Expr)(f:Rho->Sto->R Wk):Prop:=Jd X W (PI X tg iter) f
variable{tg iter:Expr}
theorem zPG{a:Addr}{ds:List MV}:ItM X.g (Itl X.K a) (λα S H=> ∃vs,SqL X.K H a vs/\DenL X.K α H ds vs) ds:=by
 intro i α S H ⟨vs,s,l⟩ w
 have hl:=l.length
 refine⟨λhi=>?_,λhi=>⟨vs,s,by omega⟩⟩
 have hv:i<vs.length:=by omega
 refine⟨⟨vs,vs[i],s,gE0 hv⟩,λx H' y=>?_⟩
 obtain⟨rfl,y⟩:=y
 obtain⟨d,h1,h2⟩:=l.get (y vs s)
 exact⟨Ext.refl _ _,w,⟨vs,s,l⟩,d,h1,h2⟩
theorem yJT{a:Addr}{ds:List MV}:ItM X.g (Itt X.K a) (λα S H=> ∃vs,SqT X.K H a vs/\DenL X.K α H ds vs) ds:=by
 intro i α S H ⟨vs,s,l⟩ w
 have hl:=l.length
 refine⟨λhi=>?_,λhi=>⟨vs,s,by omega⟩⟩
 have hv:i<vs.length:=by omega
 refine⟨⟨vs,vs[i],s,gE0 hv⟩,λx H' y=>?_⟩
 obtain⟨rfl,y⟩:=y
 obtain⟨d,h1,h2⟩:=l.get (y vs s)
 exact⟨Ext.refl _ _,w,⟨vs,s,l⟩,d,h1,h2⟩
theorem yJU{x:List Nat}:ItM X.g (Its x) (λ_ _ _=>True) (x.map λc=>.str [c]):=by
 intro i α S H _ w
 refine⟨λhi=>⟨show i<x.length by simpa using hi,λv H' y=>?_⟩,λhi=>by show x.length<=i;simpa using hi⟩
 obtain⟨rfl,c,h1,h2⟩:=y
 refine⟨Ext.refl _ _,w,trivial,.str [c],by rw [getElem?_map,h1];rfl,?_⟩
 rw [h2]
 exact dN [c]
theorem yDM{lo:Int}{n:Nat}:ItM X.g (Itr lo n) (λ_ _ _=>True) ((List.range n).map λk=>.int (lo+(k:Nat))):=by
 intro i α S H _ w
 refine⟨λhi=>⟨show i<n by simpa using hi,λv H' y=>?_⟩,λhi=>by show n<=i;simpa using hi⟩
 obtain⟨rfl,y⟩:=y
 have hi':i<n:=by simpa using hi
 refine⟨Ext.refl _ _,w,trivial,.int (lo+i),by rw [getElem?_map,List.getElem?_range hi'];rfl,?_⟩
 rw [y]
 exact wA _
def itL:Er->Sto->R Wk
 |.new ds,S=>.ok ⟨ds,[]⟩ S
 |.val (.scr ds),S=>.ok ⟨ds,[]⟩ S
 |.val (.loc l),S=>match S[l]? with
  |some (.lst ds)=>.ok ⟨ds,[(l,ds)]⟩ S
  |_=>.no
 |_,_=>.no
theorem gA{S:Sto}:stay [] S:=λp h=>by simp at h
theorem zUG(he:PEm X W iter f):PIm X W tg iter (λρ S=>(f ρ S).bind itL):=by
 obtain⟨t,he,k⟩:=he
 refine⟨_,yJB he,λα ρ S σ H Rc wd sl q=>k α ρ S σ H _ wd sl (q.bind λu p S1 α1 H1 e x1 w1 d1 q1=>?_)⟩
 replace q1:=q1.shift x1
 unfold itL at q1
 split at q1
 ·rename_i S0 ds
  obtain⟨⟨b,vs,rfl,h1,h2,h3⟩,h4⟩:=d1
  refine⟨b,rfl,⟨vs,.of h1⟩,q1.here (u:=Itl X.K b) w1 ⟨λα2 S2 H2=> ∃vs,SqL X.K H2 b vs/\DenL X.K α2 H2 ds vs/\H2 b=some (.lst vs)/\b∉α2,?_,⟨vs,.of h1,h3,h1,h2⟩,?_,gA⟩⟩
  ·intro i α2 S2 H2 ⟨vs2,a1,a2,a3,a4⟩ w2
   obtain⟨i1,i2⟩:=zPG (X:=X) (a:=b) (ds:=ds) i α2 S2 H2 ⟨vs2,a1,a2⟩ w2
   refine⟨λhi=>⟨(i1 hi).1,λx H' y=>?_⟩,i2⟩
   obtain⟨j1,j2,j3,j4⟩:=(i1 hi).2 x H' y
   obtain⟨rfl,_⟩:=y
   exact⟨j1,j2,⟨vs2,a1,a2,a3,a4⟩,j4⟩
  ·intro α2 S2 H2 α3 S3 H3 ⟨vs2,a1,a2,a3,a4⟩ x w3 _
   exact⟨vs2,.of (x.keep b _ a3 a4),a2.ext x,x.keep b _ a3 a4,x.out a3 a4⟩
 ·rename_i S0 ds
  obtain⟨a,vs,rfl,s,l⟩:=zUC d1.1
  refine⟨a,rfl,⟨vs,s.l⟩,q1.here (u:=Itl X.K a) w1 ⟨λα2 S2 H2=> ∃vs,SqL X.K H2 a vs/\DenL X.K α2 H2 ds vs/\SqF X.K H2 a vs,?_,⟨vs,s.l,l,s⟩,?_,gA⟩⟩
  ·intro i α2 S2 H2 ⟨vs2,a1,a2,a3⟩ w2
   obtain⟨i1,i2⟩:=zPG (X:=X) (a:=a) (ds:=ds) i α2 S2 H2 ⟨vs2,a1,a2⟩ w2
   refine⟨λhi=>⟨(i1 hi).1,λx H' y=>?_⟩,i2⟩
   obtain⟨j1,j2,j3,j4⟩:=(i1 hi).2 x H' y
   obtain⟨rfl,_⟩:=y
   exact⟨j1,j2,⟨vs2,a1,a2,a3⟩,j4⟩
  ·intro α2 S2 H2 α3 S3 H3 ⟨vs2,a1,a2,a3⟩ x w3 _
   exact⟨vs2,(x.sqF a3).l,a2.ext x,x.sqF a3⟩
 ·rename_i S0 n
  obtain⟨a,rfl,h⟩:=zDP d1.1
  obtain⟨o,h1,h2⟩:=w1.of h
  rw [h1]at q1
  cases o with
  |lst ds=>
   obtain⟨vs,h3,l⟩:=h2
   refine⟨a,rfl,⟨vs,.of h3⟩,Post.here (b:=(⟨ds,[(n,ds)]⟩:Wk)) q1 (u:=Itl X.K a) w1 ⟨λα2 S2 H2=> ∃vs,SqL X.K H2 a vs/\DenL X.K α2 H2 ds vs/\α2[n]? =some a,?_,⟨vs,.of h3,l,h⟩,?_,?_⟩⟩
   ·intro i α2 S2 H2 ⟨vs2,a1,a2,a3⟩ w2
    obtain⟨i1,i2⟩:=zPG (X:=X) (a:=a) (ds:=ds) i α2 S2 H2 ⟨vs2,a1,a2⟩ w2
    refine⟨λhi=>⟨(i1 hi).1,λx H' y=>?_⟩,i2⟩
    obtain⟨j1,j2,j3,j4⟩:=(i1 hi).2 x H' y
    obtain⟨rfl,_⟩:=y
    exact⟨j1,j2,⟨vs2,a1,a2,a3⟩,j4⟩
   ·intro α2 S2 H2 α3 S3 H3 ⟨vs2,a1,a2,a3⟩ x w3 hs
    have a3':=x.at a3
    have:=w3.obj n a _ a3' (hs (n,ds) (by simp))
    obtain⟨vs3,b1,b2⟩:=this
    exact⟨vs3,.of b1,b2,a3'⟩
   ·intro p hp
    have:p=(n,ds):=by simpa using hp
    subst this
    exact h1
  |dic ds=>exact q1.elim
  |ins c fs=>exact q1.elim
 ·exact q1.elim
def itT:Er->Sto->R Wk
 |.val (.tup ds),S=>.ok ⟨ds,[]⟩ S
 |_,_=>.no
theorem zML(he:PEm X W iter f):PIm X W tg iter (λρ S=>(f ρ S).bind itT):=by
 obtain⟨t,he,k⟩:=he
 refine⟨_,yNF he,λα ρ S σ H Rc wd sl q=>k α ρ S σ H _ wd sl (q.bind λu p S1 α1 H1 e x1 w1 d1 q1=>?_)⟩
 replace q1:=q1.shift x1
 unfold itT at q1
 split at q1
 ·rename_i S0 ds
  obtain⟨a,vs,rfl,s,l⟩:=nL d1.1
  exact⟨a,rfl,⟨vs,s⟩,q1.here (u:=Itt X.K a) w1 ⟨_,yJT,⟨vs,s,l⟩,λα2 S2 H2 α3 S3 H3 ⟨vs2,a1,a2⟩ x w3 _=>⟨vs2,x.sqT a1,a2.ext x⟩,gA⟩⟩
 ·exact q1.elim
def itS:Er->Sto->R Wk
 |.val (.str x),S=>.ok ⟨x.map λc=>.str [c],[]⟩ S
 |_,_=>.no
theorem yOG(he:PEm X W iter f):PIm X W tg iter (λρ S=>(f ρ S).bind itS):=by
 obtain⟨t,he,k⟩:=he
 refine⟨_,yNX he,λα ρ S σ H Rc wd sl q=>k α ρ S σ H _ wd sl (q.bind λu p S1 α1 H1 e x1 w1 d1 q1=>?_)⟩
 replace q1:=q1.shift x1
 unfold itS at q1
 split at q1
 ·rename_i S0 x
  exact⟨x,kG d1.1,q1.here (u:=Its x) w1 ⟨_,yJU,trivial,λ_ _ _ _ _ _ _ _ _ _=>trivial,gA⟩⟩
 ·exact q1.elim
def zFE:List Er->Sto->R Wk
 |[.val (.int j)],S=>if -(2 ^ 62)<=j/\j<2 ^ 62 then .ok ⟨(List.range j.toNat).map λk=>.int (k:Nat),[]⟩ S else .no
 |_,_=>.no
variable{af:Rho->Sto->R (List Er)}{p:Pos}{a b:Expr}
theorem yBN{K:PySem.W.Frag}{H0:Hp}{α:List Addr}{H:Hp}{r:Er}{vs:List V}(d:ArgsE K H0 α H [r] vs): ∃v,vs=[v]/\DenX K α H r v:=by
 cases d with
 |cons a n l=>cases l;exact⟨_,rfl,a.1⟩
theorem kP(hg:Gl X "range")(hm:X.mg "range"=none)(ha:PAm X W [a] af)(hs:starEach [a] X.env=[(false,eval a X.env)]:=by rfl):PIm X W tg (.Call (.Name "range" p) [a] [] pos) (λρ S=>(af ρ S).bind zFE):=by
 obtain⟨t,ha,k⟩:=ha
 refine⟨_,yDA hg hm ha hs,λα ρ S σ H Rc wd sl q=>k α ρ S σ H _ wd sl (q.bind λvs rs S1 α1 H1 e x1 w1 d1 q1=>?_)⟩
 replace q1:=q1.shift x1
 unfold zFE at q1
 split at q1
 ·split at q1
  ·rename_i S0 j hj
   obtain⟨v,rfl,dv⟩:=yBN d1
   cases xL dv
   have:=yDM (X:=X) (lo:=0) (n:=j.toNat)
   simp only [Int.zero_add]at this
   exact⟨j,rfl,hj.1,hj.2,q1.here (u:=Itr 0 j.toNat) w1 ⟨_,this,trivial,λ_ _ _ _ _ _ _ _ _ _=>trivial,gA⟩⟩
  ·exact q1.elim
 ·exact q1.elim
open Classical in
noncomputable def zDR(gf:MV->Rho->Sto->R Rho)(body:Rho->Sto->R Fl)(gs:List (Nat×List MV)):List MV->Rho->Sto->R Fl
 |[],ρ,S=>.ok (.next ρ) S
 |d::ds,ρ,S=>(gf d ρ S).bind λρ0 S0=>(body ρ0 S0).bind λfl S1=>match fl with
  |.next ρ'=>if stay gs S1 then zDR gf body gs ds ρ' S1 else .no
  |.cont ρ'=>if stay gs S1 then zDR gf body gs ds ρ' S1 else .no
  |.brk ρ'=>.ok (.next ρ') S1
  |.ret r=>.ok (.ret r) S1
open Classical in
theorem gB{itf:Rho->Sto->R Wk}{gf:MV->Rho->Sto->R Rho}(hp:PassesOwn (model X.prog X.w) X.A X.env X.xe)(hc:X.calm=true)(hi:PIm X W tg iter itf)(hg:PGm X W tg gf)(hb:zMI X W as F)
  (hs: ∀y,foldedSetIterable iter X.env y=pure y:=by intro _;rfl):PSm X W (.For tg iter as [] pos) (λρ S=>(itf ρ S).bind λk S1=>zDR gf F k.gs k.ds ρ S1):=by
 obtain⟨wi,hi,ki⟩:=hi
 obtain⟨tg',hg,kg⟩:=hg
 obtain⟨tb,hb,kb⟩:=hb
 refine⟨_,yNG hp hc hi hg hb hs,λα ρ S σ H D wd sl q=>ki α ρ S σ H _ wd sl (q.expr λJ k S1 α1 H1 e x1 w1 d1 q1=>?_)⟩
 obtain⟨P,hP⟩:=d1
 have sl1:=sl.ext x1
 replace q1:=PostS.shift x1 q1
 refine⟨λn m σ2 H2=>m=k.ds.length - n/\n<=k.ds.length/\ ∃α2 ρ2 S2,Wd X.g α2 S2 H2/\Slots X.K α2 H2 ρ2 σ2/\P α2 S2 H2/\PostS X.g W α2 H2 D (zDR gf F k.gs (k.ds.drop n) ρ2 S2),⟨_,rfl,zero_le _,α1,ρ,S1,w1,sl1,hP.here,by simpa using q1⟩,?_⟩
 rintro n m σ2 H2 ⟨rfl,hn,α2,ρ2,S2,w2,sl2,p2,q2⟩
 obtain⟨i1,i2⟩:=hP.it n α2 S2 H2 p2 w2
 by_cases hlt:n<k.ds.length
 ·obtain⟨go,yl⟩:=i1 hlt
  refine .inr ⟨go,λσ3 H3=> ∃α3 ρ3 S3,Wd X.g α3 S3 H3/\Slots X.K α3 H3 ρ3 σ3/\P α3 S3 H3/\PostS X.g W α3 H3 D (zDR gf F k.gs (k.ds.drop (n+1)) ρ3 S3),λσ3 H3 ⟨α3,ρ3,S3,h3⟩=>⟨k.ds.length - (n+1),by omega,rfl,hlt,α3,ρ3,S3,h3⟩,λv H3 y=>?_⟩
  obtain⟨x3,w3,p3,d,hd,dv⟩:=yl v H3 y
  have hdrop:k.ds.drop n=d::k.ds.drop (n+1):=by
   rw [List.drop_eq_getElem_cons hlt]
   have:=gE0 hlt
   rw [hd]at this
   rw [<-Option.some.inj this]
  rw [hdrop]at q2
  unfold zDR at q2
  replace q2:=PostS.shift x3 q2
  refine kg α2 ρ2 S2 σ2 H3 d v _ w3 (sl2.ext x3) dv (q2.expr λσ4 ρ4 S4 α4 H4 e4 x4 w4 s4 q4=>?_)
  have p4: ∀α5 S5 H5,Ext α4 H4 α5 H5->Wd X.g α5 S5 H5->stay k.gs S5->P α5 S5 H5:=λα5 S5 H5 x5 w5 s5=>hP.stays α2 S2 H3 α5 S5 H5 p3 (x4.trans x5) w5 s5
  refine kb α4 ρ4 S4 σ4 H4 _ w4 s4 ((PostS.shift x4 q4).stmt ?_ ?_ ?_ ?_)
  ·intro ρ5 S5 σ5 α5 H5 e5 x5 w5 s5 q5
   have q5':PostS X.g W α4 H4 D (if stay k.gs S5 then zDR gf F k.gs (k.ds.drop (n+1)) ρ5 S5 else .no):=q5
   split at q5'
   ·rename_i hst
    exact⟨α5,ρ5,S5,w5,s5,p4 α5 S5 H5 x5 w5 hst,PostS.shift x5 q5'⟩
   ·exact q5'.elim
  ·intro r S5 v5 α5 H5 e5 x5 w5 d5 q5
   exact q5 v5 α5 H5 x5 w5 d5
  ·intro ρ5 S5 σ5 α5 H5 e5 x5 w5 s5 q5
   exact q5 σ5 α5 H5 x5 w5 s5
  ·intro ρ5 S5 σ5 α5 H5 e5 x5 w5 s5 q5
   have q5':PostS X.g W α4 H4 D (if stay k.gs S5 then zDR gf F k.gs (k.ds.drop (n+1)) ρ5 S5 else .no):=q5
   split at q5'
   ·rename_i hst
    exact⟨α5,ρ5,S5,w5,s5,p4 α5 S5 H5 x5 w5 hst,PostS.shift x5 q5'⟩
   ·exact q5'.elim
 ·have e:n=k.ds.length:=by omega
  subst e
  refine .inl ⟨i2 (le_refl _),?_⟩
  rw [drop_length]at q2
  exact q2 σ2 α2 H2 (Ext.refl _ _) w2 sl2
end
def noX{β:Type}:R β->R β
 |.ok b S=>.ok b S
 |_=>.no
theorem jL{β:Type}(b:β)(S:Sto):noX (R.ok b S)=.ok b S:=rfl
theorem Post.bindY{β τ γ υ:Type}[Dn β τ][Dn γ υ]{g:Gm}{W:XW}{α α':List Addr}{H H':Hp}(x:Ext α H α' H'){m:R β}{k:β->Sto->R γ}{Q:υ->Hp->Prop}{Q':τ->Hp->Prop}(q:Post g W α H ((noX m).bind k) Q)
  (f: ∀u b S1 α1 H1,m=.ok b S1->Ext α' H' α1 H1->Wd g α1 S1 H1->Dn.d g H' α1 S1 H1 b u->Post g W α H (k b S1) Q->Q' u H1):Post g W0 α' H' m Q':=by
 cases m with
 |ok b S=>exact λu α1 H1 x w d=>f u b S α1 H1 rfl x w d q
 |exc c fs S=>exact q.elim
 |no=>exact q
theorem R.bind_assoc{β γ δ:Type}(m:R β)(k1:β->Sto->R γ)(k2:γ->Sto->R δ):(m.bind k1).bind k2=m.bind λb S=>(k1 b S).bind k2:=by cases m<;>rfl
def blk(nt:Nat)(idx:List Nat)(ρ:Rho):Rho:=List.replicate nt none++idx.map λi=>(ρ[i]?).join
open Classical in
noncomputable def kD(gf:MV->Rho->Sto->R Rho)(cf:Rho->Sto->R Bool)(ef:Rho->Sto->R Er)(ρb:Rho)(gs:List (Nat×List MV)):List MV->Sto->R (List MV)
 |[],S=>.ok [] S
 |d::ds,S=>(noX (gf d ρb S)).bind λρ1 S0=>(noX (cf ρ1 S0)).bind λk S1=>
  if k=true then(noX (ef ρ1 S1)).bind λr S2=>(hZ r S2).bind λy S3=>if stay gs S3 then(kD gf cf ef ρb gs ds S3).bind λout S4=>.ok (y::out) S4 else .no
  else if stay gs S1 then kD gf cf ef ρb gs ds S1 else .no
theorem yDN{K:PySem.W.Frag}{α:List Addr}{H:Hp}{ρ:Rho}{σ:St}(q:Slots K α H ρ σ)(nt:Nat)(idx:List Nat)(τ:St)(hτ:τ.length=nt):Slots K α H (blk nt idx ρ) (τ++zME σ idx):=by
 refine⟨by unfold blk;rw [lA,lA,zBC,lM0,length_replicate,hτ],λi d e=>?_⟩
 unfold blk at e
 by_cases hi:i<nt
 ·rw [getElem?_append_left (by rw [length_replicate];exact hi),List.getElem?_replicate]at e
  split at e<;>cases e
 ·rw [getElem?_append_right (by rw [length_replicate];omega),length_replicate,getElem?_map]at e
  cases z:idx[i - nt]? with
  |none=>rw [z]at e;cases e
  |some k=>
   rw [z]at e
   have e2:(ρ[k]?).join=some d:=Option.some.inj e
   cases z2:ρ[k]? with
   |none=>rw [z2]at e2;cases e2
   |some o=>
    rw [z2]at e2
    have e3:o=some d:=e2
    subst e3
    obtain⟨v,h1,h2⟩:=q.slot k d z2
    refine⟨v,?_,h2⟩
    rw [getElem?_append_right (by omega),hτ]
    unfold zME
    rw [getElem?_map,z]
    show some (σ[k]?).join=some (some v)
    rw [h1];rfl
def Keeps(nt:Nat)(σ:St)(Q:St->Hp->Prop):St->Hp->Prop:=λσ' H'=>σ'.length=σ.length->(∀j,nt<=j->σ'[j]? =σ[j]?)->Q σ' H'
def PGn(nt:Nat)(X:Cx)(W:XW)(tg:Expr)(gf:MV->Rho->Sto->R Rho):Prop:=
 ∃t,PG X tg t/\ ∀α ρ S σ H d v Q,Wd X.g α S H->Slots X.K α H ρ σ->Den X.K α H d v->Post X.g W α H (gf d ρ S) (Keeps nt σ Q)->t v σ H Q
section
variable{X:Cx}{W:XW}{e:Expr}{pos:Pos}{nt:Nat}
theorem bV(i:Nat){x:Str}(hN:X.N.Nodup)(hi:X.N[i]? =some x:=by rfl)(hx:Loc X.env.scope x:=by first |exact Or.inl rfl|exact Or.inr rfl)(hf:X.fn x=true\/X.env.scope.names.lookup x=some .local:=by first |exact .inl rfl|exact .inr rfl|assumption)(hlt:i<nt:=by decide):
  PGn nt X W (.Name x pos) (gNm i):=⟨_,yBC hN hi hx hf,λα ρ S σ H d v Q wd sl de q=>Post.here (b:=ρ.set i (some d)) q wd (sl.set de) (by rw [length_set]) λj hj=>by rw [getElem?_set_ne (by omega)]⟩
end
abbrev PIfm(X:Cx)(W:XW)(ifs:List Expr)(f:Rho->Sto->R Bool):Prop:=Jd X W (yFU X ifs) f
section
variable{X:Cx}{W:XW}{iter:Expr}{c:Expr}{tf:Rho->Sto->R Bool}{pos:Pos}
theorem bW:PIfm X W [] (λ_ S=>.ok true S):=⟨_,yFV,λα ρ S σ H Q wd sl q=>q.here wd rfl⟩
open Classical in
theorem yBO{elt tg:Expr}{ifs:List Expr}{sc:Scope}{itf:Rho->Sto->R Wk}{cf:Rho->Sto->R Bool}{ef:Rho->Sto->R Er}{gf:MV->Rho->Sto->R Rho}(osc:Scope)(N:List Str)(T:List Str)(idx:List Nat)
  (hi:PIm X W tg iter itf) (hcalm:X.calm=true)
  (hg: ∀C s₂ H1 fp,([]++T++idx.map λi=>(N[i]?).getD Str.empty).Nodup->PGn T.length (yI X sc T idx C s₂ H1 fp) W0 tg gf)
  (hc: ∀C s₂ H1 fp,PIfm (yI X sc T idx C s₂ H1 fp) W0 ifs cf) (he: ∀C s₂ H1 fp,PEm (yI X sc T idx C s₂ H1 fp) W0 elt ef)
  (e1:X.env.scope=osc:=by rfl) (e2:X.N=N:=by rfl) (hB:zNK osc N sc idx=true:=by decide+kernel) (hN:([]++T++idx.map λi=>(N[i]?).getD Str.empty).Nodup:=by decide+kernel)
  (hs: ∀y,foldedSetIterable iter X.env y=pure y:=by intro _;rfl):
  Jd (β:=Er) (τ:=V) X W (λt=>PE X (.ListComp elt [⟨tg,iter,ifs,0⟩] sc pos) t/\PU X (.ListComp elt [⟨tg,iter,ifs,0⟩] sc pos) t) (λρ S=>(itf ρ S).bind λk S1=>if k.ds.length<1000000 then(kD gf cf ef (blk T.length idx ρ) k.gs k.ds S1).bind λout S2=>.ok (.new out) S2 else .no):=by
 obtain⟨wi,hi,ki⟩:=hi
 subst e1 e2
 have big:(1000000:Nat)<sizeLine:=by rw [sizeLine_eq];decide
 have hg': ∃t,(∀C s₂ H1 fp,PG (yI X sc T idx C s₂ H1 fp) tg t)/\ ∀α ρ S σ H d v Q,Wd X.g α S H->Slots X.K α H ρ σ->Den X.K α H d v->Post X.g W0 α H (gf d ρ S) (Keeps T.length σ Q)->t v σ H Q:=by
  refine⟨λv σ H Q=> ∃α ρ S d,Wd X.g α S H/\Slots X.K α H ρ σ/\Den X.K α H d v/\Post X.g W0 α H (gf d ρ S) (Keeps T.length σ Q),λC s₂ H1 fp pins s σ H v u Q I r ⟨α,ρ,S,d,h1,h2,h3,h4⟩=>?_,λα ρ S σ H d v Q h1 h2 h3 h4=>⟨α,ρ,S,d,h1,h2,h3,h4⟩⟩
  obtain⟨t,ht,kt⟩:=hg C s₂ H1 fp hN
  exact ht pins s σ H v u Q I r (kt α ρ S σ H d v Q h1 h2 h3 h4)
 obtain⟨tg',hg1,kg⟩:=hg'
 refine⟨_,⟨yJM T idx hi hcalm hB hg1 (λC s₂ H1 fp=>(Classical.choose_spec (hc C s₂ H1 fp)).1) (λC s₂ H1 fp=>(Classical.choose_spec (he C s₂ H1 fp)).1) hs,yJP T idx hi hcalm hB hg1 (λC s₂ H1 fp=>(Classical.choose_spec (hc C s₂ H1 fp)).1) (λC s₂ H1 fp=>(Classical.choose_spec (he C s₂ H1 fp)).1) hs⟩,λα ρ S σ H Q wd sl q=>ki α ρ S σ H _ wd sl (q.bind λJ k S1 α1 H1 e1 x1 w1 d1 q1=>?_)⟩
 obtain⟨P,hP⟩:=d1
 split at q1
 ·rename_i hlen
  refine⟨λn m ys H2=>m=k.ds.length - n/\n<=k.ds.length/\ys.length<=n/\ ∃α2 S2,Ext α H α2 H2/\Wd X.g α2 S2 H2/\P α2 S2 H2/\ ∃outs,DenL X.K α2 H2 outs ys/\Post X.g W α H ((kD gf cf ef (blk T.length idx ρ) k.gs (k.ds.drop n) S2).bind λo S'=>.ok (Er.new (outs++o)) S') Q,
   ⟨_,rfl,zero_le _,le_refl _,α1,S1,x1,w1,hP.here,[],xG,by simpa using q1⟩,?_⟩
  rintro n m ys H2 ⟨rfl,hn,hy,α2,S2,x2,w2,p2,outs,l,q2⟩
  obtain⟨i1,i2⟩:=hP.it n α2 S2 H2 p2 w2
  refine⟨by omega,?_⟩
  by_cases hlt:n<k.ds.length
  ·obtain⟨go,yl⟩:=i1 hlt
   refine .inr ⟨go,by omega,λv H3 y τ hτ=>?_⟩
   obtain⟨x3,w3,p3,d,hd,dv⟩:=yl v H3 y
   have hdrop:k.ds.drop n=d::k.ds.drop (n+1):=by
    rw [List.drop_eq_getElem_cons hlt]
    have:=gE0 hlt
    rw [hd]at this
    rw [<-Option.some.inj this]
   rw [hdrop]at q2
   unfold kD at q2
   have slb:=yDN (sl.ext (x2.trans x3)) T.length idx τ hτ
   refine kg α2 (blk T.length idx ρ) S2 _ H3 d v _ w3 slb dv ?_
   rw [R.bind_assoc]at q2
   refine q2.bindY (x2.trans x3) λσ4 ρ4 S4 α4 H4 e4 x4 w4 s4 q4 len4 kp4=>⟨⟨σ4.take T.length,?_,?_⟩,λC s₂ fp=>?_⟩
   ·refine ext_getElem? λj=>?_
    have hl4:σ4.length=T.length+idx.length:=by rw [len4,lA,zBC,hτ]
    by_cases hj:j<T.length
    ·rw [getElem?_append_left (by rw [lT];omega),List.getElem?_take_of_lt hj]
    ·rw [kp4 j (by omega),getElem?_append_right (by omega),getElem?_append_right (by rw [lT];omega),hτ,lT,Nat.min_eq_left (by omega)]
   ·rw [lT,len4,lA,zBC,hτ];omega
   have x34:Ext α H α4 H4:=(x2.trans x3).trans x4
   have p4: ∀α5 S5 H5,Ext α4 H4 α5 H5->Wd X.g α5 S5 H5->stay k.gs S5->P α5 S5 H5:=λα5 S5 H5 x5 w5 s5=>hP.stays α2 S2 H3 α5 S5 H5 p3 (x4.trans x5) w5 s5
   rw [R.bind_assoc]at q4
   refine(Classical.choose_spec (hc C s₂ H1 fp)).2 α4 ρ4 S4 σ4 H4 _ w4 s4 (q4.bindY x34 λb5 b5' S5 α5 H5 e5 x5 w5 d5 q5=>?_)
   cases d5
   cases b5 with
   |false=>
    rw [iN0 xF0]at q5 ⊢
    split at q5
    ·rename_i hst
     exact⟨k.ds.length - (n+1),by omega,rfl,hlt,by omega,α5,S5,x34.trans x5,w5,p4 α5 S5 H5 x5 w5 hst,outs,(l.ext (x3.trans x4)).ext x5,q5⟩
    ·exact q5.elim
   |true=>
    rw [iP rfl,R.bind_assoc]at q5
    rw [iP rfl]
    refine(Classical.choose_spec (he C s₂ H1 fp)).2 α5 ρ4 S5 σ4 H5 _ w5 (s4.ext x5) (q5.bindY (x34.trans x5) λy6 r6 S6 α6 H6 e6 x6 w6 d6 q6=>?_)
    obtain⟨d',S',α',e7,x7,y7,w7,de⟩:=nE w6 x6 d6
    rw [e7]at q6
    have q6:Post X.g W α H ((if stay k.gs S' then(kD gf cf ef (blk T.length idx ρ) k.gs (k.ds.drop (n+1)) S').bind λout S4=>.ok (d'::out) S4 else .no).bind λo S'=>.ok (Er.new (outs++o)) S') Q:=q6
    split at q6
    ·rename_i hst
     refine⟨k.ds.length - (n+1),by omega,rfl,hlt,by rw [lA,lS];omega,α',S',(x34.trans x5).trans x7,w7,p4 α' S' H6 (x5.trans x7) w7 hst,outs++[d'],((l.ext (x3.trans x4)).ext (x5.trans x7)).append (yX de xG),?_⟩
     rw [R.bind_assoc]at q6
     have e8:(λ(o:List MV) (S':Sto)=>R.ok (Er.new ((outs++[d'])++o)) S')=(λ(b:List MV) S=>(R.ok (d'::b) S).bind λo S'=>.ok (Er.new (outs++o)) S'):=by
      funext o S'
      show _=R.ok (Er.new (outs++(d'::o))) S'
      rw [aA];rfl
     rw [e8]
     exact q6
    ·exact q6.elim
  ·have e:n=k.ds.length:=by omega
   subst e
   rw [drop_length]at q2
   have q3:Post X.g W α H (.ok (Er.new (outs++[])) S2) Q:=q2
   rw [aN]at q3
   exact .inl ⟨i2 (le_refl _),λD hD=>(q3.shift x2).newl w2 hD l⟩
 ·exact q1.elim
open Classical in
theorem dQ{elt tg:Expr}{ifs:List Expr}{sc:Scope}{itf:Rho->Sto->R Wk}{cf:Rho->Sto->R Bool}{ef:Rho->Sto->R Er}{gf:MV->Rho->Sto->R Rho}(osc:Scope)(N:List Str)(T:List Str)(idx:List Nat)
  (hi:PIm X W tg iter itf) (hcalm:X.calm=true)
  (hg: ∀C s₂ H1 fp,([]++T++idx.map λi=>(N[i]?).getD Str.empty).Nodup->PGn T.length (yI X sc T idx C s₂ H1 fp) W0 tg gf)
  (hc: ∀C s₂ H1 fp,PIfm (yI X sc T idx C s₂ H1 fp) W0 ifs cf) (he: ∀C s₂ H1 fp,PEm (yI X sc T idx C s₂ H1 fp) W0 elt ef)
  (e1:X.env.scope=osc:=by rfl) (e2:X.N=N:=by rfl) (hB:zNK osc N sc idx=true:=by decide+kernel) (hN:([]++T++idx.map λi=>(N[i]?).getD Str.empty).Nodup:=by decide+kernel)
  (hs: ∀y,foldedSetIterable iter X.env y=pure y:=by intro _;rfl):
  PEm X W (.ListComp elt [⟨tg,iter,ifs,0⟩] sc pos) (λρ S=>(itf ρ S).bind λk S1=>if k.ds.length<1000000 then(kD gf cf ef (blk T.length idx ρ) k.gs k.ds S1).bind λout S2=>.ok (.new out) S2 else .no):=let ⟨t,h,k⟩:=(yBO osc N T idx hi hcalm hg hc he e1 e2 hB hN hs);⟨t,h.1,k⟩
open Classical in
theorem yJV{x:Str}{pos' spos:Pos}(i:Nat)(hNN:X.N.Nodup){elt tg:Expr}{ifs:List Expr}{sc:Scope}{itf:Rho->Sto->R Wk}{cf:Rho->Sto->R Bool}{ef:Rho->Sto->R Er}{gf:MV->Rho->Sto->R Rho}(osc:Scope)(N:List Str)(T:List Str)(idx:List Nat)
  (hi:PIm X W tg iter itf) (hcalm:X.calm=true)
  (hg: ∀C s₂ H1 fp,([]++T++idx.map λi=>(N[i]?).getD Str.empty).Nodup->PGn T.length (yI X sc T idx C s₂ H1 fp) W0 tg gf)
  (hc: ∀C s₂ H1 fp,PIfm (yI X sc T idx C s₂ H1 fp) W0 ifs cf) (he: ∀C s₂ H1 fp,PEm (yI X sc T idx C s₂ H1 fp) W0 elt ef)
  (e1:X.env.scope=osc:=by rfl) (e2:X.N=N:=by rfl) (hB:zNK osc N sc idx=true:=by decide+kernel) (hN:([]++T++idx.map λi=>(N[i]?).getD Str.empty).Nodup:=by decide+kernel)
  (hs: ∀y,foldedSetIterable iter X.env y=pure y:=by intro _;rfl)
  (hi2:X.N[i]? =some x:=by rfl) (hx:Loc X.env.scope x:=by first |exact Or.inl rfl|exact Or.inr rfl)
  (hsw:swapsWith (.ListComp elt [⟨tg,iter,ifs,0⟩] sc pos) (some (.Name x pos')) spos.line X.env=pure true:=by with_unfolding_all rfl) (hf:X.fn x=true\/X.env.scope.names.lookup x=some .local:=by first |exact .inl rfl|exact .inr rfl|assumption):
  PSm X W (.Assign [.Name x pos'] (.ListComp elt [⟨tg,iter,ifs,0⟩] sc pos) spos) (λρ S=>((itf ρ S).bind λk S1=>if k.ds.length<1000000 then(kD gf cf ef (blk T.length idx ρ) k.gs k.ds S1).bind λout S2=>.ok (.new out) S2 else .no).bind (zUF ρ i)):=by
 obtain⟨t,h,k⟩:=(yBO osc N T idx hi hcalm hg hc he e1 e2 hB hN hs)
 refine⟨_,h.2 i x pos' spos hNN hi2 hx hf hsw,λα ρ S σ H D wd sl q=>k α ρ S σ H _ wd sl (q.expr λu r S1 α1 H1 e x1 w1 d1 q1=>?_)⟩
 obtain⟨d',S',α',e1,x',y',w',de⟩:=nE w1 x1 d1
 unfold zUF at q1
 rw [e1]at q1
 exact q1 _ α' H1 x' w' (((sl.ext x1).ex0 y').set de)
end
mutual
def lo(n:Nat):MV->Prop
 |.loc l=>l<n
 |.tup ds=>loL n ds
 |.scr ds=>loL n ds
 |_=>True
def loL(n:Nat):List MV->Prop
 |[]=>True
 |d::ds=>lo n d/\loL n ds
end
def loO(n:Nat):MO->Prop
 |.lst ds=>loL n ds
 |.dic kvs=> ∀p∈kvs,lo n p.1/\lo n p.2
 |.ins _ fs=> ∀p∈fs,lo n p.2
section
variable{K:PySem.W.Frag}{α t:List Addr}{H:Hp}
mutual
theorem Den.back: ∀{d:MV}{v:V},Den K (α++t) H d v->lo α.length d->Den K α H d v
 |.non,_,q,_=>by cases nI q;exact zBE
 |.bl _,_,q,_=>by cases zDA q;exact wD _
 |.int _,_,q,_=>by cases kS q;exact wA _
 |.str _,_,q,_=>by cases jK q;exact dN _
 |.typ _,_,q,_=>by cases nK q;exact yBJ _
 |.loc l,_,q,h=>by
  obtain⟨a,rfl,e⟩:=bA q
  have hl:l<α.length:=by unfold lo at h;exact h
  rw [getElem?_append_left hl]at e
  exact zKS e
 |.tup ds,_,q,h=>by
  obtain⟨a,vs,rfl,s,l⟩:=kF q
  exact zBF s (DenL.back l (by unfold lo at h;exact h))
 |.scr ds,_,q,h=>by
  obtain⟨a,vs,rfl,s,l⟩:=cS q
  exact yBK s (DenL.back l (by unfold lo at h;exact h))
theorem DenL.back: ∀{ds:List MV}{vs:List V},DenL K (α++t) H ds vs->loL α.length ds->DenL K α H ds vs
 |[],_,q,_=>by rw [q.isnil];exact xG
 |d::ds,_,q,h=>by
  obtain⟨v,r,rfl,a,l⟩:=q.uncons
  unfold loL at h
  exact yX (Den.back a h.1) (DenL.back l h.2)
end
mutual
theorem Den.lo: ∀{d:MV}{v:V},Den K α H d v->lo α.length d
 |.non,_,q=>by unfold M.lo;trivial
 |.bl _,_,q=>by unfold M.lo;trivial
 |.int _,_,q=>by unfold M.lo;trivial
 |.str _,_,q=>by unfold M.lo;trivial
 |.typ _,_,q=>by unfold M.lo;trivial
 |.loc l,_,q=>by
  obtain⟨a,rfl,e⟩:=bA q
  unfold M.lo
  exact(gS0.mp e).1
 |.tup ds,_,q=>by
  obtain⟨a,vs,rfl,s,l⟩:=kF q
  unfold M.lo
  exact DenL.lo l
 |.scr ds,_,q=>by
  obtain⟨a,vs,rfl,s,l⟩:=cS q
  unfold M.lo
  exact DenL.lo l
theorem DenL.lo: ∀{ds:List MV}{vs:List V},DenL K α H ds vs->loL α.length ds
 |[],_,q=>by unfold loL;trivial
 |d::ds,_,q=>by
  obtain⟨v,r,rfl,a,l⟩:=q.uncons
  unfold loL
  exact⟨Den.lo a,DenL.lo l⟩
end
theorem DenK.back: ∀{fs gs},DenK K (α++t) H fs gs->(∀p∈fs,M.lo α.length p.1/\M.lo α.length p.2)->DenK K α H fs gs
 |_,_,.nil,_=>.nil
 |_,_,.cons k a l,h=>.cons k (a.back (h _ mF0).2) (DenK.back l λp hp=>h p (mO _ hp))
theorem KeyD.lo{n:Nat}{k:MV}{k':Key}(h:KeyD k k'):M.lo n k:=by
 unfold KeyD at h
 split at h
 ·unfold M.lo;trivial
 ·unfold M.lo;trivial
 ·exact h.elim
theorem DenK.lo: ∀{fs gs},DenK K α H fs gs-> ∀p∈fs,M.lo α.length p.1/\M.lo α.length p.2
 |_,_,.nil=>λp h=>by simp at h
 |_,_,.cons k a l=>λp h=>(mC.mp h).elim (λe=>by subst e;exact⟨k.lo,a.lo⟩) (DenK.lo l p)
theorem DenN.back: ∀{fs xs},DenN K (α++t) H fs xs->(∀p∈fs,M.lo α.length p.1/\M.lo α.length p.2)->DenN K α H fs xs
 |_,_,.nil,_=>.nil
 |_,_,.cons k e a d r l,h=>.cons k e (a.back (h _ mF0).1) (d.back (h _ mF0).2) r (DenN.back l λp hp=>h p (mO _ hp))
theorem DenN.lo: ∀{fs xs},DenN K α H fs xs-> ∀p∈fs,M.lo α.length p.1/\M.lo α.length p.2
 |_,_,.nil=>λp h=>by simp at h
 |_,_,.cons k e a d r l=>λp h=>(mC.mp h).elim (λz=>by subst z;exact⟨a.lo,d.lo⟩) (DenN.lo l p)
theorem DenF.back: ∀{fs gs},DenF K (α++t) H fs gs->(∀p∈fs,M.lo α.length p.2)->DenF K α H fs gs
 |_,_,.nil,_=>.nil
 |_,_,.cons a l,h=>.cons (a.back (h _ mF0)) (DenF.back l λp hp=>h p (mO _ hp))
theorem DenF.lo: ∀{fs gs},DenF K α H fs gs-> ∀p∈fs,M.lo α.length p.2
 |_,_,.nil=>λp h=>by simp at h
 |_,_,.cons a l=>λp h=>(mC.mp h).elim (λe=>by subst e;exact a.lo) (DenF.lo l p)
theorem ObD.back{g:Gm}{a:Addr}{o:MO}(q:ObD g (α++t) H a o)(h:loO α.length o):ObD g α H a o:=by
 cases o with
 |lst ds=>obtain⟨vs,h1,l⟩:=q;exact⟨vs,h1,l.back h⟩
 |dic ds=>
  rcases q with⟨vs,h1,l⟩|⟨vs,h1,l⟩
  ·exact .inl ⟨vs,h1,l.back h⟩
  ·exact .inr ⟨vs,h1,l.back h⟩
 |ins c fs=>obtain⟨C,gs,m,l,r⟩:=q;exact⟨C,gs,m,l.back h,r⟩
theorem ObD.lo{g:Gm}{a:Addr}{o:MO}(q:ObD g α H a o):loO α.length o:=by
 cases o with
 |lst ds=>obtain⟨vs,h1,l⟩:=q;exact l.lo
 |dic ds=>
  rcases q with⟨vs,h1,l⟩|⟨vs,h1,l⟩
  ·exact l.lo
  ·exact l.lo
 |ins c fs=>obtain⟨C,gs,m,l,r⟩:=q;exact l.lo
end
def zSS(S S2:Sto):Prop:=S.length<=S2.length/\ ∀l,l<S.length->S2[l]? =S[l]? \/ ∃o,S2[l]? =some o/\loO S.length o
open Classical in
noncomputable def gX(S:Sto)(r:Er)(S2:Sto):R Er:=
 if zSS S S2 then match r with
  |.val (.loc l)=>if l<S.length then .ok r (S2.take S.length)else match S2[l]? with
   |some (.lst ds)=>if loL S.length ds then .ok (.new ds) (S2.take S.length)else .ok r S2
   |_=>.ok r S2
  |.val d=>if lo S.length d then .ok r (S2.take S.length)else .ok r S2
  |.new ds=>if loL S.length ds then .ok r (S2.take S.length)else .ok r S2
 else .ok r S2
theorem zUH{g:Gm}{α α1 α2 α3:List Addr}{H H1 H3:Hp}{S1 S3:Sto}{r:Er}{v:V}(x1:Ext α H α1 H1)(w1:Wd g α1 S1 H1)(h12: ∃t,α2=α1++t)(x2:Ext α H α2 H1)(x3:Ext α2 H1 α3 H3)(w3:Wd g α3 S3 H3)(d:DenE g.K H1 α3 H3 r v):
  ∃r' S' α',gX S1 r S3=.ok r' S'/\Ext α H α' H3/\Wd g α' S' H3/\DenE g.K H α' H3 r' v:=by
 have x23:=x2.trans x3
 have dfull:DenE g.K H α3 H3 r v:=d.back λb h=>x1.free h
 unfold gX
 by_cases hc:zSS S1 S3
 ·rw [iP hc]
  obtain⟨t,ht⟩: ∃t,α3=α1++t:=by
   obtain⟨t,e⟩:=h12
   obtain⟨u,e'⟩:=x3.pre
   exact⟨t++u,by rw [e',e,aA]⟩
  have hn:α1.length=S1.length:=w1.len
  have xc:Ext α H α1 H3:=⟨⟨x1.pre,x23.tup,x23.frz⟩,x1.new,x23.keep,x23.has⟩
  have wc:Wd g α1 (S3.take S1.length) H3:=by
   refine⟨by rw [lT,hn,Nat.min_eq_left hc.1],w1.nd,λl a o h1 h2=>?_⟩
   have hl:l<S1.length:=by rw [<-hn];exact(gS0.mp h1).1
   rw [List.getElem?_take_of_lt hl]at h2
   have h1':α3[l]? =some a:=by rw [ht,getElem?_append_left (by rw [hn];exact hl)];exact h1
   have q:=w3.obj l a o h1' h2
   rw [ht]at q
   refine q.back ?_
   rcases hc.2 l hl with e|⟨o',e,lo'⟩
   ·rw [e]at h2
    exact(w1.obj l a o h1 h2).lo
   ·rw [h2]at e
    cases e
    rw [hn];exact lo'
  have dlo: ∀d,lo S1.length d->Den g.K α3 H3 d v->DenE g.K H α1 H3 (.val d) v:=λd hd q=>.val ((ht▸q:Den g.K (α1++t) H3 d v).back (by rw [hn];exact hd))
  cases r with
  |new ds=>
   dsimp only
   split
   ·rename_i hl
    obtain⟨⟨b,vs,rfl,h1,h2,h3⟩,h4⟩:=dfull
    exact⟨_,_,α1,rfl,xc,wc,⟨b,vs,rfl,h1,λz=>h2 (by rw [ht];exact mem_append_left _ z),(ht▸h3:DenL g.K (α1++t) H3 ds vs).back (by rw [hn];exact hl)⟩,h4⟩
   ·exact⟨_,_,α3,rfl,x23,w3,dfull⟩
  |val mv=>
   have dd:Den g.K α3 H3 mv v:=dfull.1
   cases mv with
   |loc l=>
    dsimp only
    split
    ·rename_i hl
     exact⟨_,_,α1,rfl,xc,wc,dlo _ (by unfold lo;exact hl) dd⟩
    ·rename_i hl
     obtain⟨a,rfl,ha⟩:=bA dd
     split
     ·rename_i ds hS
      split
      ·rename_i hlo
       obtain⟨vs,h1,h2⟩:=w3.obj l a _ ha hS
       have hna:a∉α1:=λz=>by
        obtain⟨m,hm⟩:=List.getElem?_of_mem z
        have hml:m<α1.length:=(gS0.mp hm).1
        have hm':α3[m]? =some a:=by rw [ht,getElem?_append_left hml];exact hm
        obtain⟨u1,e1⟩:=gS0.mp hm'
        obtain⟨u2,e2⟩:=gS0.mp ha
        have:=(getElem_inj w3.nd).mp (e1.trans e2.symm)
        omega
       refine⟨_,_,α1,rfl,xc,wc,⟨a,vs,rfl,h1,hna,(ht▸h2:DenL g.K (α1++t) H3 ds vs).back (by rw [hn];exact hlo)⟩,λb e=>?_⟩
       cases e
       rcases x23.new a (mem_of_getElem? ha)with z|z
       ·obtain⟨u,eu⟩:=x1.pre
        exact absurd (by rw [eu];exact mem_append_left _ z) hna
       ·exact z
      ·exact⟨_,_,α3,rfl,x23,w3,dfull⟩
     ·exact⟨_,_,α3,rfl,x23,w3,dfull⟩
   |non=>dsimp only;split;(· rename_i hl;exact⟨_,_,α1,rfl,xc,wc,dlo _ hl dd⟩);(· exact⟨_,_,α3,rfl,x23,w3,dfull⟩)
   |bl b=>dsimp only;split;(· rename_i hl;exact⟨_,_,α1,rfl,xc,wc,dlo _ hl dd⟩);(· exact⟨_,_,α3,rfl,x23,w3,dfull⟩)
   |int b=>dsimp only;split;(· rename_i hl;exact⟨_,_,α1,rfl,xc,wc,dlo _ hl dd⟩);(· exact⟨_,_,α3,rfl,x23,w3,dfull⟩)
   |str b=>dsimp only;split;(· rename_i hl;exact⟨_,_,α1,rfl,xc,wc,dlo _ hl dd⟩);(· exact⟨_,_,α3,rfl,x23,w3,dfull⟩)
   |typ b=>dsimp only;split;(· rename_i hl;exact⟨_,_,α1,rfl,xc,wc,dlo _ hl dd⟩);(· exact⟨_,_,α3,rfl,x23,w3,dfull⟩)
   |tup b=>dsimp only;split;(· rename_i hl;exact⟨_,_,α1,rfl,xc,wc,dlo _ hl dd⟩);(· exact⟨_,_,α3,rfl,x23,w3,dfull⟩)
   |scr b=>dsimp only;split;(· rename_i hl;exact⟨_,_,α1,rfl,xc,wc,dlo _ hl dd⟩);(· exact⟨_,_,α3,rfl,x23,w3,dfull⟩)
 ·rw [iN0 hc]
  exact⟨_,_,α3,rfl,x23,w3,dfull⟩
def spM(g:Gm)(n:Nat)(F:List MV->Sto->R Er):Sp:=λvs H Q _=> ∃α S ds,Wd g α S H/\DenL g.K α H ds vs/\ds.length=n/\Post g W0 α H (F ds S) Q
noncomputable def zP(n:Nat)(F:List MV->Sto->R Er)(rs:List Er)(S:Sto):R Er:=if rs.length=n then(noX (F (zQ rs S).1 (zQ rs S).2)).bind λr S2=>gX S r S2 else .no
section
variable{X:Cx}{W:XW}{e:Expr}{es:List Expr}{af:Rho->Sto->R (List Er)}{pos:Pos}
theorem zST{n:Nat}{F:List MV->Sto->R Er}{rs:List Er}{vs:List V}{α α1:List Addr}{H H1:Hp}{S1:Sto}{Q:VK}(x1:Ext α H α1 H1)(w1:Wd X.g α1 S1 H1)(d1:ArgsE X.K H α1 H1 rs vs)(q:Post X.g W α H (zP n F rs S1) Q):
  spM X.g n F vs H1 Q E0:=by
 unfold zP at q
 split at q
 ·rename_i hl
  obtain⟨α2,x2,y2,w2,l2⟩:=zDB w1 x1 d1
  refine⟨α2,_,_,w2,l2,by rw [zHZ];exact hl,?_⟩
  cases z:F (zQ rs S1).1 (zQ rs S1).2 with
  |ok r S3=>
   rw [z]at q
   intro v α3 H3 x3 w3 d3
   obtain⟨r',S',α',e',x',w',d'⟩:=zUH x1 w1 y2.pre x2 x3 w3 d3
   have q:Post X.g W α H (gX S1 r S3) Q:=q
   rw [e']at q
   exact q v α' H3 x' w' d'
  |exc c fs S3=>rw [z]at q;exact q.elim
  |no=>rw [z]at q;exact q.elim
 ·exact q.elim
theorem yJW{k n:Nat}{fa:Addr}{fd:FuncData}{ps:List Str}{F:List MV->Sto->R Er}{x:Str}{p:Pos}(G:FnOk X.prog X.w X.K X.mg X.base CX0 k fa fd ps (spM X.g n F))(hr:Room k X.A)(hg:Gl X x)(hm:X.mg x=some (.ref fa))
  (hk:PySem.W.keepIn X.K (.ref fa)=true) (hb:Binds X.K fd ps []) (ha:PAm X W (e::es) af) (hdb:(x==("__debug__":Str))=false:=by decide)
  (he:starEach (e::es) X.env=(false,eval e X.env)::starEach es X.env:=by rfl) (hpl:(backTo pos (starEach es X.env)).any (·.1)=false:=by rfl):
  PEm X W (.Call (.Name x p) (e::es) [] pos) (λρ S=>(af ρ S).bind λrs S1=>zP n F rs S1):=by
 obtain⟨t,ha,kk⟩:=ha
 refine⟨_,yBE G hr hg hm hk hb .nil pass0 ha hdb he hpl,λα ρ S σ H Q wd sl q=>kk α ρ S σ H _ wd sl (q.bind λvs rs S1 α1 H1 e1 x1 w1 d1 q1=>?_)⟩
 rw [aN]
 exact zST x1 w1 d1 q1
end
def zN(N:List Str)(ds:List MV):Rho:=ds.map some++List.replicate (N.length - ds.length) none
def yH:R Fl->R Er
 |.ok (.next _) S=>.ok (.val .non) S
 |.ok (.ret r) S=>.ok r S
 |.exc c fs S=>.exc c fs S
 |_=>.no
theorem zFY{K:PySem.W.Frag}{α:List Addr}{N:List Str}{H:Hp}{ds:List MV}{vs:List V}(l:DenL K α H ds vs):Slots K α H (zN N ds) (start N vs):=by
 have hlen:=l.length
 refine⟨?_,λi d e=>?_⟩
 ·unfold start zN
  rw [lA,lA,lM0,lM0,length_replicate,length_replicate,hlen]
 ·unfold zN at e
  by_cases hi:i<ds.length
  ·rw [getElem?_append_left (by simpa using hi),getElem?_map]at e
   cases z:ds[i]? with
   |none=>rw [z]at e;cases e
   |some d'=>
    rw [z]at e
    obtain⟨v,h1,h2⟩:=l.at z
    have e':d'=d:=Option.some.inj (Option.some.inj e)
    subst e'
    refine⟨v,?_,h2⟩
    unfold start
    rw [getElem?_append_left (by rw [lM0,hlen];exact hi),getElem?_map,h1];rfl
  ·rw [getElem?_append_right (by simpa using hi),List.getElem?_replicate]at e
   split at e<;>cases e
section
variable{P:Program}{w:World}{K:PySem.W.Frag}{mg:Str->Option Value}{base:Heap}
theorem okM{x qual:Str}{st:Stmt}{f:Addr}{fd:FuncData}{N ps:List Str}{k:Nat}(Fb:Rho->Sto->R Fl)(F:Fun K x qual st f fd)(Sc:FnScope N ps (zH st))
  (hbody: ∀(cdv:Value)(A:Around)(outer:List Env)(s:Shared)(H:Hp)(E:XK),Room k (A.deeper (envOfC qual (zH st) s.heap.objs.size f cdv))->
   zMI (zOV CX0 P w K mg base N qual (zH st) f cdv A outer s H E).nox W0 (jD st) Fb):
  FnOk P w K mg base CX0 (k+1) f fd ps (spM ⟨K,mg,P,w⟩ ps.length λds S=>yH (Fb (zN N ds) S)):=by
 refine F.ok Sc (λvs H Q E h=>?_) (λcdv A outer s H vs Q E hr h=>?_)
 ·obtain⟨α,S,ds,_,l,hl,_⟩:=h
  rw [l.length,hl]
 ·obtain⟨α,S,ds,wd,l,hl,q⟩:=h
  obtain⟨t,ht,kk⟩:=hbody cdv A outer s H E hr
  refine⟨t,ht,kk α (zN N ds) S (start N vs) H _ wd (zFY l) ?_⟩
  dsimp only at q
  cases z:Fb (zN N ds) S with
  |ok fl S'=>
   rw [z]at q
   cases fl with
   |next ρ=>exact λσ α' H' x' w' s'=>q .non α' H' x' w' (DenE.val zBE)
   |ret r=>exact λv α' H' x' w' d'=>q v α' H' x' w' d'
   |brk ρ=>exact q.elim
   |cont ρ=>exact q.elim
  |exc c fs S'=>rw [z]at q;exact λα' H' x' w'=>q α' H' x' w'
  |no=>rw [z]at q;exact q
end
inductive Vw where
 |fl (v:V)|tp (ds:List MV)|ls (ds:List MV)
def cG(S:Sto):Er->Option (List MV)
 |.new ds=>some ds
 |.val (.scr ds)=>some ds
 |.val (.loc l)=>match S[l]? with
  |some (.lst ds)=>some ds
  |_=>none
 |_=>none
def vwE(S:Sto):Er->Option Vw
 |.val .non=>some (.fl .non)
 |.val (.bl b)=>some (.fl (.bl b))
 |.val (.int i)=>some (.fl (.int i))
 |.val (.str x)=>some (.fl (.str (mkS x)))
 |.val (.tup ds)=>some (.tp ds)
 |.val (.typ _)=>none
 |r=>(cG S r).map .ls
def prs(e:MV->MV->Option Bool):List MV->List MV->Option (List Bool)
 |d::ds,f::fs=>(e d f).bind λk=>(prs e ds fs).map (k::·)
 |_,_=>some []
def eqW(e:MV->MV->Option Bool):Vw->Vw->Option Bool
 |.fl x,.fl y=>some (eqV x y)
 |.tp ds,.tp es=>(prs e ds es).map λbs=>bs.all id&&ds.length==es.length
 |.ls ds,.ls es=>if ds.length=es.length then(prs e ds es).map λbs=>bs.all id else some false
 |_,_=>some false
theorem zZH(e:MV->MV->Option Bool)(ds es:List MV):eqW e (.tp ds) (.tp es)=(prs e ds es).map λbs=>bs.all id&&ds.length==es.length:=rfl
theorem zZI(e:MV->MV->Option Bool)(ds es:List MV):eqW e (.ls ds) (.ls es)=if ds.length=es.length then(prs e ds es).map λbs=>bs.all id else some false:=rfl
def eqv(S:Sto):Nat->MV->MV->Option Bool
 |0,_,_=>none
 |n+1,a,b=>(vwE S (.val a)).bind λx=>(vwE S (.val b)).bind λy=>eqW (eqv S n) x y
def zKT(S:Sto)(n:Nat)(a b:Er):Option Bool:=(vwE S a).bind λx=>(vwE S b).bind λy=>eqW (eqv S n) x y
section
variable{X:Cx}{α:List Addr}{S:Sto}{H:Hp}
theorem zKU{K:PySem.W.Frag}{g:Gm}(hK:g.K=K)(wd:Wd g α S H){r:Er}{ds:List MV}{x:V}(e:cG S r=some ds)(d:DenX K α H r x): ∃a vs,x=.ref a/\SqL K H a vs/\DenL K α H ds vs:=by
 subst hK
 unfold cG at e
 split at e
 ·cases e
  obtain⟨b,vs,rfl,h,_,l⟩:=d
  exact⟨b,vs,rfl,.of h,l⟩
 ·cases e
  obtain⟨a,vs,rfl,s,l⟩:=zUC d
  exact⟨a,vs,rfl,s.l,l⟩
 ·rename_i n
  obtain⟨a,rfl,h⟩:=zDP d
  split at e
  ·rename_i es hS
   cases e
   obtain⟨vs,h1,l⟩:=wd.obj n a _ h hS
   exact⟨a,vs,rfl,.of h1,l⟩
  ·cases e
 ·cases e
theorem zFF{r:Er}{x y:V}(e:vwE S r=some (.fl y))(d:DenX X.K α H r x):x=y/\wS y=true:=by
 unfold vwE at e
 split at e
 ·cases e;exact⟨zZG d,rfl⟩
 ·cases e;exact⟨zFW d,rfl⟩
 ·cases e;exact⟨xL d,rfl⟩
 ·cases e;exact⟨kG d,rfl⟩
 ·cases e
 ·cases e
 ·cases z:cG S r<;>rw [z]at e<;>cases e
theorem zFG{r:Er}{x:V}{ds:List MV}(e:vwE S r=some (.tp ds))(d:DenX X.K α H r x): ∃a vs,x=.ref a/\SqT X.K H a vs/\DenL X.K α H ds vs:=by
 unfold vwE at e
 split at e
 ·cases e
 ·cases e
 ·cases e
 ·cases e
 ·cases e;exact nL d
 ·cases e
 ·cases z:cG S r<;>rw [z]at e<;>cases e
theorem zFH(wd:Wd X.g α S H){r:Er}{x:V}{ds:List MV}(e:vwE S r=some (.ls ds))(d:DenX X.K α H r x): ∃a vs,x=.ref a/\SqL X.K H a vs/\DenL X.K α H ds vs:=by
 unfold vwE at e
 split at e
 ·cases e
 ·cases e
 ·cases e
 ·cases e
 ·cases e
 ·cases e
 ·cases z:cG S r with
  |none=>rw [z]at e;cases e
  |some es=>rw [z]at e;cases e;exact zKU rfl wd z d
theorem zIA{e:MV->MV->Option Bool}: ∀{ds es:List MV}{bs:List Bool},prs e ds es=some bs->bs.length=min ds.length es.length
 |[],_,_,h=>by simp [prs]at h;subst h;simp
 |_::_,[],_,h=>by simp [prs]at h;subst h;simp
 |d::ds,f::fs,bs,h=>by
  unfold prs at h
  cases z:e d f with
  |none=>rw [z]at h;cases h
  |some k=>
   rw [z]at h
   cases z2:prs e ds fs with
   |none=>simp [z2]at h
   |some cs=>
    simp [z2]at h
    subst h
    simp [zIA z2]
theorem zUI{e:MV->MV->Option Bool}: ∀{ds es:List MV}{bs:List Bool}{j:Nat}{d f:MV},prs e ds es=some bs->ds[j]? =some d->es[j]? =some f->e d f=some (bs.getD j true)
 |[],_,_,_,_,_,h,h1,_=>by simp at h1
 |_::_,[],_,_,_,_,h,_,h2=>by simp at h2
 |d::ds,f::fs,bs,j,d',f',h,h1,h2=>by
  unfold prs at h
  cases z:e d f with
  |none=>rw [z]at h;cases h
  |some k=>
   rw [z]at h
   cases z2:prs e ds fs with
   |none=>simp [z2]at h
   |some cs=>
    simp [z2]at h
    subst h
    cases j with
    |zero=>simp at h1 h2;subst h1 h2;simpa using z
    |succ j=>simpa using zUI z2 (by simpa using h1) (by simpa using h2)
theorem range_all{bs:List Bool}{n:Nat}(h:bs.length=n):(List.range n).all (λj=>bs.getD j true)=bs.all id:=by
 subst h
 rw [Bool.eq_iff_iff,all_eq_true,all_eq_true]
 constructor
 ·intro h x hx
  obtain⟨i,hi,rfl⟩:=List.getElem_of_mem hx
  have:=h i (mem_range.mpr hi)
  simpa [getD_eq_getElem?_getD,hi]using this
 ·intro h i hi
  have hi':=mem_range.mp hi
  have:=h bs[i] (getElem_mem hi')
  simpa [getD_eq_getElem?_getD,hi']using this
variable{pins:List (Addr×Obj)}{σ:St}{s:Shared}
theorem zKV(I:Inv X pins σ H s){a:Addr}{xs ys:List V}(h:SqL X.K H a xs)(h':SqT X.K H a ys):False:=by
 obtain⟨_,_,pl,_⟩:=I.list h
 obtain⟨_,_,pt,_⟩:=I.tuple h'
 obtain⟨o,n,e,c,_,_⟩:=pl
 obtain⟨o',e',c',_⟩:=pt
 rw [e]at e'
 cases e'
 rw [c]at c'
 exact absurd c' (by simp)
theorem yGF(I:Inv X pins σ H s)(wd:Wd X.g α S H){e:MV->MV->Option Bool}(he: ∀d f v k,Den X.K α H d v->Den X.K α H f v->e d f=some k->k=true){a b:Er}{x:V}{p q:Vw}{k:Bool}
  (ha:vwE S a=some p) (hb:vwE S b=some q) (da:DenX X.K α H a x) (db:DenX X.K α H b x) (h:eqW e p q=some k):k=true:=by
 have hp: ∀{ds es:List MV}{vs:List V}{bs:List Bool},DenL X.K α H ds vs->DenL X.K α H es vs->prs e ds es=some bs->bs.all id=true:=by
  intro ds es vs bs l1 l2 z
  rw [all_eq_true]
  intro k hk
  obtain⟨i,hi,rfl⟩:=List.getElem_of_mem hk
  have hl:=zIA z
  have h1:i<ds.length:=by omega
  have h2:i<es.length:=by omega
  obtain⟨v,g1,g2⟩:=l1.at (gE0 h1)
  obtain⟨v',g3,g4⟩:=l2.at (gE0 h2)
  rw [g1]at g3;cases g3
  have:=he _ _ _ _ g2 g4 (zUI z (gE0 h1) (gE0 h2))
  simpa [getD_eq_getElem?_getD,hi]using this
 cases p with
 |fl y=>
  obtain⟨rfl,f1⟩:=zFF ha da
  cases q with
  |fl z=>obtain⟨rfl,f2⟩:=zFF hb db;cases h;exact yFW f1
  |tp ds=>obtain⟨a,vs,rfl,_⟩:=zFG hb db;exact absurd (show false=true from f1) xF0
  |ls ds=>obtain⟨a,vs,rfl,_⟩:=zFH wd hb db;exact absurd (show false=true from f1) xF0
 |tp ds=>
  obtain⟨a1,vs,rfl,s1,l1⟩:=zFG ha da
  cases q with
  |fl z=>obtain⟨rfl,f2⟩:=zFF hb db;exact absurd (show false=true from f2) xF0
  |tp es=>
   obtain⟨a2,us,e2,s2,l2⟩:=zFG hb db
   cases e2
   cases I.tuple_inj s1 s2
   rw [zZH]at h
   cases z:prs e ds es with
   |none=>rw [z]at h;cases h
   |some bs=>
    rw [z]at h
    cases h
    show(bs.all id&&ds.length==es.length)=true
    rw [hp l1 l2 z, <-l1.length, <-l2.length];simp
  |ls es=>obtain⟨a2,us,e2,s2,l2⟩:=zFH wd hb db;cases e2;exact(zKV I s2 s1).elim
 |ls ds=>
  obtain⟨a1,vs,rfl,s1,l1⟩:=zFH wd ha da
  cases q with
  |fl z=>obtain⟨rfl,f2⟩:=zFF hb db;exact absurd (show false=true from f2) xF0
  |tp es=>obtain⟨a2,us,e2,s2,l2⟩:=zFG hb db;cases e2;exact(zKV I s1 s2).elim
  |ls es=>
   obtain⟨a2,us,e2,s2,l2⟩:=zFH wd hb db
   cases e2
   cases I.list_inj s1 s2
   rw [zZI]at h
   rw [iP (by rw [<-l1.length, <-l2.length])]at h
   cases z:prs e ds es with
   |none=>rw [z]at h;cases h
   |some bs=>rw [z]at h;cases h;exact hp l1 l2 z
theorem zPH(I:Inv X pins σ H s)(wd:Wd X.g α S H): ∀(n:Nat)(d f:MV)(v:V)(k:Bool),Den X.K α H d v->Den X.K α H f v->eqv S n d f=some k->k=true
 |0,_,_,_,_,_,_,h=>by cases h
 |n+1,d,f,v,k,h1,h2,h=>by
  unfold eqv at h
  cases za:vwE S (.val d)with
  |none=>rw [za]at h;cases h
  |some p=>
   cases zb:vwE S (.val f)with
   |none=>rw [za,zb]at h;cases h
   |some q=>
    rw [za,zb]at h
    exact yGF I wd (zPH I wd n) za zb (a:=.val d) (b:=.val f) h1 h2 h
theorem zKW{e:MV->MV->Option Bool}{A:Around}(he: ∀d f x y u v k,Den X.K α H d x->Den X.K α H f y->RelV x u->RelV y v->e d f=some k->SeqAt.EqAt A s u v k)
  {ds es:List MV} {vs us:List V} {its its2:List Value} {bs:List Bool} (l1:DenL X.K α H ds vs) (l2:DenL X.K α H es us) (r1:Vals vs its) (r2:Vals us its2) (z:prs e ds es=some bs):
  ∀j (h1:j<its.toArray.size) (h2:j<its2.toArray.size),SeqAt.EqAt A s its.toArray[j] its2.toArray[j] (bs.getD j true):=by
 intro j h1 h2
 have g1:j<vs.length:=by rw [r1.length];simpa using h1
 have g2:j<us.length:=by rw [r2.length];simpa using h2
 obtain⟨d,d1,d2⟩:=l1.get (gE0 g1)
 obtain⟨f,f1,f2⟩:=l2.get (gE0 g2)
 obtain⟨u,u1,u2⟩:=r1.get (gE0 g1)
 obtain⟨v,v1,v2⟩:=r2.get (gE0 g2)
 have e1:its.toArray[j]=u:=by
  have:its[j]? =some (its[j]'(by simpa using h1)):=gE0 _
  rw [u1]at this
  simpa using(Option.some.inj this).symm
 have e2:its2.toArray[j]=v:=by
  have:its2[j]? =some (its2[j]'(by simpa using h2)):=gE0 _
  rw [v1]at this
  simpa using(Option.some.inj this).symm
 rw [e1,e2]
 exact he d f _ _ u v _ d2 f2 u2 v2 (zUI z d1 f1)
theorem zUJ(I:Inv X pins σ H s)(wd:Wd X.g α S H): ∀(n:Nat)(A:Around)(d f:MV)(x y:V)(u v:Value)(k:Bool),A.units+n<cLine->Den X.K α H d x->Den X.K α H f y->RelV x u->RelV y v->eqv S n d f=some k->SeqAt.EqAt A s u v k
 |0,_,_,_,_,_,_,_,_,_,_,_,_,_,h=>by cases h
 |n+1,A,d,f,x,y,u,v,k,hu,h1,h2,rx,ry,h=>by
  have hu0:A.units<cLine:=by omega
  have hsame:=h
  unfold eqv at h
  cases za:vwE S (.val d)with
  |none=>rw [za]at h;cases h
  |some p=>
   cases zb:vwE S (.val f)with
   |none=>rw [za,zb]at h;cases h
   |some q=>
    rw [za,zb]at h
    have h:eqW (eqv S n) p q=some k:=h
    have he:=λd f x y u v k a b c d' e=>zUJ I wd n A.in1 d f x y u v k (show A.units+1+n<cLine by omega) a b c d' e
    cases p with
    |fl x'=>
     obtain⟨rfl,fx⟩:=zFF za (α:=α) (H:=H) (X:=X) h1
     cases q with
     |fl y'=>obtain⟨rfl,fy⟩:=zFF zb (α:=α) (H:=H) (X:=X) h2;cases h;exact yNR rx ry fx fy
     |tp es=>
      obtain⟨b,us,rfl,s2,l2⟩:=zFG zb (α:=α) (H:=H) (X:=X) h2
      cases ry;cases h
      obtain⟨its,_,pt,_⟩:=I.tuple s2
      exact yMH rx fx pt hu0
     |ls es=>
      obtain⟨b,us,rfl,s2,l2⟩:=zFH wd zb h2
      cases ry;cases h
      obtain⟨its,_,pl,_⟩:=I.list s2
      exact eq_lr rx fx pl.isList hu0
    |tp ds=>
     obtain⟨a,vs,rfl,s1,l1⟩:=zFG za (α:=α) (H:=H) (X:=X) h1
     cases rx
     obtain⟨its,r1,pt,_⟩:=I.tuple s1
     cases q with
     |fl y'=>obtain⟨rfl,fy⟩:=zFF zb (α:=α) (H:=H) (X:=X) h2;cases h;exact yMG ry fy pt hu0
     |tp es=>
      obtain⟨b,us,rfl,s2,l2⟩:=zFG zb (α:=α) (H:=H) (X:=X) h2
      cases ry
      by_cases hab:a=b
      ·subst hab
       rw [zPH I wd (n+1) d f _ k h1 h2 hsame]
       exact SeqAt.EqAt.same _
      ·obtain⟨its2,r2,pt2,_⟩:=I.tuple s2
       rw [zZH]at h
       cases z:prs (eqv S n) ds es with
       |none=>rw [z]at h;cases h
       |some bs=>
        rw [z]at h
        cases h
        have:=SeqAt.RcAt.tuples pt pt2 hu0 (zKW he l1 l2 r1 r2 z)
        have hl:=zIA z
        rw [range_all (by rw [hl];simp [<-r1.length, <-r2.length,l1.length,l2.length])]at this
        have e3:(its.toArray.size==its2.toArray.size)=(ds.length==es.length):=by simp [<-r1.length, <-r2.length,l1.length,l2.length]
        rw [e3]at this
        exact SeqAt.EqAt.of_refs hab this
     |ls es=>
      obtain⟨b,us,rfl,s2,l2⟩:=zFH wd zb h2
      cases ry;cases h
      obtain⟨its2,_,pl,_⟩:=I.list s2
      exact SeqAt.EqAt.tuple_list pt pl.isList hu0
    |ls ds=>
     obtain⟨a,vs,rfl,s1,l1⟩:=zFH wd za h1
     cases rx
     obtain⟨its,r1,pl,_⟩:=I.list s1
     cases q with
     |fl y'=>obtain⟨rfl,fy⟩:=zFF zb (α:=α) (H:=H) (X:=X) h2;cases h;exact eq_ll ry fy pl.isList hu0
     |tp es=>
      obtain⟨b,us,rfl,s2,l2⟩:=zFG zb (α:=α) (H:=H) (X:=X) h2
      cases ry;cases h
      obtain⟨its2,_,pt,_⟩:=I.tuple s2
      exact SeqAt.EqAt.list_tuple pl.isList pt hu0
     |ls es=>
      obtain⟨b,us,rfl,s2,l2⟩:=zFH wd zb h2
      cases ry
      by_cases hab:a=b
      ·subst hab
       rw [zPH I wd (n+1) d f _ k h1 h2 hsame]
       exact SeqAt.EqAt.same _
      ·obtain⟨its2,r2,pl2,_⟩:=I.list s2
       rw [zZI]at h
       by_cases hl:ds.length=es.length
       ·rw [iP hl]at h
        cases z:prs (eqv S n) ds es with
        |none=>rw [z]at h;cases h
        |some bs=>
         rw [z]at h
         cases h
         have hs:its.toArray.size=its2.toArray.size:=by simp [<-r1.length, <-r2.length,l1.length,l2.length,hl]
         have:=SeqAt.RcAt.lists pl.isList pl2.isList hs hu0 (zKW he l1 l2 r1 r2 z)
         have hl':=zIA z
         rw [range_all (by rw [hl'];simp [<-r1.length,l1.length,hl])]at this
         exact SeqAt.EqAt.of_refs hab this
       ·rw [iN0 hl]at h
        cases h
        exact SeqAt.EqAt.of_refs hab (SeqAt.RcAt.lists_lengths pl.isList pl2.isList (by simpa [<-r1.length, <-r2.length,l1.length,l2.length]using hl) hu0)
theorem yMI{RC:Around->Shared->Value->Value->Bool->Prop}{tr:Bool->Bool}{A:Around}
  (hff: ∀x y u v,RelV x u->RelV y v->wS x=true->wS y=true->RC A s u v (tr (eqV x y)))
  (hfl: ∀x v l items,RelV x v->wS x=true->s.heap.IsList l items->A.units<cLine->RC A s v (.ref l) (tr false)/\RC A s (.ref l) v (tr false))
  (hft: ∀x v l items,RelV x v->wS x=true->s.heap.IsTuple l items->A.units<cLine->RC A s v (.ref l) (tr false)/\RC A s (.ref l) v (tr false))
  (hlt: ∀l b items items2,s.heap.IsList l items->s.heap.IsTuple b items2->A.units<cLine->RC A s (.ref l) (.ref b) (tr false)/\RC A s (.ref b) (.ref l) (tr false))
  (htt: ∀(l b:Addr)(items items2:Array Value)(e:Nat->Bool),s.heap.IsTuple l items->s.heap.IsTuple b items2->A.units<cLine->(∀j (h1:j<items.size) (h2:j<items2.size),SeqAt.EqAt A.in1 s items[j] items2[j] (e j))->RC A s (.ref l) (.ref b) (tr ((List.range (min items.size items2.size)).all e&&items.size==items2.size)))
  (hll: ∀(l b:Addr)(items items2:Array Value)(e:Nat->Bool),s.heap.IsList l items->s.heap.IsList b items2->items.size=items2.size->A.units<cLine->(∀j (h1:j<items.size) (h2:j<items2.size),SeqAt.EqAt A.in1 s items[j] items2[j] (e j))->RC A s (.ref l) (.ref b) (tr ((List.range items.size).all e)))
  (hln: ∀(l b:Addr)(items items2:Array Value),s.heap.IsList l items->s.heap.IsList b items2->(items.size !=items2.size)=true->A.units<cLine->RC A s (.ref l) (.ref b) (tr false))
  (I:Inv X pins σ H s) (wd:Wd X.g α S H) (n:Nat) {a b:Er} {x y:V} {u v:Value} {k:Bool} (hu:A.units+(n+1)<cLine) (h1:DenX X.K α H a x) (h2:DenX X.K α H b y) (rx:RelV x u) (ry:RelV y v) (h:zKT S n a b=some k):RC A s u v (tr k):=by
 have hu0:A.units<cLine:=by omega
 unfold zKT at h
 cases za:vwE S a with
 |none=>rw [za]at h;cases h
 |some p=>
  cases zb:vwE S b with
  |none=>rw [za,zb]at h;cases h
  |some q=>
   rw [za,zb]at h
   have h:eqW (eqv S n) p q=some k:=h
   have he:=λd f x y u v k a b c d' e=>zUJ I wd n A.in1 d f x y u v k (show A.units+1+n<cLine by omega) a b c d' e
   cases p with
   |fl x'=>
    obtain⟨rfl,fx⟩:=zFF za h1
    cases q with
    |fl y'=>obtain⟨rfl,fy⟩:=zFF zb h2;cases h;exact hff _ _ _ _ rx ry fx fy
    |tp es=>
     obtain⟨b,us,rfl,s2,l2⟩:=zFG zb h2
     cases ry;cases h
     obtain⟨its,_,pt,_⟩:=I.tuple s2
     exact(hft _ _ _ _ rx fx pt hu0).1
    |ls es=>
     obtain⟨b,us,rfl,s2,l2⟩:=zFH wd zb h2
     cases ry;cases h
     obtain⟨its,_,pl,_⟩:=I.list s2
     exact(hfl _ _ _ _ rx fx pl.isList hu0).1
   |tp ds=>
    obtain⟨a,vs,rfl,s1,l1⟩:=zFG za h1
    cases rx
    obtain⟨its,r1,pt,_⟩:=I.tuple s1
    cases q with
    |fl y'=>obtain⟨rfl,fy⟩:=zFF zb h2;cases h;exact(hft _ _ _ _ ry fy pt hu0).2
    |tp es=>
     obtain⟨b,us,rfl,s2,l2⟩:=zFG zb h2
     cases ry
     obtain⟨its2,r2,pt2,_⟩:=I.tuple s2
     rw [zZH]at h
     cases z:prs (eqv S n) ds es with
     |none=>rw [z]at h;cases h
     |some bs=>
      rw [z]at h
      cases h
      have:=htt _ _ _ _ _ pt pt2 hu0 (zKW he l1 l2 r1 r2 z)
      have hl:=zIA z
      rw [range_all (by rw [hl];simp [<-r1.length, <-r2.length,l1.length,l2.length])]at this
      have e3:(its.toArray.size==its2.toArray.size)=(ds.length==es.length):=by simp [<-r1.length, <-r2.length,l1.length,l2.length]
      rw [e3]at this
      exact this
    |ls es=>
     obtain⟨b,us,rfl,s2,l2⟩:=zFH wd zb h2
     cases ry;cases h
     obtain⟨its2,_,pl,_⟩:=I.list s2
     exact(hlt _ _ _ _ pl.isList pt hu0).2
   |ls ds=>
    obtain⟨a,vs,rfl,s1,l1⟩:=zFH wd za h1
    cases rx
    obtain⟨its,r1,pl,_⟩:=I.list s1
    cases q with
    |fl y'=>obtain⟨rfl,fy⟩:=zFF zb h2;cases h;exact(hfl _ _ _ _ ry fy pl.isList hu0).2
    |tp es=>
     obtain⟨b,us,rfl,s2,l2⟩:=zFG zb h2
     cases ry;cases h
     obtain⟨its2,_,pt,_⟩:=I.tuple s2
     exact(hlt _ _ _ _ pl.isList pt hu0).1
    |ls es=>
     obtain⟨b,us,rfl,s2,l2⟩:=zFH wd zb h2
     cases ry
     obtain⟨its2,r2,pl2,_⟩:=I.list s2
     rw [zZI]at h
     by_cases hl:ds.length=es.length
     ·rw [iP hl]at h
      cases z:prs (eqv S n) ds es with
      |none=>rw [z]at h;cases h
      |some bs=>
       rw [z]at h
       cases h
       have hs:its.toArray.size=its2.toArray.size:=by simp [<-r1.length, <-r2.length,l1.length,l2.length,hl]
       have:=hll _ _ _ _ _ pl.isList pl2.isList hs hu0 (zKW he l1 l2 r1 r2 z)
       have hl':=zIA z
       rw [range_all (by rw [hl'];simp [<-r1.length,l1.length,hl])]at this
       exact this
     ·rw [iN0 hl]at h
      cases h
      exact hln _ _ _ _ pl.isList pl2.isList (by simpa [<-r1.length, <-r2.length,l1.length,l2.length]using hl) hu0
theorem yOH(I:Inv X pins σ H s)(wd:Wd X.g α S H)(n:Nat){A:Around}{a b:Er}{x y:V}{u v:Value}{k:Bool}(hu:A.units+(n+1)<cLine)(h1:DenX X.K α H a x)(h2:DenX X.K α H b y)(rx:RelV x u)(ry:RelV y v)(h:zKT S n a b=some k):SeqAt.RcAt A s u v k:=
 yMI (RC:=SeqAt.RcAt) (tr:=id) (λ_ _ _ _ a b c d=>yNY a b c d) (λ_ _ _ _ a b c d=>⟨rc_lr a b c d,rc_ll a b c d⟩) (λ_ _ _ _ a b c d=>⟨rc_tr a b c d,rc_tl a b c d⟩)
  (λ_ _ _ _ a b c=>⟨SeqAt.RcAt.list_tuple a b c,SeqAt.RcAt.tuple_list b a c⟩) (λ_ _ _ _ _ a b c d=>SeqAt.RcAt.tuples a b c d) (λ_ _ _ _ _ a b c d e=>SeqAt.RcAt.lists a b c d e) (λ_ _ _ _ a b c d=>SeqAt.RcAt.lists_lengths a b c d)
  I wd n hu h1 h2 rx ry h
theorem yOI(I:Inv X pins σ H s)(wd:Wd X.g α S H)(n:Nat){A:Around}{a b:Er}{x y:V}{u v:Value}{k:Bool}(hu:A.units+(n+1)<cLine)(h1:DenX X.K α H a x)(h2:DenX X.K α H b y)(rx:RelV x u)(ry:RelV y v)(h:zKT S n a b=some k):SeqAt.RcNeAt A s u v (!k):=
 yMI (RC:=SeqAt.RcNeAt) (tr:=λb=>!b) (λ_ _ _ _ a b c d=>yNZ a b c d) (λ_ _ _ _ a b c d=>⟨rn_lr a b c d,rn_ll a b c d⟩) (λ_ _ _ _ a b c d=>⟨rn_tr a b c d,rn_tl a b c d⟩)
  (λ_ _ _ _ a b c=>⟨SeqAt.RcNeAt.list_tuple a b c,SeqAt.RcNeAt.tuple_list b a c⟩) (λ_ _ _ _ _ a b c d=>SeqAt.RcNeAt.tuples a b c d) (λ_ _ _ _ _ a b c d e=>SeqAt.RcNeAt.lists a b c d e) (λ_ _ _ _ a b c d=>SeqAt.RcNeAt.lists_lengths a b c d)
  I wd n hu h1 h2 rx ry h
mutual
theorem Den.inj(I:Inv X pins σ H s)(wd:Wd X.g α S H): ∀{d f:MV}{v:V},Den X.K α H d v->Den X.K α H f v->d=f
 |.non,f,v,h,h'=>by cases nI h;cases f<;>first |rfl|(have:=zDA h';cases this;done)|(have:=kS h';cases this;done)|(have:=jK h';cases this;done)|(have:=nK h';cases this;done)|(obtain⟨_,_,e,_⟩:=kF h';cases e;done)|(obtain⟨_,_,e,_⟩:=cS h';cases e;done)|(obtain⟨_,e,_⟩:=bA h';cases e;done)
 |.bl b,f,v,h,h'=>by cases zDA h;cases f<;>first |(have:=zDA h';cases this;rfl;done)|(have:=nI h';cases this;done)|(have:=kS h';cases this;done)|(have:=jK h';cases this;done)|(have:=nK h';cases this;done)|(obtain⟨_,_,e,_⟩:=kF h';cases e;done)|(obtain⟨_,_,e,_⟩:=cS h';cases e;done)|(obtain⟨_,e,_⟩:=bA h';cases e;done)
 |.int b,f,v,h,h'=>by cases kS h;cases f<;>first |(have:=kS h';cases this;rfl;done)|(have:=nI h';cases this;done)|(have:=zDA h';cases this;done)|(have:=jK h';cases this;done)|(have:=nK h';cases this;done)|(obtain⟨_,_,e,_⟩:=kF h';cases e;done)|(obtain⟨_,_,e,_⟩:=cS h';cases e;done)|(obtain⟨_,e,_⟩:=bA h';cases e;done)
 |.str b,f,v,h,h'=>by cases jK h;cases f<;>first |(have:=jK h';rw [zTY (V.str.inj this)];done)|(have:=nI h';cases this;done)|(have:=zDA h';cases this;done)|(have:=kS h';cases this;done)|(have:=nK h';cases this;done)|(obtain⟨_,_,e,_⟩:=kF h';cases e;done)|(obtain⟨_,_,e,_⟩:=cS h';cases e;done)|(obtain⟨_,e,_⟩:=bA h';cases e;done)
 |.typ b,f,v,h,h'=>by cases nK h;cases f<;>first |(have:=nK h';cases this;rfl;done)|(have:=nI h';cases this;done)|(have:=zDA h';cases this;done)|(have:=kS h';cases this;done)|(have:=jK h';cases this;done)|(obtain⟨_,_,e,_⟩:=kF h';cases e;done)|(obtain⟨_,_,e,_⟩:=cS h';cases e;done)|(obtain⟨_,e,_⟩:=bA h';cases e;done)
 |.tup ds,f,v,h,h'=>by
  obtain⟨a,vs,rfl,s1,l1⟩:=kF h
  cases f with
  |tup es=>
   obtain⟨a2,us,e2,s2,l2⟩:=kF h'
   cases e2
   cases I.tuple_inj s1 s2
   rw [DenL.inj I wd l1 l2]
  |scr es=>obtain⟨a2,us,e2,s2,l2⟩:=cS h';cases e2;exact(zKV I s2.l s1).elim
  |loc l=>
   obtain⟨a2,e2,h2⟩:=bA h'
   cases e2
   obtain⟨ho,k1,k2,k3⟩:=wd.mem (mem_of_getElem? h2)
   rcases s1 with(s1|⟨o,s1⟩)|⟨o,its,n,s1,_⟩
   ·rw [k1]at s1;exact absurd (Option.some.inj s1) (k2 _)
   ·rw [k1]at s1;exact absurd (Option.some.inj s1) (k3 _ _)
   ·have:=(I.bs a o (I.mod.kin a o s1)).2;rw [k1]at this;cases this
  |non=>cases nI h'
  |bl b=>cases zDA h'
  |int b=>cases kS h'
  |str b=>cases jK h'
  |typ b=>cases nK h'
 |.scr ds,f,v,h,h'=>by
  obtain⟨a,vs,rfl,s1,l1⟩:=cS h
  cases f with
  |scr es=>
   obtain⟨a2,us,e2,s2,l2⟩:=cS h'
   cases e2
   cases I.list_inj s1.l s2.l
   rw [DenL.inj I wd l1 l2]
  |tup es=>obtain⟨a2,us,e2,s2,l2⟩:=kF h';cases e2;exact(zKV I s1.l s2).elim
  |loc l=>
   obtain⟨a2,e2,h2⟩:=bA h'
   cases e2
   obtain⟨ho,k1,k2,k3⟩:=wd.mem (mem_of_getElem? h2)
   rcases s1 with⟨o,s1⟩|⟨o,its,n,s1,_⟩
   ·rw [k1]at s1;exact absurd (Option.some.inj s1) (k3 _ _)
   ·have:=(I.bs a o (I.mod.kin a o s1)).2;rw [k1]at this;cases this
  |non=>cases nI h'
  |bl b=>cases zDA h'
  |int b=>cases kS h'
  |str b=>cases jK h'
  |typ b=>cases nK h'
 |.loc l,f,v,h,h'=>by
  obtain⟨a,rfl,h1⟩:=bA h
  obtain⟨ho,k1,k2,k3⟩:=wd.mem (mem_of_getElem? h1)
  cases f with
  |loc m=>
   obtain⟨a2,e2,h2⟩:=bA h'
   cases e2
   by_cases hlm:l=m
   ·rw [hlm]
   ·exact absurd rfl (wd.ne h1 h2 hlm)
  |tup es=>
   obtain⟨a2,us,e2,s1,l2⟩:=kF h'
   cases e2
   rcases s1 with(s1|⟨o,s1⟩)|⟨o,its,n,s1,_⟩
   ·rw [k1]at s1;exact absurd (Option.some.inj s1) (k2 _)
   ·rw [k1]at s1;exact absurd (Option.some.inj s1) (k3 _ _)
   ·have:=(I.bs a o (I.mod.kin a o s1)).2;rw [k1]at this;cases this
  |scr es=>
   obtain⟨a2,us,e2,s1,l2⟩:=cS h'
   cases e2
   rcases s1 with⟨o,s1⟩|⟨o,its,n,s1,_⟩
   ·rw [k1]at s1;exact absurd (Option.some.inj s1) (k3 _ _)
   ·have:=(I.bs a o (I.mod.kin a o s1)).2;rw [k1]at this;cases this
  |non=>cases nI h'
  |bl b=>cases zDA h'
  |int b=>cases kS h'
  |str b=>cases jK h'
  |typ b=>cases nK h'
theorem DenL.inj(I:Inv X pins σ H s)(wd:Wd X.g α S H): ∀{ds fs:List MV}{vs:List V},DenL X.K α H ds vs->DenL X.K α H fs vs->ds=fs
 |[],fs,vs,h,h'=>by
  cases h.isnil
  cases fs with
  |nil=>rfl
  |cons f fs=>obtain⟨_,_,e,_⟩:=h'.uncons;cases e
 |d::ds,fs,vs,h,h'=>by
  obtain⟨v,r,rfl,a,l⟩:=h.uncons
  cases fs with
  |nil=>cases h'.isnil
  |cons f fs=>
   obtain⟨v',r',e,a',l'⟩:=h'.uncons
   cases e
   rw [Den.inj I wd a a',DenL.inj I wd l l']
end
end
inductive LexR(A:Around)(s:Shared):List Value->List Value->Bool->Prop
 |nn:LexR A s [] [] false
 |nc (x xs):LexR A s [] (x::xs) true
 |cn (y ys):LexR A s (y::ys) [] false
 |eq {y x ys xs k}:SeqAt.EqAt A s y x true->LexR A s ys xs k->LexR A s (y::ys) (x::xs) k
 |ne {y x ys xs k}:SeqAt.EqAt A s y x false->(∀(prog:Program)(w:World)(E Q:Value->Shared->Prop),Q (.bool k) s->wpAny (model prog w) A (richCompare .Lt y x) Q E s)->LexR A s (y::ys) (x::xs) k
section
open PySem.SeqAt
open PySem.AutoSeq1 (wpAny_loadPart')
open PySem.MeetsSeq PySem.MeetsSeq2 PySem.MeetsSeq3
theorem zZJ(l b:Addr)(its its2:Array Value)(n n2:Nat)(dd dd2:Option Addr)(sl sl2:Array (Option Value))(k:Bool):
  Meets (Builtin.«tuple.__lt__» ⟨[.ref l,.ref b],[]⟩)
   (λA R s=>s.heap.get? l=some {cls:=.type "tuple",dict:=dd,data:=.seq its n,slots:=sl}/\s.heap.get? b=some {cls:=.type "tuple",dict:=dd2,data:=.seq its2 n2,slots:=sl2}/\
    LexR A.in1 s its.toList its2.toList k/\R (.ok (.ret (.bool k))) s):=
 .of_wp λprog w A R s h=>by
  obtain⟨hp,g,d,tk,os⟩:=s;obtain⟨hl,hb,hx,h⟩:=h
  have f2:=AutoSeq1.sub_tuple_tuple
  wp_walk using wpAny_loadPart' hl,wpAny_loadPart' hb,wpAny_forIn_list _ (λdL b s'=>b.1=none/\s'=⟨hp,g,d,tk,os⟩/\ ∃(vs ws:List Value),dL=vs.zip ws/\
   LexR A.in1 ⟨hp,g,d,tk,os⟩ vs ws k/\vs.length+its2.size=ws.length+its.size) _
  case turn=>
   rintro⟨y,x⟩ dL b s' ⟨hb',rfl,vs,ws,hz,hlx,hlen⟩
   cases hlx with
   |nn=>rw [List.zip_nil_left]at hz;cases hz
   |nc x xs=>rw [List.zip_nil_left]at hz;cases hz
   |cn y ys=>rw [List.zip_nil_right]at hz;cases hz
   |@eq y' x' ys xs k' he hr=>
    rw [zip_cons_cons]at hz
    injection hz with hyx hrest
    injection hyx with hy hx
    subst hy hx
    simp only [lC0]at hlen
    refine wB0 (he prog w _ _ ?_)
    wp_walk
    exact⟨rfl,rfl,_,_,hrest,hr,by omega⟩
   |@ne y' x' ys xs k' he hr=>
    rw [zip_cons_cons]at hz
    injection hz with hyx hrest
    injection hyx with hy hx
    subst hy hx
    refine wB0 (he prog w _ _ ?_)
    have hri:=hr prog w
    wp_walk using hri
    exact⟨_,rfl,by simpa using h⟩
  case fin=>
   rintro⟨b1,b2⟩ s' ⟨hb',rfl,vs,ws,hz,hlx,hlen⟩
   simp only at hb'
   subst hb'
   have hv:k=decide (its.size<its2.size):=by
    cases hlx with
    |nn=>simp only [length_nil]at hlen;exact(dF0 (by omega)).symm
    |nc x xs=>simp only [length_nil,lC0]at hlen;exact(dT0 (by omega)).symm
    |cn y ys=>simp only [length_nil,lC0]at hlen;exact(dF0 (by omega)).symm
    |eq he hr=>rw [zip_cons_cons]at hz;cases hz
    |ne he hr=>rw [zip_cons_cons]at hz;cases hz
   rw [hv]at h
   wp_walk
   exact⟨_,rfl,by simpa [Builtin.Tuple.tupleCompareSizes]using h⟩
  case h=>
   exact⟨rfl,rfl,its.toList,its2.toList,rfl,hx,by simp;omega⟩
end
theorem yGG{A:Around}{s:Shared}{l b:Addr}{its its2:Array Value}{k:Bool}(hl:IsTup s.heap l its)(hb:IsTup s.heap b its2)(hx:LexR A.in1 s its.toList its2.toList k)(hu:A.units<cLine)(prog:Program)(w:World)(E Q:Value->Shared->Prop)(h:Q (.bool k) s):
  wpAny (model prog w) A (richCompare .Lt (.ref l) (.ref b)) Q E s:=by
 obtain⟨⟨cls,dd,data,sl⟩,ho,hc,n,hd⟩:=id hl
 obtain⟨⟨cls2,dd2,data2,sl2⟩,ho2,hc2,n2,hd2⟩:=id hb
 simp only at hc hd hc2 hd2
 subst hc hd hc2 hd2
 exact richCompare_meets_room (op:=.Lt) ⟨_,ho,rfl⟩ ⟨_,ho2,rfl⟩ PySem.F.slot_tuple_lt PySem.F.entry_tuple_lt (PySem.F.args_tuple_lt_2 _ _) (zZJ l b its its2 n n2 dd dd2 sl sl2 k)
  ⟨ho,ho2,hx,show Value.bool k≠Value.notImplemented/\Q (.bool k) s from⟨(λx=>nomatch x),h⟩⟩ hu
def yGH(e l:MV->MV->Option Bool):List MV->List MV->Option Bool
 |[],[]=>some false
 |[],_::_=>some true
 |_::_,[]=>some false
 |d::ds,f::fs=>(e d f).bind λk=>if k=true then yGH e l ds fs else l d f
def ltv(S:Sto):Nat->MV->MV->Option Bool
 |0,_,_=>none
 |n+1,.int i,.int j=>some (decide (i<j))
 |n+1,.str x,.str y=>some (decide (x<y))
 |n+1,.tup ds,.tup es=>yGH (eqv S n) (ltv S n) ds es
 |_,_,_=>none
section
variable{X:Cx}{α:List Addr}{S:Sto}{H:Hp}{pins:List (Addr×Obj)}{σ:St}{s:Shared}
theorem yMJ{A:Around}{e l:MV->MV->Option Bool}(he: ∀d f x y u v k,Den X.K α H d x->Den X.K α H f y->RelV x u->RelV y v->e d f=some k->SeqAt.EqAt A s u v k)
  (hl: ∀d f x y u v k,Den X.K α H d x->Den X.K α H f y->RelV x u->RelV y v->l d f=some k-> ∀(prog:Program)(w:World)(E Q:Value->Shared->Prop),Q (.bool k) s->wpAny (model prog w) A (richCompare .Lt u v) Q E s):
  ∀{ds fs:List MV}{vs us:List V}{its its2:List Value}{k:Bool},DenL X.K α H ds vs->DenL X.K α H fs us->Vals vs its->Vals us its2->yGH e l ds fs=some k->LexR A s its its2 k
 |[],[],_,_,_,_,k,l1,l2,r1,r2,h=>by
  cases l1.isnil;cases l2.isnil;cases r1;cases r2;cases h;exact .nn
 |[],f::fs,_,_,_,_,k,l1,l2,r1,r2,h=>by
  cases l1.isnil
  obtain⟨v,r,rfl,a,l⟩:=l2.uncons
  cases r1
  cases r2 with
  |cons a b=>cases h;exact .nc _ _
 |d::ds,[],_,_,_,_,k,l1,l2,r1,r2,h=>by
  cases l2.isnil
  obtain⟨v,r,rfl,a,l⟩:=l1.uncons
  cases r2
  cases r1 with
  |cons a b=>cases h;exact .cn _ _
 |d::ds,f::fs,_,_,_,_,k,l1,l2,r1,r2,h=>by
  obtain⟨v,r,rfl,a,l1'⟩:=l1.uncons
  obtain⟨v2,r3,rfl,a2,l2'⟩:=l2.uncons
  cases r1 with
  |cons b1 c1=>
   cases r2 with
   |cons b2 c2=>
    unfold yGH at h
    cases z:e d f with
    |none=>rw [z]at h;cases h
    |some kk=>
     rw [z]at h
     have h:(if kk=true then yGH e l ds fs else l d f)=some k:=h
     cases kk with
     |true=>
      rw [iP rfl]at h
      exact .eq (he d f _ _ _ _ _ a a2 b1 b2 z) (yMJ he hl l1' l2' c1 c2 h)
     |false=>
      rw [iN0 xF0]at h
      exact .ne (he d f _ _ _ _ _ a a2 b1 b2 z) (hl d f _ _ _ _ _ a a2 b1 b2 h)
theorem yGI(I:Inv X pins σ H s)(wd:Wd X.g α S H): ∀(n:Nat)(A:Around)(d f:MV)(x y:V)(u v:Value)(k:Bool),A.units+n<cLine->Den X.K α H d x->Den X.K α H f y->RelV x u->RelV y v->ltv S n d f=some k->
  ∀(prog:Program)(w:World)(E Q:Value->Shared->Prop),Q (.bool k) s->wpAny (model prog w) A (richCompare .Lt u v) Q E s
 |0,_,_,_,_,_,_,_,_,_,_,_,_,_,h=>by cases h
 |n+1,A,d,f,x,y,u,v,k,hu,h1,h2,rx,ry,h=>by
  intro prog w E Q hq
  unfold ltv at h
  split at h
  ·cases h
  ·cases h
   cases kS h1;cases kS h2
   obtain⟨t,rfl⟩:=rx
   obtain⟨t',rfl⟩:=ry
   exact(PyProof.Rows.lt_int hq:wpAny (model prog w) A (compareOp .Lt _ _) Q E s)
  ·cases h
   cases jK h1;cases jK h2
   obtain⟨t,rfl⟩:=rx
   obtain⟨t',rfl⟩:=ry
   refine(PySem.P.lt_str ?_:wpAny (model prog w) A (compareOp .Lt _ _) Q E s)
   rw [zDO,zDO]
   exact hq
  ·rename_i n' ds es hn
   obtain⟨a,vs,rfl,s1,l1⟩:=kF h1
   obtain⟨b,us,rfl,s2,l2⟩:=kF h2
   cases rx;cases ry
   obtain⟨its,r1,pt,_⟩:=I.tuple s1
   obtain⟨its2,r2,pt2,_⟩:=I.tuple s2
   cases hn
   refine yGG pt pt2 ?_ (by omega) prog w E Q hq
   exact yMJ (λd f x y u v k a b c d' e=>zUJ I wd n A.in1 d f x y u v k (show A.units+1+n<cLine by omega) a b c d' e)
    (λd f x y u v k a b c d' e=>yGI I wd n A.in1 d f x y u v k (show A.units+1+n<cLine by omega) a b c d' e) l1 l2 r1 r2 h
  ·cases h
end
section
variable{X:Cx}{W:XW}{a b c e:Expr}{es:List Expr}{f g h:Rho->Sto->R Er}{af:Rho->Sto->R (List Er)}{pos:Pos}
def iiF(C:Int->Int->Prop)[∀i j,Decidable (C i j)](g:Int->Int->Int):Er->Er->Sto->R Er
 |.val (.int i),.val (.int j),S=>if C i j then .ok (.val (.int (g i j))) S else .no
 |_,_,_=>.no
def ibF(g:Int->Int->Bool):Er->Er->Sto->R Er
 |.val (.int i),.val (.int j),S=>.ok (.val (.bl (g i j))) S
 |_,_,_=>.no
theorem zZK{C C':Int->Int->Prop}[∀i j,Decidable (C i j)]{g:Int->Int->Int}(h: ∀i j,C i j->C' i j):Op2 X W (rI C' λi j=>.int (g i j)) (iiF C g):=by
 intro p q x y α S H Q wd dp dq post
 unfold iiF at post
 split at post
 ·split at post
  ·rename_i hc
   exact⟨_,_,xL dp,xL dq,h _ _ hc,Post.val post wd (wA _)⟩
  ·exact post.elim
 ·exact post.elim
theorem yJX{g:Int->Int->Int}:Op2 X W (rI0 λi j=>.int (g i j)) (iiF (λ_ _=>True) g):=by
 intro p q x y α S H Q wd dp dq post
 unfold iiF at post
 split at post
 ·rw [iP trivial]at post
  exact⟨_,_,xL dp,xL dq,Post.val post wd (wA _)⟩
 ·exact post.elim
theorem yOJ{g:Int->Int->Bool}:Op2 X W (rI0 λi j=>.bl (g i j)) (ibF g):=by
 intro p q x y α S H Q wd dp dq post
 unfold ibF at post
 split at post
 ·exact⟨_,_,xL dp,xL dq,Post.val post wd (wD _)⟩
 ·exact post.elim
abbrev yGJ:=iiF (λ_ _=>True) λi j=>i - j
theorem zZL(ha:PEm X W a f)(hb:PEm X W b g):PEm X W (.BinOp a .Sub b pos) (λρ S=>(f ρ S).bind λp S1=>(g ρ S1).bind λq S2=>yGJ p q S2):=zSR yNI yJX ha hb
def zZM(_ j:Int):Prop:=0<j/\j.natAbs.log2<9000
instance(i j:Int):Decidable (zZM i j):=inferInstanceAs (Decidable (_/\_))
abbrev nN:=iiF zZM λi j=>i / j
theorem yGK:OpR X (binaryOp .FloorDiv) (rI zZM λi j=>.int (i / j)):=opI λi j _ _ _ _ _ hc q=>by
 have e:i.fdiv j=i / j:=Int.fdiv_eq_ediv_of_nonneg i (Int.le_of_lt hc.1)
 refine floordiv_int (by have:=hc.1;omega) ?_ (.inl (PyProof.noPylong_of_log2 hc.2))
 rw [e]
 exact q
theorem wK(ha:PEm X W a f)(hb:PEm X W b g):PEm X W (.BinOp a .FloorDiv b pos) (λρ S=>(f ρ S).bind λp S1=>(g ρ S1).bind λq S2=>nN p q S2):=zSR yGK (zZK λi j h=>h) ha hb
abbrev kE:=iiF (λ_ j=>0<j) λi j=>i % j
theorem yN(ha:PEm X W a f)(hb:PEm X W b g):PEm X W (.BinOp a .Mod b pos) (λρ S=>(f ρ S).bind λp S1=>(g ρ S1).bind λq S2=>kE p q S2):=zSR yNJ (zZK λi j h=>h) ha hb
def yDO(i j:Int):Prop:=0<=j/\(Builtin.Int.intBits i:Int) * j<=2 ^ 27
instance(i j:Int):Decidable (yDO i j):=inferInstanceAs (Decidable (_/\_))
abbrev zFZ:=iiF yDO λi j=>i ^ j.toNat
theorem yJY:OpR X (binaryOp .Pow) (rI yDO λi j=>.int (i ^ j.toNat)):=opI λ_ _ _ _ _ _ _ hc q=>pow_int hc.1 hc.2 q
theorem zDS(ha:PEm X W a f)(hb:PEm X W b g):PEm X W (.BinOp a .Pow b pos) (λρ S=>(f ρ S).bind λp S1=>(g ρ S1).bind λq S2=>zFZ p q S2):=zSR yJY (zZK λi j h=>h) ha hb
def shlC(i j:Int):Prop:=0<=j/\j<=1000000/\i.natAbs<2 ^ 64
instance(i j:Int):Decidable (shlC i j):=inferInstanceAs (Decidable (_/\_/\_))
def usubF:Er->Sto->R Er
 |.val (.int i),S=>.ok (.val (.int (-i))) S
 |_,_=>.no
def lsW(S:Sto):Er->Option (List MV)
 |.new ds=>some ds
 |.val (.loc l)=>match S[l]? with
  |some (.lst ds)=>some ds
  |_=>none
 |_=>none
theorem zZN{α:List Addr}{S:Sto}{H:Hp}(wd:Wd X.g α S H){r:Er}{ds:List MV}{x:V}(e:lsW S r=some ds)(d:DenX X.K α H r x): ∃a vs,x=.ref a/\H a=some (.lst vs)/\DenL X.K α H ds vs:=by
 unfold lsW at e
 split at e
 ·cases e
  obtain⟨b,vs,rfl,h,_,l⟩:=d
  exact⟨b,vs,rfl,h,l⟩
 ·rename_i n
  obtain⟨a,rfl,h⟩:=zDP d
  split at e
  ·rename_i es hS
   cases e
   obtain⟨vs,h1,l⟩:=wd.obj n a _ h hS
   exact⟨a,vs,rfl,h1,l⟩
  ·cases e
 ·cases e
def yBP(p q:Er)(S:Sto):R Er:=match lsW S p,lsW S q with
 |some x,some y=>if x.length+y.length<=sizeLine then .ok (.new (x++y)) S else .no
 |_,_=>.no
def wM:Er->Er->Sto->R Er
 |.val (.int i),.val (.int j),S=>.ok (.val (.int (i+j))) S
 |.val (.str x),.val (.str y),S=>if x.length+y.length<=sizeLine then .ok (.val (.str (x++y))) S else .no
 |.val (.tup x),.val (.tup y),S=>if x.length+y.length<=sizeLine then .ok (.val (.tup (x++y))) S else .no
 |p,q,S=>yBP p q S
theorem yGL:OpR X (binaryOp .Add) (λx y H Q=> ∃a b ys,x=.ref a/\y=.ref b/\SqT X.K H a []/\SqT X.K H b ys/\Q (.ref b) H):=by
 intro pins s σ H x y v u Q I rx ry h
 obtain⟨a,b,ys,rfl,rfl,ha,hb,q⟩:=h
 cases rx
 cases ry
 obtain⟨its,r1,p1,_⟩:=I.tuple ha
 obtain⟨its2,r2,p2,_⟩:=I.tuple hb
 have e0:its=[]:=r1.nil_iff.mpr rfl
 subst e0
 obtain⟨⟨cls,dd,data,sl⟩,ho,hc,n,hd⟩:=id p1
 obtain⟨⟨cls2,dd2,data2,sl2⟩,ho2,hc2,n2,hd2⟩:=id p2
 simp only at hc hd hc2 hd2
 subst hc hd hc2 hd2
 exact concat_meets ⟨_,ho,rfl⟩ ⟨_,ho2,rfl⟩ noFill_tuple_add seq_tuple_add PySem.F.slot_tuple_add PySem.F.entry_tuple_add (PySem.F.args_tuple_add_2 _ _)
  (tuple_addW0 a b _ _ n n2 dd dd2 sl sl2 rfl) ⟨ho,ho2,⟨.ref b,H,I,rfl,q⟩⟩
theorem yO(ha:PEm X W a f)(hb:PEm X W b g):PEm X W (.BinOp a .Add b pos) (λρ S=>(f ρ S).bind λp S1=>(g ρ S1).bind λq S2=>wM p q S2):=by
 refine zSR (yNH.or (zYV.or (yNT.or (yJH.or yGL)))) ?_ ha hb
 intro p q x y α S H Q wd dp dq post
 unfold wM at post
 split at post
 ·exact .inl ⟨_,_,xL dp,xL dq,Post.val post wd (wA _)⟩
 ·split at post
  ·rename_i hz
   refine .inr (.inl ⟨_,_,kG dp,kG dq,by rw [jE,jE];exact hz,?_⟩)
   rw [yJN]
   exact Post.val post wd (dN _)
  ·exact post.elim
 ·split at post
  ·rename_i xx yy hz
   obtain⟨a1,vs,rfl,s1,l1⟩:=nL dp
   obtain⟨a2,us,rfl,s2,l2⟩:=nL dq
   by_cases h0:vs=[]
   ·subst h0
    have e0:=l1.length
    refine .inr (.inr (.inr (.inr ⟨a1,a2,us,rfl,rfl,s1,s2,?_⟩)))
    have:xx=[]:=by cases xx with |nil=>rfl|cons _ _=>simp at e0
    subst this
    exact Post.val post wd (zBF s2 l2)
   ·refine .inr (.inr (.inr (.inl ⟨a1,a2,vs,us,rfl,rfl,s1,s2,h0,by rw [l1.length,l2.length];exact hz,λh1=>?_,λh1 p hp=>Post.newt post wd hp (l1.append l2)⟩)))
    subst h1
    have e0:=l2.length
    have:yy=[]:=by cases yy with |nil=>rfl|cons _ _=>simp at e0
    subst this
    rw [aN]at post
    exact Post.val post wd (zBF s1 l1)
  ·exact post.elim
 ·unfold yBP at post
  split at post
  ·rename_i ds1 ds2 e1 e2
   split at post
   ·rename_i hz
    obtain⟨a1,vs,rfl,h1,l1⟩:=zZN wd e1 dp
    obtain⟨a2,us,rfl,h2,l2⟩:=zZN wd e2 dq
    exact .inr (.inr (.inl ⟨a1,a2,vs,us,rfl,rfl,h1,h2,by rw [l1.length,l2.length];exact hz,λp hp=>Post.newl post wd hp (l1.append l2)⟩))
   ·exact post.elim
  ·exact post.elim
def mulC(i j:Int):Prop:=(-(2 ^ 64)<i/\i<2 ^ 64)\/(-(2 ^ 64)<j/\j<2 ^ 64)\/(i.natAbs.log2<4000/\j.natAbs.log2<4000)
theorem yBQ{i:Int}(h:i.natAbs.log2<4000):Builtin.Int.intBits i<=2 ^ 20:=by
 have e:(2:Nat) ^ 20=1048576:=by decide
 unfold Builtin.Int.intBits
 split<;>omega
theorem mulC.ok{i j:Int}(h:mulC i j):IntMulOk i j:=by
 rcases h with h|h|⟨h1,h2⟩
 ·exact CMul.ok (.inl h)
 ·exact CMul.ok (.inr h)
 ·exact .of_bits (yBQ h1) (yBQ h2)
theorem yJZ{X:Cx}:OpR X (binaryOp .Mult) (rI mulC λi j=>.int (i * j)):=opI λ_ _ _ _ _ _ _ hc q=>mul_int q hc.ok
instance(i j:Int):Decidable (mulC i j):=inferInstanceAs (Decidable (_\/_\/_))
def yMK(p:Er)(k:Int)(S:Sto):R Er:=match lsW S p with
 |some x=>if 0<=k/\k<100000/\x.length * k.toNat<=sizeLine then .ok (.new (List.replicate k.toNat x).flatten) S else .no
 |none=>.no
def zRU:Er->Er->Sto->R Er
 |.val (.int i),.val (.int j),S=>if mulC i j then .ok (.val (.int (i * j))) S else .no
 |.val (.str x),.val (.int k),S=>if 0<=k/\k<1000/\x.length<=1000 then .ok (.val (.str (zOZ x k))) S else .no
 |p,.val (.int k),S=>yMK p k S
 |_,_,_=>.no
theorem DenL.rep{K:PySem.W.Frag}{α:List Addr}{H:Hp}{ds:List MV}{vs:List V}(l:DenL K α H ds vs): ∀k:Nat,DenL K α H (List.replicate k ds).flatten (List.replicate k vs).flatten
 |0=>xG
 |k+1=>by rw [replicate_succ,flatten_cons,replicate_succ,flatten_cons];exact l.append (DenL.rep l k)
theorem zPI(ha:PEm X W a f)(hb:PEm X W b g):PEm X W (.BinOp a .Mult b pos) (λρ S=>(f ρ S).bind λp S1=>(g ρ S1).bind λq S2=>zRU p q S2):=by
 refine zSR (yJZ.or (zZB.or yNU)) ?_ ha hb
 intro p q x y α S H Q wd dp dq post
 unfold zRU at post
 split at post
 ·split at post
  ·rename_i hc
   exact .inl ⟨_,_,xL dp,xL dq,hc,Post.val post wd (wA _)⟩
  ·exact post.elim
 ·split at post
  ·rename_i hc
   exact .inr (.inl ⟨_,_,kG dp,xL dq,hc.1,hc.2.1,hc.2.2,Post.val post wd (dN _)⟩)
  ·exact post.elim
 ·unfold yMK at post
  split at post
  ·rename_i ds e1
   split at post
   ·rename_i hc
    obtain⟨a1,vs,rfl,h1,l1⟩:=zZN wd e1 dp
    exact .inr (.inr ⟨a1,_,vs,rfl,xL dq,h1,by omega,by omega,by rw [l1.length];exact hc.2.2,λp hp=>Post.newl post wd hp (l1.rep _)⟩)
   ·exact post.elim
  ·exact post.elim
 ·exact post.elim
def yE:Nat:=40
def eqF(p q:Er)(S:Sto):R Er:=match zKT S yE p q with
 |some k=>.ok (.val (.bl k)) S
 |none=>.no
def neF(p q:Er)(S:Sto):R Er:=match zKT S yE p q with
 |some k=>.ok (.val (.bl !k)) S
 |none=>.no
theorem yGM(hu:X.A.units+64<cLine):OpR X (compareOp .Eq) (λx y H Q=> ∃α S p q k,Wd X.g α S H/\DenX X.K α H p x/\DenX X.K α H q y/\zKT S yE p q=some k/\Q (.bl k) H):=by
 intro pins s σ H x y v u Q I rx ry h
 obtain⟨α,S,p,q,k,wd,dp,dq,e,hq⟩:=h
 exact yOH I wd yE (by unfold yE;omega) dp dq rx ry e X.prog X.w _ _ ⟨.bl k,H,I,rfl,hq⟩
theorem yOK(hu:X.A.units+64<cLine):OpR X (compareOp .NotEq) (λx y H Q=> ∃α S p q k,Wd X.g α S H/\DenX X.K α H p x/\DenX X.K α H q y/\zKT S yE p q=some k/\Q (.bl (!k)) H):=by
 intro pins s σ H x y v u Q I rx ry h
 obtain⟨α,S,p,q,k,wd,dp,dq,e,hq⟩:=h
 exact yOI I wd yE (by unfold yE;omega) dp dq rx ry e X.prog X.w _ _ ⟨.bl (!k),H,I,rfl,hq⟩
theorem yBR:Op2 X W (λx y H Q=> ∃α S p q k,Wd X.g α S H/\DenX X.K α H p x/\DenX X.K α H q y/\zKT S yE p q=some k/\Q (.bl k) H) eqF:=by
 intro p q x y α S H Q wd dp dq post
 unfold eqF at post
 split at post
 ·rename_i k e
  exact⟨α,S,p,q,k,wd,dp,dq,e,Post.val post wd (wD _)⟩
 ·exact post.elim
theorem yKA:Op2 X W (λx y H Q=> ∃α S p q k,Wd X.g α S H/\DenX X.K α H p x/\DenX X.K α H q y/\zKT S yE p q=some k/\Q (.bl (!k)) H) neF:=by
 intro p q x y α S H Q wd dp dq post
 unfold neF at post
 split at post
 ·rename_i k e
  exact⟨α,S,p,q,k,wd,dp,dq,e,Post.val post wd (wD _)⟩
 ·exact post.elim
theorem zPJ(hu:X.A.units+64<cLine)(ha:PEm X W a f)(hb:PEm X W b g):PEm X W (.Compare a [.Eq] [b] pos) (λρ S=>(f ρ S).bind λp S1=>(g ρ S1).bind λq S2=>eqF p q S2):=zUD (yGM hu) yBR ha hb
theorem zGA(hu:X.A.units+64<cLine)(ha:PEm X W a f)(hb:PEm X W b g):PTm X W (.Compare a [.Eq] [b] pos) (λρ S=>((f ρ S).bind λp S1=>(g ρ S1).bind λq S2=>eqF p q S2).bind asB):=zMH (yGM hu) yBR ha hb
theorem zWQ(hu:X.A.units+64<cLine)(ha:PEm X W a f)(hb:PEm X W b g):PTm X W (.Compare a [.NotEq] [b] pos) (λρ S=>((f ρ S).bind λp S1=>(g ρ S1).bind λq S2=>neF p q S2).bind asB):=zMH (yOK hu) yKA ha hb
def ltF:Er->Er->Sto->R Er
 |.val d,.val f,S=>match ltv S yE d f with
  |some k=>.ok (.val (.bl k)) S
  |none=>.no
 |_,_,_=>.no
theorem zZO(hu:X.A.units+64<cLine):OpR X (compareOp .Lt) (λx y H Q=> ∃α S d f k,Wd X.g α S H/\Den X.K α H d x/\Den X.K α H f y/\ltv S yE d f=some k/\Q (.bl k) H):=by
 intro pins s σ H x y v u Q I rx ry h
 obtain⟨α,S,d,f,k,wd,dp,dq,e,hq⟩:=h
 exact yGI I wd yE X.A d f x y v u k (by unfold yE;omega) dp dq rx ry e X.prog X.w _ _ ⟨.bl k,H,I,rfl,hq⟩
theorem zUK:Op2 X W (λx y H Q=> ∃α S d f k,Wd X.g α S H/\Den X.K α H d x/\Den X.K α H f y/\ltv S yE d f=some k/\Q (.bl k) H) ltF:=by
 intro p q x y α S H Q wd dp dq post
 unfold ltF at post
 split at post
 ·split at post
  ·rename_i k e
   exact⟨α,S,_,_,k,wd,dp,dq,e,Post.val post wd (wD _)⟩
  ·exact post.elim
 ·exact post.elim
theorem pm_lt(hu:X.A.units+64<cLine)(ha:PEm X W a f)(hb:PEm X W b g):PEm X W (.Compare a [.Lt] [b] pos) (λρ S=>(f ρ S).bind λp S1=>(g ρ S1).bind λq S2=>ltF p q S2):=zUD (zZO hu) zUK ha hb
theorem yML(hu:X.A.units+64<cLine)(ha:PEm X W a f)(hb:PEm X W b g):PTm X W (.Compare a [.Lt] [b] pos) (λρ S=>((f ρ S).bind λp S1=>(g ρ S1).bind λq S2=>ltF p q S2).bind asB):=zMH (zZO hu) zUK ha hb
abbrev gtF:=ibF λi j=>decide (j<i)
theorem yGN(ha:PEm X W a f)(hb:PEm X W b g):PTm X W (.Compare a [.Gt] [b] pos) (λρ S=>((f ρ S).bind λp S1=>(g ρ S1).bind λq S2=>gtF p q S2).bind asB):=zMH op_gt yOJ ha hb
def leF:Er->Er->Sto->R Er
 |.val (.int i),.val (.int j),S=>.ok (.val (.bl (decide (i<=j)))) S
 |.val (.str x),.val (.str y),S=>.ok (.val (.bl (!decide (y<x)))) S
 |_,_,_=>.no
theorem zPK:Op2 X W (λx y H Q=>rI0 (λi j=>.bl (decide (i<=j))) x y H Q\/(∃i j,x=.str i/\y=.str j/\Q (.bl (!decide (j.cps.toList<i.cps.toList))) H)) leF:=by
 intro p q x y α S H Q wd dp dq post
 unfold leF at post
 split at post
 ·exact .inl ⟨_,_,xL dp,xL dq,Post.val post wd (wD _)⟩
 ·refine .inr ⟨_,_,kG dp,kG dq,?_⟩
  rw [zDO,zDO]
  exact Post.val post wd (wD _)
 ·exact post.elim
theorem zUL(ha:PEm X W a f)(hb:PEm X W b g)(hc:PEm X W c h)(hm:lastMarks [.LtE,.LtE] [b,c]=false:=by with_unfolding_all rfl):PEm X W (.Compare a [.LtE,.LtE] [b,c] pos) (λρ S=>(f ρ S).bind λp S1=>(g ρ S1).bind λq S2=>chF leF leF p q S2 λS3=>h ρ S3):=zWP (zVZ.or zCY) (zVZ.or zCY) zPK zPK ha hb hc hm
theorem yKB(ha:PEm X W a f)(hb:PEm X W b g)(hc:PEm X W c h)(hm:lastMarks [.LtE,.LtE] [b,c]=false:=by with_unfolding_all rfl):PTm X W (.Compare a [.LtE,.LtE] [b,c] pos) (λρ S=>((f ρ S).bind λp S1=>(g ρ S1).bind λq S2=>chF leF leF p q S2 λS3=>h ρ S3).bind asB):=yGB (zVZ.or zCY) (zVZ.or zCY) zPK zPK ha hb hc hm
theorem yKC(hu:X.A.units+64<cLine)(ha:PEm X W a f)(hb:PEm X W b g)(hc:PEm X W c h)(hm:lastMarks [.LtE,.Lt] [b,c]=false:=by with_unfolding_all rfl):PEm X W (.Compare a [.LtE,.Lt] [b,c] pos) (λρ S=>(f ρ S).bind λp S1=>(g ρ S1).bind λq S2=>chF leF ltF p q S2 λS3=>h ρ S3):=zWP (zVZ.or zCY) (zZO hu) zPK zUK ha hb hc hm
def getL(ds:List MV):Er->Sto->R Er
 |.val (.int i),S=>match atI ds i with |some d=>.ok (.val d) S|none=>.no
 |_,_=>.no
def ixF:Er->Er->Sto->R Er
 |.val (.str x),.val (.int i),S=>if x.length<=sizeLine then match atI x i with |some c=>.ok (.val (.str [c])) S|none=>.no else .no
 |.val (.tup ds),q,S=>getL ds q S
 |p,q,S=>match cG S p with |some ds=>getL ds q S|none=>.no
theorem yKD{K:PySem.W.Frag}{α:List Addr}{H:Hp}{ds:List MV}{vs:List V}{i:Int}{d:MV}(l:DenL K α H ds vs)(e:atI ds i=some d): ∃v,atI vs i=some v/\Den K α H d v:=by
 unfold atI at e ⊢
 rw [l.length]
 cases z:ixN ds.length i with
 |none=>rw [z]at e;cases e
 |some j=>
  rw [z]at e
  obtain⟨v,h1,h2⟩:=l.at (show ds[j]? =some d from e)
  exact⟨v,h1,h2⟩
theorem zW(ha:PEm X W a f)(hb:PEm X W b g)(hs:zTS b:=by exact λ_ _=>rfl):PEm X W (.Subscript a b pos) (λρ S=>(f ρ S).bind λp S1=>(g ρ S1).bind λq S2=>ixF p q S2):=by
 refine pm_ix yNQ ?_ ha hb hs
 intro p q x y α S H Q wd dp dq post
 have key: ∀{ds:List MV}{vs:List V}{i:Int}{d:MV},DenL X.K α H ds vs->atI ds i=some d->Post X.g W α H (.ok (Er.val d) S) Q-> ∃v,atI vs i=some v/\Q v H:=λl e post=>by
  obtain⟨v,h1,h2⟩:=yKD l e
  exact⟨v,h1,Post.val post wd h2⟩
 unfold ixF at post
 split at post
 ·split at post
  ·rename_i hz
   split at post
   ·rename_i ch e
    refine .inr (.inr ⟨_,_,ch,kG dp,xL dq,by rw [jE];exact hz,by rw [zDO];exact e,?_⟩)
    exact Post.val post wd (dN [ch])
   ·exact post.elim
  ·exact post.elim
 ·unfold getL at post
  split at post
  ·split at post
   ·rename_i d e
    obtain⟨a1,vs,rfl,s1,l1⟩:=nL dp
    obtain⟨v,h1,h2⟩:=key l1 e post
    exact .inr (.inl ⟨a1,vs,_,v,rfl,xL dq,s1,h1,h2⟩)
   ·exact post.elim
  ·exact post.elim
 ·split at post
  ·rename_i ds el
   unfold getL at post
   split at post
   ·split at post
    ·rename_i d e
     obtain⟨a1,vs,rfl,s1,l1⟩:=zKU rfl wd el dp
     obtain⟨v,h1,h2⟩:=key l1 e post
     exact .inl ⟨a1,vs,_,v,rfl,xL dq,s1,h1,h2⟩
    ·exact post.elim
   ·exact post.elim
  ·exact post.elim
end
theorem zRV{prog:Program}{w:World}{A:Around}{E:Value->Shared->Prop}{s:Shared}{t sl:Addr}{its:Array Value}{vl vu:Value}{lo hi:Option Int}{Q:Value->Shared->Prop}(ht:IsTup s.heap t its)(hs:s.heap.IsSliceOf sl vl vu .none)(pl:IsPart vl lo)(pu:IsPart vu hi)
  (h0:HT.sIx its.size 0 lo=0) (h1:HT.sIx its.size its.size hi=its.size) (h:Q (.ref t) s):wpAny (model prog w) A (getItem (.ref t) (.ref sl)) Q E s:=by
 have hTs:s.TypeIs (.ref sl) "slice":=by obtain⟨os,hos,hcs,_⟩:=id hs;exact⟨os,hos,hcs⟩
 have hTt:=ht.typeIs
 unfold getItem
 try with_reducible refine wpAny_holding ?_
 first |refine wB0 (wP0 ?_)|skip
 refine wB0 (wpAny_sequenceKey hTt (by decide) ?_)
 refine wB0 (wpAny_callSpecial?_slot (name:=Str.ofString "__getitem__") hTt PyProof.Rows.slot_tuple_getitem (wpAny_call_entry PyProof.Rows.slot_tuple_getitem hTt entry_tuple_getitem ?_ (args_tuple_getitem _ _)))
 show wpAny _ _ (Builtin.Tuple.tupleItemsOf (.ref t) >>= _) _ _ s
 refine wB0 (tupleItemsOf_ ht (wB0 (wpAny_typeOf hTs ?_)))
 rw [iP (by decide)]
 refine wB0 (HT.sliceApplied_gen hs pl pu ?_)
 show wpAny _ _ (if(((HT.sIx its.size 0 lo:Nat):Int)==0&&(1:Int)==1&&(HT.sIx its.size its.size hi - HT.sIx its.size 0 lo)==its.size)=true then _ else _) _ _ s
 rw [iP (by rw [h0,h1];simp)]
 unfold Builtin.Tuple.tupleIsExact
 refine wB0 (wB0 (wpAny_typeOf hTt (wP0 ?_)))
 rw [iP (by decide)]
 refine wB0 (wpAny_rule ?_)
 first
  |exact wP0 ⟨_,rfl,wP0 h⟩
  |exact wB0 (wP0 (wP0 ⟨_,rfl,wP0 h⟩))
  |exact wB0 (wP0 ⟨_,rfl,wP0 h⟩)
section
variable{X:Cx}{W:XW}{a b c e:Expr}{es:List Expr}{f g h:Rho->Sto->R Er}{af:Rho->Sto->R (List Er)}{pos:Pos}
theorem yKE:SlR X (λx lo hi H Q=> ∃a xs,x=.ref a/\SqT X.K H a xs/\HT.sIx xs.length 0 lo=0/\HT.sIx xs.length xs.length hi=xs.length/\Q (.ref a) H):=by
 intro pins s σ H x v vl vu lo hi sl Q I rx hs pl pu h
 obtain⟨a,xs,rfl,hx,h0,h1,q⟩:=h
 cases rx
 obtain⟨its,r,ht,hz⟩:=I.tuple hx
 have hlen:its.toArray.size=xs.length:=by rw [sA];exact r.length.symm
 exact⟨"tuple",_,PyProof.Rows.slot_tuple_getitem.lookup,ht.typeIs,zRV ht hs pl pu (by rw [hlen];exact h0) (by rw [hlen];exact h1) ⟨.ref a,H,I,rfl,q⟩⟩
def zNX:Er->Option Int->Option Int->Sto->R Er
 |.val (.str x),lo,hi,S=>if x.length<=sizeLine then .ok (.val (.str (cF x lo hi))) S else .no
 |.val (.tup ds),lo,hi,S=>.ok (.val (.tup (cF ds lo hi))) S
 |p,lo,hi,S=>match cG S p with |some ds=>.ok (.new (cF ds lo hi)) S|none=>.no
theorem yDP{α:Type}{ds:List α}{lo hi:Option Int}(h0:HT.sIx ds.length 0 lo=0)(h1:HT.sIx ds.length ds.length hi=ds.length):cF ds lo hi=ds:=by
 unfold cF
 rw [h0,h1]
 simp
theorem zMM{lo hi:Option Expr}{lf hf:Rho->Sto->R (Option Int)}{p2:Pos}(ha:PEm X W a f)(hl:POm X W lo lf)(hh:POm X W hi hf):PEm X W (.Subscript a (.Slice lo hi none p2) pos) (λρ S=>(f ρ S).bind λp S1=>(lf ρ S1).bind λl S2=>(hf ρ S2).bind λu S3=>zNX p l u S3):=by
 refine yGD (yNW.or (yJJ.or (yNP.or yKE))) ?_ ha hl hh
 intro p lo hi x α S H Q wd dp post
 unfold zNX at post
 split at post
 ·split at post
  ·rename_i hz
   exact .inl ⟨_,kG dp,hz,Post.val post wd (dN _)⟩
  ·exact post.elim
 ·rename_i _ _ _ ds
  obtain⟨a1,vs,rfl,s1,l1⟩:=nL dp
  by_cases hw:HT.sIx vs.length 0 lo=0/\HT.sIx vs.length vs.length hi=vs.length
  ·have e:cF ds lo hi=ds:=yDP (by rw [<-l1.length];exact hw.1) (by rw [<-l1.length];exact hw.2)
   rw [e]at post
   exact .inr (.inr (.inr ⟨a1,vs,rfl,s1,hw.1,hw.2,Post.val post wd (zBF s1 l1)⟩))
  ·exact .inr (.inr (.inl ⟨a1,vs,rfl,s1,hw,λp hp=>Post.newt post wd hp (l1.cut lo hi)⟩))
 ·split at post
  ·rename_i ds el
   obtain⟨a1,vs,rfl,s1,l1⟩:=zKU rfl wd el dp
   exact .inr (.inl ⟨a1,vs,rfl,s1,λp hp=>Post.newl post wd hp (l1.cut lo hi)⟩)
  ·exact post.elim
end
section
variable{X:Cx}{W:XW}{a b c e:Expr}{es:List Expr}{f g h:Rho->Sto->R Er}{af:Rho->Sto->R (List Er)}{pos:Pos}
def zUM(S:Sto)(n:Nat)(d:MV):List MV->Option (List Bool)
 |[]=>some []
 |y::ys=>(eqv S n y d).bind λk=>(zUM S n d ys).map (k::·)
section
variable{α:List Addr}{S:Sto}{H:Hp}{pins:List (Addr×Obj)}{σ:St}{s:Shared}
noncomputable def zWR(X:Cx)(α:List Addr)(S:Sto)(H:Hp)(n:Nat)(d:MV)(u:Value):Bool:=open Classical in decide (∃y x,Den X.K α H y x/\RelV x u/\eqv S n y d=some true)
open Classical in
theorem yKF(I:Inv X pins σ H s)(wd:Wd X.g α S H){n:Nat}{d y:MV}{x:V}{u:Value}{k:Bool}(dy:Den X.K α H y x)(r:RelV x u)(e:eqv S n y d=some k):zWR X α S H n d u=k:=by
 unfold zWR
 cases k with
 |true=>exact dT0 ⟨y,x,dy,r,e⟩
 |false=>
  refine dF0 λ⟨y',x',dy',r',e'⟩=>?_
  have ex:=r.inj r'
  subst ex
  rw [dy.inj I wd dy']at e
  rw [e]at e'
  cases e'
theorem zKX(I:Inv X pins σ H s)(wd:Wd X.g α S H){n:Nat}{A:Around}{d:MV}{x:V}{v:Value}(hu:A.units+n<cLine)(dd:Den X.K α H d x)(rx:RelV x v): ∀{ys:List MV}{vs:List V}{us:List Value}{bs:List Bool},DenL X.K α H ys vs->Vals vs us->zUM S n d ys=some bs->
  us.map (zWR X α S H n d)=bs/\ ∀u∈us,SeqAt.EqAt A s u v (zWR X α S H n d u)
 |[],_,_,bs,l,r,e=>by
  cases l.isnil;cases r;cases e
  exact⟨rfl,λu hu=>by cases hu⟩
 |y::ys,_,_,bs,l,r,e=>by
  obtain⟨v',r',rfl,dy,l'⟩:=l.uncons
  cases r with
  |cons r1 r2=>
   unfold zUM at e
   cases z:eqv S n y d with
   |none=>rw [z]at e;cases e
   |some k=>
    rw [z]at e
    cases z2:zUM S n d ys with
    |none=>simp [z2]at e
    |some cs=>
     simp [z2]at e
     subst e
     obtain⟨h1,h2⟩:=zKX I wd hu dd rx l' r2 z2
     have h3:=yKF I wd dy r1 z
     refine⟨by rw [map_cons,h1,h3],λu hu'=>?_⟩
     rcases mC.mp hu' with rfl|hu'
     ·rw [h3];exact zUJ I wd n A y d _ _ _ _ k hu dy dd r1 rx z
     ·exact h2 u hu'
end
theorem any_map{us:List Value}{f:Value->Bool}{bs:List Bool}(h:us.map f=bs):us.toArray.any f=bs.any id:=by
 subst h
 simp [List.any_map]
def itemsOf(S:Sto):Er->Option (List MV)
 |.val (.tup ds)=>some ds
 |r=>cG S r
theorem zPL{α:List Addr}{S:Sto}{H:Hp}(wd:Wd X.g α S H){r:Er}{ds:List MV}{x:V}(e:itemsOf S r=some ds)(d:DenX X.K α H r x): ∃a vs,x=.ref a/\(SqL X.K H a vs\/SqT X.K H a vs)/\DenL X.K α H ds vs:=by
 unfold itemsOf at e
 split at e
 ·cases e
  obtain⟨a,vs,rfl,s,l⟩:=nL d
  exact⟨a,vs,rfl,.inr s,l⟩
 ·obtain⟨a,vs,rfl,s,l⟩:=zKU rfl wd e d
  exact⟨a,vs,rfl,.inl s,l⟩
def zMN(neg:Bool)(p q:Er)(S:Sto):R Er:=match p with
 |.val d=>match itemsOf S q with
  |some ys=>match zUM S yE d ys with
   |some bs=>.ok (.val (.bl (if neg=true then !bs.any id else bs.any id))) S
   |none=>.no
  |none=>.no
 |.new _=>.no
def inF(neg:Bool):Er->Er->Sto->R Er
 |.val (.str [c]),.val (.str y),S=>.ok (.val (.bl (if neg=true then !decide (c∈y)else decide (c∈y)))) S
 |p,q,S=>zMN neg p q S
abbrev yGO(X:Cx)(neg:Bool):R2:=λx y H Q=> ∃α S d q ys bs,Wd X.g α S H/\Den X.K α H d x/\DenX X.K α H q y/\itemsOf S q=some ys/\zUM S yE d ys=some bs/\Q (.bl (if neg=true then !bs.any id else bs.any id)) H
theorem yOL(hu:X.A.units+64<cLine):OpR X (compareOp .In) (yGO X false):=by
 intro pins s σ H x y v u Q I rx ry h
 obtain⟨α,S,d,q,ys,bs,wd,dd,dq,ei,ea,hq⟩:=h
 obtain⟨a,vs,rfl,sq,l⟩:=zPL wd ei dq
 cases ry
 rcases sq with sq|sq
 ·obtain⟨its,r,pl,_⟩:=I.list sq
  obtain⟨h1,h2⟩:=zKX I wd (A:=X.A.in1) (by show X.A.units+1+yE<cLine;unfold yE;omega) dd rx l r ea
  refine SeqAt.in_listAt (zWR X α S H yE d) pl.isList (λw hw=>h2 w (by simpa using hw)) ⟨.bl _,H,I,rfl,?_⟩
  rw [any_map h1]
  exact hq
 ·obtain⟨its,r,pl,_⟩:=I.tuple sq
  obtain⟨h1,h2⟩:=zKX I wd (A:=X.A.in1) (by show X.A.units+1+yE<cLine;unfold yE;omega) dd rx l r ea
  refine SeqAt.in_tupleAt (zWR X α S H yE d) pl (λw hw=>h2 w (by simpa using hw)) ⟨.bl _,H,I,rfl,?_⟩
  rw [any_map h1]
  exact hq
theorem yDQ(hu:X.A.units+64<cLine):OpR X (compareOp .NotIn) (yGO X true):=by
 intro pins s σ H x y v u Q I rx ry h
 obtain⟨α,S,d,q,ys,bs,wd,dd,dq,ei,ea,hq⟩:=h
 obtain⟨a,vs,rfl,sq,l⟩:=zPL wd ei dq
 cases ry
 rcases sq with sq|sq
 ·obtain⟨its,r,pl,_⟩:=I.list sq
  obtain⟨h1,h2⟩:=zKX I wd (A:=X.A.in1) (by show X.A.units+1+yE<cLine;unfold yE;omega) dd rx l r ea
  refine SeqAt.notIn_listAt (zWR X α S H yE d) pl.isList (λw hw=>h2 w (by simpa using hw)) ⟨.bl _,H,I,rfl,?_⟩
  rw [any_map h1]
  exact hq
 ·obtain⟨its,r,pl,_⟩:=I.tuple sq
  obtain⟨h1,h2⟩:=zKX I wd (A:=X.A.in1) (by show X.A.units+1+yE<cLine;unfold yE;omega) dd rx l r ea
  refine SeqAt.notIn_tupleAt (zWR X α S H yE d) pl (λw hw=>h2 w (by simpa using hw)) ⟨.bl _,H,I,rfl,?_⟩
  rw [any_map h1]
  exact hq
theorem yBS{neg:Bool}:Op2 X W (λx y H Q=>(∃i j,x=.str i/\y=.str j/\Q (.bl (if neg=true then !(!(Builtin.Str.occurrences j i 0 j.length 1).isEmpty)else !(Builtin.Str.occurrences j i 0 j.length 1).isEmpty)) H)\/yGO X neg x y H Q) (inF neg):=by
 intro p q x y α S H Q wd dp dq post
 unfold inF at post
 split at post
 ·refine .inl ⟨_,_,kG dp,kG dq,?_⟩
  rw [<-yJO,PySem.StrLaws.found_one,zDO]
  exact Post.val post wd (wD _)
 ·unfold zMN at post
  split at post
  ·rename_i d _
   split at post
   ·rename_i ys ei
    split at post
    ·rename_i bs ea
     exact .inr ⟨α,S,_,q,ys,bs,wd,dp,dq,ei,ea,Post.val post wd (wD _)⟩
    ·exact post.elim
   ·exact post.elim
  ·exact post.elim
theorem OpR.imp{f:Value->Value->Sem Value}{r r':R2}(h:OpR X f r)(i: ∀x y H Q,r' x y H Q->r x y H Q):OpR X f r':=λpins s σ H x y v u Q I rx ry q=>h pins s σ H x y v u Q I rx ry (i x y H Q q)
theorem yOM(hu:X.A.units+64<cLine):OpR X (compareOp .In) (λx y H Q=>(∃i j,x=.str i/\y=.str j/\Q (.bl (if(false:Bool)=true then !(!(Builtin.Str.occurrences j i 0 j.length 1).isEmpty)else !(Builtin.Str.occurrences j i 0 j.length 1).isEmpty)) H)\/yGO X false x y H Q):=
 OpR.imp (yDC.or (yOL hu)) λx y H Q q=>q.imp (λq=>q) λq=>q
theorem yDR(hu:X.A.units+64<cLine):OpR X (compareOp .NotIn) (λx y H Q=>(∃i j,x=.str i/\y=.str j/\Q (.bl (if(true:Bool)=true then !(!(Builtin.Str.occurrences j i 0 j.length 1).isEmpty)else !(Builtin.Str.occurrences j i 0 j.length 1).isEmpty)) H)\/yGO X true x y H Q):=
 OpR.imp (zTP.or (yDQ hu)) λx y H Q q=>q.imp (λq=>q) λq=>q
theorem pm_in(hu:X.A.units+64<cLine)(ha:PEm X W a f)(hb:PEm X W b g)(hm:behindInMarks .In b=false:=by with_unfolding_all rfl):PEm X W (.Compare a [.In] [b] pos) (λρ S=>(f ρ S).bind λp S1=>(g ρ S1).bind λq S2=>inF false p q S2):=zUD (yOM hu) yBS ha hb hm
theorem yGP(hu:X.A.units+64<cLine)(ha:PEm X W a f)(hb:PEm X W b g)(hm:behindInMarks .NotIn b=false:=by with_unfolding_all rfl):PTm X W (.Compare a [.NotIn] [b] pos) (λρ S=>((f ρ S).bind λp S1=>(g ρ S1).bind λq S2=>inF true p q S2).bind asB):=zMH (yDR hu) yBS ha hb hm
theorem zNM{K:PySem.W.Frag}{α:List Addr}{H:Hp}{r:Er}{vs:List V}(d:ArgsX K α H [r] vs): ∃v,vs=[v]/\DenX K α H r v:=by
 cases d with
 |cons a l=>cases l;exact⟨_,rfl,a⟩
theorem argx2{K:PySem.W.Frag}{α:List Addr}{H:Hp}{r r':Er}{vs:List V}(d:ArgsX K α H [r,r'] vs): ∃v u,vs=[v,u]/\DenX K α H r v/\DenX K α H r' u:=by
 cases d with
 |cons a l=>obtain⟨u,rfl,l'⟩:=zNM l;exact⟨_,u,rfl,a,l'⟩
def wF:List Er->Sto->R Er
 |[.val (.str x)],S=>if x.length<=sizeLine then .ok (.val (.int x.length)) S else .no
 |[r],S=>match itemsOf S r with |some ds=>.ok (.val (.int ds.length)) S|none=>.no
 |_,_=>.no
theorem xC:zNL X W (λxs H Q=>(∃z,xs=[.str z]/\z.length<=sizeLine/\Q (.int z.length) H)\/ ∃p ys,xs=[.ref p]/\(SqL X.K H p ys\/SqT X.K H p ys)/\Q (.int ys.length) H) wF:=by
 intro rs vs α S H Q wd d post
 unfold wF at post
 split at post
 ·split at post
  ·rename_i hz
   obtain⟨v,rfl,dv⟩:=zNM d
   cases kG dv
   refine .inl ⟨_,rfl,by rw [jE];exact hz,?_⟩
   rw [jE]
   exact Post.val post wd (wA _)
  ·exact post.elim
 ·split at post
  ·rename_i ds e
   obtain⟨v,rfl,dv⟩:=zNM d
   obtain⟨a,us,rfl,sq,l⟩:=zPL wd e dv
   refine .inr ⟨a,us,rfl,sq,?_⟩
   rw [l.length]
   exact Post.val post wd (wA _)
  ·exact post.elim
 ·exact post.elim
theorem zZ:CallR X (.builtin "len") (λxs H Q=>(∃z,xs=[.str z]/\z.length<=sizeLine/\Q (.int z.length) H)\/ ∃p ys,xs=[.ref p]/\(SqL X.K H p ys\/SqT X.K H p ys)/\Q (.int ys.length) H):=zTV.or zTU
def absF:List Er->Sto->R Er
 |[.val (.int i)],S=>.ok (.val (.int (if i<0 then -i else i))) S
 |_,_=>.no
theorem yON:zNL X W (λxs H Q=> ∃i,xs=[.int i]/\Q (.int (if i<0 then -i else i)) H) absF:=by
 intro rs vs α S H Q wd d post
 unfold absF at post
 split at post
 ·obtain⟨v,rfl,dv⟩:=zNM d
  cases xL dv
  exact⟨_,rfl,Post.val post wd (wA _)⟩
 ·exact post.elim
def zKY:List MV->Option (List Bool)
 |[]=>some []
 |.bl b::r=>(zKY r).map (b::·)
 |_::_=>none
theorem zSU{K:PySem.W.Frag}{α:List Addr}{H:Hp}: ∀{ds:List MV}{bs:List Bool}{vs:List V},zKY ds=some bs->DenL K α H ds vs->vs=bs.map V.bl
 |[],_,_,e,l=>by cases e;exact l.isnil
 |d::r,bs,_,e,l=>by
  cases d with
  |bl b=>
   unfold zKY at e
   cases z:zKY r with
   |none=>rw [z]at e;cases e
   |some cs=>
    rw [z]at e
    cases e
    obtain⟨v,us,rfl,dv,l'⟩:=l.uncons
    rw [zDA dv,zSU z l']
    rfl
  |_=>cases e
def zUN:List Er->Sto->R Er
 |[r],S=>match (cG S r).bind zKY with |some bs=>.ok (.val (.bl (bs.all id))) S|none=>.no
 |_,_=>.no
theorem zPM(hc:X.calm=true):zNL X W (λxs H Q=> ∃(a:Addr)(bs:List Bool),xs=[.ref a]/\SqL X.K H a (bs.map V.bl)/\X.calm=true/\Q (.bl (bs.all id)) H) zUN:=by
 intro rs vs α S H Q wd d post
 unfold zUN at post
 split at post
 ·split at post
  ·rename_i bs e
   obtain⟨v,rfl,dv⟩:=zNM d
   cases z:cG S _ with
   |none=>rw [z]at e;cases e
   |some ds=>
    rw [z]at e
    obtain⟨a1,us,rfl,s,l⟩:=zKU rfl wd z dv
    refine⟨a1,bs,rfl,?_,hc,Post.val post wd (wD _)⟩
    rw [<-zSU e l]
    exact s
  ·exact post.elim
 ·exact post.elim
def zUO(S:Sto):Er->Option String
 |.val .non=>some "NoneType"
 |.val (.bl _)=>some "bool"
 |.val (.int _)=>some "int"
 |.val (.str _)=>some "str"
 |.val (.tup _)=>some "tuple"
 |.val (.typ _)=>none
 |r=>(cG S r).map λ_=>"list"
def yGQ(t T:String):Bool:=t==T || (t=="bool"&&T=="int")
def known(T:String):Bool:=T=="int" || T=="bool" || T=="str" || T=="tuple" || T=="list"
def zIL:List Er->Sto->R Er
 |[r,.val (.typ T)],S=>match zUO S r with
  |some t=>if known T=true then .ok (.val (.bl (yGQ t T))) S else .no
  |none=>.no
 |_,_=>.no
theorem nF(K:PySem.W.Frag){t T:String}(ht:t="NoneType"\/t="bool"\/t="int"\/t="str"\/t="tuple"\/t="list")(hT:known T=true):PySem.W.kitOne K (.type t) (.type T)=some (yGQ t T):=by
 have hT':T="int"\/T="bool"\/T="str"\/T="tuple"\/T="list":=by
  unfold known at hT
  simp only [or_eq_true,beq_iff_eq]at hT
  rcases hT with(((h|h)|h)|h)|h
  ·exact .inl h
  ·exact .inr (.inl h)
  ·exact .inr (.inr (.inl h))
  ·exact .inr (.inr (.inr (.inl h)))
  ·exact .inr (.inr (.inr (.inr h)))
 rcases ht with rfl|rfl|rfl|rfl|rfl|rfl<;>rcases hT' with rfl|rfl|rfl|rfl|rfl<;>kernel_rfl
theorem zGB:CallR X (.builtin "isinstance") (λxs H Q=> ∃α S r x t T,xs=[x,.ty T]/\Wd X.g α S H/\DenX X.K α H r x/\zUO S r=some t/\known T=true/\Q (.bl (yGQ t T)) H):=by
 intro pins s σ H xs us Q I rr h
 obtain⟨α,S,r,x,t,T,rfl,wd,d,et,hk,q⟩:=h
 obtain⟨u,w',rfl,rx,rT⟩:=vals2 rr
 cases rT
 have fin: ∀tk,EP X pins σ Q (.bool (yGQ t T)) {s with toks:=tk}:=λtk=>⟨.bl _,H,I.tok _,rfl,q⟩
 unfold zUO at et
 split at et
 ·cases et
  cases zZG d
  cases rx
  exact PySem.W.kia_one PySem.W.kitx_none I.kIn True.intro (nF X.K (.inl rfl) hk) (λz=>nomatch z) fin
 ·cases et
  cases zFW d
  cases rx
  exact PySem.W.kia_one PySem.W.kitx_bool I.kIn True.intro (nF X.K (.inr (.inl rfl)) hk) (λz=>nomatch z) fin
 ·cases et
  cases xL d
  obtain⟨t,rfl⟩:=rx
  exact PySem.W.kia_one PySem.W.kitx_int I.kIn True.intro (nF X.K (.inr (.inr (.inl rfl))) hk) (λz=>nomatch z) fin
 ·cases et
  cases kG d
  obtain⟨t,rfl⟩:=rx
  exact PySem.W.kia_one PySem.W.kitx_str I.kIn True.intro (nF X.K (.inr (.inr (.inr (.inl rfl)))) hk) (λz=>nomatch z) fin
 ·cases et
  obtain⟨a,vs,rfl,sq,l⟩:=nL d
  cases rx
  obtain⟨its,r1,p1,_⟩:=I.tuple sq
  obtain⟨o,h1,h2,_⟩:=p1
  exact PySem.W.kia_one PySem.W.kitx_tuple I.kIn ⟨o,h1,h2⟩ (nF X.K (.inr (.inr (.inr (.inr (.inl rfl))))) hk) (λz=>nomatch z) fin
 ·cases et
 ·cases z:cG S r with
  |none=>rw [z]at et;cases et
  |some ds=>
   rw [z]at et
   cases et
   obtain⟨a,vs,rfl,sq,l⟩:=zKU rfl wd z d
   cases rx
   obtain⟨its,r1,p1,_⟩:=I.list sq
   obtain⟨o,h1,h2,_⟩:=p1.isList
   exact PySem.W.kia_one PySem.W.kitx_list I.kIn ⟨o,h1,h2⟩ (nF X.K (.inr (.inr (.inr (.inr (.inr rfl))))) hk) (λz=>nomatch z) fin
theorem zPN:zNL X W (λxs H Q=> ∃α S r x t T,xs=[x,.ty T]/\Wd X.g α S H/\DenX X.K α H r x/\zUO S r=some t/\known T=true/\Q (.bl (yGQ t T)) H) zIL:=by
 intro rs vs α S H Q wd d post
 unfold zIL at post
 split at post
 ·split at post
  ·rename_i t et
   split at post
   ·rename_i hk
    obtain⟨v,u,rfl,d1,d2⟩:=argx2 d
    cases yOD d2
    exact⟨α,S,_,v,t,_,rfl,wd,d1,et,hk,Post.val post wd (wD _)⟩
   ·exact post.elim
  ·exact post.elim
 ·exact post.elim
def jM:List Er->Sto->R Er
 |[.val (.tup ds)],S=>.ok (.val (.tup ds)) S
 |[r],S=>match cG S r with |some ds=>.ok (.val (.tup ds)) S|none=>.no
 |_,_=>.no
theorem kU:zNL X W (λxs H Q=> ∃p ys,xs=[.ref p]/\((SqL X.K H p ys/\ ∀l,H l=none->Q (.ref l) (upd H l (.tup ys)))\/(SqT X.K H p ys/\Q (.ref p) H))) jM:=by
 intro rs vs α S H Q wd d post
 unfold jM at post
 split at post
 ·obtain⟨v,rfl,dv⟩:=zNM d
  obtain⟨a,us,rfl,sq,l⟩:=nL dv
  exact⟨a,us,rfl,.inr ⟨sq,Post.val post wd (zBF sq l)⟩⟩
 ·split at post
  ·rename_i ds e
   obtain⟨v,rfl,dv⟩:=zNM d
   obtain⟨a,us,rfl,sq,l⟩:=zKU rfl wd e dv
   exact⟨a,us,rfl,.inl ⟨sq,λp hp=>Post.newt post wd hp l⟩⟩
  ·exact post.elim
 ·exact post.elim
theorem xD:bootBuiltins "len"=some (.builtin "len"):=by decide+kernel
theorem yOO:bootBuiltins "abs"=some (.builtin "abs"):=by decide+kernel
theorem zPO:bootBuiltins "all"=some (.builtin "all"):=by decide+kernel
theorem kW:bootBuiltins "isinstance"=some (.builtin "isinstance"):=by decide+kernel
theorem yOP:bootBuiltins "int"=some (.type "int"):=by decide+kernel
theorem yKG:bootBuiltins "bool"=some (.type "bool"):=by decide+kernel
theorem yOQ:bootBuiltins "str"=some (.type "str"):=by decide+kernel
theorem wV:bootBuiltins "tuple"=some (.type "tuple"):=by decide+kernel
theorem yBT:bootBuiltins "list"=some (.type "list"):=by decide+kernel
end
def digN(n:Nat):List Nat:=(Nat.toDigits 10 n).map Char.toNat
def decL(i:Int):List Nat:=if i<0 then 45::digN i.natAbs else digN i.natAbs
section
variable{X:Cx}{W:XW}{a b c e o i:Expr}{es:List Expr}{f g h:Rho->Sto->R Er}{af:Rho->Sto->R (List Er)}{pos apos:Pos}
def strF:List Er->Sto->R Er
 |[.val (.int i)],S=>if i.natAbs.log2<1920 then .ok (.val (.str (decL i))) S else .no
 |[.val (.str x)],S=>.ok (.val (.str x)) S
 |_,_=>.no
def zPP:Er->Sto->Bool
 |.val (.str _),_=>true
 |_,_=>false
theorem ty_str:TyM X "str" zPP:=by
 intro p x α S H wd d h
 unfold zPP at h
 split at h
 ·cases kG d;rfl
 ·cases h
def zIR(p:Er)(S:Sto):Bool:=(cG S p).isSome
theorem yOR:TyM X "list" zIR:=by
 intro p x α S H wd d h
 unfold zIR at h
 cases z:cG S p with
 |none=>rw [z]at h;cases h
 |some ds=>
  obtain⟨a,vs,rfl,s,l⟩:=zKU rfl wd z d
  exact .inl ⟨rfl,vs,s⟩
def swF:Er->List Er->Sto->R Er
 |.val (.str x),[.val (.str y)],S=>.ok (.val (.bl (decide (y.length<=x.length)&&decide (x.take y.length=y)))) S
 |_,_,_=>.no
def strIdx(x y:List Nat):Option Nat:=(Builtin.Str.occurrences (mkS x) (mkS y) 0 (mkS x).length 1).head?
def zWS:Er->List Er->Sto->R Er
 |.val (.str x),[.val (.str y)],S=>match strIdx x y with |some i=>.ok (.val (.int (i:Nat))) S|none=>.no
 |_,_,_=>.no
theorem yKH:MtR X "str.index" (λx xs H Q=> ∃y z i,x=.str (mkS y)/\xs=[.str (mkS z)]/\strIdx y z=some i/\Q (.int (i:Nat)) H):=by
 intro pins s σ H x xs v us Q I rx rs h
 obtain⟨y,z,i,rfl,rfl,hi,q⟩:=h
 obtain⟨t,rfl⟩:=rx
 obtain⟨u,rfl,t',rfl⟩:=vals1 rs
 unfold strIdx at hi
 cases zz:Builtin.Str.occurrences (mkS y) (mkS z) 0 (mkS y).length 1 with
 |nil=>rw [zz]at hi;cases hi
 |cons k r=>
  rw [zz]at hi
  cases hi
  exact PySem.SC.index zz ⟨.int _,H,I.tok _,⟨_,rfl⟩,q⟩
theorem yKI:MtdM X W (λx xs H Q=> ∃y z i,x=.str (mkS y)/\xs=[.str (mkS z)]/\strIdx y z=some i/\Q (.int (i:Nat)) H) zWS:=by
 intro p rs x vs α S H0 H Q α0 wd x0 dp da post
 replace post:=post.shift x0
 unfold zWS at post
 split at post
 ·split at post
  ·rename_i i hi
   obtain⟨v,rfl,dv⟩:=yBN da
   exact⟨_,_,i,kG dp,by rw [kG dv],hi,Post.val post wd (wA _)⟩
  ·exact post.elim
 ·exact post.elim
theorem yKJ(ho:PEm X W a f)(ha:PAm X W (e::es) af)
  (hbase:attributeBase a "index" X.env (eval a X.env)=eval a X.env:=by rfl)
  (hfew:((backTo pos (starEach (e::es) X.env)).all (λx=>!x.1)&&(backToKw pos (keywordEach [] X.env)).all (λx=>x.1.isSome)
   &&decide ((e::es).length+([]:List Keyword).length+(if([]:List Keyword).isEmpty then 0 else 1)<30))=true:=by rfl)
  (hline:(apos.endLine==pos.line)=true:=by rfl) (hs:starEach (e::es) X.env=(false,eval e X.env)::starEach es X.env:=by rfl) (hplain:(backTo pos (starEach es X.env)).any (·.1)=false:=by rfl):
  PEm X W (.Call (.Attribute a "index" apos) (e::es) [] pos) (λρ S=>(f ρ S).bind λp S1=>if zPP p S1=true then(af ρ S1).bind λrs S2=>zWS p rs S2 else .no):=
 yBM PySem.F.plainAttrs_str PySem.F.slot_str_index PySem.F.type_str_index yKH yKI ty_str ho ha hbase hfew hline hs hplain
def yDS(p:Er)(S:Sto)(G:List MV->Option (List MV)):R Er:=match p with
 |.val (.loc l)=>match S[l]? with
  |some (.lst ds)=>match G ds with
   |some es=>.ok (.val .non) (S.set l (.lst es))
   |none=>.no
  |_=>.no
 |_=>.no
theorem yDT{α0 α:List Addr}{H0 H:Hp}{S:Sto}{p:Er}{x:V}{G:List MV->Option (List MV)}{Q:VK}(wd:Wd X.g α S H)(x0:Ext α0 H0 α H)(dp:DenX X.K α H p x)(post:Post X.g W α0 H0 (yDS p S G) Q):
  ∃a vs ds es,x=.ref a/\H a=some (.lst vs)/\DenL X.K α H ds vs/\G ds=some es/\ ∀us,DenL X.K α H es us->Q .non (upd H a (.lst us)):=by
 unfold yDS at post
 split at post
 ·rename_i l
  obtain⟨a,rfl,h⟩:=zDP dp
  obtain⟨ob,h1,h2⟩:=wd.of h
  rw [h1]at post
  cases ob with
  |lst ds=>
   obtain⟨vs,h3,l1⟩:=h2
   have post:Post X.g W α0 H0 (match G ds with |some es=>R.ok (Er.val .non) (S.set l (.lst es))|none=>R.no) Q:=post
   split at post
   ·rename_i es eg
    refine⟨a,vs,ds,es,rfl,h3,l1,eg,λus lu=>?_⟩
    have xw:=wd.writex h (o:=.lst us)
    exact(post.shift (x0.trans xw)).val (wd.write h ⟨us,xF,lu.ext xw⟩) zBE
   ·exact post.elim
  |dic _=>exact post.elim
  |ins _ _=>exact post.elim
 ·exact post.elim
def zWT:Er->List Er->Sto->R Er
 |p,[r],S=>(hZ r S).bind λy S1=>yDS p S1 λds=>if ds.length<sizeLine then some (ds++[y])else none
 |_,_,_=>.no
theorem yDU:MtdM X W yBH zWT:=by
 intro p rs x vs α S H0 H Q α0 wd x0 dp da post
 match rs,da,post with
 |[],_,post=>exact post.elim
 |_::_::_,_,post=>exact post.elim
 |[r],da,post=>
  cases da with
  |cons d n l=>
   cases l
   obtain⟨d',S',α',e',x',y',w',dd⟩:=nE wd x0 d
   have post:Post X.g W α0 H0 ((hZ r S).bind λy S1=>yDS p S1 λds=>if ds.length<sizeLine then some (ds++[y])else none) Q:=post
   rw [e']at post
   have dp':DenX X.K α' H p x:=by
    cases p with
    |val m=>exact Den.ex0 y' dp
    |new ds=>exact post.elim
   obtain⟨a,us,ds,es,rfl,h1,l1,eg,k⟩:=yDT w' x' dp' post
   split at eg
   ·rename_i hz
    cases eg
    exact⟨a,us,_,rfl,rfl,h1,by rw [l1.length];exact hz,k _ (l1.append (yX dd xG))⟩
   ·cases eg
theorem zDC(ho:PEm X W a f)(ha:PAm X W (e::es) af)
  (hbase:attributeBase a "append" X.env (eval a X.env)=eval a X.env:=by rfl)
  (hfew:((backTo pos (starEach (e::es) X.env)).all (λx=>!x.1)&&(backToKw pos (keywordEach [] X.env)).all (λx=>x.1.isSome)
   &&decide ((e::es).length+([]:List Keyword).length+(if([]:List Keyword).isEmpty then 0 else 1)<30))=true:=by rfl)
  (hline:(apos.endLine==pos.line)=true:=by rfl) (hs:starEach (e::es) X.env=(false,eval e X.env)::starEach es X.env:=by rfl) (hplain:(backTo pos (starEach es X.env)).any (·.1)=false:=by rfl):
  PEm X W (.Call (.Attribute a "append" apos) (e::es) [] pos) (λρ S=>(f ρ S).bind λp S1=>if zIR p S1=true then(af ρ S1).bind λrs S2=>zWT p rs S2 else .no):=
 yBM PySem.F.plainAttrs_list PySem.F.slot_list_append PySem.F.type_list_append yDD yDU yOR ho ha hbase hfew hline hs hplain
def zWU(p q:Er)(d:MV)(ρ:Rho)(S:Sto):R Rho:=match p,q with
 |.val (.loc l),.val (.int k)=>match S[l]? with
  |some (.lst ds)=>match ixN ds.length k with
   |some j=>.ok ρ (S.set l (.lst (ds.set j d)))
   |none=>.no
  |_=>.no
 |_,_=>.no
theorem yOS(ho:PEm X W o f)(hi:PEm X W i g)
  (ha: ∀v,assign (.Subscript o i pos) X.env v=(do
   let ov <-holding [v] (eval o X.env)
   let iv <-holding [v,ov] (eval i X.env)
   standAt pos
   holding [v,ov,iv] (setItem ov iv v)
   release [v,ov,iv] []):=by intro _;rfl):PGm X W (.Subscript o i pos) (λd ρ S=>(f ρ S).bind λp S1=>(g ρ S1).bind λq S2=>zWU p q d ρ S2):=by
 obtain⟨to,ho,fo⟩:=ho
 obtain⟨ti,hi,fi⟩:=hi
 refine⟨_,yFG ho hi set_list ha,λα ρ S σ H d v Q wd sl de q=>fo α ρ S σ H _ wd sl (q.bind λu p S1 α1 H1 e1 x1 w1 d1 q1=>fi α1 ρ S1 σ H1 _ w1 (sl.ext x1) ((q1.shift x1).bind λu2 p2 S2 α2 H2 e2 x2 w2 d2 q2=>?_))⟩
 replace q2:=q2.shift x2
 have d1':=DenX.ext x2 d1.1
 unfold zWU at q2
 split at q2
 ·rename_i l k
  obtain⟨a,rfl,h⟩:=zDP d1'
  cases xL d2.1
  obtain⟨ob,h1,h2⟩:=w2.of h
  rw [h1]at q2
  cases ob with
  |lst ds=>
   obtain⟨vs,h3,l1⟩:=h2
   have q2:Post X.g W α2 H2 (match ixN ds.length k with |some j=>R.ok ρ (S2.set l (.lst (ds.set j d)))|none=>R.no) Q:=q2
   split at q2
   ·rename_i j ej
    have xw:=w2.writex h (o:=.lst (vs.set j v))
    have sl2:=((sl.ext x1).ext x2).ext xw
    exact⟨a,vs,k,j,rfl,rfl,h3,by rw [l1.length];exact ej,q2 σ α2 _ xw (w2.write h ⟨_,xF,(l1.set ((de.ext x1).ext x2) j).ext xw⟩) sl2⟩
   ·exact q2.elim
  |dic _=>exact q2.elim
  |ins _ _=>exact q2.elim
 ·exact q2.elim
end
theorem _root_.L2.Inv.turnedL{X:Cx}{pins:List (Addr×Obj)}{σ:St}{H:Hp}{s:Shared}{h':Heap}{t':Nat}{fp:List Addr}(I:Inv X pins σ H s)(k: ∀b o,b∉fp->s.heap.get? b=some o->h'.get? b=some o)
  (hf: ∀b∈fp,zMB X pins H b):Inv X pins σ H {s with heap:=h',toks:=t'}:=by
 have nit: ∀b u,H b=some u->b∉fp:=λb u e z=>by rw [(hf b z).1]at e;cases e
 refine I.step (g':=s.gens) (d':=s.drawn) (ch:=fp) (λb hb=>⟨(hf b hb).2.2.2.1,(hf b hb).2.1,(hf b hb).2.2.2.2.1,(hf b hb).2.2.2.2.2⟩) (λb o _ _ hc e _=>k b o hc e) (λb o _ _ hc e _=>⟨o.slots,k b o hc e⟩) (λ_ _ _ _ n=>n)
  (λb o hc e=>⟨o,k b o hc e⟩) (λ_ _ e=>e) (λ_ _ _ e=>e) (λb ps e=>⟨#[],by rw [e];simp⟩) (λm hm=>?_) (λb u e=>?_) I.bare
 ·obtain⟨o,es,ep,ho,r⟩:=hm
  exact⟨o,es,ep,k _ o (λz=>(hf _ z).2.1 rfl) ho,r⟩
 ·refine(I.hok b u e).stay (λc v hc q=>k c v ?_ q) (λ_ q=>q) λ_ _ q=>q
  rcases hc with z|z
  ·rw [z];exact nit b u e
  ·exact nit c _ z
def IsSub(k:Bool)(h:Heap)(it l:Addr)(i:Nat):Prop:=if k=true then h.IsListIter it l i else h.IsTupleIter it l i
def zNN(k:Bool)(h:Heap)(l:Addr)(its:Array Value):Prop:=if k=true then h.IsList l its else h.IsTuple l its
def zMO(k:Bool)(l:Addr):Obj:={cls:=.type (if k=true then "list_iterator" else "tuple_iterator"),data:=.fields #[.ref l,.int 0 0]}
theorem IsSub.mk'{k:Bool}{h:Heap}{it l:Addr}(e:h.get? it=some (zMO k l)):IsSub k h it l 0:=by
 cases k with
 |true=>exact⟨_,e,rfl,rfl⟩
 |false=>exact⟨_,e,rfl,rfl⟩
theorem IsSub.there{k:Bool}{h:Heap}{it l:Addr}{i:Nat}(x:IsSub k h it l i): ∃o,h.get? it=some o/\ ∀v,o.data≠.cell v:=by
 cases k with
 |true=>obtain⟨o,e,_,d⟩:=(x:h.IsListIter it l i);exact⟨o,e,λv z=>by rw [d]at z;cases z⟩
 |false=>obtain⟨o,e,_,d⟩:=(x:h.IsTupleIter it l i);exact⟨o,e,λv z=>by rw [d]at z;cases z⟩
theorem IsSub.move{k:Bool}{h h':Heap}{it l:Addr}{i:Nat}(x:IsSub k h it l i)(f: ∀o,h.get? it=some o->h'.get? it=some o):IsSub k h' it l i:=by
 cases k with
 |true=>obtain⟨o,e,r⟩:=(x:h.IsListIter it l i);exact⟨o,f o e,r⟩
 |false=>obtain⟨o,e,r⟩:=(x:h.IsTupleIter it l i);exact⟨o,f o e,r⟩
section
variable{prog:Program}{w:World}{A:Around}{E:Value->Shared->Prop}{s:Shared}
theorem zPQ{k:Bool}{l:Addr}{its:Array Value}{Q:Value->Shared->Prop}(hl:zNN k s.heap l its)(h:Q (.ref s.heap.objs.size) {s with heap:=s.heap.push (zMO k l)}):wpAny (model prog w) A (pyIter (.ref l)) Q E s:=by
 cases k with
 |true=>exact wpAny_pyIter_list hl h
 |false=>exact wpAny_pyIter_tuple hl h
theorem yGR{k:Bool}{it l:Addr}{i:Nat}{its:Array Value}{x:Value}{Q:Value->Shared->Prop}(hit:IsSub k s.heap it l i)(hl:zNN k s.heap l its)(hx:its[i]? =some x)
  (hQ: ∀h',IsSub k h' it l (i+1)->Heap.SameBut it s.heap h'->Q x {s with heap:=h'}):wpAny (model prog w) A (Builtin.SmallTypes.nextOf (.ref it)) Q E s:=by
 cases k with
 |true=>exact wpAny_nextOf_list_item hit hl hx hQ
 |false=>
  have hit':s.heap.IsTupleIter it l i:=hit
  obtain⟨o,ho,hc,hd⟩:=id hit'
  obtain⟨ol,hol,_,nl,hdl⟩:=(hl:s.heap.IsTuple l its)
  unfold Builtin.SmallTypes.nextOf
  refine wB0 (wpAny_callSpecial?_slot (name:=Str.ofString "__next__") hit'.typeIs F.slot_tuple_iterator_next (wpAny_call_entry F.slot_tuple_iterator_next hit'.typeIs F.entry_tuple_iterator_next ?_ (F.args_tuple_iterator_next_1 _)))
  show wpAny _ _ (field (.ref it) 0 >>= _) _ _ s
  refine wB0 (wpAny_field ho hd (x:=.ref l) rfl ?_)
  show wpAny _ _ (if(Value.ref l==Value.none)=true then _ else _) _ _ s
  rw [iN0 (show¬((Value.ref l==Value.none)=true)from xF0)]
  show wpAny _ _ (field (.ref it) 1 >>= _) _ _ s
  refine wB0 (wpAny_field ho hd (x:=.int i 0) rfl ?_)
  show wpAny _ _ (seqItems? (.ref l) >>= _) _ _ s
  refine wB0 (wpAny_seqItems hol hdl ?_)
  simp only [toNat_natCast,hx]
  refine wB0 (wpAny_setField ho hd (by simp) (wP0 ⟨x,rfl,wP0 (hQ _ ?_ (Heap.SameBut.update ..))⟩))
  exact⟨_,Heap.get?_update_self _ ho (Obj.isFreed_of_fields (Obj.data_mapFields hd _)),(Obj.cls_mapFields ..).trans hc,by rw [Obj.data_mapFields hd];simp [rawInt]⟩
theorem yKK{k:Bool}{it l:Addr}{i:Nat}{its:Array Value}{Q:Value->Shared->Prop}(hh:A.handled=none)(hit:IsSub k s.heap it l i)(hl:zNN k s.heap l its)(hx:its[i]? =none)
  (hE: ∀h' e,Heap.ExtBut it s.heap h'->(∃o,h'.get? e=some o/\o.cls=.type "StopIteration")->E (.ref e) {s with heap:=h'}):wpAny (model prog w) A (Builtin.SmallTypes.nextOf (.ref it)) Q E s:=by
 cases k with
 |true=>exact wpAny_nextOf_list_end hh hit hl hx hE
 |false=>
  have hit':s.heap.IsTupleIter it l i:=hit
  obtain⟨o,ho,hc,hd⟩:=id hit'
  obtain⟨ol,hol,_,nl,hdl⟩:=(hl:s.heap.IsTuple l its)
  unfold Builtin.SmallTypes.nextOf
  refine wB0 (wpAny_callSpecial?_slot (name:=Str.ofString "__next__") hit'.typeIs F.slot_tuple_iterator_next (wpAny_call_entry F.slot_tuple_iterator_next hit'.typeIs F.entry_tuple_iterator_next ?_ (F.args_tuple_iterator_next_1 _)))
  show wpAny _ _ (field (.ref it) 0 >>= _) _ _ s
  refine wB0 (wpAny_field ho hd (x:=.ref l) rfl ?_)
  show wpAny _ _ (if(Value.ref l==Value.none)=true then _ else _) _ _ s
  rw [iN0 (show¬((Value.ref l==Value.none)=true)from xF0)]
  show wpAny _ _ (field (.ref it) 1 >>= _) _ _ s
  refine wB0 (wpAny_field ho hd (x:=.int i 0) rfl ?_)
  show wpAny _ _ (seqItems? (.ref l) >>= _) _ _ s
  refine wB0 (wpAny_seqItems hol hdl ?_)
  simp only [toNat_natCast,hx]
  refine wB0 (wpAny_rule (wB0 (wpAny_setField ho hd (by simp) ?_)))
  show wpAny _ _ (newExc (.type "StopIteration") [] >>= _) _ _ _
  refine wB0 ?_
  simp only [newExc,newTuple]
  refine wB0 (wpAny_newObj_type ?_ (by size_fits))
  refine wB0 (m:=firstArgMember _ _) (wpAny_of_eq (a:=Value.none) (by first |rfl|(simp only [firstArgMember];rfl)) ?_)
  refine wpAny_newObj_type ?_ (by size_fits)
  simp only [raiseNew]
  refine wB0 (wpAny_handled ?_)
  first |rw [show A.in1.handled=none from hh]|rw [hh]
  refine wB0 (wP0 (wpAny_throw ?_))
  exact hE _ _ (((Heap.SameBut.update ..).extBut.push _).push _) ⟨_,Heap.get?_push_size _ rfl,rfl⟩
end
def SqK(k:Bool)(K:PySem.W.Frag)(H:Hp)(a:Addr)(xs:List V):Prop:=if k=true then SqL K H a xs else SqT K H a xs
section
variable{X:Cx}{pins:List (Addr×Obj)}{σ:St}{H:Hp}{s:Shared}
theorem _root_.L2.Inv.seqK(I:Inv X pins σ H s){k:Bool}{a:Addr}{xs:List V}(h:SqK k X.K H a xs): ∃its:List Value,Vals xs its/\zNN k s.heap a its.toArray/\xs.length<=sizeLine:=by
 cases k with
 |true=>obtain⟨its,r,p,z⟩:=I.list h;exact⟨its,r,p.isList,z⟩
 |false=>obtain⟨its,r,p,z⟩:=I.tuple h;exact⟨its,r,p,z⟩
theorem _root_.L2.Inv.seqK_inj(I:Inv X pins σ H s){k:Bool}{a:Addr}{xs ys:List V}(h:SqK k X.K H a xs)(h':SqK k X.K H a ys):xs=ys:=by
 cases k with
 |true=>exact I.list_inj h h'
 |false=>exact I.tuple_inj h h'
end
structure Sr where
 k:Bool
 ds:List MV
 gs:List (Nat×List MV)
def srcOf(S:Sto):Er->Option Sr
 |.val (.tup ds)=>some ⟨false,ds,[]⟩
 |.new ds=>some ⟨true,ds,[]⟩
 |.val (.scr ds)=>some ⟨true,ds,[]⟩
 |.val (.loc l)=>match S[l]? with
  |some (.lst ds)=>some ⟨true,ds,[(l,ds)]⟩
  |_=>none
 |_=>none
structure SrcD(X:Cx)(q:Sr)(l:Addr)(P:List Addr->Sto->Hp->Prop):Prop where
 get: ∀α S H,P α S H-> ∃vs,SqK q.k X.K H l vs/\DenL X.K α H q.ds vs
 stays: ∀α1 S1 H1 α2 S2 H2,P α1 S1 H1->Ext α1 H1 α2 H2->Wd X.g α2 S2 H2->stay q.gs S2->P α2 S2 H2
 st: ∀α S H,P α S H->stay q.gs S
theorem yOT{X:Cx}{α:List Addr}{S:Sto}{H:Hp}(wd:Wd X.g α S H){r:Er}{x:V}{q:Sr}(e:srcOf S r=some q)(d:DenX X.K α H r x): ∃l P,x=.ref l/\P α S H/\SrcD X q l P:=by
 unfold srcOf at e
 split at e
 ·rename_i ds
  cases e
  obtain⟨a,vs,rfl,s,l⟩:=nL d
  exact⟨a,λα S H=> ∃vs,SqT X.K H a vs/\DenL X.K α H ds vs,rfl,⟨vs,s,l⟩,λα S H h=>h,λα1 S1 H1 α2 S2 H2 ⟨vs,h1,h2⟩ x w _=>⟨vs,x.sqT h1,h2.ext x⟩,λ_ _ _ _=>gA⟩
 ·rename_i ds
  cases e
  obtain⟨b,vs,rfl,h,n,l⟩:=d
  exact⟨b,λα S H=> ∃vs,H b=some (.lst vs)/\b∉α/\DenL X.K α H ds vs,rfl,⟨vs,h,n,l⟩,λα S H ⟨vs,h1,_,h2⟩=>⟨vs,(SqL.of h1:SqL X.K H b vs),h2⟩,
   λα1 S1 H1 α2 S2 H2 ⟨vs,h1,h2,h3⟩ x w _=>⟨vs,x.keep b _ h1 h2,x.out h1 h2,h3.ext x⟩,λ_ _ _ _=>gA⟩
 ·rename_i ds
  cases e
  obtain⟨a,vs,rfl,s,l⟩:=zUC d
  exact⟨a,λα S H=> ∃vs,SqF X.K H a vs/\DenL X.K α H ds vs,rfl,⟨vs,s,l⟩,λα S H ⟨vs,h1,h2⟩=>⟨vs,h1.l,h2⟩,λα1 S1 H1 α2 S2 H2 ⟨vs,h1,h2⟩ x w _=>⟨vs,x.sqF h1,h2.ext x⟩,λ_ _ _ _=>gA⟩
 ·rename_i n
  split at e
  ·rename_i ds hS
   cases e
   obtain⟨a,rfl,h⟩:=zDP d
   obtain⟨vs,h1,h2⟩:=wd.obj n a _ h hS
   refine⟨a,λα S H=> ∃vs,H a=some (.lst vs)/\DenL X.K α H ds vs/\α[n]? =some a/\S[n]? =some (.lst ds),rfl,⟨vs,h1,h2,h,hS⟩,λα S H ⟨vs,h1,h2,_⟩=>⟨vs,(SqL.of h1:SqL X.K H a vs),h2⟩,?_,?_⟩
   ·intro α1 S1 H1 α2 S2 H2 ⟨vs,a1,a2,a3,a4⟩ x w hs
    have hs':=hs (n,ds) (by simp)
    obtain⟨us,b1,b2⟩:=w.obj n a _ (x.at a3) hs'
    exact⟨us,b1,b2,x.at a3,hs'⟩
   ·intro α S H ⟨vs,_,_,_,a4⟩ p hp
    have:p=(n,ds):=by simpa using hp
    subst this
    exact a4
  ·cases e
 ·cases e
section
variable{X:Cx}{W:XW}{a b:Expr}{elts:List Expr}{kt:Nat}{pt p pos:Pos}{ta:TA}{af:Rho->Sto->R (List Er)}
theorem yKL:bootBuiltins "enumerate"=some (.type "enumerate"):=by decide+kernel
end
structure EnSt(k:Bool)(e it l:Addr)(i:Nat)(h:Heap):Prop where
 e: ∃old,IsEnum h e it i old
 s:IsSub k h it l i
section
variable{prog:Program}{w:World}{A:Around}{E:Value->Shared->Prop}{s:Shared}{k:Bool}{e it l:Addr}{i:Nat}{its:Array Value}
theorem yKM{x old:Value}{Q:Value->Shared->Prop}(he:IsEnum s.heap e it i old)(hit:IsSub k s.heap it l i)(hl:zNN k s.heap l its)(hx:its[i]? =some x)(hne:e≠it)
  (hQ: ∀h',IsEnumOut h' e it ((i:Int)+1) x s.heap.objs.size->IsSub k h' it l (i+1)->h'.get? s.heap.objs.size=some {cls:=.type "tuple",data:=.seq #[.int i s.toks,x]}->
   (∀b o,b≠e->b≠it->s.heap.get? b=some o->h'.get? b=some o)->Q (.ref s.heap.objs.size) {s with heap:=h',toks:=s.toks+1}):
  wpAny (model prog w) A (Builtin.«enumerate.__next__» ⟨[.ref e],[]⟩) (λfin s'=> ∃v,fin=.done (.ret v)/\Q v s') E s:=by
 obtain⟨hp,g,d,tk,os⟩:=s
 show wpAny _ _ (field (.ref e) 2 >>= _) _ _ _
 refine wB0 (wpAny_field he rfl (x:=.ref it) rfl (wB0 (yGR hit hl hx λha ita hsa=>?_)))
 replace hsa:Heap.SameBut it hp ha:=hsa
 have ea:IsEnum ha e it i old:=(hsa.2 e hne).trans he
 show wpAny _ _ (field (.ref e) 3 >>= _) _ _ ⟨ha,g,d,tk,os⟩
 refine wB0 (wpAny_field ea rfl (x:=rawInt i) rfl ?_)
 show wpAny _ _ (field (.ref e) 4 >>= _) _ _ ⟨ha,g,d,tk,os⟩
 refine wB0 (wpAny_field ea rfl (x:=.none) rfl ?_)
 show wpAny _ _ (mkInt i >>= _) _ _ ⟨ha,g,d,tk,os⟩
 refine wB0 (wpAny_mkInt ?_)
 show wpAny _ _ (setField (.ref e) 3 (rawInt ((i:Int)+1)) >>= _) _ _ ⟨ha,g,d,tk+1,os⟩
 refine wB0 (wpAny_setField_rec ea (by simp) λhb eb hsb=>?_)
 replace hsb:Heap.SameBut e ha hb:=hsb
 replace eb:IsEnum hb e it ((i:Int)+1) old:=eb
 show wpAny _ _ (setField (.ref e) 4 .none >>= _) _ _ ⟨hb,g,d,tk+1,os⟩
 refine wB0 (wpAny_setField_rec eb (by simp) λhc ec hsc=>?_)
 replace hsc:Heap.SameBut e hb hc:=hsc
 replace ec:IsEnum hc e it ((i:Int)+1) old:=ec
 show wpAny _ _ (newTuple [.int i tk,x] >>= _) _ _ ⟨hc,g,d,tk+1,os⟩
 refine wB0 (wpAny_newTuple ?_)
 have hsz:hc.objs.size=hp.objs.size:=by rw [hsc.1,hsb.1,hsa.1]
 have hel:e<hp.objs.size:=Heap.lt_size he
 have ed:IsEnum (hc.push {cls:=.type "tuple",data:=.seq #[.int i tk,x]}) e it ((i:Int)+1) old:=hP0 _ ec
 have td:(hc.push {cls:=.type "tuple",data:=.seq #[.int i tk,x]}).get? hp.objs.size=some {cls:=.type "tuple",data:=.seq #[.int i tk,x]}:=by rw [<-hsz];exact Heap.get?_push_size _ rfl
 have kd: ∀b o,b≠e->b≠it->hp.get? b=some o->(hc.push {cls:=.type "tuple",data:=.seq #[.int i tk,x]}).get? b=some o:=λb o n1 n2 q=>
  hP0 _ (hsc.extBut b o n1 (hsb.extBut b o n1 (hsa.extBut b o n2 q)))
 have sd:IsSub k (hc.push {cls:=.type "tuple",data:=.seq #[.int i tk,x]}) it l (i+1):=ita.move λo q=>hP0 _ (hsc.extBut _ o (Ne.symm hne) (hsb.extBut _ o (Ne.symm hne) q))
 generalize hc.push {cls:=.type "tuple",data:=.seq #[.int i tk,x]}=hd at ed td kd sd ⊢
 show wpAny _ _ (Builtin.SmallTypes.ownedTupleIsFree (.ref e) >>= _) _ _ ⟨hd,g,d,tk+1,os⟩
 rw [hsz]
 refine wB0 ?_
 unfold Builtin.SmallTypes.ownedTupleIsFree
 refine wB0 (wpAny_field ed rfl (x:=.none) rfl (wP0 ?_))
 simp only [if_true]
 refine wB0 (wpAny_rule (wB0 (wpAny_field ed rfl (x:=old) rfl (wB0 (wpAny_setField_rec ed (by simp) λhf ef hsf=>?_)))))
 replace hsf:Heap.SameBut e hd hf:=hsf
 replace ef:IsEnum hf e it ((i:Int)+1) x:=ef
 show wpAny _ _ (Builtin.SmallTypes.ownedTupleHandOut (.ref e) (.ref hp.objs.size) >>= _) _ _ ⟨hf,g,d,tk+1,os⟩
 refine wB0 ?_
 unfold Builtin.SmallTypes.ownedTupleHandOut
 refine wB0 (wpAny_setField_rec ef (by simp) λhg' eg hsg=>?_)
 replace hsg:Heap.SameBut e hf hg':=hsg
 replace eg:IsEnumOut hg' e it ((i:Int)+1) x hp.objs.size:=eg
 refine wpAny_setField_rec eg (by simp) λhh' eh hsh=>?_
 replace hsh:Heap.SameBut e hg' hh':=hsh
 replace eh:IsEnumOut hh' e it ((i:Int)+1) x hp.objs.size:=eh
 have up: ∀b o,b≠e->hd.get? b=some o->hh'.get? b=some o:=λb o n q=>hsh.extBut b o n (hsg.extBut b o n (hsf.extBut b o n q))
 exact wB0 (wpAny_letGo (wP0 ⟨_,rfl,hQ hh' eh (sd.move λo q=>up _ o (Ne.symm hne) q) (up _ _ (ne_of_gt hel) td) λb o n1 n2 q=>up b o n1 (kd b o n1 n2 q)⟩))
theorem zZP(k:Bool)(l:Addr)(its:Array Value):
  Meets (Builtin.«enumerate.__new__» ⟨[.type "enumerate",.ref l],[]⟩) (λ_ R s=>zNN k s.heap l its/\
   R (.ok (.ret (.ref (s.heap.objs.size+1)))) {s with heap:=(s.heap.push (zMO k l)).push {cls:=.type "enumerate",data:=.fields #[.none,.bool false,.ref s.heap.objs.size,rawInt 0,.none,.none]}}):=
 .of_wp λprog w A R s h=>by
  obtain⟨hp,g,d,tk,os⟩:=s;obtain⟨hl,h⟩:=h
  have hsub:=sub_enumerate
  have hL:zNN k (Shared.heap ⟨hp,g,d,tk,os⟩) l its:=hl
  have z1: ∀(h:Heap)(o:Obj),(h.push o).objs.size=h.objs.size+1:=λh o=>Heap.size_push ..
  wp_walk
  refine wpAny_stack_any λst=>wP0 ?_
  split
  ·rename_i c _ _ _ _ _
   cases (c==Value.type "enumerate")
   ·wp_walk using zPQ hL
    exact⟨_,rfl,by simp only [z1];exact h⟩
   ·wp_walk using zPQ hL
    exact⟨_,rfl,by simp only [z1];exact h⟩
  ·wp_walk using zPQ hL
   exact⟨_,rfl,by simp only [z1];exact h⟩
end
def zSV(K:PySem.W.Frag)(F:List MV->Sto->R Er):Sp:=λvs H Q _=> ∃ds,DenL K [] H ds vs/\ds.length=1/\ ∀g:Gm,g.K=K->Post g W0 [] H (F ds []) Q
theorem yGS{g:Gm}{F:List MV->Sto->R Er}: ∀vs H Q E,zSV g.K F vs H Q E->spM g 1 F vs H Q E:=λvs H Q E ⟨ds,l,hl,q⟩=>⟨[],[],ds,⟨rfl,by simp,λl a o h=>by simp at h⟩,l,hl,q g rfl⟩
theorem yOU{K:PySem.W.Frag}{H:Hp}{a:Addr}{xs:List V}(hO:yFR H)(h:SqL K H a xs):SqF K H a xs:=by
 rcases h with(h|⟨o,h⟩)|h
 ·rcases hO a with z|⟨o,ys,z⟩
  ·rw [z]at h;cases h
  ·rw [z]at h;cases h
 ·exact .inl ⟨o,h⟩
 ·exact .inr h
theorem yGT{K:PySem.W.Frag}{F:List MV->Sto->R Er}{H:Hp}{a:Addr}{ns:List Int}(hO:yFR H)(hS:SqL K H a (ns.map V.int))(h: ∃S,F [.scr (ns.map MV.int)] []=.ok (.val (.bl true)) S):zSV K F [.ref a] H (λv _=>v=.bl true) λ_ _ _=>False:=by
 obtain⟨S,h⟩:=h
 refine⟨_,yX (yBK (yOU hO hS) (zHX ns)) xG,rfl,λg _=>?_⟩
 rw [h]
 exact λv α' H' x w d=>zFW d.1
theorem bok{β γ:Type}(b:β)(S:Sto)(k:β->Sto->R γ):(R.ok b S).bind k=k b S:=by
 have h:=R.bind_ok b S k
 exact Eq.trans h rfl
theorem yKN(d:MV)(S:Sto):rdSl (some (some d)) S=.ok (.val d) S:=rfl
theorem zPR{S T:Sto}:zSS S (S++T):=⟨by rw [lA];omega,λl hl=>.inl (getElem?_append_left hl)⟩
theorem kH(n:Nat)(i:Int):lo n (.int i):=by unfold lo;trivial
theorem zGC(n:Nat)(i:List Nat):lo n (.str i):=by unfold lo;trivial
theorem yBU(n:Nat)(i:Bool):lo n (.bl i):=by unfold lo;trivial
theorem yGU(n:Nat):lo n .non:=by unfold lo;trivial
theorem xX{n:Nat}{ds:List MV}(h:loL n ds):lo n (.tup ds):=by unfold lo;exact h
theorem yOV{n l:Nat}(h:l<n):lo n (.loc l):=by unfold lo;exact h
theorem yU{n:Nat}: ∀{ds:List MV},(∀d∈ds,lo n d)->loL n ds
 |[],_=>by unfold loL;trivial
 |d::ds,h=>by unfold loL;exact⟨h d mF0,yU λe he=>h e (mO _ he)⟩
theorem zWV{S T:Sto}{d:MV}(h:lo S.length d)(hn: ∀l,d≠.loc l):gX S (.val d) (S++T)=.ok (.val d) S:=by
 unfold gX
 rw [iP zPR]
 have e:(S++T).take S.length=S:=by simp
 cases d with
 |loc l=>exact absurd rfl (hn l)
 |_=>dsimp only;rw [iP h,e]
theorem yGV{S T:Sto}{ds:List MV}(h:loL S.length ds):gX S (.new ds) (S++T)=.ok (.new ds) S:=by
 unfold gX
 rw [iP zPR]
 have e:(S++T).take S.length=S:=by simp
 dsimp only
 rw [iP h,e]
theorem yGW{S T:Sto}{l:Nat}{ds:List MV}(hl:S.length<=l)(hS:(S++T)[l]? =some (.lst ds))(h:loL S.length ds):gX S (.val (.loc l)) (S++T)=.ok (.new ds) S:=by
 unfold gX
 rw [iP zPR]
 have e:(S++T).take S.length=S:=by simp
 dsimp only
 rw [iN0 (by omega),hS]
 dsimp only
 rw [iP h,e]
theorem cH{n:Nat}{F:List MV->Sto->R Er}{rs:List Er}{S T:Sto}{d:MV}(hn:rs.length=n)(hF:F (zQ rs S).1 (zQ rs S).2=.ok (.val d) (S++T))(h:lo S.length d)(hd: ∀l,d≠.loc l):zP n F rs S=.ok (.val d) S:=by
 unfold zP
 rw [iP hn,hF]
 exact zWV h hd
theorem yGX{n:Nat}{F:List MV->Sto->R Er}{rs:List Er}{S T:Sto}{ds:List MV}(hn:rs.length=n)(hF:F (zQ rs S).1 (zQ rs S).2=.ok (.new ds) (S++T))(h:loL S.length ds):zP n F rs S=.ok (.new ds) S:=by
 unfold zP
 rw [iP hn,hF]
 exact yGV h
theorem yGY{n:Nat}{F:List MV->Sto->R Er}{rs:List Er}{S T:Sto}{l:Nat}{ds:List MV}(hn:rs.length=n)(hF:F (zQ rs S).1 (zQ rs S).2=.ok (.val (.loc l)) (S++T))(hl:S.length<=l)(hS:(S++T)[l]? =some (.lst ds))(h:loL S.length ds):zP n F rs S=.ok (.new ds) S:=by
 unfold zP
 rw [iP hn,hF]
 exact yGW hl hS h
theorem bB{n:Nat}{F:List MV->Sto->R Er}{rs:List Er}{S:Sto}{d:MV}(hn:rs.length=n)(hF:F (zQ rs S).1 (zQ rs S).2=.ok (.val d) S)(h:lo S.length d)(hd: ∀l,d≠.loc l):zP n F rs S=.ok (.val d) S:=cH (T:=[]) hn (by rw [aN];exact hF) h hd
theorem zWW{gf:MV->Rho->Sto->R Rho}{body:Rho->Sto->R Fl}{gs:List (Nat×List MV)}{L:List MV}(I:Nat->Rho->Sto->Prop)
  (st: ∀i d,L[i]? =some d-> ∀ρ S,I i ρ S-> ∃ρ' S',((gf d ρ S).bind λρ0 S0=>body ρ0 S0)=.ok (.next ρ') S'/\stay gs S'/\I (i+1) ρ' S'):
  ∀(n i:Nat){ρ:Rho}{S:Sto},n+i=L.length->I i ρ S-> ∃ρ' S',zDR gf body gs (L.drop i) ρ S=.ok (.next ρ') S'/\I L.length ρ' S'
 |0,i,ρ,S,hn,h=>by
  have e:i=L.length:=by omega
  subst e
  rw [drop_length]
  exact⟨ρ,S,rfl,h⟩
 |n+1,i,ρ,S,hn,h=>by
  have hi:i<L.length:=by omega
  obtain⟨ρ1,S1,e,hs,h1⟩:=st i L[i] (gE0 hi) ρ S h
  obtain⟨ρ2,S2,e2,h2⟩:=zWW I st n (i+1) (by omega) h1
  refine⟨ρ2,S2,?_,h2⟩
  rw [List.drop_eq_getElem_cons hi]
  unfold zDR
  cases z:gf L[i] ρ S with
  |ok ρ0 S0=>
   rw [z]at e
   have e:body ρ0 S0=.ok (.next ρ1) S1:=e
   rw [bok]
   show(body ρ0 S0).bind _=_
   rw [e,bok]
   dsimp only
   rw [iP hs]
   exact e2
  |exc c fs S0=>rw [z]at e;cases e
  |no=>rw [z]at e;cases e
theorem zGD{gf:MV->Rho->Sto->R Rho}{body:Rho->Sto->R Fl}{gs:List (Nat×List MV)}{L:List MV}(I:Nat->Rho->Sto->Prop)
  (st: ∀i d,L[i]? =some d-> ∀ρ S,I i ρ S-> ∃ρ' S',((gf d ρ S).bind λρ0 S0=>body ρ0 S0)=.ok (.next ρ') S'/\stay gs S'/\I (i+1) ρ' S') {ρ:Rho} {S:Sto} (h:I 0 ρ S):
  ∃ρ' S',zDR gf body gs L ρ S=.ok (.next ρ') S'/\I L.length ρ' S':=zWW I st L.length 0 (by omega) h
section
variable{S:Sto}
theorem as_bl(b:Bool)(S:Sto):asB (.val (.bl b)) S=.ok b S:=rfl
theorem as_int(i:Int)(S:Sto):asI (.val (.int i)) S=.ok (some i) S:=rfl
theorem yOW(b:Bool)(S:Sto):zBA (.val (.bl b)) S=.ok b S:=rfl
theorem add_int(i j:Int)(S:Sto):wM (.val (.int i)) (.val (.int j)) S=.ok (.val (.int (i+j))) S:=rfl
theorem sub_int(i j:Int)(S:Sto):yGJ (.val (.int i)) (.val (.int j)) S=.ok (.val (.int (i - j))) S:=rfl
theorem add_str{x y:List Nat}(h:x.length+y.length<=sizeLine):wM (.val (.str x)) (.val (.str y)) S=.ok (.val (.str (x++y))) S:=iP h
theorem zPS{p q:Er}{x y:List MV}(h1:lsW S p=some x)(h2:lsW S q=some y)(h:x.length+y.length<=sizeLine):wM p q S=.ok (.new (x++y)) S:=by
 have e:yBP p q S=.ok (.new (x++y)) S:=by
  unfold yBP
  rw [h1,h2]
  exact iP h
 unfold wM
 split
 ·cases h1
 ·cases h1
 ·cases h1
 ·exact e
theorem yOX{g:Int->Int->Bool}(i j:Int)(S:Sto):ibF g (.val (.int i)) (.val (.int j)) S=.ok (.val (.bl (g i j))) S:=rfl
theorem yKO(i j:Int):eqV (.int i) (.int j)=decide (i=j):=by
 show(i==j)=_
 by_cases h:i=j
 ·subst h;simp
 ·rw [dF0 h];simpa using h
theorem yKP(x y:List Nat):eqV (.str (mkS x)) (.str (mkS y))=decide (x=y):=by
 show(mkS x==mkS y)=_
 by_cases h:x=y
 ·subst h;simp
 ·rw [dF0 h]
  have:mkS x≠mkS y:=λz=>h (zTY z)
  simpa using this
theorem zOD(n:Nat)(i j:Int):eqv S (n+1) (.int i) (.int j)=some (decide (i=j)):=by rw [<-yKO];rfl
theorem zUP(n:Nat)(x y:List Nat):eqv S (n+1) (.str x) (.str y)=some (decide (x=y)):=by rw [<-yKP];rfl
theorem yOY(n:Nat)(x:Int)(y:List Nat):eqv S (n+1) (.int x) (.str y)=some false:=rfl
theorem yOZ(n:Nat)(x:List Nat)(y:Int):eqv S (n+1) (.str x) (.int y)=some false:=rfl
theorem yPA(n:Nat)(x y:Bool):eqv S (n+1) (.bl x) (.bl y)=some (x==y):=rfl
theorem yKQ(d f:MV):eqF (.val d) (.val f) S=match eqv S (yE+1) d f with |some k=>.ok (.val (.bl k)) S|none=>.no:=rfl
theorem yKR(d f:MV):neF (.val d) (.val f) S=match eqv S (yE+1) d f with |some k=>.ok (.val (.bl !k)) S|none=>.no:=rfl
theorem yGZ{d f:MV}{k:Bool}(h:eqv S (yE+1) d f=some k):eqF (.val d) (.val f) S=.ok (.val (.bl k)) S:=by rw [yKQ,h]
theorem zZQ{d f:MV}{k:Bool}(h:eqv S (yE+1) d f=some k):neF (.val d) (.val f) S=.ok (.val (.bl !k)) S:=by rw [yKR,h]
theorem eq_int(i j:Int)(S:Sto):eqF (.val (.int i)) (.val (.int j)) S=.ok (.val (.bl (decide (i=j)))) S:=yGZ (zOD _ i j)
theorem eq_str(x y:List Nat)(S:Sto):eqF (.val (.str x)) (.val (.str y)) S=.ok (.val (.bl (decide (x=y)))) S:=yGZ (zUP _ x y)
theorem ne_int(i j:Int)(S:Sto):neF (.val (.int i)) (.val (.int j)) S=.ok (.val (.bl (!decide (i=j)))) S:=zZQ (zOD _ i j)
theorem lt_int(i j:Int)(S:Sto):ltF (.val (.int i)) (.val (.int j)) S=.ok (.val (.bl (decide (i<j)))) S:=rfl
theorem lt_str(i j:List Nat)(S:Sto):ltF (.val (.str i)) (.val (.str j)) S=.ok (.val (.bl (decide (i<j)))) S:=rfl
theorem xP{b:Int}(h:0<b)(h2:b<1073741824)(a:Int)(S:Sto):nN (.val (.int a)) (.val (.int b)) S=.ok (.val (.int (a / b))) S:=by
 refine iP ⟨h,?_⟩
 have h3:b.natAbs<2 ^ 30:=by omega
 have:=(Nat.log2_lt (by omega:b.natAbs≠0)).mpr h3
 omega
theorem mod_lit{b:Int}(h:0<b)(a:Int)(S:Sto):kE (.val (.int a)) (.val (.int b)) S=.ok (.val (.int (a % b))) S:=iP h
theorem zOE{b:Int}(h: -(2 ^ 64)<b/\b<2 ^ 64)(a:Int)(S:Sto):zRU (.val (.int a)) (.val (.int b)) S=.ok (.val (.int (a * b))) S:=iP (Or.inr (Or.inl h))
theorem yHA{a:Int}(h: -(2 ^ 64)<a/\a<2 ^ 64)(b:Int)(S:Sto):zRU (.val (.int a)) (.val (.int b)) S=.ok (.val (.int (a * b))) S:=iP (Or.inl h)
theorem yKS{a b:Int}(h:yDO a b)(S:Sto):zFZ (.val (.int a)) (.val (.int b)) S=.ok (.val (.int (a ^ b.toNat))) S:=iP h
theorem yKT(ρ:Rho)(i:Nat)(d:MV)(S:Sto):zUF ρ i (.val d) S=.ok (.next (ρ.set i (some d))) S:=rfl
theorem yKU(ρ:Rho)(i:Nat)(ds:List MV)(S:Sto):zUF ρ i (.new ds) S=.ok (.next (ρ.set i (some (.loc S.length)))) (S++[.lst ds]):=rfl
theorem yKV(S:Sto):zQ [] S=([],S):=rfl
theorem yKW(d:MV)(rs:List Er)(S:Sto):zQ (.val d::rs) S=(d::(zQ rs S).1,(zQ rs S).2):=rfl
theorem zE{F G:Rho->Sto->R Fl}{ρ ρ':Rho}{S S':Sto}(h:F ρ S=.ok (.next ρ') S'):zU F G ρ S=G ρ' S':=by unfold zU;rw [h];rfl
theorem dR{F G:Rho->Sto->R Fl}{ρ:Rho}{S S':Sto}{r:Er}(h:F ρ S=.ok (.ret r) S'):zU F G ρ S=.ok (.ret r) S':=by unfold zU;rw [h];rfl
theorem kR(S:Sto):stay [] S:=gA
theorem nO{gf:MV->Rho->Sto->R Rho}{b:Rho->Sto->R Fl}{gs:List (Nat×List MV)}{d:MV}{ds:List MV}{ρ ρ0 ρ':Rho}{S0 S':Sto}(hg:gf d ρ S=.ok ρ0 S0)(h:b ρ0 S0=.ok (.next ρ') S')(hs:stay gs S'):zDR gf b gs (d::ds) ρ S=zDR gf b gs ds ρ' S':=by
 conv=>lhs;unfold zDR
 rw [hg,bok,h,bok]
 dsimp only
 rw [iP hs]
theorem dS{α:Type}{xs:List α}{i:Int}(h0:0<=i)(h1:i<xs.length): ∃c,atI xs i=some c:=by
 refine⟨xs[i.toNat]'(by omega),?_⟩
 unfold atI ixN
 rw [iP h0,iP h1]
 exact gE0 _
theorem dU{α:Type}{P:α->Prop}{xs:List α}{i:Int}{e:α}(h: ∀e∈xs,P e)(z:atI xs i=some e):P e:=by
 unfold atI at z
 cases q:ixN xs.length i with
 |none=>rw [q]at z;cases z
 |some j=>rw [q]at z;exact h e (mem_of_getElem? (show xs[j]? =some e from z))
theorem ix_str{x:List Nat}{i:Int}{c:Nat}(h:x.length<=sizeLine)(hk:atI x i=some c):ixF (.val (.str x)) (.val (.int i)) S=.ok (.val (.str [c])) S:=by
 show(if x.length<=sizeLine then match atI x i with |some c=>R.ok (Er.val (.str [c])) S|none=>.no else .no)=_
 rw [iP h,hk]
theorem ix_tup{ds:List MV}{i:Int}{d:MV}(hk:atI ds i=some d):ixF (.val (.tup ds)) (.val (.int i)) S=.ok (.val d) S:=by
 show(match atI ds i with |some d=>R.ok (Er.val d) S|none=>.no)=_
 rw [hk]
theorem zZR{ds:List MV}{i:Int}{d:MV}(hk:atI ds i=some d):ixF (.new ds) (.val (.int i)) S=.ok (.val d) S:=by
 show(match atI ds i with |some d=>R.ok (Er.val d) S|none=>.no)=_
 rw [hk]
theorem zPT{l:Nat}{ds:List MV}{i:Int}{d:MV}(hS:S[l]? =some (.lst ds))(hk:atI ds i=some d):ixF (.val (.loc l)) (.val (.int i)) S=.ok (.val d) S:=by
 have e:cG S (.val (.loc l))=some ds:=by unfold cG;dsimp only;rw [hS]
 show(match cG S (.val (.loc l))with |some ds=>getL ds (.val (.int i)) S|none=>.no)=_
 rw [e]
 show(match atI ds i with |some d=>R.ok (Er.val d) S|none=>.no)=_
 rw [hk]
theorem yKX{l:Nat}{ds:List MV}(hS:S[l]? =some (.lst ds)):wF [.val (.loc l)] S=.ok (.val (.int ds.length)) S:=by
 have e:cG S (.val (.loc l))=some ds:=by unfold cG;dsimp only;rw [hS]
 have e2:itemsOf S (.val (.loc l))=some ds:=by unfold itemsOf;exact e
 show(match itemsOf S (.val (.loc l))with |some ds=>R.ok (Er.val (.int ds.length)) S|none=>.no)=_
 rw [e2]
theorem zGE{l:Nat}{ds:List MV}(hS:S[l]? =some (.lst ds)):cG S (.val (.loc l))=some ds:=by unfold cG;dsimp only;rw [hS]
theorem zOF{l:Nat}{ds:List MV}(hS:S[l]? =some (.lst ds)):lsW S (.val (.loc l))=some ds:=by unfold lsW;dsimp only;rw [hS]
theorem yKY{l:Nat}{ds:List MV}(hS:S[l]? =some (.lst ds)):itL (.val (.loc l)) S=.ok ⟨ds,[(l,ds)]⟩ S:=by unfold itL;dsimp only;rw [hS]
theorem zPU{l:Nat}{ds:List MV}(hS:S[l]? =some (.lst ds)):stay [(l,ds)] S:=λp hp=>by
 have:p=(l,ds):=by simpa using hp
 subst this;exact hS
theorem zDT{j:Int}(h: -(2 ^ 62)<=j/\j<2 ^ 62):zFE [.val (.int j)] S=.ok ⟨(List.range j.toNat).map λk=>.int (k:Nat),[]⟩ S:=iP h
theorem cut_str{x:List Nat}(h:x.length<=sizeLine)(lo hi:Option Int):zNX (.val (.str x)) lo hi S=.ok (.val (.str (cF x lo hi))) S:=iP h
theorem yHB{α β:Type}(f:α->β)(x:List α)(lo hi:Option Int):cF (x.map f) lo hi=(cF x lo hi).map f:=by
 unfold cF
 rw [lM0,List.map_take,List.map_drop]
theorem yBV{α:Type}(x:List α)(k:Int)(h0:0<=k):cF x none (some k)=x.take k.toNat:=by
 unfold cF
 have h1:HT.sIx x.length 0 none=0:=rfl
 rw [h1]
 have h2:HT.sIx x.length x.length (some k)=min k.toNat x.length:=by
  unfold HT.sIx
  simp only
  split<;>omega
 rw [h2,List.drop_zero,Nat.sub_zero]
 by_cases hk:k.toNat<=x.length
 ·rw [Nat.min_eq_left hk]
 ·rw [Nat.min_eq_right (by omega),List.take_length,List.take_of_length_le (by omega)]
theorem fits{n:Nat}(h:n<=1000000):n<=sizeLine:=by rw [sizeLine_eq];exact le_trans h (by decide)
theorem zGF{rs:List Er}(h:rs.length<=1000000):jZ rs S=.ok (.new (zQ rs S).1) (zQ rs S).2:=iP (fits h)
theorem zMP{rs:List Er}(h:rs.length<=1000000):jY rs S=.ok (.val (.tup (zQ rs S).1)) (zQ rs S).2:=iP (fits h)
theorem lst0(S:Sto):jZ [] S=.ok (.new []) S:=zGF (by simp)
theorem lst1(a:MV)(S:Sto):jZ [.val a] S=.ok (.new [a]) S:=zGF (by simp)
theorem lst2(a b:MV)(S:Sto):jZ [.val a,.val b] S=.ok (.new [a,b]) S:=zGF (by simp)
theorem lst3(a b c:MV)(S:Sto):jZ [.val a,.val b,.val c] S=.ok (.new [a,b,c]) S:=zGF (by simp)
theorem lst6(a b c d e f:MV)(S:Sto):jZ [.val a,.val b,.val c,.val d,.val e,.val f] S=.ok (.new [a,b,c,d,e,f]) S:=zGF (by simp)
theorem tup2(a b:MV)(S:Sto):jY [.val a,.val b] S=.ok (.val (.tup [a,b])) S:=zMP (by simp)
theorem tup3(a b c:MV)(S:Sto):jY [.val a,.val b,.val c] S=.ok (.val (.tup [a,b,c])) S:=zMP (by simp)
theorem yPB(i:Int)(S:Sto):zIL [.val (.int i),.val (.typ "str")] S=.ok (.val (.bl false)) S:=rfl
theorem yPC(i:List Nat)(S:Sto):zIL [.val (.str i),.val (.typ "str")] S=.ok (.val (.bl true)) S:=rfl
theorem yPD(i:Int)(S:Sto):zIL [.val (.int i),.val (.typ "tuple")] S=.ok (.val (.bl false)) S:=rfl
theorem yPE(i:List Nat)(S:Sto):zIL [.val (.str i),.val (.typ "tuple")] S=.ok (.val (.bl false)) S:=rfl
theorem yPF(i:List MV)(S:Sto):zIL [.val (.tup i),.val (.typ "tuple")] S=.ok (.val (.bl true)) S:=rfl
theorem yPG(i:Bool)(S:Sto):zIL [.val (.bl i),.val (.typ "bool")] S=.ok (.val (.bl true)) S:=rfl
theorem zWX{gf:MV->Rho->Sto->R Rho}{cf:Rho->Sto->R Bool}{ef:Rho->Sto->R Er}{ρb:Rho}{gs:List (Nat×List MV)}{P:MV->Prop}(hs:stay gs S):
  ∀{ds:List MV},(∀d∈ds, ∃ρ1 y,gf d ρb S=.ok ρ1 S/\cf ρ1 S=.ok true S/\ef ρ1 S=.ok (.val y) S/\P y)-> ∃out,kD gf cf ef ρb gs ds S=.ok out S/\out.length=ds.length/\ ∀o∈out,P o
 |[],_=>⟨[],rfl,rfl,λo h=>by simp at h⟩
 |d::ds,st=>by
  obtain⟨ρ1,y,h1,h2,h3,h4⟩:=st d mF0
  obtain⟨out,e,hl,hp⟩:=zWX hs (ds:=ds) λd hd=>st d (mO _ hd)
  refine⟨y::out,?_,by rw [lC0,lC0,hl],λo ho=>(mC.mp ho).elim (λz=>z▸h4) (hp o)⟩
  unfold kD
  rw [h1,jL,bok,h2,jL,bok,iP rfl,h3,jL,bok]
  unfold hZ
  rw [bok,iP hs,e]
  rfl
theorem cI{gf:MV->Rho->Sto->R Rho}{cf:Rho->Sto->R Bool}{ef:Rho->Sto->R Er}{ρb:Rho}{gs:List (Nat×List MV)}{F:MV->MV}(hs:stay gs S):
  ∀{ds:List MV},(∀d∈ds, ∃ρ1,gf d ρb S=.ok ρ1 S/\cf ρ1 S=.ok true S/\ef ρ1 S=.ok (.val (F d)) S)->kD gf cf ef ρb gs ds S=.ok (ds.map F) S
 |[],_=>rfl
 |d::ds,st=>by
  obtain⟨ρ1,h1,h2,h3⟩:=st d mF0
  have e:=cI hs (ds:=ds) λd hd=>st d (mO _ hd)
  unfold kD
  rw [h1,jL,bok,h2,jL,bok,iP rfl,h3,jL,bok]
  unfold hZ
  rw [bok,iP hs,e]
  rfl
def Nm(x:List Nat):Prop:=1<=x.length/\x.length<=8/\ ∀c∈x,97<=c/\c<=122
def Vl:MV->Prop
 |.int i=> -(10 ^ 30)<i/\i<10 ^ 30
 |.str x=>Nm x
 |_=>False
theorem Vl.cases{d:MV}(h:Vl d):(∃i,d=.int i/\ -(10 ^ 30)<i/\i<10 ^ 30)\/ ∃x,d=.str x/\Nm x:=by
 cases d with
 |int i=>exact .inl ⟨i,rfl,h⟩
 |str x=>exact .inr ⟨x,rfl,h⟩
 |_=>exact h.elim
theorem Vl.lo{d:MV}(h:Vl d)(n:Nat):lo n d:=by
 rcases h.cases with⟨i,rfl,_⟩|⟨x,rfl,_⟩
 ·exact kH n i
 ·exact zGC n x
end
def Ite(K:PySem.W.Frag)(k:Bool)(l:Addr):It:=
 ⟨λi H=> ∃xs x,SqK k K H l xs/\xs[i]? =some x,
   λi H v H'=> ∃p x,H p=none/\v=.ref p/\H'=upd H p (.tup [.int (i:Nat),x])/\(∀xs,SqK k K H l xs->xs[i]? =some x),
   λi H=> ∃xs,SqK k K H l xs/\xs.length<=i⟩
section
variable{prog:Program}{w:World}{A:Around}{E:Value->Shared->Prop}{s:Shared}{k:Bool}{e it l:Addr}{i:Nat}{its:Array Value}
theorem yDV(hl:zNN k s.heap l its){Q:Value->Shared->Prop}
  (h: ∀h',EnSt k (s.heap.objs.size+1) s.heap.objs.size l 0 h'->(∀c o,s.heap.get? c=some o->h'.get? c=some o)->Q (.ref (s.heap.objs.size+1)) {s with heap:=h'}):
  wpAny (model prog w) A (call (.type "enumerate") [.ref l]) Q E s:=by
 refine callType_new F.called_enumerate (by decide) (F.typeCall_enumerate_1 _) (F.newCall_enumerate_1 _) (λobj=>F.args_object_init_2 obj _) F.entry_enumerate_new (zZP k l its) ⟨hl,?_⟩
 have hz:(s.heap.push (zMO k l)).objs.size=s.heap.objs.size+1:=Heap.size_push ..
 show _/\_
 have he:IsEnum ((s.heap.push (zMO k l)).push {cls:=.type "enumerate",data:=.fields #[.none,.bool false,.ref s.heap.objs.size,rawInt 0,.none,.none]}) (s.heap.objs.size+1) s.heap.objs.size 0 .none:=by
  have:=Heap.get?_push_size (s.heap.push (zMO k l)) (o:={cls:=.type "enumerate",data:=.fields #[.none,.bool false,.ref s.heap.objs.size,rawInt 0,.none,.none]}) rfl
  rw [hz]at this;exact this
 refine⟨⟨_,he,rfl⟩,h _ ⟨⟨.none,he⟩,IsSub.mk' (hP0 _ (Heap.get?_push_size _ rfl))⟩ λb o x=>hP0 _ (hP0 _ x)⟩
end
theorem yDW{P:Program}{w:World}{K:PySem.W.Frag}{elts:List Expr}{kt:Nat}{pt:Pos}{k:Bool}{e it l:Addr}(hne:e≠it):
  Turn P w K (.Tuple elts kt pt) (Ite K k l) [e,it] e (λi h=>EnSt k e it l i h) where
 mem:=by simp
 obj:=λi h st b hb=>by
  obtain⟨⟨old,he⟩,hs⟩:=st
  have hb':b=e\/b=it:=by simpa using hb
  rcases hb' with rfl|rfl
  ·exact⟨_,he,λv q=>by cases q⟩
  ·exact hs.there
 keep:=λi h h' st kk=>by
  obtain⟨⟨old,he⟩,hs⟩:=st
  exact⟨⟨old,kk e (by simp) _ he⟩,hs.move λo q=>kk it (by simp) o q⟩
 item:=by
  intro X hP hw hK hc i pins s σ H E I hf st hg
  subst hP hw hK
  obtain⟨xs,x,q1,hx⟩:=hg
  obtain⟨its,r1,p1,_⟩:=I.seqK q1
  obtain⟨u,hu,ru⟩:=r1.get hx
  obtain⟨⟨old,he⟩,hs⟩:=st
  have hT:s.TypeIs (.ref e) "enumerate":=⟨_,he,rfl⟩
  unfold pyNext
  refine wB0 (wpAny_attempt (wpAny_callSpecial?_slot (name:=Str.ofString "__next__") hT F.slot_enumerate_next (wpAny_call_entry F.slot_enumerate_next hT F.entry_enumerate_next
   (yKM he hs p1 (x:=u) (by simpa using hu) hne λh' a1 a2 a3 a4=>wP0 ⟨_,rfl,?_⟩) (F.args_enumerate_next_1 _))))
  refine wpAny_letOwnedTupleGo_enum a1 λh2 z2 sb2=>?_
  have hpn:H s.heap.objs.size=none:=I.hok.fresh (le_refl _)
  have I0:Inv X pins σ (upd H s.heap.objs.size (.tup [.int (i:Nat),x])) {s with heap:=s.heap.push {cls:=.type "tuple",data:=.seq #[.int i s.toks,u]},toks:=s.toks+1}:=
   I.laid (t':=s.toks+1) (o:=.tup [.int (i:Nat),x]) (λb o e=>hP0 _ e) (le_refl _) ⟨by show 2<=sizeLine;decide,[.int i s.toks,u],.cons ⟨_,rfl⟩ (.cons ru .nil),⟨_,Heap.get?_push_size _ rfl,rfl,_,rfl⟩⟩
  have lt: ∀b∈[e,it],b<s.heap.objs.size:=λb hb=>by
   have hb':b=e\/b=it:=by simpa using hb
   rcases hb' with rfl|rfl
   ·exact Heap.lt_size he
   ·obtain⟨o,eo,_⟩:=hs.there;exact Heap.lt_size eo
  have fr: ∀b∈[e,it],upd H s.heap.objs.size (.tup [.int (i:Nat),x]) b=none:=λb hb=>by rw [yA (ne_of_lt (lt b hb))];exact(hf b hb).1
  have mv: ∀b o,b∉[e,it]->(s.heap.push {cls:=.type "tuple",data:=.seq #[.int i s.toks,u]}).get? b=some o->h2.get? b=some o:=λb o hb eo=>by
   simp only [mC,nM0,or_false,not_or]at hb
   refine sb2.extBut _ _ hb.1 ?_
   by_cases hbs:b=s.heap.objs.size
   ·subst hbs
    rw [Heap.get?_push_size _ rfl]at eo
    cases eo
    exact a3
   ·rw [Heap.get?_push_ne _ _ _ hbs]at eo
    exact a4 b o hb.1 hb.2 eo
  have I2:=I0.turnedL (h':=h2) (t':=s.toks+1) mv λb hb=>let ⟨_,c2,c3,c4,c5,c6⟩:=hf b hb;⟨fr b hb,c2,c3,c4,c5,c6⟩
  refine⟨.ref s.heap.objs.size,_,I2,rfl,⟨s.heap.objs.size,x,hpn,rfl,rfl,λzs hz=>?_⟩,⟨⟨u,?_⟩,?_⟩,fr⟩
  ·rw [I.seqK_inj hz q1];exact hx
  ·simpa using z2
  ·exact a2.move λo eo=>sb2.extBut _ _ (Ne.symm hne) eo
 done:=by
  intro X hP hw hK hc i pins s σ H E I hf st hg
  subst hP hw hK
  obtain⟨xs,q1,hx⟩:=hg
  obtain⟨its,r1,p1,_⟩:=I.seqK q1
  obtain⟨⟨old,he⟩,hs⟩:=st
  have hT:s.TypeIs (.ref e) "enumerate":=⟨_,he,rfl⟩
  have e1:=r1.length
  unfold pyNext
  refine wB0 (wpAny_attempt (wpAny_callSpecial?_slot (name:=Str.ofString "__next__") hT F.slot_enumerate_next (wpAny_call_entry F.slot_enumerate_next hT F.entry_enumerate_next ?_ (F.args_enumerate_next_1 _))))
  show wpAny _ _ (field (.ref e) 2 >>= _) _ _ _
  refine wB0 (wpAny_field he rfl (x:=.ref it) rfl ?_)
  refine wB0 (yKK (I.ok.hd hc) hs p1 (by simp;omega) λh' x hk hx'=>?_)
  obtain⟨o,ho,hcl⟩:=hx'
  refine wB0 (wpAny_isInstance (T:="StopIteration") (b:=true) ⟨o,ho,hcl⟩ isSubtype_stop (wP0 ⟨rfl,?_⟩))
  refine I.turnedL (h':=h') (t':=s.toks) (λb o hb eo=>?_) hf
  simp only [mC,nM0,or_false,not_or]at hb
  exact hk b o hb.2 eo
 self:=λ_ _ _ _ _ st h=>let ⟨⟨_,he⟩,_⟩:=st;wpAny_pyIter_enum he h
def iEnum(K:PySem.W.Frag)(ta:TA):TI:=λσ H R=>ta σ H λvs H1=> ∃k l,vs=[.ref l]/\(∃xs,SqK k K H1 l xs)/\R (Ite K k l) H1
section
variable{X:Cx}{W:XW}{a:Expr}{elts:List Expr}{kt:Nat}{pt p pos:Pos}{ta:TA}{af:Rho->Sto->R (List Er)}
theorem yKZ(hg:Gl X "enumerate")(hm:X.mg "enumerate"=none)(ha:PA X [a] ta)(hs:starEach [a] X.env=[(false,eval a X.env)]:=by rfl):
  PI X (.Tuple elts kt pt) (.Call (.Name "enumerate" p) [a] [] pos) (iEnum X.K ta):=by
 intro pins s σ H R I h
 refine Call_ (zMA I hg hm yKL (PyProof.Rows.callWith_type1 (thn (ha pos pins s σ H _ I h) λus s1 ⟨vs,H1,I1,r1,q1⟩=>?_) (by rw [hs];rfl) (by rfl)))
 obtain⟨k,l,rfl,⟨xs,c1⟩,q⟩:=q1
 cases r1 with
 |cons r rr=>
  cases rr
  cases r
  obtain⟨its,v1,p1,_⟩:=I1.seqK c1
  refine yDV p1 λh' st hk=>let ⟨⟨_,he⟩,_⟩:=id st;wpAny_pyIter_enum he ?_
  have I2:Inv X pins σ H1 {s1 with heap:=h'}:=I1.kept (t':=s1.toks) hk
  refine⟨_,_,_,_,H1,rfl,I2,yDW (ne_of_gt (Nat.lt_succ_self _)),st,λb hb=>?_,q⟩
  have hle:s1.heap.objs.size<=b:=by
   have hb':b=s1.heap.objs.size+1\/b=s1.heap.objs.size:=by simpa using hb
   rcases hb' with h|h<;>rw [h]<;>(first |exact le_refl _|exact Nat.le_add_right _ _)
  exact I1.fpOk hle (I1.hok.fresh hle)
def zIM(xs:List MV):List MV:=xs.zipIdx.map λp=>.tup [.int (p.2:Nat),p.1]
def itE(rs:List Er)(S:Sto):R Wk:=match rs with
 |[p]=>match srcOf S p with
  |some a=>.ok ⟨zIM a.ds,a.gs⟩ S
  |none=>.no
 |_=>.no
theorem zKZ(hg:Gl X "enumerate")(hm:X.mg "enumerate"=none)(ha:PAm X W [a] af)(hs:starEach [a] X.env=[(false,eval a X.env)]:=by rfl):
  PIm X W (.Tuple elts kt pt) (.Call (.Name "enumerate" p) [a] [] pos) (λρ S=>(af ρ S).bind itE):=by
 obtain⟨t,ha,k⟩:=ha
 refine⟨_,yKZ hg hm ha hs,λα ρ S σ H Rc wd sl q=>k α ρ S σ H _ wd sl (q.bind λvs rs S1 α1 H1 e x1 w1 d1 q1=>?_)⟩
 replace q1:=q1.shift x1
 unfold itE at q1
 split at q1
 ·rename_i r1
  split at q1
  ·rename_i s1 e1
   obtain⟨u,rfl,du⟩:=yBN d1
   obtain⟨l1,P1,rfl,p1,D1⟩:=yOT w1 e1 du
   have g1:=D1.get _ _ _ p1
   have hlen:(zIM s1.ds).length=s1.ds.length:=by unfold zIM;rw [lM0,List.length_zipIdx]
   refine⟨s1.k,l1,rfl,⟨_,g1.choose_spec.1⟩,q1.here (u:=Ite X.K s1.k l1) w1 ⟨λα S H=>P1 α S H,?_,p1,?_,?_⟩⟩
   ·intro i α2 S2 H2 b1 w2
    obtain⟨us,c1,c2⟩:=D1.get _ _ _ b1
    have hl:=c2.length
    refine⟨λhi=>?_,λhi=>?_⟩
    ·have hi:i<(zIM s1.ds).length:=hi
     have h1:i<us.length:=by omega
     refine⟨⟨us,us[i],c1,gE0 h1⟩,?_⟩
     rintro x H' ⟨pp,xx,hp,rfl,rfl,hx⟩
     obtain⟨d,hd,dd⟩:=c2.get (hx us c1)
     have xn:=w2.newx (o:=.tup [.int (i:Nat),xx]) hp
     have wn:=w2.new (o:=.tup [.int (i:Nat),xx]) hp
     refine⟨xn,wn,D1.stays _ _ _ _ _ _ b1 xn wn (D1.st _ _ _ b1),.tup [.int (i:Nat),d],?_,?_⟩
     ·unfold zIM;rw [getElem?_map,List.getElem?_zipIdx,hd];simp
     ·exact zBF (.of xF) (yX (wA _) (yX (dd.ext xn) xG))
    ·have hi:(zIM s1.ds).length<=i:=hi
     exact⟨us,c1,by omega⟩
   ·intro α1 S1 H1 α2 S2 H2 b1 x w hs
    exact D1.stays _ _ _ _ _ _ b1 x w hs
   ·exact D1.st _ _ _ p1
  ·exact q1.elim
 ·exact q1.elim
end
noncomputable instance:DecidableEq MV:=λ_ _=>Classical.propDecidable _
noncomputable def look(kvs:List (MV×MV))(k:MV):Option MV:=(kvs.find? λp=>decide (p.1=k)).map (·.2)
noncomputable def zUQ(kvs:List (MV×MV))(k d:MV):List (MV×MV):=if(look kvs k).isSome=true then kvs.map (λp=>if p.1=k then(p.1,d)else p)else kvs++[(k,d)]
def zBO:MV->Bool
 |.tup _=>true
 |_=>false
theorem zDD(i:Int):wL (.int i)=some (.key (.inl i)):=by unfold wL;rfl
theorem zDE(x:List Nat):wL (.str x)=some (.key (.inr (mkS x))):=by unfold wL;rfl
theorem zDF(ds:List MV):wL (.tup ds)=(kT ds).map .tup:=by
 conv=>lhs;unfold wL
theorem zIB:kT []=some []:=by unfold kT;rfl
theorem nP(d:MV)(ds:List MV):kT (d::ds)=(wL d).bind λk=>(kT ds).map (k::·):=by
 conv=>lhs;unfold kT
mutual
theorem zLA: ∀{d e:MV}{k:NK},wL d=some k->wL e=some k->d=e
 |.int i,e,k,hd,he=>by
  rw [zDD]at hd;cases hd
  cases e with
  |int j=>rw [zDD]at he;cases he;rfl
  |str x=>rw [zDE]at he;cases he
  |tup ds=>rw [zDF]at he;cases z:kT ds<;>rw [z]at he<;>cases he
  |_=>unfold wL at he;cases he
 |.str x,e,k,hd,he=>by
  rw [zDE]at hd;cases hd
  cases e with
  |int j=>rw [zDD]at he;cases he
  |str y=>
   rw [zDE]at he
   have he:=Option.some.inj he
   injection he with he
   injection he with he
   rw [zTY he]
  |tup ds=>rw [zDF]at he;cases z:kT ds<;>rw [z]at he<;>cases he
  |_=>unfold wL at he;cases he
 |.tup ds,e,k,hd,he=>by
  rw [zDF]at hd
  cases z:kT ds with
  |none=>rw [z]at hd;cases hd
  |some ks=>
   rw [z]at hd;cases hd
   cases e with
   |int j=>rw [zDD]at he;cases he
   |str y=>rw [zDE]at he;cases he
   |tup es=>
    rw [zDF]at he
    cases z2:kT es with
    |none=>rw [z2]at he;cases he
    |some ks'=>rw [z2]at he;cases he;rw [zSW z z2]
   |_=>unfold wL at he;cases he
 |.non,e,k,hd,he=>by unfold wL at hd;cases hd
 |.bl _,e,k,hd,he=>by unfold wL at hd;cases hd
 |.scr _,e,k,hd,he=>by unfold wL at hd;cases hd
 |.loc _,e,k,hd,he=>by unfold wL at hd;cases hd
 |.typ _,e,k,hd,he=>by unfold wL at hd;cases hd
theorem zSW: ∀{ds es:List MV}{ks:List NK},kT ds=some ks->kT es=some ks->ds=es
 |[],es,ks,hd,he=>by
  rw [zIB]at hd;cases hd
  cases es with
  |nil=>rfl
  |cons e es=>
   rw [nP]at he
   cases z:wL e<;>rw [z]at he
   ·cases he
   ·cases z2:kT es<;>rw [z2]at he<;>cases he
 |d::ds,es,ks,hd,he=>by
  rw [nP]at hd
  cases z:wL d with
  |none=>rw [z]at hd;cases hd
  |some k=>
   rw [z]at hd
   cases z2:kT ds with
   |none=>rw [z2]at hd;cases hd
   |some ks2=>
    rw [z2]at hd
    cases es with
    |nil=>rw [zIB]at he;cases he;cases hd
    |cons e es=>
     rw [nP]at he
     cases z3:wL e with
     |none=>rw [z3]at he;cases he
     |some k'=>
      rw [z3]at he
      cases z4:kT es with
      |none=>rw [z4]at he;cases he
      |some ks4=>
       rw [z4]at he
       cases hd;cases he
       rw [zLA z z3,zSW z2 z4]
end
section
variable{X:Cx}{pins:List (Addr×Obj)}{σ:St}{H:Hp}{s:Shared}{α:List Addr}
mutual
theorem zPV(I:Inv X pins σ H s): ∀{d:MV}{k:NK}{x:V}{u:Value},wL d=some k->Den X.K α H d x->RelV x u->isN (mk X.prog X.w) s.heap k u
 |.int i,k,x,u,hk,hd,r=>by
  rw [zDD]at hk;cases hk
  cases kS hd
  obtain⟨t,rfl⟩:=r
  exact kC.mpr (by show zOQ (.inl i) (.int i t)=true;simp [zOQ,Value.isInt])
 |.str y,k,x,u,hk,hd,r=>by
  rw [zDE]at hk;cases hk
  cases jK hd
  obtain⟨t,rfl⟩:=r
  exact kC.mpr (by show zOQ (.inr (mkS y)) (.str (mkS y) t)=true;simp [zOQ,Value.isStrOf])
 |.tup ds,k,x,u,hk,hd,r=>by
  rw [zDF]at hk
  cases z:kT ds with
  |none=>rw [z]at hk;cases hk
  |some ks=>
   rw [z]at hk;cases hk
   obtain⟨a,vs,rfl,sq,l⟩:=kF hd
   cases r
   obtain⟨its,rv,pt,_⟩:=I.tuple sq
   obtain⟨o,ho,hc,n,hdat⟩:=pt
   exact wG.mpr ⟨a,o,its.toArray,n,rfl,ho,hc,hdat,by simpa using yBW I z l rv⟩
 |.non,k,x,u,hk,hd,r=>by unfold wL at hk;cases hk
 |.bl _,k,x,u,hk,hd,r=>by unfold wL at hk;cases hk
 |.scr _,k,x,u,hk,hd,r=>by unfold wL at hk;cases hk
 |.loc _,k,x,u,hk,hd,r=>by unfold wL at hk;cases hk
 |.typ _,k,x,u,hk,hd,r=>by unfold wL at hk;cases hk
theorem yBW(I:Inv X pins σ H s): ∀{ds:List MV}{ks:List NK}{xs:List V}{us:List Value},kT ds=some ks->DenL X.K α H ds xs->Vals xs us->zFS (mk X.prog X.w) s.heap ks us
 |[],ks,xs,us,hk,hd,r=>by
  rw [zIB]at hk;cases hk
  cases hd.isnil
  cases r
  exact wT.mpr rfl
 |d::ds,ks,xs,us,hk,hd,r=>by
  rw [nP]at hk
  obtain⟨v,vs,rfl,a,l⟩:=hd.uncons
  cases r with
  |cons r1 r2=>
   cases z:wL d with
   |none=>rw [z]at hk;cases hk
   |some k=>
    rw [z]at hk
    cases z2:kT ds with
    |none=>rw [z2]at hk;cases hk
    |some ks2=>
     rw [z2]at hk
     cases hk
     exact xB.mpr ⟨_,_,rfl,zPV I z a r1,yBW I z2 l r2⟩
end
def DD(X:Cx)(H:Hp)(d:Addr)(xs:List (NK×Addr×Value)):Prop:=H d=some (DN X.prog X.w d xs)\/(xs=[]/\H d=some (.dK []))
theorem dd_of{S:Sto}{kvs:List (MV×MV)}{d:Addr}(ob:ObD X.g α H d (.dic kvs))(hk:kvs.all (λp=>zBO p.1)=true): ∃xs,DD X H d xs/\DenN X.K α H kvs xs:=by
 rcases ob with⟨ks,h,l⟩|⟨xs,h,l⟩
 ·cases l with
  |nil=>exact⟨[],.inr ⟨rfl,h⟩,.nil⟩
  |@cons k k' dd v fs gs hkd a l=>
   rw [all_cons,aE]at hk
   cases k with
   |tup ds=>exact absurd hkd (by unfold KeyD;exact λz=>z)
   |_=>exact absurd hk.1 xF0
 ·exact⟨xs,.inl h,l⟩
theorem yBX(I:Inv X pins σ H s): ∀{kvs:List (MV×MV)}{xs:List (NK×Addr×Value)},DenN X.K α H kvs xs-> ∀x∈xs,(zCZ X.prog X.w).is s.heap x.1 x.2.1
 |_,_,.nil=>λx hx=>by simp at hx
 |_,_,.cons k e a d r l=>λx hx=>by
  rcases mC.mp hx with rfl|hx
  ·exact⟨zPV I k a rfl,e⟩
  ·exact yBX I l x hx
theorem zOG(I:Inv X pins σ H s){kvs:List (MV×MV)}{xs:List (NK×Addr×Value)}{d:Addr}(h:DD X H d xs)(l:DenN X.K α H kvs xs):s.heap.DictOfH (zCZ X.prog X.w) d xs/\xs.length<=sizeLine/\(d==sysModules)=false:=by
 rcases h with h|⟨rfl,h⟩
 ·obtain⟨⟨hz,hs,o,es,ep,ho,hc,hd,he,hn⟩,_⟩:=(show ObjOk X.prog X.w H s.heap d (DN X.prog X.w d xs)from I.hok d _ h)
  exact⟨⟨o,es,ep,ho,hc,hd,he,yBX I l,hn⟩,hz,hs⟩
 ·obtain⟨_,hs,vs,kv,o,es,ep,ho,hc,hd,_,hp,_⟩:=(show ObjOk X.prog X.w H s.heap d (.dK [])from I.hok d _ h)
  cases kv
  have he:es.toList=[]:=by cases hes:es.toList with |nil=>rfl|cons a b=>rw [hes]at hp;cases hp
  exact⟨⟨o,es,ep,ho,hc,hd,by rw [he];rfl,λx hx=>by simp at hx,List.nodup_nil⟩,zero_le _,hs⟩
theorem zDG(p:MV×MV)(kvs:List (MV×MV))(k:MV):look (p::kvs) k=if p.1=k then some p.2 else look kvs k:=by
 unfold look
 rw [List.find?_cons]
 by_cases h:p.1=k
 ·rw [dT0 h,iP h];rfl
 ·rw [dF0 h,iN0 h]
theorem zJE(x:NK×Addr×Value)(xs:List (NK×Addr×Value))(k:NK):atKey (x::xs) k=if x.1=k then some x.2 else atKey xs k:=by
 unfold atKey
 rw [List.find?_cons]
 by_cases h:x.1=k
 ·rw [dT0 h,iP h];rfl
 ·rw [dF0 h,iN0 h]
theorem zOH: ∀{kvs:List (MV×MV)}{xs:List (NK×Addr×Value)}{k:MV}{nk:NK},DenN X.K α H kvs xs->wL k=some nk->(atKey xs nk).isSome=(look kvs k).isSome
 |_,_,k,nk,.nil,hk=>rfl
 |_,_,k,nk,.cons (k:=k') (nk:=nk') hk' e a d r l,hk=>by
  rw [zDG,zJE]
  by_cases h:k'=k
  ·subst h
   have:nk'=nk:=by rw [hk]at hk';exact(Option.some.inj hk').symm
   rw [iP this,iP rfl];rfl
  ·have:nk'≠nk:=λz=>h (zLA hk' (by rw [hk,z]))
   rw [iN0 this,iN0 h]
   exact zOH l hk
theorem zUR: ∀{kvs:List (MV×MV)}{xs:List (NK×Addr×Value)}{k d:MV}{nk:NK}{v:V}{u:Value},DenN X.K α H kvs xs->wL k=some nk->Den X.K α H d v->RelV v u->DenN X.K α H (kvs.map λp=>if p.1=k then(p.1,d)else p) (xs.map (putAt nk u))
 |_,_,k,d,nk,v,u,.nil,hk,hd,r=>.nil
 |_,_,k,d,nk,v,u,.cons (k:=k') (nk:=nk') hk' e a dd rr l,hk,hd,r=>by
  rw [map_cons,map_cons]
  unfold putAt
  by_cases h:k'=k
  ·have hn:nk'=nk:=by subst h;rw [hk]at hk';exact(Option.some.inj hk').symm
   rw [iP h,iP hn]
   exact .cons hk' e a hd r (zUR l hk hd r)
  ·have hn:nk'≠nk:=λz=>h (zLA hk' (by rw [hk,z]))
   rw [iN0 h,iN0 hn]
   exact .cons hk' e a dd rr (zUR l hk hd r)
theorem DenN.append: ∀{kvs kvs':List (MV×MV)}{xs xs':List (NK×Addr×Value)},DenN X.K α H kvs xs->DenN X.K α H kvs' xs'->DenN X.K α H (kvs++kvs') (xs++xs')
 |_,_,_,_,.nil,h=>h
 |_,_,_,_,.cons hk e a d r l,h=>.cons hk e a d r (DenN.append l h)
theorem yBY{kvs:List (MV×MV)}{xs:List (NK×Addr×Value)}{k d:MV}{nk:NK}{a:Addr}{v:V}{u:Value}(l:DenN X.K α H kvs xs)(hk:wL k=some nk)(e:dM nk<=4)(ha:Den X.K α H k (.ref a))(hd:Den X.K α H d v)(r:RelV v u):DenN X.K α H (zUQ kvs k d) (storedH xs nk a u):=by
 unfold zUQ
 have hl:=zOH l hk
 by_cases h:(look kvs k).isSome=true
 ·rw [iP h]
  rw [h]at hl
  obtain⟨p,hp⟩:=Option.isSome_iff_exists.mp hl
  rw [storedH_old hp]
  exact zUR l hk hd r
 ·rw [iN0 h]
  have hn:atKey xs nk=none:=by
   cases z:atKey xs nk with
   |none=>rfl
   |some p=>rw [z]at hl;exact absurd hl.symm h
  rw [storedH_new hn]
  exact l.append (.cons hk e ha hd r .nil)
end
section
variable{X:Cx}{W:XW}{a b o i:Expr}{f g:Rho->Sto->R Er}{pos:Pos}
theorem yPH{pins:List (Addr×Obj)}{σ:St}{H:Hp}{s:Shared}(I:Inv X pins σ H s):sysModules<s.heap.objs.size:=Nat.lt_trans (by decide) ((I.mod.glob.keeps I.bk).lt)
theorem Wd.put{gg:Gm}{α:List Addr}{S:Sto}{H:Hp}{p:Addr}{ho:HO}{m:MO}(w:Wd gg α S H)(hp:H p=none)(q:ObD gg (α++[p]) (upd H p ho) p m):Ext α H (α++[p]) (upd H p ho)/\Wd gg (α++[p]) (S++[m]) (upd H p ho):=by
 have x:=w.newx (o:=ho) hp
 have nw:=w.new (o:=ho) hp
 have np:=w.fresh hp
 refine⟨⟨⟨⟨[p],rfl⟩,x.tup,x.frz⟩,λb hb=>?_,x.keep,x.has⟩,⟨?_,?_,λl c ob h1 h2=>?_⟩⟩
 ·rcases mem_append.mp hb with h|h
  ·exact .inl h
  ·rw [mS.mp h];exact .inr hp
 ·rw [lA,lA,w.len];rfl
 ·exact nodup_append.mpr ⟨w.nd,by simp,λa ha c hc=>by rw [mS.mp hc];rintro rfl;exact np ha⟩
 ·by_cases hl:l<α.length
  ·rw [getElem?_append_left hl]at h1
   rw [getElem?_append_left (by rw [<-w.len];exact hl)]at h2
   exact(nw.obj l c ob h1 h2).move (Ex0.grow α [p] _) rfl
  ·have hl':l=α.length:=by
    have:=(gS0.mp h1).1
    rw [lA,lS]at this
    omega
   subst hl'
   rw [getElem?_append_right (le_refl _),sub_self]at h1
   rw [getElem?_append_right (by rw [w.len];exact le_refl _),w.len,sub_self]at h2
   cases h1;cases h2
   exact q
def yBZ(S:Sto):R Er:=.ok (.val (.loc S.length)) (S++[.dic []])
theorem zWY:PEm X W (.Dict [] [] pos) (λ_ S=>yBZ S):=by
 refine⟨λσ H Q=> ∀p,H p=none->Q (.ref p) (upd H p (.dK [])),λpins s σ H Q I h=>?_,λα ρ S σ H Q wd sl q p hp=>?_⟩
 ·exact wpAny_Dict_empty ⟨.ref s.heap.objs.size,_,I.laid (a:=s.heap.objs.size) (o:=.dK []) (t':=s.toks) (λ_ _ q=>hP0 _ q) (le_refl _)
   ⟨zero_le _,beq_eq_false_iff_ne.mpr (Ne.symm (ne_of_lt (yPH I))),[],.nil,Heap.DictOf.new s.heap⟩,rfl,h _ (I.hok.fresh (le_refl _))⟩
 ·obtain⟨x,w'⟩:=wd.put (ho:=.dK []) (m:=.dic []) hp (.inl ⟨[],xF,.nil⟩)
  exact q (.ref p) (α++[p]) _ x w' (DenE.val (zKS (by rw [<-wd.len,getElem?_append_right (le_refl _),sub_self];rfl)))
noncomputable def zGG(S:Sto):Er->Option (Nat×List (MV×MV))
 |.val (.loc l)=>match S[l]? with
  |some (.dic kvs)=>if kvs.all (λp=>zBO p.1)=true then some (l,kvs)else none
  |_=>none
 |_=>none
noncomputable def keyOk(k:MV):Bool:=zBO k&&(match wL k with |some nk=>decide (dM nk<=4)|none=>false)
theorem zPW{k:MV}(h:keyOk k=true): ∃nk,wL k=some nk/\dM nk<=4/\zBO k=true:=by
 unfold keyOk at h
 rw [aE]at h
 cases z:wL k with
 |none=>rw [z]at h;exact absurd h.2 xF0
 |some nk=>rw [z]at h;exact⟨nk,rfl,of_decide_eq_true h.2,h.1⟩
theorem zPX{α:List Addr}{S:Sto}{H:Hp}(wd:Wd X.g α S H){r:Er}{x:V}{l:Nat}{kvs:List (MV×MV)}(e:zGG S r=some (l,kvs))(d:DenX X.K α H r x):
  ∃c xs,x=.ref c/\α[l]? =some c/\S[l]? =some (.dic kvs)/\DD X H c xs/\DenN X.K α H kvs xs:=by
 unfold zGG at e
 split at e
 ·rename_i n
  obtain⟨c,rfl,h⟩:=zDP d
  split at e
  ·rename_i ks hS
   split at e
   ·rename_i hk
    obtain⟨rfl,rfl⟩:=Prod.mk.inj (Option.some.inj e)
    obtain⟨xs,dd,l⟩:=dd_of (S:=S) (wd.obj _ c _ h hS) hk
    exact⟨c,xs,rfl,h,hS,dd,l⟩
   ·cases e
  ·cases e
 ·cases e
abbrev rInD(X:Cx)(neg:Bool):R2:=λx y H Q=> ∃(α:List Addr)(kvs:List (MV×MV))(xs:List (NK×Addr×Value))(a d:Addr)(k:MV)(nk:NK),x=.ref a/\y=.ref d/\DD X H d xs/\DenN X.K α H kvs xs/\wL k=some nk/\dM nk<=4/\Den X.K α H k (.ref a)/\
 Q (.bl (if neg=true then !(look kvs k).isSome else(look kvs k).isSome)) H
theorem zRW{prog:Program}{w:World}{KK:Type}[DecidableEq KK]{knd:HeapKind prog w KK}{A:Around}{E:Value->Shared->Prop}{s:Shared}{d a:Addr}{k:KK}{xs:List (KK×Addr×Value)}{Q:Bool->Shared->Prop}(hu:knd.room A.in1)(hkey:knd.is s.heap k a)(hd:(d==sysModules)=false)
  (hm:s.heap.DictOfH knd d xs) (h:Q (atKey xs k).isSome {s with toks:=s.toks+knd.draws k}):wpAny (model prog w) A (contains (.ref d) (.ref a)) Q E s:=by
 unfold contains
 try with_reducible refine wpAny_holding ?_
 refine wB0 (wpAny_specialOf hm.typeIs slot_dict_contains.lookup ?_)
 show wpAny _ _ (if(some (Value.builtin "dict.__contains__")==some Value.none)=true then _ else _) _ E s
 rw [iN0 (by rw [beq_builtin_none];exact xF0)]
 refine wB0 (wpAny_callSpecialUnlessNone?_slot (name:=Str.ofString "__contains__") hm.typeIs slot_dict_contains (wpAny_call_entry slot_dict_contains hm.typeIs entry_dict_contains ?_ (args_dict_contains _ _)))
 show wpAny _ _ (dictGet d (.ref a) >>= _) _ _ s
 refine wB0 (wpAny_dictGet_heap hu hkey hm ?_)
 cases hf:atKey xs k with
 |some p=>
  rw [hf]at h
  show wpAny _ _ (ret (.bool true)) _ _ _
  exact wP0 ⟨_,rfl,wpAny_truthy_bool h⟩
 |none=>
  rw [hf]at h
  show wpAny _ _ (Builtin.Dict.pendingKey? d (.ref a) >>= _) _ _ _
  exact wB0 (wpAny_pendingKey_other hd (wP0 ⟨_,rfl,wpAny_truthy_bool h⟩))
theorem yPI(hu:X.A.units+64<cLine):OpR X (compareOp .In) (rInD X false):=by
 intro pins s σ H x y v u Q I rx ry h
 obtain⟨α,kvs,xs,a,d,k,nk,rfl,rfl,dd,l,hk,e,ha,q⟩:=h
 cases rx;cases ry
 obtain⟨hm,_,hs⟩:=zOG I dd l
 show wpAny _ _ (do return Value.bool (<-contains (.ref d) (.ref a))) _ _ s
 refine wB0 (zRW (knd:=zCZ X.prog X.w) (show X.A.units+1+4<cLine by omega) ⟨zPV I hk ha rfl,e⟩ hs hm (wP0 ⟨.bl (look kvs k).isSome,H,I.kept (t':=_) (λ_ _ z=>z),?_,q⟩))
 rw [zOH l hk];rfl
noncomputable def yDX(neg:Bool)(p q:Er)(S:Sto):R Er:=match p with
 |.val k=>match zGG S q with
  |some (_,kvs)=>if keyOk k=true then .ok (.val (.bl (if neg=true then !(look kvs k).isSome else(look kvs k).isSome))) S else .no
  |none=>.no
 |_=>.no
theorem zUS{α:List Addr}{H:Hp}{k:MV}{x:V}(h:zBO k=true)(d:Den X.K α H k x): ∃a,x=.ref a:=by
 cases k with
 |tup ds=>obtain⟨a,_,rfl,_⟩:=kF d;exact⟨a,rfl⟩
 |_=>exact absurd h xF0
theorem yLA{neg:Bool}:Op2 X W (rInD X neg) (yDX neg):=by
 intro p q x y α S H Q wd dp dq post
 unfold yDX at post
 split at post
 ·rename_i k
  split at post
  ·rename_i l kvs e
   split at post
   ·rename_i hk
    obtain⟨nk,h1,h2,h3⟩:=zPW hk
    obtain⟨c,xs,rfl,_,_,dd,dl⟩:=zPX wd e dq
    obtain⟨a',rfl⟩:=zUS (X:=X) (α:=α) (H:=H) h3 dp
    exact⟨α,kvs,xs,a',c,k,nk,rfl,rfl,dd,dl,h1,h2,dp,Post.val post wd (wD _)⟩
   ·exact post.elim
  ·exact post.elim
 ·exact post.elim
theorem yPJ(hu:X.A.units+64<cLine)(ha:PEm X W a f)(hb:PEm X W b g)(hm:behindInMarks .In b=false:=by with_unfolding_all rfl):PTm X W (.Compare a [.In] [b] pos) (λρ S=>((f ρ S).bind λp S1=>(g ρ S1).bind λq S2=>yDX false p q S2).bind asB):=zMH (yPI hu) yLA ha hb hm
def rSetD(X:Cx):TSet:=λo i v H Q=> ∃(α:List Addr)(kvs:List (MV×MV))(xs:List (NK×Addr×Value))(a d:Addr)(k:MV)(nk:NK),o=.ref d/\i=.ref a/\DD X H d xs/\DenN X.K α H kvs xs/\wL k=some nk/\dM nk<=4/\Den X.K α H k (.ref a)/\xs.length<sizeLine/\
 ∀u,RelV v u->Q (upd H d (DN X.prog X.w d (storedH xs nk a u)))
theorem zPY{xs:List (NK×Addr×Value)}{k:NK}{a:Addr}{u:Value}:(storedH xs k a u).length<=xs.length+1:=by
 cases h:atKey xs k with
 |none=>rw [storedH_new h,lA];exact le_refl _
 |some p=>rw [storedH_old h,lM0];exact le_succ _
theorem yDY(hu:X.A.units+64<cLine):PSet X (rSetD X):=by
 intro pins s σ H o i v ov iv u Q I ro ri rv h
 obtain⟨α,kvs,xs,a,d,k,nk,rfl,rfl,dd,l,hk,e,ha,hz,q⟩:=h
 cases ro;cases ri
 obtain⟨hm,hz',hs⟩:=zOG I dd l
 refine wpAny_setItem_heap (knd:=zCZ X.prog X.w) (show X.A.units+1+4<cLine by omega) ⟨zPV I hk ha rfl,e⟩ hm (λh' hm' hs'=>⟨_,?_,q u rv⟩) hz'
 have mu:Mut (H d):=by
  rcases dd with z|⟨_,z⟩<;>rw [z]<;>exact trivial
 obtain⟨ob,es,ep,ho,hc,hd,he,_,hn⟩:=hm'
 refine I.write (t':=_) (x:=d) (e:=d) mu (.inl rfl) (λb uo hb eo=>(hs'.2 b hb).trans eo) ⟨ob,ho⟩ ?_
 refine⟨⟨by have:=zPY (xs:=xs) (k:=nk) (a:=a) (u:=u);omega,hs,ob,es,ep,ho,hc,hd,he,hn⟩,⟨ob,ho⟩,?_⟩
 rintro h1 h2 ⟨z1,z2,o',es',ep',ho',r⟩ mv
 exact⟨z1,z2,o',es',ep',mv o' ho',r⟩
noncomputable def zWZ(p q:Er)(d:MV)(ρ:Rho)(S:Sto):R Rho:=match q with
 |.val k=>match zGG S p with
  |some (l,kvs)=>if keyOk k=true/\kvs.length<1000000 then .ok ρ (S.set l (.dic (zUQ kvs k d)))else .no
  |none=>.no
 |_=>.no
theorem DenN.length{α:List Addr}{H:Hp}: ∀{kvs xs},DenN X.K α H kvs xs->xs.length=kvs.length
 |_,_,.nil=>rfl
 |_,_,.cons _ _ _ _ _ l=>by rw [lC0,lC0,DenN.length l]
theorem yLB(hu:X.A.units+64<cLine)(ho:PEm X W o f)(hi:PEm X W i g)
  (ha: ∀v,assign (.Subscript o i pos) X.env v=(do
   let ov <-holding [v] (eval o X.env)
   let iv <-holding [v,ov] (eval i X.env)
   standAt pos
   holding [v,ov,iv] (setItem ov iv v)
   release [v,ov,iv] []):=by intro _;rfl):PGm X W (.Subscript o i pos) (λd ρ S=>(f ρ S).bind λp S1=>(g ρ S1).bind λq S2=>zWZ p q d ρ S2):=by
 obtain⟨to,ho,fo⟩:=ho
 obtain⟨ti,hi,fi⟩:=hi
 refine⟨_,yFG ho hi (yDY hu) ha,λα ρ S σ H d v Q wd sl de q=>fo α ρ S σ H _ wd sl (q.bind λu p S1 α1 H1 e1 x1 w1 d1 q1=>fi α1 ρ S1 σ H1 _ w1 (sl.ext x1) ((q1.shift x1).bind λu2 p2 S2 α2 H2 e2 x2 w2 d2 q2=>?_))⟩
 replace q2:=q2.shift x2
 have d1':=DenX.ext x2 d1.1
 have de2:=(de.ext x1).ext x2
 unfold zWZ at q2
 split at q2
 ·rename_i k
  split at q2
  ·rename_i l kvs e
   split at q2
   ·rename_i hk
    obtain⟨nk,h1,h2,h3⟩:=zPW hk.1
    obtain⟨c,xs,rfl,hc,hS,dd,dl⟩:=zPX w2 e d1'
    obtain⟨a',rfl⟩:=zUS (X:=X) (α:=α2) (H:=H2) h3 d2.1
    refine⟨α2,kvs,xs,a',c,k,nk,rfl,rfl,dd,dl,h1,h2,d2.1,?_,λu ru=>?_⟩
    ·rw [dl.length]
     exact lt_of_lt_of_le hk.2 (fits (le_refl _))
    ·have xw:=w2.writex hc (o:=DN X.prog X.w c (storedH xs nk a' u))
     have sl2:=((sl.ext x1).ext x2).ext xw
     exact q2 σ α2 _ xw (w2.write hc (.inr ⟨_,xF,(yBY dl h1 h2 d2.1 de2 ru).ex0 xw.toEx0⟩)) sl2
   ·exact q2.elim
  ·exact q2.elim
 ·exact q2.elim
end
def yCA:MV->V
 |.non=>.non
 |.bl b=>.bl b
 |.int i=>.int i
 |.str x=>.str (mkS x)
 |.typ n=>.ty n
 |_=>.non
def zUT:MV->Bool
 |.non=>true
 |.bl _=>true
 |.int _=>true
 |.str _=>true
 |_=>false
theorem yHC{K:PySem.W.Frag}{α:List Addr}{H:Hp}{d:MV}(h:zUT d=true):Den K α H d (yCA d):=by
 cases d with
 |non=>exact zBE
 |bl b=>exact wD b
 |int i=>exact wA i
 |str x=>exact dN x
 |_=>exact absurd h xF0
theorem zSX{K:PySem.W.Frag}{α:List Addr}{H:Hp}: ∀{ds:List MV},ds.all zUT=true->DenL K α H ds (ds.map yCA)
 |[],_=>xG
 |d::ds,h=>by
  rw [all_cons,aE]at h
  exact yX (yHC h.1) (zSX h.2)
structure GTup(K:PySem.W.Frag)(mg:Str->Option Value)(x:Str)(ds:List MV):Prop where
 ex: ∃(a:Addr)(o:Obj)(its:Array Value)(n:Nat),mg x=some (.ref a)/\K.lookup a=some o/\o.cls=.type "tuple"/\o.data=.seq its n/\its.size<=sizeLine/\Vals (ds.map yCA) its.toList
 fl:ds.all zUT=true
theorem yLC{X:Cx}{W:XW}{x:Str}{ds:List MV}{pos:Pos}(hg:Gl X x)(G:GTup X.K X.mg x ds)(hd:(x==("__debug__":Str))=false:=by decide):PEm X W (.Name x pos) (λ_ S=>.ok (.val (.tup ds)) S):=by
 obtain⟨⟨a,o,its,n,hm,lk,hc,hdt,hz,hv⟩,hf⟩:=G
 exact⟨_,zTO (v:=.ref a) hg hm rfl hd,λα ρ S σ H Q wd sl q=>Post.val q wd (zBF (.inr ⟨o,its,n,lk,hc,hdt,hz,hv⟩) (zSX hf))⟩
def FsD(g:Gm)(α:List Addr)(H:Hp)(d:Option Addr)(fs:List (Str×MV)):Prop:=fs=[]\/ ∃dx gs od,d=some dx/\H dx=some (.frz od (.xd gs))/\DenF g.K α H fs gs
abbrev WE(g:Gm)(E:XK):XW:=λc fs _ α H=> ∀C d,g.mg c=some (.ref C)->FsD g α H d fs->E (.ref C) d H
def zPZ:MV->Bool
 |.non=>true
 |.bl _=>true
 |.int _=>true
 |.str _=>true
 |_=>false
theorem yDZ{K:PySem.W.Frag}{α α':List Addr}{H:Hp}: ∀{d:MV}{v:V},zPZ d=true->Den K α H d v->Den K α' H d v
 |.non,_,_,q=>by cases nI q;exact zBE
 |.bl _,_,_,q=>by cases zDA q;exact wD _
 |.int _,_,_,q=>by cases kS q;exact wA _
 |.str _,_,_,q=>by cases jK q;exact dN _
theorem zQA{K:PySem.W.Frag}{α α':List Addr}{H:Hp}: ∀{fs gs},fs.all (λp=>zPZ p.2)=true->DenF K α H fs gs->DenF K α' H fs gs
 |_,_,_,.nil=>.nil
 |_,_,h,.cons a l=>by
  rw [all_cons,aE]at h
  exact .cons (yDZ h.1 a) (zQA h.2 l)
theorem Post.wmono{β τ:Type}[Dn β τ]{g:Gm}{W W':XW}{α:List Addr}{H:Hp}(f: ∀c fs S α' H',W c fs S α' H'->W' c fs S α' H'): ∀{m:R β}{Q:τ->Hp->Prop},Post g W α H m Q->Post g W' α H m Q
 |.ok b S,Q,q=>q
 |.exc c fs S,_,q=>λα' H' x w=>f _ _ _ _ _ (q α' H' x w)
 |.no,_,q=>q
def XCl(K:PySem.W.Frag)(C:Addr)(bm:List Value)(init:Option Value):Prop:=
 ∃nm q N bs hd sn sub ab col dd k0 k1 k2 k3 k5,K.lookup C=some (excClassObj nm q C N bs bm hd sn sub ab col dd k0 k1 k2 k3 k5 "ValueError.__new__")/\PySem.W.nsOkIn K N=true/\PySem.W.nsIn K N "__init__"=some init/\(∀n∈qn,PySem.W.nsIn K N n=some none)/\hd=true
def XEach(K:PySem.W.Frag)(mg:Str->Option Value)(M:Addr):List (Str×Addr)->Prop
 |[]=>True
 |(c,C)::r=>(mg c=some (.ref C)/\ ∃i,XCl K C (.ref M::bmV) i)/\XEach K mg M r
structure XTab(K:PySem.W.Frag)(mg:Str->Option Value)(M:Addr)(cs:List (Str×Addr)):Prop where
 m:mg "MendError"=some (.ref M)
 mc:XCl K M bmV none
 each:XEach K mg M cs
 nd:(M::cs.map (·.2)).Nodup
theorem XEach.at{K:PySem.W.Frag}{mg:Str->Option Value}{M:Addr}: ∀{cs:List (Str×Addr)},XEach K mg M cs-> ∀{c C},(c,C)∈cs->mg c=some (.ref C)/\ ∃i,XCl K C (.ref M::bmV) i
 |(c,C)::r,h,c',C',z=>by
  rcases mC.mp z with z|z
  ·cases z;exact h.1
  ·exact XEach.at h.2 z
theorem zUU{K:PySem.W.Frag}{h:Heap}{C M:Addr}{i:Option Value}(X:K.In h)(c:XCl K C (.ref M::bmV) i)(m:XCl K M bmV none):zMG h C M:=by
 obtain⟨_,_,N,_,_,_,_,_,_,_,_,_,_,_,_,l,o,_,q⟩:=c
 obtain⟨_,_,N',_,_,_,_,_,_,_,_,_,_,_,_,l',o',_,q'⟩:=m
 exact⟨_,_,_,_,_,_,_,_,_,_,_,_,_,_,_,_,_,X _ _ l,.of_isNs (PySem.W.isNs_of_in X o),λn hn=>PySem.W.nsMap_none_of_in X o (q.1 n hn),
  _,_,_,_,_,_,_,_,_,_,_,_,_,_,_,_,_,X _ _ l',.of_isNs (PySem.W.isNs_of_in X o'),λn hn=>PySem.W.nsMap_none_of_in X o' (q'.1 n hn)⟩
section
variable{X:Cx}{E:XK}{e:Expr}{es:List Expr}{af:Rho->Sto->R (List Er)}{pos np cpos:Pos}{x:Str}{C M:Addr}
theorem yEA(hx:XOk X E)(hg:Gl X x)(hm:X.mg x=some (.ref C))(hc:XCl X.K C (.ref M::bmV) none)(hM:XCl X.K M bmV none)(ha:PAm X (WE X.g E) (e::es) af)(hex:X.ex=[]:=by rfl)(hcalm:X.calm=true:=by rfl)
  (hd:(x==("__debug__":Str))=false:=by decide) (he:starEach (e::es) X.env=(false,eval e X.env)::starEach es X.env:=by rfl) (hpl:(backTo cpos (starEach es X.env)).any (·.1)=false:=by rfl):
  PSm X (WE X.g E) (.Raise (some (.Call (.Name x np) (e::es) [] cpos)) none pos) (λρ S=>(af ρ S).bind λrs S1=>if rs.length<=10 then .exc x [] S1 else .no):=by
 obtain⟨ta,ha,fa⟩:=ha
 refine⟨λD σ H=>ta σ H λvs H1=>vs.length<=10/\E (.ref C) none H1,λpins s σ H D I h=>?_,λα ρ S σ H D wd sl q=>fa α ρ S σ H _ wd sl (q.expr λvs rs S1 α1 H1 e1 x1 w1 d1 q1=>?_)⟩
 ·obtain⟨nm,q,N,bs,hdt,sn,sub,ab,col,dd,k0,k1,k2,k3,k5,lC,oN,iN,_⟩:=hc
  obtain⟨_,_,N',_,_,_,_,_,_,_,_,_,_,_,_,lM,oM,iM,_⟩:=hM
  have XB:=I.mod.kin
  have hN:=Heap.Ns.of_isNs (PySem.W.isNs_of_in XB oN)
  have hni:=PySem.W.nsMap_none_of_in XB oN iN
  have T:OwnTail X.base bmV (.ref M::bmV):=.own (XB _ _ lM) (.of_isNs (PySem.W.isNs_of_in XB oM)) (PySem.W.nsMap_none_of_in XB oM iM) .base
  refine wpAny_Raise_call_subT (C:=C) (nm:=nm) (q:=q) (N:=N) (bs:=bs) (bm:=.ref M::bmV) (hdct:=hdt) (sn:=sn) (sub:=sub) (ab:=ab) (col:=col) (dd:=dd) (k0:=k0) (k1:=k1) (k2:=k2) (k3:=k3) (k5:=k5)
   F.excBase_ValueError (T.hasType F.excBase_ValueError.hasBase) (I.ok.hd hcalm) (by rw [he];exact hpl) hni (zHW I hg hm ⟨rfl,?_⟩ hd)
  have hr:=ha cpos pins s σ H _ I h
  rw [he]at hr ⊢
  refine Calls.evalArgs_plain (thn hr λus s1 ⟨vs,H1,I1,r1,hl,hE⟩=>⟨rfl,by rw [<-r1.length];exact le_trans hl (by decide),I1.bk _ _ (XB _ _ lC),hN.keeps I1.bk,T.keeps I1.bk,λh' a mk=>?_⟩)
  obtain⟨t,ht,_,_⟩:=mk.there
  exact hx.born pins σ H1 _ a C none (I1.kept (t':=s1.toks) mk.keeps) ⟨_,_,ht,rfl,rfl,rfl,rfl⟩ (I1.older hex mk.new) (I1.hok.none_of mk.new) hE
 ·split at q1
  ·rename_i hl
   exact⟨by rw [ArgsE.length d1];exact hl,q1 α1 H1 x1 w1 C none hm (.inl rfl)⟩
  ·exact q1.elim
end
section
variable{X:Cx}{W:XW}{a:Expr}{f:Rho->Sto->R Er}{pos p p2:Pos}{M:Addr}{cs:List (Str×Addr)}{c2:Str}{D:Addr}
def zFO(ns:List Str)(c2:Str):Er->Sto->R Er
 |.val (.loc l),S=>match S[l]? with
  |some (.ins c _)=>if c∈ns then .ok (.val (.bl (decide (c=c2)))) S else .no
  |_=>.no
 |_,_=>.no
def yHD(ns:List Str):Er->Sto->R Er
 |.val (.loc l),S=>match S[l]? with
  |some (.ins c _)=>if c∈ns then .ok (.val (.bl true)) S else .no
  |_=>.no
 |_,_=>.no
def IsX(X:Cx)(M:Addr)(H:Hp)(x:V)(C:Addr):Prop:= ∃aa oe,x=.ref aa/\H aa=some (.ext λh=>h.get? aa=some oe)/\oe.cls=.ref C/\(∃i,XCl X.K C (.ref M::bmV) i)/\XCl X.K M bmV none
theorem yHE:CallR X (.builtin "isinstance") (λxs H Q=> ∃x C D,xs=[x,.ref D]/\IsX X M H x C/\(C=D\/(C≠D/\M≠D/\ ∃bm i,XCl X.K D bm i))/\Q (.bl (decide (C=D))) H):=by
 intro pins s σ H xs us Q I r h
 obtain⟨_,C,D,rfl,⟨aa,oe,rfl,hH,hc,⟨i,cC⟩,cM⟩,hD,q⟩:=h
 obtain⟨u1,us,r1,⟨u2,_,r2,r3,rfl⟩,rfl⟩: ∃u1 us',RelV (.ref aa) u1/\(∃u2 us'',RelV (.ref D) u2/\Vals [] us''/\us'=u2::us'')/\us=u1::us':=by
  cases r with
  |cons r1 r=>cases r with
   |cons r2 r=>exact⟨_,_,r1,⟨_,_,r2,r,rfl⟩,rfl⟩
 cases r1;cases r2;cases r3
 have ha:s.heap.get? aa=some oe:=(I.hok aa _ hH).1
 have O:=zUU I.kIn cC cM
 obtain⟨hp,g,d,tk,os⟩:=s
 rcases hD with rfl|⟨n1,n2,bm,i2,cD⟩
 ·refine PyProof.Rows.call_isinstance_of (yDL ha hc ⟨.bl true,H,I,rfl,?_⟩)
  simpa using q
 ·obtain⟨_,_,_,_,_,_,_,_,_,_,_,_,_,_,_,lD,_⟩:=cD
  obtain⟨oC,hC,hCc,hCd⟩:=yFY O
  refine PyProof.Rows.call_isinstance_of (yJR O ha hc (I.kIn _ _ lD) hC hCc hCd ?_ ⟨.bl false,H,I.tok _,rfl,?_⟩)
  ·simp only [contains_cons,List.contains_nil,Bool.or_eq_false_iff,beq_eq_false_iff_ne]
   exact⟨λz=>n1 (by cases z;rfl),λz=>n2 (by cases z;rfl),by simp,by simp,by simp,by simp,trivial⟩
  ·simpa [n1]using q
theorem yHF:CallR X (.builtin "isinstance") (λxs H Q=> ∃x C,xs=[x,.ty "ValueError"]/\IsX X M H x C/\Q (.bl true) H):=by
 intro pins s σ H xs us Q I r h
 obtain⟨_,C,rfl,⟨aa,oe,rfl,hH,hc,⟨i,cC⟩,cM⟩,q⟩:=h
 obtain⟨u1,us,r1,⟨u2,_,r2,r3,rfl⟩,rfl⟩: ∃u1 us',RelV (.ref aa) u1/\(∃u2 us'',RelV (.ty "ValueError") u2/\Vals [] us''/\us'=u2::us'')/\us=u1::us':=by
  cases r with
  |cons r1 r=>cases r with
   |cons r2 r=>exact⟨_,_,r1,⟨_,_,r2,r,rfl⟩,rfl⟩
 cases r1;cases r2;cases r3
 have ha:s.heap.get? aa=some oe:=(I.hok aa _ hH).1
 have O:=zUU I.kIn cC cM
 obtain⟨hp,g,d,tk,os⟩:=s
 exact PyProof.Rows.call_isinstance_of (yJS O ha hc (by kernel_rfl) (by simp [contains_cons]) ⟨.bl true,H,I,rfl,q⟩)
theorem yCB{α:List Addr}{S:Sto}{H:Hp}{r:Er}{x:V}(T:XTab X.K X.mg M cs)(wd:Wd X.g α S H)(d:DenX X.K α H r x){l:Nat}{c:Str}{fs:List (Str×MV)}(e:r=.val (.loc l))(hl:S[l]? =some (.ins c fs))(hc:c∈cs.map (·.1)):
  ∃C,(c,C)∈cs/\IsX X M H x C:=by
 subst e
 obtain⟨aa,rfl,h⟩:=zDP d
 obtain⟨o,h1,C,gs,hm,hf,oe,hH,hcl,_⟩: ∃o,S[l]? =some o/\ObD X.g α H aa (.ins c fs):=⟨_,hl,wd.obj l aa _ h hl⟩
 obtain⟨⟨c',C'⟩,hm',rfl⟩:=mM0.mp hc
 obtain⟨q1,q2⟩:=T.each.at hm'
 have:C=C':=by
  have z:X.mg c'=some (.ref C):=hm
  rw [q1]at z;cases z;rfl
 subst this
 exact⟨C,hm',aa,oe,rfl,hH,hcl,q2,T.mc⟩
theorem XTab.inj{K:PySem.W.Frag}{mg:Str->Option Value}(T:XTab K mg M cs){c c':Str}{C C':Addr}(h:(c,C)∈cs)(h':(c',C')∈cs)(hn:(cs.map (·.1)).Nodup):(C=C'↔c=c'):=by
 constructor
 ·rintro rfl
  have nd:=(nodup_cons.mp T.nd).2
  have: ∀(l:List (Str×Addr)),(l.map (·.2)).Nodup->(c,C)∈l->(c',C)∈l->c=c':=by
   intro l
   induction l with
   |nil=>intro _ z;simp at z
   |cons y r ih=>
    intro nd a b
    rw [map_cons,nodup_cons]at nd
    rcases mC.mp a with a1|a1<;>rcases mC.mp b with b1|b1
    ·rw [<-b1]at a1;cases a1;rfl
    ·exact absurd (show y.2∈r.map (·.2)from by rw [<-a1];exact mM0.mpr ⟨(c',C),b1,rfl⟩) nd.1
    ·exact absurd (show y.2∈r.map (·.2)from by rw [<-b1];exact mM0.mpr ⟨(c,C),a1,rfl⟩) nd.1
    ·exact ih nd.2 a1 b1
  exact this cs nd h h'
 ·rintro rfl
  have a:=(T.each.at h).1
  rw [(T.each.at h').1]at a;cases a;rfl
theorem xQ{ns:List Str}(T:XTab X.K X.mg M cs)(hn:(cs.map (·.1)).Nodup)(hD:(c2,D)∈cs)(hz:X.mg "isinstance"=none)(hg:Gl X "isinstance")(hg2:Gl X c2)(ha:PEm X W a f)(hns:cs.map (·.1)=ns:=by rfl)(hd:(c2==("__debug__":Str))=false:=by decide)
  (he:starEach [a,.Name c2 p2] X.env=(false,eval a X.env)::starEach [.Name c2 p2] X.env:=by rfl) (hp2:(backTo pos (starEach [.Name c2 p2] X.env)).any (·.1)=false:=by rfl):
  PEm X W (.Call (.Name "isinstance" p) [a,.Name c2 p2] [] pos) (λρ S=>(f ρ S).bind (zFO ns c2)):=by
 subst hns
 obtain⟨ta,ha,fa⟩:=ha
 have mD:=(T.each.at hD).1
 refine⟨_,zOW (yHE (M:=M)) hg hz PyProof.Rows.boot_isinstance (zDM ha (zDM (zTO (v:=.ref D) hg2 mD rfl hd) zOU) he) (by decide) (by decide) he hp2,λα ρ S σ H Q wd sl q=>fa α ρ S σ H _ wd sl (q.bind λu r S1 α1 H1 e1 x1 w1 d1 q1=>?_)⟩
 replace q1:=q1.shift x1
 unfold zFO at q1
 split at q1
 ·rename_i l
  split at q1
  ·rename_i c fs hl
   split at q1
   ·rename_i hc
    obtain⟨C,hC,ix⟩:=yCB T w1 d1.1 rfl hl hc
    refine⟨u,C,D,rfl,ix,?_,?_⟩
    ·by_cases z:C=D
     ·exact .inl z
     ·exact .inr ⟨z,λy=>(nodup_cons.mp T.nd).1 (by rw [y];exact mM0.mpr ⟨_,hD,rfl⟩),_,(T.each.at hD).2⟩
    ·have e2:decide (C=D)=decide (c=c2):=decide_eq_decide.mpr (T.inj hC hD hn)
     rw [e2]
     exact Post.val q1 w1 (wD _)
   ·exact q1.elim
  ·exact q1.elim
 ·exact q1.elim
theorem zZS{ns:List Str}(T:XTab X.K X.mg M cs)(hz:X.mg "isinstance"=none)(hz2:X.mg "ValueError"=none)(hg:Gl X "isinstance")(hg2:Gl X "ValueError")(ha:PEm X W a f)(hns:cs.map (·.1)=ns:=by rfl)
  (he:starEach [a,.Name "ValueError" p2] X.env=(false,eval a X.env)::starEach [.Name "ValueError" p2] X.env:=by rfl) (hp2:(backTo pos (starEach [.Name "ValueError" p2] X.env)).any (·.1)=false:=by rfl):
  PEm X W (.Call (.Name "isinstance" p) [a,.Name "ValueError" p2] [] pos) (λρ S=>(f ρ S).bind (yHD ns)):=by
 subst hns
 obtain⟨ta,ha,fa⟩:=ha
 refine⟨_,zOW (yHF (M:=M)) hg hz PyProof.Rows.boot_isinstance (zDM ha (zDM (yBB (v:=.ty "ValueError") hg2 hz2 (by decide+kernel) rfl (by decide) (by decide)) zOU) he) (by decide) (by decide) he hp2,λα ρ S σ H Q wd sl q=>fa α ρ S σ H _ wd sl (q.bind λu r S1 α1 H1 e1 x1 w1 d1 q1=>?_)⟩
 replace q1:=q1.shift x1
 unfold yHD at q1
 split at q1
 ·rename_i l
  split at q1
  ·rename_i c fs hl
   split at q1
   ·rename_i hc
    obtain⟨C,hC,ix⟩:=yCB T w1 d1.1 rfl hl hc
    exact⟨u,C,rfl,ix,Post.val q1 w1 (wD _)⟩
   ·exact q1.elim
  ·exact q1.elim
 ·exact q1.elim
end
def spX(g:Gm)(n:Nat)(F:List MV->Sto->R Er):Sp:=λvs H Q E=> ∃α S ds,Wd g α S H/\DenL g.K α H ds vs/\ds.length=n/\Post g (WE g E) α H (F ds S) Q
noncomputable def gY(n:Nat)(F:List MV->Sto->R Er)(rs:List Er)(S:Sto):R Er:=if rs.length=n then(match F (zQ rs S).1 (zQ rs S).2 with
 |.ok r S2=>gX S r S2
 |.exc c fs S2=>if fs.all (λp=>zPZ p.2)=true then(gX S (.val .non) S2).bind λ_ S3=>.exc c fs S3 else .no
 |.no=>.no)else .no
section
variable{X:Cx}{E:XK}{e:Expr}{es:List Expr}{af:Rho->Sto->R (List Er)}{pos:Pos}
theorem zQB{n:Nat}{F:List MV->Sto->R Er}{rs:List Er}{vs:List V}{α α1:List Addr}{H H1:Hp}{S1:Sto}{Q:VK}(x1:Ext α H α1 H1)(w1:Wd X.g α1 S1 H1)(d1:ArgsE X.K H α1 H1 rs vs)(q:Post X.g (WE X.g E) α H (gY n F rs S1) Q):
  spX X.g n F vs H1 Q E:=by
 unfold gY at q
 split at q
 ·rename_i hl
  obtain⟨α2,x2,y2,w2,l2⟩:=zDB w1 x1 d1
  refine⟨α2,_,_,w2,l2,by rw [zHZ];exact hl,?_⟩
  cases z:F (zQ rs S1).1 (zQ rs S1).2 with
  |ok r S3=>
   rw [z]at q
   intro v α3 H3 x3 w3 d3
   obtain⟨r',S',α',e',x',w',d'⟩:=zUH x1 w1 y2.pre x2 x3 w3 d3
   have q:Post X.g (WE X.g E) α H (gX S1 r S3) Q:=q
   rw [e']at q
   exact q v α' H3 x' w' d'
  |exc c fs S3=>
   rw [z]at q
   dsimp only at q
   split at q
   ·rename_i hp
    intro α3 H3 x3 w3 C d hC hf
    obtain⟨r',S',α',e',x',w',d'⟩:=zUH (r:=.val .non) (v:=.non) x1 w1 y2.pre x2 x3 w3 (DenE.val zBE)
    rw [e']at q
    exact q α' H3 x' w' C d hC (hf.imp id λ⟨dx,gs,od,h1,h2,h3⟩=>⟨dx,gs,od,h1,h2,zQA hp h3⟩)
   ·exact q.elim
  |no=>rw [z]at q;exact q.elim
 ·exact q.elim
theorem yHG{k n:Nat}{fa:Addr}{fd:FuncData}{ps:List Str}{F:List MV->Sto->R Er}{x:Str}{p:Pos}(hx:XOk X E)(G:FnOk X.prog X.w X.K X.mg X.base (CXe X.prog X.w) k fa fd ps (spX X.g n F))(hr:Room k X.A)(hg:Gl X x)(hm:X.mg x=some (.ref fa))
  (hk:PySem.W.keepIn X.K (.ref fa)=true) (hb:Binds X.K fd ps []) (ha:PAm X (WE X.g E) (e::es) af) (hdb:(x==("__debug__":Str))=false:=by decide)
  (he:starEach (e::es) X.env=(false,eval e X.env)::starEach es X.env:=by rfl) (hpl:(backTo pos (starEach es X.env)).any (·.1)=false:=by rfl):
  PEm X (WE X.g E) (.Call (.Name x p) (e::es) [] pos) (λρ S=>(af ρ S).bind λrs S1=>gY n F rs S1):=by
 obtain⟨t,ha,kk⟩:=ha
 refine⟨_,yBE G hr hg hm hk hb .nil hx.pass ha hdb he hpl,λα ρ S σ H Q wd sl q=>kk α ρ S σ H _ wd sl (q.bind λvs rs S1 α1 H1 e1 x1 w1 d1 q1=>?_)⟩
 rw [aN]
 exact zQB x1 w1 d1 q1
end
section
variable{P:Program}{w:World}{K:PySem.W.Frag}{mg:Str->Option Value}{base:Heap}
theorem okX{x qual:Str}{st:Stmt}{f:Addr}{fd:FuncData}{N ps:List Str}{k:Nat}(Fb:Rho->Sto->R Fl)(F:Fun K x qual st f fd)(Sc:FnScope N ps (zH st))
  (hbody: ∀(cdv:Value)(A:Around)(outer:List Env)(s:Shared)(H:Hp)(E:XK),Room k (A.deeper (envOfC qual (zH st) s.heap.objs.size f cdv))->
   zMI (zOV (CXe P w) P w K mg base N qual (zH st) f cdv A outer s H E) (WE ⟨K,mg,P,w⟩ E) (jD st) Fb):
  FnOk P w K mg base (CXe P w) (k+1) f fd ps (spX ⟨K,mg,P,w⟩ ps.length λds S=>yH (Fb (zN N ds) S)):=by
 obtain⟨oc,od,kV,doc,pm,an,cdv,ct,osl,rfl,lk,hcd⟩:=F.ex
 refine yMF lk hcd Sc (λvs H Q E h=>?_) λA outer s H vs Q E hr h=>?_
 ·obtain⟨α,S,ds,_,l,hl,_⟩:=h
  rw [l.length,hl]
 ·obtain⟨α,S,ds,wd,l,hl,q⟩:=h
  obtain⟨t,ht,kk⟩:=hbody cdv A outer s H E hr
  refine⟨t,ht,kk α (zN N ds) S (start N vs) H _ wd (zFY l) ?_⟩
  dsimp only at q
  cases z:Fb (zN N ds) S with
  |ok fl S'=>
   rw [z]at q
   cases fl with
   |next ρ=>exact λσ α' H' x' w' s'=>q .non α' H' x' w' (DenE.val zBE)
   |ret r=>exact λv α' H' x' w' d'=>q v α' H' x' w' d'
   |brk ρ=>exact q.elim
   |cont ρ=>exact q.elim
  |exc c fs S'=>rw [z]at q;exact λα' H' x' w'=>q α' H' x' w'
  |no=>rw [z]at q;exact q
theorem _root_.L2.FnOk.noX{k n:Nat}{f:Addr}{fd:FuncData}{ps:List Str}{g:Gm}{F:List MV->Sto->R Er}(G:FnOk P w K mg base (CXe P w) k f fd ps (spX g n F)):FnOk P w K mg base CX0 k f fd ps (spM g n F):=by
 have up: ∀{vs H Q}, ∀{E},spM g n F vs H Q E->spX g n F vs H Q E0:=λ⟨α,S,ds,h1,h2,h3,h4⟩=>⟨α,S,ds,h1,h2,h3,h4.wmono λ_ _ _ _ _ z=>z.elim⟩
 refine⟨λvs H Q E h=>G.len vs H Q E0 (up h),λA outer s H args us vs Q E hr e0 hb hv h=>codeAny_mono (G.run A outer s H args us vs Q E0 hr e0 hb hv (up h)) λr s' hq=>?_⟩
 cases r with
 |error e=>
  obtain⟨_,_,_,_,_,_,_,_,_,_,_,_,_,_,_,z⟩:=hq
  exact z
 |ok fl=>cases fl<;>exact hq
end
end M
end L2
namespace L2
open PySem PySem.Spec PyProof.Rows
structure Out(X:Cx)(pins:List (Addr×Obj))(H:Hp)(s:Shared)(b:Addr):Prop where
 s0:X.s₀.heap.get? b=none
 h:H b=none
 pin: ∀p∈X.pn++pins,p.1≠b
 fld: ∃o vs,s.heap.get? b=some o/\o.data=.fields vs
section
variable{X:Cx}{pins:List (Addr×Obj)}{σ:St}{H:Hp}{s:Shared}{e T b:Addr}{h':Heap}
theorem Out.ne(o:Out X pins H s b){c:Addr}{oc:Obj}(hc:s.heap.get? c=some oc)(nf: ∀vs,oc.data≠.fields vs):c≠b:=λz=>by
 obtain⟨ob,vs,h1,h2⟩:=o.fld
 rw [z,h1]at hc;cases hc
 exact nf vs h2
theorem Out.loc(o:Out X pins H s b)(I:Inv X pins σ H s):X.env.locals≠b:=by
 obtain⟨m,⟨oL,es,ep,h1,h2,_⟩,_⟩:=I.loc
 exact o.ne h1 λvs z=>by rw [h2]at z;cases z
theorem Out.cell(o:Out X pins H s b)(I:Inv X pins σ H s){x:Str}{c:Addr}(hc:X.env.cells.lookup x=some c):c≠b:=by
 obtain⟨v,oc,h1,h2⟩:=I.cell x c hc
 exact o.ne h1 λvs z=>by rw [h2]at z;cases z
theorem Inv.mvd(J:Inv X pins σ H s)(hex:X.ex=[])(m:Mvd (frs X.stack) e T s.heap h')(oe:Out X pins H s e)(oT:Out X pins H s T):Inv X pins σ H {s with heap:=h'}:=by
 obtain⟨u,hok⟩:=J.moved hex m oe.s0 oT.s0 oe.h oT.h
 have ns: ∀mm,s.heap.Ns X.env.locals mm->h'.Ns X.env.locals mm:=λmm hn=>by
  obtain⟨o,es,ep,ho,r⟩:=hn
  obtain⟨sl,e1⟩:=m.slot _ o (oe.loc J) (oT.loc J) ho
  exact⟨_,es,ep,e1,r⟩
 have cell: ∀x c,X.env.cells.lookup x=some c-> ∀v,s.heap.IsCell c v->h'.IsCell c v:=λx c hc v hv=>by
  obtain⟨o,ho,hd⟩:=hv
  obtain⟨sl,e1⟩:=m.slot c o (oe.cell J hc) (oT.cell J hc) ho
  exact⟨_,e1,hd⟩
 refine⟨J.ok,J.os,J.bare,by rw [hex];exact u,?_,λx c hc=>?_,J.free,J.freeC,λp hp=>?_,hok,J.len⟩
 ·obtain⟨mm,hn,hl⟩:=J.loc
  refine⟨mm,ns mm hn,λi x v e1 e2 e3=>?_⟩
  obtain⟨u,r,l⟩:=hl i x v e1 e2 e3
  exact⟨u,r,l.imp id λ⟨k,c,hc,z⟩=>⟨k,c,hc,cell x c hc _ z⟩⟩
 ·obtain⟨v,z⟩:=J.cell x c hc
  exact⟨v,cell x c hc v z⟩
 ·obtain⟨e1,n,ne,nf,dd⟩:=J.pin p hp
  refine⟨m.keep p.1 p.2 (oe.pin p hp) (oT.pin p hp) (λz=>?_) e1,n,ne,nf,dd⟩
  rcases mC.mp (J.stkSub _ z)with z|z
  ·exact ne z
  ·exact nf z
theorem Inv.track{ob:Obj}(J:Inv X pins σ H s)(o:Out X pins H s e)(he:s.heap.get? e=some ob):Inv X pins σ (upd H e (.ext λh=>h.get? e=some ob)) s:=by
 refine⟨J.ok,J.os,J.bare,⟨J.base.keep,J.base.slot,λb ob' q n hx=>?_,J.base.there,λb xs q=>?_,λb o' u q=>?_,λb ps q=>?_⟩,J.loc,J.cell,?_,λx c hc=>?_,λp hp=>?_,λb u q=>?_,J.len⟩
 ·rw [yA λz=>by rw [z,o.s0]at q;cases q]
  exact J.base.free b ob' q n hx
 ·rw [yA (yC (J.base.tups b xs q) o.h)];exact J.base.tups b xs q
 ·rw [yA (yC (J.base.frzs b o' u q) o.h)];exact J.base.frzs b o' u q
 ·obtain⟨mo,z⟩:=J.base.tbls b ps q
  exact⟨mo,by rw [yA (yC z o.h)];exact z⟩
 ·rw [yA (o.loc J)];exact J.free
 ·rw [yA (o.cell J hc)];exact J.freeC x c hc
 ·obtain⟨e1,n,ne,nf,dd⟩:=J.pin p hp
  exact⟨e1,by rw [yA (o.pin p hp)];exact n,ne,nf,dd⟩
 ·by_cases z:b=e
  ·subst z
   rw [xF]at q
   cases q
   exact⟨he,⟨ob,he⟩,λh1 h2 p k=>k _ p⟩
  ·rw [yA z]at q
   exact(J.hok b u q).stay (λ_ _ _ r=>r) (λc r=>by rw [yA (yC r o.h)];exact r) λc xs r=>by rw [yA (yC r o.h)];exact r
abbrev Cx.inH(X:Cx)(v:Value):Cx:={X with A:=X.A.mark (some v),calm:=false,xe:=λ_ _=>False}
theorem Cx.Ok.inH(ok:X.Ok)(v:Value):(X.inH v).Ok:=⟨ok.mod,ok.kind,ok.glob,ok.blt,ok.above,ok.inj,ok.has,ok.cab,λz=>(by cases z),ok.frames,ok.stk,ok.exf,ok.bs,ok.bsz,ok.noex,ok.exfs,ok.funs,ok.frf⟩
theorem Inv.inH(I:Inv X pins σ H s)(v:Value):Inv (X.inH v) pins σ H s:=⟨I.ok.inH v,I.os,I.bare,I.base,I.loc,I.cell,I.free,I.freeC,I.pin,I.hok,I.len⟩
theorem Inv.outH{v:Value}(ok:X.Ok)(I:Inv (X.inH v) pins σ H s):Inv X pins σ H s:=⟨ok,I.os,I.bare,I.base,I.loc,I.cell,I.free,I.freeC,I.pin,I.hok,I.len⟩
theorem name_goes{M:Model}{A:Around}{E:Value->Shared->Prop}{i:Nat}{x:Str}{pos:Pos}{Q:Unit->Shared->Prop}(I:Inv X pins σ H s)(hN:X.N.Nodup)(hi:X.N[i]? =some x)(hk:X.env.kindOf x=some .local)
  (h: ∀s',Inv X pins (σ.set i none) H s'->Q () s'):wpAny M A (do bindName X.env x .none;unbindBehindTheSuite X.env x pos) Q E s:=by
 obtain⟨m,hn,hl⟩:=id I.loc
 have hcls:(X.env.scope.kind==.class || (X.env.scope.kind==.module&&X.env.locals !=X.env.globals))=false:=by rw [I.ok.kind];rfl
 refine wpAny_nameGoes_keeps hk hn hcls λh' v hn' hs=>h _ ?_
 have keep: ∀b o,b≠X.env.locals->s.heap.get? b=some o->h'.get? b=some o:=λb o z q=>(hs.2 b z).trans q
 have neL: ∀b o,X.s₀.heap.get? b=some o->b≠X.env.locals:=λb o e=>ne_of_lt (lt_of_lt_of_le (Heap.lt_size e) I.ok.above)
 obtain⟨oL',_,_,hL',_⟩:=id hn'
 have there: ∀b o,s.heap.get? b=some o-> ∃o',h'.get? b=some o':=λb o q=>by
  by_cases z:b=X.env.locals
  ·rw [z];exact⟨_,hL'⟩
  ·exact⟨o,keep b o z q⟩
 refine⟨I.ok,I.os,I.bare,⟨λb o e n hb hx=>keep b o (neL b o e) (I.base.keep b o e n hb hx),λb o e n hb hx=>?_,I.base.free,λb o e hx=>?_,I.base.tups,I.base.frzs,I.base.tbls⟩,⟨_,hn',λj y v' e1 e2 e3=>?_⟩,λy c e=>?_,I.free,I.freeC,λp hp=>?_,λb u q=>?_,by rw [length_set];exact I.len⟩
 ·obtain⟨sl,e1⟩:=I.base.slot b o e n hb hx
  exact⟨sl,keep b _ (neL b o e) e1⟩
 ·obtain⟨o',e1⟩:=I.base.there b o e hx
  exact there b o' e1
 ·have hj:j≠i:=λz=>by
   subst z
   by_cases hl:j<σ.length
   ·rw [getElem?_set_self hl]at e2;cases e2
   ·rw [List.getElem?_eq_none (by rw [length_set];omega)]at e2;cases e2
  rw [getElem?_set_ne (Ne.symm hj)]at e2
  obtain⟨u,r,q⟩:=hl j y v' e1 e2 e3
  refine⟨u,r,?_⟩
  have hy:y≠x:=λz=>hj (zOR hN e1 (z▸hi))
  rcases q with⟨k,q⟩|⟨k,c,e,z⟩
  ·exact .inl ⟨k,by simp [hy,q]⟩
  ·exact .inr ⟨k,c,e,z.sameBut hs (I.cne y c e)⟩
 ·obtain⟨w',z⟩:=I.cell y c e
  exact⟨w',z.sameBut hs (I.cne y c e)⟩
 ·obtain⟨e,n,ne,nf,dd⟩:=I.pin p hp
  exact⟨keep p.1 p.2 ne e,n,ne,nf,dd⟩
 ·refine(I.hok b u q).stay (λc w' hc r=>keep c w' (λz=>?_) r) (λ_ q=>q) λ_ _ q=>q
  have: ∃y,H c=some y:=by
   rcases hc with rfl|hc
   ·exact⟨_,q⟩
   ·exact⟨_,hc⟩
  obtain⟨y,hy⟩:=this
  rw [z,I.free]at hy;cases hy
end
theorem tc_nt:isSubtype (.type "type") (.type "tuple")=pure false:=by rw [isSubtype_type];kernel_rfl
theorem zZT{Mo:Model}{A:Around}{E:Value->Shared->Prop}{h:Heap}{g:Array GenState}{d:Drawn}{t:Nat}{os:OsState}{C M e:Addr}{oe:Obj}{Q:Bool->Shared->Prop}(O:zMG h C M)(he:h.get? e=some oe)(hc:oe.cls=.ref C)
  (hq:Q true ⟨h,g,d,t,os⟩):wpAny Mo A (excMatches (.ref e) (.ref M)) Q E ⟨h,g,d,t,os⟩:=by
 have hb:(Value.ref C::.ref M::bmV).contains (.ref M)=true:=by simp [contains_cons]
 have f:=tc_nt
 have O':=O
 obtain⟨_,_,_,_,_,_,_,_,_,_,_,_,_,_,_,_,_,_,_,_,_,_,_,_,_,_,_,_,_,_,_,_,_,_,_,_,_,hM,_⟩:=O
 have hm:(Value.ref M::bmV).contains (.type "BaseException")=true:=by simp [contains_cons]
 unfold excMatches
 repeat (first |(with_reducible refine wpAny_loadPart_at he ?_;rw [hc])|with_reducible refine wpAny_loadPart_at hM ?_|(with_reducible refine zFV O' ?_;rw [hb])|(with_reducible refine wpAny_isSubtype_exc hM ?_;rw [hm])|wp_step)
 exact hq
end L2
namespace L2
namespace M
open PySem PySem.Spec PyProof.Rows
theorem Slots.unset{K:PySem.W.Frag}{α:List Addr}{H:Hp}{ρ:Rho}{σ:St}(q:Slots K α H ρ σ)(i:Nat):Slots K α H (ρ.set i none) (σ.set i none):=by
 refine⟨by rw [length_set,length_set];exact q.len,λj d e=>?_⟩
 rcases yBL e with⟨_,z,_⟩|⟨hj,e'⟩
 ·cases z
 ·obtain⟨v,h1,h2⟩:=q.slot j d e'
  exact⟨v,by rw [getElem?_set_ne (Ne.symm hj)];exact h1,h2⟩
def endF(i:Nat):Fl->Sto->R Fl
 |.next ρ,S=>.ok (.next (ρ.set i none)) S
 |.ret r,S=>.ok (.ret r) S
 |.brk ρ,S=>.ok (.brk (ρ.set i none)) S
 |.cont ρ,S=>.ok (.cont (ρ.set i none)) S
def zQC(ns:List Str)(i:Nat)(kn:Er->Sto->R Fl)(Fh:Rho->Sto->R Fl)(ρ:Rho):R Er->R Fl
 |.ok r S=>kn r S
 |.exc c fs S=>if c∈ns then(noX (Fh (ρ.set i (some (.loc S.length))) (S++[.ins c fs]))).bind (endF i)else .no
 |.no=>.no
theorem PostS.exprX{β τ:Type}[Dn β τ]{g:Gm}{W:XW}{α:List Addr}{H:Hp}{D:Ends}{m:R β}{k:β->Sto->R Fl}{Q':τ->Hp->Prop}(q:PostS g W α H D ((noX m).bind k))
  (f: ∀u b S1 α1 H1,m=.ok b S1->Ext α H α1 H1->Wd g α1 S1 H1->Dn.d g H α1 S1 H1 b u->PostS g W α H D (k b S1)->Q' u H1):Post g W0 α H m Q':=by
 cases m with
 |ok b S=>exact λu α1 H1 x w d=>f u b S α1 H1 rfl x w d q
 |exc c fs S=>exact q.elim
 |no=>exact q
def E2(X:Cx)(W:XW)(ns:List Str)(i:Nat)(Fh:Rho->Sto->R Fl)(ρ:Rho)(α:List Addr)(H:Hp)(D:Ends):XK:=λcls d H'=> ∃c fs S2 α' C,cls=.ref C/\X.mg c=some (.ref C)/\Ext α H α' H'/\Wd X.g α' S2 H'/\FsD X.g α' H' d fs/\
 PostS X.g W α H D (if c∈ns then(noX (Fh (ρ.set i (some (.loc S2.length))) (S2++[.ins c fs]))).bind (endF i)else .no)
section
variable{X:Cx}{W:XW}{M:Addr}{cs:List (Str×Addr)}{pins:List (Addr×Obj)}{σ:St}{H H1:Hp}{s s1 s':Shared}{i:Nat}{nm:Str}{Fh:Rho->Sto->R Fl}{ρ:Rho}{α:List Addr}{D:Ends}{b0:Stmt}{suite:List Stmt}{mp hpos:Pos}
theorem yPK(T:XTab X.K X.mg M cs)(hgm:Gl X "MendError")(hN:X.N.Nodup)(hi:X.N[i]? =some nm)(hk:X.env.kindOf nm=some .local)(hsuite: ∀v,zMI (X.inH v) W0 (b0::suite) Fh)(hex:X.ex=[])(hstk:X.stack=X.env::X.outer)(hfm:X.env.frame=some X.env.locals)
  (sl:Slots X.K α H ρ σ) (I1:Inv X pins σ H1 s1) {x:Value} (hq:CXe X.prog X.w X.stack H1 s1 (E2 X W (cs.map (·.1)) i Fh ρ α H D) x s'):
  wpAny (model X.prog X.w) X.A (noteFrame x X.env) (λ_ s₂=>wpAny (model X.prog X.w) X.A (setFlight x none) (λ_ s₃=>wpAny (model X.prog X.w) X.A (handleBy x X.env [.ExceptHandler (some (.Name "MendError" mp)) (some nm) (b0::suite) hpos]) (SP X pins D) X.xe s₃) X.xe s₂) X.xe s':=by
 obtain⟨e,Tb,C,d,H',rfl,os,bare,un,hok,fl,ne,nT,he,hT,c,fs,S2,α',C',eC,hmc,xx,w2,hf,q⟩:=hq
 cases eC
 split at q
 ·rename_i hcn
  have J:Inv X pins σ H' s':=I1.call' (ch:=[]) os un hok bare (λ_ z=>nomatch z)
  have hfr:X.A.frames=some (X.env::X.outer):=by rw [<-hstk];exact J.ok.frames
  have hl:s'.heap.FunFrames X.base (X.env::X.outer):=by rw [<-hstk];exact J.stack
  have oe:Out X pins H' s' e:=by
   obtain⟨ob,vs,_,_,h1,_,_,h2,_⟩:=id fl
   exact⟨I1.older hex ne,he,λp hp z=>(by have:=(I1.pin p hp).1;rw [z,ne]at this;cases this),ob,vs,h1,h2⟩
  have oT:Out X pins H' s' Tb:=by
   obtain⟨_,_,ob,ts,_,_,_,_,_,_,h1,h2,_⟩:=id fl
   exact⟨I1.older hex nT,hT,λp hp z=>(by have:=(I1.pin p hp).1;rw [z,nT]at this;cases this),ob,ts,h1,h2⟩
  refine zSQ hfr hl hfm fl λh3 T3 n3 m3 f3=>?_
  rw [<-hstk]at m3
  have J3:=J.mvd hex m3 oe oT
  have oe3:Out X pins H' {s' with heap:=h3} e:=by
   obtain⟨ob,vs,_,_,h1,_,_,h2,_⟩:=id f3
   exact⟨oe.s0,oe.h,oe.pin,ob,vs,h1,h2⟩
  have oT3:Out X pins H' {s' with heap:=h3} T3:=by
   obtain⟨_,_,ob,ts,_,_,_,_,_,_,h1,h2,_⟩:=id f3
   exact⟨J.older hex n3,J.hok.none_of n3,λp hp z=>(by have:=(J.pin p hp).1;rw [z,n3]at this;cases this),ob,ts,h1,h2⟩
  refine zBD (env:=X.env) (outer:=X.outer) f3 λh4 m4 f4=>?_
  rw [<-hstk]at m4
  have J4:=J3.mvd hex m4 oe3 oT3
  have oe4:Out X pins H' {s' with heap:=h4} e:=by
   obtain⟨ob,vs,_,_,h1,_,_,h2,_⟩:=id f4
   exact⟨oe.s0,oe.h,oe.pin,ob,vs,h1,h2⟩
  have oT4:Out X pins H' {s' with heap:=h4} T3:=by
   obtain⟨_,_,ob,ts,_,_,_,_,_,_,h1,h2,_⟩:=id f4
   exact⟨oT3.s0,oT3.h,oT3.pin,ob,ts,h1,h2⟩
  have cls: ∃i,XCl X.K C (.ref M::bmV) i:=by
   obtain⟨⟨c',C'⟩,hm',rfl⟩:=mM0.mp hcn
   obtain⟨q1,q2⟩:=T.each.at hm'
   have:C=C':=by rw [hmc]at q1;cases q1;rfl
   rw [this];exact q2
  obtain⟨ini,cC⟩:=cls
  refine wpAny_handleBy_cons (codeAny_handlers_test (zHW (X:=X.inH (.ref e)) (J4.inH (.ref e)) hgm T.m ?_)) (by intro z;cases z)
  obtain⟨ob4,_,_,_,he4,hc4,_⟩:=id f4
  refine zZT (zUU J4.kIn cC T.mc) he4 hc4 ?_
  refine codeAny_handlers_suite_as ?_
  refine zBD (env:=X.env) (outer:=X.outer) (s:={s' with heap:=h4}) f4 λh5 m5 f5=>?_
  rw [<-hstk]at m5
  have J5:=J4.mvd hex m5 oe4 oT4
  obtain⟨ob,vs,_,_,h1,hcl,hdx,h2,_⟩:=id f5
  have oe5:Out X pins H' {s' with heap:=h5} e:=⟨oe.s0,oe.h,oe.pin,ob,vs,h1,h2⟩
  have J6:=J5.track oe5 h1
  have xw:=w2.put (ho:=.ext λh=>h.get? e=some ob) (m:=.ins c fs) oe.h (by
   rcases hf with rfl|⟨dx,gs,od,hd1,hd2,hd3⟩
   ·exact⟨C,[],hmc,.nil,ob,xF,hcl,.inl rfl⟩
   ·have xx0:Ext α' H' α' (upd H' e (.ext λh=>h.get? e=some ob)):=w2.newx oe.h
    exact⟨C,gs,hmc,(hd3.ex0 xx0.toEx0).ex0 (Ex0.grow _ _ _),ob,xF,hcl,.inr ⟨dx,od,hdx.trans hd1,(by rw [yA (yC hd2 oe.h)];exact hd2),vs,h2⟩⟩)
  refine zOS (X:=X.inH (.ref e)) (J6.inH (.ref e)) hN hi (.inl hk) (v:=.ref e) rfl (λs7 J7=>?_) (.inr hk)
  obtain⟨th,hth,kh⟩:=hsuite (.ref e)
  let D':Ends:={nx:=λσ H=>D.nx (σ.set i none) H,rt:=D.rt,bk:=λσ H=>D.bk (σ.set i none) H,ct:=λσ H=>D.ct (σ.set i none) H}
  have q':PostS X.g W (α'++[e]) (upd H' e (.ext λh=>h.get? e=some ob)) D _:=PostS.shift (xx.trans xw.1) q
  have ht:th D' (σ.set i (some (.ref e))) (upd H' e (.ext λh=>h.get? e=some ob)):=by
   refine kh (α'++[e]) (ρ.set i (some (.loc S2.length))) (S2++[.ins c fs]) _ _ D' xw.2 (((sl.ext xx).ext xw.1).set (zKS (by rw [<-w2.len,getElem?_append_right (le_refl _),sub_self];rfl))) ?_
   cases z:Fh (ρ.set i (some (.loc S2.length))) (S2++[.ins c fs])with
   |ok fl S8=>
    rw [z]at q'
    cases fl with
    |next ρ8=>exact λσ8 α8 H8 x8 w8 s8=>q' (σ8.set i none) α8 H8 x8 w8 (s8.unset i)
    |ret r8=>exact λv8 α8 H8 x8 w8 d8=>q' v8 α8 H8 x8 w8 d8
    |brk ρ8=>exact λσ8 α8 H8 x8 w8 s8=>q' (σ8.set i none) α8 H8 x8 w8 (s8.unset i)
    |cont ρ8=>exact λσ8 α8 H8 x8 w8 s8=>q' (σ8.set i none) α8 H8 x8 w8 (s8.unset i)
   |exc c8 fs8 S8=>rw [z]at q';exact q'.elim
   |no=>rw [z]at q';exact q'.elim
  refine wpAny_mono (hth pins s7 _ _ D' J7 ht) (λf s8 hs=>?_) λ_ _ z=>z.elim
  show wpAny _ _ _ _ _ _
  cases f with
  |next=>
   obtain⟨σ8,H8,I8,q8⟩:=hs
   exact name_goes (I8.outH J.ok) hN hi hk λs9 I9=>⟨_,H8,I9,q8⟩
  |brk=>
   obtain⟨σ8,H8,I8,q8⟩:=hs
   exact name_goes (I8.outH J.ok) hN hi hk λs9 I9=>⟨_,H8,I9,q8⟩
  |cont=>
   obtain⟨σ8,H8,I8,q8⟩:=hs
   exact name_goes (I8.outH J.ok) hN hi hk λs9 I9=>⟨_,H8,I9,q8⟩
  |ret u=>
   obtain⟨v8,σ8,H8,I8,r8,q8⟩:=hs
   exact name_goes (I8.outH J.ok) hN hi hk λs9 I9=>⟨v8,_,H8,I9,r8,q8⟩
 ·exact q.elim
end
section
variable{X:Cx}{W:XW}{M:Addr}{cs:List (Str×Addr)}{i:Nat}{nm:Str}{Fh:Rho->Sto->R Fl}{b0:Stmt}{suite:List Stmt}{mp hpos cpos epos pos p:Pos}{e:Expr}{es:List Expr}{af:Rho->Sto->R (List Er)}{k n:Nat}{fa:Addr}{fd:FuncData}{ps:List Str}{F:List MV->Sto->R Er}{x:Str}
theorem yHH{pins:List (Addr×Obj)}{σ:St}{H:Hp}{s:Shared}{Q:VK}{E:XK}{Ex:Value->Shared->Prop}{ta:TA}(G:FnOk X.prog X.w X.K X.mg X.base (CXe X.prog X.w) k fa fd ps (spX X.g n F))(hr:Room k X.A)(hg:Gl X x)(hm:X.mg x=some (.ref fa))(hk:PySem.W.keepIn X.K (.ref fa)=true)(hb:Binds X.K fd ps [])
  (ha:PA X.nox (e::es) ta) (I:Inv X pins σ H s) (ht:ta σ H λvs H1=>spX X.g n F vs H1 Q E) (hx: ∀H1 s1 x s',Inv X pins σ H1 s1->CXe X.prog X.w X.stack H1 s1 E x s'->Ex x s') (hdb:(x==("__debug__":Str))=false)
  (he:starEach (e::es) X.env=(false,eval e X.env)::starEach es X.env) (hpl:(backTo cpos (starEach es X.env)).any (·.1)=false):
  wpAny (model X.prog X.w) X.A (eval (.Call (.Name x p) (e::es) [] cpos) X.env) (EP X pins σ Q) Ex s:=by
 refine wpAny_Call_Name_kw (zHW I hg hm ?_ hdb)
 refine PySem.W.callWith_K (h₀:=X.base) I.ok.mod.kin hk (wpAny_mono (ha cpos pins s σ H _ (I.wish _) ht) (λus s1 ⟨vs,H1,I1,r,q⟩=>⟨I1.unwish.kIn,?_⟩) λ_ _ z=>z.elim) he hpl
 have I2:=I1.unwish
 have hl:us.length=ps.length:=by rw [<-r.length];exact G.len _ _ _ _ q
 refine wpAny_call (codeAny_mono (G.run X.A X.stack s1 H1 ⟨us,[]⟩ us vs Q E hr I2.env0 ?_ r q) λr s' hq=>?_)
 ·have:=hb s1 us I2.kIn (by rw [aN];exact hl)
  rw [aN]at this
  exact this
 ·cases r with
  |error y=>exact hx H1 s1 y s' I2 hq
  |ok fl=>
   cases fl with
   |ret u=>exact I2.after hq
   |next=>exact False.elim hq
   |brk=>exact False.elim hq
   |cont=>exact False.elim hq
theorem yHI{α:List Addr}{H:Hp}{ρ:Rho}{S:Sto}{σ:St}{D:Ends}{Q:VK}{ta:TA}{kn:Er->Sto->R Fl}{ns:List Str}(kk: ∀α ρ S σ H Q,Wd X.g α S H->Slots X.K α H ρ σ->Post X.g W0 α H (af ρ S) Q->ta σ H Q)(wd:Wd X.g α S H)(sl:Slots X.K α H ρ σ)
  (q:PostS X.g W α H D ((noX (af ρ S)).bind λrs S1=>zQC ns i kn Fh ρ (gY n F rs S1))) (hkn: ∀r S1 u α1 H1,PostS X.g W α H D (kn r S1)->Ext α H α1 H1->Wd X.g α1 S1 H1->DenE X.K H α1 H1 r u->Q u H1):
  ta σ H λvs H1=>spX X.g n F vs H1 Q (E2 X W ns i Fh ρ α H D):=by
 refine kk α ρ S σ H _ wd sl (q.exprX λvs rs S1 α1 H1 e1 x1 w1 d1 q1=>zQB x1 w1 d1 ?_)
 cases z:gY n F rs S1 with
 |ok r S2=>rw [z]at q1;exact λu α2 H2 x2 w2 d2=>hkn r S2 u α2 H2 q1 x2 w2 d2
 |exc c fs S2=>rw [z]at q1;exact λα2 H2 x2 w2 C d hC hf=>⟨c,fs,S2,α2,C,rfl,hC,x2,w2,hf,q1⟩
 |no=>rw [z]at q1;exact q1.elim
end
theorem xcl_mk{K:PySem.W.Frag}{C N:Addr}{bm bs sub:List Value}{init:Option Value}{nm q:Str}{hd ab:Bool}{sn:List Str}{col:Option Bool}{dd od:Option Addr}{k0 k1 k2 k3 k5:Option Value}{oc:Value}{es:Array DictEntry}{ep:Nat}{sl:Array (Option Value)}
  (l:K.lookup C=some (excClassObj nm q C N bs bm hd sn sub ab col dd k0 k1 k2 k3 k5 "ValueError.__new__")) (n:K.lookup N=some ⟨oc,od,.dict es ep,sl⟩) (o:(es.toList.all λe=>match e.key with |.str _ _=>true|_=>false)=true)
  (i:PySem.W.nsIn K N "__init__"=some init) (q1:PySem.W.nsIn K N "__class__"=some none) (q2:PySem.W.nsIn K N "__getattribute__"=some none) (q3:PySem.W.nsIn K N "__getattr__"=some none)
  (q4:PySem.W.nsIn K N "__setattr__"=some none) (q5:PySem.W.nsIn K N "place"=some none) (q6:PySem.W.nsIn K N "number"=some none) (hh:hd=true):XCl K C bm init:=by
 refine⟨nm,q,N,bs,hd,sn,sub,ab,col,dd,k0,k1,k2,k3,k5,l,?_,i,λy hy=>?_,hh⟩
 ·unfold PySem.W.nsOkIn
  rw [n]
  rw [Array.all_toList]at o
  exact o
 ·simp only [qn,mC,nM0,or_false]at hy
  rcases hy with rfl|rfl|rfl|rfl|rfl|rfl<;>assumption
end M
end L2
namespace Srt
open PySem PyProof.Rows
def yCC:Bool->Keyed->Array Keyed->Nat->Nat->Nat->StateT SortSt Sem (Option Nat):=sortPriv% PySem.Builtin.gallop
def zIS:Nat->StateT SortSt Sem Unit:=sortPriv% PySem.Builtin.setMinGallop
end Srt
set_option autoImplicit false
namespace Srt
variable{β:Type}{le:β->β->Prop}
structure Two(le:β->β->Prop)(T out xs ys:List β):Prop where
 hx:(out++xs).Pairwise le
 hy:(out++ys).Pairwise le
 pm:(out++(xs++ys)).Perm T
structure TwoR(le:β->β->Prop)(T xs ys R:List β):Prop where
 hx:(xs++R).Pairwise le
 hy:(ys++R).Pairwise le
 pm:(xs++ys++R).Perm T
end Srt
set_option autoImplicit false
namespace Srt
open PySem PyProof.Rows
abbrev SM:=StateT SortSt Sem
abbrev G3:=Option (Option Nat)×Nat×Nat
end Srt
set_option autoImplicit false
namespace Srt
open PySem PyProof.Rows
section
variable{M:Model}{A:Around}{E:Value->Shared->Prop}{s:Shared}
variable{kd:SortKind}{D:Keyed->Prop}{lt:Keyed->Keyed->Bool}
abbrev Le(lt:Keyed->Keyed->Bool)(x y:Keyed):Prop:=lt y x=false
end
end Srt
set_option autoImplicit false
namespace Srt
open PySem PyProof.Rows
abbrev V:=Array Keyed
abbrev L6:=Option V×V×Nat×Nat×Nat×Nat
abbrev L7:=Option V×V×Nat×Nat×Nat×Nat×Nat
abbrev dnL(a b o:V)(i j:Nat):V:=o++a.extract i a.size++b.extract j b.size
abbrev laL(a b o:V)(i j:Nat):V:=o++b.extract j b.size++a.extract i a.size
noncomputable def one1(a b:V)(g:Nat)(c:L6):SM (ForInStep L6):=
 elem' b c.2.2.2.1 >>= λy=>elem' a c.2.2.1 >>= λx=>lt' y x >>= λr=>match r with
  |some q=>if q=true then elem' b c.2.2.2.1 >>= λy=>
     if(c.2.2.2.1+1==b.size)=true then pure (.done (some (dnL a b (c.2.1.push y) c.2.2.1 (c.2.2.2.1+1)),c.2.1.push y,c.2.2.1,c.2.2.2.1+1,0,c.2.2.2.2.2+1))
     else if c.2.2.2.2.2+1>=g then pure (.done (none,c.2.1.push y,c.2.2.1,c.2.2.2.1+1,0,c.2.2.2.2.2+1))
     else pure (.yield (none,c.2.1.push y,c.2.2.1,c.2.2.2.1+1,0,c.2.2.2.2.2+1))
    else elem' a c.2.2.1 >>= λx=>
     if(c.2.2.1+1+1==a.size)=true then pure (.done (some (laL a b (c.2.1.push x) (c.2.2.1+1) c.2.2.2.1),c.2.1.push x,c.2.2.1+1,c.2.2.2.1,c.2.2.2.2.1+1,0))
     else if c.2.2.2.2.1+1>=g then pure (.done (none,c.2.1.push x,c.2.2.1+1,c.2.2.2.1,c.2.2.2.2.1+1,0))
     else pure (.yield (none,c.2.1.push x,c.2.2.1+1,c.2.2.2.1,c.2.2.2.2.1+1,0))
  |_=>pure (.done (some (dnL a b c.2.1 c.2.2.1 c.2.2.2.1),c.2.1,c.2.2.1,c.2.2.2.1,c.2.2.2.2.1,c.2.2.2.2.2))
noncomputable def in1(a b:V)(t g:Nat)(c:L6):SM L6:=forIn [0:t] c λ_ c=>one1 a b g c
end Srt
set_option autoImplicit false
namespace Srt
open PySem PyProof.Rows
def Sg(st st':SortSt):Prop:= ∃g,st'=SortSt.mk' (kindOf st) (arrOf st) (pendingOf st) g (failedOf st)
theorem Sg.kind{st st':SortSt}(h:Sg st st'):kindOf st'=kindOf st:=by obtain⟨g,rfl⟩:=h;rfl
section
variable{M:Model}{A:Around}{E:Value->Shared->Prop}{s:Shared}{kd:SortKind}{D:Keyed->Prop}{lt:Keyed->Keyed->Bool}{a b:V}
abbrev TwoA(lt:Keyed->Keyed->Bool)(a b o:V)(i j:Nat):Prop:=Two (Le lt) (a.toList++b.toList) o.toList (a.toList.drop i) (b.toList.drop j)
def FinA(lt:Keyed->Keyed->Bool)(a b r:V):Prop:=r.toList.Pairwise (Le lt)/\r.toList.Perm (a.toList++b.toList)
theorem TwoA.sa{o:V}{i j:Nat}(h:TwoA lt a b o i j):(a.toList.drop i).Pairwise (Le lt):=(List.pairwise_append.mp h.hx).2.1
def I1(lt:Keyed->Keyed->Bool)(a b o:V)(i j:Nat):Prop:=i+1<a.size/\j<b.size/\TwoA lt a b o i j
def N7(lt:Keyed->Keyed->Bool)(a b:V)(n:Nat)(c:L7):Prop:= ∃o i j g p q,c=(none,o,i,j,g,p,q)/\I1 lt a b o i j/\n<=o.size
def P7(lt:Keyed->Keyed->Bool)(a b:V)(n:Nat)(c:L7):Prop:=(∃r e,c=(some r,e)/\FinA lt a b r)\/N7 lt a b n c
end
end Srt
set_option autoImplicit false
namespace Srt
open PySem PyProof.Rows
abbrev H5:=Option V×Nat×Nat×V×Nat
abbrev H6:=Option V×Nat×Nat×V×Nat×Nat
abbrev H7:=Option V×Nat×Nat×V×Nat×Nat×Nat
abbrev dnH(a b o:V)(i j:Nat):V:=a.extract 0 i++b.extract 0 j++o.reverse
abbrev fbH(a b o:V)(i j:Nat):V:=b.extract 0 j++a.extract 0 i++o.reverse
noncomputable def hone(a b:V)(g:Nat)(c:H6):SM (ForInStep H6):=
 elem' b (c.2.2.1 - 1) >>= λy=>elem' a (c.2.1 - 1) >>= λx=>lt' y x >>= λr=>match r with
  |some q=>if q=true then elem' a (c.2.1 - 1) >>= λx=>
     if(c.2.1 - 1==0)=true then pure (.done (some (dnH a b (c.2.2.2.1.push x) (c.2.1 - 1) c.2.2.1),c.2.1 - 1,c.2.2.1,c.2.2.2.1.push x,c.2.2.2.2.1+1,0))
     else if c.2.2.2.2.1+1>=g then pure (.done (none,c.2.1 - 1,c.2.2.1,c.2.2.2.1.push x,c.2.2.2.2.1+1,0))
     else pure (.yield (none,c.2.1 - 1,c.2.2.1,c.2.2.2.1.push x,c.2.2.2.2.1+1,0))
    else elem' b (c.2.2.1 - 1) >>= λy=>
     if(c.2.2.1 - 1==1)=true then pure (.done (some (fbH a b (c.2.2.2.1.push y) c.2.1 (c.2.2.1 - 1)),c.2.1,c.2.2.1 - 1,c.2.2.2.1.push y,0,c.2.2.2.2.2+1))
     else if c.2.2.2.2.2+1>=g then pure (.done (none,c.2.1,c.2.2.1 - 1,c.2.2.2.1.push y,0,c.2.2.2.2.2+1))
     else pure (.yield (none,c.2.1,c.2.2.1 - 1,c.2.2.2.1.push y,0,c.2.2.2.2.2+1))
  |_=>pure (.done (some (dnH a b c.2.2.2.1 c.2.1 c.2.2.1),c.2.1,c.2.2.1,c.2.2.2.1,c.2.2.2.2.1,c.2.2.2.2.2))
noncomputable def hin1(a b:V)(t g:Nat)(c:H6):SM H6:=forIn [0:t] c λ_ c=>hone a b g c
noncomputable def hw4(a b o:V)(i j g p q:Nat):SM (ForInStep H7):=
 elem' a (i - 1) >>= λx=>if(i - 1==0)=true then pure (.done (some (dnH a b (o.push x) (i - 1) j),i - 1,j,o.push x,g,p,q))
  else if(decide (p<7)&&decide (q<7))=true then pure (.done (none,i - 1,j,o.push x,g,p,q))else pure (.yield (none,i - 1,j,o.push x,g,p,q))
noncomputable def hw3(a b o:V)(i j g p q:Nat):SM (ForInStep H7):=
 elem' b (j - 1) >>= λy=>if(j - 1==1)=true then pure (.done (some (fbH a b (o.push y) i (j - 1)),i,j - 1,o.push y,g,p,q))
  else elem' a (i - 1) >>= λx=>yCC true x b 0 (j - 1) (j - 1 - 1) >>= λr=>match r with
   |some k=>if j - 1 - k>0 then
      if(k==1)=true then pure (.done (some (fbH a b (o.push y++(b.extract k (j - 1)).reverse) i k),i,k,o.push y++(b.extract k (j - 1)).reverse,g,p,j - 1 - k))
      else if(k==0)=true then pure (.done (some (dnH a b (o.push y++(b.extract k (j - 1)).reverse) i k),i,k,o.push y++(b.extract k (j - 1)).reverse,g,p,j - 1 - k))
      else hw4 a b (o.push y++(b.extract k (j - 1)).reverse) i k g p (j - 1 - k)
     else hw4 a b (o.push y) i (j - 1) g p (j - 1 - k)
   |_=>pure (.done (some (dnH a b (o.push y) i (j - 1)),i,j - 1,o.push y,g,p,q))
noncomputable def hw2(a b o:V)(i j g p q:Nat):SM (ForInStep H7):=
 zIS g >>= λ_=>elem' b (j - 1) >>= λy=>yCC false y a 0 i (i - 1) >>= λr=>match r with
  |some k=>if i - k>0 then
     if(k==0)=true then pure (.done (some (dnH a b (o++(a.extract k i).reverse) k j),k,j,o++(a.extract k i).reverse,g,i - k,q))
     else hw3 a b (o++(a.extract k i).reverse) k j g (i - k) q
    else hw3 a b o i j g (i - k) q
  |_=>pure (.done (some (dnH a b o i j),i,j,o,g,p,q))
noncomputable def hin2(a b:V)(t:Nat)(c:H7):SM H7:=forIn [0:t] c λ_ c=>
 if c.2.2.2.2.1>1 then hw2 a b c.2.2.2.1 c.2.1 c.2.2.1 (c.2.2.2.2.1 - 1) c.2.2.2.2.2.1 c.2.2.2.2.2.2
 else hw2 a b c.2.2.2.1 c.2.1 c.2.2.1 c.2.2.2.2.1 c.2.2.2.2.2.1 c.2.2.2.2.2.2
noncomputable def outH(a b:V)(t:Nat)(c:H5):SM H5:=forIn [0:t] c λ_ c=>
 hin1 a b t c.2.2.2.2 (none,c.2.1,c.2.2.1,c.2.2.2.1,0,0) >>= λd=>match d.1 with
  |some r=>pure (.done (some r,d.2.1,d.2.2.1,d.2.2.2.1,c.2.2.2.2))
  |none=>liftM (rule "list.sort.gallop") >>= λ_=>hin2 a b t (none,d.2.1,d.2.2.1,d.2.2.2.1,c.2.2.2.2+1,d.2.2.2.2.1,d.2.2.2.2.2) >>= λe=>match e.1 with
   |some r=>pure (.done (some r,e.2.1,e.2.2.1,e.2.2.2.1,e.2.2.2.2.1))
   |none=>zIS (e.2.2.2.2.1+1) >>= λ_=>pure (.yield (none,e.2.1,e.2.2.1,e.2.2.2.1,e.2.2.2.2.1+1))
section
variable{M:Model}{A:Around}{E:Value->Shared->Prop}{s:Shared}{kd:SortKind}{D:Keyed->Prop}{lt:Keyed->Keyed->Bool}{a b:V}
abbrev TwoH(lt:Keyed->Keyed->Bool)(a b o:V)(i j:Nat):Prop:=TwoR (Le lt) (a.toList++b.toList) (a.toList.take i) (b.toList.take j) o.toList.reverse
theorem TwoH.sa{o:V}{i j:Nat}(h:TwoH lt a b o i j):(a.toList.take i).Pairwise (Le lt):=(List.pairwise_append.mp h.hx).1
def J1(lt:Keyed->Keyed->Bool)(a b o:V)(i j:Nat):Prop:=1<=i/\i<=a.size/\2<=j/\j<=b.size/\TwoH lt a b o i j
def R6(lt:Keyed->Keyed->Bool)(a b:V)(n:Nat)(c:H6):Prop:= ∃i j o p q,c=(none,i,j,o,p,q)/\J1 lt a b o i j/\n<=o.size
def S6(lt:Keyed->Keyed->Bool)(a b:V)(n:Nat)(c:H6):Prop:=(∃r e,c=(some r,e)/\FinA lt a b r)\/R6 lt a b n c
def R7(lt:Keyed->Keyed->Bool)(a b:V)(n:Nat)(c:H7):Prop:= ∃i j o g p q,c=(none,i,j,o,g,p,q)/\J1 lt a b o i j/\n<=o.size
end
end Srt
set_option autoImplicit false
namespace Srt
open PySem PyProof.Rows
def Kx(d:Keyed)(v:V)(i:Nat):Keyed:=(v[i]?).getD d
structure SB(a₀:V)(kd:SortKind)(pd:Array (Nat×Nat×Nat))(f:V)(lo:Nat)(st:SortSt):Prop where
 pm:(arrOf st).Perm a₀
 kind:kindOf st=kd
 fl:failedOf st=none
 pd:pendingOf st=pd
 fx: ∀i,i<lo->(arrOf st)[i]? =f[i]?
section
variable{M:Model}{A:Around}{E:Value->Shared->Prop}{s:Shared}{kd:SortKind}{D:Keyed->Prop}{lt:Keyed->Keyed->Bool}{a₀ f:V}{pd:Array (Nat×Nat×Nat)}{lo:Nat}{st:SortSt}{d:Keyed}
theorem SB.size(h:SB a₀ kd pd f lo st):(arrOf st).size=a₀.size:=h.pm.size_eq
def Dn(lt:Keyed->Keyed->Bool)(d:Keyed)(v:V)(lo n:Nat):Prop:= ∀i j,i<=j->j<n->Le lt (Kx d v (lo+j)) (Kx d v (lo+i))
end
end Srt
set_option autoImplicit false
namespace Srt
open PySem PyProof.Rows
section
variable{M:Model}{A:Around}{E:Value->Shared->Prop}{s:Shared}{kd:SortKind}{D:Keyed->Prop}{lt:Keyed->Keyed->Bool}{a₀ f:V}{pd:Array (Nat×Nat×Nat)}{lo:Nat}{st:SortSt}{d:Keyed}
structure Out(a₀:V)(kd:SortKind)(lt:Keyed->Keyed->Bool)(n:Nat)(st:SortSt):Prop where
 pm:(arrOf st).toList.Perm a₀.toList
 kind:kindOf st=kd
 fl:failedOf st=none
 pd: ∃w,pendingOf st=#[(0,n,w)]
 so:(arrOf st).toList.Pairwise (Le lt)
end
end Srt
set_option autoImplicit false
set_option autoImplicit false
set_option autoImplicit false
set_option autoImplicit false
namespace L2
namespace M
open PySem PySem.Spec PyProof.Rows
section
variable{X:Cx}{W:XW}{a b o i:Expr}{f g:Rho->Sto->R Er}{pos:Pos}{pins:List (Addr×Obj)}{σ:St}{H:Hp}{s:Shared}{α:List Addr}
theorem DenK.append: ∀{kvs kvs':List (MV×MV)}{xs xs':List (Key×V)},DenK X.K α H kvs xs->DenK X.K α H kvs' xs'->DenK X.K α H (kvs++kvs') (xs++xs')
 |_,_,_,_,.nil,h=>h
 |_,_,_,_,.cons hk a l,h=>.cons hk a (DenK.append l h)
theorem DenK.length: ∀{kvs:List (MV×MV)}{xs:List (Key×V)},DenK X.K α H kvs xs->xs.length=kvs.length
 |_,_,.nil=>rfl
 |_,_,.cons _ _ l=>by rw [lC0,lC0,DenK.length l]
end
section
variable{X:Cx}{W:XW}{o e:Expr}{es:List Expr}{f:Rho->Sto->R Er}{af:Rho->Sto->R (List Er)}{apos pos:Pos}{to:TE}{t:TA}{T:String}{name:Str}{id:String}{r:V->List V->Hp->VK->Prop}
def zJF(X:Cx)(T:String)(TY:V->Hp->Prop):Prop:= ∀(pins:List (Addr×Obj))(s:Shared)(σ:St)(H:Hp)(x:V)(v:Value),Inv X pins σ H s->RelV x v->TY x H->s.TypeIs v T/\ ∀a,v=.ref a-> ∃ob,s.heap.get? a=some ob/\ob.dict=none
theorem yPL{TY:V->Hp->Prop}(hTY:zJF X T TY)(pa:PlainAttrs T)(slot:Slot T name id)(hty:typeOf (.builtin id)=pure (.type "method_descriptor"))(hm:MtR X id r)(ho:PE X o to)(ha:PA X (e::es) t)
  (hbase:attributeBase o name X.env (eval o X.env)=eval o X.env)
  (hfew:((backTo pos (starEach (e::es) X.env)).all (λx=>!x.1)&&(backToKw pos (keywordEach [] X.env)).all (λx=>x.1.isSome)
   &&decide ((e::es).length+([]:List Keyword).length+(if([]:List Keyword).isEmpty then 0 else 1)<30))=true)
  (hline:(apos.endLine==pos.line)=true) (hs:starEach (e::es) X.env=(false,eval e X.env)::starEach es X.env) (hplain:(backTo pos (starEach es X.env)).any (·.1)=false):
  PE X (.Call (.Attribute o name apos) (e::es) [] pos) (λσ H Q=>to σ H λx H1=>TY x H1/\t σ H1 λvs H2=>r x vs H2 Q):=by
 intro pins s σ H Q I h
 refine wpAny_Call_method_late hbase hfew hline rfl (thn (ho pins s σ H _ I h) λv s1 ⟨x,H1,I1,r1,ty,q1⟩=>?_)
 obtain⟨h1,h2⟩:=hTY pins s1 σ H1 x v I1 r1 ty
 refine⟨T,id,pa,slot,hty,h1,h2,?_⟩
 have hA:=ha pos pins s1 σ H1 _ I1 q1
 rw [hs]at hA ⊢
 refine Calls.callWith_builtin (by show(false || (backTo pos (starEach es X.env)).any (·.1))=false;rw [hplain]<;>rfl) (Calls.evalArgs_plain ?_)
 exact thn hA λus s2 ⟨vs,H2,I2,r2,q2⟩=>hm pins s2 σ H2 x vs v us Q I2 r1 r2 q2
def TyD(X:Cx)(x:V)(H:Hp):Prop:= ∃d xs,x=.ref d/\DD X H d xs
theorem zUV:zJF X "dict" (TyD X):=by
 intro pins s σ H x v I rx ⟨d,xs,e,dd⟩
 subst e
 cases rx
 rcases dd with h|⟨rfl,h⟩
 ·obtain⟨⟨hz,hs,o,es,ep,ho,hc,_⟩,_⟩:=(show ObjOk X.prog X.w H s.heap d (DN X.prog X.w d xs)from I.hok d _ h)
  exact⟨⟨o,ho,hc.1⟩,λa e=>by cases e;exact⟨o,ho,hc.2.1⟩⟩
 ·obtain⟨_,hs,vs,kv,o,es,ep,ho,hc,_⟩:=(show ObjOk X.prog X.w H s.heap d (.dK [])from I.hok d _ h)
  exact⟨⟨o,ho,hc.1⟩,λa e=>by cases e;exact⟨o,ho,hc.2.1⟩⟩
end
section
variable{P:Program}{w:World}{KK:Type}[DecidableEq KK]{knd:HeapKind P w KK}{A:Around}{E:Value->Shared->Prop}{s:Shared}{d a:Addr}{k:KK}{xs:List (KK×Addr×Value)}
theorem yEB{v:Value}{Q:Value->Shared->Prop}(hu:knd.room A)(hkey:knd.is s.heap k a)(hm:s.heap.DictOfH knd d xs)
  (h1: ∀p,atKey xs k=some p->Q p.2 {s with toks:=s.toks+knd.draws k})
  (h2:atKey xs k=none-> ∀h',h'.DictOfH knd d (storedH xs k a v)->Heap.SameBut d s.heap h'->Q v {s with heap:=h',toks:=s.toks+knd.draws k}) (hsz:xs.length<=sizeLine):
  wpAny (model P w) A (dictSetDefault d (.ref a) v) Q E s:=by
 obtain⟨o,es,ep,ho,hc,hd,he,his,hn⟩:=hm
 unfold dictSetDefault
 try with_reducible refine wpAny_holding ?_
 refine wB0 (knd.pyHash hu hkey ?_)
 refine wB0 (wpAny_dictFind_heap (s:={s with toks:=s.toks+knd.draws k}) hu hkey ho hd he his hn ?_ ?_)
 ·intro hno
  have hnone:=atKey_none_of_get hno
  have hst:=storedH_new (v:=v) (a:=a) hnone
  refine wB0 (wpAny_rule (wB0 (wpAny_updateDictKeys (hz:=by have e:=size_of_entries he;omega) (s:={s with toks:=s.toks+knd.draws k}) ho hd (wP0 (h2 hnone _ ⟨_,_,ep+1,Heap.get?_update_self _ ho (Obj.isFreed_of_dict (Obj.data_mapDictKeys hd _)),
   hc.mapDictKeys _,Obj.data_mapDictKeys hd _,?_,?_,?_⟩ (Heap.SameBut.update ..))))))
  ·rw [hst]
   simp [he,entryOfKey]
  ·rw [hst]
   intro x hx
   rcases mem_append.mp hx with hx|hx
   ·exact knd.keeps (his x hx) ho hd (Heap.SameBut.update ..)
   ·rw [mS.mp hx]
    exact knd.keeps hkey ho hd (Heap.SameBut.update ..)
  ·rw [hst,map_append,nodup_append]
   refine⟨hn,by simp,λx hx y hy=>?_⟩
   rw [mS.mp hy]
   rintro rfl
   exact not_mem_keys_of_get hno hx
 ·intro j p hj
  refine wB0 (wpAny_dictEntries (s:={s with toks:=s.toks+knd.draws k}) ho hd ?_)
  rw [entry_at he j,hj]
  exact wB0 (wpAny_rule (wP0 (h1 _ (atKey_of_get hn hj))))
end
section
variable{X:Cx}{W:XW}{o e:Expr}{es:List Expr}{f:Rho->Sto->R Er}{af:Rho->Sto->R (List Er)}{apos pos:Pos}
theorem yCD{α:List Addr}{H:Hp}: ∀{kvs:List (MV×MV)}{xs:List (NK×Addr×Value)}{k dd:MV}{nk:NK},DenN X.K α H kvs xs->wL k=some nk->look kvs k=some dd-> ∃a u v,atKey xs nk=some (a,u)/\Den X.K α H dd v/\RelV v u
 |_,_,k,dd,nk,.nil,hk,h=>by cases h
 |_,_,k,dd,nk,.cons (k:=k') (nk:=nk') (a:=a) (d:=d') (v:=v) (u:=u) hk' e ha hd r l,hk,h=>by
  rw [zDG]at h
  by_cases c:k'=k
  ·subst c
   have:nk'=nk:=by rw [hk]at hk';exact(Option.some.inj hk').symm
   rw [iP rfl]at h
   cases h
   exact⟨a,u,v,by rw [zJE,iP this],hd,r⟩
  ·have hn:nk'≠nk:=λz=>c (zLA hk' (by rw [hk,z]))
   rw [iN0 c]at h
   obtain⟨a2,u2,v2,h1,h2,h3⟩:=yCD l hk h
   exact⟨a2,u2,v2,by rw [zJE,iN0 hn];exact h1,h2,h3⟩
def rSD(X:Cx):V->List V->Hp->VK->Prop:=λx vs H Q=> ∃(α:List Addr)(kvs:List (MV×MV))(xs:List (NK×Addr×Value))(a d:Addr)(k:MV)(nk:NK)(y:V),x=.ref d/\vs=[.ref a,y]/\DD X H d xs/\DenN X.K α H kvs xs/\wL k=some nk/\dM nk<=4/\Den X.K α H k (.ref a)/\xs.length<sizeLine/\
 (∀dd v,look kvs k=some dd->Den X.K α H dd v->Q v H)/\(look kvs k=none-> ∀u,RelV y u->Q y (upd H d (DN X.prog X.w d (storedH xs nk a u))))
theorem mt_sd(hu:X.A.units+64<cLine):MtR X "dict.setdefault" (rSD X):=by
 intro pins s σ H x vs v us Q I rx rv h
 obtain⟨α,kvs,xs,a,d,k,nk,y,rfl,rfl,dd,l,hk,e,ha,hz,q1,q2⟩:=h
 obtain⟨u1,u2,rfl,r1,r2⟩:=vals2 rv
 cases rx;cases r1
 obtain⟨hm,hz',hs⟩:=zOG I dd l
 have hT:s.TypeIs (.ref d) "dict":=(zUV pins s σ H (.ref d) (.ref d) I rfl ⟨d,xs,rfl,dd⟩).1
 have hl:=zOH l hk
 refine wpAny_call_entry PySem.F.slot_dict_setdefault hT PySem.F.entry_dict_setdefault ?_ (PySem.F.args_dict_setdefault_3 _ _ _)
 unfold Builtin.«dict.setdefault»
 refine wB0 ?_
 unfold Builtin.Dict.keyAndDefault
 refine wB0 (wpAny_notOrdered_dict hT ?_)
 show wpAny _ _ (pure (d,Value.ref a,some u2)) _ _ s
 refine wP0 ?_
 show wpAny _ _ (if(d==sysModules)=true then _ else(dictSetDefault d (.ref a) u2 >>= _)) _ _ s
 rw [iN0 (by rw [hs];exact xF0)]
 refine wB0 (yEB (knd:=zCZ X.prog X.w) (show X.A.units+1+4<cLine by omega) ⟨zPV I hk ha rfl,e⟩ hm (λp hp=>?_) (λhn h' hm' hs'=>?_) hz')
 ·rw [hp]at hl
  obtain⟨d',hd'⟩:=Option.isSome_iff_exists.mp (show(look kvs k).isSome=true from hl.symm)
  obtain⟨a2,u3,v3,g1,g2,g3⟩:=yCD l hk hd'
  rw [hp]at g1
  cases g1
  exact wP0 ⟨_,rfl,v3,H,I.kept (t':=_) (λ_ _ z=>z),g3,q1 d' v3 hd' g2⟩
 ·rw [hn]at hl
  have hln:look kvs k=none:=by
   cases z:look kvs k with
   |none=>rfl
   |some _=>rw [z]at hl;cases hl
  have mu:Mut (H d):=by
   rcases dd with z|⟨_,z⟩<;>rw [z]<;>exact trivial
  obtain⟨ob,es,ep,ho,hc,hd,he,_,hnd⟩:=hm'
  refine wP0 ⟨_,rfl,y,_,I.write (t':=_) (x:=d) (e:=d) (o:=DN X.prog X.w d (storedH xs nk a u2)) mu (.inl rfl) (λb uo hb eo=>(hs'.2 b hb).trans eo) ⟨ob,ho⟩ ?_,r2,q2 hln u2 r2⟩
  refine⟨⟨by have:=zPY (xs:=xs) (k:=nk) (a:=a) (u:=u2);omega,hs,ob,es,ep,ho,hc,hd,he,hnd⟩,⟨ob,ho⟩,?_⟩
  rintro h1 h2 ⟨z1,z2,o',es',ep',ho',r⟩ mv
  exact⟨z1,z2,o',es',ep',mv o' ho',r⟩
noncomputable def sd1(p:Er)(k y:MV)(S1:Sto):R Er:=match zGG S1 p with
 |some (l,kvs)=>if keyOk k=true/\kvs.length<1000000 then match look kvs k with
  |some d=>.ok (.val d) S1
  |none=>.ok (.val y) (S1.set l (.dic (zUQ kvs k y)))
  else .no
 |none=>.no
noncomputable def sdF(p:Er)(rs:List Er)(S:Sto):R Er:=match rs with
 |[.val k,r]=>(hZ r S).bind λy S1=>sd1 p k y S1
 |_=>.no
noncomputable def yCE(p:Er)(S:Sto):Bool:=(zGG S p).isSome
theorem mm_sd:MtdM X W (rSD X) sdF:=by
 intro p rs x vs α S H0 H Q α0 wd x0 dp da post
 match rs,da,post with
 |[],_,post=>exact post.elim
 |[.val _],_,post=>exact post.elim
 |.new _::_,_,post=>exact post.elim
 |.val _::_::_::_,_,post=>exact post.elim
 |[.val k,r],da,post=>
  cases da with
  |cons dk n1 l1=>
   cases l1 with
   |cons d n2 l2=>
    cases l2
    obtain⟨d',S',α',e',x',y',w',dd⟩:=nE wd x0 d
    have post:Post X.g W α0 H0 ((hZ r S).bind λy S1=>sd1 p k y S1) Q:=post
    rw [e']at post
    have post:Post X.g W α0 H0 (sd1 p k d' S') Q:=post
    unfold sd1 at post
    split at post
    ·rename_i l kvs ed
     split at post
     ·rename_i hk
      have dp':DenX X.K α' H p x:=by
       cases p with
       |val m=>exact Den.ex0 y' dp
       |new ds=>cases ed
      obtain⟨nk,h1,h2,h3⟩:=zPW hk.1
      obtain⟨c,xs,rfl,hc,hS,DDx,dl⟩:=zPX w' ed dp'
      have dk':Den X.K α' H k _:=Den.ex0 y' dk.1
      obtain⟨a',rfl⟩:=zUS (X:=X) (α:=α') (H:=H) h3 dk'
      refine⟨α',kvs,xs,a',c,k,nk,_,rfl,rfl,DDx,dl,h1,h2,dk',?_,λd2 v2 e2 g2=>?_,λe2 u ru=>?_⟩
      ·rw [dl.length]
       exact lt_of_lt_of_le hk.2 (fits (le_refl _))
      ·rw [e2]at post
       exact(Post.shift x' post).val w' g2
      ·rw [e2]at post
       have xw:=w'.writex hc (o:=DN X.prog X.w c (storedH xs nk a' u))
       exact(Post.shift (x'.trans xw) post).val (w'.write hc (.inr ⟨_,xF,(yBY dl h1 h2 dk' dd ru).ex0 xw.toEx0⟩)) (dd.ext xw)
     ·exact post.elim
    ·exact post.elim
theorem pm_sd(hu:X.A.units+64<cLine)(ho:PEm X W o f)(ha:PAm X W (e::es) af)
  (hbase:attributeBase o "setdefault" X.env (eval o X.env)=eval o X.env:=by rfl)
  (hfew:((backTo pos (starEach (e::es) X.env)).all (λx=>!x.1)&&(backToKw pos (keywordEach [] X.env)).all (λx=>x.1.isSome)
   &&decide ((e::es).length+([]:List Keyword).length+(if([]:List Keyword).isEmpty then 0 else 1)<30))=true:=by rfl)
  (hline:(apos.endLine==pos.line)=true:=by rfl) (hs:starEach (e::es) X.env=(false,eval e X.env)::starEach es X.env:=by rfl) (hplain:(backTo pos (starEach es X.env)).any (·.1)=false:=by rfl):
  PEm X W (.Call (.Attribute o "setdefault" apos) (e::es) [] pos) (λρ S=>(f ρ S).bind λp S1=>if yCE p S1=true then(af ρ S1).bind λrs S2=>sdF p rs S2 else .no):=by
 obtain⟨to,ho,fo⟩:=ho
 obtain⟨t,ha,k⟩:=ha
 refine⟨_,yPL zUV PySem.F.plainAttrs_dict PySem.F.slot_dict_setdefault PySem.F.type_dict_setdefault (mt_sd hu) ho ha hbase hfew hline hs hplain,λα ρ S σ H Q wd sl q=>fo α ρ S σ H _ wd sl (q.bind λu p S1 α1 H1 e1 x1 w1 d1 q1=>?_)⟩
 split at q1
 ·rename_i hz
  obtain⟨⟨l,kvs⟩,hz⟩:=Option.isSome_iff_exists.mp hz
  obtain⟨c,xs,rfl,_,_,dd,_⟩:=zPX w1 hz d1.1
  exact⟨⟨c,xs,rfl,dd⟩,k α1 ρ S1 σ H1 _ w1 (sl.ext x1) ((q1.shift x1).bind λvs rs S2 α2 H2 e2 x2 w2 d2 q2=>mm_sd p rs _ vs α2 S2 H1 H2 Q α1 w2 x2 (d1.1.ext x2) d2 q2)⟩
 ·exact q1.elim
end
def VAt(d:Addr)(us:List Value)(ep:Nat)(h:Heap):Prop:= ∃o es,h.get? d=some o/\o.ExactDict/\o.data=.dict es ep/\es.toList.map (·.val)=us
theorem VAt.at{d:Addr}{us:List Value}{ep:Nat}{h h':Heap}(x:VAt d us ep h)(m: ∀o,h.get? d=some o->h'.get? d=some o):VAt d us ep h':=let ⟨o,es,ho,r⟩:=x;⟨o,es,m o ho,r⟩
theorem VAt.size{d:Addr}{us:List Value}{ep:Nat}{h:Heap}(x:VAt d us ep h): ∃o es,h.get? d=some o/\o.ExactDict/\o.data=.dict es ep/\es.size=us.length/\ ∀i (hi:i<es.size),us[i]? =some es[i].val:=by
 obtain⟨o,es,ho,hc,hd,e⟩:=x
 refine⟨o,es,ho,hc,hd,by rw [<-e,lM0,Array.length_toList],λi hi=>?_⟩
 rw [<-e,getElem?_map,Array.getElem?_toList,Array.getElem?_eq_getElem hi]
 rfl
section
variable{P:Program}{w:World}{A:Around}{E:Value->Shared->Prop}{s:Shared}{d v it:Addr}{us:List Value}{ep i:Nat}
theorem yEC{Q:Value->Shared->Prop}(hv:s.heap.IsValuesView v d)(hm:VAt d us ep s.heap)
  (hQ:Q (.ref s.heap.objs.size) {s with heap:=s.heap.push {cls:=.type "dict_valueiterator",data:=.fields #[.ref d,.int 0 0,.int us.length 0,.int ep 0]}}):wpAny (model P w) A (pyIter (.ref v)) Q E s:=by
 obtain⟨ov,hov,hcv,hdv⟩:=id hv
 obtain⟨o,es,ho,hc,hdat,hsz,_⟩:=hm.size
 refine wpAny_pyIter_slot hv.typeIs PySem.F.slot_dict_values_iter (wpAny_call_entry PySem.F.slot_dict_values_iter hv.typeIs PySem.F.entry_dict_values_iter ?_ (PySem.F.args_dict_values_iter_1 _))
 unfold Builtin.«dict_values.__iter__»
 refine wB0 (wP0 (wB0 ?_))
 unfold Builtin.Dict_items.dictOf
 refine wB0 (wpAny_field hov hdv (x:=.ref d) rfl (wP0 (wB0 ?_)))
 unfold Builtin.Dict_items.newIterator
 refine wB0 (wpAny_dictEntries ho hdat (wB0 (wpAny_dictEpoch ho hdat ?_)))
 have hown:Builtin.Dict_items.ownsTuple "dict_valueiterator"=false:=by decide
 simp only [hown,fT,iF]
 refine wpAny_newObj_type (wP0 ⟨_,rfl,"dict_valueiterator",_,⟨_,Heap.get?_push_size _ rfl,rfl⟩,PySem.F.slot_dict_valueiterator_next.lookup,?_⟩)
 simpa [rawInt,hsz]using hQ
theorem yHJ{x:Value}{Q:Option Value->Shared->Prop}(hit:s.heap.IsValIter it d i us.length ep)(hm:VAt d us ep s.heap)(hx:us[i]? =some x)
  (hQ: ∀h',h'.IsValIter it d (i+1) us.length ep->Heap.SameBut it s.heap h'->Q (some x) {s with heap:=h'}):wpAny (model P w) A (pyNext (.ref it)) Q E s:=by
 obtain⟨o,ho,hc,hd⟩:=id hit
 obtain⟨od,es,hod,hcd,hdd,hsz,hval⟩:=hm.size
 have hlt:i<us.length:=(gS0.mp hx).1
 have hlt':i<es.size:=by rw [hsz];exact hlt
 have hv:es[i].val=x:=by have:=hval i hlt';rw [hx]at this;exact(Option.some.inj this).symm
 unfold pyNext
 refine wB0 (wpAny_attempt (wpAny_callSpecial?_slot (name:=Str.ofString "__next__") hit.typeIs PySem.F.slot_dict_valueiterator_next (wpAny_call_entry PySem.F.slot_dict_valueiterator_next hit.typeIs PySem.F.entry_dict_valueiterator_next ?_ (PySem.F.args_dict_valueiterator_next_1 _))))
 refine wB0 (wP0 (wB0 (wB0 ?_)))
 first |refine wB0 (wpAny_typeNameOfWhole_valiter hit.typeIs (wP0 ?_))|refine wB0 (wpAny_typeNameOf_valiter hit.typeIs (wP0 ?_))
 refine wB0 (wpAny_fieldsOf ho hd ?_)
 have hown:Builtin.Dict_items.ownsTuple "dict_valueiterator"=false:=by decide
 simp only [hown,fT,iF]
 show wpAny _ _ (if(Value.ref d==Value.none)=true then _ else _) _ _ s
 rw [iN0 (show¬((Value.ref d==Value.none)=true)from xF0)]
 refine wB0 (wP0 (wB0 (wpAny_dictEntries hod hdd ?_)))
 rw [iN0 (by rw [hsz];simp)]
 refine wB0 (wP0 (wB0 (wpAny_dictEpoch hod hdd ?_)))
 rw [iN0 (by simp)]
 refine wP0 ?_
 simp only [show¬((i:Int)<0)from by omega,iF,toNat_natCast,Array.getElem?_eq_getElem hlt']
 refine wB0 ?_
 first |refine wB0 (wpAny_typeNameOfWhole_valiter hit.typeIs (wP0 ?_))|refine wB0 (wpAny_typeNameOf_valiter hit.typeIs (wP0 ?_))
 refine wB0 (wpAny_isOneOf_valiter hit.typeIs ?_)
 show wpAny _ _ (setField (.ref it) 1 (rawInt ((i:Int)+1)) >>= _) _ _ s
 refine wB0 (wpAny_setField ho hd (by simp) ?_)
 have hit':(s.heap.update it (Obj.mapFields (·.setIfInBounds 1 (rawInt ((i:Int)+1))))).IsValIter it d (i+1) us.length ep:=
  ⟨_,Heap.get?_update_self _ ho (Obj.isFreed_of_fields (Obj.data_mapFields hd _)),(Obj.cls_mapFields ..).trans hc,by rw [Obj.data_mapFields hd];simp [rawInt]⟩
 refine wB0 (wpAny_holding ?_)
 refine wB0 (wpAny_isOneOf_valiter (s:={s with heap:=s.heap.update it (Obj.mapFields (·.setIfInBounds 1 (rawInt ((i:Int)+1))))}) hit'.typeIs ?_)
 refine wB0 (wpAny_isOneOf_valiter (s:={s with heap:=s.heap.update it (Obj.mapFields (·.setIfInBounds 1 (rawInt ((i:Int)+1))))}) hit'.typeIs ?_)
 show wpAny _ _ (pure es[i].val) _ _ _
 exact wP0 (wP0 ⟨_,rfl,wP0 (hv▸hQ _ hit' (Heap.SameBut.update ..))⟩)
theorem yHK{Q:Option Value->Shared->Prop}(hh:A.handled=none)(hit:s.heap.IsValIter it d i us.length ep)(hm:VAt d us ep s.heap)(hx:us.length<=i)
  (hQ: ∀h',Heap.ExtBut it s.heap h'->Q none {s with heap:=h'}):wpAny (model P w) A (pyNext (.ref it)) Q E s:=by
 obtain⟨o,ho,hc,hd⟩:=id hit
 obtain⟨od,es,hod,hcd,hdd,hsz,hval⟩:=hm.size
 have hge:es.size<=i:=by rw [hsz];exact hx
 unfold pyNext
 refine wB0 (wpAny_attempt (wpAny_callSpecial?_slot (name:=Str.ofString "__next__") hit.typeIs PySem.F.slot_dict_valueiterator_next (wpAny_call_entry PySem.F.slot_dict_valueiterator_next hit.typeIs PySem.F.entry_dict_valueiterator_next ?_ (PySem.F.args_dict_valueiterator_next_1 _))))
 refine wB0 (wP0 (wB0 (wB0 ?_)))
 first |refine wB0 (wpAny_typeNameOfWhole_valiter hit.typeIs (wP0 ?_))|refine wB0 (wpAny_typeNameOf_valiter hit.typeIs (wP0 ?_))
 refine wB0 (wpAny_fieldsOf ho hd ?_)
 have hown:Builtin.Dict_items.ownsTuple "dict_valueiterator"=false:=by decide
 simp only [hown,fT,iF]
 show wpAny _ _ (if(Value.ref d==Value.none)=true then _ else _) _ _ s
 rw [iN0 (show¬((Value.ref d==Value.none)=true)from xF0)]
 refine wB0 (wP0 (wB0 (wpAny_dictEntries hod hdd ?_)))
 rw [iN0 (by rw [hsz];simp)]
 refine wB0 (wP0 (wB0 (wpAny_dictEpoch hod hdd ?_)))
 rw [iN0 (by simp)]
 refine wP0 ?_
 simp only [show¬((i:Int)<0)from by omega,iF,toNat_natCast,Array.getElem?_eq_none hge]
 refine wB0 ?_
 first |refine wB0 (wpAny_typeNameOfWhole_valiter hit.typeIs (wP0 ?_))|refine wB0 (wpAny_typeNameOf_valiter hit.typeIs (wP0 ?_))
 show wpAny _ _ (setField (.ref it) 0 .none >>= _) _ _ s
 refine wB0 (wpAny_setField ho hd (by simp) ?_)
 show wpAny _ _ (newExc (.type "StopIteration") [] >>= _) _ _ _
 refine wB0 ?_
 simp only [newExc,newTuple]
 refine wB0 (wpAny_newObj_type ?_ (by size_fits))
 refine wB0 (m:=firstArgMember _ _) (wpAny_of_eq (a:=Value.none) (by first |rfl|(simp only [firstArgMember];rfl)) ?_)
 refine wpAny_newObj_type ?_ (by size_fits)
 simp only [raiseNew]
 refine wB0 (wpAny_handled ?_)
 rw [show A.in1.handled=none from hh]
 refine wB0 (wP0 (wpAny_throw ?_))
 refine wB0 (wpAny_isInstance (T:="StopIteration") (b:=true) ⟨_,Heap.get?_push_size _ rfl,rfl⟩ isSubtype_stop ?_)
 exact wP0 (hQ _ (((Heap.SameBut.update ..).extBut.push _).push _))
theorem yED(hh:A.handled=none)(I:Addr)(hne:d≠I)(us:List Value)(ep:Nat):Walks P w A I [I,d] [I] us.length (λi x=>us[i]? =some x) (λi h=>h.IsValIter I d i us.length ep/\VAt d us ep h) where
 sub:=λb hb=>by simp at hb;simp [hb]
 frame:=λ_ _ _ st hk=>⟨st.1.at λo e=>hk I (by simp) o e,st.2.at λo e=>hk d (by simp) o e⟩
 item:=λi s Q E hi st hQ=>by
  have hx:us[i]? =some us[i]:=gE0 hi
  refine yHJ st.1 st.2 hx λh' hit' hs'=>?_
  exact hQ _ h' s.toks hx ⟨hit',st.2.at λo e=>hs'.extBut d o hne e⟩ λb o hb e=>hs'.extBut b o (λh=>hb (by simp [h])) e
 done:=λs Q E st hQ=>yHK hh st.1 st.2 (le_refl _) λh' he'=>hQ h' s.toks λb o hb e=>he' b o (λh=>hb (by simp [h])) e
 self:=λ_ _ _ _ st hQ=>wpAny_pyIter_valiter st.1 hQ
theorem yHL(us:List Value)(ep:Nat):PySem.W.KdlSrc P w "dict_values" v d us.length (λi x=>us[i]? =some x) (λh=>h.IsValuesView v d/\VAt d us ep h) where
 type:=λ_ hm=>hm.1.typeIs
 there:=λ_ hm=>⟨let ⟨_,ho,_⟩:=hm.1;Heap.lt_size ho,let ⟨_,_,ho,_⟩:=hm.2;Heap.lt_size ho⟩
 keep:=λ_ _ hm hk=>⟨let ⟨o,ho,x⟩:=hm.1;⟨o,hk v (.inl rfl) o ho,x⟩,hm.2.at λo e=>hk d (.inr rfl) o e⟩
 notList:=by decide
 notTuple:=by decide
 hint:=λ_ _ _ _ hm hq=>PySem.W.kdl_hint_values hm.1.typeIs hq
 iter:=λ_ _ hh hm=>⟨_,_,(λ_ _ hq=>yEC hm.1 hm.2 hq),yED hh _ (ne_of_lt (let ⟨_,_,ho,_⟩:=hm.2;Heap.lt_size ho)) us ep,⟨⟨_,Heap.get?_push_size _ rfl,rfl,rfl⟩,hm.2.at λo e=>hP0 _ e⟩⟩
end
section
variable{X:Cx}{W:XW}{o:Expr}{f:Rho->Sto->R Er}{apos pos pos2 p2:Pos}{to:TE}{T:String}{name:Str}{id:String}{r:V->List V->Hp->VK->Prop}
theorem yLD{TY:V->Hp->Prop}(hTY:zJF X T TY)(pa:PlainAttrs T)(slot:Slot T name id)(hty:typeOf (.builtin id)=pure (.type "method_descriptor"))(hm:MtR X id r)(ho:PE X o to)
  (hbase:attributeBase o name X.env (eval o X.env)=eval o X.env) (hline:(apos.endLine==pos.line)=true):PE X (.Call (.Attribute o name apos) [] [] pos) (λσ H Q=>to σ H λx H1=>TY x H1/\r x [] H1 Q):=by
 intro pins s σ H Q I h
 refine wpAny_Call_method0_late hbase hline (thn (ho pins s σ H _ I h) λv s1 ⟨x,H1,I1,r1,ty,q1⟩=>?_)
 obtain⟨h1,h2⟩:=hTY pins s1 σ H1 x v I1 r1 ty
 exact⟨T,id,pa,slot,hty,h1,h2,Calls.callWith_builtin rfl (PySem.evalArgs_none (hm pins s1 σ H1 x [] v [] Q I1 r1 .nil q1))⟩
def zSY(l d:Addr):HO:=.ext λh=>h.IsValuesView l d
theorem yEE:MtR X "dict.values" (λx vs H Q=> ∃d xs,x=.ref d/\vs=[]/\DD X H d xs/\ ∀l,H l=none->Q (.ref l) (upd H l (zSY l d))):=by
 intro pins s σ H x vs v us Q I rx rv h
 obtain⟨d,xs,rfl,rfl,dd,q⟩:=h
 cases rx
 have:=rv.zero
 subst this
 have hT:s.TypeIs (.ref d) "dict":=(zUV pins s σ H (.ref d) (.ref d) I rfl ⟨d,xs,rfl,dd⟩).1
 have hs:(d==sysModules)=false:=by
  rcases dd with h|⟨rfl,h⟩
  ·obtain⟨⟨hz,hs,_⟩,_⟩:=(show ObjOk X.prog X.w H s.heap d (DN X.prog X.w d xs)from I.hok d _ h)
   exact hs
  ·obtain⟨_,hs,_⟩:=(show ObjOk X.prog X.w H s.heap d (.dK [])from I.hok d _ h)
   exact hs
 refine wpAny_call_entry PySem.F.slot_dict_values hT PySem.F.entry_dict_values ?_ (PySem.F.args_dict_values_1 _)
 refine wB0 ?_
 unfold Builtin.Dict.noArgs
 refine wB0 (wpAny_notOrdered_dict hT ?_)
 show wpAny _ _ (pure d) _ _ s
 refine wP0 ?_
 show wpAny _ _ (Builtin.Dict.showsAll d >>= _) _ _ s
 unfold Builtin.Dict.showsAll
 rw [iN0 (by rw [hs];exact xF0)]
 refine wB0 (wP0 ?_)
 refine wB0 (wpAny_newObj_type (wP0 ⟨_,rfl,.ref s.heap.objs.size,_,I.laid (o:=zSY s.heap.objs.size d) (t':=s.toks) (λb o e=>hP0 _ e) (le_refl _) ⟨⟨_,Heap.get?_push_size _ rfl,rfl,rfl⟩,⟨_,Heap.get?_push_size _ rfl⟩,?_⟩,rfl,q _ (I.hok.fresh (le_refl _))⟩))
 rintro h1 h2 ⟨o,ho,r⟩ mv
 exact⟨o,mv o ho,r⟩
theorem yCF{α:List Addr}{H:Hp}: ∀{kvs:List (MV×MV)}{xs:List (NK×Addr×Value)},DenN X.K α H kvs xs-> ∃ys,DenL X.K α H (kvs.map (·.2)) ys/\Vals ys (xs.map (·.2.2))
 |_,_,.nil=>⟨[],xG,.nil⟩
 |_,_,.cons hk e a d r l=>by
  obtain⟨ys,h1,h2⟩:=yCF l
  exact⟨_::ys,yX d h1,.cons r h2⟩
theorem zZU:CallR X (.type "list") (λxs H Q=> ∃l d zs α kvs,xs=[.ref l]/\H l=some (zSY l d)/\DD X H d zs/\DenN X.K α H kvs zs/\X.calm=true/\ ∀p ys,H p=none->DenL X.K α H (kvs.map (·.2)) ys->Q (.ref p) (upd H p (.lst ys))):=by
 intro pins s σ H xs us Q I r h
 obtain⟨l,d,zs,α,kvs,rfl,hl,dd,dn,hc,q⟩:=h
 obtain⟨u,rfl,rx⟩:=vals1 r
 cases rx
 obtain⟨hv,_⟩:=(show ObjOk X.prog X.w H s.heap l (zSY l d)from I.hok l _ hl)
 obtain⟨⟨o,es,ep,ho,hcc,hd,he,_,_⟩,hz,_⟩:=zOG I dd dn
 have va:VAt d (zs.map (·.2.2)) ep s.heap:=⟨o,es,ho,hcc,hd,by rw [he,map_map];rfl⟩
 obtain⟨ys,h1,h2⟩:=yCF dn
 refine PySem.W.kdl_call (yHL (P:=X.prog) (w:=X.w) (v:=l) (d:=d) (zs.map (·.2.2)) ep) (I.ok.hd hc) ⟨hv,va⟩ (by rw [lM0];exact hz) λh' tk acc c' hk hS hacc=>?_
 have ea:acc.toList=zs.map (·.2.2):=by
  refine ext_getElem? λj=>?_
  by_cases hj:j<acc.size
  ·have h3:acc[j]? =some acc[j]:=Array.getElem?_eq_getElem hj
   rw [Array.getElem?_toList,h3]
   exact(hacc.2 j _ h3).symm
  ·have h3:(zs.map (·.2.2)).length<=j:=by have:=hacc.1;omega
   rw [Array.getElem?_toList,Array.getElem?_eq_none (by omega),List.getElem?_eq_none h3]
 refine⟨.ref s.heap.objs.size,_,I.laid (t':=tk) hk (le_refl _) (show ObjOk X.prog X.w _ h' _ (.lst ys)from⟨?_,acc.toList,c',by rw [ea];exact h2,?_⟩),rfl,q _ ys (I.hok.fresh (le_refl _)) h1⟩
 ·have e1:=h2.length
  rw [lM0]at e1
  omega
 ·rw [Array.toArray_toList]
  exact hS
noncomputable def lvF(p:Er)(S:Sto):R Er:=match zGG S p with
 |some (_,kvs)=>.ok (.new (kvs.map (·.2))) S
 |none=>.no
theorem yHM(hc:X.calm=true)(hg:Gl X "list")(hm:X.mg "list"=none)(ho:PEm X W o f)
  (hbase:attributeBase o "values" X.env (eval o X.env)=eval o X.env:=by rfl) (hline:(apos.endLine==pos2.line)=true:=by rfl)
  (he1:starEach [.Call (.Attribute o "values" apos) [] [] pos2] X.env=(false,eval (.Call (.Attribute o "values" apos) [] [] pos2) X.env)::starEach [] X.env:=by rfl) (hpl1:(backTo pos (starEach [] X.env)).any (·.1)=false:=by rfl):
  PEm X W (.Call (.Name "list" p2) [.Call (.Attribute o "values" apos) [] [] pos2] [] pos) (λρ S=>(f ρ S).bind lvF):=by
 obtain⟨t,ho,k⟩:=ho
 refine⟨_,zMD zZU hg hm yBT (zDM (yLD zUV PySem.F.plainAttrs_dict PySem.F.slot_dict_values PySem.F.type_dict_values yEE ho hbase hline) zOU he1) (by decide) (by decide) he1 hpl1,λα ρ S σ H Q wd sl q=>k α ρ S σ H _ wd sl (q.bind λu p S1 α1 H1 e1 x1 w1 d1 q1=>?_)⟩
 replace q1:=q1.shift x1
 unfold lvF at q1
 split at q1
 ·rename_i l kvs ed
  obtain⟨c,xs,rfl,_,_,dd,dl⟩:=zPX w1 ed d1.1
  refine⟨⟨c,xs,rfl,dd⟩,c,xs,rfl,rfl,dd,λv hv=>?_⟩
  have xn:=w1.newx (o:=zSY v c) hv
  have wn:=w1.new (o:=zSY v c) hv
  refine⟨v,c,xs,α1,kvs,rfl,xF,?_,dl.ex0 xn.toEx0,hc,λp ys hp hy=>(q1.shift xn).newl wn hp hy⟩
  rcases dd with h|⟨e,h⟩
  ·exact .inl (by rw [yA (yC h hv)];exact h)
  ·exact .inr ⟨e,by rw [yA (yC h hv)];exact h⟩
 ·exact q1.elim
end
section
variable{X:Cx}{W:XW}{a b:Expr}{f g:Rho->Sto->R Er}{pos:Pos}
def zZV(neg:Bool)(p q:Er)(S:Sto):R Er:=match p,q with
 |.val (.bl x),.val (.bl y)=>.ok (.val (.bl (if neg=true then !(x==y)else x==y))) S
 |_,_=>.no
abbrev rIsB(neg:Bool):R2:=λx y H Q=> ∃c d,x=.bl c/\y=.bl d/\Q (.bl (if neg=true then !(c==d)else c==d)) H
theorem yHN(c d:Bool):(Value.bool c==Value.bool d)=(c==d):=by cases c<;>cases d<;>rfl
theorem yPM:OpR X (compareOp .Is) (rIsB false):=by
 intro pins s σ H x y v u Q I rx ry h
 obtain⟨c,d,rfl,rfl,q⟩:=h
 cases rx;cases ry
 refine wpAny_is_plain rfl ⟨.bl (c==d),H,I,?_,q⟩
 rw [yHN];rfl
theorem yLE{neg:Bool}:Op2 X W (rIsB neg) (zZV neg):=by
 intro p q x y α S H Q wd dp dq post
 unfold zZV at post
 split at post
 ·exact⟨_,_,zFW dp,zFW dq,Post.val post wd (wD _)⟩
 ·exact post.elim
theorem yHO(ha:PEm X W a f)(hb:PEm X W b g):PEm X W (.Compare a [.Is] [b] pos) (λρ S=>(f ρ S).bind λp S1=>(g ρ S1).bind λq S2=>zZV false p q S2):=zUD yPM yLE ha hb
end
end M
end L2
namespace L2
open PySem PySem.Spec PyProof.Rows
abbrev BIG:Nat:=10 ^ 100
section
variable{X:Cx}{par:Str}{i:Nat}{pins:List (Addr×Obj)}{σ:St}{H:Hp}
def tJ(i:Nat):TE:=λσ H Q=> ∃n,σ[i]? =some (some (.int n))/\n.natAbs<BIG/\ ∀y:Str,Q (.str y) H
end
namespace M
structure XIn(K:PySem.W.Frag)(M C f:Addr):Prop where
 ex: ∃nm q N bs sn sub ab col dd k0 k1 k2 k3 k5,K.lookup C=some (excClassObj nm q C N bs (.ref M::bmV) true sn sub ab col dd k0 k1 k2 k3 k5 "ValueError.__new__")/\PySem.W.nsOkIn K N=true/\PySem.W.nsIn K N "__init__"=some (some (.ref f))/\ ∀n∈qn,PySem.W.nsIn K N n=some none
 fo: ∃o,K.lookup f=some o/\o.cls=.type "function"
theorem XIn.cl{K:PySem.W.Frag}{M C f:Addr}(x:XIn K M C f):XCl K C (.ref M::bmV) (some (.ref f)):=by
 obtain⟨nm,q,N,bs,sn,sub,ab,col,dd,k0,k1,k2,k3,k5,a,b,c,d⟩:=x.ex
 exact⟨nm,q,N,bs,true,sn,sub,ab,col,dd,k0,k1,k2,k3,k5,a,b,c,d,rfl⟩
structure DefM(K:PySem.W.Frag)(mg:Str->Option Value)(x:Str)(st:Stmt):Prop where
 ex: ∃f fd,mg x=some (.ref f)/\Fun K x x st f fd
theorem def_mk{K:PySem.W.Frag}{mg:Str->Option Value}{h:Heap}{x:Str}{st:Stmt}{g:Addr}{od an:Option Addr}{sl:Array (Option Value)}{oc kV dc pm cd ct:Value}(a:PySem.W.nsIn K mainGlobals x=some (some (.ref g)))
  (l:K.lookup g=some ⟨oc,od,.func (PySem.W.fnOf x x (zDN st) (jD st) (zH st) .none kV dc pm an cd ct),sl⟩) (c:PySem.W.codeIn K cd x=true) (k:PySem.W.keepIn K (.ref g)=true) (X:K.In h) (GG:h.Ns mainGlobals mg):DefM K mg x st:=⟨_,_,PySem.W.mg_of X GG a,yNV l c k⟩
structure Cal(P:Program)(w:World)(K:PySem.W.Frag)(mg:Str->Option Value)(base:Heap)(CX:CXT)(x:Str)(k:Nat)(ps:List Str)(sp:Sp):Prop where
 ex: ∃fa fd,FnOk P w K mg base CX k fa fd ps sp/\mg x=some (.ref fa)/\PySem.W.keepIn K (.ref fa)=true/\Binds K fd ps []
abbrev CalM(P:Program)(w:World)(K:PySem.W.Frag)(mg:Str->Option Value)(base:Heap)(x:Str)(k n:Nat)(ps:List Str)(F:List MV->Sto->R Er):Prop:=Cal P w K mg base CX0 x k ps (spM ⟨K,mg,P,w⟩ n F)
abbrev yHP(P:Program)(w:World)(K:PySem.W.Frag)(mg:Str->Option Value)(base:Heap)(x:Str)(k n:Nat)(ps:List Str)(F:List MV->Sto->R Er):Prop:=Cal P w K mg base (CXe P w) x k ps (spX ⟨K,mg,P,w⟩ n F)
section
variable{P:Program}{w:World}{K:PySem.W.Frag}{mg:Str->Option Value}{base:Heap}{x:Str}{st:Stmt}{N ps:List Str}{k n:Nat}{F:List MV->Sto->R Er}
abbrev zZW(x:Str)(st:Stmt)(ps:List Str):Prop:= ∀(kV doc pm:Value)(an:Option Addr)(cdv ct:Value)(us:List Value),us.length=ps.length->bindArgs (PySem.W.fnOf x x (zDN st) (jD st) (zH st) .none kV doc pm an cdv ct) ⟨us,[]⟩=pure (ps.zip us)
theorem okC(D:DefM K mg x st)(hb:zZW x st ps)(h: ∀f fd,Fun K x x st f fd->FnOk P w K mg base CX0 k f fd ps (spM ⟨K,mg,P,w⟩ n F)):CalM P w K mg base x k n ps F:=
 let ⟨f,fd,m,Fu⟩:=D.ex;⟨f,fd,h f fd Fu,m,Fu.kp,Fu.binds hb⟩
theorem okCX(D:DefM K mg x st)(hb:zZW x st ps)(h: ∀f fd,Fun K x x st f fd->FnOk P w K mg base (CXe P w) k f fd ps (spX ⟨K,mg,P,w⟩ n F)):yHP P w K mg base x k n ps F:=
 let ⟨f,fd,m,Fu⟩:=D.ex;⟨f,fd,h f fd Fu,m,Fu.kp,Fu.binds hb⟩
theorem Cal.noX(G:yHP P w K mg base x k n ps F):CalM P w K mg base x k n ps F:=let ⟨fa,fd,G,m,kp,b⟩:=G.ex;⟨fa,fd,G.noX,m,kp,b⟩
theorem yPN{l:PySem.W.OpenLaw}{fa:Addr}{p:Str}(D:DefM K mg x st)(hfa:mg x=some (.ref fa))(hb: ∀(kV doc pm:Value)(an:Option Addr)(cdv ct:Value)(s:Shared)(v:Value),BindsTo s (PySem.W.fnOf x x (zDN st) (jD st) (zH st) .none kV doc pm an cdv ct) ⟨[v],[]⟩ [(p,v)])
  (h: ∀base f fd,Fun K x x st f fd->FnOk l.prog w K mg base CX0 k f fd [p] (spM ⟨K,mg,l.prog,w⟩ 1 F)):
  ∃fd:FuncData,(∀(s:Shared)(v:Value),BindsTo s fd ⟨[v],[]⟩ [(p,v)])/\ ∀base:Heap,K.In base->base.Ns mainGlobals mg->FnOk l.prog w K mg base CX0 k fa fd [p] (zSV K F):=by
 obtain⟨f,fd,m,Fu⟩:=D.ex
 rw [hfa]at m
 cases m
 refine⟨fd,?_,λbase _ _=>(h base fa fd Fu).imp λvs H Q E=>yGS (g:=⟨K,mg,l.prog,w⟩) vs H Q E⟩
 obtain⟨_,_,_,_,_,_,_,_,_,rfl,_,_⟩:=Fu.ex
 exact hb _ _ _ _ _ _
end
section
variable{X:Cx}{W:XW}{E:XK}{e:Expr}{es:List Expr}{af:Rho->Sto->R (List Er)}{k n:Nat}{ps:List Str}{F:List MV->Sto->R Er}{x:Str}{p pos:Pos}
theorem zG(G:CalM X.prog X.w X.K X.mg X.base x k n ps F)(hr:Room k X.A)(hg:Gl X x)(ha:PAm X W (e::es) af)(hdb:(x==("__debug__":Str))=false:=by decide)
  (he:starEach (e::es) X.env=(false,eval e X.env)::starEach es X.env:=by rfl) (hpl:(backTo pos (starEach es X.env)).any (·.1)=false:=by rfl):PEm X W (.Call (.Name x p) (e::es) [] pos) (λρ S=>(af ρ S).bind λrs S1=>zP n F rs S1):=
 let ⟨_,_,G,m,kp,b⟩:=G.ex;yJW G hr hg m kp b ha hdb he hpl
theorem zSZ(hx:XOk X E)(G:yHP X.prog X.w X.K X.mg X.base x k n ps F)(hr:Room k X.A)(hg:Gl X x)(ha:PAm X (WE X.g E) (e::es) af)(hdb:(x==("__debug__":Str))=false:=by decide)
  (he:starEach (e::es) X.env=(false,eval e X.env)::starEach es X.env:=by rfl) (hpl:(backTo pos (starEach es X.env)).any (·.1)=false:=by rfl):PEm X (WE X.g E) (.Call (.Name x p) (e::es) [] pos) (λρ S=>(af ρ S).bind λrs S1=>gY n F rs S1):=
 let ⟨_,_,G,m,kp,b⟩:=G.ex;yHG hx G hr hg m kp b ha hdb he hpl
variable{M:Addr}{cs:List (Str×Addr)}{i j:Nat}{nm y:Str}{Fh:Rho->Sto->R Fl}{b0:Stmt}{suite:List Stmt}{mp hpos cpos epos pos':Pos}{ns:List Str}
end
end M
end L2
namespace L2
open PySem PySem.Spec PyProof.Rows
structure RoomH(k:Nat)(A:Around):Prop where
 dp:A.depth+3 * k+5<recursionLimit
 un:A.units+16 * k+200<cLine
theorem RoomH.mono{j k:Nat}{A:Around}(r:RoomH k A)(h:j<=k):RoomH j A:=⟨by have:=r.dp;omega,by have:=r.un;omega⟩
theorem RoomH.deeper{k:Nat}{A:Around}(r:RoomH (k+1) A)(env:Env):RoomH k (A.deeper env):=
 ⟨by have:=r.dp;show A.depth+1+3 * k+5<_;omega,by have:=r.un;show A.units+3+16 * k+200<_;omega⟩
theorem RoomH.depth{k:Nat}{A:Around}(r:RoomH k A):A.depth<recursionLimit:=by have:=r.dp;omega
theorem RoomH.units{k:Nat}{A:Around}(r:RoomH k A):A.units+64<cLine:=by have:=r.un;omega
theorem Room.inH{k:Nat}{A:Around}(r:Room k A)(v:Value):RoomH k (A.mark (some v)):=⟨r.dp,r.un⟩
structure FnOkH(P:Program)(w:World)(K:PySem.W.Frag)(mg:Str->Option Value)(base:Heap)(k:Nat)(f:Addr)(fd:FuncData)(ps:List Str)(sp:Sp):Prop where
 len: ∀vs H Q E,sp vs H Q E->vs.length=ps.length
 run: ∀(A:Around)(outer:List Env)(s:Shared)(H:Hp)(args:Args)(us:List Value)(vs:List V)(Q:VK)(E:XK),RoomH k A->Env0 P w K mg base A outer s H->BindsTo s fd args (ps.zip us)->Vals vs us->sp vs H Q E->
  codeAny (model P w) A (.call (.ref f) args) (CR CX0 outer P w H s Q E) s
def cxH(P:Program)(w:World)(K:PySem.W.Frag)(mg:Str->Option Value)(base:Heap)(N:List Str)(qual:Str)(scope:Scope)(f:Addr)(cd:Value)(A:Around)(outer:List Env)(s:Shared)(H:Hp):Cx:={zOV CX0 P w K mg base N qual scope f cd A outer s H E0 with calm:=false,xe:=λ_ _=>False}
section
variable{P:Program}{w:World}{K:PySem.W.Frag}{mg:Str->Option Value}{base:Heap}{k:Nat}{f:Addr}{qual:Str}{scope:Scope}{cdv:Value}{A:Around}{outer:List Env}{s s1:Shared}{H:Hp}{σ:St}{N ps:List Str}{sp:Sp}
theorem inv_H(fr:A.frames=some outer)(I:Inv (zOV CX0 P w K mg base N qual scope f cdv {A with handled:=none} outer s H E0) [] σ H s1):Inv (cxH P w K mg base N qual scope f cdv A outer s H) [] σ H s1:=
 ⟨⟨I.ok.mod,I.ok.kind,I.ok.glob,I.ok.blt,I.ok.above,I.ok.inj,I.ok.has,I.ok.cab,λz=>(by cases z),Around.frames_deeper fr,I.ok.stk,I.ok.exf,I.ok.bs,I.ok.bsz,I.ok.noex,I.ok.exfs,I.ok.funs,I.ok.frf⟩,I.os,I.bare,I.base,I.loc,I.cell,I.free,I.freeC,I.pin,I.hok,I.len⟩
theorem yPO{x:Str}{st:Stmt}{fd:FuncData}(Fu:Fun K x qual st f fd)(S:FnScope N ps (zH st))(len: ∀vs H Q E,sp vs H Q E->vs.length=ps.length)
  (hbody: ∀(cdv:Value)(A:Around)(outer:List Env)(s:Shared)(H:Hp)(vs:List V)(Q:VK)(E:XK),RoomH k (A.deeper (envOfC qual (zH st) s.heap.objs.size f cdv))->sp vs H Q E->
   ∃t,PSs (cxH P w K mg base N qual (zH st) f cdv A outer s H) (jD st) t/\t {nx:=λ_ H'=>Q .non H',rt:=Q} (start N vs) H):FnOkH P w K mg base (k+1) f fd ps sp:=by
 obtain⟨oc,od,kV,doc,pm,an,cdv,ct,osl,rfl,lk,hcd⟩:=Fu.ex
 refine⟨len,λA outer s H args us vs Q E hr e0 hb r hsp=>?_⟩
 have hl:=len _ _ _ _ hsp
 have KX:K.In s.heap:=e0.mod.kin.keeps λb o e=>(e0.bs b o e).1
 have lim:s.heap.NoLimit:=e0.mod.nolimit.keeps λb o e=>(e0.bs b o e).1
 have hkind: ∀y∈ps.zip us,(zH st).names.lookup y.1=some .local\/((zH st).names.lookup y.1=some .cell/\((cellsFrom (s.heap.objs.size+1) (zH st).names []).lookup y.1).isSome=true):=λ⟨n,v⟩ hy=>by
  rcases S.par n (of_mem_zip hy).1 with q|q
  ·exact .inl q
  ·exact .inr ⟨q,PySem.W.cellsFrom_some _ _ _ (.inl q)⟩
 refine codeAny_call_function hr.depth (KX _ _ lk) rfl S.co S.gen rfl (PySem.W.codeRec_of KX hcd) (hb _ _ _ _ ?_)
 refine wpAny_newFunctionEnv_cells S.kind hkind λenv he s1 x=>?_
 subst he
 refine⟨lim.keeps x.toInCall.keep,codeAny_func ?_⟩
 obtain⟨t,ht,hq⟩:=hbody cdv A outer s H vs Q E (hr.deeper _) hsp
 have e1:Env0 P w K mg base {A with handled:=none} outer s H:=⟨e0.frames,e0.mod,e0.bs,e0.bsz,e0.funs,e0.frf,e0.hok,e0.bare⟩
 have I:=inv_H e0.frames (zSM (CX:=CX0) (E:=E0) S rfl e1 hl r x)
 refine wpAny_mono (ht [] s1 (start N vs) H _ I hq) (λfl s' hs=>?_) λe s' hs=>hs.elim
 have fin: ∀{σ':St}{H':Hp}{v:V}{u:Value},Inv (cxH P w K mg base N qual (zH st) f cdv A outer s H) [] σ' H' s'->RelV v u->Q v H'->CE outer P w H s Q u s':=
  λ{σ' H' v u} J rv q=>⟨v,H',J.os,J.bare,J.base,J.hok,rv,q⟩
 cases fl with
 |ret u=>
  obtain⟨v,σ',H',J,rv,q⟩:=hs
  exact fin J rv q
 |next=>
  obtain⟨σ',H',J,q⟩:=hs
  exact fin (v:=V.non) (u:=Value.none) J rfl q
 |brk=>
  obtain⟨_,_,_,q⟩:=hs
  exact False.elim q
 |cont=>
  obtain⟨_,_,_,q⟩:=hs
  exact False.elim q
end
namespace M
section
variable{P:Program}{w:World}{K:PySem.W.Frag}{mg:Str->Option Value}{base:Heap}{x:Str}{st:Stmt}{N ps:List Str}{k n:Nat}{F:List MV->Sto->R Er}
structure CalH(P:Program)(w:World)(K:PySem.W.Frag)(mg:Str->Option Value)(base:Heap)(x:Str)(k n:Nat)(ps:List Str)(F:List MV->Sto->R Er):Prop where
 ex: ∃fa fd,FnOkH P w K mg base k fa fd ps (spM ⟨K,mg,P,w⟩ n F)/\mg x=some (.ref fa)/\PySem.W.keepIn K (.ref fa)=true/\Binds K fd ps []
theorem okH{f:Addr}{fd:FuncData}(Fb:Rho->Sto->R Fl)(Fu:Fun K x x st f fd)(Sc:FnScope N ps (zH st))
  (hbody: ∀(cdv:Value)(A:Around)(outer:List Env)(s:Shared)(H:Hp),RoomH k (A.deeper (envOfC x (zH st) s.heap.objs.size f cdv))->zMI (cxH P w K mg base N x (zH st) f cdv A outer s H) W0 (jD st) Fb):
  FnOkH P w K mg base (k+1) f fd ps (spM ⟨K,mg,P,w⟩ ps.length λds S=>yH (Fb (zN N ds) S)):=by
 refine yPO Fu Sc (λvs H Q E h=>?_) (λcdv A outer s H vs Q E hr h=>?_)
 ·obtain⟨α,S,ds,_,l,hl,_⟩:=h
  rw [l.length,hl]
 ·obtain⟨α,S,ds,wd,l,hl,q⟩:=h
  obtain⟨t,ht,kk⟩:=hbody cdv A outer s H hr
  refine⟨t,ht,kk α (zN N ds) S (start N vs) H _ wd (zFY l) ?_⟩
  dsimp only at q
  cases z:Fb (zN N ds) S with
  |ok fl S'=>
   rw [z]at q
   cases fl with
   |next ρ=>exact λσ α' H' x' w' s'=>q .non α' H' x' w' (DenE.val zBE)
   |ret r=>exact λv α' H' x' w' d'=>q v α' H' x' w' d'
   |brk ρ=>exact q.elim
   |cont ρ=>exact q.elim
  |exc c fs S'=>rw [z]at q;exact λα' H' x' w'=>(q α' H' x' w').elim
  |no=>rw [z]at q;exact q
theorem okCH(D:DefM K mg x st)(hb:zZW x st ps)(h: ∀f fd,Fun K x x st f fd->FnOkH P w K mg base k f fd ps (spM ⟨K,mg,P,w⟩ n F)):CalH P w K mg base x k n ps F:=
 let ⟨f,fd,m,Fu⟩:=D.ex;⟨f,fd,h f fd Fu,m,Fu.kp,Fu.binds hb⟩
end
section
variable{X:Cx}{W:XW}{e:Expr}{es:List Expr}{af:Rho->Sto->R (List Er)}{k n:Nat}{ps:List Str}{F:List MV->Sto->R Er}{x:Str}{p pos:Pos}
theorem zMQ(G:CalH X.prog X.w X.K X.mg X.base x k n ps F)(hr:RoomH k X.A)(hg:Gl X x)(ha:PAm X W (e::es) af)(hdb:(x==("__debug__":Str))=false:=by decide)
  (he:starEach (e::es) X.env=(false,eval e X.env)::starEach es X.env:=by rfl) (hpl:(backTo pos (starEach es X.env)).any (·.1)=false:=by rfl):PEm X W (.Call (.Name x p) (e::es) [] pos) (λρ S=>(af ρ S).bind λrs S1=>zP n F rs S1):=by
 obtain⟨fa,fd,G,m,kp,b⟩:=G.ex
 obtain⟨t,ha,kk⟩:=ha
 refine⟨λσ H Q=>t σ H λvs H1=>spM X.g n F vs H1 Q E0,λpins s σ H Q I h=>?_,λα ρ S σ H Q wd sl q=>kk α ρ S σ H _ wd sl (q.bind λvs rs S1 α1 H1 e1 x1 w1 d1 q1=>zST x1 w1 d1 q1)⟩
 refine wpAny_Call_Name_kw (zHW I hg m ?_ hdb)
 refine PySem.W.callWith_K (h₀:=X.base) I.ok.mod.kin kp (thn (ha pos pins s σ H _ I h) λus s1 ⟨vs,H1,I1,r,q⟩=>⟨I1.kIn,?_⟩) he hpl
 have hl:us.length=ps.length:=by rw [<-r.length];exact G.len _ _ _ _ q
 have hb:=b s1 us I1.kIn (by rw [aN];exact hl)
 rw [aN]at hb
 refine wpAny_call (codeAny_mono (G.run X.A X.stack s1 H1 ⟨us,[]⟩ us vs Q E0 hr I1.env0 hb r q) λr s' hq=>?_)
 cases r with
 |error y=>exact hq.elim
 |ok fl=>
  cases fl with
  |ret u=>exact I1.after hq
  |next=>exact False.elim hq
  |brk=>exact False.elim hq
  |cont=>exact False.elim hq
end
section
variable{X:Cx}{W:XW}{o e:Expr}{es:List Expr}{f:Rho->Sto->R Er}{af:Rho->Sto->R (List Er)}{apos pos:Pos}
def lit3F(kvs:List (MV×MV))(S:Sto):R Er:=.ok (.val (.loc S.length)) (S++[.dic kvs])
end
noncomputable section
variable{α β:Type}
def vJ(i:Nat)(ρ:Rho)(S:Sto):R Er:=rdSl (ρ[i]?) S
def kJ(d:MV)(_:Rho)(S:Sto):R Er:=.ok (.val d) S
def bJ(f:Rho->Sto->R α)(F:α->Sto->R β)(ρ:Rho)(S:Sto):R β:=(f ρ S).bind F
def dJ(F:Er->Er->Sto->R Er)(f g:Rho->Sto->R Er)(ρ:Rho)(S:Sto):R Er:=(f ρ S).bind λp S=>(g ρ S).bind λq S=>F p q S
def nJ(f:Rho->Sto->R Er)(ρ:Rho)(S:Sto):R Er:=(f ρ S).bind λp S=>(asB p S).bind λk S=>.ok (.val (.bl !k)) S
def aJ(f g:Rho->Sto->R Er)(ρ:Rho)(S:Sto):R Er:=(f ρ S).bind λp S=>zJD p S λS=>g ρ S
def oJ(f g:Rho->Sto->R Er)(ρ:Rho)(S:Sto):R Er:=(f ρ S).bind λp S=>orF p S λS=>g ρ S
def iJ(c:Rho->Sto->R Bool)(f g:Rho->Sto->R α)(ρ:Rho)(S:Sto):R α:=(c ρ S).bind λk S=>if k=true then f ρ S else g ρ S
def mJ(_:Rho)(S:Sto):R (Option Int):=.ok none S
def tJ(F:Er->Option Int->Option Int->Sto->R Er)(f:Rho->Sto->R Er)(g h:Rho->Sto->R (Option Int))(ρ:Rho)(S:Sto):R Er:=(f ρ S).bind λp S=>(g ρ S).bind λl S=>(h ρ S).bind λu S=>F p l u S
def lJ(k:List (MV×MV))(_:Rho)(S:Sto):R Er:=lit3F k S
def zJ(_:Rho)(S:Sto):R Er:=yBZ S
def fJ(n:Nat)(F:List MV->Sto->R Er)(a:Rho->Sto->R (List Er))(ρ:Rho)(S:Sto):R Er:=(a ρ S).bind λr S=>zP n F r S
def xJ(n:Nat)(F:List MV->Sto->R Er)(a:Rho->Sto->R (List Er))(ρ:Rho)(S:Sto):R Er:=(a ρ S).bind λr S=>gY n F r S
def hJ(F:List MV->Sto->R Er)(_:Rho)(S:Sto):R Er:=zP 0 F [] S
def eJ(t:Er->Sto->Bool)(F:Er->List Er->Sto->R Er)(f:Rho->Sto->R Er)(a:Rho->Sto->R (List Er))(ρ:Rho)(S:Sto):R Er:=(f ρ S).bind λp S=>if t p S=true then(a ρ S).bind λr S=>F p r S else .no
def gJ(t:Er->Sto->Bool)(F:Er->List Er->Sto->R Er)(f:Rho->Sto->R Er)(ρ:Rho)(S:Sto):R Er:=(f ρ S).bind λp S=>if t p S=true then F p [] S else .no
def uJ(_:Rho)(S:Sto):R Bool:=.ok true S
def pJ(i:Rho->Sto->R Wk)(g:MV->Rho->Sto->R Rho)(c:Rho->Sto->R Bool)(e:Rho->Sto->R Er)(n:Nat)(I:List Nat)(ρ:Rho)(S:Sto):R Er:=(i ρ S).bind λk S=>if k.ds.length<1000000 then(kD g c e (blk n I ρ) k.gs k.ds S).bind λo S=>.ok (.new o) S else .no
def jJ(F G:Er->Er->Sto->R Er)(f g h:Rho->Sto->R Er)(ρ:Rho)(S:Sto):R Er:=(f ρ S).bind λp S=>(g ρ S).bind λq S=>chF F G p q S λS=>h ρ S
def qJ(f:Rho->Sto->R Bool)(ρ:Rho)(S:Sto):R Bool:=(f ρ S).bind λk S=>.ok (!k) S
def rJ(f g:Rho->Sto->R Bool)(ρ:Rho)(S:Sto):R Bool:=(f ρ S).bind λk S=>if k=true then g ρ S else .ok false S
def sJ(f g:Rho->Sto->R Bool)(ρ:Rho)(S:Sto):R Bool:=(f ρ S).bind λk S=>if k=true then .ok true S else g ρ S
def wJ(_:Rho)(S:Sto):R (List Er):=.ok [] S
def yJ(f:Rho->Sto->R Er)(g:Rho->Sto->R (List Er))(ρ:Rho)(S:Sto):R (List Er):=(f ρ S).bind λp S=>(g ρ S).bind λl S=>.ok (p::l) S
def AJ(f:Rho->Sto->R Er)(ρ:Rho)(S:Sto):R Fl:=(f ρ S).bind λr S=>.ok (.ret r) S
def BJ(f:Rho->Sto->R Er)(ρ:Rho)(S:Sto):R Fl:=(f ρ S).bind λ_ S=>.ok (.next ρ) S
def CJ(f:Rho->Sto->R Er)(i:Nat)(ρ:Rho)(S:Sto):R Fl:=(f ρ S).bind (zUF ρ i)
def DJ(F:Er->Er->MV->Rho->Sto->R Rho)(f g:Rho->Sto->R Er)(d:MV)(ρ:Rho)(S:Sto):R Rho:=(f ρ S).bind λp S=>(g ρ S).bind λq S=>F p q d ρ S
def EJ(f:Rho->Sto->R Er)(g:MV->Rho->Sto->R Rho)(ρ:Rho)(S:Sto):R Fl:=(f ρ S).bind (asgF g ρ)
def FJ(i:Rho->Sto->R Wk)(g:MV->Rho->Sto->R Rho)(b:Rho->Sto->R Fl)(ρ:Rho)(S:Sto):R Fl:=(i ρ S).bind λk S=>zDR g b k.gs k.ds ρ S
def GJ(a:Rho->Sto->R (List Er))(c:Str)(ρ:Rho)(S:Sto):R Fl:=(a ρ S).bind λr S=>if r.length<=10 then .exc c [] S else .no
def HJ(cs:List Str)(i:Nat)(h:Rho->Sto->R Fl)(n:Nat)(F:List MV->Sto->R Er)(a:Rho->Sto->R (List Er))(ρ:Rho)(S:Sto):R Fl:=(noX (a ρ S)).bind λr S=>zQC cs i (λ_ S=>.ok (.next ρ) S) h ρ (gY n F r S)
def IJ(cs:List Str)(i j:Nat)(h:Rho->Sto->R Fl)(n:Nat)(F:List MV->Sto->R Er)(a:Rho->Sto->R (List Er))(ρ:Rho)(S:Sto):R Fl:=(noX (a ρ S)).bind λr S=>zQC cs i (zUF ρ j) h ρ (gY n F r S)
def JJ(ρ:Rho)(S:Sto):R Fl:=.ok (.next ρ) S
end
section
variable{X:Cx}{W:XW}{a e:Expr}{tg:Expr}{p pos:Pos}{ta:TA}{f:Rho->Sto->R Er}{af:Rho->Sto->R (List Er)}
def itV(rs:List Er)(S:Sto):R Wk:=match rs with
 |[p]=>match srcOf S p with
  |some a=>if a.k=true then .ok ⟨a.ds.reverse,a.gs⟩ S else .no
  |none=>.no
 |_=>.no
def augF(F:Er->Er->Sto->R Er)(i:Nat)(f:Rho->Sto->R Er)(ρ:Rho)(S:Sto):R Fl:=(rdSl (ρ[i]?) S).bind λp S1=>(f ρ S1).bind λq S2=>(F p q S2).bind (zUF ρ i)
def intsOf:List MV->Option (List Int)
 |[]=>some []
 |.int i::ds=>(intsOf ds).map (i::·)
 |_::_=>none
theorem yCG{K:PySem.W.Frag}{α:List Addr}{H:Hp}: ∀{ds:List MV}{ns:List Int}{vs:List V}{us:List Value},intsOf ds=some ns->DenL K α H ds vs->Vals vs us->IntsAre us ns
 |[],ns,vs,us,e,d,r=>by
  cases e
  rw [d.isnil]at r
  cases r
  exact .nil
 |x::ds,ns,vs,us,e,d,r=>by
  obtain⟨v,r',rfl,d1,d2⟩:=d.uncons
  cases r with
  |cons a b=>
   cases x<;>first |(cases e)|skip
   rename_i i
   unfold intsOf at e
   cases z:intsOf ds with
   |none=>rw [z]at e;cases e
   |some ms=>
    rw [z]at e
    cases e
    cases kS d1
    obtain⟨t,rfl⟩:=a
    exact .cons _ _ (yCG z d2 b)
theorem zIC: ∀{us:List Value}{ns:List Int},IntsAre us ns->Vals (ns.map V.int) us
 |_,_,.nil=>.nil
 |_,_,.cons n t h=>.cons ⟨t,rfl⟩ (zIC h)
theorem yEF:CallR X (.builtin "sorted") (λxs H Q=> ∃l vs ds ns α,xs=[.ref l]/\SqL X.K H l vs/\intsOf ds=some ns/\DenL X.K α H ds vs/\ds.length<64/\ ∀p,H p=none->Q (.ref p) (upd H p (.lst ((PySem.W.sortI ns).map V.int)))):=by
 intro pins s σ H xs us Q I r h
 obtain⟨l,vs,ds,ns,α,rfl,hl,hi,hd,hz,q⟩:=h
 obtain⟨u,rfl,rx⟩:=vals1 r
 cases rx
 obtain⟨its,rv,p,_⟩:=I.list hl
 have ia:=yCG hi hd rv
 have hlen:its.length<64:=by have:=rv.length;have:=hd.length;omega
 refine sorted_ints p.isList ia hlen λout ns' a1 a2 a3=>?_
 obtain⟨e,he⟩:=sortedAll_at s.heap its out
 have en:=PySem.W.eq_sortI a2 a3
 subst en
 refine⟨.ref (s.heap.objs.size+1),_,I.laid (t':=s.toks) (λb o e=>sortedAll_old e) (le_succ _) (show ObjOk X.prog X.w _ _ _ (.lst ((PySem.W.sortI ns).map V.int))from⟨?_,out.toList,e,zIC a1,?_⟩),rfl,q _ (I.hok.fresh (le_succ _))⟩
 ·have e1:=(zIC a1).length
  have e2:=a2.length_eq
  have e3:=(zIC ia).length
  have:=sizeLine_eq
  rw [lM0]at e1 e3 ⊢
  omega
 ·rw [Array.toArray_toList]
  exact he
theorem zZX:bootBuiltins "sorted"=some (.builtin "sorted"):=by decide+kernel
def zXA(rs:List Er)(S:Sto):R Er:=match rs with
 |[p]=>match cG S p with
  |some ds=>if ds.length<64 then(match intsOf ds with |some ns=>.ok (.new ((PySem.W.sortI ns).map MV.int)) S|none=>.no)else .no
  |none=>.no
 |_=>.no
theorem yLF:zNL X W (λxs H Q=> ∃l vs ds ns α,xs=[.ref l]/\SqL X.K H l vs/\intsOf ds=some ns/\DenL X.K α H ds vs/\ds.length<64/\ ∀p,H p=none->Q (.ref p) (upd H p (.lst ((PySem.W.sortI ns).map V.int)))) zXA:=by
 intro rs vs α S H Q wd d post
 unfold zXA at post
 split at post
 ·split at post
  ·rename_i ds e
   split at post
   ·rename_i hz
    split at post
    ·rename_i ns hi
     obtain⟨v,rfl,dv⟩:=zNM d
     obtain⟨l,us,rfl,h1,h2⟩:=zKU rfl wd e dv
     exact⟨l,us,ds,ns,α,rfl,h1,hi,h2,hz,λp hp=>Post.newl post wd hp (zHX _)⟩
    ·exact post.elim
   ·exact post.elim
  ·exact post.elim
 ·exact post.elim
end
section
variable{X:Cx}{W:XW}{M:Addr}{cs:List (Str×Addr)}{i:Nat}{nm:Str}{Fh:Rho->Sto->R Fl}{b0:Stmt}{suite:List Stmt}{mp hpos cpos epos pos p:Pos}{e:Expr}{es:List Expr}{af:Rho->Sto->R (List Er)}{k n:Nat}{fa:Addr}{fd:FuncData}{ps:List Str}{F:List MV->Sto->R Er}{x:Str}{ns:List Str}
def TB(X:Cx)(W:XW)(ns:List Str)(i:Nat)(Fh:Rho->Sto->R Fl)(hs:List ExceptHandler)(st:Stmt)(bf:Rho->Sto->R Er):Prop:=
 ∀α ρ S σ H D pins s,Wd X.g α S H->Slots X.K α H ρ σ->PostS X.g W α H D (zQC ns i (λ_ S2=>.ok (.next ρ) S2) Fh ρ (bf ρ S))->Inv X pins σ H s->
  wpAny (model X.prog X.w) X.A (exec st X.env) (λf s'=>f=Flow.next/\ ∃H',Inv X pins σ H' s'/\D.nx σ H')
   (λx s1=>wpAny (model X.prog X.w) X.A (noteFrame x X.env) (λ_ s₂=>wpAny (model X.prog X.w) X.A (setFlight x none) (λ_ s₃=>wpAny (model X.prog X.w) X.A (handleBy x X.env hs) (SP X pins D) X.xe s₃) X.xe s₂) X.xe s1) s
theorem yLG(T:XTab X.K X.mg M cs)(hgm:Gl X "MendError")(hN:X.N.Nodup)(hsuite: ∀v,zMI (X.inH v) W0 (b0::suite) Fh)(G:FnOk X.prog X.w X.K X.mg X.base (CXe X.prog X.w) k fa fd ps (spX X.g n F))(hr:Room k X.A)(hg:Gl X x)(hm:X.mg x=some (.ref fa))(hkp:PySem.W.keepIn X.K (.ref fa)=true)(hb:Binds X.K fd ps [])
  (ha:PAm X.nox W0 (e::es) af) (hns:cs.map (·.1)=ns:=by rfl) (hi:X.N[i]? =some nm:=by rfl) (hk:X.env.kindOf nm=some .local:=by rfl) (hex:X.ex=[]:=by rfl) (hstk:X.stack=X.env::X.outer:=by rfl) (hfm:X.env.frame=some X.env.locals:=by rfl)
  (hdb:(x==("__debug__":Str))=false:=by decide) (he:starEach (e::es) X.env=(false,eval e X.env)::starEach es X.env:=by rfl) (hpl:(backTo cpos (starEach es X.env)).any (·.1)=false:=by rfl) (hs:swapsWith (.Call (.Name x p) (e::es) [] cpos) none epos.line X.env=pure false:=by rfl):
  TB X W ns i Fh [.ExceptHandler (some (.Name "MendError" mp)) (some nm) (b0::suite) hpos] (.Expr (.Call (.Name x p) (e::es) [] cpos) epos) (λρ S=>(noX (af ρ S)).bind λrs S1=>gY n F rs S1):=by
 subst hns
 obtain⟨ta,ha,kk⟩:=ha
 intro α ρ S σ H D pins s wd sl q I
 dsimp only at q
 have q':PostS X.g W α H D ((noX (af ρ S)).bind λrs S1=>zQC (cs.map (·.1)) i (λ_ S2=>.ok (.next ρ) S2) Fh ρ (gY n F rs S1)):=by
  cases z:af ρ S with
  |ok r S1=>rw [z]at q;exact q
  |exc c fs S1=>rw [z]at q;exact q.elim
  |no=>rw [z]at q;exact q.elim
 refine wpAny_Expr_any ?_ I.quiet hs
 have ht:=yHI (Q:=λ_ H2=>D.nx σ H2) kk wd sl q' λr S1 u α1 H1 q1 x1 w1 _=>q1 σ α1 H1 x1 w1 (sl.ext x1)
 refine thn (yHH G hr hg hm hkp hb ha I ht (λH1 s1 y s' I1 hq=>yPK T hgm hN hi hk hsuite hex hstk hfm sl I1 hq) hdb he hpl) λu s' ⟨v,H',I',_,q'⟩=>?_
 exact⟨rfl,H',I',q'⟩
theorem yMM{hs:List ExceptHandler}{c:Expr}{a b:Stmt}{tf:Rho->Sto->R Bool}{fa fb:Rho->Sto->R Er}(hc:PTm X.nox W0 c tf)(ha:TB X W ns i Fh hs a fa)(hb:TB X W ns i Fh hs b fb):TB X W ns i Fh hs (.If c [a] [b] pos) (λρ S=>(noX (tf ρ S)).bind λk S1=>if k=true then fa ρ S1 else fb ρ S1):=by
 obtain⟨tc,hc,kc⟩:=hc
 intro α ρ S σ H D pins s wd sl q I
 dsimp only at q
 refine wpAny_If ?_
 have ht:tc σ H λd H1=> ∃α1 S1,Ext α H α1 H1/\Wd X.g α1 S1 H1/\PostS X.g W α H D (zQC ns i (λ_ S2=>.ok (.next ρ) S2) Fh ρ (if d=true then fa ρ S1 else fb ρ S1)):=by
  refine kc α ρ S σ H _ wd sl ?_
  cases z:tf ρ S with
  |ok d S1=>
   rw [z]at q
   intro u α1 H1 x1 w1 d1
   have e:u=d:=d1
   subst e
   exact⟨α1,S1,x1,w1,q⟩
  |exc c fs S1=>rw [z]at q;exact q.elim
  |no=>rw [z]at q;exact q.elim
 refine wpAny_mono (hc pins s σ H _ (I.wish _) ht) (λd s1 ⟨H1,I1,α1,S1,x1,w1,q1⟩=>?_) λ_ _ z=>z.elim
 have one: ∀(st:Stmt)(f:Rho->Sto->R Er),TB X W ns i Fh hs st f->PostS X.g W α H D (zQC ns i (λ_ S2=>.ok (.next ρ) S2) Fh ρ (f ρ S1))->wpAny (model X.prog X.w) X.A (execs [st] X.env) (λf s'=>f=Flow.next/\ ∃H',Inv X pins σ H' s'/\D.nx σ H')
   (λx s1=>wpAny (model X.prog X.w) X.A (noteFrame x X.env) (λ_ s₂=>wpAny (model X.prog X.w) X.A (setFlight x none) (λ_ s₃=>wpAny (model X.prog X.w) X.A (handleBy x X.env hs) (SP X pins D) X.xe s₃) X.xe s₂) X.xe s1) s1:=by
  intro st f h q2
  refine wpAny_execs_cons (wpAny_mono (h α1 ρ S1 σ H1 D pins s1 w1 (sl.ext x1) (PostS.shift x1 q2) I1.unwish) (λfl s2 hf=>?_) λ_ _ z=>z)
  obtain⟨rfl,hf⟩:=hf
  exact wpAny_execs_nil ⟨rfl,hf⟩
 cases d with
 |true=>exact one a fa ha q1
 |false=>exact one b fb hb q1
theorem yLH{h0:ExceptHandler}{st:Stmt}{bf:Rho->Sto->R Er}(hb:TB X W ns i Fh [h0] st bf):PSm X W (.Try [st] [h0] [] [] pos) (λρ S=>zQC ns i (λ_ S2=>.ok (.next ρ) S2) Fh ρ (bf ρ S)):=by
 refine⟨λD σ H=> ∀pins s,Inv X pins σ H s->wpAny (model X.prog X.w) X.A (exec (.Try [st] [h0] [] [] pos) X.env) (SP X pins D) X.xe s,
  λpins s σ H D I h=>h pins s I,λα ρ S σ H D wd sl q pins s I=>?_⟩
 rw [arm_exec_Try]
 refine wB0 (wpAny_standAt (wpAny_tryStmt_except (wpAny_execs_cons (wpAny_mono (hb α ρ S σ H D pins s wd sl q I) (λf s' hf=>?_) λ_ _ z=>z))))
 obtain⟨rfl,H',I',q'⟩:=hf
 exact wpAny_execs_nil (wpAny_execs_nil ⟨σ,H',I',q'⟩)
end
section
variable{X:Cx}{W:XW}{M:Addr}{cs:List (Str×Addr)}{i:Nat}{nm:Str}{Fh:Rho->Sto->R Fl}{b0:Stmt}{suite:List Stmt}{mp hpos cpos epos pos p:Pos}{e:Expr}{es:List Expr}{af:Rho->Sto->R (List Er)}{k n:Nat}{ps:List Str}{F:List MV->Sto->R Er}{x:Str}{ns:List Str}
theorem zQD(T:XTab X.K X.mg M cs)(hgm:Gl X "MendError")(hN:X.N.Nodup)(hsuite: ∀v,zMI (X.inH v) W0 (b0::suite) Fh)(G:yHP X.prog X.w X.K X.mg X.base x k n ps F)(hr:Room k X.A)(hg:Gl X x)(ha:PAm X.nox W0 (e::es) af)(hns:cs.map (·.1)=ns:=by rfl)(hi:X.N[i]? =some nm:=by rfl)(hk:X.env.kindOf nm=some .local:=by rfl)(hex:X.ex=[]:=by rfl)(hstk:X.stack=X.env::X.outer:=by rfl)(hfm:X.env.frame=some X.env.locals:=by rfl)
  (hdb:(x==("__debug__":Str))=false:=by decide) (he:starEach (e::es) X.env=(false,eval e X.env)::starEach es X.env:=by rfl) (hpl:(backTo cpos (starEach es X.env)).any (·.1)=false:=by rfl) (hs:swapsWith (.Call (.Name x p) (e::es) [] cpos) none epos.line X.env=pure false:=by rfl):
  TB X W ns i Fh [.ExceptHandler (some (.Name "MendError" mp)) (some nm) (b0::suite) hpos] (.Expr (.Call (.Name x p) (e::es) [] cpos) epos) (λρ S=>(noX (af ρ S)).bind λrs S1=>gY n F rs S1):=by
 obtain⟨fa,fd,G,m,kp,b⟩:=G.ex
 exact yLG T hgm hN hsuite G hr hg m kp b ha hns hi hk hex hstk hfm hdb he hpl hs
end
noncomputable section
def KJ(n:Nat)(F:List MV->Sto->R Er)(a:Rho->Sto->R (List Er))(ρ:Rho)(S:Sto):R Er:=(noX (a ρ S)).bind λr S=>gY n F r S
def LJ(c:Rho->Sto->R Bool)(f g:Rho->Sto->R Er)(ρ:Rho)(S:Sto):R Er:=(noX (c ρ S)).bind λk S=>if k=true then f ρ S else g ρ S
def MJ(cs:List Str)(i:Nat)(h:Rho->Sto->R Fl)(f:Rho->Sto->R Er)(ρ:Rho)(S:Sto):R Fl:=zQC cs i (λ_ S=>.ok (.next ρ) S) h ρ (f ρ S)
end
section
variable{X:Cx}{W:XW}{a:Expr}{af:Rho->Sto->R (List Er)}{ta:TA}{pos pos2 p2 p3:Pos}
def yEG(r:Addr)(j:Int):HO:=.ext λh=> ∃t u v,IsRange h r 0 j 1 t u v
theorem yPP(hg:Gl X "range")(hm:X.mg "range"=none)(ha:PA X [a] ta)(hs:starEach [a] X.env=[(false,eval a X.env)]:=by rfl):
  PE X (.Call (.Name "range" p3) [a] [] pos2) (λσ H Q=>ta σ H λvs H1=> ∃j:Int,vs=[.int j]/\ ∀r,H1 r=none->Q (.ref r) (upd H1 r (yEG r j))):=by
 intro pins s σ H Q I h
 refine Call_ (zMA I hg hm boot_range (PyProof.Rows.callWith_type1 (thn (ha pos2 pins s σ H _ I h) λus s1 ⟨vs,H1,I1,r1,q1⟩=>?_) hs rfl))
 obtain⟨j,rfl,q⟩:=q1
 obtain⟨u,rfl,t,rfl⟩:=vals1 r1
 refine call_range_1 ?_
 have hlt:H1 s1.heap.objs.size=none:=I1.hok.fresh (le_refl _)
 refine⟨.ref s1.heap.objs.size,_,I1.laid (o:=yEG s1.heap.objs.size j) (t':=s1.toks+1+1) (λb o e=>hP0 _ e) (le_refl _) ⟨⟨_,_,_,IsRange.new ..⟩,⟨_,Heap.get?_push_size _ rfl⟩,?_⟩,rfl,q _ hlt⟩
 rintro h1 h2 ⟨t,u,v,hr⟩ mv
 exact⟨t,u,v,mv _ hr⟩
end
section
variable{X:Cx}{W:XW}{a:Expr}{af:Rho->Sto->R (List Er)}{ta:TA}{pos pos2 p2 p3:Pos}
abbrev yEH(j:Int):List Int:=(List.range j.toNat).map Int.ofNat
theorem zZY{acc:Array Value}{j:Int}(h:ItemsOf (λi v=> ∃t,v=Value.int (0+i * 1) t) acc j.toNat):Vals ((yEH j).map V.int) acc.toList:=by
 obtain⟨h1,h2⟩:=h
 refine ?_
 have key: ∀(l:List Value)(k:Nat),(∀i v,l[i]? =some v-> ∃t,v=Value.int ((k+i:Nat):Int) t)->Vals (((List.range' k l.length).map Int.ofNat).map V.int) l:=by
  intro l
  induction l with
  |nil=>intro k _;exact .nil
  |cons x l ih=>
   intro k hh
   obtain⟨t,rfl⟩:=hh 0 x rfl
   rw [lC0,List.range'_succ]
   refine .cons ⟨t,rfl⟩ (ih (k+1) λi v hv=>?_)
   obtain⟨t',e⟩:=hh (i+1) v hv
   exact⟨t',by rw [e,show k+(i+1)=k+1+i by omega]⟩
 have:=key acc.toList 0 λi v hv=>by
  obtain⟨t,e⟩:=h2 i v (by rw [<-Array.getElem?_toList];exact hv)
  refine⟨t,e.trans ?_⟩
  congr 1
  omega
 rw [Array.length_toList,h1, <-List.range_eq_range']at this
 exact this
theorem yHQ{j:Int}:Builtin.Range.rangeSize 0 j 1=j.toNat:=by rw [rangeSize_one];split<;>omega
theorem yEI:CallR X (.type "list") (λxs H Q=> ∃r j,xs=[.ref r]/\H r=some (yEG r j)/\ -1000000<=j/\j<=1000000/\X.calm=true/\ ∀p,H p=none->Q (.ref p) (upd H p (.lst ((yEH j).map V.int)))):=by
 intro pins s σ H xs us Q I r h
 obtain⟨r1,j,rfl,hr,j0,j1,hc,q⟩:=h
 obtain⟨_,rfl,rx⟩:=vals1 r
 cases rx
 obtain⟨⟨t,u,v,hR⟩,_⟩:=(show ObjOk X.prog X.w H s.heap r1 (yEG r1 j)from I.hok r1 _ hr)
 refine call_list_range (I.ok.hd hc) hR (small_one (by decide) (by decide) (by omega) (by omega)) yHQ (by omega) λh' tk acc c' hk hS hacc=>?_
 refine⟨.ref s.heap.objs.size,_,I.laid (t':=tk) hk (le_refl _) (show ObjOk X.prog X.w _ h' _ (.lst ((yEH j).map V.int))from⟨?_,acc.toList,c',zZY hacc,?_⟩),rfl,q _ (I.hok.fresh (le_refl _))⟩
 ·rw [lM0,lM0,length_range,sizeLine_eq]
  omega
 ·rw [Array.toArray_toList]
  exact hS
def trngF(rs:List Er)(S:Sto):R Er:=match rs with
 |[.val (.int j)]=>if -1000000<=j/\j<=1000000 then .ok (.val (.tup ((yEH j).map MV.int))) S else .no
 |_=>.no
def zXB(rs:List Er)(S:Sto):R Er:=match rs with
 |[.val (.int j)]=>if -1000000<=j/\j<=1000000 then .ok (.new ((yEH j).map MV.int)) S else .no
 |_=>.no
theorem yLI(hc:X.calm=true)(hg:Gl X "list")(hm:X.mg "list"=none)(hgr:Gl X "range")(hmr:X.mg "range"=none)(ha:PAm X W [a] af)(hs:starEach [a] X.env=[(false,eval a X.env)]:=by rfl)
  (he1:starEach [.Call (.Name "range" p3) [a] [] pos2] X.env=(false,eval (.Call (.Name "range" p3) [a] [] pos2) X.env)::starEach [] X.env:=by rfl) (hpl1:(backTo pos (starEach [] X.env)).any (·.1)=false:=by rfl):
  PEm X W (.Call (.Name "list" p2) [.Call (.Name "range" p3) [a] [] pos2] [] pos) (λρ S=>(af ρ S).bind zXB):=by
 obtain⟨t,ha,k⟩:=ha
 refine⟨_,zMD yEI hg hm yBT (zDM (yPP hgr hmr ha hs) zOU he1) (by decide) (by decide) he1 hpl1,λα ρ S σ H Q wd sl q=>k α ρ S σ H _ wd sl (q.bind λvs rs S1 α1 H1 e1 x1 w1 d1 q1=>?_)⟩
 replace q1:=q1.shift x1
 unfold zXB at q1
 split at q1
 ·split at q1
  ·rename_i j hj
   obtain⟨u,rfl,du⟩:=yBN d1
   cases xL du
   refine⟨j,rfl,λv hv=>?_⟩
   have xn:=w1.newx (o:=yEG v j) hv
   have wn:=w1.new (o:=yEG v j) hv
   exact⟨v,j,rfl,xF,hj.1,hj.2,hc,λp hp=>(q1.shift xn).newl wn hp (zHX _)⟩
  ·exact q1.elim
 ·exact q1.elim
end
end M
end L2
namespace L2
namespace M
namespace My
open PySem PySem.Spec PyProof.Rows
local macro_rules
 | `(tactic|simp? [$xs,*] $[$l:location]?)=>`(tactic|simp only [List.getElem?_cons_zero,List.getElem?_cons_succ,yKN,bok,as_int,as_bl,yOW,add_int,sub_int,eq_int,yOX,lst0,lst1,lst2,lst3,lst6,tup2,tup3,yPB,yPC,yPD,yPE,yPF,yPG,yKT,yKU,List.set_cons_zero,List.set_cons_succ,if_true,yKW,yKV,vJ,kJ,bJ,dJ,nJ,aJ,oJ,iJ,mJ,tJ,lJ,zJ,fJ,xJ,hJ,eJ,gJ,uJ,pJ,jJ,qJ,rJ,sJ,wJ,yJ,AJ,BJ,CJ,DJ,EJ,FJ,GJ,HJ,IJ,JJ,KJ,LJ,MJ,$xs,*] $[$l:location]?)
abbrev zQE:List Str:=["book","by_key","i","row"]
abbrev zXC:List Str:=["book","number","many","rows","left","block"]
abbrev wE:List Str:=["thing","least","most"]
abbrev zXD:List Str:=["rule","tables","number","columns"]
abbrev zQF:List Str:=["thing","tables","wide"]
abbrev yS:List Str:=["tables","rules","rows"]
abbrev zGH:List Str:=["tables","place","table"]
abbrev zIT:List Str:=["tables","rules","place","rule"]
abbrev zLB:List Str:=["tables","rows","place","row","seen"]
abbrev zJG:List Str:=["_law_cell","_law_prime","_law_number"]
abbrev zGI:List Str:=["_law_cell","_law_letters","_law_number","_law_name_here","_law_k"]
abbrev zGJ:List Str:=["_law_cell","_law_number","_law_letters","_law_name_here","_law_at","_law_turned","_law_other","_law_great"]
abbrev zBP:List Str:=["_law_cell","_law_most","_law_number","_law_many","_law_tables_here","_law_k","_law_wide"]
abbrev zJH:List Str:=["_law_cell","_law_tables_here","_law_pool_here","_law_wide","_law_number","_law_t","_law_cells","_law_k"]
abbrev zGK:List Str:=["_law_cells","_law_tables_here","_law_pool_here","_law_wide","_law_rows_here","_law_cell","_law_row_here"]
abbrev zGL:List Str:=["_law_state","_law_size","_law_found"]
abbrev zGM:List Str:=["_law_state","_law_there","_law_tables_here","_law_pool_here","_law_k"]
abbrev zDU:List Str:=["_law_state","_law_there","_law_tables_here","_law_pool_here","_law_tests_here","_law_k","_law_word","_law_left"]
abbrev cJ:List Str:=["_law_cell","_law_tables_here","_law_pool_here","_law_state","_law_kind","_law_t","_law_u","_law_many","_law_columns"]
abbrev zGN:List Str:=["_law_cell","_law_tables_here","_law_left"]
abbrev zLC:List Str:=["_law_e","_law_kinds_here"]
abbrev nQ:List Str:=["_law_book","_law_way","_law_number","_law_kinds_here","_law_e"]
abbrev yCH:List Str:=["_law_script","_law_pool_here","_law_tables_here","_law_head","_law_rules","_law_rows_here","_law_book","_law_numbers","_law_k","_law_plain","_law_placed","_law_block"]
abbrev XNS:List Str:=["TooGreat","NoText","NoPlace","NotPlain","NoTable","NoRule","NoRow","Twice","NoQuestion","Double","TooWide","Ring"]
noncomputable section
abbrev AF:=Rho->Sto->R Fl
abbrev AE:=Rho->Sto->R Er
def zDV:AF:=(AJ (aJ (bJ (yJ (vJ 0) (yJ (kJ (.typ "int")) wJ)) zIL) (nJ (bJ (yJ (vJ 0) (yJ (kJ (.typ "bool")) wJ)) zIL))))
def nR:AF:=(zDV)
def wN(ds:List MV)(S:Sto):R Er:=yH (nR (zN ["thing"] ds) S)
def zBQ:Rho->Sto->R Bool:=uJ
def bX:AE:=(jJ leF leF (kJ (.str [97])) (vJ 0) (kJ (.str [122])))
def zGO:AF:=(iJ (sJ (qJ (bJ (bJ (yJ (vJ 0) (yJ (kJ (.typ "str")) wJ)) zIL) zBA)) (qJ (bJ (jJ leF leF (kJ (.int 1)) (bJ (yJ (vJ 0) wJ) wF) (kJ (.int 8))) asB))) ((AJ (kJ (.bl false)))) (JJ))
def zGP:AF:=(AJ (bJ (yJ (pJ (bJ (vJ 0) itS) (gNm 0) (zBQ) (bX) 1 []) wJ) zUN))
def zMR:AF:=zU (zGO) ((zGP))
def zID(ds:List MV)(S:Sto):R Er:=yH (zMR (zN ["thing"] ds) S)
def gC:AF:=(iJ (bJ (fJ 1 wN (yJ (vJ 0) wJ)) zBA) ((AJ (dJ ltF (bJ (yJ (vJ 0) wJ) absF) (dJ zFZ (kJ (.int 10)) (kJ (.int 30)))))) (JJ))
def zLD:AF:=(AJ (fJ 1 zID (yJ (vJ 0) wJ)))
def zJI:AF:=zU (gC) ((zLD))
def bC(ds:List MV)(S:Sto):R Er:=yH (zJI (zN ["thing"] ds) S)
def zQG:AF:=(AJ (bJ (yJ (dJ ixF (vJ 1) (kJ (.int 0))) (yJ (tJ zNX (dJ ixF (vJ 1) (kJ (.int 1))) mJ (bJ (dJ ixF (dJ ixF (vJ 0) (dJ ixF (vJ 1) (kJ (.int 0)))) (kJ (.int 1))) asI)) wJ)) jY))
def zQH:AF:=(zQG)
def zLE(ds:List MV)(S:Sto):R Er:=yH (zQH (zN ["tables","row"] ds) S)
def zLF:AF:=(AJ (dJ eqF (bJ (yJ (dJ ixF (vJ 0) (kJ (.int 1))) wJ) wF) (kJ (.int 0))))
def zJJ:AF:=(zLF)
def wO(ds:List MV)(S:Sto):R Er:=yH (zJJ (zN ["book"] ds) S)
noncomputable def zDW:Rho->Sto->R Fl:=(BJ (eJ zIR zWT (eJ yCE sdF (vJ 1) (yJ (fJ 2 zLE (yJ (dJ ixF (vJ 0) (kJ (.int 0))) (yJ (vJ 3) wJ))) (yJ (bJ wJ jZ) wJ))) (yJ (vJ 2) wJ)))
noncomputable def nS:Rho->Sto->R Fl:=(zDW)
def nU:AF:=(iJ (qJ (bJ (fJ 1 wO (yJ (vJ 0) wJ)) zBA)) ((GJ (yJ (kJ (.str [97,32,98,111,111,107,32,119,105,116,104,32,114,117,108,101,115,32,104,97,115,32,110,111,32,98,108,111,99,107,115])) wJ) "NotPlain")) (JJ))
def zJK:AF:=(CJ zJ 1)
def zJL:AF:=(FJ (bJ (yJ (dJ ixF (vJ 0) (kJ (.int 2))) wJ) itE) (gTp 2 (yF (gNm 2) (yF (gNm 3) jT))) (nS))
def zJM:AF:=(AJ (bJ (vJ 1) lvF))
def zLG:AF:=zU (nU) (zU (zJK) (zU (zJL) ((zJM))))
def wW(ds:List MV)(S:Sto):R Er:=yH (zLG (zN zQE ds) S)
noncomputable def zGQ:Rho->Sto->R Fl:=(λ_ _=>R.no)
noncomputable def zJN:Rho->Sto->R Fl:=(zGQ)
def nV:AF:=(CJ (kJ (.int 1)) 1)
def jN:AF:=(FJ (bJ (xJ 1 wW (yJ (vJ 0) wJ)) itL) (gNm 2) (zJN))
def zJO:AF:=(AJ (vJ 1))
def bD:AF:=zU (nV) (zU (jN) ((zJO)))
def xV(ds:List MV)(S:Sto):R Er:=yH (bD (zN ["book","many","block"] ds) S)
def zJP:AF:=(CJ (xJ 1 xV (yJ (vJ 0) wJ)) 2)
def zZZ:AF:=(λ_ _=>R.no)
def yAA:AF:=(λ_ _=>R.no)
def yAB:AF:=(λ_ _=>R.no)
def yAC:AF:=(λ_ _=>R.no)
def yAD:AF:=(λ_ _=>R.no)
def zQI:AF:=zU (zJP) (zU (zZZ) (zU (yAA) (zU (yAB) (zU (yAC) ((yAD))))))
def zLH(ds:List MV)(S:Sto):R Er:=yH (zQI (zN zXC ds) S)
def zLI:AF:=(AJ (aJ (bJ (yJ (vJ 0) (yJ (kJ (.typ "tuple")) wJ)) zIL) (jJ leF leF (vJ 1) (bJ (yJ (vJ 0) wJ) wF) (vJ 2))))
def zJQ:AF:=(zLI)
def yD(ds:List MV)(S:Sto):R Er:=yH (zJQ (zN wE ds) S)
def dI:AF:=(AJ (aJ (fJ 1 wN (yJ (vJ 0) wJ)) (jJ leF ltF (kJ (.int 0)) (vJ 0) (vJ 1))))
def gD:AF:=(dI)
def zL(ds:List MV)(S:Sto):R Er:=yH (gD (zN ["thing","bound"] ds) S)
def zDX:AF:=(iJ (sJ (qJ (bJ (fJ 3 yD (yJ (vJ 0) (yJ (kJ (.int 2)) (yJ (kJ (.int 2)) wJ)))) zBA)) (qJ (bJ (fJ 1 wN (yJ (dJ ixF (vJ 0) (kJ (.int 0))) wJ)) zBA))) ((AJ (kJ (.bl false)))) (JJ))
def zDY:AF:=(CJ (dJ ixF (vJ 0) (kJ (.int 0))) 1)
def zDZ:AF:=(AJ (aJ (jJ leF leF (kJ (.int 1)) (vJ 1) (kJ (.int 4))) (fJ 2 zL (yJ (dJ ixF (vJ 0) (kJ (.int 1))) (yJ (dJ wM (vJ 1) (kJ (.int 1))) wJ)))))
def zJR:AF:=zU (zDX) (zU (zDY) ((zDZ)))
def zEA(ds:List MV)(S:Sto):R Er:=yH (zJR (zN ["thing","wide"] ds) S)
def cK:AF:=(iJ (bJ (fJ 3 yD (yJ (vJ 0) (yJ (kJ (.int 2)) (yJ (kJ (.int 2)) wJ)))) zBA) ((AJ (aJ (dJ eqF (dJ ixF (vJ 0) (kJ (.int 0))) (kJ (.str [105,115]))) (fJ 1 bC (yJ (dJ ixF (vJ 0) (kJ (.int 1))) wJ))))) (JJ))
def zGR:AF:=(iJ (sJ (qJ (bJ (fJ 3 yD (yJ (vJ 0) (yJ (kJ (.int 3)) (yJ (kJ (.int 3)) wJ)))) zBA)) (bJ (dJ neF (dJ ixF (vJ 0) (kJ (.int 0))) (kJ (.str [99,101,108,108]))) asB)) ((AJ (kJ (.bl false)))) (JJ))
def zGS:AF:=(AJ (aJ (fJ 2 zL (yJ (dJ ixF (vJ 0) (kJ (.int 1))) (yJ (bJ (yJ (vJ 1) wJ) wF) wJ))) (fJ 2 zL (yJ (dJ ixF (vJ 0) (kJ (.int 2))) (yJ (dJ ixF (vJ 1) (dJ ixF (vJ 0) (kJ (.int 1)))) wJ)))))
def zDH:AF:=zU (cK) (zU (zGR) ((zGS)))
def zDI(ds:List MV)(S:Sto):R Er:=yH (zDH (zN ["thing","wides"] ds) S)
def zGT:AF:=(iJ (qJ (bJ (fJ 3 yD (yJ (vJ 0) (yJ (kJ (.int 3)) (yJ (kJ (.int 3)) wJ)))) zBA)) ((AJ (kJ (.bl false)))) (JJ))
def zGU:AF:=(AJ (aJ (fJ 2 zDI (yJ (dJ ixF (vJ 0) (kJ (.int 0))) (yJ (vJ 1) wJ))) (aJ (dJ (inF false) (dJ ixF (vJ 0) (kJ (.int 1))) (kJ (.tup [.str [115,97,109,101],.str [117,110,108,105,107,101],.str [108,101,115,115]]))) (fJ 2 zDI (yJ (dJ ixF (vJ 0) (kJ (.int 2))) (yJ (vJ 1) wJ))))))
def zMS:AF:=zU (zGT) ((zGU))
def zIE(ds:List MV)(S:Sto):R Er:=yH (zMS (zN ["thing","wides"] ds) S)
def zFI:Rho->Sto->R Bool:=uJ
def cU:AE:=(fJ 2 zIE (yJ (vJ 0) (yJ (vJ 1) wJ)))
def zIU:AF:=(AJ (aJ (fJ 3 yD (yJ (vJ 0) (yJ (kJ (.int 1)) (yJ (kJ (.int 3)) wJ)))) (bJ (yJ (pJ (bJ (vJ 0) itT) (gNm 0) (zFI) (cU) 1 [1]) wJ) zUN)))
def zGV:AF:=(zIU)
def kI(ds:List MV)(S:Sto):R Er:=yH (zGV (zN ["thing","wides"] ds) S)
def zBG:Rho->Sto->R Bool:=uJ
def gE:AE:=(fJ 2 zL (yJ (vJ 0) (yJ (vJ 1) wJ)))
def zFJ:AF:=(AJ (aJ (fJ 3 yD (yJ (vJ 0) (yJ (kJ (.int 1)) (yJ (kJ (.int 3)) wJ)))) (bJ (yJ (pJ (bJ (vJ 0) itT) (gNm 0) (zBG) (gE) 1 [1]) wJ) zUN)))
def zBR:AF:=(zFJ)
def bY(ds:List MV)(S:Sto):R Er:=yH (zBR (zN ["thing","wide"] ds) S)
def zEB:AF:=(iJ (sJ (bJ (dJ neF (bJ (yJ (vJ 0) wJ) wF) (kJ (.int 3))) asB) (qJ (bJ (fJ 2 zL (yJ (dJ ixF (vJ 0) (kJ (.int 1))) (yJ (bJ (yJ (vJ 1) wJ) wF) wJ))) zBA))) ((AJ (kJ (.bl false)))) (JJ))
def zEC:AF:=(AJ (fJ 2 kI (yJ (dJ ixF (vJ 0) (kJ (.int 2))) (yJ (bJ (yJ (dJ ixF (dJ ixF (vJ 1) (dJ ixF (vJ 0) (kJ (.int 1)))) (kJ (.int 0))) wJ) jZ) wJ))))
def zJS:AF:=zU (zEB) ((zEC))
def zED(ds:List MV)(S:Sto):R Er:=yH (zJS (zN ["rule","tables"] ds) S)
def zGW:Rho->Sto->R Bool:=uJ
def nW:AE:=(fJ 2 zL (yJ (vJ 0) (yJ (bJ (yJ (vJ 1) wJ) wF) wJ)))
def nX:Rho->Sto->R Bool:=uJ
def gF:AE:=(dJ ixF (dJ ixF (vJ 1) (vJ 0)) (kJ (.int 0)))
def zEE:AF:=(iJ (sJ (bJ (dJ neF (bJ (yJ (vJ 0) wJ) wF) (kJ (.int 4))) asB) (qJ (bJ (bJ (yJ (pJ (bJ (tJ zNX (vJ 0) (bJ (kJ (.int 1)) asI) (bJ (kJ (.int 3)) asI)) itT) (gNm 0) (zGW) (nW) 1 [1]) wJ) zUN) zBA))) ((AJ (kJ (.bl false)))) (JJ))
def zEF:AF:=(AJ (fJ 2 kI (yJ (dJ ixF (vJ 0) (kJ (.int 3))) (yJ (pJ (bJ (tJ zNX (vJ 0) (bJ (kJ (.int 1)) asI) (bJ (kJ (.int 3)) asI)) itT) (gNm 0) (nX) (gF) 1 [1]) wJ))))
def zJT:AF:=zU (zEE) ((zEF))
def zEG(ds:List MV)(S:Sto):R Er:=yH (zJT (zN ["rule","tables"] ds) S)
noncomputable def zLJ:Rho->Sto->R Fl:=(iJ (sJ (qJ (bJ (fJ 2 zL (yJ (vJ 2) (yJ (bJ (yJ (vJ 1) wJ) wF) wJ))) zBA)) (qJ (bJ (fJ 2 bY (yJ (vJ 3) (yJ (dJ ixF (dJ ixF (vJ 1) (vJ 2)) (kJ (.int 0))) wJ))) zBA))) ((AJ (kJ (.bl false)))) (JJ))
noncomputable def zJU:Rho->Sto->R Fl:=(zLJ)
def zJV:AF:=(iJ (bJ (dJ neF (bJ (yJ (vJ 0) wJ) wF) (kJ (.int 5))) asB) ((AJ (kJ (.bl false)))) (JJ))
def zJW:AF:=(FJ (bJ (bJ (yJ (bJ (yJ (dJ ixF (vJ 0) (kJ (.int 1))) (yJ (dJ ixF (vJ 0) (kJ (.int 2))) wJ)) jY) (yJ (bJ (yJ (dJ ixF (vJ 0) (kJ (.int 3))) (yJ (dJ ixF (vJ 0) (kJ (.int 4))) wJ)) jY) wJ)) jY) itT) (gTp 2 (yF (gNm 2) (yF (gNm 3) jT))) (zJU))
def zJX:AF:=(AJ (dJ eqF (bJ (yJ (dJ ixF (vJ 0) (kJ (.int 2))) wJ) wF) (bJ (yJ (dJ ixF (vJ 0) (kJ (.int 4))) wJ) wF)))
def zQJ:AF:=zU (zJV) (zU (zJW) ((zJX)))
def zLK(ds:List MV)(S:Sto):R Er:=yH (zQJ (zN zXD ds) S)
def zGX:AF:=(iJ (sJ (qJ (bJ (bJ (yJ (vJ 0) (yJ (kJ (.typ "tuple")) wJ)) zIL) zBA)) (bJ (dJ eqF (bJ (yJ (vJ 0) wJ) wF) (kJ (.int 0))) asB)) ((AJ (kJ (.bl false)))) (JJ))
def kK:AF:=(iJ (bJ (dJ eqF (dJ ixF (vJ 0) (kJ (.int 0))) (kJ (.str [110,101,118,101,114]))) asB) ((AJ (fJ 2 zED (yJ (vJ 0) (yJ (vJ 1) wJ))))) (JJ))
def cL:AF:=(iJ (bJ (dJ eqF (dJ ixF (vJ 0) (kJ (.int 0))) (kJ (.str [97,112,97,114,116]))) asB) ((AJ (fJ 2 zEG (yJ (vJ 0) (yJ (vJ 1) wJ))))) (JJ))
def zGY:AF:=(AJ (aJ (dJ eqF (dJ ixF (vJ 0) (kJ (.int 0))) (kJ (.str [116,105,101]))) (fJ 2 zLK (yJ (vJ 0) (yJ (vJ 1) wJ)))))
def zMT:AF:=zU (zGX) (zU (kK) (zU (cL) ((zGY))))
def zIF(ds:List MV)(S:Sto):R Er:=yH (zMT (zN ["thing","tables"] ds) S)
def zLL:Rho->Sto->R Bool:=uJ
def zEH:AE:=(fJ 1 bC (yJ (vJ 0) wJ))
def zJY:AF:=(iJ (sJ (qJ (bJ (fJ 3 yD (yJ (vJ 0) (yJ (kJ (.int 2)) (yJ (kJ (.int 2)) wJ)))) zBA)) (qJ (bJ (fJ 2 zL (yJ (dJ ixF (vJ 0) (kJ (.int 0))) (yJ (bJ (yJ (vJ 1) wJ) wF) wJ))) zBA))) ((AJ (kJ (.bl false)))) (JJ))
def zJZ:AF:=(CJ (dJ ixF (dJ ixF (vJ 1) (dJ ixF (vJ 0) (kJ (.int 0)))) (kJ (.int 0))) 2)
def zKA:AF:=(AJ (aJ (fJ 3 yD (yJ (dJ ixF (vJ 0) (kJ (.int 1))) (yJ (vJ 2) (yJ (vJ 2) wJ)))) (bJ (yJ (pJ (bJ (dJ ixF (vJ 0) (kJ (.int 1))) itT) (gNm 0) (zLL) (zEH) 1 []) wJ) zUN)))
def zQK:AF:=zU (zJY) (zU (zJZ) ((zKA)))
def zLM(ds:List MV)(S:Sto):R Er:=yH (zQK (zN zQF ds) S)
def zFK:AF:=(iJ (sJ (bJ (dJ gtF (bJ (yJ (vJ 0) wJ) wF) (kJ (.int 4))) asB) (sJ (bJ (dJ gtF (bJ (yJ (vJ 1) wJ) wF) (kJ (.int 6))) asB) (bJ (dJ gtF (bJ (yJ (vJ 2) wJ) wF) (kJ (.int 60))) asB))) ((λ_ _=>R.no)) (JJ))
def zBS:AF:=(zFK)
def bZ(ds:List MV)(S:Sto):R Er:=yH (zBS (zN yS ds) S)
noncomputable def nY:Rho->Sto->R Fl:=(iJ (qJ (bJ (fJ 1 zEA (yJ (vJ 2) wJ)) zBA)) ((λ_ _=>R.no)) (JJ))
noncomputable def bE:Rho->Sto->R Fl:=(nY)
def bF:AF:=(iJ (bJ (dJ eqF (bJ (yJ (vJ 0) wJ) wF) (kJ (.int 0))) asB) ((λ_ _=>R.no)) (JJ))
def bG:AF:=(FJ (bJ (yJ (vJ 0) wJ) itE) (gTp 2 (yF (gNm 1) (yF (gNm 2) jT))) (bE))
def nZ:AF:=zU (bF) ((bG))
def gG(ds:List MV)(S:Sto):R Er:=yH (nZ (zN zGH ds) S)
noncomputable def zBH:Rho->Sto->R Fl:=(iJ (qJ (bJ (fJ 2 zIF (yJ (vJ 3) (yJ (vJ 0) wJ))) zBA)) ((λ_ _=>R.no)) (JJ))
noncomputable def cV:Rho->Sto->R Fl:=(zBH)
def cW:AF:=(FJ (bJ (yJ (vJ 1) wJ) itE) (gTp 2 (yF (gNm 2) (yF (gNm 3) jT))) (cV))
def zBT:AF:=(cW)
def cA(ds:List MV)(S:Sto):R Er:=yH (zBT (zN zIT ds) S)
noncomputable def zDJ:Rho->Sto->R Fl:=(iJ (qJ (bJ (fJ 2 zLM (yJ (vJ 3) (yJ (vJ 0) wJ))) zBA)) ((λ_ _=>R.no)) (JJ))
noncomputable def zAA:Rho->Sto->R Fl:=(zDJ)
noncomputable def bH:Rho->Sto->R Fl:=(iJ (bJ (dJ (yDX false) (vJ 3) (vJ 4)) asB) ((λ_ _=>R.no)) (JJ))
noncomputable def bI:Rho->Sto->R Fl:=(EJ (kJ (.bl true)) (DJ zWZ (vJ 4) (vJ 3)))
noncomputable def gH:Rho->Sto->R Fl:=zU (bH) ((bI))
def zAB:AF:=(FJ (bJ (yJ (vJ 1) wJ) itE) (gTp 2 (yF (gNm 2) (yF (gNm 3) jT))) (zAA))
def zAC:AF:=(CJ zJ 4)
def zAD:AF:=(FJ (bJ (yJ (vJ 1) wJ) itE) (gTp 2 (yF (gNm 2) (yF (gNm 3) jT))) (gH))
def zEI:AF:=zU (zAB) (zU (zAC) ((zAD)))
def dW(ds:List MV)(S:Sto):R Er:=yH (zEI (zN zLB ds) S)
def zGZ:AF:=(BJ (fJ 3 bZ (yJ (vJ 0) (yJ (vJ 1) (yJ (vJ 2) wJ)))))
def zHA:AF:=(BJ (fJ 1 gG (yJ (vJ 0) wJ)))
def zHB:AF:=(BJ (fJ 2 cA (yJ (vJ 0) (yJ (vJ 1) wJ))))
def zHC:AF:=(BJ (fJ 2 dW (yJ (vJ 0) (yJ (vJ 2) wJ))))
def zHD:AF:=(AJ (bJ (yJ (bJ (yJ (vJ 0) wJ) jM) (yJ (bJ (yJ (vJ 1) wJ) jM) (yJ (bJ (yJ (vJ 2) wJ) jM) wJ))) jY))
def zMU:AF:=zU (zGZ) (zU (zHA) (zU (zHB) (zU (zHC) ((zHD)))))
def bK(ds:List MV)(S:Sto):R Er:=yH (zMU (zN yS ds) S)
def bL:AF:=(iJ (bJ (dJ ltF (vJ 1) (bJ (yJ (vJ 0) wJ) wF)) asB) ((AJ (dJ ixF (vJ 0) (vJ 1)))) (JJ))
def zMV:AF:=(AJ (kJ (.int 0)))
def zAE:AF:=zU (bL) ((zMV))
def yK(ds:List MV)(S:Sto):R Er:=yH (zAE (zN ["_law_script","_law_k"] ds) S)
def zEJ:AF:=(iJ (bJ (dJ eqF (dJ kE (vJ 0) (kJ (.int 2))) (kJ (.int 0))) asB) ((AJ (dJ kE (dJ nN (vJ 0) (kJ (.int 2))) (dJ zFZ (dJ zFZ (kJ (.int 10)) (kJ (.int 60))) (kJ (.int 10)))))) (JJ))
def zEK:AF:=(CJ (dJ kE (dJ zRU (dJ wM (dJ kE (vJ 0) (kJ (.int 2147483629))) (kJ (.int 7))) (kJ (.int 48271))) (vJ 1)) 2)
def zEL:AF:=(AJ (dJ wM (dJ zRU (dJ kE (dJ zRU (vJ 2) (vJ 2)) (kJ (.int 2147483579))) (kJ (.int 1000003))) (vJ 2)))
def zKB:AF:=zU (zEJ) (zU (zEK) ((zEL)))
def yV(ds:List MV)(S:Sto):R Er:=yH (zKB (zN zJG ds) S)
noncomputable def cX:Rho->Sto->R Fl:=(CJ (dJ wM (vJ 3) (dJ ixF (vJ 1) (dJ kE (vJ 2) (kJ (.int 26))))) 3)
noncomputable def cY:Rho->Sto->R Fl:=(CJ (dJ nN (vJ 2) (kJ (.int 26))) 2)
noncomputable def cB:Rho->Sto->R Fl:=zU (cX) ((cY))
def zIV:AF:=(CJ (kJ (.str [97,98,99,100,101,102,103,104,105,106,107,108,109,110,111,112,113,114,115,116,117,118,119,120,121,122])) 1)
def zBU:AF:=(CJ (dJ nN (vJ 0) (kJ (.int 8))) 2)
def zIW:AF:=(CJ (kJ (.str [])) 3)
def zBV:AF:=(FJ (bJ (yJ (dJ wM (kJ (.int 1)) (dJ kE (vJ 0) (kJ (.int 8)))) wJ) zFE) (gNm 4) (cB))
def zRX:AF:=(AJ (vJ 3))
def zNO:AF:=zU (zIV) (zU (zBU) (zU (zIW) (zU (zBV) ((zRX)))))
def jU(ds:List MV)(S:Sto):R Er:=yH (zNO (zN zGI ds) S)
def zBW:AF:=(CJ (fJ 2 yV (yJ (vJ 0) (yJ (kJ (.int 2147483587)) wJ))) 1)
def zIX:AF:=(CJ (kJ (.str [97,98,99,100,101,102,103,104,105,106,107,108,109,110,111,112,113,114,115,116,117,118,119,120,121,122])) 2)
def zBX:AF:=(CJ (fJ 1 jU (yJ (vJ 1) wJ)) 3)
def zBY:AF:=(CJ (dJ nN (vJ 1) (dJ zRU (kJ (.int 8)) (dJ zFZ (kJ (.int 26)) (kJ (.int 8))))) 1)
def zBZ:AF:=(CJ (dJ kE (vJ 1) (bJ (yJ (vJ 3) wJ) wF)) 4)
def zCA:AF:=(CJ (dJ wM (dJ wM (eJ zPP zWS (vJ 2) (yJ (dJ ixF (vJ 3) (vJ 4)) wJ)) (kJ (.int 1))) (dJ kE (dJ nN (vJ 1) (kJ (.int 8))) (kJ (.int 25)))) 5)
def zCB:AF:=(CJ (dJ wM (dJ wM (tJ zNX (vJ 3) mJ (bJ (vJ 4) asI)) (dJ ixF (vJ 2) (dJ kE (vJ 5) (kJ (.int 26))))) (tJ zNX (vJ 3) (bJ (dJ wM (vJ 4) (kJ (.int 1))) asI) mJ)) 6)
def zCC:AF:=(CJ (dJ nN (vJ 1) (kJ (.int 200))) 1)
def zCD:AF:=(CJ (dJ wM (dJ kE (dJ zFZ (dJ wM (dJ zRU (dJ kE (vJ 1) (dJ zFZ (kJ (.int 10)) (kJ (.int 30)))) (kJ (.int 48271))) (kJ (.int 11))) (kJ (.int 4))) (dJ yGJ (dJ zFZ (kJ (.int 10)) (kJ (.int 30))) (kJ (.int 3)))) (kJ (.int 1))) 7)
def gI:AF:=(iJ (bJ (dJ eqF (dJ kE (vJ 1) (kJ (.int 2))) (kJ (.int 1))) asB) ((CJ (dJ wM (dJ kE (dJ nN (vJ 1) (kJ (.int 2))) (dJ yGJ (dJ zFZ (kJ (.int 10)) (kJ (.int 30))) (kJ (.int 3)))) (kJ (.int 1))) 7)) (JJ))
def zAF:AF:=(AJ (bJ (yJ (dJ kE (dJ nN (vJ 1) (kJ (.int 64))) (kJ (.int 5))) (yJ (vJ 7) (yJ (vJ 3) (yJ (dJ yGJ (kJ (.int 0)) (vJ 7)) (yJ (vJ 6) (yJ (dJ wM (dJ kE (dJ nN (vJ 1) (kJ (.int 320))) (kJ (.int 5))) (kJ (.int 7))) (yJ (dJ wM (vJ 7) (kJ (.int 1))) wJ))))))) jZ))
def zNP:AF:=zU (zBW) (zU (zIX) (zU (zBX) (zU (zBY) (zU (zBZ) (zU (zCA) (zU (zCB) (zU (zCC) (zU (zCD) (zU (gI) ((zAF)))))))))))
def jV(ds:List MV)(S:Sto):R Er:=yH (zNP (zN zGJ ds) S)
noncomputable def gK:Rho->Sto->R Fl:=(CJ (dJ wM (kJ (.int 1)) (dJ kE (vJ 2) (kJ (.int 4)))) 6)
noncomputable def gL:Rho->Sto->R Fl:=(BJ (eJ zIR zWT (vJ 4) (yJ (bJ (yJ (vJ 6) (yJ (dJ kE (dJ nN (vJ 2) (kJ (.int 4))) (dJ wM (vJ 6) (kJ (.int 1)))) wJ)) jY) wJ)))
noncomputable def gM:Rho->Sto->R Fl:=(CJ (dJ nN (vJ 2) (kJ (.int 20))) 2)
noncomputable def jG:Rho->Sto->R Fl:=zU (gK) (zU (gL) ((gM)))
def cZ:AF:=(CJ (fJ 2 yV (yJ (vJ 0) (yJ (kJ (.int 2147483629)) wJ))) 2)
def dA:AF:=(CJ (dJ wM (kJ (.int 1)) (dJ kE (vJ 2) (vJ 1))) 3)
def dB:AF:=(CJ (dJ nN (vJ 2) (vJ 1)) 2)
def dC:AF:=(CJ (bJ wJ jZ) 4)
def dE:AF:=(FJ (bJ (yJ (vJ 3) wJ) zFE) (gNm 5) (jG))
def dF:AF:=(AJ (bJ (yJ (vJ 4) wJ) jM))
def zIY:AF:=zU (cZ) (zU (dA) (zU (dB) (zU (dC) (zU (dE) ((dF))))))
def wZ(ds:List MV)(S:Sto):R Er:=yH (zIY (zN zBP ds) S)
noncomputable def zAG:Rho->Sto->R Fl:=(BJ (eJ zIR zWT (vJ 6) (yJ (dJ ixF (vJ 2) (dJ kE (vJ 4) (vJ 3))) wJ)))
noncomputable def zAH:Rho->Sto->R Fl:=(CJ (dJ nN (vJ 4) (vJ 3)) 4)
noncomputable def dX:Rho->Sto->R Fl:=zU (zAG) ((zAH))
def zEM:AF:=(CJ (fJ 2 yV (yJ (vJ 0) (yJ (kJ (.int 2147483563)) wJ))) 4)
def zEN:AF:=(CJ (dJ kE (vJ 4) (bJ (yJ (vJ 1) wJ) wF)) 5)
def zEO:AF:=(CJ (dJ nN (vJ 4) (bJ (yJ (vJ 1) wJ) wF)) 4)
def zEP:AF:=(CJ (bJ wJ jZ) 6)
def zEQ:AF:=(FJ (bJ (yJ (dJ ixF (dJ ixF (vJ 1) (vJ 5)) (kJ (.int 0))) wJ) zFE) (gNm 7) (dX))
def zER:AF:=(AJ (bJ (yJ (vJ 5) (yJ (bJ (yJ (vJ 6) wJ) jM) wJ)) jY))
def zQL:AF:=zU (zEM) (zU (zEN) (zU (zEO) (zU (zEP) (zU (zEQ) ((zER))))))
def bM(ds:List MV)(S:Sto):R Er:=yH (zQL (zN zJH ds) S)
noncomputable def dG:Rho->Sto->R Fl:=(CJ (fJ 4 bM (yJ (vJ 5) (yJ (vJ 1) (yJ (vJ 2) (yJ (vJ 3) wJ))))) 6)
noncomputable def wX:Rho->Sto->R Fl:=(iJ (bJ (dJ (inF true) (vJ 6) (vJ 4)) asB) ((BJ (eJ zIR zWT (vJ 4) (yJ (vJ 6) wJ)))) (JJ))
noncomputable def kX:Rho->Sto->R Fl:=zU (dG) ((wX))
def zCE:AF:=(CJ (bJ wJ jZ) 4)
def zCF:AF:=(FJ (bJ (vJ 0) itL) (gNm 5) (kX))
def zCG:AF:=(AJ (bJ (yJ (vJ 4) wJ) jM))
def zNQ:AF:=zU (zCE) (zU (zCF) ((zCG)))
def jW(ds:List MV)(S:Sto):R Er:=yH (zNQ (zN zGK ds) S)
def zCH:AF:=(CJ (dJ kE (dJ ixF (vJ 0) (kJ (.int 0))) (vJ 1)) 2)
def zCI:AF:=(EJ (dJ nN (dJ ixF (vJ 0) (kJ (.int 0))) (vJ 1)) (DJ zWU (vJ 0) (kJ (.int 0))))
def zRY:AF:=(AJ (vJ 2))
def zNR:AF:=zU (zCH) (zU (zCI) ((zRY)))
def zY(ds:List MV)(S:Sto):R Er:=yH (zNR (zN zGL ds) S)
def kY:AF:=(iJ (bJ (dJ eqF (fJ 2 zY (yJ (vJ 0) (yJ (kJ (.int 4)) wJ))) (kJ (.int 0))) asB) ((AJ (bJ (yJ (kJ (.str [105,115])) (yJ (dJ ixF (vJ 3) (fJ 2 zY (yJ (vJ 0) (yJ (kJ (.int 7)) wJ)))) wJ)) jY))) (JJ))
def zCJ:AF:=(CJ (fJ 2 zY (yJ (vJ 0) (yJ (bJ (yJ (vJ 1) wJ) wF) wJ))) 4)
def zCK:AF:=(AJ (bJ (yJ (kJ (.str [99,101,108,108])) (yJ (vJ 4) (yJ (fJ 2 zY (yJ (vJ 0) (yJ (dJ ixF (dJ ixF (vJ 2) (dJ ixF (vJ 1) (vJ 4))) (kJ (.int 0))) wJ))) wJ))) jY))
def zHE:AF:=zU (kY) (zU (zCJ) ((zCK)))
def wB(ds:List MV)(S:Sto):R Er:=yH (zHE (zN zGM ds) S)
noncomputable def bN:Rho->Sto->R Fl:=(CJ (dJ ixF (bJ (yJ (kJ (.str [115,97,109,101])) (yJ (kJ (.str [117,110,108,105,107,101])) (yJ (kJ (.str [108,101,115,115])) wJ))) jZ) (fJ 2 zY (yJ (vJ 0) (yJ (kJ (.int 3)) wJ)))) 6)
noncomputable def bO:Rho->Sto->R Fl:=(CJ (fJ 4 wB (yJ (vJ 0) (yJ (vJ 1) (yJ (vJ 2) (yJ (vJ 3) wJ))))) 7)
noncomputable def bP:Rho->Sto->R Fl:=(BJ (eJ zIR zWT (vJ 4) (yJ (bJ (yJ (vJ 7) (yJ (vJ 6) (yJ (fJ 4 wB (yJ (vJ 0) (yJ (vJ 1) (yJ (vJ 2) (yJ (vJ 3) wJ))))) wJ))) jY) wJ)))
noncomputable def gN:Rho->Sto->R Fl:=zU (bN) (zU (bO) ((bP)))
def zAI:AF:=(CJ (bJ wJ jZ) 4)
def zAJ:AF:=(FJ (bJ (yJ (dJ ixF (bJ (yJ (kJ (.int 1)) (yJ (kJ (.int 1)) (yJ (kJ (.int 2)) (yJ (kJ (.int 1)) (yJ (kJ (.int 2)) (yJ (kJ (.int 3)) wJ)))))) jZ) (fJ 2 zY (yJ (vJ 0) (yJ (kJ (.int 6)) wJ)))) wJ) zFE) (gNm 5) (gN))
def zAK:AF:=(AJ (bJ (yJ (vJ 4) wJ) jM))
def zLN:AF:=zU (zAI) (zU (zAJ) ((zAK)))
def xR(ds:List MV)(S:Sto):R Er:=yH (zLN (zN zDU ds) S)
def zFL:Rho->Sto->R Bool:=uJ
def jH:AE:=(fJ 2 zY (yJ (vJ 2) (yJ (dJ ixF (dJ ixF (vJ 1) (vJ 3)) (kJ (.int 0))) wJ)))
def zFM:Rho->Sto->R Bool:=uJ
def jI:AE:=(fJ 2 zY (yJ (vJ 2) (yJ (dJ ixF (dJ ixF (vJ 1) (vJ 3)) (kJ (.int 0))) wJ)))
def zCL:AF:=(CJ (bJ (yJ (fJ 2 yV (yJ (vJ 0) (yJ (kJ (.int 2147483543)) wJ))) wJ) jZ) 3)
def zCM:AF:=(CJ (fJ 2 zY (yJ (vJ 3) (yJ (kJ (.int 4)) wJ))) 4)
def zCN:AF:=(CJ (fJ 2 zY (yJ (vJ 3) (yJ (bJ (yJ (vJ 1) wJ) wF) wJ))) 5)
def zCO:AF:=(CJ (fJ 2 zY (yJ (vJ 3) (yJ (bJ (yJ (vJ 1) wJ) wF) wJ))) 6)
def kZ:AF:=(iJ (bJ (dJ eqF (vJ 4) (kJ (.int 0))) asB) ((AJ (bJ (yJ (kJ (.str [110,101,118,101,114])) (yJ (vJ 5) (yJ (fJ 4 xR (yJ (vJ 3) (yJ (bJ (yJ (vJ 5) wJ) jY) (yJ (vJ 1) (yJ (vJ 2) wJ))))) wJ))) jY))) (JJ))
def jA:AF:=(iJ (bJ (dJ ltF (vJ 4) (kJ (.int 3))) asB) ((AJ (bJ (yJ (kJ (.str [97,112,97,114,116])) (yJ (vJ 5) (yJ (vJ 6) (yJ (fJ 4 xR (yJ (vJ 3) (yJ (bJ (yJ (vJ 5) (yJ (vJ 6) wJ)) jY) (yJ (vJ 1) (yJ (vJ 2) wJ))))) wJ)))) jY))) (JJ))
def zCP:AF:=(CJ (dJ ixF (bJ (yJ (kJ (.int 1)) (yJ (kJ (.int 2)) (yJ (kJ (.int 1)) (yJ (kJ (.int 3)) (yJ (kJ (.int 1)) wJ))))) jZ) (fJ 2 zY (yJ (vJ 3) (yJ (kJ (.int 5)) wJ)))) 7)
def zCQ:AF:=(CJ (bJ (yJ (pJ (bJ (yJ (vJ 7) wJ) zFE) (gNm 0) (zFL) (jH) 1 [1,3,5]) wJ) jM) 8)
def zCR:AF:=(AJ (bJ (yJ (kJ (.str [116,105,101])) (yJ (vJ 5) (yJ (vJ 8) (yJ (vJ 6) (yJ (bJ (yJ (pJ (bJ (yJ (vJ 7) wJ) zFE) (gNm 0) (zFM) (jI) 1 [1,3,6]) wJ) jM) wJ))))) jY))
def zBI:AF:=zU (zCL) (zU (zCM) (zU (zCN) (zU (zCO) (zU (kZ) (zU (jA) (zU (zCP) (zU (zCQ) ((zCR)))))))))
def wC(ds:List MV)(S:Sto):R Er:=yH (zBI (zN cJ ds) S)
def zCS:AF:=(CJ (bJ (yJ (kJ (.str [105,115])) (yJ (dJ kE (vJ 0) (kJ (.int 7))) wJ)) jY) 2)
def zCT:AF:=(AJ (bJ (yJ (kJ (.str [110,101,118,101,114])) (yJ (dJ kE (dJ nN (vJ 0) (kJ (.int 7))) (bJ (yJ (vJ 1) wJ) wF)) (yJ (bJ (yJ (bJ (yJ (vJ 2) (yJ (kJ (.str [115,97,109,101])) (yJ (bJ (yJ (kJ (.str [105,115])) (yJ (dJ wM (dJ wM (dJ kE (vJ 0) (kJ (.int 7))) (kJ (.int 1))) (dJ kE (dJ nN (vJ 0) (kJ (.int 28))) (kJ (.int 5)))) wJ)) jY) wJ))) jY) wJ) jY) wJ))) jY))
def zNS:AF:=zU (zCS) ((zCT))
def jX(ds:List MV)(S:Sto):R Er:=yH (zNS (zN zGN ds) S)
def zAL:AF:=(CJ (bJ (yJ (bJ (vJ 0) (zFO XNS "TooGreat")) (yJ (bJ (vJ 0) (zFO XNS "NoTable")) (yJ (bJ (vJ 0) (zFO XNS "NoRule")) (yJ (bJ (vJ 0) (zFO XNS "NoRow")) wJ)))) jZ) 1)
def zAM:AF:=(CJ (dJ wM (vJ 1) (bJ (yJ (bJ (vJ 0) (zFO XNS "Twice")) (yJ (bJ (vJ 0) (zFO XNS "NoText")) (yJ (bJ (vJ 0) (zFO XNS "NoPlace")) (yJ (bJ (vJ 0) (zFO XNS "NotPlain")) wJ)))) jZ)) 1)
def zAN:AF:=(CJ (dJ wM (vJ 1) (bJ (yJ (bJ (vJ 0) (zFO XNS "NoQuestion")) (yJ (bJ (vJ 0) (zFO XNS "Double")) (yJ (bJ (vJ 0) (zFO XNS "TooWide")) (yJ (bJ (vJ 0) (zFO XNS "Ring")) wJ)))) jZ)) 1)
def zHF:AF:=(AJ (vJ 1))
def zES:AF:=zU (zAL) (zU (zAM) (zU (zAN) ((zHF))))
def gO(ds:List MV)(S:Sto):R Er:=yH (zES (zN zLC ds) S)
noncomputable def zAO:Rho->Sto->R Fl:=(CJ (dJ wM (fJ 1 gO (yJ (vJ 4) wJ)) (bJ (yJ (bJ (vJ 4) (yHD XNS)) wJ) jZ)) 3)
noncomputable def kQ:Rho->Sto->R Fl:=(zAO)
def zAP:Rho->Sto->R Bool:=uJ
def jO:AE:=(dJ eqF (vJ 0) (kJ (.int 7)))
def zDK:AF:=(CJ (bJ wJ jZ) 3)
def bQ:AF:=(MJ XNS 4 kQ (LJ (bJ (dJ eqF (vJ 1) (kJ (.int 0))) asB) (KJ 1 wW (yJ (vJ 0) wJ)) (LJ (bJ (dJ eqF (vJ 1) (kJ (.int 1))) asB) (KJ 1 xV (yJ (vJ 0) wJ)) (KJ 2 zLH (yJ (vJ 0) (yJ (vJ 2) wJ))))))
def bR:AF:=(AJ (dJ eqF (vJ 3) (dJ wM (pJ (bJ (yJ (kJ (.int 12)) wJ) zFE) (gNm 0) (zAP) (jO) 1 []) (bJ (yJ (kJ (.bl true)) wJ) jZ))))
def zAQ:AF:=zU (zDK) (zU (bQ) ((bR)))
def gP(ds:List MV)(S:Sto):R Er:=yH (zAQ (zN nQ ds) S)
def zTA:Rho->Sto->R Bool:=uJ
def zMW:AE:=(fJ 3 wC (yJ (fJ 2 yK (yJ (vJ 1) (yJ (dJ wM (kJ (.int 3)) (vJ 0)) wJ))) (yJ (vJ 3) (yJ (vJ 2) wJ))))
noncomputable def zTB:Rho->Sto->R Fl:=(iJ (sJ (qJ (bJ (fJ 3 gP (yJ (vJ 6) (yJ (dJ kE (vJ 8) (kJ (.int 3))) (yJ (dJ ixF (vJ 7) (dJ kE (vJ 8) (kJ (.int 4)))) wJ)))) zBA)) (bJ (dJ neF (vJ 6) (bJ (yJ (vJ 2) (yJ (bJ (yJ (vJ 4) wJ) jM) (yJ (vJ 5) wJ))) jY)) asB)) ((AJ (kJ (.bl false)))) (JJ))
noncomputable def zOI:Rho->Sto->R Fl:=(zTB)
noncomputable def zTC:Rho->Sto->R Fl:=(CJ (dJ wM (vJ 10) (vJ 11)) 10)
noncomputable def zOJ:Rho->Sto->R Fl:=(zTC)
def zUW:AF:=(CJ (fJ 1 jV (yJ (fJ 2 yK (yJ (vJ 0) (yJ (kJ (.int 0)) wJ))) wJ)) 1)
def zUX:AF:=(CJ (fJ 2 wZ (yJ (fJ 2 yK (yJ (vJ 0) (yJ (kJ (.int 1)) wJ))) (yJ (kJ (.int 4)) wJ))) 2)
def zUY:AF:=(CJ (fJ 2 yK (yJ (vJ 0) (yJ (kJ (.int 2)) wJ))) 3)
def zUZ:AF:=(CJ (pJ (bJ (yJ (dJ wM (kJ (.int 1)) (dJ kE (vJ 3) (kJ (.int 6)))) wJ) zFE) (gNm 0) (zTA) (zMW) 1 [0,1,2]) 4)
def zOK:AF:=(iJ (bJ (dJ eqF (dJ kE (dJ nN (vJ 3) (kJ (.int 6))) (kJ (.int 3))) (kJ (.int 0))) asB) ((CJ (bJ (yJ (fJ 2 jX (yJ (dJ nN (vJ 3) (kJ (.int 18))) (yJ (vJ 2) wJ))) wJ) jZ) 4)) (JJ))
def zVA:AF:=(CJ (fJ 4 jW (yJ (tJ zNX (vJ 0) (bJ (kJ (.int 9)) asI) (bJ (kJ (.int 29)) asI)) (yJ (vJ 2) (yJ (vJ 1) (yJ (dJ wM (kJ (.int 2)) (dJ kE (dJ nN (vJ 3) (kJ (.int 7))) (kJ (.int 6)))) wJ))))) 5)
def zVB:AF:=(CJ (fJ 3 bK (yJ (vJ 2) (yJ (vJ 4) (yJ (vJ 5) wJ)))) 6)
def zVC:AF:=(CJ (bJ (yJ (kJ (.int 0)) (yJ (kJ (.int 1)) (yJ (kJ (.int (-1))) (yJ (dJ kE (vJ 3) (dJ zFZ (kJ (.int 10)) (kJ (.int 30)))) wJ)))) jZ) 7)
def zVD:AF:=(FJ (bJ (yJ (kJ (.int 6)) wJ) zFE) (gNm 8) (zOI))
def zQM:AF:=(CJ (fJ 3 bK (yJ (vJ 2) (yJ (bJ wJ jY) (yJ (vJ 5) wJ)))) 9)
def zXE:AF:=(CJ (bJ wJ jZ) 10)
def zQN:AF:=(FJ (bJ (fJ 1 wW (yJ (vJ 9) wJ)) itL) (gNm 11) (zOJ))
def zQO:AF:=(AJ (aJ (dJ (zZV false) (fJ 1 wO (yJ (vJ 6) wJ)) (kJ (.bl false))) (aJ (dJ (zZV false) (fJ 1 wO (yJ (vJ 9) wJ)) (kJ (.bl true))) (dJ eqF (bJ (yJ (vJ 10) wJ) zXA) (bJ (yJ (bJ (yJ (vJ 5) wJ) wF) wJ) zXB)))))
def yMN:AF:=zU (zUW) (zU (zUX) (zU (zUY) (zU (zUZ) (zU (zOK) (zU (zVA) (zU (zVB) (zU (zVC) (zU (zVD) (zU (zQM) (zU (zXE) (zU (zQN) ((zQO)))))))))))))
def zTD(ds:List MV)(S:Sto):R Er:=yH (yMN (zN yCH ds) S)
end
def abc:List Nat:=[97,98,99,100,101,102,103,104,105,106,107,108,109,110,111,112,113,114,115,116,117,118,119,120,121,122]
theorem yEJ(c n:Int)(x:List Nat)(s:Option MV)(S:Sto)(h:x.length<=1000): ∃k,(97<=k/\k<=122)/\cB [some (.int c),some (.str abc),some (.int n),some (.str x),s] S=
  .ok (.next [some (.int c),some (.str abc),some (.int (n / 26)),some (.str (x++[k])),s]) S:=by
 obtain⟨k,hk⟩:=dS (xs:=abc) (i:=n % 26) (eN _ (by decide)) (by have:=eL n (show(0:Int)<26 by decide);show n % 26<26;exact this)
 refine⟨k,dU (P:=λk=>97<=k/\k<=122) (by decide) hk,?_⟩
 have h1:cX [some (.int c),some (.str abc),some (.int n),some (.str x),s] S=.ok (.next [some (.int c),some (.str abc),some (.int n),some (.str (x++[k])),s]) S:=by
  unfold cX
  simp? [mod_lit (show(0:Int)<26 by decide),ix_str (show abc.length<=sizeLine by rw [sizeLine_eq];decide) hk]
  rw [add_str (fits (by rw [lS];omega))]
  rfl
 have h2:cY [some (.int c),some (.str abc),some (.int n),some (.str (x++[k])),s] S=.ok (.next [some (.int c),some (.str abc),some (.int (n / 26)),some (.str (x++[k])),s]) S:=by
  unfold cY
  simp? [xP (b:=26) (by decide) (by decide)]
 unfold cB
 rw [zE h1,h2]
theorem zTE(c:Int)(S:Sto): ∀(ds:List MV)(n:Int)(x:List Nat)(s:Option MV),x.length+ds.length<=1000->(∀c∈x,97<=c/\c<=122)-> ∃n' x' s',zDR (gNm 4) cB [] ds [some (.int c),some (.str abc),some (.int n),some (.str x),s] S=
  .ok (.next [some (.int c),some (.str abc),some (.int n'),some (.str x'),s']) S/\x'.length=x.length+ds.length/\ ∀c∈x',97<=c/\c<=122
 |[],n,x,s,_,hx=>⟨n,x,s,rfl,rfl,hx⟩
 |d::ds,n,x,s,h,hx=>by
  rw [lC0]at h
  obtain⟨k,hl,hk⟩:=yEJ c n x (some d) S (by omega)
  obtain⟨n',x',s',h1,h2,h3⟩:=zTE c S ds (n / 26) (x++[k]) (some d) (by rw [lA,lS];omega) (by
   intro c hc
   rw [mem_append,mS]at hc
   rcases hc with hc|rfl
   ·exact hx c hc
   ·exact hl)
  refine⟨n',x',s',?_,by rw [h2,lA,lS,lC0];omega,h3⟩
  rw [nO rfl hk (kR S)]
  exact h1
theorem yLJ(c:Int)(S:Sto): ∃x,jU [.int c] S=.ok (.val (.str x)) S/\Nm x:=by
 have hm0:0<=c % 8:=eN _ (by decide)
 have hm1:c % 8<8:=eL _ (by decide)
 have hn:((List.range (1+c % 8).toNat).map λk=>MV.int (k:Nat)).length=(1+c % 8).toNat:=by rw [lM0,length_range]
 obtain⟨n',x',s',h1,h2,h3⟩:=zTE c S ((List.range (1+c % 8).toNat).map λk=>MV.int (k:Nat)) (c / 8) [] none (by rw [hn];simp only [length_nil];omega) (by simp)
 rw [hn,length_nil]at h2
 refine⟨x',?_,by omega,by omega,h3⟩
 have e1:zIV [some (.int c),none,none,none,none] S=.ok (.next [some (.int c),some (.str abc),none,none,none]) S:=rfl
 have e2:zBU [some (.int c),some (.str abc),none,none,none] S=.ok (.next [some (.int c),some (.str abc),some (.int (c / 8)),none,none]) S:=by
  unfold zBU
  simp? [xP (b:=8) (by decide) (by decide)]
 have e3:zIW [some (.int c),some (.str abc),some (.int (c / 8)),none,none] S=.ok (.next [some (.int c),some (.str abc),some (.int (c / 8)),some (.str []),none]) S:=rfl
 have e4:zBV [some (.int c),some (.str abc),some (.int (c / 8)),some (.str []),none] S=.ok (.next [some (.int c),some (.str abc),some (.int n'),some (.str x'),s']) S:=by
  unfold zBV
  simp? [mod_lit (show(0:Int)<8 by decide)]
  rw [zDT (by omega),bok]
  exact h1
 have hs:zN zGI [.int c]=[some (.int c),none,none,none,none]:=rfl
 unfold jU zNO
 rw [hs,zE e1,zE e2,zE e3,zE e4]
 rfl
theorem p1060(S:Sto):zFZ (.val (.int 10)) (.val (.int 60)) S=.ok (.val (.int (10 ^ 60))) S:=rfl
theorem p600(S:Sto):zFZ (.val (.int (10 ^ 60))) (.val (.int 10)) S=.ok (.val (.int ((10 ^ 60) ^ 10))) S:=by
 show(if yDO (10 ^ 60) 10 then R.ok (Er.val (.int ((10 ^ 60) ^ (10:Int).toNat))) S else .no)=_
 rw [iP (by decide+kernel)]
 rfl
theorem pp30(S:Sto):zFZ (.val (.int 10)) (.val (.int 30)) S=.ok (.val (.int (10 ^ 30))) S:=rfl
theorem pp268(S:Sto):zFZ (.val (.int 26)) (.val (.int 8)) S=.ok (.val (.int 208827064576)) S:=rfl
theorem yCI{b:Int}(h:zZM 0 b)(a:Int)(S:Sto):nN (.val (.int a)) (.val (.int b)) S=.ok (.val (.int (a / b))) S:=iP (show zZM a b from h)
theorem yPQ{a:Int}(h:0<=a/\a<4294967296)(S:Sto):zRU (.val (.int a)) (.val (.int a)) S=.ok (.val (.int (a * a))) S:=
 zOE ⟨Int.lt_of_lt_of_le (by decide) h.1,Int.lt_trans h.2 (by decide)⟩ a S
theorem zVE(c p:Int)(hp:0<p/\p<4294967296)(S:Sto): ∃n,zP 2 yV [.val (.int c),.val (.int p)] S=.ok (.val (.int n)) S:=by
 have hs:zN zJG [.int c,.int p]=[some (.int c),some (.int p),none]:=rfl
 have h600:(0:Int)<(10 ^ 60) ^ 10:=Int.pow_pos (Int.pow_pos (by decide))
 have e1:zEJ [some (.int c),some (.int p),none] S=if decide (c % 2=0)=true then .ok (.ret (.val (.int (c / 2 % (10 ^ 60) ^ 10)))) S else .ok (.next [some (.int c),some (.int p),none]) S:=by
  unfold zEJ
  simp? [mod_lit (show(0:Int)<2 by decide),xP (b:=2) (by decide) (by decide),p1060,p600,mod_lit h600]
 have fin: ∀n,yV [.int c,.int p] S=.ok (.val (.int n)) S-> ∃n,zP 2 yV [.val (.int c),.val (.int p)] S=.ok (.val (.int n)) S:=λn h=>⟨n,bB rfl h (kH _ _) (λl=>by simp)⟩
 cases hb:decide (c % 2=0)with
 |true=>
  refine fin (c / 2 % (10 ^ 60) ^ 10) ?_
  rw [hb,iP rfl]at e1
  unfold yV zKB
  rw [hs,dR e1]
  rfl
 |false=>
  rw [hb,iN0 xF0]at e1
  have hn0:0<=(c % 2147483629+7) * 48271 % p:=eN _ (by omega)
  have hn1:(c % 2147483629+7) * 48271 % p<p:=eL _ hp.1
  have e2:zEK [some (.int c),some (.int p),none] S=.ok (.next [some (.int c),some (.int p),some (.int ((c % 2147483629+7) * 48271 % p))]) S:=by
   unfold zEK
   simp? [mod_lit (show(0:Int)<2147483629 by decide),zOE (show -(2 ^ 64)<(48271:Int)/\(48271:Int)<2 ^ 64 by decide),mod_lit hp.1]
  generalize (c % 2147483629+7) * 48271 % p=m at hn0 hn1 e2
  have e3:zEL [some (.int c),some (.int p),some (.int m)] S=.ok (.ret (.val (.int (m * m % 2147483579 * 1000003+m)))) S:=by
   unfold zEL
   simp? [yPQ (a:=m) ⟨hn0,by omega⟩,mod_lit (show(0:Int)<2147483579 by decide),zOE (show -(2 ^ 64)<(1000003:Int)/\(1000003:Int)<2 ^ 64 by decide)]
  refine fin (m * m % 2147483579 * 1000003+m) ?_
  unfold yV zKB
  rw [hs,zE e1,zE e2,e3]
  rfl
theorem yLK: ∀k,k<26->strIdx abc [97+k]=some k:=by decide+kernel
abbrev P8(c n:Int)(a b x4 x5 x6 x7:Option MV):Rho:=[some (.int c),some (.int n),a,b,x4,x5,x6,x7]
section
variable{c n:Int}{a b x4 x5 x6 x7:Option MV}{S:Sto}{x:List Nat}{at' tn:Int}
theorem po4:zBY (P8 c n a b x4 x5 x6 x7) S=.ok (.next (P8 c (n / 1670616516608) a b x4 x5 x6 x7)) S:=by
 unfold zBY
 simp? [pp268,yHA (show -(2 ^ 64)<(8:Int)/\(8:Int)<2 ^ 64 by decide),yCI (show zZM 0 (8 * 208827064576) by decide+kernel)]
 rfl
theorem po5(hx:Nm x):zBZ (P8 c n a (some (.str x)) x4 x5 x6 x7) S=.ok (.next (P8 c n a (some (.str x)) (some (.int (n % x.length))) x5 x6 x7)) S:=by
 have hl:wF [.val (.str x)] S=.ok (.val (.int x.length)) S:=iP (fits (by have:=hx.2.1;omega))
 have hp:(0:Int)<(x.length:Int):=by have:=hx.1;omega
 unfold zBZ
 simp? [hl,mod_lit hp]
theorem po6(hx:Nm x)(h0:0<=at')(h1:at'<x.length): ∃tn,zCA (P8 c n (some (.str abc)) (some (.str x)) (some (.int at')) x5 x6 x7) S=.ok (.next (P8 c n (some (.str abc)) (some (.str x)) (some (.int at')) (some (.int tn)) x6 x7)) S:=by
 obtain⟨k,hk⟩:=dS (xs:=x) h0 h1
 obtain⟨k0,k1⟩:=dU (P:=λc=>97<=c/\c<=122) hx.2.2 hk
 have hi:=yLK (k - 97) (by omega)
 rw [show 97+(k - 97)=k by omega]at hi
 have hsi:zWS (.val (.str abc)) [.val (.str [k])] S=.ok (.val (.int ((k - 97:Nat):Int))) S:=by
  show(match strIdx abc [k]with |some i=>R.ok (Er.val (.int (i:Nat))) S|none=>.no)=_
  rw [hi]
 refine⟨((k - 97:Nat):Int)+1+n / 8 % 25,?_⟩
 unfold zCA
 simp? [ix_str (S:=S) (fits (show x.length<=1000000 by have:=hx.2.1;omega)) hk,show zPP (.val (.str abc)) S=true from rfl,hsi,xP (b:=8) (by decide) (by decide),mod_lit (show(0:Int)<25 by decide)]
theorem po7(hx:Nm x)(h0:0<=at')(h1:at'<x.length): ∃y,Nm y/\zCB (P8 c n (some (.str abc)) (some (.str x)) (some (.int at')) (some (.int tn)) x6 x7) S=.ok (.next (P8 c n (some (.str abc)) (some (.str x)) (some (.int at')) (some (.int tn)) (some (.str y)) x7)) S:=by
 obtain⟨k,hk⟩:=dS (xs:=abc) (i:=tn % 26) (eN _ (by decide)) (by have:=eL tn (show(0:Int)<26 by decide);show tn % 26<26;exact this)
 have hkl:=dU (P:=λk=>97<=k/\k<=122) (by decide) hk
 have c1:cF x none (some at')=x.take at'.toNat:=yBV _ _ h0
 have c2:cF x (some (at'+1)) none=x.drop (at'.toNat+1):=by
  unfold cF
  have z1:HT.sIx x.length 0 (some (at'+1))=at'.toNat+1:=by
   unfold HT.sIx
   simp only
   split<;>omega
  have z2:HT.sIx x.length x.length none=x.length:=rfl
  rw [z1,z2]
  rw [List.take_of_length_le (by rw [length_drop];omega)]
 have hlen:=hx.2.1
 refine⟨x.take at'.toNat++[k]++x.drop (at'.toNat+1),⟨?_,?_,?_⟩,?_⟩
 ·simp only [lA,lS];omega
 ·simp only [lA,lS,lT,length_drop];omega
 ·intro z hz
  rw [mem_append,mem_append,mS]at hz
  rcases hz with(hz|rfl)|hz
  ·exact hx.2.2 z (List.mem_of_mem_take hz)
  ·exact hkl
  ·exact hx.2.2 z (List.mem_of_mem_drop hz)
 ·unfold zCB
  simp? [cut_str (S:=S) (fits (show x.length<=1000000 by omega)),c1,mod_lit (show(0:Int)<26 by decide),ix_str (show abc.length<=sizeLine by rw [sizeLine_eq];decide) hk,c2]
  rw [add_str (x:=x.take at'.toNat) (y:=[k]) (fits (by rw [lS,lT];omega)),bok]
  simp? [cut_str (S:=S) (fits (show x.length<=1000000 by omega)),c2]
  rw [add_str (fits (by simp only [lA,lS,lT,length_drop];omega)),bok]
  rfl
theorem po8:zCC (P8 c n a b x4 x5 x6 x7) S=.ok (.next (P8 c (n / 200) a b x4 x5 x6 x7)) S:=by
 unfold zCC
 simp? [xP (b:=200) (by decide) (by decide)]
theorem po9: ∃g,(1<=g/\g<=10 ^ 30 - 3)/\zCD (P8 c n a b x4 x5 x6 x7) S=.ok (.next (P8 c n a b x4 x5 x6 (some (.int g)))) S:=by
 have h0:0<=n % 10 ^ 30:=eN _ (by decide)
 have h1:n % 10 ^ 30<10 ^ 30:=eL _ (by decide)
 have h2:0<=(n % 10 ^ 30 * 48271+11) ^ (4:Int).toNat % (10 ^ 30 - 3):=eN _ (by decide)
 have h3:(n % 10 ^ 30 * 48271+11) ^ (4:Int).toNat % (10 ^ 30 - 3)<10 ^ 30 - 3:=eL _ (by decide)
 have h4:yDO (n % 10 ^ 30 * 48271+11) 4:=by
  refine⟨by decide,?_⟩
  have hb:Builtin.Int.intBits (n % 10 ^ 30 * 48271+11)<=200:=by
   unfold Builtin.Int.intBits
   split
   ·omega
   ·rename_i hn
    have hn':(n % 10 ^ 30 * 48271+11).natAbs≠0:=by omega
    have:=(Nat.log2_lt hn').mpr (show(n % 10 ^ 30 * 48271+11).natAbs<2 ^ 199 by omega)
    omega
  omega
 refine⟨(n % 10 ^ 30 * 48271+11) ^ (4:Int).toNat % (10 ^ 30 - 3)+1,⟨by omega,by omega⟩,?_⟩
 unfold zCD
 simp? [pp30,mod_lit (show(0:Int)<10 ^ 30 by decide),zOE (show -(2 ^ 64)<(48271:Int)/\(48271:Int)<2 ^ 64 by decide),yKS h4,mod_lit (show(0:Int)<10 ^ 30 - 3 by decide)]
theorem po10{g:Int}(hg:1<=g/\g<=10 ^ 30 - 3): ∃g',(1<=g'/\g'<=10 ^ 30 - 3)/\gI (P8 c n a b x4 x5 x6 (some (.int g))) S=.ok (.next (P8 c n a b x4 x5 x6 (some (.int g')))) S:=by
 have h2:0<=n / 2 % (10 ^ 30 - 3):=eN _ (by decide)
 have h3:n / 2 % (10 ^ 30 - 3)<10 ^ 30 - 3:=eL _ (by decide)
 have e:gI (P8 c n a b x4 x5 x6 (some (.int g))) S=if decide (n % 2=1)=true then .ok (.next (P8 c n a b x4 x5 x6 (some (.int (n / 2 % (10 ^ 30 - 3)+1))))) S else .ok (.next (P8 c n a b x4 x5 x6 (some (.int g)))) S:=by
  unfold gI
  simp? [mod_lit (show(0:Int)<2 by decide),xP (b:=2) (by decide) (by decide),pp30,mod_lit (show(0:Int)<10 ^ 30 - 3 by decide)]
 cases hb:decide (n % 2=1)with
 |true=>exact⟨n / 2 % (10 ^ 30 - 3)+1,⟨by omega,by omega⟩,by rw [e,hb,iP rfl]⟩
 |false=>exact⟨g,hg,by rw [e,hb,iN0 xF0]⟩
theorem lst7(a b c d e f g:MV)(S:Sto):jZ [.val a,.val b,.val c,.val d,.val e,.val f,.val g] S=.ok (.new [a,b,c,d,e,f,g]) S:=zGF (by simp)
theorem po11{g:Int}{y:List Nat}(hg:1<=g/\g<=10 ^ 30 - 3)(hx:Nm x)(hy:Nm y): ∃vs,vs.length=7/\(∀d∈vs,Vl d)/\zAF (P8 c n a (some (.str x)) x4 x5 (some (.str y)) (some (.int g))) S=.ok (.ret (.new vs)) S:=by
 have h0:0<=n / 64 % 5:=eN _ (by decide)
 have h1:n / 64 % 5<5:=eL _ (by decide)
 have h2:0<=n / 320 % 5:=eN _ (by decide)
 have h3:n / 320 % 5<5:=eL _ (by decide)
 refine⟨[.int (n / 64 % 5),.int g,.str x,.int (0 - g),.str y,.int (n / 320 % 5+7),.int (g+1)],rfl,?_,?_⟩
 ·intro d hd
  simp only [mC,nM0,or_false]at hd
  rcases hd with rfl|rfl|rfl|rfl|rfl|rfl|rfl
  ·exact⟨by omega,by omega⟩
  ·exact⟨by omega,by omega⟩
  ·exact hx
  ·exact⟨by omega,by omega⟩
  ·exact hy
  ·exact⟨by omega,by omega⟩
  ·exact⟨by omega,by omega⟩
 ·unfold zAF
  simp? [xP (b:=64) (by decide) (by decide),mod_lit (show(0:Int)<5 by decide),xP (b:=320) (by decide) (by decide),lst7]
end
theorem yLL(c:Int)(S:Sto): ∃vs,vs.length=7/\(∀d∈vs,Vl d)/\zP 1 jV [.val (.int c)] S=.ok (.new vs) S:=by
 obtain⟨n,hn⟩:=zVE c 2147483587 ⟨by decide,by decide⟩ S
 obtain⟨x,hx,nx⟩:=yLJ n S
 have hc:zP 1 jU [.val (.int n)] S=.ok (.val (.str x)) S:=bB rfl hx (zGC _ x) (λl=>by simp)
 have hs:zN zGJ [.int c]=[some (.int c),none,none,none,none,none,none,none]:=rfl
 have e1:zBW [some (.int c),none,none,none,none,none,none,none] S=.ok (.next (P8 c n none none none none none none)) S:=by
  unfold zBW
  simp? [hn]
 have e2:zIX (P8 c n none none none none none none) S=.ok (.next (P8 c n (some (.str abc)) none none none none none)) S:=rfl
 have e3:zBX (P8 c n (some (.str abc)) none none none none none) S=.ok (.next (P8 c n (some (.str abc)) (some (.str x)) none none none none)) S:=by
  unfold zBX
  simp? [hc]
 have hp:0<x.length:=by have:=nx.1;omega
 have hm0:0<=n / 1670616516608 % (x.length:Int):=eN _ (by omega)
 have hm1:n / 1670616516608 % (x.length:Int)<x.length:=eL _ (by omega)
 obtain⟨tn,e6⟩:=po6 (c:=c) (n:=n / 1670616516608) (x5:=none) (x6:=none) (x7:=none) (S:=S) nx hm0 hm1
 obtain⟨y,ny,e7⟩:=po7 (c:=c) (n:=n / 1670616516608) (tn:=tn) (x6:=none) (x7:=none) (S:=S) nx hm0 hm1
 obtain⟨g,hg,e9⟩:=po9 (c:=c) (n:=n / 1670616516608 / 200) (a:=some (.str abc)) (b:=some (.str x)) (x4:=some (.int (n / 1670616516608 % (x.length:Int)))) (x5:=some (.int tn)) (x6:=some (.str y)) (x7:=none) (S:=S)
 obtain⟨g',hg',e10⟩:=po10 (c:=c) (n:=n / 1670616516608 / 200) (a:=some (.str abc)) (b:=some (.str x)) (x4:=some (.int (n / 1670616516608 % (x.length:Int)))) (x5:=some (.int tn)) (x6:=some (.str y)) (S:=S) hg
 obtain⟨vs,hl,hv,e11⟩:=po11 (c:=c) (n:=n / 1670616516608 / 200) (a:=some (.str abc)) (x4:=some (.int (n / 1670616516608 % (x.length:Int)))) (x5:=some (.int tn)) (S:=S) hg' nx ny
 refine⟨vs,hl,hv,yGX (T:=[]) rfl ?_ (yU λd hd=>(hv d hd).lo _)⟩
 rw [aN]
 show jV [.int c] S=_
 unfold jV zNP
 rw [hs,zE e1,zE e2,zE e3,zE po4,zE (po5 nx),zE e6,zE e7,zE po8,zE e9,zE e10,e11]
 rfl
theorem zIG{S:Sto}{l:Nat}{ds:List MV}{d:MV}(hS:S[l]? =some (.lst ds))(hz:ds.length<1000000):zWT (.val (.loc l)) [.val d] S=.ok (.val .non) (S.set l (.lst (ds++[d]))):=by
 show yDS (.val (.loc l)) S (λds=>if ds.length<sizeLine then some (ds++[d])else none)=_
 unfold yDS
 dsimp only
 rw [hS]
 dsimp only
 rw [iP (lt_of_lt_of_le hz (fits (le_refl _)))]
theorem zIH{S:Sto}{l:Nat}{ds:List MV}(hS:S[l]? =some (.lst ds)):zIR (.val (.loc l)) S=true:=by
 unfold zIR
 rw [zGE hS];rfl
theorem yHR{S:Sto}{l:Nat}{ds:List MV}{k:Int}{j:Nat}{d:MV}{ρ:Rho}(hS:S[l]? =some (.lst ds))(hj:ixN ds.length k=some j):zWU (.val (.loc l)) (.val (.int k)) d ρ S=.ok ρ (S.set l (.lst (ds.set j d))):=by
 unfold zWU
 dsimp only
 rw [hS]
 dsimp only
 rw [hj]
theorem get_set{S:Sto}{l:Nat}{o o':MO}(h:S[l]? =some o):(S.set l o')[l]? =some o':=getElem?_set_self (gS0.mp h).1
theorem kL{S:Sto}{l m:Nat}{o':MO}(h:l≠m):(S.set l o')[m]? =S[m]? :=getElem?_set_ne h
theorem nG{S:Sto}{l:Nat}{ds:List MV}(hS:S[l]? =some (.lst ds)):jM [.val (.loc l)] S=.ok (.val (.tup ds)) S:=by
 show(match cG S (.val (.loc l))with |some ds=>R.ok (Er.val (.tup ds)) S|none=>.no)=_
 rw [zGE hS]
theorem dY(ds:List MV)(S:Sto):wF [.val (.tup ds)] S=.ok (.val (.int ds.length)) S:=rfl
theorem yCJ(gf:MV->Rho->Sto->R Rho)(ρ:Rho)(d:MV)(S:Sto):asgF gf ρ (.val d) S=(gf d ρ S).bind λρ' S2=>.ok (.next ρ') S2:=rfl
theorem zQP{n:Nat}{F:List MV->Sto->R Er}{rs:List Er}{S:Sto}{d:MV}{l:Nat}{x:Int}(hn:rs.length=n)(hF:F (zQ rs S).1 (zQ rs S).2=.ok (.val d) (S.set l (.lst [.int x])))(h:lo S.length d)(hd: ∀l,d≠.loc l):zP n F rs S=.ok (.val d) (S.set l (.lst [.int x])):=by
 unfold zP
 rw [iP hn,hF,jL,bok]
 have hc:zSS S (S.set l (.lst [.int x])):=by
  refine⟨by rw [length_set];exact le_refl _,λm hm=>?_⟩
  by_cases e:l=m
  ·subst e
   exact .inr ⟨_,getElem?_set_self hm,yU λe he=>by rw [mS.mp he];exact kH _ _⟩
  ·exact .inl (getElem?_set_ne e)
 unfold gX
 rw [iP hc]
 have e:(S.set l (.lst [.int x])).take S.length=S.set l (.lst [.int x]):=by rw [List.take_of_length_le (by rw [length_set];exact le_refl _)]
 cases d with
 |loc m=>exact absurd rfl (hd m)
 |_=>dsimp only;rw [iP h,e]
theorem zET{S:Sto}{l:Nat}{x n:Int}(hS:S[l]? =some (.lst [.int x]))(h0:0<n)(h1:n<1073741824):zP 2 zY [.val (.loc l),.val (.int n)] S=.ok (.val (.int (x % n))) (S.set l (.lst [.int (x / n)])):=by
 have hs:zN zGL [.loc l,.int n]=[some (.loc l),some (.int n),none]:=rfl
 have ha:atI [MV.int x] 0=some (.int x):=rfl
 have e1:zCH [some (.loc l),some (.int n),none] S=.ok (.next [some (.loc l),some (.int n),some (.int (x % n))]) S:=by
  unfold zCH
  simp? [zPT hS ha,mod_lit h0]
 have e2:zCI [some (.loc l),some (.int n),some (.int (x % n))] S=.ok (.next [some (.loc l),some (.int n),some (.int (x % n))]) (S.set l (.lst [.int (x / n)])):=by
  unfold zCI
  simp? [zPT hS ha,xP h0 h1,yCJ,yHR hS (show ixN [MV.int x].length 0=some 0 from rfl)]
 refine zQP rfl ?_ (kH _ _) (λl=>by simp)
 show zY [.loc l,.int n] S=_
 unfold zY zNR
 rw [hs,zE e1,zE e2]
 rfl
def tbl(p:Int×Int):MV:=.tup [.int p.1,.int p.2]
def TOk(ts:List (Int×Int)):Prop:=1<=ts.length/\ts.length<=4/\ ∀p∈ts,1<=p.1/\p.1<=4/\0<=p.2/\p.2<=p.1
abbrev P7(c m n k:MV)(l:Nat)(x5 x6:Option MV):Rho:=[some c,some m,some n,some k,some (.loc l),x5,x6]
theorem yHS{c m k:MV}{n:Int}{l:Nat}{x5 x6:Option MV}{S:Sto}{ts:List (Int×Int)}(hS:S[l]? =some (.lst (ts.map tbl)))(hl:ts.length<1000):
  ∃p n',(1<=p.1/\p.1<=4/\0<=p.2/\p.2<=p.1)/\jG (P7 c m (.int n) k l x5 x6) S=.ok (.next (P7 c m (.int n') k l x5 (some (.int p.1)))) (S.set l (.lst ((ts++[p]).map tbl))):=by
 have h0:0<=n % 4:=eN _ (by decide)
 have h1:n % 4<4:=eL _ (by decide)
 have hp:(0:Int)<1+n % 4+1:=by omega
 have h2:0<=n / 4 % (1+n % 4+1):=eN _ (by omega)
 have h3:n / 4 % (1+n % 4+1)<1+n % 4+1:=eL _ hp
 refine⟨(1+n % 4,n / 4 % (1+n % 4+1)),n / 20,⟨by show 1<=1+n % 4;omega,by show 1+n % 4<=4;omega,h2,by show n / 4 % (1+n % 4+1)<=1+n % 4;omega⟩,?_⟩
 have e1:gK (P7 c m (.int n) k l x5 x6) S=.ok (.next (P7 c m (.int n) k l x5 (some (.int (1+n % 4))))) S:=by
  unfold gK
  simp? [mod_lit (show(0:Int)<4 by decide)]
 have e2:gL (P7 c m (.int n) k l x5 (some (.int (1+n % 4)))) S=.ok (.next (P7 c m (.int n) k l x5 (some (.int (1+n % 4))))) (S.set l (.lst ((ts++[(1+n % 4,n / 4 % (1+n % 4+1))]).map tbl))):=by
  unfold gL
  simp? [zIH hS,xP (b:=4) (by decide) (by decide),mod_lit hp,zIG hS (show(ts.map tbl).length<1000000 by rw [lM0];omega)]
  rw [map_append]
  rfl
 have e3:gM (P7 c m (.int n) k l x5 (some (.int (1+n % 4)))) (S.set l (.lst ((ts++[(1+n % 4,n / 4 % (1+n % 4+1))]).map tbl)))=.ok (.next (P7 c m (.int (n / 20)) k l x5 (some (.int (1+n % 4))))) (S.set l (.lst ((ts++[(1+n % 4,n / 4 % (1+n % 4+1))]).map tbl))):=by
  unfold gM
  simp? [xP (b:=20) (by decide) (by decide)]
 unfold jG
 rw [zE e1,zE e2,e3]
theorem yEK(c:Int)(S:Sto): ∃ts,TOk ts/\zP 2 wZ [.val (.int c),.val (.int 4)] S=.ok (.val (.tup (ts.map tbl))) S:=by
 obtain⟨n,hn⟩:=zVE c 2147483629 ⟨by decide,by decide⟩ S
 have h0:0<=n % 4:=eN _ (by decide)
 have h1:n % 4<4:=eL _ (by decide)
 have hs:zN zBP [.int c,.int 4]=[some (.int c),some (.int 4),none,none,none,none,none]:=rfl
 have e1:cZ [some (.int c),some (.int 4),none,none,none,none,none] S=.ok (.next [some (.int c),some (.int 4),some (.int n),none,none,none,none]) S:=by
  unfold cZ
  simp? [hn]
 have e2:dA [some (.int c),some (.int 4),some (.int n),none,none,none,none] S=.ok (.next [some (.int c),some (.int 4),some (.int n),some (.int (1+n % 4)),none,none,none]) S:=by
  unfold dA
  simp? [mod_lit (show(0:Int)<4 by decide)]
 have e3:dB [some (.int c),some (.int 4),some (.int n),some (.int (1+n % 4)),none,none,none] S=.ok (.next [some (.int c),some (.int 4),some (.int (n / 4)),some (.int (1+n % 4)),none,none,none]) S:=by
  unfold dB
  simp? [xP (b:=4) (by decide) (by decide)]
 have e4:dC [some (.int c),some (.int 4),some (.int (n / 4)),some (.int (1+n % 4)),none,none,none] S=.ok (.next (P7 (.int c) (.int 4) (.int (n / 4)) (.int (1+n % 4)) S.length none none)) (S++[.lst []]):=by
  unfold dC
  simp? [bok]
 have hlen:((List.range (1+n % 4).toNat).map λk=>MV.int (k:Nat)).length=(1+n % 4).toNat:=by rw [lM0,length_range]
 obtain⟨ρ',S',e,x5,x6,n',ts,hρ,hS',hl,hT⟩:=zGD (L:=(List.range (1+n % 4).toNat).map λk=>MV.int (k:Nat)) (gf:=gNm 5) (body:=jG) (gs:=[]) (S:=S++[.lst []]) (ρ:=P7 (.int c) (.int 4) (.int (n / 4)) (.int (1+n % 4)) S.length none none)
  (λi ρ S'=> ∃x5 x6 n' ts,ρ=P7 (.int c) (.int 4) (.int n') (.int (1+n % 4)) S.length x5 x6/\S'=S++[.lst (ts.map tbl)]/\ts.length=i/\ ∀p∈ts,1<=p.1/\p.1<=4/\0<=p.2/\p.2<=p.1) (λi d hi ρ S1 ⟨x5,x6,n',ts,hρ,hS1,hl,hT⟩=>by
   subst hρ hS1
   have hil:i<5:=by have:=(gS0.mp hi).1;omega
   obtain⟨p,n'',hp,hb⟩:=yHS (c:=.int c) (m:=.int 4) (k:=.int (1+n % 4)) (n:=n') (l:=S.length) (x5:=some d) (x6:=x6) (S:=S++[.lst (ts.map tbl)]) (ts:=ts) (by simp) (by omega)
   refine⟨P7 (.int c) (.int 4) (.int n'') (.int (1+n % 4)) S.length (some d) (some (.int p.1)),S++[.lst ((ts++[p]).map tbl)],?_,kR _,some d,some (.int p.1),n'',ts++[p],rfl,rfl,by rw [lA,hl];rfl,?_⟩
   ·rw [show gNm 5 d (P7 (.int c) (.int 4) (.int n') (.int (1+n % 4)) S.length x5 x6) (S++[.lst (ts.map tbl)])=.ok (P7 (.int c) (.int 4) (.int n') (.int (1+n % 4)) S.length (some d) x6) (S++[.lst (ts.map tbl)])from rfl,bok,hb]
    rw [show(S++[MO.lst (ts.map tbl)]).set S.length (.lst ((ts++[p]).map tbl))=S++[.lst ((ts++[p]).map tbl)] by simp]
   ·intro q hq
    rw [mem_append,mS]at hq
    rcases hq with hq|rfl
    ·exact hT q hq
    ·exact hp) ⟨none,none,n / 4,[],rfl,rfl,rfl,λp hp=>by simp at hp⟩
 subst hρ hS'
 rw [hlen]at hl
 have e5:dE (P7 (.int c) (.int 4) (.int (n / 4)) (.int (1+n % 4)) S.length none none) (S++[.lst []])=.ok (.next (P7 (.int c) (.int 4) (.int n') (.int (1+n % 4)) S.length x5 x6)) (S++[.lst (ts.map tbl)]):=by
  unfold dE
  simp? [zDT (S:=S++[.lst []]) (show -(2 ^ 62)<=1+n % 4/\1+n % 4<2 ^ 62 by omega)]
  exact e
 have e6:dF (P7 (.int c) (.int 4) (.int n') (.int (1+n % 4)) S.length x5 x6) (S++[.lst (ts.map tbl)])=.ok (.ret (.val (.tup (ts.map tbl)))) (S++[.lst (ts.map tbl)]):=by
  unfold dF
  simp? [nG (S:=S++[.lst (ts.map tbl)]) (l:=S.length) (ds:=ts.map tbl) (by simp)]
 refine⟨ts,⟨by omega,by omega,hT⟩,cH (T:=[.lst (ts.map tbl)]) rfl ?_ (xX (yU λd hd=>?_)) (λl=>by simp)⟩
 ·show wZ [.int c,.int 4] S=_
  unfold wZ zIY
  rw [hs,zE e1,zE e2,zE e3,zE e4,zE e5,e6]
  rfl
 ·obtain⟨p,_,rfl⟩:=mM0.mp hd
  exact xX (yU λe he=>by simp at he;rcases he with rfl|rfl<;>exact kH _ _)
mutual
def pd:MV->Bool
 |.int _=>true
 |.str _=>true
 |.tup ds=>pdL ds
 |_=>false
def pdL:List MV->Bool
 |[]=>true
 |d::ds=>pd d&&pdL ds
end
mutual
def dpt:MV->Nat
 |.tup ds=>zEU ds+1
 |_=>0
def zEU:List MV->Nat
 |[]=>0
 |d::ds=>max (dpt d) (zEU ds)
end
theorem jP(ds:List MV):pd (.tup ds)=pdL ds:=by rw [pd]
theorem zEV:pdL []=true:=by rw [pdL]
theorem yL(d:MV)(ds:List MV):pdL (d::ds)=(pd d&&pdL ds):=by rw [pdL]
theorem wH(ds:List MV):dpt (.tup ds)=zEU ds+1:=by rw [dpt]
theorem yB(d:MV)(ds:List MV):zEU (d::ds)=max (dpt d) (zEU ds):=by rw [zEU]
theorem cN:zEU []=0:=by rw [zEU]
theorem zEW(i:Int):pd (.int i)=true:=by rw [pd]
theorem zMX(i:List Nat):pd (.str i)=true:=by rw [pd]
theorem dZ(i:Int):dpt (.int i)=0:=by simp [dpt]
theorem zII(i:List Nat):dpt (.str i)=0:=by simp [dpt]
theorem zBJ: ∀{ds:List MV},(∀d∈ds,pd d=true)->pdL ds=true
 |[],_=>zEV
 |d::ds,h=>by rw [yL,h d mF0,zBJ λe he=>h e (mO _ he)];rfl
theorem zVF: ∀{ds:List MV},pdL ds=true-> ∀d∈ds,pd d=true
 |[],_,d,h=>by simp at h
 |e::ds,hp,d,h=>by
  rw [yL,aE]at hp
  rcases mC.mp h with rfl|h
  ·exact hp.1
  ·exact zVF hp.2 d h
theorem zBK: ∀{ds:List MV}{n:Nat},(∀d∈ds,dpt d<=n)->zEU ds<=n
 |[],n,_=>by rw [cN];exact zero_le _
 |d::ds,n,h=>by
  rw [yB]
  have h1:=h d mF0
  have h2:=zBK λe he=>h e (mO _ he)
  omega
theorem zXF: ∀{ds:List MV}, ∀d∈ds,dpt d<=zEU ds
 |[],d,h=>by simp at h
 |e::ds,d,h=>by
  rw [yB]
  rcases mC.mp h with rfl|h
  ·exact Nat.le_max_left _ _
  ·exact le_trans (zXF d h) (Nat.le_max_right _ _)
theorem zXG{d:MV}(h:pd d=true):(∃i,d=.int i)\/(∃x,d=.str x)\/ ∃ds,d=.tup ds/\pdL ds=true:=by
 cases d with
 |int i=>exact .inl ⟨i,rfl⟩
 |str x=>exact .inr (.inl ⟨x,rfl⟩)
 |tup ds=>exact .inr (.inr ⟨ds,rfl,by rw [<-jP];exact h⟩)
 |_=>rw [pd]at h<;>first |cases h|(intros;simp)
theorem dec_is{p:Prop}[Decidable p]{q:Prop}[Decidable q](h:p↔q):decide p=decide q:=by
 by_cases hq:q
 ·rw [dT0 hq,dT0 (h.mpr hq)]
 ·rw [dF0 hq,dF0 λz=>hq (h.mp z)]
theorem zXH{e:MV->MV->Option Bool}: ∀{ds es:List MV},(∀d∈ds, ∀f∈es,e d f=some (decide (d=f)))-> ∃bs,prs e ds es=some bs/\(bs.all id&&ds.length==es.length)=decide (ds=es)
 |[],[],_=>⟨[],rfl,by simp⟩
 |[],_::_,_=>⟨[],rfl,by simp⟩
 |_::_,[],_=>⟨[],rfl,by simp⟩
 |d::ds,f::es,h=>by
  obtain⟨bs,h1,h2⟩:=zXH (e:=e) (ds:=ds) (es:=es) λa ha b hb=>h a (mO _ ha) b (mO _ hb)
  refine⟨decide (d=f)::bs,?_,?_⟩
  ·unfold prs
   rw [h d mF0 f mF0,h1]
   rfl
  ·by_cases hd:d=f
   ·subst hd
    rw [all_cons,dT0 rfl]
    simp only [id,Bool.true_and,lC0]
    rw [show(ds.length+1==es.length+1)=(ds.length==es.length) by simp,h2]
    exact dec_is (by simp)
   ·rw [all_cons,dF0 hd]
    rw [dF0 (show¬(d::ds=f::es)from λz=>hd (List.cons.inj z).1)]
    rfl
theorem zQQ{S:Sto}: ∀(n:Nat){d e:MV},pd d=true->pd e=true->dpt d<n->eqv S n d e=some (decide (d=e))
 |0,d,e,_,_,h=>by omega
 |n+1,d,e,hd,he,h=>by
  rcases zXG hd with⟨i,rfl⟩|⟨x,rfl⟩|⟨ds,rfl,pds⟩<;>rcases zXG he with⟨j,rfl⟩|⟨y,rfl⟩|⟨es,rfl,pes⟩
  ·rw [zOD];exact congrArg some (dec_is (by simp))
  ·rw [yOY,dF0 (by simp)]
  ·rw [dF0 (by simp)];rfl
  ·rw [yOZ,dF0 (by simp)]
  ·rw [zUP];exact congrArg some (dec_is (by simp))
  ·rw [dF0 (by simp)];rfl
  ·rw [dF0 (by simp)];rfl
  ·rw [dF0 (by simp)];rfl
  ·rw [wH]at h
   obtain⟨bs,h1,h2⟩:=zXH (e:=eqv S n) (ds:=ds) (es:=es) λa ha b hb=>zQQ n (zVF pds a ha) (zVF pes b hb) (by have:=zXF a ha;omega)
   show((prs (eqv S n) ds es).map λbs=>bs.all id&&ds.length==es.length)=_
   rw [h1]
   show some (bs.all id&&ds.length==es.length)=_
   rw [h2]
   exact congrArg some (dec_is (by simp))
theorem zQR{S:Sto}{d:MV}(hd:pd d=true): ∀{ys:List MV},(∀y∈ys,pd y=true/\dpt y<40)->zUM S yE d ys=some (ys.map λy=>decide (y=d))
 |[],_=>rfl
 |y::ys,h=>by
  have h1:=h y mF0
  unfold zUM
  rw [zQQ yE h1.1 hd (by unfold yE;exact h1.2),zQR hd λz hz=>h z (mO _ hz)]
  rfl
theorem yAE{S:Sto}{l:Nat}{d:MV}{ys:List MV}(hS:S[l]? =some (.lst ys))(hd:pd d=true)(hs: ∀x,d≠.str x)(h: ∀y∈ys,pd y=true/\dpt y<40):inF true (.val d) (.val (.loc l)) S=.ok (.val (.bl (!decide (d∈ys)))) S:=by
 have e1:itemsOf S (.val (.loc l))=some ys:=by unfold itemsOf;exact zGE hS
 have e2:zMN true (.val d) (.val (.loc l)) S=.ok (.val (.bl (!decide (d∈ys)))) S:=by
  unfold zMN
  dsimp only
  rw [e1]
  dsimp only
  rw [zQR hd h]
  dsimp only
  rw [iP rfl]
  congr 4
  rw [List.any_map]
  by_cases hm:d∈ys
  ·rw [dT0 hm,List.any_eq_true]
   exact⟨d,hm,by simp⟩
  ·rw [dF0 hm]
   rw [List.any_eq_false]
   intro y hy
   simp only [Function.comp,id,decide_eq_true_eq]
   rintro rfl
   exact hm hy
 cases d with
 |str x=>exact absurd rfl (hs x)
 |_=>exact e2
def zV(r:Nat×List MV):MV:=.tup [.int r.1,.tup r.2]
def ROk(ts:List (Int×Int))(r:Nat×List MV):Prop:= ∃p,ts[r.1]? =some p/\(r.2.length:Int)=p.1/\ ∀d∈r.2,Vl d
theorem yCK{d:MV}(h:Vl d):pd d=true/\dpt d=0:=by
 rcases h.cases with⟨i,rfl,_⟩|⟨x,rfl,_⟩
 ·exact⟨zEW i,dZ i⟩
 ·exact⟨zMX x,zII x⟩
theorem zQS{ts:List (Int×Int)}{r:Nat×List MV}(h:ROk ts r):pd (zV r)=true/\dpt (zV r)<=2:=by
 obtain⟨p,_,_,hv⟩:=h
 have h1:pdL r.2=true:=zBJ λd hd=>(yCK (hv d hd)).1
 have h2:zEU r.2<=0:=zBK λd hd=>by rw [(yCK (hv d hd)).2];exact le_refl _
 unfold zV
 refine⟨by rw [jP,yL,yL,zEV,zEW,jP,h1];rfl,?_⟩
 rw [wH,yB,yB,cN,dZ,wH]
 omega
theorem zXI{r q:Nat×List MV}(h:zV r=zV q):r=q:=by
 unfold zV at h
 injection h with h
 injection h with h1 h2
 injection h2 with h2 _
 injection h1 with h1
 injection h2 with h2
 exact Prod.ext (by omega) h2
theorem yAF{ts:List (Int×Int)}{r:Nat×List MV}(h:ROk ts r)(n:Nat):lo n (zV r):=by
 obtain⟨p,_,_,hv⟩:=h
 refine xX (yU λd hd=>?_)
 simp only [mC,nM0,or_false]at hd
 rcases hd with rfl|rfl
 ·exact kH _ _
 ·exact xX (yU λe he=>(hv e he).lo n)
theorem zQT{ts:List (Int×Int)}{t:Nat}{p:Int×Int}(h:ts[t]? =some p):atI (ts.map tbl) (t:Int)=some (tbl p):=by
 have hl:t<ts.length:=(gS0.mp h).1
 unfold atI ixN
 rw [iP (by omega),iP (by rw [lM0];omega)]
 show(ts.map tbl)[(t:Int).toNat]? =_
 rw [toNat_natCast,getElem?_map,h]
 rfl
abbrev R8(c tb pl w:MV)(n:Int)(t:Int)(l:Nat)(x7:Option MV):Rho:=[some c,some tb,some pl,some w,some (.int n),some (.int t),some (.loc l),x7]
theorem yHT{c tb:MV}{lp l:Nat}{w n t:Int}{x7:Option MV}{S:Sto}{vs cs:List MV}(hw:1<=w/\w<=7)(hv:vs.length=7)(hP:S[lp]? =some (.lst vs))(hS:S[l]? =some (.lst cs))(hl:cs.length<1000):
  ∃v n',v∈vs/\dX (R8 c tb (.loc lp) (.int w) n t l x7) S=.ok (.next (R8 c tb (.loc lp) (.int w) n' t l x7)) (S.set l (.lst (cs++[v]))):=by
 have hp:(0:Int)<w:=by omega
 have h0:0<=n % w:=eN _ (by omega)
 have h1:n % w<w:=eL _ hp
 obtain⟨v,hvv⟩:=dS (xs:=vs) (i:=n % w) h0 (by omega)
 refine⟨v,n / w,dU (P:=λe=>e∈vs) (λe h=>h) hvv,?_⟩
 have e1:zAG (R8 c tb (.loc lp) (.int w) n t l x7) S=.ok (.next (R8 c tb (.loc lp) (.int w) n t l x7)) (S.set l (.lst (cs++[v]))):=by
  unfold zAG
  simp? [zIH hS,mod_lit hp,zPT hP hvv,zIG hS (show cs.length<1000000 by omega)]
 have e2:zAH (R8 c tb (.loc lp) (.int w) n t l x7) (S.set l (.lst (cs++[v])))=.ok (.next (R8 c tb (.loc lp) (.int w) (n / w) t l x7)) (S.set l (.lst (cs++[v]))):=by
  unfold zAH
  simp? [xP hp (show w<1073741824 by omega)]
 unfold dX
 rw [zE e1,e2]
theorem yPR{ts:List (Int×Int)}(hT:TOk ts)(c w:Int)(hw:1<=w/\w<=7){lp:Nat}{vs:List MV}{S:Sto}(hv:vs.length=7)(hV: ∀d∈vs,Vl d)(hP:S[lp]? =some (.lst vs)):
  ∃r,ROk ts r/\zP 4 bM [.val (.int c),.val (.tup (ts.map tbl)),.val (.loc lp),.val (.int w)] S=.ok (.val (zV r)) S:=by
 obtain⟨n,hn⟩:=zVE c 2147483563 ⟨by decide,by decide⟩ S
 have hlp:lp<S.length:=(gS0.mp hP).1
 have hp:(0:Int)<(ts.length:Int):=by have:=hT.1;omega
 have h0:0<=n % (ts.length:Int):=eN _ (by omega)
 have h1:n % (ts.length:Int)<ts.length:=eL _ hp
 obtain⟨t,ht⟩:=eq_ofNat_of_zero_le h0
 have htl:t<ts.length:=by omega
 have hgt:ts[t]? =some ts[t]:=gE0 htl
 have hpp:=hT.2.2 ts[t] (getElem_mem htl)
 generalize hpe:ts[t]=p at hgt hpp
 have hs:zN zJH [.int c,.tup (ts.map tbl),.loc lp,.int w]=[some (.int c),some (.tup (ts.map tbl)),some (.loc lp),some (.int w),none,none,none,none]:=rfl
 have hlen:wF [.val (.tup (ts.map tbl))] S=.ok (.val (.int ts.length)) S:=by rw [dY,lM0]
 have e1:zEM [some (.int c),some (.tup (ts.map tbl)),some (.loc lp),some (.int w),none,none,none,none] S=.ok (.next [some (.int c),some (.tup (ts.map tbl)),some (.loc lp),some (.int w),some (.int n),none,none,none]) S:=by
  unfold zEM
  simp? [hn]
 have e2:zEN [some (.int c),some (.tup (ts.map tbl)),some (.loc lp),some (.int w),some (.int n),none,none,none] S=.ok (.next [some (.int c),some (.tup (ts.map tbl)),some (.loc lp),some (.int w),some (.int n),some (.int t),none,none]) S:=by
  unfold zEN
  simp? [hlen,mod_lit hp]
  rw [ht]
 have hdc:zZM 0 (ts.length:Int):=by
  have:=hT.2.1
  have h1:=hT.1
  have:ts.length=1\/ts.length=2\/ts.length=3\/ts.length=4:=by omega
  rcases this with h|h|h|h<;>rw [h]<;>decide+kernel
 have e3:zEO [some (.int c),some (.tup (ts.map tbl)),some (.loc lp),some (.int w),some (.int n),some (.int t),none,none] S=.ok (.next [some (.int c),some (.tup (ts.map tbl)),some (.loc lp),some (.int w),some (.int (n / ts.length)),some (.int t),none,none]) S:=by
  unfold zEO
  simp? [hlen,yCI hdc]
 have e4:zEP [some (.int c),some (.tup (ts.map tbl)),some (.loc lp),some (.int w),some (.int (n / ts.length)),some (.int t),none,none] S=.ok (.next (R8 (.int c) (.tup (ts.map tbl)) (.loc lp) (.int w) (n / ts.length) t S.length none)) (S++[.lst []]):=by
  unfold zEP
  simp? [bok]
 have hll:((List.range p.1.toNat).map λk=>MV.int (k:Nat)).length=p.1.toNat:=by rw [lM0,length_range]
 obtain⟨ρ',S',e,x7,n',cs,hρ,hS',hl,hC⟩:=zGD (L:=(List.range p.1.toNat).map λk=>MV.int (k:Nat)) (gf:=gNm 7) (body:=dX) (gs:=[]) (S:=S++[.lst []]) (ρ:=R8 (.int c) (.tup (ts.map tbl)) (.loc lp) (.int w) (n / ts.length) t S.length none)
  (λi ρ S'=> ∃x7 n' cs,ρ=R8 (.int c) (.tup (ts.map tbl)) (.loc lp) (.int w) n' t S.length x7/\S'=S++[.lst cs]/\cs.length=i/\ ∀d∈cs,d∈vs) (λi d hi ρ S1 ⟨x7,n',cs,hρ,hS1,hl,hC⟩=>by
   subst hρ hS1
   have hil:i<5:=by have:=(gS0.mp hi).1;omega
   obtain⟨v,n'',hv',hb⟩:=yHT (c:=.int c) (tb:=.tup (ts.map tbl)) (lp:=lp) (l:=S.length) (w:=w) (n:=n') (t:=t) (x7:=some d) (S:=S++[.lst cs]) (vs:=vs) (cs:=cs) hw hv (by rw [getElem?_append_left hlp];exact hP) (by simp) (by omega)
   refine⟨R8 (.int c) (.tup (ts.map tbl)) (.loc lp) (.int w) n'' t S.length (some d),S++[.lst (cs++[v])],?_,kR _,some d,n'',cs++[v],rfl,rfl,by rw [lA,hl];rfl,?_⟩
   ·rw [show gNm 7 d (R8 (.int c) (.tup (ts.map tbl)) (.loc lp) (.int w) n' t S.length x7) (S++[.lst cs])=.ok (R8 (.int c) (.tup (ts.map tbl)) (.loc lp) (.int w) n' t S.length (some d)) (S++[.lst cs])from rfl,bok,hb]
    rw [show(S++[MO.lst cs]).set S.length (.lst (cs++[v]))=S++[.lst (cs++[v])] by simp]
   ·intro q hq
    rw [mem_append,mS]at hq
    rcases hq with hq|rfl
    ·exact hC q hq
    ·exact hv') ⟨none,_,[],rfl,rfl,rfl,λp hp=>by simp at hp⟩
 subst hρ hS'
 rw [hll]at hl
 have e5:zEQ (R8 (.int c) (.tup (ts.map tbl)) (.loc lp) (.int w) (n / ts.length) t S.length none) (S++[.lst []])=.ok (.next (R8 (.int c) (.tup (ts.map tbl)) (.loc lp) (.int w) n' t S.length x7)) (S++[.lst cs]):=by
  unfold zEQ
  simp? [ix_tup (S:=S++[.lst []]) (zQT hgt)]
  rw [show ixF (.val (tbl p)) (.val (.int 0)) (S++[MO.lst []])=.ok (.val (.int p.1)) (S++[.lst []])from rfl]
  simp? [zDT (S:=S++[.lst []]) (show -(2 ^ 62)<=p.1/\p.1<2 ^ 62 by omega)]
  exact e
 have e6:zER (R8 (.int c) (.tup (ts.map tbl)) (.loc lp) (.int w) n' t S.length x7) (S++[.lst cs])=.ok (.ret (.val (zV (t,cs)))) (S++[.lst cs]):=by
  unfold zER
  simp? [nG (S:=S++[.lst cs]) (l:=S.length) (ds:=cs) (by simp)]
  rfl
 have hR:ROk ts (t,cs):=⟨p,hgt,by show(cs.length:Int)=p.1;omega,λd hd=>hV d (hC d hd)⟩
 refine⟨(t,cs),hR,cH (T:=[.lst cs]) rfl ?_ (yAF hR _) (λl=>by unfold zV;simp)⟩
 show bM [.int c,.tup (ts.map tbl),.loc lp,.int w] S=_
 unfold bM zQL
 rw [hs,zE e1,zE e2,zE e3,zE e4,zE e5,e6]
 rfl
abbrev R7(lc:Nat)(tb:MV)(lp:Nat)(w:Int)(lr:Nat)(x5 x6:Option MV):Rho:=[some (.loc lc),some tb,some (.loc lp),some (.int w),some (.loc lr),x5,x6]
theorem yEL{ts:List (Int×Int)}(hT:TOk ts){c w:Int}(hw:1<=w/\w<=7){lc lp lr:Nat}{vs:List MV}{S:Sto}{x6:Option MV}{rs:List (Nat×List MV)}(hv:vs.length=7)(hV: ∀d∈vs,Vl d)(hP:S[lp]? =some (.lst vs))(hS:S[lr]? =some (.lst (rs.map zV)))
  (hR: ∀r∈rs,ROk ts r) (hn:rs.Nodup) (hl:rs.length<1000): ∃(x6':Option MV)(rs':List (Nat×List MV)),kX (R7 lc (.tup (ts.map tbl)) lp w lr (some (.int c)) x6) S=.ok (.next (R7 lc (.tup (ts.map tbl)) lp w lr (some (.int c)) x6')) (S.set lr (.lst (rs'.map zV)))/\(∀r∈rs',ROk ts r)/\rs'.Nodup/\rs'.length<=rs.length+1:=by
 obtain⟨r,hr,hcall⟩:=yPR hT c w hw hv hV hP
 have e1:dG (R7 lc (.tup (ts.map tbl)) lp w lr (some (.int c)) x6) S=.ok (.next (R7 lc (.tup (ts.map tbl)) lp w lr (some (.int c)) (some (zV r)))) S:=by
  unfold dG
  simp? [hcall]
 have hin:inF true (.val (zV r)) (.val (.loc lr)) S=.ok (.val (.bl (!decide (zV r∈rs.map zV)))) S:=yAE hS (zQS hr).1 (λx=>by unfold zV;simp) λy hy=>by
  obtain⟨q,hq,rfl⟩:=mM0.mp hy
  have:=zQS (hR q hq)
  exact⟨this.1,by omega⟩
 have hmem:zV r∈rs.map zV↔r∈rs:=⟨λh=>by obtain⟨q,hq,e⟩:=mM0.mp h;rw [<-zXI e];exact hq,λh=>List.mem_map_of_mem h⟩
 by_cases hm:r∈rs
 ·have e2:wX (R7 lc (.tup (ts.map tbl)) lp w lr (some (.int c)) (some (zV r))) S=.ok (.next (R7 lc (.tup (ts.map tbl)) lp w lr (some (.int c)) (some (zV r)))) S:=by
   unfold wX
   simp? [hin,dT0 (hmem.mpr hm)]
   rfl
  refine⟨some (zV r),rs,?_,hR,hn,le_succ _⟩
  unfold kX
  rw [zE e1,e2]
  have hset:S.set lr (.lst (rs.map zV))=S:=by
   refine ext_getElem? λj=>?_
   by_cases e:lr=j
   ·subst e;rw [get_set hS,hS]
   ·rw [kL e]
  rw [hset]
 ·have e2:wX (R7 lc (.tup (ts.map tbl)) lp w lr (some (.int c)) (some (zV r))) S=.ok (.next (R7 lc (.tup (ts.map tbl)) lp w lr (some (.int c)) (some (zV r)))) (S.set lr (.lst ((rs++[r]).map zV))):=by
   unfold wX
   simp? [hin,dF0 (λz=>hm (hmem.mp z)),zIH hS,zIG hS (show(rs.map zV).length<1000000 by rw [lM0];omega)]
   rw [map_append]
   rfl
  refine⟨some (zV r),rs++[r],?_,?_,?_,?_⟩
  ·unfold kX
   rw [zE e1,e2]
  ·intro q hq
   rw [mem_append,mS]at hq
   rcases hq with hq|rfl
   ·exact hR q hq
   ·exact hr
  ·exact nodup_append.mpr ⟨hn,by simp,λa ha c hc=>by rw [mS.mp hc];rintro rfl;exact hm ha⟩
  ·rw [lA];exact le_refl _
theorem yLM{ts:List (Int×Int)}(hT:TOk ts)(is:List Int)(hil:is.length<=60){w:Int}(hw:1<=w/\w<=7){lp:Nat}{vs:List MV}{S:Sto}(hv:vs.length=7)(hV: ∀d∈vs,Vl d)(hP:S[lp]? =some (.lst vs)):
  ∃rs:List (Nat×List MV),(∀r∈rs,ROk ts r)/\rs.Nodup/\rs.length<=is.length/\zP 4 jW [.new (is.map MV.int),.val (.tup (ts.map tbl)),.val (.loc lp),.val (.int w)] S=.ok (.val (.tup (rs.map zV))) S:=by
 have hlp:lp<S.length:=(gS0.mp hP).1
 have hs:zN zGK [.loc S.length,.tup (ts.map tbl),.loc lp,.int w]=[some (.loc S.length),some (.tup (ts.map tbl)),some (.loc lp),some (.int w),none,none,none]:=rfl
 have e1:zCE [some (.loc S.length),some (.tup (ts.map tbl)),some (.loc lp),some (.int w),none,none,none] (S++[.lst (is.map MV.int)])=.ok (.next (R7 S.length (.tup (ts.map tbl)) lp w (S.length+1) none none)) (S++[.lst (is.map MV.int)]++[.lst []]):=by
  unfold zCE
  simp? [bok]
  rw [lA]
  rfl
 obtain⟨ρ',S',e,x5,x6,rs,hρ,hS',hR,hN,hl⟩:=zGD (L:=is.map MV.int) (gf:=gNm 5) (body:=kX) (gs:=[(S.length,is.map MV.int)]) (S:=S++[.lst (is.map MV.int)]++[.lst []]) (ρ:=R7 S.length (.tup (ts.map tbl)) lp w (S.length+1) none none)
  (λi ρ S'=> ∃(x5 x6:Option MV)(rs:List (Nat×List MV)),ρ=R7 S.length (.tup (ts.map tbl)) lp w (S.length+1) x5 x6/\S'=S++[.lst (is.map MV.int)]++[.lst (rs.map zV)]/\(∀r∈rs,ROk ts r)/\rs.Nodup/\rs.length<=i) (λi d hi ρ S1 ⟨x5,x6,rs,hρ,hS1,hR,hN,hl⟩=>by
   subst hρ hS1
   obtain⟨c,_,rfl⟩:=mM0.mp (mem_of_getElem? hi)
   have hil':i<is.length:=by have:=(gS0.mp hi).1;rw [lM0]at this;exact this
   obtain⟨x6',rs',hb,hR',hN',hl'⟩:=yEL hT (c:=c) hw (lc:=S.length) (lp:=lp) (lr:=S.length+1) (S:=S++[.lst (is.map MV.int)]++[.lst (rs.map zV)]) (x6:=x6) (rs:=rs) hv hV (by rw [aA,getElem?_append_left hlp];exact hP) (by simp) hR hN (by omega)
   refine⟨R7 S.length (.tup (ts.map tbl)) lp w (S.length+1) (some (.int c)) x6',S++[.lst (is.map MV.int)]++[.lst (rs'.map zV)],?_,zPU (by simp),some (.int c),x6',rs',rfl,rfl,hR',hN',by omega⟩
   rw [show gNm 5 (.int c) (R7 S.length (.tup (ts.map tbl)) lp w (S.length+1) x5 x6) (S++[.lst (is.map MV.int)]++[.lst (rs.map zV)])=.ok (R7 S.length (.tup (ts.map tbl)) lp w (S.length+1) (some (.int c)) x6) (S++[.lst (is.map MV.int)]++[.lst (rs.map zV)])from rfl,bok,hb]
   have hset:List.set (S++[MO.lst (is.map MV.int)]++[MO.lst (rs.map zV)]) (S.length+1) (MO.lst (rs'.map zV))=S++[MO.lst (is.map MV.int)]++[MO.lst (rs'.map zV)]:=by simp
   rw [hset])
  ⟨none,none,[],rfl,rfl,λr hr=>by simp at hr,by simp,zero_le _⟩
 subst hρ hS'
 rw [lM0]at hl
 have e2:zCF (R7 S.length (.tup (ts.map tbl)) lp w (S.length+1) none none) (S++[.lst (is.map MV.int)]++[.lst []])=.ok (.next (R7 S.length (.tup (ts.map tbl)) lp w (S.length+1) x5 x6)) (S++[.lst (is.map MV.int)]++[.lst (rs.map zV)]):=by
  unfold zCF
  simp? [yKY (S:=S++[.lst (is.map MV.int)]++[.lst []]) (l:=S.length) (ds:=is.map MV.int) (by simp)]
  exact e
 have e3:zCG (R7 S.length (.tup (ts.map tbl)) lp w (S.length+1) x5 x6) (S++[.lst (is.map MV.int)]++[.lst (rs.map zV)])=.ok (.ret (.val (.tup (rs.map zV)))) (S++[.lst (is.map MV.int)]++[.lst (rs.map zV)]):=by
  unfold zCG
  simp? [nG (S:=S++[.lst (is.map MV.int)]++[.lst (rs.map zV)]) (l:=S.length+1) (ds:=rs.map zV) (by simp)]
 refine⟨rs,hR,hN,hl,cH (T:=[.lst (is.map MV.int),.lst (rs.map zV)]) rfl ?_ (xX (yU λd hd=>?_)) (λl=>by simp)⟩
 ·show jW [.loc S.length,.tup (ts.map tbl),.loc lp,.int w] (S++[.lst (is.map MV.int)])=_
  unfold jW zNQ
  rw [hs,zE e1,zE e2,e3]
  rw [aA]
  rfl
 ·obtain⟨r,hr,rfl⟩:=mM0.mp hd
  exact yAF (hR r hr) _
inductive Side where
 |isv (v:MV)|cell (k j:Nat)
def sIs:List Nat:=[105,115]
def zFN:List Nat:=[99,101,108,108]
def xO:Side->MV
 |.isv v=>.tup [.str sIs,v]
 |.cell k j=>.tup [.str zFN,.int k,.int j]
def yAG(ws:List Int):Side->Prop
 |.isv v=>Vl v
 |.cell k j=> ∃w,ws[k]? =some w/\(j:Int)<w
def wid(ts:List (Int×Int))(t:Nat):Int:=((ts[t]?).map (·.1)).getD 0
theorem zMY{ts:List (Int×Int)}{t:Nat}{p:Int×Int}(h:ts[t]? =some p):wid ts t=p.1:=by unfold wid;rw [h];rfl
theorem yHU{ts:List (Int×Int)}(hT:TOk ts){t:Nat}(h:t<ts.length):1<=wid ts t/\wid ts t<=4:=by
 have:=hT.2.2 ts[t] (getElem_mem h)
 rw [zMY (gE0 h)]
 exact⟨this.1,this.2.1⟩
def zS(t:Nat):MV:=.int (t:Nat)
def ThOk(ts:List (Int×Int))(th:List Nat):Prop:=1<=th.length/\th.length<=2/\ ∀t∈th,t<ts.length
theorem yPS{th:List Nat}{k t:Nat}(h:th[k]? =some t):atI (th.map zS) (k:Int)=some (zS t):=by
 have hl:k<th.length:=(gS0.mp h).1
 unfold atI ixN
 rw [iP (by omega),iP (by rw [lM0];omega)]
 show(th.map zS)[(k:Int).toNat]? =_
 rw [toNat_natCast,getElem?_map,h]
 rfl
theorem zOL{ws:List Int}{sd:Side}(h:yAG ws sd)(n:Nat):lo n (xO sd):=by
 cases sd with
 |isv v=>exact xX (yU λe he=>by simp at he;rcases he with rfl|rfl;(exact zGC _ _);exact Vl.lo h n)
 |cell k j=>exact xX (yU λe he=>by simp at he;rcases he with rfl|rfl|rfl<;>first |exact zGC _ _|exact kH _ _)
theorem zQU(sd:Side)(l:Nat):xO sd≠.loc l:=by cases sd<;>(intro h;cases h)
abbrev D5(l:Nat)(th tb:MV)(lp:Nat)(x4:Option MV):Rho:=[some (.loc l),some th,some tb,some (.loc lp),x4]
theorem yCL{ts:List (Int×Int)}(hT:TOk ts){th:List Nat}(hth:ThOk ts th){l lp:Nat}{x:Int}{vs:List MV}{S:Sto}(hne:l≠lp)(hv:vs.length=7)(hV: ∀d∈vs,Vl d)(hP:S[lp]? =some (.lst vs))(hS:S[l]? =some (.lst [.int x])):
  ∃sd x',yAG (th.map (wid ts)) sd/\zP 4 wB [.val (.loc l),.val (.tup (th.map zS)),.val (.tup (ts.map tbl)),.val (.loc lp)] S=.ok (.val (xO sd)) (S.set l (.lst [.int x'])):=by
 have hs:zN zGM [.loc l,.tup (th.map zS),.tup (ts.map tbl),.loc lp]=D5 l (.tup (th.map zS)) (.tup (ts.map tbl)) lp none:=rfl
 have t1:=zET (n:=4) hS (by decide) (by decide)
 have hS1:=get_set (o':=.lst [.int (x / 4)]) hS
 have hP1:(S.set l (.lst [.int (x / 4)]))[lp]? =some (.lst vs):=by rw [kL hne];exact hP
 cases hb:decide (x % 4=0)with
 |true=>
  have t2:=zET (n:=7) hS1 (by decide) (by decide)
  rw [List.set_set]at t2
  have hP2:(S.set l (.lst [.int (x / 4 / 7)]))[lp]? =some (.lst vs):=by rw [kL hne];exact hP
  obtain⟨v,hvv⟩:=dS (xs:=vs) (i:=x / 4 % 7) (eN _ (by decide)) (by have:=eL (x / 4) (show(0:Int)<7 by decide);rw [hv];exact this)
  have vV:=dU hV hvv
  refine⟨.isv v,x / 4 / 7,vV,zQP rfl ?_ (zOL (ws:=[]) (sd:=.isv v) vV _) (zQU _)⟩
  have e1:kY (D5 l (.tup (th.map zS)) (.tup (ts.map tbl)) lp none) S=.ok (.ret (.val (xO (.isv v)))) (S.set l (.lst [.int (x / 4 / 7)])):=by
   unfold kY
   simp? [t1,hb,t2,zPT hP2 hvv]
   rfl
  show wB [.loc l,.tup (th.map zS),.tup (ts.map tbl),.loc lp] S=_
  unfold wB zHE
  rw [hs,dR e1]
  rfl
 |false=>
  have e1:kY (D5 l (.tup (th.map zS)) (.tup (ts.map tbl)) lp none) S=.ok (.next (D5 l (.tup (th.map zS)) (.tup (ts.map tbl)) lp none)) (S.set l (.lst [.int (x / 4)])):=by
   unfold kY
   simp? [t1,hb]
   rfl
  have hp:(0:Int)<(th.length:Int):=by have:=hth.1;omega
  have hlen: ∀S,wF [.val (.tup (th.map zS))] S=.ok (.val (.int th.length)) S:=λS=>by rw [dY,lM0]
  have t2:=zET (n:=(th.length:Int)) hS1 hp (by have:=hth.2.1;omega)
  rw [List.set_set]at t2
  have h0:0<=x / 4 % (th.length:Int):=eN _ (by omega)
  have h1:x / 4 % (th.length:Int)<th.length:=eL _ hp
  obtain⟨k,hk⟩:=eq_ofNat_of_zero_le h0
  have hkl:k<th.length:=by omega
  have e2:zCJ (D5 l (.tup (th.map zS)) (.tup (ts.map tbl)) lp none) (S.set l (.lst [.int (x / 4)]))=.ok (.next (D5 l (.tup (th.map zS)) (.tup (ts.map tbl)) lp (some (.int (k:Nat))))) (S.set l (.lst [.int (x / 4 / th.length)])):=by
   unfold zCJ
   simp? [hlen,t2]
   rw [hk]
  have hgk:th[k]? =some th[k]:=gE0 hkl
  have htl:=hth.2.2 th[k] (getElem_mem hkl)
  generalize th[k]=t at hgk htl
  have hgt:ts[t]? =some ts[t]:=gE0 htl
  have hwd:=yHU hT htl
  rw [zMY hgt]at hwd
  have hS2:=get_set (o':=.lst [.int (x / 4 / th.length)]) hS
  have t3:=zET (n:=ts[t].1) hS2 (by omega) (by omega)
  rw [List.set_set]at t3
  have g0:0<=x / 4 / th.length % ts[t].1:=eN _ (by omega)
  have g1:x / 4 / th.length % ts[t].1<ts[t].1:=eL _ (by omega)
  obtain⟨j,hj⟩:=eq_ofNat_of_zero_le g0
  have hOk:yAG (th.map (wid ts)) (.cell k j):=⟨ts[t].1,by rw [getElem?_map,hgk];show some (wid ts t)=_;rw [zMY hgt],by omega⟩
  refine⟨.cell k j,x / 4 / th.length / ts[t].1,hOk,zQP rfl ?_ (zOL hOk _) (zQU _)⟩
  have e3:zCK (D5 l (.tup (th.map zS)) (.tup (ts.map tbl)) lp (some (.int (k:Nat)))) (S.set l (.lst [.int (x / 4 / th.length)]))=.ok (.ret (.val (xO (.cell k j)))) (S.set l (.lst [.int (x / 4 / th.length / ts[t].1)])):=by
   unfold zCK
   simp? [ix_tup (S:=S.set l (.lst [.int (x / 4 / th.length)])) (show atI (th.map zS) (k:Int)=some (.int t)from yPS hgk),ix_tup (S:=S.set l (.lst [.int (x / 4 / th.length)])) (zQT hgt)]
   rw [show ixF (.val (tbl ts[t])) (.val (.int 0)) (S.set l (.lst [.int (x / 4 / th.length)]))=.ok (.val (.int ts[t].1)) (S.set l (.lst [.int (x / 4 / th.length)]))from rfl]
   simp? [t3]
   rw [hj]
   rfl
  show wB [.loc l,.tup (th.map zS),.tup (ts.map tbl),.loc lp] S=_
  unfold wB zHE
  rw [hs,zE e1,zE e2,e3]
  rfl
theorem yEM{n:Nat}{F:List MV->Sto->R Er}{rs:List Er}{S T:Sto}{d:MV}{l:Nat}{x:Int}(hn:rs.length=n)(hF:F (zQ rs S).1 (zQ rs S).2=.ok (.val d) (S.set l (.lst [.int x])++T))(h:lo S.length d)(hd: ∀l,d≠.loc l):zP n F rs S=.ok (.val d) (S.set l (.lst [.int x])):=by
 unfold zP
 rw [iP hn,hF,jL,bok]
 have hL:(S.set l (.lst [.int x])).length=S.length:=length_set
 have hc:zSS S (S.set l (.lst [.int x])++T):=by
  refine⟨by rw [lA,hL];omega,λm hm=>?_⟩
  rw [getElem?_append_left (by rw [hL];exact hm)]
  by_cases e:l=m
  ·subst e
   exact .inr ⟨_,getElem?_set_self hm,yU λe he=>by rw [mS.mp he];exact kH _ _⟩
  ·exact .inl (getElem?_set_ne e)
 unfold gX
 rw [iP hc]
 have e:(S.set l (.lst [.int x])++T).take S.length=S.set l (.lst [.int x]):=by rw [<-hL];simp
 cases d with
 |loc m=>exact absurd rfl (hd m)
 |_=>dsimp only;rw [iP h,e]
structure Test where
 l:Side
 w:List Nat
 r:Side
def words3:List (List Nat):=[[115,97,109,101],[117,110,108,105,107,101],[108,101,115,115]]
def testM(t:Test):MV:=.tup [xO t.l,.str t.w,xO t.r]
def zQV(ws:List Int)(t:Test):Prop:=yAG ws t.l/\t.w∈words3/\yAG ws t.r
theorem zVG{ws:List Int}{t:Test}(h:zQV ws t)(n:Nat):lo n (testM t):=xX (yU λe he=>by
 simp only [mC,nM0,or_false]at he
 rcases he with rfl|rfl|rfl
 ·exact zOL h.1 n
 ·exact zGC _ _
 ·exact zOL h.2.2 n)
abbrev T8(l:Nat)(th tb:MV)(lp lt:Nat)(x5 x6 x7:Option MV):Rho:=[some (.loc l),some th,some tb,some (.loc lp),some (.loc lt),x5,x6,x7]
theorem yEN{ts:List (Int×Int)}(hT:TOk ts){th:List Nat}(hth:ThOk ts th){l lp lt:Nat}{x:Int}{vs:List MV}{S:Sto}{x5 x6 x7:Option MV}{qs:List Test}(hne:l≠lp)(hlt:l≠lt)(hv:vs.length=7)(hV: ∀d∈vs,Vl d)(hP:S[lp]? =some (.lst vs))(hS:S[l]? =some (.lst [.int x]))
  (hQ:S[lt]? =some (.lst (qs.map testM))) (hql:qs.length<1000): ∃(q:Test)(x':Int)(y6 y7:Option MV),zQV (th.map (wid ts)) q/\gN (T8 l (.tup (th.map zS)) (.tup (ts.map tbl)) lp lt x5 x6 x7) S=.ok (.next (T8 l (.tup (th.map zS)) (.tup (ts.map tbl)) lp lt x5 y6 y7)) ((S.set l (.lst [.int x'])).set lt (.lst ((qs++[q]).map testM))):=by
 have t1:=zET (n:=3) hS (by decide) (by decide)
 have hS1:=get_set (o':=.lst [.int (x / 3)]) hS
 have hP1:(S.set l (.lst [.int (x / 3)]))[lp]? =some (.lst vs):=by rw [kL hne];exact hP
 obtain⟨w,hw⟩:=dS (xs:=words3) (i:=x % 3) (eN _ (by decide)) (by have:=eL x (show(0:Int)<3 by decide);show x % 3<3;exact this)
 have hww:atI [MV.str [115,97,109,101],MV.str [117,110,108,105,107,101],MV.str [108,101,115,115]] (x % 3)=some (.str w):=by
  have e:([MV.str [115,97,109,101],MV.str [117,110,108,105,107,101],MV.str [108,101,115,115]]:List MV)=words3.map MV.str:=rfl
  rw [e]
  unfold atI at hw ⊢
  rw [lM0]
  cases z:ixN words3.length (x % 3)with
  |none=>rw [z]at hw;cases hw
  |some j=>
   rw [z]at hw
   show(words3.map MV.str)[j]? =_
   rw [getElem?_map,show words3[j]? =some w from hw]
   rfl
 have e1:bN (T8 l (.tup (th.map zS)) (.tup (ts.map tbl)) lp lt x5 x6 x7) S=.ok (.next (T8 l (.tup (th.map zS)) (.tup (ts.map tbl)) lp lt x5 (some (.str w)) x7)) (S.set l (.lst [.int (x / 3)])):=by
  unfold bN
  simp? [t1,zZR hww]
 obtain⟨sa,xa,oka,ca⟩:=yCL hT hth hne hv hV hP1 hS1
 rw [List.set_set]at ca
 have e2:bO (T8 l (.tup (th.map zS)) (.tup (ts.map tbl)) lp lt x5 (some (.str w)) x7) (S.set l (.lst [.int (x / 3)]))=.ok (.next (T8 l (.tup (th.map zS)) (.tup (ts.map tbl)) lp lt x5 (some (.str w)) (some (xO sa)))) (S.set l (.lst [.int xa])):=by
  unfold bO
  simp? [ca]
 have hS2:=get_set (o':=.lst [.int xa]) hS
 have hP2:(S.set l (.lst [.int xa]))[lp]? =some (.lst vs):=by rw [kL hne];exact hP
 have hQ2:(S.set l (.lst [.int xa]))[lt]? =some (.lst (qs.map testM)):=by rw [kL hlt];exact hQ
 obtain⟨sb,xb,okb,cb⟩:=yCL hT hth hne hv hV hP2 hS2
 rw [List.set_set]at cb
 have hQ3:(S.set l (.lst [.int xb]))[lt]? =some (.lst (qs.map testM)):=by rw [kL hlt];exact hQ
 have e3:bP (T8 l (.tup (th.map zS)) (.tup (ts.map tbl)) lp lt x5 (some (.str w)) (some (xO sa))) (S.set l (.lst [.int xa]))=.ok (.next (T8 l (.tup (th.map zS)) (.tup (ts.map tbl)) lp lt x5 (some (.str w)) (some (xO sa)))) ((S.set l (.lst [.int xb])).set lt (.lst ((qs++[Test.mk sa w sb]).map testM))):=by
  unfold bP
  simp? [zIH hQ2,cb,zIG hQ3 (show(qs.map testM).length<1000000 by rw [lM0];omega)]
  rw [map_append]
  rfl
 refine⟨⟨sa,w,sb⟩,xb,some (.str w),some (xO sa),⟨oka,dU (P:=λw=>w∈words3) (λw h=>h) hw,okb⟩,?_⟩
 unfold gN
 rw [zE e1,zE e2,e3]
theorem zXJ{ts:List (Int×Int)}(hT:TOk ts){th:List Nat}(hth:ThOk ts th){l lp:Nat}{x:Int}{vs:List MV}{S:Sto}(hne:l≠lp)(hv:vs.length=7)(hV: ∀d∈vs,Vl d)(hP:S[lp]? =some (.lst vs))(hS:S[l]? =some (.lst [.int x])):
  ∃(qs:List Test)(x':Int),1<=qs.length/\qs.length<=3/\(∀q∈qs,zQV (th.map (wid ts)) q)/\zP 4 xR [.val (.loc l),.val (.tup (th.map zS)),.val (.tup (ts.map tbl)),.val (.loc lp)] S=.ok (.val (.tup (qs.map testM))) (S.set l (.lst [.int x'])):=by
 have hl:l<S.length:=(gS0.mp hS).1
 have hlp:lp<S.length:=(gS0.mp hP).1
 have hs:zN zDU [.loc l,.tup (th.map zS),.tup (ts.map tbl),.loc lp]=[some (.loc l),some (.tup (th.map zS)),some (.tup (ts.map tbl)),some (.loc lp),none,none,none,none]:=rfl
 have e1:zAI [some (.loc l),some (.tup (th.map zS)),some (.tup (ts.map tbl)),some (.loc lp),none,none,none,none] S=.ok (.next (T8 l (.tup (th.map zS)) (.tup (ts.map tbl)) lp S.length none none none)) (S++[.lst []]):=by
  unfold zAI
  simp? [bok]
 have hSa:(S++[MO.lst []])[l]? =some (.lst [.int x]):=by rw [getElem?_append_left hl];exact hS
 have t1:=zET (n:=6) hSa (by decide) (by decide)
 have hset: ∀(y:Int)(zs:List Test),List.set (S++[MO.lst (zs.map testM)]) l (MO.lst [.int y])=S.set l (.lst [.int y])++[.lst (zs.map testM)]:=λy zs=>List.set_append_left _ _ hl
 rw [show S++[MO.lst []]=S++[MO.lst (([]:List Test).map testM)]from rfl,hset]at t1
 obtain⟨m,hm⟩:=dS (xs:=[MV.int 1,MV.int 1,MV.int 2,MV.int 1,MV.int 2,MV.int 3]) (i:=x % 6) (eN _ (by decide)) (by have:=eL x (show(0:Int)<6 by decide);show x % 6<6;exact this)
 obtain⟨mi,rfl,m1,m3⟩: ∃v,m=.int v/\1<=v/\v<=3:=dU (P:=λe=> ∃v,e=.int v/\(1:Int)<=v/\v<=3) (by
  intro e he;simp only [mC,nM0,or_false]at he
  rcases he with rfl|rfl|rfl|rfl|rfl|rfl<;>exact⟨_,rfl,by decide,by decide⟩) hm
 have hlen:((List.range mi.toNat).map λk=>MV.int (k:Nat)).length=mi.toNat:=by rw [lM0,length_range]
 obtain⟨ρ',S',e,x5,x6,x7,x',qs,hρ,hS',hql,hqk⟩:=zGD (L:=(List.range mi.toNat).map λk=>MV.int (k:Nat)) (gf:=gNm 5) (body:=gN) (gs:=[]) (S:=S.set l (.lst [.int (x / 6)])++[.lst (([]:List Test).map testM)]) (ρ:=T8 l (.tup (th.map zS)) (.tup (ts.map tbl)) lp S.length none none none)
  (λi ρ S'=> ∃(x5 x6 x7:Option MV)(x':Int)(qs:List Test),ρ=T8 l (.tup (th.map zS)) (.tup (ts.map tbl)) lp S.length x5 x6 x7/\S'=S.set l (.lst [.int x'])++[.lst (qs.map testM)]/\qs.length=i/\ ∀q∈qs,zQV (th.map (wid ts)) q) (λi d hi ρ S1 ⟨x5,x6,x7,x',qs,hρ,hS1,hql,hqk⟩=>by
   subst hρ hS1
   have hil:i<4:=by have:=(gS0.mp hi).1;omega
   have hLs:(S.set l (.lst [.int x'])).length=S.length:=length_set
   have a1:(S.set l (.lst [.int x'])++[MO.lst (qs.map testM)])[lp]? =some (.lst vs):=by rw [getElem?_append_left (by rw [hLs];exact hlp),kL hne];exact hP
   have a2:(S.set l (.lst [.int x'])++[MO.lst (qs.map testM)])[l]? =some (.lst [.int x']):=by rw [getElem?_append_left (by rw [hLs];exact hl)];exact get_set hS
   have a3:(S.set l (.lst [.int x'])++[MO.lst (qs.map testM)])[S.length]? =some (.lst (qs.map testM)):=by rw [<-hLs];simp
   obtain⟨q,x'',y6,y7,hq,hb⟩:=yEN hT hth (x5:=some d) (x6:=x6) (x7:=x7) (lt:=S.length) (qs:=qs) hne (by omega) hv hV a1 a2 a3 (by omega)
   have hfin:List.set (List.set (S.set l (.lst [.int x'])++[MO.lst (qs.map testM)]) l (MO.lst [.int x''])) S.length (MO.lst ((qs++[q]).map testM))=S.set l (.lst [.int x''])++[.lst ((qs++[q]).map testM)]:=by
    rw [List.set_append_left _ _ (by rw [hLs];exact hl),List.set_set]
    have hL2:(S.set l (.lst [.int x''])).length=S.length:=length_set
    rw [<-hL2]
    simp
   rw [hfin]at hb
   refine⟨T8 l (.tup (th.map zS)) (.tup (ts.map tbl)) lp S.length (some d) y6 y7,_,?_,kR _,some d,y6,y7,x'',qs++[q],rfl,rfl,by rw [lA,hql];rfl,?_⟩
   ·rw [show gNm 5 d (T8 l (.tup (th.map zS)) (.tup (ts.map tbl)) lp S.length x5 x6 x7) (S.set l (.lst [.int x'])++[MO.lst (qs.map testM)])=.ok (T8 l (.tup (th.map zS)) (.tup (ts.map tbl)) lp S.length (some d) x6 x7) (S.set l (.lst [.int x'])++[MO.lst (qs.map testM)])from rfl,bok,hb]
   ·intro z hz
    rw [mem_append,mS]at hz
    rcases hz with hz|rfl
    ·exact hqk z hz
    ·exact hq) ⟨none,none,none,x / 6,[],rfl,rfl,rfl,λp hp=>by simp at hp⟩
 subst hρ hS'
 rw [hlen]at hql
 have e2:zAJ (T8 l (.tup (th.map zS)) (.tup (ts.map tbl)) lp S.length none none none) (S++[MO.lst []])=.ok (.next (T8 l (.tup (th.map zS)) (.tup (ts.map tbl)) lp S.length x5 x6 x7)) (S.set l (.lst [.int x'])++[.lst (qs.map testM)]):=by
  unfold zAJ
  rw [show S++[MO.lst []]=S++[MO.lst (([]:List Test).map testM)]from rfl]
  simp? [t1,zZR hm]
  rw [zDT (by omega),bok]
  exact e
 have hLs:(S.set l (.lst [.int x'])).length=S.length:=length_set
 have e3:zAK (T8 l (.tup (th.map zS)) (.tup (ts.map tbl)) lp S.length x5 x6 x7) (S.set l (.lst [.int x'])++[.lst (qs.map testM)])=.ok (.ret (.val (.tup (qs.map testM)))) (S.set l (.lst [.int x'])++[.lst (qs.map testM)]):=by
  unfold zAK
  simp? [nG (S:=S.set l (.lst [.int x'])++[.lst (qs.map testM)]) (l:=S.length) (ds:=qs.map testM) (by rw [<-hLs];simp)]
 refine⟨qs,x',by omega,by omega,hqk,yEM (T:=[.lst (qs.map testM)]) rfl ?_ (xX (yU λd hd=>?_)) (λl=>by simp)⟩
 ·show xR [.loc l,.tup (th.map zS),.tup (ts.map tbl),.loc lp] S=_
  unfold xR zLN
  rw [hs,zE e1,zE e2,e3]
  rfl
 ·obtain⟨q,hq,rfl⟩:=mM0.mp hd
  exact zVG (hqk q hq) _
theorem yCM{gf:MV->Rho->Sto->R Rho}{cf:Rho->Sto->R Bool}{ef:Rho->Sto->R Er}{ρb:Rho}{gs:List (Nat×List MV)}{P:MV->Prop}{I:Sto->Prop}:
  ∀{ds:List MV}{S:Sto},(∀d∈ds, ∀S,I S-> ∃ρ1 y S',gf d ρb S=.ok ρ1 S/\cf ρ1 S=.ok true S/\ef ρ1 S=.ok (.val y) S'/\P y/\I S'/\stay gs S')->I S-> ∃out S',kD gf cf ef ρb gs ds S=.ok out S'/\I S'/\out.length=ds.length/\ ∀o∈out,P o
 |[],S,_,h=>⟨[],S,rfl,h,rfl,λo h=>by simp at h⟩
 |d::ds,S,st,h=>by
  obtain⟨ρ1,y,S1,h1,h2,h3,h4,h5,h6⟩:=st d mF0 S h
  obtain⟨out,S2,e,i2,hl,hp⟩:=yCM (ds:=ds) (S:=S1) (λd hd=>st d (mO _ hd)) h5
  refine⟨y::out,S2,?_,i2,by rw [lC0,lC0,hl],λo ho=>(mC.mp ho).elim (λz=>z▸h4) (hp o)⟩
  unfold kD
  rw [h1,jL,bok,h2,jL,bok,iP rfl,h3,jL,bok]
  unfold hZ
  rw [bok,iP h6,e]
  rfl
inductive Rule where
 |never (t:Nat) (qs:List Test)|apart (t u:Nat) (qs:List Test)|tie (t:Nat) (cs:List Nat) (u:Nat) (ds:List Nat)
def zAR:List Nat:=[110,101,118,101,114]
def bS:List Nat:=[97,112,97,114,116]
def yHV:List Nat:=[116,105,101]
def zX:Rule->MV
 |.never t qs=>.tup [.str zAR,.int (t:Nat),.tup (qs.map testM)]
 |.apart t u qs=>.tup [.str bS,.int (t:Nat),.int (u:Nat),.tup (qs.map testM)]
 |.tie t cs u ds=>.tup [.str yHV,.int (t:Nat),.tup (cs.map zS),.int (u:Nat),.tup (ds.map zS)]
def zFP(ts:List (Int×Int)):Rule->Prop
 |.never t qs=>t<ts.length/\1<=qs.length/\qs.length<=3/\ ∀q∈qs,zQV [wid ts t] q
 |.apart t u qs=>t<ts.length/\u<ts.length/\1<=qs.length/\qs.length<=3/\ ∀q∈qs,zQV [wid ts t,wid ts u] q
 |.tie t cs u ds=>t<ts.length/\u<ts.length/\1<=cs.length/\cs.length<=3/\ds.length=cs.length/\(∀c∈cs,(c:Int)<wid ts t)/\ ∀d∈ds,(d:Int)<wid ts u
theorem zVH{ts:List (Int×Int)}{r:Rule}(h:zFP ts r)(n:Nat):lo n (zX r):=by
 have nm: ∀(cs:List Nat),lo n (.tup (cs.map zS)):=λcs=>xX (yU λe he=>by
  obtain⟨c,_,rfl⟩:=mM0.mp he
  exact kH _ _)
 cases r with
 |never t qs=>
  refine xX (yU λe he=>?_)
  simp only [mC,nM0,or_false]at he
  rcases he with rfl|rfl|rfl
  ·exact zGC _ _
  ·exact kH _ _
  ·exact xX (yU λe he=>by obtain⟨q,hq,rfl⟩:=mM0.mp he;exact zVG (h.2.2.2 q hq) n)
 |apart t u qs=>
  refine xX (yU λe he=>?_)
  simp only [mC,nM0,or_false]at he
  rcases he with rfl|rfl|rfl|rfl
  ·exact zGC _ _
  ·exact kH _ _
  ·exact kH _ _
  ·exact xX (yU λe he=>by obtain⟨q,hq,rfl⟩:=mM0.mp he;exact zVG (h.2.2.2.2 q hq) n)
 |tie t cs u ds=>
  refine xX (yU λe he=>?_)
  simp only [mC,nM0,or_false]at he
  rcases he with rfl|rfl|rfl|rfl|rfl
  ·exact zGC _ _
  ·exact kH _ _
  ·exact nm cs
  ·exact kH _ _
  ·exact nm ds
theorem zQW(r:Rule)(l:Nat):zX r≠.loc l:=by cases r<;>(intro h;cases h)
abbrev U9(c:MV)(tb:MV)(lp l:Nat)(k t u:Option MV)(x7 x8:Option MV):Rho:=[some c,some tb,some (.loc lp),some (.loc l),k,t,u,x7,x8]
theorem tup1(a:MV)(S:Sto):jY [.val a] S=.ok (.val (.tup [a])) S:=zMP (by simp)
theorem tup4(a b c d:MV)(S:Sto):jY [.val a,.val b,.val c,.val d] S=.ok (.val (.tup [a,b,c,d])) S:=zMP (by simp)
theorem tup5(a b c d e:MV)(S:Sto):jY [.val a,.val b,.val c,.val d,.val e] S=.ok (.val (.tup [a,b,c,d,e])) S:=zMP (by simp)
theorem lst5(a b c d e:MV)(S:Sto):jZ [.val a,.val b,.val c,.val d,.val e] S=.ok (.new [a,b,c,d,e]) S:=zGF (by simp)
abbrev SN(S:Sto)(x:Int):Sto:=S++[MO.lst [.int x]]
theorem yHW(S:Sto)(x:Int):(SN S x)[S.length]? =some (.lst [.int x]):=by simp
theorem yAH(S:Sto)(x y:Int):List.set (SN S x) S.length (MO.lst [.int y])=SN S y:=by simp
theorem zLO(S:Sto)(x:Int){n:Int}(h0:0<n)(h1:n<1073741824):zP 2 zY [.val (.loc S.length),.val (.int n)] (SN S x)=.ok (.val (.int (x % n))) (SN S (x / n)):=by
 have:=zET (n:=n) (yHW S x) h0 h1
 rw [yAH]at this
 exact this
theorem zXK(x:Int){n:Nat}(h:0<n): ∃t:Nat,x % (n:Int)=t/\t<n:=by
 have h0:0<=x % (n:Int):=eN _ (by omega)
 have h1:x % (n:Int)<n:=eL _ (by omega)
 obtain⟨t,ht⟩:=eq_ofNat_of_zero_le h0
 exact⟨t,ht,by omega⟩
theorem yCN{ts:List (Int×Int)}(hT:TOk ts){t:Nat}(ht:t<ts.length){ef:Rho->Sto->R Er}{ρb:Rho}{S:Sto}{x:Int}{mi:Int}
  (hef: ∀(d:MV)(y:Int),ef (ρb.set 0 (some d)) (SN S y)=zP 2 zY [.val (.loc S.length),.val (.int (wid ts t))] (SN S y)): ∃(cs:List Nat)(x':Int),kD (gNm 0) (λρ S=>(R.ok true S)) ef ρb [] ((List.range mi.toNat).map λk=>MV.int (k:Nat)) (SN S x)=.ok (cs.map zS) (SN S x')/\cs.length=mi.toNat/\ ∀c∈cs,(c:Int)<wid ts t:=by
 have hw:=yHU hT ht
 obtain⟨out,S',e,⟨x',rfl⟩,hl,hp⟩:=yCM (gf:=gNm 0) (cf:=λρ S=>(R.ok true S)) (ef:=ef) (ρb:=ρb) (gs:=[]) (P:=λy=> ∃c:Nat,y=zS c/\(c:Int)<wid ts t) (I:=λS'=> ∃y,S'=SN S y) (ds:=(List.range mi.toNat).map λk=>MV.int (k:Nat)) (S:=SN S x) (λd hd S1 ⟨y,hy⟩=>by
  subst hy
  have h0:0<=y % wid ts t:=eN _ (by omega)
  have h1:y % wid ts t<wid ts t:=eL _ (by omega)
  obtain⟨c,hc⟩:=eq_ofNat_of_zero_le h0
  refine⟨ρb.set 0 (some d),.int (y % wid ts t),SN S (y / wid ts t),rfl,rfl,?_,⟨c,by rw [hc];rfl,by omega⟩,⟨_,rfl⟩,kR _⟩
  rw [hef,zLO S y (by omega) (by omega)]) ⟨x,rfl⟩
 have: ∀(o:List MV),(∀y∈o, ∃c:Nat,y=zS c/\(c:Int)<wid ts t)-> ∃cs:List Nat,o=cs.map zS/\ ∀c∈cs,(c:Int)<wid ts t:=by
  intro o
  induction o with
  |nil=>exact λ_=>⟨[],rfl,λc hc=>by simp at hc⟩
  |cons a o ih=>
   intro h
   obtain⟨c,rfl,hc⟩:=h a mF0
   obtain⟨cs,rfl,hcs⟩:=ih λy hy=>h y (mO _ hy)
   exact⟨c::cs,rfl,λd hd=>(mC.mp hd).elim (λe=>e▸hc) (hcs d)⟩
 obtain⟨cs,rfl,hcs⟩:=this out hp
 exact⟨cs,x',e,by rw [lM0,lM0,length_range]at hl;exact hl,hcs⟩
theorem yCO{ts:List (Int×Int)}{t:Nat}(ht:t<ts.length)(S:Sto): ∃e,ixF (.val (.tup (ts.map tbl))) (.val (.int (t:Nat))) S=.ok (.val e) S/\ixF (.val e) (.val (.int 0)) S=.ok (.val (.int (wid ts t))) S:=by
 have hgt:ts[t]? =some ts[t]:=gE0 ht
 exact⟨tbl ts[t],ix_tup (zQT hgt),by rw [zMY hgt];rfl⟩
theorem yLN{ts:List (Int×Int)}(hT:TOk ts)(c:Int){lp:Nat}{vs:List MV}{S:Sto}(hv:vs.length=7)(hV: ∀d∈vs,Vl d)(hP:S[lp]? =some (.lst vs)):
  ∃r,zFP ts r/\zP 3 wC [.val (.int c),.val (.tup (ts.map tbl)),.val (.loc lp)] S=.ok (.val (zX r)) S:=by
 obtain⟨n,hn⟩:=zVE c 2147483543 ⟨by decide,by decide⟩ S
 have hlp:lp<S.length:=(gS0.mp hP).1
 have hne:S.length≠lp:=by omega
 have hPn: ∀x,(SN S x)[lp]? =some (.lst vs):=λx=>by rw [getElem?_append_left hlp];exact hP
 have hp:0<ts.length:=hT.1
 have hl4:=hT.2.1
 have hlen: ∀S,wF [.val (.tup (ts.map tbl))] S=.ok (.val (.int ts.length)) S:=λS=>by rw [dY,lM0]
 have fin: ∀(r:Rule)(x:Int),zFP ts r->wC [.int c,.tup (ts.map tbl),.loc lp] S=.ok (.val (zX r)) (SN S x)-> ∃r,zFP ts r/\zP 3 wC [.val (.int c),.val (.tup (ts.map tbl)),.val (.loc lp)] S=.ok (.val (zX r)) S:=
  λr x hr h=>⟨r,hr,cH (T:=[.lst [.int x]]) rfl h (zVH hr _) (zQW r)⟩
 have hs:zN cJ [.int c,.tup (ts.map tbl),.loc lp]=[some (.int c),some (.tup (ts.map tbl)),some (.loc lp),none,none,none,none,none,none]:=rfl
 have e1:zCL [some (.int c),some (.tup (ts.map tbl)),some (.loc lp),none,none,none,none,none,none] S=.ok (.next (U9 (.int c) (.tup (ts.map tbl)) lp S.length none none none none none)) (SN S n):=by
  unfold zCL
  simp? [hn]
 have e2:zCM (U9 (.int c) (.tup (ts.map tbl)) lp S.length none none none none none) (SN S n)=.ok (.next (U9 (.int c) (.tup (ts.map tbl)) lp S.length (some (.int (n % 4))) none none none none)) (SN S (n / 4)):=by
  unfold zCM
  simp? [zLO S n (n:=4) (by decide) (by decide)]
 obtain⟨t,ht,htl⟩:=zXK (n / 4) hp
 have e3:zCN (U9 (.int c) (.tup (ts.map tbl)) lp S.length (some (.int (n % 4))) none none none none) (SN S (n / 4))=.ok (.next (U9 (.int c) (.tup (ts.map tbl)) lp S.length (some (.int (n % 4))) (some (.int (t:Nat))) none none none)) (SN S (n / 4 / ts.length)):=by
  unfold zCN
  simp? [hlen,zLO S (n / 4) (n:=(ts.length:Int)) (by omega) (by omega)]
  rw [ht]
 obtain⟨u,hu,hul⟩:=zXK (n / 4 / ts.length) hp
 have e4:zCO (U9 (.int c) (.tup (ts.map tbl)) lp S.length (some (.int (n % 4))) (some (.int (t:Nat))) none none none) (SN S (n / 4 / ts.length))=.ok (.next (U9 (.int c) (.tup (ts.map tbl)) lp S.length (some (.int (n % 4))) (some (.int (t:Nat))) (some (.int (u:Nat))) none none)) (SN S (n / 4 / ts.length / ts.length)):=by
  unfold zCO
  simp? [hlen,zLO S (n / 4 / ts.length) (n:=(ts.length:Int)) (by omega) (by omega)]
  rw [hu]
 generalize n / 4 / ts.length / ts.length=x4 at e4
 cases hb:decide (n % 4=0)with
 |true=>
  obtain⟨qs,x',q1,q2,q3,hc⟩:=zXJ hT (th:=[t]) ⟨by simp,by simp,λz hz=>by rw [mS.mp hz];exact htl⟩ hne hv hV (hPn x4) (yHW S x4)
  rw [yAH]at hc
  have e5:kZ (U9 (.int c) (.tup (ts.map tbl)) lp S.length (some (.int (n % 4))) (some (.int (t:Nat))) (some (.int (u:Nat))) none none) (SN S x4)=.ok (.ret (.val (zX (.never t qs)))) (SN S x'):=by
   unfold kZ
   have hc':zP 4 xR [.val (.loc S.length),.val (.tup [.int (t:Nat)]),.val (.tup (ts.map tbl)),.val (.loc lp)] (SN S x4)=.ok (.val (.tup (qs.map testM))) (SN S x'):=hc
   simp? [hb,tup1,hc']
   rfl
  refine fin (.never t qs) x' ⟨htl,q1,q2,q3⟩ ?_
  unfold wC zBI
  rw [hs,zE e1,zE e2,zE e3,zE e4,dR e5]
  rfl
 |false=>
  have e5:kZ (U9 (.int c) (.tup (ts.map tbl)) lp S.length (some (.int (n % 4))) (some (.int (t:Nat))) (some (.int (u:Nat))) none none) (SN S x4)=.ok (.next (U9 (.int c) (.tup (ts.map tbl)) lp S.length (some (.int (n % 4))) (some (.int (t:Nat))) (some (.int (u:Nat))) none none)) (SN S x4):=by
   unfold kZ
   simp? [hb]
   rfl
  cases hb2:decide (n % 4<3)with
  |true=>
   obtain⟨qs,x',q1,q2,q3,hc⟩:=zXJ hT (th:=[t,u]) ⟨by simp,by simp,λz hz=>by simp at hz;rcases hz with rfl|rfl;(exact htl);exact hul⟩ hne hv hV (hPn x4) (yHW S x4)
   rw [yAH]at hc
   have e6:jA (U9 (.int c) (.tup (ts.map tbl)) lp S.length (some (.int (n % 4))) (some (.int (t:Nat))) (some (.int (u:Nat))) none none) (SN S x4)=.ok (.ret (.val (zX (.apart t u qs)))) (SN S x'):=by
    unfold jA
    have hc':zP 4 xR [.val (.loc S.length),.val (.tup [.int (t:Nat),.int (u:Nat)]),.val (.tup (ts.map tbl)),.val (.loc lp)] (SN S x4)=.ok (.val (.tup (qs.map testM))) (SN S x'):=hc
    simp? [lt_int,hb2,tup4,hc']
    rfl
   refine fin (.apart t u qs) x' ⟨htl,hul,q1,q2,q3⟩ ?_
   unfold wC zBI
   rw [hs,zE e1,zE e2,zE e3,zE e4,zE e5,dR e6]
   rfl
  |false=>
   have e6:jA (U9 (.int c) (.tup (ts.map tbl)) lp S.length (some (.int (n % 4))) (some (.int (t:Nat))) (some (.int (u:Nat))) none none) (SN S x4)=.ok (.next (U9 (.int c) (.tup (ts.map tbl)) lp S.length (some (.int (n % 4))) (some (.int (t:Nat))) (some (.int (u:Nat))) none none)) (SN S x4):=by
    unfold jA
    simp? [lt_int,hb2]
    rfl
   obtain⟨m,hm⟩:=dS (xs:=[MV.int 1,MV.int 2,MV.int 1,MV.int 3,MV.int 1]) (i:=x4 % 5) (eN _ (by decide)) (by have:=eL x4 (show(0:Int)<5 by decide);show x4 % 5<5;exact this)
   obtain⟨mi,rfl,m1,m3⟩: ∃v,m=.int v/\1<=v/\v<=3:=dU (P:=λe=> ∃v,e=.int v/\(1:Int)<=v/\v<=3) (by
    intro e he;simp only [mC,nM0,or_false]at he
    rcases he with rfl|rfl|rfl|rfl|rfl<;>exact⟨_,rfl,by decide,by decide⟩) hm
   have e7:zCP (U9 (.int c) (.tup (ts.map tbl)) lp S.length (some (.int (n % 4))) (some (.int (t:Nat))) (some (.int (u:Nat))) none none) (SN S x4)=.ok (.next (U9 (.int c) (.tup (ts.map tbl)) lp S.length (some (.int (n % 4))) (some (.int (t:Nat))) (some (.int (u:Nat))) (some (.int mi)) none)) (SN S (x4 / 5)):=by
    unfold zCP
    simp? [lst5,zLO S x4 (n:=5) (by decide) (by decide),zZR hm]
   obtain⟨cs,x8,hcs,hcl,hcw⟩:=yCN hT htl (ef:=jH) (ρb:=[none,some (.tup (ts.map tbl)),some (.loc S.length),some (.int (t:Nat))]) (S:=S) (x:=x4 / 5) (mi:=mi) (λd y=>by
    obtain⟨e,i1,i2⟩:=yCO htl (SN S y)
    show jH [some d,some (.tup (ts.map tbl)),some (.loc S.length),some (.int (t:Nat))] (SN S y)=_
    unfold jH
    simp? [i1,i2])
   have hll:((List.range mi.toNat).map λk=>MV.int (k:Nat)).length<1000000:=by rw [lM0,length_range];omega
   have e8:zCQ (U9 (.int c) (.tup (ts.map tbl)) lp S.length (some (.int (n % 4))) (some (.int (t:Nat))) (some (.int (u:Nat))) (some (.int mi)) none) (SN S (x4 / 5))=.ok (.next (U9 (.int c) (.tup (ts.map tbl)) lp S.length (some (.int (n % 4))) (some (.int (t:Nat))) (some (.int (u:Nat))) (some (.int mi)) (some (.tup (cs.map zS))))) (SN S x8):=by
    unfold zCQ
    simp? [zDT (S:=SN S (x4 / 5)) (show -(2 ^ 62)<=mi/\mi<2 ^ 62 by omega)]
    rw [iP hll]
    rw [show blk 1 [1,3,5] (U9 (.int c) (.tup (ts.map tbl)) lp S.length (some (.int (n % 4))) (some (.int (t:Nat))) (some (.int (u:Nat))) (some (.int mi)) none)=[none,some (.tup (ts.map tbl)),some (.loc S.length),some (.int (t:Nat))]from rfl]
    rw [show zFL=(λρ S=>(R.ok true S))from rfl,hcs]
    rfl
   obtain⟨ds,x9,hds,hdl,hdw⟩:=yCN hT hul (ef:=jI) (ρb:=[none,some (.tup (ts.map tbl)),some (.loc S.length),some (.int (u:Nat))]) (S:=S) (x:=x8) (mi:=mi) (λd y=>by
    obtain⟨e,i1,i2⟩:=yCO hul (SN S y)
    show jI [some d,some (.tup (ts.map tbl)),some (.loc S.length),some (.int (u:Nat))] (SN S y)=_
    unfold jI
    simp? [i1,i2])
   have e9:zCR (U9 (.int c) (.tup (ts.map tbl)) lp S.length (some (.int (n % 4))) (some (.int (t:Nat))) (some (.int (u:Nat))) (some (.int mi)) (some (.tup (cs.map zS)))) (SN S x8)=.ok (.ret (.val (zX (.tie t cs u ds)))) (SN S x9):=by
    unfold zCR
    simp? [zDT (S:=SN S x8) (show -(2 ^ 62)<=mi/\mi<2 ^ 62 by omega)]
    rw [iP hll]
    rw [show blk 1 [1,3,6] (U9 (.int c) (.tup (ts.map tbl)) lp S.length (some (.int (n % 4))) (some (.int (t:Nat))) (some (.int (u:Nat))) (some (.int mi)) (some (.tup (cs.map zS))))=[none,some (.tup (ts.map tbl)),some (.loc S.length),some (.int (u:Nat))]from rfl]
    rw [show zFM=(λρ S=>(R.ok true S))from rfl,hds]
    simp? [show jM [.new (ds.map zS)] (SN S x9)=.ok (.val (.tup (ds.map zS))) (SN S x9)from rfl,tup5]
    rfl
   refine fin (.tie t cs u ds) x9 ⟨htl,hul,by omega,by omega,by omega,hcw,hdw⟩ ?_
   unfold wC zBI
   rw [hs,zE e1,zE e2,zE e3,zE e4,zE e5,zE e6,zE e7,zE e8,e9]
   rfl
theorem le_int(i j:Int)(S:Sto):leF (.val (.int i)) (.val (.int j)) S=.ok (.val (.bl (decide (i<=j)))) S:=rfl
theorem le_str(i j:List Nat)(S:Sto):leF (.val (.str i)) (.val (.str j)) S=.ok (.val (.bl (!decide (j<i)))) S:=rfl
theorem yPT(i:Int)(S:Sto):zIL [.val (.int i),.val (.typ "int")] S=.ok (.val (.bl true)) S:=rfl
theorem yPU(i:Int)(S:Sto):zIL [.val (.int i),.val (.typ "bool")] S=.ok (.val (.bl false)) S:=rfl
theorem yPV(i:List Nat)(S:Sto):zIL [.val (.str i),.val (.typ "int")] S=.ok (.val (.bl false)) S:=rfl
theorem wI{n:Nat}{F:List MV->Sto->R Er}{rs:List Er}{S:Sto}{b:Bool}(hn:rs.length=n)(hF:F (zQ rs S).1 (zQ rs S).2=.ok (.val (.bl b)) S):zP n F rs S=.ok (.val (.bl b)) S:=bB hn hF (yBU _ _) (λl=>by simp)
theorem zHG(i:Int)(S:Sto):zP 1 wN [.val (.int i)] S=.ok (.val (.bl true)) S:=wI rfl (by
 show yH (nR [some (.int i)] S)=_
 unfold nR zDV
 simp? [yPT,yPU,zJD]
 rfl)
theorem zXL(i:List Nat)(S:Sto):zP 1 wN [.val (.str i)] S=.ok (.val (.bl false)) S:=wI rfl (by
 show yH (nR [some (.str i)] S)=_
 unfold nR zDV
 simp? [yPV,zJD]
 rfl)
theorem yEO{c:Nat}(h:97<=c/\c<=122):(!decide ([c]<[97]))=true/\(!decide ([122]<[c]))=true:=by
 have h1: ¬([c]<[97]):=by
  intro z
  rw [List.cons_lt_cons_iff]at z
  rcases z with z|⟨_,z⟩
  ·omega
  ·exact absurd z (by simp)
 have h2: ¬([122]<[c]):=by
  intro z
  rw [List.cons_lt_cons_iff]at z
  rcases z with z|⟨_,z⟩
  ·omega
  ·exact absurd z (by simp)
 exact⟨by rw [dF0 h1];rfl,by rw [dF0 h2];rfl⟩
theorem zHH: ∀{n:Nat}{S:Sto},zUN [.new (List.replicate n (.bl true))] S=.ok (.val (.bl true)) S:=by
 intro n S
 have h: ∀n:Nat,zKY (List.replicate n (.bl true))=some (List.replicate n true):=by
  intro n
  induction n with
  |zero=>rfl
  |succ n ih=>rw [replicate_succ,replicate_succ];unfold zKY;rw [ih];rfl
 show(match (some (List.replicate n (MV.bl true))).bind zKY with |some bs=>R.ok (Er.val (.bl (bs.all id))) S|none=>.no)=_
 rw [show(some (List.replicate n (MV.bl true))).bind zKY=some (List.replicate n true)from h n]
 show R.ok (Er.val (.bl ((List.replicate n true).all id))) S=_
 rw [show(List.replicate n true).all id=true by simp]
theorem zHI{ds:List MV}:ds.map (λ_=>MV.bl true)=List.replicate ds.length (.bl true):=by
 induction ds with
 |nil=>rfl
 |cons d ds ih=>rw [map_cons,lC0,replicate_succ,ih]
theorem yPW{x:List Nat}(h:Nm x)(S:Sto):zP 1 zID [.val (.str x)] S=.ok (.val (.bl true)) S:=wI rfl (by
 have hl: ∀S,wF [.val (.str x)] S=.ok (.val (.int x.length)) S:=λS=>iP (fits (by have:=h.2.1;omega))
 have e1:zGO [some (.str x)] S=.ok (.next [some (.str x)]) S:=by
  unfold zGO
  simp? [hl,chF,le_int,dT0 (show(1:Int)<=x.length by have:=h.1;omega),dT0 (show(x.length:Int)<=8 by have:=h.2.1;omega)]
  rfl
 have hc:kD (gNm 0) zBQ bX (blk 1 [] [some (.str x)]) [] (x.map λc=>.str [c]) S=.ok ((x.map λc=>MV.str [c]).map λ_=>.bl true) S:=cI (kR S) λd hd=>by
  obtain⟨c,hc,rfl⟩:=mM0.mp hd
  obtain⟨h1,h2⟩:=yEO (h.2.2 c hc)
  refine⟨[some (.str [c])],rfl,rfl,?_⟩
  unfold bX
  simp? [chF,le_str,h1,h2]
 have e2:zGP [some (.str x)] S=.ok (.ret (.val (.bl true))) S:=by
  unfold zGP
  simp? [bok]
  show(((((if(x.map λc=>MV.str [c]).length<1000000 then(kD (gNm 0) zBQ bX (blk 1 [] [some (.str x)]) [] (x.map λc=>.str [c]) S).bind λo S=>R.ok (Er.new o) S else .no).bind λp S1=>R.ok [p] S1).bind zUN).bind λr S1=>R.ok (Fl.ret r) S1))=_
  rw [iP (by rw [lM0];have:=h.2.1;omega),hc,bok,bok,bok,zHI,zHH]
  rfl
 show yH (zMR [some (.str x)] S)=_
 unfold zMR
 rw [zE e1,e2]
 rfl)
theorem yCP{d:MV}(h:Vl d)(S:Sto):zP 1 bC [.val d] S=.ok (.val (.bl true)) S:=wI rfl (by
 show yH (zJI [some d] S)=_
 unfold zJI
 rcases h.cases with⟨i,rfl,h0,h1⟩|⟨x,rfl,hx⟩
 ·have habs:absF [.val (.int i)] S=.ok (.val (.int (if i<0 then -i else i))) S:=rfl
  have hlt:decide ((if i<0 then -i else i)<(10:Int) ^ 30)=true:=dT0 (by split<;>omega)
  rw [dR (show gC [some (.int i)] S=.ok (.ret (.val (.bl true))) S by
   unfold gC
   simp? [zHG,habs,show zFZ (.val (.int 10)) (.val (.int 30)) S=.ok (.val (.int (10 ^ 30))) S from rfl,lt_int,hlt])]
  rfl
 ·rw [zE (show gC [some (.str x)] S=.ok (.next [some (.str x)]) S by
   unfold gC
   simp? [zXL]
   rfl)]
  unfold zLD
  simp? [yPW hx]
  rfl)
theorem yCQ(ds:List MV)(a b:Int)(S:Sto):zP 3 yD [.val (.tup ds),.val (.int a),.val (.int b)] S=.ok (.val (.bl (decide (a<=ds.length)&&decide ((ds.length:Int)<=b)))) S:=wI rfl (by
 show yH (zJQ [some (.tup ds),some (.int a),some (.int b)] S)=_
 unfold zJQ zLI
 simp? [zJD,dY,chF,le_int]
 cases decide (a<=(ds.length:Int))<;>rfl)
theorem yLO(i b:Int)(S:Sto):zP 2 zL [.val (.int i),.val (.int b)] S=.ok (.val (.bl (decide (0<=i)&&decide (i<b)))) S:=wI rfl (by
 show yH (gD [some (.int i),some (.int b)] S)=_
 unfold gD dI
 simp? [zHG,zJD,chF,le_int,lt_int]
 cases decide (0<=i)<;>rfl)
theorem kM{i b:Int}(h0:0<=i)(h1:i<b)(S:Sto):zP 2 zL [.val (.int i),.val (.int b)] S=.ok (.val (.bl true)) S:=by
 rw [yLO,dT0 h0,dT0 h1];rfl
theorem zAS{ds:List MV}{a b:Int}(h0:a<=ds.length)(h1:(ds.length:Int)<=b)(S:Sto):zP 3 yD [.val (.tup ds),.val (.int a),.val (.int b)] S=.ok (.val (.bl true)) S:=by
 rw [yCQ,dT0 h0,dT0 h1];rfl
theorem yAI(a b:MV)(S:Sto):zP 3 yD [.val (.tup [a,b]),.val (.int 2),.val (.int 2)] S=.ok (.val (.bl true)) S:=zAS (by simp) (by simp) S
theorem yHX(a b c:MV)(S:Sto):zP 3 yD [.val (.tup [a,b,c]),.val (.int 3),.val (.int 3)] S=.ok (.val (.bl true)) S:=zAS (by simp) (by simp) S
theorem yLP(a b c:MV)(S:Sto):zP 3 yD [.val (.tup [a,b,c]),.val (.int 2),.val (.int 2)] S=.ok (.val (.bl false)) S:=by
 rw [yCQ,dF0 (show¬(([a,b,c].length:Int)<=2) by simp),Bool.and_false]
theorem yLQ{p:Int×Int}(h:1<=p.1/\p.1<=4/\0<=p.2/\p.2<=p.1)(S:Sto):zP 1 zEA [.val (tbl p)] S=.ok (.val (.bl true)) S:=wI rfl (by
 have i0: ∀S,ixF (.val (.tup [.int p.1,.int p.2])) (.val (.int 0)) S=.ok (.val (.int p.1)) S:=λS=>rfl
 have i1: ∀S,ixF (.val (.tup [.int p.1,.int p.2])) (.val (.int 1)) S=.ok (.val (.int p.2)) S:=λS=>rfl
 have e1:zDX [some (.tup [.int p.1,.int p.2]),none] S=.ok (.next [some (.tup [.int p.1,.int p.2]),none]) S:=by
  unfold zDX
  simp? [yAI,i0,zHG]
  rfl
 have e2:zDY [some (.tup [.int p.1,.int p.2]),none] S=.ok (.next [some (.tup [.int p.1,.int p.2]),some (.int p.1)]) S:=by
  unfold zDY
  simp? [i0]
 have e3:zDZ [some (.tup [.int p.1,.int p.2]),some (.int p.1)] S=.ok (.ret (.val (.bl true))) S:=by
  unfold zDZ
  simp? [chF,le_int,dT0 h.1,dT0 h.2.1,zJD,i1,kM h.2.2.1 (show p.2<p.1+1 by omega)]
 show yH (zJR [some (.tup [.int p.1,.int p.2]),none] S)=_
 unfold zJR
 rw [zE e1,zE e2,e3]
 rfl)
def SqM(S:Sto)(m:MV)(ds:List MV):Prop:=m=.tup ds\/ ∃l,m=.loc l/\S[l]? =some (.lst ds)
theorem SqM.ix{S:Sto}{m:MV}{ds:List MV}{i:Int}{d:MV}(h:SqM S m ds)(hk:atI ds i=some d):ixF (.val m) (.val (.int i)) S=.ok (.val d) S:=by
 rcases h with rfl|⟨l,rfl,hS⟩
 ·exact ix_tup hk
 ·exact zPT hS hk
theorem SqM.len{S:Sto}{m:MV}{ds:List MV}(h:SqM S m ds):wF [.val m] S=.ok (.val (.int ds.length)) S:=by
 rcases h with rfl|⟨l,rfl,hS⟩
 ·rfl
 ·exact yKX hS
theorem SqM.app{S T:Sto}{m:MV}{ds:List MV}(h:SqM S m ds):SqM (S++T) m ds:=by
 rcases h with h|⟨l,h,hS⟩
 ·exact .inl h
 ·exact .inr ⟨l,h,by rw [getElem?_append_left (gS0.mp hS).1];exact hS⟩
theorem SqM.lo{S:Sto}{m:MV}{ds:List MV}(h:SqM S m ds)(hd: ∀d∈ds,lo S.length d):lo S.length m:=by
 rcases h with rfl|⟨l,rfl,hS⟩
 ·exact xX (yU hd)
 ·exact yOV (gS0.mp hS).1
theorem yPX{ws:List Int}{k:Nat}{w:Int}(h:ws[k]? =some w):atI (ws.map MV.int) (k:Int)=some (.int w):=by
 have hl:k<ws.length:=(gS0.mp h).1
 unfold atI ixN
 rw [iP (by omega),iP (by rw [lM0];omega)]
 show(ws.map MV.int)[(k:Int).toNat]? =_
 rw [toNat_natCast,getElem?_map,h]
 rfl
theorem yHY{ws:List Int}{sd:Side}(h:yAG ws sd){m:MV}{S:Sto}(hm:SqM S m (ws.map MV.int)):zP 2 zDI [.val (xO sd),.val m] S=.ok (.val (.bl true)) S:=wI rfl (by
 cases sd with
 |isv v=>
  have i0: ∀S,ixF (.val (.tup [.str sIs,v])) (.val (.int 0)) S=.ok (.val (.str sIs)) S:=λS=>rfl
  have i1: ∀S,ixF (.val (.tup [.str sIs,v])) (.val (.int 1)) S=.ok (.val v) S:=λS=>rfl
  have e1:cK [some (.tup [.str sIs,v]),some m] S=.ok (.ret (.val (.bl true))) S:=by
   unfold cK
   simp? [yAI,i0,i1,eq_str,show decide (sIs=[105,115])=true from rfl,zJD,yCP h]
  show yH (zDH [some (.tup [.str sIs,v]),some m] S)=_
  unfold zDH
  rw [dR e1]
  rfl
 |cell k j=>
  obtain⟨w,hw,hj⟩:=h
  have hkl:k<ws.length:=(gS0.mp hw).1
  have i0: ∀S,ixF (.val (.tup [.str zFN,.int (k:Nat),.int (j:Nat)])) (.val (.int 0)) S=.ok (.val (.str zFN)) S:=λS=>rfl
  have i1: ∀S,ixF (.val (.tup [.str zFN,.int (k:Nat),.int (j:Nat)])) (.val (.int 1)) S=.ok (.val (.int (k:Nat))) S:=λS=>rfl
  have i2: ∀S,ixF (.val (.tup [.str zFN,.int (k:Nat),.int (j:Nat)])) (.val (.int 2)) S=.ok (.val (.int (j:Nat))) S:=λS=>rfl
  have e1:cK [some (.tup [.str zFN,.int (k:Nat),.int (j:Nat)]),some m] S=.ok (.next [some (.tup [.str zFN,.int (k:Nat),.int (j:Nat)]),some m]) S:=by
   unfold cK
   simp? [yLP]
   rfl
  have e2:zGR [some (.tup [.str zFN,.int (k:Nat),.int (j:Nat)]),some m] S=.ok (.next [some (.tup [.str zFN,.int (k:Nat),.int (j:Nat)]),some m]) S:=by
   unfold zGR
   simp? [yHX,i0,show neF (.val (.str zFN)) (.val (.str [99,101,108,108])) S=.ok (.val (.bl false)) S from zZQ (zUP _ _ _)]
   rfl
  have e3:zGS [some (.tup [.str zFN,.int (k:Nat),.int (j:Nat)]),some m] S=.ok (.ret (.val (.bl true))) S:=by
   unfold zGS
   simp? [i1,hm.len,lM0,kM (show(0:Int)<=(k:Nat) by omega) (show((k:Nat):Int)<ws.length by omega),zJD,i2,hm.ix (yPX hw),kM (show(0:Int)<=(j:Nat) by omega) hj]
  show yH (zDH [some (.tup [.str zFN,.int (k:Nat),.int (j:Nat)]),some m] S)=_
  unfold zDH
  rw [zE e1,zE e2,e3]
  rfl)
theorem yLR(neg:Bool)(p:Er)(ds:List MV)(S:Sto):inF neg p (.val (.tup ds)) S=zMN neg p (.val (.tup ds)) S:=by
 unfold inF
 split
 ·rename_i h;cases h
 ·rfl
theorem yPY{ws:List Int}{q:Test}(h:zQV ws q){m:MV}{S:Sto}(hm:SqM S m (ws.map MV.int)):zP 2 zIE [.val (testM q),.val m] S=.ok (.val (.bl true)) S:=wI rfl (by
 obtain⟨sl,w,sr⟩:=q
 obtain⟨h1,h2,h3⟩:=h
 have h2:w∈words3:=h2
 have i0: ∀S,ixF (.val (.tup [xO sl,.str w,xO sr])) (.val (.int 0)) S=.ok (.val (xO sl)) S:=λS=>rfl
 have i1: ∀S,ixF (.val (.tup [xO sl,.str w,xO sr])) (.val (.int 1)) S=.ok (.val (.str w)) S:=λS=>rfl
 have i2: ∀S,ixF (.val (.tup [xO sl,.str w,xO sr])) (.val (.int 2)) S=.ok (.val (xO sr)) S:=λS=>rfl
 have hin:inF false (.val (.str w)) (.val (.tup [.str [115,97,109,101],.str [117,110,108,105,107,101],.str [108,101,115,115]])) S=.ok (.val (.bl true)) S:=by
  rw [yLR]
  unfold zMN
  show(match zUM S yE (.str w) [.str [115,97,109,101],.str [117,110,108,105,107,101],.str [108,101,115,115]]with |some bs=>R.ok (Er.val (.bl (if false=true then !bs.any id else bs.any id))) S|none=>.no)=_
  rw [zQR (zMX _) (λy hy=>by simp only [mC,nM0,or_false]at hy;rcases hy with rfl|rfl|rfl<;>exact⟨zMX _,by rw [zII];decide⟩)]
  simp only [words3,mC,nM0,or_false]at h2
  rcases h2 with rfl|rfl|rfl<;>simp
 have e1:zGT [some (.tup [xO sl,.str w,xO sr]),some m] S=.ok (.next [some (.tup [xO sl,.str w,xO sr]),some m]) S:=by
  unfold zGT
  simp? [yHX]
  rfl
 have e2:zGU [some (.tup [xO sl,.str w,xO sr]),some m] S=.ok (.ret (.val (.bl true))) S:=by
  unfold zGU
  simp? [i0,i1,i2,yHY h1 hm,zJD,hin,yHY h3 hm]
 show yH (zMS [some (.tup [xO sl,.str w,xO sr]),some m] S)=_
 unfold zMS
 rw [zE e1,e2]
 rfl)
theorem yLS{ws:List Int}{qs:List Test}(h0:1<=qs.length)(h1:qs.length<=3)(h: ∀q∈qs,zQV ws q){m:MV}{S:Sto}(hm:SqM S m (ws.map MV.int)):kI [.tup (qs.map testM),m] S=.ok (.val (.bl true)) S:=by
 have hc:kD (gNm 0) zFI cU [none,some m] [] (qs.map testM) S=.ok ((qs.map testM).map λ_=>.bl true) S:=cI (kR S) λd hd=>by
  obtain⟨q,hq,rfl⟩:=mM0.mp hd
  refine⟨[some (testM q),some m],rfl,rfl,?_⟩
  unfold cU
  simp? [yPY (h q hq) hm]
 show yH (zGV [some (.tup (qs.map testM)),some m] S)=_
 unfold zGV zIU
 simp? [zAS (ds:=qs.map testM) (a:=1) (b:=3) (by rw [lM0];omega) (by rw [lM0];omega),zJD,show itT (.val (.tup (qs.map testM))) S=.ok ⟨qs.map testM,[]⟩ S from rfl]
 rw [iP (by rw [lM0];omega)]
 rw [show blk 1 [1] [some (.tup (qs.map testM)),some m]=[none,some m]from rfl,hc]
 simp? [zHI,zHH]
 rfl
theorem zXM{ws:List Int}{qs:List Test}(h0:1<=qs.length)(h1:qs.length<=3)(h: ∀q∈qs,zQV ws q)(S:Sto):zP 2 kI [.val (.tup (qs.map testM)),.new (ws.map MV.int)] S=.ok (.val (.bl true)) S:=
 by
 have hf:=yLS h0 h1 h (m:=.loc S.length) (S:=S++[.lst (ws.map MV.int)]) (.inr ⟨S.length,rfl,by simp⟩)
 refine cH (T:=[.lst (ws.map MV.int)]) rfl ?_ (yBU _ _) (λl=>by simp)
 rw [show zQ [.val (.tup (qs.map testM)),.new (ws.map MV.int)] S=([.tup (qs.map testM),.loc S.length],S++[.lst (ws.map MV.int)])from rfl]
 exact hf
theorem yPZ{cs:List Nat}{w:Int}(h0:1<=cs.length)(h1:cs.length<=3)(h: ∀c∈cs,(c:Int)<w)(S:Sto):zP 2 bY [.val (.tup (cs.map zS)),.val (.int w)] S=.ok (.val (.bl true)) S:=wI rfl (by
 have hc:kD (gNm 0) zBG gE [none,some (.int w)] [] (cs.map zS) S=.ok ((cs.map zS).map λ_=>.bl true) S:=cI (kR S) λd hd=>by
  obtain⟨c,hcc,rfl⟩:=mM0.mp hd
  refine⟨[some (.int (c:Nat)),some (.int w)],rfl,rfl,?_⟩
  unfold gE
  simp? [kM (show(0:Int)<=(c:Nat) by omega) (h c hcc)]
 show yH (zBR [some (.tup (cs.map zS)),some (.int w)] S)=_
 unfold zBR zFJ
 simp? [zAS (ds:=cs.map zS) (a:=1) (b:=3) (by rw [lM0];omega) (by rw [lM0];omega),zJD,show itT (.val (.tup (cs.map zS))) S=.ok ⟨cs.map zS,[]⟩ S from rfl]
 rw [iP (by rw [lM0];omega)]
 rw [show blk 1 [1] [some (.tup (cs.map zS)),some (.int w)]=[none,some (.int w)]from rfl,hc]
 simp? [zHI,zHH]
 rfl)
section
variable{ts:List (Int×Int)}{m:MV}{S:Sto}
theorem yCR(hm:SqM S m (ts.map tbl)){t:Nat}(ht:t<ts.length): ∃e,ixF (.val m) (.val (.int (t:Nat))) S=.ok (.val e) S/\ixF (.val e) (.val (.int 0)) S=.ok (.val (.int (wid ts t))) S:=by
 have hgt:ts[t]? =some ts[t]:=gE0 ht
 exact⟨tbl ts[t],hm.ix (zQT hgt),by rw [zMY hgt];rfl⟩
theorem zQX(hm:SqM S m (ts.map tbl)):wF [.val m] S=.ok (.val (.int ts.length)) S:=by rw [hm.len,lM0]
theorem yLT(hm:SqM S m (ts.map tbl)){t:Nat}{qs:List Test}(h:zFP ts (.never t qs)):zP 2 zED [.val (zX (.never t qs)),.val m] S=.ok (.val (.bl true)) S:=wI rfl (by
 obtain⟨ht,q1,q2,q3⟩:=h
 have i1: ∀S,ixF (.val (.tup [.str zAR,.int (t:Nat),.tup (qs.map testM)])) (.val (.int 1)) S=.ok (.val (.int (t:Nat))) S:=λS=>rfl
 have i2: ∀S,ixF (.val (.tup [.str zAR,.int (t:Nat),.tup (qs.map testM)])) (.val (.int 2)) S=.ok (.val (.tup (qs.map testM))) S:=λS=>rfl
 have hl: ∀S,wF [.val (.tup [.str zAR,.int (t:Nat),.tup (qs.map testM)])] S=.ok (.val (.int 3)) S:=λS=>rfl
 obtain⟨e,ix1,ix2⟩:=yCR hm ht
 have e1:zEB [some (.tup [.str zAR,.int (t:Nat),.tup (qs.map testM)]),some m] S=.ok (.next [some (.tup [.str zAR,.int (t:Nat),.tup (qs.map testM)]),some m]) S:=by
  unfold zEB
  simp? [hl,ne_int,show decide ((3:Int)=3)=true from rfl,i1,zQX hm,kM (show(0:Int)<=(t:Nat) by omega) (show((t:Nat):Int)<ts.length by omega)]
  rfl
 have e2:zEC [some (.tup [.str zAR,.int (t:Nat),.tup (qs.map testM)]),some m] S=.ok (.ret (.val (.bl true))) S:=by
  unfold zEC
  have hc:=zXM (ws:=[wid ts t]) q1 q2 q3 S
  simp? [i2,i1,ix1,ix2]
  rw [show([wid ts t]:List Int).map MV.int=[.int (wid ts t)]from rfl]at hc
  rw [hc]
  rfl
 show yH (zJS [some (.tup [.str zAR,.int (t:Nat),.tup (qs.map testM)]),some m] S)=_
 unfold zJS
 rw [zE e1,e2]
 rfl)
theorem yLU(hm:SqM S m (ts.map tbl)){t u:Nat}{qs:List Test}(h:zFP ts (.apart t u qs)):zP 2 zEG [.val (zX (.apart t u qs)),.val m] S=.ok (.val (.bl true)) S:=wI rfl (by
 obtain⟨ht,hu,q1,q2,q3⟩:=h
 have i3: ∀S,ixF (.val (.tup [.str bS,.int (t:Nat),.int (u:Nat),.tup (qs.map testM)])) (.val (.int 3)) S=.ok (.val (.tup (qs.map testM))) S:=λS=>rfl
 have hl: ∀S,wF [.val (.tup [.str bS,.int (t:Nat),.int (u:Nat),.tup (qs.map testM)])] S=.ok (.val (.int 4)) S:=λS=>rfl
 have hcut: ∀S,zNX (.val (.tup [.str bS,.int (t:Nat),.int (u:Nat),.tup (qs.map testM)])) (some 1) (some 3) S=.ok (.val (.tup [.int (t:Nat),.int (u:Nat)])) S:=λS=>rfl
 have hit: ∀S,itT (.val (.tup [.int (t:Nat),.int (u:Nat)])) S=.ok ⟨[.int (t:Nat),.int (u:Nat)],[]⟩ S:=λS=>rfl
 have hc1:kD (gNm 0) zGW nW [none,some m] [] [.int (t:Nat),.int (u:Nat)] S=.ok ([MV.int (t:Nat),MV.int (u:Nat)].map λ_=>.bl true) S:=cI (kR S) λd hd=>by
  have hd': ∃z:Nat,z<ts.length/\d=.int (z:Nat):=by
   simp only [mC,nM0,or_false]at hd
   rcases hd with rfl|rfl
   ·exact⟨t,ht,rfl⟩
   ·exact⟨u,hu,rfl⟩
  obtain⟨z,hz,rfl⟩:=hd'
  refine⟨[some (.int (z:Nat)),some m],rfl,rfl,?_⟩
  unfold nW
  simp? [zQX hm,kM (show(0:Int)<=(z:Nat) by omega) (show((z:Nat):Int)<ts.length by omega)]
 have hc2:kD (gNm 0) nX gF [none,some m] [] [.int (t:Nat),.int (u:Nat)] S=.ok [.int (wid ts t),.int (wid ts u)] S:=by
  have:=cI (S:=S) (gf:=gNm 0) (cf:=nX) (ef:=gF) (ρb:=[none,some m]) (gs:=[]) (ds:=[.int (t:Nat),.int (u:Nat)]) (F:=λd=>match d with |.int i=>.int (wid ts i.toNat)|d=>d) (kR S) λd hd=>by
   have hd': ∃z:Nat,z<ts.length/\d=.int (z:Nat):=by
    simp only [mC,nM0,or_false]at hd
    rcases hd with rfl|rfl
    ·exact⟨t,ht,rfl⟩
    ·exact⟨u,hu,rfl⟩
   obtain⟨z,hz,rfl⟩:=hd'
   obtain⟨e,ix1,ix2⟩:=yCR hm hz
   refine⟨[some (.int (z:Nat)),some m],rfl,rfl,?_⟩
   unfold gF
   simp? [ix1,ix2]
   rw [toNat_natCast]
  rw [this]
  simp
 have e1:zEE [some (.tup [.str bS,.int (t:Nat),.int (u:Nat),.tup (qs.map testM)]),some m] S=.ok (.next [some (.tup [.str bS,.int (t:Nat),.int (u:Nat),.tup (qs.map testM)]),some m]) S:=by
  unfold zEE
  simp? [hl,ne_int,show decide ((4:Int)=4)=true from rfl,hcut,hit]
  rw [show blk 1 [1] [some (.tup [.str bS,.int (t:Nat),.int (u:Nat),.tup (qs.map testM)]),some m]=[none,some m]from rfl,hc1,zHI]
  rw [iP (show([MV.int (t:Nat),MV.int (u:Nat)]:List MV).length<1000000 by simp)]
  simp? [zHH]
  rfl
 have e2:zEF [some (.tup [.str bS,.int (t:Nat),.int (u:Nat),.tup (qs.map testM)]),some m] S=.ok (.ret (.val (.bl true))) S:=by
  unfold zEF
  have hc:=zXM (ws:=[wid ts t,wid ts u]) q1 q2 q3 S
  simp? [i3,hcut,hit]
  rw [show blk 1 [1] [some (.tup [.str bS,.int (t:Nat),.int (u:Nat),.tup (qs.map testM)]),some m]=[none,some m]from rfl,hc2]
  rw [iP (show([MV.int (t:Nat),MV.int (u:Nat)]:List MV).length<1000000 by simp)]
  simp? [bok]
  rw [show([wid ts t,wid ts u]:List Int).map MV.int=[.int (wid ts t),.int (wid ts u)]from rfl]at hc
  rw [hc]
  rfl
 show yH (zJT [some (.tup [.str bS,.int (t:Nat),.int (u:Nat),.tup (qs.map testM)]),some m] S)=_
 unfold zJT
 rw [zE e1,e2]
 rfl)
theorem c_tie(hm:SqM S m (ts.map tbl)){t u:Nat}{cs ds:List Nat}(h:zFP ts (.tie t cs u ds)):zP 2 zLK [.val (zX (.tie t cs u ds)),.val m] S=.ok (.val (.bl true)) S:=wI rfl (by
 obtain⟨ht,hu,q1,q2,q3,q4,q5⟩:=h
 generalize hR:zX (.tie t cs u ds)=Rr
 have i1: ∀S,ixF (.val Rr) (.val (.int 1)) S=.ok (.val (.int (t:Nat))) S:=λS=>by rw [<-hR];rfl
 have i2: ∀S,ixF (.val Rr) (.val (.int 2)) S=.ok (.val (.tup (cs.map zS))) S:=λS=>by rw [<-hR];rfl
 have i3: ∀S,ixF (.val Rr) (.val (.int 3)) S=.ok (.val (.int (u:Nat))) S:=λS=>by rw [<-hR];rfl
 have i4: ∀S,ixF (.val Rr) (.val (.int 4)) S=.ok (.val (.tup (ds.map zS))) S:=λS=>by rw [<-hR];rfl
 have hl: ∀S,wF [.val Rr] S=.ok (.val (.int 5)) S:=λS=>by rw [<-hR];rfl
 have e1:zJV [some Rr,some m,none,none] S=.ok (.next [some Rr,some m,none,none]) S:=by
  unfold zJV
  simp? [hl,ne_int,show decide ((5:Int)=5)=true from rfl]
  rfl
 have turn: ∀{z:Nat}{es:List Nat}(x2 x3:Option MV),z<ts.length->1<=es.length->es.length<=3->(∀c∈es,(c:Int)<wid ts z)->zJU [some Rr,some m,some (.int (z:Nat)),some (.tup (es.map zS))] S=.ok (.next [some Rr,some m,some (.int (z:Nat)),some (.tup (es.map zS))]) S:=λ{z es} x2 x3 hz h1 h2 h3=>by
  obtain⟨e,ix1,ix2⟩:=yCR hm hz
  unfold zJU zLJ
  simp? [zQX hm,kM (show(0:Int)<=(z:Nat) by omega) (show((z:Nat):Int)<ts.length by omega),ix1,ix2,yPZ h1 h2 h3]
  rfl
 have e2:zJW [some Rr,some m,none,none] S=.ok (.next [some Rr,some m,some (.int (u:Nat)),some (.tup (ds.map zS))]) S:=by
  unfold zJW
  simp? [i1,i2,i3,i4,show itT (.val (.tup [.tup [.int (t:Nat),.tup (cs.map zS)],.tup [.int (u:Nat),.tup (ds.map zS)]])) S=.ok ⟨[.tup [.int (t:Nat),.tup (cs.map zS)],.tup [.int (u:Nat),.tup (ds.map zS)]],[]⟩ S from rfl]
  rw [nO (show gTp 2 (yF (gNm 2) (yF (gNm 3) jT)) (.tup [.int (t:Nat),.tup (cs.map zS)]) [some Rr,some m,none,none] S=.ok [some Rr,some m,some (.int (t:Nat)),some (.tup (cs.map zS))] S from rfl) (turn none none ht q1 q2 q4) (kR S)]
  rw [nO (show gTp 2 (yF (gNm 2) (yF (gNm 3) jT)) (.tup [.int (u:Nat),.tup (ds.map zS)]) [some Rr,some m,some (.int (t:Nat)),some (.tup (cs.map zS))] S=.ok [some Rr,some m,some (.int (u:Nat)),some (.tup (ds.map zS))] S from rfl) (turn none none hu (by omega) (by omega) q5) (kR S)]
  rfl
 have e3:zJX [some Rr,some m,some (.int (u:Nat)),some (.tup (ds.map zS))] S=.ok (.ret (.val (.bl true))) S:=by
  unfold zJX
  simp? [i2,i4,dY,lM0,dT0 (show(cs.length:Int)=ds.length by omega)]
 show yH (zQJ [some Rr,some m,none,none] S)=_
 unfold zQJ
 rw [zE e1,zE e2,e3]
 rfl)
theorem yQA(hm:SqM S m (ts.map tbl)){r:Rule}(h:zFP ts r):zP 2 zIF [.val (zX r),.val m] S=.ok (.val (.bl true)) S:=wI rfl (by
 have key: ∀(w:List Nat)(dL:List MV),zX r=.tup (.str w::dL)->zGX [some (zX r),some m] S=.ok (.next [some (zX r),some m]) S/\ ∀S,ixF (.val (zX r)) (.val (.int 0)) S=.ok (.val (.str w)) S:=λw dL e=>by
  rw [e]
  refine⟨?_,λS=>ix_tup (by unfold atI ixN;rw [iP (by decide),iP (by rw [lC0];omega)];rfl)⟩
  unfold zGX
  simp? [dY,dF0 (show¬(((MV.str w::dL).length:Nat):Int)=0 by rw [lC0];omega)]
  rfl
 show yH (zMT [some (zX r),some m] S)=_
 unfold zMT
 cases r with
 |never t qs=>
  obtain⟨e1,i0⟩:=key zAR _ rfl
  have e2:kK [some (zX (.never t qs)),some m] S=.ok (.ret (.val (.bl true))) S:=by
   unfold kK
   simp? [i0,eq_str,show decide (zAR=[110,101,118,101,114])=true from rfl,yLT hm h]
  rw [zE e1,dR e2]
  rfl
 |apart t u qs=>
  obtain⟨e1,i0⟩:=key bS _ rfl
  have e2:kK [some (zX (.apart t u qs)),some m] S=.ok (.next [some (zX (.apart t u qs)),some m]) S:=by
   unfold kK
   simp? [i0,eq_str,show decide (bS=[110,101,118,101,114])=false from rfl]
   rfl
  have e3:cL [some (zX (.apart t u qs)),some m] S=.ok (.ret (.val (.bl true))) S:=by
   unfold cL
   simp? [i0,eq_str,show decide (bS=[97,112,97,114,116])=true from rfl,yLU hm h]
  rw [zE e1,zE e2,dR e3]
  rfl
 |tie t cs u ds=>
  obtain⟨e1,i0⟩:=key yHV _ rfl
  have e2:kK [some (zX (.tie t cs u ds)),some m] S=.ok (.next [some (zX (.tie t cs u ds)),some m]) S:=by
   unfold kK
   simp? [i0,eq_str,show decide (yHV=[110,101,118,101,114])=false from rfl]
   rfl
  have e3:cL [some (zX (.tie t cs u ds)),some m] S=.ok (.next [some (zX (.tie t cs u ds)),some m]) S:=by
   unfold cL
   simp? [i0,eq_str,show decide (yHV=[97,112,97,114,116])=false from rfl]
   rfl
  have e4:zGY [some (zX (.tie t cs u ds)),some m] S=.ok (.ret (.val (.bl true))) S:=by
   unfold zGY
   simp? [i0,eq_str,show decide (yHV=[116,105,101])=true from rfl,zJD,c_tie hm h]
  rw [zE e1,zE e2,zE e3,e4]
  rfl)
end
section
variable{ts:List (Int×Int)}{m:MV}{S:Sto}
theorem c_row(hm:SqM S m (ts.map tbl)){r:Nat×List MV}(h:ROk ts r)(hT:TOk ts):zP 2 zLM [.val (zV r),.val m] S=.ok (.val (.bl true)) S:=wI rfl (by
 obtain⟨t,cs⟩:=r
 obtain⟨p,hp,hl,hv⟩:=h
 have hp:ts[t]? =some p:=hp
 have hl:(cs.length:Int)=p.1:=hl
 have ht:t<ts.length:=(gS0.mp hp).1
 have hw:=zMY hp
 have hpw:=hT.2.2 p (mem_of_getElem? hp)
 obtain⟨e,ix1,ix2⟩:=yCR hm ht
 rw [hw]at ix2
 generalize hR:zV (t,cs)=Rr
 have hRt:Rr=.tup [.int (t:Nat),.tup cs]:=hR.symm
 have i0: ∀S,ixF (.val Rr) (.val (.int 0)) S=.ok (.val (.int (t:Nat))) S:=λS=>by rw [hRt];rfl
 have i1: ∀S,ixF (.val Rr) (.val (.int 1)) S=.ok (.val (.tup cs)) S:=λS=>by rw [hRt];rfl
 have h2:zP 3 yD [.val Rr,.val (.int 2),.val (.int 2)] S=.ok (.val (.bl true)) S:=by rw [hRt];exact yAI _ _ S
 have e1:zJY [some Rr,some m,none] S=.ok (.next [some Rr,some m,none]) S:=by
  unfold zJY
  simp? [h2,i0,zQX hm,kM (show(0:Int)<=(t:Nat) by omega) (show((t:Nat):Int)<ts.length by omega)]
  rfl
 have e2:zJZ [some Rr,some m,none] S=.ok (.next [some Rr,some m,some (.int p.1)]) S:=by
  unfold zJZ
  simp? [i0,ix1,ix2]
 have hc:kD (gNm 0) zLL zEH [none] [] cs S=.ok (cs.map λ_=>.bl true) S:=cI (kR S) λd hd=>by
  refine⟨[some d],rfl,rfl,?_⟩
  unfold zEH
  simp? [yCP (hv d hd)]
 have e3:zKA [some Rr,some m,some (.int p.1)] S=.ok (.ret (.val (.bl true))) S:=by
  unfold zKA
  simp? [i1,zAS (ds:=cs) (a:=p.1) (b:=p.1) (by omega) (by omega),zJD,show itT (.val (.tup cs)) S=.ok ⟨cs,[]⟩ S from rfl]
  rw [iP (show cs.length<1000000 by omega)]
  rw [show blk 1 [] [some Rr,some m,some (.int p.1)]=[none]from rfl,hc,zHI]
  simp? [zHH]
 show yH (zQK [some Rr,some m,none] S)=_
 unfold zQK
 rw [zE e1,zE e2,e3]
 rfl)
theorem gt_int(i j:Int)(S:Sto):gtF (.val (.int i)) (.val (.int j)) S=.ok (.val (.bl (decide (j<i)))) S:=rfl
theorem zLP{n:Nat}{F:List MV->Sto->R Er}{rs:List Er}{S T:Sto}(hn:rs.length=n)(hF:F (zQ rs S).1 (zQ rs S).2=.ok (.val .non) (S++T)):zP n F rs S=.ok (.val .non) S:=cH hn hF (yGU _) (λl=>by simp)
theorem yLV{a b c:MV}{as bs cs:List MV}(ha:SqM S a as)(hb:SqM S b bs)(hc:SqM S c cs)(h1:as.length<=4)(h2:bs.length<=6)(h3:cs.length<=60):zP 3 bZ [.val a,.val b,.val c] S=.ok (.val .non) S:=zLP (T:=[]) rfl (by
 rw [aN]
 show yH (zBS [some a,some b,some c] S)=_
 unfold zBS zFK
 simp? [ha.len,hb.len,hc.len,gt_int,dF0 (show¬(4:Int)<as.length by omega),dF0 (show¬(6:Int)<bs.length by omega),dF0 (show¬(60:Int)<cs.length by omega)]
 rfl)
theorem SqM.src{m:MV}{ds:List MV}(h:SqM S m ds): ∃gs,itE [.val m] S=.ok ⟨zIM ds,gs⟩ S/\stay gs S/\ ∀T,stay gs (S++T):=by
 rcases h with rfl|⟨l,rfl,hS⟩
 ·exact⟨[],rfl,kR S,λT=>kR _⟩
 ·refine⟨[(l,ds)],?_,zPU hS,λT=>zPU (by rw [getElem?_append_left (gS0.mp hS).1];exact hS)⟩
  show(match srcOf S (.val (.loc l))with |some a=>R.ok (⟨zIM a.ds,a.gs⟩:Wk) S|none=>.no)=_
  rw [show srcOf S (.val (.loc l))=some ⟨true,ds,[(l,ds)]⟩ by unfold srcOf;dsimp only;rw [hS]]
theorem zOM{ds:List MV}{i:Nat}{d:MV}(h:(zIM ds)[i]? =some d): ∃e,ds[i]? =some e/\d=.tup [.int (i:Nat),e]:=by
 unfold zIM at h
 rw [getElem?_map,List.getElem?_zipIdx]at h
 cases z:ds[i]? with
 |none=>rw [z]at h;cases h
 |some e=>rw [z]at h;refine⟨e,rfl,?_⟩;simp at h;rw [<-h]
theorem yHZ(hm:SqM S m (ts.map tbl))(hT:TOk ts):zP 1 gG [.val m] S=.ok (.val .non) S:=zLP (T:=[]) rfl (by
 rw [aN]
 obtain⟨gs,hi,hs,_⟩:=hm.src
 have e1:bF [some m,none,none] S=.ok (.next [some m,none,none]) S:=by
  unfold bF
  simp? [zQX hm,dF0 (show¬(ts.length:Int)=0 by have:=hT.1;omega)]
  rfl
 obtain⟨ρ',S',e,_,hS'⟩:=zGD (L:=zIM (ts.map tbl)) (gf:=gTp 2 (yF (gNm 1) (yF (gNm 2) jT))) (body:=bE) (gs:=gs) (S:=S) (ρ:=[some m,none,none]) (λi ρ S'=>(∃x1 x2,ρ=[some m,x1,x2])/\S'=S) (λi d hd ρ S1 ⟨⟨x1,x2,hρ⟩,hS1⟩=>by
  subst hρ hS1
  obtain⟨f,hf,rfl⟩:=zOM hd
  obtain⟨p,hp,rfl⟩:=mM0.mp (mem_of_getElem? hf)
  refine⟨[some m,some (.int (i:Nat)),some (tbl p)],S1,?_,hs,⟨_,_,rfl⟩,rfl⟩
  rw [show gTp 2 (yF (gNm 1) (yF (gNm 2) jT)) (.tup [.int (i:Nat),tbl p]) [some m,x1,x2] S1=.ok [some m,some (.int (i:Nat)),some (tbl p)] S1 from rfl,bok]
  unfold bE nY
  simp? [yLQ (hT.2.2 p hp)]
  rfl) ⟨⟨none,none,rfl⟩,rfl⟩
 subst hS'
 have e2:bG [some m,none,none] S'=.ok (.next ρ') S':=by
  unfold bG
  simp? [hi]
  exact e
 show yH (nZ [some m,none,none] S')=_
 unfold nZ
 rw [zE e1,e2]
 rfl)
theorem yLW(hm:SqM S m (ts.map tbl)){b:MV}{rl:List Rule}(hb:SqM S b (rl.map zX))(h: ∀r∈rl,zFP ts r):zP 2 cA [.val m,.val b] S=.ok (.val .non) S:=zLP (T:=[]) rfl (by
 rw [aN]
 obtain⟨gs,hi,hs,_⟩:=hb.src
 obtain⟨ρ',S',e,_,hS'⟩:=zGD (L:=zIM (rl.map zX)) (gf:=gTp 2 (yF (gNm 2) (yF (gNm 3) jT))) (body:=cV) (gs:=gs) (S:=S) (ρ:=[some m,some b,none,none]) (λi ρ S'=>(∃x1 x2,ρ=[some m,some b,x1,x2])/\S'=S) (λi d hd ρ S1 ⟨⟨x1,x2,hρ⟩,hS1⟩=>by
  subst hρ hS1
  obtain⟨f,hf,rfl⟩:=zOM hd
  obtain⟨p,hp,rfl⟩:=mM0.mp (mem_of_getElem? hf)
  refine⟨[some m,some b,some (.int (i:Nat)),some (zX p)],S1,?_,hs,⟨_,_,rfl⟩,rfl⟩
  rw [show gTp 2 (yF (gNm 2) (yF (gNm 3) jT)) (.tup [.int (i:Nat),zX p]) [some m,some b,x1,x2] S1=.ok [some m,some b,some (.int (i:Nat)),some (zX p)] S1 from rfl,bok]
  unfold cV zBH
  simp? [yQA hm (h p hp)]
  rfl) ⟨⟨none,none,rfl⟩,rfl⟩
 subst hS'
 have e2:cW [some m,some b,none,none] S'=.ok (.next ρ') S':=by
  unfold cW
  simp? [hi]
  exact e
 show yH (zBT [some m,some b,none,none] S')=_
 unfold zBT
 rw [e2]
 rfl)
end
mutual
theorem zVI: ∀{d:MV},pd d=true-> ∃nk,wL d=some nk/\dM nk<=dpt d
 |.int i,_=>⟨_,zDD i,by rw [dM];exact zero_le _⟩
 |.str x,_=>⟨_,zDE x,by rw [dM];exact zero_le _⟩
 |.tup ds,h=>by
  obtain⟨ks,h1,h2⟩:=zXN (by rw [<-jP];exact h:pdL ds=true)
  exact⟨.tup ks,by rw [zDF,h1];rfl,by rw [nH,wH];omega⟩
 |.non,h=>by rw [pd]at h<;>first |cases h|(intros;simp)
 |.bl _,h=>by rw [pd]at h<;>first |cases h|(intros;simp)
 |.scr _,h=>by rw [pd]at h<;>first |cases h|(intros;simp)
 |.loc _,h=>by rw [pd]at h<;>first |cases h|(intros;simp)
 |.typ _,h=>by rw [pd]at h<;>first |cases h|(intros;simp)
theorem zXN: ∀{ds:List MV},pdL ds=true-> ∃ks,kT ds=some ks/\zIN ks<=zEU ds
 |[],_=>⟨[],zIB,by rw [zIN];exact zero_le _⟩
 |d::ds,h=>by
  rw [yL,aE]at h
  obtain⟨k,h1,h2⟩:=zVI h.1
  obtain⟨ks,h3,h4⟩:=zXN h.2
  exact⟨k::ks,by rw [nP,h1,h3];rfl,by rw [zJC,yB];omega⟩
end
section
variable{ts:List (Int×Int)}{m:MV}{S:Sto}
theorem yCS{r:Nat×List MV}(h:ROk ts r):keyOk (zV r)=true:=by
 have hp:=zQS h
 obtain⟨nk,h1,h2⟩:=zVI hp.1
 unfold keyOk
 rw [h1]
 show(zBO (zV r)&&decide (dM nk<=4))=true
 rw [dT0 (show dM nk<=4 by omega)]
 rfl
theorem zMZ: ∀{kvs:List (MV×MV)}{k:MV},(∀p∈kvs,p.1≠k)->look kvs k=none
 |[],k,_=>rfl
 |p::kvs,k,h=>by
  rw [zDG,iN0 (h p mF0)]
  exact zMZ λq hq=>h q (mO _ hq)
def zBB(rs:List (Nat×List MV)):List (MV×MV):=rs.map λr=>(zV r,.bl true)
theorem yIA{T:Sto}{l:Nat}{rs:List (Nat×List MV)}(hS:T[l]? =some (.dic (zBB rs))):zGG T (.val (.loc l))=some (l,zBB rs):=by
 unfold zGG
 dsimp only
 rw [hS]
 dsimp only
 rw [iP]
 rw [all_eq_true]
 intro p hp
 obtain⟨r,_,rfl⟩:=mM0.mp hp
 rfl
theorem yEP{b:MV}{T:Sto}{l:Nat}{x2:Option MV}{rs:List (Nat×List MV)}{r:Nat×List MV}(hS:T[l]? =some (.dic (zBB rs)))(hr:ROk ts r)(hn:r∉rs)(hl:rs.length<1000):
  gH [some m,some b,x2,some (zV r),some (.loc l)] T=.ok (.next [some m,some b,x2,some (zV r),some (.loc l)]) (T.set l (.dic (zBB (rs++[r])))):=by
 have hlk:look (zBB rs) (zV r)=none:=zMZ λp hp=>by
  obtain⟨q,hq,rfl⟩:=mM0.mp hp
  intro e
  have e:zV q=zV r:=e
  rw [zXI e]at hq
  exact hn hq
 have hin:yDX false (.val (zV r)) (.val (.loc l)) T=.ok (.val (.bl false)) T:=by
  unfold yDX
  dsimp only
  rw [yIA hS]
  dsimp only
  rw [iP (yCS hr),hlk]
  rfl
 have hset: ∀ρ,zWZ (.val (.loc l)) (.val (zV r)) (.bl true) ρ T=.ok ρ (T.set l (.dic (zBB (rs++[r])))):=λρ=>by
  unfold zWZ
  dsimp only
  rw [yIA hS]
  dsimp only
  rw [iP ⟨yCS hr,by unfold zBB;rw [lM0];omega⟩]
  unfold zUQ
  rw [hlk]
  unfold zBB
  rw [iN0 (by simp),map_append]
  rfl
 have e1:bH [some m,some b,x2,some (zV r),some (.loc l)] T=.ok (.next [some m,some b,x2,some (zV r),some (.loc l)]) T:=by
  unfold bH
  simp? [hin]
  rfl
 have e2:bI [some m,some b,x2,some (zV r),some (.loc l)] T=.ok (.next [some m,some b,x2,some (zV r),some (.loc l)]) (T.set l (.dic (zBB (rs++[r])))):=by
  unfold bI
  simp? [yCJ,hset]
 unfold gH
 rw [zE e1,e2]
theorem yQB(hm:SqM S m (ts.map tbl))(hT:TOk ts){b:MV}{rs:List (Nat×List MV)}(hb:SqM S b (rs.map zV))(h: ∀r∈rs,ROk ts r)(hn:rs.Nodup)(hl:rs.length<=60):zP 2 dW [.val m,.val b] S=.ok (.val .non) S:=by
 obtain⟨gs,hi,hs,_⟩:=hb.src
 obtain⟨ρ',S',e,⟨y2,y3,hρ'⟩,hS'⟩:=zGD (L:=zIM (rs.map zV)) (gf:=gTp 2 (yF (gNm 2) (yF (gNm 3) jT))) (body:=zAA) (gs:=gs) (S:=S) (ρ:=[some m,some b,none,none,none]) (λi ρ S'=>(∃x1 x2,ρ=[some m,some b,x1,x2,none])/\S'=S) (λi d hd ρ S1 ⟨⟨x1,x2,hρ⟩,hS1⟩=>by
  subst hρ hS1
  obtain⟨f,hf,rfl⟩:=zOM hd
  obtain⟨p,hp,rfl⟩:=mM0.mp (mem_of_getElem? hf)
  refine⟨[some m,some b,some (.int (i:Nat)),some (zV p),none],S1,?_,hs,⟨_,_,rfl⟩,rfl⟩
  rw [show gTp 2 (yF (gNm 2) (yF (gNm 3) jT)) (.tup [.int (i:Nat),zV p]) [some m,some b,x1,x2,none] S1=.ok [some m,some b,some (.int (i:Nat)),some (zV p),none] S1 from rfl,bok]
  unfold zAA zDJ
  simp? [c_row hm (h p hp) hT]
  rfl) ⟨⟨none,none,rfl⟩,rfl⟩
 rw [hρ',hS']at e
 have e1:zAB [some m,some b,none,none,none] S=.ok (.next [some m,some b,y2,y3,none]) S:=by
  unfold zAB
  simp? [hi]
  exact e
 have e2:zAC [some m,some b,y2,y3,none] S=.ok (.next [some m,some b,y2,y3,some (.loc S.length)]) (S++[.dic (zBB [])]):=by
  unfold zAC
  simp? [show yBZ S=.ok (.val (.loc S.length)) (S++[.dic []])from rfl]
  rfl
 obtain⟨gs2,hi2,hs2,_⟩:=(hb.app (T:=[.dic (zBB [])])).src
 have stays: ∀kvs,stay gs2 (S++[.dic kvs]):=λkvs=>by
  rcases hb with rfl|⟨l,rfl,hS⟩
  ·have:gs2=[]:=by have:=hi2;injection this with h1 _;injection h1 with _ h2;exact h2.symm
   rw [this];exact kR _
  ·have hll:l<S.length:=(gS0.mp hS).1
   intro p hp
   have hx:=hs2 p hp
   have hpl:p.1<S.length:=by
    by_cases hlt:p.1<S.length
    ·exact hlt
    ·have hlen:=(gS0.mp hx).1
     rw [lA,lS]at hlen
     rw [show p.1=S.length by omega,getElem?_append_right (le_refl _),sub_self]at hx
     cases hx
   rw [getElem?_append_left hpl]at hx ⊢
   exact hx
 obtain⟨ρ'',S'',e',⟨z2,z3,hρ''⟩,hS''⟩:=zGD (L:=zIM (rs.map zV)) (gf:=gTp 2 (yF (gNm 2) (yF (gNm 3) jT))) (body:=gH) (gs:=gs2) (S:=S++[.dic (zBB [])]) (ρ:=[some m,some b,y2,y3,some (.loc S.length)]) (λi ρ S'=>(∃x1 x2,ρ=[some m,some b,x1,x2,some (.loc S.length)])/\S'=S++[.dic (zBB (rs.take i))]) (λi d hd ρ S1 ⟨⟨x1,x2,hρ⟩,hS1⟩=>by
  subst hρ hS1
  obtain⟨f,hf,rfl⟩:=zOM hd
  rw [getElem?_map]at hf
  cases zr:rs[i]? with
  |none=>rw [zr]at hf;cases hf
  |some r=>
   rw [zr]at hf
   obtain rfl:zV r=f:=Option.some.inj hf
   have hil:i<rs.length:=(gS0.mp zr).1
   have hri:rs[i]=r:=(gS0.mp zr).2
   have hnot:r∉rs.take i:=by
    intro hmem
    obtain⟨j,hj,ej⟩:=List.mem_iff_getElem.mp hmem
    rw [lT]at hj
    rw [List.getElem_take]at ej
    have:=(getElem_inj hn).mp (ej.trans hri.symm)
    omega
   have htk:rs.take i++[r]=rs.take (i+1):=by rw [List.take_succ_eq_append_getElem hil,hri]
   have hb2:=yEP (ts:=ts) (m:=m) (b:=b) (T:=S++[.dic (zBB (rs.take i))]) (l:=S.length) (x2:=some (.int (i:Nat))) (rs:=rs.take i) (r:=r) (by simp) (h r (mem_of_getElem? zr)) hnot (by rw [lT];omega)
   refine⟨[some m,some b,some (.int (i:Nat)),some (zV r),some (.loc S.length)],S++[.dic (zBB (rs.take (i+1)))],?_,stays _,⟨_,_,rfl⟩,rfl⟩
   rw [show gTp 2 (yF (gNm 2) (yF (gNm 3) jT)) (.tup [.int (i:Nat),zV r]) [some m,some b,x1,x2,some (.loc S.length)] (S++[.dic (zBB (rs.take i))])=.ok [some m,some b,some (.int (i:Nat)),some (zV r),some (.loc S.length)] (S++[.dic (zBB (rs.take i))])from rfl,bok,hb2,htk]
   have hfin:List.set (S++[MO.dic (zBB (rs.take i))]) S.length (MO.dic (zBB (rs.take (i+1))))=S++[MO.dic (zBB (rs.take (i+1)))]:=by simp
   rw [hfin]) ⟨⟨y2,y3,rfl⟩,by rw [List.take_zero]⟩
 have e3:zAD [some m,some b,y2,y3,some (.loc S.length)] (S++[.dic (zBB [])])=.ok (.next ρ'') S'':=by
  unfold zAD
  simp? [hi2]
  exact e'
 refine zLP (T:=[.dic (zBB (rs.take (zIM (rs.map zV)).length))]) rfl ?_
 show yH (zEI [some m,some b,none,none,none] S)=_
 unfold zEI
 rw [zE e1,zE e2,e3,hS'']
 rfl
end
def yEQ(ts:List (Int×Int))(t:Nat):Nat:=(((ts[t]?).map λp:Int×Int=>p.2).getD 0).toNat
def jQ(ts:List (Int×Int))(r:Nat×List MV):MV:=.tup [.int r.1,.tup (r.2.take (yEQ ts r.1))]
section
variable{ts:List (Int×Int)}
theorem yQC{r:Nat×List MV}(h:ROk ts r):pd (jQ ts r)=true/\dpt (jQ ts r)<=2:=by
 obtain⟨p,_,_,hv⟩:=h
 have hv': ∀d∈r.2.take (yEQ ts r.1),Vl d:=λd hd=>hv d (List.mem_of_mem_take hd)
 have h1:pdL (r.2.take (yEQ ts r.1))=true:=zBJ λd hd=>(yCK (hv' d hd)).1
 have h2:zEU (r.2.take (yEQ ts r.1))<=0:=zBK λd hd=>by rw [(yCK (hv' d hd)).2];exact le_refl _
 unfold jQ
 refine⟨by rw [jP,yL,yL,zEV,zEW,jP,h1];rfl,?_⟩
 rw [wH,yB,yB,cN,dZ,wH]
 omega
theorem yQD{r:Nat×List MV}(h:ROk ts r)(n:Nat):lo n (jQ ts r):=by
 obtain⟨p,_,_,hv⟩:=h
 refine xX (yU λd hd=>?_)
 simp only [mC,nM0,or_false]at hd
 rcases hd with rfl|rfl
 ·exact kH _ _
 ·exact xX (yU λe he=>(hv e (List.mem_of_mem_take he)).lo n)
theorem yCT{r:Nat×List MV}(h:ROk ts r):keyOk (jQ ts r)=true:=by
 obtain⟨h1,h2⟩:=yQC h
 obtain⟨nk,h3,h4⟩:=zVI h1
 unfold keyOk
 rw [h3]
 show(true&&decide (dM nk<=4))=true
 rw [dT0 (by omega)]
 rfl
theorem yMO{r:Nat×List MV}(hT:TOk ts)(h:ROk ts r)(S:Sto):zP 2 zLE [.val (.tup (ts.map tbl)),.val (zV r)] S=.ok (.val (jQ ts r)) S:=by
 have hk:=yQD h S.length
 obtain⟨p,hp,hl,hv⟩:=h
 have h0:=(hT.2.2 p (mem_of_getElem? hp)).2.2.1
 have kn:yEQ ts r.1=p.2.toNat:=by unfold yEQ;rw [hp];rfl
 refine bB rfl ?_ hk (λl=>by unfold jQ;simp)
 show yH (zQH [some (.tup (ts.map tbl)),some (.tup [.int r.1,.tup r.2])] S)=_
 have i0: ∀S,ixF (.val (.tup [.int r.1,.tup r.2])) (.val (.int 0)) S=.ok (.val (.int r.1)) S:=λS=>rfl
 have i1: ∀S,ixF (.val (.tup [.int r.1,.tup r.2])) (.val (.int 1)) S=.ok (.val (.tup r.2)) S:=λS=>rfl
 have t1: ∀S,ixF (.val (tbl p)) (.val (.int 1)) S=.ok (.val (.int p.2)) S:=λS=>rfl
 have ct: ∀S,zNX (.val (.tup r.2)) none (some p.2) S=.ok (.val (.tup (cF r.2 none (some p.2)))) S:=λS=>rfl
 unfold zQH zQG
 simp? [i0,i1,ix_tup (S:=S) (zQT hp),t1,ct,yBV _ _ h0]
 unfold jQ
 rw [kn]
 rfl
theorem zON{a b c:MV}{rl:List MV}(hb:b=.tup rl)(S:Sto):zP 1 wO [.val (.tup [a,b,c])] S=.ok (.val (.bl (decide (rl.length=0)))) S:=wI rfl (by
 subst hb
 show yH (zJJ [some (.tup [a,.tup rl,c])] S)=_
 have i1: ∀S,ixF (.val (.tup [a,.tup rl,c])) (.val (.int 1)) S=.ok (.val (.tup rl)) S:=λS=>rfl
 unfold zJJ zLF
 simp? [i1,dY]
 rw [dec_is (show((rl.length:Nat):Int)=0↔rl.length=0 by omega)]
 rfl)
end
inductive LsAt(S:Sto):List MV->List (List Nat)->Prop
 |nil:LsAt S [] []
 |cons {l:Nat} {ps:List Nat} {ls:List MV} {pss:List (List Nat)}:S[l]? =some (.lst (ps.map zS))->LsAt S ls pss->LsAt S (.loc l::ls) (ps::pss)
theorem LsAt.other{S:Sto}{l:Nat}{o:MO}: ∀{ls:List MV}{pss:List (List Nat)},LsAt S ls pss->MV.loc l∉ls->LsAt (S.set l o) ls pss
 |_,_,.nil,_=>.nil
 |_,_,.cons (l:=l0) h t,hn=>.cons (by rw [getElem?_set_ne (λz=>hn (by rw [z];exact mF0))];exact h) (t.other λz=>hn (mO _ z))
theorem LsAt.app{S T:Sto}: ∀{ls:List MV}{pss:List (List Nat)},LsAt S ls pss->LsAt (S++T) ls pss
 |_,_,.nil=>.nil
 |_,_,.cons h t=>.cons (by rw [getElem?_append_left (gS0.mp h).1];exact h) t.app
theorem LsAt.in{S:Sto}{d:MV}: ∀{ls:List MV}{pss:List (List Nat)},LsAt S ls pss->d∈ls-> ∃l ps,d=.loc l/\S[l]? =some (.lst (List.map zS ps))
 |_,_,.cons (l:=l0) (ps:=ps) h t,hd=>by
  rcases mC.mp hd with rfl|hd
  ·exact⟨l0,ps,rfl,h⟩
  ·exact t.in hd
theorem LsAt.lt{S:Sto}{ls:List MV}{pss:List (List Nat)}(h:LsAt S ls pss){n:Nat}(hn:S.length<=n):MV.loc n∉ls:=λz=>by
 obtain⟨l,ps,e,hl⟩:=h.in z
 cases e
 have:=(gS0.mp hl).1
 omega
theorem LsAt.snoc{S:Sto}{l:Nat}{ps:List Nat}(hl:S[l]? =some (.lst (ps.map zS))): ∀{ls:List MV}{pss:List (List Nat)},LsAt S ls pss->LsAt S (ls++[.loc l]) (pss++[ps])
 |_,_,.nil=>.cons hl .nil
 |_,_,.cons h t=>.cons h (t.snoc hl)
noncomputable def zKC(k:MV)(i:Nat):List MV->List (List Nat)->List (List Nat)
 |c::ks,ps::pss=>if c=k then(ps++[i])::pss else ps::zKC k i ks pss
 |_,_=>[]
theorem yIB{S:Sto}{k d:MV}{i:Nat}: ∀{kvs:List (MV×MV)}{pss:List (List Nat)},LsAt S (kvs.map (·.2)) pss->(kvs.map (·.2)).Nodup->look kvs k=some d->
  ∃l ps,d=.loc l/\MV.loc l∈kvs.map (·.2)/\S[l]? =some (.lst (List.map zS ps))/\LsAt (S.set l (.lst ((ps++[i]).map zS))) (kvs.map (·.2)) (zKC k i (kvs.map (·.1)) pss)
 |[],_,_,_,h=>by cases h
 |(c,v)::kvs,pss,hl,hn,h=>by
  rw [zDG]at h
  rw [map_cons]at hl hn
  rw [nodup_cons]at hn
  cases hl with
  |@cons l0 ps0 _ pss' h0 t=>
   by_cases e:c=k
   ·rw [iP e]at h
    cases h
    refine⟨l0,ps0,rfl,mF0,h0,?_⟩
    rw [map_cons,map_cons]
    unfold zKC
    rw [iP e]
    exact .cons (getElem?_set_self (gS0.mp h0).1) (t.other hn.1)
   ·rw [iN0 e]at h
    obtain⟨l,ps,h1,h2,h3,h4⟩:=yIB (i:=i) t hn.2 h
    refine⟨l,ps,h1,mO _ h2,h3,?_⟩
    rw [map_cons,map_cons]
    unfold zKC
    rw [iN0 e]
    have ne:l≠l0:=λz=>hn.1 (by rw [<-z];exact h2)
    exact .cons (by rw [getElem?_set_ne ne];exact h0) h4
noncomputable def zRZ:List MV->Nat->List MV->List (List Nat)->List MV×List (List Nat)
 |[],_,ks,pss=>(ks,pss)
 |k::r,i,ks,pss=>if k∈ks then zRZ r (i+1) ks (zKC k i ks pss)else zRZ r (i+1) (ks++[k]) (pss++[[i]])
theorem zTF{k:MV}: ∀{kvs:List (MV×MV)},k∈kvs.map (·.1)-> ∃d,look kvs k=some d
 |[],h=>by cases h
 |p::kvs,h=>by
  rw [zDG]
  by_cases e:p.1=k
  ·exact⟨p.2,iP e⟩
  ·rw [iN0 e]
   rcases mC.mp h with z|z
   ·exact absurd z.symm e
   ·exact zTF z
theorem yIC{k:MV}{kvs:List (MV×MV)}(h:k∉kvs.map (·.1)):look kvs k=none:=zMZ λp hp z=>h (by rw [<-z];exact List.mem_map_of_mem hp)
theorem zLQ{T:Sto}{l:Nat}{kvs:List (MV×MV)}(hS:T[l]? =some (.dic kvs))(hk:kvs.all (λp=>zBO p.1)=true):zGG T (.val (.loc l))=some (l,kvs):=by
 unfold zGG
 dsimp only
 rw [hS]
 dsimp only
 rw [iP hk]
section
variable{ts:List (Int×Int)}{b0:MV}
abbrev B4(q:MV)(D:Nat)(i r:Option MV):Rho:=[some q,some (.loc D),i,r]
theorem yID{S:Sto}{D i:Nat}{rl rr:MV}{r:Nat×List MV}{kvs:List (MV×MV)}{pss:List (List Nat)}(hT:TOk ts)(hr:ROk ts r)(hD:S[D]? =some (.dic kvs))(hk:kvs.all (λp=>zBO p.1)=true)(hlen:kvs.length<1000)
  (hl:LsAt S (kvs.map (·.2)) pss) (hn:(kvs.map (·.2)).Nodup) (hDn:MV.loc D∉kvs.map (·.2)) (hz: ∀l ps,MV.loc l∈kvs.map (·.2)->S[l]? =some (.lst (List.map zS ps))->ps.length<1000):
  ∃(S':Sto)(kvs':List (MV×MV)),S'[D]? =some (.dic kvs')/\kvs'.all (λp=>zBO p.1)=true/\kvs'.length<=kvs.length+1/\(kvs'.map (·.2)).Nodup/\MV.loc D∉kvs'.map (·.2)/\S.length<=S'.length/\(∀m o,S[m]? =some o->m≠D->MV.loc m∉kvs.map (·.2)->S'[m]? =some o)/\
   (∀m,MV.loc m∈kvs'.map (·.2)->MV.loc m∈kvs.map (·.2)\/S.length<=m)/\
   (if jQ ts r∈kvs.map (·.1)then kvs'.map (·.1)=kvs.map (·.1)/\LsAt S' (kvs'.map (·.2)) (zKC (jQ ts r) i (kvs.map (·.1)) pss)else kvs'.map (·.1)=kvs.map (·.1)++[jQ ts r]/\LsAt S' (kvs'.map (·.2)) (pss++[[i]]))/\
   nS (B4 (.tup [.tup (ts.map tbl),rl,rr]) D (some (.int (i:Nat))) (some (zV r))) S=.ok (.next (B4 (.tup [.tup (ts.map tbl),rl,rr]) D (some (.int (i:Nat))) (some (zV r)))) S':=by
 have i0: ∀S,ixF (.val (.tup [.tup (ts.map tbl),rl,rr])) (.val (.int 0)) S=.ok (.val (.tup (ts.map tbl))) S:=λS=>rfl
 have hD':(S++[MO.lst []])[D]? =some (.dic kvs):=by rw [getElem?_append_left (gS0.mp hD).1];exact hD
 have dlt:D<S.length:=(gS0.mp hD).1
 have isd:yCE (.val (.loc D)) S=true:=by unfold yCE;rw [zLQ hD hk];rfl
 have e1:hZ (.new []) S=.ok (.loc S.length) (S++[.lst []]):=rfl
 by_cases hm:jQ ts r∈kvs.map (·.1)
 ·obtain⟨d,hd⟩:=zTF hm
  obtain⟨l,ps,rfl,hin,hS,hls⟩:=yIB (i:=i) hl hn hd
  have hS':(S++[MO.lst []])[l]? =some (.lst (ps.map zS)):=by rw [getElem?_append_left (gS0.mp hS).1];exact hS
  have hp:=hz l ps hin hS
  have llt:l<S.length:=(gS0.mp hS).1
  have lD:l≠D:=λz=>hDn (by rw [<-z];exact hin)
  have sd:sdF (.val (.loc D)) [.val (jQ ts r),.new []] S=.ok (.val (.loc l)) (S++[.lst []]):=by
   show(hZ (.new []) S).bind (λy S1=>sd1 (.val (.loc D)) (jQ ts r) y S1)=_
   rw [e1,bok]
   unfold sd1
   rw [zLQ hD' hk]
   dsimp only
   rw [iP ⟨yCT hr,by omega⟩,hd]
  have se:(S++[MO.lst []]).set l (.lst ((ps++[i]).map zS))=S.set l (.lst ((ps++[i]).map zS))++[.lst []]:=List.set_append_left _ _ llt
  refine⟨S.set l (.lst ((ps++[i]).map zS))++[.lst []],kvs,?_,hk,le_succ _,hn,hDn,by rw [lA,length_set];exact Nat.le_add_right _ _,λm o ho hmD hmn=>?_,λm hm=>.inl hm,?_,?_⟩
  ·rw [getElem?_append_left (by rw [length_set];exact dlt),getElem?_set_ne lD];exact hD
  ·have mlt:=(gS0.mp ho).1
   rw [getElem?_append_left (by rw [length_set];exact mlt),getElem?_set_ne (λz=>hmn (by rw [<-z];exact hin))];exact ho
  ·rw [iP hm]
   exact⟨rfl,hls.app⟩
  ·unfold nS zDW
   simp? [isd,i0,yMO hT hr,sd,zIH hS',zIG hS' (show(ps.map zS).length<1000000 by rw [lM0];omega)]
   rw [<-se,map_append]
   rfl
 ·have hd:=yIC hm
  have hS':((S++[MO.lst []]).set D (.dic (zUQ kvs (jQ ts r) (.loc S.length))))[S.length]? =some (.lst []):=by
   rw [getElem?_set_ne (ne_of_lt dlt)];simp
  have pk:zUQ kvs (jQ ts r) (.loc S.length)=kvs++[(jQ ts r,.loc S.length)]:=by
   unfold zUQ
   rw [hd]
   rfl
  have sd:sdF (.val (.loc D)) [.val (jQ ts r),.new []] S=.ok (.val (.loc S.length)) ((S++[MO.lst []]).set D (.dic (zUQ kvs (jQ ts r) (.loc S.length)))):=by
   show(hZ (.new []) S).bind (λy S1=>sd1 (.val (.loc D)) (jQ ts r) y S1)=_
   rw [e1,bok]
   unfold sd1
   rw [zLQ hD' hk]
   dsimp only
   rw [iP ⟨yCT hr,by omega⟩,hd]
  rw [pk]at sd hS'
  have nin:MV.loc S.length∉kvs.map (·.2):=hl.lt (le_refl _)
  refine⟨((S++[MO.lst []]).set D (MO.dic (kvs++[(jQ ts r,MV.loc S.length)]))).set S.length (MO.lst [zS i]),kvs++[(jQ ts r,MV.loc S.length)],?_,?_,by rw [lA];exact le_refl _,?_,?_,by rw [length_set,length_set,lA];exact Nat.le_add_right _ _,λm o ho hmD hmn=>?_,λm hm=>?_,?_,?_⟩
  ·rw [getElem?_set_ne (ne_of_gt dlt),getElem?_set_self (by rw [lA];omega)]
  ·rw [List.all_append,hk];rfl
  ·rw [map_append]
   exact nodup_append.mpr ⟨hn,by simp,λx hx y hy=>by rw [mS.mp hy];rintro rfl;exact nin hx⟩
  ·rw [map_append,mem_append]
   rintro(z|z)
   ·exact hDn z
   ·have:=mS.mp z
    cases this
    exact absurd dlt (lt_irrefl _)
  ·have mlt:=(gS0.mp ho).1
   rw [getElem?_set_ne (ne_of_gt mlt),getElem?_set_ne (λz=>hmD z.symm),getElem?_append_left mlt];exact ho
  ·rw [map_append,mem_append]at hm
   rcases hm with z|z
   ·exact .inl z
   ·have:=mS.mp z
    cases this
    exact .inr (le_refl _)
  ·rw [iN0 hm,map_append,map_append]
   refine⟨rfl,?_⟩
   have hself:(((S++[MO.lst []]).set D (.dic (kvs++[(jQ ts r,.loc S.length)]))).set S.length (.lst [zS i]))[S.length]? =some (.lst ([i].map zS)):=by
    rw [getElem?_set_self (by rw [length_set,lA];exact Nat.lt_succ_self _)];rfl
   exact LsAt.snoc hself ((hl.app.other hDn).other nin)
  ·unfold nS zDW
   simp? [isd,i0,yMO hT hr,sd,zIH hS',zIG hS' (show([]:List MV).length<1000000 by decide)]
   rfl
end
theorem LsAt.mem{S:Sto}{l:Nat}{ps:List Nat}: ∀{ls:List MV}{pss:List (List Nat)},LsAt S ls pss->MV.loc l∈ls->S[l]? =some (.lst (ps.map zS))-> ∃qs∈pss,qs.length=ps.length
 |_,_,.cons (l:=l0) (ps:=p0) h t,hd,hl=>by
  rcases mC.mp hd with e|hd
  ·cases e
   rw [h]at hl
   have e:=MO.lst.inj (Option.some.inj hl)
   have e:=congrArg List.length e
   rw [lM0,lM0]at e
   exact⟨p0,mF0,e⟩
  ·obtain⟨qs,h1,h2⟩:=t.mem hd hl
   exact⟨qs,mO _ h1,h2⟩
theorem zXO{k:MV}{i n:Nat}: ∀{ks:List MV}{pss:List (List Nat)},(∀ps∈pss,ps.length<=n)-> ∀ps∈zKC k i ks pss,ps.length<=n+1
 |[],pss,h,ps,hp=>by unfold zKC at hp;cases hp
 |c::ks,[],h,ps,hp=>by unfold zKC at hp;cases hp
 |c::ks,q::pss,h,ps,hp=>by
  unfold zKC at hp
  have hq:=h q mF0
  split at hp
  ·rcases mC.mp hp with rfl|hp
   ·rw [lA];exact Nat.succ_le_succ hq
   ·exact Nat.le_succ_of_le (h ps (mO _ hp))
  ·rcases mC.mp hp with rfl|hp
   ·exact Nat.le_succ_of_le hq
   ·exact zXO (λz hz=>h z (mO _ hz)) ps hp
structure BI(S0 S:Sto)(D:Nat)(kvs:List (MV×MV))(ks:List MV)(pss:List (List Nat)):Prop where
 at':S[D]? =some (.dic kvs)
 tup:kvs.all (λp=>zBO p.1)=true
 keys:kvs.map (·.1)=ks
 ls:LsAt S (kvs.map (·.2)) pss
 nd:(kvs.map (·.2)).Nodup
 out:MV.loc D∉kvs.map (·.2)
 new: ∀m,MV.loc m∈kvs.map (·.2)->S0.length<=m
 old: ∀(m:Nat)(o:MO),S0[m]? =some o->S[m]? =some o
theorem zQY{ts:List (Int×Int)}{S0:Sto}{rl rr:MV}(hT:TOk ts): ∀(rs:List (Nat×List MV)),(∀r∈rs,ROk ts r)-> ∀(i:Nat)(S:Sto)(kvs:List (MV×MV))(ks:List MV)(pss:List (List Nat))(x y:Option MV),BI S0 S S0.length kvs ks pss->kvs.length<=i->i+rs.length<=100->(∀ps∈pss,ps.length<=i)->
  ∃(S':Sto)(kvs':List (MV×MV))(x' y':Option MV),BI S0 S' S0.length kvs' (zRZ (rs.map (jQ ts)) i ks pss).1 (zRZ (rs.map (jQ ts)) i ks pss).2/\
   zDR (gTp 2 (yF (gNm 2) (yF (gNm 3) jT))) nS [] (((rs.map zV).zipIdx i).map λp=>.tup [.int (p.2:Nat),p.1]) (B4 (.tup [.tup (ts.map tbl),rl,rr]) S0.length x y) S=.ok (.next (B4 (.tup [.tup (ts.map tbl),rl,rr]) S0.length x' y')) S'
 |[],_,i,S,kvs,ks,pss,x,y,B,_,_,_=>⟨S,kvs,x,y,B,rfl⟩
 |r::rs,hr,i,S,kvs,ks,pss,x,y,B,hk,hi,hp=>by
  rw [lC0]at hi
  obtain⟨S1,kv1,a1,a2,a3,a4,a5,a6,a7,a8,a9,a10⟩:=yID (rl:=rl) (rr:=rr) (i:=i) hT (hr r mF0) B.at' B.tup (by omega) B.ls B.nd B.out (λl ps h1 h2=>by
   obtain⟨qs,h3,h4⟩:=B.ls.mem h1 h2
   have:=hp qs h3
   omega)
  have old1: ∀(m:Nat)(o:MO),S0[m]? =some o->S1[m]? =some o:=λm o h=>by
   have mlt:=(gS0.mp h).1
   exact a7 m o (B.old m o h) (ne_of_lt mlt) λz=>absurd (B.new m z) (by omega)
  have len0:S0.length<=S.length:=le_of_lt (gS0.mp B.at').1
  have new1: ∀m,MV.loc m∈kv1.map (·.2)->S0.length<=m:=λm h=>(a8 m h).elim (B.new m) λz=>by omega
  rw [B.keys]at a9
  rw [map_cons,map_cons,List.zipIdx_cons,map_cons]
  unfold zRZ
  by_cases hm:jQ ts r∈ks
  ·rw [iP hm]at a9
   obtain⟨S2,kv2,x2,y2,b1,b2⟩:=zQY hT rs (λq hq=>hr q (mO _ hq)) (i+1) S1 kv1 ks (zKC (jQ ts r) i ks pss) (some (.int (i:Nat))) (some (zV r)) ⟨a1,a2,a9.1,a9.2,a4,a5,new1,old1⟩ (by omega) (by omega) (zXO hp)
   refine⟨S2,kv2,x2,y2,by rw [iP hm];exact b1,?_⟩
   rw [nO (show gTp 2 (yF (gNm 2) (yF (gNm 3) jT)) (.tup [.int (i:Nat),zV r]) (B4 (.tup [.tup (ts.map tbl),rl,rr]) S0.length x y) S=.ok (B4 (.tup [.tup (ts.map tbl),rl,rr]) S0.length (some (.int (i:Nat))) (some (zV r))) S from rfl) a10 (kR _)]
   exact b2
  ·rw [iN0 hm]at a9
   obtain⟨S2,kv2,x2,y2,b1,b2⟩:=zQY hT rs (λq hq=>hr q (mO _ hq)) (i+1) S1 kv1 (ks++[jQ ts r]) (pss++[[i]]) (some (.int (i:Nat))) (some (zV r)) ⟨a1,a2,a9.1,a9.2,a4,a5,new1,old1⟩ (by omega) (by omega) (λps h=>by
    rcases mem_append.mp h with z|z
    ·exact Nat.le_succ_of_le (hp ps z)
    ·rw [mS.mp z];exact Nat.succ_le_succ (zero_le _))
   refine⟨S2,kv2,x2,y2,by rw [iN0 hm];exact b1,?_⟩
   rw [nO (show gTp 2 (yF (gNm 2) (yF (gNm 3) jT)) (.tup [.int (i:Nat),zV r]) (B4 (.tup [.tup (ts.map tbl),rl,rr]) S0.length x y) S=.ok (B4 (.tup [.tup (ts.map tbl),rl,rr]) S0.length (some (.int (i:Nat))) (some (zV r))) S from rfl) a10 (kR _)]
   exact b2
theorem yIE{ts:List (Int×Int)}{rs:List (Nat×List MV)}(hT:TOk ts)(hr: ∀r∈rs,ROk ts r)(hl:rs.length<=60)(S:Sto):
  ∃(S':Sto)(ls:List MV),LsAt S' ls (zRZ (rs.map (jQ ts)) 0 [] []).2/\ls.Nodup/\(∀m,MV.loc m∈ls->S.length<=m)/\(∀(m:Nat)(o:MO),S[m]? =some o->S'[m]? =some o)/\
   wW [.tup [.tup (ts.map tbl),.tup [],.tup (rs.map zV)]] S=.ok (.new ls) S':=by
 have hst:zN zQE [.tup [.tup (ts.map tbl),.tup [],.tup (rs.map zV)]]=[some (.tup [.tup (ts.map tbl),.tup [],.tup (rs.map zV)]),none,none,none]:=rfl
 have e1:nU [some (.tup [.tup (ts.map tbl),.tup [],.tup (rs.map zV)]),none,none,none] S=.ok (.next [some (.tup [.tup (ts.map tbl),.tup [],.tup (rs.map zV)]),none,none,none]) S:=by
  unfold nU
  simp? [zON rfl,length_nil,decide_true,Bool.not_true,fT,iF]
 have e2:zJK [some (.tup [.tup (ts.map tbl),.tup [],.tup (rs.map zV)]),none,none,none] S=.ok (.next (B4 (.tup [.tup (ts.map tbl),.tup [],.tup (rs.map zV)]) S.length none none)) (S++[.dic []]):=by
  unfold zJK
  simp? [yBZ]
 obtain⟨S',kvs,x',y',B,hlp⟩:=zQY (S0:=S) (rl:=.tup []) (rr:=.tup (rs.map zV)) hT rs hr 0 (S++[.dic []]) [] [] [] none none ⟨by simp,rfl,rfl,.nil,List.nodup_nil,by simp,(λm h=>by cases h),λm o h=>by rw [getElem?_append_left (gS0.mp h).1];exact h⟩ (le_refl _) (by omega) (by simp)
 have i2: ∀S,ixF (.val (.tup [.tup (ts.map tbl),.tup [],.tup (rs.map zV)])) (.val (.int 2)) S=.ok (.val (.tup (rs.map zV))) S:=λS=>rfl
 have e3:zJL (B4 (.tup [.tup (ts.map tbl),.tup [],.tup (rs.map zV)]) S.length none none) (S++[.dic []])=.ok (.next (B4 (.tup [.tup (ts.map tbl),.tup [],.tup (rs.map zV)]) S.length x' y')) S':=by
  unfold zJL
  simp? [i2,show∀(ds:List MV)(S:Sto),itE [.val (.tup ds)] S=.ok ⟨zIM ds,[]⟩ S from λds S=>rfl]
  exact hlp
 have lv:lvF (.val (.loc S.length)) S'=.ok (.new (kvs.map (·.2))) S':=by
  unfold lvF
  rw [zLQ B.at' B.tup]
 have e4:zJM (B4 (.tup [.tup (ts.map tbl),.tup [],.tup (rs.map zV)]) S.length x' y') S'=.ok (.ret (.new (kvs.map (·.2)))) S':=by
  unfold zJM
  simp? [lv]
 refine⟨S',kvs.map (·.2),B.ls,B.nd,B.new,B.old,?_⟩
 unfold wW zLG
 rw [hst,zE e1,zE e2,zE e3,e4]
 rfl
theorem yLX{S S':Sto}(h: ∀(m:Nat)(o:MO),S[m]? =some o->S'[m]? =some o):S.length<=S'.length:=by
 by_cases z:S.length=0
 ·omega
 ·have hl:S.length - 1<S.length:=by omega
  have:=(gS0.mp (h _ _ (gE0 hl))).1
  omega
theorem yLY{S S':Sto}(h: ∀(m:Nat)(o:MO),S[m]? =some o->S'[m]? =some o):zSS S S':=⟨yLX h,λl hl=>.inl (by rw [h l _ (gE0 hl),gE0 hl])⟩
theorem yIF{S S':Sto}(h: ∀(m:Nat)(o:MO),S[m]? =some o->S'[m]? =some o): ∀(m:Nat)(o:MO),S[m]? =some o->(S'.take S.length)[m]? =some o:=λm o hm=>by
 rw [List.getElem?_take_of_lt (gS0.mp hm).1]
 exact h m o hm
theorem yQE{S:Sto}{ls:List MV}(h: ∀m,MV.loc m∈ls->S.length<=m)(hl: ∀d∈ls, ∃m,d=.loc m)(hne:ls≠[]): ¬loL S.length ls:=by
 cases ls with
 |nil=>exact absurd rfl hne
 |cons d r=>
  obtain⟨m,rfl⟩:=hl d mF0
  intro z
  unfold loL at z
  have:=z.1
  unfold lo at this
  have:=h m mF0
  omega
theorem LsAt.length{S:Sto}: ∀{ls:List MV}{pss:List (List Nat)},LsAt S ls pss->ls.length=pss.length
 |_,_,.nil=>rfl
 |_,_,.cons _ t=>by rw [lC0,lC0,t.length]
theorem LsAt.locs{S:Sto}{ls:List MV}{pss:List (List Nat)}(h:LsAt S ls pss): ∀d∈ls, ∃m,d=.loc m:=λd hd=>let ⟨l,_,e,_⟩:=h.in hd;⟨l,e⟩
theorem LsAt.nil_of{S T:Sto}{ls:List MV}{pss:List (List Nat)}(h:LsAt S ls pss)(e:ls=[]):LsAt T ls pss:=by
 subst e
 cases h
 exact .nil
theorem yAJ{n:Nat}{F:List MV->Sto->R Er}{rs:List Er}{S S':Sto}{as:List MV}{ls:List MV}{pss:List (List Nat)}(hn:rs.length=n)(hE:zQ rs S=(as,S))(hF:F as S=.ok (.new ls) S')(hl:LsAt S' ls pss)(hnew: ∀m,MV.loc m∈ls->S.length<=m)(hold: ∀(m:Nat)(o:MO),S[m]? =some o->S'[m]? =some o):
  ∃S2,zP n F rs S=.ok (.new ls) S2/\LsAt S2 ls pss/\ ∀(m:Nat)(o:MO),S[m]? =some o->S2[m]? =some o:=by
 unfold zP
 rw [iP hn,hE]
 show∃S2,((noX (F as S)).bind λr S2=>gX S r S2)=_/\_
 rw [hF,jL,bok]
 unfold gX
 rw [iP (yLY hold)]
 dsimp only
 by_cases e:ls=[]
 ·refine⟨S'.take S.length,?_,hl.nil_of e,yIF hold⟩
  rw [iP (by rw [e];exact yU λd hd=>by cases hd)]
 ·exact⟨S',by rw [iN0 (yQE hnew hl.locs e)],hl,hold⟩
theorem zOO(S:Sto)(o:MO):(S++[o])[S.length]? =some o:=by simp
theorem zTG{k:MV}{i:Nat}: ∀{ks:List MV}{pss:List (List Nat)},ks.length=pss.length->(zKC k i ks pss).length=pss.length
 |[],[],_=>rfl
 |[],_::_,h=>by simp at h
 |_::_,[],h=>by simp at h
 |c::ks,ps::pss,h=>by
  unfold zKC
  split
  ·rfl
  ·rw [lC0,lC0,zTG (by simpa using h)]
theorem yQF{α:Type}{xs:List α}{j:Nat}{x:α}(h:xs[j]? =some x):atI xs (j:Int)=some x:=by
 have hj:=(gS0.mp h).1
 unfold atI
 have:ixN xs.length (j:Int)=some j:=by
  unfold ixN
  simp
  omega
 rw [this]
 exact h
noncomputable abbrev gp(ts:List (Int×Int))(rs:List (Nat×List MV)):List (List Nat):=(zRZ (rs.map (jQ ts)) 0 [] []).2
theorem yQG(S:Sto)(a b:MO):(S++[a,b])[S.length+1]? =some b:=by
 rw [getElem?_append_right (by omega),show S.length+1 - S.length=1 by omega]
 rfl
theorem yAK{B L:Sto}{n i:Nat}(h:B.length=n):(B++L)[n+i]? =L[i]? :=by
 rw [getElem?_append_right (by omega),h,Nat.add_sub_cancel_left]
theorem yIG{B L:Sto}{m:Nat}{o:MO}(h:B[m]? =some o):(B++L)[m]? =some o:=by
 rw [getElem?_append_left (gS0.mp h).1];exact h
theorem lst4(a b c d:MV)(S:Sto):jZ [.val a,.val b,.val c,.val d] S=.ok (.new [a,b,c,d]) S:=zGF (by simp)
theorem zQZ{e:MV->MV->Option Bool}: ∀{ds:List MV},(∀d∈ds,e d d=some true)->prs e ds ds=some (ds.map λ_=>true)
 |[],_=>rfl
 |d::ds,h=>by
  unfold prs
  rw [h d mF0,zQZ λa ha=>h a (mO _ ha)]
  rfl
theorem zTH(ds:List MV):(ds.map λ_=>true).all id=true:=by
 rw [all_eq_true]
 intro b hb
 obtain⟨_,_,rfl⟩:=mM0.mp hb
 rfl
theorem yIH{S:Sto}{n:Nat}{c:Str}{fs:List (Str×MV)}(h:S[n]? =some (.ins c fs))(hc:c∈XNS)(c2:Str):zFO XNS c2 (.val (.loc n)) S=.ok (.val (.bl (decide (c=c2)))) S:=by
 unfold zFO
 dsimp only
 rw [h]
 dsimp only
 rw [iP hc]
theorem yQH{S:Sto}{n:Nat}{c:Str}{fs:List (Str×MV)}(h:S[n]? =some (.ins c fs))(hc:c∈XNS):yHD XNS (.val (.loc n)) S=.ok (.val (.bl true)) S:=by
 unfold yHD
 dsimp only
 rw [h]
 dsimp only
 rw [iP hc]
theorem yII{n:Nat}{F:List MV->Sto->R Er}{rs:List Er}{S T:Sto}{l:Nat}{ds:List MV}{as:List MV}(hn:rs.length=n)(hE:zQ rs S=(as,S))(hF:F as S=.ok (.val (.loc l)) (S++T))(h1:S.length<=l)(h2:(S++T)[l]? =some (.lst ds))(h:loL S.length ds):zP n F rs S=.ok (.new ds) S:=by
 have hF':F (zQ rs S).1 (zQ rs S).2=.ok (.val (.loc l)) (S++T):=by rw [hE];exact hF
 exact yGY hn hF' h1 h2 h
abbrev bq(c x:Str):MV:=.bl (decide (c=x))
abbrev K4(c:Str):List MV:=[bq c "TooGreat",bq c "NoTable",bq c "NoRule",bq c "NoRow"]
abbrev K8(c:Str):List MV:=[bq c "Twice",bq c "NoText",bq c "NoPlace",bq c "NotPlain"]
abbrev K12(c:Str):List MV:=[bq c "NoQuestion",bq c "Double",bq c "TooWide",bq c "Ring"]
abbrev KL(c:Str):List MV:=K4 c++K8 c++K12 c
theorem yIJ{S:Sto}{n:Nat}{c:Str}{fs:List (Str×MV)}(h:S[n]? =some (.ins c fs))(hc:c∈XNS):zP 1 gO [.val (.loc n)] S=.ok (.new (KL c)) S:=by
 have H: ∀(L:Sto)(c2:Str),zFO XNS c2 (.val (.loc n)) (S++L)=.ok (.val (.bl (decide (c=c2)))) (S++L):=λL c2=>yIH (yIG h) hc c2
 have H0: ∀c2:Str,zFO XNS c2 (.val (.loc n)) S=.ok (.val (.bl (decide (c=c2)))) S:=λc2=>yIH h hc c2
 have l1: ∀a,(S++[a]).length=S.length+1:=λa=>by rw [lA];rfl
 have l2: ∀a b,(S++[a,b]).length=S.length+2:=λa b=>by rw [lA];rfl
 have e1:zAL [some (.loc n),none] S=.ok (.next [some (.loc n),some (.loc S.length)]) (S++[.lst (K4 c)]):=by
  unfold zAL
  simp? [H0,lst4]
 have a2:wM (.val (.loc S.length)) (.new (K8 c)) (S++[.lst (K4 c)])=.ok (.new (K4 c++K8 c)) (S++[.lst (K4 c)]):=zPS (zOF (zOO _ _)) rfl (fits (show 4+4<=1000000 by decide))
 have e2:zAM [some (.loc n),some (.loc S.length)] (S++[.lst (K4 c)])=.ok (.next [some (.loc n),some (.loc (S.length+1))]) (S++[.lst (K4 c),.lst (K4 c++K8 c)]):=by
  unfold zAM
  simp? [H,lst4,a2,l1,aA]
  rfl
 have a3:wM (.val (.loc (S.length+1))) (.new (K12 c)) (S++[.lst (K4 c),.lst (K4 c++K8 c)])=.ok (.new (KL c)) (S++[.lst (K4 c),.lst (K4 c++K8 c)]):=zPS (zOF (yQG _ _ _)) rfl (fits (show 8+4<=1000000 by decide))
 have e3:zAN [some (.loc n),some (.loc (S.length+1))] (S++[.lst (K4 c),.lst (K4 c++K8 c)])=.ok (.next [some (.loc n),some (.loc (S.length+2))]) (S++[.lst (K4 c),.lst (K4 c++K8 c),.lst (KL c)]):=by
  unfold zAN
  simp? [H,lst4,a3,l2]
  rw [aA]
  rfl
 have e4: ∀T,zHF [some (.loc n),some (.loc (S.length+2))] T=.ok (.ret (.val (.loc (S.length+2)))) T:=λT=>rfl
 refine yII (T:=[.lst (K4 c),.lst (K4 c++K8 c),.lst (KL c)]) (l:=S.length+2) (as:=[.loc n]) rfl rfl ?_ (by omega) (yAK (i:=2) rfl) (yU λe he=>?_)
 ·show yH (zES [some (.loc n),none] S)=_
  unfold zES
  rw [zE e1,zE e2,zE e3,e4]
  rfl
 ·simp only [KL,K4,K8,K12,List.cons_append,nil_append,mC,nM0,or_false]at he
  rcases he with rfl|rfl|rfl|rfl|rfl|rfl|rfl|rfl|rfl|rfl|rfl|rfl<;>exact yBU _ _
theorem eq_lb{S:Sto}{l:Nat}{ds:List MV}(hl:S[l]? =some (.lst ds))(hd: ∀d∈ds, ∃b,d=.bl b):eqF (.val (.loc l)) (.new ds) S=.ok (.val (.bl true)) S:=by
 have e:vwE S (.val (.loc l))=some (.ls ds):=by
  show(cG S (.val (.loc l))).map Vw.ls=_
  rw [zGE hl];rfl
 have q:zKT S yE (.val (.loc l)) (.new ds)=some true:=by
  unfold zKT
  rw [e]
  show(if ds.length=ds.length then(prs (eqv S 40) ds ds).map λbs=>bs.all id else some false)=_
  rw [iP rfl,zQZ λd hd'=>by obtain⟨b,rfl⟩:=hd d hd';exact(yPA 39 b b).trans (by rw [beq_self_eq_true])]
  show some ((ds.map λ_=>true).all id)=_
  rw [zTH]
 unfold eqF
 rw [q]
theorem zXP: ∀(ps:List Nat),intsOf (ps.map zS)=some (ps.map Int.ofNat)
 |[]=>rfl
 |p::ps=>by
  show(intsOf (ps.map zS)).map (Int.ofNat p::·)=_
  rw [zXP ps]
  rfl
theorem yQI{S:Sto}{l:Nat}{ps:List Nat}(h:S[l]? =some (.lst (ps.map zS)))(hz:ps.length<64):zXA [.val (.loc l)] S=.ok (.new ((PySem.W.sortI (ps.map Int.ofNat)).map MV.int)) S:=by
 unfold zXA
 dsimp only
 rw [zGE h]
 dsimp only
 rw [iP (by rw [lM0];exact hz),zXP]
theorem tup0(S:Sto):jY [] S=.ok (.val (.tup [])) S:=zMP (by simp)
theorem zXQ(t:Nat)(qs:List Test):zX (.never t qs)=.tup [.str zAR,.int (t:Nat),.tup (qs.map testM)]:=rfl
theorem yLZ{ts:List (Int×Int)}(hT:TOk ts)(c:Int)(S:Sto): ∃r,zFP ts r/\zP 2 jX [.val (.int c),.val (.tup (ts.map tbl))] S=.ok (.val (zX r)) S:=by
 have tl:(((ts.map tbl).length:Nat):Int)=ts.length:=by rw [lM0]
 have t0:(0:Int)<(((ts.map tbl).length:Nat):Int):=by have:=hT.1;omega
 have i0:0<=c / 7 % (((ts.map tbl).length:Nat):Int):=eN _ (by omega)
 have i1:c / 7 % (((ts.map tbl).length:Nat):Int)<(((ts.map tbl).length:Nat):Int):=eL _ t0
 have a0:0<=c % 7:=eN _ (by decide)
 have a1:c % 7<7:=eL _ (by decide)
 have b0:0<=c / 28 % 5:=eN _ (by decide)
 have b1:c / 28 % 5<5:=eL _ (by decide)
 have et:((c / 7 % (((ts.map tbl).length:Nat):Int)).toNat:Int)=c / 7 % (((ts.map tbl).length:Nat):Int):=Int.toNat_of_nonneg i0
 have hst:zN zGN [.int c,.tup (ts.map tbl)]=[some (.int c),some (.tup (ts.map tbl)),none]:=rfl
 have ok:zFP ts (.never (c / 7 % (((ts.map tbl).length:Nat):Int)).toNat [⟨.isv (.int (c % 7)),[115,97,109,101],.isv (.int (c % 7+1+c / 28 % 5))⟩]):=by
  refine⟨by omega,le_refl _,show 1<=3 from by decide,λq hq=>?_⟩
  rw [mS.mp hq]
  exact⟨show Vl (.int (c % 7))from⟨by omega,by omega⟩,show([115,97,109,101]:List Nat)∈words3 from by decide,show Vl (.int (c % 7+1+c / 28 % 5))from⟨by omega,by omega⟩⟩
 have e1:zCS [some (.int c),some (.tup (ts.map tbl)),none] S=.ok (.next [some (.int c),some (.tup (ts.map tbl)),some (.tup [.str sIs,.int (c % 7)])]) S:=by
  unfold zCS
  simp? [mod_lit (show(0:Int)<7 by decide)]
  rfl
 have e2:zCT [some (.int c),some (.tup (ts.map tbl)),some (.tup [.str sIs,.int (c % 7)])] S=.ok (.ret (.val (zX (.never (c / 7 % (((ts.map tbl).length:Nat):Int)).toNat [⟨.isv (.int (c % 7)),[115,97,109,101],.isv (.int (c % 7+1+c / 28 % 5))⟩])))) S:=by
  unfold zCT
  simp? [xP (b:=7) (by decide) (by decide),dY,mod_lit t0,mod_lit (show(0:Int)<7 by decide),xP (b:=28) (by decide) (by decide),mod_lit (show(0:Int)<5 by decide),tup1]
  rw [zXQ,et]
  rfl
 refine⟨_,ok,bB rfl ?_ (zVH ok _) (zQW _)⟩
 show jX [.int c,.tup (ts.map tbl)] S=_
 unfold jX zNS
 rw [hst,zE e1,e2]
 rfl
theorem yIK: ∀{ts:List (Int×Int)}{o:List MV},(∀y∈o, ∃r,zFP ts r/\y=zX r)-> ∃rl:List Rule,o=rl.map zX/\ ∀r∈rl,zFP ts r:=by
 intro ts o
 induction o with
 |nil=>exact λ_=>⟨[],rfl,λc hc=>by simp at hc⟩
 |cons a o ih=>
  intro h
  obtain⟨r,hr,rfl⟩:=h a mF0
  obtain⟨rl,rfl,hrl⟩:=ih λy hy=>h y (mO _ hy)
  exact⟨r::rl,rfl,λd hd=>(mC.mp hd).elim (λe=>e▸hr) (hrl d)⟩
theorem yMA{S:Sto}{d:MV}(hd:pd d=true)(h:dpt d<40):neF (.val d) (.val d) S=.ok (.val (.bl false)) S:=by
 rw [zZQ (zQQ (yE+1) hd hd (by unfold yE;omega)),dT0 rfl]
 rfl
theorem zVJ{n:Nat}{F:List MV->Sto->R Er}{rs:List Er}{S T:Sto}{c:Str}(hn:rs.length=n)(hF:F (zQ rs S).1 (zQ rs S).2=.exc c [] (S++T)):gY n F rs S=.exc c [] S:=by
 unfold gY
 rw [iP hn,hF]
 show(if([]:List (Str×MV)).all (λp=>zPZ p.2)=true then(gX S (.val .non) (S++T)).bind λ_ S3=>R.exc c [] S3 else .no)=_
 rw [iP (show([]:List (Str×MV)).all (λp=>zPZ p.2)=true from rfl),zWV (yGU _) (λl=>by simp)]
 rfl
theorem zTI{k:MV}{i:Nat}: ∀{ks:List MV}{pss:List (List Nat)},k∈ks->ks.length=pss.length->(zKC k i ks pss).flatten.Perm (pss.flatten++[i])
 |[],_,h,_=>by simp at h
 |_::_,[],_,h=>by simp at h
 |c::ks,ps::pss,hk,hl=>by
  unfold zKC
  by_cases e:c=k
  ·rw [iP e,flatten_cons,flatten_cons,aA,aA]
   exact List.Perm.append_left _ List.perm_append_comm
  ·rw [iN0 e,flatten_cons,flatten_cons,aA]
   exact List.Perm.append_left _ (zTI ((mC.mp hk).resolve_left λz=>e z.symm) (by simpa using hl))
theorem zLR: ∀(r:List MV)(i:Nat)(ks:List MV)(pss:List (List Nat)),ks.length=pss.length->((zRZ r i ks pss).2.flatten).Perm (pss.flatten++List.range' i r.length)
 |[],i,ks,pss,_=>by rw [length_nil,List.range'_zero,aN];exact .refl _
 |k::r,i,ks,pss,h=>by
  unfold zRZ
  rw [lC0,List.range'_succ]
  by_cases hm:k∈ks
  ·rw [iP hm]
   refine(zLR r (i+1) ks _ (by rw [zTG h];exact h)).trans ?_
   rw [show pss.flatten++i::List.range' (i+1) r.length=(pss.flatten++[i])++List.range' (i+1) r.length by rw [aA];rfl]
   exact List.Perm.append_right _ (zTI hm h)
  ·rw [iN0 hm]
   refine(zLR r (i+1) (ks++[k]) (pss++[[i]]) (by rw [lA,lA,h];rfl)).trans ?_
   rw [List.flatten_append,show [[i]].flatten=[i]from rfl,aA]
   exact .refl _
theorem zXR(n:Nat):((List.range n).map Int.ofNat).Pairwise (· <=·):=by
 rw [List.pairwise_map]
 exact List.Pairwise.imp (λh=>Int.ofNat_le.mpr (le_of_lt h)) List.pairwise_lt_range
theorem yMB{r:List MV}:PySem.W.sortI (((zRZ r 0 [] []).2.flatten).map Int.ofNat)=(List.range r.length).map Int.ofNat:=by
 have h:=zLR r 0 [] [] rfl
 rw [flatten_nil,nil_append, <-List.range_eq_range']at h
 exact(PySem.W.eq_sortI (h.symm.map _) (zXR _)).symm
abbrev bkM(ts:List (Int×Int))(rs:List (Nat×List MV)):MV:=.tup [.tup (ts.map tbl),.tup [],.tup (rs.map zV)]
abbrev xT(ts:List (Int×Int))(rl:List Rule)(rs:List (Nat×List MV)):MV:=.tup [.tup (ts.map tbl),.tup (rl.map zX),.tup (rs.map zV)]
theorem c_blk{ts:List (Int×Int)}{rs:List (Nat×List MV)}(hT:TOk ts)(hr: ∀r∈rs,ROk ts r)(hl:rs.length<=60)(S:Sto):
  ∃(S':Sto)(ls:List MV),zP 1 wW [.val (bkM ts rs)] S=.ok (.new ls) S'/\LsAt S' ls (gp ts rs)/\ ∀(m:Nat)(o:MO),S[m]? =some o->S'[m]? =some o:=by
 obtain⟨S8,l8,a1,a2,a3,a4,a5⟩:=yIE hT hr hl S
 obtain⟨S9,c1,c2,c3⟩:=yAJ (n:=1) (F:=wW) (rs:=[.val (bkM ts rs)]) rfl rfl a5 a1 a3 a4
 exact⟨S9,l8,c1,c2,c3⟩
section
variable{ts:List (Int×Int)}{rl:List Rule}{rs:List (Nat×List MV)}
theorem zXS(h:rl≠[])(S:Sto):gY 1 wW [.val (xT ts rl rs)] S=.exc "NotPlain" [] S:=by
 refine zVJ (T:=[]) rfl ?_
 rw [aN]
 show yH (zLG [some (xT ts rl rs),none,none,none] S)=_
 have hd:decide ((rl.map zX).length=0)=false:=dF0 (by rw [lM0];exact λz=>h (List.length_eq_zero_iff.mp z))
 have e:nU [some (xT ts rl rs),none,none,none] S=.exc "NotPlain" [] S:=by
  unfold nU
  simp? [zON (rl:=rl.map zX) rfl,hd,Bool.not_false]
  rfl
 unfold zLG zU
 rw [e]
 rfl
theorem yIL(h:rl≠[])(S:Sto):gY 1 xV [.val (xT ts rl rs)] S=.exc "NotPlain" [] S:=by
 refine zVJ (T:=[]) rfl ?_
 rw [aN]
 show yH (bD [some (xT ts rl rs),none,none] S)=_
 have e:jN [some (xT ts rl rs),some (.int 1),none] S=.exc "NotPlain" [] S:=by
  unfold jN
  simp? [zXS h]
  rfl
 unfold bD
 rw [zE (show nV [some (xT ts rl rs),none,none] S=.ok (.next [some (xT ts rl rs),some (.int 1),none]) S from rfl)]
 unfold zU
 rw [e]
 rfl
theorem yIM(h:rl≠[])(i:Int)(S:Sto):gY 2 zLH [.val (xT ts rl rs),.val (.int i)] S=.exc "NotPlain" [] S:=by
 refine zVJ (T:=[]) rfl ?_
 rw [aN]
 show yH (zQI [some (xT ts rl rs),some (.int i),none,none,none,none] S)=_
 have e:zJP [some (xT ts rl rs),some (.int i),none,none,none,none] S=.exc "NotPlain" [] S:=by
  unfold zJP
  simp? [yIL h]
  rfl
 unfold zQI
 unfold zU
 rw [e]
 rfl
abbrev WL:List MV:=(List.range 12).map λ(k:Nat)=>MV.bl (decide ((k:Int)=7))
theorem yMC(h:rl≠[]){w i:Int}(hw:w=0\/w=1\/w=2)(S:Sto):
  zP 3 gP [.val (xT ts rl rs),.val (.int w),.val (.int i)] S=.ok (.val (.bl true)) S:=by
 have hc:("NotPlain":Str)∈XNS:=by decide
 have hkl:KL "NotPlain"=WL:=rfl
 have l1:(S++[MO.lst []]).length=S.length+1:=by rw [lA];rfl
 have l2: ∀a,(S++[MO.lst [],a]).length=S.length+2:=λa=>by rw [lA];rfl
 have gi:(S++[MO.lst [],.ins "NotPlain" []])[S.length+1]? =some (.ins "NotPlain" []):=yAK (i:=1) rfl
 have ad:wM (.new (KL "NotPlain")) (.new [.bl true]) (S++[.lst [],.ins "NotPlain" []])=.ok (.new (KL "NotPlain"++[.bl true])) (S++[.lst [],.ins "NotPlain" []]):=zPS rfl rfl (fits (show 12+1<=1000000 by decide))
 have hh:kQ [some (xT ts rl rs),some (.int w),some (.int i),some (.loc S.length),some (.loc (S.length+1))] (S++[.lst [],.ins "NotPlain" []])=.ok (.next [some (xT ts rl rs),some (.int w),some (.int i),some (.loc (S.length+2)),some (.loc (S.length+1))]) (S++[.lst [],.ins "NotPlain" [],.lst (KL "NotPlain"++[.bl true])]):=by
  unfold kQ zAO
  simp? [yIJ gi hc,yQH gi hc,ad,l2]
  rw [aA]
  rfl
 generalize hS:S++[.lst [],.ins "NotPlain" [],.lst (KL "NotPlain"++[.bl true])]=S3 at hh
 have gl3:S3[S.length+2]? =some (.lst (KL "NotPlain"++[.bl true])):=by rw [<-hS];exact yAK (i:=2) rfl
 have e2:bQ [some (xT ts rl rs),some (.int w),some (.int i),some (.loc S.length),none] (S++[.lst []])=.ok (.next [some (xT ts rl rs),some (.int w),some (.int i),some (.loc (S.length+2)),none]) S3:=by
  unfold bQ
  have go:zQC XNS 4 (λ_ S=>.ok (.next [some (xT ts rl rs),some (.int w),some (.int i),some (.loc S.length),none]) S) kQ [some (xT ts rl rs),some (.int w),some (.int i),some (.loc S.length),none] (.exc "NotPlain" [] (S++[.lst []]))=.ok (.next [some (xT ts rl rs),some (.int w),some (.int i),some (.loc (S.length+2)),none]) S3:=by
   unfold zQC
   dsimp only
   rw [iP hc,l1,aA]
   rw [show [MO.lst []]++[MO.ins "NotPlain" []]=[.lst [],.ins "NotPlain" []]from rfl]
   simp only [List.set_cons_zero,List.set_cons_succ]
   rw [hh]
   rfl
  rcases hw with rfl|rfl|rfl
  ·simp? [jL,zXS h,decide_true]
   exact go
  ·simp? [jL,yIL h,show decide ((1:Int)=0)=false from rfl,fT,iF,decide_true]
   exact go
  ·simp? [jL,yIM h,show decide ((2:Int)=0)=false from rfl,show decide ((2:Int)=1)=false from rfl,fT,iF]
   exact go
 have hcm:kD (gNm 0) zAP jO [none] [] ((List.range 12).map λk=>MV.int (k:Nat)) S3=.ok WL S3:=by
  rw [cI (F:=λd=>match d with |.int i=>.bl (decide (i=7))|_=>.non) (kR _) λd hd=>by
   obtain⟨i,_,rfl⟩:=mM0.mp hd
   refine⟨[some (.int (i:Nat))],rfl,rfl,?_⟩
   unfold jO
   simp? [bok],map_map]
  rfl
 have ad2:wM (.new WL) (.new [.bl true]) S3=.ok (.new (WL++[.bl true])) S3:=zPS rfl rfl (fits (show 12+1<=1000000 by decide))
 rw [hkl]at gl3
 have nn:=eq_lb gl3 λd hd=>by
  rcases mem_append.mp hd with hd|hd
  ·obtain⟨i,_,rfl⟩:=mM0.mp hd;exact⟨_,rfl⟩
  ·rw [mS.mp hd];exact⟨_,rfl⟩
 have e3:bR [some (xT ts rl rs),some (.int w),some (.int i),some (.loc (S.length+2)),none] S3=.ok (.ret (.val (.bl true))) S3:=by
  unfold bR
  simp? [zDT (S:=S3) (j:=12) (by omega),show(12:Int).toNat=12 from rfl,lM0,length_range,show((12:Nat)<1000000)=True from by simp,show blk 1 [] [some (xT ts rl rs),some (.int w),some (.int i),some (.loc (S.length+2)),none]=[none]from rfl,hcm,ad2,nn]
 refine cH (T:=[.lst [],.ins "NotPlain" [],.lst (KL "NotPlain"++[.bl true])]) rfl ?_ (yBU _ _) (λl=>by simp)
 show yH (zAQ [some (xT ts rl rs),some (.int w),some (.int i),none,none] S)=_
 unfold zAQ
 rw [zE (show zDK [some (xT ts rl rs),some (.int w),some (.int i),none,none] S=.ok (.next [some (xT ts rl rs),some (.int w),some (.int i),some (.loc S.length),none]) (S++[.lst []])from rfl),zE e2,e3,hS]
 rfl
end
section
variable{ts:List (Int×Int)}{S:Sto}
theorem SqM.tuple{m:MV}{ds:List MV}(h:SqM S m ds):jM [.val m] S=.ok (.val (.tup ds)) S:=by
 rcases h with rfl|⟨l,rfl,hS⟩
 ·rfl
 ·exact nG hS
theorem yIN{a b c:MV}{rl:List Rule}{rs:List (Nat×List MV)}(ha:SqM S a (ts.map tbl))(hb:SqM S b (rl.map zX))(hc:SqM S c (rs.map zV))(hT:TOk ts)(hR: ∀r∈rl,zFP ts r)(hrl:rl.length<=6)(hr: ∀r∈rs,ROk ts r)(hn:rs.Nodup)(hl:rs.length<=60):
  zP 3 bK [.val a,.val b,.val c] S=.ok (.val (.tup [.tup (ts.map tbl),.tup (rl.map zX),.tup (rs.map zV)])) S:=by
 refine bB rfl ?_ (xX (yU λd hd=>?_)) (λl=>by simp)
 ·have e1:zGZ [some a,some b,some c] S=.ok (.next [some a,some b,some c]) S:=by
   unfold zGZ
   simp? [yLV ha hb hc (by rw [lM0];exact hT.2.1) (by rw [lM0];exact hrl) (by rw [lM0];exact hl)]
  have e2:zHA [some a,some b,some c] S=.ok (.next [some a,some b,some c]) S:=by
   unfold zHA
   simp? [yHZ ha hT]
  have e3:zHB [some a,some b,some c] S=.ok (.next [some a,some b,some c]) S:=by
   unfold zHB
   simp? [yLW ha hb hR]
  have e4:zHC [some a,some b,some c] S=.ok (.next [some a,some b,some c]) S:=by
   unfold zHC
   simp? [yQB ha hT hc hr hn hl]
  have e5:zHD [some a,some b,some c] S=.ok (.ret (.val (.tup [.tup (ts.map tbl),.tup (rl.map zX),.tup (rs.map zV)]))) S:=by
   unfold zHD
   simp? [ha.tuple,hb.tuple,hc.tuple]
  show yH (zMU [some a,some b,some c] S)=_
  unfold zMU
  rw [zE e1,zE e2,zE e3,zE e4,e5]
  rfl
 ·simp only [mC,nM0,or_false]at hd
  rcases hd with rfl|rfl|rfl
  ·exact xX (yU λe he=>by
    obtain⟨p,_,rfl⟩:=mM0.mp he
    exact xX (yU λe he=>by simp at he;rcases he with rfl|rfl<;>exact kH _ _))
  ·exact xX (yU λe he=>by obtain⟨r,hr',rfl⟩:=mM0.mp he;exact zVH (hR r hr') _)
  ·exact xX (yU λe he=>by obtain⟨r,hr',rfl⟩:=mM0.mp he;exact yAF (hr r hr') _)
end
mutual
def sm:MV->Bool
 |.tup ds=>decide (ds.length<1000)&&smL ds
 |_=>true
def smL:List MV->Bool
 |[]=>true
 |d::ds=>sm d&&smL ds
end
theorem zAT(ds:List MV):sm (.tup ds)=(decide (ds.length<1000)&&smL ds):=by rw [sm]
theorem xA(d:MV)(ds:List MV):smL (d::ds)=(sm d&&smL ds):=by rw [smL]
theorem zEX: ∀{ds:List MV},(∀d∈ds,sm d=true)->smL ds=true
 |[],_=>by rw [smL]
 |d::ds,h=>by rw [xA,h d mF0,zEX λe he=>h e (mO _ he)];rfl
theorem zOP(ns:List Int)(k:Int)(hk:0<=k)(S:Sto): ∃c,zP 2 yK [.val (.scr (ns.map MV.int)),.val (.int k)] S=.ok (.val (.int c)) S:=by
 have hlen:wF [.val (.scr (ns.map MV.int))] S=.ok (.val (.int ns.length)) S:=by
  show R.ok (Er.val (.int (((ns.map MV.int).length:Nat):Int))) S=_
  rw [lM0]
 have e1:bL [some (.scr (ns.map MV.int)),some (.int k)] S=if decide (k<ns.length)=true then(ixF (.val (.scr (ns.map MV.int))) (.val (.int k)) S).bind λr S1=>.ok (.ret r) S1 else .ok (.next [some (.scr (ns.map MV.int)),some (.int k)]) S:=by
  unfold bL
  simp? [hlen,lt_int]
 have fin: ∀c,yK [.scr (ns.map MV.int),.int k] S=.ok (.val (.int c)) S-> ∃c,zP 2 yK [.val (.scr (ns.map MV.int)),.val (.int k)] S=.ok (.val (.int c)) S:=λc h=>⟨c,bB rfl h (kH _ _) (λl=>by simp)⟩
 have hs:zN ["_law_script","_law_k"] [.scr (ns.map MV.int),.int k]=[some (.scr (ns.map MV.int)),some (.int k)]:=rfl
 by_cases hlt:k<ns.length
 ·obtain⟨d,hd⟩:=dS (xs:=ns.map MV.int) (i:=k) hk (by rw [lM0];exact hlt)
  obtain⟨c,rfl⟩: ∃c,d=.int c:=dU (P:=λd=> ∃c,d=.int c) (λe he=>by obtain⟨c,_,rfl⟩:=mM0.mp he;exact⟨c,rfl⟩) hd
  have hix:ixF (.val (.scr (ns.map MV.int))) (.val (.int k)) S=.ok (.val (.int c)) S:=by
   show(match atI (ns.map MV.int) k with |some d=>R.ok (Er.val d) S|none=>.no)=_
   rw [hd]
  refine fin c ?_
  rw [dT0 hlt,iP rfl,hix,bok]at e1
  unfold yK zAE
  rw [hs,dR e1]
  rfl
 ·refine fin 0 ?_
  rw [dF0 hlt,iN0 xF0]at e1
  unfold yK zAE
  rw [hs,zE e1]
  rfl
theorem yCU{ws:List Int}{sd:Side}(h:yAG ws sd):pd (xO sd)=true/\dpt (xO sd)<=1/\sm (xO sd)=true:=by
 cases sd with
 |isv v=>
  have hv:Vl v:=h
  rcases hv.cases with⟨i,rfl,_⟩|⟨x,rfl,_⟩<;>(unfold xO;simp [pd,pdL,dpt,zEU,sm,smL])
 |cell k j=>unfold xO;simp [pd,pdL,dpt,zEU,sm,smL]
theorem zVK{ws:List Int}{q:Test}(h:zQV ws q):pd (testM q)=true/\dpt (testM q)<=2/\sm (testM q)=true:=by
 obtain⟨a1,a2,a3⟩:=yCU h.1
 obtain⟨b1,b2,b3⟩:=yCU h.2.2
 unfold testM
 refine⟨by simp [pd,pdL,a1,b1],?_,by simp [sm,smL,a3,b3]⟩
 rw [wH,yB,yB,yB,cN,zII]
 omega
theorem zXT{ws:List Int}{qs:List Test}(h: ∀q∈qs,zQV ws q)(hl:qs.length<=3):pd (.tup (qs.map testM))=true/\dpt (.tup (qs.map testM))<=3/\sm (.tup (qs.map testM))=true:=by
 refine⟨?_,?_,?_⟩
 ·rw [jP];exact zBJ λd hd=>by obtain⟨q,hq,rfl⟩:=mM0.mp hd;exact(zVK (h q hq)).1
 ·rw [wH];have:=zBK (n:=2) (ds:=qs.map testM) λd hd=>by obtain⟨q,hq,rfl⟩:=mM0.mp hd;exact(zVK (h q hq)).2.1
  omega
 ·rw [zAT,dT0 (by rw [lM0];omega),zEX λd hd=>by obtain⟨q,hq,rfl⟩:=mM0.mp hd;exact(zVK (h q hq)).2.2];rfl
theorem yCV{cs:List Nat}(hl:cs.length<=3):pd (.tup (cs.map zS))=true/\dpt (.tup (cs.map zS))<=1/\sm (.tup (cs.map zS))=true:=by
 refine⟨?_,?_,?_⟩
 ·rw [jP];exact zBJ λd hd=>by obtain⟨q,hq,rfl⟩:=mM0.mp hd;exact zEW _
 ·rw [wH];have:=zBK (n:=0) (ds:=cs.map zS) λd hd=>by obtain⟨q,hq,rfl⟩:=mM0.mp hd;exact Nat.le_of_eq (dZ _)
  omega
 ·rw [zAT,dT0 (by rw [lM0];omega),zEX λd hd=>by obtain⟨q,hq,rfl⟩:=mM0.mp hd;unfold zS;simp [sm]];rfl
theorem zVL{ts:List (Int×Int)}{r:Rule}(h:zFP ts r):pd (zX r)=true/\dpt (zX r)<=4/\sm (zX r)=true:=by
 cases r with
 |never t qs=>
  obtain⟨a1,a2,a3⟩:=zXT h.2.2.2 h.2.2.1
  unfold zX
  refine⟨?_,?_,?_⟩
  ·rw [jP,yL,yL,yL,zEV,a1,zMX,zEW];rfl
  ·rw [wH,yB,yB,yB,cN,zII,dZ];omega
  ·rw [zAT,xA,xA,xA,a3];simp [sm,smL]
 |apart t u qs=>
  obtain⟨a1,a2,a3⟩:=zXT h.2.2.2.2 h.2.2.2.1
  unfold zX
  refine⟨?_,?_,?_⟩
  ·rw [jP,yL,yL,yL,yL,zEV,a1,zMX,zEW,zEW];rfl
  ·rw [wH,yB,yB,yB,yB,cN,zII,dZ,dZ];omega
  ·rw [zAT,xA,xA,xA,xA,a3];simp [sm,smL]
 |tie t cs u ds=>
  obtain⟨_,_,_,hc,hd,_⟩:=h
  obtain⟨a1,a2,a3⟩:=yCV (cs:=cs) hc
  obtain⟨b1,b2,b3⟩:=yCV (cs:=ds) (by omega)
  unfold zX
  refine⟨?_,?_,?_⟩
  ·rw [jP,yL,yL,yL,yL,yL,zEV,a1,b1,zMX,zEW,zEW];rfl
  ·rw [wH,yB,yB,yB,yB,yB,cN,zII,dZ,dZ];omega
  ·rw [zAT,xA,xA,xA,xA,xA,a3,b3];simp [sm,smL]
theorem yAL(p:Int×Int):pd (tbl p)=true/\dpt (tbl p)<=1/\sm (tbl p)=true:=by unfold tbl;simp [pd,pdL,dpt,zEU,sm,smL]
theorem yQJ{ts:List (Int×Int)}(hT:TOk ts){r:Nat×List MV}(h:ROk ts r):sm (zV r)=true:=by
 obtain⟨p,hp,hl,hv⟩:=h
 have hw:=hT.2.2 p (mem_of_getElem? hp)
 have hs:smL r.2=true:=zEX λd hd=>by
  rcases (hv d hd).cases with⟨i,rfl,_⟩|⟨x,rfl,_⟩<;>simp [sm]
 unfold zV
 rw [zAT,xA,xA,zAT,hs,dT0 (show r.2.length<1000 by omega)]
 simp [sm,smL]
section
variable{ts:List (Int×Int)}{rl:List Rule}{rs:List (Nat×List MV)}{vs:List MV}{q:MV}{hd:Int}{x6:Option MV}
theorem yMD(hT:TOk ts)(hR: ∀r∈rl,zFP ts r)(hrl:rl.length<=6)(hr: ∀r∈rs,ROk ts r)(hl:rs.length<=60):pd (xT ts rl rs)=true/\dpt (xT ts rl rs)<8/\sm (xT ts rl rs)=true:=by
 have a:pdL (ts.map tbl)=true/\zEU (ts.map tbl)<=1/\smL (ts.map tbl)=true:=⟨zBJ λd hd=>by obtain⟨p,_,rfl⟩:=mM0.mp hd;exact(yAL p).1,zBK λd hd=>by obtain⟨p,_,rfl⟩:=mM0.mp hd;exact(yAL p).2.1,zEX λd hd=>by obtain⟨p,_,rfl⟩:=mM0.mp hd;exact(yAL p).2.2⟩
 have b:pdL (rl.map zX)=true/\zEU (rl.map zX)<=4/\smL (rl.map zX)=true:=⟨zBJ λd hd=>by obtain⟨p,hp,rfl⟩:=mM0.mp hd;exact(zVL (hR p hp)).1,zBK λd hd=>by obtain⟨p,hp,rfl⟩:=mM0.mp hd;exact(zVL (hR p hp)).2.1,zEX λd hd=>by obtain⟨p,hp,rfl⟩:=mM0.mp hd;exact(zVL (hR p hp)).2.2⟩
 have c:pdL (rs.map zV)=true/\zEU (rs.map zV)<=2/\smL (rs.map zV)=true:=⟨zBJ λd hd=>by obtain⟨p,hp,rfl⟩:=mM0.mp hd;exact(zQS (hr p hp)).1,zBK λd hd=>by obtain⟨p,hp,rfl⟩:=mM0.mp hd;exact(zQS (hr p hp)).2,zEX λd hd=>by obtain⟨p,hp,rfl⟩:=mM0.mp hd;exact yQJ hT (hr p hp)⟩
 have h4:=hT.2.1
 refine⟨?_,?_,?_⟩
 ·rw [jP,yL,yL,yL,zEV,jP,jP,jP,a.1,b.1,c.1];rfl
 ·rw [wH,yB,yB,yB,cN,wH,wH,wH];omega
 ·rw [zAT,xA,xA,xA,zAT,zAT,zAT,a.2.2,b.2.2,c.2.2,dT0 (show(ts.map tbl).length<1000 by rw [lM0];omega),dT0 (show(rl.map zX).length<1000 by rw [lM0];omega),dT0 (show(rs.map zV).length<1000 by rw [lM0];omega)]
  simp [smL]
end
abbrev L12(q:MV)(ts:List (Int×Int))(hd:Int)(rg:MV)(rs:List (Nat×List MV))(rl:List Rule)(nm k pl pc bl:Option MV):Rho:=[some q,some (.loc 0),some (.tup (ts.map tbl)),some (.int hd),some rg,some (.tup (rs.map zV)),some (xT ts rl rs),nm,k,pl,pc,bl]
section
variable{ts:List (Int×Int)}{rl:List Rule}{rs:List (Nat×List MV)}{q:MV}{hd:Int}{R N:Nat}{nums:List Int}{S:Sto}{pl pc bl:Option MV}
theorem yIO(h:rl≠[])(hb:pd (xT ts rl rs)=true/\dpt (xT ts rl rs)<8)(hR:S[R]? =some (.lst (rl.map zX)))(hN:S[N]? =some (.lst (nums.map MV.int)))(hn:nums.length=4): ∀(ks:List Nat)(k:Option MV), ∃k',
  zDR (gNm 8) zOI [] (ks.map zS) (L12 q ts hd (.loc R) rs rl (some (.loc N)) k pl pc bl) S=.ok (.next (L12 q ts hd (.loc R) rs rl (some (.loc N)) k' pl pc bl)) S
 |[],k=>⟨k,rfl⟩
 |i::ks,k=>by
  obtain⟨k',e⟩:=yIO h hb hR hN hn ks (some (zS i))
  refine⟨k',?_⟩
  have a0:0<=(i:Int) % 3:=eN _ (by decide)
  have a1:(i:Int) % 3<3:=eL _ (by decide)
  have b0:0<=(i:Int) % 4:=eN _ (by decide)
  have b1:(i:Int) % 4<4:=eL _ (by decide)
  obtain⟨j,hj⟩:=eq_ofNat_of_zero_le b0
  have hjl:j<nums.length:=by omega
  have gj:nums[j]? =some (nums[j]'hjl):=gE0 hjl
  generalize nums[j]'hjl=v at gj
  have ix:ixF (.val (.loc N)) (.val (.int ((i:Int) % 4))) S=.ok (.val (.int v)) S:=by
   rw [hj]
   exact SqM.ix (.inr ⟨N,rfl,hN⟩) (yQF (by rw [getElem?_map,gj];rfl))
  have bb:zOI (L12 q ts hd (.loc R) rs rl (some (.loc N)) (some (zS i)) pl pc bl) S=.ok (.next (L12 q ts hd (.loc R) rs rl (some (.loc N)) (some (zS i)) pl pc bl)) S:=by
   unfold zOI zTB
   simp? [show kE (.val (zS i)) (.val (.int 3)) S=.ok (.val (.int ((i:Int) % 3))) S from mod_lit (by decide) _ _,show kE (.val (zS i)) (.val (.int 4)) S=.ok (.val (.int ((i:Int) % 4))) S from mod_lit (by decide) _ _,ix,
    yMC h (show(i:Int) % 3=0\/(i:Int) % 3=1\/(i:Int) % 3=2 by omega),Bool.not_true,fT,iF,nG hR,yMA (S:=S) hb.1 (by omega)]
  rw [map_cons,nO (show gNm 8 (zS i) (L12 q ts hd (.loc R) rs rl (some (.loc N)) k pl pc bl) S=.ok (L12 q ts hd (.loc R) rs rl (some (.loc N)) (some (zS i)) pl pc bl) S from rfl) bb (kR _)]
  exact e
end
section
variable{ts:List (Int×Int)}{rl:List Rule}{rs:List (Nat×List MV)}{q rg:MV}{hd:Int}{nm k pl:Option MV}
theorem yIP: ∀{ls:List MV}{pss:List (List Nat)}(S:Sto),LsAt S ls pss-> ∀(acc:List Nat)(P:Nat)(bl:Option MV),S[P]? =some (.lst (acc.map zS))->acc.length+pss.flatten.length<=1000-> ∃P' G bl',
  zDR (gNm 11) zOJ [] ls (L12 q ts hd rg rs rl nm k pl (some (.loc P)) bl) S=.ok (.next (L12 q ts hd rg rs rl nm k pl (some (.loc P')) bl')) (S++G)/\(S++G)[P']? =some (.lst ((acc++pss.flatten).map zS))
 |_,_,S,.nil,acc,P,bl,hP,_=>⟨P,[],bl,by rw [aN];rfl,by rw [aN,flatten_nil,aN];exact hP⟩
 |_,_,S,.cons (l:=l) (ps:=ps) (ls:=ls) (pss:=pss) h t,acc,P,bl,hP,hz=>by
  rw [flatten_cons,lA]at hz
  have hS:(S++[MO.lst ((acc++ps).map zS)])[S.length]? =some (.lst ((acc++ps).map zS)):=zOO _ _
  obtain⟨P',G,bl',e,hg⟩:=yIP (S++[MO.lst ((acc++ps).map zS)]) t.app (acc++ps) S.length (some (.loc l)) hS (by rw [lA];omega)
  refine⟨P',[MO.lst ((acc++ps).map zS)]++G,bl',?_,?_⟩
  ·have ad:wM (.val (.loc P)) (.val (.loc l)) S=.ok (.new ((acc++ps).map zS)) S:=by
    rw [map_append]
    exact zPS (zOF hP) (zOF h) (fits (by rw [lM0,lM0];omega))
   have hb:zOJ (L12 q ts hd rg rs rl nm k pl (some (.loc P)) (some (.loc l))) S=.ok (.next (L12 q ts hd rg rs rl nm k pl (some (.loc S.length)) (some (.loc l)))) (S++[MO.lst ((acc++ps).map zS)]):=by
    unfold zOJ zTC
    simp? [ad]
   rw [nO (show gNm 11 (.loc l) (L12 q ts hd rg rs rl nm k pl (some (.loc P)) bl) S=.ok (L12 q ts hd rg rs rl nm k pl (some (.loc P)) (some (.loc l))) S from rfl) hb (kR _),e,aA]
  ·rw [<-aA,hg,flatten_cons,aA]
end
theorem eq_nn{S:Sto}{ns:List Int}:eqF (.new (ns.map MV.int)) (.new (ns.map MV.int)) S=.ok (.val (.bl true)) S:=by
 have q:zKT S yE (.new (ns.map MV.int)) (.new (ns.map MV.int))=some true:=by
  unfold zKT
  show(if(ns.map MV.int).length=(ns.map MV.int).length then(prs (eqv S 40) (ns.map MV.int) (ns.map MV.int)).map λbs=>bs.all id else some false)=_
  rw [iP rfl,zQZ λd hd'=>by obtain⟨b,_,rfl⟩:=mM0.mp hd';exact(zOD 39 b b).trans (by rw [dT0 rfl])]
  show some (((ns.map MV.int).map λ_=>true).all id)=_
  rw [zTH]
 unfold eqF
 rw [q]
theorem yIQ(ns:List Int)(h:ns.length<=63): ∃S,zTD [.scr (ns.map MV.int)] []=.ok (.val (.bl true)) S:=by
 have hs:zN yCH [.scr (ns.map MV.int)]=[some (.scr (ns.map MV.int)),none,none,none,none,none,none,none,none,none,none,none]:=rfl
 obtain⟨c0,h0⟩:=zOP ns 0 (by decide) []
 obtain⟨vs,hv,hV,hpool⟩:=yLL c0 []
 obtain⟨c1,h1⟩:=zOP ns 1 (by decide) [.lst vs]
 obtain⟨ts,hT,htab⟩:=yEK c1 [.lst vs]
 obtain⟨hd,h2⟩:=zOP ns 2 (by decide) [.lst vs]
 have hS0:([MO.lst vs]:Sto)[0]? =some (.lst vs):=rfl
 have e1:zUW [some (.scr (ns.map MV.int)),none,none,none,none,none,none,none,none,none,none,none] []=.ok (.next [some (.scr (ns.map MV.int)),some (.loc 0),none,none,none,none,none,none,none,none,none,none]) [.lst vs]:=by
  unfold zUW
  simp? [h0,hpool]
  rfl
 have e2:zUX [some (.scr (ns.map MV.int)),some (.loc 0),none,none,none,none,none,none,none,none,none,none] [.lst vs]=.ok (.next [some (.scr (ns.map MV.int)),some (.loc 0),some (.tup (ts.map tbl)),none,none,none,none,none,none,none,none,none]) [.lst vs]:=by
  unfold zUX
  simp? [h1,htab]
 have e3:zUY [some (.scr (ns.map MV.int)),some (.loc 0),some (.tup (ts.map tbl)),none,none,none,none,none,none,none,none,none] [.lst vs]=.ok (.next [some (.scr (ns.map MV.int)),some (.loc 0),some (.tup (ts.map tbl)),some (.int hd),none,none,none,none,none,none,none,none]) [.lst vs]:=by
  unfold zUY
  simp? [h2]
 have w0:0<=hd % 6:=eN _ (by decide)
 have w1:hd % 6<6:=eL _ (by decide)
 obtain⟨out,q1,q2,q3⟩:=zWX (gf:=gNm 0) (cf:=zTA) (ef:=zMW) (ρb:=[none,some (.scr (ns.map MV.int)),some (.loc 0),some (.tup (ts.map tbl))]) (S:=[.lst vs]) (P:=λy=> ∃r,zFP ts r/\y=zX r) (kR _) (ds:=(List.range (1+hd % 6).toNat).map λk=>.int (k:Nat)) λd hd=>by
  obtain⟨k,hk,rfl⟩:=mM0.mp hd
  obtain⟨c,hc⟩:=zOP ns (3+(k:Nat)) (by omega) [.lst vs]
  obtain⟨r,hr,hcall⟩:=yLN hT c hv hV hS0
  refine⟨[some (.int (k:Nat)),some (.scr (ns.map MV.int)),some (.loc 0),some (.tup (ts.map tbl))],zX r,rfl,rfl,?_,r,hr,rfl⟩
  unfold zMW
  simp? [hc,hcall]
 obtain⟨r0,rfl,hr0⟩:=yIK q3
 rw [lM0,lM0,length_range]at q2
 have e4:zUZ [some (.scr (ns.map MV.int)),some (.loc 0),some (.tup (ts.map tbl)),some (.int hd),none,none,none,none,none,none,none,none] [.lst vs]=.ok (.next [some (.scr (ns.map MV.int)),some (.loc 0),some (.tup (ts.map tbl)),some (.int hd),some (.loc 1),none,none,none,none,none,none,none]) [.lst vs,.lst (r0.map zX)]:=by
  unfold zUZ
  simp? [mod_lit (show(0:Int)<6 by decide),zDT (S:=[.lst vs]) (show -(2 ^ 62)<=1+hd % 6/\1+hd % 6<2 ^ 62 by omega),lM0,length_range,show((1+hd % 6).toNat<1000000)=True from eq_true (by omega),show blk 1 [0,1,2] [some (.scr (ns.map MV.int)),some (.loc 0),some (.tup (ts.map tbl)),some (.int hd),none,none,none,none,none,none,none,none]=[none,some (.scr (ns.map MV.int)),some (.loc 0),some (.tup (ts.map tbl))]from rfl,q1]
  rfl
 obtain⟨S5,R,rl,e5,s0,sR,hR,hrl⟩: ∃(S5:Sto)(R:Nat)(rl:List Rule),zOK [some (.scr (ns.map MV.int)),some (.loc 0),some (.tup (ts.map tbl)),some (.int hd),some (.loc 1),none,none,none,none,none,none,none] [.lst vs,.lst (r0.map zX)]=.ok (.next [some (.scr (ns.map MV.int)),some (.loc 0),some (.tup (ts.map tbl)),some (.int hd),some (.loc R),none,none,none,none,none,none,none]) S5/\
   S5[0]? =some (.lst vs)/\S5[R]? =some (.lst (rl.map zX))/\(∀r∈rl,zFP ts r)/\1<=rl.length/\rl.length<=6:=by
  by_cases hq:hd / 6 % 3=0
  ·obtain⟨ri,hri,hcall⟩:=yLZ hT (hd / 18) [.lst vs,.lst (r0.map zX)]
   refine⟨[.lst vs,.lst (r0.map zX),.lst ([ri].map zX)],2,[ri],?_,rfl,rfl,λr hr=>by rw [mS.mp hr];exact hri,le_refl _,show 1<=6 by decide⟩
   unfold zOK
   simp? [xP (b:=6) (by decide) (by decide),mod_lit (show(0:Int)<3 by decide),dT0 hq,xP (b:=18) (by decide) (by decide),hcall]
   rfl
  ·refine⟨[.lst vs,.lst (r0.map zX)],1,r0,?_,rfl,rfl,hr0,by omega,by omega⟩
   unfold zOK
   simp? [xP (b:=6) (by decide) (by decide),mod_lit (show(0:Int)<3 by decide),dF0 hq,fT,iF]
 have hne:rl≠[]:=λz=>by rw [z]at hrl;simp at hrl
 have hcl:(cF ns (some 9) (some 29)).length<=20:=by
  unfold cF
  rw [lT,length_drop]
  have z1:HT.sIx ns.length 0 (some 9)=min 9 ns.length:=by unfold HT.sIx;simp only;split<;>omega
  have z2:HT.sIx ns.length ns.length (some 29)=min 29 ns.length:=by unfold HT.sIx;simp only;split<;>omega
  rw [z1,z2]
  omega
 have v0:0<=hd / 7 % 6:=eN _ (by decide)
 have v1:hd / 7 % 6<6:=eL _ (by decide)
 obtain⟨rs,hr,hn,hl,hrows⟩:=yLM hT (cF ns (some 9) (some 29)) (by omega) (w:=2+hd / 7 % 6) ⟨by omega,by omega⟩ hv hV s0
 have hl60:rs.length<=60:=by omega
 have e6:zVA [some (.scr (ns.map MV.int)),some (.loc 0),some (.tup (ts.map tbl)),some (.int hd),some (.loc R),none,none,none,none,none,none,none] S5=.ok (.next [some (.scr (ns.map MV.int)),some (.loc 0),some (.tup (ts.map tbl)),some (.int hd),some (.loc R),some (.tup (rs.map zV)),none,none,none,none,none,none]) S5:=by
  unfold zVA
  have hcut:zNX (.val (.scr (ns.map MV.int))) (some 9) (some 29) S5=.ok (.new ((cF ns (some 9) (some 29)).map MV.int)) S5:=by
   rw [<-yHB];rfl
  simp? [hcut,xP (b:=7) (by decide) (by decide),mod_lit (show(0:Int)<6 by decide),hrows]
 have cb:zP 3 bK [.val (.tup (ts.map tbl)),.val (.loc R),.val (.tup (rs.map zV))] S5=.ok (.val (xT ts rl rs)) S5:=yIN (.inl rfl) (.inr ⟨R,rfl,sR⟩) (.inl rfl) hT hR hrl.2 hr hn hl60
 have e7:zVB [some (.scr (ns.map MV.int)),some (.loc 0),some (.tup (ts.map tbl)),some (.int hd),some (.loc R),some (.tup (rs.map zV)),none,none,none,none,none,none] S5=.ok (.next (L12 (.scr (ns.map MV.int)) ts hd (.loc R) rs rl none none none none none)) S5:=by
  unfold zVB
  simp? [cb]
 have p30:zFZ (.val (.int 10)) (.val (.int 30)) S5=.ok (.val (.int (10 ^ 30))) S5:=rfl
 have e8:zVC (L12 (.scr (ns.map MV.int)) ts hd (.loc R) rs rl none none none none none) S5=.ok (.next (L12 (.scr (ns.map MV.int)) ts hd (.loc R) rs rl (some (.loc S5.length)) none none none none)) (S5++[.lst (([0,1, -1,hd % 10 ^ 30]:List Int).map MV.int)]):=by
  unfold zVC
  simp? [p30,mod_lit (show(0:Int)<10 ^ 30 by decide),lst4]
  rfl
 obtain⟨bp,bd,_⟩:=yMD hT hR hrl.2 hr hl60
 generalize hU:S5++[MO.lst (([0,1, -1,hd % 10 ^ 30]:List Int).map MV.int)]=U at *
 have uR:U[R]? =some (.lst (rl.map zX)):=by rw [<-hU];exact yIG sR
 have uN:U[S5.length]? =some (.lst (([0,1, -1,hd % 10 ^ 30]:List Int).map MV.int)):=by rw [<-hU];exact zOO _ _
 obtain⟨k9,z9⟩:=yIO (q:=.scr (ns.map MV.int)) (hd:=hd) (pl:=none) (pc:=none) (bl:=none) hne ⟨bp,bd⟩ uR uN rfl (List.range 6) none
 have e9:zVD (L12 (.scr (ns.map MV.int)) ts hd (.loc R) rs rl (some (.loc S5.length)) none none none none) U=.ok (.next (L12 (.scr (ns.map MV.int)) ts hd (.loc R) rs rl (some (.loc S5.length)) k9 none none none)) U:=by
  unfold zVD
  simp? [zDT (S:=U) (j:=6) (by omega),show(6:Int).toNat=6 from rfl]
  exact z9
 have cb2:zP 3 bK [.val (.tup (ts.map tbl)),.val (.tup []),.val (.tup (rs.map zV))] U=.ok (.val (bkM ts rs)) U:=yIN (rl:=[]) (.inl rfl) (.inl rfl) (.inl rfl) hT (λr hr=>by cases hr) (by decide) hr hn hl60
 have e10:zQM (L12 (.scr (ns.map MV.int)) ts hd (.loc R) rs rl (some (.loc S5.length)) k9 none none none) U=.ok (.next (L12 (.scr (ns.map MV.int)) ts hd (.loc R) rs rl (some (.loc S5.length)) k9 (some (bkM ts rs)) none none)) U:=by
  unfold zQM
  simp? [tup0,cb2]
 obtain⟨S12,ls,b1,b2,b3⟩:=c_blk hT hr hl60 (U++[.lst []])
 have hP:S12[U.length]? =some (.lst (([]:List Nat).map zS)):=b3 _ _ (zOO _ _)
 have hfl:(gp ts rs).flatten.length=rs.length:=by
  have:=(zLR (rs.map (jQ ts)) 0 [] [] rfl).length_eq
  rw [flatten_nil,nil_append,List.length_range',lM0]at this
  exact this
 obtain⟨P',G,bl',z12,g12⟩:=yIP (q:=.scr (ns.map MV.int)) (hd:=hd) (rg:=.loc R) (rs:=rs) (rl:=rl) (ts:=ts) (nm:=some (.loc S5.length)) (k:=k9) (pl:=some (bkM ts rs)) S12 b2 [] U.length none hP (by rw [hfl,length_nil];omega)
 have e12:zQN (L12 (.scr (ns.map MV.int)) ts hd (.loc R) rs rl (some (.loc S5.length)) k9 (some (bkM ts rs)) (some (.loc U.length)) none) (U++[.lst []])=.ok (.next (L12 (.scr (ns.map MV.int)) ts hd (.loc R) rs rl (some (.loc S5.length)) k9 (some (bkM ts rs)) (some (.loc P')) bl')) (S12++G):=by
  unfold zQN
  simp? [b1,show itL (.new ls) S12=.ok ⟨ls,[]⟩ S12 from rfl]
  exact z12
 have so:=yQI g12 (by rw [nil_append,hfl];omega)
 rw [nil_append,yMB,lM0]at so
 have lr:zXB [.val (.int (rs.length:Int))] (S12++G)=.ok (.new (((List.range rs.length).map Int.ofNat).map MV.int)) (S12++G):=by
  have:zXB [.val (.int (rs.length:Int))] (S12++G)=.ok (.new ((yEH (rs.length:Int)).map MV.int)) (S12++G):=iP ⟨by omega,by omega⟩
  rw [this]
  show M.R.ok (Er.new (((List.range ((rs.length:Nat):Int).toNat).map Int.ofNat).map MV.int)) _=_
  rw [toNat_natCast]
 have hd1:decide ((rl.map zX).length=0)=false:=dF0 (by rw [lM0];omega)
 have pf:zP 1 wO [.val (xT ts rl rs)] (S12++G)=.ok (.val (.bl false)) (S12++G):=by rw [zON (rl:=rl.map zX) rfl,hd1]
 have pt:zP 1 wO [.val (bkM ts rs)] (S12++G)=.ok (.val (.bl true)) (S12++G):=zON (rl:=[]) rfl _
 have e13:zQO (L12 (.scr (ns.map MV.int)) ts hd (.loc R) rs rl (some (.loc S5.length)) k9 (some (bkM ts rs)) (some (.loc P')) bl') (S12++G)=.ok (.ret (.val (.bl true))) (S12++G):=by
  unfold zQO
  simp? [pf,pt,show∀S,zZV false (.val (.bl false)) (.val (.bl false)) S=.ok (.val (.bl true)) S from λS=>rfl,show∀S,zZV false (.val (.bl true)) (.val (.bl true)) S=.ok (.val (.bl true)) S from λS=>rfl,zJD,so,dY,lM0,lr,eq_nn]
 refine⟨S12++G,?_⟩
 unfold zTD yMN
 rw [hs,zE e1,zE e2,zE e3,zE e4,zE e5,zE e6,zE e7,zE e8,zE e9,zE e10,zE (show zXE (L12 (.scr (ns.map MV.int)) ts hd (.loc R) rs rl (some (.loc S5.length)) k9 (some (bkM ts rs)) none none) U=.ok (.next (L12 (.scr (ns.map MV.int)) ts hd (.loc R) rs rl (some (.loc S5.length)) k9 (some (bkM ts rs)) (some (.loc U.length)) none)) (U++[.lst []])from rfl),zE e12,e13]
 rfl
section
variable{P:Program}{w:World}{K:PySem.W.Frag}{mg:Str->Option Value}{base:Heap}
abbrev XCS(xl:Nat->Addr):List (Str×Addr):=[("TooGreat",xl 0),("NoText",xl 1),("NoPlace",xl 2),("NotPlain",xl 3),("NoTable",xl 4),("NoRule",xl 5),("NoRow",xl 6),("Twice",xl 7),("NoQuestion",xl 8),("Double",xl 9),("TooWide",xl 10),("Ring",xl 11)]
theorem xnd{xl:Nat->Addr}:((XCS xl).map (·.1)).Nodup:=show XNS.Nodup from by decide
def top(i:Nat):Stmt:=PySem.Challenge.pw_mendsure_k53_books_that_are_not_plain.main.body.getD i (.Pass ⟨0,0,0,0⟩)
abbrev zKD:Stmt:=top 2
theorem zXU:FnScope ["thing"] ["thing"] (zH zKD):=fsK (by decide+kernel)
theorem zXV(D:DefM K mg "is_whole" zKD)(zYO:mg "int"=none)(zI:mg "isinstance"=none)(zRN:mg "bool"=none):(CalM P w K mg base) "is_whole" 1 1 ["thing"] wN:=
 by have h:=okC (P:=P) (w:=w) (base:=base) D (λ_ _ _ _ _ _ us hl=>match us,hl with |[_],_=>rfl) λf fd F=>okM (k:=0) _ F zXU λcdv A outer s H E hr=>(zK (zR (hX (zO zGB zPN rfl zI kW (zA (zB 0) (zA (zWN rfl zYO yOP) zC))) (cT (yOF (zO zGB zPN rfl zI kW (zA (zB 0) (zA (zWN rfl zRN yKG) zC))))))))
    exact h
abbrev zIJ:Stmt:=top 3
theorem yAM:FnScope ["thing"] ["thing"] (zH zIJ):=fsK (by decide+kernel)
theorem yAN(D:DefM K mg "is_name" zIJ)(zYQ:mg "str"=none)(zI:mg "isinstance"=none)(yG:mg "len"=none){zAZ:Tok}(kO:mg "MOST_LETTERS"=some (.int 8 zAZ))(zDL:mg "all"=none):(CalM P w K mg base) "is_name" 1 1 ["thing"] zID:=
 by have h:=okC (P:=P) (w:=w) (base:=base) D (λ_ _ _ _ _ _ us hl=>match us,hl with |[_],_=>rfl) λf fd F=>okM (k:=0) _ F yAM λcdv A outer s H E hr=>(zF (xY (zIQ (zFX (kB (yT (zO zGB zPN rfl zI kW (zA (zB 0) (zA (zWN rfl zYQ yOQ) zC))))) (zBN (kB (yKB zD (zO zZ xC rfl yG xD (zA (zB 0) zC)) (zDQ rfl kO)))))) (zK (zR nM)) yQ) (zK (zR (zO hW (zPM rfl) rfl zDL zPO (zA (dQ (zH zIJ) ["thing"] ["sign"] [] (yOG (zB 0)) rfl (λ_ _ _ _ hN=>(bV 0 hN)) (λ_ _ _ _=>bW) (λ_ _ _ _=>(zUL (xW [97]) (zB 0) (xW [122])))) zC)))))
    exact h
abbrev zKE:Stmt:=top 4
theorem zXW:FnScope ["thing"] ["thing"] (zH zKE):=fsK (by decide+kernel)
theorem zXX(D:DefM K mg "is_value" zKE)(zAY:(CalM P w K mg base) "is_whole" 1 1 ["thing"] wN)(zYN:mg "abs"=none)(yEZ:(CalM P w K mg base) "is_name" 1 1 ["thing"] zID):(CalM P w K mg base) "is_value" 2 1 ["thing"] bC:=
 by have h:=okC (P:=P) (w:=w) (base:=base) D (λ_ _ _ _ _ _ us hl=>match us,hl with |[_],_=>rfl) λf fd F=>okM (k:=1) _ F zXW λcdv A outer s H E hr=>(zF (xY (yT (zG zAY (hr.mono (by decide)) rfl (zA (zB 0) zC))) (zK (zR (pm_lt hr.units (zO yFN yON rfl zYN yOO (zA (zB 0) zC)) (zDS zD zD)))) yQ) (zK (zR (zG yEZ (hr.mono (by decide)) rfl (zA (zB 0) zC)))))
    exact h
abbrev zRA:Stmt:=top 6
theorem yER:FnScope ["tables","row"] ["tables","row"] (zH zRA):=fsK (by decide+kernel)
theorem yES(D:DefM K mg "key_of" zRA):(CalM P w K mg base) "key_of" 1 2 ["tables","row"] zLE:=
 by have h:=okC (P:=P) (w:=w) (base:=base) D (λ_ _ _ _ _ _ us hl=>match us,hl with |[_,_],_=>rfl) λf fd F=>okM (k:=0) _ F yER λcdv A outer s H E hr=>(zK (zR (xZ (zA (zW (zB 1) zD) (zA (zMM (zW (zB 1) zD) zUE (dO (zW (zW (zB 0) (zW (zB 1) zD)) zD))) zC)))))
    exact h
abbrev zKF:Stmt:=top 22
theorem zXY:FnScope ["book"] ["book"] (zH zKF):=fsK (by decide+kernel)
theorem zXZ(D:DefM K mg "is_plain" zKF)(yG:mg "len"=none):(CalM P w K mg base) "is_plain" 1 1 ["book"] wO:=
 by have h:=okC (P:=P) (w:=w) (base:=base) D (λ_ _ _ _ _ _ us hl=>match us,hl with |[_],_=>rfl) λf fd F=>okM (k:=0) _ F zXY λcdv A outer s H E hr=>(zK (zR (zPJ hr.units (zO zZ xC rfl yG xD (zA (zW (zB 0) zD) zC)) zD)))
    exact h
abbrev zRB:Stmt:=top 23
theorem zIK:FnScope zQE ["book"] (zH zRB):=fsK (by decide+kernel)
theorem yET(D:DefM K mg "blocks" zRB){xM:Addr}{xl:Nat->Addr}(XT:XTab K mg xM (XCS xl))(zFD:(CalM P w K mg base) "is_plain" 1 1 ["book"] wO)(x_NotPlain:XCl K (xl 3) (.ref xM::bmV) none)(yZ:mg "enumerate"=none)(yIU:(CalM P w K mg base) "key_of" 1 2 ["tables","row"] zLE)(zKP:mg "list"=none):(yHP P w K mg base) "blocks" 2 1 ["book"] wW:=
 by have h:=okCX (P:=P) (w:=w) (base:=base) D (λ_ _ _ _ _ _ us hl=>match us,hl with |[_],_=>rfl) λf fd F=>okX (k:=1) _ F zIK λcdv A outer s H E hr=>(zF (xY (kB (yT (zG zFD (hr.mono (by decide)) rfl (zA (zB 0) zC)))) (zK (yEA zZE rfl (XT.each.at t3M).1 x_NotPlain XT.mc (zA (xW [97,32,98,111,111,107,32,119,105,116,104,32,114,117,108,101,115,32,104,97,115,32,110,111,32,98,108,111,99,107,115]) zC))) yQ) (zF (zM 1 zIK.nd zWY) (zF (gB PassesOwn.leaving rfl (zKZ rfl yZ (zA (zW (zB 0) zD) zC)) (zMK (n:=2) rfl (jF (xI 2 zIK.nd) (jF (xI 3 zIK.nd) zMJ))) (zK (dP (zDC (pm_sd hr.units (zB 1) (zA (zG yIU (hr.mono (by decide)) rfl (zA (zW (zB 0) zD) (zA (zB 3) zC))) (zA (xN zC) zC))) (zA (zB 2) zC))))) (zK (zR (yHM rfl rfl zKP (zB 1)))))))
    exact h
abbrev bT:Stmt:=top 24
theorem gQ:FnScope ["book","many","block"] ["book"] (zH bT):=fsK (by decide+kernel)
theorem zLS(D:DefM K mg "many_by_blocks" bT)(zHV:(yHP P w K mg base) "blocks" 2 1 ["book"] wW):(yHP P w K mg base) "many_by_blocks" 3 1 ["book"] xV:=
 by have h:=okCX (P:=P) (w:=w) (base:=base) D (λ_ _ _ _ _ _ us hl=>match us,hl with |[_],_=>rfl) λf fd F=>okX (k:=2) _ F gQ λcdv A outer s H E hr=>(zF (zM 1 gQ.nd zD) (zF (gB PassesOwn.leaving rfl (zUG (zSZ zZE zHV (hr.mono (by decide)) rfl (zA (zB 0) zC))) (xI 2 gQ.nd) (zK wU)) (zK (zR (zB 1)))))
    exact h
abbrev zRC:Stmt:=top 25
theorem zTJ:FnScope zXC ["book","number"] (zH zRC):=fsK (by decide+kernel)
theorem yEU(D:DefM K mg "chosen" zRC)(bU:(yHP P w K mg base) "many_by_blocks" 3 1 ["book"] xV):(yHP P w K mg base) "chosen" 4 2 ["book","number"] zLH:=
 by have h:=okCX (P:=P) (w:=w) (base:=base) D (λ_ _ _ _ _ _ us hl=>match us,hl with |[_,_],_=>rfl) λf fd F=>okX (k:=3) _ F zTJ λcdv A outer s H E hr=>(zF (zM 2 zTJ.nd (zSZ zZE bU (hr.mono (by decide)) rfl (zA (zB 0) zC))) (zF wU (zF wU (zF wU (zF wU (zK wU))))))
    exact h
abbrev zKG:Stmt:=top 34
theorem zYA:FnScope wE wE (zH zKG):=fsK (by decide+kernel)
theorem zYB(D:DefM K mg "is_tuple" zKG)(yP:mg "tuple"=none)(zI:mg "isinstance"=none)(yG:mg "len"=none):(CalM P w K mg base) "is_tuple" 1 3 wE yD:=
 by have h:=okC (P:=P) (w:=w) (base:=base) D (λ_ _ _ _ _ _ us hl=>match us,hl with |[_,_,_],_=>rfl) λf fd F=>okM (k:=0) _ F zYA λcdv A outer s H E hr=>(zK (zR (hX (zO zGB zPN rfl zI kW (zA (zB 0) (zA (zWN rfl yP wV) zC))) (cT (zUL (zB 1) (zO zZ xC rfl yG xD (zA (zB 0) zC)) (zB 2))))))
    exact h
abbrev gR:Stmt:=top 35
theorem zKH:FnScope ["thing","bound"] ["thing","bound"] (zH gR):=fsK (by decide+kernel)
theorem zKI(D:DefM K mg "is_number_below" gR)(zAY:(CalM P w K mg base) "is_whole" 1 1 ["thing"] wN):(CalM P w K mg base) "is_number_below" 2 2 ["thing","bound"] zL:=
 by have h:=okC (P:=P) (w:=w) (base:=base) D (λ_ _ _ _ _ _ us hl=>match us,hl with |[_,_],_=>rfl) λf fd F=>okM (k:=1) _ F zKH λcdv A outer s H E hr=>(zK (zR (hX (zG zAY (hr.mono (by decide)) rfl (zA (zB 0) zC)) (cT (yKC hr.units zD (zB 0) (zB 1))))))
    exact h
abbrev zKJ:Stmt:=top 36
theorem zNT:FnScope ["thing","wide"] ["thing"] (zH zKJ):=fsK (by decide+kernel)
theorem zYC(D:DefM K mg "is_table" zKJ)(xE:(CalM P w K mg base) "is_tuple" 1 3 wE yD)(zAY:(CalM P w K mg base) "is_whole" 1 1 ["thing"] wN){zHU:Tok}(cR:mg "MOST_WIDE"=some (.int 4 zHU))(zT:(CalM P w K mg base) "is_number_below" 2 2 ["thing","bound"] zL):(CalM P w K mg base) "is_table" 3 1 ["thing"] zEA:=
 by have h:=okC (P:=P) (w:=w) (base:=base) D (λ_ _ _ _ _ _ us hl=>match us,hl with |[_],_=>rfl) λf fd F=>okM (k:=2) _ F zNT λcdv A outer s H E hr=>(zF (xY (zIQ (zFX (kB (yT (zG xE (hr.mono (by decide)) rfl (zA (zB 0) (zA zD (zA zD zC)))))) (zBN (kB (yT (zG zAY (hr.mono (by decide)) rfl (zA (zW (zB 0) zD) zC))))))) (zK (zR nM)) yQ) (zF (zM 1 zNT.nd (zW (zB 0) zD)) (zK (zR (hX (zUL zD (zB 1) (zDQ rfl cR)) (cT (zG zT (hr.mono (by decide)) rfl (zA (zW (zB 0) zD) (zA (yO (zB 1) zD) zC)))))))))
    exact h
abbrev zNA:Stmt:=top 37
theorem yAO:FnScope ["thing","wides"] ["thing","wides"] (zH zNA):=fsK (by decide+kernel)
theorem yAP(D:DefM K mg "is_side" zNA)(xE:(CalM P w K mg base) "is_tuple" 1 3 wE yD)(zKQ:(CalM P w K mg base) "is_value" 2 1 ["thing"] bC)(zT:(CalM P w K mg base) "is_number_below" 2 2 ["thing","bound"] zL)(yG:mg "len"=none):(CalM P w K mg base) "is_side" 3 2 ["thing","wides"] zDI:=
 by have h:=okC (P:=P) (w:=w) (base:=base) D (λ_ _ _ _ _ _ us hl=>match us,hl with |[_,_],_=>rfl) λf fd F=>okM (k:=2) _ F yAO λcdv A outer s H E hr=>(zF (xY (yT (zG xE (hr.mono (by decide)) rfl (zA (zB 0) (zA zD (zA zD zC))))) (zK (zR (hX (zPJ hr.units (zW (zB 0) zD) (xW [105,115])) (cT (zG zKQ (hr.mono (by decide)) rfl (zA (zW (zB 0) zD) zC)))))) yQ) (zF (xY (zIQ (zFX (kB (yT (zG xE (hr.mono (by decide)) rfl (zA (zB 0) (zA zD (zA zD zC)))))) (zBN (zWQ hr.units (zW (zB 0) zD) (xW [99,101,108,108]))))) (zK (zR nM)) yQ) (zK (zR (hX (zG zT (hr.mono (by decide)) rfl (zA (zW (zB 0) zD) (zA (zO zZ xC rfl yG xD (zA (zB 1) zC)) zC))) (cT (zG zT (hr.mono (by decide)) rfl (zA (zW (zB 0) zD) (zA (zW (zB 1) (zW (zB 0) zD)) zC)))))))))
    exact h
abbrev zNB:Stmt:=top 38
theorem yAQ:FnScope ["thing","wides"] ["thing","wides"] (zH zNB):=fsK (by decide+kernel)
theorem yAR(D:DefM K mg "is_test" zNB)(xE:(CalM P w K mg base) "is_tuple" 1 3 wE yD)(zTM:(CalM P w K mg base) "is_side" 3 2 ["thing","wides"] zDI)(zLX:GTup K mg "WORDS" [.str [115,97,109,101],.str [117,110,108,105,107,101],.str [108,101,115,115]]):(CalM P w K mg base) "is_test" 4 2 ["thing","wides"] zIE:=
 by have h:=okC (P:=P) (w:=w) (base:=base) D (λ_ _ _ _ _ _ us hl=>match us,hl with |[_,_],_=>rfl) λf fd F=>okM (k:=3) _ F yAQ λcdv A outer s H E hr=>(zF (xY (kB (yT (zG xE (hr.mono (by decide)) rfl (zA (zB 0) (zA zD (zA zD zC)))))) (zK (zR nM)) yQ) (zK (zR (hX (zG zTM (hr.mono (by decide)) rfl (zA (zW (zB 0) zD) (zA (zB 1) zC))) (hX (pm_in hr.units (zW (zB 0) zD) (yLC (ds:=[.str [115,97,109,101],.str [117,110,108,105,107,101],.str [108,101,115,115]]) rfl zLX)) (cT (zG zTM (hr.mono (by decide)) rfl (zA (zW (zB 0) zD) (zA (zB 1) zC)))))))))
    exact h
abbrev zBL:Stmt:=top 39
theorem zVM:FnScope ["thing","wides"] ["thing","wides"] (zH zBL):=fsK (by decide+kernel)
theorem zVN(D:DefM K mg "are_tests" zBL)(xE:(CalM P w K mg base) "is_tuple" 1 3 wE yD){zFC:Tok}(gW:mg "MOST_TESTS"=some (.int 3 zFC))(yEX:(CalM P w K mg base) "is_test" 4 2 ["thing","wides"] zIE)(zDL:mg "all"=none):(CalM P w K mg base) "are_tests" 5 2 ["thing","wides"] kI:=
 by have h:=okC (P:=P) (w:=w) (base:=base) D (λ_ _ _ _ _ _ us hl=>match us,hl with |[_,_],_=>rfl) λf fd F=>okM (k:=4) _ F zVM λcdv A outer s H E hr=>(zK (zR (hX (zG xE (hr.mono (by decide)) rfl (zA (zB 0) (zA zD (zA (zDQ rfl gW) zC)))) (cT (zO hW (zPM rfl) rfl zDL zPO (zA (dQ (zH zBL) ["thing","wides"] ["part"] [1] (zML (zB 0)) rfl (λ_ _ _ _ hN=>(bV 0 hN)) (λ_ _ _ _=>bW) (λ_ _ _ _=>(zG yEX (hr.mono (by decide)) rfl (zA (zB 0) (zA (zB 1) zC))))) zC))))))
    exact h
abbrev cE:Stmt:=top 40
theorem zRD:FnScope ["thing","wide"] ["thing","wide"] (zH cE):=fsK (by decide+kernel)
theorem zRE(D:DefM K mg "are_columns" cE)(xE:(CalM P w K mg base) "is_tuple" 1 3 wE yD){zHR:Tok}(cP:mg "MOST_TIED"=some (.int 3 zHR))(zT:(CalM P w K mg base) "is_number_below" 2 2 ["thing","bound"] zL)(zDL:mg "all"=none):(CalM P w K mg base) "are_columns" 3 2 ["thing","wide"] bY:=
 by have h:=okC (P:=P) (w:=w) (base:=base) D (λ_ _ _ _ _ _ us hl=>match us,hl with |[_,_],_=>rfl) λf fd F=>okM (k:=2) _ F zRD λcdv A outer s H E hr=>(zK (zR (hX (zG xE (hr.mono (by decide)) rfl (zA (zB 0) (zA zD (zA (zDQ rfl cP) zC)))) (cT (zO hW (zPM rfl) rfl zDL zPO (zA (dQ (zH cE) ["thing","wide"] ["part"] [1] (zML (zB 0)) rfl (λ_ _ _ _ hN=>(bV 0 hN)) (λ_ _ _ _=>bW) (λ_ _ _ _=>(zG zT (hr.mono (by decide)) rfl (zA (zB 0) (zA (zB 1) zC))))) zC))))))
    exact h
abbrev zKK:Stmt:=top 41
theorem zYD:FnScope ["rule","tables"] ["rule","tables"] (zH zKK):=fsK (by decide+kernel)
theorem zYE(D:DefM K mg "is_never" zKK)(yG:mg "len"=none)(zT:(CalM P w K mg base) "is_number_below" 2 2 ["thing","bound"] zL)(zHT:(CalM P w K mg base) "are_tests" 5 2 ["thing","wides"] kI):(CalM P w K mg base) "is_never" 6 2 ["rule","tables"] zED:=
 by have h:=okC (P:=P) (w:=w) (base:=base) D (λ_ _ _ _ _ _ us hl=>match us,hl with |[_,_],_=>rfl) λf fd F=>okM (k:=5) _ F zYD λcdv A outer s H E hr=>(zF (xY (zIQ (zFX (zWQ hr.units (zO zZ xC rfl yG xD (zA (zB 0) zC)) zD) (zBN (kB (yT (zG zT (hr.mono (by decide)) rfl (zA (zW (zB 0) zD) (zA (zO zZ xC rfl yG xD (zA (zB 1) zC)) zC)))))))) (zK (zR nM)) yQ) (zK (zR (zG zHT (hr.mono (by decide)) rfl (zA (zW (zB 0) zD) (zA (xN (zA (zW (zW (zB 1) (zW (zB 0) zD)) zD) zC)) zC))))))
    exact h
abbrev zAU:Stmt:=top 42
theorem zYF:FnScope ["rule","tables"] ["rule","tables"] (zH zAU):=fsK (by decide+kernel)
theorem zYG(D:DefM K mg "is_apart" zAU)(yG:mg "len"=none)(zT:(CalM P w K mg base) "is_number_below" 2 2 ["thing","bound"] zL)(zDL:mg "all"=none)(zHT:(CalM P w K mg base) "are_tests" 5 2 ["thing","wides"] kI):(CalM P w K mg base) "is_apart" 6 2 ["rule","tables"] zEG:=
 by have h:=okC (P:=P) (w:=w) (base:=base) D (λ_ _ _ _ _ _ us hl=>match us,hl with |[_,_],_=>rfl) λf fd F=>okM (k:=5) _ F zYF λcdv A outer s H E hr=>(zF (xY (zIQ (zFX (zWQ hr.units (zO zZ xC rfl yG xD (zA (zB 0) zC)) zD) (zBN (kB (yT (zO hW (zPM rfl) rfl zDL zPO (zA (dQ (zH zAU) ["rule","tables"] ["part"] [1] (zML (zMM (zB 0) (dO zD) (dO zD))) rfl (λ_ _ _ _ hN=>(bV 0 hN)) (λ_ _ _ _=>bW) (λ_ _ _ _=>(zG zT (hr.mono (by decide)) rfl (zA (zB 0) (zA (zO zZ xC rfl yG xD (zA (zB 1) zC)) zC))))) zC))))))) (zK (zR nM)) yQ) (zK (zR (zG zHT (hr.mono (by decide)) rfl (zA (zW (zB 0) zD) (zA (dQ (zH zAU) ["rule","tables"] ["part"] [1] (zML (zMM (zB 0) (dO zD) (dO zD))) rfl (λ_ _ _ _ hN=>(bV 0 hN)) (λ_ _ _ _=>bW) (λ_ _ _ _=>(zW (zW (zB 1) (zB 0)) zD))) zC))))))
    exact h
abbrev zRF:Stmt:=top 43
theorem zNC:FnScope zXD ["rule","tables"] (zH zRF):=fsK (by decide+kernel)
theorem yEV(D:DefM K mg "is_tie" zRF)(yG:mg "len"=none)(zT:(CalM P w K mg base) "is_number_below" 2 2 ["thing","bound"] zL)(zSD:(CalM P w K mg base) "are_columns" 3 2 ["thing","wide"] bY):(CalM P w K mg base) "is_tie" 4 2 ["rule","tables"] zLK:=
 by have h:=okC (P:=P) (w:=w) (base:=base) D (λ_ _ _ _ _ _ us hl=>match us,hl with |[_,_],_=>rfl) λf fd F=>okM (k:=3) _ F zNC λcdv A outer s H E hr=>(zF (xY (zWQ hr.units (zO zZ xC rfl yG xD (zA (zB 0) zC)) zD) (zK (zR nM)) yQ) (zF (gB PassesOwn.never rfl (zML (xZ (zA (xZ (zA (zW (zB 0) zD) (zA (zW (zB 0) zD) zC))) (zA (xZ (zA (zW (zB 0) zD) (zA (zW (zB 0) zD) zC))) zC)))) (zMK (n:=2) rfl (jF (xI 2 zNC.nd) (jF (xI 3 zNC.nd) zMJ))) (zK (xY (zIQ (zFX (kB (yT (zG zT (hr.mono (by decide)) rfl (zA (zB 2) (zA (zO zZ xC rfl yG xD (zA (zB 1) zC)) zC))))) (zBN (kB (yT (zG zSD (hr.mono (by decide)) rfl (zA (zB 3) (zA (zW (zW (zB 1) (zB 2)) zD) zC)))))))) (zK (zR nM)) yQ))) (zK (zR (zPJ hr.units (zO zZ xC rfl yG xD (zA (zW (zB 0) zD) zC)) (zO zZ xC rfl yG xD (zA (zW (zB 0) zD) zC)))))))
    exact h
abbrev zND:Stmt:=top 44
theorem yAS:FnScope ["thing","tables"] ["thing","tables"] (zH zND):=fsK (by decide+kernel)
theorem yAT(D:DefM K mg "is_rule" zND)(yP:mg "tuple"=none)(zI:mg "isinstance"=none)(yG:mg "len"=none)(yAY:(CalM P w K mg base) "is_never" 6 2 ["rule","tables"] zED)(yAW:(CalM P w K mg base) "is_apart" 6 2 ["rule","tables"] zEG)(yIT:(CalM P w K mg base) "is_tie" 4 2 ["rule","tables"] zLK):(CalM P w K mg base) "is_rule" 7 2 ["thing","tables"] zIF:=
 by have h:=okC (P:=P) (w:=w) (base:=base) D (λ_ _ _ _ _ _ us hl=>match us,hl with |[_,_],_=>rfl) λf fd F=>okM (k:=6) _ F yAS λcdv A outer s H E hr=>(zF (xY (zIQ (zFX (kB (yT (zO zGB zPN rfl zI kW (zA (zB 0) (zA (zWN rfl yP wV) zC))))) (zBN (zGA hr.units (zO zZ xC rfl yG xD (zA (zB 0) zC)) zD)))) (zK (zR nM)) yQ) (zF (xY (zGA hr.units (zW (zB 0) zD) (xW [110,101,118,101,114])) (zK (zR (zG yAY (hr.mono (by decide)) rfl (zA (zB 0) (zA (zB 1) zC))))) yQ) (zF (xY (zGA hr.units (zW (zB 0) zD) (xW [97,112,97,114,116])) (zK (zR (zG yAW (hr.mono (by decide)) rfl (zA (zB 0) (zA (zB 1) zC))))) yQ) (zK (zR (hX (zPJ hr.units (zW (zB 0) zD) (xW [116,105,101])) (cT (zG yIT (hr.mono (by decide)) rfl (zA (zB 0) (zA (zB 1) zC))))))))))
    exact h
abbrev zLT:Stmt:=top 45
theorem zTK:FnScope zQF ["thing","tables"] (zH zLT):=fsK (by decide+kernel)
theorem yEW(D:DefM K mg "is_row" zLT)(xE:(CalM P w K mg base) "is_tuple" 1 3 wE yD)(zT:(CalM P w K mg base) "is_number_below" 2 2 ["thing","bound"] zL)(yG:mg "len"=none)(zKQ:(CalM P w K mg base) "is_value" 2 1 ["thing"] bC)(zDL:mg "all"=none):(CalM P w K mg base) "is_row" 3 2 ["thing","tables"] zLM:=
 by have h:=okC (P:=P) (w:=w) (base:=base) D (λ_ _ _ _ _ _ us hl=>match us,hl with |[_,_],_=>rfl) λf fd F=>okM (k:=2) _ F zTK λcdv A outer s H E hr=>(zF (xY (zIQ (zFX (kB (yT (zG xE (hr.mono (by decide)) rfl (zA (zB 0) (zA zD (zA zD zC)))))) (zBN (kB (yT (zG zT (hr.mono (by decide)) rfl (zA (zW (zB 0) zD) (zA (zO zZ xC rfl yG xD (zA (zB 1) zC)) zC)))))))) (zK (zR nM)) yQ) (zF (zM 2 zTK.nd (zW (zW (zB 1) (zW (zB 0) zD)) zD)) (zK (zR (hX (zG xE (hr.mono (by decide)) rfl (zA (zW (zB 0) zD) (zA (zB 2) (zA (zB 2) zC)))) (cT (zO hW (zPM rfl) rfl zDL zPO (zA (dQ (zH zLT) zQF ["cell"] [] (zML (zW (zB 0) zD)) rfl (λ_ _ _ _ hN=>(bV 0 hN)) (λ_ _ _ _=>bW) (λ_ _ _ _=>(zG zKQ (hr.mono (by decide)) rfl (zA (zB 0) zC)))) zC))))))))
    exact h
abbrev zCU:Stmt:=top 46
theorem zRG:FnScope yS yS (zH zCU):=fsK (by decide+kernel)
theorem zRH(D:DefM K mg "check_sizes" zCU)(yG:mg "len"=none){zCX:Tok}(jC:mg "MOST_TABLES"=some (.int 4 zCX)){zFB:Tok}(gV:mg "MOST_RULES"=some (.int 6 zFB)){zHQ:Tok}(cQ:mg "MOST_ROWS"=some (.int 60 zHQ)):(CalM P w K mg base) "check_sizes" 1 3 yS bZ:=
 by have h:=okC (P:=P) (w:=w) (base:=base) D (λ_ _ _ _ _ _ us hl=>match us,hl with |[_,_,_],_=>rfl) λf fd F=>okM (k:=0) _ F zRG λcdv A outer s H E hr=>(zK (xY (zIQ (zFX (yGN (zO zZ xC rfl yG xD (zA (zB 0) zC)) (zDQ rfl jC)) (zFX (yGN (zO zZ xC rfl yG xD (zA (zB 1) zC)) (zDQ rfl gV)) (zBN (yGN (zO zZ xC rfl yG xD (zA (zB 2) zC)) (zDQ rfl cQ)))))) (zK wU) yQ))
    exact h
abbrev zAV:Stmt:=top 47
theorem dH:FnScope zGH ["tables"] (zH zAV):=fsK (by decide+kernel)
theorem zNY(D:DefM K mg "check_tables" zAV)(yG:mg "len"=none)(yZ:mg "enumerate"=none)(yBA:(CalM P w K mg base) "is_table" 3 1 ["thing"] zEA):(CalM P w K mg base) "check_tables" 4 1 ["tables"] gG:=
 by have h:=okC (P:=P) (w:=w) (base:=base) D (λ_ _ _ _ _ _ us hl=>match us,hl with |[_],_=>rfl) λf fd F=>okM (k:=3) _ F dH λcdv A outer s H E hr=>(zF (xY (zGA hr.units (zO zZ xC rfl yG xD (zA (zB 0) zC)) zD) (zK wU) yQ) (zK (gB PassesOwn.never rfl (zKZ rfl yZ (zA (zB 0) zC)) (zMK (n:=2) rfl (jF (xI 1 dH.nd) (jF (xI 2 dH.nd) zMJ))) (zK (xY (kB (yT (zG yBA (hr.mono (by decide)) rfl (zA (zB 2) zC)))) (zK wU) yQ)))))
    exact h
abbrev zCV:Stmt:=top 48
theorem zAW:FnScope zIT ["tables","rules"] (zH zCV):=fsK (by decide+kernel)
theorem zRI(D:DefM K mg "check_rules" zCV)(yZ:mg "enumerate"=none)(yEY:(CalM P w K mg base) "is_rule" 7 2 ["thing","tables"] zIF):(CalM P w K mg base) "check_rules" 8 2 ["tables","rules"] cA:=
 by have h:=okC (P:=P) (w:=w) (base:=base) D (λ_ _ _ _ _ _ us hl=>match us,hl with |[_,_],_=>rfl) λf fd F=>okM (k:=7) _ F zAW λcdv A outer s H E hr=>(zK (gB PassesOwn.never rfl (zKZ rfl yZ (zA (zB 1) zC)) (zMK (n:=2) rfl (jF (xI 2 zAW.nd) (jF (xI 3 zAW.nd) zMJ))) (zK (xY (kB (yT (zG yEY (hr.mono (by decide)) rfl (zA (zB 3) (zA (zB 0) zC))))) (zK wU) yQ))))
    exact h
abbrev zEY:Stmt:=top 49
theorem kA:FnScope zLB ["tables","rows"] (zH zEY):=fsK (by decide+kernel)
theorem zSA(D:DefM K mg "check_rows" zEY)(yZ:mg "enumerate"=none)(yIS:(CalM P w K mg base) "is_row" 3 2 ["thing","tables"] zLM):(CalM P w K mg base) "check_rows" 4 2 ["tables","rows"] dW:=
 by have h:=okC (P:=P) (w:=w) (base:=base) D (λ_ _ _ _ _ _ us hl=>match us,hl with |[_,_],_=>rfl) λf fd F=>okM (k:=3) _ F kA λcdv A outer s H E hr=>(zF (gB PassesOwn.never rfl (zKZ rfl yZ (zA (zB 1) zC)) (zMK (n:=2) rfl (jF (xI 2 kA.nd) (jF (xI 3 kA.nd) zMJ))) (zK (xY (kB (yT (zG yIS (hr.mono (by decide)) rfl (zA (zB 3) (zA (zB 0) zC))))) (zK wU) yQ))) (zF (zM 4 kA.nd zWY) (zK (gB PassesOwn.never rfl (zKZ rfl yZ (zA (zB 1) zC)) (zMK (n:=2) rfl (jF (xI 2 kA.nd) (jF (xI 3 kA.nd) zMJ))) (zF (xY (yPJ hr.units (zB 3) (zB 4)) (zK wU) yQ) (zK (yGE nM (yLB hr.units (zB 4) (zB 3)))))))))
    exact h
abbrev zNE:Stmt:=top 50
theorem yAU:FnScope yS yS (zH zNE):=fsK (by decide+kernel)
theorem yAV(D:DefM K mg "book_of" zNE)(zSF:(CalM P w K mg base) "check_sizes" 1 3 yS bZ)(zRP:(CalM P w K mg base) "check_tables" 4 1 ["tables"] gG)(zSE:(CalM P w K mg base) "check_rules" 8 2 ["tables","rules"] cA)(zVY:(CalM P w K mg base) "check_rows" 4 2 ["tables","rows"] dW)(yP:mg "tuple"=none):(CalM P w K mg base) "book_of" 9 3 yS bK:=
 by have h:=okC (P:=P) (w:=w) (base:=base) D (λ_ _ _ _ _ _ us hl=>match us,hl with |[_,_,_],_=>rfl) λf fd F=>okM (k:=8) _ F yAU λcdv A outer s H E hr=>(zF (dP (zG zSF (hr.mono (by decide)) rfl (zA (zB 0) (zA (zB 1) (zA (zB 2) zC))))) (zF (dP (zG zRP (hr.mono (by decide)) rfl (zA (zB 0) zC))) (zF (dP (zG zSE (hr.mono (by decide)) rfl (zA (zB 0) (zA (zB 1) zC)))) (zF (dP (zG zVY (hr.mono (by decide)) rfl (zA (zB 0) (zA (zB 2) zC)))) (zK (zR (xZ (zA (wY yR kU rfl yP wV (zA (zB 0) zC)) (zA (wY yR kU rfl yP wV (zA (zB 1) zC)) (zA (wY yR kU rfl yP wV (zA (zB 2) zC)) zC))))))))))
    exact h
abbrev zAX:Stmt:=top 52
theorem zNZ:FnScope ["_law_script","_law_k"] ["_law_script","_law_k"] (zH zAX):=fsK (by decide+kernel)
theorem zOA(D:DefM K mg "_law_cell_at" zAX)(yG:mg "len"=none):(CalM P w K mg base) "_law_cell_at" 1 2 ["_law_script","_law_k"] yK:=
 by have h:=okC (P:=P) (w:=w) (base:=base) D (λ_ _ _ _ _ _ us hl=>match us,hl with |[_,_],_=>rfl) λf fd F=>okM (k:=0) _ F zNZ λcdv A outer s H E hr=>(zF (xY (yML hr.units (zB 1) (zO zZ xC rfl yG xD (zA (zB 0) zC))) (zK (zR (zW (zB 0) (zB 1)))) yQ) (zK (zR zD)))
    exact h
abbrev zKL:Stmt:=top 53
theorem zNU:FnScope zJG ["_law_cell","_law_prime"] (zH zKL):=fsK (by decide+kernel)
theorem zYH(D:DefM K mg "_law_mix" zKL):(CalM P w K mg base) "_law_mix" 1 2 ["_law_cell","_law_prime"] yV:=
 by have h:=okC (P:=P) (w:=w) (base:=base) D (λ_ _ _ _ _ _ us hl=>match us,hl with |[_,_],_=>rfl) λf fd F=>okM (k:=0) _ F zNU λcdv A outer s H E hr=>(zF (xY (zGA hr.units (yN (zB 0) zD) zD) (zK (zR (yN (wK (zB 0) zD) (zDS (zDS zD zD) zD)))) yQ) (zF (zM 2 zNU.nd (yN (zPI (yO (yN (zB 0) zD) zD) zD) (zB 1))) (zK (zR (yO (zPI (yN (zPI (zB 2) (zB 2)) zD) zD) (zB 2))))))
    exact h
abbrev zHJ:Stmt:=top 54
theorem wP:FnScope zGI ["_law_cell"] (zH zHJ):=fsK (by decide+kernel)
theorem zVO(D:DefM K mg "_law_name" zHJ)(xK:mg "range"=none):(CalM P w K mg base) "_law_name" 1 1 ["_law_cell"] jU:=
 by have h:=okC (P:=P) (w:=w) (base:=base) D (λ_ _ _ _ _ _ us hl=>match us,hl with |[_],_=>rfl) λf fd F=>okM (k:=0) _ F wP λcdv A outer s H E hr=>(zF (zM 1 wP.nd (xW [97,98,99,100,101,102,103,104,105,106,107,108,109,110,111,112,113,114,115,116,117,118,119,120,121,122])) (zF (zM 2 wP.nd (wK (zB 0) zD)) (zF (zM 3 wP.nd (xW [])) (zF (gB PassesOwn.never rfl (kP rfl xK (zA (yO zD (yN (zB 0) zD)) zC)) (xI 4 wP.nd) (zF (zM 3 wP.nd (yO (zB 3) (zW (zB 1) (yN (zB 2) zD)))) (zK (zM 2 wP.nd (wK (zB 2) zD))))) (zK (zR (zB 3)))))))
    exact h
abbrev zHK:Stmt:=top 55
theorem yW:FnScope zGJ ["_law_cell"] (zH zHK):=fsK (by decide+kernel)
theorem zVP(D:DefM K mg "_law_pool" zHK)(jR:(CalM P w K mg base) "_law_mix" 1 2 ["_law_cell","_law_prime"] yV)(zYJ:(CalM P w K mg base) "_law_name" 1 1 ["_law_cell"] jU)(yG:mg "len"=none):(CalM P w K mg base) "_law_pool" 2 1 ["_law_cell"] jV:=
 by have h:=okC (P:=P) (w:=w) (base:=base) D (λ_ _ _ _ _ _ us hl=>match us,hl with |[_],_=>rfl) λf fd F=>okM (k:=1) _ F yW λcdv A outer s H E hr=>(zF (zM 1 yW.nd (zG jR (hr.mono (by decide)) rfl (zA (zB 0) (zA zD zC)))) (zF (zM 2 yW.nd (xW [97,98,99,100,101,102,103,104,105,106,107,108,109,110,111,112,113,114,115,116,117,118,119,120,121,122])) (zF (zM 3 yW.nd (zG zYJ (hr.mono (by decide)) rfl (zA (zB 1) zC))) (zF (zM 1 yW.nd (wK (zB 1) (zPI zD (zDS zD zD)))) (zF (zM 4 yW.nd (yN (zB 1) (zO zZ xC rfl yG xD (zA (zB 3) zC)))) (zF (zM 5 yW.nd (yO (yO (yKJ (zB 2) (zA (zW (zB 3) (zB 4)) zC)) zD) (yN (wK (zB 1) zD) zD))) (zF (zM 6 yW.nd (yO (yO (zMM (zB 3) zUE (dO (zB 4))) (zW (zB 2) (yN (zB 5) zD))) (zMM (zB 3) (dO (yO (zB 4) zD)) zUE))) (zF (zM 1 yW.nd (wK (zB 1) zD)) (zF (zM 7 yW.nd (yO (yN (zDS (yO (zPI (yN (zB 1) (zDS zD zD)) zD) zD) zD) (zZL (zDS zD zD) zD)) zD)) (zF (xY (zGA hr.units (yN (zB 1) zD) zD) (zK (zM 7 yW.nd (yO (yN (wK (zB 1) zD) (zZL (zDS zD zD) zD)) zD))) yQ) (zK (zR (xN (zA (yN (wK (zB 1) zD) zD) (zA (zB 7) (zA (zB 3) (zA (zZL zD (zB 7)) (zA (zB 6) (zA (yO (yN (wK (zB 1) zD) zD) zD) (zA (yO (zB 7) zD) zC))))))))))))))))))))
    exact h
abbrev zCW:Stmt:=top 56
theorem xH:FnScope zBP ["_law_cell","_law_most"] (zH zCW):=fsK (by decide+kernel)
theorem zRJ(D:DefM K mg "_law_tables" zCW)(jR:(CalM P w K mg base) "_law_mix" 1 2 ["_law_cell","_law_prime"] yV)(xK:mg "range"=none)(yP:mg "tuple"=none):(CalM P w K mg base) "_law_tables" 2 2 ["_law_cell","_law_most"] wZ:=
 by have h:=okC (P:=P) (w:=w) (base:=base) D (λ_ _ _ _ _ _ us hl=>match us,hl with |[_,_],_=>rfl) λf fd F=>okM (k:=1) _ F xH λcdv A outer s H E hr=>(zF (zM 2 xH.nd (zG jR (hr.mono (by decide)) rfl (zA (zB 0) (zA zD zC)))) (zF (zM 3 xH.nd (yO zD (yN (zB 2) (zB 1)))) (zF (zM 2 xH.nd (wK (zB 2) (zB 1))) (zF (zM 4 xH.nd (xN zC)) (zF (gB PassesOwn.never rfl (kP rfl xK (zA (zB 3) zC)) (xI 5 xH.nd) (zF (zM 6 xH.nd (yO zD (yN (zB 2) zD))) (zF (dP (zDC (zB 4) (zA (xZ (zA (zB 6) (zA (yN (wK (zB 2) zD) (yO (zB 6) zD)) zC))) zC))) (zK (zM 2 xH.nd (wK (zB 2) zD)))))) (zK (zR (wY yR kU rfl yP wV (zA (zB 4) zC)))))))))
    exact h
abbrev zKM:Stmt:=top 57
theorem kN:FnScope zJH ["_law_cell","_law_tables_here","_law_pool_here","_law_wide"] (zH zKM):=fsK (by decide+kernel)
theorem zYI(D:DefM K mg "_law_row" zKM)(jR:(CalM P w K mg base) "_law_mix" 1 2 ["_law_cell","_law_prime"] yV)(yG:mg "len"=none)(xK:mg "range"=none)(yP:mg "tuple"=none):(CalM P w K mg base) "_law_row" 2 4 ["_law_cell","_law_tables_here","_law_pool_here","_law_wide"] bM:=
 by have h:=okC (P:=P) (w:=w) (base:=base) D (λ_ _ _ _ _ _ us hl=>match us,hl with |[_,_,_,_],_=>rfl) λf fd F=>okM (k:=1) _ F kN λcdv A outer s H E hr=>(zF (zM 4 kN.nd (zG jR (hr.mono (by decide)) rfl (zA (zB 0) (zA zD zC)))) (zF (zM 5 kN.nd (yN (zB 4) (zO zZ xC rfl yG xD (zA (zB 1) zC)))) (zF (zM 4 kN.nd (wK (zB 4) (zO zZ xC rfl yG xD (zA (zB 1) zC)))) (zF (zM 6 kN.nd (xN zC)) (zF (gB PassesOwn.never rfl (kP rfl xK (zA (zW (zW (zB 1) (zB 5)) zD) zC)) (xI 7 kN.nd) (zF (dP (zDC (zB 6) (zA (zW (zB 2) (yN (zB 4) (zB 3))) zC))) (zK (zM 4 kN.nd (wK (zB 4) (zB 3)))))) (zK (zR (xZ (zA (zB 5) (zA (wY yR kU rfl yP wV (zA (zB 6) zC)) zC))))))))))
    exact h
abbrev zHL:Stmt:=top 58
theorem nA:FnScope zGK ["_law_cells","_law_tables_here","_law_pool_here","_law_wide"] (zH zHL):=fsK (by decide+kernel)
theorem zVQ(D:DefM K mg "_law_rows" zHL)(yAZ:(CalM P w K mg base) "_law_row" 2 4 ["_law_cell","_law_tables_here","_law_pool_here","_law_wide"] bM)(yP:mg "tuple"=none):(CalM P w K mg base) "_law_rows" 3 4 ["_law_cells","_law_tables_here","_law_pool_here","_law_wide"] jW:=
 by have h:=okC (P:=P) (w:=w) (base:=base) D (λ_ _ _ _ _ _ us hl=>match us,hl with |[_,_,_,_],_=>rfl) λf fd F=>okM (k:=2) _ F nA λcdv A outer s H E hr=>(zF (zM 4 nA.nd (xN zC)) (zF (gB PassesOwn.never rfl (zUG (zB 0)) (xI 5 nA.nd) (zF (zM 6 nA.nd (zG yAZ (hr.mono (by decide)) rfl (zA (zB 5) (zA (zB 1) (zA (zB 2) (zA (zB 3) zC)))))) (zK (xY (yGP hr.units (zB 6) (zB 4)) (zK (dP (zDC (zB 4) (zA (zB 6) zC)))) yQ)))) (zK (zR (wY yR kU rfl yP wV (zA (zB 4) zC))))))
    exact h
abbrev zHM:Stmt:=top 59
theorem zLU:FnScope zGL ["_law_state","_law_size"] (zH zHM):=fsK (by decide+kernel)
theorem zVR(D:DefM K mg "_law_take" zHM):(CalM P w K mg base) "_law_take" 1 2 ["_law_state","_law_size"] zY:=
 by have h:=okC (P:=P) (w:=w) (base:=base) D (λ_ _ _ _ _ _ us hl=>match us,hl with |[_,_],_=>rfl) λf fd F=>okM (k:=0) _ F zLU λcdv A outer s H E hr=>(zF (zM 2 zLU.nd (yN (zW (zB 0) zD) (zB 1))) (zF (yGE (wK (zW (zB 0) zD) (zB 1)) (yOS (zB 0) zD)) (zK (zR (zB 2)))))
    exact h
abbrev zHN:Stmt:=top 60
theorem zLV:FnScope zGM ["_law_state","_law_there","_law_tables_here","_law_pool_here"] (zH zHN):=fsK (by decide+kernel)
theorem zVS(D:DefM K mg "_law_side" zHN)(yM:(CalM P w K mg base) "_law_take" 1 2 ["_law_state","_law_size"] zY)(yG:mg "len"=none):(CalM P w K mg base) "_law_side" 2 4 ["_law_state","_law_there","_law_tables_here","_law_pool_here"] wB:=
 by have h:=okC (P:=P) (w:=w) (base:=base) D (λ_ _ _ _ _ _ us hl=>match us,hl with |[_,_,_,_],_=>rfl) λf fd F=>okM (k:=1) _ F zLV λcdv A outer s H E hr=>(zF (xY (zGA hr.units (zG yM (hr.mono (by decide)) rfl (zA (zB 0) (zA zD zC))) zD) (zK (zR (xZ (zA (xW [105,115]) (zA (zW (zB 3) (zG yM (hr.mono (by decide)) rfl (zA (zB 0) (zA zD zC)))) zC))))) yQ) (zF (zM 4 zLV.nd (zG yM (hr.mono (by decide)) rfl (zA (zB 0) (zA (zO zZ xC rfl yG xD (zA (zB 1) zC)) zC)))) (zK (zR (xZ (zA (xW [99,101,108,108]) (zA (zB 4) (zA (zG yM (hr.mono (by decide)) rfl (zA (zB 0) (zA (zW (zW (zB 2) (zW (zB 1) (zB 4))) zD) zC))) zC))))))))
    exact h
abbrev zEZ:Stmt:=top 61
theorem jB:FnScope zDU ["_law_state","_law_there","_law_tables_here","_law_pool_here"] (zH zEZ):=fsK (by decide+kernel)
theorem zSB(D:DefM K mg "_law_tests" zEZ)(xK:mg "range"=none)(yM:(CalM P w K mg base) "_law_take" 1 2 ["_law_state","_law_size"] zY)(zNV:(CalM P w K mg base) "_law_side" 2 4 ["_law_state","_law_there","_law_tables_here","_law_pool_here"] wB)(yP:mg "tuple"=none):(CalM P w K mg base) "_law_tests" 3 4 ["_law_state","_law_there","_law_tables_here","_law_pool_here"] xR:=
 by have h:=okC (P:=P) (w:=w) (base:=base) D (λ_ _ _ _ _ _ us hl=>match us,hl with |[_,_,_,_],_=>rfl) λf fd F=>okM (k:=2) _ F jB λcdv A outer s H E hr=>(zF (zM 4 jB.nd (xN zC)) (zF (gB PassesOwn.never rfl (kP rfl xK (zA (zW (xN (zA zD (zA zD (zA zD (zA zD (zA zD (zA zD zC))))))) (zG yM (hr.mono (by decide)) rfl (zA (zB 0) (zA zD zC)))) zC)) (xI 5 jB.nd) (zF (zM 6 jB.nd (zW (xN (zA (xW [115,97,109,101]) (zA (xW [117,110,108,105,107,101]) (zA (xW [108,101,115,115]) zC)))) (zG yM (hr.mono (by decide)) rfl (zA (zB 0) (zA zD zC))))) (zF (zM 7 jB.nd (zG zNV (hr.mono (by decide)) rfl (zA (zB 0) (zA (zB 1) (zA (zB 2) (zA (zB 3) zC)))))) (zK (dP (zDC (zB 4) (zA (xZ (zA (zB 7) (zA (zB 6) (zA (zG zNV (hr.mono (by decide)) rfl (zA (zB 0) (zA (zB 1) (zA (zB 2) (zA (zB 3) zC))))) zC)))) zC))))))) (zK (zR (wY yR kU rfl yP wV (zA (zB 4) zC))))))
    exact h
abbrev cO:Stmt:=top 62
theorem wQ:FnScope cJ ["_law_cell","_law_tables_here","_law_pool_here"] (zH cO):=fsK (by decide+kernel)
theorem zVT(D:DefM K mg "_law_rule" cO)(jR:(CalM P w K mg base) "_law_mix" 1 2 ["_law_cell","_law_prime"] yV)(yM:(CalM P w K mg base) "_law_take" 1 2 ["_law_state","_law_size"] zY)(yG:mg "len"=none)(zLZ:(CalM P w K mg base) "_law_tests" 3 4 ["_law_state","_law_there","_law_tables_here","_law_pool_here"] xR)(xK:mg "range"=none)(yP:mg "tuple"=none):(CalM P w K mg base) "_law_rule" 4 3 ["_law_cell","_law_tables_here","_law_pool_here"] wC:=
 by have h:=okC (P:=P) (w:=w) (base:=base) D (λ_ _ _ _ _ _ us hl=>match us,hl with |[_,_,_],_=>rfl) λf fd F=>okM (k:=3) _ F wQ λcdv A outer s H E hr=>(zF (zM 3 wQ.nd (xN (zA (zG jR (hr.mono (by decide)) rfl (zA (zB 0) (zA zD zC))) zC))) (zF (zM 4 wQ.nd (zG yM (hr.mono (by decide)) rfl (zA (zB 3) (zA zD zC)))) (zF (zM 5 wQ.nd (zG yM (hr.mono (by decide)) rfl (zA (zB 3) (zA (zO zZ xC rfl yG xD (zA (zB 1) zC)) zC)))) (zF (zM 6 wQ.nd (zG yM (hr.mono (by decide)) rfl (zA (zB 3) (zA (zO zZ xC rfl yG xD (zA (zB 1) zC)) zC)))) (zF (xY (zGA hr.units (zB 4) zD) (zK (zR (xZ (zA (xW [110,101,118,101,114]) (zA (zB 5) (zA (zG zLZ (hr.mono (by decide)) rfl (zA (zB 3) (zA (xZ (zA (zB 5) zC)) (zA (zB 1) (zA (zB 2) zC))))) zC)))))) yQ) (zF (xY (yML hr.units (zB 4) zD) (zK (zR (xZ (zA (xW [97,112,97,114,116]) (zA (zB 5) (zA (zB 6) (zA (zG zLZ (hr.mono (by decide)) rfl (zA (zB 3) (zA (xZ (zA (zB 5) (zA (zB 6) zC))) (zA (zB 1) (zA (zB 2) zC))))) zC))))))) yQ) (zF (zM 7 wQ.nd (zW (xN (zA zD (zA zD (zA zD (zA zD (zA zD zC)))))) (zG yM (hr.mono (by decide)) rfl (zA (zB 3) (zA zD zC))))) (zF (zM 8 wQ.nd (wY yR kU rfl yP wV (zA (dQ (zH cO) cJ ["_law_k"] [1,3,5] (kP rfl xK (zA (zB 7) zC)) rfl (λ_ _ _ _ hN=>(bV 0 hN)) (λ_ _ _ _=>bW) (λ_ _ _ _=>(zG yM (hr.mono (by decide)) rfl (zA (zB 2) (zA (zW (zW (zB 1) (zB 3)) zD) zC))))) zC))) (zK (zR (xZ (zA (xW [116,105,101]) (zA (zB 5) (zA (zB 8) (zA (zB 6) (zA (wY yR kU rfl yP wV (zA (dQ (zH cO) cJ ["_law_k"] [1,3,6] (kP rfl xK (zA (zB 7) zC)) rfl (λ_ _ _ _ hN=>(bV 0 hN)) (λ_ _ _ _=>bW) (λ_ _ _ _=>(zG yM (hr.mono (by decide)) rfl (zA (zB 2) (zA (zW (zW (zB 1) (zB 3)) zD) zC))))) zC)) zC))))))))))))))))
    exact h
abbrev zHO:Stmt:=top 63
theorem zLW:FnScope zGN ["_law_cell","_law_tables_here"] (zH zHO):=fsK (by decide+kernel)
theorem zVU(D:DefM K mg "_law_idle" zHO)(yG:mg "len"=none):(CalM P w K mg base) "_law_idle" 1 2 ["_law_cell","_law_tables_here"] jX:=
 by have h:=okC (P:=P) (w:=w) (base:=base) D (λ_ _ _ _ _ _ us hl=>match us,hl with |[_,_],_=>rfl) λf fd F=>okM (k:=0) _ F zLW λcdv A outer s H E hr=>(zF (zM 2 zLW.nd (xZ (zA (xW [105,115]) (zA (yN (zB 0) zD) zC)))) (zK (zR (xZ (zA (xW [110,101,118,101,114]) (zA (yN (wK (zB 0) zD) (zO zZ xC rfl yG xD (zA (zB 1) zC))) (zA (xZ (zA (xZ (zA (zB 2) (zA (xW [115,97,109,101]) (zA (xZ (zA (xW [105,115]) (zA (yO (yO (yN (zB 0) zD) zD) (yN (wK (zB 0) zD) zD)) zC))) zC)))) zC)) zC)))))))
    exact h
abbrev nB:Stmt:=top 64
theorem xU:FnScope zLC ["_law_e"] (zH nB):=fsK (by decide+kernel)
theorem zRK(D:DefM K mg "_law_kinds" nB){xM:Addr}{xl:Nat->Addr}(XT:XTab K mg xM (XCS xl))(zI:mg "isinstance"=none):(CalH P w K mg base) "_law_kinds" 1 1 ["_law_e"] gO:=
 by have h:=okCH (P:=P) (w:=w) (base:=base) D (λ_ _ _ _ _ _ us hl=>match us,hl with |[_],_=>rfl) λf fd F=>okH (k:=0) _ F xU λcdv A outer s H hr=>(zF (zM 1 xU.nd (xN (zA (xQ XT xnd (.head _) zI rfl rfl (zB 0)) (zA (xQ XT xnd t4M zI rfl rfl (zB 0)) (zA (xQ XT xnd t5M zI rfl rfl (zB 0)) (zA (xQ XT xnd t6M zI rfl rfl (zB 0)) zC)))))) (zF (zM 1 xU.nd (yO (zB 1) (xN (zA (xQ XT xnd t7M zI rfl rfl (zB 0)) (zA (xQ XT xnd t1M zI rfl rfl (zB 0)) (zA (xQ XT xnd t2M zI rfl rfl (zB 0)) (zA (xQ XT xnd t3M zI rfl rfl (zB 0)) zC))))))) (zF (zM 1 xU.nd (yO (zB 1) (xN (zA (xQ XT xnd t8M zI rfl rfl (zB 0)) (zA (xQ XT xnd t9M zI rfl rfl (zB 0)) (zA (xQ XT xnd t10M zI rfl rfl (zB 0)) (zA (xQ XT xnd t11M zI rfl rfl (zB 0)) zC))))))) (zK (zR (zB 1))))))
    exact h
theorem zSC(D:DefM K mg "_law_kinds" nB){xM:Addr}{xl:Nat->Addr}(XT:XTab K mg xM (XCS xl))(zI:mg "isinstance"=none):(CalM P w K mg base) "_law_kinds" 1 1 ["_law_e"] gO:=
 by have h:=okC (P:=P) (w:=w) (base:=base) D (λ_ _ _ _ _ _ us hl=>match us,hl with |[_],_=>rfl) λf fd F=>okM (k:=0) _ F xU λcdv A outer s H E hr=>(zF (zM 1 xU.nd (xN (zA (xQ XT xnd (.head _) zI rfl rfl (zB 0)) (zA (xQ XT xnd t4M zI rfl rfl (zB 0)) (zA (xQ XT xnd t5M zI rfl rfl (zB 0)) (zA (xQ XT xnd t6M zI rfl rfl (zB 0)) zC)))))) (zF (zM 1 xU.nd (yO (zB 1) (xN (zA (xQ XT xnd t7M zI rfl rfl (zB 0)) (zA (xQ XT xnd t1M zI rfl rfl (zB 0)) (zA (xQ XT xnd t2M zI rfl rfl (zB 0)) (zA (xQ XT xnd t3M zI rfl rfl (zB 0)) zC))))))) (zF (zM 1 xU.nd (yO (zB 1) (xN (zA (xQ XT xnd t8M zI rfl rfl (zB 0)) (zA (xQ XT xnd t9M zI rfl rfl (zB 0)) (zA (xQ XT xnd t10M zI rfl rfl (zB 0)) (zA (xQ XT xnd t11M zI rfl rfl (zB 0)) zC))))))) (zK (zR (zB 1))))))
    exact h
abbrev gS:Stmt:=top 65
theorem yY:FnScope nQ ["_law_book","_law_way","_law_number"] (zH gS):=fsK (by decide+kernel)
theorem zOB(D:DefM K mg "_law_refused" gS){xM:Addr}{xl:Nat->Addr}(XT:XTab K mg xM (XCS xl))(GH__law_kinds:(CalH P w K mg base) "_law_kinds" 1 1 ["_law_e"] gO)(zI:mg "isinstance"=none)(wR:mg "ValueError"=none)(zHV:(yHP P w K mg base) "blocks" 2 1 ["book"] wW)(bU:(yHP P w K mg base) "many_by_blocks" 3 1 ["book"] xV)(yIR:(yHP P w K mg base) "chosen" 4 2 ["book","number"] zLH)(xK:mg "range"=none):(CalM P w K mg base) "_law_refused" 5 3 ["_law_book","_law_way","_law_number"] gP:=
 by have h:=okC (P:=P) (w:=w) (base:=base) D (λ_ _ _ _ _ _ us hl=>match us,hl with |[_,_,_],_=>rfl) λf fd F=>okM (k:=4) _ F yY λcdv A outer s H E hr=>(zF (zM 3 yY.nd (xN zC)) (zF (yLH (yMM (zGA hr.units (zB 1) zD) (zQD (i:=4) XT rfl yY.nd (λv=>(zK (zM 3 yY.nd (yO (zMQ GH__law_kinds ((hr.inH v).mono (by decide)) rfl (zA (zB 4) zC)) (xN (zA (zZS XT zI wR rfl rfl (zB 4)) zC)))))) zHV (hr.mono (by decide)) rfl (zA (zB 0) zC)) (yMM (zGA hr.units (zB 1) zD) (zQD (i:=4) XT rfl yY.nd (λv=>(zK (zM 3 yY.nd (yO (zMQ GH__law_kinds ((hr.inH v).mono (by decide)) rfl (zA (zB 4) zC)) (xN (zA (zZS XT zI wR rfl rfl (zB 4)) zC)))))) bU (hr.mono (by decide)) rfl (zA (zB 0) zC)) (zQD (i:=4) XT rfl yY.nd (λv=>(zK (zM 3 yY.nd (yO (zMQ GH__law_kinds ((hr.inH v).mono (by decide)) rfl (zA (zB 4) zC)) (xN (zA (zZS XT zI wR rfl rfl (zB 4)) zC)))))) yIR (hr.mono (by decide)) rfl (zA (zB 0) (zA (zB 2) zC)))))) (zK (zR (zPJ hr.units (zB 3) (yO (dQ (zH gS) nQ ["_law_k"] [] (kP rfl xK (zA zD zC)) rfl (λ_ _ _ _ hN=>(bV 0 hN)) (λ_ _ _ _=>bW) (λ_ _ _ _=>(zPJ hr.units (zB 0) zD))) (xN (zA nM zC))))))))
    exact h
abbrev yCW:Stmt:=top 66
theorem gT:FnScope yCH ["_law_script"] (zH yCW):=fsK (by decide+kernel)
theorem yQK{f:Addr}{fd:FuncData}(F:Fun K "law" "law" yCW f fd)(zYP:(CalM P w K mg base) "_law_pool" 2 1 ["_law_cell"] jV)(gU:(CalM P w K mg base) "_law_cell_at" 1 2 ["_law_script","_law_k"] yK)(zSG:(CalM P w K mg base) "_law_tables" 2 2 ["_law_cell","_law_most"] wZ)(xK:mg "range"=none)(zYK:(CalM P w K mg base) "_law_rule" 4 3 ["_law_cell","_law_tables_here","_law_pool_here"] wC)(zYM:(CalM P w K mg base) "_law_idle" 1 2 ["_law_cell","_law_tables_here"] jX)(zYL:(CalM P w K mg base) "_law_rows" 3 4 ["_law_cells","_law_tables_here","_law_pool_here","_law_wide"] jW)(zTL:(CalM P w K mg base) "book_of" 9 3 yS bK)(zRQ:(CalM P w K mg base) "_law_refused" 5 3 ["_law_book","_law_way","_law_number"] gP)(yP:mg "tuple"=none)(zHV:(yHP P w K mg base) "blocks" 2 1 ["book"] wW)(zFD:(CalM P w K mg base) "is_plain" 1 1 ["book"] wO)(zHS:mg "sorted"=none)(yG:mg "len"=none)(zKP:mg "list"=none):FnOk P w K mg base CX0 10 f fd ["_law_script"] (spM ⟨K,mg,P,w⟩ 1 zTD):=
 by have h:=okM (P:=P) (w:=w) (mg:=mg) (base:=base) (k:=9) _ F gT λcdv A outer s H E hr=>(zF (zM 1 gT.nd (zG zYP (hr.mono (by decide)) rfl (zA (zG gU (hr.mono (by decide)) rfl (zA (zB 0) (zA zD zC))) zC))) (zF (zM 2 gT.nd (zG zSG (hr.mono (by decide)) rfl (zA (zG gU (hr.mono (by decide)) rfl (zA (zB 0) (zA zD zC))) (zA zD zC)))) (zF (zM 3 gT.nd (zG gU (hr.mono (by decide)) rfl (zA (zB 0) (zA zD zC)))) (zF (yJV 4 gT.nd (zH yCW) yCH ["_law_k"] [0,1,2] (kP rfl xK (zA (yO zD (yN (zB 3) zD)) zC)) rfl (λ_ _ _ _ hN=>(bV 0 hN)) (λ_ _ _ _=>bW) (λ_ _ _ _=>(zG zYK (hr.mono (by decide)) rfl (zA (zG gU (hr.mono (by decide)) rfl (zA (zB 1) (zA (yO zD (zB 0)) zC))) (zA (zB 3) (zA (zB 2) zC)))))) (zF (xY (zGA hr.units (yN (wK (zB 3) zD) zD) zD) (zK (zM 4 gT.nd (xN (zA (zG zYM (hr.mono (by decide)) rfl (zA (wK (zB 3) zD) (zA (zB 2) zC))) zC)))) yQ) (zF (zM 5 gT.nd (zG zYL (hr.mono (by decide)) rfl (zA (zMM (zB 0) (dO zD) (dO zD)) (zA (zB 2) (zA (zB 1) (zA (yO zD (yN (wK (zB 3) zD) zD)) zC)))))) (zF (zM 6 gT.nd (zG zTL (hr.mono (by decide)) rfl (zA (zB 2) (zA (zB 4) (zA (zB 5) zC))))) (zF (zM 7 gT.nd (xN (zA zD (zA zD (zA yOE (zA (yN (zB 3) (zDS zD zD)) zC)))))) (zF (gB PassesOwn.never rfl (kP rfl xK (zA zD zC)) (xI 8 gT.nd) (zK (xY (zIQ (zFX (kB (yT (zG zRQ (hr.mono (by decide)) rfl (zA (zB 6) (zA (yN (zB 8) zD) (zA (zW (zB 7) (yN (zB 8) zD)) zC)))))) (zBN (zWQ hr.units (zB 6) (xZ (zA (zB 2) (zA (wY yR kU rfl yP wV (zA (zB 4) zC)) (zA (zB 5) zC)))))))) (zK (zR nM)) yQ))) (zF (zM 9 gT.nd (zG zTL (hr.mono (by decide)) rfl (zA (zB 2) (zA (xZ zC) (zA (zB 5) zC))))) (zF (zM 10 gT.nd (xN zC)) (zF (gB PassesOwn.never rfl (zUG (zG zHV.noX (hr.mono (by decide)) rfl (zA (zB 9) zC))) (xI 11 gT.nd) (zK (zM 10 gT.nd (yO (zB 10) (zB 11))))) (zK (zR (hX (yHO (zG zFD (hr.mono (by decide)) rfl (zA (zB 6) zC)) nM) (hX (yHO (zG zFD (hr.mono (by decide)) rfl (zA (zB 9) zC)) nM) (cT (zPJ hr.units (zO yEF yLF rfl zHS zZX (zA (zB 10) zC)) (yLI rfl rfl zKP rfl xK (zA (zO zZ xC rfl yG xD (zA (zB 5) zC)) zC))))))))))))))))))))
    exact h
end
theorem all_mk{l:PySem.W.OpenLaw}{w:World}{K:PySem.W.Frag}{h:Heap}{mg:Str->Option Value}{fa:Addr}(X:K.In h)(GG:h.Ns mainGlobals mg)(hfa:mg "law"=some (.ref fa))
  (D0:DefM K mg "is_whole" zKD)
  (D1:DefM K mg "is_name" zIJ)
  (D2:DefM K mg "is_value" zKE)
  (D3:DefM K mg "key_of" zRA)
  (D4:DefM K mg "is_plain" zKF)
  (D5:DefM K mg "blocks" zRB)
  (D6:DefM K mg "many_by_blocks" bT)
  (D7:DefM K mg "chosen" zRC)
  (D8:DefM K mg "is_tuple" zKG)
  (D9:DefM K mg "is_number_below" gR)
  (D10:DefM K mg "is_table" zKJ)
  (D11:DefM K mg "is_side" zNA)
  (D12:DefM K mg "is_test" zNB)
  (D13:DefM K mg "are_tests" zBL)
  (D14:DefM K mg "are_columns" cE)
  (D15:DefM K mg "is_never" zKK)
  (D16:DefM K mg "is_apart" zAU)
  (D17:DefM K mg "is_tie" zRF)
  (D18:DefM K mg "is_rule" zND)
  (D19:DefM K mg "is_row" zLT)
  (D20:DefM K mg "check_sizes" zCU)
  (D21:DefM K mg "check_tables" zAV)
  (D22:DefM K mg "check_rules" zCV)
  (D23:DefM K mg "check_rows" zEY)
  (D24:DefM K mg "book_of" zNE)
  (D25:DefM K mg "_law_cell_at" zAX)
  (D26:DefM K mg "_law_mix" zKL)
  (D27:DefM K mg "_law_name" zHJ)
  (D28:DefM K mg "_law_pool" zHK)
  (D29:DefM K mg "_law_tables" zCW)
  (D30:DefM K mg "_law_row" zKM)
  (D31:DefM K mg "_law_rows" zHL)
  (D32:DefM K mg "_law_take" zHM)
  (D33:DefM K mg "_law_side" zHN)
  (D34:DefM K mg "_law_tests" zEZ)
  (D35:DefM K mg "_law_rule" cO)
  (D36:DefM K mg "_law_idle" zHO)
  (D37:DefM K mg "_law_kinds" nB)
  (D38:DefM K mg "_law_refused" gS)
  (D39:DefM K mg "law" yCW)
  {zAZ:Tok} (kO:PySem.W.nsIn K mainGlobals "MOST_LETTERS"=some (some (.int 8 zAZ)))
  {zHQ:Tok} (cQ:PySem.W.nsIn K mainGlobals "MOST_ROWS"=some (some (.int 60 zHQ)))
  {zFB:Tok} (gV:PySem.W.nsIn K mainGlobals "MOST_RULES"=some (some (.int 6 zFB)))
  {zCX:Tok} (jC:PySem.W.nsIn K mainGlobals "MOST_TABLES"=some (some (.int 4 zCX)))
  {zFC:Tok} (gW:PySem.W.nsIn K mainGlobals "MOST_TESTS"=some (some (.int 3 zFC)))
  {zHR:Tok} (cP:PySem.W.nsIn K mainGlobals "MOST_TIED"=some (some (.int 3 zHR)))
  {zHU:Tok} (cR:PySem.W.nsIn K mainGlobals "MOST_WIDE"=some (some (.int 4 zHU)))
  {yCX:Addr} {oc_WORDS:Value} {od_WORDS:Option Addr} {its_WORDS:Array Value} {n_WORDS:Nat} {sl_WORDS:Array (Option Value)} (zLX:PySem.W.nsIn K mainGlobals "WORDS"=some (some (.ref yCX))) (zVX:K.lookup yCX=some ⟨oc_WORDS,od_WORDS,.seq its_WORDS n_WORDS,sl_WORDS⟩) (zLY:oc_WORDS=.type "tuple"/\its_WORDS.size<=sizeLine/\Vals ([.str [115,97,109,101],.str [117,110,108,105,107,101],.str [108,101,115,115]].map yCA) its_WORDS.toList)
  {C_MendError:Addr} {i_MendError:Option Value} (zHP:PySem.W.nsIn K mainGlobals "MendError"=some (some (.ref C_MendError))) (x_MendError:XCl K C_MendError bmV i_MendError)
  {C_TooGreat:Addr} {i_TooGreat:Option Value} (zKN:PySem.W.nsIn K mainGlobals "TooGreat"=some (some (.ref C_TooGreat))) (x_TooGreat:XCl K C_TooGreat (.ref C_MendError::bmV) i_TooGreat)
  {C_NoText:Addr} {i_NoText:Option Value} (zRO:PySem.W.nsIn K mainGlobals "NoText"=some (some (.ref C_NoText))) (x_NoText:XCl K C_NoText (.ref C_MendError::bmV) i_NoText)
  {C_NoPlace:Addr} {i_NoPlace:Option Value} (zNG:PySem.W.nsIn K mainGlobals "NoPlace"=some (some (.ref C_NoPlace))) (x_NoPlace:XCl K C_NoPlace (.ref C_MendError::bmV) i_NoPlace)
  {C_NotPlain:Addr} {i_NotPlain:Option Value} (zKO:PySem.W.nsIn K mainGlobals "NotPlain"=some (some (.ref C_NotPlain))) (x_NotPlain:XCl K C_NotPlain (.ref C_MendError::bmV) i_NotPlain)
  {C_NoTable:Addr} {i_NoTable:Option Value} (zNH:PySem.W.nsIn K mainGlobals "NoTable"=some (some (.ref C_NoTable))) (x_NoTable:XCl K C_NoTable (.ref C_MendError::bmV) i_NoTable)
  {C_NoRule:Addr} {i_NoRule:Option Value} (zRL:PySem.W.nsIn K mainGlobals "NoRule"=some (some (.ref C_NoRule))) (x_NoRule:XCl K C_NoRule (.ref C_MendError::bmV) i_NoRule)
  {C_NoRow:Addr} {i_NoRow:Option Value} (zVW:PySem.W.nsIn K mainGlobals "NoRow"=some (some (.ref C_NoRow))) (x_NoRow:XCl K C_NoRow (.ref C_MendError::bmV) i_NoRow)
  {C_Twice:Addr} {i_Twice:Option Value} (zVV:PySem.W.nsIn K mainGlobals "Twice"=some (some (.ref C_Twice))) (x_Twice:XCl K C_Twice (.ref C_MendError::bmV) i_Twice)
  {C_NoQuestion:Addr} {i_NoQuestion:Option Value} (zFA:PySem.W.nsIn K mainGlobals "NoQuestion"=some (some (.ref C_NoQuestion))) (x_NoQuestion:XCl K C_NoQuestion (.ref C_MendError::bmV) i_NoQuestion)
  {C_Double:Addr} {i_Double:Option Value} (zRM:PySem.W.nsIn K mainGlobals "Double"=some (some (.ref C_Double))) (x_Double:XCl K C_Double (.ref C_MendError::bmV) i_Double)
  {C_TooWide:Addr} {i_TooWide:Option Value} (zNF:PySem.W.nsIn K mainGlobals "TooWide"=some (some (.ref C_TooWide))) (x_TooWide:XCl K C_TooWide (.ref C_MendError::bmV) i_TooWide)
  {C_Ring:Addr} {i_Ring:Option Value} (yAX:PySem.W.nsIn K mainGlobals "Ring"=some (some (.ref C_Ring))) (x_Ring:XCl K C_Ring (.ref C_MendError::bmV) i_Ring)
  (j_MendError:i_MendError=none)
  (j_TooGreat:i_TooGreat=none)
  (j_NoText:i_NoText=none)
  (j_NoPlace:i_NoPlace=none)
  (j_NotPlain:i_NotPlain=none)
  (xd:[C_MendError,C_TooGreat,C_NoText,C_NoPlace,C_NotPlain,C_NoTable,C_NoRule,C_NoRow,C_Twice,C_NoQuestion,C_Double,C_TooWide,C_Ring].Nodup)
  (wR:PySem.W.nsIn K mainGlobals "ValueError"=some none)
  (zYN:PySem.W.nsIn K mainGlobals "abs"=some none)
  (zDL:PySem.W.nsIn K mainGlobals "all"=some none)
  (zRN:PySem.W.nsIn K mainGlobals "bool"=some none)
  (yZ:PySem.W.nsIn K mainGlobals "enumerate"=some none)
  (zYO:PySem.W.nsIn K mainGlobals "int"=some none)
  (zI:PySem.W.nsIn K mainGlobals "isinstance"=some none)
  (yG:PySem.W.nsIn K mainGlobals "len"=some none)
  (zKP:PySem.W.nsIn K mainGlobals "list"=some none)
  (xK:PySem.W.nsIn K mainGlobals "range"=some none)
  (zHS:PySem.W.nsIn K mainGlobals "sorted"=some none)
  (zYQ:PySem.W.nsIn K mainGlobals "str"=some none)
  (yP:PySem.W.nsIn K mainGlobals "tuple"=some none)
  : ∃fd:FuncData,(∀(s:Shared)(v:Value),BindsTo s fd ⟨[v],[]⟩ [("_law_script",v)])/\ ∀base:Heap,K.In base->base.Ns mainGlobals mg->FnOk l.prog w K mg base CX0 10 fa fd ["_law_script"] (zSV K zTD):=by
 have Z_ValueError:=PySem.W.mg_none_of X GG wR
 have Z_abs:=PySem.W.mg_none_of X GG zYN
 have Z_all:=PySem.W.mg_none_of X GG zDL
 have Z_bool:=PySem.W.mg_none_of X GG zRN
 have Z_enumerate:=PySem.W.mg_none_of X GG yZ
 have Z_int:=PySem.W.mg_none_of X GG zYO
 have Z_isinstance:=PySem.W.mg_none_of X GG zI
 have Z_len:=PySem.W.mg_none_of X GG yG
 have Z_list:=PySem.W.mg_none_of X GG zKP
 have Z_range:=PySem.W.mg_none_of X GG xK
 have Z_sorted:=PySem.W.mg_none_of X GG zHS
 have Z_str:=PySem.W.mg_none_of X GG zYQ
 have Z_tuple:=PySem.W.mg_none_of X GG yP
 have M_MOST_LETTERS:=PySem.W.mg_of X GG kO
 have M_MOST_ROWS:=PySem.W.mg_of X GG cQ
 have M_MOST_RULES:=PySem.W.mg_of X GG gV
 have M_MOST_TABLES:=PySem.W.mg_of X GG jC
 have M_MOST_TESTS:=PySem.W.mg_of X GG gW
 have M_MOST_TIED:=PySem.W.mg_of X GG cP
 have M_MOST_WIDE:=PySem.W.mg_of X GG cR
 have M_WORDS:GTup K mg "WORDS" [.str [115,97,109,101],.str [117,110,108,105,107,101],.str [108,101,115,115]]:=⟨⟨_,_,_,_,PySem.W.mg_of X GG zLX,zVX,zLY.1,rfl,zLY.2.1,zLY.2.2⟩,rfl⟩
 subst j_MendError
 subst j_TooGreat
 subst j_NoText
 subst j_NoPlace
 subst j_NotPlain
 let xl:Nat->Addr:=λn=>[C_TooGreat,C_NoText,C_NoPlace,C_NotPlain,C_NoTable,C_NoRule,C_NoRow,C_Twice,C_NoQuestion,C_Double,C_TooWide,C_Ring].getD n 0
 have XT:XTab K mg C_MendError (XCS xl):=⟨PySem.W.mg_of X GG zHP,x_MendError,⟨⟨PySem.W.mg_of X GG zKN,_,x_TooGreat⟩,⟨PySem.W.mg_of X GG zRO,_,x_NoText⟩,⟨PySem.W.mg_of X GG zNG,_,x_NoPlace⟩,⟨PySem.W.mg_of X GG zKO,_,x_NotPlain⟩,⟨PySem.W.mg_of X GG zNH,_,x_NoTable⟩,⟨PySem.W.mg_of X GG zRL,_,x_NoRule⟩,⟨PySem.W.mg_of X GG zVW,_,x_NoRow⟩,⟨PySem.W.mg_of X GG zVV,_,x_Twice⟩,⟨PySem.W.mg_of X GG zFA,_,x_NoQuestion⟩,⟨PySem.W.mg_of X GG zRM,_,x_Double⟩,⟨PySem.W.mg_of X GG zNF,_,x_TooWide⟩,⟨PySem.W.mg_of X GG yAX,_,x_Ring⟩,trivial⟩,xd⟩
 refine yPN D39 hfa (λ_ _ _ _ _ _ s v=>.of_eq rfl) λbase f fd F=>?_
 have G0:=zXV (P:=l.prog) (w:=w) (base:=base) D0 Z_int Z_isinstance Z_bool
 have G1:=yAN (P:=l.prog) (w:=w) (base:=base) D1 Z_str Z_isinstance Z_len M_MOST_LETTERS Z_all
 have G2:=zXX (P:=l.prog) (w:=w) (base:=base) D2 G0 Z_abs G1
 have G3:=yES (P:=l.prog) (w:=w) (base:=base) D3
 have G4:=zXZ (P:=l.prog) (w:=w) (base:=base) D4 Z_len
 have G5:=yET (P:=l.prog) (w:=w) (base:=base) D5 XT G4 x_NotPlain Z_enumerate G3 Z_list
 have G6:=zLS (P:=l.prog) (w:=w) (base:=base) D6 G5
 have G7:=yEU (P:=l.prog) (w:=w) (base:=base) D7 G6
 have G8:=zYB (P:=l.prog) (w:=w) (base:=base) D8 Z_tuple Z_isinstance Z_len
 have G9:=zKI (P:=l.prog) (w:=w) (base:=base) D9 G0
 have G10:=zYC (P:=l.prog) (w:=w) (base:=base) D10 G8 G0 M_MOST_WIDE G9
 have G11:=yAP (P:=l.prog) (w:=w) (base:=base) D11 G8 G2 G9 Z_len
 have G12:=yAR (P:=l.prog) (w:=w) (base:=base) D12 G8 G11 M_WORDS
 have G13:=zVN (P:=l.prog) (w:=w) (base:=base) D13 G8 M_MOST_TESTS G12 Z_all
 have G14:=zRE (P:=l.prog) (w:=w) (base:=base) D14 G8 M_MOST_TIED G9 Z_all
 have G15:=zYE (P:=l.prog) (w:=w) (base:=base) D15 Z_len G9 G13
 have G16:=zYG (P:=l.prog) (w:=w) (base:=base) D16 Z_len G9 Z_all G13
 have G17:=yEV (P:=l.prog) (w:=w) (base:=base) D17 Z_len G9 G14
 have G18:=yAT (P:=l.prog) (w:=w) (base:=base) D18 Z_tuple Z_isinstance Z_len G15 G16 G17
 have G19:=yEW (P:=l.prog) (w:=w) (base:=base) D19 G8 G9 Z_len G2 Z_all
 have G20:=zRH (P:=l.prog) (w:=w) (base:=base) D20 Z_len M_MOST_TABLES M_MOST_RULES M_MOST_ROWS
 have G21:=zNY (P:=l.prog) (w:=w) (base:=base) D21 Z_len Z_enumerate G10
 have G22:=zRI (P:=l.prog) (w:=w) (base:=base) D22 Z_enumerate G18
 have G23:=zSA (P:=l.prog) (w:=w) (base:=base) D23 Z_enumerate G19
 have G24:=yAV (P:=l.prog) (w:=w) (base:=base) D24 G20 G21 G22 G23 Z_tuple
 have G25:=zOA (P:=l.prog) (w:=w) (base:=base) D25 Z_len
 have G26:=zYH (P:=l.prog) (w:=w) (base:=base) D26
 have G27:=zVO (P:=l.prog) (w:=w) (base:=base) D27 Z_range
 have G28:=zVP (P:=l.prog) (w:=w) (base:=base) D28 G26 G27 Z_len
 have G29:=zRJ (P:=l.prog) (w:=w) (base:=base) D29 G26 Z_range Z_tuple
 have G30:=zYI (P:=l.prog) (w:=w) (base:=base) D30 G26 Z_len Z_range Z_tuple
 have G31:=zVQ (P:=l.prog) (w:=w) (base:=base) D31 G30 Z_tuple
 have G32:=zVR (P:=l.prog) (w:=w) (base:=base) D32
 have G33:=zVS (P:=l.prog) (w:=w) (base:=base) D33 G32 Z_len
 have G34:=zSB (P:=l.prog) (w:=w) (base:=base) D34 Z_range G32 G33 Z_tuple
 have G35:=zVT (P:=l.prog) (w:=w) (base:=base) D35 G26 G32 Z_len G34 Z_range Z_tuple
 have G36:=zVU (P:=l.prog) (w:=w) (base:=base) D36 Z_len
 have GH37:=zRK (P:=l.prog) (w:=w) (base:=base) D37 XT Z_isinstance
 have G37:=zSC (P:=l.prog) (w:=w) (base:=base) D37 XT Z_isinstance
 have G38:=zOB (P:=l.prog) (w:=w) (base:=base) D38 XT GH37 Z_isinstance Z_ValueError G5 G6 G7 Z_range
 exact yQK (P:=l.prog) (w:=w) (base:=base) F G28 G25 G29 Z_range G35 G36 G31 G24 G38 Z_tuple G5 G4 Z_sorted Z_len Z_list
theorem walk{l:PySem.W.OpenLaw}{q:Program}{loose:List Str}{XP:(Str->Option Value)->Heap->Prop}{YP:World->Heap->Prop}{d:DefRec}{K:Params->PySem.W.Frag}(hn:l.most=some 63)(hdf:d.params.defaults=[])
  (hY: ∀(w:World)(h:Heap),YP w h->(K w.params).In h)
  (F: ∀(w:World)(mg:Str->Option Value)(fa:Addr)(h:Heap),(K w.params).In h->h.Ns mainGlobals mg->mg d.name=some (.ref fa)->
   ∃fd:FuncData,(∀(s:Shared)(u:Value),BindsTo s fd ⟨[u],[]⟩ [("_law_script",u)])/\ ∀base:Heap,(K w.params).In base->base.Ns mainGlobals mg->FnOk l.prog w (K w.params) mg base CX0 10 fa fd ["_law_script"] (zSV (K w.params) zTD)):
  PySem.W.WalkO q loose XP YP l.row.toRowW d [] (λf vs=>PySem.call f vs):=
 L2.walk_of (n:=63) (k:=10) (x:="_law_script") (CX:=λ_=>CX0) (sp:=λw=>zSV (K w.params) zTD) hn (by decide) hdf ⟨rfl,by decide,by decide⟩ hY F
  (λw H a ns hl hO hS=>yGT hO hS (yIQ ns hl)) λ_ _ _ _ _ z=>z
end My
end M
end L2
noncomputable def zTw : PySem.Params → PySem.Heap := fun P => { PySem.W.boot_heap P with objs := #[] }
noncomputable def PySem.W.Fast.tw10797471001223247865 := zTw
theorem PySem.W.Fast.te10797471001223247865 : PySem.W.Fast.tw10797471001223247865 = zTw := rfl
noncomputable def PySem.W.Fast.tw17829821157730693330 := zTw
theorem PySem.W.Fast.te17829821157730693330 : PySem.W.Fast.tw17829821157730693330 = zTw := rfl
noncomputable def PySem.W.Fast.tw3899700810280737494 := zTw
theorem PySem.W.Fast.te3899700810280737494 : PySem.W.Fast.tw3899700810280737494 = zTw := rfl
noncomputable def PySem.W.Fast.tw1688999249011922806 := zTw
theorem PySem.W.Fast.te1688999249011922806 : PySem.W.Fast.tw1688999249011922806 = zTw := rfl
noncomputable def PySem.W.Fast.tw17846891130180152150 := zTw
theorem PySem.W.Fast.te17846891130180152150 : PySem.W.Fast.tw17846891130180152150 = zTw := rfl
noncomputable def PySem.W.Fast.tw2358505139255068503 := zTw
theorem PySem.W.Fast.te2358505139255068503 : PySem.W.Fast.tw2358505139255068503 = zTw := rfl
noncomputable def PySem.W.Fast.tw4482608270719842929 := zTw
theorem PySem.W.Fast.te4482608270719842929 : PySem.W.Fast.tw4482608270719842929 = zTw := rfl
noncomputable def PySem.W.Fast.tw1228562780808707607 := zTw
theorem PySem.W.Fast.te1228562780808707607 : PySem.W.Fast.tw1228562780808707607 = zTw := rfl
noncomputable def PySem.W.Fast.tw10924515139044468901 := zTw
theorem PySem.W.Fast.te10924515139044468901 : PySem.W.Fast.tw10924515139044468901 = zTw := rfl
noncomputable def PySem.W.Fast.tw11356679463242024752 := zTw
theorem PySem.W.Fast.te11356679463242024752 : PySem.W.Fast.tw11356679463242024752 = zTw := rfl
noncomputable def PySem.W.Fast.tw9912875018079731464 := zTw
theorem PySem.W.Fast.te9912875018079731464 : PySem.W.Fast.tw9912875018079731464 = zTw := rfl
noncomputable def PySem.W.Fast.tw16053214191755257249 := zTw
theorem PySem.W.Fast.te16053214191755257249 : PySem.W.Fast.tw16053214191755257249 = zTw := rfl
noncomputable def PySem.W.Fast.tw16621407566890600041 := zTw
theorem PySem.W.Fast.te16621407566890600041 : PySem.W.Fast.tw16621407566890600041 = zTw := rfl
noncomputable def PySem.W.Fast.tw10104525367350915384 := zTw
theorem PySem.W.Fast.te10104525367350915384 : PySem.W.Fast.tw10104525367350915384 = zTw := rfl
noncomputable def PySem.W.Fast.tw12946582973183463852 := zTw
theorem PySem.W.Fast.te12946582973183463852 : PySem.W.Fast.tw12946582973183463852 = zTw := rfl
noncomputable def PySem.W.Fast.tw17913959573905711482 := zTw
theorem PySem.W.Fast.te17913959573905711482 : PySem.W.Fast.tw17913959573905711482 = zTw := rfl
noncomputable def PySem.W.Fast.tw5598675379791526883 := zTw
theorem PySem.W.Fast.te5598675379791526883 : PySem.W.Fast.tw5598675379791526883 = zTw := rfl
noncomputable def PySem.W.Fast.tw7682749696160203853 := zTw
theorem PySem.W.Fast.te7682749696160203853 : PySem.W.Fast.tw7682749696160203853 = zTw := rfl
noncomputable def PySem.W.Fast.tw6094244204607681279 := zTw
theorem PySem.W.Fast.te6094244204607681279 : PySem.W.Fast.tw6094244204607681279 = zTw := rfl
noncomputable def PySem.W.Fast.tw16938563100080134730 := zTw
theorem PySem.W.Fast.te16938563100080134730 : PySem.W.Fast.tw16938563100080134730 = zTw := rfl
noncomputable def PySem.W.Fast.tw9792864709444819068 := zTw
theorem PySem.W.Fast.te9792864709444819068 : PySem.W.Fast.tw9792864709444819068 = zTw := rfl
noncomputable def PySem.W.Fast.tw7313792355371232375 := zTw
theorem PySem.W.Fast.te7313792355371232375 : PySem.W.Fast.tw7313792355371232375 = zTw := rfl
noncomputable def PySem.W.Fast.tw11980308175712012693 := zTw
theorem PySem.W.Fast.te11980308175712012693 : PySem.W.Fast.tw11980308175712012693 = zTw := rfl
open PySem PySem.W PyProof.Rows
set_option maxRecDepth 100000 in
set_option maxHeartbeats 0 in
theorem PySem.Challenge.cw_mendsure_k53_books_that_are_not_plain_holds : PySem.Challenge.rw_mendsure_k53_books_that_are_not_plain.Holds := by
  w_on; o_law; k_head; (case hw => w_witness2)
  k_fill
  refine L2.M.My.walk (l := PySem.Challenge.rw_mendsure_k53_books_that_are_not_plain) rfl rfl (fun w h Y => PySem.W.kIn_of Y) ?F
  case F =>
    intro w mg fa h KX G hmg
    refine' L2.M.My.all_mk KX G hmg ?D0 ?D1 ?D2 ?D3 ?D4 ?D5 ?D6 ?D7 ?D8 ?D9 ?D10 ?D11 ?D12 ?D13 ?D14 ?D15 ?D16 ?D17 ?D18 ?D19 ?D20 ?D21 ?D22 ?D23 ?D24 ?D25 ?D26 ?D27 ?D28 ?D29 ?D30 ?D31 ?D32 ?D33 ?D34 ?D35 ?D36 ?D37 ?D38 ?D39 ?kO ?cQ ?gV ?jC ?gW ?cP ?cR ?zLX ?zVX ?zLY ?zHP ?x_MendError ?zKN ?x_TooGreat ?zRO ?x_NoText ?zNG ?x_NoPlace ?zKO ?x_NotPlain ?zNH ?x_NoTable ?zRL ?x_NoRule ?zVW ?x_NoRow ?zVV ?x_Twice ?zFA ?x_NoQuestion ?zRM ?x_Double ?zNF ?x_TooWide ?yAX ?x_Ring ?j_MendError ?j_TooGreat ?j_NoText ?j_NoPlace ?j_NotPlain ?xd ?wR ?zYN ?zDL ?zRN ?yZ ?zYO ?zI ?yG ?zKP ?xK ?zHS ?zYQ ?yP
    (case D0 => exact L2.M.def_mk (by k_is) (by k_is) (by k_is) (by k_is) KX G)
    (case D1 => exact L2.M.def_mk (by k_is) (by k_is) (by k_is) (by k_is) KX G)
    (case D2 => exact L2.M.def_mk (by k_is) (by k_is) (by k_is) (by k_is) KX G)
    (case D3 => exact L2.M.def_mk (by k_is) (by k_is) (by k_is) (by k_is) KX G)
    (case D4 => exact L2.M.def_mk (by k_is) (by k_is) (by k_is) (by k_is) KX G)
    (case D5 => exact L2.M.def_mk (by k_is) (by k_is) (by k_is) (by k_is) KX G)
    (case D6 => exact L2.M.def_mk (by k_is) (by k_is) (by k_is) (by k_is) KX G)
    (case D7 => exact L2.M.def_mk (by k_is) (by k_is) (by k_is) (by k_is) KX G)
    (case D8 => exact L2.M.def_mk (by k_is) (by k_is) (by k_is) (by k_is) KX G)
    (case D9 => exact L2.M.def_mk (by k_is) (by k_is) (by k_is) (by k_is) KX G)
    (case D10 => exact L2.M.def_mk (by k_is) (by k_is) (by k_is) (by k_is) KX G)
    (case D11 => exact L2.M.def_mk (by k_is) (by k_is) (by k_is) (by k_is) KX G)
    (case D12 => exact L2.M.def_mk (by k_is) (by k_is) (by k_is) (by k_is) KX G)
    (case D13 => exact L2.M.def_mk (by k_is) (by k_is) (by k_is) (by k_is) KX G)
    (case D14 => exact L2.M.def_mk (by k_is) (by k_is) (by k_is) (by k_is) KX G)
    (case D15 => exact L2.M.def_mk (by k_is) (by k_is) (by k_is) (by k_is) KX G)
    (case D16 => exact L2.M.def_mk (by k_is) (by k_is) (by k_is) (by k_is) KX G)
    (case D17 => exact L2.M.def_mk (by k_is) (by k_is) (by k_is) (by k_is) KX G)
    (case D18 => exact L2.M.def_mk (by k_is) (by k_is) (by k_is) (by k_is) KX G)
    (case D19 => exact L2.M.def_mk (by k_is) (by k_is) (by k_is) (by k_is) KX G)
    (case D20 => exact L2.M.def_mk (by k_is) (by k_is) (by k_is) (by k_is) KX G)
    (case D21 => exact L2.M.def_mk (by k_is) (by k_is) (by k_is) (by k_is) KX G)
    (case D22 => exact L2.M.def_mk (by k_is) (by k_is) (by k_is) (by k_is) KX G)
    (case D23 => exact L2.M.def_mk (by k_is) (by k_is) (by k_is) (by k_is) KX G)
    (case D24 => exact L2.M.def_mk (by k_is) (by k_is) (by k_is) (by k_is) KX G)
    (case D25 => exact L2.M.def_mk (by k_is) (by k_is) (by k_is) (by k_is) KX G)
    (case D26 => exact L2.M.def_mk (by k_is) (by k_is) (by k_is) (by k_is) KX G)
    (case D27 => exact L2.M.def_mk (by k_is) (by k_is) (by k_is) (by k_is) KX G)
    (case D28 => exact L2.M.def_mk (by k_is) (by k_is) (by k_is) (by k_is) KX G)
    (case D29 => exact L2.M.def_mk (by k_is) (by k_is) (by k_is) (by k_is) KX G)
    (case D30 => exact L2.M.def_mk (by k_is) (by k_is) (by k_is) (by k_is) KX G)
    (case D31 => exact L2.M.def_mk (by k_is) (by k_is) (by k_is) (by k_is) KX G)
    (case D32 => exact L2.M.def_mk (by k_is) (by k_is) (by k_is) (by k_is) KX G)
    (case D33 => exact L2.M.def_mk (by k_is) (by k_is) (by k_is) (by k_is) KX G)
    (case D34 => exact L2.M.def_mk (by k_is) (by k_is) (by k_is) (by k_is) KX G)
    (case D35 => exact L2.M.def_mk (by k_is) (by k_is) (by k_is) (by k_is) KX G)
    (case D36 => exact L2.M.def_mk (by k_is) (by k_is) (by k_is) (by k_is) KX G)
    (case D37 => exact L2.M.def_mk (by k_is) (by k_is) (by k_is) (by k_is) KX G)
    (case D38 => exact L2.M.def_mk (by k_is) (by k_is) (by k_is) (by k_is) KX G)
    (case D39 => exact L2.M.def_mk (by k_is) (by k_is) (by k_is) (by k_is) KX G)
    (case kO => k_is)
    (case cQ => k_is)
    (case gV => k_is)
    (case jC => k_is)
    (case gW => k_is)
    (case cP => k_is)
    (case cR => k_is)
    (case zLX => k_is)
    (case zVX => k_is)
    (case zLY => exact ⟨rfl, by decide, .cons ⟨_, rfl⟩ (.cons ⟨_, rfl⟩ (.cons ⟨_, rfl⟩ (.nil)))⟩)
    (case zHP => k_is)
    (case x_MendError => exact L2.M.xcl_mk (by k_is) (by k_is) rfl (by k_is) (by k_is) (by k_is) (by k_is) (by k_is) (by k_is) (by k_is) rfl)
    (case zKN => k_is)
    (case x_TooGreat => exact L2.M.xcl_mk (by k_is) (by k_is) rfl (by k_is) (by k_is) (by k_is) (by k_is) (by k_is) (by k_is) (by k_is) rfl)
    (case zRO => k_is)
    (case x_NoText => exact L2.M.xcl_mk (by k_is) (by k_is) rfl (by k_is) (by k_is) (by k_is) (by k_is) (by k_is) (by k_is) (by k_is) rfl)
    (case zNG => k_is)
    (case x_NoPlace => exact L2.M.xcl_mk (by k_is) (by k_is) rfl (by k_is) (by k_is) (by k_is) (by k_is) (by k_is) (by k_is) (by k_is) rfl)
    (case zKO => k_is)
    (case x_NotPlain => exact L2.M.xcl_mk (by k_is) (by k_is) rfl (by k_is) (by k_is) (by k_is) (by k_is) (by k_is) (by k_is) (by k_is) rfl)
    (case zNH => k_is)
    (case x_NoTable => exact L2.M.xcl_mk (by k_is) (by k_is) rfl (by k_is) (by k_is) (by k_is) (by k_is) (by k_is) (by k_is) (by k_is) rfl)
    (case zRL => k_is)
    (case x_NoRule => exact L2.M.xcl_mk (by k_is) (by k_is) rfl (by k_is) (by k_is) (by k_is) (by k_is) (by k_is) (by k_is) (by k_is) rfl)
    (case zVW => k_is)
    (case x_NoRow => exact L2.M.xcl_mk (by k_is) (by k_is) rfl (by k_is) (by k_is) (by k_is) (by k_is) (by k_is) (by k_is) (by k_is) rfl)
    (case zVV => k_is)
    (case x_Twice => exact L2.M.xcl_mk (by k_is) (by k_is) rfl (by k_is) (by k_is) (by k_is) (by k_is) (by k_is) (by k_is) (by k_is) rfl)
    (case zFA => k_is)
    (case x_NoQuestion => exact L2.M.xcl_mk (by k_is) (by k_is) rfl (by k_is) (by k_is) (by k_is) (by k_is) (by k_is) (by k_is) (by k_is) rfl)
    (case zRM => k_is)
    (case x_Double => exact L2.M.xcl_mk (by k_is) (by k_is) rfl (by k_is) (by k_is) (by k_is) (by k_is) (by k_is) (by k_is) (by k_is) rfl)
    (case zNF => k_is)
    (case x_TooWide => exact L2.M.xcl_mk (by k_is) (by k_is) rfl (by k_is) (by k_is) (by k_is) (by k_is) (by k_is) (by k_is) (by k_is) rfl)
    (case yAX => k_is)
    (case x_Ring => exact L2.M.xcl_mk (by k_is) (by k_is) rfl (by k_is) (by k_is) (by k_is) (by k_is) (by k_is) (by k_is) (by k_is) rfl)
    (case j_MendError => rfl)
    (case j_TooGreat => rfl)
    (case j_NoText => rfl)
    (case j_NoPlace => rfl)
    (case j_NotPlain => rfl)
    (case xd => decide)
    (case wR => k_is)
    (case zYN => k_is)
    (case zDL => k_is)
    (case zRN => k_is)
    (case yZ => k_is)
    (case zYO => k_is)
    (case zI => k_is)
    (case yG => k_is)
    (case zKP => k_is)
    (case xK => k_is)
    (case zHS => k_is)
    (case zYQ => k_is)
    (case yP => k_is)
