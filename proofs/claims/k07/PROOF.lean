import PyProof.Rows.All
import Wide.All
import OpenK.AllK
import Wide.FinOn
import Lean
import PyProof.EqAt
import PyProof.EqKinds
import PyProof.TupleCall
import PySem.Challenge.RW_mendsure_k07_which_refusal_first
set_option Elab.async false
set_option linter.all false
set_option maxRecDepth 100000
open List (all_cons all_eq_true cons_append contains_cons drop_length ext_getElem? filter_cons_of_neg filter_cons_of_pos flatten_cons forIn_cons getD_eq_getElem?_getD getElem?_append_left getElem?_append_right getElem?_map getElem?_set_ne getElem?_set_self getElem_inj getElem_mem length_drop length_nil length_range length_replicate length_set lookup_cons map_append map_cons map_map mem_append mem_append_left mem_append_right mem_flatten mem_of_getElem? mem_of_mem_take mem_range nil_append nodup_append nodup_cons of_mem_zip replicate_succ set_cons_succ set_cons_zero take_of_length_le zipIdx_cons zip_cons_cons)
open Bool (or_eq_true)
open Nat (add_assoc le_of_lt le_refl le_succ le_trans log2_lt lt_irrefl lt_of_lt_of_le min_eq_left mul_comm ne_of_gt ne_of_lt sub_self zero_add zero_le)
open Int (pow_pos toNat_natCast)
theorem xF0:¬(false=true):=Bool.false_ne_true
theorem t1M{A:Type}{x0 x1:A}{l:List A}:x1∈x0::x1::l:=.tail _ (.head _)
theorem t2M{A:Type}{x0 x1 x2:A}{l:List A}:x2∈x0::x1::x2::l:=(.tail _ (.tail _ (.head _)))
theorem t3M{A:Type}{x0 x1 x2 x3:A}{l:List A}:x3∈x0::x1::x2::x3::l:=(.tail _ (.tail _ (.tail _ (.head _))))
theorem t4M{A:Type}{x0 x1 x2 x3 x4:A}{l:List A}:x4∈x0::x1::x2::x3::x4::l:=(.tail _ (.tail _ (.tail _ (.tail _ (.head _)))))
theorem t5M{A:Type}{x0 x1 x2 x3 x4 x5:A}{l:List A}:x5∈x0::x1::x2::x3::x4::x5::l:=(.tail _ (.tail _ (.tail _ (.tail _ (.tail _ (.head _))))))
theorem t6M{A:Type}{x0 x1 x2 x3 x4 x5 x6:A}{l:List A}:x6∈x0::x1::x2::x3::x4::x5::x6::l:=(.tail _ (.tail _ (.tail _ (.tail _ (.tail _ (.tail _ (.head _)))))))
theorem t7M{A:Type}{x0 x1 x2 x3 x4 x5 x6 x7:A}{l:List A}:x7∈x0::x1::x2::x3::x4::x5::x6::x7::l:=(.tail _ (.tail _ (.tail _ (.tail _ (.tail _ (.tail _ (.tail _ (.head _))))))))
theorem t8M{A:Type}{x0 x1 x2 x3 x4 x5 x6 x7 x8:A}{l:List A}:x8∈x0::x1::x2::x3::x4::x5::x6::x7::x8::l:=(.tail _ (.tail _ (.tail _ (.tail _ (.tail _ (.tail _ (.tail _ (.tail _ (.head _)))))))))
theorem t9M{A:Type}{x0 x1 x2 x3 x4 x5 x6 x7 x8 x9:A}{l:List A}:x9∈x0::x1::x2::x3::x4::x5::x6::x7::x8::x9::l:=(.tail _ (.tail _ (.tail _ (.tail _ (.tail _ (.tail _ (.tail _ (.tail _ (.tail _ (.head _))))))))))
theorem t10M{A:Type}{x0 x1 x2 x3 x4 x5 x6 x7 x8 x9 x10:A}{l:List A}:x10∈x0::x1::x2::x3::x4::x5::x6::x7::x8::x9::x10::l:=(.tail _ (.tail _ (.tail _ (.tail _ (.tail _ (.tail _ (.tail _ (.tail _ (.tail _ (.tail _ (.head _)))))))))))
theorem t11M{A:Type}{x0 x1 x2 x3 x4 x5 x6 x7 x8 x9 x10 x11:A}{l:List A}:x11∈x0::x1::x2::x3::x4::x5::x6::x7::x8::x9::x10::x11::l:=(.tail _ (.tail _ (.tail _ (.tail _ (.tail _ (.tail _ (.tail _ (.tail _ (.tail _ (.tail _ (.tail _ (.head _))))))))))))
abbrev dF0:=@decide_eq_false
abbrev dT0:=@decide_eq_true
abbrev iP:=@if_pos
abbrev iN0:=@if_neg
abbrev mC:=@List.mem_cons
abbrev lC0:=@List.length_cons
abbrev mO:=@List.mem_cons_of_mem
abbrev lM0:=@List.length_map
abbrev nM0:=@List.not_mem_nil
abbrev mS:=@List.mem_singleton
abbrev mF0:=@List.mem_cons_self
abbrev fT:=@Bool.false_eq_true
abbrev sA:=@List.size_toArray
abbrev lS:=@List.length_singleton
abbrev eL:=@Int.emod_lt_of_pos
abbrev eN:=@Int.emod_nonneg
abbrev aE:=@Bool.and_eq_true
abbrev iF:=@if_false
abbrev aN:=@List.append_nil
abbrev lA:=@List.length_append
abbrev gS0:=@List.getElem?_eq_some_iff
abbrev gE0:=@List.getElem?_eq_getElem
abbrev wB0:=@PySem.wpAny_bind
abbrev wP0:=@PySem.wpAny_pure
abbrev hP00:=@PySem.Heap.get?_push_of_some
abbrev mM0:=@List.mem_map
abbrev lT0:=@List.length_take
abbrev aA:=@List.append_assoc
namespace L2
open PySem PySem.Spec PyProof.Rows
abbrev Key:=Sum Int Str
def zRG:Key->Value->Bool
 |.inl k,v=>Value.isInt k v
 |.inr x,v=>Value.isStrOf x v
def keyH(w:World):Key->Int
 |.inl k=>hashInt k
 |.inr x=>hashStr w x
theorem wH: ∀{k:Key}{v:Value},zRG k v=true->(∃i t,k=Sum.inl i/\v=Value.int i t)\/(∃x t,k=Sum.inr x/\v=Value.str x t)
 |.inl i,v,h=>by
  obtain⟨t,e⟩:=Value.isInt_shape (k:=i) (v:=v) h
  exact .inl ⟨i,t,rfl,e⟩
 |.inr x,v,h=>by
  obtain⟨t,e⟩:=Value.isStrOf_shape (x:=x) (v:=v) h
  exact .inr ⟨x,t,rfl,e⟩
theorem yQA(a b:Int):decide ((Sum.inl a:Key)=Sum.inl b)=(a==b):=by
 by_cases e:a=b
 ·subst e;simp
 ·have h: ¬(Sum.inl a:Key)=Sum.inl b:=λq=>e (Sum.inl.inj q)
  rw [dF0 h]
  exact(beq_eq_false_iff_ne.mpr e).symm
theorem yQB(a b:Str):decide ((Sum.inr a:Key)=Sum.inr b)=decide (a=b):=by
 by_cases e:a=b
 ·subst e;simp
 ·have h: ¬(Sum.inr a:Key)=Sum.inr b:=λq=>e (Sum.inr.inj q)
  rw [dF0 h,dF0 e]
theorem yQC(a:Int)(b:Str):decide ((Sum.inl a:Key)=Sum.inr b)=false:=dF0 (λq=>nomatch q)
theorem yQD(a:Str)(b:Int):decide ((Sum.inr a:Key)=Sum.inl b)=false:=dF0 (λq=>nomatch q)
def zQM(prog:Program)(w:World):PySem.KeyKind prog w Key where
 is:=zRG
 hash:=keyH w
 inj:=λv a b ha hb=>by
  rcases wH ha with⟨i,t,rfl,rfl⟩|⟨x,t,rfl,rfl⟩
  ·rcases wH hb with⟨j,u,rfl,e⟩|⟨y,u,rfl,e⟩
   ·injection e with e1 _;rw [e1]
   ·exact nomatch e
  ·rcases wH hb with⟨j,u,rfl,e⟩|⟨y,u,rfl,e⟩
   ·exact nomatch e
   ·injection e with e1 _;rw [e1]
 byValue:=λk v h=>by
  rcases wH h with⟨i,t,rfl,rfl⟩|⟨x,t,rfl,rfl⟩<;>rfl
 pyHash:=λhv h=>by
  rcases wH hv with⟨i,t,rfl,rfl⟩|⟨x,t,rfl,rfl⟩
  ·exact wpAny_pyHash_int h
  ·exact wpAny_pyHash_str h
 eqBool:=λhu hv h=>by
  rcases wH hu with⟨i,t,rfl,rfl⟩|⟨x,t,rfl,rfl⟩
  ·rcases wH hv with⟨j,u,rfl,rfl⟩|⟨y,u,rfl,rfl⟩
   ·rw [yQA]at h;exact wpAny_eqBool_int h
   ·rw [yQC]at h;exact SeqAt.EqAt.int_str i t y u _ _ _ _ h
  ·rcases wH hv with⟨j,u,rfl,rfl⟩|⟨y,u,rfl,rfl⟩
   ·rw [yQD]at h;exact SeqAt.EqAt.str_int x t j u _ _ _ _ h
   ·rw [yQB]at h;exact wpAny_eqBool_str h
 «strs»:=λk x t v h=>by
  rcases wH h with⟨i,u,rfl,e⟩|⟨y,u,rfl,e⟩
  ·exact nomatch e
  ·injection e with e1 _
   subst e1
   cases v<;>rfl
inductive V where
 |non|bl (b:Bool)|int (i:Int)|str (x:Str)|byt (b:Array UInt8)|flt (b:UInt64)|ref (a:Addr)|ty (n:String)
 deriving DecidableEq
def RelV:V->Value->Prop
 |.non,u=>u=Value.none
 |.bl b,u=>u=Value.bool b
 |.int i,u=> ∃t,u=Value.int i t
 |.str x,u=> ∃t,u=Value.str x t
 |.byt b,u=> ∃t,u=Value.bytes b t
 |.flt b,u=> ∃t,u=Value.float b t
 |.ref a,u=>u=Value.ref a
 |.ty n,u=>u=Value.type n
abbrev Vals:List V->List Value->Prop:=Paired RelV
theorem Vals.length{xs:List V}{us:List Value}(r:Vals xs us):xs.length=us.length:=Paired.length r
theorem Vals.get: ∀{xs:List V}{us:List Value}{i:Nat}{x:V},Vals xs us->xs[i]? =some x-> ∃u,us[i]? =some u/\RelV x u
 |_,_,_,_,.nil,e=>by simp at e
 |_,_,0,_,.cons r _,e=>by simp at e;subst e;exact⟨_,rfl,r⟩
 |_,_,i+1,x,.cons _ t,e=>by
  obtain⟨u,h1,h2⟩:=Vals.get (i:=i) (x:=x) t (by simpa using e)
  exact⟨u,by simpa using h1,h2⟩
theorem Vals.set{x:V}{u:Value}(r:RelV x u): ∀{xs:List V}{us:List Value}(i:Nat),Vals xs us->Vals (xs.set i x) (us.set i u)
 |_,_,_,.nil=>.nil
 |_,_,0,.cons _ t=>.cons r t
 |_,_,i+1,.cons q t=>.cons q (Vals.set r i t)
theorem Vals.append: ∀{xs ys:List V}{us ws:List Value},Vals xs us->Vals ys ws->Vals (xs++ys) (us++ws)
 |_,_,_,_,.nil,s=>s
 |_,_,_,_,.cons r t,s=>.cons r (Vals.append t s)
theorem Vals.take: ∀{xs:List V}{us:List Value}(n:Nat),Vals xs us->Vals (xs.take n) (us.take n)
 |_,_,0,_=>.nil
 |_,_,_+1,.nil=>.nil
 |_,_,n+1,.cons r t=>.cons r (Vals.take n t)
theorem Vals.drop: ∀{xs:List V}{us:List Value}(n:Nat),Vals xs us->Vals (xs.drop n) (us.drop n)
 |_,_,0,r=>r
 |_,_,_+1,.nil=>.nil
 |_,_,n+1,.cons _ t=>Vals.drop n t
def RelO:Option V->Option Value->Prop
 |some v,some u=>RelV v u
 |none,none=>True
 |_,_=>False
def KV{κ:Type}:List (κ×V)->List (κ×Value)->Prop:=Paired λ(p:κ×V) (q:κ×Value)=>p.1=q.1/\RelV p.2 q.2
def kV:Key->V
 |.inl i=>.int i
 |.inr x=>.str x
inductive HO where
 |lst (xs:List V)
 |tup (xs:List V)
 |dK (kvs:List (Key×V))|dT (kvs:List (List Key×V))
 |set (S:Int->Bool) (n:Nat)
 |ins (C dx:Addr) (fs:List (Str×V))
 |own (x:Addr)
 |xd (fs:List (Str×V))
 |met (f x:Addr)
 |rng (lo hi:Int)
 |frz (o:Obj) (u:HO)
 |tbl (ps:Array Value)
 |ext (φ:Heap->Prop)
abbrev Hp:=Addr->Option HO
def upd(H:Hp)(a:Addr)(o:HO):Hp:=λb=>if b=a then some o else H b
theorem yB{H:Hp}{a:Addr}{o:HO}:upd H a o a=some o:=by unfold upd;rw [iP rfl]
theorem zQ{H:Hp}{a b:Addr}{o:HO}(h:b≠a):upd H a o b=H b:=by unfold upd;rw [iN0 h]
theorem yM{H:Hp}{a b:Addr}{o:HO}(h:H a=some o)(h':H b=none):a≠b:=by
 intro e;subst e;rw [h]at h';cases h'
section
variable(P:Program)(w:World)
def ObjOk(H:Hp)(h:Heap)(a:Addr):HO->Prop
 |.lst xs=>xs.length<=sizeLine/\ ∃(its:List Value)(n:Nat),Vals xs its/\h.get? a=some {cls:=.type "list",data:=.seq its.toArray n}
 |.tup xs=>xs.length<=sizeLine/\ ∃its:List Value,Vals xs its/\IsTup h a its.toArray
 |.dK kvs=>kvs.length<=sizeLine/\(a==sysModules)=false/\ ∃vs,KV kvs vs/\h.DictOf (zQM P w) a vs
 |.dT kvs=>kvs.length<=sizeLine/\(a==sysModules)=false/\ ∃xs:List (List Key×Addr×Value),
   Paired (λ(p:List Key×V) (q:List Key×Addr×Value)=>p.1=q.1/\H q.2.1=some (.tup (p.1.map kV))/\RelV p.2 q.2.2) kvs xs/\
   ∃o es ep,h.get? a=some o/\o.ExactDict/\o.data=.dict es ep/\es.toList=xs.map (entryOfKey (tupleKind (zQM P w)))/\(xs.map (·.1)).Nodup
 |.set S n=>h.SetOf (intKind P w) a S n
 |.ins C dx fs=>H dx=some (.own a)/\fs.length<=1000/\dx≠a/\h.get? a=some (PySem.W.instObj C dx)/\
   ∃mA,h.Ns1 dx mA/\(∀f,RelO (fs.lookup f) (mA f))/\PySem.Within mA (fs.map (·.1))
 |.own _=> ∃o,h.get? a=some o
 |.xd fs=> ∃mA,h.Ns1 a mA/\ ∀f,RelO (fs.lookup f) (mA f)
 |.rng lo hi=> ∃t u v,h.get? a=some {cls:=.type "range",data:=.fields #[.int lo t,.int hi u,.int 1 v]}
 |.frz o u=>h.get? a=some o/\ObjOk H h a u
 |.tbl ps=>h.get? a=some {cls:=.none,data:=.fields ps}
 |.met f x=>h.get? a=some (PySem.W.methodObj (.ref f) (.ref x))
 |.ext φ=>φ h/\(∃o,h.get? a=some o)/\ ∀h1 h2:Heap,φ h1->(∀o,h1.get? a=some o->h2.get? a=some o)->φ h2
def HOk(H:Hp)(h:Heap):Prop:= ∀a o,H a=some o->ObjOk P w H h a o
end
section
variable{P:Program}{w:World}{H H':Hp}{h h':Heap}{a:Addr}{o:HO}
theorem ObjOk.lt(x:ObjOk P w H h a o):a<h.objs.size:=by
 cases o with
 |lst xs=>obtain⟨_,_,_,_,e⟩:=x;exact Heap.lt_size e
 |tup xs=>obtain⟨_,_,_,p⟩:=x;exact p.lt
 |dK kvs=>obtain⟨_,_,_,_,o,_,_,e,_⟩:=x;exact Heap.lt_size e
 |dT kvs=>obtain⟨_,_,_,_,o,_,_,e,_⟩:=x;exact Heap.lt_size e
 |set S n=>obtain⟨o,_,_,_,e,_⟩:=x;exact Heap.lt_size e
 |ins C dx fs=>obtain⟨_,_,_,e,_⟩:=x;exact Heap.lt_size e
 |own y=>obtain⟨_,e⟩:=x;exact Heap.lt_size e
 |xd fs=>obtain⟨_,⟨_,_,_,e,_⟩,_⟩:=x;exact Heap.lt_size e
 |rng lo hi=>obtain⟨_,_,_,e⟩:=x;exact Heap.lt_size e
 |frz ob u=>obtain⟨e,_⟩:=x;exact Heap.lt_size e
 |tbl ps=>exact Heap.lt_size (show h.get? a=some _ from x)
 |met f y=>exact Heap.lt_size (show h.get? a=some _ from x)
 |ext φ=>obtain⟨_,⟨_,e⟩,_⟩:=x;exact Heap.lt_size e
theorem Paired.mapP{α β:Type}{F G:α->β->Prop}: ∀{l₁:List α}{l₂:List β},Paired F l₁ l₂->(∀a b,F a b->G a b)->Paired G l₁ l₂
 |_,_,.nil,_=>.nil
 |_,_,.cons r t,f=>.cons (f _ _ r) (Paired.mapP t f)
theorem ObjOk.stay(x:ObjOk P w H h a o)(k: ∀b u,(b=a\/H b=some (.own a))->h.get? b=some u->h'.get? b=some u)
  (ho: ∀b,H b=some (.own a)->H' b=some (.own a)) (ht: ∀b xs,H b=some (.tup xs)->H' b=some (.tup xs)):ObjOk P w H' h' a o:=by
 induction o with
 |lst xs=>obtain⟨z,its,n,r,e⟩:=x;exact⟨z,its,n,r,k _ _ (.inl rfl) e⟩
 |tup xs=>obtain⟨z,its,r,ob,e,c⟩:=x;exact⟨z,its,r,ob,k _ _ (.inl rfl) e,c⟩
 |dK kvs=>obtain⟨z,y,vs,r,ob,es,ep,e,c⟩:=x;exact⟨z,y,vs,r,ob,es,ep,k _ _ (.inl rfl) e,c⟩
 |dT kvs=>
  obtain⟨z,y,xs,r,ob,es,ep,e,c⟩:=x
  exact⟨z,y,xs,Paired.mapP r λp q z=>⟨z.1,ht _ _ z.2.1,z.2.2⟩,ob,es,ep,k _ _ (.inl rfl) e,c⟩
 |set S n=>obtain⟨ob,es,ep,t,e,c⟩:=x;exact⟨ob,es,ep,t,k _ _ (.inl rfl) e,c⟩
 |ins C dx fs=>
  obtain⟨d,z,ne,e,mA,⟨od,es,ep,e2,c⟩,r⟩:=x
  exact⟨ho _ d,z,ne,k _ _ (.inl rfl) e,mA,⟨od,es,ep,k _ _ (.inr d) e2,c⟩,r⟩
 |own y=>obtain⟨ob,e⟩:=x;exact⟨ob,k _ _ (.inl rfl) e⟩
 |xd fs=>obtain⟨mA,⟨od,es,ep,e,c⟩,r⟩:=x;exact⟨mA,⟨od,es,ep,k _ _ (.inl rfl) e,c⟩,r⟩
 |rng lo hi=>obtain⟨t,u,v,e⟩:=x;exact⟨t,u,v,k _ _ (.inl rfl) e⟩
 |frz ob u ih=>obtain⟨e,q⟩:=x;exact⟨k _ _ (.inl rfl) e,ih q⟩
 |tbl ps=>
  have e:h.get? a=some {cls:=.none,data:=.fields ps}:=x
  show h'.get? a=some {cls:=.none,data:=.fields ps}
  exact k a _ (.inl rfl) e
 |met f y=>
  have e:h.get? a=some (PySem.W.methodObj (.ref f) (.ref y)):=x
  show h'.get? a=some (PySem.W.methodObj (.ref f) (.ref y))
  exact k a _ (.inl rfl) e
 |ext φ=>obtain⟨p,⟨o,e⟩,st⟩:=x;exact⟨st _ _ p λo q=>k _ _ (.inl rfl) q,⟨o,k _ _ (.inl rfl) e⟩,st⟩
theorem HOk.lt(x:HOk P w H h)(e:H a=some o):a<h.objs.size:=(x a o e).lt
theorem HOk.fresh(x:HOk P w H h)(e:h.objs.size<=a):H a=none:=by
 cases q:H a with
 |none=>rfl
 |some u=>exact absurd (lt_of_lt_of_le (x.lt q) e) (lt_irrefl _)
theorem HOk.kept(x:HOk P w H h)(k: ∀b u,h.get? b=some u->h'.get? b=some u):HOk P w H h':=λa o e=>
 (x a o e).stay (λb u _ q=>k b u q) (λ_ q=>q) λ_ _ q=>q
theorem HOk.laid(x:HOk P w H h)(k: ∀b u,h.get? b=some u->h'.get? b=some u)(hp:h.objs.size<=a)(new:ObjOk P w (upd H a o) h' a o):HOk P w (upd H a o) h':=λb u e=>by
 have hn:=x.fresh hp
 by_cases hb:b=a
 ·subst hb;rw [yB]at e;cases e;exact new
 ·rw [zQ hb]at e
  exact(x b u e).stay (λc v _ q=>k c v q) (λc q=>by rw [zQ (yM q hn)];exact q) λc xs q=>by rw [zQ (yM q hn)];exact q
end
def Rd(H:Hp)(a:Addr)(u:HO):Prop:=H a=some u\/ ∃o,H a=some (.frz o u)
theorem Rd.ok{P:Program}{w:World}{H:Hp}{h:Heap}{a:Addr}{u:HO}(r:Rd H a u)(x:HOk P w H h):ObjOk P w H h a u:=by
 rcases r with r|⟨o,r⟩
 ·exact x a u r
 ·obtain⟨_,q⟩:=x a _ r
  exact q
def Mut:Option HO->Prop
 |some (.lst _)=>True
 |some (.dK _)=>True
 |some (.dT _)=>True
 |some (.set _ _)=>True
 |some (.ins _ _ _)=>True
 |some (.ext _)=>True
 |_=>False
section
variable{P:Program}{w:World}{H:Hp}{h h':Heap}{x e:Addr}{o':HO}
theorem HOk.write(ok:HOk P w H h)(mu:Mut (H x))(he:e=x\/H e=some (.own x))(k: ∀b u,b≠e->h.get? b=some u->h'.get? b=some u)(heo: ∃u,h'.get? e=some u)
  (new:ObjOk P w (upd H x o') h' x o'):HOk P w (upd H x o') h':=λb u q=>by
 have nown: ∀c y,H c=some (.own y)->c≠x:=λc y r z=>by subst z;rw [r]at mu;exact mu
 have ntup: ∀c xs,H c=some (.tup xs)->c≠x:=λc xs r z=>by subst z;rw [r]at mu;exact mu
 by_cases hb:b=x
 ·subst hb;rw [yB]at q;cases q;exact new
 ·rw [zQ hb]at q
  by_cases hbe:b=e
  ·have q':H b=some (.own x):=by
    rcases he with z|z
    ·exact absurd (hbe.trans z) hb
    ·rw [hbe];exact z
   rw [q]at q';cases q'
   obtain⟨v,hv⟩:=heo
   exact⟨v,by rw [hbe];exact hv⟩
  ·refine(ok b u q).stay (λc v hc r=>k c v ?_ r) (λc r=>by rw [zQ (nown c b r)];exact r) λc xs r=>by rw [zQ (ntup c xs r)];exact r
   rcases hc with rfl|hc
   ·exact hbe
   ·rintro rfl
    rcases he with z|z
    ·exact nown c b hc z
    ·rw [hc]at z;cases z;exact hb rfl
end
structure Un(fs ex:List Addr)(H H':Hp)(h h':Heap):Prop where
 keep: ∀b o,h.get? b=some o->H b=none->b∉fs->b∉ex->h'.get? b=some o
 slot: ∀b o,h.get? b=some o->H b=none->b∈fs->b∉ex-> ∃sl,h'.get? b=some {o with slots:=sl}
 free: ∀b o,h.get? b=some o->H b=none->b∉ex->H' b=none
 there: ∀b o,h.get? b=some o->b∉ex-> ∃o',h'.get? b=some o'
 tups: ∀b xs,H b=some (.tup xs)->H' b=some (.tup xs)
 frzs: ∀b o u,H b=some (.frz o u)->H' b=some (.frz o u)
 tbls: ∀b ps,H b=some (.tbl ps)-> ∃more,H' b=some (.tbl (ps++more))
section
variable{fs fs' ex ex':List Addr}{H H1 H2:Hp}{h h1 h2 h':Heap}{a x e:Addr}{o:HO}
theorem Un.any(u:Un fs ex H H1 h h1){b:Addr}{ob:Obj}(q:h.get? b=some ob)(n:H b=none)(hx:b∉ex): ∃sl,h1.get? b=some {ob with slots:=sl}:=by
 by_cases hb:b∈fs
 ·exact u.slot b ob q n hb hx
 ·exact⟨ob.slots,u.keep b ob q n hb hx⟩
theorem Un.kept(k: ∀b u,h.get? b=some u->h'.get? b=some u):Un fs ex H H h h':=
 ⟨λb ob q _ _ _=>k b ob q,λb ob q _ _ _=>⟨ob.slots,k b ob q⟩,λ_ _ _ n _=>n,λb ob q _=>⟨ob,k b ob q⟩,λ_ _ q=>q,λ_ _ _ q=>q,λ_ ps q=>⟨#[],by rw [q];simp⟩⟩
theorem Un.refl:Un fs ex H H h h:=Un.kept λ_ _ q=>q
theorem Un.laid(k: ∀b u,h.get? b=some u->h'.get? b=some u)(hp:h.objs.size<=a)(hn:H a=none):Un fs ex H (upd H a o) h h' where
 keep:=λb u q _ _ _=>k b u q
 slot:=λb u q _ _ _=>⟨u.slots,k b u q⟩
 free:=λb u q n _=>by rw [zQ (ne_of_lt (lt_of_lt_of_le (Heap.lt_size q) hp))];exact n
 there:=λb u q _=>⟨u,k b u q⟩
 tups:=λb xs q=>by rw [zQ (yM q hn)];exact q
 frzs:=λb u xs q=>by rw [zQ (yM q hn)];exact q
 tbls:=λb ps q=>⟨#[],by rw [zQ (yM q hn),q];simp⟩
theorem Un.write(mu:Mut (H x))(he:e=x\/H e=some (.own x))(k: ∀b u,b≠e->h.get? b=some u->h'.get? b=some u)(heo: ∃u,h'.get? e=some u):Un fs ex H (upd H x o) h h':=by
 have hx: ∀b,H b=none->b≠x:=λb n z=>by subst z;rw [n]at mu;exact mu
 have hb: ∀b,H b=none->b≠e:=λb n z=>by
  subst z
  rcases he with r|r
  ·exact hx b n r
  ·rw [n]at r;cases r
 have hm: ∀b u,H b=some u-> ¬Mut (some u)->b≠x:=λb u q nm z=>by subst z;rw [q]at mu;exact nm mu
 refine⟨λb u q n _ _=>k b u (hb b n) q,λb u q n _ _=>⟨u.slots,k b u (hb b n) q⟩,λb u q n _=>by rw [zQ (hx b n)];exact n,λb u q _=>?_,
  λb xs q=>by rw [zQ (hm b _ q λz=>z)];exact q,λb u xs q=>by rw [zQ (hm b _ q λz=>z)];exact q,λb ps q=>⟨#[],by rw [zQ (hm b _ q λz=>z),q];simp⟩⟩
 by_cases hbe:b=e
 ·subst hbe;exact heo
 ·exact⟨u,k b u hbe q⟩
end
def trk(h:Heap)(H:Hp):List Addr:=(List.range h.objs.size).filter λa=>(H a).isSome
def zVJ(h:Heap)(H:Hp):Heap:=PySem.W.hideAll h (trk h H)
theorem yFT(h:Heap)(H:Hp):(zVJ h H).objs.size=h.objs.size:=PySem.W.hideAll_size _ _
theorem yHS{h:Heap}{H:Hp}{b:Addr}{o:Obj}(e:h.get? b=some o)(n:H b=none):(zVJ h H).get? b=some o:=
 PySem.W.hideAll_get _ e λhm=>by
  have q:(H b).isSome=true:=(List.mem_filter.mp hm).2
  rw [n]at q;simp at q
theorem yLX{h:Heap}{H:Hp}{b:Addr}{o:Obj}(e:(zVJ h H).get? b=some o):h.get? b=some o/\H b=none:=by
 have e':h.get? b=some o:=PySem.W.of_hideAll (trk h H) e
 refine⟨e',?_⟩
 cases q:H b with
 |none=>rfl
 |some x=>
  have hm:b∈trk h H:=List.mem_filter.mpr ⟨mem_range.mpr (Heap.lt_size e'),by simp [q]⟩
  have z:(zVJ h H).get? b=none:=PySem.W.hideAll_none (trk h H) hm
  rw [z]at e;cases e
def yLY(g h:Heap)(L:Addr):List (Addr×Obj):=(List.range h.objs.size).filterMap λa=>if a=L\/(g.get? a).isSome=true then none else(h.get? a).map λo=>(a,o)
def rest(g h:Heap)(L d:Addr):List (Addr×Obj):=(yLY g h L).filter λp=>decide (p.1≠d)
structure Mod(K:PySem.W.Frag)(mg:Str->Option Value)(base:Heap):Prop where
 kin:K.In base
 glob:base.Ns mainGlobals mg
 blt: ∃mb,base.Ns builtinsNs mb/\ ∀x:Str,x≠"__name__"->mb x=bootBuiltins x
 nolimit:base.NoLimit
structure Cx where
 prog:Program
 w:World
 K:PySem.W.Frag
 mg:Str->Option Value
 base:Heap
 A:Around
 N:List Str
 s₀:Shared
 H₀:Hp
 env:Env
 outer:List Env
 stack:List Env
 ex:List Addr
 fn:Str->Bool
 calm:Bool
 pn:List (Addr×Obj)
 xe:Value->Shared->Prop
def frs(l:List Env):List Addr:=l.filterMap (·.frame)
abbrev Cx.fs(X:Cx):List Addr:=frs X.outer
def Vis(sc:Scope)(x:Str):Prop:=sc.names.lookup x=some .local\/sc.names.lookup x=some .cell\/sc.names.lookup x=some .free
def Loc(sc:Scope)(x:Str):Prop:=sc.names.lookup x=some .local\/sc.names.lookup x=some .cell
def Look(env:Env)(h:Heap)(m:Str->Option Value)(x:Str)(u:Value):Prop:=
 (env.kindOf x=some .local/\m x=some u)\/((env.kindOf x=some .cell\/env.kindOf x=some .free)/\ ∃c,env.cells.lookup x=some c/\h.IsCell c (some u))
structure Cx.Ok(X:Cx):Prop where
 mod:Mod X.K X.mg X.base
 kind:X.env.scope.kind=.function
 glob:X.env.globals=mainGlobals
 blt:X.env.builtins=builtinsNs
 above:X.s₀.heap.objs.size<=X.env.locals
 inj: ∀x y c,X.env.cells.lookup x=some c->X.env.cells.lookup y=some c->x=y
 has: ∀x,(X.env.kindOf x=some .cell\/X.env.kindOf x=some .free)-> ∃c,X.env.cells.lookup x=some c
 cab: ∀x c,X.fn x=true->X.env.cells.lookup x=some c->X.s₀.heap.objs.size<=c
 hd:X.calm=true->X.A.handled=none
 frames:X.A.frames=some X.stack
 stk:X.stack=X.outer\/(X.stack=X.env::X.outer/\X.env.frame=some X.env.locals)
 exf: ∀b∈X.ex,b≠X.env.locals/\ ∀x c,X.env.cells.lookup x=some c->c≠b
 bs: ∀b o,X.base.get? b=some o->X.s₀.heap.get? b=some o/\X.H₀ b=none
 bsz:X.base.objs.size<=X.s₀.heap.objs.size
 noex: ∀b o,X.base.get? b=some o->b∉X.ex
 exfs: ∀b∈X.ex,b∉X.fs
 funs:X.s₀.heap.FunFrames X.base X.outer
 frf: ∀b∈X.fs,X.H₀ b=none
structure Inv(X:Cx)(pins:List (Addr×Obj))(σ:List (Option V))(H:Hp)(s:Shared):Prop where
 ok:X.Ok
 os:s.os=X.s₀.os
 bare:AllBare s.gens
 base:Un X.fs X.ex X.H₀ H X.s₀.heap s.heap
 loc: ∃m,s.heap.Ns X.env.locals m/\ ∀(i:Nat)(x:Str)(v:V),X.N[i]? =some x->σ[i]? =some (some v)->Vis X.env.scope x-> ∃u,RelV v u/\Look X.env s.heap m x u
 cell: ∀x c,X.env.cells.lookup x=some c-> ∃v,s.heap.IsCell c v
 free:H X.env.locals=none
 freeC: ∀x c,X.env.cells.lookup x=some c->H c=none
 pin: ∀p∈X.pn++pins,s.heap.get? p.1=some p.2/\H p.1=none/\p.1≠X.env.locals/\p.1∉X.fs/\ ∀v,p.2.data≠.cell v
 hok:HOk X.prog X.w H s.heap
 len:σ.length=X.N.length
section
variable{X:Cx}{pins:List (Addr×Obj)}{σ:List (Option V)}{H H':Hp}{s:Shared}{h':Heap}
theorem Cx.Ok.nofr(ok:X.Ok){b:Addr}{o:Obj}(e:X.base.get? b=some o):b∉X.fs:=λhb=>by
 have:=(ok.funs.mem hb).1
 rw [e]at this;cases this
theorem Inv.bs(I:Inv X pins σ H s): ∀b o,X.base.get? b=some o->s.heap.get? b=some o/\H b=none:=λb o e=>
 ⟨I.base.keep b o (I.ok.bs b o e).1 (I.ok.bs b o e).2 (I.ok.nofr e) (I.ok.noex b o e),I.base.free b o (I.ok.bs b o e).1 (I.ok.bs b o e).2 (I.ok.noex b o e)⟩
theorem Inv.bk(I:Inv X pins σ H s): ∀b o,X.base.get? b=some o->s.heap.get? b=some o:=λb o e=>(I.bs b o e).1
theorem Inv.mod(I:Inv X pins σ H s):Mod X.K X.mg X.base:=I.ok.mod
theorem Inv.kIn(I:Inv X pins σ H s):X.K.In s.heap:=I.ok.mod.kin.keeps I.bk
theorem Inv.lt(I:Inv X pins σ H s):X.env.locals<s.heap.objs.size:=let ⟨_,hn,_⟩:=I.loc;hn.lt
theorem Inv.sz(I:Inv X pins σ H s):X.s₀.heap.objs.size<=s.heap.objs.size:=le_trans I.ok.above (le_of_lt I.lt)
theorem Inv.nofs(I:Inv X pins σ H s){a:Addr}(h:s.heap.objs.size<=a):a∉X.fs:=λhb=>by
 obtain⟨_,o,ho,_⟩:=I.ok.funs.mem hb
 exact absurd (lt_of_lt_of_le (Heap.lt_size ho) (le_trans I.sz h)) (lt_irrefl _)
theorem Inv.cne(I:Inv X pins σ H s): ∀x c,X.env.cells.lookup x=some c->c≠X.env.locals:=λx c e z=>by
 obtain⟨v,o,ho,hd⟩:=I.cell x c e
 obtain⟨m,⟨o',es,ep,ho',hd',_⟩,_⟩:=I.loc
 rw [z,ho']at ho;cases ho;rw [hd']at hd;cases hd
theorem Inv.funs(I:Inv X pins σ H s):s.heap.FunFrames X.base X.outer:=by
 have all: ∀(l:List Env),(∀b∈frs l,b∈X.fs)->X.s₀.heap.FunFrames X.base l->s.heap.FunFrames X.base l:=by
  intro l
  induction l with
  |nil=>intro _ _;trivial
  |cons env r ih=>
   intro hs hl
   obtain⟨hk,⟨L,o,hf,hn,ho,hd⟩,hr⟩:=hl
   have hL:L∈X.fs:=hs L (by unfold frs;rw [List.filterMap_cons,hf];exact mF0)
   obtain⟨sl,e⟩:=I.base.slot L o ho (I.ok.frf L hL) hL λz=>I.ok.exfs L z hL
   exact⟨hk,⟨L,_,hf,hn,e,hd⟩,ih (λb hb=>hs b (by unfold frs;rw [List.filterMap_cons,hf];exact mO _ hb)) hr⟩
 exact all X.outer (λ_ hb=>hb) I.ok.funs
theorem Inv.stack(I:Inv X pins σ H s):s.heap.FunFrames X.base X.stack:=by
 rcases I.ok.stk with e|⟨e,hf⟩
 ·rw [e];exact I.funs
 ·rw [e]
  obtain⟨m,hn,_⟩:=I.loc
  refine .cons (by rw [I.ok.kind];decide) hf hn ?_ I.funs
  exact Heap.get?_none_of_le (le_trans I.ok.bsz I.ok.above)
theorem Inv.stkSub(I:Inv X pins σ H s): ∀b∈frs X.stack,b∈X.env.locals::X.fs:=λb hb=>by
 rcases I.ok.stk with e|⟨e,hf⟩
 ·rw [e]at hb;exact mO _ hb
 ·rw [e]at hb
  unfold frs at hb
  rw [List.filterMap_cons,hf]at hb
  exact hb
theorem Inv.stkFree(I:Inv X pins σ H s): ∀b∈frs X.stack,H b=none:=λb hb=>by
 rcases mC.mp (I.stkSub b hb)with e|hb
 ·rw [e];exact I.free
 ·obtain⟨_,o,ho,_⟩:=I.ok.funs.mem hb
  exact I.base.free b o ho (I.ok.frf b hb) λz=>I.ok.exfs b z hb
theorem Inv.step{g':Array GenState}{t':Nat}{d':Drawn}{ch:List Addr}(I:Inv X pins σ H s)
  (hch: ∀b∈ch,(b∈X.ex\/X.s₀.heap.objs.size<=b)/\b≠X.env.locals/\(∀x c,X.env.cells.lookup x=some c->c≠b)/\ ∀p∈X.pn++pins,p.1≠b)
  (keep: ∀b o,b≠X.env.locals->b∉X.fs->b∉ch->s.heap.get? b=some o->H b=none->h'.get? b=some o)
  (slot: ∀b o,b≠X.env.locals->b∈X.fs->b∉ch->s.heap.get? b=some o->H b=none-> ∃sl,h'.get? b=some {o with slots:=sl}) (free: ∀b o,b∉ch->s.heap.get? b=some o->H b=none->H' b=none)
  (there: ∀b o,b∉ch->s.heap.get? b=some o-> ∃o',h'.get? b=some o')
  (tups: ∀b xs,H b=some (.tup xs)->H' b=some (.tup xs)) (frzs: ∀b o u,H b=some (.frz o u)->H' b=some (.frz o u)) (tbls: ∀b ps,H b=some (.tbl ps)-> ∃more,H' b=some (.tbl (ps++more)))
  (ns: ∀m,s.heap.Ns X.env.locals m->h'.Ns X.env.locals m) (hok:HOk X.prog X.w H' h') (hg:AllBare g'):
  Inv X pins σ H' {s with heap:=h',gens:=g',drawn:=d',toks:=t'}:=by
 have neL: ∀b o,X.s₀.heap.get? b=some o->b≠X.env.locals:=λb o e=>ne_of_lt (lt_of_lt_of_le (Heap.lt_size e) I.ok.above)
 have neC: ∀b o,X.s₀.heap.get? b=some o->b∉X.ex->b∉ch:=λb o e hx hb=>by
  rcases (hch b hb).1 with z|z
  ·exact hx z
  ·exact absurd (lt_of_lt_of_le (Heap.lt_size e) z) (lt_irrefl _)
 have cellK: ∀x c,X.env.cells.lookup x=some c-> ∀v,s.heap.IsCell c v->h'.IsCell c v:=λx c e v ⟨o,ho,hd⟩=>by
  have nch:c∉ch:=λz=>(hch c z).2.2.1 x c e rfl
  by_cases hc:c∈X.fs
  ·obtain⟨sl,q⟩:=slot c o (I.cne x c e) hc nch ho (I.freeC x c e)
   exact⟨_,q,hd⟩
  ·exact⟨o,keep c o (I.cne x c e) hc nch ho (I.freeC x c e),hd⟩
 refine⟨I.ok,I.os,hg,⟨λb o e n hb hx=>?_,λb o e n hb hx=>?_,λb o e n hx=>?_,λb o e hx=>?_,λb xs e=>tups b xs (I.base.tups b xs e),λb o xs e=>frzs b o xs (I.base.frzs b o xs e),λb ps e=>?_⟩,?_,λx c e=>?_,?_,λx c e=>?_,λp hp=>?_,hok,I.len⟩
 ·exact keep b o (neL b o e) hb (neC b o e hx) (I.base.keep b o e n hb hx) (I.base.free b o e n hx)
 ·obtain⟨sl,e1⟩:=I.base.slot b o e n hb hx
  obtain⟨sl',e2⟩:=slot b _ (neL b o e) hb (neC b o e hx) e1 (I.base.free b o e n hx)
  exact⟨sl',e2⟩
 ·obtain⟨o',e1⟩:=I.base.there b o e hx
  exact free b o' (neC b o e hx) e1 (I.base.free b o e n hx)
 ·obtain⟨o',e1⟩:=I.base.there b o e hx
  exact there b o' (neC b o e hx) e1
 ·obtain⟨m1,e1⟩:=I.base.tbls b ps e
  obtain⟨m2,e2⟩:=tbls b _ e1
  exact⟨m1++m2,by rw [e2,Array.append_assoc]⟩
 ·obtain⟨m,hn,hl⟩:=I.loc
  refine⟨m,ns m hn,λi x v e1 e2 e3=>?_⟩
  obtain⟨u,r,l⟩:=hl i x v e1 e2 e3
  refine⟨u,r,?_⟩
  rcases l with l|⟨k,c,e,z⟩
  ·exact .inl l
  ·exact .inr ⟨k,c,e,cellK x c e _ z⟩
 ·obtain⟨v,z⟩:=I.cell x c e
  exact⟨v,cellK x c e v z⟩
 ·obtain⟨m,⟨o,_,_,ho,_⟩,_⟩:=I.loc
  exact free _ o (λz=>(hch _ z).2.1 rfl) ho I.free
 ·obtain⟨v,o,ho,hd⟩:=I.cell x c e
  exact free c o (λz=>(hch c z).2.2.1 x c e rfl) ho (I.freeC x c e)
 ·obtain⟨e,n,ne,nf,d⟩:=I.pin p hp
  have nch:p.1∉ch:=λz=>(hch p.1 z).2.2.2 p hp rfl
  exact⟨keep p.1 p.2 ne nf nch e n,free p.1 p.2 nch e n,ne,nf,d⟩
theorem Inv.un{t':Nat}(I:Inv X pins σ H s)(u:Un X.fs [] H H' s.heap h')(hok:HOk X.prog X.w H' h'):Inv X pins σ H' {s with heap:=h',toks:=t'}:=by
 obtain⟨m,⟨o,es,ep,ho,r⟩,_⟩:=id I.loc
 obtain⟨sl,hL⟩:=u.any ho I.free (by simp)
 exact I.step (g':=s.gens) (d':=s.drawn) (ch:=[]) (λ_ z=>nomatch z) (λb o _ hb _ e n=>u.keep b o e n hb (by simp)) (λb o _ hb _ e n=>u.slot b o e n hb (by simp)) (λb o _ e n=>u.free b o e n (by simp)) (λb o _ e=>u.there b o e (by simp)) u.tups u.frzs u.tbls (λm' hm=>by
  obtain⟨o',es',ep',ho',r'⟩:=hm
  rw [ho]at ho';cases ho'
  exact⟨_,es',ep',hL,r'⟩) hok I.bare
theorem Inv.call{g':Array GenState}{t':Nat}{d':Drawn}{ch:List Addr}(I:Inv X pins σ H s)(u:Un (frs X.stack) ch H H' s.heap h')(hok:HOk X.prog X.w H' h')(hg:AllBare g')
  (hch: ∀b∈ch,(b∈X.ex\/X.s₀.heap.objs.size<=b)/\b≠X.env.locals/\(∀x c,X.env.cells.lookup x=some c->c≠b)/\ ∀p∈X.pn++pins,p.1≠b):
  Inv X pins σ H' {s with heap:=h',gens:=g',drawn:=d',toks:=t'}:=by
 obtain⟨m,⟨o,es,ep,ho,r⟩,_⟩:=id I.loc
 obtain⟨sl,hL⟩:=u.any ho I.free λz=>(hch _ z).2.1 rfl
 exact I.step (ch:=ch) hch (λb o hL hb hc e n=>u.keep b o e n (λz=>(mC.mp (I.stkSub b z)).elim hL hb) hc) (λb o _ _ hc e n=>u.any e n hc) (λb o hc e n=>u.free b o e n hc) (λb o hc e=>u.there b o e hc) u.tups u.frzs u.tbls (λm' hm=>by
  obtain⟨o',es',ep',ho',r'⟩:=hm
  rw [ho]at ho';cases ho'
  exact⟨_,es',ep',hL,r'⟩) hok hg
theorem Inv.turned{t':Nat}{it:Addr}(I:Inv X pins σ H s)(k: ∀b o,b≠it->s.heap.get? b=some o->h'.get? b=some o)(hn:H it=none)(hL:it≠X.env.locals)
  (h1:it∈X.ex\/X.s₀.heap.objs.size<=it) (h2: ∀x c,X.env.cells.lookup x=some c->c≠it) (h3: ∀p∈X.pn++pins,p.1≠it):Inv X pins σ H {s with heap:=h',toks:=t'}:=by
 have nit: ∀b u,H b=some u->b≠it:=λb u e z=>by rw [z,hn]at e;cases e
 refine I.step (g':=s.gens) (d':=s.drawn) (ch:=[it]) (λb hb=>?_) (λb o _ _ hc e _=>k b o (λz=>hc (by simp [z])) e) (λb o _ _ hc e _=>⟨o.slots,k b o (λz=>hc (by simp [z])) e⟩) (λ_ _ _ _ n=>n)
  (λb o hc e=>⟨o,k b o (λz=>hc (by simp [z])) e⟩) (λ_ _ e=>e) (λ_ _ _ e=>e) (λb ps e=>⟨#[],by rw [e];simp⟩) (λm hm=>?_) (λb u e=>?_) I.bare
 ·have e:b=it:=by simpa using hb
  subst e
  exact⟨h1,hL,h2,h3⟩
 ·obtain⟨o,es,ep,ho,r⟩:=hm
  exact⟨o,es,ep,k _ o (Ne.symm hL) ho,r⟩
 ·refine(I.hok b u e).stay (λc v hc q=>k c v ?_ q) (λ_ q=>q) λ_ _ q=>q
  rcases hc with z|z
  ·rw [z];exact nit b u e
  ·exact nit c _ z
theorem Inv.tok(I:Inv X pins σ H s)(t:Nat):Inv X pins σ H {s with toks:=t}:=I.un (h':=s.heap) (t':=t) Un.refl I.hok
theorem Inv.kept{t':Nat}(I:Inv X pins σ H s)(k: ∀b u,s.heap.get? b=some u->h'.get? b=some u):Inv X pins σ H {s with heap:=h',toks:=t'}:=I.un (Un.kept k) (I.hok.kept k)
theorem Inv.laid{a:Addr}{o:HO}{t':Nat}(I:Inv X pins σ H s)(k: ∀b u,s.heap.get? b=some u->h'.get? b=some u)(hp:s.heap.objs.size<=a)(new:ObjOk X.prog X.w (upd H a o) h' a o):
  Inv X pins σ (upd H a o) {s with heap:=h',toks:=t'}:=I.un (Un.laid k hp (I.hok.fresh hp)) (I.hok.laid k hp new)
theorem Inv.write{x e:Addr}{o:HO}{t':Nat}(I:Inv X pins σ H s)(mu:Mut (H x))(he:e=x\/H e=some (.own x))(k: ∀b u,b≠e->s.heap.get? b=some u->h'.get? b=some u)(heo: ∃u,h'.get? e=some u)
  (new:ObjOk X.prog X.w (upd H x o) h' x o):Inv X pins σ (upd H x o) {s with heap:=h',toks:=t'}:=I.un (Un.write mu he k heo) (I.hok.write mu he k heo new)
theorem Inv.pins_of{pins':List (Addr×Obj)}(I:Inv X pins σ H s)(h: ∀p∈pins',s.heap.get? p.1=some p.2/\H p.1=none/\p.1≠X.env.locals/\p.1∉X.fs/\ ∀v,p.2.data≠.cell v):Inv X pins' σ H s:=
 ⟨I.ok,I.os,I.bare,I.base,I.loc,I.cell,I.free,I.freeC,λp hp=>(mem_append.mp hp).elim (λz=>I.pin p (mem_append_left _ z)) (h p),I.hok,I.len⟩
theorem zRH{N:List Str}(hN:N.Nodup){i j:Nat}{x:Str}(a:N[i]? =some x)(b:N[j]? =some x):i=j:=by
 obtain⟨h1,e1⟩:=gS0.mp a
 obtain⟨h2,e2⟩:=gS0.mp b
 exact(getElem_inj hN).mp (e1.trans e2.symm)
theorem zUD{M:Model}{A:Around}{E:Value->Shared->Prop}{i:Nat}{x:Str}{v:V}{u:Value}{Q:Unit->Shared->Prop}(I:Inv X pins σ H s)(hN:X.N.Nodup)(hi:X.N[i]? =some x)(hx:Loc X.env.scope x)(r:RelV v u)
  (h: ∀s',Inv X pins (σ.set i (some v)) H s'->(∃a,Heap.SameBut a s.heap s'.heap/\(a=X.env.locals\/X.env.cells.lookup x=some a))->Q () s') (hf:X.fn x=true\/X.env.scope.names.lookup x=some .local:=by first |exact .inl rfl|exact .inr rfl|assumption):wpAny M A (storeName X.env x u) Q E s:=by
 obtain⟨m,hn,hl⟩:=id I.loc
 have hcls:(X.env.scope.kind==.class || (X.env.scope.kind==.module&&X.env.locals !=X.env.globals))=false:=by rw [I.ok.kind];rfl
 have hiσ:i<σ.length:=by rw [I.len];exact(gS0.mp hi).1
 have cne:=I.cne
 have tracked: ∀{a:Addr}{h':Heap},(∃o,s.heap.get? a=some o/\H a=none)->Heap.SameBut a s.heap h'->HOk X.prog X.w H h':=λ{a h'} ha hs b ob e=>by
  obtain⟨_,_,hfree⟩:=ha
  refine(I.hok b ob e).stay (λc w' hc q=>(hs.2 c ?_).trans q) (λ_ q=>q) λ_ _ q=>q
  rintro rfl
  rcases hc with rfl|hc
  ·rw [hfree]at e;cases e
  ·rw [hfree]at hc;cases hc
 rcases hx with hk|hk
 ·refine wpAny_storeName_local hk hn (λh' hn' hs=>?_) hcls
  obtain⟨oL,_,_,hoL,_⟩:=id hn
  refine h _ ⟨I.ok,I.os,I.bare,⟨λb o e n hb hx=>?_,λb o e n hb hx=>?_,I.base.free,λb o e hx=>?_,I.base.tups,I.base.frzs,I.base.tbls⟩,⟨_,hn',λj y v' e1 e2 e3=>?_⟩,λy c e=>?_,I.free,I.freeC,λp hp=>?_,tracked ⟨oL,hoL,I.free⟩ hs,by simpa using I.len⟩ ⟨_,hs,.inl rfl⟩
  ·exact(hs.2 b (ne_of_lt (lt_of_lt_of_le (Heap.lt_size e) I.ok.above))).trans (I.base.keep b o e n hb hx)
  ·obtain⟨sl,e1⟩:=I.base.slot b o e n hb hx
   exact⟨sl,(hs.2 b (ne_of_lt (lt_of_lt_of_le (Heap.lt_size e) I.ok.above))).trans e1⟩
  ·obtain⟨o',e1⟩:=I.base.there b o e hx
   exact⟨o',(hs.2 b (ne_of_lt (lt_of_lt_of_le (Heap.lt_size e) I.ok.above))).trans e1⟩
  ·by_cases hj:j=i
   ·subst hj
    rw [hi]at e1;cases e1
    rw [getElem?_set_self hiσ]at e2
    cases e2
    exact⟨u,r,.inl ⟨hk,by simp⟩⟩
   ·rw [getElem?_set_ne (Ne.symm hj)]at e2
    obtain⟨u',r',q⟩:=hl j y v' e1 e2 e3
    refine⟨u',r',?_⟩
    rcases q with⟨k,e⟩|⟨k,c,e,z⟩
    ·refine .inl ⟨k,?_⟩
     have:y≠x:=λe=>hj (zRH hN e1 (e▸hi))
     simp [this,e]
    ·exact .inr ⟨k,c,e,z.sameBut hs (cne y c e)⟩
  ·obtain⟨w',z⟩:=I.cell y c e
   exact⟨w',z.sameBut hs (cne y c e)⟩
  ·obtain⟨e,n,ne,nf,d⟩:=I.pin p hp
   exact⟨(hs.2 p.1 ne).trans e,n,ne,nf,d⟩
 ·have hfn:X.fn x=true:=by
   rcases hf with z|z
   ·exact z
   ·rw [z]at hk;cases hk
  obtain⟨c,hc⟩:=I.ok.has x (.inl hk)
  obtain⟨w',z⟩:=I.cell x c hc
  refine wpAny_storeName_cell I.ok.kind hk hc z (λh' hc' hs=>?_)
  obtain⟨oc,hoc,hocd⟩:=id z
  refine h {s with heap:=h'} ⟨I.ok,I.os,I.bare,⟨λb o e n hb hx=>?_,λb o e n hb hx=>?_,I.base.free,λb o e hx=>?_,I.base.tups,I.base.frzs,I.base.tbls⟩,⟨m,hn.sameBut hs (Ne.symm (cne x c hc)),λj y v' e1 e2 e3=>?_⟩,λy c' e=>?_,I.free,I.freeC,λp hp=>?_,tracked ⟨oc,hoc,I.freeC x c hc⟩ hs,by simpa using I.len⟩ ⟨c,hs,.inr hc⟩
  ·exact(hs.2 b (ne_of_lt (lt_of_lt_of_le (Heap.lt_size e) (I.ok.cab x c hfn hc)))).trans (I.base.keep b o e n hb hx)
  ·obtain⟨sl,e1⟩:=I.base.slot b o e n hb hx
   exact⟨sl,(hs.2 b (ne_of_lt (lt_of_lt_of_le (Heap.lt_size e) (I.ok.cab x c hfn hc)))).trans e1⟩
  ·obtain⟨o',e1⟩:=I.base.there b o e hx
   exact⟨o',(hs.2 b (ne_of_lt (lt_of_lt_of_le (Heap.lt_size e) (I.ok.cab x c hfn hc)))).trans e1⟩
  ·by_cases hj:j=i
   ·subst hj
    rw [hi]at e1;cases e1
    rw [getElem?_set_self hiσ]at e2
    cases e2
    exact⟨u,r,.inr ⟨.inl hk,c,hc,hc'⟩⟩
   ·rw [getElem?_set_ne (Ne.symm hj)]at e2
    obtain⟨u',r',q⟩:=hl j y v' e1 e2 e3
    refine⟨u',r',?_⟩
    rcases q with q|⟨k,c',e,z'⟩
    ·exact .inl q
    ·refine .inr ⟨k,c',e,z'.sameBut hs ?_⟩
     rintro rfl
     exact hj (zRH hN e1 (I.ok.inj _ _ _ e hc▸hi))
  ·by_cases hcc:c'=c
   ·subst hcc;exact⟨_,hc'⟩
   ·obtain⟨w2,z2⟩:=I.cell y c' e
    exact⟨w2,z2.sameBut hs hcc⟩
  ·obtain⟨e,n,ne,nf,d⟩:=I.pin p hp
   refine⟨(hs.2 p.1 ?_).trans e,n,ne,nf,d⟩
   intro q
   rw [q,hoc]at e
   have q':oc=p.2:=Option.some.inj e
   exact d w' (by rw [<-q'];exact hocd)
theorem zRI{M:Model}{A:Around}{E:Value->Shared->Prop}{i:Nat}{x:Str}{v:V}{u:Value}{Q:Unit->Shared->Prop}(I:Inv X pins σ H s)(hN:X.N.Nodup)(hi:X.N[i]? =some x)(hx:Loc X.env.scope x)(r:RelV v u)
  (h: ∀s',Inv X pins (σ.set i (some v)) H s'->Q () s') (hf:X.fn x=true\/X.env.scope.names.lookup x=some .local:=by first |exact .inl rfl|exact .inr rfl|assumption):wpAny M A (storeName X.env x u) Q E s:=
 zUD I hN hi hx r (λs' I' _=>h s' I') hf
theorem Inv.call'{s':Shared}{ch:List Addr}(I:Inv X pins σ H s)(ho:s'.os=s.os)(u:Un (frs X.stack) ch H H' s.heap s'.heap)(hok:HOk X.prog X.w H' s'.heap)(hg:AllBare s'.gens)
  (hch: ∀b∈ch,(b∈X.ex\/X.s₀.heap.objs.size<=b)/\b≠X.env.locals/\(∀x c,X.env.cells.lookup x=some c->c≠b)/\ ∀p∈X.pn++pins,p.1≠b):Inv X pins σ H' s':=by
 obtain⟨h',g',d',t',o'⟩:=s'
 have e:o'=s.os:=ho
 subst e
 exact I.call (g':=g') (t':=t') (d':=d') u hok hg hch
end
abbrev XK:=Value->Option Addr->Hp->Prop
abbrev St:=List (Option V)
abbrev VK:=V->Hp->Prop
abbrev TE:=St->Hp->VK->Prop
abbrev TT:=St->Hp->(Bool->Hp->Prop)->Prop
abbrev TA:=St->Hp->(List V->Hp->Prop)->Prop
structure Ends where
 nx:St->Hp->Prop
 rt:VK
 bk:St->Hp->Prop:=λ_ _=>False
 ct:St->Hp->Prop:=λ_ _=>False
abbrev TS:=Ends->St->Hp->Prop
def EP(X:Cx)(pins:List (Addr×Obj))(σ:St)(Q:VK)(u:Value)(s':Shared):Prop:= ∃v H',Inv X pins σ H' s'/\RelV v u/\Q v H'
def TP(X:Cx)(pins:List (Addr×Obj))(σ:St)(Q:Bool->Hp->Prop)(b:Bool)(s':Shared):Prop:= ∃H',Inv X pins σ H' s'/\Q b H'
def AP(X:Cx)(pins:List (Addr×Obj))(σ:St)(Q:List V->Hp->Prop)(us:List Value)(s':Shared):Prop:= ∃vs H',Inv X pins σ H' s'/\Vals vs us/\Q vs H'
def SP(X:Cx)(pins:List (Addr×Obj))(D:Ends)(f:Flow)(s':Shared):Prop:=
 match f with
 |.next=> ∃σ' H',Inv X pins σ' H' s'/\D.nx σ' H'
 |.brk=> ∃σ' H',Inv X pins σ' H' s'/\D.bk σ' H'
 |.cont=> ∃σ' H',Inv X pins σ' H' s'/\D.ct σ' H'
 |.ret u=> ∃v σ' H',Inv X pins σ' H' s'/\RelV v u/\D.rt v H'
def PE(X:Cx)(e:Expr)(t:TE):Prop:=
 ∀(pins:List (Addr×Obj))(s:Shared)(σ:St)(H:Hp)(Q:VK),Inv X pins σ H s->t σ H Q->wpAny (model X.prog X.w) X.A (eval e X.env) (EP X pins σ Q) X.xe s
def PT(X:Cx)(e:Expr)(t:TT):Prop:=
 ∀(pins:List (Addr×Obj))(s:Shared)(σ:St)(H:Hp)(Q:Bool->Hp->Prop),Inv X pins σ H s->t σ H Q->wpAny (model X.prog X.w) X.A (isTrue e X.env (eval e X.env)) (TP X pins σ Q) X.xe s
def PW(X:Cx)(e:Expr)(t:TT):Prop:=
 ∀(whole:Sem Value)(pins:List (Addr×Obj))(s:Shared)(σ:St)(H:Hp)(Q:Bool->Hp->Prop),Inv X pins σ H s->t σ H Q->wpAny (model X.prog X.w) X.A (isTrue e X.env whole) (TP X pins σ Q) X.xe s
theorem PW.pt{X:Cx}{e:Expr}{t:TT}(h:PW X e t):PT X e t:=h _
def PA(X:Cx)(es:List Expr)(t:TA):Prop:=
 ∀(pos:Pos)(pins:List (Addr×Obj))(s:Shared)(σ:St)(H:Hp)(Q:List V->Hp->Prop),Inv X pins σ H s->t σ H Q->wpAny (model X.prog X.w) X.A (spliced (backTo pos (starEach es X.env))) (AP X pins σ Q) X.xe s
def PS(X:Cx)(st:Stmt)(t:TS):Prop:=
 ∀(pins:List (Addr×Obj))(s:Shared)(σ:St)(H:Hp)(D:Ends),Inv X pins σ H s->t D σ H->wpAny (model X.prog X.w) X.A (exec st X.env) (SP X pins D) X.xe s
def PSs(X:Cx)(st:List Stmt)(t:TS):Prop:=
 ∀(pins:List (Addr×Obj))(s:Shared)(σ:St)(H:Hp)(D:Ends),Inv X pins σ H s->t D σ H->wpAny (model X.prog X.w) X.A (execs st X.env) (SP X pins D) X.xe s
theorem thn{α:Type}{t:Sem α}{Q Q':α->Shared->Prop}{M:Model}{A:Around}{E:Value->Shared->Prop}{s:Shared}(h:wpAny M A t Q E s)(hQ: ∀a s,Q a s->Q' a s):wpAny M A t Q' E s:=wpAny_mono h hQ λ_ _ x=>x
section
variable{X:Cx}
def tVar(i:Nat):TE:=λσ H Q=> ∃v,σ[i]? =some (some v)/\Q v H
def tC(v:V):TE:=λ_ H Q=>Q v H
theorem zRJ{i:Nat}{x:Str}{pos:Pos}(hN:X.N[i]? =some x)(hv:Vis X.env.scope x)(hd:(x==("__debug__":Str))=false:=by decide)(hcd:(x==("__classdict__":Str))=false:=by decide):PE X (.Name x pos) (tVar i):=by
 intro pins s σ H Q I h
 obtain⟨v,e,h⟩:=h
 obtain⟨m,hn,hl⟩:=I.loc
 obtain⟨u,r,l⟩:=hl i x v hN e hv
 have fin:EP X pins σ Q u s:=⟨v,H,I,r,h⟩
 rcases l with⟨hk,hm⟩|⟨hk,c,hc,hcell⟩
 ·exact wpAny_Name (wpAny_loadName_local I.ok.kind hk hn hm fin) hd
 ·rcases hk with hk|hk
  ·exact wpAny_Name (wpAny_loadName_cell I.ok.kind hk hc hcell fin) hd
  ·exact wpAny_Name (wpAny_loadName_free I.ok.kind hk hc hcell fin hcd) hd
theorem yHT{i j pos}:PE X (.Constant (.int i) j pos) (tC (.int i)):=λ_ _ _ H _ I h=>wpAny_Constant_int ⟨.int i,H,I.tok _,⟨_,rfl⟩,h⟩
theorem pe_bl{b j pos}:PE X (.Constant (.bool b) j pos) (tC (.bl b)):=λ_ _ _ H _ I h=>Constant_bool ⟨.bl b,H,I,rfl,h⟩
theorem yQE{j pos}:PE X (.Constant .none j pos) (tC .non):=λ_ _ _ H _ I h=>Constant_none ⟨.non,H,I,rfl,h⟩
theorem yHU{x j pos}:PE X (.Constant (.str x) j pos) (tC (.str x)):=λ_ _ _ H _ I h=>Calls.Constant_str ⟨.str x,H,I.tok _,⟨_,rfl⟩,h⟩
def Gl(X:Cx)(x:Str):Prop:=X.env.kindOf x=some .globalImplicit
theorem zDR{E:Value->Shared->Prop}{pins:List (Addr×Obj)}{s:Shared}{σ:St}{H:Hp}{x:Str}{u:Value}{pos:Pos}{Q:Value->Shared->Prop}(I:Inv X pins σ H s)(hg:Gl X x)(hm:X.mg x=some u)(h:Q u s)
  (hd:(x==("__debug__":Str))=false:=by decide):wpAny (model X.prog X.w) X.A (eval (.Name x pos) X.env) Q E s:=
 Calls.Name_function_global I.ok.kind hg (Calls.loadGlobal_global (by rw [I.ok.glob];exact I.mod.glob.keeps I.bk) hm h) hd
theorem zOD{E:Value->Shared->Prop}{pins:List (Addr×Obj)}{s:Shared}{σ:St}{H:Hp}{x:Str}{u:Value}{pos:Pos}{Q:Value->Shared->Prop}(I:Inv X pins σ H s)(hg:Gl X x)(hm:X.mg x=none)(hv:bootBuiltins x=some u)(h:Q u s)
  (hn:x≠"__name__":=by decide) (hd:(x==("__debug__":Str))=false:=by decide):wpAny (model X.prog X.w) X.A (eval (.Name x pos) X.env) Q E s:=by
 obtain⟨mb,h1,h2⟩:=I.mod.blt
 exact Calls.Name_function_global I.ok.kind hg (Calls.loadGlobal_builtin (by rw [I.ok.glob];exact I.mod.glob.keeps I.bk) hm (by rw [I.ok.blt];exact h1.keeps I.bk) ((h2 x hn).trans hv) h) hd
theorem zVK{x:Str}{v:V}{u:Value}{pos:Pos}(hg:Gl X x)(hm:X.mg x=some u)(r:RelV v u)(hd:(x==("__debug__":Str))=false:=by decide):PE X (.Name x pos) (tC v):=
 λ_ _ _ H _ I h=>zDR I hg hm ⟨v,H,I,r,h⟩ hd
theorem yDF{x:Str}{v:V}{u:Value}{pos:Pos}(hg:Gl X x)(hm:X.mg x=none)(hv:bootBuiltins x=some u)(r:RelV v u)(hn:x≠"__name__":=by decide)(hd:(x==("__debug__":Str))=false:=by decide):PE X (.Name x pos) (tC v):=
 λ_ _ _ H _ I h=>zOD I hg hm hv ⟨v,H,I,r,h⟩ hn hd
variable{a b:Expr}{ta tb:TE}{pos:Pos}
variable{tA tB':TT}{rest:List Expr}
def tAnd(t u:TT):TT:=λσ H Q=>t σ H λc H1=>if c=true then u σ H1 Q else Q false H1
def tOr(t u:TT):TT:=λσ H Q=>t σ H λc H1=>if c=true then Q true H1 else u σ H1 Q
def tNot(t:TT):TT:=λσ H Q=>t σ H λc H1=>Q (!c) H1
theorem yLZ(ha:PT X a tA):PW X (.BoolOp .And [a] pos) tA:=by
 intro wh pins s σ H Q I h
 refine isTrue_and (thn (ha pins s σ H Q I h) λc s1 e=>?_)
 cases c with
 |true=>exact isTrue_and_nil e
 |false=>exact e
theorem yQF(ha:PT X a tA):PW X (.BoolOp .Or [a] pos) tA:=by
 intro wh pins s σ H Q I h
 refine isTrue_or (thn (ha pins s σ H Q I h) λc s1 e=>?_)
 cases c with
 |false=>exact isTrue_or_nil e
 |true=>exact e
theorem yQG(ha:PT X a tA)(hb:PW X (.BoolOp .And (b::rest) pos) tB'):PW X (.BoolOp .And (a::b::rest) pos) (tAnd tA tB'):=by
 intro wh pins s σ H Q I h
 refine isTrue_and (thn (ha pins s σ H _ I h) λc s1 ⟨H1,I1,q1⟩=>?_)
 cases c with
 |true=>exact hb wh pins s1 σ H1 Q I1 q1
 |false=>exact⟨H1,I1,q1⟩
theorem pw_or(ha:PT X a tA)(hb:PW X (.BoolOp .Or (b::rest) pos) tB'):PW X (.BoolOp .Or (a::b::rest) pos) (tOr tA tB'):=by
 intro wh pins s σ H Q I h
 refine isTrue_or (thn (ha pins s σ H _ I h) λc s1 ⟨H1,I1,q1⟩=>?_)
 cases c with
 |true=>exact⟨H1,I1,q1⟩
 |false=>exact hb wh pins s1 σ H1 Q I1 q1
theorem yQH(ha:PT X a tA):PT X (.UnaryOp .Not a pos) (tNot tA):=by
 intro pins s σ H Q I h
 exact isTrue_not (ha pins s σ H (λc H1=>Q (!c) H1) I h)
def tAndV(ta tb:TE):TE:=λσ H Q=>ta σ H λx H1=> ∃c,x=.bl c/\if c=true then tb σ H1 Q else Q (.bl false) H1
def tOrV(ta tb:TE):TE:=λσ H Q=>ta σ H λx H1=> ∃c,x=.bl c/\if c=true then Q (.bl true) H1 else tb σ H1 Q
def tNotV(ta:TE):TE:=λσ H Q=>ta σ H λx H1=> ∃c,x=.bl c/\Q (.bl (!c)) H1
theorem yQI{op}{t:TE}(h:PE X a t):PE X (.BoolOp op [a] pos) t:=λpins s σ H Q I hw=>BoolOp_one (h pins s σ H Q I hw)
theorem yQJ(ha:PE X a ta)(hb:PE X (.BoolOp .And (b::rest) pos) tb):PE X (.BoolOp .And (a::b::rest) pos) (tAndV ta tb):=by
 intro pins s σ H Q I h
 refine BoolOp_and (thn (ha pins s σ H _ I h) λv s1 ⟨x,H1,I1,r1,q1⟩=>?_)
 obtain⟨c,rfl,q1⟩:=q1
 cases r1
 refine wpAny_truthy_bool ?_
 cases c with
 |true=>exact hb pins s1 σ H1 Q I1 q1
 |false=>exact⟨.bl false,H1,I1,rfl,q1⟩
theorem pe_or(ha:PE X a ta)(hb:PE X (.BoolOp .Or (b::rest) pos) tb):PE X (.BoolOp .Or (a::b::rest) pos) (tOrV ta tb):=by
 intro pins s σ H Q I h
 refine BoolOp_or (thn (ha pins s σ H _ I h) λv s1 ⟨x,H1,I1,r1,q1⟩=>?_)
 obtain⟨c,rfl,q1⟩:=q1
 cases r1
 refine wpAny_truthy_bool ?_
 cases c with
 |false=>exact hb pins s1 σ H1 Q I1 q1
 |true=>exact⟨.bl true,H1,I1,rfl,q1⟩
theorem yQK(ha:PE X a ta):PE X (.UnaryOp .Not a pos) (tNotV ta):=by
 intro pins s σ H Q I h
 refine UnaryOp_ (thn (ha pins s σ H _ I h) λv s1 ⟨x,H1,I1,r1,q1⟩=>?_)
 obtain⟨c,rfl,q1⟩:=q1
 cases r1
 exact not_of (wpAny_truthy_bool ⟨.bl (!c),H1,I1,rfl,q1⟩)
end
def SqL(K:PySem.W.Frag)(H:Hp)(a:Addr)(xs:List V):Prop:=
 Rd H a (.lst xs)\/
  ∃(o:Obj)(its:Array Value)(n:Nat),K.lookup a=some o/\o.cls=.type "list"/\o.dict=none/\o.data=.seq its n/\its.size<=sizeLine/\Vals xs its.toList
def SqT(K:PySem.W.Frag)(H:Hp)(a:Addr)(xs:List V):Prop:=
 Rd H a (.tup xs)\/
  ∃(o:Obj)(its:Array Value)(n:Nat),K.lookup a=some o/\o.cls=.type "tuple"/\o.data=.seq its n/\its.size<=sizeLine/\Vals xs its.toList
def absV:Value->Option V
 |.none=>some .non
 |.bool b=>some (.bl b)
 |.int i _=>some (.int i)
 |.str x _=>some (.str x)
 |.bytes b _=>some (.byt b)
 |.float b _=>some (.flt b)
 |.ref a=>some (.ref a)
 |.type n=>some (.ty n)
 |_=>none
theorem RelV.abs{x:V}{u:Value}(r:RelV x u):absV u=some x:=by
 cases x with
 |non=>cases r;rfl
 |bl _=>cases r;rfl
 |int _=>obtain⟨t,rfl⟩:=r;rfl
 |str _=>obtain⟨t,rfl⟩:=r;rfl
 |byt _=>obtain⟨t,rfl⟩:=r;rfl
 |flt _=>obtain⟨t,rfl⟩:=r;rfl
 |ref _=>cases r;rfl
 |ty _=>cases r;rfl
theorem RelV.inj{x y:V}{u:Value}(r:RelV x u)(q:RelV y u):x=y:=Option.some.inj (r.abs.symm.trans q.abs)
theorem Vals.inj: ∀{xs ys:List V}{us:List Value},Vals xs us->Vals ys us->xs=ys
 |_,_,_,.nil,.nil=>rfl
 |_,_,_,.cons r t,.cons r' t'=>by rw [r.inj r',Vals.inj t t']
section
variable{X:Cx}{pins:List (Addr×Obj)}{σ:St}{H:Hp}{s:Shared}{a:Addr}{xs ys:List V}
theorem SqL.of{K:PySem.W.Frag}(h:H a=some (.lst xs)):SqL K H a xs:=.inl (.inl h)
theorem SqT.of{K:PySem.W.Frag}(h:H a=some (.tup xs)):SqT K H a xs:=.inl (.inl h)
theorem Inv.list(I:Inv X pins σ H s)(h:SqL X.K H a xs): ∃its:List Value,Vals xs its/\PlainL s.heap a its.toArray/\xs.length<=sizeLine:=by
 rcases h with h|⟨o,its,n,hk,hc,hd,hs,hz,r⟩
 ·obtain⟨z,its,n,r,e⟩:=h.ok I.hok
  exact⟨its,r,⟨_,n,e,rfl,rfl,rfl⟩,z⟩
 ·refine⟨its.toList,r,⟨o,n,I.kIn a o hk,hc,hd,by simpa using hs⟩,?_⟩
  have e:=r.length
  simp only [Array.length_toList]at e
  omega
theorem Inv.tuple(I:Inv X pins σ H s)(h:SqT X.K H a xs): ∃its:List Value,Vals xs its/\IsTup s.heap a its.toArray/\xs.length<=sizeLine:=by
 rcases h with h|⟨o,its,n,hk,hc,hs,hz,r⟩
 ·obtain⟨z,its,r,p⟩:=h.ok I.hok
  exact⟨its,r,p,z⟩
 ·refine⟨its.toList,r,⟨o,I.kIn a o hk,hc,n,by simpa using hs⟩,?_⟩
  have e:=r.length
  simp only [Array.length_toList]at e
  omega
theorem Inv.list_inj(I:Inv X pins σ H s)(h:SqL X.K H a xs)(h':SqL X.K H a ys):xs=ys:=by
 obtain⟨its,r,⟨o,n,e,_,_,d⟩,_⟩:=I.list h
 obtain⟨its',r',⟨o',n',e',_,_,d'⟩,_⟩:=I.list h'
 rw [e]at e';cases e'
 rw [d]at d'
 injection d' with d1 _
 have:its=its':=by simpa using congrArg Array.toList d1
 subst this
 exact r.inj r'
theorem Inv.tuple_inj(I:Inv X pins σ H s)(h:SqT X.K H a xs)(h':SqT X.K H a ys):xs=ys:=by
 obtain⟨its,r,⟨o,e,_,n,d⟩,_⟩:=I.tuple h
 obtain⟨its',r',⟨o',e',_,n',d'⟩,_⟩:=I.tuple h'
 rw [e]at e';cases e'
 rw [d]at d'
 injection d' with d1 _
 have:its=its':=by simpa using congrArg Array.toList d1
 subst this
 exact r.inj r'
end
abbrev Cx.wish(X:Cx)(E:Value->Shared->Prop):Cx:={X with xe:=E}
abbrev Cx.nox(X:Cx):Cx:=X.wish λ_ _=>False
theorem Cx.Ok.wish{X:Cx}(ok:X.Ok)(E:Value->Shared->Prop):(X.wish E).Ok:=
 ⟨ok.mod,ok.kind,ok.glob,ok.blt,ok.above,ok.inj,ok.has,ok.cab,ok.hd,ok.frames,ok.stk,ok.exf,ok.bs,ok.bsz,ok.noex,ok.exfs,ok.funs,ok.frf⟩
theorem Cx.Ok.unwish{X:Cx}{E:Value->Shared->Prop}(ok:(X.wish E).Ok):X.Ok:=
 ⟨ok.mod,ok.kind,ok.glob,ok.blt,ok.above,ok.inj,ok.has,ok.cab,ok.hd,ok.frames,ok.stk,ok.exf,ok.bs,ok.bsz,ok.noex,ok.exfs,ok.funs,ok.frf⟩
section
variable{X:Cx}{pins:List (Addr×Obj)}{σ:St}{H:Hp}{s:Shared}{E:Value->Shared->Prop}
theorem Inv.wish(I:Inv X pins σ H s)(E:Value->Shared->Prop):Inv (X.wish E) pins σ H s:=⟨I.ok.wish E,I.os,I.bare,I.base,I.loc,I.cell,I.free,I.freeC,I.pin,I.hok,I.len⟩
theorem Inv.unwish(I:Inv (X.wish E) pins σ H s):Inv X pins σ H s:=⟨I.ok.unwish,I.os,I.bare,I.base,I.loc,I.cell,I.free,I.freeC,I.pin,I.hok,I.len⟩
theorem SP.unwish{D:Ends}{f:Flow}{s':Shared}(h:SP (X.wish E) pins D f s'):SP X pins D f s':=by
 cases f with
 |next=>obtain⟨σ',H',I,q⟩:=h;exact⟨σ',H',I.unwish,q⟩
 |brk=>obtain⟨σ',H',I,q⟩:=h;exact⟨σ',H',I.unwish,q⟩
 |cont=>obtain⟨σ',H',I,q⟩:=h;exact⟨σ',H',I.unwish,q⟩
 |ret u=>obtain⟨v,σ',H',I,r,q⟩:=h;exact⟨v,σ',H',I.unwish,r,q⟩
theorem PSs.nox{st:List Stmt}{t:TS}(h:PSs X.nox st t):PSs X st t:=λpins s σ H D I hw=>
 wpAny_mono (h pins s σ H D (I.wish _) hw) (λ_ _ q=>q.unwish) λ_ _ z=>False.elim z
end
section
variable{X:Cx}{st:Stmt}{rest:List Stmt}{t u:TS}{e:Expr}{te:TE}{pos:Pos}
def tNext:TS:=λD σ H=>D.nx σ H
def tSeq(t u:TS):TS:=λD σ H=>t {D with nx:=u D} σ H
theorem yMA:PSs X [] tNext:=λ_ _ σ H _ I h=>wpAny_execs_nil ⟨σ,H,I,h⟩
theorem yHV(h1:PS X st t)(h2:PSs X rest u):PSs X (st::rest) (tSeq t u):=by
 intro pins s σ H D I h
 refine wpAny_execs_cons (thn (h1 pins s σ H {D with nx:=u D} I h) λf s1 q=>?_)
 cases f with
 |next=>
  obtain⟨σ',H',I',q⟩:=q
  exact h2 pins s1 σ' H' D I' q
 |ret v=>exact q
 |brk=>exact q
 |cont=>exact q
theorem yMB(h1:PS X st t):PSs X [st] t:=by
 intro pins s σ H D I h
 refine wpAny_execs_cons (thn (h1 pins s σ H D I h) λf s1 q=>?_)
 cases f with
 |next=>exact wpAny_execs_nil q
 |ret v=>exact q
 |brk=>exact q
 |cont=>exact q
theorem Inv.quiet{pins:List (Addr×Obj)}{σ:St}{H:Hp}{s:Shared}(I:Inv X pins σ H s):interactive X.env=false:=by simp [interactive,I.ok.kind]
def tDrop(te:TE):TS:=λD σ H=>te σ H λ_ H1=>D.nx σ H1
theorem yMC(he:PE X e te)(hs:swapsWith e none pos.line X.env=pure false:=by rfl):PS X (.Expr e pos) (tDrop te):=by
 intro pins s σ H D I h
 exact wpAny_Expr_any (thn (he pins s σ H _ I h) λv s1 ⟨x,H1,I1,r1,q1⟩=>⟨σ,H1,I1,q1⟩) I.quiet hs
def tRet(te:TE):TS:=λD σ H=>te σ H D.rt
theorem yQL(he:PE X e te):PS X (.Return (some e) pos) (tRet te):=by
 intro pins s σ H D I h
 exact wpAny_Return_some (thn (he pins s σ H _ I h) λv s1 ⟨x,H1,I1,r1,q1⟩=>⟨x,σ,H1,I1,r1,q1⟩)
def tIfS(c:TT)(t u:TS):TS:=λD σ H=>c σ H λb H1=>if b=true then t D σ H1 else u D σ H1
theorem ps_if{c:Expr}{a b:List Stmt}{tc:TT}(hc:PT X c tc)(ha:PSs X a t)(hb:PSs X b u):PS X (.If c a b pos) (tIfS tc t u):=by
 intro pins s σ H D I h
 refine wpAny_If (thn (hc pins s σ H _ I h) λd s1 ⟨H1,I1,q1⟩=>?_)
 cases d with
 |true=>exact ha pins s1 σ H1 D I1 q1
 |false=>exact hb pins s1 σ H1 D I1 q1
end
abbrev TG:=V->St->Hp->(St->Hp->Prop)->Prop
abbrev TGs:=List V->St->Hp->(St->Hp->Prop)->Prop
def PG(X:Cx)(target:Expr)(t:TG):Prop:=
 ∀(pins:List (Addr×Obj))(s:Shared)(σ:St)(H:Hp)(v:V)(u:Value)(Q:St->Hp->Prop),Inv X pins σ H s->RelV v u->t v σ H Q->
  wpAny (model X.prog X.w) X.A (assign target X.env u) (λ_ s'=> ∃σ' H',Inv X pins σ' H' s'/\Q σ' H') X.xe s
def PGs(X:Cx)(ts:List Expr)(t:TGs):Prop:=
 ∀(pins:List (Addr×Obj))(s:Shared)(σ:St)(H:Hp)(vs:List V)(us:List Value)(Q:St->Hp->Prop),Inv X pins σ H s->Vals vs us->t vs σ H Q->
  wpAny (model X.prog X.w) X.A (assignInOrder ((assignEach ts X.env).map (·.2)) us) (λ_ s'=> ∃σ' H',Inv X pins σ' H' s'/\Q σ' H') X.xe s
abbrev TSet:=V->V->V->Hp->(Hp->Prop)->Prop
def PSet(X:Cx)(t:TSet):Prop:=
 ∀(pins:List (Addr×Obj))(s:Shared)(σ:St)(H:Hp)(o i v:V)(ov iv u:Value)(Q:Hp->Prop),Inv X pins σ H s->RelV o ov->RelV i iv->RelV v u->t o i v H Q->
  wpAny (model X.prog X.w) X.A (setItem ov iv u) (λ_ s'=> ∃H',Inv X pins σ H' s'/\Q H') X.xe s
section
variable{X:Cx}{pos:Pos}
def yHW(i:Nat):TG:=λv σ H Q=>Q (σ.set i (some v)) H
theorem yDG{i:Nat}{x:Str}(hN:X.N.Nodup)(hi:X.N[i]? =some x)(hx:Loc X.env.scope x)(hf:X.fn x=true\/X.env.scope.names.lookup x=some .local:=by first |exact .inl rfl|exact .inr rfl|assumption):PG X (.Name x pos) (yHW i):=by
 intro pins s σ H v u Q I r h
 exact wpAny_assign_Name (zRI I hN hi hx r (λs' I'=>⟨_,H,I',h⟩) hf)
def gNil:TGs:=λvs σ H Q=>vs=[]/\Q σ H
def gCons(t:TG)(u:TGs):TGs:=λvs σ H Q=> ∃v r,vs=v::r/\t v σ H λσ' H'=>u r σ' H' Q
theorem yDH:PGs X [] gNil:=by
 intro pins s σ H vs us Q I r h
 obtain⟨e,h⟩:=h
 subst e
 cases r
 exact assignInOrder_nil ⟨σ,H,I,h⟩
theorem zXY{e:Expr}{es:List Expr}{t:TG}{u:TGs}(h1:PG X e t)(h2:PGs X es u)
  (hs:(assignEach (e::es) X.env).map (·.2)=assign e X.env::(assignEach es X.env).map (·.2):=by rfl):PGs X (e::es) (gCons t u):=by
 intro pins s σ H vs us Q I r h
 obtain⟨v,vr,e1,h⟩:=h
 subst e1
 cases r with
 |cons r rr=>
  rw [hs]
  refine assignInOrder_cons (thn (h1 pins s σ H _ _ _ I r h) λ_ s1 ⟨σ1,H1,I1,q1⟩=>?_)
  exact h2 pins s1 σ1 H1 _ _ Q I1 rr q1
def gTup(K:PySem.W.Frag)(n:Nat)(t:TGs):TG:=λv σ H Q=> ∃a xs,v=.ref a/\SqT K H a xs/\xs.length=n/\t xs σ H Q
theorem yHX{es:List Expr}{k:Nat}{t:TGs}{n:Nat}(hc:X.calm=true)(h:PGs X es t)
  (hn:(assignEach es X.env).length=n:=by rfl) (hst:(assignEach es X.env).findIdx? (·.1)=none:=by rfl):PG X (.Tuple es k pos) (gTup X.K n t):=by
 intro pins s σ H v u Q I r hw
 obtain⟨a,xs,e1,hq,hl,hw⟩:=hw
 subst e1
 cases r
 obtain⟨its,rv,ht,hz⟩:=I.tuple hq
 refine assign_Tuple_tuple (I.ok.hd hc) ht (by simp [hn, <-hl,rv.length]) hst λh' hx=>?_
 have I1:Inv X pins σ H {s with heap:=h'}:=I.kept (t':=s.toks) λb o e=>hx b o (ne_of_lt (Heap.lt_size e)) e
 exact h pins _ σ H xs _ Q I1 (by simpa using rv) hw
def gSub(to ti:TE)(t:TSet):TG:=λv σ H Q=>to σ H λo H1=>ti σ H1 λi H2=>t o i v H2 λH3=>Q σ H3
theorem yHY{o i:Expr}{to ti:TE}{t:TSet}(ho:PE X o to)(hi:PE X i ti)(hs:PSet X t)
  (ha: ∀v,assign (.Subscript o i pos) X.env v=(do
   let ov <-holding [v] (eval o X.env)
   let iv <-holding [v,ov] (eval i X.env)
   standAt pos
   holding [v,ov,iv] (setItem ov iv v)
   release [v,ov,iv] []):=by intro _;rfl):PG X (.Subscript o i pos) (gSub to ti t):=by
 intro pins s σ H v u Q I r h
 rw [ha]
 refine wB0 (wpAny_holding (thn (ho pins s σ H _ I h) λov s1 ⟨x,H1,I1,r1,q1⟩=>?_))
 refine wB0 (wpAny_holding (thn (hi pins s1 σ H1 _ I1 q1) λiv s2 ⟨y,H2,I2,r2,q2⟩=>?_))
 refine wB0 (wpAny_standAt (wB0 (wpAny_holding (thn (hs pins s2 σ H2 x y v ov iv u _ I2 r1 r2 r q2) λ_ s3 ⟨H3,I3,q3⟩=>?_))))
 exact wpAny_release ⟨σ,H3,I3,q3⟩
def tAsg(te:TE)(g:TG):TS:=λD σ H=>te σ H λx H1=>g x σ H1 D.nx
theorem yQM{tg e:Expr}{te:TE}{g:TG}(he:PE X e te)(hg:PG X tg g)(hs:swapsWithSole [tg] e pos.line X.env=pure false:=by rfl)(hw:swappedStores [tg] e X.env=pure none:=by rfl)
  (h1:(assignEach [tg] X.env).map (·.2)=[assign tg X.env]:=by rfl):PS X (.Assign [tg] e pos) (tAsg te g):=by
 intro pins s σ H D I h
 refine wpAny_Assign_stores (thn (he pins s σ H _ I h) λv s1 ⟨x,H1,I1,r1,q1⟩=>?_) hs hw
 rw [h1]
 exact thn (hg pins s1 σ H1 x v _ I1 r1 q1) λ_ s2 q=>q
theorem yQN{i:Nat}{x:Str}{e:Expr}{te:TE}{pos':Pos}(hN:X.N.Nodup)(hi:X.N[i]? =some x)(hx:Loc X.env.scope x)(he:PE X e te)(hs:swapsWith e (some (.Name x pos')) pos.line X.env=pure false:=by rfl)(hf:X.fn x=true\/X.env.scope.names.lookup x=some .local:=by first |exact .inl rfl|exact .inr rfl|assumption):
  PS X (.Assign [.Name x pos'] e pos) (tAsg te (yHW i)):=by
 intro pins s σ H D I h
 refine wpAny_Assign_Name (thn (he pins s σ H _ I h) λv s1 ⟨y,H1,I1,r1,q1⟩=>?_) hs
 exact zRI I1 hN hi hx r1 (λs2 I2=>⟨_,H1,I2,q1⟩) hf
end
structure It where
 go:Nat->Hp->Prop
 yld:Nat->Hp->V->Hp->Prop
 stop:Nat->Hp->Prop
def zMU(X:Cx)(pins:List (Addr×Obj))(H:Hp)(b:Addr):Prop:=
 H b=none/\b≠X.env.locals/\b∉X.fs/\(b∈X.ex\/X.s₀.heap.objs.size<=b)/\(∀x c,X.env.cells.lookup x=some c->c≠b)/\ ∀p∈X.pn++pins,p.1≠b
theorem Inv.fpOk{X:Cx}{pins:List (Addr×Obj)}{σ:St}{H H':Hp}{s:Shared}{b:Addr}(I:Inv X pins σ H s)(hb:s.heap.objs.size<=b)(hn:H' b=none):zMU X pins H' b:=by
 refine⟨hn,ne_of_gt (lt_of_lt_of_le I.lt hb),I.nofs hb,.inr (le_trans I.sz hb),λx c e z=>?_,λp hp z=>?_⟩
 ·obtain⟨v,q⟩:=I.cell x c e
  exact absurd (lt_of_lt_of_le q.lt (by rw [z];exact hb)) (lt_irrefl _)
 ·exact absurd (lt_of_lt_of_le (Heap.lt_size (I.pin p hp).1) (by rw [z];exact hb)) (lt_irrefl _)
structure Turn(P:Program)(w:World)(K:PySem.W.Frag)(tg:Expr)(J:It)(fp:List Addr)(it:Addr)(tn:Nat->Heap->Prop):Prop where
 mem:it∈fp
 obj: ∀i h,tn i h-> ∀b∈fp, ∃o,h.get? b=some o/\ ∀v,o.data≠.cell v
 keep: ∀i h h',tn i h->(∀b∈fp, ∀o,h.get? b=some o->h'.get? b=some o)->tn i h'
 item: ∀(X:Cx),X.prog=P->X.w=w->X.K=K->X.calm=true-> ∀(i:Nat)(pins:List (Addr×Obj))(s:Shared)(σ:St)(H:Hp)(E:Value->Shared->Prop),Inv X pins σ H s->(∀b∈fp,zMU X pins H b)->tn i s.heap->J.go i H->
  wpAny (model P w) X.A (pyNext (.ref it)) (λr s1=> ∃u,r=some u/\
   wpAny (model P w) X.A (letOwnedTupleGo tg (.ref it) u) (λ_ s2=> ∃x H',Inv X pins σ H' s2/\RelV x u/\J.yld i H x H'/\tn (i+1) s2.heap/\ ∀b∈fp,H' b=none) E s1) E s
 done: ∀(X:Cx),X.prog=P->X.w=w->X.K=K->X.calm=true-> ∀(i:Nat)(pins:List (Addr×Obj))(s:Shared)(σ:St)(H:Hp)(E:Value->Shared->Prop),Inv X pins σ H s->(∀b∈fp,zMU X pins H b)->tn i s.heap->J.stop i H->
  wpAny (model P w) X.A (pyNext (.ref it)) (λr s1=>r=none/\Inv X pins σ H s1) E s
 self: ∀(A:Around)(i:Nat)(s:Shared)(Q:Value->Shared->Prop)(E:Value->Shared->Prop),tn i s.heap->Q (.ref it) s->wpAny (model P w) A (pyIter (.ref it)) Q E s
abbrev TI:=St->Hp->(It->Hp->Prop)->Prop
def PIE(X:Cx)(pins:List (Addr×Obj))(σ:St)(tg:Expr)(R:It->Hp->Prop)(itv:Value)(s2:Shared):Prop:=
 ∃(it:Addr)(fp:List Addr)(tn:Nat->Heap->Prop)(J:It)(H':Hp),itv=.ref it/\Inv X pins σ H' s2/\Turn X.prog X.w X.K tg J fp it tn/\tn 0 s2.heap/\(∀b∈fp,zMU X pins H' b)/\R J H'
def PI(X:Cx)(tg iter:Expr)(wi:TI):Prop:=
 ∀(pins:List (Addr×Obj))(s:Shared)(σ:St)(H:Hp)(R:It->Hp->Prop),Inv X pins σ H s->wi σ H R->
  wpAny (model X.prog X.w) X.A (eval iter X.env) (λv s1=>wpAny (model X.prog X.w) X.A (pyIter v) (PIE X pins σ tg R) X.xe s1) X.xe s
theorem yDI{M:Model}{A:Around}{E:Value->Shared->Prop}{s:Shared}{tg:Expr}{it:Addr}{u:Value}{o:Obj}{n:String}{vs:Array Value}{Q:Unit->Shared->Prop}(ho:s.heap.get? it=some o)(hc:o.cls=.type n)(hd:o.data=.fields vs)
  (hn:["enumerate","zip","dict_itemiterator","dict_reverseitemiterator","odict_iterator","itertools.zip_longest","itertools.pairwise"].contains n=false) (hQ:Q () s):wpAny M A (letOwnedTupleGo tg (.ref it) u) Q E s:=by
 unfold letOwnedTupleGo
 cases tg<;>first
  |exact wP0 hQ
  |(cases u<;>first
    |exact wP0 hQ
    |(refine wB0 (wpAny_load ho ?_)
      rw [hc,hd]
      show wpAny M A (if(["enumerate","zip","dict_itemiterator","dict_reverseitemiterator","odict_iterator","itertools.zip_longest","itertools.pairwise"].contains n&&vs[0]? ==some (rawInt _))=true then _ else _) Q E s
      rw [iN0 (by intro h;rw [hn,Bool.false_and]at h;cases h)]
      exact wP0 hQ))
def Itl(K:PySem.W.Frag)(a:Addr):It:=
 ⟨λi H=> ∃xs x,SqL K H a xs/\xs[i]? =some x,λi H x H'=>H'=H/\ ∀xs,SqL K H a xs->xs[i]? =some x,λi H=> ∃xs,SqL K H a xs/\xs.length<=i⟩
def Itt(K:PySem.W.Frag)(a:Addr):It:=
 ⟨λi H=> ∃xs x,SqT K H a xs/\xs[i]? =some x,λi H x H'=>H'=H/\ ∀xs,SqT K H a xs->xs[i]? =some x,λi H=> ∃xs,SqT K H a xs/\xs.length<=i⟩
def Itr(lo:Int)(n:Nat):It:=⟨λi _=>i<n,λi H x H'=>H'=H/\x=.int (lo+i),λi _=>n<=i⟩
theorem yFU{P:Program}{w:World}{K:PySem.W.Frag}{tg:Expr}(a it:Addr):Turn P w K tg (Itl K a) [it] it (λi h=>h.IsListIter it a i) where
 mem:=by simp
 obj:=λi h st b hb=>by
  have e:b=it:=by simpa using hb
  subst e
  obtain⟨o,e,c,d⟩:=st
  exact⟨o,e,λv z=>by rw [d]at z;cases z⟩
 keep:=λi h h' st k=>st.at λo e=>k it (by simp) o e
 item:=by
  intro X hP hw hK hc i pins s σ H E I hf st hg
  subst hP hw hK
  obtain⟨xs,x,hq,hx⟩:=hg
  obtain⟨its,rv,p,hz⟩:=I.list hq
  obtain⟨u,hu,ru⟩:=rv.get hx
  obtain⟨f0,f1,f2,f3,f4,f5⟩:=hf it (by simp)
  refine wpAny_pyNext_list_item st p.isList (x:=u) (by simpa using hu) λh' st' sb=>?_
  have I1:Inv X pins σ H {s with heap:=h'}:=I.turned (t':=s.toks) (λb o hb e=>(sb.2 b hb).trans e) f0 f1 f3 f4 f5
  obtain⟨o,e,c,d⟩:=id st'
  exact⟨u,rfl,yDI (s:={s with heap:=h'}) e c d (by decide) ⟨x,H,I1,ru,⟨rfl,λys hy=>by rw [I.list_inj hy hq];exact hx⟩,st',λb hb=>(hf b hb).1⟩⟩
 done:=by
  intro X hP hw hK hc i pins s σ H E I hf st hg
  subst hP hw hK
  obtain⟨xs,hq,hx⟩:=hg
  obtain⟨its,rv,p,hz⟩:=I.list hq
  obtain⟨f0,f1,f2,f3,f4,f5⟩:=hf it (by simp)
  have hl:=rv.length
  exact wpAny_pyNext_list_end (I.ok.hd hc) st p.isList (by simp;omega) λh' eb=>⟨rfl,I.turned (t':=s.toks) (λb o hb e=>eb b o hb e) f0 f1 f3 f4 f5⟩
 self:=λ_ _ _ _ _ st h=>wpAny_pyIter_listiter st h
theorem yAO{P:Program}{w:World}{K:PySem.W.Frag}{tg:Expr}(a it:Addr):Turn P w K tg (Itt K a) [it] it (λi h=>h.IsTupleIter it a i) where
 mem:=by simp
 obj:=λi h st b hb=>by
  have e:b=it:=by simpa using hb
  subst e
  obtain⟨o,e,c,d⟩:=st
  exact⟨o,e,λv z=>by rw [d]at z;cases z⟩
 keep:=λi h h' st k=>st.at λo e=>k it (by simp) o e
 item:=by
  intro X hP hw hK hc i pins s σ H E I hf st hg
  subst hP hw hK
  obtain⟨xs,x,hq,hx⟩:=hg
  obtain⟨its,rv,p,hz⟩:=I.tuple hq
  obtain⟨u,hu,ru⟩:=rv.get hx
  obtain⟨f0,f1,f2,f3,f4,f5⟩:=hf it (by simp)
  refine wpAny_pyNext_tuple_item st (show s.heap.IsTuple a its.toArray from p) (x:=u) (by simpa using hu) λh' st' sb=>?_
  have I1:Inv X pins σ H {s with heap:=h'}:=I.turned (t':=s.toks) (λb o hb e=>(sb.2 b hb).trans e) f0 f1 f3 f4 f5
  obtain⟨o,e,c,d⟩:=id st'
  exact⟨u,rfl,yDI (s:={s with heap:=h'}) e c d (by decide) ⟨x,H,I1,ru,⟨rfl,λys hy=>by rw [I.tuple_inj hy hq];exact hx⟩,st',λb hb=>(hf b hb).1⟩⟩
 done:=by
  intro X hP hw hK hc i pins s σ H E I hf st hg
  subst hP hw hK
  obtain⟨xs,hq,hx⟩:=hg
  obtain⟨its,rv,p,hz⟩:=I.tuple hq
  obtain⟨f0,f1,f2,f3,f4,f5⟩:=hf it (by simp)
  have hl:=rv.length
  exact wpAny_pyNext_tuple_end (I.ok.hd hc) st (show s.heap.IsTuple a its.toArray from p) (by simp;omega) λh' eb=>⟨rfl,I.turned (t':=s.toks) (λb o hb e=>eb b o hb e) f0 f1 f3 f4 f5⟩
 self:=λ_ _ _ _ _ st h=>wpAny_pyIter_tupleiter st h
theorem yAP{P:Program}{w:World}{K:PySem.W.Frag}{tg:Expr}(it:Addr)(lo:Int)(n:Nat):Turn P w K tg (Itr lo n) [it] it (λi h=>IsRangeIter h it (lo+(i:Nat) * 1) ((n:Int) - (i:Nat)) 1) where
 mem:=by simp
 obj:=λi h st b hb=>by
  have e:b=it:=by simpa using hb
  subst e
  exact⟨_,st,λv z=>by
   have z':Data.fields _=Data.cell v:=z
   cases z'⟩
 keep:=λi h h' st k=>k it (by simp) _ st
 item:=by
  intro X hP hw hK hc i pins s σ H E I hf st hg
  subst hP hw hK
  obtain⟨f0,f1,f2,f3,f4,f5⟩:=hf it (by simp)
  have W:=Walks.range (prog:=X.prog) (w:=X.w) (I.ok.hd hc) it lo 1 n
  refine W.item i s _ _ hg st λv h' tk hv st' kk=>?_
  obtain⟨t,rfl⟩:=hv
  have I1:Inv X pins σ H {s with heap:=h',toks:=tk}:=I.turned (λb o hb e=>kk b o (by simpa using hb) e) f0 f1 f3 f4 f5
  refine⟨_,rfl,yDI (s:={s with heap:=h',toks:=tk}) (n:="range_iterator") st' rfl rfl (by decide) ⟨.int (lo+i),H,I1,⟨t,?_⟩,⟨rfl,rfl⟩,st',λb hb=>(hf b hb).1⟩⟩
  rw [Int.mul_one]
 done:=by
  intro X hP hw hK hc i pins s σ H E I hf st hg
  subst hP hw hK
  obtain⟨f0,f1,f2,f3,f4,f5⟩:=hf it (by simp)
  exact wpAny_pyNext_range_end (I.ok.hd hc) st (by have:n<=i:=hg;omega) λh' eb=>⟨rfl,I.turned (t':=s.toks) (λb o hb e=>eb b o hb e) f0 f1 f3 f4 f5⟩
 self:=λ_ _ _ _ _ st h=>wpAny_pyIter_rangeiter st h
section
variable{X:Cx}{tg:Expr}
def iList(K:PySem.W.Frag)(tl:TE):TI:=λσ H R=>tl σ H λx H1=> ∃a,x=.ref a/\(∃xs,SqL K H1 a xs)/\R (Itl K a) H1
def iTup(K:PySem.W.Frag)(tl:TE):TI:=λσ H R=>tl σ H λx H1=> ∃a,x=.ref a/\(∃xs,SqT K H1 a xs)/\R (Itt K a) H1
theorem yMD{l:Expr}{tl:TE}(hl:PE X l tl):PI X tg l (iList X.K tl):=by
 intro pins s σ H R I h
 refine thn (hl pins s σ H _ I h) λv s1 ⟨x,H1,I1,r1,q1⟩=>?_
 obtain⟨a,e,⟨xs,hq⟩,q⟩:=q1
 subst e
 cases r1
 obtain⟨its,rv,p,hz⟩:=I1.list hq
 refine wpAny_pyIter_list p.isList ?_
 refine⟨s1.heap.objs.size,[s1.heap.objs.size],_,_,H1,rfl,I1.kept (t':=s1.toks) λb o e=>hP00 _ e,yFU a _,⟨_,Heap.get?_push_size _ rfl,rfl,rfl⟩,λb hb=>?_,q⟩
 have e:b=s1.heap.objs.size:=by simpa using hb
 subst e
 exact I1.fpOk (le_refl _) (I1.hok.fresh (le_refl _))
theorem yQO{l:Expr}{tl:TE}(hl:PE X l tl):PI X tg l (iTup X.K tl):=by
 intro pins s σ H R I h
 refine thn (hl pins s σ H _ I h) λv s1 ⟨x,H1,I1,r1,q1⟩=>?_
 obtain⟨a,e,⟨xs,hq⟩,q⟩:=q1
 subst e
 cases r1
 obtain⟨its,rv,p,hz⟩:=I1.tuple hq
 refine wpAny_pyIter_tuple (show s1.heap.IsTuple a its.toArray from p) ?_
 refine⟨s1.heap.objs.size,[s1.heap.objs.size],_,_,H1,rfl,I1.kept (t':=s1.toks) λb o e=>hP00 _ e,yAO a _,⟨_,Heap.get?_push_size _ rfl,rfl,rfl⟩,λb hb=>?_,q⟩
 have e:b=s1.heap.objs.size:=by simpa using hb
 subst e
 exact I1.fpOk (le_refl _) (I1.hok.fresh (le_refl _))
theorem yHZ{pins:List (Addr×Obj)}{σ:St}{H:Hp}{s:Shared}{R:It->Hp->Prop}{E:Value->Shared->Prop}{lo hi:Int}{t u v:Tok}{tk:Nat}(I:Inv X pins σ H s)(h1: -(2 ^ 62)<=lo)(h2:lo<2 ^ 62)(h3: -(2 ^ 62)<=hi)(h4:hi<2 ^ 62)
  (q:R (Itr lo (hi - lo).toNat) H):wpAny (model X.prog X.w) X.A (pyIter (.ref s.heap.objs.size)) (PIE X pins σ tg R) E {s with heap:=s.heap.push {cls:=.type "range",data:=.fields #[.int lo t,.int hi u,.int 1 v]},toks:=tk}:=by
 refine wpAny_pyIter_range (IsRange.new ..) (small_one h1 h2 h3 h4) ?_
 have I1:Inv X pins σ H {s with heap:=s.heap.push {cls:=.type "range",data:=.fields #[.int lo t,.int hi u,.int 1 v]},toks:=tk}:=I.kept λb o e=>hP00 _ e
 refine⟨(s.heap.push {cls:=.type "range",data:=.fields #[.int lo t,.int hi u,.int 1 v]}).objs.size,[(s.heap.push {cls:=.type "range",data:=.fields #[.int lo t,.int hi u,.int 1 v]}).objs.size],_,_,H,rfl,
  I1.kept (t':=tk) λb o e=>hP00 _ e,yAP _ lo (hi - lo).toNat,?_,λb hb=>?_,q⟩
 ·have e1:lo+((0:Nat):Int) * 1=lo:=by simp
  have e2:(((hi - lo).toNat:Nat):Int) - ((0:Nat):Int)=Builtin.Range.rangeSize lo hi 1:=by rw [rangeSize_one];split<;>omega
  show IsRangeIter _ _ (lo+((0:Nat):Int) * 1) ((((hi - lo).toNat:Nat):Int) - ((0:Nat):Int)) 1
  rw [e1,e2]
  exact Heap.get?_push_size _ rfl
 ·have e:b=(s.heap.push {cls:=.type "range",data:=.fields #[.int lo t,.int hi u,.int 1 v]}).objs.size:=by simpa using hb
  subst e
  exact I1.fpOk (le_refl _) (I1.hok.fresh (le_refl _))
def iRng1(ta:TA):TI:=λσ H R=>ta σ H λvs H1=> ∃j:Int,vs=[.int j]/\ -(2 ^ 62)<=j/\j<2 ^ 62/\R (Itr 0 j.toNat) H1
theorem yFV{a:Expr}{ta:TA}{p pos:Pos}(hg:Gl X "range")(hm:X.mg "range"=none)(ha:PA X [a] ta)(hs:starEach [a] X.env=[(false,eval a X.env)]:=by rfl):PI X tg (.Call (.Name "range" p) [a] [] pos) (iRng1 ta):=by
 intro pins s σ H R I h
 refine Call_ (zOD I hg hm boot_range (PyProof.Rows.callWith_type1 (thn (ha pos pins s σ H _ I h) λus s1 ⟨vs,H1,I1,r1,q1⟩=>?_) hs rfl))
 obtain⟨j,e,q1,q2,q⟩:=q1
 subst e
 cases r1 with
 |cons r rr=>
  cases rr
  obtain⟨t,rfl⟩:=r
  exact call_range_1 (yHZ I1 (by omega) (by omega) q1 q2 (by simpa using q))
def tFor(wi:TI)(g:TG)(tb:TS):TS:=λD σ H=>wi σ H λJ H1=> ∃W:Nat->Nat->St->Hp->Prop,(∃m,W 0 m σ H1)/\ ∀i m σ H,W i m σ H->
 (J.stop i H/\D.nx σ H)\/(J.go i H/\ ∃N:St->Hp->Prop,(∀σ' H',N σ' H'-> ∃m',m'<m/\W (i+1) m' σ' H')/\ ∀x H',J.yld i H x H'->g x σ H' λσ2 H2=>tb {D with nx:=N,ct:=N,bk:=D.nx} σ2 H2)
def zOE(fp:List Addr)(h:Heap):List (Addr×Obj):=fp.filterMap λb=>(h.get? b).map λo=>(b,o)
theorem zLO{fp:List Addr}{h:Heap}{b:Addr}{o:Obj}(hb:b∈fp)(e:h.get? b=some o):(b,o)∈zOE fp h:=List.mem_filterMap.mpr ⟨b,hb,by rw [e];rfl⟩
theorem yFW{fp:List Addr}{h:Heap}{p:Addr×Obj}(hp:p∈zOE fp h):p.1∈fp/\h.get? p.1=some p.2:=by
 obtain⟨b,hb,e⟩:=List.mem_filterMap.mp hp
 cases q:h.get? b with
 |none=>rw [q]at e;cases e
 |some o=>
  rw [q]at e
  have e':(b,o)=p:=Option.some.inj e
  subst e'
  exact⟨hb,q⟩
theorem Inv.pinned{pins:List (Addr×Obj)}{σ:St}{H:Hp}{s:Shared}{fp:List Addr}(I:Inv X pins σ H s)(hf: ∀b∈fp,zMU X pins H b)(ho: ∀b∈fp, ∃o,s.heap.get? b=some o/\ ∀v,o.data≠.cell v):Inv X (pins++zOE fp s.heap) σ H s:=
 I.pins_of λp hp=>(mem_append.mp hp).elim (λz=>I.pin p (mem_append_right _ z)) λz=>by
  obtain⟨hb,e⟩:=yFW z
  obtain⟨f0,f1,f2,_⟩:=hf p.1 hb
  obtain⟨o,e',d⟩:=ho p.1 hb
  rw [e]at e';cases e'
  exact⟨e,f0,f1,f2,d⟩
theorem Inv.unpinned{pins pl:List (Addr×Obj)}{σ:St}{H:Hp}{s:Shared}(I:Inv X (pins++pl) σ H s):Inv X pins σ H s:=I.pins_of λp hp=>I.pin p (mem_append_right _ (mem_append_left _ hp))
theorem yQP{iter:Expr}{body:List Stmt}{wi:TI}{g:TG}{tb:TS}{pos:Pos}(hp:PassesOwn (model X.prog X.w) X.A X.env X.xe)(hc:X.calm=true)(hi:PI X tg iter wi)(hg:PG X tg g)(hb:PSs X body tb)
  (hs: ∀x,foldedSetIterable iter X.env x=pure x:=by intro _;rfl):PS X (.For tg iter body [] pos) (tFor wi g tb):=by
 intro pins s σ H D I h
 refine wpAny_For (thn (hi pins s σ H _ I h) λv s1 h1=>thn h1 λitv s2 h2=>?_) hs
 obtain⟨it,fp,tn,J,H2,e,I2,T,st2,f2,W,⟨m0,w0⟩,turn⟩:=h2
 subst e
 have stat: ∀{H':Hp},(∀b∈fp,H' b=none)-> ∀b∈fp,zMU X pins H' b:=λhn b hb=>⟨hn b hb,(f2 b hb).2⟩
 refine codeAny_forLoop_any (λn s'=> ∃i σ' H',Inv X pins σ' H' s'/\tn i s'.heap/\(∀b∈fp,H' b=none)/\W i n σ' H') ?_ m0 ⟨0,σ,H2,I2,st2,λb hb=>(f2 b hb).1,w0⟩
 rintro n s3 ⟨i,σ3,H3,I3,st3,fr3,w3⟩
 rcases turn i n σ3 H3 w3 with⟨stop,qn⟩|⟨go,N,hN,step⟩
 ·refine wpAny_passesOwn hp (thn (T.done X rfl rfl rfl hc i pins s3 σ3 H3 X.xe I3 (stat fr3) st3 stop) λr s4 ⟨hr,I4⟩=>?_)
  subst hr
  exact wpAny_execs_nil ⟨σ3,H3,I4,qn⟩
 ·refine wpAny_passesOwn hp (thn (T.item X rfl rfl rfl hc i pins s3 σ3 H3 X.xe I3 (stat fr3) st3 go) λr s4 ⟨u,hr,h4⟩=>?_)
  subst hr
  refine wpAny_passesOwn hp (thn h4 λ_ s5 ⟨x,H5,I5,r5,y5,st5,fr5⟩=>?_)
  have I5':=I5.pinned (stat fr5) (T.obj _ _ st5)
  refine wpAny_passesOwn hp (thn (hg _ s5 σ3 H5 x u _ I5' r5 (step x H5 y5)) λ_ s6 ⟨σ6,H6,I6,q6⟩=>?_)
  refine wpAny_passesOwn hp (thn (hb _ s6 σ6 H6 _ I6 q6) λf s7 q7=>?_)
  have again: ∀{σ7:St}{H7:Hp},Inv X (pins++zOE fp s5.heap) σ7 H7 s7->N σ7 H7-> ∃m,m<n/\ ∃i σ' H',Inv X pins σ' H' s7/\tn i s7.heap/\(∀b∈fp,H' b=none)/\W i m σ' H':=λ{σ7 H7} I7 n7=>by
   obtain⟨m',hm,w7⟩:=hN σ7 H7 n7
   refine⟨m',hm,i+1,σ7,H7,I7.unpinned,T.keep _ _ _ st5 λb hb o e=>(I7.pin (b,o) (mem_append_right _ (mem_append_right _ (zLO hb e)))).1,λb hb=>?_,w7⟩
   obtain⟨o,e,d⟩:=T.obj _ _ st5 b hb
   exact(I7.pin (b,o) (mem_append_right _ (mem_append_right _ (zLO hb e)))).2.1
  cases f with
  |next=>obtain⟨σ7,H7,I7,n7⟩:=q7;exact again I7 n7
  |cont=>obtain⟨σ7,H7,I7,n7⟩:=q7;exact again I7 n7
  |brk=>obtain⟨σ7,H7,I7,q7⟩:=q7;exact⟨σ7,H7,I7.unpinned,q7⟩
  |ret v=>obtain⟨x7,σ7,H7,I7,r7,q7⟩:=q7;exact⟨x7,σ7,H7,I7.unpinned,r7,q7⟩
end
abbrev R2:=V->V->Hp->VK->Prop
def OpR(X:Cx)(f:Value->Value->Sem Value)(r:R2):Prop:=
 ∀(pins:List (Addr×Obj))(s:Shared)(σ:St)(H:Hp)(x y:V)(v u:Value)(Q:VK),Inv X pins σ H s->RelV x v->RelV y u->r x y H Q->
  wpAny (model X.prog X.w) X.A (f v u) (EP X pins σ Q) X.xe s
def UnR(X:Cx)(f:Value->Sem Value)(r:V->Hp->VK->Prop):Prop:=
 ∀(pins:List (Addr×Obj))(s:Shared)(σ:St)(H:Hp)(x:V)(v:Value)(Q:VK),Inv X pins σ H s->RelV x v->r x H Q->
  wpAny (model X.prog X.w) X.A (f v) (EP X pins σ Q) X.xe s
def CallR(X:Cx)(f:Value)(r:List V->Hp->VK->Prop):Prop:=
 ∀(pins:List (Addr×Obj))(s:Shared)(σ:St)(H:Hp)(xs:List V)(us:List Value)(Q:VK),Inv X pins σ H s->Vals xs us->r xs H Q->
  wpAny (model X.prog X.w) X.A (call f us) (EP X pins σ Q) X.xe s
def TruR(X:Cx)(r:V->Hp->(Bool->Hp->Prop)->Prop):Prop:=
 ∀(pins:List (Addr×Obj))(s:Shared)(σ:St)(H:Hp)(x:V)(v:Value)(Q:Bool->Hp->Prop),Inv X pins σ H s->RelV x v->r x H Q->
  wpAny (model X.prog X.w) X.A (truthy v) (TP X pins σ Q) X.xe s
def tOp(r:R2)(ta tb:TE):TE:=λσ H Q=>ta σ H λx H1=>tb σ H1 λy H2=>r x y H2 Q
def tUn(r:V->Hp->VK->Prop)(ta:TE):TE:=λσ H Q=>ta σ H λx H1=>r x H1 Q
def rI(C:Int->Int->Prop)(g:Int->Int->V):R2:=λx y H Q=> ∃i j,x=.int i/\y=.int j/\C i j/\Q (g i j) H
def rI0(g:Int->Int->V):R2:=λx y H Q=> ∃i j,x=.int i/\y=.int j/\Q (g i j) H
def rU(g:Int->V):V->Hp->VK->Prop:=λx H Q=> ∃i,x=.int i/\Q (g i) H
section
variable{X:Cx}{a b c:Expr}{ta tb tc:TE}{pos:Pos}
theorem binT(ha:PE X a ta)(hb:PE X b tb){pins:List (Addr×Obj)}{s:Shared}{σ:St}{H:Hp}{R:V->V->Hp->Prop}(I:Inv X pins σ H s)
  (h:ta σ H λx H1=>tb σ H1 λy H2=>R x y H2) {Q:Value->Shared->Prop} {f:Value->Value->Sem Value}
  (hf: ∀v u s2 x y H2,Inv X pins σ H2 s2->RelV x v->RelV y u->R x y H2->wpAny (model X.prog X.w) X.A (f v u) Q X.xe s2):
  wpAny (model X.prog X.w) X.A (eval a X.env) (λv s₁=>wpAny (model X.prog X.w) X.A (eval b X.env) (λu s₂=>wpAny (model X.prog X.w) X.A (f v u) Q X.xe s₂) X.xe s₁) X.xe s:=by
 refine thn (ha pins s σ H _ I h) λv s1 ⟨x,H1,I1,r1,q1⟩=>?_
 refine thn (hb pins s1 σ H1 _ I1 q1) λu s2 ⟨y,H2,I2,r2,q2⟩=>?_
 exact hf v u s2 x y H2 I2 r1 r2 q2
theorem pe_op{op:Operator}{r:R2}(ho:OpR X (binaryOp op) r)(ha:PE X a ta)(hb:PE X b tb):PE X (.BinOp a op b pos) (tOp r ta tb):=by
 intro pins s σ H Q I h
 exact wpAny_BinOp (binT ha hb I h λv u s2 x y H2 I2 rx ry q=>ho pins s2 σ H2 x y v u Q I2 rx ry q)
theorem pe_un{op:UnaryOp}{r:V->Hp->VK->Prop}(ho:UnR X (unaryOp op) r)(ha:PE X a ta):PE X (.UnaryOp op a pos) (tUn r ta):=by
 intro pins s σ H Q I h
 exact UnaryOp_ (thn (ha pins s σ H _ I h) λv s1 ⟨x,H1,I1,r1,q1⟩=>ho pins s1 σ H1 x v Q I1 r1 q1)
theorem opI{f:Value->Value->Sem Value}{C:Int->Int->Prop}{g:Int->Int->Int}
  (rule: ∀(i j:Int)(t u:Tok)(s:Shared)(Q:Value->Shared->Prop)(E:Value->Shared->Prop),C i j->Q (.int (g i j) s.toks) {s with toks:=s.toks+1}->wpAny (model X.prog X.w) X.A (f (.int i t) (.int j u)) Q E s):
  OpR X f (rI C λi j=>.int (g i j)):=by
 intro pins s σ H x y v u Q I rx ry h
 obtain⟨i,j,rfl,rfl,hc,q⟩:=h
 obtain⟨t,rfl⟩:=rx
 obtain⟨t',rfl⟩:=ry
 exact rule i j t t' s _ _ hc ⟨.int (g i j),H,I.tok _,⟨_,rfl⟩,q⟩
theorem opI0{f:Value->Value->Sem Value}{g:Int->Int->Int}
  (rule: ∀(i j:Int)(t u:Tok)(s:Shared)(Q:Value->Shared->Prop)(E:Value->Shared->Prop),Q (.int (g i j) s.toks) {s with toks:=s.toks+1}->wpAny (model X.prog X.w) X.A (f (.int i t) (.int j u)) Q E s):
  OpR X f (rI0 λi j=>.int (g i j)):=by
 intro pins s σ H x y v u Q I rx ry h
 obtain⟨i,j,rfl,rfl,q⟩:=h
 obtain⟨t,rfl⟩:=rx
 obtain⟨t',rfl⟩:=ry
 exact rule i j t t' s _ _ ⟨.int (g i j),H,I.tok _,⟨_,rfl⟩,q⟩
theorem opB0{f:Value->Value->Sem Value}{g:Int->Int->Bool}
  (rule: ∀(i j:Int)(t u:Tok)(s:Shared)(Q:Value->Shared->Prop)(E:Value->Shared->Prop),Q (.bool (g i j)) s->wpAny (model X.prog X.w) X.A (f (.int i t) (.int j u)) Q E s):
  OpR X f (rI0 λi j=>.bl (g i j)):=by
 intro pins s σ H x y v u Q I rx ry h
 obtain⟨i,j,rfl,rfl,q⟩:=h
 obtain⟨t,rfl⟩:=rx
 obtain⟨t',rfl⟩:=ry
 exact rule i j t t' s _ _ ⟨.bl (g i j),H,I,rfl,q⟩
def CPow(i j:Int):Prop:=0<=j/\j<=1000000/\i.natAbs<2 ^ 64
def CMul(i j:Int):Prop:=(-(2 ^ 64)<i/\i<2 ^ 64)\/(-(2 ^ 64)<j/\j<2 ^ 64)
theorem CMul.ok{i j:Int}(h:CMul i j):IntMulOk i j:=by
 rcases h with⟨h1,h2⟩|⟨h1,h2⟩
 ·exact .of_left (intBits_le_64 h1 h2)
 ·exact .of_right (intBits_le_64 h1 h2)
theorem yQQ:OpR X (binaryOp .Add) (rI0 λi j=>.int (i+j)):=opI0 λ_ _ _ _ _ _ _ q=>add_int q
theorem yQR:OpR X (binaryOp .Sub) (rI0 λi j=>.int (i - j)):=opI0 λ_ _ _ _ _ _ _ q=>sub_int q
theorem yQS:OpR X (binaryOp .Mod) (rI (λ_ j=>0<j) λi j=>.int (i % j)):=opI λi j _ _ _ _ _ hc q=>by
 have h1:(0:Int)<j:=hc
 exact mod_int' (by omega) (by rw [Int.fmod_eq_emod_of_nonneg i (by omega)];exact q)
theorem yQT:OpR X (binaryOp .LShift) (rI CPow λi j=>.int (i * 2 ^ j.toNat)):=opI λ_ _ _ _ _ _ _ hc q=>lshift_int_small hc.1 hc.2.1 hc.2.2 q
theorem unI{f:Value->Sem Value}{g:Int->Int}
  (rule: ∀(i:Int)(t:Tok)(s:Shared)(Q:Value->Shared->Prop)(E:Value->Shared->Prop),Q (.int (g i) s.toks) {s with toks:=s.toks+1}->wpAny (model X.prog X.w) X.A (f (.int i t)) Q E s):
  UnR X f (rU λi=>.int (g i)):=by
 intro pins s σ H x v Q I rx h
 obtain⟨i,rfl,q⟩:=h
 obtain⟨t,rfl⟩:=rx
 exact rule i t s _ _ ⟨.int (g i),H,I.tok _,⟨_,rfl⟩,q⟩
theorem yQU:UnR X (unaryOp .USub) (rU λi=>.int (-i)):=unI λ_ _ _ _ _ q=>neg_int q
end
section
variable{X:Cx}{a b c:Expr}{ta tb tc:TE}{pos:Pos}
theorem yAQ{pins:List (Addr×Obj)}{σ:St}{H:Hp}{s:Shared}{Q:VK}{k k':Bool}(I:Inv X pins σ H s)(q:Q (.bl k) H)(e:k=k'):EP X pins σ Q (.bool k') s:=by
 subst e
 exact⟨.bl k,H,I,rfl,q⟩
theorem zXZ:OpR X (compareOp .LtE) (rI0 λi j=>.bl (decide (i<=j))):=opB0 λ_ _ _ _ _ _ _ q=>le_int q
theorem op_gt:OpR X (compareOp .Gt) (rI0 λi j=>.bl (decide (j<i))):=opB0 λ_ _ _ _ _ _ _ q=>gt_int q
theorem yFX:OpR X (compareOp .In) (λx y H Q=> ∃i j,x=.str i/\y=.str j/\Q (.bl (!(Builtin.Str.occurrences j i 0 j.length 1).isEmpty)) H):=by
 intro pins s σ H x y v u Q I rx ry h
 obtain⟨i,j,rfl,rfl,q⟩:=h
 obtain⟨t,rfl⟩:=rx
 obtain⟨t',rfl⟩:=ry
 exact in_str (yAQ I q rfl)
theorem yIA:OpR X (compareOp .Is) (λx y H Q=>y=.non/\Q (.bl (decide (x=.non))) H):=by
 intro pins s σ H x y v u Q I rx ry h
 obtain⟨rfl,q⟩:=h
 cases ry
 refine is_none_gen (yAQ I q ?_)
 cases x<;>first
  |(cases rx;rfl)
  |(obtain⟨t,rfl⟩:=rx;rfl)
theorem zVL:OpR X (compareOp .NotIn) (λx y H Q=> ∃i j,x=.str i/\y=.str j/\Q (.bl (!(!(Builtin.Str.occurrences j i 0 j.length 1).isEmpty))) H):=by
 intro pins s σ H x y v u Q I rx ry h
 obtain⟨i,j,rfl,rfl,q⟩:=h
 obtain⟨t,rfl⟩:=rx
 obtain⟨t',rfl⟩:=ry
 exact notIn_str (yAQ I q rfl)
theorem OpR.or{f:Value->Value->Sem Value}{r r':R2}(h:OpR X f r)(h':OpR X f r'):OpR X f (λx y H Q=>r x y H Q\/r' x y H Q):=by
 intro pins s σ H x y v u Q I rx ry q
 rcases q with q|q
 ·exact h pins s σ H x y v u Q I rx ry q
 ·exact h' pins s σ H x y v u Q I rx ry q
theorem yIB(b:Expr){op:CmpOp}(h:op≠.In:=by decide)(h2:op≠.NotIn:=by decide):behindInMarks op b=false:=by
 have e1:(op==CmpOp.In)=false:=by cases op<;>first |rfl|exact absurd rfl h
 have e2:(op==CmpOp.NotIn)=false:=by cases op<;>first |rfl|exact absurd rfl h2
 cases b<;>simp [behindInMarks,e1,e2]
theorem yME{op:CmpOp}{r:R2}(ho:OpR X (compareOp op) r)(ha:PE X a ta)(hb:PE X b tb)(hm:behindInMarks op b=false):PE X (.Compare a [op] [b] pos) (tOp r ta tb):=by
 intro pins s σ H Q I h
 exact wpAny_Compare1 (binT ha hb I h λv u s2 x y H2 I2 rx ry q=>ho pins s2 σ H2 x y v u Q I2 rx ry q) hm
def yPL(t:TE):TT:=λσ H Q=>t σ H λx H'=> ∃k,x=.bl k/\Q k H'
theorem yMF{op:CmpOp}{r:R2}(ho:OpR X (compareOp op) r)(ha:PE X a ta)(hb:PE X b tb)(hm:behindInMarks op b=false):PT X (.Compare a [op] [b] pos) (yPL (tOp r ta tb)):=by
 intro pins s σ H Q I h
 refine wpAny_isTrue_Compare1 (thn (ha pins s σ H _ I h) λv s1 ⟨x,H1,I1,r1,q1⟩=>thn (hb pins s1 σ H1 _ I1 q1) λu s2 ⟨y,H2,I2,r2,q2⟩=>
  thn (ho pins s2 σ H2 x y v u _ I2 r1 r2 q2) λc s3 ⟨z,H3,I3,r3,k,e,q3⟩=>?_) hm
 subst e
 cases r3
 exact wpAny_truthy_bool ⟨H3,I3,q3⟩
def yAR(r r':R2)(ta tb tc:TE):TE:=λσ H Q=>ta σ H λx H1=>tb σ H1 λy H2=>r x y H2 λz H3=> ∃k,z=.bl k/\
 (if k=true then tc σ H3 λw' H4=>r' y w' H4 Q else Q (.bl false) H3)
theorem yIC{op op':CmpOp}{r r':R2}(ho:OpR X (compareOp op) r)(ho':OpR X (compareOp op') r')(ha:PE X a ta)(hb:PE X b tb)(hc:PE X c tc)
  (hm:lastMarks [op,op'] [b,c]=false:=by with_unfolding_all rfl):PE X (.Compare a [op,op'] [b,c] pos) (yAR r r' ta tb tc):=by
 intro pins s σ H Q I h
 refine Compare_chain (thn (ha pins s σ H _ I h) λv s1 ⟨x,H1,I1,r1,q1⟩=>chain_link (thn (hb pins s1 σ H1 _ I1 q1) λu s2 ⟨y,H2,I2,r2,q2⟩=>
  thn (ho pins s2 σ H2 x y v u _ I2 r1 r2 q2) λd s3 ⟨z,H3,I3,r3,k,e,q3⟩=>?_)) hm
 subst e
 cases r3
 refine wpAny_truthy_bool ?_
 cases k with
 |false=>exact ite_ff ⟨.bl false,H3,I3,rfl,q3⟩
 |true=>exact ite_tt (chain_last (thn (hc pins s3 σ H3 _ I3 q3) λw' s4 ⟨z',H4,I4,r4,q4⟩=>ho' pins s4 σ H4 y z' u w' Q I4 r2 r4 q4))
theorem yID{op op':CmpOp}{r r':R2}(ho:OpR X (compareOp op) r)(ho':OpR X (compareOp op') r')(ha:PE X a ta)(hb:PE X b tb)(hc:PE X c tc)
  (hm:lastMarks [op,op'] [b,c]=false:=by with_unfolding_all rfl):PT X (.Compare a [op,op'] [b,c] pos) (yPL (yAR r r' ta tb tc)):=by
 intro pins s σ H Q I h
 refine isTrue_chain (thn (ha pins s σ H _ I h) λv s1 ⟨x,H1,I1,r1,q1⟩=>test_link (thn (hb pins s1 σ H1 _ I1 q1) λu s2 ⟨y,H2,I2,r2,q2⟩=>
  thn (ho pins s2 σ H2 x y v u _ I2 r1 r2 q2) λd s3 ⟨z,H3,I3,r3,k,e,q3⟩=>?_)) hm
 subst e
 cases r3
 refine wpAny_truthy_bool ?_
 cases k with
 |false=>
  obtain⟨k',e',q'⟩:=q3
  cases e'
  exact ite_ff ⟨H3,I3,q'⟩
 |true=>
  refine ite_tt (test_last (thn (hc pins s3 σ H3 _ I3 q3) λw' s4 ⟨z',H4,I4,r4,q4⟩=>thn (ho' pins s4 σ H4 y z' u w' _ I4 r2 r4 q4) λd' s5 ⟨z2,H5,I5,r5,k2,e2,q5⟩=>?_))
  subst e2
  cases r5
  exact wpAny_truthy_bool ⟨H5,I5,q5⟩
def TruV(K:PySem.W.Frag)(x:V)(H:Hp)(k:Bool):Prop:=
 match x with
 |.non=>k=false
 |.bl b=>k=b
 |.int i=>k=(i !=0)
 |.str y=>y.length<=sizeLine/\k=((y.length:Int) !=0)
 |.byt y=>y.size<=sizeLine/\k=((y.size:Int) !=0)
 |.ref p=>(∃xs,SqL K H p xs/\k= !xs.isEmpty)\/(∃xs,SqT K H p xs/\k= !xs.isEmpty)\/ ∃kvs,H p=some (.dK kvs)/\k= !kvs.isEmpty
 |_=>False
theorem yAS{κ:Type}{kvs:List (κ×V)}{vs:List (κ×Value)}(r:KV kvs vs):(!vs.isEmpty)= !kvs.isEmpty:=by
 cases r<;>rfl
theorem zRK{xs:List V}{its:List Value}(r:Vals xs its):(!its.toArray.isEmpty)= !xs.isEmpty:=by
 cases r<;>simp
theorem zLP:(sizeLine:Nat)<2 ^ 63:=by rw [sizeLine_eq];decide
theorem yQV:TruR X (λx H Q=> ∃k,TruV X.K x H k/\Q k H):=by
 intro pins s σ H x v Q I rx h
 obtain⟨k,e,q⟩:=h
 have hl:=zLP
 have hs:sizeLine=16777216:=sizeLine_eq
 cases x with
 |non=>
  cases rx
  have e':k=false:=e
  subst e'
  exact truthy_none ⟨H,I,q⟩
 |bl b=>
  cases rx
  have e':k=b:=e
  subst e'
  exact wpAny_truthy_bool ⟨H,I,q⟩
 |int i=>
  obtain⟨t,rfl⟩:=rx
  have e':k=(i !=0):=e
  subst e'
  exact PySem.P.truthy_int ⟨H,I,q⟩
 |str y=>
  obtain⟨t,rfl⟩:=rx
  obtain⟨hy,e'⟩:y.length<=sizeLine/\k=((y.length:Int) !=0):=e
  subst e'
  exact PySem.P.truthy_str (by omega) ⟨H,I.tok _,q⟩
 |byt y=>
  obtain⟨t,rfl⟩:=rx
  obtain⟨hy,e'⟩:y.size<=sizeLine/\k=((y.size:Int) !=0):=e
  subst e'
  exact PySem.W.truthy_bytes (by omega) ⟨H,I.tok _,q⟩
 |ref p=>
  cases rx
  have e':(∃xs,SqL X.K H p xs/\k= !xs.isEmpty)\/(∃xs,SqT X.K H p xs/\k= !xs.isEmpty)\/ ∃kvs,H p=some (.dK kvs)/\k= !kvs.isEmpty:=e
  rcases e' with⟨xs,hx,e'⟩|⟨xs,hx,e'⟩|⟨kvs,hx,e'⟩
  ·subst e'
   obtain⟨its,r,pl,hz⟩:=I.list hx
   have hlen:=r.length
   exact wpAny_truthy_list pl.isList (by simp only [sA];omega) ⟨H,I.tok _,by rw [zRK r];exact q⟩
  ·subst e'
   obtain⟨its,r,pl,hz⟩:=I.tuple hx
   have hlen:=r.length
   exact truthy_tuple pl (by simp only [sA];omega) ⟨H,I.tok _,by rw [zRK r];exact q⟩
  ·subst e'
   obtain⟨hz,hS,vs,r,m⟩:kvs.length<=sizeLine/\(p==sysModules)=false/\ ∃vs,KV kvs vs/\s.heap.DictOf (zQM X.prog X.w) p vs:=I.hok p _ hx
   have hlen:kvs.length=vs.length:=Paired.length r
   exact wpAny_truthy_dict hS m (by omega) ⟨H,I.tok _,by rw [yAS r];exact q⟩
 |_=>exact(show False from e).elim
theorem yIE(ha:PE X a ta)(he: ∀whole,isTrue a X.env whole=(do let v <-whole;standAt a.pos;holding [v] (truthy v))):
  PT X a (λσ H Q=>ta σ H λx H'=> ∃k,TruV X.K x H' k/\Q k H'):=by
 intro pins s σ H Q I h
 exact isTrue_plain (thn (ha pins s σ H _ I h) λv s1 ⟨x,H1,I1,r1,q1⟩=>yQV pins s1 σ H1 x v Q I1 r1 q1) (he _)
theorem yAT:OpR X (binaryOp .Add) (λx y H Q=> ∃i j,x=.str i/\y=.str j/\i.length+j.length<=sizeLine/\Q (.str (i++j)) H):=by
 intro pins s σ H x y v u Q I rx ry h
 obtain⟨i,j,rfl,rfl,hz,q⟩:=h
 obtain⟨t,rfl⟩:=rx
 obtain⟨t',rfl⟩:=ry
 exact add_str (λt' tk=>⟨.str (i++j),H,I.tok _,⟨_,rfl⟩,q⟩) hz
theorem vals1{x:V}{us:List Value}(r:Vals [x] us): ∃u,us=[u]/\RelV x u:=by
 cases r with
 |cons r1 r2=>cases r2;exact⟨_,rfl,r1⟩
theorem vals2{x y:V}{us:List Value}(r:Vals [x,y] us): ∃u w',us=[u,w']/\RelV x u/\RelV y w':=by
 cases r with
 |cons r1 r2=>
  cases r2 with
  |cons r3 r4=>cases r4;exact⟨_,_,rfl,r1,r3⟩
theorem yIF:CallR X (.builtin "abs") (λxs H Q=> ∃i,xs=[.int i]/\Q (.int (if i<0 then -i else i)) H):=by
 intro pins s σ H xs us Q I r h
 obtain⟨i,rfl,q⟩:=h
 obtain⟨u,rfl,t,rfl⟩:=vals1 r
 exact call_abs_int λu tk=>⟨.int (if i<0 then -i else i),H,I.tok _,⟨_,rfl⟩,q⟩
end
structure Room(k:Nat)(A:Around):Prop where
 hd:A.handled=none
 dp:A.depth+3 * k+5<recursionLimit
 un:A.units+16 * k+200<cLine
theorem Room.mono{j k:Nat}{A:Around}(r:Room k A)(h:j<=k):Room j A:=⟨r.hd,by have:=r.dp;omega,by have:=r.un;omega⟩
theorem Room.deeper{k:Nat}{A:Around}(r:Room (k+1) A)(env:Env):Room k (A.deeper env):=
 ⟨r.hd,by have:=r.dp;show A.depth+1+3 * k+5<_;omega,by have:=r.un;show A.units+3+16 * k+200<_;omega⟩
theorem yAU{A:Around}{C:Addr}{us:List Value}{kw:List (Str×Value)}:(A.under (.builtin "type.__call__" ⟨.ref C::us,kw⟩)).depth=A.depth+1:=by
 first |rfl|simp [Around.under,Code.weight,Code.isCreation,Code.isGuard,Code.isCaller,Code.frames,Code.isFrame,guardIds]
theorem yAV{A:Around}{C:Addr}{us:List Value}{kw:List (Str×Value)}:(A.under (.builtin "type.__call__" ⟨.ref C::us,kw⟩)).units=A.units+1:=by
 first |rfl|simp [Around.under,Code.cUnits,Code.frames,Code.isFrame]
theorem Room.make{k:Nat}{A:Around}(r:Room (k+1) A)(C:Addr)(us:List Value)(kw:List (Str×Value)):Room k (A.under (.builtin "type.__call__" ⟨.ref C::us,kw⟩)):=
 ⟨r.hd,by have:=r.dp;rw [yAU];omega,by have:=r.un;rw [yAV];omega⟩
theorem Room.depth{k:Nat}{A:Around}(r:Room k A):A.depth<recursionLimit:=by have:=r.dp;omega
theorem Room.units{k:Nat}{A:Around}(r:Room k A):A.units+64<cLine:=by have:=r.un;omega
def tNil:TA:=λ_ H Q=>Q [] H
def tCons(ta:TE)(tr:TA):TA:=λσ H Q=>ta σ H λx H1=>tr σ H1 λxs H2=>Q (x::xs) H2
section
variable{X:Cx}{e:Expr}{es:List Expr}{te:TE}{t:TA}{pos:Pos}
theorem zRL:PA X [] tNil:=λ_ _ _ _ H Q I h=>Calls.spliced_nil ⟨[],H,I,.nil,h⟩
theorem zDS(ha:PE X e te)(hr:PA X es t)(hs:starEach (e::es) X.env=(false,eval e X.env)::starEach es X.env:=by rfl):PA X (e::es) (tCons te t):=by
 intro pos pins s σ H Q I h
 rw [hs]
 show wpAny _ _ (spliced ((false,eval e X.env)::backTo pos (starEach es X.env))) _ _ s
 refine Calls.spliced_cons (thn (ha pins s σ H _ I h) λu s1 ⟨x,H1,I1,r1,q1⟩=>?_)
 exact thn (hr pos pins s1 σ H1 _ I1 q1) λus s2 ⟨xs,H2,I2,r2,q2⟩=>⟨x::xs,H2,I2,.cons r1 r2,q2⟩
def tTup(t:TA):TE:=λσ H Q=>t σ H λxs H1=>xs.length<=sizeLine/\ ∀p,H1 p=none->Q (.ref p) (upd H1 p (.tup xs))
def tLst(t:TA):TE:=λσ H Q=>t σ H λxs H1=>xs.length<=sizeLine/\ ∀p,H1 p=none->Q (.ref p) (upd H1 p (.lst xs))
theorem yQW{x1}(h:PA X es t):PE X (.Tuple es x1 pos) (tTup t):=by
 intro pins s σ H Q I hq
 refine wpAny_Tuple_spliced (thn (h pos pins s σ H _ I hq) λus s1 ⟨xs,H1,I1,r,z,q⟩=>⟨by rw [<-r.length];exact z,?_⟩)
 have hf:H1 s1.heap.objs.size=none:=I1.hok.fresh (le_refl _)
 refine⟨.ref s1.heap.objs.size,upd H1 s1.heap.objs.size (.tup xs),I1.laid (t':=s1.toks) (λb u e=>hP00 _ e) (le_refl _) ?_,rfl,q _ hf⟩
 exact⟨z,us,r,⟨_,Heap.get?_push_size _ rfl,rfl,_,rfl⟩⟩
theorem yQX(h:PA X es t):PE X (.List es pos) (tLst t):=by
 intro pins s σ H Q I hq
 refine wpAny_List_spliced (thn (h pos pins s σ H _ I hq) λus s1 ⟨xs,H1,I1,r,z,q⟩=>⟨by rw [<-r.length];exact z,?_⟩)
 have hf:H1 s1.heap.objs.size=none:=I1.hok.fresh (le_refl _)
 refine⟨.ref s1.heap.objs.size,upd H1 s1.heap.objs.size (.lst xs),I1.laid (t':=s1.toks) (λb u e=>hP00 _ e) (le_refl _) ?_,rfl,q _ hf⟩
 exact⟨z,us,0,r,Heap.get?_push_size _ rfl⟩
end
abbrev Sp:=List V->Hp->VK->XK->Prop
abbrev CXT:=List Env->Hp->Shared->XK->Value->Shared->Prop
structure Env0(P:Program)(w:World)(K:PySem.W.Frag)(mg:Str->Option Value)(base:Heap)(A:Around)(outer:List Env)(s:Shared)(H:Hp):Prop where
 frames:A.frames=some outer
 mod:Mod K mg base
 bs: ∀b o,base.get? b=some o->s.heap.get? b=some o/\H b=none
 bsz:base.objs.size<=s.heap.objs.size
 funs:s.heap.FunFrames base outer
 frf: ∀b∈frs outer,H b=none
 hok:HOk P w H s.heap
 bare:AllBare s.gens
def CE(outer:List Env)(P:Program)(w:World)(H:Hp)(s:Shared)(Q:VK)(u:Value)(s':Shared):Prop:=
 ∃v H',s'.os=s.os/\AllBare s'.gens/\Un (frs outer) [] H H' s.heap s'.heap/\HOk P w H' s'.heap/\RelV v u/\Q v H'
def CR(CX:CXT)(outer:List Env)(P:Program)(w:World)(H:Hp)(s:Shared)(Q:VK)(E:XK)(r:Result)(s':Shared):Prop:=
 match r with
 |.ok (.ret u)=>CE outer P w H s Q u s'
 |.ok _=>False
 |.error e=>CX outer H s E e s'
structure FnOk(P:Program)(w:World)(K:PySem.W.Frag)(mg:Str->Option Value)(base:Heap)(CX:CXT)(k:Nat)(f:Addr)(fd:FuncData)(ps:List Str)(sp:Sp):Prop where
 len: ∀vs H Q E,sp vs H Q E->vs.length=ps.length
 run: ∀(A:Around)(outer:List Env)(s:Shared)(H:Hp)(args:Args)(us:List Value)(vs:List V)(Q:VK)(E:XK),Room k A->Env0 P w K mg base A outer s H->BindsTo s fd args (ps.zip us)->Vals vs us->sp vs H Q E->
  codeAny (model P w) A (.call (.ref f) args) (CR CX outer P w H s Q E) s
theorem FnOk.imp{P:Program}{w:World}{K:PySem.W.Frag}{mg:Str->Option Value}{base:Heap}{CX:CXT}{k:Nat}{f:Addr}{fd:FuncData}{ps:List Str}{sp sp':Sp}(F:FnOk P w K mg base CX k f fd ps sp)
  (h: ∀vs H Q E,sp' vs H Q E->sp vs H Q E):FnOk P w K mg base CX k f fd ps sp':=
 ⟨λvs H Q E q=>F.len vs H Q E (h _ _ _ _ q),λA outer s H args us vs Q E hr he hb hv hs=>F.run A outer s H args us vs Q E hr he hb hv (h _ _ _ _ hs)⟩
theorem Env0.make{P:Program}{w:World}{K:PySem.W.Frag}{mg:Str->Option Value}{base:Heap}{A:Around}{outer:List Env}{s:Shared}{H:Hp}(e:Env0 P w K mg base A outer s H)(C:Addr)(us:List Value)(kw:List (Str×Value)):
  Env0 P w K mg base (A.under (.builtin "type.__call__" ⟨.ref C::us,kw⟩)) outer s H:=⟨by first |exact e.frames|(simpa [Around.under,Code.envs,Code.isFrame,pushEnvs]using e.frames),e.mod,e.bs,e.bsz,e.funs,e.frf,e.hok,e.bare⟩
section
variable{X:Cx}{pins:List (Addr×Obj)}{σ:St}{H:Hp}{s s':Shared}
theorem Inv.env0(I:Inv X pins σ H s):Env0 X.prog X.w X.K X.mg X.base X.A X.stack s H:=
 ⟨I.ok.frames,I.ok.mod,I.bs,le_trans I.ok.bsz I.sz,I.stack,I.stkFree,I.hok,I.bare⟩
theorem Inv.after{Q:VK}{u:Value}(I:Inv X pins σ H s)(h:CE X.stack X.prog X.w H s Q u s'):EP X pins σ Q u s':=by
 obtain⟨v,H',os,bare,un,hok,r,q⟩:=h
 obtain⟨hh,g,d,t,os'⟩:=s'
 obtain rfl:os'=s.os:=os
 exact⟨v,H',I.call (h':=hh) (g':=g) (d':=d) (t':=t) (ch:=[]) un hok bare (λb z=>absurd z (by simp)),r,q⟩
end
def tCall(sp:Sp)(dvs:List V)(E:XK)(t:TA):TE:=λσ H Q=>t σ H λvs H1=>sp (vs++dvs) H1 Q E
def Binds(K:PySem.W.Frag)(fd:FuncData)(ps:List Str)(ds:List Value):Prop:=
 ∀(s:Shared)(us:List Value),K.In s.heap->(us++ds).length=ps.length->BindsTo s fd ⟨us,[]⟩ (ps.zip (us++ds))
theorem Binds.all{K:PySem.W.Frag}{fd:FuncData}{ps:List Str}(h: ∀us:List Value,us.length=ps.length->bindArgs fd ⟨us,[]⟩=pure (ps.zip us)):Binds K fd ps []:=λs us _ hl=>by
 rw [aN]at hl ⊢
 exact .of_eq (h us hl)
def zVM(CX:CXT)(X:Cx)(E:XK):Prop:= ∀(pins:List (Addr×Obj))(σ:St)(H:Hp)(s:Shared)(e:Value)(s':Shared),Inv X pins σ H s->CX X.stack H s E e s'->X.xe e s'
section
variable{X:Cx}{CX:CXT}{k:Nat}{f C:Addr}{fd:FuncData}{ps:List Str}{sp:Sp}{dvs:List V}{ds:List Value}{E:XK}{x m:Str}{p pos apos:Pos}{e o:Expr}{es:List Expr}{ta:TE}{t:TA}
theorem yQY{pins:List (Addr×Obj)}{σ:St}{H:Hp}{s:Shared}{Q:VK}{us:List Value}{vs:List V}(F:FnOk X.prog X.w X.K X.mg X.base CX k f fd ps sp)(hr:Room k X.A)(hb:Binds X.K fd ps ds)(hd:Vals dvs ds)(hx:zVM CX X E)
  (I:Inv X pins σ H s) (r:Vals vs us) (h:sp (vs++dvs) H Q E):wpAny (model X.prog X.w) X.A (call (.ref f) us) (EP X pins σ Q) X.xe s:=by
 have r2:Vals (vs++dvs) (us++ds):=r.append hd
 have hl:(us++ds).length=ps.length:=by rw [<-r2.length];exact F.len _ _ _ _ h
 refine wpAny_call (codeAny_mono (F.run X.A X.stack s H ⟨us,[]⟩ (us++ds) (vs++dvs) Q E hr I.env0 (hb s us I.kIn hl) r2 h) λr s' hq=>?_)
 cases r with
 |error e=>exact hx pins σ H s e s' I hq
 |ok fl=>
  cases fl with
  |ret u=>exact I.after hq
  |next=>exact False.elim hq
  |brk=>exact False.elim hq
  |cont=>exact False.elim hq
theorem yDJ(F:FnOk X.prog X.w X.K X.mg X.base CX k f fd ps sp)(hr:Room k X.A)(hg:Gl X x)(hm:X.mg x=some (.ref f))(hk:PySem.W.keepIn X.K (.ref f)=true)(hb:Binds X.K fd ps ds)(hd:Vals dvs ds)(hx:zVM CX X E)
  (ha:PA X (e::es) t) (hdb:(x==("__debug__":Str))=false:=by decide) (he:starEach (e::es) X.env=(false,eval e X.env)::starEach es X.env:=by rfl) (hpl:(backTo pos (starEach es X.env)).any (·.1)=false:=by rfl):
  PE X (.Call (.Name x p) (e::es) [] pos) (tCall sp dvs E t):=by
 intro pins s σ H Q I h
 refine wpAny_Call_Name_kw (zDR I hg hm ?_ hdb)
 refine PySem.W.callWith_K (h₀:=X.base) I.ok.mod.kin hk (thn (ha pos pins s σ H _ I h) λus s1 ⟨vs,H1,I1,r,q⟩=>⟨I1.kIn,?_⟩) he hpl
 exact yQY F hr hb hd hx I1 r q
structure Mk(K:PySem.W.Frag)(C f:Addr):Prop where
 makes:PySem.W.makesIn K C=true
 init:PySem.W.findIn K (.ref C) "__init__"=some (some (.ref f))
 fn:PySem.W.isFn K (.ref f)=true
 kp:PySem.W.keepIn K (.ref C)=true
end
structure FnScope(N P:List Str)(sc:Scope):Prop where
 kind:sc.kind=.function
 co:sc.isCoroutine=false
 gen:sc.isGenerator=false
 nd:N.Nodup
 pre:N.take P.length=P
 par: ∀x∈P,sc.names.lookup x=some .local\/sc.names.lookup x=some .cell
 nofree: ∀y∈sc.names,y.2≠.free
theorem fsK{N P:List Str}{sc:Scope}(h:N.Nodup/\N.take P.length=P/\(∀x∈P,sc.names.lookup x=some .local\/sc.names.lookup x=some .cell)/\∀y∈sc.names,y.2≠.free)(a:sc.kind=.function:=by rfl)(b:sc.isCoroutine=false:=by rfl)(c:sc.isGenerator=false:=by rfl):FnScope N P sc:=⟨a,b,c,h.1,h.2.1,h.2.2.1,h.2.2.2⟩
theorem zUE{kindOf:Str->Option NameKind}{x:Str}: ∀{binds:List (Str×Value)}{m:Str->Option Value},(∀v,(x,v)∉binds)->bindL kindOf binds m x=m x
 |[],_,_=>rfl
 |(n,v)::r,m,h=>by
  unfold bindL
  rw [zUE λw hw=>h w (mO _ hw)]
  split
  ·have:x≠n:=by rintro rfl;exact h v mF0
   simp [this]
  ·rfl
theorem zUF{kindOf:Str->Option NameKind}{x:Str}: ∀{binds:List (Str×Value)}{m:Str->Option Value},(∀v,(x,v)∉binds)->bindC kindOf binds m x=m x
 |[],_,_=>rfl
 |(n,v)::r,m,h=>by
  unfold bindC
  rw [zUF λw hw=>h w (mO _ hw)]
  split
  ·rfl
  ·have:x≠n:=by rintro rfl;exact h v mF0
   simp [this]
theorem zUG{kindOf:Str->Option NameKind}{x:Str}{v:Value}: ∀{P:List Str}{vs:List Value}{i:Nat}{m:Str->Option Value},P.Nodup->P[i]? =some x->vs[i]? =some v->kindOf x=some .local->
  bindL kindOf (P.zip vs) m x=some v
 |[],_,_,_,_,h,_,_=>by simp at h
 |_::_,[],_,_,_,_,h,_=>by simp at h
 |p::P,w::vs,0,m,nd,h1,h2,hk=>by
  simp at h1 h2;subst h1;subst h2
  show bindL kindOf ((p,w)::P.zip vs) m p=_
  unfold bindL
  rw [zUE λv hv=>(nodup_cons.mp nd).1 (of_mem_zip hv).1,iP hk]
  simp
 |p::P,w::vs,i+1,m,nd,h1,h2,hk=>by
  show bindL kindOf ((p,w)::P.zip vs) m x=_
  unfold bindL
  exact zUG (i:=i) (nodup_cons.mp nd).2 (by simpa using h1) (by simpa using h2) hk
theorem zUH{kindOf:Str->Option NameKind}{x:Str}{v:Value}: ∀{P:List Str}{vs:List Value}{i:Nat}{m:Str->Option Value},P.Nodup->P[i]? =some x->vs[i]? =some v->kindOf x≠some .local->
  bindC kindOf (P.zip vs) m x=some v
 |[],_,_,_,_,h,_,_=>by simp at h
 |_::_,[],_,_,_,_,h,_=>by simp at h
 |p::P,w::vs,0,m,nd,h1,h2,hk=>by
  simp at h1 h2;subst h1;subst h2
  show bindC kindOf ((p,w)::P.zip vs) m p=_
  unfold bindC
  rw [zUF λv hv=>(nodup_cons.mp nd).1 (of_mem_zip hv).1,iN0 hk]
  simp
 |p::P,w::vs,i+1,m,nd,h1,h2,hk=>by
  show bindC kindOf ((p,w)::P.zip vs) m x=_
  unfold bindC
  exact zUH (i:=i) (nodup_cons.mp nd).2 (by simpa using h1) (by simpa using h2) hk
def start(N:List Str)(vs:List V):St:=vs.map some++List.replicate (N.length - vs.length) none
def zRM(CX:CXT)(P:Program)(w:World)(K:PySem.W.Frag)(mg:Str->Option Value)(base:Heap)(N:List Str)(qual:Str)(scope:Scope)(f:Addr)(cd:Value)(A:Around)(outer:List Env)(s:Shared)(H:Hp)(E:XK):Cx where
 prog:=P
 w:=w
 K:=K
 mg:=mg
 base:=base
 A:=A.deeper (envOfC qual scope s.heap.objs.size f cd)
 N:=N
 s₀:=s
 H₀:=H
 env:=envOfC qual scope s.heap.objs.size f cd
 outer:=outer
 stack:=envOfC qual scope s.heap.objs.size f cd::outer
 ex:=[]
 calm:=true
 fn:=λ_=>true
 pn:=[]
 xe:=λe s'=>wpAny (model P w) (A.deeper (envOfC qual scope s.heap.objs.size f cd)) (leaving (envOfC qual scope s.heap.objs.size f cd) e) (λ_ s''=>CX outer H s E e s'') (λe' s''=>CX outer H s E e' s'') s'
theorem zYA{sc:Scope}{n:Nat}{x:Str}(h:sc.names.lookup x=some .cell): ∃c,(cellsFrom n sc.names []).lookup x=some c:=by
 have q:=PySem.W.cellsFrom_some sc.names n [] (.inl h)
 exact Option.isSome_iff_exists.mp q
theorem zUI{CX:CXT}{P:Program}{w:World}{K:PySem.W.Frag}{mg:Str->Option Value}{base:Heap}{N ps:List Str}{qual:Str}{scope:Scope}{f:Addr}{cd:Value}{A:Around}{outer:List Env}{s s1:Shared}{H:Hp}{E:XK}{us:List Value}{vs:List V}
  (S:FnScope N ps scope) (hd:A.handled=none) (e0:Env0 P w K mg base A outer s H) (hl:vs.length=ps.length) (r:Vals vs us)
  (x:InCallC s s.heap.objs.size (bindL (envOfC qual scope s.heap.objs.size f cd).kindOf (ps.zip us) λ_=>none) (cellsFrom (s.heap.objs.size+1) scope.names []) (bindC (envOfC qual scope s.heap.objs.size f cd).kindOf (ps.zip us) λ_=>none) s1):
  Inv (zRM CX P w K mg base N qual scope f cd A outer s H E) [] (start N vs) H s1:=by
 have hpl:ps.length<=N.length:=by have:=congrArg List.length S.pre;rw [lT0]at this;omega
 obtain⟨h1,tk,rfl,hk⟩:=x.done
 have noA: ∀b:Addr,b∉(zRM CX P w K mg base N qual scope f cd A outer s H E).ex:=λb z=>absurd (show b∈([]:List Addr)from z) (by simp)
 refine⟨⟨e0.mod,S.kind,rfl,rfl,le_refl _,λy z c h1 h2=>?_,λy hy=>?_,λy c _ h=>?_,λ_=>hd,Around.frames_deeper e0.frames,.inr ⟨rfl,rfl⟩,λb z=>absurd z (noA b),e0.bs,e0.bsz,λb _ _=>noA b,λb z=>absurd z (noA b),e0.funs,e0.frf⟩,
  rfl,e0.bare,Un.kept hk,⟨_,x.toInCall.ns,λi y v h1 h2 h3=>?_⟩,λy c h=>⟨_,x.cell y c h⟩,e0.hok.fresh (le_refl _),λy c h=>?_,λp hp=>absurd (show p∈([]:List (Addr×Obj))from hp) (by simp),e0.hok.kept hk,?_⟩
 ·exact name_of_addr x.apart (PySem.mem_of_lookup h1) (PySem.mem_of_lookup h2)
 ·have hy:scope.names.lookup y=some .cell\/scope.names.lookup y=some .free:=hy
  rcases hy with hy|hy
  ·exact zYA hy
  ·exact absurd rfl (S.nofree _ (PySem.mem_of_lookup hy))
 ·exact le_of_lt (x.above y c (PySem.mem_of_lookup h))
 ·have hi:i<vs.length:=by
   unfold start at h2
   by_cases hi:i<vs.length
   ·exact hi
   ·rw [getElem?_append_right (by simpa using hi)]at h2
    rw [List.getElem?_replicate]at h2
    split at h2<;>cases h2
  have ha:vs[i]? =some v:=by
   unfold start at h2
   rw [getElem?_append_left (by simpa using hi),getElem?_map]at h2
   cases e:vs[i]? with
   |none=>rw [e]at h2;cases h2
   |some a=>rw [e]at h2;cases h2;rfl
  obtain⟨u,hu,rv⟩:=r.get ha
  have hp:ps[i]? =some y:=by
   rw [<-S.pre,List.getElem?_take_of_lt (by omega)];exact h1
  have ndP:ps.Nodup:=by rw [<-S.pre];exact S.nd.sublist (List.take_sublist _ _)
  refine⟨u,rv,?_⟩
  rcases S.par y (mem_of_getElem? hp)with k|k
  ·exact .inl ⟨k,zUG ndP hp hu k⟩
  ·obtain⟨c,e⟩:=zYA (n:=s.heap.objs.size+1) k
   refine .inr ⟨.inl k,c,e,?_⟩
   have q:=x.cell y c e
   rw [zUH ndP hp hu (by show scope.names.lookup y≠_;rw [k];decide)]at q
   exact q
 ·exact e0.hok.fresh (le_of_lt (x.above y c (PySem.mem_of_lookup h)))
 ·unfold start
  show _=N.length
  rw [lA,lM0,length_replicate]
  omega
theorem yPM{CX:CXT}{P:Program}{w:World}{K:PySem.W.Frag}{mg:Str->Option Value}{base:Heap}{k:Nat}{f:Addr}{name qual:Str}{params:Arguments}{body:List Stmt}{scope:Scope}{dV kV doc pm cdv ct oc:Value}{an od:Option Addr}
  {osl:Array (Option Value)} {N ps:List Str} {sp:Sp} (lk:K.lookup f=some ⟨oc,od,.func (PySem.W.fnOf name qual params body scope dV kV doc pm an cdv ct),osl⟩) (hcd:PySem.W.codeIn K cdv qual=true) (S:FnScope N ps scope)
  (len: ∀vs H Q E,sp vs H Q E->vs.length=ps.length)
  (hbody: ∀(A:Around)(outer:List Env)(s:Shared)(H:Hp)(vs:List V)(Q:VK)(E:XK),Room k (A.deeper (envOfC qual scope s.heap.objs.size f cdv))->sp vs H Q E->
   ∃t,PSs (zRM CX P w K mg base N qual scope f cdv A outer s H E) body t/\t {nx:=λ_ H'=>Q .non H',rt:=Q} (start N vs) H):
  FnOk P w K mg base CX (k+1) f (PySem.W.fnOf name qual params body scope dV kV doc pm an cdv ct) ps sp:=by
 refine⟨len,λA outer s H args us vs Q E hr e0 hb r hsp=>?_⟩
 have hl:=len _ _ _ _ hsp
 have KX:K.In s.heap:=e0.mod.kin.keeps λb o e=>(e0.bs b o e).1
 have lim:s.heap.NoLimit:=e0.mod.nolimit.keeps λb o e=>(e0.bs b o e).1
 have hkind: ∀y∈ps.zip us,scope.names.lookup y.1=some .local\/(scope.names.lookup y.1=some .cell/\((cellsFrom (s.heap.objs.size+1) scope.names []).lookup y.1).isSome=true):=λ⟨n,v⟩ hy=>by
  rcases S.par n (of_mem_zip hy).1 with q|q
  ·exact .inl q
  ·exact .inr ⟨q,PySem.W.cellsFrom_some _ _ _ (.inl q)⟩
 refine codeAny_call_function hr.depth (KX _ _ lk) rfl S.co S.gen rfl (PySem.W.codeRec_of KX hcd) (hb _ _ _ _ ?_)
 refine wpAny_newFunctionEnv_cells S.kind hkind λenv he s1 x=>?_
 subst he
 refine⟨lim.keeps x.toInCall.keep,codeAny_func ?_⟩
 obtain⟨t,ht,hq⟩:=hbody A outer s H vs Q E (hr.deeper _) hsp
 have I:Inv (zRM CX P w K mg base N qual scope f cdv A outer s H E) [] (start N vs) H s1:=zUI S hr.hd e0 hl r x
 refine wpAny_mono (ht [] s1 (start N vs) H _ I hq) (λfl s' hs=>?_) λe s' hs=>hs
 have fin: ∀{σ':St}{H':Hp}{v:V}{u:Value},Inv (zRM CX P w K mg base N qual scope f cdv A outer s H E) [] σ' H' s'->RelV v u->Q v H'->CE outer P w H s Q u s':=
  λ{σ' H' v u} J rv q=>⟨v,H',J.os,J.bare,J.base,J.hok,rv,q⟩
 cases fl with
 |ret u=>
  obtain⟨v,σ',H',J,rv,q⟩:=hs
  exact fin J rv q
 |next=>
  obtain⟨σ',H',J,q⟩:=hs
  exact fin (v:=V.non) (u:=Value.none) J rfl q
 |brk=>
  obtain⟨_,_,_,q⟩:=hs
  exact False.elim q
 |cont=>
  obtain⟨_,_,_,q⟩:=hs
  exact False.elim q
section
variable{X:Cx}{x:Str}{p pos:Pos}{e:Expr}{es:List Expr}{t:TA}{id T:String}{r:List V->Hp->VK->Prop}
def tCB(r:List V->Hp->VK->Prop)(t:TA):TE:=λσ H Q=>t σ H λvs H1=>r vs H1 Q
theorem zRN(hc:CallR X (.builtin id) r)(hg:Gl X x)(hm:X.mg x=none)(hv:bootBuiltins x=some (.builtin id))(ha:PA X (e::es) t)(hn:x≠"__name__":=by decide)(hdb:(x==("__debug__":Str))=false:=by decide)
  (he:starEach (e::es) X.env=(false,eval e X.env)::starEach es X.env:=by rfl) (hpl:(backTo pos (starEach es X.env)).any (·.1)=false:=by rfl):PE X (.Call (.Name x p) (e::es) [] pos) (tCB r t):=by
 intro pins s σ H Q I h
 refine wpAny_Call_Name_kw (zOD I hg hm hv ?_ hn hdb)
 exact PyProof.Rows.callWith_builtin1 (thn (ha pos pins s σ H _ I h) λus s1 ⟨vs,H1,I1,r1,q1⟩=>hc pins s1 σ H1 vs us Q I1 r1 q1) he hpl
theorem yFY(hc:CallR X (.type T) r)(hg:Gl X x)(hm:X.mg x=none)(hv:bootBuiltins x=some (.type T))(ha:PA X (e::es) t)(hn:x≠"__name__":=by decide)(hdb:(x==("__debug__":Str))=false:=by decide)
  (he:starEach (e::es) X.env=(false,eval e X.env)::starEach es X.env:=by rfl) (hpl:(backTo pos (starEach es X.env)).any (·.1)=false:=by rfl):PE X (.Call (.Name x p) (e::es) [] pos) (tCB r t):=by
 intro pins s σ H Q I h
 refine wpAny_Call_Name_kw (zOD I hg hm hv ?_ hn hdb)
 exact PyProof.Rows.callWith_type1 (thn (ha pos pins s σ H _ I h) λus s1 ⟨vs,H1,I1,r1,q1⟩=>hc pins s1 σ H1 vs us Q I1 r1 q1) he hpl
end
end L2
namespace HT
open PySem PyProof.Rows
section
variable{prog:Program}{w:World}{A:Around}{E:Value->Shared->Prop}{s:Shared}
theorem cat_tup{t b:Addr}{vs ws:List Value}{Q:Value->Shared->Prop}(ht:IsTup s.heap t vs.toArray)(hb:IsTup s.heap b ws.toArray)(hv:vs≠[])
  (h1:ws=[]->Q (.ref t) s) (h2:ws≠[]->Q (.ref s.heap.objs.size) {s with heap:=s.heap.push {cls:=.type "tuple",data:=.seq (vs++ws).toArray}})
  (hsz:vs.length+ws.length<=sizeLine):wpAny (model prog w) A (binaryOp .Add (.ref t) (.ref b)) Q E s:=by
 obtain⟨⟨cls,dd,data,sl⟩,ho,hc,n,hd⟩:=id ht
 obtain⟨⟨cls2,dd2,data2,sl2⟩,ho2,hc2,n2,hd2⟩:=id hb
 simp only at hc hd hc2 hd2
 subst hc hd hc2 hd2
 have e:vs.toArray++ws.toArray=(vs++ws).toArray:=by simp
 by_cases hw:ws=[]
 ·exact concat_meets ⟨_,ho,rfl⟩ ⟨_,ho2,rfl⟩ noFill_tuple_add seq_tuple_add PySem.F.slot_tuple_add PySem.F.entry_tuple_add (PySem.F.args_tuple_add_2 _ _)
   (tuple_addW1 t b vs.toArray ws.toArray n n2 dd dd2 sl sl2 (by simpa using hv) (by simp [hw])) ⟨ho,ho2,h1 hw⟩
 ·refine concat_meets ⟨_,ho,rfl⟩ ⟨_,ho2,rfl⟩ noFill_tuple_add seq_tuple_add PySem.F.slot_tuple_add PySem.F.entry_tuple_add (PySem.F.args_tuple_add_2 _ _)
   (tuple_addW2 t b vs.toArray ws.toArray n n2 dd dd2 sl sl2 (by simpa using hv) (by simpa using hw) (by rw [sA,sA];exact hsz)) ⟨ho,ho2,?_⟩
  rw [e]
  exact h2 hw
def sIx(n d:Nat):Option Int->Nat
 |none=>d
 |some v=>if v<0 then(v+(n:Int)).toNat else min v.toNat n
theorem sIx_nat(n d k:Nat):sIx n d (some (k:Int))=min k n:=by
 show(if(k:Int)<0 then((k:Int)+(n:Int)).toNat else min (k:Int).toNat n)=min k n
 rw [iN0 (by omega),toNat_natCast]
theorem sIx_le(n d:Nat)(hd:d<=n)(o:Option Int):sIx n d o<=n:=by
 cases o with
 |none=>exact hd
 |some v=>
  show(if v<0 then(v+(n:Int)).toNat else min v.toNat n)<=n
  by_cases hv:v<0
  ·rw [iP hv];omega
  ·rw [iN0 hv];exact Nat.min_le_right _ _
theorem yDK(v:Int)(n d:Nat):(if v<0 then max (v+(n:Int)) 0 else min v (n:Int))=((sIx n d (some v):Nat):Int):=by
 show(if v<0 then max (v+(n:Int)) 0 else min v (n:Int))=(((if v<0 then(v+(n:Int)).toNat else min v.toNat n):Nat):Int)
 by_cases hv:v<0
 ·simp only [iP hv];omega
 ·simp only [iN0 hv];omega
theorem yAW(lo hi:Option Int)(n:Nat):Builtin.Slice.sliceAdjust lo hi 1 (n:Int)=(((sIx n 0 lo:Nat):Int),((sIx n n hi:Nat):Int)):=by
 have h1: ¬((1:Int)<0):=by omega
 unfold Builtin.Slice.sliceAdjust
 simp only [h1,iF]
 refine Prod.ext ?_ ?_
 ·cases lo with
  |none=>rfl
  |some v=>exact yDK v n 0
 ·cases hi with
  |none=>rfl
  |some v=>exact yDK v n n
theorem yAX(i j:Nat):Builtin.Slice.slicePlaces (i:Int) (j:Int) 1=j - i:=by
 unfold Builtin.Slice.slicePlaces
 have h1:(1:Int)>0:=by omega
 simp only [h1,if_true,Int.ediv_one]
 split<;>omega
theorem zRO{v:Value}{o:Option Int}{Q:Option Int->Shared->Prop}(p:IsPart v o)(h:Q o s):wpAny (model prog w) A (Builtin.Slice.slicePartIndex v) Q E s:=by
 cases p with
 |none=>exact slicePart_none h
 |int i t=>exact slicePart_int h
theorem sliceApplied_gen{sl:Addr}{vl vu:Value}{lo hi:Option Int}{n:Nat}{Q:Int×Int×Nat->Shared->Prop}(hs:s.heap.IsSliceOf sl vl vu .none)(pl:IsPart vl lo)(pu:IsPart vu hi)
  (h:Q (((sIx n 0 lo:Nat):Int),1,sIx n n hi - sIx n 0 lo) s):wpAny (model prog w) A (Builtin.Slice.sliceApplied (.ref sl) (pure (n:Int))) Q E s:=by
 obtain⟨os,hos,hcs,hds⟩:=id hs
 unfold Builtin.Slice.sliceApplied Builtin.Slice.sliceFields
 refine wB0 (wB0 (wpAny_field hos hds (x:=vl) rfl (wB0 (wpAny_field hos hds (x:=vu) rfl (wB0 (wpAny_field hos hds (x:=.none) rfl (wP0 ?_)))))))
 refine wB0 (slicePart_none ?_)
 show wpAny _ _ (if((1:Int)==0)=true then _ else _) _ _ s
 rw [iN0 (by decide)]
 refine wB0 (zRO pl (wB0 (zRO pu (wB0 (wP0 ?_)))))
 show wpAny _ _ (match Builtin.Slice.sliceAdjust lo hi 1 (n:Int)with |(lo,hi)=>pure (lo,(1:Int),Builtin.Slice.slicePlaces lo hi 1)) _ _ s
 rw [yAW lo hi n]
 show wpAny _ _ (pure (((sIx n 0 lo:Nat):Int),(1:Int),Builtin.Slice.slicePlaces ((sIx n 0 lo:Nat):Int) ((sIx n n hi:Nat):Int) 1)) _ _ s
 rw [yAX]
 exact wP0 h
theorem yIG(xs:Array Value)(i k:Nat):((List.range k).filterMap λ(m:Nat)=>xs[((i:Int)+(m:Int) * 1).toNat]?).toArray=((xs.toList.drop i).take k).toArray:=by
 have e:(λ(m:Nat)=>xs[((i:Int)+(m:Int) * 1).toNat]?)=λm=>xs[i+m]? :=by
  funext m
  have:((i:Int)+(m:Int) * 1).toNat=i+m:=by omega
  rw [this]
 rw [e]
 have:=pick_run xs i k
 rw [List.filterMap_map]at this
 have e2:((λx=>xs[x]?)∘λx=>i+x)=λm=>xs[i+m]? :=rfl
 rw [e2]at this
 rw [this]
theorem getItem_tuple_cut{t sl:Addr}{items:Array Value}{vl vu:Value}{lo hi:Option Int}{Q:Value->Shared->Prop}(ht:IsTup s.heap t items)(hs:s.heap.IsSliceOf sl vl vu .none)(pl:IsPart vl lo)(pu:IsPart vu hi)
  (hw: ¬(sIx items.size 0 lo=0/\sIx items.size items.size hi=items.size))
  (h:Q (.ref s.heap.objs.size) {s with heap:=s.heap.push {cls:=.type "tuple",data:=.seq ((items.toList.drop (sIx items.size 0 lo)).take (sIx items.size items.size hi - sIx items.size 0 lo)).toArray}})
  (hsz:items.size<=sizeLine):wpAny (model prog w) A (getItem (.ref t) (.ref sl)) Q E s:=by
 have htake:sizeOk (.seq ((items.toList.drop (sIx items.size 0 lo)).take (sIx items.size items.size hi - sIx items.size 0 lo)).toArray):=by
  show((items.toList.drop (sIx items.size 0 lo)).take (sIx items.size items.size hi - sIx items.size 0 lo)).toArray.size<=sizeLine
  rw [sA,lT0,length_drop,Array.length_toList]
  omega
 have hj:sIx items.size items.size hi<=items.size:=sIx_le _ _ (le_refl _) hi
 obtain⟨os,hos,hcs,hds⟩:=id hs
 have hTs:s.TypeIs (.ref sl) "slice":=⟨os,hos,hcs⟩
 unfold getItem
 try with_reducible refine wpAny_holding ?_
 first |refine wB0 (wP0 ?_)|skip
 refine wB0 (wpAny_sequenceKey ht.typeIs (by decide) ?_)
 refine wB0 (wpAny_callSpecial?_slot (name:=Str.ofString "__getitem__") ht.typeIs PyProof.Rows.slot_tuple_getitem
  (wpAny_call_entry PyProof.Rows.slot_tuple_getitem ht.typeIs entry_tuple_getitem ?_ (args_tuple_getitem _ _)))
 show wpAny _ _ (Builtin.Tuple.tupleItemsOf (.ref t) >>= _) _ _ s
 refine wB0 (tupleItemsOf_ ht ?_)
 refine wB0 (wpAny_typeOf hTs ?_)
 rw [iP (by decide)]
 refine wB0 (sliceApplied_gen hs pl pu ?_)
 have hno: ¬((((sIx items.size 0 lo:Nat):Int)==0&&(1:Int)==1&&(sIx items.size items.size hi - sIx items.size 0 lo)==items.size)=true):=by
  intro q
  rw [aE,aE]at q
  have q1:((sIx items.size 0 lo:Nat):Int)=0:=eq_of_beq q.1.1
  have q2:sIx items.size items.size hi - sIx items.size 0 lo=items.size:=eq_of_beq q.2
  exact hw ⟨by omega,by omega⟩
 show wpAny _ _ (if(((sIx items.size 0 lo:Nat):Int)==0&&(1:Int)==1&&(sIx items.size items.size hi - sIx items.size 0 lo)==items.size)=true then _ else _) _ _ s
 rw [iN0 hno,yIG]
 first
  |exact wB0 (m:=Builtin.Tuple.tupleExact _) (wpAny_newObj_type (wP0 ⟨_,rfl,wP0 h⟩) htake)
  |exact wB0 (m:=Builtin.Tuple.tupleExact _) (wpAny_newObj_type (wB0 (wP0 (wP0 ⟨_,rfl,wP0 h⟩))) htake)
  |exact wB0 (wB0 (m:=Builtin.Tuple.tupleExact _) (wpAny_newObj_type (wP0 (wP0 ⟨_,rfl,wP0 h⟩)) htake))
  |exact wB0 (wB0 (m:=Builtin.Tuple.tupleExact _) (wpAny_newObj_type (wP0 ⟨_,rfl,wP0 h⟩) htake))
end
end HT
namespace L2
open PySem PySem.Spec PyProof.Rows
abbrev TO:=St->Hp->(Option Int->Hp->Prop)->Prop
def PO(X:Cx)(e:Option Expr)(t:TO):Prop:=
 ∀(pins:List (Addr×Obj))(s:Shared)(σ:St)(H:Hp)(Q:Option Int->Hp->Prop),Inv X pins σ H s->t σ H Q->
  wpAny (model X.prog X.w) X.A (evalPart e X.env) (λu s'=> ∃o H',Inv X pins σ H' s'/\IsPart u o/\Q o H') X.xe s
def yMG:TO:=λ_ H Q=>Q none H
def tPart(t:TE):TO:=λσ H Q=>t σ H λx H1=> ∃i,x=.int i/\Q (some i) H1
section
variable{X:Cx}{e:Expr}{te:TE}{lo hi:Option Expr}{tl th:TO}{pos p2:Pos}
theorem yMH:PO X none yMG:=by
 intro pins s σ H Q I h
 rw [evalPart_none]
 exact wP0 ⟨none,H,I,.none,h⟩
theorem yMI(h:PE X e te):PO X (some e) (tPart te):=by
 intro pins s σ H Q I hw
 rw [evalPart_some]
 refine thn (h pins s σ H _ I hw) λu s1 ⟨x,H1,I1,r1,q1⟩=>?_
 obtain⟨i,rfl,q⟩:=q1
 obtain⟨t,rfl⟩:=r1
 exact⟨some i,H1,I1,.int i t,q⟩
def SlR(X:Cx)(r:V->Option Int->Option Int->Hp->VK->Prop):Prop:=
 ∀(pins:List (Addr×Obj))(s:Shared)(σ:St)(H:Hp)(x:V)(v vl vu:Value)(lo hi:Option Int)(sl:Addr)(Q:VK),Inv X pins σ H s->RelV x v->s.heap.IsSliceOf sl vl vu .none->IsPart vl lo->IsPart vu hi->r x lo hi H Q->
  ∃T id,typeLookup (.type T) "__getitem__"=pure (some (.builtin id))/\s.TypeIs v T/\wpAny (model X.prog X.w) X.A (getItem v (.ref sl)) (EP X pins σ Q) X.xe s
theorem SlR.or{r r':V->Option Int->Option Int->Hp->VK->Prop}(h:SlR X r)(h':SlR X r'):SlR X (λx lo hi H Q=>r x lo hi H Q\/r' x lo hi H Q):=by
 intro pins s σ H x v vl vu lo hi sl Q I rx hs pl pu q
 rcases q with q|q
 ·exact h pins s σ H x v vl vu lo hi sl Q I rx hs pl pu q
 ·exact h' pins s σ H x v vl vu lo hi sl Q I rx hs pl pu q
def tSl(r:V->Option Int->Option Int->Hp->VK->Prop)(te:TE)(tl th:TO):TE:=λσ H Q=>te σ H λx H1=>tl σ H1 λl H2=>th σ H2 λu H3=>r x l u H3 Q
theorem yIH{r:V->Option Int->Option Int->Hp->VK->Prop}(hr:SlR X r)(he:PE X e te)(hl:PO X lo tl)(hu:PO X hi th):PE X (.Subscript e (.Slice lo hi none p2) pos) (tSl r te tl th):=by
 intro pins s σ H Q I h
 refine Subscript_ (thn (he pins s σ H _ I h) λv s1 ⟨x,H1,I1,r1,q1⟩=>?_)
 refine wpAny_Slice (thn (hl pins s1 σ H1 _ I1 q1) λvl s2 ⟨l,H2,I2,pl,q2⟩=>thn (hu pins s2 σ H2 _ I2 q2) λvu s3 ⟨u,H3,I3,pu,q3⟩=>?_)
 rw [evalPart_none]
 refine wP0 ?_
 have I4:Inv X pins σ H3 {s3 with heap:=s3.heap.push {cls:=.type "slice",data:=.fields #[vl,vu,.none]}}:=I3.kept (t':=s3.toks) λb ob q=>hP00 _ q
 obtain⟨T,id,hT,ht,hg⟩:=hr pins {s3 with heap:=s3.heap.push {cls:=.type "slice",data:=.fields #[vl,vu,.none]}} σ H3 x v vl vu l u s3.heap.objs.size Q I4 r1 (Heap.IsSliceOf.new ..) pl pu q3
 show wpAny (model X.prog X.w) X.A (subscriptTail e (.Slice lo hi none p2) v (.ref s3.heap.objs.size)) (EP X pins σ Q) X.xe {s3 with heap:=s3.heap.push {cls:=.type "slice",data:=.fields #[vl,vu,.none]}}
 exact tail_any (ops:=[.ref s3.heap.objs.size,v]) ht hT hg (by with_unfolding_all rfl)
def zYB(xs:List V)(lo hi:Option Int):List V:=(xs.drop (HT.sIx xs.length 0 lo)).take (HT.sIx xs.length xs.length hi - HT.sIx xs.length 0 lo)
theorem zPN(xs:List V)(lo hi:Option Int):(zYB xs lo hi).length<=xs.length:=by
 unfold zYB
 rw [lT0,length_drop]
 omega
def rSlT(K:PySem.W.Frag):V->Option Int->Option Int->Hp->VK->Prop:=λx lo hi H Q=> ∃a xs,x=.ref a/\SqT K H a xs/\
 ¬(HT.sIx xs.length 0 lo=0/\HT.sIx xs.length xs.length hi=xs.length)/\ ∀p,H p=none->Q (.ref p) (upd H p (.tup (zYB xs lo hi)))
theorem yQZ:SlR X (rSlT X.K):=by
 intro pins s σ H x v vl vu lo hi sl Q I rx hs pl pu h
 obtain⟨a,xs,rfl,hx,hw,q⟩:=h
 cases rx
 obtain⟨its,r,ht,hz⟩:=I.tuple hx
 have hlen:its.toArray.size=xs.length:=by rw [sA];exact r.length.symm
 refine⟨"tuple",_,PyProof.Rows.slot_tuple_getitem.lookup,ht.typeIs,?_⟩
 refine HT.getItem_tuple_cut ht hs pl pu (by rw [hlen];exact hw) ?_ (by rw [hlen];exact hz)
 rw [hlen]
 refine⟨.ref s.heap.objs.size,_,I.laid (t':=s.toks) (o:=.tup (zYB xs lo hi)) (λb ob q=>hP00 _ q) (le_refl _) ?_,rfl,q _ (I.hok.fresh (le_refl _))⟩
 exact⟨le_trans (zPN xs lo hi) hz,_,(r.drop (HT.sIx xs.length 0 lo)).take (HT.sIx xs.length xs.length hi - HT.sIx xs.length 0 lo),IsTup.new _ _⟩
def rCatT(K:PySem.W.Frag):R2:=λx y H Q=> ∃a b xs ys,x=.ref a/\y=.ref b/\SqT K H a xs/\SqT K H b ys/\xs≠[]/\xs.length+ys.length<=sizeLine/\
 (ys=[]->Q (.ref a) H)/\(ys≠[]-> ∀p,H p=none->Q (.ref p) (upd H p (.tup (xs++ys))))
theorem Vals.nil_iff{xs:List V}{us:List Value}(r:Vals xs us):us=[]↔xs=[]:=by
 cases r with
 |nil=>simp
 |cons _ _=>simp
theorem yMJ:OpR X (binaryOp .Add) (rCatT X.K):=by
 intro pins s σ H x y v u Q I rx ry h
 obtain⟨a,b,xs,ys,rfl,rfl,ha,hb,hx,hz,q1,q2⟩:=h
 cases rx
 cases ry
 obtain⟨its,r1,p1,_⟩:=I.tuple ha
 obtain⟨its2,r2,p2,_⟩:=I.tuple hb
 refine HT.cat_tup p1 p2 (λz=>hx (r1.nil_iff.mp z)) (λz=>⟨.ref a,H,I,rfl,q1 (r2.nil_iff.mp z)⟩) (λz=>?_) (by rw [<-r1.length, <-r2.length];exact hz)
 refine⟨.ref s.heap.objs.size,_,I.laid (t':=s.toks) (o:=.tup (xs++ys)) (λb ob q=>hP00 _ q) (le_refl _) ?_,rfl,q2 (λw=>z (r2.nil_iff.mpr w)) _ (I.hok.fresh (le_refl _))⟩
 exact⟨by rw [lA];exact hz,_,r1.append r2,IsTup.new _ _⟩
end
def ixN(n:Nat)(i:Int):Option Nat:=if 0<=i then(if i<n then some i.toNat else none)else if -(n:Int)<=i then some (i+n).toNat else none
def atI{α:Type}(xs:List α)(i:Int):Option α:=(ixN xs.length i).bind λj=>xs[j]?
theorem yDL{n:Nat}{i:Int}{j:Nat}(h:ixN n i=some j):seqIndex? i n=some j/\j<n/\ -(n:Int)<=i/\i<n:=by
 unfold ixN at h
 by_cases h0:0<=i
 ·rw [iP h0]at h
  by_cases h1:i<n
  ·rw [iP h1]at h
   have e:i.toNat=j:=Option.some.inj h
   exact⟨by rw [seqIndex_of h0 h1,e],by omega,by omega,h1⟩
  ·rw [iN0 h1]at h;cases h
 ·rw [iN0 h0]at h
  by_cases h1: -(n:Int)<=i
  ·rw [iP h1]at h
   have e:(i+n).toNat=j:=Option.some.inj h
   exact⟨by rw [seqIndex_neg (by omega) h1,e],by omega,h1,by omega⟩
  ·rw [iN0 h1]at h;cases h
theorem zVN{α:Type}{xs:List α}{i:Int}{v:α}(h:atI xs i=some v): ∃j,seqIndex? i xs.length=some j/\xs[j]? =some v/\j<xs.length/\ -(xs.length:Int)<=i/\i<xs.length:=by
 unfold atI at h
 cases e:ixN xs.length i with
 |none=>rw [e]at h;cases h
 |some j=>
  rw [e]at h
  obtain⟨h1,h2,h3,h4⟩:=yDL e
  exact⟨j,h1,h,h2,h3,h4⟩
def zVO(b:Expr):Prop:= ∀o i,subscripted b false o i=operate [o,i] (getItem o i)
def IxR(X:Cx)(r:R2):Prop:=
 ∀(value slice:Expr)(pins:List (Addr×Obj))(s:Shared)(σ:St)(H:Hp)(x y:V)(v u:Value)(Q:VK),Inv X pins σ H s->RelV x v->RelV y u->r x y H Q->
  subscripted slice false v u=operate [v,u] (getItem v u)->wpAny (model X.prog X.w) X.A (subscriptTail value slice v u) (EP X pins σ Q) X.xe s
def MtR(X:Cx)(id:String)(r:V->List V->Hp->VK->Prop):Prop:=
 ∀(pins:List (Addr×Obj))(s:Shared)(σ:St)(H:Hp)(x:V)(xs:List V)(v:Value)(us:List Value)(Q:VK),Inv X pins σ H s->RelV x v->Vals xs us->r x xs H Q->
  wpAny (model X.prog X.w) X.A (call (.builtin id) (v::us)) (EP X pins σ Q) X.xe s
section
variable{X:Cx}{a b:Expr}{ta tb:TE}{pos:Pos}
theorem IxR.or{r r':R2}(h:IxR X r)(h':IxR X r'):IxR X (λx y H Q=>r x y H Q\/r' x y H Q):=by
 intro value slice pins s σ H x y v u Q I rx ry q hs
 rcases q with q|q
 ·exact h value slice pins s σ H x y v u Q I rx ry q hs
 ·exact h' value slice pins s σ H x y v u Q I rx ry q hs
theorem pe_ix{r:R2}(hr:IxR X r)(ha:PE X a ta)(hb:PE X b tb)(hs:zVO b):PE X (.Subscript a b pos) (tOp r ta tb):=by
 intro pins s σ H Q I h
 exact Subscript_ (binT ha hb I h λv u s2 x y H2 I2 rx ry q=>hr a b pins s2 σ H2 x y v u Q I2 rx ry q (hs _ _))
def rIxL(K:PySem.W.Frag):R2:=λx y H Q=> ∃p xs i v,x=.ref p/\y=.int i/\SqL K H p xs/\atI xs i=some v/\Q v H
def rIxT(K:PySem.W.Frag):R2:=λx y H Q=> ∃p xs i v,x=.ref p/\y=.int i/\SqT K H p xs/\atI xs i=some v/\Q v H
def rIxS:R2:=λx y H Q=> ∃z i c,x=.str z/\y=.int i/\z.length<=sizeLine/\atI z.cps.toList i=some c/\Q (.str ⟨#[c]⟩) H
theorem yMK:IxR X (rIxL X.K):=by
 intro value slice pins s σ H x y v u Q I rx ry h hs
 obtain⟨p,xs,i,z,rfl,rfl,hq,he,q⟩:=h
 cases rx
 obtain⟨t,rfl⟩:=ry
 obtain⟨its,r,pl,hz⟩:=I.list hq
 obtain⟨j,h1,h2,h3,h4,h5⟩:=zVN he
 obtain⟨w,ew,rw'⟩:=r.get h2
 have hl:=r.length
 have hn:=zLP
 have fin:EP X pins σ Q w s:=⟨z,H,I,rw',q⟩
 by_cases h0:0<=i
 ·have hj:i.toNat=j:=by
   rw [seqIndex_of h0 h5]at h1
   exact Option.some.inj h1
  exact item_listR pl.isList h0 (by omega) (by rw [hj];simpa using ew) fin hs
 ·have hj:(i+(its.toArray.size:Int)).toNat=j:=by
   rw [seqIndex_neg (by omega) h4]at h1
   rw [sA, <-hl]
   exact Option.some.inj h1
  exact subscriptTail_builtinR (x:=w) pl.isList.typeIs slot_list_getitem.lookup
   (wpAny_getItem_list_neg (Q:=λr s'=>r=w/\EP X pins σ Q r s') pl.isList (by omega) (by rw [sA]<;>omega) (by omega) (by rw [hj];simpa using ew) ⟨rfl,fin⟩) hs
theorem ix_tup:IxR X (rIxT X.K):=by
 intro value slice pins s σ H x y v u Q I rx ry h hs
 obtain⟨p,xs,i,z,rfl,rfl,hq,he,q⟩:=h
 cases rx
 obtain⟨t,rfl⟩:=ry
 obtain⟨its,r,pl,hz⟩:=I.tuple hq
 obtain⟨j,h1,h2,h3,h4,h5⟩:=zVN he
 obtain⟨w,ew,rw'⟩:=r.get h2
 have hl:=r.length
 have hn:=zLP
 have fin:EP X pins σ Q w s:=⟨z,H,I,rw',q⟩
 exact subscriptTail_builtinR (x:=w) pl.typeIs slot_tuple_getitem.lookup
  (getItem_tuple (j:=j) (Q:=λr s'=>r=w/\EP X pins σ Q r s') pl (by omega) (by omega) (by rw [sA, <-hl];exact h1) (by simpa using ew) ⟨rfl,fin⟩) hs
theorem ix_str:IxR X rIxS:=by
 intro value slice pins s σ H x y v u Q I rx ry h hs
 obtain⟨z,i,c,rfl,rfl,hz,he,q⟩:=h
 obtain⟨t,rfl⟩:=rx
 obtain⟨t',rfl⟩:=ry
 obtain⟨j,h1,h2,h3,h4,h5⟩:=zVN he
 have hl:z.cps.toList.length=z.length:=by simp [Str.length]
 rw [hl]at h1 h4 h5
 have hn:=zLP
 exact tail_any (typeIs_str s z t) slot_str_getitem.lookup (getItem_str (c:=c) (by
  have e1:decide (i< -(2 ^ 63:Int))=false:=dF0 (by omega)
  have e2:decide (i>=2 ^ 63)=false:=dF0 (by omega)
  rw [e1,e2,Bool.or_false]) (by rw [h1];simpa using h2) ⟨.str ⟨#[c]⟩,H,I.tok _,⟨_,rfl⟩,q⟩) hs
def rIx(K:PySem.W.Frag):R2:=λx y H Q=>rIxL K x y H Q\/rIxT K x y H Q\/rIxS x y H Q
theorem yRA:IxR X (rIx X.K):=yMK.or (ix_tup.or ix_str)
theorem yAY(its:List Value)(n j:Nat)(u:Value):Obj.mapSeq (·.setIfInBounds j u) {cls:=.type "list",data:=.seq its.toArray n}={cls:=.type "list",data:=.seq (its.set j u).toArray n}:=by
 simp [Obj.mapSeq]
theorem Inv.lst{pins:List (Addr×Obj)}{σ:St}{H:Hp}{s:Shared}{p:Addr}{xs:List V}(I:Inv X pins σ H s)(h:H p=some (.lst xs)):
  ∃(its:List Value)(n:Nat),Vals xs its/\s.heap.get? p=some {cls:=.type "list",data:=.seq its.toArray n}/\xs.length<=sizeLine:=by
 obtain⟨z,its,n,r,e⟩:=I.hok p _ h
 exact⟨its,n,r,e,z⟩
theorem Inv.lstUpd{pins:List (Addr×Obj)}{σ:St}{H:Hp}{s:Shared}{p:Addr}{xs ys:List V}{its its':List Value}{n n':Nat}{f:Obj->Obj}(I:Inv X pins σ H s)(h:H p=some (.lst xs))
  (ho:s.heap.get? p=some {cls:=.type "list",data:=.seq its.toArray n}) (hf:f {cls:=.type "list",data:=.seq its.toArray n}={cls:=.type "list",data:=.seq its'.toArray n'}) (r:Vals ys its') (hz:ys.length<=sizeLine) (t:Nat):
  Inv X pins σ (upd H p (.lst ys)) {s with heap:=s.heap.update p f,toks:=t}:=by
 have e:(s.heap.update p f).get? p=some {cls:=.type "list",data:=.seq its'.toArray n'}:=by
  rw [Heap.get?_update_self f ho (by rw [hf]<;>rfl),hf]
 refine I.write (x:=p) (e:=p) (by rw [h];trivial) (.inl rfl) (λb u hb q=>(Heap.get?_update_other _ _ (Ne.symm hb)).trans q) ⟨_,e⟩ ?_
 exact⟨hz,its',n',r,e⟩
def rSetL:V->V->V->Hp->(Hp->Prop)->Prop:=λo i v H Q=> ∃p xs k j,o=.ref p/\i=.int k/\H p=some (.lst xs)/\ixN xs.length k=some j/\Q (upd H p (.lst (xs.set j v)))
theorem set_list:PSet X rSetL:=by
 intro pins s σ H o i v ov iv u Q I ro ri rv h
 obtain⟨p,xs,k,j,rfl,rfl,hp,hj,q⟩:=h
 cases ro
 obtain⟨t,rfl⟩:=ri
 obtain⟨its,n,r,ho,hz⟩:=I.lst hp
 obtain⟨h1,h2,h3,h4⟩:=yDL hj
 have hl:=r.length
 have hn:=zLP
 have I':Inv X pins σ (upd H p (.lst (xs.set j v))) {s with heap:=s.heap.update p (Obj.mapSeq (·.setIfInBounds j u))}:=
  I.lstUpd hp ho (yAY its n j u) (r.set rv j) (by rw [length_set];exact hz) s.toks
 by_cases h0:0<=k
 ·have hk:k.toNat=j:=by
   rw [seqIndex_of h0 h4]at h1
   exact Option.some.inj h1
  exact PySem.W.ki_setAt ho h0 (by omega) (by rw [sA, <-hl];exact h4) (by rw [hk];exact⟨_,I',q⟩)
 ·have hk:(k+(its.toArray.size:Int)).toNat=j:=by
   rw [seqIndex_neg (by omega) h3]at h1
   rw [sA, <-hl]
   exact Option.some.inj h1
  exact PySem.W.ki_setBack ho (by omega) (by rw [sA, <-hl];exact h3) (by omega) (by rw [hk];exact⟨_,I',q⟩)
theorem zVP(lo hi:Option Int)(n:Nat):(sliceBounds lo hi none n).1=((HT.sIx n 0 lo:Nat):Int)/\(sliceBounds lo hi none n).2.1=((HT.sIx n n hi:Nat):Int)/\(sliceBounds lo hi none n).2.2=1:=by
 refine⟨?_,?_,rfl⟩
 ·cases lo with
  |none=>simp [sliceBounds,HT.sIx]
  |some i=>
   simp only [sliceBounds,HT.sIx,Option.getD_none,show(1:Int)>0 by decide,if_true]
   by_cases h:i<0
   ·simp only [h,if_true]<;>omega
   ·simp only [h,iF]<;>omega
 ·cases hi with
  |none=>simp [sliceBounds,HT.sIx]
  |some i=>
   simp only [sliceBounds,HT.sIx,Option.getD_none,show(1:Int)>0 by decide,if_true]
   by_cases h:i<0
   ·simp only [h,if_true]<;>omega
   ·simp only [h,iF]<;>omega
theorem zTL(its:List Value)(lo hi:Option Int):slicePick its.toArray lo hi none=((its.drop (HT.sIx its.length 0 lo)).take (HT.sIx its.length its.length hi - HT.sIx its.length 0 lo)).toArray:=by
 obtain⟨h1,h2,h3⟩:=zVP lo hi its.toArray.size
 unfold slicePick
 rw [h1,h2,h3]
 simp only [sliceRange_one,pick_run,sA]<;>rfl
def rSlL(K:PySem.W.Frag):V->Option Int->Option Int->Hp->VK->Prop:=λx lo hi H Q=> ∃a xs,x=.ref a/\SqL K H a xs/\ ∀p,H p=none->Q (.ref p) (upd H p (.lst (zYB xs lo hi)))
theorem yML:SlR X (rSlL X.K):=by
 intro pins s σ H x v vl vu lo hi sl Q I rx hs pl pu h
 obtain⟨a,xs,rfl,hx,q⟩:=h
 cases rx
 obtain⟨its,r,ht,hz⟩:=I.list hx
 have hlen:=r.length
 refine⟨"list",_,slot_list_getitem.lookup,ht.isList.typeIs,?_⟩
 refine wpAny_getItem_list_slice ht.isList hs pl pu .none (by simp) ?_ (by rw [sA]<;>omega)
 rw [zTL, <-hlen]
 refine⟨.ref s.heap.objs.size,_,I.laid (t':=s.toks) (o:=.lst (zYB xs lo hi)) (λb ob q=>hP00 _ q) (le_refl _) ?_,rfl,q _ (I.hok.fresh (le_refl _))⟩
 exact⟨le_trans (zPN xs lo hi) hz,_,0,(r.drop (HT.sIx xs.length 0 lo)).take (HT.sIx xs.length xs.length hi - HT.sIx xs.length 0 lo),Heap.get?_push_size _ rfl⟩
def jO:V->Bool
 |.non=>true
 |.bl _=>true
 |.int _=>true
 |.str _=>true
 |_=>false
def eqV:V->V->Bool
 |.non,.non=>true
 |.bl a,.bl b=>a==b
 |.bl a,.int b=>(if a then 1 else 0)==b
 |.int a,.bl b=>a==(if b then 1 else 0)
 |.int a,.int b=>a==b
 |.str a,.str b=>a==b
 |_,_=>false
theorem yRB{A:Around}{s:Shared}{y x:V}{u v:Value}(ry:RelV y u)(rx:RelV x v)(fy:jO y=true)(fx:jO x=true):SeqAt.EqAt A s u v (eqV y x):=by
 cases y with
 |non=>
  cases ry
  cases x with
  |non=>cases rx;exact SeqAt.EqAt.same _
  |bl b=>cases rx;exact SeqAt.EqAt.none_bool b
  |int b=>obtain⟨t,rfl⟩:=rx;exact SeqAt.EqAt.none_int b t
  |str b=>obtain⟨t,rfl⟩:=rx;exact SeqAt.EqAt.none_str b t
  |_=>exact absurd (show false=true from fx) xF0
 |bl a=>
  cases ry
  cases x with
  |non=>cases rx;exact SeqAt.EqAt.bool_none a
  |bl b=>cases rx;exact SeqAt.EqAt.bool_bool a b
  |int b=>obtain⟨t,rfl⟩:=rx;exact SeqAt.EqAt.bool_int a b t
  |str b=>obtain⟨t,rfl⟩:=rx;exact SeqAt.EqAt.bool_str a b t
  |_=>exact absurd (show false=true from fx) xF0
 |int a=>
  obtain⟨t',rfl⟩:=ry
  cases x with
  |non=>cases rx;exact SeqAt.EqAt.int_none a t'
  |bl b=>cases rx;exact SeqAt.EqAt.int_bool a t' b
  |int b=>obtain⟨t,rfl⟩:=rx;exact SeqAt.EqAt.int_int a t' b t
  |str b=>obtain⟨t,rfl⟩:=rx;exact SeqAt.EqAt.int_str a t' b t
  |_=>exact absurd (show false=true from fx) xF0
 |str a=>
  obtain⟨t',rfl⟩:=ry
  cases x with
  |non=>cases rx;exact SeqAt.EqAt.str_none a t'
  |bl b=>cases rx;exact SeqAt.EqAt.str_bool a t' b
  |int b=>obtain⟨t,rfl⟩:=rx;exact SeqAt.EqAt.str_int a t' b t
  |str b=>obtain⟨t,rfl⟩:=rx;exact SeqAt.EqAt.str_str a t' b t
  |_=>exact absurd (show false=true from fx) xF0
 |_=>exact absurd (show false=true from fy) xF0
theorem zVQ:CallR X (.builtin "len") (λxs H Q=> ∃p ys,xs=[.ref p]/\(SqL X.K H p ys\/SqT X.K H p ys)/\Q (.int ys.length) H):=by
 intro pins s σ H xs us Q I r h
 obtain⟨p,ys,rfl,hq,q⟩:=h
 obtain⟨u,rfl,rx⟩:=vals1 r
 cases rx
 have hn:=zLP
 rcases hq with hq|hq
 ·obtain⟨its,r',pl,hz⟩:=I.list hq
  have hlen:=r'.length
  exact Calls.call_len_list pl.isList (by simp only [sA]<;>omega) ⟨.int ys.length,H,I.tok _,⟨s.toks+1,by rw [sA,hlen]⟩,q⟩
 ·obtain⟨its,r',pl,hz⟩:=I.tuple hq
  have hlen:=r'.length
  exact len_tuple pl (by simp only [sA]<;>omega) ⟨.int ys.length,H,I.tok _,⟨s.toks+1,by rw [sA,hlen]⟩,q⟩
theorem zVR:CallR X (.builtin "len") (λxs H Q=> ∃z,xs=[.str z]/\z.length<=sizeLine/\Q (.int z.length) H):=by
 intro pins s σ H xs us Q I r h
 obtain⟨z,rfl,hz,q⟩:=h
 obtain⟨u,rfl,t,rfl⟩:=vals1 r
 have hn:=zLP
 exact len_str (by omega) ⟨.int z.length,H,I.tok _,⟨_,rfl⟩,q⟩
theorem CallR.or{f:Value}{r r':List V->Hp->VK->Prop}(h:CallR X f r)(h':CallR X f r'):CallR X f (λxs H Q=>r xs H Q\/r' xs H Q):=by
 intro pins s σ H xs us Q I rs q
 rcases q with q|q
 ·exact h pins s σ H xs us Q I rs q
 ·exact h' pins s σ H xs us Q I rs q
theorem zMV:CallR X (.type "list") (λxs H Q=> ∃p ys,xs=[.ref p]/\(SqL X.K H p ys\/SqT X.K H p ys)/\ ∀l,H l=none->Q (.ref l) (upd H l (.lst ys))):=by
 intro pins s σ H xs us Q I r h
 obtain⟨p,ys,rfl,hq,q⟩:=h
 obtain⟨u,rfl,rx⟩:=vals1 r
 cases rx
 have fin: ∀(its:List Value),Vals ys its->ys.length<=sizeLine-> ∀(h':Heap)(c':Nat),(∀b o',s.heap.get? b=some o'->h'.get? b=some o')->
   h'.get? s.heap.objs.size=some {cls:=.type "list",dict:=none,data:=.seq its.toArray c',slots:=#[]}->EP X pins σ Q (.ref s.heap.objs.size) {s with heap:=h'}:=λits r' hz h' c' kp e=>
  ⟨.ref s.heap.objs.size,_,I.laid (t':=s.toks) kp (le_refl _) (show ObjOk X.prog X.w _ h' _ (.lst ys)from⟨hz,its,c',r',e⟩),rfl,q _ (I.hok.fresh (le_refl _))⟩
 rcases hq with hq|hq
 ·obtain⟨its,r',pl,hz⟩:=I.list hq
  have hlen:=r'.length
  obtain⟨o,ho,hc,n,hd⟩:=pl.isList
  exact call_list_seq p (.inl rfl) ho hc hd (λh' c' kp e=>fin its r' hz h' c' kp e) (by simp only [sA]<;>omega)
 ·obtain⟨its,r',pl,hz⟩:=I.tuple hq
  have hlen:=r'.length
  obtain⟨o,ho,hc,n,hd⟩:=pl
  exact call_list_seq p (.inr rfl) ho hc hd (λh' c' kp e=>fin its r' hz h' c' kp e) (by simp only [sA]<;>omega)
theorem xD:CallR X (.type "tuple") (λxs H Q=> ∃p ys,xs=[.ref p]/\((SqL X.K H p ys/\ ∀l,H l=none->Q (.ref l) (upd H l (.tup ys)))\/(SqT X.K H p ys/\Q (.ref p) H))):=by
 intro pins s σ H xs us Q I r h
 obtain⟨p,ys,rfl,h⟩:=h
 obtain⟨u,rfl,rx⟩:=vals1 r
 cases rx
 rcases h with⟨hq,q⟩|⟨hq,q⟩
 ·obtain⟨its,r',pl,hz⟩:=I.list hq
  have hlen:=r'.length
  refine call_tuple_list pl.isList (λh' kp=>?_) (by simp only [sA]<;>omega)
  have I1:Inv X pins σ H {s with heap:=h'}:=I.kept (t':=s.toks) kp
  have I2:Inv X pins σ (upd H h'.objs.size (.tup ys)) {s with heap:=h'.push {cls:=.type "tuple",data:=.seq its.toArray}}:=
   I1.laid (t':=s.toks) (λb o e=>hP00 _ e) (le_refl _) (show ObjOk X.prog X.w _ _ _ (.tup ys)from⟨hz,its,r',IsTup.new _ _⟩)
  exact⟨.ref h'.objs.size,_,I2,rfl,q _ (I1.hok.fresh (le_refl _))⟩
 ·obtain⟨its,r',pl,hz⟩:=I.tuple hq
  exact call_tuple_same pl ⟨.ref p,H,I,rfl,q⟩
def tyV(K:PySem.W.Frag)(T:String)(x:V)(H:Hp):Prop:=match x with
 |.str _=>T="str"
 |.int _=>T="int"
 |.ref p=>(T="list"/\ ∃xs,SqL K H p xs)\/(T="tuple"/\ ∃o,K.lookup p=some o/\o.cls=.type "tuple"/\o.dict=none)\/
   (T="dict"/\((∃kvs,H p=some (.dK kvs))\/ ∃kvs,H p=some (.dT kvs)))\/(T="set"/\ ∃S n,H p=some (.set S n))
 |_=>False
theorem yRC{pins:List (Addr×Obj)}{σ:St}{H:Hp}{s:Shared}{T:String}{x:V}{v:Value}(I:Inv X pins σ H s)(r:RelV x v)(ty:tyV X.K T x H):
  s.TypeIs v T/\ ∀a,v=.ref a-> ∃ob,s.heap.get? a=some ob/\ob.dict=none:=by
 cases x with
 |str z=>
  obtain⟨t,rfl⟩:=r
  cases (show T="str" from ty)
  exact⟨typeIs_str s z t,λ_ e=>nomatch e⟩
 |int i=>
  obtain⟨t,rfl⟩:=r
  cases (show T="int" from ty)
  exact⟨typeIs_int s i t,λ_ e=>nomatch e⟩
 |ref p=>
  cases r
  rcases ty with⟨rfl,xs,hq⟩|⟨rfl,o,hk,hc,hd⟩|⟨rfl,hk⟩|⟨rfl,S,n,hk⟩
  ·obtain⟨its,_,pl,_⟩:=I.list hq
   refine⟨pl.isList.typeIs,λa e=>?_⟩
   cases e
   obtain⟨o,n,e,c,hd,_⟩:=pl
   exact⟨o,e,hd⟩
  ·refine⟨⟨o,I.kIn p o hk,hc⟩,λa e=>?_⟩
   cases e
   exact⟨o,I.kIn _ o hk,hd⟩
  ·have z: ∃o,s.heap.get? p=some o/\o.ExactDict:=by
    rcases hk with⟨kvs,hk⟩|⟨kvs,hk⟩
    ·obtain⟨_,_,_,_,o,_,_,e,ex,_⟩:=I.hok p _ hk
     exact⟨o,e,ex⟩
    ·obtain⟨_,_,_,_,o,_,_,e,ex,_⟩:=I.hok p _ hk
     exact⟨o,e,ex⟩
   obtain⟨o,e,ex⟩:=z
   refine⟨⟨o,e,ex.1⟩,λa e2=>?_⟩
   cases e2
   exact⟨o,e,ex.2.1⟩
  ·obtain⟨o,_,_,_,e,ex,_⟩:=I.hok p _ hk
   refine⟨⟨o,e,ex.1⟩,λa e2=>?_⟩
   cases e2
   exact⟨o,e,ex.2.1⟩
 |_=>exact False.elim ty
def tBM(K:PySem.W.Frag)(T:String)(r:V->List V->Hp->VK->Prop)(to:TE)(t:TA):TE:=λσ H Q=>to σ H λx H1=>tyV K T x H1/\t σ H1 λxs H2=>r x xs H2 Q
variable{o e:Expr}{es:List Expr}{to:TE}{t:TA}{name:Str}{apos cpos:Pos}{T id:String}{r:V->List V->Hp->VK->Prop}
theorem pe_bm(pa:PlainAttrs T)(slot:Slot T name id)(hty:typeOf (.builtin id)=pure (.type "method_descriptor"))(hm:MtR X id r)(ho:PE X o to)(ha:PA X (e::es) t)
  (hbase:attributeBase o name X.env (eval o X.env)=eval o X.env:=by rfl)
  (hfew:((backTo cpos (starEach (e::es) X.env)).all (λx=>!x.1)&&(backToKw cpos (keywordEach [] X.env)).all (λx=>x.1.isSome)
   &&decide ((e::es).length+([]:List Keyword).length+(if([]:List Keyword).isEmpty then 0 else 1)<30))=true:=by rfl)
  (hline:(apos.endLine==cpos.line)=true:=by rfl) (hs:starEach (e::es) X.env=(false,eval e X.env)::starEach es X.env:=by rfl) (hplain:(backTo cpos (starEach es X.env)).any (·.1)=false:=by rfl):
  PE X (.Call (.Attribute o name apos) (e::es) [] cpos) (tBM X.K T r to t):=by
 intro pins s σ H Q I h
 refine wpAny_Call_method_late hbase hfew hline rfl (thn (ho pins s σ H _ I h) λv s1 ⟨x,H1,I1,r1,ty,q1⟩=>?_)
 obtain⟨h1,h2⟩:=yRC I1 r1 ty
 refine⟨T,id,pa,slot,hty,h1,h2,?_⟩
 have hA:=ha cpos pins s1 σ H1 _ I1 q1
 rw [hs]at hA ⊢
 refine Calls.callWith_builtin (by show(false || (backTo cpos (starEach es X.env)).any (·.1))=false;rw [hplain]<;>rfl) (Calls.evalArgs_plain ?_)
 exact thn hA λus s2 ⟨vs,H2,I2,r2,q2⟩=>hm pins s2 σ H2 x vs v us Q I2 r1 r2 q2
end
def MtM(X:Cx)(id:String)(r:V->List V->Hp->VK->Prop):Prop:=
 ∀(pins:List (Addr×Obj))(s:Shared)(σ:St)(H:Hp)(x:V)(xs:List V)(v:Value)(us:List Value)(Q:VK),Inv X pins σ H s->RelV x v->Vals xs us->r x xs H Q->
  wpAny (model X.prog X.w) X.A (call (.builtin id) (v::us)) (EP X pins σ Q) X.xe s
theorem Vals.one: ∀{x:V}{us:List Value},Vals [x] us-> ∃u,us=[u]/\RelV x u
 |_,_,.cons r .nil=>⟨_,rfl,r⟩
theorem Vals.rep{xs:List V}{us:List Value}(h:Vals xs us): ∀k:Nat,Vals (List.replicate k xs).flatten (List.replicate k us).flatten
 |0=>.nil
 |k+1=>by
  rw [replicate_succ,replicate_succ,flatten_cons,flatten_cons]
  exact Vals.append h (Vals.rep h k)
theorem foldl_rep(its:List Value): ∀(k:Nat)(acc:List Value),
  List.foldl (λx1 x2=>x1++x2) acc.toArray (List.replicate k its.toArray)=(acc++(List.replicate k its).flatten).toArray
 |0,acc=>by simp
 |k+1,acc=>by
  have e:acc.toArray++its.toArray=(acc++its).toArray:=by simp
  have e2:(acc++its)++(List.replicate k its).flatten=acc++(List.replicate (k+1) its).flatten:=by
   rw [replicate_succ,flatten_cons,aA]
  rw [<-e2, <-foldl_rep its k (acc++its), <-e,replicate_succ,List.foldl_cons]
section
variable{X:Cx}{pins:List (Addr×Obj)}{σ:St}{H:Hp}{s:Shared}{l b:Addr}{xs ys zs:List V}
theorem Inv.lset{its its':List Value}{n:Nat}{f:Array Value->Array Value}{t':Nat}(I:Inv X pins σ H s)(hH:H l=some (.lst xs))
  (e:s.heap.get? l=some {cls:=.type "list",data:=.seq its.toArray n}) (hf:f its.toArray=its'.toArray) (hv:Vals ys its') (hz:ys.length<=sizeLine):
  Inv X pins σ (upd H l (.lst ys)) {s with heap:=s.heap.update l (Obj.mapSeq f),toks:=t'}:=by
 have q:=PySem.IsL.update e f
 rw [hf]at q
 refine I.write (x:=l) (e:=l) (by rw [hH];exact trivial) (.inl rfl) (λb' u hb hu=>(Heap.get?_update_other s.heap (Obj.mapSeq f) (Ne.symm hb)).trans hu) ⟨_,q⟩ ?_
 exact⟨hz,its',_,hv,q⟩
theorem Inv.lnew{its:List Value}{t':Nat}(I:Inv X pins σ H s)(hv:Vals ys its)(hz:ys.length<=sizeLine):
  Inv X pins σ (upd H s.heap.objs.size (.lst ys)) {s with heap:=s.heap.push {cls:=.type "list",data:=.seq its.toArray},toks:=t'}:=
 I.laid (λ_ _ q=>hP00 _ q) (le_refl _) ⟨hz,its,0,hv,Heap.get?_push_size _ rfl⟩
theorem Inv.fresh(I:Inv X pins σ H s):H s.heap.objs.size=none:=I.hok.fresh (le_refl _)
theorem Inv.lstM(I:Inv X pins σ H s)(hH:H l=some (.lst xs)):xs.length<=sizeLine/\ ∃(its:List Value)(n:Nat),Vals xs its/\xs.length=its.length/\s.heap.get? l=some {cls:=.type "list",data:=.seq its.toArray n}:=by
 obtain⟨z,its,n,r,e⟩:=I.hok l _ hH
 exact⟨z,its,n,r,r.length,e⟩
theorem yII{n:Nat}(h:n<=sizeLine):Builtin.List.listTooLong n=false:=by
 unfold Builtin.List.listTooLong
 exact dF0 (by omega)
end
section
variable{X:Cx}
def yDM:V->List V->Hp->VK->Prop:=λx vs H Q=> ∃l xs y,x=.ref l/\vs=[y]/\H l=some (.lst xs)/\xs.length<sizeLine/\Q .non (upd H l (.lst (xs++[y])))
theorem yFZ:MtM X "list.append" yDM:=by
 intro pins s σ H x vs v us Q I rx rv h
 obtain⟨l,xs,y,rfl,rfl,hH,hz,q⟩:=h
 cases rx
 obtain⟨u,rfl,ru⟩:=rv.one
 obtain⟨z,its,n,r,hl,e⟩:=I.lstM hH
 refine call_meets F.slot_list_append ⟨_,e,rfl⟩ F.entry_list_append (F.args_list_append_2 _ _) (PySem.list_append l its.toArray n u (by rw [sA];omega)) ⟨e,?_⟩
 refine⟨.non,_,I.lset (its':=its++[u]) hH e (by simp) (r.append (.cons ru .nil)) ?_,rfl,q⟩
 rw [lA,lS]
 omega
def rCat:R2:=λx y H Q=> ∃l b xs zs,x=.ref l/\y=.ref b/\H l=some (.lst xs)/\H b=some (.lst zs)/\xs.length+zs.length<=sizeLine/\ ∀p,H p=none->Q (.ref p) (upd H p (.lst (xs++zs)))
theorem yRD:OpR X (binaryOp .Add) rCat:=by
 intro pins s σ H x y v u Q I rx ry h
 obtain⟨l,b,xs,zs,rfl,rfl,hH,hB,hz,q⟩:=h
 cases rx
 cases ry
 obtain⟨z,its,n,r,hl,e⟩:=I.lstM hH
 obtain⟨z2,its2,n2,r2,hl2,e2⟩:=I.lstM hB
 refine PySem.P.add_list e e2 ?_ (by rw [sA,sA];omega)
 have ea:its.toArray++its2.toArray=(its++its2).toArray:=by simp
 rw [ea]
 exact⟨.ref _,_,I.lnew (t':=s.toks) (r.append r2) (by rw [lA];omega),rfl,q _ I.fresh⟩
def rRep:R2:=λx y H Q=> ∃l k xs,x=.ref l/\y=.int k/\H l=some (.lst xs)/\ -(2 ^ 63)<=k/\k<2 ^ 63/\xs.length * k.toNat<=sizeLine/\
 ∀p,H p=none->Q (.ref p) (upd H p (.lst (List.replicate k.toNat xs).flatten))
theorem len_rep{α:Type}(xs:List α)(k:Nat):(List.replicate k xs).flatten.length=k * xs.length:=by
 induction k with
 |zero=>simp
 |succ k ih=>rw [replicate_succ,flatten_cons,lA,ih,Nat.succ_mul,Nat.add_comm]
theorem yRE:OpR X (binaryOp .Mult) rRep:=by
 intro pins s σ H x y v u Q I rx ry h
 obtain⟨l,k,xs,rfl,rfl,hH,h1,h2,hz,q⟩:=h
 cases rx
 obtain⟨t,rfl⟩:=ry
 obtain⟨z,its,n,r,hl,e⟩:=I.lstM hH
 have hlen:its.toArray.size * k.toNat<=sizeLine:=by rw [sA, <-hl];exact hz
 have hcap: ¬its.toArray.size * k.toNat>(2 ^ 63 - 1) / 8:=by
  have:(sizeLine:Nat)<=(2 ^ 63 - 1) / 8:=by decide
  omega
 have hfit: ¬(!Builtin.List.listFitsIndex k)=true:=by
  rw [fitsIndex_both h1 h2]
  exact xF0
 have hlong: ¬Builtin.List.listTooLong (its.toArray.size * k.toNat)=true:=by
  rw [yII hlen]
  exact xF0
 have hnew:List.foldl (λx1 x2=>x1++x2) #[] (List.replicate (if its.toArray.isEmpty=true then 0 else k.toNat) its.toArray)=(List.replicate k.toNat its).flatten.toArray:=by
  have f0: ∀m:Nat,List.foldl (λx1 x2=>x1++x2) #[] (List.replicate m its.toArray)=(List.replicate m its).flatten.toArray:=λm=>by
   have:=foldl_rep its m []
   rw [nil_append]at this
   exact this
  rw [f0]
  cases its with
  |nil=>simp
  |cons a r'=>rw [iN0 (by simp)]
 refine wpAny_binaryOp_repeat_ref (T:="list") (U:="int") (by decide) ⟨_,e,rfl⟩ (λs'=>typeIs_int s' k t) noFill_list_mul F.fills_int_mul F.slot_int_rmul repeat_list F.slot_int_index.lookup
  (call_meets F.slot_int_rmul (typeIs_int s k t) F.entry_int_rmul (F.args_int_rmul_2 _ _) (int___rmul___int_list k t l its.toArray n)
   ⟨e,rfl,⟨_,e,rfl⟩,call_meets F.slot_list_mul ⟨_,e,rfl⟩ F.entry_list_mul (F.args_list_mul_2 _ _) (AutoListH.list___mul___list_int_3 l its.toArray n k t hfit hcap hlong) ⟨e,?_⟩⟩)
 rw [hnew]
 exact⟨.ref _,_,I.lnew (t':=s.toks) (r.rep k.toNat) (by rw [len_rep,mul_comm];exact hz),rfl,q _ I.fresh⟩
end
end L2
namespace Att
open PySem PySem.W PySem.Calls PyProof.Rows
theorem zQE{P:Params}{h:Heap}: ∀(ns:List Int)(vs:List Value),WellAll P h vs (ns.map WData.int)->IntsAre vs ns:=by
 intro ns
 induction ns with
 |nil=>
  intro vs w
  rw [List.map_nil]at w
  cases w
  exact .nil
 |cons n ns ih=>
  intro vs w
  rw [map_cons]at w
  cases w with
  |cons a b=>
   cases a
   exact .cons _ _ (ih _ b)
theorem yGA{l:OpenLaw}{n:Nat}(hn:l.most=some n){P:Params}{h:Heap}{args:List WData}{vals:List Value}
  (hpre:l.row.toRowW.claim.pre args=true) (hwl:WellAll P h vals args):
  ∃a vs ns,vals=[Value.ref a]/\args=[WData.list (ns.map WData.int)]/\h.get? a=some {cls:=.type "list",data:=.seq vs.toArray}/\IntsAre vs ns/\ns.length<=n:=by
 have hsh:WShape.hasAll [] args [.list .int]=true:=(pre_splitW hpre).1
 have hc:l.pre.holds [] {args:=args}=true:=(pre_splitW hpre).2
 obtain⟨d,r,rfl,h1,h2⟩:=hasAllW_cons hsh
 obtain rfl:=hasAllW_nil h2
 obtain⟨xs,rfl,h3⟩:=hasW_list h1
 obtain⟨ns,rfl⟩:=items_int h3
 have hlen:ns.length<=n:=by
  unfold OpenLaw.pre at hc
  have h4:(WTm.not (.lt (.lit (.int (n:Int))) (.len (.arg 0)))).holds [] {args:=[.list (ns.map .int)]}=true:=by
   have h4:=(holds_andW hc).1
   rw [hn]at h4
   exact h4
  have h5:=condW_of h4 (w_not (w_lt w_lit (w_len_list (w_arg rfl))))
  rw [lM0]at h5
  refine Nat.le_of_not_lt λq=>?_
  have q':(n:Int)<((ns.length:Nat):Int):=by omega
  first
   |(rw [dT0 q']at h5;exact absurd h5 (by decide))
   |(simp at h5;omega)
 cases hwl with
 |cons w1 w2=>
  cases w2
  cases w1 with
  |list ho hall=>exact⟨_,_,ns,rfl,rfl,ho,zQE ns _ hall,hlen⟩
theorem yGB(l:OpenLaw)(args:List WData):l.row.toRowW.claim.post args (.bool true) args=true:=
 postW_of (r:=l.row.toRowW) (X:=(true==true))
  (show WShape.has [] (.bool true) .bool=true by first |rfl|decide|simp [WShape.has,WShape.arms,WShape.armsAll])
  (show(WTm.eq .res (.lit (.bool true))).value [] {args:=args,res:=some (.bool true),after:=args}=some (.bool (true==true))from w_eq_bool (w_res rfl) w_lit) rfl
theorem attach_call{l:OpenLaw}{n:Nat}{q:Program}{loose:List Str}{XP:(Str->Option Value)->Heap->Prop}{YP:World->Heap->Prop}{d:DefRec}
  (hn:l.most=some n) (hdf:d.params.defaults=[])
  (call: ∀(w:World)(s₀ s₁:Shared)(mg mb:Str->Option Value)(fa:Addr)(o:Obj)(pm cd doc:Value)(a:Addr)(vs:List Value)(ns:List Int),
   Ground q loose [] XP w s₀ mg mb s₁.heap->YP w s₁.heap->
   s₁.heap.get? fa=some o->o.data=.func (docDef d.name d.params d.body d.scope pm cd doc)->s₁.heap.CodeRec cd d.name->mg d.name=some (.ref fa)->
   s₁.heap.get? a=some {cls:=.type "list",data:=.seq vs.toArray}->IntsAre vs ns->ns.length<=n->s₁.gens=#[]->
   codeAny (model l.prog w) callerA (.call (.ref fa) ⟨[.ref a],[]⟩) (λr s'=>r=.ok (.ret (.bool true))/\OldK s₁.heap s'.heap/\s'.os=s₁.os/\AllBare s'.gens) s₁):
  WalkO q loose XP YP l.row.toRowW d [] (λf vs=>PySem.call f vs):=by
 intro w s₀ s₁ mg mb G Y fa o pm cd doc dV kV ho hd hcd hD hmg hg args vals as hpre hlay hrd hwl hlo
 obtain rfl:dV=.none:=Dflts.none hD hdf
 obtain rfl:kV=.none:=Dflts.noKw hD
 obtain⟨a,vs,ns,rfl,rfl,hobj,hints,hlen⟩:=yGA hn hpre hwl
 refine enter_call (codeAny_mono (call w s₀ s₁ mg mb fa o pm cd doc a vs ns G Y ho (fd_plain hd) hcd hmg hobj hints hlen hg) λr s' hq=>?_)
 obtain⟨rfl,h2,h3,h4⟩:=hq
 exact⟨.inl ⟨.bool true,.bool true,[],rfl,λ_=>rfl,.bool true,yGB l _,λ_=>⟨List.Pairwise.nil,λ_ hm=>(nomatch hm)⟩⟩,h2,h3,h4⟩
end Att
namespace L2
open PySem PySem.Spec PyProof.Rows
theorem zUJ: ∀{vs:List Value}{ns:List Int},IntsAre vs ns->Vals (ns.map V.int) vs
 |_,_,.nil=>.nil
 |_,_,.cons n t h=>.cons ⟨t,rfl⟩ (zUJ h)
def yIJ(H:Hp):Prop:= ∀b,H b=none\/ ∃o xs,H b=some (.frz o (.lst xs))
theorem yIK{P:Program}{w:World}{K:PySem.W.Frag}{mg mb:Str->Option Value}{CX:CXT}{k:Nat}{fa a:Addr}{fd:FuncData}{x:Str}{sp:Sp}{s₁:Shared}{vs:List Value}{ns:List Int}
  (KX:K.In s₁.heap) (hns:s₁.heap.Ns mainGlobals mg) (hb:s₁.heap.Ns builtinsNs mb) (hbb: ∀x:Str,x≠"__name__"->mb x=bootBuiltins x) (hlim:s₁.heap.NoLimit) (hg:s₁.gens=#[])
  (ha:s₁.heap.get? a=some {cls:=.type "list",data:=.seq vs.toArray}) (hi:IntsAre vs ns) (hl:ns.length<=sizeLine) (hr:Room k callerA)
  (F: ∀base:Heap,K.In base->base.Ns mainGlobals mg->FnOk P w K mg base CX k fa fd [x] sp) (hbind: ∀(s:Shared)(u:Value),BindsTo s fd ⟨[u],[]⟩ [(x,u)])
  (hsp: ∀H:Hp,yIJ H->SqL K H a (ns.map V.int)->sp [.ref a] H (λv _=>v=.bl true) λ_ _ _=>False)
  (hCX: ∀H e s',CX [] H s₁ (λ_ _ _=>False) e s'->False):
  codeAny (model P w) callerA (.call (.ref fa) ⟨[.ref a],[]⟩) (λr s'=>r=.ok (.ret (.bool true))/\OldK s₁.heap s'.heap/\s'.os=s₁.os/\AllBare s'.gens) s₁:=by
 have rv:=zUJ hi
 have lenV:=hi.length
 have core: ∀H:Hp,yIJ H->SqL K H a (ns.map V.int)->HOk P w H s₁.heap->(∀b,H b≠none->b=a)->(H a≠none->K.lookup a=none)->
   codeAny (model P w) callerA (.call (.ref fa) ⟨[.ref a],[]⟩) (λr s'=>r=.ok (.ret (.bool true))/\OldK s₁.heap s'.heap/\s'.os=s₁.os/\AllBare s'.gens) s₁:=by
  intro H hO hS hok hA hK
  have base_of: ∀{b:Addr}{o:Obj},s₁.heap.get? b=some o->H b=none->(zVJ s₁.heap H).get? b=some o:=λe n=>yHS e n
  have noA: ∀{b:Addr}{o:Obj}{es:Array DictEntry}{ep:Nat},s₁.heap.get? b=some o->o.data=.dict es ep->H b=none:=λ{b o es ep} e d=>by
   cases q:H b with
   |none=>rfl
   |some u=>
    have e':b=a:=hA b (by rw [q];simp)
    subst e'
    rw [ha]at e;cases e
    have d':Data.seq vs.toArray _=Data.dict es ep:=d
    cases d'
  have nsK: ∀{b:Addr}{m:Str->Option Value},s₁.heap.Ns b m->(zVJ s₁.heap H).Ns b m:=λ{b m} ⟨o,es,ep,e,d,r⟩=>⟨o,es,ep,base_of e (noA e d),d,r⟩
  have hKb:K.In (zVJ s₁.heap H):=λb o e=>base_of (KX b o e) (by
   cases q:H b with
   |none=>rfl
   |some u=>
    have e':b=a:=hA b (by rw [q];simp)
    subst e'
    rw [hK (by rw [q];simp)]at e;cases e)
  have hM:Mod K mg (zVJ s₁.heap H):=⟨hKb,nsK hns,⟨mb,nsK hb,hbb⟩,let ⟨mc,h1,h2⟩:=hlim;⟨mc,nsK h1,h2⟩⟩
  have e0:Env0 P w K mg (zVJ s₁.heap H) callerA [] s₁ H:=⟨rfl,hM,λb o e=>yLX e,Nat.le_of_eq (yFT _ _),trivial,λb hb=>absurd (show b∈([]:List Addr)from hb) (by simp),hok,.of_eq hg⟩
  refine codeAny_mono ((F _ hKb (nsK hns)).run callerA [] s₁ H ⟨[.ref a],[]⟩ [.ref a] [.ref a] _ _ hr e0 (hbind s₁ (.ref a)) (.cons rfl .nil) (hsp H hO hS)) λr s' h=>?_
  cases r with
  |error e=>exact(hCX H e s' h).elim
  |ok fl=>
   cases fl with
   |next=>exact False.elim h
   |brk=>exact False.elim h
   |cont=>exact False.elim h
   |ret u=>
    obtain⟨v,H',os,bare,un,hok',r',q⟩:=h
    have q':v=.bl true:=q
    subst q'
    obtain rfl:u=Value.bool true:=r'
    refine⟨rfl,OldK.of_keep λb o e=>?_,os,bare⟩
    cases q:H b with
    |none=>exact un.keep b o e q (by intro z;exact absurd (show b∈([]:List Addr)from z) (by simp)) (by simp)
    |some u=>
     rcases hO b with z|⟨ob,xs,z⟩
     ·rw [q]at z;cases z
     ·have z2:=un.frzs b ob _ z
      obtain⟨e1,_⟩:=hok b _ z
      obtain⟨e2,_⟩:=hok' b _ z2
      rw [e]at e1;cases e1
      exact e2
 cases hk:K.lookup a with
 |some o=>
  have e:=KX a o hk
  rw [ha]at e
  cases e
  refine core (λ_=>none) (λ_=>.inl rfl) (.inr ⟨_,vs.toArray,_,hk,rfl,rfl,rfl,by rw [sA,lenV];exact hl,by simpa using rv⟩) (λb u z=>by have z':(none:Option HO)=some u:=z;cases z') (λb z=>absurd rfl z) λz=>absurd rfl z
 |none=>
  refine core (λb=>if b=a then some (.frz {cls:=.type "list",data:=.seq vs.toArray} (.lst (ns.map V.int)))else none) (λb=>?_) (.inl (.inr ⟨{cls:=.type "list",data:=.seq vs.toArray},iP rfl⟩)) (λb u z=>?_) (λb z=>?_) λ_=>hk
  ·by_cases hb:b=a
   ·exact .inr ⟨_,_,iP hb⟩
   ·exact .inl (iN0 hb)
  ·by_cases hb:b=a
   ·have z':=(iP hb).symm.trans z
    cases z'
    subst hb
    exact⟨ha,by rw [lM0];exact hl,vs,_,rv,ha⟩
   ·have z':=(iN0 hb).symm.trans z
    cases z'
  ·by_cases hb:b=a
   ·exact hb
   ·exact absurd (iN0 hb) z
theorem walk_of{l:PySem.W.OpenLaw}{n k:Nat}{q:Program}{loose:List Str}{XP:(Str->Option Value)->Heap->Prop}{YP:World->Heap->Prop}{d:DefRec}{K:Params->PySem.W.Frag}{CX:World->CXT}{sp:World->Sp}{x:Str}
  (hn:l.most=some n) (hn2:n<=sizeLine) (hdf:d.params.defaults=[]) (hr:Room k callerA)
  (hY: ∀(w:World)(h:Heap),YP w h->(K w.params).In h)
  (F: ∀(w:World)(mg:Str->Option Value)(fa:Addr)(h:Heap),(K w.params).In h->h.Ns mainGlobals mg->mg d.name=some (.ref fa)->
   ∃fd:FuncData,(∀(s:Shared)(u:Value),BindsTo s fd ⟨[u],[]⟩ [(x,u)])/\
    ∀base:Heap,(K w.params).In base->base.Ns mainGlobals mg->FnOk l.prog w (K w.params) mg base (CX w) k fa fd [x] (sp w))
  (hsp: ∀(w:World)(H:Hp)(a:Addr)(ns:List Int),ns.length<=n->yIJ H->SqL (K w.params) H a (ns.map V.int)->sp w [.ref a] H (λv _=>v=.bl true) λ_ _ _=>False)
  (hCX: ∀(w:World)(H:Hp)(s:Shared)(e:Value)(s':Shared),CX w [] H s (λ_ _ _=>False) e s'->False):
  PySem.W.WalkO q loose XP YP l.row.toRowW d [] (λf vs=>PySem.call f vs):=by
 refine Att.attach_call hn hdf λw s₀ s₁ mg mb fa o pm cd doc a vs ns G Y ho hd hcd hmg hobj hints hlen hg=>?_
 have KX:=hY w _ Y
 obtain⟨fd,hb,hF⟩:=F w mg fa _ KX G.T.g hmg
 exact yIK KX G.T.g G.T.b G.T.builtins G.T.nolimit hg hobj hints (le_trans hlen hn2) hr hF hb (λH hO hS=>hsp w H a ns hlen hO hS) λH e s'=>hCX w H s₁ e s'
def zQN(s:Stmt)(j:Nat):Stmt:=match s with
 |.ClassDef _ _ _ body _ _ _ _ _ _ _=>body.getD j (.Pass ⟨0,0,0,0⟩)
 |_=>.Pass ⟨0,0,0,0⟩
def cN(s:Stmt):Arguments:=match s with
 |.FunctionDef _ a _ _ _ _ _ _ _ _=>a
 |_=>{posonlyargs:=[],args:=[],vararg:=none,kwonlyargs:=[],kw_defaults:=[],kwarg:=none,defaults:=[]}
def kE(s:Stmt):List Stmt:=match s with
 |.FunctionDef _ _ b _ _ _ _ _ _ _=>b
 |_=>[]
def zG(s:Stmt):Scope:=match s with
 |.FunctionDef _ _ _ _ _ _ sc _ _ _=>sc
 |_=>{kind:=.function,names:=[],isGenerator:=false,isCoroutine:=false}
abbrev CX0:CXT:=λ_ _ _ _ _ _=>False
abbrev E0:XK:=λ_ _ _=>False
theorem pass0{X:Cx}:zVM CX0 X E0:=λ_ _ _ _ _ _ _ h=>h.elim
structure Fun(K:PySem.W.Frag)(x qual:Str)(st:Stmt)(f:Addr)(fd:FuncData):Prop where
 ex: ∃(oc:Value)(od:Option Addr)(kV doc pm:Value)(an:Option Addr)(cdv ct:Value)(osl:Array (Option Value)),
  fd=PySem.W.fnOf x qual (cN st) (kE st) (zG st) .none kV doc pm an cdv ct/\K.lookup f=some ⟨oc,od,.func fd,osl⟩/\PySem.W.codeIn K cdv qual=true
 kp:PySem.W.keepIn K (.ref f)=true
section
variable{P:Program}{w:World}{K:PySem.W.Frag}{mg:Str->Option Value}{base:Heap}
theorem Fun.ok{x qual:Str}{st:Stmt}{f:Addr}{fd:FuncData}{N ps:List Str}{k:Nat}{sp:Sp}(F:Fun K x qual st f fd)(S:FnScope N ps (zG st))(len: ∀vs H Q E,sp vs H Q E->vs.length=ps.length)
  (hbody: ∀(cdv:Value)(A:Around)(outer:List Env)(s:Shared)(H:Hp)(vs:List V)(Q:VK)(E:XK),Room k (A.deeper (envOfC qual (zG st) s.heap.objs.size f cdv))->sp vs H Q E->
   ∃t,PSs (zRM CX0 P w K mg base N qual (zG st) f cdv A outer s H E).nox (kE st) t/\t {nx:=λ_ H'=>Q .non H',rt:=Q} (start N vs) H):FnOk P w K mg base CX0 (k+1) f fd ps sp:=by
 obtain⟨oc,od,kV,doc,pm,an,cdv,ct,osl,rfl,lk,hcd⟩:=F.ex
 refine yPM lk hcd S len λA outer s H vs Q E hr hsp=>?_
 obtain⟨t,h,q⟩:=hbody cdv A outer s H vs Q E hr hsp
 exact⟨t,h.nox,q⟩
theorem Fun.binds{x qual:Str}{st:Stmt}{f:Addr}{fd:FuncData}{ps:List Str}(F:Fun K x qual st f fd)
  (h: ∀(kV doc pm:Value)(an:Option Addr)(cdv ct:Value)(us:List Value),us.length=ps.length->bindArgs (PySem.W.fnOf x qual (cN st) (kE st) (zG st) .none kV doc pm an cdv ct) ⟨us,[]⟩=pure (ps.zip us)):Binds K fd ps []:=by
 obtain⟨oc,od,kV,doc,pm,an,cdv,ct,osl,rfl,lk,hcd⟩:=F.ex
 exact .all (h kV doc pm an cdv ct)
theorem zRP{x qual:Str}{st:Stmt}{f:Addr}{oc:Value}{od an:Option Addr}{osl:Array (Option Value)}{kV doc pm cdv ct:Value}(l:K.lookup f=some ⟨oc,od,.func (PySem.W.fnOf x qual (cN st) (kE st) (zG st) .none kV doc pm an cdv ct),osl⟩)
  (c:PySem.W.codeIn K cdv qual=true) (k:PySem.W.keepIn K (.ref f)=true):Fun K x qual st f (PySem.W.fnOf x qual (cN st) (kE st) (zG st) .none kV doc pm an cdv ct):=⟨⟨oc,od,kV,doc,pm,an,cdv,ct,osl,rfl,l,c⟩,k⟩
end
section
variable{X:Cx}
theorem pv(i:Nat){x:Str}{pos:Pos}(hN:X.N[i]? =some x:=by rfl)(hv:Vis X.env.scope x:=by first |exact Or.inl rfl|exact Or.inr (Or.inl rfl)|exact Or.inr (Or.inr rfl))(hd:(x==("__debug__":Str))=false:=by decide)
  (hcd:(x==("__classdict__":Str))=false:=by decide):PE X (.Name x pos) (tVar i):=zRJ hN hv hd hcd
end
end L2
set_option maxHeartbeats 4000000
namespace L2
open PySem PySem.Spec PyProof.Rows
def zIQ(env:Env)(l:List (Str×NameKind))(cs:List (Str×Addr)):List (Str×Addr):=
 l.foldl (λc y=>if y.2==.free then(y.1,(env.cells.lookup y.1).getD 0)::c else c) cs
theorem zVS{α β:Type}{l:List α}{f:α->β->Sem (ForInStep β)}{g:β->α->β}: ∀(c:β),(∀x∈l, ∀c,f x c=pure (.yield (g c x)))->
  forIn l c f=pure (l.foldl g c):=by
 induction l with
 |nil=>intro c _;rfl
 |cons x l ih=>
  intro c h
  rw [forIn_cons,h x mF0,pure_bind]
  exact ih _ λy hy=>h y (mO _ hy)
theorem zTM{scope:Scope}{env:Env}(h: ∀y∈scope.names,y.2=.free-> ∃c,env.cells.lookup y.1=some c):closureFor scope env=pure (zIQ env scope.names []):=by
 unfold closureFor zIQ
 dsimp only
 rw [zVS (g:=λc y=>if y.2==.free then(y.1,(env.cells.lookup y.1).getD 0)::c else c) [] ?_]
 ·rfl
 ·intro y hy c
  obtain⟨n,k⟩:=y
  by_cases hk:k=.free
  ·subst hk
   obtain⟨a,ha⟩:=h _ hy rfl
   have ha':env.cells.lookup n=some a:=ha
   simp [cellOf,ha']
  ·have e:(k==NameKind.free)=false:=by simpa using hk
   simp [e]
theorem zPO{env:Env}: ∀(l:List (Str×NameKind))(cs:List (Str×Addr)),(∀y∈l,y.2=.free-> ∃c,env.cells.lookup y.1=some c)->(∀p∈cs,env.cells.lookup p.1=some p.2)->
  ∀p∈zIQ env l cs,env.cells.lookup p.1=some p.2
 |[],_,_,h=>h
 |(n,k)::l,cs,hl,h=>by
  refine zPO l _ (λy hy=>hl y (mO _ hy)) λp hp=>?_
  by_cases hk:k=.free
  ·subst hk
   obtain⟨c,hc⟩:=hl _ mF0 rfl
   have hc':env.cells.lookup n=some c:=hc
   have hp':p∈(n,(env.cells.lookup n).getD 0)::cs:=hp
   rcases mC.mp hp' with rfl|hp
   ·show env.cells.lookup n=some ((env.cells.lookup n).getD 0)
    rw [hc'];rfl
   ·exact h p hp
  ·have hp':p∈(if(k==NameKind.free)=true then(n,(env.cells.lookup n).getD 0)::cs else cs):=hp
   rw [iN0 (by simpa using hk)]at hp'
   exact h p hp'
theorem zRQ{env:Env}: ∀(l:List (Str×NameKind))(cs:List (Str×Addr))(p:Str×Addr),p∈cs->p∈zIQ env l cs
 |[],_,_,h=>h
 |(n,k)::l,cs,p,h=>by
  refine zRQ l _ p ?_
  show p∈(if(k==.free)=true then(n,(env.cells.lookup n).getD 0)::cs else cs)
  split
  ·exact mO _ h
  ·exact h
theorem zIR{env:Env}: ∀(l:List (Str×NameKind))(cs:List (Str×Addr))(n:Str),(n,NameKind.free)∈l-> ∃c,(n,c)∈zIQ env l cs
 |[],_,_,h=>nomatch h
 |(m,k)::l,cs,n,h=>by
  rcases mC.mp h with e|h
  ·have e1:n=m:=congrArg Prod.fst e
   have e2:NameKind.free=k:=congrArg Prod.snd e
   subst e1 e2
   exact⟨(env.cells.lookup n).getD 0,zRQ l _ _ mF0⟩
  ·exact zIR l _ n h
theorem zEF{β:Type}: ∀{l:List (Str×β)}{n:Str},(∃c,(n,c)∈l)-> ∃c,l.lookup n=some c
 |[],_,h=>let ⟨_,z⟩:=h;nomatch z
 |(m,b)::l,n,h=>by
  by_cases e:n=m
  ·subst e
   exact⟨b,by simp [lookup_cons]⟩
  ·obtain⟨c,hc⟩:=h
   rcases mC.mp hc with z|z
   ·cases z;exact absurd rfl e
   ·obtain⟨c',h'⟩:=zEF ⟨c,z⟩
    refine⟨c',?_⟩
    have e':(n==m)=false:=by simpa using e
    simp [lookup_cons,e',h']
def zTN(scope osc:Scope):List (Str×NameKind):=scope.names.map λ(n,k)=>if(k==.free&&osc.kind==.function&&osc.names.lookup n==some .cell)then(n,.cell)else(n,k)
def zPP(osc:Scope)(N:List Str)(sc:Scope)(idx:List Nat):Bool:=
 decide (sc.kind=.function)&&sc.names.all (λy=>decide (y.2≠.cell))&&sc.names.all (λy=>decide (y.2≠.local) || decide (sc.names.lookup y.1=some .local))&&
 sc.names.all (λy=>decide (y.2≠.free) || decide (osc.names.lookup y.1=some .cell) || decide (osc.names.lookup y.1=some .free))&&
 idx.all (λi=>match N[i]? with
  |some y=>(decide (osc.names.lookup y=some .cell) || decide (osc.names.lookup y=some .free))&&(decide ((zTN sc osc).lookup y=some .cell) || decide ((zTN sc osc).lookup y=some .free))
  |none=>false)
def zOF(σ:St)(idx:List Nat):St:=idx.map λi=>(σ[i]?).join
theorem zDT(σ:St)(idx:List Nat):(zOF σ idx).length=idx.length:=by unfold zOF;rw [lM0]
def yS(X:Cx)(sc:Scope)(T:List Str)(idx:List Nat)(C:Addr)(s₂:Shared)(H1:Hp)(fp:List Addr):Cx where
 prog:=X.prog
 w:=X.w
 K:=X.K
 mg:=X.mg
 base:=X.base
 A:=X.A
 N:=T++idx.map λi=>(X.N[i]?).getD Str.empty
 s₀:=s₂
 H₀:=H1
 env:=compEnvC sc (zIQ X.env sc.names []) C X.env
 outer:=X.stack
 stack:=X.stack
 ex:=fp
 fn:=λ_=>false
 calm:=X.calm
 pn:=[]
 xe:=λ_ _=>False
def yIL(wi:TI)(g:TG)(tc:Addr->Shared->Hp->List Addr->TT)(te:Addr->Shared->Hp->List Addr->TE)(nt:Nat)(idx:List Nat):TE:=λσ H Q=>wi σ H λJ H1=> ∃W:Nat->Nat->List V->Hp->Prop,(∃m,W 0 m [] H1)/\ ∀i m ys H2,W i m ys H2->ys.length<=sizeLine/\
 ((J.stop i H2/\ ∀D,H2 D=none->Q (.ref D) (upd H2 D (.lst ys)))\/
   (J.go i H2/\ys.length<sizeLine/\ ∀x H3,J.yld i H2 x H3-> ∀τ:St,τ.length=nt->g x (τ++zOF σ idx) H3 λσ4 H4=>(∃τ',σ4=τ'++zOF σ idx/\τ'.length=nt)/\
    ∀C s₂ fp,tc C s₂ H1 fp σ4 H4 λb H5=>if b=true then te C s₂ H1 fp σ4 H5 λy H6=> ∃m',m'<m/\W (i+1) m' (ys++[y]) H6 else∃m',m'<m/\W (i+1) m' ys H5))
section
variable{prog:Program}{w:World}{A:Around}{R:Result->Shared->Prop}{s:Shared}
theorem zVT{elt target iter:Expr}{ifs:List Expr}{scope:Scope}{pos:Pos}{it acc:Value}{env:Env}(I:Nat->Shared->Prop)
  (turn: ∀n s,I n s->wpAny (model prog w) A (pyNext it) (λr s₁=>match r with
   |none=>R (.ok .next) s₁
   |some v=>wpAny (model prog w) A (letOwnedTupleGo target it v) (λ_ s₁'=>wpAny (model prog w) A (assign target env v) (λ_ s₂=>
     wpAny (model prog w) A (forIn ifs true λc r=>if r=true then do let ok <-isTrue c env (eval c env);pure (ForInStep.yield ok)else pure (ForInStep.yield r)) (λok s₃=>
      if ok=true then wpAny (model prog w) A (eval elt env) (λx s₄=>
       wpAny (model prog w) A (call (.builtin "list.append") [acc,x]) (λ_ s₅=> ∃m,m<n/\I m s₅) (λ_ _=>False) s₄) (λ_ _=>False) s₃
      else∃m,m<n/\I m s₃) (λ_ _=>False) s₂) (λ_ _=>False) s₁') (λ_ _=>False) s₁) (λ_ _=>False) s)
  (n:Nat) (h:I n s):codeAny (model prog w) A (.compLoop (.ListComp elt [⟨target,iter,ifs,0⟩] scope pos) 0 it acc env) R s:=by
 refine codeAny_loop rfl I (λn s hI=>?_) n h
 show wpAny _ A ((compTurn (.ListComp elt [⟨target,iter,ifs,0⟩] scope pos) 0 it acc env).onRaise (λx=>do noteFrame x env;theTreesLotGoes x)) _ _ s
 refine wpAny_noted ?_
 rw [compTurn_list]
 have no: ∀{E':Value->Shared->Prop}(v:Value)(s':Shared),False->E' v s':=λ_ _ z=>z.elim
 refine wB0 (wpAny_standAt (wB0 (wpAny_mono (turn n s hI) (λr s₁ h₁=>?_) (no))))
 cases r with
 |none=>exact wP0 h₁
 |some v=>
  refine wB0 (wpAny_mono h₁ (λ_ s₁' h₁'=>wB0 (wpAny_mono h₁' (λ_ s₂ h₂=>wB0 (wpAny_mono h₂ (λok s₃ h₃=>?_) no)) no)) no)
  cases ok with
  |false=>exact wP0 ⟨rfl,h₃⟩
  |true=>
   exact wB0 (wB0 (wpAny_mono h₃ (λx s₄ h₄=>wB0 (wpAny_mono h₄ (λ_ s₅ h₅=>wP0 (wP0 ⟨rfl,h₅⟩)) no)) no))
end
def yGC(X:Cx)(ifs:List Expr)(t:TT):Prop:=
 ∀(pins:List (Addr×Obj))(s:Shared)(σ:St)(H:Hp)(Q:Bool->Hp->Prop),Inv X pins σ H s->t σ H Q->
  wpAny (model X.prog X.w) X.A (forIn ifs true λc r=>if r=true then do let ok <-isTrue c X.env (eval c X.env);pure (ForInStep.yield ok)else pure (ForInStep.yield r)) (TP X pins σ Q) X.xe s
def tNoIf:TT:=λ_ H Q=>Q true H
theorem yIM{X:Cx}:yGC X [] tNoIf:=λ_ _ _ H _ I h=>wpAny_tests_nil ⟨H,I,h⟩
theorem yIN{X:Cx}{c:Expr}{t:TT}(h:PT X c t):yGC X [c] t:=λpins s σ H Q I q=>wpAny_tests_one (h pins s σ H Q I q)
structure CompF(osc:Scope)(N:List Str)(sc:Scope)(idx:List Nat):Prop where
 kind:sc.kind=.function
 nocell: ∀y∈sc.names,y.2≠.cell
 locs: ∀y∈sc.names,y.2=.local->sc.names.lookup y.1=some .local
 frees: ∀y∈sc.names,y.2=.free->osc.names.lookup y.1=some .cell\/osc.names.lookup y.1=some .free
 cap: ∀i∈idx, ∃y,N[i]? =some y/\(osc.names.lookup y=some .cell\/osc.names.lookup y=some .free)/\((zTN sc osc).lookup y=some .cell\/(zTN sc osc).lookup y=some .free)
theorem yMM{osc:Scope}{N:List Str}{sc:Scope}{idx:List Nat}(h:zPP osc N sc idx=true):CompF osc N sc idx:=by
 unfold zPP at h
 simp only [aE,all_eq_true,decide_eq_true_eq,or_eq_true]at h
 obtain⟨⟨⟨⟨h1,h2⟩,h3⟩,h4⟩,h5⟩:=h
 refine⟨h1,λy hy=>h2 y hy,λy hy e=>?_,λy hy e=>?_,λi hi=>?_⟩
 ·rcases h3 y hy with z|z
  ·exact absurd e z
  ·exact z
 ·rcases h4 y hy with(z|z)|z
  ·exact absurd e z
  ·exact .inl z
  ·exact .inr z
 ·have q:=h5 i hi
  cases e:N[i]? with
  |none=>rw [e]at q;cases q
  |some y=>
   rw [e]at q
   simp only [aE,decide_eq_true_eq,or_eq_true]at q
   exact⟨y,rfl,q.1,q.2⟩
theorem zUK{sc osc:Scope}{x:Str}(hno: ∀y∈sc.names,y.2≠.cell)(h:(zTN sc osc).lookup x=some .cell\/(zTN sc osc).lookup x=some .free):(x,NameKind.free)∈sc.names:=by
 have key: ∀k',(k'=.cell\/k'=.free)->(x,k')∈zTN sc osc->(x,NameKind.free)∈sc.names:=by
  intro k' hk' hm
  unfold zTN at hm
  obtain⟨⟨n,k⟩,hy,e⟩:=mM0.mp hm
  dsimp only at e
  split at e
  ·rename_i hc
   cases e
   rw [aE,aE]at hc
   have:k=.free:=by simpa using hc.1.1
   subst this
   exact hy
  ·cases e
   rcases hk' with rfl|rfl
   ·exact absurd rfl (hno _ hy)
   ·exact hy
 rcases h with h|h
 ·exact key _ (.inl rfl) (PySem.mem_of_lookup h)
 ·exact key _ (.inr rfl) (PySem.mem_of_lookup h)
section
variable{X:Cx}{pins:List (Addr×Obj)}{σ:St}{H1:Hp}{s₂:Shared}{sc:Scope}{T:List Str}{idx:List Nat}{C:Addr}{fp:List Addr}
theorem zYC(I:Inv X pins σ H1 s₂)(F:CompF X.env.scope X.N sc idx): ∀y∈sc.names,y.2=.free-> ∃c,X.env.cells.lookup y.1=some c:=
 λy hy e=>I.ok.has y.1 (F.frees y hy e)
theorem cE(I:Inv X pins σ H1 s₂)(F:CompF X.env.scope X.N sc idx){x:Str}{c:Addr}(e:(zIQ X.env sc.names []).lookup x=some c):X.env.cells.lookup x=some c:=
 zPO sc.names [] (zYC I F) (λ_ z=>nomatch z) (x,c) (PySem.mem_of_lookup e)
theorem yMN(I:Inv X pins σ H1 s₂)(F:CompF X.env.scope X.N sc idx){x:Str}{c:Addr}(hx:(x,NameKind.free)∈sc.names)(e:X.env.cells.lookup x=some c):(zIQ X.env sc.names []).lookup x=some c:=by
 obtain⟨c',h'⟩:=zEF (zIR (env:=X.env) sc.names [] x hx)
 rw [h']
 rw [cE I F h']at e
 exact e
theorem yGD(I:Inv X pins σ H1 s₂)(F:CompF X.env.scope X.N sc idx)(hC:s₂.heap.objs.size<=C)(hfp: ∀b∈fp,zMU X pins H1 b)(hlt: ∀b∈fp,b<s₂.heap.objs.size):(yS X sc T idx C s₂ H1 fp).Ok where
 mod:=I.ok.mod
 kind:=F.kind
 glob:=I.ok.glob
 blt:=I.ok.blt
 above:=hC
 inj:=λx y c h1 h2=>I.ok.inj x y c (cE I F h1) (cE I F h2)
 has:=λx hx=>by
  have hx':(zTN sc X.env.scope).lookup x=some .cell\/(zTN sc X.env.scope).lookup x=some .free:=hx
  exact zEF (zIR sc.names [] x (zUK F.nocell hx'))
 cab:=λx c h _=>nomatch h
 hd:=I.ok.hd
 frames:=I.ok.frames
 stk:=.inl rfl
 exf:=λb hb=>⟨ne_of_lt (lt_of_lt_of_le (hlt b hb) hC),λx c e=>(hfp b hb).2.2.2.2.1 x c (cE I F e)⟩
 bs:=I.bs
 bsz:=le_trans I.ok.bsz I.sz
 noex:=λb o e hb=>by
  rcases (hfp b hb).2.2.2.1 with z|z
  ·exact I.ok.noex b o e z
  ·exact absurd (lt_of_lt_of_le (Heap.lt_size e) (le_trans I.ok.bsz z)) (lt_irrefl _)
 exfs:=λb hb z=>by
  rcases mC.mp (I.stkSub b z)with e|e
  ·exact(hfp b hb).2.1 e
  ·exact(hfp b hb).2.2.1 e
 funs:=I.stack
 frf:=I.stkFree
theorem yAZ{s₄:Shared}{m:Str->Option Value}(I:Inv X pins σ H1 s₂)(F:CompF X.env.scope X.N sc idx)(hC:s₂.heap.objs.size<=C)(hfp: ∀b∈fp,zMU X pins H1 b)(hlt: ∀b∈fp,b<s₂.heap.objs.size)
  (kp: ∀b o,s₂.heap.get? b=some o->s₄.heap.get? b=some o) (ho:s₄.os=s₂.os) (hg:s₄.gens=s₂.gens) (hn:s₄.heap.Ns C m):
  Inv (yS X sc T idx C s₂ H1 fp) [] (T.map (λ_=>none)++zOF σ idx) H1 s₄:=by
 have cellK: ∀c v,s₂.heap.IsCell c v->s₄.heap.IsCell c v:=λc v ⟨o,h1,h2⟩=>⟨o,kp c o h1,h2⟩
 refine⟨yGD I F hC hfp hlt,ho,by rw [hg];exact I.bare,Un.kept kp,⟨m,hn,λi x v e1 e2 e3=>?_⟩,λx c e=>?_,I.hok.fresh hC,λx c e=>I.freeC x c (cE I F e),λp hp=>absurd (show p∈([]:List (Addr×Obj))from hp) (by simp),I.hok.kept kp,?_⟩
 ·have e1':(T++idx.map λi=>(X.N[i]?).getD Str.empty)[i]? =some x:=e1
  by_cases hi:i<T.length
  ·rw [getElem?_append_left (by simpa using hi),getElem?_map]at e2
   cases z:T[i]? with
   |none=>rw [z]at e2;cases e2
   |some y=>rw [z]at e2;cases e2
  ·rw [getElem?_append_right (by simpa using hi)]at e2
   rw [getElem?_append_right (by omega)]at e1'
   rw [lM0]at e2
   unfold zOF at e2
   rw [getElem?_map]at e1' e2
   cases z:idx[i - T.length]? with
   |none=>rw [z]at e2;cases e2
   |some j=>
    rw [z]at e1' e2
    have hj:j∈idx:=mem_of_getElem? z
    obtain⟨y,hy,k1,k2⟩:=F.cap j hj
    have ex:y=x:=by
     have q:(X.N[j]?).getD Str.empty=x:=Option.some.inj e1'
     rw [hy]at q;exact q
    subst ex
    have ev:σ[j]? =some (some v):=by
     have q:(σ[j]?).join=some v:=Option.some.inj e2
     cases w':σ[j]? with
     |none=>rw [w']at q;cases q
     |some a=>rw [w']at q;have q':a=some v:=q;rw [q']
    obtain⟨m0,hn0,hl0⟩:=I.loc
    have vis:Vis X.env.scope y:=k1.elim (λz=>.inr (.inl z)) λz=>.inr (.inr z)
    obtain⟨u,r,l⟩:=hl0 j y v hy ev vis
    refine⟨u,r,?_⟩
    rcases l with⟨kl,_⟩|⟨_,c,hc,q⟩
    ·have kl':X.env.scope.names.lookup y=some .local:=kl
     rcases k1 with z|z<;>rw [z]at kl'<;>cases kl'
    ·exact .inr ⟨k2,c,yMN I F (zUK F.nocell k2) hc,cellK c _ q⟩
 ·obtain⟨v,q⟩:=I.cell x c (cE I F e)
  exact⟨v,cellK c v q⟩
 ·show(T.map (λ_=>(none:Option V))++zOF σ idx).length=(T++idx.map λi=>(X.N[i]?).getD Str.empty).length
  rw [lA,lA,lM0,lM0,zDT]
theorem yBA{σ1:St}{H':Hp}{s':Shared}{h':Heap}{D:Addr}{ys:List V}{its:List Value}{n:Nat}(I:Inv X pins σ H1 s₂)(hC:s₂.heap.objs.size<=C)(hfp: ∀b∈fp,zMU X pins H1 b)
  (J:Inv (yS X sc T idx C s₂ H1 fp) [] σ1 H' s') (hs:Heap.SameBut C s'.heap h') (hD:s₂.heap.objs.size<=D) (hDC:D≠C) (eD:s'.heap.get? D=some {cls:=.type "list",data:=.seq its.toArray n}) (nD:H' D=none) (r:Vals ys its) (hz:ys.length<=sizeLine):
  Inv X pins σ (upd H' D (.lst ys)) {s' with heap:=h'}:=by
 have old: ∀b o,s₂.heap.get? b=some o->b≠C/\b≠D:=λb o e=>⟨ne_of_lt (lt_of_lt_of_le (Heap.lt_size e) hC),ne_of_lt (lt_of_lt_of_le (Heap.lt_size e) hD)⟩
 have oldH: ∀b u,H1 b=some u->b≠D:=λb u e=>ne_of_lt (lt_of_lt_of_le (I.hok.lt e) hD)
 have nC:H' C=none:=J.free
 have B:Un (frs X.stack) fp H1 H' s₂.heap s'.heap:=J.base
 have mv: ∀b o,b≠C->s'.heap.get? b=some o->h'.get? b=some o:=λb o hb e=>(hs.2 b hb).trans e
 refine I.call' (s':={s' with heap:=h'}) (ch:=fp) J.os ⟨λb o e q hb hx=>?_,λb o e q hb hx=>?_,λb o e q hx=>?_,λb o e hx=>?_,λb xs e=>?_,λb o u e=>?_,λb ps e=>?_⟩ ?_ J.bare λb hb=>⟨(hfp b hb).2.2.2.1,(hfp b hb).2.1,(hfp b hb).2.2.2.2.1,(hfp b hb).2.2.2.2.2⟩
 ·exact mv b o (old b o e).1 (B.keep b o e q hb hx)
 ·obtain⟨sl,z⟩:=B.slot b o e q hb hx
  exact⟨sl,mv b _ (old b o e).1 z⟩
 ·rw [zQ (old b o e).2];exact B.free b o e q hx
 ·obtain⟨o',z⟩:=B.there b o e hx
  exact⟨o',mv b o' (old b o e).1 z⟩
 ·rw [zQ (oldH b _ e)];exact B.tups b xs e
 ·rw [zQ (oldH b _ e)];exact B.frzs b o u e
 ·obtain⟨more,z⟩:=B.tbls b ps e
  exact⟨more,by rw [zQ (oldH b _ e)];exact z⟩
 ·intro b u e
  by_cases hb:b=D
  ·subst hb
   rw [yB]at e;cases e
   exact⟨hz,its,n,r,mv b _ hDC eD⟩
  ·rw [zQ hb]at e
   refine(J.hok b u e).stay (λc v hc q=>mv c v ?_ q) (λc q=>by rw [zQ (yM q nD)];exact q) λc xs q=>by rw [zQ (yM q nD)];exact q
   rcases hc with z|z
   ·rw [z];exact yM e nC
   ·exact yM z nC
end
section
variable{X:Cx}
theorem zYD{elt tg iter:Expr}{ifs:List Expr}{pos:Pos}{sc:Scope}{wi:TI}{g:TG}{tc:Addr->Shared->Hp->List Addr->TT}{te:Addr->Shared->Hp->List Addr->TE}(T:List Str)(idx:List Nat)
  (hi:PI X tg iter wi) (hcalm:X.calm=true) (hB:zPP X.env.scope X.N sc idx=true)
  (hg: ∀C s₂ H1 fp,PG (yS X sc T idx C s₂ H1 fp) tg g)
  (hc: ∀C s₂ H1 fp,yGC (yS X sc T idx C s₂ H1 fp) ifs (tc C s₂ H1 fp))
  (he: ∀C s₂ H1 fp,PE (yS X sc T idx C s₂ H1 fp) elt (te C s₂ H1 fp))
  (hs: ∀x,foldedSetIterable iter X.env x=pure x:=by intro _;rfl)
  {pins:List (Addr×Obj)} {s:Shared} {σ:St} {H:Hp} {Q:VK} {use:Option (Value->Sem Unit)} {Q':Value->Shared->Prop} (I:Inv X pins σ H s) (h:yIL wi g tc te T.length idx σ H Q)
  (fin: ∀(D C:Addr)(s4:Shared)(H':Hp)(r:_),(∀h',Heap.SameBut C s4.heap h'->Inv X pins σ H' {s4 with heap:=h'})->zMU X pins H' C->(∃m,s4.heap.Ns C m)->Q (.ref D) H'->
   compPost (model X.prog X.w) X.A X.xe use Q' (.ref D) C (.ok r) s4):
  wpAny (model X.prog X.w) X.A (comprehension (.ListComp elt [⟨tg,iter,ifs,0⟩] sc pos) sc X.env (firstIterPos [⟨tg,iter,ifs,0⟩] pos) (newList []) false (eval iter X.env) use) Q' X.xe s:=by
 have cf:=yMM hB
 refine wpAny_comprehension_free (use:=use) (cl:=zIQ X.env sc.names []) rfl hs (zTM (zYC I cf)) cf.kind cf.locs ?_
 refine thn (hi pins s σ H _ I h) λv s1 h1=>thn h1 λitv s2 h2=>?_
 obtain⟨it,fp,tn,J,H2,e,I2,Tn,st2,f2,W,⟨m0,w0⟩,turn⟩:=h2
 subst e
 have hlt: ∀b∈fp,b<s2.heap.objs.size:=λb hb=>let ⟨o,e,_⟩:=Tn.obj _ _ st2 b hb;Heap.lt_size e
 refine wpAny_newObj_type (wpAny_newFunctionEnv cf.nocell (by intro y hy;simp at hy) (λh₁ hns₁ hsb₁=>?_) cf.kind)
 dsimp only at hns₁ hsb₁ ⊢
 generalize hH2:s2.heap.push {cls:=.type "list",dict:=none,data:=.seq ([]:List Value).toArray}=HH at hns₁ hsb₁ ⊢
 have hC:HH.objs.size=s2.heap.objs.size+1:=by rw [<-hH2,Heap.size_push]
 have hDC:s2.heap.objs.size≠HH.objs.size:=by rw [hC];exact ne_of_lt (Nat.lt_succ_self _)
 have hCle:s2.heap.objs.size<=HH.objs.size:=by rw [hC];exact le_succ _
 have old: ∀b o,s2.heap.get? b=some o->h₁.get? b=some o:=λb o e=>hsb₁.extBut b o (by rw [hC];exact ne_of_lt (Nat.lt_succ_of_lt (Heap.lt_size e))) (hP00 _ (hH2▸hP00 _ e))
 have eD0:h₁.get? s2.heap.objs.size=some {cls:=.type "list",data:=.seq ([]:List Value).toArray 0}:=hsb₁.extBut _ _ hDC (hP00 _ (hH2▸Heap.get?_push_size _ rfl))
 have nD0:H2 s2.heap.objs.size=none:=I2.hok.fresh (le_refl _)
 have cD: ∀x c,(zIQ X.env sc.names []).lookup x=some c->c≠s2.heap.objs.size:=λx c e=>by
  obtain⟨v,q⟩:=I2.cell x c (cE I2 cf e)
  exact ne_of_lt q.lt
 have loop: ∀s4:Shared,s4={s2 with heap:=h₁,toks:=s2.toks+([]:List (Str×Value)).length}->
   codeAny (model X.prog X.w) X.A (.compLoop (.ListComp elt [⟨tg,iter,ifs,0⟩] sc pos) 0 (.ref it) (.ref s2.heap.objs.size) (compEnvC sc (zIQ X.env sc.names []) HH.objs.size X.env))
    (compPost (model X.prog X.w) X.A X.xe use Q' (.ref s2.heap.objs.size) HH.objs.size) s4:=by
  rintro s4 rfl
  have J0:Inv (yS X sc T idx HH.objs.size s2 H2 fp) [] (T.map (λ_=>none)++zOF σ idx) H2 {s2 with heap:=h₁,toks:=s2.toks+([]:List (Str×Value)).length}:=
   yAZ I2 cf hCle f2 hlt old rfl rfl hns₁
  refine zVT (λk s'=> ∃(i:Nat)(ys:List V)(its:List Value)(n:Nat)(H':Hp)(τ:St),Inv (yS X sc T idx HH.objs.size s2 H2 fp) [] (τ++zOF σ idx) H' s'/\τ.length=T.length/\tn i s'.heap/\(∀b∈fp,H' b=none)/\
   s'.heap.get? s2.heap.objs.size=some {cls:=.type "list",data:=.seq its.toArray n}/\H' s2.heap.objs.size=none/\Vals ys its/\W i k ys H') ?_ m0
   ⟨0,[],[],0,H2,T.map (λ_=>none),J0,by rw [lM0],Tn.keep _ _ _ st2 λb _ o e=>old b o e,λb hb=>(f2 b hb).1,eD0,nD0,.nil,w0⟩
  rintro k s3 ⟨i,ys,its,n,H3,τ,I3,hτ,st3,fr3,eD3,nD3,r3,w3⟩
  obtain⟨hz,alt⟩:=turn i k ys H3 w3
  have hDfs:s2.heap.objs.size∉(yS X sc T idx HH.objs.size s2 H2 fp).fs:=λz=>by
   obtain⟨_,o,ho,_⟩:=I2.stack.mem (show s2.heap.objs.size∈frs X.stack from z)
   exact absurd (Heap.lt_size ho) (lt_irrefl _)
  have pinD: ∀{H':Hp}{s':Shared},s'.heap.get? s2.heap.objs.size=some {cls:=.type "list",data:=.seq its.toArray n}->H' s2.heap.objs.size=none->
    ∀p∈[(s2.heap.objs.size,({cls:=.type "list",data:=.seq its.toArray n}:Obj))],s'.heap.get? p.1=some p.2/\H' p.1=none/\p.1≠(yS X sc T idx HH.objs.size s2 H2 fp).env.locals/\p.1∉(yS X sc T idx HH.objs.size s2 H2 fp).fs/\ ∀v,p.2.data≠.cell v:=
   λ{H' s'} e1 e2 p hp=>by
    have ep:p=(s2.heap.objs.size,{cls:=.type "list",data:=.seq its.toArray n}):=by simpa using hp
    subst ep
    exact⟨e1,e2,hDC,hDfs,λv z=>by cases z⟩
  have P3:Inv (yS X sc T idx HH.objs.size s2 H2 fp) [(s2.heap.objs.size,{cls:=.type "list",data:=.seq its.toArray n})] (τ++zOF σ idx) H3 s3:=I3.pins_of (pinD eD3 nD3)
  have stat: ∀{H':Hp},(∀b∈fp,H' b=none)-> ∀b∈fp,zMU (yS X sc T idx HH.objs.size s2 H2 fp) [(s2.heap.objs.size,{cls:=.type "list",data:=.seq its.toArray n})] H' b:=λ{H'} hn b hb=>by
   have hb2:=hlt b hb
   refine⟨hn b hb,ne_of_lt (lt_of_lt_of_le hb2 hCle),I3.ok.exfs b hb,.inl hb,λx c e=>(f2 b hb).2.2.2.2.1 x c (cE I2 cf e),λp hp=>?_⟩
   have ep:p=(s2.heap.objs.size,({cls:=.type "list",data:=.seq its.toArray n}:Obj)):=by simpa [yS]using hp
   subst ep
   exact ne_of_gt hb2
  rcases alt with⟨stop,q⟩|⟨go,hl2,step⟩
  ·refine thn (Tn.done (yS X sc T idx HH.objs.size s2 H2 fp) rfl rfl rfl hcalm i _ s3 _ H3 (λ_ _=>False) P3 (stat fr3) st3 stop) λr s4 ⟨hr,I4⟩=>?_
   subst hr
   obtain⟨m,hn,_⟩:=id I4.loc
   have eD4:=(I4.pin (s2.heap.objs.size,{cls:=.type "list",data:=.seq its.toArray n}) (by simp)).1
   exact fin _ _ s4 _ _ (λh' hs'=>yBA I2 hCle f2 (I4.pins_of (λp hp=>nomatch hp)) hs' (le_refl _) hDC eD4 nD3 r3 hz) (I2.fpOk hCle (by rw [zQ (Ne.symm hDC)];exact I4.free)) ⟨m,hn⟩ (q _ nD3)
  ·refine thn (Tn.item (yS X sc T idx HH.objs.size s2 H2 fp) rfl rfl rfl hcalm i _ s3 _ H3 (λ_ _=>False) P3 (stat fr3) st3 go) λr s4 ⟨u,hr,h4⟩=>?_
   subst hr
   refine thn h4 λ_ s5 ⟨x,H5,I5,r5,y5,st5,fr5⟩=>?_
   have I5':=I5.pinned (stat fr5) (Tn.obj _ _ st5)
   refine thn (hg HH.objs.size s2 H2 fp _ s5 _ H5 x u _ I5' r5 (step x H5 y5 τ hτ)) λ_ s6 ⟨σ6,H6,I6,⟨τ',e6,l6⟩,q6⟩=>?_
   subst e6
   refine thn (hc HH.objs.size s2 H2 fp _ s6 _ H6 _ I6 (q6 HH.objs.size s2 fp)) λok s7 ⟨H7,I7,q7⟩=>?_
   have mD:(s2.heap.objs.size,({cls:=.type "list",data:=.seq its.toArray n}:Obj))∈(yS X sc T idx HH.objs.size s2 H2 fp).pn++([(s2.heap.objs.size,{cls:=.type "list",data:=.seq its.toArray n})]++zOE fp s5.heap):=
    mem_append_right _ (mem_append_left _ (by simp))
   have mF: ∀b∈fp, ∀o,s5.heap.get? b=some o->(b,o)∈(yS X sc T idx HH.objs.size s2 H2 fp).pn++([(s2.heap.objs.size,{cls:=.type "list",data:=.seq its.toArray n})]++zOE fp s5.heap):=λb hb o e=>
    mem_append_right _ (mem_append_right _ (zLO hb e))
   cases ok with
   |false=>
    rw [iN0 xF0]at q7 ⊢
    obtain⟨m',hm',w7⟩:=q7
    refine⟨m',hm',i+1,ys,its,n,H7,τ',I7.pins_of (λp hp=>nomatch hp),l6,Tn.keep _ _ _ st5 λb hb o e=>(I7.pin _ (mF b hb o e)).1,λb hb=>?_,(I7.pin _ mD).1,(I7.pin _ mD).2.1,r3,w7⟩
    obtain⟨o,e,d⟩:=Tn.obj _ _ st5 b hb
    exact(I7.pin _ (mF b hb o e)).2.1
   |true=>
    rw [iP rfl]at q7 ⊢
    refine thn (he HH.objs.size s2 H2 fp _ s7 _ H7 _ I7 q7) λy s8 ⟨yv,H8,I8,r8,m',hm',w8⟩=>?_
    have eD8:=(I8.pin _ mD).1
    have nD8:=(I8.pin _ mD).2.1
    have hl:=r3.length
    have q:=PySem.IsL.update eD8 (λz=>z.push y)
    rw [show its.toArray.push y=(its++[y]).toArray by simp]at q
    refine call_meets PySem.F.slot_list_append ⟨_,eD8,rfl⟩ PySem.F.entry_list_append (PySem.F.args_list_append_2 _ _) (PySem.list_append s2.heap.objs.size its.toArray n y (by rw [sA];omega)) ⟨eD8,?_⟩
    have I9:Inv (yS X sc T idx HH.objs.size s2 H2 fp) [] (τ'++zOF σ idx) H8 s8:=I8.pins_of (λp hp=>nomatch hp)
    have up: ∀b o,b≠s2.heap.objs.size->s8.heap.get? b=some o->(s8.heap.update s2.heap.objs.size (Obj.mapSeq λz=>z.push y)).get? b=some o:=λb o hb e=>(Heap.get?_update_other s8.heap _ (Ne.symm hb)).trans e
    refine⟨m',hm',i+1,ys++[yv],its++[y],_,H8,τ',I9.turned (t':=s8.toks) up nD8 hDC (.inr (le_refl _)) cD (λp hp=>nomatch hp),l6,?_,λb hb=>?_,q,nD8,r3.append (.cons r8 .nil),w8⟩
    ·exact Tn.keep _ _ _ st5 λb hb o e=>up b o (ne_of_lt (hlt b hb)) (I8.pin _ (mF b hb o e)).1
    ·obtain⟨o,e,d⟩:=Tn.obj _ _ st5 b hb
     exact(I8.pin _ (mF b hb o e)).2.1
 exact codeAny_compStart_list (loop _ rfl) (Tn.self X.A 0 _ _ _ (Tn.keep _ _ _ st2 λb _ o e=>old b o e) (loop _ rfl))
theorem yMO{elt tg iter:Expr}{ifs:List Expr}{pos:Pos}{sc:Scope}{wi:TI}{g:TG}{tc:Addr->Shared->Hp->List Addr->TT}{te:Addr->Shared->Hp->List Addr->TE}(T:List Str)(idx:List Nat)
  (hi:PI X tg iter wi) (hcalm:X.calm=true) (hB:zPP X.env.scope X.N sc idx=true)
  (hg: ∀C s₂ H1 fp,PG (yS X sc T idx C s₂ H1 fp) tg g)
  (hc: ∀C s₂ H1 fp,yGC (yS X sc T idx C s₂ H1 fp) ifs (tc C s₂ H1 fp))
  (he: ∀C s₂ H1 fp,PE (yS X sc T idx C s₂ H1 fp) elt (te C s₂ H1 fp))
  (hs: ∀x,foldedSetIterable iter X.env x=pure x:=by intro _;rfl):
  PE X (.ListComp elt [⟨tg,iter,ifs,0⟩] sc pos) (yIL wi g tc te T.length idx):=by
 intro pins s σ H Q I h
 rw [eval_ListComp]
 exact zYD T idx hi hcalm hB hg hc he hs (use:=none) I h λD C s4 H' r J _ ⟨m,hn⟩ q=>⟨m,hn,λh' hs'=>⟨.ref D,H',J h' hs',rfl,q⟩⟩
end
def mkS(x:List Nat):Str:=⟨x.toArray⟩
theorem bP(x:List Nat):(mkS x).length=x.length:=by simp [mkS,Str.length]
theorem zGS(x:List Nat):(mkS x).cps.toList=x:=by simp [mkS]
theorem zVU{x y:List Nat}(h:mkS x=mkS y):x=y:=by
 have:=congrArg (λs=>s.cps.toList) h
 simpa [mkS]using this
theorem yMP(x y:List Nat):mkS x++mkS y=mkS (x++y):=by
 show Str.append (mkS x) (mkS y)=_
 simp [Str.append,mkS]
theorem yMQ(c:Nat):(⟨#[c]⟩:Str)=mkS [c]:=rfl
def cK{α:Type}(xs:List α)(lo hi:Option Int):List α:=(xs.drop (HT.sIx xs.length 0 lo)).take (HT.sIx xs.length xs.length hi - HT.sIx xs.length 0 lo)
theorem strIdx(lo hi:Option Int)(n:Nat):Builtin.Str.strSliceIndices lo hi 1 n=(List.range (HT.sIx n n hi - HT.sIx n 0 lo)).map (HT.sIx n 0 lo+·):=by
 have e1:(match lo with |none=>(if(1:Int)>0 then(0:Int)else(n:Int) - 1)|some i=>if(1:Int)>0 then max 0 (min (if i<0 then i+(n:Int)else i) (n:Int))else max (-1) (min (if i<0 then i+(n:Int)else i) ((n:Int) - 1)))=((HT.sIx n 0 lo:Nat):Int):=by
  cases lo with
  |none=>simp [HT.sIx]
  |some i=>
   simp only [HT.sIx,show(1:Int)>0 by decide,if_true]
   by_cases h:i<0
   ·simp only [h,if_true];omega
   ·simp only [h,iF];omega
 have e2:(match hi with |none=>(if(1:Int)>0 then(n:Int)else -1)|some i=>if(1:Int)>0 then max 0 (min (if i<0 then i+(n:Int)else i) (n:Int))else max (-1) (min (if i<0 then i+(n:Int)else i) ((n:Int) - 1)))=((HT.sIx n n hi:Nat):Int):=by
  cases hi with
  |none=>simp [HT.sIx]
  |some i=>
   simp only [HT.sIx,show(1:Int)>0 by decide,if_true]
   by_cases h:i<0
   ·simp only [h,if_true];omega
   ·simp only [h,iF];omega
 rw [<-sliceRange_one]
 unfold Builtin.Str.strSliceIndices
 dsimp only
 rw [<-e1, <-e2]
 cases lo<;>cases hi<;>rfl
theorem yGE(x:List Nat)(lo hi:Option Int):Txt.slice (mkS x) lo hi=mkS (cK x lo hi):=by
 unfold Txt.slice
 rw [strIdx,bP]
 have hp:((List.range (HT.sIx x.length x.length hi - HT.sIx x.length 0 lo)).map (HT.sIx x.length 0 lo+·)).filterMap ((mkS x).cps[·]?)=cK x lo hi:=by
  have:=pick_run (mkS x).cps (HT.sIx x.length 0 lo) (HT.sIx x.length x.length hi - HT.sIx x.length 0 lo)
  rw [zGS]at this
  exact this
 rw [hp]
 split
 ·rename_i hc
  rw [aE]at hc
  have hl:HT.sIx x.length x.length hi - HT.sIx x.length 0 lo=x.length:=by simpa using hc.2
  have h2:HT.sIx x.length x.length hi<=x.length:=HT.sIx_le _ _ (le_refl _) _
  have h3:HT.sIx x.length 0 lo<=x.length:=HT.sIx_le _ _ (zero_le _) _
  have e:HT.sIx x.length 0 lo=0:=by omega
  unfold cK
  rw [hl,e]
  simp
 ·rfl
section
variable{X:Cx}
def rSlS:V->Option Int->Option Int->Hp->VK->Prop:=λx lo hi H Q=> ∃cs,x=.str (mkS cs)/\cs.length<=sizeLine/\Q (.str (mkS (cK cs lo hi))) H
theorem yRF:SlR X rSlS:=by
 intro pins s σ H x v vl vu lo hi sl Q I rx hs pl pu h
 obtain⟨cs,rfl,hz,q⟩:=h
 obtain⟨t,rfl⟩:=rx
 have hl:(Txt.slice (mkS cs) lo hi).length<=sizeLine:=le_trans (Txt.slice_le _ _ _) (by rw [bP];exact hz)
 rw [<-yGE]at q
 refine⟨"str",_,slot_str_getitem.lookup,typeIs_str _ _ _,?_⟩
 obtain⟨o,ho,hc,hd⟩:=hs
 cases pl with
 |none=>
  cases pu with
  |none=>exact wpAny_getItem_str_slice (l:=none) (u:=none) (st:=none) ⟨o,ho,hc,hd⟩ rfl (post_val_or_str ⟨hl,λt' k=>⟨.str _,H,I.tok _,⟨_,rfl⟩,q⟩⟩)
  |int j uj=>exact wpAny_getItem_str_slice (l:=none) (u:=some (j,uj)) (st:=none) ⟨o,ho,hc,hd⟩ rfl (post_val_or_str ⟨hl,λt' k=>⟨.str _,H,I.tok _,⟨_,rfl⟩,q⟩⟩)
 |int i ui=>
  cases pu with
  |none=>exact wpAny_getItem_str_slice (l:=some (i,ui)) (u:=none) (st:=none) ⟨o,ho,hc,hd⟩ rfl (post_val_or_str ⟨hl,λt' k=>⟨.str _,H,I.tok _,⟨_,rfl⟩,q⟩⟩)
  |int j uj=>exact wpAny_getItem_str_slice (l:=some (i,ui)) (u:=some (j,uj)) (st:=none) ⟨o,ho,hc,hd⟩ rfl (post_val_or_str ⟨hl,λt' k=>⟨.str _,H,I.tok _,⟨_,rfl⟩,q⟩⟩)
theorem zFS:OpR X (compareOp .LtE) (λx y H Q=> ∃i j,x=.str i/\y=.str j/\Q (.bl (!(j.cps.toList<i.cps.toList))) H):=by
 intro pins s σ H x y v u Q I rx ry h
 obtain⟨i,j,rfl,rfl,q⟩:=h
 obtain⟨t,rfl⟩:=rx
 obtain⟨t',rfl⟩:=ry
 exact PySem.P.le_str ⟨.bl _,H,I,rfl,q⟩
def zRR(cs:List Nat)(k:Int):List Nat:=(List.replicate k.toNat cs).flatten
theorem zOG(cs:List Nat): ∀(k:Nat)(acc:List Nat),List.foldl (λx1 x2=>x1++x2) acc.toArray (List.replicate k cs.toArray)=(acc++(List.replicate k cs).flatten).toArray
 |0,acc=>by simp
 |k+1,acc=>by
  rw [replicate_succ,List.foldl_cons,replicate_succ,flatten_cons, <-aA, <-zOG cs k (acc++cs)]
  simp
theorem yBB:OpR X (binaryOp .Mult) (λx y H Q=> ∃cs k,x=.str (mkS cs)/\y=.int k/\0<=k/\k<1000/\cs.length<=1000/\Q (.str (mkS (zRR cs k))) H):=by
 intro pins s σ H x y v u Q I rx ry h
 obtain⟨cs,k,rfl,rfl,h0,h1,hc,q⟩:=h
 obtain⟨t,rfl⟩:=rx
 obtain⟨t',rfl⟩:=ry
 have hs:sizeLine=16777216:=sizeLine_eq
 have hprod:cs.length * k.toNat<=1000 * 1000:=Nat.mul_le_mul hc (by omega)
 have e: ∀b,Q (.str b) H->b=mkS (zRR cs k)->True:=λ_ _ _=>trivial
 refine PySem.P.mul_str (by rw [dF0 (by omega),dF0 (by omega)];rfl) (λh2 _=>?_) (λ_ _=>?_) ?_
 ·rw [bP]
  have hk:1<=k:=by omega
  have:(1000:Int)<=(2 ^ 63 - 1) / k:=by
   rw [Int.le_ediv_iff_mul_le (by omega)]
   omega
  omega
 ·rw [bP]
  unfold PySem.Builtin.Str.tooLong
  exact dF0 (by omega)
 ·have made: ∀(z:Str),z=mkS (zRR cs k)->z.length<=sizeLine->(Made.str z).post (EP X pins σ Q) s:=λz ez hz=>⟨hz,by rw [ez];exact⟨.str _,H,I.tok _,⟨_,rfl⟩,q⟩⟩
  have hlen:(zRR cs k).length=k.toNat * cs.length:=by
   unfold zRR;rw [len_rep]
  by_cases hn:k<1
  ·rw [iP hn]
   have hk:k.toNat=0:=by omega
   refine made _ ?_ (by decide)
   unfold zRR;rw [hk];rfl
  ·rw [iN0 hn]
   by_cases h3:(k==1 || (mkS cs).length==0)=true
   ·rw [iP h3]
    refine⟨.str (mkS cs),H,I,⟨_,rfl⟩,?_⟩
    have:zRR cs k=cs:=by
     unfold zRR
     rw [or_eq_true]at h3
     rcases h3 with h3|h3
     ·have:k=1:=by simpa using h3
      subst this
      simp
     ·rw [bP]at h3
      have:cs=[]:=by cases cs with |nil=>rfl|cons _ _=>simp at h3
      subst this
      simp
    rw [this]at q
    exact q
   ·rw [iN0 h3]
    refine made _ ?_ ?_
    ·unfold zRR mkS
     have:=zOG cs k.toNat []
     rw [nil_append]at this
     exact congrArg Str.mk this
    ·have e3:(List.foldl (λx1 x2=>x1++x2) #[] (List.replicate k.toNat (mkS cs).cps))=(zRR cs k).toArray:=by
      have:=zOG cs k.toNat []
      rw [nil_append]at this
      exact this
     show(List.foldl (λx1 x2=>x1++x2) #[] (List.replicate k.toNat (mkS cs).cps)).size<=sizeLine
     rw [e3,sA,hlen,mul_comm]
     omega
theorem gO:CallR X (.builtin "all") (λxs H Q=> ∃(a:Addr)(bs:List Bool),xs=[.ref a]/\SqL X.K H a (bs.map V.bl)/\X.calm=true/\Q (.bl (bs.all id)) H):=by
 intro pins s σ H xs us Q I r h
 obtain⟨a,bs,rfl,hq,hc,q⟩:=h
 obtain⟨u,rfl,ru⟩:=vals1 r
 cases ru
 obtain⟨its,rv,pl,hz⟩:=I.list hq
 have hlen:its.length=bs.length:=by rw [<-rv.length,lM0]
 refine PySem.call_all_walk (wpAny_pyIter_list pl.isList ?_)
 have hI:a≠s.heap.objs.size:=by
  obtain⟨o,ho,_⟩:=pl.isList
  exact ne_of_lt (Heap.lt_size ho)
 have I1: ∀(h':Heap)(tk:Nat),(∀b o,b∉[s.heap.objs.size]->(s.heap.push {cls:=.type "list_iterator",data:=.fields #[.ref a,.int 0 0]}).get? b=some o->h'.get? b=some o)->Inv X pins σ H {s with heap:=h',toks:=tk}:=λh' tk k=>
  I.kept λb o e=>k b o (by simpa using ne_of_lt (Heap.lt_size e)) (hP00 _ e)
 refine⟨s.heap.objs.size,[s.heap.objs.size,a],[s.heap.objs.size],its.toArray.size,_,_,λi=>bs.getD i false,rfl,PySem.Walks.list (by first |exact I.ok.hd hc|exact(show X.A.in1.handled=none from I.ok.hd hc)) _ a hI its.toArray,⟨⟨_,Heap.get?_push_size _ rfl,rfl,rfl⟩,pl.isList.at λo e=>hP00 _ e⟩,?_,λh' tk k=>?_⟩
 ·intro i v s' Q' E' hv hQ'
  have hv':its[i]? =some v:=by simpa using hv
  have hi:i<bs.length:=by rw [<-hlen];exact(gS0.mp hv').1
  have hb:(bs.map V.bl)[i]? =some (V.bl (bs.getD i false)):=by
   rw [getElem?_map,gE0 hi]
   simp [getD_eq_getElem?_getD,hi]
  obtain⟨u',hu',rv'⟩:=rv.get hb
  rw [hv']at hu'
  cases hu'
  cases rv'
  exact wpAny_truthy_bool hQ'
 ·refine⟨.bl (bs.all id),H,I1 h' tk k,?_,q⟩
  show Value.bool _=Value.bool _
  congr 1
  rw [sA,hlen]
  have: ∀(l:List Bool),(List.range l.length).all (λi=>l.getD i false)=l.all id:=by
   intro l
   rw [Bool.eq_iff_iff,all_eq_true,all_eq_true]
   constructor
   ·intro h x hx
    obtain⟨i,hi,rfl⟩:=List.getElem_of_mem hx
    have:=h i (mem_range.mpr hi)
    simpa [getD_eq_getElem?_getD,hi]using this
   ·intro h i hi
    have hi':=mem_range.mp hi
    have:=h l[i] (getElem_mem hi')
    simpa [getD_eq_getElem?_getD,hi']using this
  exact this bs
def Its(x:List Nat):It:=⟨λi _=>i<x.length,λi H v H'=>H'=H/\ ∃c,x[i]? =some c/\v=.str (mkS [c]),λi _=>x.length<=i⟩
def iStr(tl:TE):TI:=λσ H R=>tl σ H λv H1=> ∃x,v=.str (mkS x)/\R (Its x) H1
theorem zYE{P:Program}{w:World}{K:PySem.W.Frag}{tg:Expr}(it:Addr)(ty:String)(x:List Nat)(t:Tok)(hty:ty="str_ascii_iterator"\/ty="str_iterator"):
  Turn P w K tg (Its x) [it] it (λi h=>h.IsStrIter it ty (mkS x) t i) where
 mem:=by simp
 obj:=λi h st b hb=>by
  have e:b=it:=by simpa using hb
  subst e
  obtain⟨o,e,c,d⟩:=st
  exact⟨o,e,λv z=>by rw [d]at z;cases z⟩
 keep:=λi h h' st k=>let ⟨o,ho,r⟩:=st;⟨o,k it (by simp) o ho,r⟩
 item:=by
  intro X hP hw hK hc i pins s σ H E I hf st hg
  subst hP hw hK
  obtain⟨f0,f1,f2,f3,f4,f5⟩:=hf it (by simp)
  have hi:i<x.length:=hg
  have hxi:(mkS x).cps[i]? =some x[i]:=by simp [mkS,hi]
  have fin: ∀(h':Heap),h'.IsStrIter it ty (mkS x) t (i+1)->Heap.SameBut it s.heap h'-> ∃u,some (Value.str ⟨#[x[i]]⟩ s.toks)=some u/\
    wpAny (model X.prog X.w) X.A (letOwnedTupleGo tg (.ref it) u) (λ_ s2=> ∃y H',Inv X pins σ H' s2/\RelV y u/\(Its x).yld i H y H'/\s2.heap.IsStrIter it ty (mkS x) t (i+1)/\ ∀b∈[it],H' b=none) E {s with heap:=h',toks:=s.toks+1}:=λh' st' sb=>by
   have I1:Inv X pins σ H {s with heap:=h',toks:=s.toks+1}:=I.turned (λb o hb e=>(sb.2 b hb).trans e) f0 f1 f3 f4 f5
   obtain⟨o,e,c,d⟩:=id st'
   refine⟨_,rfl,yDI (s:={s with heap:=h',toks:=s.toks+1}) e c d (by rcases hty with rfl|rfl<;>decide) ⟨.str (mkS [x[i]]),H,I1,⟨_,rfl⟩,⟨rfl,x[i],by simp [hi],rfl⟩,st',λb hb=>(hf b hb).1⟩⟩
  rcases hty with rfl|rfl
  ·exact wpAny_pyNext_ascii_item st hxi λh' st' sb=>fin h' st' sb
  ·exact wpAny_pyNext_wide_item st hxi λh' st' sb=>fin h' st' sb
 done:=by
  intro X hP hw hK hc i pins s σ H E I hf st hg
  subst hP hw hK
  obtain⟨f0,f1,f2,f3,f4,f5⟩:=hf it (by simp)
  have hi:x.length<=i:=hg
  have hxi:(mkS x).cps[i]? =none:=by simp [mkS,hi]
  rcases hty with rfl|rfl
  ·exact wpAny_pyNext_ascii_end (I.ok.hd hc) st hxi λh' eb=>⟨rfl,I.turned (t':=s.toks) (λb o hb e=>eb b o hb e) f0 f1 f3 f4 f5⟩
  ·exact wpAny_pyNext_wide_end (I.ok.hd hc) st hxi λh' eb=>⟨rfl,I.turned (t':=s.toks) (λb o hb e=>eb b o hb e) f0 f1 f3 f4 f5⟩
 self:=λ_ _ _ _ _ st h=>by
  rcases hty with rfl|rfl
  ·exact wpAny_pyIter_striter_ascii st h
  ·exact wpAny_pyIter_striter_wide st h
theorem yRG{tg l:Expr}{tl:TE}(hl:PE X l tl):PI X tg l (iStr tl):=by
 intro pins s σ H R I h
 refine thn (hl pins s σ H _ I h) λv s1 ⟨x,H1,I1,r1,q1⟩=>?_
 obtain⟨cs,e,q⟩:=q1
 subst e
 obtain⟨t,rfl⟩:=r1
 have fp: ∀(o:Obj), ∀b∈[s1.heap.objs.size],zMU X pins H1 b:=λo b hb=>by
  have e:b=s1.heap.objs.size:=by simpa using hb
  subst e
  exact I1.fpOk (le_refl _) (I1.hok.fresh (le_refl _))
 cases ha:(mkS cs).cps.all (· <128)
 ·refine wpAny_pyIter_wide ha ?_
  exact⟨s1.heap.objs.size,[s1.heap.objs.size],_,_,H1,rfl,I1.kept (t':=s1.toks) λb o e=>hP00 _ e,zYE _ "str_iterator" cs t (.inr rfl),⟨_,Heap.get?_push_size _ rfl,rfl,rfl⟩,fp default,q⟩
 ·refine wpAny_pyIter_ascii ha ?_
  exact⟨s1.heap.objs.size,[s1.heap.objs.size],_,_,H1,rfl,I1.kept (t':=s1.toks) λb o e=>hP00 _ e,zYE _ "str_ascii_iterator" cs t (.inl rfl),⟨_,Heap.get?_push_size _ rfl,rfl,rfl⟩,fp default,q⟩
end
section
variable{X:Cx}
def PU(X:Cx)(e:Expr)(t:TE):Prop:= ∀(i:Nat)(x:Str)(pos' pos:Pos),X.N.Nodup->X.N[i]? =some x->Loc X.env.scope x->(X.fn x=true\/X.env.scope.names.lookup x=some .local)->
 swapsWith e (some (.Name x pos')) pos.line X.env=pure true->PS X (.Assign [.Name x pos'] e pos) (tAsg t (yHW i))
theorem yMR{elt tg iter:Expr}{ifs:List Expr}{pos:Pos}{sc:Scope}{wi:TI}{g:TG}{tc:Addr->Shared->Hp->List Addr->TT}{te:Addr->Shared->Hp->List Addr->TE}(T:List Str)(idx:List Nat)
  (hi:PI X tg iter wi) (hcalm:X.calm=true) (hB:zPP X.env.scope X.N sc idx=true)
  (hg: ∀C s₂ H1 fp,PG (yS X sc T idx C s₂ H1 fp) tg g)
  (hc: ∀C s₂ H1 fp,yGC (yS X sc T idx C s₂ H1 fp) ifs (tc C s₂ H1 fp))
  (he: ∀C s₂ H1 fp,PE (yS X sc T idx C s₂ H1 fp) elt (te C s₂ H1 fp))
  (hs: ∀x,foldedSetIterable iter X.env x=pure x:=by intro _;rfl):
  PU X (.ListComp elt [⟨tg,iter,ifs,0⟩] sc pos) (yIL wi g tc te T.length idx):=by
 intro i x pos' spos hN hix hx hf hsw pins s σ H D I h
 rw [exec_Assign_Name_used _ _ _ _ hsw]
 refine wB0 (wpAny_standAt (wB0 ?_))
 rw [arm_evalThenUse_ListComp]
 refine wB0 (thn (zYD T idx hi hcalm hB hg hc he hs (use:=some (assign (.Name x pos') X.env)) (Q':=λ_ s'=> ∃σ' H',Inv X pins σ' H' s'/\D.nx σ' H') I h λDd C s4 H' _ J4 fo hm q=>?_) λ_ s' hq=>wP0 (wP0 hq))
 have I4:=J4 s4.heap (Heap.SameBut.refl _ _)
 refine wpAny_assign_Name (zUD I4 hN hix hx (show RelV (.ref Dd) (.ref Dd)from rfl) (λs' I' ⟨a,hs',ha⟩=>?_) hf)
 obtain⟨m,hm⟩:=hm
 have hCa:C≠a:=by
  rintro rfl
  rcases ha with ha|ha
  ·exact fo.2.1 ha
  ·exact fo.2.2.2.2.1 x _ ha rfl
 refine⟨m,hm.sameBut hs' hCa,λh' hs''=>⟨_,H',?_,q⟩⟩
 exact I'.turned (t':=s'.toks) (λb o hb e=>(hs''.2 b hb).trans e) fo.1 fo.2.1 fo.2.2.2.1 fo.2.2.2.2.1 fo.2.2.2.2.2
end
end L2
namespace L2
namespace M
open PySem PySem.Spec PyProof.Rows
theorem yRH{A:Around}{s:Shared}{y x:V}{u v:Value}(ry:RelV y u)(rx:RelV x v)(fy:jO y=true)(fx:jO x=true):SeqAt.RcAt A s u v (eqV y x):=by
 cases y with
 |non=>
  cases ry
  cases x with
  |non=>cases rx;exact SeqAt.RcAt.none_none
  |bl b=>cases rx;exact SeqAt.RcAt.none_bool b
  |int b=>obtain⟨t,rfl⟩:=rx;exact SeqAt.RcAt.none_int b t
  |str b=>obtain⟨t,rfl⟩:=rx;exact SeqAt.RcAt.none_str b t
  |_=>exact absurd (show false=true from fx) xF0
 |bl a=>
  cases ry
  cases x with
  |non=>cases rx;exact SeqAt.RcAt.bool_none a
  |bl b=>cases rx;exact SeqAt.RcAt.bool_bool a b
  |int b=>obtain⟨t,rfl⟩:=rx;exact SeqAt.RcAt.bool_int a b t
  |str b=>obtain⟨t,rfl⟩:=rx;exact SeqAt.RcAt.bool_str a b t
  |_=>exact absurd (show false=true from fx) xF0
 |int a=>
  obtain⟨t',rfl⟩:=ry
  cases x with
  |non=>cases rx;exact SeqAt.RcAt.int_none a t'
  |bl b=>cases rx;exact SeqAt.RcAt.int_bool a t' b
  |int b=>obtain⟨t,rfl⟩:=rx;exact SeqAt.RcAt.int_int a t' b t
  |str b=>obtain⟨t,rfl⟩:=rx;exact SeqAt.RcAt.int_str a t' b t
  |_=>exact absurd (show false=true from fx) xF0
 |str a=>
  obtain⟨t',rfl⟩:=ry
  cases x with
  |non=>cases rx;exact SeqAt.RcAt.str_none a t'
  |bl b=>cases rx;exact SeqAt.RcAt.str_bool a t' b
  |int b=>obtain⟨t,rfl⟩:=rx;exact SeqAt.RcAt.str_int a t' b t
  |str b=>obtain⟨t,rfl⟩:=rx;exact SeqAt.RcAt.str_str a t' b t
  |_=>exact absurd (show false=true from fx) xF0
 |_=>exact absurd (show false=true from fy) xF0
theorem yRI{A:Around}{s:Shared}{y x:V}{u v:Value}(ry:RelV y u)(rx:RelV x v)(fy:jO y=true)(fx:jO x=true):SeqAt.RcNeAt A s u v (!eqV y x):=by
 cases y with
 |non=>
  cases ry
  cases x with
  |non=>cases rx;exact SeqAt.RcNeAt.none_none
  |bl b=>cases rx;exact SeqAt.RcNeAt.none_bool b
  |int b=>obtain⟨t,rfl⟩:=rx;exact SeqAt.RcNeAt.none_int b t
  |str b=>obtain⟨t,rfl⟩:=rx;exact SeqAt.RcNeAt.none_str b t
  |_=>exact absurd (show false=true from fx) xF0
 |bl a=>
  cases ry
  cases x with
  |non=>cases rx;exact SeqAt.RcNeAt.bool_none a
  |bl b=>cases rx;exact SeqAt.RcNeAt.bool_bool a b
  |int b=>obtain⟨t,rfl⟩:=rx;exact SeqAt.RcNeAt.bool_int a b t
  |str b=>obtain⟨t,rfl⟩:=rx;exact SeqAt.RcNeAt.bool_str a b t
  |_=>exact absurd (show false=true from fx) xF0
 |int a=>
  obtain⟨t',rfl⟩:=ry
  cases x with
  |non=>cases rx;exact SeqAt.RcNeAt.int_none a t'
  |bl b=>cases rx;exact SeqAt.RcNeAt.int_bool a t' b
  |int b=>obtain⟨t,rfl⟩:=rx;exact SeqAt.RcNeAt.int_int a t' b t
  |str b=>obtain⟨t,rfl⟩:=rx;exact SeqAt.RcNeAt.int_str a t' b t
  |_=>exact absurd (show false=true from fx) xF0
 |str a=>
  obtain⟨t',rfl⟩:=ry
  cases x with
  |non=>cases rx;exact SeqAt.RcNeAt.str_none a t'
  |bl b=>cases rx;exact SeqAt.RcNeAt.str_bool a t' b
  |int b=>obtain⟨t,rfl⟩:=rx;exact SeqAt.RcNeAt.str_int a t' b t
  |str b=>obtain⟨t,rfl⟩:=rx;exact SeqAt.RcNeAt.str_str a t' b t
  |_=>exact absurd (show false=true from fx) xF0
 |_=>exact absurd (show false=true from fy) xF0
theorem eq_ll{A:Around}{s:Shared}{x:V}{v:Value}{l:Addr}{items:Array Value}(rx:RelV x v)(fx:jO x=true)(hl:s.heap.IsList l items)(hu:A.units<cLine):SeqAt.EqAt A s (.ref l) v false:=by
 cases x with
 |non=>cases rx;exact SeqAt.EqAt.list_none hl hu
 |bl b=>cases rx;exact SeqAt.EqAt.list_bool b hl hu
 |int b=>obtain⟨t,rfl⟩:=rx;exact SeqAt.EqAt.list_int b t hl hu
 |str b=>obtain⟨t,rfl⟩:=rx;exact SeqAt.EqAt.list_str b t hl hu
 |_=>exact absurd (show false=true from fx) xF0
theorem eq_lr{A:Around}{s:Shared}{x:V}{v:Value}{l:Addr}{items:Array Value}(rx:RelV x v)(fx:jO x=true)(hl:s.heap.IsList l items)(hu:A.units<cLine):SeqAt.EqAt A s v (.ref l) false:=by
 cases x with
 |non=>cases rx;exact SeqAt.EqAt.none_list hl hu
 |bl b=>cases rx;exact SeqAt.EqAt.bool_list b hl hu
 |int b=>obtain⟨t,rfl⟩:=rx;exact SeqAt.EqAt.int_list b t hl hu
 |str b=>obtain⟨t,rfl⟩:=rx;exact SeqAt.EqAt.str_list b t hl hu
 |_=>exact absurd (show false=true from fx) xF0
theorem yPN{A:Around}{s:Shared}{x:V}{v:Value}{l:Addr}{items:Array Value}(rx:RelV x v)(fx:jO x=true)(hl:s.heap.IsTuple l items)(hu:A.units<cLine):SeqAt.EqAt A s (.ref l) v false:=by
 cases x with
 |non=>cases rx;exact SeqAt.EqAt.tuple_none hl hu
 |bl b=>cases rx;exact SeqAt.EqAt.tuple_bool b hl hu
 |int b=>obtain⟨t,rfl⟩:=rx;exact SeqAt.EqAt.tuple_int b t hl hu
 |str b=>obtain⟨t,rfl⟩:=rx;exact SeqAt.EqAt.tuple_str b t hl hu
 |_=>exact absurd (show false=true from fx) xF0
theorem yPO{A:Around}{s:Shared}{x:V}{v:Value}{l:Addr}{items:Array Value}(rx:RelV x v)(fx:jO x=true)(hl:s.heap.IsTuple l items)(hu:A.units<cLine):SeqAt.EqAt A s v (.ref l) false:=by
 cases x with
 |non=>cases rx;exact SeqAt.EqAt.none_tuple hl hu
 |bl b=>cases rx;exact SeqAt.EqAt.bool_tuple b hl hu
 |int b=>obtain⟨t,rfl⟩:=rx;exact SeqAt.EqAt.int_tuple b t hl hu
 |str b=>obtain⟨t,rfl⟩:=rx;exact SeqAt.EqAt.str_tuple b t hl hu
 |_=>exact absurd (show false=true from fx) xF0
theorem rc_ll{A:Around}{s:Shared}{x:V}{v:Value}{l:Addr}{items:Array Value}(rx:RelV x v)(fx:jO x=true)(hl:s.heap.IsList l items)(hu:A.units<cLine):SeqAt.RcAt A s (.ref l) v false:=by
 cases x with
 |non=>cases rx;exact SeqAt.RcAt.list_none hl hu
 |bl b=>cases rx;exact SeqAt.RcAt.list_bool b hl hu
 |int b=>obtain⟨t,rfl⟩:=rx;exact SeqAt.RcAt.list_int b t hl hu
 |str b=>obtain⟨t,rfl⟩:=rx;exact SeqAt.RcAt.list_str b t hl hu
 |_=>exact absurd (show false=true from fx) xF0
theorem rc_lr{A:Around}{s:Shared}{x:V}{v:Value}{l:Addr}{items:Array Value}(rx:RelV x v)(fx:jO x=true)(hl:s.heap.IsList l items)(hu:A.units<cLine):SeqAt.RcAt A s v (.ref l) false:=by
 cases x with
 |non=>cases rx;exact SeqAt.RcAt.none_list hl hu
 |bl b=>cases rx;exact SeqAt.RcAt.bool_list b hl hu
 |int b=>obtain⟨t,rfl⟩:=rx;exact SeqAt.RcAt.int_list b t hl hu
 |str b=>obtain⟨t,rfl⟩:=rx;exact SeqAt.RcAt.str_list b t hl hu
 |_=>exact absurd (show false=true from fx) xF0
theorem rc_tl{A:Around}{s:Shared}{x:V}{v:Value}{l:Addr}{items:Array Value}(rx:RelV x v)(fx:jO x=true)(hl:s.heap.IsTuple l items)(hu:A.units<cLine):SeqAt.RcAt A s (.ref l) v false:=by
 cases x with
 |non=>cases rx;exact SeqAt.RcAt.tuple_none hl hu
 |bl b=>cases rx;exact SeqAt.RcAt.tuple_bool b hl hu
 |int b=>obtain⟨t,rfl⟩:=rx;exact SeqAt.RcAt.tuple_int b t hl hu
 |str b=>obtain⟨t,rfl⟩:=rx;exact SeqAt.RcAt.tuple_str b t hl hu
 |_=>exact absurd (show false=true from fx) xF0
theorem rc_tr{A:Around}{s:Shared}{x:V}{v:Value}{l:Addr}{items:Array Value}(rx:RelV x v)(fx:jO x=true)(hl:s.heap.IsTuple l items)(hu:A.units<cLine):SeqAt.RcAt A s v (.ref l) false:=by
 cases x with
 |non=>cases rx;exact SeqAt.RcAt.none_tuple hl hu
 |bl b=>cases rx;exact SeqAt.RcAt.bool_tuple b hl hu
 |int b=>obtain⟨t,rfl⟩:=rx;exact SeqAt.RcAt.int_tuple b t hl hu
 |str b=>obtain⟨t,rfl⟩:=rx;exact SeqAt.RcAt.str_tuple b t hl hu
 |_=>exact absurd (show false=true from fx) xF0
theorem rn_ll{A:Around}{s:Shared}{x:V}{v:Value}{l:Addr}{items:Array Value}(rx:RelV x v)(fx:jO x=true)(hl:s.heap.IsList l items)(hu:A.units<cLine):SeqAt.RcNeAt A s (.ref l) v true:=by
 cases x with
 |non=>cases rx;exact SeqAt.RcNeAt.list_none hl hu
 |bl b=>cases rx;exact SeqAt.RcNeAt.list_bool b hl hu
 |int b=>obtain⟨t,rfl⟩:=rx;exact SeqAt.RcNeAt.list_int b t hl hu
 |str b=>obtain⟨t,rfl⟩:=rx;exact SeqAt.RcNeAt.list_str b t hl hu
 |_=>exact absurd (show false=true from fx) xF0
theorem rn_lr{A:Around}{s:Shared}{x:V}{v:Value}{l:Addr}{items:Array Value}(rx:RelV x v)(fx:jO x=true)(hl:s.heap.IsList l items)(hu:A.units<cLine):SeqAt.RcNeAt A s v (.ref l) true:=by
 cases x with
 |non=>cases rx;exact SeqAt.RcNeAt.none_list hl hu
 |bl b=>cases rx;exact SeqAt.RcNeAt.bool_list b hl hu
 |int b=>obtain⟨t,rfl⟩:=rx;exact SeqAt.RcNeAt.int_list b t hl hu
 |str b=>obtain⟨t,rfl⟩:=rx;exact SeqAt.RcNeAt.str_list b t hl hu
 |_=>exact absurd (show false=true from fx) xF0
theorem rn_tl{A:Around}{s:Shared}{x:V}{v:Value}{l:Addr}{items:Array Value}(rx:RelV x v)(fx:jO x=true)(hl:s.heap.IsTuple l items)(hu:A.units<cLine):SeqAt.RcNeAt A s (.ref l) v true:=by
 cases x with
 |non=>cases rx;exact SeqAt.RcNeAt.tuple_none hl hu
 |bl b=>cases rx;exact SeqAt.RcNeAt.tuple_bool b hl hu
 |int b=>obtain⟨t,rfl⟩:=rx;exact SeqAt.RcNeAt.tuple_int b t hl hu
 |str b=>obtain⟨t,rfl⟩:=rx;exact SeqAt.RcNeAt.tuple_str b t hl hu
 |_=>exact absurd (show false=true from fx) xF0
theorem rn_tr{A:Around}{s:Shared}{x:V}{v:Value}{l:Addr}{items:Array Value}(rx:RelV x v)(fx:jO x=true)(hl:s.heap.IsTuple l items)(hu:A.units<cLine):SeqAt.RcNeAt A s v (.ref l) true:=by
 cases x with
 |non=>cases rx;exact SeqAt.RcNeAt.none_tuple hl hu
 |bl b=>cases rx;exact SeqAt.RcNeAt.bool_tuple b hl hu
 |int b=>obtain⟨t,rfl⟩:=rx;exact SeqAt.RcNeAt.int_tuple b t hl hu
 |str b=>obtain⟨t,rfl⟩:=rx;exact SeqAt.RcNeAt.str_tuple b t hl hu
 |_=>exact absurd (show false=true from fx) xF0
theorem yIO{y:V}(h:jO y=true):eqV y y=true:=by
 cases y<;>first |rfl|(simp [eqV];done)|exact absurd (show false=true from h) xF0
inductive NK where
 |key (k:Key)|tup (ks:List NK)
noncomputable instance:DecidableEq NK:=λ_ _=>Classical.propDecidable _
section
variable{prog:Program}{w:World}(knd:KeyKind prog w Key)
mutual
def isN(h:Heap):NK->Value->Prop
 |.key k,v=>knd.is k v=true
 |.tup ks,v=> ∃a o items n,v=.ref a/\h.get? a=some o/\o.cls=.type "tuple"/\o.data=.seq items n/\zIS h ks items.toList
def zIS(h:Heap):List NK->List Value->Prop
 |[],vs=>vs=[]
 |k::ks,vs=> ∃v r,vs=v::r/\isN h k v/\zIS h ks r
end
mutual
def zIT:NK->Int
 |.key k=>knd.hash k
 |.tup ks=>reduceHash (Builtin.Tuple.tupleHashOf (zRS ks))
def zRS:List NK->List Int
 |[]=>[]
 |k::ks=>zIT k::zRS ks
end
mutual
def zRT:NK->Nat
 |.key _=>1
 |.tup ks=>dR ks+1
def dR:List NK->Nat
 |[]=>0
 |k::ks=>zRT k+dR ks
end
mutual
def zDQ:NK->Nat
 |.key _=>0
 |.tup ks=>zLC ks+1
def zLC:List NK->Nat
 |[]=>0
 |k::ks=>max (zDQ k) (zLC ks)
end
variable{knd}
theorem jZ{h:Heap}{k:Key}{v:Value}:isN knd h (.key k) v↔knd.is k v=true:=by unfold isN;exact Iff.rfl
theorem kN{h:Heap}{ks:List NK}{v:Value}:isN knd h (.tup ks) v↔ ∃a o items n,v=.ref a/\h.get? a=some o/\o.cls=.type "tuple"/\o.data=.seq items n/\zIS knd h ks items.toList:=by
 conv=>lhs;unfold isN
theorem jP{h:Heap}{vs:List Value}:zIS knd h [] vs↔vs=[]:=by unfold zIS;exact Iff.rfl
theorem xL{h:Heap}{k:NK}{ks:List NK}{vs:List Value}:zIS knd h (k::ks) vs↔ ∃v r,vs=v::r/\isN knd h k v/\zIS knd h ks r:=by
 conv=>lhs;unfold zIS
mutual
theorem zVV{h:Heap}: ∀{x y:NK}{v:Value},isN knd h x v->isN knd h y v->x=y
 |.key k,.key k',v,hx,hy=>by rw [knd.inj v k k' (jZ.mp hx) (jZ.mp hy)]
 |.key k,.tup ks,v,hx,hy=>by
  obtain⟨a,o,items,n,rfl,_⟩:=kN.mp hy
  have:=knd.byValue _ _ (jZ.mp hx)
  simp [carriedByValue]at this
 |.tup ks,.key k,v,hx,hy=>by
  obtain⟨a,o,items,n,rfl,_⟩:=kN.mp hx
  have:=knd.byValue _ _ (jZ.mp hy)
  simp [carriedByValue]at this
 |.tup ks,.tup ks',v,hx,hy=>by
  obtain⟨a,o,items,n,e,ho,_,hd,hi⟩:=kN.mp hx
  obtain⟨a',o',items',n',e',ho',_,hd',hi'⟩:=kN.mp hy
  rw [e]at e'
  cases e'
  obtain rfl:o=o':=Option.some.inj (ho.symm.trans ho')
  rw [hd]at hd'
  injection hd' with h1 _
  subst h1
  rw [zYF hi hi']
theorem zYF{h:Heap}: ∀{xs ys:List NK}{vs:List Value},zIS knd h xs vs->zIS knd h ys vs->xs=ys
 |[],[],_,_,_=>rfl
 |[],y::ys,vs,hx,hy=>by
  obtain⟨v,r,e,_⟩:=xL.mp hy
  rw [jP.mp hx]at e;cases e
 |x::xs,[],vs,hx,hy=>by
  obtain⟨v,r,e,_⟩:=xL.mp hx
  rw [jP.mp hy]at e;cases e
 |x::xs,y::ys,vs,hx,hy=>by
  obtain⟨v,r,e,h1,h2⟩:=xL.mp hx
  obtain⟨v',r',e',h1',h2'⟩:=xL.mp hy
  rw [e]at e'
  cases e'
  rw [zVV h1 h1',zYF h2 h2']
end
mutual
theorem zYG{h h':Heap}(m: ∀a o items n,h.get? a=some o->o.data=.seq items n->h'.get? a=some o): ∀{x:NK}{v:Value},isN knd h x v->isN knd h' x v
 |.key k,v,hx=>jZ.mpr (jZ.mp hx)
 |.tup ks,v,hx=>by
  obtain⟨a,o,items,n,e,ho,hc,hd,hi⟩:=kN.mp hx
  exact kN.mpr ⟨a,o,items,n,e,m a o items n ho hd,hc,hd,zUL m hi⟩
theorem zUL{h h':Heap}(m: ∀a o items n,h.get? a=some o->o.data=.seq items n->h'.get? a=some o): ∀{xs:List NK}{vs:List Value},zIS knd h xs vs->zIS knd h' xs vs
 |[],vs,hx=>jP.mpr (jP.mp hx)
 |x::xs,vs,hx=>by
  obtain⟨v,r,e,h1,h2⟩:=xL.mp hx
  exact xL.mpr ⟨v,r,e,zYG m h1,zUL m h2⟩
end
theorem zRU: ∀ks:List NK,zRS knd ks=ks.map (zIT knd)
 |[]=>by unfold zRS;rfl
 |k::ks=>by unfold zRS;rw [zRU ks];rfl
theorem zLQ:dR []=0:=by rw [dR]
theorem zIU(k:NK)(ks:List NK):dR (k::ks)=zRT k+dR ks:=by rw [dR]
theorem zLR(k:NK)(ks:List NK):zLC (k::ks)=max (zDQ k) (zLC ks):=by rw [zLC]
theorem zBY(ks:List NK):zDQ (.tup ks)=zLC ks+1:=by rw [zDQ]
theorem zLD: ∀(xs ys:List NK),dR (xs++ys)=dR xs+dR ys
 |[],ys=>by rw [zLQ,nil_append,zero_add]
 |x::xs,ys=>by rw [cons_append,zIU,zIU,zLD xs ys];omega
theorem zMW{s:Shared}{ks:List NK}{a:Addr}(h:isN knd s.heap (.tup ks) (.ref a)):s.TypeIs (.ref a) "tuple":=by
 obtain⟨a',o,items,n,e,ho,hc,_⟩:=kN.mp h
 cases e
 exact⟨o,ho,hc⟩
theorem zYH: ∀(n:Nat){A:Around}{E:Value->Shared->Prop}{s:Shared}{k:NK}{v:Value}{Q:Int->Shared->Prop},zDQ k<=n->A.units+n<cLine->isN knd s.heap k v->Q (zIT knd k) {s with toks:=s.toks+zRT k}->wpAny (model prog w) A (pyHash v) Q E s
 |n,A,E,s,.key k,v,Q,_,_,hk,h=>knd.pyHash (jZ.mp hk) (by rw [zIT,zRT]at h;exact h)
 |0,A,E,s,.tup ks,v,Q,hd,_,_,_=>by rw [zBY]at hd;omega
 |n+1,A,E,s,.tup ks,v,Q,hdep,hu,hk,h=>by
  obtain⟨a,o,items,m,rfl,ho,hc,hd,hi⟩:=kN.mp hk
  have hT:s.TypeIs (.ref a) "tuple":=⟨o,ho,hc⟩
  rw [zBY]at hdep
  have hdl: ∀k∈ks,zDQ k<=n:=by
   have: ∀ks:List NK,zLC ks<=n-> ∀k∈ks,zDQ k<=n:=by
    intro ks
    induction ks with
    |nil=>intro _ k hk;simp at hk
    |cons x xs ih=>
     intro hx k hk
     rw [zLR]at hx
     rcases mC.mp hk with rfl|hk
     ·omega
     ·exact ih (by omega) k hk
   exact this ks (by omega)
  rw [zIT,zRT,zRU]at h
  unfold pyHash
  first |unfold pyHashByItsType|skip
  first |refine wB0 (wpAny_cRoomFor_or (.inr (show A.units<cLine by omega)) ?_)|skip
  refine wB0 (wpAny_specialOf hT F.slot_tuple_hash.lookup ?_)
  show wpAny _ _ (if(some (Value.builtin "tuple.__hash__")==some Value.none)=true then _ else _) Q E s
  rw [iN0 (by rw [beq_builtin_none];exact xF0)]
  refine wB0 (wpAny_specialOf hT F.slot_tuple_hash.lookup ?_)
  show wpAny _ _ (callSpecialIfBoundUnlessNone? (.ref a) "__hash__" _ >>= _) Q E s
  refine wB0 (wpAny_callSpecialIfBoundUnlessNone?_slot hT F.slot_tuple_hash (wpAny_call_entry F.slot_tuple_hash hT F.entry_tuple_hash ?_ (F.args_tuple_hash_1 _)))
  show wpAny _ _ (Builtin.Tuple.tupleItemsOf (.ref a) >>= _) _ _ s
  refine wB0 (wpAny_tupleItemsOf ho hd ?_)
  refine wB0 ?_
  rw [<-Array.forIn_toList]
  refine wpAny_forIn_list _
   (λrest (b:Array Int) s'=> ∃done left,ks=done++left/\zIS knd s.heap left rest/\b.toList=done.map (zIT knd)/\s'={s with toks:=s.toks+dR done})
   _ ?_ ?_ _ _ ⟨[],ks,rfl,hi,rfl,by rw [zLQ];rfl⟩
  ·rintro x rest b s' ⟨done,left,rfl,hl,hb,rfl⟩
   cases left with
   |nil=>rw [jP]at hl;cases hl
   |cons k ks'=>
    obtain⟨v,r,e,h1,hl'⟩:=xL.mp hl
    cases e
    refine wB0 (zYH n (hdl k (by simp)) (show A.units+1+n<cLine by omega) h1 ?_)
    have e1:dR (done++[k])=dR done+zRT k:=by rw [zLD,zIU,zLQ];rfl
    first
     |exact wP0 ⟨done++[k],ks',by simp,hl',by simp [hb],by simp [add_assoc,e1]⟩
     |exact wB0 (wP0 (wP0 ⟨done++[k],ks',by simp,hl',by simp [hb],by simp [add_assoc,e1]⟩))
  ·rintro b s' ⟨done,left,rfl,hl,hb,rfl⟩
   cases left with
   |cons k ks'=>obtain⟨v,r,e,_⟩:=xL.mp hl;cases e
   |nil=>
    rw [aN]at h
    show wpAny _ _ (retInt (Builtin.Tuple.tupleHashOf b.toList)) _ _ _
    rw [hb]
    refine wpAny_ret_mkInt ?_
    show wpAny _ _ (if(decide (-(2:Int) ^ 63<=Builtin.Tuple.tupleHashOf (done.map (zIT knd)))&&decide (Builtin.Tuple.tupleHashOf (done.map (zIT knd))<2 ^ 63))=true then _ else _) Q E _
    unfold reduceHash at h
    by_cases hr:(decide (-(2:Int) ^ 63<=Builtin.Tuple.tupleHashOf (done.map (zIT knd)))&&decide (Builtin.Tuple.tupleHashOf (done.map (zIT knd))<2 ^ 63))=true
    ·rw [iP hr]
     rw [iP hr]at h
     exact wP0 (by simpa [add_assoc]using h)
    ·rw [iN0 hr]
     rw [iN0 hr]at h
     exact wB0 (wpAny_rule (wP0 (by simpa [add_assoc]using h)))
end
section
variable{prog:Program}{w:World}
abbrev mk(prog:Program)(w:World):KeyKind prog w Key:=zQM prog w
theorem yMS(a b:Key):decide (NK.key a=NK.key b)=decide (a=b):=by
 by_cases h:a=b
 ·subst h;simp
 ·rw [dF0 h,dF0 λz=>h (NK.key.inj z)]
theorem yRJ(a:Key)(b:List NK):decide (NK.key a=NK.tup b)=false:=dF0 λz=>nomatch z
theorem yRK(a:Key)(b:List NK):decide (NK.tup b=NK.key a)=false:=dF0 λz=>nomatch z
theorem yRL(a b:List NK):decide (NK.tup a=NK.tup b)=decide (a=b):=by
 by_cases h:a=b
 ·subst h;simp
 ·rw [dF0 h,dF0 λz=>h (NK.tup.inj z)]
theorem zYI{k:Key}{v:Value}(h:(mk prog w).is k v=true): ∃x:V,RelV x v/\jO x=true:=by
 rcases wH (show zRG k v=true from h)with⟨i,t,rfl,rfl⟩|⟨x,t,rfl,rfl⟩
 ·exact⟨.int i,⟨t,rfl⟩,rfl⟩
 ·exact⟨.str x,⟨t,rfl⟩,rfl⟩
theorem yGF{A:Around}{E:Value->Shared->Prop}{s:Shared}{x y:List NK}{a b:Addr}{P:Fin->Shared->Prop}
  (he: ∀k1∈x, ∀k2 u v (Q:Bool->Shared->Prop),isN (mk prog w) s.heap k1 u->isN (mk prog w) s.heap k2 v->Q (decide (k1=k2)) s->wpAny (model prog w) A (eqBool u v) Q E s)
  (hx:isN (mk prog w) s.heap (.tup x) (.ref a)) (hy:isN (mk prog w) s.heap (.tup y) (.ref b)) (h:P (.done (.ret (.bool (decide (x=y))))) s):
  wpAny (model prog w) A (Builtin.«tuple.__eq__» ⟨[.ref a,.ref b],[]⟩) P E s:=by
 have hTb:=zMW hy
 obtain⟨_,oa,xs,na,e,hoa,_,hda,hia⟩:=kN.mp hx
 cases e
 obtain⟨_,ob,ys,nb,e,hob,_,hdb,hib⟩:=kN.mp hy
 cases e
 show wpAny _ _ (isInstance (.ref b) (.type "tuple") >>= _) _ _ s
 refine wB0 (wpAny_isInstance hTb isSubtype_tuple_tuple ?_)
 simp only [Bool.not_true,fT,iF]
 refine wB0 (wpAny_tupleItemsOf hoa hda ?_)
 refine wB0 (wpAny_tupleItemsOf hob hdb ?_)
 refine wB0 ?_
 refine wpAny_forIn_list _
  (λrest r s'=>r.1=none/\s'=s/\ ∃x' y' xs' ys',rest=List.zip xs' ys'/\(∀k∈x',k∈x)/\zIS (mk prog w) s.heap x' xs'/\zIS (mk prog w) s.heap y' ys'/\decide (x'=y')=decide (x=y)/\(xs'.length==ys'.length)=(xs.size==ys.size))
  _ ?_ ?_ _ _ ⟨rfl,rfl,x,y,xs.toList,ys.toList,rfl,λk hk=>hk,hia,hib,rfl,by simp⟩
 ·rintro⟨u,v⟩ rest r s' ⟨hr,rfl,x',y',xs',ys',hz,hm,hx',hy',hdec,hlen⟩
  cases x' with
  |nil=>rw [jP.mp hx']at hz;simp at hz
  |cons k1 x''=>
   cases y' with
   |nil=>rw [jP.mp hy']at hz;simp at hz
   |cons k2 y''=>
    obtain⟨u',xs'',rfl,h1,hx''⟩:=xL.mp hx'
    obtain⟨v',ys'',rfl,h2,hy''⟩:=xL.mp hy'
    simp only [zip_cons_cons,List.cons.injEq,Prod.mk.injEq]at hz
    obtain⟨⟨rfl,rfl⟩,rfl⟩:=hz
    refine wB0 (he k1 (hm k1 mF0) k2 _ _ _ h1 h2 ?_)
    by_cases hk:k1=k2
    ·subst hk
     rw [dT0 rfl]
     simp only [Bool.not_true,fT,iF]
     refine wP0 ⟨rfl,rfl,x'',y'',xs'',ys'',rfl,λk hk=>hm k (mO _ hk),hx'',hy'',?_,by simpa using hlen⟩
     rw [<-hdec]
     by_cases hxy:x''=y''
     ·simp [hxy]
     ·simp [hxy]
    ·rw [dF0 hk]
     simp only [Bool.not_false,if_true]
     have hf:decide (x=y)=false:=by rw [<-hdec];simp [hk]
     rw [hf]at h
     exact wB0 (wP0 (wP0 (wP0 h)))
 ·rintro⟨r1,r2⟩ s' ⟨hr,rfl,x',y',xs',ys',hz,hm,hx',hy',hdec,hlen⟩
  simp only at hr
  subst hr
  refine wP0 ?_
  have hfin:(xs.size==ys.size)=decide (x=y):=by
   rw [<-hdec, <-hlen]
   cases x' with
   |nil=>
    rw [jP.mp hx']
    cases y' with
    |nil=>rw [jP.mp hy'];simp
    |cons k2 y''=>obtain⟨v',ys'',rfl,h2,hy''⟩:=xL.mp hy';simp
   |cons k1 x''=>
    obtain⟨u',xs'',rfl,h1,hx''⟩:=xL.mp hx'
    cases y' with
    |nil=>rw [jP.mp hy'];simp
    |cons k2 y''=>obtain⟨v',ys'',rfl,h2,hy''⟩:=xL.mp hy';simp at hz
  show P (.done (.ret (.bool (xs.size==ys.size)))) s'
  rw [hfin];exact h
theorem zRV{n:Nat}: ∀{ks:List NK},zLC ks<=n-> ∀k∈ks,zDQ k<=n
 |[],_,k,hk=>by simp at hk
 |x::xs,hx,k,hk=>by
  rw [zLR]at hx
  rcases mC.mp hk with rfl|hk
  ·omega
  ·exact zRV (by omega) k hk
theorem zYJ: ∀(n:Nat){A:Around}{E:Value->Shared->Prop}{s:Shared}{x y:NK}{u v:Value}{Q:Bool->Shared->Prop},zDQ x<=n->A.units+n<cLine->isN (mk prog w) s.heap x u->isN (mk prog w) s.heap y v->Q (decide (x=y)) s->wpAny (model prog w) A (eqBool u v) Q E s
 |n,A,E,s,.key a,.key b,u,v,Q,_,_,hx,hy,h=>(mk prog w).eqBool (jZ.mp hx) (jZ.mp hy) (by rw [yMS]at h;exact h)
 |n,A,E,s,.key a,.tup b,u,v,Q,_,hu,hx,hy,h=>by
  obtain⟨z,rz,fz⟩:=zYI (jZ.mp hx)
  obtain⟨l,o,items,m,rfl,ho,hc,hd,_⟩:=kN.mp hy
  rw [yRJ]at h
  exact yPO rz fz (items:=items) ⟨o,ho,hc,m,hd⟩ (by omega) prog w E Q h
 |n,A,E,s,.tup a,.key b,u,v,Q,_,hu,hx,hy,h=>by
  obtain⟨z,rz,fz⟩:=zYI (jZ.mp hy)
  obtain⟨l,o,items,m,rfl,ho,hc,hd,_⟩:=kN.mp hx
  rw [yRK]at h
  exact yPN rz fz (items:=items) ⟨o,ho,hc,m,hd⟩ (by omega) prog w E Q h
 |0,A,E,s,.tup a,.tup b,u,v,Q,hd,_,hx,hy,h=>by rw [zBY]at hd;omega
 |n+1,A,E,s,.tup x,.tup y,u,v,Q,hd,hu,hx,hy,h=>by
  obtain⟨a,_,_,_,ea,_⟩:=kN.mp hx
  obtain⟨b,_,_,_,eb,_⟩:=kN.mp hy
  subst ea eb
  rw [zBY]at hd
  rw [yRL]at h
  unfold eqBool
  try with_reducible refine wpAny_holding ?_
  show wpAny _ _ (if(Value.ref a==Value.ref b)=true then _ else _) Q E s
  by_cases hab:(Value.ref a==Value.ref b)=true
  ·rw [iP hab]
   have e:a=b:=by have:=eq_of_beq hab;injection this
   subst e
   have:x=y:=NK.tup.inj (zVV hx hy)
   subst this
   exact wB0 (wpAny_rule (wP0 (by simpa using h)))
  ·rw [iN0 hab]
   refine wB0 (wpAny_richCompare_same_room (op:=.Eq) (zMW hx) (zMW hy) F.slot_tuple_eq
    (wpAny_call_entry F.slot_tuple_eq (zMW hx) F.entry_tuple_eq (yGF (λk1 hk1 k2 u v Q h1 h2 h3=>zYJ n (zRV (by omega) k1 hk1) (show A.units+1+n<cLine by omega) h1 h2 h3) hx hy ⟨_,rfl,(λe=>nomatch e),wpAny_truthy_bool h⟩) (F.args_tuple_eq_2 _ _)) (by omega))
theorem yDN: ∀(n m:Nat){A:Around}{E:Value->Shared->Prop}{s:Shared}{x:NK}{u:Value}{Q:Bool->Shared->Prop},zDQ x<=n->n<m->isN (mk prog w) s.heap x u->Q true s->wpAny (model prog w) A (eqIsQuiet m u) Q E s
 |n,m,A,E,s,.key k,u,Q,_,_,hx,h=>by
  rw [eqIsQuiet_byValue m ((mk prog w).byValue _ _ (jZ.mp hx))]
  exact wP0 h
 |0,m,A,E,s,.tup ks,u,Q,hd,_,hx,h=>by rw [zBY]at hd;omega
 |n+1,0,A,E,s,.tup ks,u,Q,hd,hm,hx,h=>by omega
 |n+1,m+1,A,E,s,.tup ks,u,Q,hdp,hm,hx,h=>by
  obtain⟨a,o,items,j,rfl,ho,hc,hd,hi⟩:=kN.mp hx
  have hT:s.TypeIs (.ref a) "tuple":=⟨o,ho,hc⟩
  rw [zBY]at hdp
  unfold eqIsQuiet
  refine wB0 (wpAny_specialOf hT F.slot_tuple_eq.lookup ?_)
  show wpAny _ _ (isInstance (.ref a) (.type "tuple") >>= _) _ _ s
  refine wB0 (wpAny_isInstance hT isSubtype_tuple_tuple ?_)
  simp only [Bool.not_true,fT,iF]
  refine wB0 (wpAny_seqItems ho hd ?_)
  refine wB0 ?_
  show wpAny _ _ (forIn items _ _) _ _ s
  rw [<-Array.forIn_toList]
  refine wpAny_forIn_list _ (λrest r s'=>r.1=none/\s'=s/\ ∃left,(∀k∈left,k∈ks)/\zIS (mk prog w) s.heap left rest) _ ?_ ?_ _ _ ⟨rfl,rfl,ks,λk hk=>hk,hi⟩
  ·rintro v rest r s' ⟨hr,rfl,left,hm',hl⟩
   cases left with
   |nil=>rw [jP]at hl;cases hl
   |cons k left=>
    obtain⟨v',r',e,h1,h2⟩:=xL.mp hl
    cases e
    refine wB0 (yDN n m (zRV (by omega) k (hm' k mF0)) (by omega) h1 ?_)
    simp only [Bool.not_true,fT,iF]
    exact wP0 ⟨rfl,rfl,left,λk hk=>hm' k (mO _ hk),h2⟩
  ·rintro⟨r1,r2⟩ s' ⟨hr,rfl,_⟩
   simp only at hr
   subst hr
   exact wP0 h
end
noncomputable def zIV(prog:Program)(w:World):HeapKind prog w NK where
 is:=λh k a=>isN (mk prog w) h k (.ref a)/\zDQ k<=4
 hash:=zIT (mk prog w)
 draws:=zRT
 room:=λA=>A.units+4<cLine
 inj:=λhx hy=>zVV hx.1 hy.1
 keeps:=λx ho hd hs=>⟨zYG (λa o' items n e q=>(hs.2 a λz=>by
  subst z
  rw [ho]at e;cases e
  rw [hd]at q;cases q).trans e) x.1,x.2⟩
 pyHash:=λhu hk h=>zYH 4 hk.2 hu hk.1 h
 eqBool:=λhu hx hy h=>zYJ 4 hx.2 hu hx.1 hy.1 h
 quiet:=λhk h=>yDN 4 8 hk.2 (by decide) hk.1 h
def DN(P:Program)(w:World)(a:Addr)(xs:List (NK×Addr×Value)):HO:=
 .ext λh=>xs.length<=sizeLine/\(a==sysModules)=false/\ ∃o es ep,h.get? a=some o/\o.ExactDict/\o.data=.dict es ep/\es.toList=xs.map (entryOfKey (zIV P w))/\(xs.map (·.1)).Nodup
end M
end L2
namespace L2
open PySem PySem.Spec PyProof.Rows
def Fly(h:Heap)(e T:Addr)(cls:Value)(d:Option Addr)(fl:Value):Prop:=
 ∃oe vs oT ts,h.get? e=some oe/\oe.cls=cls/\oe.dict=d/\oe.data=.fields vs/\vs[1]? =some (.ref T)/\T≠e/\h.get? T=some oT/\oT.data=.fields ts/\ts[3]? =some fl
def Born(h:Heap)(e:Addr)(cls:Value)(d:Option Addr):Prop:= ∃oe vs,h.get? e=some oe/\oe.cls=cls/\oe.dict=d/\oe.data=.fields vs/\vs[1]? =some .none
structure Mvd(fs:List Addr)(e T:Addr)(h h':Heap):Prop where
 keep: ∀b o,b≠e->b≠T->b∉fs->h.get? b=some o->h'.get? b=some o
 slot: ∀b o,b≠e->b≠T->h.get? b=some o-> ∃sl,h'.get? b=some {o with slots:=sl}
 there: ∀b o,h.get? b=some o-> ∃o',h'.get? b=some o'
theorem Mvd.new{fs:List Addr}{e T T':Addr}{h h1 h2:Heap}(a:Mvd fs e T h h1)(n:h.get? T'=none)(b:Mvd fs e T' h1 h2):Mvd fs e T h h2:=by
 have ne: ∀c o,h.get? c=some o->c≠T':=λc o q z=>by rw [z,n]at q;cases q
 exact⟨λc o h1 h2 h3 q=>b.keep c o h1 (ne c o q) h3 (a.keep c o h1 h2 h3 q),λc o h1 h2 q=>by
  obtain⟨sl,e1⟩:=a.slot c o h1 h2 q
  obtain⟨sl',e2⟩:=b.slot c _ h1 (ne c o q) e1
  exact⟨sl',e2⟩,λc o q=>let ⟨o',e1⟩:=a.there c o q;b.there c o' e1⟩
theorem zRW(f:Array Value->Array Value)(o:Obj):(Obj.mapFields f o).dict=o.dict:=by
 obtain⟨c,d,dt,sl⟩:=o;cases dt<;>rfl
section
variable{M:Model}{A:Around}{E:Value->Shared->Prop}{s:Shared}{base:Heap}{env:Env}{outer:List Env}{L e T:Addr}{cls:Value}{d:Option Addr}{Q:Unit->Shared->Prop}
theorem yIP{oe:Obj}{vs:Array Value}{head:Value}{hadNext:Bool}(hfr:A.frames=some (env::outer))(hl:s.heap.FunFrames base (env::outer))(hf:env.frame=some L)
  (he:s.heap.get? e=some oe) (hd:oe.data=.fields vs) (hsz:1<vs.size)
  (h: ∀h' T',s.heap.get? T'=none->Mvd (frs (env::outer)) e e s.heap h'->Fly h' e T' oe.cls oe.dict (rawInt L)->Q () {s with heap:=h'}):
  wpAny M A (do let a <-frameOf env;let pl <-entryPlaceOf L hadNext;let b <-EntryCells.newEntry head a .none (rawInt L) .none pl;setField (.ref e) 1 b) Q E s:=by
 have hene:e∉(env::outer).filterMap (·.frame):=λhm=>by
  obtain⟨_,o,ho,hnf⟩:=hl.mem hm
  rw [he]at ho;injection ho with ho;subst ho;exact hnf vs hd
 refine wB0 (wpAny_frameOf_fun hfr hl hf λh₁ hs₁=>?_)
 refine wB0 (wpAny_entryPlaceOf λpl hpl=>?_)
 unfold EntryCells.newEntry newFields
 refine wB0 (wpAny_newObj_type ?_ (hpl.sizeOk5 _ _ _ _ _))
 have he₁:h₁.get? e=some oe:=(hs₁.2.1 e hene).trans he
 have he₂:=hP00 (h:=h₁) {cls:=.type "traceback",dict:=none,data:=.fields ([head,.ref L,.none,rawInt L,.none]++(if pl.isEmpty then List.replicate 6 Value.none else pl)).toArray} he₁
 refine wpAny_setField he₂ hd hsz ?_
 have hTe:h₁.objs.size≠e:=ne_of_gt (Heap.lt_size he₁)
 have hd₃:=Obj.data_mapFields hd (·.setIfInBounds 1 (Value.ref h₁.objs.size))
 have he₃:=Heap.get?_update_self (Obj.mapFields (·.setIfInBounds 1 (Value.ref h₁.objs.size))) he₂ (Obj.isFreed_of_fields hd₃)
 have hT₃:=(Heap.get?_update_other (h₁.push {cls:=.type "traceback",dict:=none,data:=.fields ([head,.ref L,.none,rawInt L,.none]++(if pl.isEmpty then List.replicate 6 Value.none else pl)).toArray})
  (Obj.mapFields (·.setIfInBounds 1 (Value.ref h₁.objs.size))) (Ne.symm hTe)).trans (Heap.get?_push_size h₁ rfl)
 have keep: ∀b o,b≠e->h₁.get? b=some o->
   ((h₁.push {cls:=.type "traceback",dict:=none,data:=.fields ([head,.ref L,.none,rawInt L,.none]++(if pl.isEmpty then List.replicate 6 Value.none else pl)).toArray}).update e (Obj.mapFields (·.setIfInBounds 1 (Value.ref h₁.objs.size)))).get? b=some o:=
  λb o hbe hb=>by
   rw [Heap.get?_update_other _ _ (Ne.symm hbe)]
   exact hP00 _ hb
 refine h _ h₁.objs.size ?_ ⟨λb o hbe _ hbf hb=>keep b o hbe ((hs₁.2.1 b hbf).trans hb),λb o hbe _ hb=>?_,λb o hb=>?_⟩ ?_
 ·cases q:s.heap.get? h₁.objs.size with
  |none=>rfl
  |some o=>
   obtain⟨sl,hs⟩:=hs₁.2.2 _ o q
   exact absurd (Heap.lt_size hs) (lt_irrefl _)
 ·obtain⟨sl,hs⟩:=hs₁.2.2 b o hb
  exact⟨sl,keep b _ hbe hs⟩
 ·by_cases hbe:b=e
  ·subst hbe;exact⟨_,he₃⟩
  ·obtain⟨sl,hs⟩:=hs₁.2.2 b o hb
   exact⟨_,keep b _ hbe hs⟩
 ·exact⟨_,_,_,_,he₃,Obj.cls_mapFields _ _,zRW _ _,hd₃,by simp [hsz],hTe,hT₃,rfl,by first |(simp;done)|(rcases hpl with rfl|⟨_,_,_,_,_,_,_,rfl⟩<;>simp)⟩
theorem yBC(hfr:A.frames=some (env::outer))(hl:s.heap.FunFrames base (env::outer))(hf:env.frame=some L)(hb:Born s.heap e cls d)
  (h: ∀h' T',s.heap.get? T'=none->Mvd (frs (env::outer)) e e s.heap h'->Fly h' e T' cls d (rawInt L)->Q () {s with heap:=h'}):wpAny M A (noteFrame (.ref e) env) Q E s:=by
 obtain⟨oe,vs,he,rfl,rfl,hd,h1⟩:=hb
 unfold noteFrame
 simp only [hf]
 refine wB0 (wpAny_field he hd h1 ?_)
 rw [iN0 (by decide)]
 exact yIP hfr hl hf he hd (Array.getElem?_eq_some_iff.mp h1).1 h
theorem setT{oT:Obj}{ts:Array Value}{x:Value}{h0:Heap}(hT:h0.get? T=some oT)(hdT:oT.data=.fields ts):Mvd (frs (env::outer)) e T h0 (h0.update T (Obj.mapFields (·.setIfInBounds 3 x))):=by
 have other: ∀b,b≠T->(h0.update T (Obj.mapFields (·.setIfInBounds 3 x))).get? b=h0.get? b:=λb hb=>Heap.get?_update_other _ _ (Ne.symm hb)
 refine⟨λb o _ hbT _ hb=>(other b hbT).trans hb,λb o _ hbT hb=>⟨o.slots,(other b hbT).trans hb⟩,λb o hb=>?_⟩
 by_cases hbT:b=T
 ·subst hbT
  exact⟨_,Heap.get?_update_self _ hT (Obj.isFreed_of_fields (Obj.data_mapFields hdT _))⟩
 ·exact⟨o,(other b hbT).trans hb⟩
theorem zUM(hfr:A.frames=some (env::outer))(hl:s.heap.FunFrames base (env::outer))(hf:env.frame=some L)(hb:Fly s.heap e T cls d .none)
  (h: ∀h' T',s.heap.get? T'=none->Mvd (frs (env::outer)) e T s.heap h'->Fly h' e T' cls d (rawInt L)->Q () {s with heap:=h'}):wpAny M A (noteFrame (.ref e) env) Q E s:=by
 obtain⟨oe,vs,oT,ts,he,rfl,rfl,hd,h1,hTe,hT,hdT,h3⟩:=hb
 unfold noteFrame
 simp only [hf]
 refine wB0 (wpAny_field he hd h1 ?_)
 rw [iP (show(Value.ref T !=Value.none)=true from by simp)]
 refine wB0 (wpAny_field hT hdT h3 ?_)
 rw [iN0 (show¬((Value.none==rawInt L)=true)from by simp [rawInt])]
 refine wB0 (wpAny_setField hT hdT (Array.getElem?_eq_some_iff.mp h3).1 ?_)
 have mv:=setT (env:=env) (outer:=outer) (e:=e) (x:=Value.none) hT hdT
 have other: ∀b,b≠T->(s.heap.update T (Obj.mapFields (·.setIfInBounds 3 Value.none))).get? b=s.heap.get? b:=λb hb=>Heap.get?_update_other _ _ (Ne.symm hb)
 have noRecord: ∀b o,s.heap.get? b=some o->(∀vs,o.data≠.fields vs)->b≠T:=λb o hb hnf q=>by
  rw [q,hT]at hb;injection hb with hb;subst hb;exact hnf ts hdT
 refine yIP (s:={s with heap:=s.heap.update T (Obj.mapFields (·.setIfInBounds 3 Value.none))}) hfr (hl.of_keeps λb o hb hnf=>⟨o,(other b (noRecord b o hb hnf)).trans hb,rfl⟩) hf ((other e (Ne.symm hTe)).trans he) hd (Array.getElem?_eq_some_iff.mp h1).1
  λh' T' n m f=>h h' T' ?_ ⟨λb o hbe hbT hbf hb=>m.keep b o hbe hbe hbf (mv.keep b o hbe hbT hbf hb),λb o hbe hbT hb=>?_,λb o hb=>?_⟩ f
 ·cases q:s.heap.get? T' with
  |none=>rfl
  |some o=>
   obtain⟨o',hs⟩:=mv.there _ o q
   have n':(s.heap.update T (Obj.mapFields (·.setIfInBounds 3 Value.none))).get? T'=none:=n
   rw [n']at hs;cases hs
 ·obtain⟨sl,e1⟩:=mv.slot b o hbe hbT hb
  obtain⟨sl',e2⟩:=m.slot b _ hbe hbe e1
  exact⟨sl',e2⟩
 ·obtain⟨o',e1⟩:=mv.there b o hb
  exact m.there b o' e1
theorem zDU{fl:Value}(hb:Fly s.heap e T cls d fl)(h: ∀h',Mvd (frs (env::outer)) e T s.heap h'->Fly h' e T cls d .none->Q () {s with heap:=h'}):wpAny M A (setFlight (.ref e) none) Q E s:=by
 obtain⟨oe,vs,oT,ts,he,rfl,rfl,hd,h1,hTe,hT,hdT,h3⟩:=hb
 have hsz3:3<ts.size:=(Array.getElem?_eq_some_iff.mp h3).1
 unfold setFlight
 refine wB0 (wpAny_field he hd h1 ?_)
 rw [iP (show(Value.ref T !=Value.none)=true from by simp)]
 refine wpAny_setField hT hdT hsz3 (h _ (setT hT hdT) ?_)
 exact⟨oe,vs,_,_,(Heap.get?_update_other _ _ hTe).trans he,rfl,rfl,hd,h1,hTe,Heap.get?_update_self _ hT (Obj.isFreed_of_fields (Obj.data_mapFields hdT _)),Obj.data_mapFields hdT _,by simp [hsz3]⟩
theorem zYK(hfr:A.frames=some (env::outer))(hl:s.heap.FunFrames base (env::outer))(hf:env.frame=some L)(hb:Born s.heap e cls d)
  (h: ∀h' T',s.heap.get? T'=none->Mvd (frs (env::outer)) e e s.heap h'->Fly h' e T' cls d .none->Q () {s with heap:=h'}):wpAny M A (leaving env (.ref e)) Q E s:=by
 unfold leaving
 refine wB0 (yBC hfr hl hf hb λh1 T' n m f=>zDU (env:=env) (outer:=outer) f λh2 m2 f2=>h h2 T' n (m.new n m2) f2)
theorem yBD(hfr:A.frames=some (env::outer))(hl:s.heap.FunFrames base (env::outer))(hf:env.frame=some L)(hb:Fly s.heap e T cls d .none)
  (h: ∀h' T',s.heap.get? T'=none->Mvd (frs (env::outer)) e T s.heap h'->Fly h' e T' cls d .none->Q () {s with heap:=h'}):wpAny M A (leaving env (.ref e)) Q E s:=by
 unfold leaving
 refine wB0 (zUM hfr hl hf hb λh1 T' n m f=>zDU (env:=env) (outer:=outer) f λh2 m2 f2=>h h2 T' n (m.new n m2) f2)
end
theorem ObjOk.here{P:Program}{w:World}{H:Hp}{h:Heap}{a:Addr}{o:HO}(x:ObjOk P w H h a o): ∃ob,h.get? a=some ob:=by
 cases o with
 |lst xs=>obtain⟨_,_,_,_,e⟩:=x;exact⟨_,e⟩
 |tup xs=>obtain⟨_,_,_,ob,e,_⟩:=x;exact⟨_,e⟩
 |dK kvs=>obtain⟨_,_,_,_,o,_,_,e,_⟩:=x;exact⟨_,e⟩
 |dT kvs=>obtain⟨_,_,_,_,o,_,_,e,_⟩:=x;exact⟨_,e⟩
 |set S n=>obtain⟨o,_,_,_,e,_⟩:=x;exact⟨_,e⟩
 |ins C dx fs=>obtain⟨_,_,_,e,_⟩:=x;exact⟨_,e⟩
 |own y=>exact x
 |xd fs=>obtain⟨_,⟨_,_,_,e,_⟩,_⟩:=x;exact⟨_,e⟩
 |rng lo hi=>obtain⟨_,_,_,e⟩:=x;exact⟨_,e⟩
 |frz ob u=>obtain⟨e,_⟩:=x;exact⟨_,e⟩
 |tbl ps=>exact⟨_,(show h.get? a=some _ from x)⟩
 |met f y=>exact⟨_,(show h.get? a=some _ from x)⟩
 |ext φ=>obtain⟨_,e,_⟩:=x;exact e
theorem HOk.none_of{P:Program}{w:World}{H:Hp}{h:Heap}{a:Addr}(x:HOk P w H h)(n:h.get? a=none):H a=none:=by
 cases q:H a with
 |none=>rfl
 |some u=>
  obtain⟨ob,e⟩:=(x a u q).here
  rw [n]at e;cases e
section
variable{X:Cx}{pins:List (Addr×Obj)}{σ:St}{H:Hp}{s:Shared}
theorem Inv.older(J:Inv X pins σ H s)(hex:X.ex=[]){b:Addr}(n:s.heap.get? b=none):X.s₀.heap.get? b=none:=by
 cases q:X.s₀.heap.get? b with
 |none=>rfl
 |some o=>
  obtain⟨o',e⟩:=J.base.there b o q (by rw [hex];simp)
  rw [n]at e;cases e
theorem Inv.moved{e T:Addr}{h':Heap}(J:Inv X pins σ H s)(hex:X.ex=[])(m:Mvd (frs X.stack) e T s.heap h')(ne:X.s₀.heap.get? e=none)(nT:X.s₀.heap.get? T=none)(he:H e=none)(hT:H T=none):
  Un X.fs [] X.H₀ H X.s₀.heap h'/\HOk X.prog X.w H h':=by
 have nex: ∀b:Addr,b∉X.ex:=λb=>by rw [hex];simp
 have ne1: ∀b o,X.s₀.heap.get? b=some o->b≠e:=λb o q z=>by rw [z,ne]at q;cases q
 have ne2: ∀b o,X.s₀.heap.get? b=some o->b≠T:=λb o q z=>by rw [z,nT]at q;cases q
 refine⟨⟨λb o q n hb _=>?_,λb o q n hb _=>?_,λb o q n _=>J.base.free b o q n (nex b),λb o q _=>?_,J.base.tups,J.base.frzs,J.base.tbls⟩,λb u q=>(J.hok b u q).stay (λc v hc r=>?_) (λ_ q=>q) λ_ _ q=>q⟩
 ·refine m.keep b o (ne1 b o q) (ne2 b o q) (λz=>?_) (J.base.keep b o q n hb (nex b))
  rcases mC.mp (J.stkSub b z)with z|z
  ·exact absurd z (ne_of_lt (lt_of_lt_of_le (Heap.lt_size q) J.ok.above))
  ·exact hb z
 ·obtain⟨sl,e1⟩:=J.base.slot b o q n hb (nex b)
  obtain⟨sl',e2⟩:=m.slot b _ (ne1 b o q) (ne2 b o q) e1
  exact⟨sl',e2⟩
 ·obtain⟨o',e1⟩:=J.base.there b o q (nex b)
  exact m.there b o' e1
 ·have hc': ∃z,H c=some z:=by
   rcases hc with rfl|hc
   ·exact⟨_,q⟩
   ·exact⟨_,hc⟩
  obtain⟨z,hz⟩:=hc'
  refine m.keep c v (λy=>by rw [y,he]at hz;cases hz) (λy=>by rw [y,hT]at hz;cases hz) (λy=>?_) r
  rw [J.stkFree c y]at hz;cases hz
end
def CXe(P:Program)(w:World):CXT:=λouter H s E x s'=> ∃e T C d H',x=.ref e/\s'.os=s.os/\AllBare s'.gens/\Un (frs outer) [] H H' s.heap s'.heap/\HOk P w H' s'.heap/\Fly s'.heap e T (.ref C) d .none/\
 s.heap.get? e=none/\s.heap.get? T=none/\H' e=none/\H' T=none/\E (.ref C) d H'
structure XOk(X:Cx)(E:XK):Prop where
 pass:zVM (CXe X.prog X.w) X E
 born: ∀(pins:List (Addr×Obj))(σ:St)(H:Hp)(s:Shared)(e C:Addr)(d:Option Addr),Inv X pins σ H s->Born s.heap e (.ref C) d->X.s₀.heap.get? e=none->H e=none->E (.ref C) d H->X.xe (.ref e) s
section
variable{P:Program}{w:World}{K:PySem.W.Frag}{mg:Str->Option Value}{base:Heap}{N:List Str}{qual:Str}{scope:Scope}{f:Addr}{cd:Value}{A:Around}{outer:List Env}{s:Shared}{H:Hp}{E:XK}
theorem zEG:XOk (zRM (CXe P w) P w K mg base N qual scope f cd A outer s H E) E:=by
 refine⟨λpins σ H1 s1 x s2 I h=>?_,λpins σ H1 s1 e C d J b ne he q=>?_⟩
 ·obtain⟨e,T,C,d,H',rfl,os,bare,un,hok,fl,ne,nT,he,hT,q⟩:=h
  have J:Inv _ pins σ H' s2:=I.call' (ch:=[]) os un hok bare (λ_ z=>nomatch z)
  have ne':=I.older rfl ne
  have nT':=I.older rfl nT
  refine yBD J.ok.frames J.stack rfl fl λh' T' n m f'=>?_
  obtain⟨u,hk⟩:=J.moved rfl m ne' nT' he hT
  exact⟨e,T',C,d,H',rfl,J.os,J.bare,u,hk,f',ne',J.older rfl n,he,J.hok.none_of n,q⟩
 ·refine zYK J.ok.frames J.stack rfl b λh' T' n m f'=>?_
  obtain⟨u,hk⟩:=J.moved rfl m ne ne he he
  exact⟨e,T',C,d,H1,rfl,J.os,J.bare,u,hk,f',ne,J.older rfl n,he,J.hok.none_of n,q⟩
end
abbrev bmV:List Value:=[.type "ValueError",.type "Exception",.type "BaseException",.type "object"]
def qn:List Str:=["__class__","__getattribute__","__getattr__","__setattr__","place","number"]
def zFT(h:Heap)(C M:Addr):Prop:=
 ∃nm q N bs hd sn sub ab col dd k0 k1 k2 k3 k5 nw mN,h.get? C=some (excClassObj nm q C N bs (.ref M::bmV) hd sn sub ab col dd k0 k1 k2 k3 k5 nw)/\h.Ns N mN/\(∀n∈qn,mN n=none)/\
  ∃nm q N bs hd sn sub ab col dd k0 k1 k2 k3 k5 nw mN,h.get? M=some (excClassObj nm q M N bs bmV hd sn sub ab col dd k0 k1 k2 k3 k5 nw)/\h.Ns N mN/\(∀n∈qn,mN n=none)
section
variable{Mo:Model}{A:Around}{E:Value->Shared->Prop}{h:Heap}{g:Array GenState}{d:Drawn}{t:Nat}{os:OsState}{C M:Addr}
theorem zFU(O:zFT h C M){base:Value}{Q:Bool->Shared->Prop}(hq:Q ((Value.ref C::.ref M::bmV).contains base) ⟨h,g,d,t,os⟩):wpAny Mo A (isSubtype (.ref C) base) Q E ⟨h,g,d,t,os⟩:=by
 obtain⟨nm,q,N,bs,hd,sn,sub,ab,col,dd,k0,k1,k2,k3,k5,nw,mN,hC,_⟩:=O
 exact wpAny_isSubtype_exc hC hq
theorem zDV(O:zFT h C M){n:Str}(hn:n∈qn){y:Option Value}(hB:typeLookup (.type "ValueError") n=pure y){Q:Option Value->Shared->Prop}(hq:Q y ⟨h,g,d,t,os⟩):wpAny Mo A (typeLookup (.ref C) n) Q E ⟨h,g,d,t,os⟩:=by
 obtain⟨nm,q,N,bs,hd,sn,sub,ab,col,dd,k0,k1,k2,k3,k5,nw,mN,hC,hN,hmN,_,_,_,_,_,_,_,_,_,_,_,_,_,_,_,_,mM,hM,hNM,hmM⟩:=O
 have hrest:lookupAlong bmV n=pure y:=by
  rw [typeLookup_eq,F.excBase_ValueError.mroIs]at hB
  exact hB
 rw [typeLookup_eq]
 refine wB0 (wpAny_mroOf_exc hC ?_)
 rw [lookupAlong_cons]
 refine wB0 (wpAny_classOwn_exc hC hN ?_)
 rw [hmN n hn,lookupAlong_cons]
 refine wB0 (wpAny_classOwn_exc hM hNM ?_)
 rw [hmM n hn,hrest]
 exact wP0 hq
theorem yIQ(O:zFT h C M): ∃o,h.get? C=some o/\o.cls=.type "type"/\ ∃cd,o.data=.cls cd:=by
 obtain⟨_,_,_,_,_,_,_,_,_,_,_,_,_,_,_,_,_,hC,_⟩:=O
 exact⟨_,hC,rfl,_,rfl⟩
end
theorem qn1:("__class__":Str)∈qn:=.head _
theorem qn2:("__getattribute__":Str)∈qn:=.tail _ (.head _)
theorem qn3:("__getattr__":Str)∈qn:=.tail _ t1M
theorem yIR:typeLookup (.type "ValueError") "__class__"=pure (some (.builtin "object.__class__")):=by rw [typeLookup_type,builtinLookup_eq_fast];kernel_rfl
theorem yPP:typeLookup (.type "ValueError") "__getattribute__"=pure (some (.builtin "BaseException.__getattribute__")):=by rw [typeLookup_type,builtinLookup_eq_fast];kernel_rfl
theorem zYL:typeLookup (.type "ValueError") "__getattr__"=pure none:=by rw [typeLookup_type,builtinLookup_eq_fast];kernel_rfl
section
variable{prog:Program}{w:World}{A:Around}{E:Value->Shared->Prop}{h:Heap}{g:Array GenState}{d:Drawn}{t:Nat}{os:OsState}{C M a:Addr}{o:Obj}
theorem yBE{R:Result->Shared->Prop}(O:zFT h C M)(hx:h.get? a=some o)(hc:o.cls=.ref C)(hq:R (.ok (.ret (.ref C))) ⟨h,g,d,t,os⟩):
  codeAny (model prog w) A (.call (.builtin "getset_descriptor.__get__") ⟨[.builtin "object.__class__",.ref a,.ref C],[]⟩) R ⟨h,g,d,t,os⟩:=by
 have hT5:(⟨h,g,d,t,os⟩:Shared).TypeIs (.builtin "object.__class__") "getset_descriptor":=F.typeOf_object_class
 have ho:(Value.ref C::.ref M::bmV).contains (.type (".".intercalate ("object.__class__".cutAt '.').dropLast))=true:=by
  rw [F.owner_object_class];simp [contains_cons]
 refine codeAny_call_builtin F.slot_gs_get.plain F.entry_gs_get (F.slot_gs_get.check _ _ _ _ _ _ _ _ hT5 (F.args_gs_get _ _ _) ?_)
 repeat (any_goals (first |assumption|(with_reducible refine wpAny_loadPart_at hx ?_;rw [hc])|(with_reducible refine zFU O ?_;rw [ho])|wp_step))
 refine⟨Code.quiet_builtin _ (by decide+kernel),codeAny_builtin F.entry_object_class ?_⟩
 repeat (any_goals (first |assumption|(with_reducible refine wpAny_loadPart_at hx ?_;rw [hc])|wp_step))
theorem zUN{Mo:Model}{nameV:Value}{Q:Unit->Shared->Prop}(O:zFT h C M)(hx:h.get? a=some o)(hc:o.cls=.ref C)(hq:Q () ⟨h,g,d,t,os⟩):wpAny Mo A (checkBuiltinCall "BaseException.__getattribute__" ⟨[.ref a,nameV],[]⟩) Q E ⟨h,g,d,t,os⟩:=by
 have hk:builtinKind "BaseException.__getattribute__"=some .slot:=by decide+kernel
 have hs:splitId "BaseException.__getattribute__"=some ("BaseException","__getattribute__"):=by decide+kernel
 have hb:(Value.ref C::.ref M::bmV).contains (.type "BaseException")=true:=by simp [contains_cons]
 have ha:=F.args_bexc_ga (.ref a) nameV
 simp only [checkBuiltinCall,hk,hs]
 refine wB0 ?_
 unfold isInstance
 repeat (first |(with_reducible refine wpAny_loadPart_at hx ?_;rw [hc])|(with_reducible refine zFU O ?_;rw [hb])|wp_step)
 exact hq
theorem zVW{tk:Tok}{Q:Fin->Shared->Prop}(O:zFT h C M)(hx:h.get? a=some o)(hc:o.cls=.ref C)(hq:Q (.done (.ret (.ref C))) ⟨h,g,d,t,os⟩):
  wpAny (model prog w) A (Builtin.«object.__getattribute__» ⟨[.ref a,.str "__class__" tk],[]⟩) Q E ⟨h,g,d,t,os⟩:=by
 have hT5:(⟨h,g,d,t,os⟩:Shared).TypeIs (.builtin "object.__class__") "getset_descriptor":=F.typeOf_object_class
 have f5:=F.typeOf_object_class
 have f6:=F.slot_gs_get.lookup
 have f7:=F.slot_gs_set.lookup
 repeat (any_goals (first |assumption|(with_reducible refine wpAny_loadPart_at hx ?_;rw [hc])|with_reducible refine zDV O qn1 yIR ?_|wp_step))
 refine yBE O hx hc ?_
 repeat (any_goals (first |assumption|wp_step))
theorem zYM{tk:Tok}{R:Result->Shared->Prop}(O:zFT h C M)(hx:h.get? a=some o)(hc:o.cls=.ref C)(hq:R (.ok (.ret (.ref C))) ⟨h,g,d,t,os⟩):
  codeAny (model prog w) A (.call (.builtin "BaseException.__getattribute__") ⟨[.ref a,.str "__class__" tk],[]⟩) R ⟨h,g,d,t,os⟩:=
 codeAny_call_builtin F.attrBase_ValueError.ga.plain F.entry_bexc_ga (zUN O hx hc (zVW O hx hc hq))
theorem yGG{tk:Tok}{fill expr:Bool}{Q:Value->Shared->Prop}(O:zFT h C M)(hx:h.get? a=some o)(hc:o.cls=.ref C)(hq:Q (.ref C) ⟨h,g,d,t,os⟩):
  wpAny (model prog w) A (getAttrBy (.ref a) (.str "__class__" tk) fill expr) Q E ⟨h,g,d,t,os⟩:=by
 have f3:=F.attrBase_ValueError.ga.bind (.ref a)
 have hx0:(expr&&onTheHeap (Value.builtin "BaseException.__getattribute__"))=false:=by cases expr<;>rfl
 have hx2:(Value.builtin "BaseException.__getattribute__"==Value.builtin "object.__getattribute__")=false:=by decide+kernel
 have hx1:(onTheHeap (Value.ref C)&&Value.builtin "BaseException.__getattribute__"==Value.builtin "object.__getattribute__")=false:=by rw [hx2];rfl
 repeat (any_goals (first |assumption|(with_reducible refine wpAny_loadPart_at hx ?_;rw [hc])|with_reducible refine zDV O qn2 yPP ?_|with_reducible refine zDV O qn3 zYL ?_|wp_step))
 refine zYM O hx hc ?_
 repeat (any_goals (first |assumption|wp_step))
theorem zYN{Q:Option Value->Shared->Prop}(O:zFT h C M)(hx:h.get? a=some o)(hc:o.cls=.ref C)(hq:Q (some (.ref C)) ⟨h,g,d,t+1,os⟩):wpAny (model prog w) A (getAttr? (.ref a) "__class__") Q E ⟨h,g,d,t,os⟩:=by
 unfold getAttr? getAttrBy?
 repeat (any_goals (first |assumption|with_reducible apply yGG O hx hc|wp_step))
theorem yMT{D:Addr}{dD:Option Addr}{cD:ClassData}{sD:Array (Option Value)}{oC:Obj}{Q:Fin->Shared->Prop}(O:zFT h C M)(hx:h.get? a=some o)(hc:o.cls=.ref C)(hD:h.get? D=some {cls:=.type "type",dict:=dD,data:=.cls cD,slots:=sD})(hC:h.get? C=some oC)(hCc:oC.cls=.type "type")(hCd: ∃cd,oC.data=.cls cd)(hn:(Value.ref C::.ref M::bmV).contains (.ref D)=false)(hq:Q (.done (.ret (.bool false))) ⟨h,g,d,t+1,os⟩):
  wpAny (model prog w) A (Builtin.«isinstance.nested» ⟨[.ref a,.ref D,rawInt 0],[]⟩) Q E ⟨h,g,d,t,os⟩:=by
 have hne:(Value.ref C==Value.ref D)=false:=by
  rw [contains_cons,Bool.or_eq_false_iff]at hn
  have:=hn.1
  rw [beq_eq_false_iff_ne]at this ⊢
  exact this.symm
 obtain⟨cd,hCd⟩:=hCd
 obtain⟨c1,c2,c3,c4⟩:=oC
 dsimp only at hCc hCd
 subst hCc hCd
 repeat (any_goals (first |assumption|(with_reducible refine wpAny_loadPart_at hx ?_;rw [hc])|with_reducible refine wpAny_loadPart_at hD ?_|with_reducible refine wpAny_loadPart_at hC ?_|(with_reducible refine zFU O ?_;rw [hn])|with_reducible apply zYN O hx hc|wp_step))
theorem yGH{Q:Fin->Shared->Prop}(hx:h.get? a=some o)(hc:o.cls=.ref C)(hq:Q (.done (.ret (.bool true))) ⟨h,g,d,t,os⟩):
  wpAny (model prog w) A (Builtin.«isinstance.nested» ⟨[.ref a,.ref C,rawInt 0],[]⟩) Q E ⟨h,g,d,t,os⟩:=by
 repeat (any_goals (first |assumption|(with_reducible refine wpAny_loadPart_at hx ?_;rw [hc])|wp_step))
theorem yMU{T:String}{Q:Fin->Shared->Prop}(O:zFT h C M)(hx:h.get? a=some o)(hc:o.cls=.ref C)(hty:typeOf (.type T)=pure (.type "type"))(hn:(Value.ref C::.ref M::bmV).contains (.type T)=true)(hq:Q (.done (.ret (.bool true))) ⟨h,g,d,t,os⟩):
  wpAny (model prog w) A (Builtin.«isinstance.nested» ⟨[.ref a,.type T,rawInt 0],[]⟩) Q E ⟨h,g,d,t,os⟩:=by
 have hne:(Value.ref C==Value.type T)=false:=rfl
 repeat (any_goals (first |assumption|(with_reducible refine wpAny_loadPart_at hx ?_;rw [hc])|(with_reducible refine zFU O ?_;rw [hn])|wp_step))
end
end L2
namespace L2
namespace M
open PySem PySem.Spec PyProof.Rows
inductive MV where
 |non|bl (b:Bool)|int (i:Int)|str (x:List Nat)|tup (ds:List MV)|scr (ds:List MV)|loc (l:Nat)|typ (n:String)
instance:Inhabited MV:=⟨.non⟩
inductive MO where
 |lst (ds:List MV)|dic (kvs:List (MV×MV))|ins (c:Str) (fs:List (Str×MV))
abbrev Sto:=List MO
def SqF(K:PySem.W.Frag)(H:Hp)(a:Addr)(xs:List V):Prop:=
 (∃o,H a=some (.frz o (.lst xs)))\/
  ∃(o:Obj)(its:Array Value)(n:Nat),K.lookup a=some o/\o.cls=.type "list"/\o.dict=none/\o.data=.seq its n/\its.size<=sizeLine/\Vals xs its.toList
theorem SqF.l{K:PySem.W.Frag}{H:Hp}{a:Addr}{xs:List V}(h:SqF K H a xs):SqL K H a xs:=by
 rcases h with⟨o,h⟩|h
 ·exact .inl (.inr ⟨o,h⟩)
 ·exact .inr h
mutual
def Den(K:PySem.W.Frag)(α:List Addr)(H:Hp):MV->V->Prop
 |.non,v=>v=.non
 |.bl b,v=>v=.bl b
 |.int i,v=>v=.int i
 |.str x,v=>v=.str (mkS x)
 |.tup ds,v=> ∃a vs,v=.ref a/\SqT K H a vs/\DenL K α H ds vs
 |.scr ds,v=> ∃a vs,v=.ref a/\SqF K H a vs/\DenL K α H ds vs
 |.loc l,v=> ∃a,v=.ref a/\α[l]? =some a
 |.typ n,v=>v=.ty n
def DenL(K:PySem.W.Frag)(α:List Addr)(H:Hp):List MV->List V->Prop
 |[],vs=>vs=[]
 |d::ds,vs=> ∃v r,vs=v::r/\Den K α H d v/\DenL K α H ds r
end
structure Ex0(α:List Addr)(H:Hp)(α':List Addr)(H':Hp):Prop where
 pre: ∃t,α'=α++t
 tup: ∀b xs,H b=some (.tup xs)->H' b=some (.tup xs)
 frz: ∀b o u,H b=some (.frz o u)->H' b=some (.frz o u)
structure Ext(α:List Addr)(H:Hp)(α':List Addr)(H':Hp):Prop extends Ex0 α H α' H' where
 new: ∀b∈α',b∈α\/H b=none
 keep: ∀b o,H b=some o->b∉α->H' b=some o
 has: ∀b o,H b=some o-> ∃o',H' b=some o'
section
variable{K:PySem.W.Frag}{α α' α'':List Addr}{H H' H'':Hp}
theorem Ext.refl(α:List Addr)(H:Hp):Ext α H α H:=⟨⟨⟨[],by simp⟩,λ_ _ h=>h,λ_ _ _ h=>h⟩,λb h=>.inl h,λ_ _ h _=>h,λ_ o h=>⟨o,h⟩⟩
theorem Ex0.grow(α t:List Addr)(H:Hp):Ex0 α H (α++t) H:=⟨⟨t,rfl⟩,λ_ _ h=>h,λ_ _ _ h=>h⟩
theorem Ext.free(x:Ext α H α' H'){b:Addr}(h:H' b=none):H b=none:=by
 cases e:H b with
 |none=>rfl
 |some o=>obtain⟨o',h'⟩:=x.has b o e;rw [h]at h';cases h'
theorem Ext.out(x:Ext α H α' H'){b:Addr}{o:HO}(h:H b=some o)(n:b∉α):b∉α':=λz=>by
 rcases x.new b z with z|z
 ·exact n z
 ·rw [h]at z;cases z
theorem Ext.trans(x:Ext α H α' H')(y:Ext α' H' α'' H''):Ext α H α'' H'' where
 pre:=by
  obtain⟨t,rfl⟩:=x.pre
  obtain⟨u,rfl⟩:=y.pre
  exact⟨t++u,by rw [aA]⟩
 new:=λb h=>(y.new b h).elim (x.new b) λz=>.inr (x.free z)
 keep:=λb o h n=>y.keep b o (x.keep b o h n) (x.out h n)
 has:=λb o h=>let ⟨o',h'⟩:=x.has b o h;y.has b o' h'
 tup:=λb xs h=>y.tup b xs (x.tup b xs h)
 frz:=λb o u h=>y.frz b o u (x.frz b o u h)
theorem Ex0.at(x:Ex0 α H α' H'){l:Nat}{a:Addr}(h:α[l]? =some a):α'[l]? =some a:=by
 obtain⟨t,rfl⟩:=x.pre
 rw [getElem?_append_left (gS0.mp h).1]
 exact h
theorem Ex0.sqT(x:Ex0 α H α' H'){a:Addr}{vs:List V}(q:SqT K H a vs):SqT K H' a vs:=by
 rcases q with(q|⟨o,q⟩)|q
 ·exact .inl (.inl (x.tup a vs q))
 ·exact .inl (.inr ⟨o,x.frz a o _ q⟩)
 ·exact .inr q
theorem Ex0.sqF(x:Ex0 α H α' H'){a:Addr}{vs:List V}(q:SqF K H a vs):SqF K H' a vs:=by
 rcases q with⟨o,q⟩|q
 ·exact .inl ⟨o,x.frz a o _ q⟩
 ·exact .inr q
mutual
theorem Den.ex0(x:Ex0 α H α' H'): ∀{d:MV}{v:V},Den K α H d v->Den K α' H' d v
 |.non,_,q=>by unfold Den at q ⊢; exact q
 |.bl _,_,q=>by unfold Den at q ⊢; exact q
 |.int _,_,q=>by unfold Den at q ⊢; exact q
 |.str _,_,q=>by unfold Den at q ⊢; exact q
 |.typ _,_,q=>by unfold Den at q ⊢; exact q
 |.loc _,_,q=>by
  unfold Den at q ⊢
  obtain⟨a,e,h⟩:=q
  exact⟨a,e,x.at h⟩
 |.tup ds,_,q=>by
  unfold Den at q ⊢
  obtain⟨a,vs,e,s,l⟩:=q
  exact⟨a,vs,e,x.sqT s,DenL.ex0 x l⟩
 |.scr ds,_,q=>by
  unfold Den at q ⊢
  obtain⟨a,vs,e,s,l⟩:=q
  exact⟨a,vs,e,x.sqF s,DenL.ex0 x l⟩
theorem DenL.ex0(x:Ex0 α H α' H'): ∀{ds:List MV}{vs:List V},DenL K α H ds vs->DenL K α' H' ds vs
 |[],_,q=>by unfold DenL at q ⊢; exact q
 |d::ds,_,q=>by
  unfold DenL at q ⊢
  obtain⟨v,r,e,a,l⟩:=q
  exact⟨v,r,e,Den.ex0 x a,DenL.ex0 x l⟩
end
theorem Den.ext(x:Ext α H α' H'){d:MV}{v:V}(q:Den K α H d v):Den K α' H' d v:=q.ex0 x.toEx0
theorem DenL.ext(x:Ext α H α' H'){d:List MV}{v:List V}(q:DenL K α H d v):DenL K α' H' d v:=q.ex0 x.toEx0
theorem zBN:Den K α H .non .non:=by unfold Den;rfl
theorem wL(b:Bool):Den K α H (.bl b) (.bl b):=by unfold Den;rfl
theorem wD(i:Int):Den K α H (.int i) (.int i):=by unfold Den;rfl
theorem zBO(x:List Nat):Den K α H (.str x) (.str (mkS x)):=by unfold Den;rfl
theorem yDO(n:String):Den K α H (.typ n) (.ty n):=by unfold Den;rfl
theorem nV{ds:List MV}{a:Addr}{vs:List V}(s:SqT K H a vs)(l:DenL K α H ds vs):Den K α H (.tup ds) (.ref a):=by unfold Den;exact⟨a,vs,rfl,s,l⟩
theorem yDP{ds:List MV}{a:Addr}{vs:List V}(s:SqF K H a vs)(l:DenL K α H ds vs):Den K α H (.scr ds) (.ref a):=by unfold Den;exact⟨a,vs,rfl,s,l⟩
theorem zMX{l:Nat}{a:Addr}(h:α[l]? =some a):Den K α H (.loc l) (.ref a):=by unfold Den;exact⟨a,rfl,h⟩
theorem zBZ{v:V}(d:Den K α H .non v):v=.non:=by unfold Den at d;exact d
theorem zFV{b:Bool}{v:V}(d:Den K α H (.bl b) v):v=.bl b:=by unfold Den at d;exact d
theorem gV{i:Int}{v:V}(d:Den K α H (.int i) v):v=.int i:=by unfold Den at d;exact d
theorem bW{x:List Nat}{v:V}(d:Den K α H (.str x) v):v=.str (mkS x):=by unfold Den at d;exact d
theorem zCA{n:String}{v:V}(d:Den K α H (.typ n) v):v=.ty n:=by unfold Den at d;exact d
theorem jW{ds:List MV}{v:V}(d:Den K α H (.tup ds) v): ∃a vs,v=.ref a/\SqT K H a vs/\DenL K α H ds vs:=by unfold Den at d;exact d
theorem zAP{ds:List MV}{v:V}(d:Den K α H (.scr ds) v): ∃a vs,v=.ref a/\SqF K H a vs/\DenL K α H ds vs:=by unfold Den at d;exact d
theorem dS{l:Nat}{v:V}(d:Den K α H (.loc l) v): ∃a,v=.ref a/\α[l]? =some a:=by unfold Den at d;exact d
theorem wM:DenL K α H [] []:=by unfold DenL;rfl
theorem xH{d:MV}{v:V}{ds:List MV}{vs:List V}(a:Den K α H d v)(l:DenL K α H ds vs):DenL K α H (d::ds) (v::vs):=by unfold DenL;exact⟨v,vs,rfl,a,l⟩
theorem DenL.uncons{d:MV}{ds:List MV}{vs:List V}(l:DenL K α H (d::ds) vs): ∃v r,vs=v::r/\Den K α H d v/\DenL K α H ds r:=by unfold DenL at l;exact l
theorem DenL.isnil{vs:List V}(l:DenL K α H [] vs):vs=[]:=by unfold DenL at l;exact l
theorem DenL.length: ∀{ds:List MV}{vs:List V},DenL K α H ds vs->vs.length=ds.length
 |[],_,q=>by rw [q.isnil];rfl
 |d::ds,_,q=>by
  obtain⟨v,r,rfl,_,l⟩:=q.uncons
  rw [lC0,lC0,DenL.length l]
theorem DenL.append: ∀{ds es:List MV}{vs us:List V},DenL K α H ds vs->DenL K α H es us->DenL K α H (ds++es) (vs++us)
 |[],_,_,_,q,l=>by rw [q.isnil];exact l
 |d::ds,_,_,_,q,l=>by
  obtain⟨v,r,rfl,a,l'⟩:=q.uncons
  exact xH a (DenL.append l' l)
theorem DenL.drop: ∀{ds:List MV}{vs:List V}(n:Nat),DenL K α H ds vs->DenL K α H (ds.drop n) (vs.drop n)
 |_,_,0,q=>q
 |[],_,n+1,q=>by rw [q.isnil];exact wM
 |d::ds,_,n+1,q=>by
  obtain⟨v,r,rfl,_,l⟩:=q.uncons
  exact DenL.drop n l
theorem DenL.take: ∀{ds:List MV}{vs:List V}(n:Nat),DenL K α H ds vs->DenL K α H (ds.take n) (vs.take n)
 |_,_,0,q=>wM
 |[],_,n+1,q=>by rw [q.isnil];exact wM
 |d::ds,_,n+1,q=>by
  obtain⟨v,r,rfl,a,l⟩:=q.uncons
  exact xH a (DenL.take n l)
theorem DenL.set{d:MV}{v:V}(a:Den K α H d v): ∀{ds:List MV}{vs:List V}(n:Nat),DenL K α H ds vs->DenL K α H (ds.set n d) (vs.set n v)
 |[],_,_,q=>by rw [q.isnil];exact wM
 |e::ds,_,0,q=>by
  obtain⟨v',r,rfl,a',l⟩:=q.uncons
  exact xH a l
 |e::ds,_,n+1,q=>by
  obtain⟨v',r,rfl,a',l⟩:=q.uncons
  exact xH a' (DenL.set a n l)
theorem DenL.get: ∀{ds:List MV}{vs:List V}{i:Nat}{v:V},DenL K α H ds vs->vs[i]? =some v-> ∃d,ds[i]? =some d/\Den K α H d v
 |[],_,_,_,q,e=>by rw [q.isnil]at e;simp at e
 |d::ds,_,0,_,q,e=>by
  obtain⟨v,r,rfl,a,l⟩:=q.uncons
  simp at e;subst e
  exact⟨d,rfl,a⟩
 |d::ds,_,i+1,_,q,e=>by
  obtain⟨v,r,rfl,a,l⟩:=q.uncons
  obtain⟨d',h1,h2⟩:=DenL.get (i:=i) l (by simpa using e)
  exact⟨d',by simpa using h1,h2⟩
theorem DenL.at{ds:List MV}{vs:List V}{i:Nat}{d:MV}(q:DenL K α H ds vs)(e:ds[i]? =some d): ∃v,vs[i]? =some v/\Den K α H d v:=by
 have hi:i<ds.length:=(gS0.mp e).1
 have hv:i<vs.length:=by rw [q.length];exact hi
 obtain⟨d',h1,h2⟩:=q.get (gE0 hv)
 rw [e]at h1;cases h1
 exact⟨_,gE0 hv,h2⟩
theorem DenL.cut{ds:List MV}{vs:List V}(q:DenL K α H ds vs)(lo hi:Option Int):DenL K α H (cK ds lo hi) (zYB vs lo hi):=by
 unfold cK zYB
 rw [q.length]
 exact(q.drop _).take _
theorem zUO: ∀(ns:List Int),DenL K α H (ns.map MV.int) (ns.map V.int)
 |[]=>wM
 |b::bs=>xH (wD b) (zUO bs)
end
structure Gm where
 K:PySem.W.Frag
 mg:Str->Option Value
 P:Program
 w:World
abbrev _root_.L2.Cx.g(X:Cx):Gm:=⟨X.K,X.mg,X.prog,X.w⟩
inductive DenF(K:PySem.W.Frag)(α:List Addr)(H:Hp):List (Str×MV)->List (Str×V)->Prop
 |nil:DenF K α H [] []
 |cons {x:Str} {d:MV} {v:V} {fs gs}:Den K α H d v->DenF K α H fs gs->DenF K α H ((x,d)::fs) ((x,v)::gs)
theorem DenF.ex0{K:PySem.W.Frag}{α α':List Addr}{H H':Hp}(x:Ex0 α H α' H'): ∀{fs gs},DenF K α H fs gs->DenF K α' H' fs gs
 |_,_,.nil=>.nil
 |_,_,.cons a l=>.cons (a.ex0 x) (DenF.ex0 x l)
def KeyD:MV->Key->Prop
 |.int i,k=>k=.inl i
 |.str x,k=>k=.inr (mkS x)
 |_,_=>False
inductive DenK(K:PySem.W.Frag)(α:List Addr)(H:Hp):List (MV×MV)->List (Key×V)->Prop
 |nil:DenK K α H [] []
 |cons {k:MV} {k':Key} {d:MV} {v:V} {fs gs}:KeyD k k'->Den K α H d v->DenK K α H fs gs->DenK K α H ((k,d)::fs) ((k',v)::gs)
theorem DenK.ex0{K:PySem.W.Frag}{α α':List Addr}{H H':Hp}(x:Ex0 α H α' H'): ∀{fs gs},DenK K α H fs gs->DenK K α' H' fs gs
 |_,_,.nil=>.nil
 |_,_,.cons k a l=>.cons k (a.ex0 x) (DenK.ex0 x l)
mutual
def jQ:MV->Option NK
 |.int i=>some (.key (.inl i))
 |.str x=>some (.key (.inr (mkS x)))
 |.tup ds=>(bB ds).map .tup
 |_=>none
def bB:List MV->Option (List NK)
 |[]=>some []
 |d::ds=>(jQ d).bind λk=>(bB ds).map (k::·)
end
inductive DenN(K:PySem.W.Frag)(α:List Addr)(H:Hp):List (MV×MV)->List (NK×Addr×Value)->Prop
 |nil:DenN K α H [] []
 |cons {k:MV} {nk:NK} {a:Addr} {d:MV} {v:V} {u:Value} {fs xs}:jQ k=some nk->zDQ nk<=4->Den K α H k (.ref a)->Den K α H d v->RelV v u->DenN K α H fs xs->DenN K α H ((k,d)::fs) ((nk,a,u)::xs)
theorem DenN.ex0{K:PySem.W.Frag}{α α':List Addr}{H H':Hp}(x:Ex0 α H α' H'): ∀{fs xs},DenN K α H fs xs->DenN K α' H' fs xs
 |_,_,.nil=>.nil
 |_,_,.cons k e a d r l=>.cons k e (a.ex0 x) (d.ex0 x) r (DenN.ex0 x l)
def ObD(g:Gm)(α:List Addr)(H:Hp)(a:Addr):MO->Prop
 |.lst ds=> ∃vs,H a=some (.lst vs)/\DenL g.K α H ds vs
 |.dic kvs=>(∃ks,H a=some (.dK ks)/\DenK g.K α H kvs ks)\/ ∃xs,H a=some (DN g.P g.w a xs)/\DenN g.K α H kvs xs
 |.ins c fs=> ∃C gs,g.mg c=some (.ref C)/\DenF g.K α H fs gs/\
   ∃oe,H a=some (.ext λh=>h.get? a=some oe)/\oe.cls=.ref C/\(fs=[]\/ ∃dx od,oe.dict=some dx/\H dx=some (.frz od (.xd gs))/\ ∃vs,oe.data=.fields vs)
theorem ObD.there{g:Gm}{α:List Addr}{H:Hp}{a:Addr}{o:MO}(h:ObD g α H a o): ∃ho,H a=some ho/\(∀xs,ho≠.tup xs)/\ ∀ob u,ho≠.frz ob u:=by
 cases o with
 |lst ds=>obtain⟨vs,h,_⟩:=h;exact⟨_,h,(λxs z=>by cases z),λ_ _ z=>by cases z⟩
 |dic ds=>
  rcases h with⟨vs,h,_⟩|⟨vs,h,_⟩
  ·exact⟨_,h,(λxs z=>by cases z),λ_ _ z=>by cases z⟩
  ·exact⟨_,h,(λxs z=>by cases z),λ_ _ z=>by cases z⟩
 |ins c ds=>
  obtain⟨_,_,_,_,_,h,_⟩:=h
  exact⟨_,h,(λxs z=>by cases z),λ_ _ z=>by cases z⟩
theorem ObD.move{g:Gm}{α α':List Addr}{H H':Hp}{a:Addr}{o:MO}(h:ObD g α H a o)(x:Ex0 α H α' H')(e:H' a=H a):ObD g α' H' a o:=by
 cases o with
 |lst ds=>obtain⟨vs,h,l⟩:=h;exact⟨vs,e.trans h,l.ex0 x⟩
 |dic ds=>
  rcases h with⟨vs,h,l⟩|⟨vs,h,l⟩
  ·exact .inl ⟨vs,e.trans h,l.ex0 x⟩
  ·exact .inr ⟨vs,e.trans h,l.ex0 x⟩
 |ins c ds=>
  obtain⟨C,gs,m,l,oe,h,hc,hf⟩:=h
  exact⟨C,gs,m,l.ex0 x,oe,e.trans h,hc,hf.imp id λ⟨dx,od,h1,h2,h3⟩=>⟨dx,od,h1,x.frz _ _ _ h2,h3⟩⟩
structure Wd(g:Gm)(α:List Addr)(S:Sto)(H:Hp):Prop where
 len:α.length=S.length
 nd:α.Nodup
 obj: ∀(l:Nat)(a:Addr)(o:MO),α[l]? =some a->S[l]? =some o->ObD g α H a o
section
variable{g:Gm}{α α':List Addr}{S S':Sto}{H H':Hp}
theorem Wd.of(w:Wd g α S H){l:Nat}{a:Addr}(h:α[l]? =some a): ∃o,S[l]? =some o/\ObD g α H a o:=by
 have hl:l<S.length:=by rw [<-w.len];exact(gS0.mp h).1
 exact⟨S[l],gE0 hl,w.obj l a _ h (gE0 hl)⟩
theorem Wd.mem(w:Wd g α S H){a:Addr}(h:a∈α): ∃ho,H a=some ho/\(∀xs,ho≠.tup xs)/\ ∀ob u,ho≠.frz ob u:=by
 obtain⟨l,hl⟩:=List.getElem?_of_mem h
 obtain⟨o,_,q⟩:=w.of hl
 exact q.there
theorem Wd.newx(w:Wd g α S H){p:Addr}{o:HO}(hp:H p=none):Ext α H α (upd H p o) where
 pre:=⟨[],by simp⟩
 new:=λb h=>.inl h
 keep:=λb o h _=>by rw [zQ (yM h hp)];exact h
 has:=λb o h=>⟨o,by rw [zQ (yM h hp)];exact h⟩
 tup:=λb o h=>by rw [zQ (yM h hp)];exact h
 frz:=λb o u h=>by rw [zQ (yM h hp)];exact h
theorem Wd.fresh(w:Wd g α S H){p:Addr}(hp:H p=none):p∉α:=λz=>by
 obtain⟨_,h,_⟩:=w.mem z;rw [hp]at h;cases h
theorem Wd.new(w:Wd g α S H){p:Addr}{o:HO}(hp:H p=none):Wd g α S (upd H p o):=
 ⟨w.len,w.nd,λl a ob h1 h2=>(w.obj l a ob h1 h2).move (w.newx hp).toEx0 (zQ λz=>w.fresh hp (by rw [<-z];exact mem_of_getElem? h1))⟩
theorem Wd.writex(w:Wd g α S H){l:Nat}{a:Addr}{o:HO}(h:α[l]? =some a):Ext α H α (upd H a o) where
 pre:=⟨[],by simp⟩
 new:=λb h=>.inl h
 keep:=λb o e n=>by rw [zQ λz=>n (by rw [z];exact mem_of_getElem? h)];exact e
 has:=λb o e=>by
  by_cases z:b=a
  ·subst z;exact⟨_,yB⟩
  ·exact⟨o,by rw [zQ z];exact e⟩
 tup:=λb xs e=>by
  obtain⟨ho,h1,h2,_⟩:=w.mem (mem_of_getElem? h)
  rw [zQ λz=>h2 xs (by subst z;rw [e]at h1;exact(Option.some.inj h1).symm)];exact e
 frz:=λb ob u e=>by
  obtain⟨ho,h1,_,h2⟩:=w.mem (mem_of_getElem? h)
  rw [zQ λz=>h2 ob u (by subst z;rw [e]at h1;exact(Option.some.inj h1).symm)];exact e
theorem Wd.ne(w:Wd g α S H){l m:Nat}{a b:Addr}(h:α[l]? =some a)(h':α[m]? =some b)(n:l≠m):a≠b:=by
 rintro rfl
 obtain⟨h1,e1⟩:=gS0.mp h
 obtain⟨h2,e2⟩:=gS0.mp h'
 exact n ((getElem_inj w.nd).mp (e1.trans e2.symm))
theorem Wd.write(w:Wd g α S H){l:Nat}{a:Addr}{o:HO}{ob:MO}(h:α[l]? =some a)(q:ObD g α (upd H a o) a ob):Wd g α (S.set l ob) (upd H a o) where
 len:=by rw [length_set];exact w.len
 nd:=w.nd
 obj:=λm b ob' h1 h2=>by
  by_cases e:l=m
  ·subst e
   rw [h]at h1
   have hl:l<S.length:=by rw [<-w.len];exact(gS0.mp h).1
   rw [getElem?_set_self hl]at h2
   rw [<-Option.some.inj h1, <-Option.some.inj h2]
   exact q
  ·rw [getElem?_set_ne e]at h2
   exact(w.obj m b ob' h1 h2).move (w.writex h).toEx0 (zQ (w.ne h1 h λz=>e z.symm))
theorem Wd.enterx(w:Wd g α S H){H0:Hp}{α0:List Addr}(x:Ext α0 H0 α H){b:Addr}(h0:H0 b=none)(n:b∉α):Ext α0 H0 (α++[b]) H where
 pre:=let ⟨t,e⟩:=x.pre;⟨t++[b],by rw [e,aA]⟩
 new:=λc hc=>(mem_append.mp hc).elim (x.new c) λz=>.inr (by rw [mS.mp z];exact h0)
 keep:=x.keep
 has:=x.has
 tup:=x.tup
 frz:=x.frz
theorem Wd.enter(w:Wd g α S H){b:Addr}{ds:List MV}{vs:List V}(h:H b=some (.lst vs))(n:b∉α)(l:DenL g.K α H ds vs):Wd g (α++[b]) (S++[.lst ds]) H where
 len:=by rw [lA,lA,w.len];rfl
 nd:=nodup_append.mpr ⟨w.nd,by simp,λa ha c hc=>by rw [mS.mp hc];rintro rfl;exact n ha⟩
 obj:=λm a o h1 h2=>by
  by_cases hm:m<α.length
  ·rw [getElem?_append_left hm]at h1
   rw [getElem?_append_left (by rw [<-w.len];exact hm)]at h2
   exact(w.obj m a o h1 h2).move (Ex0.grow α [b] H) rfl
  ·have hm':m=α.length:=by
    have:=(gS0.mp h1).1
    rw [lA,lS]at this
    omega
   subst hm'
   rw [getElem?_append_right (le_refl _),sub_self]at h1
   rw [getElem?_append_right (by rw [w.len];exact le_refl _),w.len,sub_self]at h2
   cases h1;cases h2
   exact⟨vs,h,l.ex0 (Ex0.grow α [b] H)⟩
end
inductive R(β:Type) where
 |ok (b:β) (S:Sto)|exc (c:Str) (fs:List (Str×MV)) (S:Sto)|no
def R.bind{β γ:Type}:R β->(β->Sto->R γ)->R γ
 |.ok b S,k=>k b S
 |.exc c fs S,_=>.exc c fs S
 |.no,_=>.no
theorem R.bind_ok{β γ:Type}(b:β)(S:Sto)(k:β->Sto->R γ):(R.ok b S).bind k=k b S:=rfl
inductive Er where
 |val (d:MV)|new (ds:List MV)
instance:Inhabited Er:=⟨.val .non⟩
def DenX(K:PySem.W.Frag)(α:List Addr)(H:Hp):Er->V->Prop
 |.val d,v=>Den K α H d v
 |.new ds,v=> ∃b vs,v=.ref b/\H b=some (.lst vs)/\b∉α/\DenL K α H ds vs
def DenE(K:PySem.W.Frag)(H:Hp)(α':List Addr)(H':Hp)(r:Er)(v:V):Prop:=DenX K α' H' r v/\match r with |.new _=> ∀a,v=.ref a->H a=none|_=>True
section
variable{K:PySem.W.Frag}{α α':List Addr}{H H0 H':Hp}
theorem DenX.ext(x:Ext α H α' H'): ∀{r:Er}{v:V},DenX K α H r v->DenX K α' H' r v
 |.val d,_,q=>Den.ext x q
 |.new ds,_,⟨b,vs,e,h,n,l⟩=>⟨b,vs,e,x.keep b _ h n,x.out h n,l.ext x⟩
theorem DenE.val{d:MV}{v:V}(q:Den K α' H' d v):DenE K H α' H' (.val d) v:=⟨q,trivial⟩
theorem DenE.back(hf: ∀b,H b=none->H0 b=none){r:Er}{v:V}(q:DenE K H α' H' r v):DenE K H0 α' H' r v:=by
 refine⟨q.1,?_⟩
 cases r with
 |new ds=>exact λa e=>hf a (q.2 a e)
 |_=>trivial
theorem DenE.ext{α'':List Addr}{H'':Hp}(x:Ext α' H' α'' H''){r:Er}{v:V}(q:DenE K H α' H' r v):DenE K H α'' H'' r v:=⟨q.1.ext x,q.2⟩
end
section
variable{K:PySem.W.Frag}{α:List Addr}{H:Hp}{v:V}
theorem zOH(d:DenX K α H (.val .non) v):v=.non:=zBZ (K:=K) (α:=α) (H:=H) d
theorem zIW{b:Bool}(d:DenX K α H (.val (.bl b)) v):v=.bl b:=zFV (K:=K) (α:=α) (H:=H) d
theorem xN{b:Int}(d:DenX K α H (.val (.int b)) v):v=.int b:=gV (K:=K) (α:=α) (H:=H) d
theorem jX{b:List Nat}(d:DenX K α H (.val (.str b)) v):v=.str (mkS b):=bW (K:=K) (α:=α) (H:=H) d
theorem yIS{b:String}(d:DenX K α H (.val (.typ b)) v):v=.ty b:=zCA (K:=K) (α:=α) (H:=H) d
theorem dU{ds:List MV}(d:DenX K α H (.val (.tup ds)) v): ∃a vs,v=.ref a/\SqT K H a vs/\DenL K α H ds vs:=jW (K:=K) (α:=α) (H:=H) d
theorem zRX{ds:List MV}(d:DenX K α H (.val (.scr ds)) v): ∃a vs,v=.ref a/\SqF K H a vs/\DenL K α H ds vs:=zAP (K:=K) (α:=α) (H:=H) d
theorem zCB{l:Nat}(d:DenX K α H (.val (.loc l)) v): ∃a,v=.ref a/\α[l]? =some a:=dS (K:=K) (α:=α) (H:=H) d
end
def zLE:List Er->List V->List Addr
 |.new _::rs,.ref b::vs=>b::zLE rs vs
 |_::rs,_::vs=>zLE rs vs
 |_,_=>[]
inductive ArgsE(K:PySem.W.Frag)(H:Hp)(α':List Addr)(H':Hp):List Er->List V->Prop
 |nil:ArgsE K H α' H' [] []
 |cons {r v rs vs}:DenE K H α' H' r v->(∀ds b,r=.new ds->v=.ref b->b∉zLE rs vs)->ArgsE K H α' H' rs vs->ArgsE K H α' H' (r::rs) (v::vs)
theorem ArgsE.nones{K:PySem.W.Frag}{H:Hp}{α':List Addr}{H':Hp}: ∀{rs vs},ArgsE K H α' H' rs vs-> ∀b∈zLE rs vs,H b=none
 |_,_,.nil=>λb h=>by simp [zLE]at h
 |.val d::_,v::_,.cons a n l=>λb h=>ArgsE.nones l b (by simpa [zLE]using h)
 |.new ds::_,v::_,.cons a n l=>λb h=>by
  obtain⟨c,vs,rfl,_⟩:=a.1
  rcases mC.mp (show b∈c::zLE _ _ from h)with rfl|h
  ·exact a.2 _ rfl
  ·exact ArgsE.nones l b h
theorem ArgsE.back{K:PySem.W.Frag}{H H0:Hp}{α':List Addr}{H':Hp}(hf: ∀b,H b=none->H0 b=none): ∀{rs vs},ArgsE K H α' H' rs vs->ArgsE K H0 α' H' rs vs
 |_,_,.nil=>.nil
 |_,_,.cons a n l=>.cons (a.back hf) n (ArgsE.back hf l)
theorem ArgsE.length{K:PySem.W.Frag}{H:Hp}{α':List Addr}{H':Hp}: ∀{rs vs},ArgsE K H α' H' rs vs->vs.length=rs.length
 |_,_,.nil=>rfl
 |_,_,.cons _ _ l=>by rw [lC0,lC0,ArgsE.length l]
class Dn (β:Type) (τ:outParam Type) where
 d:Gm->Hp->List Addr->Sto->Hp->β->τ->Prop
 back: ∀{g:Gm}{H H0:Hp}{α':List Addr}{S':Sto}{H':Hp}{b:β}{u:τ},(∀b,H b=none->H0 b=none)->d g H α' S' H' b u->d g H0 α' S' H' b u
instance:Dn Er V:=⟨λg H α' _ H' r v=>DenE g.K H α' H' r v,λhf q=>q.back hf⟩
instance:Dn Bool Bool:=⟨λ_ _ _ _ _ b u=>u=b,λ_ q=>q⟩
instance:Dn (List Er) (List V):=⟨λg H α' _ H' r v=>ArgsE g.K H α' H' r v,λhf q=>q.back hf⟩
instance:Dn (Option Int) (Option Int):=⟨λ_ _ _ _ _ b u=>u=b,λ_ q=>q⟩
abbrev XW:=Str->List (Str×MV)->Sto->List Addr->Hp->Prop
abbrev W0:XW:=λ_ _ _ _ _=>False
def Post{β τ:Type}[Dn β τ](g:Gm)(W:XW)(α:List Addr)(H:Hp):R β->(τ->Hp->Prop)->Prop
 |.ok b S,Q=> ∀u α' H',Ext α H α' H'->Wd g α' S H'->Dn.d g H α' S H' b u->Q u H'
 |.exc c fs S,_=> ∀α' H',Ext α H α' H'->Wd g α' S H'->W c fs S α' H'
 |.no,_=>False
section
variable{β τ γ υ:Type}[Dn β τ][Dn γ υ]{g:Gm}{W:XW}{α α':List Addr}{H H':Hp}
theorem Post.shift(x:Ext α H α' H'): ∀{m:R β}{Q:τ->Hp->Prop},Post g W α H m Q->Post g W α' H' m Q
 |.ok b S,Q,q=>λu α2 H2 x2 w2 d2=>q u α2 H2 (x.trans x2) w2 (Dn.back (λb h=>x.free h) d2)
 |.exc c fs S,_,q=>λα2 H2 x2 w2=>q α2 H2 (x.trans x2) w2
 |.no,_,q=>q
theorem Post.bind{m:R β}{k:β->Sto->R γ}{Q:υ->Hp->Prop}{Q':τ->Hp->Prop}(q:Post g W α H (m.bind k) Q)
  (f: ∀u b S1 α1 H1,m=.ok b S1->Ext α H α1 H1->Wd g α1 S1 H1->Dn.d g H α1 S1 H1 b u->Post g W α H (k b S1) Q->Q' u H1):Post g W α H m Q':=by
 cases m with
 |ok b S=>exact λu α1 H1 x w d=>f u b S α1 H1 rfl x w d q
 |exc c fs S=>exact q
 |no=>exact q
theorem Post.here{b:β}{S:Sto}{Q:τ->Hp->Prop}{u:τ}(q:Post g W α H (.ok b S) Q)(w:Wd g α S H)(d:Dn.d g H α S H b u):Q u H:=q u α H (Ext.refl α H) w d
end
theorem Post.val{g:Gm}{W:XW}{α:List Addr}{H:Hp}{d:MV}{S:Sto}{Q:VK}{v:V}(q:Post g W α H (.ok (Er.val d) S) Q)(w:Wd g α S H)(k:Den g.K α H d v):Q v H:=q.here w (DenE.val k)
theorem Post.newl{g:Gm}{W:XW}{α:List Addr}{H:Hp}{ds:List MV}{S:Sto}{Q:VK}{vs:List V}{p:Addr}(q:Post g W α H (.ok (Er.new ds) S) Q)(w:Wd g α S H)(hp:H p=none)(l:DenL g.K α H ds vs):Q (.ref p) (upd H p (.lst vs)):=
 q (.ref p) α _ (w.newx hp) (w.new hp) ⟨⟨p,vs,rfl,yB,w.fresh hp,l.ext (w.newx hp)⟩,λa e=>by cases e;exact hp⟩
theorem Post.newt{g:Gm}{W:XW}{α:List Addr}{H:Hp}{ds:List MV}{S:Sto}{Q:VK}{vs:List V}{p:Addr}(q:Post g W α H (.ok (Er.val (.tup ds)) S) Q)(w:Wd g α S H)(hp:H p=none)(l:DenL g.K α H ds vs):Q (.ref p) (upd H p (.tup vs)):=
 q (.ref p) α _ (w.newx hp) (w.new hp) (.val (nV (.of yB) (l.ext (w.newx hp))))
abbrev Rho:=List (Option MV)
structure Slots(K:PySem.W.Frag)(α:List Addr)(H:Hp)(ρ:Rho)(σ:St):Prop where
 len:σ.length=ρ.length
 slot: ∀(i:Nat)(d:MV),ρ[i]? =some (some d)-> ∃v,σ[i]? =some (some v)/\Den K α H d v
section
variable{K:PySem.W.Frag}{α α':List Addr}{H H':Hp}{ρ:Rho}{σ:St}
theorem Slots.ex0(q:Slots K α H ρ σ)(x:Ex0 α H α' H'):Slots K α' H' ρ σ:=⟨q.len,λi d e=>let ⟨v,h1,h2⟩:=q.slot i d e;⟨v,h1,h2.ex0 x⟩⟩
theorem Slots.ext(q:Slots K α H ρ σ)(x:Ext α H α' H'):Slots K α' H' ρ σ:=q.ex0 x.toEx0
theorem yDQ{α:Type}{l:List α}{i j:Nat}{x y:α}(h:(l.set i x)[j]? =some y):(j=i/\y=x/\i<l.length)\/(j≠i/\l[j]? =some y):=by
 by_cases hj:i=j
 ·subst hj
  by_cases hl:i<l.length
  ·rw [getElem?_set_self hl]at h
   exact .inl ⟨rfl,(Option.some.inj h).symm,hl⟩
  ·rw [List.getElem?_eq_none (by rw [length_set];omega)]at h;cases h
 ·rw [getElem?_set_ne hj]at h
  exact .inr ⟨λz=>hj z.symm,h⟩
theorem Slots.set(q:Slots K α H ρ σ){i:Nat}{d:MV}{v:V}(h:Den K α H d v):Slots K α H (ρ.set i (some d)) (σ.set i (some v)):=by
 refine⟨by rw [length_set,length_set];exact q.len,λj e z=>?_⟩
 rcases yDQ z with⟨rfl,e',hl⟩|⟨hj,e'⟩
 ·cases e'
  exact⟨v,by rw [getElem?_set_self (by rw [q.len];exact hl)],h⟩
 ·obtain⟨u,h1,h2⟩:=q.slot j e e'
  exact⟨u,by rw [getElem?_set_ne (Ne.symm hj)];exact h1,h2⟩
end
def Jd(X:Cx)(W:XW){β τ:Type}[Dn β τ](P:(St->Hp->(τ->Hp->Prop)->Prop)->Prop)(f:Rho->Sto->R β):Prop:=
 ∃t,P t/\ ∀α ρ S σ H Q,Wd X.g α S H->Slots X.K α H ρ σ->Post X.g W α H (f ρ S) Q->t σ H Q
abbrev PEm(X:Cx)(W:XW)(e:Expr)(f:Rho->Sto->R Er):Prop:=Jd X W (PE X e) f
abbrev PTm(X:Cx)(W:XW)(e:Expr)(f:Rho->Sto->R Bool):Prop:=Jd X W (PT X e) f
abbrev PWm(X:Cx)(W:XW)(e:Expr)(f:Rho->Sto->R Bool):Prop:=Jd X W (PW X e) f
abbrev PAm(X:Cx)(W:XW)(es:List Expr)(f:Rho->Sto->R (List Er)):Prop:=Jd X W (PA X es) f
abbrev POm(X:Cx)(W:XW)(e:Option Expr)(f:Rho->Sto->R (Option Int)):Prop:=Jd X W (PO X e) f
section
variable{X:Cx}{W:XW}{a b c e:Expr}{es:List Expr}{f g h:Rho->Sto->R Er}{tf tg:Rho->Sto->R Bool}{af:Rho->Sto->R (List Er)}{pos:Pos}
def rdSl:Option (Option MV)->Sto->R Er
 |some (some d),S=>.ok (.val d) S
 |_,_=>.no
theorem zB(i:Nat){x:Str}(hN:X.N[i]? =some x:=by rfl)(hv:Vis X.env.scope x:=by first |exact Or.inl rfl|exact Or.inr (Or.inl rfl)|exact Or.inr (Or.inr rfl))(hd:(x==("__debug__":Str))=false:=by decide)
  (hcd:(x==("__classdict__":Str))=false:=by decide):PEm X W (.Name x pos) (λρ S=>rdSl (ρ[i]?) S):=by
 refine⟨_,pv i hN hv hd hcd,λα ρ S σ H Q wd sl q=>?_⟩
 dsimp only at q
 cases z:ρ[i]? with
 |none=>rw [z]at q;exact q.elim
 |some o=>
  cases o with
  |none=>rw [z]at q;exact q.elim
  |some d=>
   rw [z]at q
   obtain⟨v,h1,h2⟩:=sl.slot i d z
   exact⟨v,h1,Post.val q wd h2⟩
theorem zC{i:Int}{j:Nat}:PEm X W (.Constant (.int i) j pos) (λ_ S=>.ok (.val (.int i)) S):=⟨_,yHT,λα ρ S σ H Q wd sl q=>Post.val q wd (wD i)⟩
theorem zBJ{i:Bool}{j:Nat}:PEm X W (.Constant (.bool i) j pos) (λ_ S=>.ok (.val (.bl i)) S):=⟨_,pe_bl,λα ρ S σ H Q wd sl q=>Post.val q wd (wL i)⟩
theorem yBF{j:Nat}:PEm X W (.Constant .none j pos) (λ_ S=>.ok (.val .non) S):=⟨_,yQE,λα ρ S σ H Q wd sl q=>Post.val q wd zBN⟩
theorem wE{x:Str}{j:Nat}(cs:List Nat)(hx:x=mkS cs:=by rfl):PEm X W (.Constant (.str x) j pos) (λ_ S=>.ok (.val (.str cs)) S):=
 ⟨_,yHU,λα ρ S σ H Q wd sl q=>Post.val q wd (by rw [hx];exact zBO cs)⟩
theorem zGT{x:Str}{i:Int}{t:Tok}(hg:Gl X x)(hm:X.mg x=some (.int i t))(hd:(x==("__debug__":Str))=false:=by decide):PEm X W (.Name x pos) (λ_ S=>.ok (.val (.int i)) S):=
 ⟨_,zVK (v:=.int i) hg hm ⟨t,rfl⟩ hd,λα ρ S σ H Q wd sl q=>Post.val q wd (wD i)⟩
theorem zCC{x:Str}{T:String}(hg:Gl X x)(hm:X.mg x=none)(hv:bootBuiltins x=some (.type T))(hn:x≠"__name__":=by decide)(hd:(x==("__debug__":Str))=false:=by decide):PEm X W (.Name x pos) (λ_ S=>.ok (.val (.typ T)) S):=
 ⟨_,yDF (v:=.ty T) hg hm hv rfl hn hd,λα ρ S σ H Q wd sl q=>Post.val q wd (yDO T)⟩
theorem yRM{i:Int}{j:Nat}{p3:Pos}:PEm X W (.UnaryOp .USub (.Constant (.int i) j p3) pos) (λ_ S=>.ok (.val (.int (-i))) S):=
 ⟨_,pe_un yQU yHT,λα ρ S σ H Q wd sl q=>⟨i,rfl,Post.val q wd (wD (-i))⟩⟩
def Op2(X:Cx)(W:XW)(r:R2)(F:Er->Er->Sto->R Er):Prop:= ∀p q x y α S H Q,Wd X.g α S H->DenX X.K α H p x->DenX X.K α H q y->Post X.g W α H (F p q S) Q->r x y H Q
theorem two{r:R2}{F:Er->Er->Sto->R Er}(hF:Op2 X W r F){ta tb:TE}(fa: ∀α ρ S σ H Q,Wd X.g α S H->Slots X.K α H ρ σ->Post X.g W α H (f ρ S) Q->ta σ H Q)
  (fb: ∀α ρ S σ H Q,Wd X.g α S H->Slots X.K α H ρ σ->Post X.g W α H (g ρ S) Q->tb σ H Q) {α:List Addr} {ρ:Rho} {S:Sto} {σ:St} {H:Hp} {Q:VK} (wd:Wd X.g α S H) (sl:Slots X.K α H ρ σ)
  (q:Post X.g W α H ((f ρ S).bind λp S1=>(g ρ S1).bind λq S2=>F p q S2) Q):ta σ H λx H1=>tb σ H1 λy H2=>r x y H2 Q:=
 fa α ρ S σ H _ wd sl (q.bind λu p S1 α1 H1 e1 x1 w1 d1 q1=>fb α1 ρ S1 σ H1 _ w1 (sl.ext x1) ((q1.shift x1).bind λu2 p2 S2 α2 H2 e2 x2 w2 d2 q2=>
  hF p p2 u u2 α2 S2 H2 Q w2 (d1.1.ext x2) d2.1 (q2.shift x2)))
theorem zPQ{op:Operator}{r:R2}{F:Er->Er->Sto->R Er}(ho:OpR X (binaryOp op) r)(hF:Op2 X W r F)(ha:PEm X W a f)(hb:PEm X W b g):PEm X W (.BinOp a op b pos) (λρ S=>(f ρ S).bind λp S1=>(g ρ S1).bind λq S2=>F p q S2):=by
 obtain⟨ta,ha,fa⟩:=ha
 obtain⟨tb,hb,fb⟩:=hb
 exact⟨_,pe_op ho ha hb,λα ρ S σ H Q wd sl q=>two hF fa fb wd sl q⟩
theorem zVX{op:CmpOp}{r:R2}{F:Er->Er->Sto->R Er}(ho:OpR X (compareOp op) r)(hF:Op2 X W r F)(ha:PEm X W a f)(hb:PEm X W b g)(hm:behindInMarks op b=false:=by first |exact yIB _|with_unfolding_all rfl):
  PEm X W (.Compare a [op] [b] pos) (λρ S=>(f ρ S).bind λp S1=>(g ρ S1).bind λq S2=>F p q S2):=by
 obtain⟨ta,ha,fa⟩:=ha
 obtain⟨tb,hb,fb⟩:=hb
 exact⟨_,yME ho ha hb hm,λα ρ S σ H Q wd sl q=>two hF fa fb wd sl q⟩
theorem pm_ix{r:R2}{F:Er->Er->Sto->R Er}(ho:IxR X r)(hF:Op2 X W r F)(ha:PEm X W a f)(hb:PEm X W b g)(hs:zVO b:=by exact λ_ _=>rfl):
  PEm X W (.Subscript a b pos) (λρ S=>(f ρ S).bind λp S1=>(g ρ S1).bind λq S2=>F p q S2):=by
 obtain⟨ta,ha,fa⟩:=ha
 obtain⟨tb,hb,fb⟩:=hb
 exact⟨_,pe_ix ho ha hb hs,λα ρ S σ H Q wd sl q=>two hF fa fb wd sl q⟩
def asB:Er->Sto->R Bool
 |.val (.bl b),S=>.ok b S
 |_,_=>.no
theorem zYO{p:Er}{S:Sto}{α:List Addr}{H:Hp}{Q:Bool->Hp->Prop}(q:Post X.g W α H (asB p S) Q): ∃k,p=.val (.bl k)/\Post X.g W α H (.ok k S) Q:=by
 unfold asB at q
 split at q
 ·exact⟨_,rfl,q⟩
 ·exact q.elim
theorem zMY{β τ:Type}[Dn β τ]{p:Er}{S:Sto}{α:List Addr}{H:Hp}{k:Bool->Sto->R β}{Q:τ->Hp->Prop}(q:Post X.g W α H ((asB p S).bind k) Q): ∃c,p=.val (.bl c)/\Post X.g W α H (k c S) Q:=by
 unfold asB at q
 split at q
 ·exact⟨_,rfl,q⟩
 ·exact q.elim
theorem zLS{op:CmpOp}{r:R2}{F:Er->Er->Sto->R Er}(ho:OpR X (compareOp op) r)(hF:Op2 X W r F)(ha:PEm X W a f)(hb:PEm X W b g)(hm:behindInMarks op b=false:=by first |exact yIB _|with_unfolding_all rfl):
  PTm X W (.Compare a [op] [b] pos) (λρ S=>((f ρ S).bind λp S1=>(g ρ S1).bind λq S2=>F p q S2).bind asB):=by
 obtain⟨ta,ha,fa⟩:=ha
 obtain⟨tb,hb,fb⟩:=hb
 refine⟨_,yMF ho ha hb hm,λα ρ S σ H Q wd sl q=>?_⟩
 refine two hF fa fb wd sl (Q:=λx H'=> ∃k,x=.bl k/\Q k H') (q.bind λu p S1 α1 H1 e1 x1 w1 d1 q1=>?_)
 obtain⟨k,rfl,q2⟩:=zYO (q1.shift x1)
 exact⟨k,zIW d1.1,q2.here w1 rfl⟩
def chF(F G:Er->Er->Sto->R Er)(p q:Er)(S:Sto)(k:Sto->R Er):R Er:=(F p q S).bind λz S1=>(asB z S1).bind λc S2=>if c=true then(k S2).bind λr S3=>G q r S3 else .ok (.val (.bl false)) S2
theorem chain{r r':R2}{F G:Er->Er->Sto->R Er}(hF:Op2 X W r F)(hG:Op2 X W r' G){ta tb tc:TE}(fa: ∀α ρ S σ H Q,Wd X.g α S H->Slots X.K α H ρ σ->Post X.g W α H (f ρ S) Q->ta σ H Q)
  (fb: ∀α ρ S σ H Q,Wd X.g α S H->Slots X.K α H ρ σ->Post X.g W α H (g ρ S) Q->tb σ H Q) (fc: ∀α ρ S σ H Q,Wd X.g α S H->Slots X.K α H ρ σ->Post X.g W α H (h ρ S) Q->tc σ H Q) {α:List Addr} {ρ:Rho} {S:Sto} {σ:St} {H:Hp} {Q:VK} (wd:Wd X.g α S H) (sl:Slots X.K α H ρ σ)
  (q:Post X.g W α H ((f ρ S).bind λp S1=>(g ρ S1).bind λq S2=>chF F G p q S2 λS3=>h ρ S3) Q):yAR r r' ta tb tc σ H Q:=
 fa α ρ S σ H _ wd sl (q.bind λu p S1 α1 H1 e1 x1 w1 d1 q1=>fb α1 ρ S1 σ H1 _ w1 (sl.ext x1) ((q1.shift x1).bind λu2 p2 S2 α2 H2 e2 x2 w2 d2 q2=>by
  refine hF p p2 u u2 α2 S2 H2 _ w2 (d1.1.ext x2) d2.1 (Post.bind (q2.shift x2) λu3 p3 S3 α3 H3 e3 x3 w3 d3 q3=>?_)
  obtain⟨k,rfl,q4⟩:=zMY (q3.shift x3)
  refine⟨k,zIW d3.1,?_⟩
  cases k with
  |true=>
   rw [iP rfl]at q4 ⊢
   exact fc α3 ρ S3 σ H3 _ w3 (((sl.ext x1).ext x2).ext x3) (q4.bind λu5 p5 S5 α5 H5 e5 x5 w5 d5 q5=>hG p2 p5 u2 u5 α5 S5 H5 Q w5 ((d2.1.ext x3).ext x5) d5.1 (q5.shift x5))
  |false=>
   rw [iN0 xF0]at q4 ⊢
   exact Post.val q4 w3 (wL false)))
theorem zYP{op op':CmpOp}{r r':R2}{F G:Er->Er->Sto->R Er}(ho:OpR X (compareOp op) r)(ho':OpR X (compareOp op') r')(hF:Op2 X W r F)(hG:Op2 X W r' G)(ha:PEm X W a f)(hb:PEm X W b g)(hc:PEm X W c h)
  (hm:lastMarks [op,op'] [b,c]=false:=by with_unfolding_all rfl):
  PEm X W (.Compare a [op,op'] [b,c] pos) (λρ S=>(f ρ S).bind λp S1=>(g ρ S1).bind λq S2=>chF F G p q S2 λS3=>h ρ S3):=by
 obtain⟨ta,ha,fa⟩:=ha
 obtain⟨tb,hb,fb⟩:=hb
 obtain⟨tc,hc,fc⟩:=hc
 exact⟨_,yIC ho ho' ha hb hc hm,λα ρ S σ H Q wd sl q=>chain hF hG fa fb fc wd sl q⟩
theorem yIT{op op':CmpOp}{r r':R2}{F G:Er->Er->Sto->R Er}(ho:OpR X (compareOp op) r)(ho':OpR X (compareOp op') r')(hF:Op2 X W r F)(hG:Op2 X W r' G)(ha:PEm X W a f)(hb:PEm X W b g)(hc:PEm X W c h)
  (hm:lastMarks [op,op'] [b,c]=false:=by with_unfolding_all rfl):
  PTm X W (.Compare a [op,op'] [b,c] pos) (λρ S=>((f ρ S).bind λp S1=>(g ρ S1).bind λq S2=>chF F G p q S2 λS3=>h ρ S3).bind asB):=by
 obtain⟨ta,ha,fa⟩:=ha
 obtain⟨tb,hb,fb⟩:=hb
 obtain⟨tc,hc,fc⟩:=hc
 refine⟨_,yID ho ho' ha hb hc hm,λα ρ S σ H Q wd sl q=>?_⟩
 refine chain hF hG fa fb fc wd sl (Q:=λx H'=> ∃k,x=.bl k/\Q k H') (q.bind λu p S1 α1 H1 e1 x1 w1 d1 q1=>?_)
 obtain⟨k,rfl,q2⟩:=zYO (q1.shift x1)
 exact⟨k,zIW d1.1,q2.here w1 rfl⟩
def dW:Er->Sto->R Bool
 |.val .non,S=>.ok false S
 |.val (.bl b),S=>.ok b S
 |.val (.int i),S=>.ok (i !=0) S
 |.val (.str x),S=>if x.length<=sizeLine then .ok (!x.isEmpty) S else .no
 |.val (.tup ds),S=>.ok (!ds.isEmpty) S
 |.val (.scr ds),S=>.ok (!ds.isEmpty) S
 |.val (.loc l),S=>match S[l]? with
  |some (.lst ds)=>.ok (!ds.isEmpty) S
  |_=>.no
 |.val (.typ _),_=>.no
 |.new ds,S=>.ok (!ds.isEmpty) S
theorem zKP{ds:List MV}{vs:List V}{K:PySem.W.Frag}{α:List Addr}{H:Hp}(l:DenL K α H ds vs):(!vs.isEmpty)= !ds.isEmpty:=by
 have:=l.length
 cases ds<;>cases vs<;>simp_all
theorem yIU{p:Er}{x:V}{S:Sto}{α:List Addr}{H:Hp}{Q:Bool->Hp->Prop}(wd:Wd X.g α S H)(d:DenX X.K α H p x)(q:Post X.g W α H (dW p S) Q): ∃k,TruV X.K x H k/\Q k H:=by
 match p,d,q with
 |.val .non,d,q=>cases zOH d;exact⟨_,rfl,q.here wd rfl⟩
 |.val (.bl b),d,q=>cases zIW d;exact⟨_,rfl,q.here wd rfl⟩
 |.val (.int i),d,q=>cases xN d;exact⟨_,rfl,q.here wd rfl⟩
 |.val (.typ n),d,q=>exact q.elim
 |.val (.str z),d,q=>
  cases jX d
  have q':Post X.g W α H (if z.length<=sizeLine then R.ok (!z.isEmpty) S else R.no) Q:=q
  split at q'
  ·rename_i hz
   refine⟨_,⟨by rw [bP];exact hz,?_⟩,q'.here wd rfl⟩
   rw [bP]
   cases z with
   |nil=>rfl
   |cons c r=>
    have h0:((r.length:Int)+1)≠0:=by omega
    simp [h0]
  ·exact q'.elim
 |.val (.tup ds),d,q=>
  obtain⟨a,vs,rfl,s,l⟩:=dU d
  exact⟨_,.inr (.inl ⟨vs,s,(zKP l).symm⟩),q.here wd rfl⟩
 |.val (.scr ds),d,q=>
  obtain⟨a,vs,rfl,s,l⟩:=zRX d
  exact⟨_,.inl ⟨vs,s.l,(zKP l).symm⟩,q.here wd rfl⟩
 |.val (.loc n),d,q=>
  obtain⟨a,rfl,h⟩:=zCB d
  obtain⟨o,h1,h2⟩:=wd.of h
  have q':Post X.g W α H (match S[n]? with |some (.lst ds)=>R.ok (!ds.isEmpty) S|_=>R.no) Q:=q
  rw [h1]at q'
  cases o with
  |lst ds=>
   obtain⟨vs,h3,l⟩:=h2
   exact⟨_,.inl ⟨vs,.of h3,(zKP l).symm⟩,q'.here wd rfl⟩
  |dic ds=>exact q'.elim
  |ins c fs=>exact q'.elim
 |.new ds,⟨a,vs,ex,s,n,l⟩,q=>subst ex;exact⟨_,.inl ⟨vs,.of s,(zKP l).symm⟩,q.here wd rfl⟩
theorem yR(ha:PEm X W a f)(he: ∀whole,isTrue a X.env whole=(do let v <-whole;standAt a.pos;holding [v] (truthy v)):=by intro _;rfl):PTm X W a (λρ S=>(f ρ S).bind dW):=by
 obtain⟨ta,ha,fa⟩:=ha
 exact⟨_,yIE ha he,λα ρ S σ H Q wd sl q=>fa α ρ S σ H _ wd sl (q.bind λu p S1 α1 H1 e1 x1 w1 d1 q1=>yIU w1 d1.1 (q1.shift x1))⟩
end
section
variable{X:Cx}{W:XW}{a b c e:Expr}{es:List Expr}{f g h:Rho->Sto->R Er}{tf tg:Rho->Sto->R Bool}{af:Rho->Sto->R (List Er)}{pos:Pos}
def zFW(p:Er)(S:Sto)(k:Sto->R Er):R Er:=(asB p S).bind λc S1=>if c=true then k S1 else .ok (.val (.bl false)) S1
def orF(p:Er)(S:Sto)(k:Sto->R Er):R Er:=(asB p S).bind λc S1=>if c=true then .ok (.val (.bl true)) S1 else k S1
theorem gW{op}(ha:PEm X W a f):PEm X W (.BoolOp op [a] pos) f:=let ⟨t,h,k⟩:=ha;⟨t,yQI h,k⟩
theorem hZ(ha:PEm X W a f)(hb:PEm X W (.BoolOp .And (b::es) pos) g):PEm X W (.BoolOp .And (a::b::es) pos) (λρ S=>(f ρ S).bind λp S1=>zFW p S1 λS2=>g ρ S2):=by
 obtain⟨ta,ha,fa⟩:=ha
 obtain⟨tb,hb,fb⟩:=hb
 refine⟨_,yQJ ha hb,λα ρ S σ H Q wd sl q=>fa α ρ S σ H _ wd sl (q.bind λu p S1 α1 H1 e1 x1 w1 d1 q1=>?_)⟩
 obtain⟨k,rfl,q2⟩:=zMY (q1.shift x1)
 refine⟨k,zIW d1.1,?_⟩
 cases k with
 |true=>rw [iP rfl]at q2 ⊢; exact fb α1 ρ S1 σ H1 _ w1 (sl.ext x1) q2
 |false=>rw [iN0 xF0]at q2 ⊢; exact Post.val q2 w1 (wL false)
theorem pm_or(ha:PEm X W a f)(hb:PEm X W (.BoolOp .Or (b::es) pos) g):PEm X W (.BoolOp .Or (a::b::es) pos) (λρ S=>(f ρ S).bind λp S1=>orF p S1 λS2=>g ρ S2):=by
 obtain⟨ta,ha,fa⟩:=ha
 obtain⟨tb,hb,fb⟩:=hb
 refine⟨_,pe_or ha hb,λα ρ S σ H Q wd sl q=>fa α ρ S σ H _ wd sl (q.bind λu p S1 α1 H1 e1 x1 w1 d1 q1=>?_)⟩
 obtain⟨k,rfl,q2⟩:=zMY (q1.shift x1)
 refine⟨k,zIW d1.1,?_⟩
 cases k with
 |true=>rw [iP rfl]at q2 ⊢; exact Post.val q2 w1 (wL true)
 |false=>rw [iN0 xF0]at q2 ⊢; exact fb α1 ρ S1 σ H1 _ w1 (sl.ext x1) q2
theorem yBG(ha:PEm X W a f):PEm X W (.UnaryOp .Not a pos) (λρ S=>(f ρ S).bind λp S1=>(asB p S1).bind λk S2=>.ok (.val (.bl !k)) S2):=by
 obtain⟨ta,ha,fa⟩:=ha
 refine⟨_,yQK ha,λα ρ S σ H Q wd sl q=>fa α ρ S σ H _ wd sl (q.bind λu p S1 α1 H1 e1 x1 w1 d1 q1=>?_)⟩
 obtain⟨k,rfl,q2⟩:=zMY (q1.shift x1)
 exact⟨k,zIW d1.1,Post.val q2 w1 (wL _)⟩
theorem zVY(ha:PTm X W a tf):PWm X W (.BoolOp .And [a] pos) tf:=let ⟨t,h,k⟩:=ha;⟨t,yLZ h,k⟩
theorem zEH(ha:PTm X W a tf):PWm X W (.BoolOp .Or [a] pos) tf:=let ⟨t,h,k⟩:=ha;⟨t,yQF h,k⟩
theorem zVZ(ha:PTm X W a tf)(hb:PWm X W (.BoolOp .And (b::es) pos) tg):PWm X W (.BoolOp .And (a::b::es) pos) (λρ S=>(tf ρ S).bind λk S1=>if k=true then tg ρ S1 else .ok false S1):=by
 obtain⟨ta,ha,fa⟩:=ha
 obtain⟨tb,hb,fb⟩:=hb
 refine⟨_,yQG ha hb,λα ρ S σ H Q wd sl q=>fa α ρ S σ H _ wd sl (q.bind λu p S1 α1 H1 e1 x1 w1 d1 q1=>?_)⟩
 cases d1
 cases u with
 |true=>rw [iP rfl]at q1 ⊢; exact fb α1 ρ S1 σ H1 _ w1 (sl.ext x1) (q1.shift x1)
 |false=>rw [iN0 xF0]at q1 ⊢; exact(q1.shift x1).here w1 rfl
theorem zIX(ha:PTm X W a tf)(hb:PWm X W (.BoolOp .Or (b::es) pos) tg):PWm X W (.BoolOp .Or (a::b::es) pos) (λρ S=>(tf ρ S).bind λk S1=>if k=true then .ok true S1 else tg ρ S1):=by
 obtain⟨ta,ha,fa⟩:=ha
 obtain⟨tb,hb,fb⟩:=hb
 refine⟨_,pw_or ha hb,λα ρ S σ H Q wd sl q=>fa α ρ S σ H _ wd sl (q.bind λu p S1 α1 H1 e1 x1 w1 d1 q1=>?_)⟩
 cases d1
 cases u with
 |true=>rw [iP rfl]at q1 ⊢; exact(q1.shift x1).here w1 rfl
 |false=>rw [iN0 xF0]at q1 ⊢; exact fb α1 ρ S1 σ H1 _ w1 (sl.ext x1) (q1.shift x1)
theorem zFX(h:PWm X W a tf):PTm X W a tf:=let ⟨t,h,k⟩:=h;⟨t,h.pt,k⟩
theorem jH(ha:PTm X W a tf):PTm X W (.UnaryOp .Not a pos) (λρ S=>(tf ρ S).bind λk S1=>.ok (!k) S1):=by
 obtain⟨ta,ha,fa⟩:=ha
 refine⟨_,yQH ha,λα ρ S σ H Q wd sl q=>fa α ρ S σ H _ wd sl (q.bind λu p S1 α1 H1 e1 x1 w1 d1 q1=>?_)⟩
 cases d1
 exact(q1.shift x1).here w1 rfl
end
section
variable{K:PySem.W.Frag}{H0:Hp}
def zR:List Er->Sto->List MV×Sto
 |[],S=>([],S)
 |.val d::rs,S=>((d::(zR rs S).1),(zR rs S).2)
 |.new xs::rs,S=>((.loc S.length::(zR rs (S++[.lst xs])).1),(zR rs (S++[.lst xs])).2)
theorem ArgsE.grow{H0:Hp}{α:List Addr}{H:Hp}{b:Addr}{rs:List Er}{vs:List V}(q:ArgsE K H0 α H rs vs)(n:b∉zLE rs vs):ArgsE K H0 (α++[b]) H rs vs:=by
 induction q with
 |nil=>exact .nil
 |@cons r v rs vs a m l ih=>
  cases r with
  |val d=>exact .cons ⟨Den.ex0 (Ex0.grow α [b] H) a.1,trivial⟩ m (ih (by simpa [zLE]using n))
  |new ds=>
   obtain⟨⟨c,us,rfl,h1,h2,h3⟩,h4⟩:=a
   have n':b∉c::zLE rs vs:=n
   refine .cons ⟨⟨c,us,rfl,h1,λz=>?_,h3.ex0 (Ex0.grow α [b] H)⟩,h4⟩ m (ih λz=>n' (mO _ z))
   rcases mem_append.mp z with z|z
   ·exact h2 z
   ·exact n' (by rw [mS.mp z];exact mF0)
theorem zFY{g:Gm}{H0:Hp}{α0:List Addr}{H:Hp}: ∀{rs:List Er}{vs:List V}{α:List Addr}{S:Sto},Wd g α S H->Ext α0 H0 α H->ArgsE g.K H0 α H rs vs->
  ∃α',Ext α0 H0 α' H/\Ex0 α H α' H/\Wd g α' (zR rs S).2 H/\DenL g.K α' H (zR rs S).1 vs
 |_,_,α,S,w,x,.nil=>⟨α,x,⟨⟨[],by simp⟩,λ_ _ h=>h,λ_ _ _ h=>h⟩,w,wM⟩
 |.val d::rs,v::vs,α,S,w,x,.cons a n l=>by
  obtain⟨α',x',y',w',l'⟩:=zFY w x l
  exact⟨α',x',y',w',xH (Den.ex0 y' a.1) l'⟩
 |.new ds::rs,v::vs,α,S,w,x,.cons a n l=>by
  obtain⟨⟨c,us,rfl,h1,h2,h3⟩,h4⟩:=a
  obtain⟨α',x',y',w',l'⟩:=zFY (w.enter h1 h2 h3) (w.enterx x (h4 c rfl) h2) (l.grow (n ds c rfl rfl))
  refine⟨α',x',⟨?_,y'.tup,y'.frz⟩,w',xH (zMX (y'.at ?_)) l'⟩
  ·obtain⟨t,e⟩:=y'.pre
   exact⟨[c]++t,by rw [e,aA]⟩
  ·rw [<-w.len,getElem?_append_right (le_refl _),sub_self];rfl
theorem zKQ: ∀(rs:List Er)(S:Sto),(zR rs S).1.length=rs.length
 |[],S=>rfl
 |.val d::rs,S=>by show(d::(zR rs S).1).length=_;rw [lC0,zKQ rs S];rfl
 |.new ds::rs,S=>by show(_::(zR rs _).1).length=_;rw [lC0,zKQ rs _];rfl
end
section
variable{X:Cx}{W:XW}{a b c e:Expr}{es:List Expr}{f g h:Rho->Sto->R Er}{tf tg:Rho->Sto->R Bool}{af:Rho->Sto->R (List Er)}{pos:Pos}
theorem zD:PAm X W [] (λ_ S=>.ok [] S):=⟨_,zRL,λα ρ S σ H Q wd sl q=>q.here wd .nil⟩
theorem zA(ha:PEm X W a f)(hr:PAm X W es af)(hs:starEach (a::es) X.env=(false,eval a X.env)::starEach es X.env:=by rfl):PAm X W (a::es) (λρ S=>(f ρ S).bind λp S1=>(af ρ S1).bind λps S2=>.ok (p::ps) S2):=by
 obtain⟨ta,ha,fa⟩:=ha
 obtain⟨tr,hr,fr⟩:=hr
 refine⟨_,zDS ha hr hs,λα ρ S σ H Q wd sl q=>fa α ρ S σ H _ wd sl (q.bind λu p S1 α1 H1 e1 x1 w1 d1 q1=>fr α1 ρ S1 σ H1 _ w1 (sl.ext x1) ?_)⟩
 have q1':Post X.g W α H ((af ρ S1).bind λps S2=>.ok (p::ps) S2) Q:=q1
 cases z:af ρ S1 with
 |ok ps S2=>
  rw [z]at q1'
  intro vs α2 H2 x2 w2 d2
  refine q1' (u::vs) α2 H2 (x1.trans x2) w2 (ArgsE.cons (DenE.ext x2 d1) (λds b er eu hb=>?_) (ArgsE.back (λb h=>x1.free h) d2))
  subst er eu
  obtain⟨⟨c,us,ec,h1,_⟩,_⟩:=d1
  cases ec
  have:=ArgsE.nones d2 _ hb
  rw [h1]at this;cases this
 |exc c fs S2=>rw [z]at q1';exact λα2 H2 x2 w2=>q1' α2 H2 (x1.trans x2) w2
 |no=>rw [z]at q1';exact q1'
def kQ(rs:List Er)(S:Sto):R Er:=if rs.length<=sizeLine then .ok (.val (.tup (zR rs S).1)) (zR rs S).2 else .no
def gX(rs:List Er)(S:Sto):R Er:=if rs.length<=sizeLine then .ok (.new (zR rs S).1) (zR rs S).2 else .no
theorem yV{x1}(h:PAm X W es af):PEm X W (.Tuple es x1 pos) (λρ S=>(af ρ S).bind kQ):=by
 obtain⟨t,h,k⟩:=h
 refine⟨_,yQW h,λα ρ S σ H Q wd sl q=>k α ρ S σ H _ wd sl (q.bind λvs rs S1 α1 H1 e1 x1 w1 d1 q1=>?_)⟩
 have q1':Post X.g W α H (if rs.length<=sizeLine then R.ok (Er.val (.tup (zR rs S1).1)) (zR rs S1).2 else R.no) Q:=q1
 split at q1'
 ·rename_i hz
  obtain⟨α2,x2,y2,w2,l2⟩:=zFY w1 x1 d1
  exact⟨by rw [ArgsE.length d1];exact hz,λp hp=>(q1'.shift x2).newt w2 hp l2⟩
 ·exact q1'.elim
theorem xU(h:PAm X W es af):PEm X W (.List es pos) (λρ S=>(af ρ S).bind gX):=by
 obtain⟨t,h,k⟩:=h
 refine⟨_,yQX h,λα ρ S σ H Q wd sl q=>k α ρ S σ H _ wd sl (q.bind λvs rs S1 α1 H1 e1 x1 w1 d1 q1=>?_)⟩
 have q1':Post X.g W α H (if rs.length<=sizeLine then R.ok (Er.new (zR rs S1).1) (zR rs S1).2 else R.no) Q:=q1
 split at q1'
 ·rename_i hz
  obtain⟨α2,x2,y2,w2,l2⟩:=zFY w1 x1 d1
  exact⟨by rw [ArgsE.length d1];exact hz,λp hp=>(q1'.shift x2).newl w2 hp l2⟩
 ·exact q1'.elim
inductive ArgsX(K:PySem.W.Frag)(α:List Addr)(H:Hp):List Er->List V->Prop
 |nil:ArgsX K α H [] []
 |cons {r v rs vs}:DenX K α H r v->ArgsX K α H rs vs->ArgsX K α H (r::rs) (v::vs)
theorem ArgsE.x{K:PySem.W.Frag}{H0:Hp}{α:List Addr}{H:Hp}: ∀{rs vs},ArgsE K H0 α H rs vs->ArgsX K α H rs vs
 |_,_,.nil=>.nil
 |_,_,.cons a _ l=>.cons a.1 (ArgsE.x l)
def zPR(X:Cx)(W:XW)(r:List V->Hp->VK->Prop)(F:List Er->Sto->R Er):Prop:= ∀rs vs α S H Q,Wd X.g α S H->ArgsX X.K α H rs vs->Post X.g W α H (F rs S) Q->r vs H Q
theorem zL{id:String}{r:List V->Hp->VK->Prop}{F:List Er->Sto->R Er}{x:Str}{p:Pos}(hc:CallR X (.builtin id) r)(hF:zPR X W r F)(hg:Gl X x)(hm:X.mg x=none)(hv:bootBuiltins x=some (.builtin id))(ha:PAm X W (e::es) af)
  (hn:x≠"__name__":=by decide) (hdb:(x==("__debug__":Str))=false:=by decide)
  (he:starEach (e::es) X.env=(false,eval e X.env)::starEach es X.env:=by rfl) (hpl:(backTo pos (starEach es X.env)).any (·.1)=false:=by rfl):PEm X W (.Call (.Name x p) (e::es) [] pos) (λρ S=>(af ρ S).bind F):=by
 obtain⟨t,ha,k⟩:=ha
 exact⟨_,zRN hc hg hm hv ha hn hdb he hpl,λα ρ S σ H Q wd sl q=>k α ρ S σ H _ wd sl (q.bind λvs rs S1 α1 H1 e1 x1 w1 d1 q1=>hF rs vs α1 S1 H1 Q w1 (ArgsE.x d1) (q1.shift x1))⟩
theorem kA{T:String}{r:List V->Hp->VK->Prop}{F:List Er->Sto->R Er}{x:Str}{p:Pos}(hc:CallR X (.type T) r)(hF:zPR X W r F)(hg:Gl X x)(hm:X.mg x=none)(hv:bootBuiltins x=some (.type T))(ha:PAm X W (e::es) af)
  (hn:x≠"__name__":=by decide) (hdb:(x==("__debug__":Str))=false:=by decide)
  (he:starEach (e::es) X.env=(false,eval e X.env)::starEach es X.env:=by rfl) (hpl:(backTo pos (starEach es X.env)).any (·.1)=false:=by rfl):PEm X W (.Call (.Name x p) (e::es) [] pos) (λρ S=>(af ρ S).bind F):=by
 obtain⟨t,ha,k⟩:=ha
 exact⟨_,yFY hc hg hm hv ha hn hdb he hpl,λα ρ S σ H Q wd sl q=>k α ρ S σ H _ wd sl (q.bind λvs rs S1 α1 H1 e1 x1 w1 d1 q1=>hF rs vs α1 S1 H1 Q w1 (ArgsE.x d1) (q1.shift x1))⟩
def MtdM(X:Cx)(W:XW)(r:V->List V->Hp->VK->Prop)(F:Er->List Er->Sto->R Er):Prop:= ∀p rs x vs α S H0 H Q α0,Wd X.g α S H->Ext α0 H0 α H->DenX X.K α H p x->ArgsE X.K H0 α H rs vs->Post X.g W α0 H0 (F p rs S) Q->r x vs H Q
def TyM(X:Cx)(T:String)(ty:Er->Sto->Bool):Prop:= ∀p x α S H,Wd X.g α S H->DenX X.K α H p x->ty p S=true->tyV X.K T x H
theorem yDR{T:String}{name:Str}{id:String}{r:V->List V->Hp->VK->Prop}{F:Er->List Er->Sto->R Er}{ty:Er->Sto->Bool}{apos:Pos}(pa:PlainAttrs T)(slot:Slot T name id)(hty:typeOf (.builtin id)=pure (.type "method_descriptor"))(hm:MtR X id r)(hF:MtdM X W r F)(hT:TyM X T ty)
  (ho:PEm X W a f) (ha:PAm X W (e::es) af)
  (hbase:attributeBase a name X.env (eval a X.env)=eval a X.env:=by rfl)
  (hfew:((backTo pos (starEach (e::es) X.env)).all (λx=>!x.1)&&(backToKw pos (keywordEach [] X.env)).all (λx=>x.1.isSome)
   &&decide ((e::es).length+([]:List Keyword).length+(if([]:List Keyword).isEmpty then 0 else 1)<30))=true:=by rfl)
  (hline:(apos.endLine==pos.line)=true:=by rfl) (hs:starEach (e::es) X.env=(false,eval e X.env)::starEach es X.env:=by rfl) (hplain:(backTo pos (starEach es X.env)).any (·.1)=false:=by rfl):
  PEm X W (.Call (.Attribute a name apos) (e::es) [] pos) (λρ S=>(f ρ S).bind λp S1=>if ty p S1=true then(af ρ S1).bind λrs S2=>F p rs S2 else .no):=by
 obtain⟨to,ho,fo⟩:=ho
 obtain⟨t,ha,k⟩:=ha
 refine⟨_,pe_bm pa slot hty hm ho ha hbase hfew hline hs hplain,λα ρ S σ H Q wd sl q=>fo α ρ S σ H _ wd sl (q.bind λu p S1 α1 H1 e1 x1 w1 d1 q1=>?_)⟩
 split at q1
 ·rename_i hz
  exact⟨hT p u α1 S1 H1 w1 d1.1 hz,k α1 ρ S1 σ H1 _ w1 (sl.ext x1) ((q1.shift x1).bind λvs rs S2 α2 H2 e2 x2 w2 d2 q2=>hF p rs u vs α2 S2 H1 H2 Q α1 w2 x2 (d1.1.ext x2) d2 q2)⟩
 ·exact q1.elim
theorem nW:POm X W none (λ_ S=>.ok none S):=⟨_,yMH,λα ρ S σ H Q wd sl q=>q.here wd rfl⟩
def asI:Er->Sto->R (Option Int)
 |.val (.int i),S=>.ok (some i) S
 |_,_=>.no
theorem kO(ha:PEm X W a f):POm X W (some a) (λρ S=>(f ρ S).bind asI):=by
 obtain⟨ta,ha,fa⟩:=ha
 refine⟨_,yMI ha,λα ρ S σ H Q wd sl q=>fa α ρ S σ H _ wd sl (q.bind λu p S1 α1 H1 e1 x1 w1 d1 q1=>?_)⟩
 unfold asI at q1
 split at q1
 ·exact⟨_,xN d1.1,(q1.shift x1).here w1 rfl⟩
 ·exact q1.elim
def Sl3(X:Cx)(W:XW)(r:V->Option Int->Option Int->Hp->VK->Prop)(F:Er->Option Int->Option Int->Sto->R Er):Prop:= ∀p lo hi x α S H Q,Wd X.g α S H->DenX X.K α H p x->Post X.g W α H (F p lo hi S) Q->r x lo hi H Q
theorem yIV{lo hi:Option Expr}{r:V->Option Int->Option Int->Hp->VK->Prop}{F:Er->Option Int->Option Int->Sto->R Er}{lf hf:Rho->Sto->R (Option Int)}{p2:Pos}(hr:SlR X r)(hF:Sl3 X W r F)(ha:PEm X W a f)(hl:POm X W lo lf)(hh:POm X W hi hf):
  PEm X W (.Subscript a (.Slice lo hi none p2) pos) (λρ S=>(f ρ S).bind λp S1=>(lf ρ S1).bind λl S2=>(hf ρ S2).bind λu S3=>F p l u S3):=by
 obtain⟨ta,ha,fa⟩:=ha
 obtain⟨tl,hl,fl⟩:=hl
 obtain⟨th,hh,fh⟩:=hh
 refine⟨_,yIH hr ha hl hh,λα ρ S σ H Q wd sl q=>fa α ρ S σ H _ wd sl (q.bind λu p S1 α1 H1 e1 x1 w1 d1 q1=>fl α1 ρ S1 σ H1 _ w1 (sl.ext x1) ((q1.shift x1).bind λu2 l S2 α2 H2 e2 x2 w2 d2 q2=>
  fh α2 ρ S2 σ H2 _ w2 ((sl.ext x1).ext x2) ((q2.shift x2).bind λu3 m S3 α3 H3 e3 x3 w3 d3 q3=>?_)))⟩
 cases d2
 cases d3
 exact hF p u2 u3 u α3 S3 H3 Q w3 ((d1.1.ext x2).ext x3) (q3.shift x3)
end
inductive Fl where
 |next (ρ:Rho)|ret (r:Er)|brk (ρ:Rho)|cont (ρ:Rho)
def PostS(g:Gm)(W:XW)(α:List Addr)(H:Hp)(D:Ends):R Fl->Prop
 |.ok (.next ρ) S=> ∀σ α' H',Ext α H α' H'->Wd g α' S H'->Slots g.K α' H' ρ σ->D.nx σ H'
 |.ok (.ret r) S=> ∀v α' H',Ext α H α' H'->Wd g α' S H'->DenE g.K H α' H' r v->D.rt v H'
 |.ok (.brk ρ) S=> ∀σ α' H',Ext α H α' H'->Wd g α' S H'->Slots g.K α' H' ρ σ->D.bk σ H'
 |.ok (.cont ρ) S=> ∀σ α' H',Ext α H α' H'->Wd g α' S H'->Slots g.K α' H' ρ σ->D.ct σ H'
 |.exc c fs S=> ∀α' H',Ext α H α' H'->Wd g α' S H'->W c fs S α' H'
 |.no=>False
section
variable{g:Gm}{W:XW}{α α':List Addr}{H H':Hp}{D D':Ends}
theorem PostS.shift(x:Ext α H α' H'): ∀{m:R Fl},PostS g W α H D m->PostS g W α' H' D m
 |.ok (.next ρ) S,q=>λσ α2 H2 x2 w2 s2=>q σ α2 H2 (x.trans x2) w2 s2
 |.ok (.ret r) S,q=>λv α2 H2 x2 w2 d2=>q v α2 H2 (x.trans x2) w2 (d2.back λb h=>x.free h)
 |.ok (.brk ρ) S,q=>λσ α2 H2 x2 w2 s2=>q σ α2 H2 (x.trans x2) w2 s2
 |.ok (.cont ρ) S,q=>λσ α2 H2 x2 w2 s2=>q σ α2 H2 (x.trans x2) w2 s2
 |.exc c fs S,q=>λα2 H2 x2 w2=>q α2 H2 (x.trans x2) w2
 |.no,q=>q
theorem PostS.expr{β τ:Type}[Dn β τ]{m:R β}{k:β->Sto->R Fl}{Q':τ->Hp->Prop}(q:PostS g W α H D (m.bind k))
  (f: ∀u b S1 α1 H1,m=.ok b S1->Ext α H α1 H1->Wd g α1 S1 H1->Dn.d g H α1 S1 H1 b u->PostS g W α H D (k b S1)->Q' u H1):Post g W α H m Q':=by
 cases m with
 |ok b S=>exact λu α1 H1 x w d=>f u b S α1 H1 rfl x w d q
 |exc c fs S=>exact q
 |no=>exact q
theorem PostS.stmt{m:R Fl}{k:Fl->Sto->R Fl}(q:PostS g W α H D (m.bind k))
  (hn: ∀ρ S σ α1 H1,m=.ok (.next ρ) S->Ext α H α1 H1->Wd g α1 S H1->Slots g.K α1 H1 ρ σ->PostS g W α H D (k (.next ρ) S)->D'.nx σ H1)
  (hr: ∀r S v α1 H1,m=.ok (.ret r) S->Ext α H α1 H1->Wd g α1 S H1->DenE g.K H α1 H1 r v->PostS g W α H D (k (.ret r) S)->D'.rt v H1)
  (hb: ∀ρ S σ α1 H1,m=.ok (.brk ρ) S->Ext α H α1 H1->Wd g α1 S H1->Slots g.K α1 H1 ρ σ->PostS g W α H D (k (.brk ρ) S)->D'.bk σ H1)
  (hc: ∀ρ S σ α1 H1,m=.ok (.cont ρ) S->Ext α H α1 H1->Wd g α1 S H1->Slots g.K α1 H1 ρ σ->PostS g W α H D (k (.cont ρ) S)->D'.ct σ H1):PostS g W α H D' m:=by
 cases m with
 |ok fl S=>
  cases fl with
  |next ρ=>exact λσ α1 H1 x w s=>hn ρ S σ α1 H1 rfl x w s q
  |ret r=>exact λv α1 H1 x w d=>hr r S v α1 H1 rfl x w d q
  |brk ρ=>exact λσ α1 H1 x w s=>hb ρ S σ α1 H1 rfl x w s q
  |cont ρ=>exact λσ α1 H1 x w s=>hc ρ S σ α1 H1 rfl x w s q
 |exc c fs S=>exact q
 |no=>exact q
end
def PSm(X:Cx)(W:XW)(st:Stmt)(F:Rho->Sto->R Fl):Prop:=
 ∃t,PS X st t/\ ∀α ρ S σ H D,Wd X.g α S H->Slots X.K α H ρ σ->PostS X.g W α H D (F ρ S)->t D σ H
def zOI(X:Cx)(W:XW)(st:List Stmt)(F:Rho->Sto->R Fl):Prop:=
 ∃t,PSs X st t/\ ∀α ρ S σ H D,Wd X.g α S H->Slots X.K α H ρ σ->PostS X.g W α H D (F ρ S)->t D σ H
def zT(F G:Rho->Sto->R Fl):Rho->Sto->R Fl:=λρ S=>(F ρ S).bind λfl S1=>match fl with
 |.next ρ'=>G ρ' S1
 |.ret r=>.ok (.ret r) S1
 |.brk ρ'=>.ok (.brk ρ') S1
 |.cont ρ'=>.ok (.cont ρ') S1
section
variable{X:Cx}{W:XW}{st:Stmt}{sts as bs:List Stmt}{F G:Rho->Sto->R Fl}{f g:Rho->Sto->R Er}{tf:Rho->Sto->R Bool}{e c:Expr}{pos:Pos}
theorem yK:zOI X W [] (λρ S=>.ok (.next ρ) S):=⟨_,yMA,λα ρ S σ H D wd sl q=>q σ α H (Ext.refl α H) wd sl⟩
theorem zK(h:PSm X W st F):zOI X W [st] F:=let ⟨t,h,k⟩:=h;⟨t,yMB h,k⟩
theorem zF(h1:PSm X W st F)(h2:zOI X W sts G):zOI X W (st::sts) (zT F G):=by
 obtain⟨t,h1,k1⟩:=h1
 obtain⟨u,h2,k2⟩:=h2
 refine⟨_,yHV h1 h2,λα ρ S σ H D wd sl q=>k1 α ρ S σ H _ wd sl (q.stmt ?_ ?_ ?_ ?_)⟩
 ·intro ρ1 S1 σ1 α1 H1 e x1 w1 s1 q1
  exact k2 α1 ρ1 S1 σ1 H1 D w1 s1 (PostS.shift x1 q1)
 ·intro r S1 v α1 H1 e x1 w1 d1 q1
  exact q1 v α1 H1 x1 w1 d1
 ·intro ρ1 S1 σ1 α1 H1 e x1 w1 s1 q1
  exact q1 σ1 α1 H1 x1 w1 s1
 ·intro ρ1 S1 σ1 α1 H1 e x1 w1 s1 q1
  exact q1 σ1 α1 H1 x1 w1 s1
theorem zU(he:PEm X W e f):PSm X W (.Return (some e) pos) (λρ S=>(f ρ S).bind λr S1=>.ok (.ret r) S1):=by
 obtain⟨t,he,k⟩:=he
 exact⟨_,yQL he,λα ρ S σ H D wd sl q=>k α ρ S σ H _ wd sl (q.expr λu r S1 α1 H1 e x1 w1 d1 q1=>q1 u α1 H1 x1 w1 d1)⟩
theorem zBP(he:PEm X W e f)(hs:swapsWith e none pos.line X.env=pure false:=by rfl):PSm X W (.Expr e pos) (λρ S=>(f ρ S).bind λ_ S1=>.ok (.next ρ) S1):=by
 obtain⟨t,he,k⟩:=he
 exact⟨_,yMC he hs,λα ρ S σ H D wd sl q=>k α ρ S σ H _ wd sl (q.expr λu r S1 α1 H1 e x1 w1 d1 q1=>q1 σ α1 H1 x1 w1 (sl.ext x1))⟩
theorem yY(hc:PTm X W c tf)(ha:zOI X W as F)(hb:zOI X W bs G):PSm X W (.If c as bs pos) (λρ S=>(tf ρ S).bind λk S1=>if k=true then F ρ S1 else G ρ S1):=by
 obtain⟨tc,hc,kc⟩:=hc
 obtain⟨ta,ha,ka⟩:=ha
 obtain⟨tb,hb,kb⟩:=hb
 refine⟨_,ps_if hc ha hb,λα ρ S σ H D wd sl q=>kc α ρ S σ H _ wd sl (q.expr λu p S1 α1 H1 e x1 w1 d1 q1=>?_)⟩
 cases d1
 cases u with
 |true=>rw [iP rfl]at q1 ⊢; exact ka α1 ρ S1 σ H1 D w1 (sl.ext x1) (PostS.shift x1 q1)
 |false=>rw [iN0 xF0]at q1 ⊢; exact kb α1 ρ S1 σ H1 D w1 (sl.ext x1) (PostS.shift x1 q1)
instance:Dn Rho St:=⟨λg _ α' _ H' ρ σ=>Slots g.K α' H' ρ σ,λ_ q=>q⟩
def PGm(X:Cx)(W:XW)(tg:Expr)(gf:MV->Rho->Sto->R Rho):Prop:=
 ∃t,PG X tg t/\ ∀α ρ S σ H d v Q,Wd X.g α S H->Slots X.K α H ρ σ->Den X.K α H d v->Post X.g W α H (gf d ρ S) Q->t v σ H Q
def PGsm(X:Cx)(W:XW)(tgs:List Expr)(gf:List MV->Rho->Sto->R Rho):Prop:=
 ∃t,PGs X tgs t/\ ∀α ρ S σ H ds vs Q,Wd X.g α S H->Slots X.K α H ρ σ->DenL X.K α H ds vs->Post X.g W α H (gf ds ρ S) Q->t vs σ H Q
def gNm(i:Nat):MV->Rho->Sto->R Rho:=λd ρ S=>.ok (ρ.set i (some d)) S
theorem wX(i:Nat){x:Str}(hN:X.N.Nodup)(hi:X.N[i]? =some x:=by rfl)(hx:Loc X.env.scope x:=by first |exact Or.inl rfl|exact Or.inr rfl)(hf:X.fn x=true\/X.env.scope.names.lookup x=some .local:=by first |exact .inl rfl|exact .inr rfl|assumption):
  PGm X W (.Name x pos) (gNm i):=⟨_,yDG hN hi hx hf,λα ρ S σ H d v Q wd sl de q=>Post.here (b:=ρ.set i (some d)) q wd (sl.set de)⟩
def kR:List MV->Rho->Sto->R Rho
 |[],ρ,S=>.ok ρ S
 |_,_,_=>.no
def zX(g1:MV->Rho->Sto->R Rho)(g2:List MV->Rho->Sto->R Rho):List MV->Rho->Sto->R Rho
 |d::ds,ρ,S=>(g1 d ρ S).bind λρ1 S1=>g2 ds ρ1 S1
 |_,_,_=>.no
theorem zGU:PGsm X W [] kR:=⟨_,yDH,λα ρ S σ H ds vs Q wd sl de q=>by
 cases ds with
 |nil=>exact⟨de.isnil,Post.here (b:=ρ) q wd sl⟩
 |cons d ds=>exact q.elim⟩
theorem wY{es:List Expr}{g1:MV->Rho->Sto->R Rho}{g2:List MV->Rho->Sto->R Rho}(h1:PGm X W e g1)(h2:PGsm X W es g2)(hs:(assignEach (e::es) X.env).map (·.2)=assign e X.env::(assignEach es X.env).map (·.2):=by rfl):PGsm X W (e::es) (zX g1 g2):=by
 obtain⟨t1,h1,k1⟩:=h1
 obtain⟨t2,h2,k2⟩:=h2
 refine⟨_,zXY h1 h2 hs,λα ρ S σ H ds vs Q wd sl de q=>?_⟩
 cases ds with
 |nil=>exact q.elim
 |cons d ds=>
  obtain⟨v,r,rfl,a,l⟩:=de.uncons
  refine⟨v,r,rfl,k1 α ρ S σ H d v _ wd sl a (Post.bind q λu p S1 α1 H1 e x1 w1 d1 q1=>k2 α1 p S1 u H1 ds r Q w1 d1 (l.ext x1) (q1.shift x1))⟩
def gTp(n:Nat)(g2:List MV->Rho->Sto->R Rho):MV->Rho->Sto->R Rho
 |.tup ds,ρ,S=>if ds.length=n then g2 ds ρ S else .no
 |_,_,_=>.no
theorem zGV{es:List Expr}{k n:Nat}{g2:List MV->Rho->Sto->R Rho}(hc:X.calm=true)(h:PGsm X W es g2)
  (hn:(assignEach es X.env).length=n:=by rfl) (hst:(assignEach es X.env).findIdx? (·.1)=none:=by rfl):PGm X W (.Tuple es k pos) (gTp n g2):=by
 obtain⟨t,h,k⟩:=h
 refine⟨_,yHX hc h hn hst,λα ρ S σ H d v Q wd sl de q=>?_⟩
 unfold gTp at q
 split at q
 ·split at q
  ·rename_i hl
   obtain⟨a,vs,rfl,s,l⟩:=jW de
   exact⟨a,vs,rfl,s,by rw [l.length];exact hl,k α ρ S σ H _ vs Q wd sl l q⟩
  ·exact q.elim
 ·exact q.elim
def zCD(r:Er)(S:Sto):R MV:=match r with
 |.val d=>.ok d S
 |.new ds=>.ok (.loc S.length) (S++[.lst ds])
theorem zFZ{g:Gm}{H0:Hp}{α0 α:List Addr}{H:Hp}{S:Sto}{r:Er}{v:V}(w:Wd g α S H)(x:Ext α0 H0 α H)(d:DenE g.K H0 α H r v):
  ∃d' S' α',zCD r S=.ok d' S'/\Ext α0 H0 α' H/\Ex0 α H α' H/\Wd g α' S' H/\Den g.K α' H d' v:=by
 cases r with
 |val d'=>exact⟨d',S,α,rfl,x,⟨⟨[],by simp⟩,λ_ _ h=>h,λ_ _ _ h=>h⟩,w,d.1⟩
 |new ds=>
  obtain⟨⟨c,us,rfl,h1,h2,h3⟩,h4⟩:=d
  exact⟨.loc S.length,S++[.lst ds],α++[c],rfl,w.enterx x (h4 c rfl) h2,Ex0.grow α [c] H,w.enter h1 h2 h3,zMX (by rw [<-w.len,getElem?_append_right (le_refl _),sub_self];rfl)⟩
def zYQ(ρ:Rho)(i:Nat)(r:Er)(S:Sto):R Fl:=(zCD r S).bind λd S1=>.ok (.next (ρ.set i (some d))) S1
theorem zN(i:Nat){x:Str}{pos':Pos}(hN:X.N.Nodup)(he:PEm X W e f)(hi:X.N[i]? =some x:=by rfl)(hx:Loc X.env.scope x:=by first |exact Or.inl rfl|exact Or.inr rfl)
  (hs:swapsWith e (some (.Name x pos')) pos.line X.env=pure false:=by rfl) (hf:X.fn x=true\/X.env.scope.names.lookup x=some .local:=by first |exact .inl rfl|exact .inr rfl|assumption):
  PSm X W (.Assign [.Name x pos'] e pos) (λρ S=>(f ρ S).bind (zYQ ρ i)):=by
 obtain⟨t,he,k⟩:=he
 refine⟨_,yQN hN hi hx he hs hf,λα ρ S σ H D wd sl q=>k α ρ S σ H _ wd sl (q.expr λu r S1 α1 H1 e x1 w1 d1 q1=>?_)⟩
 obtain⟨d',S',α',e1,x',y',w',de⟩:=zFZ w1 x1 d1
 unfold zYQ at q1
 rw [e1]at q1
 exact q1 _ α' H1 x' w' (((sl.ext x1).ex0 y').set de)
def yGI(gf:MV->Rho->Sto->R Rho)(ρ:Rho)(r:Er)(S:Sto):R Fl:=(zCD r S).bind λd S1=>(gf d ρ S1).bind λρ' S2=>.ok (.next ρ') S2
theorem zCE{tg:Expr}{gf:MV->Rho->Sto->R Rho}(he:PEm X W e f)(hg:PGm X W tg gf)(hs:swapsWithSole [tg] e pos.line X.env=pure false:=by rfl)(hw:swappedStores [tg] e X.env=pure none:=by rfl)
  (h1:(assignEach [tg] X.env).map (·.2)=[assign tg X.env]:=by rfl):PSm X W (.Assign [tg] e pos) (λρ S=>(f ρ S).bind (yGI gf ρ)):=by
 obtain⟨t,he,k⟩:=he
 obtain⟨tg',hg,kg⟩:=hg
 refine⟨_,yQM he hg hs hw h1,λα ρ S σ H D wd sl q=>k α ρ S σ H _ wd sl (q.expr λu r S1 α1 H1 e x1 w1 d1 q1=>?_)⟩
 obtain⟨d',S',α',e1,x',y',w',de⟩:=zFZ w1 x1 d1
 unfold yGI at q1
 rw [e1]at q1
 have q1:PostS X.g W α H D ((gf d' ρ S').bind λρ' S2=>.ok (.next ρ') S2):=q1
 exact kg α' ρ S' σ H1 d' u _ w' ((sl.ext x1).ex0 y') de ((PostS.shift x' q1).expr λσ2 ρ2 S2 α2 H2 e2 x2 w2 s2 q2=>q2 σ2 α2 H2 x2 w2 s2)
structure Wk where
 ds:List MV
 gs:List (Nat×List MV)
def stay(gs:List (Nat×List MV))(S:Sto):Prop:= ∀p∈gs,S[p.1]? =some (.lst p.2)
def ItM(g:Gm)(J:It)(P:List Addr->Sto->Hp->Prop)(ds:List MV):Prop:= ∀i α S H,P α S H->Wd g α S H->(i<ds.length->J.go i H/\ ∀x H',J.yld i H x H'->Ext α H α H'/\Wd g α S H'/\P α S H'/\ ∃d,ds[i]? =some d/\Den g.K α H' d x)/\(ds.length<=i->J.stop i H)
structure WkD(g:Gm)(α:List Addr)(S:Sto)(H:Hp)(k:Wk)(J:It)(P:List Addr->Sto->Hp->Prop):Prop where
 it:ItM g J P k.ds
 here:P α S H
 stays: ∀α1 S1 H1 α2 S2 H2,P α1 S1 H1->Ext α1 H1 α2 H2->Wd g α2 S2 H2->stay k.gs S2->P α2 S2 H2
 st:stay k.gs S
instance:Dn Wk It:=⟨λg _ α S H k J=> ∃P,WkD g α S H k J P,λ_ q=>q⟩
abbrev PIm(X:Cx)(W:XW)(tg iter:Expr)(f:Rho->Sto->R Wk):Prop:=Jd X W (PI X tg iter) f
variable{tg iter:Expr}
theorem zRY{a:Addr}{ds:List MV}:ItM X.g (Itl X.K a) (λα S H=> ∃vs,SqL X.K H a vs/\DenL X.K α H ds vs) ds:=by
 intro i α S H ⟨vs,s,l⟩ w
 have hl:=l.length
 refine⟨λhi=>?_,λhi=>⟨vs,s,by omega⟩⟩
 have hv:i<vs.length:=by omega
 refine⟨⟨vs,vs[i],s,gE0 hv⟩,λx H' y=>?_⟩
 obtain⟨rfl,y⟩:=y
 obtain⟨d,h1,h2⟩:=l.get (y vs s)
 exact⟨Ext.refl _ _,w,⟨vs,s,l⟩,d,h1,h2⟩
theorem yMV{a:Addr}{ds:List MV}:ItM X.g (Itt X.K a) (λα S H=> ∃vs,SqT X.K H a vs/\DenL X.K α H ds vs) ds:=by
 intro i α S H ⟨vs,s,l⟩ w
 have hl:=l.length
 refine⟨λhi=>?_,λhi=>⟨vs,s,by omega⟩⟩
 have hv:i<vs.length:=by omega
 refine⟨⟨vs,vs[i],s,gE0 hv⟩,λx H' y=>?_⟩
 obtain⟨rfl,y⟩:=y
 obtain⟨d,h1,h2⟩:=l.get (y vs s)
 exact⟨Ext.refl _ _,w,⟨vs,s,l⟩,d,h1,h2⟩
theorem yMW{x:List Nat}:ItM X.g (Its x) (λ_ _ _=>True) (x.map λc=>.str [c]):=by
 intro i α S H _ w
 refine⟨λhi=>⟨show i<x.length by simpa using hi,λv H' y=>?_⟩,λhi=>by show x.length<=i;simpa using hi⟩
 obtain⟨rfl,c,h1,h2⟩:=y
 refine⟨Ext.refl _ _,w,trivial,.str [c],by rw [getElem?_map,h1];rfl,?_⟩
 rw [h2]
 exact zBO [c]
theorem yGJ{lo:Int}{n:Nat}:ItM X.g (Itr lo n) (λ_ _ _=>True) ((List.range n).map λk=>.int (lo+(k:Nat))):=by
 intro i α S H _ w
 refine⟨λhi=>⟨show i<n by simpa using hi,λv H' y=>?_⟩,λhi=>by show n<=i;simpa using hi⟩
 obtain⟨rfl,y⟩:=y
 have hi':i<n:=by simpa using hi
 refine⟨Ext.refl _ _,w,trivial,.int (lo+i),by rw [getElem?_map,List.getElem?_range hi'];rfl,?_⟩
 rw [y]
 exact wD _
def itL:Er->Sto->R Wk
 |.new ds,S=>.ok ⟨ds,[]⟩ S
 |.val (.scr ds),S=>.ok ⟨ds,[]⟩ S
 |.val (.loc l),S=>match S[l]? with
  |some (.lst ds)=>.ok ⟨ds,[(l,ds)]⟩ S
  |_=>.no
 |_,_=>.no
theorem cO{S:Sto}:stay [] S:=λp h=>by simp at h
theorem yDS(he:PEm X W iter f):PIm X W tg iter (λρ S=>(f ρ S).bind itL):=by
 obtain⟨t,he,k⟩:=he
 refine⟨_,yMD he,λα ρ S σ H Rc wd sl q=>k α ρ S σ H _ wd sl (q.bind λu p S1 α1 H1 e x1 w1 d1 q1=>?_)⟩
 replace q1:=q1.shift x1
 unfold itL at q1
 split at q1
 ·rename_i S0 ds
  obtain⟨⟨b,vs,rfl,h1,h2,h3⟩,h4⟩:=d1
  refine⟨b,rfl,⟨vs,.of h1⟩,q1.here (u:=Itl X.K b) w1 ⟨λα2 S2 H2=> ∃vs,SqL X.K H2 b vs/\DenL X.K α2 H2 ds vs/\H2 b=some (.lst vs)/\b∉α2,?_,⟨vs,.of h1,h3,h1,h2⟩,?_,cO⟩⟩
  ·intro i α2 S2 H2 ⟨vs2,a1,a2,a3,a4⟩ w2
   obtain⟨i1,i2⟩:=zRY (X:=X) (a:=b) (ds:=ds) i α2 S2 H2 ⟨vs2,a1,a2⟩ w2
   refine⟨λhi=>⟨(i1 hi).1,λx H' y=>?_⟩,i2⟩
   obtain⟨j1,j2,j3,j4⟩:=(i1 hi).2 x H' y
   obtain⟨rfl,_⟩:=y
   exact⟨j1,j2,⟨vs2,a1,a2,a3,a4⟩,j4⟩
  ·intro α2 S2 H2 α3 S3 H3 ⟨vs2,a1,a2,a3,a4⟩ x w3 _
   exact⟨vs2,.of (x.keep b _ a3 a4),a2.ext x,x.keep b _ a3 a4,x.out a3 a4⟩
 ·rename_i S0 ds
  obtain⟨a,vs,rfl,s,l⟩:=zRX d1.1
  refine⟨a,rfl,⟨vs,s.l⟩,q1.here (u:=Itl X.K a) w1 ⟨λα2 S2 H2=> ∃vs,SqL X.K H2 a vs/\DenL X.K α2 H2 ds vs/\SqF X.K H2 a vs,?_,⟨vs,s.l,l,s⟩,?_,cO⟩⟩
  ·intro i α2 S2 H2 ⟨vs2,a1,a2,a3⟩ w2
   obtain⟨i1,i2⟩:=zRY (X:=X) (a:=a) (ds:=ds) i α2 S2 H2 ⟨vs2,a1,a2⟩ w2
   refine⟨λhi=>⟨(i1 hi).1,λx H' y=>?_⟩,i2⟩
   obtain⟨j1,j2,j3,j4⟩:=(i1 hi).2 x H' y
   obtain⟨rfl,_⟩:=y
   exact⟨j1,j2,⟨vs2,a1,a2,a3⟩,j4⟩
  ·intro α2 S2 H2 α3 S3 H3 ⟨vs2,a1,a2,a3⟩ x w3 _
   exact⟨vs2,(x.sqF a3).l,a2.ext x,x.sqF a3⟩
 ·rename_i S0 n
  obtain⟨a,rfl,h⟩:=zCB d1.1
  obtain⟨o,h1,h2⟩:=w1.of h
  rw [h1]at q1
  cases o with
  |lst ds=>
   obtain⟨vs,h3,l⟩:=h2
   refine⟨a,rfl,⟨vs,.of h3⟩,Post.here (b:=(⟨ds,[(n,ds)]⟩:Wk)) q1 (u:=Itl X.K a) w1 ⟨λα2 S2 H2=> ∃vs,SqL X.K H2 a vs/\DenL X.K α2 H2 ds vs/\α2[n]? =some a,?_,⟨vs,.of h3,l,h⟩,?_,?_⟩⟩
   ·intro i α2 S2 H2 ⟨vs2,a1,a2,a3⟩ w2
    obtain⟨i1,i2⟩:=zRY (X:=X) (a:=a) (ds:=ds) i α2 S2 H2 ⟨vs2,a1,a2⟩ w2
    refine⟨λhi=>⟨(i1 hi).1,λx H' y=>?_⟩,i2⟩
    obtain⟨j1,j2,j3,j4⟩:=(i1 hi).2 x H' y
    obtain⟨rfl,_⟩:=y
    exact⟨j1,j2,⟨vs2,a1,a2,a3⟩,j4⟩
   ·intro α2 S2 H2 α3 S3 H3 ⟨vs2,a1,a2,a3⟩ x w3 hs
    have a3':=x.at a3
    have:=w3.obj n a _ a3' (hs (n,ds) (by simp))
    obtain⟨vs3,b1,b2⟩:=this
    exact⟨vs3,.of b1,b2,a3'⟩
   ·intro p hp
    have:p=(n,ds):=by simpa using hp
    subst this
    exact h1
  |dic ds=>exact q1.elim
  |ins c fs=>exact q1.elim
 ·exact q1.elim
def itT:Er->Sto->R Wk
 |.val (.tup ds),S=>.ok ⟨ds,[]⟩ S
 |_,_=>.no
theorem zLT(he:PEm X W iter f):PIm X W tg iter (λρ S=>(f ρ S).bind itT):=by
 obtain⟨t,he,k⟩:=he
 refine⟨_,yQO he,λα ρ S σ H Rc wd sl q=>k α ρ S σ H _ wd sl (q.bind λu p S1 α1 H1 e x1 w1 d1 q1=>?_)⟩
 replace q1:=q1.shift x1
 unfold itT at q1
 split at q1
 ·rename_i S0 ds
  obtain⟨a,vs,rfl,s,l⟩:=dU d1.1
  exact⟨a,rfl,⟨vs,s⟩,q1.here (u:=Itt X.K a) w1 ⟨_,yMV,⟨vs,s,l⟩,λα2 S2 H2 α3 S3 H3 ⟨vs2,a1,a2⟩ x w3 _=>⟨vs2,x.sqT a1,a2.ext x⟩,cO⟩⟩
 ·exact q1.elim
def itS:Er->Sto->R Wk
 |.val (.str x),S=>.ok ⟨x.map λc=>.str [c],[]⟩ S
 |_,_=>.no
theorem yRN(he:PEm X W iter f):PIm X W tg iter (λρ S=>(f ρ S).bind itS):=by
 obtain⟨t,he,k⟩:=he
 refine⟨_,yRG he,λα ρ S σ H Rc wd sl q=>k α ρ S σ H _ wd sl (q.bind λu p S1 α1 H1 e x1 w1 d1 q1=>?_)⟩
 replace q1:=q1.shift x1
 unfold itS at q1
 split at q1
 ·rename_i S0 x
  exact⟨x,jX d1.1,q1.here (u:=Its x) w1 ⟨_,yMW,trivial,λ_ _ _ _ _ _ _ _ _ _=>trivial,cO⟩⟩
 ·exact q1.elim
def zDW:List Er->Sto->R Wk
 |[.val (.int j)],S=>if -(2 ^ 62)<=j/\j<2 ^ 62 then .ok ⟨(List.range j.toNat).map λk=>.int (k:Nat),[]⟩ S else .no
 |_,_=>.no
variable{af:Rho->Sto->R (List Er)}{p:Pos}{a b:Expr}
theorem yDT{K:PySem.W.Frag}{H0:Hp}{α:List Addr}{H:Hp}{r:Er}{vs:List V}(d:ArgsE K H0 α H [r] vs): ∃v,vs=[v]/\DenX K α H r v:=by
 cases d with
 |cons a n l=>cases l;exact⟨_,rfl,a.1⟩
theorem args2{K:PySem.W.Frag}{H0:Hp}{α:List Addr}{H:Hp}{r r':Er}{vs:List V}(d:ArgsE K H0 α H [r,r'] vs): ∃v u,vs=[v,u]/\DenX K α H r v/\DenX K α H r' u:=by
 cases d with
 |cons a n l=>obtain⟨u,rfl,l'⟩:=yDT l;exact⟨_,u,rfl,a.1,l'⟩
theorem kS(hg:Gl X "range")(hm:X.mg "range"=none)(ha:PAm X W [a] af)(hs:starEach [a] X.env=[(false,eval a X.env)]:=by rfl):PIm X W tg (.Call (.Name "range" p) [a] [] pos) (λρ S=>(af ρ S).bind zDW):=by
 obtain⟨t,ha,k⟩:=ha
 refine⟨_,yFV hg hm ha hs,λα ρ S σ H Rc wd sl q=>k α ρ S σ H _ wd sl (q.bind λvs rs S1 α1 H1 e x1 w1 d1 q1=>?_)⟩
 replace q1:=q1.shift x1
 unfold zDW at q1
 split at q1
 ·split at q1
  ·rename_i S0 j hj
   obtain⟨v,rfl,dv⟩:=yDT d1
   cases xN dv
   have:=yGJ (X:=X) (lo:=0) (n:=j.toNat)
   simp only [Int.zero_add]at this
   exact⟨j,rfl,hj.1,hj.2,q1.here (u:=Itr 0 j.toNat) w1 ⟨_,this,trivial,λ_ _ _ _ _ _ _ _ _ _=>trivial,cO⟩⟩
  ·exact q1.elim
 ·exact q1.elim
open Classical in
noncomputable def zBQ(gf:MV->Rho->Sto->R Rho)(body:Rho->Sto->R Fl)(gs:List (Nat×List MV)):List MV->Rho->Sto->R Fl
 |[],ρ,S=>.ok (.next ρ) S
 |d::ds,ρ,S=>(gf d ρ S).bind λρ0 S0=>(body ρ0 S0).bind λfl S1=>match fl with
  |.next ρ'=>if stay gs S1 then zBQ gf body gs ds ρ' S1 else .no
  |.cont ρ'=>if stay gs S1 then zBQ gf body gs ds ρ' S1 else .no
  |.brk ρ'=>.ok (.next ρ') S1
  |.ret r=>.ok (.ret r) S1
open Classical in
theorem zCF{itf:Rho->Sto->R Wk}{gf:MV->Rho->Sto->R Rho}(hp:PassesOwn (model X.prog X.w) X.A X.env X.xe)(hc:X.calm=true)(hi:PIm X W tg iter itf)(hg:PGm X W tg gf)(hb:zOI X W as F)
  (hs: ∀y,foldedSetIterable iter X.env y=pure y:=by intro _;rfl):PSm X W (.For tg iter as [] pos) (λρ S=>(itf ρ S).bind λk S1=>zBQ gf F k.gs k.ds ρ S1):=by
 obtain⟨wi,hi,ki⟩:=hi
 obtain⟨tg',hg,kg⟩:=hg
 obtain⟨tb,hb,kb⟩:=hb
 refine⟨_,yQP hp hc hi hg hb hs,λα ρ S σ H D wd sl q=>ki α ρ S σ H _ wd sl (q.expr λJ k S1 α1 H1 e x1 w1 d1 q1=>?_)⟩
 obtain⟨P,hP⟩:=d1
 have sl1:=sl.ext x1
 replace q1:=PostS.shift x1 q1
 refine⟨λn m σ2 H2=>m=k.ds.length - n/\n<=k.ds.length/\ ∃α2 ρ2 S2,Wd X.g α2 S2 H2/\Slots X.K α2 H2 ρ2 σ2/\P α2 S2 H2/\PostS X.g W α2 H2 D (zBQ gf F k.gs (k.ds.drop n) ρ2 S2),⟨_,rfl,zero_le _,α1,ρ,S1,w1,sl1,hP.here,by simpa using q1⟩,?_⟩
 rintro n m σ2 H2 ⟨rfl,hn,α2,ρ2,S2,w2,sl2,p2,q2⟩
 obtain⟨i1,i2⟩:=hP.it n α2 S2 H2 p2 w2
 by_cases hlt:n<k.ds.length
 ·obtain⟨go,yl⟩:=i1 hlt
  refine .inr ⟨go,λσ3 H3=> ∃α3 ρ3 S3,Wd X.g α3 S3 H3/\Slots X.K α3 H3 ρ3 σ3/\P α3 S3 H3/\PostS X.g W α3 H3 D (zBQ gf F k.gs (k.ds.drop (n+1)) ρ3 S3),λσ3 H3 ⟨α3,ρ3,S3,h3⟩=>⟨k.ds.length - (n+1),by omega,rfl,hlt,α3,ρ3,S3,h3⟩,λv H3 y=>?_⟩
  obtain⟨x3,w3,p3,d,hd,dv⟩:=yl v H3 y
  have hdrop:k.ds.drop n=d::k.ds.drop (n+1):=by
   rw [List.drop_eq_getElem_cons hlt]
   have:=gE0 hlt
   rw [hd]at this
   rw [<-Option.some.inj this]
  rw [hdrop]at q2
  unfold zBQ at q2
  replace q2:=PostS.shift x3 q2
  refine kg α2 ρ2 S2 σ2 H3 d v _ w3 (sl2.ext x3) dv (q2.expr λσ4 ρ4 S4 α4 H4 e4 x4 w4 s4 q4=>?_)
  have p4: ∀α5 S5 H5,Ext α4 H4 α5 H5->Wd X.g α5 S5 H5->stay k.gs S5->P α5 S5 H5:=λα5 S5 H5 x5 w5 s5=>hP.stays α2 S2 H3 α5 S5 H5 p3 (x4.trans x5) w5 s5
  refine kb α4 ρ4 S4 σ4 H4 _ w4 s4 ((PostS.shift x4 q4).stmt ?_ ?_ ?_ ?_)
  ·intro ρ5 S5 σ5 α5 H5 e5 x5 w5 s5 q5
   have q5':PostS X.g W α4 H4 D (if stay k.gs S5 then zBQ gf F k.gs (k.ds.drop (n+1)) ρ5 S5 else .no):=q5
   split at q5'
   ·rename_i hst
    exact⟨α5,ρ5,S5,w5,s5,p4 α5 S5 H5 x5 w5 hst,PostS.shift x5 q5'⟩
   ·exact q5'.elim
  ·intro r S5 v5 α5 H5 e5 x5 w5 d5 q5
   exact q5 v5 α5 H5 x5 w5 d5
  ·intro ρ5 S5 σ5 α5 H5 e5 x5 w5 s5 q5
   exact q5 σ5 α5 H5 x5 w5 s5
  ·intro ρ5 S5 σ5 α5 H5 e5 x5 w5 s5 q5
   have q5':PostS X.g W α4 H4 D (if stay k.gs S5 then zBQ gf F k.gs (k.ds.drop (n+1)) ρ5 S5 else .no):=q5
   split at q5'
   ·rename_i hst
    exact⟨α5,ρ5,S5,w5,s5,p4 α5 S5 H5 x5 w5 hst,PostS.shift x5 q5'⟩
   ·exact q5'.elim
 ·have e:n=k.ds.length:=by omega
  subst e
  refine .inl ⟨i2 (le_refl _),?_⟩
  rw [drop_length]at q2
  exact q2 σ2 α2 H2 (Ext.refl _ _) w2 sl2
end
def noX{β:Type}:R β->R β
 |.ok b S=>.ok b S
 |_=>.no
theorem wN{β:Type}(b:β)(S:Sto):noX (R.ok b S)=.ok b S:=rfl
theorem Post.bindY{β τ γ υ:Type}[Dn β τ][Dn γ υ]{g:Gm}{W:XW}{α α':List Addr}{H H':Hp}(x:Ext α H α' H'){m:R β}{k:β->Sto->R γ}{Q:υ->Hp->Prop}{Q':τ->Hp->Prop}(q:Post g W α H ((noX m).bind k) Q)
  (f: ∀u b S1 α1 H1,m=.ok b S1->Ext α' H' α1 H1->Wd g α1 S1 H1->Dn.d g H' α1 S1 H1 b u->Post g W α H (k b S1) Q->Q' u H1):Post g W0 α' H' m Q':=by
 cases m with
 |ok b S=>exact λu α1 H1 x w d=>f u b S α1 H1 rfl x w d q
 |exc c fs S=>exact q.elim
 |no=>exact q
theorem R.bind_assoc{β γ δ:Type}(m:R β)(k1:β->Sto->R γ)(k2:γ->Sto->R δ):(m.bind k1).bind k2=m.bind λb S=>(k1 b S).bind k2:=by cases m<;>rfl
def blk(nt:Nat)(idx:List Nat)(ρ:Rho):Rho:=List.replicate nt none++idx.map λi=>(ρ[i]?).join
open Classical in
noncomputable def xX(gf:MV->Rho->Sto->R Rho)(cf:Rho->Sto->R Bool)(ef:Rho->Sto->R Er)(ρb:Rho)(gs:List (Nat×List MV)):List MV->Sto->R (List MV)
 |[],S=>.ok [] S
 |d::ds,S=>(noX (gf d ρb S)).bind λρ1 S0=>(noX (cf ρ1 S0)).bind λk S1=>
  if k=true then(noX (ef ρ1 S1)).bind λr S2=>(zCD r S2).bind λy S3=>if stay gs S3 then(xX gf cf ef ρb gs ds S3).bind λout S4=>.ok (y::out) S4 else .no
  else if stay gs S1 then xX gf cf ef ρb gs ds S1 else .no
theorem yGK{K:PySem.W.Frag}{α:List Addr}{H:Hp}{ρ:Rho}{σ:St}(q:Slots K α H ρ σ)(nt:Nat)(idx:List Nat)(τ:St)(hτ:τ.length=nt):Slots K α H (blk nt idx ρ) (τ++zOF σ idx):=by
 refine⟨by unfold blk;rw [lA,lA,zDT,lM0,length_replicate,hτ],λi d e=>?_⟩
 unfold blk at e
 by_cases hi:i<nt
 ·rw [getElem?_append_left (by rw [length_replicate];exact hi),List.getElem?_replicate]at e
  split at e<;>cases e
 ·rw [getElem?_append_right (by rw [length_replicate];omega),length_replicate,getElem?_map]at e
  cases z:idx[i - nt]? with
  |none=>rw [z]at e;cases e
  |some k=>
   rw [z]at e
   have e2:(ρ[k]?).join=some d:=Option.some.inj e
   cases z2:ρ[k]? with
   |none=>rw [z2]at e2;cases e2
   |some o=>
    rw [z2]at e2
    have e3:o=some d:=e2
    subst e3
    obtain⟨v,h1,h2⟩:=q.slot k d z2
    refine⟨v,?_,h2⟩
    rw [getElem?_append_right (by omega),hτ]
    unfold zOF
    rw [getElem?_map,z]
    show some (σ[k]?).join=some (some v)
    rw [h1];rfl
def Keeps(nt:Nat)(σ:St)(Q:St->Hp->Prop):St->Hp->Prop:=λσ' H'=>σ'.length=σ.length->(∀j,nt<=j->σ'[j]? =σ[j]?)->Q σ' H'
def PGn(nt:Nat)(X:Cx)(W:XW)(tg:Expr)(gf:MV->Rho->Sto->R Rho):Prop:=
 ∃t,PG X tg t/\ ∀α ρ S σ H d v Q,Wd X.g α S H->Slots X.K α H ρ σ->Den X.K α H d v->Post X.g W α H (gf d ρ S) (Keeps nt σ Q)->t v σ H Q
def PGsn(nt:Nat)(X:Cx)(W:XW)(tgs:List Expr)(gf:List MV->Rho->Sto->R Rho):Prop:=
 ∃t,PGs X tgs t/\ ∀α ρ S σ H ds vs Q,Wd X.g α S H->Slots X.K α H ρ σ->DenL X.K α H ds vs->Post X.g W α H (gf ds ρ S) (Keeps nt σ Q)->t vs σ H Q
section
variable{X:Cx}{W:XW}{e:Expr}{pos:Pos}{nt:Nat}
theorem kP(i:Nat){x:Str}(hN:X.N.Nodup)(hi:X.N[i]? =some x:=by rfl)(hx:Loc X.env.scope x:=by first |exact Or.inl rfl|exact Or.inr rfl)(hf:X.fn x=true\/X.env.scope.names.lookup x=some .local:=by first |exact .inl rfl|exact .inr rfl|assumption)(hlt:i<nt:=by decide):
  PGn nt X W (.Name x pos) (gNm i):=⟨_,yDG hN hi hx hf,λα ρ S σ H d v Q wd sl de q=>Post.here (b:=ρ.set i (some d)) q wd (sl.set de) (by rw [length_set]) λj hj=>by rw [getElem?_set_ne (by omega)]⟩
theorem yRO:PGsn nt X W [] kR:=⟨_,yDH,λα ρ S σ H ds vs Q wd sl de q=>by
 cases ds with
 |nil=>exact⟨de.isnil,Post.here (b:=ρ) q wd sl rfl λ_ _=>rfl⟩
 |cons d ds=>exact q.elim⟩
theorem Post.keeps{g:Gm}{W:XW}{α:List Addr}{H:Hp}{m:R Rho}{σ σ1:St}{Q:St->Hp->Prop}(h1:σ1.length=σ.length)(h2: ∀j,nt<=j->σ1[j]? =σ[j]?)(q:Post g W α H m (Keeps nt σ Q)):Post g W α H m (Keeps nt σ1 Q):=by
 cases m with
 |ok b S=>exact λu α1 H1 x w d k1 k2=>q u α1 H1 x w d (k1.trans h1) λj hj=>(k2 j hj).trans (h2 j hj)
 |exc c fs S=>exact q
 |no=>exact q
theorem yDU{es:List Expr}{g1:MV->Rho->Sto->R Rho}{g2:List MV->Rho->Sto->R Rho}(h1:PGn nt X W e g1)(h2:PGsn nt X W es g2)(hs:(assignEach (e::es) X.env).map (·.2)=assign e X.env::(assignEach es X.env).map (·.2):=by rfl):PGsn nt X W (e::es) (zX g1 g2):=by
 obtain⟨t1,h1,k1⟩:=h1
 obtain⟨t2,h2,k2⟩:=h2
 refine⟨_,zXY h1 h2 hs,λα ρ S σ H ds vs Q wd sl de q=>?_⟩
 cases ds with
 |nil=>exact q.elim
 |cons d ds=>
  obtain⟨v,r,rfl,a,l⟩:=de.uncons
  refine⟨v,r,rfl,k1 α ρ S σ H d v _ wd sl a (Post.bind q λu p S1 α1 H1 e x1 w1 d1 q1 k1 k2'=>k2 α1 p S1 u H1 ds r Q w1 d1 (l.ext x1) (Post.keeps k1 k2' (q1.shift x1)))⟩
theorem yRP{es:List Expr}{k n:Nat}{g2:List MV->Rho->Sto->R Rho}(hc:X.calm=true)(h:PGsn nt X W es g2)
  (hn:(assignEach es X.env).length=n:=by rfl) (hst:(assignEach es X.env).findIdx? (·.1)=none:=by rfl):PGn nt X W (.Tuple es k pos) (gTp n g2):=by
 obtain⟨t,h,k⟩:=h
 refine⟨_,yHX hc h hn hst,λα ρ S σ H d v Q wd sl de q=>?_⟩
 unfold gTp at q
 split at q
 ·split at q
  ·rename_i hl
   obtain⟨a,vs,rfl,s,l⟩:=jW de
   exact⟨a,vs,rfl,s,by rw [l.length];exact hl,k α ρ S σ H _ vs Q wd sl l q⟩
  ·exact q.elim
 ·exact q.elim
end
abbrev yIW(X:Cx)(W:XW)(ifs:List Expr)(f:Rho->Sto->R Bool):Prop:=Jd X W (yGC X ifs) f
section
variable{X:Cx}{W:XW}{iter:Expr}{c:Expr}{tf:Rho->Sto->R Bool}{pos:Pos}
theorem hU:yIW X W [] (λ_ S=>.ok true S):=⟨_,yIM,λα ρ S σ H Q wd sl q=>q.here wd rfl⟩
theorem yMX(h:PTm X W c tf):yIW X W [c] tf:=let ⟨t,h,k⟩:=h;⟨t,yIN h,k⟩
open Classical in
theorem yDV{elt tg:Expr}{ifs:List Expr}{sc:Scope}{itf:Rho->Sto->R Wk}{cf:Rho->Sto->R Bool}{ef:Rho->Sto->R Er}{gf:MV->Rho->Sto->R Rho}(osc:Scope)(N:List Str)(T:List Str)(idx:List Nat)
  (hi:PIm X W tg iter itf) (hcalm:X.calm=true)
  (hg: ∀C s₂ H1 fp,([]++T++idx.map λi=>(N[i]?).getD Str.empty).Nodup->PGn T.length (yS X sc T idx C s₂ H1 fp) W0 tg gf)
  (hc: ∀C s₂ H1 fp,yIW (yS X sc T idx C s₂ H1 fp) W0 ifs cf) (he: ∀C s₂ H1 fp,PEm (yS X sc T idx C s₂ H1 fp) W0 elt ef)
  (e1:X.env.scope=osc:=by rfl) (e2:X.N=N:=by rfl) (hB:zPP osc N sc idx=true:=by decide+kernel) (hN:([]++T++idx.map λi=>(N[i]?).getD Str.empty).Nodup:=by decide+kernel)
  (hs: ∀y,foldedSetIterable iter X.env y=pure y:=by intro _;rfl):
  Jd (β:=Er) (τ:=V) X W (λt=>PE X (.ListComp elt [⟨tg,iter,ifs,0⟩] sc pos) t/\PU X (.ListComp elt [⟨tg,iter,ifs,0⟩] sc pos) t) (λρ S=>(itf ρ S).bind λk S1=>if k.ds.length<1000000 then(xX gf cf ef (blk T.length idx ρ) k.gs k.ds S1).bind λout S2=>.ok (.new out) S2 else .no):=by
 obtain⟨wi,hi,ki⟩:=hi
 subst e1 e2
 have big:(1000000:Nat)<sizeLine:=by rw [sizeLine_eq];decide
 have hg': ∃t,(∀C s₂ H1 fp,PG (yS X sc T idx C s₂ H1 fp) tg t)/\ ∀α ρ S σ H d v Q,Wd X.g α S H->Slots X.K α H ρ σ->Den X.K α H d v->Post X.g W0 α H (gf d ρ S) (Keeps T.length σ Q)->t v σ H Q:=by
  refine⟨λv σ H Q=> ∃α ρ S d,Wd X.g α S H/\Slots X.K α H ρ σ/\Den X.K α H d v/\Post X.g W0 α H (gf d ρ S) (Keeps T.length σ Q),λC s₂ H1 fp pins s σ H v u Q I r ⟨α,ρ,S,d,h1,h2,h3,h4⟩=>?_,λα ρ S σ H d v Q h1 h2 h3 h4=>⟨α,ρ,S,d,h1,h2,h3,h4⟩⟩
  obtain⟨t,ht,kt⟩:=hg C s₂ H1 fp hN
  exact ht pins s σ H v u Q I r (kt α ρ S σ H d v Q h1 h2 h3 h4)
 obtain⟨tg',hg1,kg⟩:=hg'
 refine⟨_,⟨yMO T idx hi hcalm hB hg1 (λC s₂ H1 fp=>(Classical.choose_spec (hc C s₂ H1 fp)).1) (λC s₂ H1 fp=>(Classical.choose_spec (he C s₂ H1 fp)).1) hs,yMR T idx hi hcalm hB hg1 (λC s₂ H1 fp=>(Classical.choose_spec (hc C s₂ H1 fp)).1) (λC s₂ H1 fp=>(Classical.choose_spec (he C s₂ H1 fp)).1) hs⟩,λα ρ S σ H Q wd sl q=>ki α ρ S σ H _ wd sl (q.bind λJ k S1 α1 H1 e1 x1 w1 d1 q1=>?_)⟩
 obtain⟨P,hP⟩:=d1
 split at q1
 ·rename_i hlen
  refine⟨λn m ys H2=>m=k.ds.length - n/\n<=k.ds.length/\ys.length<=n/\ ∃α2 S2,Ext α H α2 H2/\Wd X.g α2 S2 H2/\P α2 S2 H2/\ ∃outs,DenL X.K α2 H2 outs ys/\Post X.g W α H ((xX gf cf ef (blk T.length idx ρ) k.gs (k.ds.drop n) S2).bind λo S'=>.ok (Er.new (outs++o)) S') Q,
   ⟨_,rfl,zero_le _,le_refl _,α1,S1,x1,w1,hP.here,[],wM,by simpa using q1⟩,?_⟩
  rintro n m ys H2 ⟨rfl,hn,hy,α2,S2,x2,w2,p2,outs,l,q2⟩
  obtain⟨i1,i2⟩:=hP.it n α2 S2 H2 p2 w2
  refine⟨by omega,?_⟩
  by_cases hlt:n<k.ds.length
  ·obtain⟨go,yl⟩:=i1 hlt
   refine .inr ⟨go,by omega,λv H3 y τ hτ=>?_⟩
   obtain⟨x3,w3,p3,d,hd,dv⟩:=yl v H3 y
   have hdrop:k.ds.drop n=d::k.ds.drop (n+1):=by
    rw [List.drop_eq_getElem_cons hlt]
    have:=gE0 hlt
    rw [hd]at this
    rw [<-Option.some.inj this]
   rw [hdrop]at q2
   unfold xX at q2
   have slb:=yGK (sl.ext (x2.trans x3)) T.length idx τ hτ
   refine kg α2 (blk T.length idx ρ) S2 _ H3 d v _ w3 slb dv ?_
   rw [R.bind_assoc]at q2
   refine q2.bindY (x2.trans x3) λσ4 ρ4 S4 α4 H4 e4 x4 w4 s4 q4 len4 kp4=>⟨⟨σ4.take T.length,?_,?_⟩,λC s₂ fp=>?_⟩
   ·refine ext_getElem? λj=>?_
    have hl4:σ4.length=T.length+idx.length:=by rw [len4,lA,zDT,hτ]
    by_cases hj:j<T.length
    ·rw [getElem?_append_left (by rw [lT0];omega),List.getElem?_take_of_lt hj]
    ·rw [kp4 j (by omega),getElem?_append_right (by omega),getElem?_append_right (by rw [lT0];omega),hτ,lT0,min_eq_left (by omega)]
   ·rw [lT0,len4,lA,zDT,hτ];omega
   have x34:Ext α H α4 H4:=(x2.trans x3).trans x4
   have p4: ∀α5 S5 H5,Ext α4 H4 α5 H5->Wd X.g α5 S5 H5->stay k.gs S5->P α5 S5 H5:=λα5 S5 H5 x5 w5 s5=>hP.stays α2 S2 H3 α5 S5 H5 p3 (x4.trans x5) w5 s5
   rw [R.bind_assoc]at q4
   refine(Classical.choose_spec (hc C s₂ H1 fp)).2 α4 ρ4 S4 σ4 H4 _ w4 s4 (q4.bindY x34 λb5 b5' S5 α5 H5 e5 x5 w5 d5 q5=>?_)
   cases d5
   cases b5 with
   |false=>
    rw [iN0 xF0]at q5 ⊢
    split at q5
    ·rename_i hst
     exact⟨k.ds.length - (n+1),by omega,rfl,hlt,by omega,α5,S5,x34.trans x5,w5,p4 α5 S5 H5 x5 w5 hst,outs,(l.ext (x3.trans x4)).ext x5,q5⟩
    ·exact q5.elim
   |true=>
    rw [iP rfl,R.bind_assoc]at q5
    rw [iP rfl]
    refine(Classical.choose_spec (he C s₂ H1 fp)).2 α5 ρ4 S5 σ4 H5 _ w5 (s4.ext x5) (q5.bindY (x34.trans x5) λy6 r6 S6 α6 H6 e6 x6 w6 d6 q6=>?_)
    obtain⟨d',S',α',e7,x7,y7,w7,de⟩:=zFZ w6 x6 d6
    rw [e7]at q6
    have q6:Post X.g W α H ((if stay k.gs S' then(xX gf cf ef (blk T.length idx ρ) k.gs (k.ds.drop (n+1)) S').bind λout S4=>.ok (d'::out) S4 else .no).bind λo S'=>.ok (Er.new (outs++o)) S') Q:=q6
    split at q6
    ·rename_i hst
     refine⟨k.ds.length - (n+1),by omega,rfl,hlt,by rw [lA,lS];omega,α',S',(x34.trans x5).trans x7,w7,p4 α' S' H6 (x5.trans x7) w7 hst,outs++[d'],((l.ext (x3.trans x4)).ext (x5.trans x7)).append (xH de wM),?_⟩
     rw [R.bind_assoc]at q6
     have e8:(λ(o:List MV) (S':Sto)=>R.ok (Er.new ((outs++[d'])++o)) S')=(λ(b:List MV) S=>(R.ok (d'::b) S).bind λo S'=>.ok (Er.new (outs++o)) S'):=by
      funext o S'
      show _=R.ok (Er.new (outs++(d'::o))) S'
      rw [aA];rfl
     rw [e8]
     exact q6
    ·exact q6.elim
  ·have e:n=k.ds.length:=by omega
   subst e
   rw [drop_length]at q2
   have q3:Post X.g W α H (.ok (Er.new (outs++[])) S2) Q:=q2
   rw [aN]at q3
   exact .inl ⟨i2 (le_refl _),λD hD=>(q3.shift x2).newl w2 hD l⟩
 ·exact q1.elim
open Classical in
theorem bQ{elt tg:Expr}{ifs:List Expr}{sc:Scope}{itf:Rho->Sto->R Wk}{cf:Rho->Sto->R Bool}{ef:Rho->Sto->R Er}{gf:MV->Rho->Sto->R Rho}(osc:Scope)(N:List Str)(T:List Str)(idx:List Nat)
  (hi:PIm X W tg iter itf) (hcalm:X.calm=true)
  (hg: ∀C s₂ H1 fp,([]++T++idx.map λi=>(N[i]?).getD Str.empty).Nodup->PGn T.length (yS X sc T idx C s₂ H1 fp) W0 tg gf)
  (hc: ∀C s₂ H1 fp,yIW (yS X sc T idx C s₂ H1 fp) W0 ifs cf) (he: ∀C s₂ H1 fp,PEm (yS X sc T idx C s₂ H1 fp) W0 elt ef)
  (e1:X.env.scope=osc:=by rfl) (e2:X.N=N:=by rfl) (hB:zPP osc N sc idx=true:=by decide+kernel) (hN:([]++T++idx.map λi=>(N[i]?).getD Str.empty).Nodup:=by decide+kernel)
  (hs: ∀y,foldedSetIterable iter X.env y=pure y:=by intro _;rfl):
  PEm X W (.ListComp elt [⟨tg,iter,ifs,0⟩] sc pos) (λρ S=>(itf ρ S).bind λk S1=>if k.ds.length<1000000 then(xX gf cf ef (blk T.length idx ρ) k.gs k.ds S1).bind λout S2=>.ok (.new out) S2 else .no):=let ⟨t,h,k⟩:=(yDV osc N T idx hi hcalm hg hc he e1 e2 hB hN hs);⟨t,h.1,k⟩
open Classical in
theorem zWA{x:Str}{pos' spos:Pos}(i:Nat)(hNN:X.N.Nodup){elt tg:Expr}{ifs:List Expr}{sc:Scope}{itf:Rho->Sto->R Wk}{cf:Rho->Sto->R Bool}{ef:Rho->Sto->R Er}{gf:MV->Rho->Sto->R Rho}(osc:Scope)(N:List Str)(T:List Str)(idx:List Nat)
  (hi:PIm X W tg iter itf) (hcalm:X.calm=true)
  (hg: ∀C s₂ H1 fp,([]++T++idx.map λi=>(N[i]?).getD Str.empty).Nodup->PGn T.length (yS X sc T idx C s₂ H1 fp) W0 tg gf)
  (hc: ∀C s₂ H1 fp,yIW (yS X sc T idx C s₂ H1 fp) W0 ifs cf) (he: ∀C s₂ H1 fp,PEm (yS X sc T idx C s₂ H1 fp) W0 elt ef)
  (e1:X.env.scope=osc:=by rfl) (e2:X.N=N:=by rfl) (hB:zPP osc N sc idx=true:=by decide+kernel) (hN:([]++T++idx.map λi=>(N[i]?).getD Str.empty).Nodup:=by decide+kernel)
  (hs: ∀y,foldedSetIterable iter X.env y=pure y:=by intro _;rfl)
  (hi2:X.N[i]? =some x:=by rfl) (hx:Loc X.env.scope x:=by first |exact Or.inl rfl|exact Or.inr rfl)
  (hsw:swapsWith (.ListComp elt [⟨tg,iter,ifs,0⟩] sc pos) (some (.Name x pos')) spos.line X.env=pure true:=by with_unfolding_all rfl) (hf:X.fn x=true\/X.env.scope.names.lookup x=some .local:=by first |exact .inl rfl|exact .inr rfl|assumption):
  PSm X W (.Assign [.Name x pos'] (.ListComp elt [⟨tg,iter,ifs,0⟩] sc pos) spos) (λρ S=>((itf ρ S).bind λk S1=>if k.ds.length<1000000 then(xX gf cf ef (blk T.length idx ρ) k.gs k.ds S1).bind λout S2=>.ok (.new out) S2 else .no).bind (zYQ ρ i)):=by
 obtain⟨t,h,k⟩:=(yDV osc N T idx hi hcalm hg hc he e1 e2 hB hN hs)
 refine⟨_,h.2 i x pos' spos hNN hi2 hx hf hsw,λα ρ S σ H D wd sl q=>k α ρ S σ H _ wd sl (q.expr λu r S1 α1 H1 e x1 w1 d1 q1=>?_)⟩
 obtain⟨d',S',α',e1,x',y',w',de⟩:=zFZ w1 x1 d1
 unfold zYQ at q1
 rw [e1]at q1
 exact q1 _ α' H1 x' w' (((sl.ext x1).ex0 y').set de)
end
mutual
def lo(n:Nat):MV->Prop
 |.loc l=>l<n
 |.tup ds=>loL n ds
 |.scr ds=>loL n ds
 |_=>True
def loL(n:Nat):List MV->Prop
 |[]=>True
 |d::ds=>lo n d/\loL n ds
end
def loO(n:Nat):MO->Prop
 |.lst ds=>loL n ds
 |.dic kvs=> ∀p∈kvs,lo n p.1/\lo n p.2
 |.ins _ fs=> ∀p∈fs,lo n p.2
section
variable{K:PySem.W.Frag}{α t:List Addr}{H:Hp}
mutual
theorem Den.back: ∀{d:MV}{v:V},Den K (α++t) H d v->lo α.length d->Den K α H d v
 |.non,_,q,_=>by cases zBZ q;exact zBN
 |.bl _,_,q,_=>by cases zFV q;exact wL _
 |.int _,_,q,_=>by cases gV q;exact wD _
 |.str _,_,q,_=>by cases bW q;exact zBO _
 |.typ _,_,q,_=>by cases zCA q;exact yDO _
 |.loc l,_,q,h=>by
  obtain⟨a,rfl,e⟩:=dS q
  have hl:l<α.length:=by unfold lo at h;exact h
  rw [getElem?_append_left hl]at e
  exact zMX e
 |.tup ds,_,q,h=>by
  obtain⟨a,vs,rfl,s,l⟩:=jW q
  exact nV s (DenL.back l (by unfold lo at h;exact h))
 |.scr ds,_,q,h=>by
  obtain⟨a,vs,rfl,s,l⟩:=zAP q
  exact yDP s (DenL.back l (by unfold lo at h;exact h))
theorem DenL.back: ∀{ds:List MV}{vs:List V},DenL K (α++t) H ds vs->loL α.length ds->DenL K α H ds vs
 |[],_,q,_=>by rw [q.isnil];exact wM
 |d::ds,_,q,h=>by
  obtain⟨v,r,rfl,a,l⟩:=q.uncons
  unfold loL at h
  exact xH (Den.back a h.1) (DenL.back l h.2)
end
mutual
theorem Den.lo: ∀{d:MV}{v:V},Den K α H d v->lo α.length d
 |.non,_,q=>by unfold M.lo;trivial
 |.bl _,_,q=>by unfold M.lo;trivial
 |.int _,_,q=>by unfold M.lo;trivial
 |.str _,_,q=>by unfold M.lo;trivial
 |.typ _,_,q=>by unfold M.lo;trivial
 |.loc l,_,q=>by
  obtain⟨a,rfl,e⟩:=dS q
  unfold M.lo
  exact(gS0.mp e).1
 |.tup ds,_,q=>by
  obtain⟨a,vs,rfl,s,l⟩:=jW q
  unfold M.lo
  exact DenL.lo l
 |.scr ds,_,q=>by
  obtain⟨a,vs,rfl,s,l⟩:=zAP q
  unfold M.lo
  exact DenL.lo l
theorem DenL.lo: ∀{ds:List MV}{vs:List V},DenL K α H ds vs->loL α.length ds
 |[],_,q=>by unfold loL;trivial
 |d::ds,_,q=>by
  obtain⟨v,r,rfl,a,l⟩:=q.uncons
  unfold loL
  exact⟨Den.lo a,DenL.lo l⟩
end
theorem DenK.back: ∀{fs gs},DenK K (α++t) H fs gs->(∀p∈fs,M.lo α.length p.1/\M.lo α.length p.2)->DenK K α H fs gs
 |_,_,.nil,_=>.nil
 |_,_,.cons k a l,h=>.cons k (a.back (h _ mF0).2) (DenK.back l λp hp=>h p (mO _ hp))
theorem KeyD.lo{n:Nat}{k:MV}{k':Key}(h:KeyD k k'):M.lo n k:=by
 unfold KeyD at h
 split at h
 ·unfold M.lo;trivial
 ·unfold M.lo;trivial
 ·exact h.elim
theorem DenK.lo: ∀{fs gs},DenK K α H fs gs-> ∀p∈fs,M.lo α.length p.1/\M.lo α.length p.2
 |_,_,.nil=>λp h=>by simp at h
 |_,_,.cons k a l=>λp h=>(mC.mp h).elim (λe=>by subst e;exact⟨k.lo,a.lo⟩) (DenK.lo l p)
theorem DenN.back: ∀{fs xs},DenN K (α++t) H fs xs->(∀p∈fs,M.lo α.length p.1/\M.lo α.length p.2)->DenN K α H fs xs
 |_,_,.nil,_=>.nil
 |_,_,.cons k e a d r l,h=>.cons k e (a.back (h _ mF0).1) (d.back (h _ mF0).2) r (DenN.back l λp hp=>h p (mO _ hp))
theorem DenN.lo: ∀{fs xs},DenN K α H fs xs-> ∀p∈fs,M.lo α.length p.1/\M.lo α.length p.2
 |_,_,.nil=>λp h=>by simp at h
 |_,_,.cons k e a d r l=>λp h=>(mC.mp h).elim (λz=>by subst z;exact⟨a.lo,d.lo⟩) (DenN.lo l p)
theorem DenF.back: ∀{fs gs},DenF K (α++t) H fs gs->(∀p∈fs,M.lo α.length p.2)->DenF K α H fs gs
 |_,_,.nil,_=>.nil
 |_,_,.cons a l,h=>.cons (a.back (h _ mF0)) (DenF.back l λp hp=>h p (mO _ hp))
theorem DenF.lo: ∀{fs gs},DenF K α H fs gs-> ∀p∈fs,M.lo α.length p.2
 |_,_,.nil=>λp h=>by simp at h
 |_,_,.cons a l=>λp h=>(mC.mp h).elim (λe=>by subst e;exact a.lo) (DenF.lo l p)
theorem ObD.back{g:Gm}{a:Addr}{o:MO}(q:ObD g (α++t) H a o)(h:loO α.length o):ObD g α H a o:=by
 cases o with
 |lst ds=>obtain⟨vs,h1,l⟩:=q;exact⟨vs,h1,l.back h⟩
 |dic ds=>
  rcases q with⟨vs,h1,l⟩|⟨vs,h1,l⟩
  ·exact .inl ⟨vs,h1,l.back h⟩
  ·exact .inr ⟨vs,h1,l.back h⟩
 |ins c fs=>obtain⟨C,gs,m,l,r⟩:=q;exact⟨C,gs,m,l.back h,r⟩
theorem ObD.lo{g:Gm}{a:Addr}{o:MO}(q:ObD g α H a o):loO α.length o:=by
 cases o with
 |lst ds=>obtain⟨vs,h1,l⟩:=q;exact l.lo
 |dic ds=>
  rcases q with⟨vs,h1,l⟩|⟨vs,h1,l⟩
  ·exact l.lo
  ·exact l.lo
 |ins c fs=>obtain⟨C,gs,m,l,r⟩:=q;exact l.lo
end
def zYR(S S2:Sto):Prop:=S.length<=S2.length/\ ∀l,l<S.length->S2[l]? =S[l]? \/ ∃o,S2[l]? =some o/\loO S.length o
open Classical in
noncomputable def cP(S:Sto)(r:Er)(S2:Sto):R Er:=
 if zYR S S2 then match r with
  |.val (.loc l)=>if l<S.length then .ok r (S2.take S.length)else match S2[l]? with
   |some (.lst ds)=>if loL S.length ds then .ok (.new ds) (S2.take S.length)else .ok r S2
   |_=>.ok r S2
  |.val d=>if lo S.length d then .ok r (S2.take S.length)else .ok r S2
  |.new ds=>if loL S.length ds then .ok r (S2.take S.length)else .ok r S2
 else .ok r S2
theorem zWB{g:Gm}{α α1 α2 α3:List Addr}{H H1 H3:Hp}{S1 S3:Sto}{r:Er}{v:V}(x1:Ext α H α1 H1)(w1:Wd g α1 S1 H1)(h12: ∃t,α2=α1++t)(x2:Ext α H α2 H1)(x3:Ext α2 H1 α3 H3)(w3:Wd g α3 S3 H3)(d:DenE g.K H1 α3 H3 r v):
  ∃r' S' α',cP S1 r S3=.ok r' S'/\Ext α H α' H3/\Wd g α' S' H3/\DenE g.K H α' H3 r' v:=by
 have x23:=x2.trans x3
 have dfull:DenE g.K H α3 H3 r v:=d.back λb h=>x1.free h
 unfold cP
 by_cases hc:zYR S1 S3
 ·rw [iP hc]
  obtain⟨t,ht⟩: ∃t,α3=α1++t:=by
   obtain⟨t,e⟩:=h12
   obtain⟨u,e'⟩:=x3.pre
   exact⟨t++u,by rw [e',e,aA]⟩
  have hn:α1.length=S1.length:=w1.len
  have xc:Ext α H α1 H3:=⟨⟨x1.pre,x23.tup,x23.frz⟩,x1.new,x23.keep,x23.has⟩
  have wc:Wd g α1 (S3.take S1.length) H3:=by
   refine⟨by rw [lT0,hn,min_eq_left hc.1],w1.nd,λl a o h1 h2=>?_⟩
   have hl:l<S1.length:=by rw [<-hn];exact(gS0.mp h1).1
   rw [List.getElem?_take_of_lt hl]at h2
   have h1':α3[l]? =some a:=by rw [ht,getElem?_append_left (by rw [hn];exact hl)];exact h1
   have q:=w3.obj l a o h1' h2
   rw [ht]at q
   refine q.back ?_
   rcases hc.2 l hl with e|⟨o',e,lo'⟩
   ·rw [e]at h2
    exact(w1.obj l a o h1 h2).lo
   ·rw [h2]at e
    cases e
    rw [hn];exact lo'
  have dlo: ∀d,lo S1.length d->Den g.K α3 H3 d v->DenE g.K H α1 H3 (.val d) v:=λd hd q=>.val ((ht▸q:Den g.K (α1++t) H3 d v).back (by rw [hn];exact hd))
  cases r with
  |new ds=>
   dsimp only
   split
   ·rename_i hl
    obtain⟨⟨b,vs,rfl,h1,h2,h3⟩,h4⟩:=dfull
    exact⟨_,_,α1,rfl,xc,wc,⟨b,vs,rfl,h1,λz=>h2 (by rw [ht];exact mem_append_left _ z),(ht▸h3:DenL g.K (α1++t) H3 ds vs).back (by rw [hn];exact hl)⟩,h4⟩
   ·exact⟨_,_,α3,rfl,x23,w3,dfull⟩
  |val mv=>
   have dd:Den g.K α3 H3 mv v:=dfull.1
   cases mv with
   |loc l=>
    dsimp only
    split
    ·rename_i hl
     exact⟨_,_,α1,rfl,xc,wc,dlo _ (by unfold lo;exact hl) dd⟩
    ·rename_i hl
     obtain⟨a,rfl,ha⟩:=dS dd
     split
     ·rename_i ds hS
      split
      ·rename_i hlo
       obtain⟨vs,h1,h2⟩:=w3.obj l a _ ha hS
       have hna:a∉α1:=λz=>by
        obtain⟨m,hm⟩:=List.getElem?_of_mem z
        have hml:m<α1.length:=(gS0.mp hm).1
        have hm':α3[m]? =some a:=by rw [ht,getElem?_append_left hml];exact hm
        obtain⟨u1,e1⟩:=gS0.mp hm'
        obtain⟨u2,e2⟩:=gS0.mp ha
        have:=(getElem_inj w3.nd).mp (e1.trans e2.symm)
        omega
       refine⟨_,_,α1,rfl,xc,wc,⟨a,vs,rfl,h1,hna,(ht▸h2:DenL g.K (α1++t) H3 ds vs).back (by rw [hn];exact hlo)⟩,λb e=>?_⟩
       cases e
       rcases x23.new a (mem_of_getElem? ha)with z|z
       ·obtain⟨u,eu⟩:=x1.pre
        exact absurd (by rw [eu];exact mem_append_left _ z) hna
       ·exact z
      ·exact⟨_,_,α3,rfl,x23,w3,dfull⟩
     ·exact⟨_,_,α3,rfl,x23,w3,dfull⟩
   |non=>dsimp only;split;(· rename_i hl;exact⟨_,_,α1,rfl,xc,wc,dlo _ hl dd⟩);(· exact⟨_,_,α3,rfl,x23,w3,dfull⟩)
   |bl b=>dsimp only;split;(· rename_i hl;exact⟨_,_,α1,rfl,xc,wc,dlo _ hl dd⟩);(· exact⟨_,_,α3,rfl,x23,w3,dfull⟩)
   |int b=>dsimp only;split;(· rename_i hl;exact⟨_,_,α1,rfl,xc,wc,dlo _ hl dd⟩);(· exact⟨_,_,α3,rfl,x23,w3,dfull⟩)
   |str b=>dsimp only;split;(· rename_i hl;exact⟨_,_,α1,rfl,xc,wc,dlo _ hl dd⟩);(· exact⟨_,_,α3,rfl,x23,w3,dfull⟩)
   |typ b=>dsimp only;split;(· rename_i hl;exact⟨_,_,α1,rfl,xc,wc,dlo _ hl dd⟩);(· exact⟨_,_,α3,rfl,x23,w3,dfull⟩)
   |tup b=>dsimp only;split;(· rename_i hl;exact⟨_,_,α1,rfl,xc,wc,dlo _ hl dd⟩);(· exact⟨_,_,α3,rfl,x23,w3,dfull⟩)
   |scr b=>dsimp only;split;(· rename_i hl;exact⟨_,_,α1,rfl,xc,wc,dlo _ hl dd⟩);(· exact⟨_,_,α3,rfl,x23,w3,dfull⟩)
 ·rw [iN0 hc]
  exact⟨_,_,α3,rfl,x23,w3,dfull⟩
def spM(g:Gm)(n:Nat)(F:List MV->Sto->R Er):Sp:=λvs H Q _=> ∃α S ds,Wd g α S H/\DenL g.K α H ds vs/\ds.length=n/\Post g W0 α H (F ds S) Q
noncomputable def zO(n:Nat)(F:List MV->Sto->R Er)(rs:List Er)(S:Sto):R Er:=if rs.length=n then(noX (F (zR rs S).1 (zR rs S).2)).bind λr S2=>cP S r S2 else .no
section
variable{X:Cx}{W:XW}{e:Expr}{es:List Expr}{af:Rho->Sto->R (List Er)}{pos:Pos}
theorem zUP{n:Nat}{F:List MV->Sto->R Er}{rs:List Er}{vs:List V}{α α1:List Addr}{H H1:Hp}{S1:Sto}{Q:VK}(x1:Ext α H α1 H1)(w1:Wd X.g α1 S1 H1)(d1:ArgsE X.K H α1 H1 rs vs)(q:Post X.g W α H (zO n F rs S1) Q):
  spM X.g n F vs H1 Q E0:=by
 unfold zO at q
 split at q
 ·rename_i hl
  obtain⟨α2,x2,y2,w2,l2⟩:=zFY w1 x1 d1
  refine⟨α2,_,_,w2,l2,by rw [zKQ];exact hl,?_⟩
  cases z:F (zR rs S1).1 (zR rs S1).2 with
  |ok r S3=>
   rw [z]at q
   intro v α3 H3 x3 w3 d3
   obtain⟨r',S',α',e',x',w',d'⟩:=zWB x1 w1 y2.pre x2 x3 w3 d3
   have q:Post X.g W α H (cP S1 r S3) Q:=q
   rw [e']at q
   exact q v α' H3 x' w' d'
  |exc c fs S3=>rw [z]at q;exact q.elim
  |no=>rw [z]at q;exact q.elim
 ·exact q.elim
theorem yDW{k n:Nat}{fa:Addr}{fd:FuncData}{ps:List Str}{F:List MV->Sto->R Er}{x:Str}{p:Pos}(G:FnOk X.prog X.w X.K X.mg X.base CX0 k fa fd ps (spM X.g n F))(hr:Room k X.A)(hg:Gl X x)(hm:X.mg x=some (.ref fa))
  (hk:PySem.W.keepIn X.K (.ref fa)=true) (hb:Binds X.K fd ps []) (ha:PAm X W (e::es) af) (hdb:(x==("__debug__":Str))=false:=by decide)
  (he:starEach (e::es) X.env=(false,eval e X.env)::starEach es X.env:=by rfl) (hpl:(backTo pos (starEach es X.env)).any (·.1)=false:=by rfl):
  PEm X W (.Call (.Name x p) (e::es) [] pos) (λρ S=>(af ρ S).bind λrs S1=>zO n F rs S1):=by
 obtain⟨t,ha,kk⟩:=ha
 refine⟨_,yDJ G hr hg hm hk hb .nil pass0 ha hdb he hpl,λα ρ S σ H Q wd sl q=>kk α ρ S σ H _ wd sl (q.bind λvs rs S1 α1 H1 e1 x1 w1 d1 q1=>?_)⟩
 rw [aN]
 exact zUP x1 w1 d1 q1
end
def zS(N:List Str)(ds:List MV):Rho:=ds.map some++List.replicate (N.length - ds.length) none
def yH:R Fl->R Er
 |.ok (.next _) S=>.ok (.val .non) S
 |.ok (.ret r) S=>.ok r S
 |.exc c fs S=>.exc c fs S
 |_=>.no
theorem zIY{K:PySem.W.Frag}{α:List Addr}{N:List Str}{H:Hp}{ds:List MV}{vs:List V}(l:DenL K α H ds vs):Slots K α H (zS N ds) (start N vs):=by
 have hlen:=l.length
 refine⟨?_,λi d e=>?_⟩
 ·unfold start zS
  rw [lA,lA,lM0,lM0,length_replicate,length_replicate,hlen]
 ·unfold zS at e
  by_cases hi:i<ds.length
  ·rw [getElem?_append_left (by simpa using hi),getElem?_map]at e
   cases z:ds[i]? with
   |none=>rw [z]at e;cases e
   |some d'=>
    rw [z]at e
    obtain⟨v,h1,h2⟩:=l.at z
    have e':d'=d:=Option.some.inj (Option.some.inj e)
    subst e'
    refine⟨v,?_,h2⟩
    unfold start
    rw [getElem?_append_left (by rw [lM0,hlen];exact hi),getElem?_map,h1];rfl
  ·rw [getElem?_append_right (by simpa using hi),List.getElem?_replicate]at e
   split at e<;>cases e
section
variable{P:Program}{w:World}{K:PySem.W.Frag}{mg:Str->Option Value}{base:Heap}
theorem okM{x qual:Str}{st:Stmt}{f:Addr}{fd:FuncData}{N ps:List Str}{k:Nat}(Fb:Rho->Sto->R Fl)(F:Fun K x qual st f fd)(Sc:FnScope N ps (zG st))
  (hbody: ∀(cdv:Value)(A:Around)(outer:List Env)(s:Shared)(H:Hp)(E:XK),Room k (A.deeper (envOfC qual (zG st) s.heap.objs.size f cdv))->
   zOI (zRM CX0 P w K mg base N qual (zG st) f cdv A outer s H E).nox W0 (kE st) Fb):
  FnOk P w K mg base CX0 (k+1) f fd ps (spM ⟨K,mg,P,w⟩ ps.length λds S=>yH (Fb (zS N ds) S)):=by
 refine F.ok Sc (λvs H Q E h=>?_) (λcdv A outer s H vs Q E hr h=>?_)
 ·obtain⟨α,S,ds,_,l,hl,_⟩:=h
  rw [l.length,hl]
 ·obtain⟨α,S,ds,wd,l,hl,q⟩:=h
  obtain⟨t,ht,kk⟩:=hbody cdv A outer s H E hr
  refine⟨t,ht,kk α (zS N ds) S (start N vs) H _ wd (zIY l) ?_⟩
  dsimp only at q
  cases z:Fb (zS N ds) S with
  |ok fl S'=>
   rw [z]at q
   cases fl with
   |next ρ=>exact λσ α' H' x' w' s'=>q .non α' H' x' w' (DenE.val zBN)
   |ret r=>exact λv α' H' x' w' d'=>q v α' H' x' w' d'
   |brk ρ=>exact q.elim
   |cont ρ=>exact q.elim
  |exc c fs S'=>rw [z]at q;exact λα' H' x' w'=>q α' H' x' w'
  |no=>rw [z]at q;exact q
end
inductive Vw where
 |fl (v:V)|tp (ds:List MV)|ls (ds:List MV)
def dQ(S:Sto):Er->Option (List MV)
 |.new ds=>some ds
 |.val (.scr ds)=>some ds
 |.val (.loc l)=>match S[l]? with
  |some (.lst ds)=>some ds
  |_=>none
 |_=>none
def vwE(S:Sto):Er->Option Vw
 |.val .non=>some (.fl .non)
 |.val (.bl b)=>some (.fl (.bl b))
 |.val (.int i)=>some (.fl (.int i))
 |.val (.str x)=>some (.fl (.str (mkS x)))
 |.val (.tup ds)=>some (.tp ds)
 |.val (.typ _)=>none
 |r=>(dQ S r).map .ls
def prs(e:MV->MV->Option Bool):List MV->List MV->Option (List Bool)
 |d::ds,f::fs=>(e d f).bind λk=>(prs e ds fs).map (k::·)
 |_,_=>some []
def eqW(e:MV->MV->Option Bool):Vw->Vw->Option Bool
 |.fl x,.fl y=>some (eqV x y)
 |.tp ds,.tp es=>(prs e ds es).map λbs=>bs.all id&&ds.length==es.length
 |.ls ds,.ls es=>if ds.length=es.length then(prs e ds es).map λbs=>bs.all id else some false
 |_,_=>some false
theorem yBH(e:MV->MV->Option Bool)(ds es:List MV):eqW e (.tp ds) (.tp es)=(prs e ds es).map λbs=>bs.all id&&ds.length==es.length:=rfl
theorem yBI(e:MV->MV->Option Bool)(ds es:List MV):eqW e (.ls ds) (.ls es)=if ds.length=es.length then(prs e ds es).map λbs=>bs.all id else some false:=rfl
def eqv(S:Sto):Nat->MV->MV->Option Bool
 |0,_,_=>none
 |n+1,a,b=>(vwE S (.val a)).bind λx=>(vwE S (.val b)).bind λy=>eqW (eqv S n) x y
def zLU(S:Sto)(n:Nat)(a b:Er):Option Bool:=(vwE S a).bind λx=>(vwE S b).bind λy=>eqW (eqv S n) x y
section
variable{X:Cx}{α:List Addr}{S:Sto}{H:Hp}
theorem zPS{K:PySem.W.Frag}{g:Gm}(hK:g.K=K)(wd:Wd g α S H){r:Er}{ds:List MV}{x:V}(e:dQ S r=some ds)(d:DenX K α H r x): ∃a vs,x=.ref a/\SqL K H a vs/\DenL K α H ds vs:=by
 subst hK
 unfold dQ at e
 split at e
 ·cases e
  obtain⟨b,vs,rfl,h,_,l⟩:=d
  exact⟨b,vs,rfl,.of h,l⟩
 ·cases e
  obtain⟨a,vs,rfl,s,l⟩:=zRX d
  exact⟨a,vs,rfl,s.l,l⟩
 ·rename_i n
  obtain⟨a,rfl,h⟩:=zCB d
  split at e
  ·rename_i es hS
   cases e
   obtain⟨vs,h1,l⟩:=wd.obj n a _ h hS
   exact⟨a,vs,rfl,.of h1,l⟩
  ·cases e
 ·cases e
theorem zIH{r:Er}{x y:V}(e:vwE S r=some (.fl y))(d:DenX X.K α H r x):x=y/\jO y=true:=by
 unfold vwE at e
 split at e
 ·cases e;exact⟨zOH d,rfl⟩
 ·cases e;exact⟨zIW d,rfl⟩
 ·cases e;exact⟨xN d,rfl⟩
 ·cases e;exact⟨jX d,rfl⟩
 ·cases e
 ·cases e
 ·cases z:dQ S r<;>rw [z]at e<;>cases e
theorem zII{r:Er}{x:V}{ds:List MV}(e:vwE S r=some (.tp ds))(d:DenX X.K α H r x): ∃a vs,x=.ref a/\SqT X.K H a vs/\DenL X.K α H ds vs:=by
 unfold vwE at e
 split at e
 ·cases e
 ·cases e
 ·cases e
 ·cases e
 ·cases e;exact dU d
 ·cases e
 ·cases z:dQ S r<;>rw [z]at e<;>cases e
theorem zIJ(wd:Wd X.g α S H){r:Er}{x:V}{ds:List MV}(e:vwE S r=some (.ls ds))(d:DenX X.K α H r x): ∃a vs,x=.ref a/\SqL X.K H a vs/\DenL X.K α H ds vs:=by
 unfold vwE at e
 split at e
 ·cases e
 ·cases e
 ·cases e
 ·cases e
 ·cases e
 ·cases e
 ·cases z:dQ S r with
  |none=>rw [z]at e;cases e
  |some es=>rw [z]at e;cases e;exact zPS rfl wd z d
theorem zKR{e:MV->MV->Option Bool}: ∀{ds es:List MV}{bs:List Bool},prs e ds es=some bs->bs.length=min ds.length es.length
 |[],_,_,h=>by simp [prs]at h;subst h;simp
 |_::_,[],_,h=>by simp [prs]at h;subst h;simp
 |d::ds,f::fs,bs,h=>by
  unfold prs at h
  cases z:e d f with
  |none=>rw [z]at h;cases h
  |some k=>
   rw [z]at h
   cases z2:prs e ds fs with
   |none=>simp [z2]at h
   |some cs=>
    simp [z2]at h
    subst h
    simp [zKR z2]
theorem zWC{e:MV->MV->Option Bool}: ∀{ds es:List MV}{bs:List Bool}{j:Nat}{d f:MV},prs e ds es=some bs->ds[j]? =some d->es[j]? =some f->e d f=some (bs.getD j true)
 |[],_,_,_,_,_,h,h1,_=>by simp at h1
 |_::_,[],_,_,_,_,h,_,h2=>by simp at h2
 |d::ds,f::fs,bs,j,d',f',h,h1,h2=>by
  unfold prs at h
  cases z:e d f with
  |none=>rw [z]at h;cases h
  |some k=>
   rw [z]at h
   cases z2:prs e ds fs with
   |none=>simp [z2]at h
   |some cs=>
    simp [z2]at h
    subst h
    cases j with
    |zero=>simp at h1 h2;subst h1 h2;simpa using z
    |succ j=>simpa using zWC z2 (by simpa using h1) (by simpa using h2)
theorem range_all{bs:List Bool}{n:Nat}(h:bs.length=n):(List.range n).all (λj=>bs.getD j true)=bs.all id:=by
 subst h
 rw [Bool.eq_iff_iff,all_eq_true,all_eq_true]
 constructor
 ·intro h x hx
  obtain⟨i,hi,rfl⟩:=List.getElem_of_mem hx
  have:=h i (mem_range.mpr hi)
  simpa [getD_eq_getElem?_getD,hi]using this
 ·intro h i hi
  have hi':=mem_range.mp hi
  have:=h bs[i] (getElem_mem hi')
  simpa [getD_eq_getElem?_getD,hi']using this
variable{pins:List (Addr×Obj)}{σ:St}{s:Shared}
theorem zMZ(I:Inv X pins σ H s){a:Addr}{xs ys:List V}(h:SqL X.K H a xs)(h':SqT X.K H a ys):False:=by
 obtain⟨_,_,pl,_⟩:=I.list h
 obtain⟨_,_,pt,_⟩:=I.tuple h'
 obtain⟨o,n,e,c,_,_⟩:=pl
 obtain⟨o',e',c',_⟩:=pt
 rw [e]at e'
 cases e'
 rw [c]at c'
 exact absurd c' (by simp)
theorem yIX(I:Inv X pins σ H s)(wd:Wd X.g α S H){e:MV->MV->Option Bool}(he: ∀d f v k,Den X.K α H d v->Den X.K α H f v->e d f=some k->k=true){a b:Er}{x:V}{p q:Vw}{k:Bool}
  (ha:vwE S a=some p) (hb:vwE S b=some q) (da:DenX X.K α H a x) (db:DenX X.K α H b x) (h:eqW e p q=some k):k=true:=by
 have hp: ∀{ds es:List MV}{vs:List V}{bs:List Bool},DenL X.K α H ds vs->DenL X.K α H es vs->prs e ds es=some bs->bs.all id=true:=by
  intro ds es vs bs l1 l2 z
  rw [all_eq_true]
  intro k hk
  obtain⟨i,hi,rfl⟩:=List.getElem_of_mem hk
  have hl:=zKR z
  have h1:i<ds.length:=by omega
  have h2:i<es.length:=by omega
  obtain⟨v,g1,g2⟩:=l1.at (gE0 h1)
  obtain⟨v',g3,g4⟩:=l2.at (gE0 h2)
  rw [g1]at g3;cases g3
  have:=he _ _ _ _ g2 g4 (zWC z (gE0 h1) (gE0 h2))
  simpa [getD_eq_getElem?_getD,hi]using this
 cases p with
 |fl y=>
  obtain⟨rfl,f1⟩:=zIH ha da
  cases q with
  |fl z=>obtain⟨rfl,f2⟩:=zIH hb db;cases h;exact yIO f1
  |tp ds=>obtain⟨a,vs,rfl,_⟩:=zII hb db;exact absurd (show false=true from f1) xF0
  |ls ds=>obtain⟨a,vs,rfl,_⟩:=zIJ wd hb db;exact absurd (show false=true from f1) xF0
 |tp ds=>
  obtain⟨a1,vs,rfl,s1,l1⟩:=zII ha da
  cases q with
  |fl z=>obtain⟨rfl,f2⟩:=zIH hb db;exact absurd (show false=true from f2) xF0
  |tp es=>
   obtain⟨a2,us,e2,s2,l2⟩:=zII hb db
   cases e2
   cases I.tuple_inj s1 s2
   rw [yBH]at h
   cases z:prs e ds es with
   |none=>rw [z]at h;cases h
   |some bs=>
    rw [z]at h
    cases h
    show(bs.all id&&ds.length==es.length)=true
    rw [hp l1 l2 z, <-l1.length, <-l2.length];simp
  |ls es=>obtain⟨a2,us,e2,s2,l2⟩:=zIJ wd hb db;cases e2;exact(zMZ I s2 s1).elim
 |ls ds=>
  obtain⟨a1,vs,rfl,s1,l1⟩:=zIJ wd ha da
  cases q with
  |fl z=>obtain⟨rfl,f2⟩:=zIH hb db;exact absurd (show false=true from f2) xF0
  |tp es=>obtain⟨a2,us,e2,s2,l2⟩:=zII hb db;cases e2;exact(zMZ I s1 s2).elim
  |ls es=>
   obtain⟨a2,us,e2,s2,l2⟩:=zIJ wd hb db
   cases e2
   cases I.list_inj s1 s2
   rw [yBI]at h
   rw [iP (by rw [<-l1.length, <-l2.length])]at h
   cases z:prs e ds es with
   |none=>rw [z]at h;cases h
   |some bs=>rw [z]at h;cases h;exact hp l1 l2 z
theorem zRZ(I:Inv X pins σ H s)(wd:Wd X.g α S H): ∀(n:Nat)(d f:MV)(v:V)(k:Bool),Den X.K α H d v->Den X.K α H f v->eqv S n d f=some k->k=true
 |0,_,_,_,_,_,_,h=>by cases h
 |n+1,d,f,v,k,h1,h2,h=>by
  unfold eqv at h
  cases za:vwE S (.val d)with
  |none=>rw [za]at h;cases h
  |some p=>
   cases zb:vwE S (.val f)with
   |none=>rw [za,zb]at h;cases h
   |some q=>
    rw [za,zb]at h
    exact yIX I wd (zRZ I wd n) za zb (a:=.val d) (b:=.val f) h1 h2 h
theorem zNA{e:MV->MV->Option Bool}{A:Around}(he: ∀d f x y u v k,Den X.K α H d x->Den X.K α H f y->RelV x u->RelV y v->e d f=some k->SeqAt.EqAt A s u v k)
  {ds es:List MV} {vs us:List V} {its its2:List Value} {bs:List Bool} (l1:DenL X.K α H ds vs) (l2:DenL X.K α H es us) (r1:Vals vs its) (r2:Vals us its2) (z:prs e ds es=some bs):
  ∀j (h1:j<its.toArray.size) (h2:j<its2.toArray.size),SeqAt.EqAt A s its.toArray[j] its2.toArray[j] (bs.getD j true):=by
 intro j h1 h2
 have g1:j<vs.length:=by rw [r1.length];simpa using h1
 have g2:j<us.length:=by rw [r2.length];simpa using h2
 obtain⟨d,d1,d2⟩:=l1.get (gE0 g1)
 obtain⟨f,f1,f2⟩:=l2.get (gE0 g2)
 obtain⟨u,u1,u2⟩:=r1.get (gE0 g1)
 obtain⟨v,v1,v2⟩:=r2.get (gE0 g2)
 have e1:its.toArray[j]=u:=by
  have:its[j]? =some (its[j]'(by simpa using h1)):=gE0 _
  rw [u1]at this
  simpa using(Option.some.inj this).symm
 have e2:its2.toArray[j]=v:=by
  have:its2[j]? =some (its2[j]'(by simpa using h2)):=gE0 _
  rw [v1]at this
  simpa using(Option.some.inj this).symm
 rw [e1,e2]
 exact he d f _ _ u v _ d2 f2 u2 v2 (zWC z d1 f1)
theorem zWD(I:Inv X pins σ H s)(wd:Wd X.g α S H): ∀(n:Nat)(A:Around)(d f:MV)(x y:V)(u v:Value)(k:Bool),A.units+n<cLine->Den X.K α H d x->Den X.K α H f y->RelV x u->RelV y v->eqv S n d f=some k->SeqAt.EqAt A s u v k
 |0,_,_,_,_,_,_,_,_,_,_,_,_,_,h=>by cases h
 |n+1,A,d,f,x,y,u,v,k,hu,h1,h2,rx,ry,h=>by
  have hu0:A.units<cLine:=by omega
  have hsame:=h
  unfold eqv at h
  cases za:vwE S (.val d)with
  |none=>rw [za]at h;cases h
  |some p=>
   cases zb:vwE S (.val f)with
   |none=>rw [za,zb]at h;cases h
   |some q=>
    rw [za,zb]at h
    have h:eqW (eqv S n) p q=some k:=h
    have he:=λd f x y u v k a b c d' e=>zWD I wd n A.in1 d f x y u v k (show A.units+1+n<cLine by omega) a b c d' e
    cases p with
    |fl x'=>
     obtain⟨rfl,fx⟩:=zIH za (α:=α) (H:=H) (X:=X) h1
     cases q with
     |fl y'=>obtain⟨rfl,fy⟩:=zIH zb (α:=α) (H:=H) (X:=X) h2;cases h;exact yRB rx ry fx fy
     |tp es=>
      obtain⟨b,us,rfl,s2,l2⟩:=zII zb (α:=α) (H:=H) (X:=X) h2
      cases ry;cases h
      obtain⟨its,_,pt,_⟩:=I.tuple s2
      exact yPO rx fx pt hu0
     |ls es=>
      obtain⟨b,us,rfl,s2,l2⟩:=zIJ wd zb h2
      cases ry;cases h
      obtain⟨its,_,pl,_⟩:=I.list s2
      exact eq_lr rx fx pl.isList hu0
    |tp ds=>
     obtain⟨a,vs,rfl,s1,l1⟩:=zII za (α:=α) (H:=H) (X:=X) h1
     cases rx
     obtain⟨its,r1,pt,_⟩:=I.tuple s1
     cases q with
     |fl y'=>obtain⟨rfl,fy⟩:=zIH zb (α:=α) (H:=H) (X:=X) h2;cases h;exact yPN ry fy pt hu0
     |tp es=>
      obtain⟨b,us,rfl,s2,l2⟩:=zII zb (α:=α) (H:=H) (X:=X) h2
      cases ry
      by_cases hab:a=b
      ·subst hab
       rw [zRZ I wd (n+1) d f _ k h1 h2 hsame]
       exact SeqAt.EqAt.same _
      ·obtain⟨its2,r2,pt2,_⟩:=I.tuple s2
       rw [yBH]at h
       cases z:prs (eqv S n) ds es with
       |none=>rw [z]at h;cases h
       |some bs=>
        rw [z]at h
        cases h
        have:=SeqAt.RcAt.tuples pt pt2 hu0 (zNA he l1 l2 r1 r2 z)
        have hl:=zKR z
        rw [range_all (by rw [hl];simp [<-r1.length, <-r2.length,l1.length,l2.length])]at this
        have e3:(its.toArray.size==its2.toArray.size)=(ds.length==es.length):=by simp [<-r1.length, <-r2.length,l1.length,l2.length]
        rw [e3]at this
        exact SeqAt.EqAt.of_refs hab this
     |ls es=>
      obtain⟨b,us,rfl,s2,l2⟩:=zIJ wd zb h2
      cases ry;cases h
      obtain⟨its2,_,pl,_⟩:=I.list s2
      exact SeqAt.EqAt.tuple_list pt pl.isList hu0
    |ls ds=>
     obtain⟨a,vs,rfl,s1,l1⟩:=zIJ wd za h1
     cases rx
     obtain⟨its,r1,pl,_⟩:=I.list s1
     cases q with
     |fl y'=>obtain⟨rfl,fy⟩:=zIH zb (α:=α) (H:=H) (X:=X) h2;cases h;exact eq_ll ry fy pl.isList hu0
     |tp es=>
      obtain⟨b,us,rfl,s2,l2⟩:=zII zb (α:=α) (H:=H) (X:=X) h2
      cases ry;cases h
      obtain⟨its2,_,pt,_⟩:=I.tuple s2
      exact SeqAt.EqAt.list_tuple pl.isList pt hu0
     |ls es=>
      obtain⟨b,us,rfl,s2,l2⟩:=zIJ wd zb h2
      cases ry
      by_cases hab:a=b
      ·subst hab
       rw [zRZ I wd (n+1) d f _ k h1 h2 hsame]
       exact SeqAt.EqAt.same _
      ·obtain⟨its2,r2,pl2,_⟩:=I.list s2
       rw [yBI]at h
       by_cases hl:ds.length=es.length
       ·rw [iP hl]at h
        cases z:prs (eqv S n) ds es with
        |none=>rw [z]at h;cases h
        |some bs=>
         rw [z]at h
         cases h
         have hs:its.toArray.size=its2.toArray.size:=by simp [<-r1.length, <-r2.length,l1.length,l2.length,hl]
         have:=SeqAt.RcAt.lists pl.isList pl2.isList hs hu0 (zNA he l1 l2 r1 r2 z)
         have hl':=zKR z
         rw [range_all (by rw [hl'];simp [<-r1.length,l1.length,hl])]at this
         exact SeqAt.EqAt.of_refs hab this
       ·rw [iN0 hl]at h
        cases h
        exact SeqAt.EqAt.of_refs hab (SeqAt.RcAt.lists_lengths pl.isList pl2.isList (by simpa [<-r1.length, <-r2.length,l1.length,l2.length]using hl) hu0)
theorem yPQ{RC:Around->Shared->Value->Value->Bool->Prop}{tr:Bool->Bool}{A:Around}
  (hff: ∀x y u v,RelV x u->RelV y v->jO x=true->jO y=true->RC A s u v (tr (eqV x y)))
  (hfl: ∀x v l items,RelV x v->jO x=true->s.heap.IsList l items->A.units<cLine->RC A s v (.ref l) (tr false)/\RC A s (.ref l) v (tr false))
  (hft: ∀x v l items,RelV x v->jO x=true->s.heap.IsTuple l items->A.units<cLine->RC A s v (.ref l) (tr false)/\RC A s (.ref l) v (tr false))
  (hlt: ∀l b items items2,s.heap.IsList l items->s.heap.IsTuple b items2->A.units<cLine->RC A s (.ref l) (.ref b) (tr false)/\RC A s (.ref b) (.ref l) (tr false))
  (htt: ∀(l b:Addr)(items items2:Array Value)(e:Nat->Bool),s.heap.IsTuple l items->s.heap.IsTuple b items2->A.units<cLine->(∀j (h1:j<items.size) (h2:j<items2.size),SeqAt.EqAt A.in1 s items[j] items2[j] (e j))->RC A s (.ref l) (.ref b) (tr ((List.range (min items.size items2.size)).all e&&items.size==items2.size)))
  (hll: ∀(l b:Addr)(items items2:Array Value)(e:Nat->Bool),s.heap.IsList l items->s.heap.IsList b items2->items.size=items2.size->A.units<cLine->(∀j (h1:j<items.size) (h2:j<items2.size),SeqAt.EqAt A.in1 s items[j] items2[j] (e j))->RC A s (.ref l) (.ref b) (tr ((List.range items.size).all e)))
  (hln: ∀(l b:Addr)(items items2:Array Value),s.heap.IsList l items->s.heap.IsList b items2->(items.size !=items2.size)=true->A.units<cLine->RC A s (.ref l) (.ref b) (tr false))
  (I:Inv X pins σ H s) (wd:Wd X.g α S H) (n:Nat) {a b:Er} {x y:V} {u v:Value} {k:Bool} (hu:A.units+(n+1)<cLine) (h1:DenX X.K α H a x) (h2:DenX X.K α H b y) (rx:RelV x u) (ry:RelV y v) (h:zLU S n a b=some k):RC A s u v (tr k):=by
 have hu0:A.units<cLine:=by omega
 unfold zLU at h
 cases za:vwE S a with
 |none=>rw [za]at h;cases h
 |some p=>
  cases zb:vwE S b with
  |none=>rw [za,zb]at h;cases h
  |some q=>
   rw [za,zb]at h
   have h:eqW (eqv S n) p q=some k:=h
   have he:=λd f x y u v k a b c d' e=>zWD I wd n A.in1 d f x y u v k (show A.units+1+n<cLine by omega) a b c d' e
   cases p with
   |fl x'=>
    obtain⟨rfl,fx⟩:=zIH za h1
    cases q with
    |fl y'=>obtain⟨rfl,fy⟩:=zIH zb h2;cases h;exact hff _ _ _ _ rx ry fx fy
    |tp es=>
     obtain⟨b,us,rfl,s2,l2⟩:=zII zb h2
     cases ry;cases h
     obtain⟨its,_,pt,_⟩:=I.tuple s2
     exact(hft _ _ _ _ rx fx pt hu0).1
    |ls es=>
     obtain⟨b,us,rfl,s2,l2⟩:=zIJ wd zb h2
     cases ry;cases h
     obtain⟨its,_,pl,_⟩:=I.list s2
     exact(hfl _ _ _ _ rx fx pl.isList hu0).1
   |tp ds=>
    obtain⟨a,vs,rfl,s1,l1⟩:=zII za h1
    cases rx
    obtain⟨its,r1,pt,_⟩:=I.tuple s1
    cases q with
    |fl y'=>obtain⟨rfl,fy⟩:=zIH zb h2;cases h;exact(hft _ _ _ _ ry fy pt hu0).2
    |tp es=>
     obtain⟨b,us,rfl,s2,l2⟩:=zII zb h2
     cases ry
     obtain⟨its2,r2,pt2,_⟩:=I.tuple s2
     rw [yBH]at h
     cases z:prs (eqv S n) ds es with
     |none=>rw [z]at h;cases h
     |some bs=>
      rw [z]at h
      cases h
      have:=htt _ _ _ _ _ pt pt2 hu0 (zNA he l1 l2 r1 r2 z)
      have hl:=zKR z
      rw [range_all (by rw [hl];simp [<-r1.length, <-r2.length,l1.length,l2.length])]at this
      have e3:(its.toArray.size==its2.toArray.size)=(ds.length==es.length):=by simp [<-r1.length, <-r2.length,l1.length,l2.length]
      rw [e3]at this
      exact this
    |ls es=>
     obtain⟨b,us,rfl,s2,l2⟩:=zIJ wd zb h2
     cases ry;cases h
     obtain⟨its2,_,pl,_⟩:=I.list s2
     exact(hlt _ _ _ _ pl.isList pt hu0).2
   |ls ds=>
    obtain⟨a,vs,rfl,s1,l1⟩:=zIJ wd za h1
    cases rx
    obtain⟨its,r1,pl,_⟩:=I.list s1
    cases q with
    |fl y'=>obtain⟨rfl,fy⟩:=zIH zb h2;cases h;exact(hfl _ _ _ _ ry fy pl.isList hu0).2
    |tp es=>
     obtain⟨b,us,rfl,s2,l2⟩:=zII zb h2
     cases ry;cases h
     obtain⟨its2,_,pt,_⟩:=I.tuple s2
     exact(hlt _ _ _ _ pl.isList pt hu0).1
    |ls es=>
     obtain⟨b,us,rfl,s2,l2⟩:=zIJ wd zb h2
     cases ry
     obtain⟨its2,r2,pl2,_⟩:=I.list s2
     rw [yBI]at h
     by_cases hl:ds.length=es.length
     ·rw [iP hl]at h
      cases z:prs (eqv S n) ds es with
      |none=>rw [z]at h;cases h
      |some bs=>
       rw [z]at h
       cases h
       have hs:its.toArray.size=its2.toArray.size:=by simp [<-r1.length, <-r2.length,l1.length,l2.length,hl]
       have:=hll _ _ _ _ _ pl.isList pl2.isList hs hu0 (zNA he l1 l2 r1 r2 z)
       have hl':=zKR z
       rw [range_all (by rw [hl'];simp [<-r1.length,l1.length,hl])]at this
       exact this
     ·rw [iN0 hl]at h
      cases h
      exact hln _ _ _ _ pl.isList pl2.isList (by simpa [<-r1.length, <-r2.length,l1.length,l2.length]using hl) hu0
theorem yRQ(I:Inv X pins σ H s)(wd:Wd X.g α S H)(n:Nat){A:Around}{a b:Er}{x y:V}{u v:Value}{k:Bool}(hu:A.units+(n+1)<cLine)(h1:DenX X.K α H a x)(h2:DenX X.K α H b y)(rx:RelV x u)(ry:RelV y v)(h:zLU S n a b=some k):SeqAt.RcAt A s u v k:=
 yPQ (RC:=SeqAt.RcAt) (tr:=id) (λ_ _ _ _ a b c d=>yRH a b c d) (λ_ _ _ _ a b c d=>⟨rc_lr a b c d,rc_ll a b c d⟩) (λ_ _ _ _ a b c d=>⟨rc_tr a b c d,rc_tl a b c d⟩)
  (λ_ _ _ _ a b c=>⟨SeqAt.RcAt.list_tuple a b c,SeqAt.RcAt.tuple_list b a c⟩) (λ_ _ _ _ _ a b c d=>SeqAt.RcAt.tuples a b c d) (λ_ _ _ _ _ a b c d e=>SeqAt.RcAt.lists a b c d e) (λ_ _ _ _ a b c d=>SeqAt.RcAt.lists_lengths a b c d)
  I wd n hu h1 h2 rx ry h
theorem yRR(I:Inv X pins σ H s)(wd:Wd X.g α S H)(n:Nat){A:Around}{a b:Er}{x y:V}{u v:Value}{k:Bool}(hu:A.units+(n+1)<cLine)(h1:DenX X.K α H a x)(h2:DenX X.K α H b y)(rx:RelV x u)(ry:RelV y v)(h:zLU S n a b=some k):SeqAt.RcNeAt A s u v (!k):=
 yPQ (RC:=SeqAt.RcNeAt) (tr:=λb=>!b) (λ_ _ _ _ a b c d=>yRI a b c d) (λ_ _ _ _ a b c d=>⟨rn_lr a b c d,rn_ll a b c d⟩) (λ_ _ _ _ a b c d=>⟨rn_tr a b c d,rn_tl a b c d⟩)
  (λ_ _ _ _ a b c=>⟨SeqAt.RcNeAt.list_tuple a b c,SeqAt.RcNeAt.tuple_list b a c⟩) (λ_ _ _ _ _ a b c d=>SeqAt.RcNeAt.tuples a b c d) (λ_ _ _ _ _ a b c d e=>SeqAt.RcNeAt.lists a b c d e) (λ_ _ _ _ a b c d=>SeqAt.RcNeAt.lists_lengths a b c d)
  I wd n hu h1 h2 rx ry h
mutual
theorem Den.inj(I:Inv X pins σ H s)(wd:Wd X.g α S H): ∀{d f:MV}{v:V},Den X.K α H d v->Den X.K α H f v->d=f
 |.non,f,v,h,h'=>by cases zBZ h;cases f<;>first |rfl|(have:=zFV h';cases this;done)|(have:=gV h';cases this;done)|(have:=bW h';cases this;done)|(have:=zCA h';cases this;done)|(obtain⟨_,_,e,_⟩:=jW h';cases e;done)|(obtain⟨_,_,e,_⟩:=zAP h';cases e;done)|(obtain⟨_,e,_⟩:=dS h';cases e;done)
 |.bl b,f,v,h,h'=>by cases zFV h;cases f<;>first |(have:=zFV h';cases this;rfl;done)|(have:=zBZ h';cases this;done)|(have:=gV h';cases this;done)|(have:=bW h';cases this;done)|(have:=zCA h';cases this;done)|(obtain⟨_,_,e,_⟩:=jW h';cases e;done)|(obtain⟨_,_,e,_⟩:=zAP h';cases e;done)|(obtain⟨_,e,_⟩:=dS h';cases e;done)
 |.int b,f,v,h,h'=>by cases gV h;cases f<;>first |(have:=gV h';cases this;rfl;done)|(have:=zBZ h';cases this;done)|(have:=zFV h';cases this;done)|(have:=bW h';cases this;done)|(have:=zCA h';cases this;done)|(obtain⟨_,_,e,_⟩:=jW h';cases e;done)|(obtain⟨_,_,e,_⟩:=zAP h';cases e;done)|(obtain⟨_,e,_⟩:=dS h';cases e;done)
 |.str b,f,v,h,h'=>by cases bW h;cases f<;>first |(have:=bW h';rw [zVU (V.str.inj this)];done)|(have:=zBZ h';cases this;done)|(have:=zFV h';cases this;done)|(have:=gV h';cases this;done)|(have:=zCA h';cases this;done)|(obtain⟨_,_,e,_⟩:=jW h';cases e;done)|(obtain⟨_,_,e,_⟩:=zAP h';cases e;done)|(obtain⟨_,e,_⟩:=dS h';cases e;done)
 |.typ b,f,v,h,h'=>by cases zCA h;cases f<;>first |(have:=zCA h';cases this;rfl;done)|(have:=zBZ h';cases this;done)|(have:=zFV h';cases this;done)|(have:=gV h';cases this;done)|(have:=bW h';cases this;done)|(obtain⟨_,_,e,_⟩:=jW h';cases e;done)|(obtain⟨_,_,e,_⟩:=zAP h';cases e;done)|(obtain⟨_,e,_⟩:=dS h';cases e;done)
 |.tup ds,f,v,h,h'=>by
  obtain⟨a,vs,rfl,s1,l1⟩:=jW h
  cases f with
  |tup es=>
   obtain⟨a2,us,e2,s2,l2⟩:=jW h'
   cases e2
   cases I.tuple_inj s1 s2
   rw [DenL.inj I wd l1 l2]
  |scr es=>obtain⟨a2,us,e2,s2,l2⟩:=zAP h';cases e2;exact(zMZ I s2.l s1).elim
  |loc l=>
   obtain⟨a2,e2,h2⟩:=dS h'
   cases e2
   obtain⟨ho,k1,k2,k3⟩:=wd.mem (mem_of_getElem? h2)
   rcases s1 with(s1|⟨o,s1⟩)|⟨o,its,n,s1,_⟩
   ·rw [k1]at s1;exact absurd (Option.some.inj s1) (k2 _)
   ·rw [k1]at s1;exact absurd (Option.some.inj s1) (k3 _ _)
   ·have:=(I.bs a o (I.mod.kin a o s1)).2;rw [k1]at this;cases this
  |non=>cases zBZ h'
  |bl b=>cases zFV h'
  |int b=>cases gV h'
  |str b=>cases bW h'
  |typ b=>cases zCA h'
 |.scr ds,f,v,h,h'=>by
  obtain⟨a,vs,rfl,s1,l1⟩:=zAP h
  cases f with
  |scr es=>
   obtain⟨a2,us,e2,s2,l2⟩:=zAP h'
   cases e2
   cases I.list_inj s1.l s2.l
   rw [DenL.inj I wd l1 l2]
  |tup es=>obtain⟨a2,us,e2,s2,l2⟩:=jW h';cases e2;exact(zMZ I s1.l s2).elim
  |loc l=>
   obtain⟨a2,e2,h2⟩:=dS h'
   cases e2
   obtain⟨ho,k1,k2,k3⟩:=wd.mem (mem_of_getElem? h2)
   rcases s1 with⟨o,s1⟩|⟨o,its,n,s1,_⟩
   ·rw [k1]at s1;exact absurd (Option.some.inj s1) (k3 _ _)
   ·have:=(I.bs a o (I.mod.kin a o s1)).2;rw [k1]at this;cases this
  |non=>cases zBZ h'
  |bl b=>cases zFV h'
  |int b=>cases gV h'
  |str b=>cases bW h'
  |typ b=>cases zCA h'
 |.loc l,f,v,h,h'=>by
  obtain⟨a,rfl,h1⟩:=dS h
  obtain⟨ho,k1,k2,k3⟩:=wd.mem (mem_of_getElem? h1)
  cases f with
  |loc m=>
   obtain⟨a2,e2,h2⟩:=dS h'
   cases e2
   by_cases hlm:l=m
   ·rw [hlm]
   ·exact absurd rfl (wd.ne h1 h2 hlm)
  |tup es=>
   obtain⟨a2,us,e2,s1,l2⟩:=jW h'
   cases e2
   rcases s1 with(s1|⟨o,s1⟩)|⟨o,its,n,s1,_⟩
   ·rw [k1]at s1;exact absurd (Option.some.inj s1) (k2 _)
   ·rw [k1]at s1;exact absurd (Option.some.inj s1) (k3 _ _)
   ·have:=(I.bs a o (I.mod.kin a o s1)).2;rw [k1]at this;cases this
  |scr es=>
   obtain⟨a2,us,e2,s1,l2⟩:=zAP h'
   cases e2
   rcases s1 with⟨o,s1⟩|⟨o,its,n,s1,_⟩
   ·rw [k1]at s1;exact absurd (Option.some.inj s1) (k3 _ _)
   ·have:=(I.bs a o (I.mod.kin a o s1)).2;rw [k1]at this;cases this
  |non=>cases zBZ h'
  |bl b=>cases zFV h'
  |int b=>cases gV h'
  |str b=>cases bW h'
  |typ b=>cases zCA h'
theorem DenL.inj(I:Inv X pins σ H s)(wd:Wd X.g α S H): ∀{ds fs:List MV}{vs:List V},DenL X.K α H ds vs->DenL X.K α H fs vs->ds=fs
 |[],fs,vs,h,h'=>by
  cases h.isnil
  cases fs with
  |nil=>rfl
  |cons f fs=>obtain⟨_,_,e,_⟩:=h'.uncons;cases e
 |d::ds,fs,vs,h,h'=>by
  obtain⟨v,r,rfl,a,l⟩:=h.uncons
  cases fs with
  |nil=>cases h'.isnil
  |cons f fs=>
   obtain⟨v',r',e,a',l'⟩:=h'.uncons
   cases e
   rw [Den.inj I wd a a',DenL.inj I wd l l']
end
end
inductive LexR(A:Around)(s:Shared):List Value->List Value->Bool->Prop
 |nn:LexR A s [] [] false
 |nc (x xs):LexR A s [] (x::xs) true
 |cn (y ys):LexR A s (y::ys) [] false
 |eq {y x ys xs k}:SeqAt.EqAt A s y x true->LexR A s ys xs k->LexR A s (y::ys) (x::xs) k
 |ne {y x ys xs k}:SeqAt.EqAt A s y x false->(∀(prog:Program)(w:World)(E Q:Value->Shared->Prop),Q (.bool k) s->wpAny (model prog w) A (richCompare .Lt y x) Q E s)->LexR A s (y::ys) (x::xs) k
section
open PySem.SeqAt
open PySem.AutoSeq1 (wpAny_loadPart')
open PySem.MeetsSeq PySem.MeetsSeq2 PySem.MeetsSeq3
theorem yBJ(l b:Addr)(its its2:Array Value)(n n2:Nat)(dd dd2:Option Addr)(sl sl2:Array (Option Value))(k:Bool):
  Meets (Builtin.«tuple.__lt__» ⟨[.ref l,.ref b],[]⟩)
   (λA R s=>s.heap.get? l=some {cls:=.type "tuple",dict:=dd,data:=.seq its n,slots:=sl}/\s.heap.get? b=some {cls:=.type "tuple",dict:=dd2,data:=.seq its2 n2,slots:=sl2}/\
    LexR A.in1 s its.toList its2.toList k/\R (.ok (.ret (.bool k))) s):=
 .of_wp λprog w A R s h=>by
  obtain⟨hp,g,d,tk,os⟩:=s;obtain⟨hl,hb,hx,h⟩:=h
  have f2:=AutoSeq1.sub_tuple_tuple
  wp_walk using wpAny_loadPart' hl,wpAny_loadPart' hb,wpAny_forIn_list _ (λrest b s'=>b.1=none/\s'=⟨hp,g,d,tk,os⟩/\ ∃(vs ws:List Value),rest=vs.zip ws/\
   LexR A.in1 ⟨hp,g,d,tk,os⟩ vs ws k/\vs.length+its2.size=ws.length+its.size) _
  case turn=>
   rintro⟨y,x⟩ rest b s' ⟨hb',rfl,vs,ws,hz,hlx,hlen⟩
   cases hlx with
   |nn=>rw [List.zip_nil_left]at hz;cases hz
   |nc x xs=>rw [List.zip_nil_left]at hz;cases hz
   |cn y ys=>rw [List.zip_nil_right]at hz;cases hz
   |@eq y' x' ys xs k' he hr=>
    rw [zip_cons_cons]at hz
    injection hz with hyx hrest
    injection hyx with hy hx
    subst hy hx
    simp only [lC0]at hlen
    refine wB0 (he prog w _ _ ?_)
    wp_walk
    exact⟨rfl,rfl,_,_,hrest,hr,by omega⟩
   |@ne y' x' ys xs k' he hr=>
    rw [zip_cons_cons]at hz
    injection hz with hyx hrest
    injection hyx with hy hx
    subst hy hx
    refine wB0 (he prog w _ _ ?_)
    have hri:=hr prog w
    wp_walk using hri
    exact⟨_,rfl,by simpa using h⟩
  case fin=>
   rintro⟨b1,b2⟩ s' ⟨hb',rfl,vs,ws,hz,hlx,hlen⟩
   simp only at hb'
   subst hb'
   have hv:k=decide (its.size<its2.size):=by
    cases hlx with
    |nn=>simp only [length_nil]at hlen;exact(dF0 (by omega)).symm
    |nc x xs=>simp only [length_nil,lC0]at hlen;exact(dT0 (by omega)).symm
    |cn y ys=>simp only [length_nil,lC0]at hlen;exact(dF0 (by omega)).symm
    |eq he hr=>rw [zip_cons_cons]at hz;cases hz
    |ne he hr=>rw [zip_cons_cons]at hz;cases hz
   rw [hv]at h
   wp_walk
   exact⟨_,rfl,by simpa [Builtin.Tuple.tupleCompareSizes]using h⟩
  case h=>
   exact⟨rfl,rfl,its.toList,its2.toList,rfl,hx,by simp;omega⟩
end
theorem yIY{A:Around}{s:Shared}{l b:Addr}{its its2:Array Value}{k:Bool}(hl:IsTup s.heap l its)(hb:IsTup s.heap b its2)(hx:LexR A.in1 s its.toList its2.toList k)(hu:A.units<cLine)(prog:Program)(w:World)(E Q:Value->Shared->Prop)(h:Q (.bool k) s):
  wpAny (model prog w) A (richCompare .Lt (.ref l) (.ref b)) Q E s:=by
 obtain⟨⟨cls,dd,data,sl⟩,ho,hc,n,hd⟩:=id hl
 obtain⟨⟨cls2,dd2,data2,sl2⟩,ho2,hc2,n2,hd2⟩:=id hb
 simp only at hc hd hc2 hd2
 subst hc hd hc2 hd2
 exact richCompare_meets_room (op:=.Lt) ⟨_,ho,rfl⟩ ⟨_,ho2,rfl⟩ PySem.F.slot_tuple_lt PySem.F.entry_tuple_lt (PySem.F.args_tuple_lt_2 _ _) (yBJ l b its its2 n n2 dd dd2 sl sl2 k)
  ⟨ho,ho2,hx,show Value.bool k≠Value.notImplemented/\Q (.bool k) s from⟨(λx=>nomatch x),h⟩⟩ hu
def yIZ(e l:MV->MV->Option Bool):List MV->List MV->Option Bool
 |[],[]=>some false
 |[],_::_=>some true
 |_::_,[]=>some false
 |d::ds,f::fs=>(e d f).bind λk=>if k=true then yIZ e l ds fs else l d f
def ltv(S:Sto):Nat->MV->MV->Option Bool
 |0,_,_=>none
 |n+1,.int i,.int j=>some (decide (i<j))
 |n+1,.str x,.str y=>some (decide (x<y))
 |n+1,.tup ds,.tup es=>yIZ (eqv S n) (ltv S n) ds es
 |_,_,_=>none
section
variable{X:Cx}{α:List Addr}{S:Sto}{H:Hp}{pins:List (Addr×Obj)}{σ:St}{s:Shared}
theorem yPR{A:Around}{e l:MV->MV->Option Bool}(he: ∀d f x y u v k,Den X.K α H d x->Den X.K α H f y->RelV x u->RelV y v->e d f=some k->SeqAt.EqAt A s u v k)
  (hl: ∀d f x y u v k,Den X.K α H d x->Den X.K α H f y->RelV x u->RelV y v->l d f=some k-> ∀(prog:Program)(w:World)(E Q:Value->Shared->Prop),Q (.bool k) s->wpAny (model prog w) A (richCompare .Lt u v) Q E s):
  ∀{ds fs:List MV}{vs us:List V}{its its2:List Value}{k:Bool},DenL X.K α H ds vs->DenL X.K α H fs us->Vals vs its->Vals us its2->yIZ e l ds fs=some k->LexR A s its its2 k
 |[],[],_,_,_,_,k,l1,l2,r1,r2,h=>by
  cases l1.isnil;cases l2.isnil;cases r1;cases r2;cases h;exact .nn
 |[],f::fs,_,_,_,_,k,l1,l2,r1,r2,h=>by
  cases l1.isnil
  obtain⟨v,r,rfl,a,l⟩:=l2.uncons
  cases r1
  cases r2 with
  |cons a b=>cases h;exact .nc _ _
 |d::ds,[],_,_,_,_,k,l1,l2,r1,r2,h=>by
  cases l2.isnil
  obtain⟨v,r,rfl,a,l⟩:=l1.uncons
  cases r2
  cases r1 with
  |cons a b=>cases h;exact .cn _ _
 |d::ds,f::fs,_,_,_,_,k,l1,l2,r1,r2,h=>by
  obtain⟨v,r,rfl,a,l1'⟩:=l1.uncons
  obtain⟨v2,r3,rfl,a2,l2'⟩:=l2.uncons
  cases r1 with
  |cons b1 c1=>
   cases r2 with
   |cons b2 c2=>
    unfold yIZ at h
    cases z:e d f with
    |none=>rw [z]at h;cases h
    |some kk=>
     rw [z]at h
     have h:(if kk=true then yIZ e l ds fs else l d f)=some k:=h
     cases kk with
     |true=>
      rw [iP rfl]at h
      exact .eq (he d f _ _ _ _ _ a a2 b1 b2 z) (yPR he hl l1' l2' c1 c2 h)
     |false=>
      rw [iN0 xF0]at h
      exact .ne (he d f _ _ _ _ _ a a2 b1 b2 z) (hl d f _ _ _ _ _ a a2 b1 b2 h)
theorem yJA(I:Inv X pins σ H s)(wd:Wd X.g α S H): ∀(n:Nat)(A:Around)(d f:MV)(x y:V)(u v:Value)(k:Bool),A.units+n<cLine->Den X.K α H d x->Den X.K α H f y->RelV x u->RelV y v->ltv S n d f=some k->
  ∀(prog:Program)(w:World)(E Q:Value->Shared->Prop),Q (.bool k) s->wpAny (model prog w) A (richCompare .Lt u v) Q E s
 |0,_,_,_,_,_,_,_,_,_,_,_,_,_,h=>by cases h
 |n+1,A,d,f,x,y,u,v,k,hu,h1,h2,rx,ry,h=>by
  intro prog w E Q hq
  unfold ltv at h
  split at h
  ·cases h
  ·cases h
   cases gV h1;cases gV h2
   obtain⟨t,rfl⟩:=rx
   obtain⟨t',rfl⟩:=ry
   exact(PyProof.Rows.lt_int hq:wpAny (model prog w) A (compareOp .Lt _ _) Q E s)
  ·cases h
   cases bW h1;cases bW h2
   obtain⟨t,rfl⟩:=rx
   obtain⟨t',rfl⟩:=ry
   refine(PySem.P.lt_str ?_:wpAny (model prog w) A (compareOp .Lt _ _) Q E s)
   rw [zGS,zGS]
   exact hq
  ·rename_i n' ds es hn
   obtain⟨a,vs,rfl,s1,l1⟩:=jW h1
   obtain⟨b,us,rfl,s2,l2⟩:=jW h2
   cases rx;cases ry
   obtain⟨its,r1,pt,_⟩:=I.tuple s1
   obtain⟨its2,r2,pt2,_⟩:=I.tuple s2
   cases hn
   refine yIY pt pt2 ?_ (by omega) prog w E Q hq
   exact yPR (λd f x y u v k a b c d' e=>zWD I wd n A.in1 d f x y u v k (show A.units+1+n<cLine by omega) a b c d' e)
    (λd f x y u v k a b c d' e=>yJA I wd n A.in1 d f x y u v k (show A.units+1+n<cLine by omega) a b c d' e) l1 l2 r1 r2 h
  ·cases h
end
section
variable{X:Cx}{W:XW}{a b c e:Expr}{es:List Expr}{f g h:Rho->Sto->R Er}{af:Rho->Sto->R (List Er)}{pos:Pos}
def iiF(C:Int->Int->Prop)[∀i j,Decidable (C i j)](g:Int->Int->Int):Er->Er->Sto->R Er
 |.val (.int i),.val (.int j),S=>if C i j then .ok (.val (.int (g i j))) S else .no
 |_,_,_=>.no
def ibF(g:Int->Int->Bool):Er->Er->Sto->R Er
 |.val (.int i),.val (.int j),S=>.ok (.val (.bl (g i j))) S
 |_,_,_=>.no
theorem zWE{C C':Int->Int->Prop}[∀i j,Decidable (C i j)]{g:Int->Int->Int}(h: ∀i j,C i j->C' i j):Op2 X W (rI C' λi j=>.int (g i j)) (iiF C g):=by
 intro p q x y α S H Q wd dp dq post
 unfold iiF at post
 split at post
 ·split at post
  ·rename_i hc
   exact⟨_,_,xN dp,xN dq,h _ _ hc,Post.val post wd (wD _)⟩
  ·exact post.elim
 ·exact post.elim
theorem yMY{g:Int->Int->Int}:Op2 X W (rI0 λi j=>.int (g i j)) (iiF (λ_ _=>True) g):=by
 intro p q x y α S H Q wd dp dq post
 unfold iiF at post
 split at post
 ·rw [iP trivial]at post
  exact⟨_,_,xN dp,xN dq,Post.val post wd (wD _)⟩
 ·exact post.elim
theorem yRS{g:Int->Int->Bool}:Op2 X W (rI0 λi j=>.bl (g i j)) (ibF g):=by
 intro p q x y α S H Q wd dp dq post
 unfold ibF at post
 split at post
 ·exact⟨_,_,xN dp,xN dq,Post.val post wd (wL _)⟩
 ·exact post.elim
abbrev yGL:=iiF (λ_ _=>True) λi j=>i - j
theorem zWF(ha:PEm X W a f)(hb:PEm X W b g):PEm X W (.BinOp a .Sub b pos) (λρ S=>(f ρ S).bind λp S1=>(g ρ S1).bind λq S2=>yGL p q S2):=zPQ yQR yMY ha hb
def yBK(_ j:Int):Prop:=0<j/\j.natAbs.log2<9000
instance(i j:Int):Decidable (yBK i j):=inferInstanceAs (Decidable (_/\_))
abbrev cL:=iiF yBK λi j=>i / j
theorem yJB:OpR X (binaryOp .FloorDiv) (rI yBK λi j=>.int (i / j)):=opI λi j _ _ _ _ _ hc q=>by
 have e:i.fdiv j=i / j:=Int.fdiv_eq_ediv_of_nonneg i (Int.le_of_lt hc.1)
 refine floordiv_int (by have:=hc.1;omega) ?_ (.inl (PyProof.noPylong_of_log2 hc.2))
 rw [e]
 exact q
theorem xO(ha:PEm X W a f)(hb:PEm X W b g):PEm X W (.BinOp a .FloorDiv b pos) (λρ S=>(f ρ S).bind λp S1=>(g ρ S1).bind λq S2=>cL p q S2):=zPQ yJB (zWE λi j h=>h) ha hb
abbrev kT:=iiF (λ_ j=>0<j) λi j=>i % j
theorem yN(ha:PEm X W a f)(hb:PEm X W b g):PEm X W (.BinOp a .Mod b pos) (λρ S=>(f ρ S).bind λp S1=>(g ρ S1).bind λq S2=>kT p q S2):=zPQ yQS (zWE λi j h=>h) ha hb
def yGM(i j:Int):Prop:=0<=j/\(Builtin.Int.intBits i:Int) * j<=2 ^ 27
instance(i j:Int):Decidable (yGM i j):=inferInstanceAs (Decidable (_/\_))
abbrev zIZ:=iiF yGM λi j=>i ^ j.toNat
theorem yMZ:OpR X (binaryOp .Pow) (rI yGM λi j=>.int (i ^ j.toNat)):=opI λ_ _ _ _ _ _ _ hc q=>pow_int hc.1 hc.2 q
theorem zGW(ha:PEm X W a f)(hb:PEm X W b g):PEm X W (.BinOp a .Pow b pos) (λρ S=>(f ρ S).bind λp S1=>(g ρ S1).bind λq S2=>zIZ p q S2):=zPQ yMZ (zWE λi j h=>h) ha hb
def shlC(i j:Int):Prop:=0<=j/\j<=1000000/\i.natAbs<2 ^ 64
instance(i j:Int):Decidable (shlC i j):=inferInstanceAs (Decidable (_/\_/\_))
abbrev shlF:=iiF shlC λi j=>i * 2 ^ j.toNat
theorem yRT(ha:PEm X W a f)(hb:PEm X W b g):PEm X W (.BinOp a .LShift b pos) (λρ S=>(f ρ S).bind λp S1=>(g ρ S1).bind λq S2=>shlF p q S2):=zPQ yQT (zWE λi j h=>h) ha hb
def usubF:Er->Sto->R Er
 |.val (.int i),S=>.ok (.val (.int (-i))) S
 |_,_=>.no
def lsW(S:Sto):Er->Option (List MV)
 |.new ds=>some ds
 |.val (.loc l)=>match S[l]? with
  |some (.lst ds)=>some ds
  |_=>none
 |_=>none
theorem yBL{α:List Addr}{S:Sto}{H:Hp}(wd:Wd X.g α S H){r:Er}{ds:List MV}{x:V}(e:lsW S r=some ds)(d:DenX X.K α H r x): ∃a vs,x=.ref a/\H a=some (.lst vs)/\DenL X.K α H ds vs:=by
 unfold lsW at e
 split at e
 ·cases e
  obtain⟨b,vs,rfl,h,_,l⟩:=d
  exact⟨b,vs,rfl,h,l⟩
 ·rename_i n
  obtain⟨a,rfl,h⟩:=zCB d
  split at e
  ·rename_i es hS
   cases e
   obtain⟨vs,h1,l⟩:=wd.obj n a _ h hS
   exact⟨a,vs,rfl,h1,l⟩
  ·cases e
 ·cases e
def yDX(p q:Er)(S:Sto):R Er:=match lsW S p,lsW S q with
 |some x,some y=>if x.length+y.length<=sizeLine then .ok (.new (x++y)) S else .no
 |_,_=>.no
def wO:Er->Er->Sto->R Er
 |.val (.int i),.val (.int j),S=>.ok (.val (.int (i+j))) S
 |.val (.str x),.val (.str y),S=>if x.length+y.length<=sizeLine then .ok (.val (.str (x++y))) S else .no
 |.val (.tup x),.val (.tup y),S=>if x.length+y.length<=sizeLine then .ok (.val (.tup (x++y))) S else .no
 |p,q,S=>yDX p q S
theorem yJC:OpR X (binaryOp .Add) (λx y H Q=> ∃a b ys,x=.ref a/\y=.ref b/\SqT X.K H a []/\SqT X.K H b ys/\Q (.ref b) H):=by
 intro pins s σ H x y v u Q I rx ry h
 obtain⟨a,b,ys,rfl,rfl,ha,hb,q⟩:=h
 cases rx
 cases ry
 obtain⟨its,r1,p1,_⟩:=I.tuple ha
 obtain⟨its2,r2,p2,_⟩:=I.tuple hb
 have e0:its=[]:=r1.nil_iff.mpr rfl
 subst e0
 obtain⟨⟨cls,dd,data,sl⟩,ho,hc,n,hd⟩:=id p1
 obtain⟨⟨cls2,dd2,data2,sl2⟩,ho2,hc2,n2,hd2⟩:=id p2
 simp only at hc hd hc2 hd2
 subst hc hd hc2 hd2
 exact concat_meets ⟨_,ho,rfl⟩ ⟨_,ho2,rfl⟩ noFill_tuple_add seq_tuple_add PySem.F.slot_tuple_add PySem.F.entry_tuple_add (PySem.F.args_tuple_add_2 _ _)
  (tuple_addW0 a b _ _ n n2 dd dd2 sl sl2 rfl) ⟨ho,ho2,⟨.ref b,H,I,rfl,q⟩⟩
theorem yW(ha:PEm X W a f)(hb:PEm X W b g):PEm X W (.BinOp a .Add b pos) (λρ S=>(f ρ S).bind λp S1=>(g ρ S1).bind λq S2=>wO p q S2):=by
 refine zPQ (yQQ.or (yAT.or (yRD.or (yMJ.or yJC)))) ?_ ha hb
 intro p q x y α S H Q wd dp dq post
 unfold wO at post
 split at post
 ·exact .inl ⟨_,_,xN dp,xN dq,Post.val post wd (wD _)⟩
 ·split at post
  ·rename_i hz
   refine .inr (.inl ⟨_,_,jX dp,jX dq,by rw [bP,bP];exact hz,?_⟩)
   rw [yMP]
   exact Post.val post wd (zBO _)
  ·exact post.elim
 ·split at post
  ·rename_i xx yy hz
   obtain⟨a1,vs,rfl,s1,l1⟩:=dU dp
   obtain⟨a2,us,rfl,s2,l2⟩:=dU dq
   by_cases h0:vs=[]
   ·subst h0
    have e0:=l1.length
    refine .inr (.inr (.inr (.inr ⟨a1,a2,us,rfl,rfl,s1,s2,?_⟩)))
    have:xx=[]:=by cases xx with |nil=>rfl|cons _ _=>simp at e0
    subst this
    exact Post.val post wd (nV s2 l2)
   ·refine .inr (.inr (.inr (.inl ⟨a1,a2,vs,us,rfl,rfl,s1,s2,h0,by rw [l1.length,l2.length];exact hz,λh1=>?_,λh1 p hp=>Post.newt post wd hp (l1.append l2)⟩)))
    subst h1
    have e0:=l2.length
    have:yy=[]:=by cases yy with |nil=>rfl|cons _ _=>simp at e0
    subst this
    rw [aN]at post
    exact Post.val post wd (nV s1 l1)
  ·exact post.elim
 ·unfold yDX at post
  split at post
  ·rename_i ds1 ds2 e1 e2
   split at post
   ·rename_i hz
    obtain⟨a1,vs,rfl,h1,l1⟩:=yBL wd e1 dp
    obtain⟨a2,us,rfl,h2,l2⟩:=yBL wd e2 dq
    exact .inr (.inr (.inl ⟨a1,a2,vs,us,rfl,rfl,h1,h2,by rw [l1.length,l2.length];exact hz,λp hp=>Post.newl post wd hp (l1.append l2)⟩))
   ·exact post.elim
  ·exact post.elim
def mulC(i j:Int):Prop:=(-(2 ^ 64)<i/\i<2 ^ 64)\/(-(2 ^ 64)<j/\j<2 ^ 64)\/(i.natAbs.log2<4000/\j.natAbs.log2<4000)
theorem yDY{i:Int}(h:i.natAbs.log2<4000):Builtin.Int.intBits i<=2 ^ 20:=by
 have e:(2:Nat) ^ 20=1048576:=by decide
 unfold Builtin.Int.intBits
 split<;>omega
theorem mulC.ok{i j:Int}(h:mulC i j):IntMulOk i j:=by
 rcases h with h|h|⟨h1,h2⟩
 ·exact CMul.ok (.inl h)
 ·exact CMul.ok (.inr h)
 ·exact .of_bits (yDY h1) (yDY h2)
theorem yNA{X:Cx}:OpR X (binaryOp .Mult) (rI mulC λi j=>.int (i * j)):=opI λ_ _ _ _ _ _ _ hc q=>mul_int q hc.ok
instance(i j:Int):Decidable (mulC i j):=inferInstanceAs (Decidable (_\/_\/_))
def zUQ(p:Er)(k:Int)(S:Sto):R Er:=match lsW S p with
 |some x=>if 0<=k/\k<100000/\x.length * k.toNat<=sizeLine then .ok (.new (List.replicate k.toNat x).flatten) S else .no
 |none=>.no
def zNB:Er->Er->Sto->R Er
 |.val (.int i),.val (.int j),S=>if mulC i j then .ok (.val (.int (i * j))) S else .no
 |.val (.str x),.val (.int k),S=>if 0<=k/\k<1000/\x.length<=1000 then .ok (.val (.str (zRR x k))) S else .no
 |p,.val (.int k),S=>zUQ p k S
 |_,_,_=>.no
theorem DenL.rep{K:PySem.W.Frag}{α:List Addr}{H:Hp}{ds:List MV}{vs:List V}(l:DenL K α H ds vs): ∀k:Nat,DenL K α H (List.replicate k ds).flatten (List.replicate k vs).flatten
 |0=>wM
 |k+1=>by rw [replicate_succ,flatten_cons,replicate_succ,flatten_cons];exact l.append (DenL.rep l k)
theorem zLV(ha:PEm X W a f)(hb:PEm X W b g):PEm X W (.BinOp a .Mult b pos) (λρ S=>(f ρ S).bind λp S1=>(g ρ S1).bind λq S2=>zNB p q S2):=by
 refine zPQ (yNA.or (yBB.or yRE)) ?_ ha hb
 intro p q x y α S H Q wd dp dq post
 unfold zNB at post
 split at post
 ·split at post
  ·rename_i hc
   exact .inl ⟨_,_,xN dp,xN dq,hc,Post.val post wd (wD _)⟩
  ·exact post.elim
 ·split at post
  ·rename_i hc
   exact .inr (.inl ⟨_,_,jX dp,xN dq,hc.1,hc.2.1,hc.2.2,Post.val post wd (zBO _)⟩)
  ·exact post.elim
 ·unfold zUQ at post
  split at post
  ·rename_i ds e1
   split at post
   ·rename_i hc
    obtain⟨a1,vs,rfl,h1,l1⟩:=yBL wd e1 dp
    exact .inr (.inr ⟨a1,_,vs,rfl,xN dq,h1,by omega,by omega,by rw [l1.length];exact hc.2.2,λp hp=>Post.newl post wd hp (l1.rep _)⟩)
   ·exact post.elim
  ·exact post.elim
 ·exact post.elim
def yO:Nat:=40
def eqF(p q:Er)(S:Sto):R Er:=match zLU S yO p q with
 |some k=>.ok (.val (.bl k)) S
 |none=>.no
def neF(p q:Er)(S:Sto):R Er:=match zLU S yO p q with
 |some k=>.ok (.val (.bl !k)) S
 |none=>.no
theorem yJD(hu:X.A.units+64<cLine):OpR X (compareOp .Eq) (λx y H Q=> ∃α S p q k,Wd X.g α S H/\DenX X.K α H p x/\DenX X.K α H q y/\zLU S yO p q=some k/\Q (.bl k) H):=by
 intro pins s σ H x y v u Q I rx ry h
 obtain⟨α,S,p,q,k,wd,dp,dq,e,hq⟩:=h
 exact yRQ I wd yO (by unfold yO;omega) dp dq rx ry e X.prog X.w _ _ ⟨.bl k,H,I,rfl,hq⟩
theorem yRU(hu:X.A.units+64<cLine):OpR X (compareOp .NotEq) (λx y H Q=> ∃α S p q k,Wd X.g α S H/\DenX X.K α H p x/\DenX X.K α H q y/\zLU S yO p q=some k/\Q (.bl (!k)) H):=by
 intro pins s σ H x y v u Q I rx ry h
 obtain⟨α,S,p,q,k,wd,dp,dq,e,hq⟩:=h
 exact yRR I wd yO (by unfold yO;omega) dp dq rx ry e X.prog X.w _ _ ⟨.bl (!k),H,I,rfl,hq⟩
theorem yDZ:Op2 X W (λx y H Q=> ∃α S p q k,Wd X.g α S H/\DenX X.K α H p x/\DenX X.K α H q y/\zLU S yO p q=some k/\Q (.bl k) H) eqF:=by
 intro p q x y α S H Q wd dp dq post
 unfold eqF at post
 split at post
 ·rename_i k e
  exact⟨α,S,p,q,k,wd,dp,dq,e,Post.val post wd (wL _)⟩
 ·exact post.elim
theorem yNB:Op2 X W (λx y H Q=> ∃α S p q k,Wd X.g α S H/\DenX X.K α H p x/\DenX X.K α H q y/\zLU S yO p q=some k/\Q (.bl (!k)) H) neF:=by
 intro p q x y α S H Q wd dp dq post
 unfold neF at post
 split at post
 ·rename_i k e
  exact⟨α,S,p,q,k,wd,dp,dq,e,Post.val post wd (wL _)⟩
 ·exact post.elim
theorem zNC(hu:X.A.units+64<cLine)(ha:PEm X W a f)(hb:PEm X W b g):PEm X W (.Compare a [.Eq] [b] pos) (λρ S=>(f ρ S).bind λp S1=>(g ρ S1).bind λq S2=>eqF p q S2):=zVX (yJD hu) yDZ ha hb
theorem zBK(hu:X.A.units+64<cLine)(ha:PEm X W a f)(hb:PEm X W b g):PTm X W (.Compare a [.Eq] [b] pos) (λρ S=>((f ρ S).bind λp S1=>(g ρ S1).bind λq S2=>eqF p q S2).bind asB):=zLS (yJD hu) yDZ ha hb
theorem zPT(hu:X.A.units+64<cLine)(ha:PEm X W a f)(hb:PEm X W b g):PTm X W (.Compare a [.NotEq] [b] pos) (λρ S=>((f ρ S).bind λp S1=>(g ρ S1).bind λq S2=>neF p q S2).bind asB):=zLS (yRU hu) yNB ha hb
def ltF:Er->Er->Sto->R Er
 |.val d,.val f,S=>match ltv S yO d f with
  |some k=>.ok (.val (.bl k)) S
  |none=>.no
 |_,_,_=>.no
theorem yBM(hu:X.A.units+64<cLine):OpR X (compareOp .Lt) (λx y H Q=> ∃α S d f k,Wd X.g α S H/\Den X.K α H d x/\Den X.K α H f y/\ltv S yO d f=some k/\Q (.bl k) H):=by
 intro pins s σ H x y v u Q I rx ry h
 obtain⟨α,S,d,f,k,wd,dp,dq,e,hq⟩:=h
 exact yJA I wd yO X.A d f x y v u k (by unfold yO;omega) dp dq rx ry e X.prog X.w _ _ ⟨.bl k,H,I,rfl,hq⟩
theorem zWG:Op2 X W (λx y H Q=> ∃α S d f k,Wd X.g α S H/\Den X.K α H d x/\Den X.K α H f y/\ltv S yO d f=some k/\Q (.bl k) H) ltF:=by
 intro p q x y α S H Q wd dp dq post
 unfold ltF at post
 split at post
 ·split at post
  ·rename_i k e
   exact⟨α,S,_,_,k,wd,dp,dq,e,Post.val post wd (wL _)⟩
  ·exact post.elim
 ·exact post.elim
theorem pm_lt(hu:X.A.units+64<cLine)(ha:PEm X W a f)(hb:PEm X W b g):PEm X W (.Compare a [.Lt] [b] pos) (λρ S=>(f ρ S).bind λp S1=>(g ρ S1).bind λq S2=>ltF p q S2):=zVX (yBM hu) zWG ha hb
theorem yJE(hu:X.A.units+64<cLine)(ha:PEm X W a f)(hb:PEm X W b g):PTm X W (.Compare a [.Lt] [b] pos) (λρ S=>((f ρ S).bind λp S1=>(g ρ S1).bind λq S2=>ltF p q S2).bind asB):=zLS (yBM hu) zWG ha hb
abbrev gtF:=ibF λi j=>decide (j<i)
theorem yEA(ha:PEm X W a f)(hb:PEm X W b g):PTm X W (.Compare a [.Gt] [b] pos) (λρ S=>((f ρ S).bind λp S1=>(g ρ S1).bind λq S2=>gtF p q S2).bind asB):=zLS op_gt yRS ha hb
def leF:Er->Er->Sto->R Er
 |.val (.int i),.val (.int j),S=>.ok (.val (.bl (decide (i<=j)))) S
 |.val (.str x),.val (.str y),S=>.ok (.val (.bl (!decide (y<x)))) S
 |_,_,_=>.no
theorem zSA:Op2 X W (λx y H Q=>rI0 (λi j=>.bl (decide (i<=j))) x y H Q\/(∃i j,x=.str i/\y=.str j/\Q (.bl (!decide (j.cps.toList<i.cps.toList))) H)) leF:=by
 intro p q x y α S H Q wd dp dq post
 unfold leF at post
 split at post
 ·exact .inl ⟨_,_,xN dp,xN dq,Post.val post wd (wL _)⟩
 ·refine .inr ⟨_,_,jX dp,jX dq,?_⟩
  rw [zGS,zGS]
  exact Post.val post wd (wL _)
 ·exact post.elim
theorem zWH(ha:PEm X W a f)(hb:PEm X W b g)(hc:PEm X W c h)(hm:lastMarks [.LtE,.LtE] [b,c]=false:=by with_unfolding_all rfl):PEm X W (.Compare a [.LtE,.LtE] [b,c] pos) (λρ S=>(f ρ S).bind λp S1=>(g ρ S1).bind λq S2=>chF leF leF p q S2 λS3=>h ρ S3):=zYP (zXZ.or zFS) (zXZ.or zFS) zSA zSA ha hb hc hm
theorem yNC(ha:PEm X W a f)(hb:PEm X W b g)(hc:PEm X W c h)(hm:lastMarks [.LtE,.LtE] [b,c]=false:=by with_unfolding_all rfl):PTm X W (.Compare a [.LtE,.LtE] [b,c] pos) (λρ S=>((f ρ S).bind λp S1=>(g ρ S1).bind λq S2=>chF leF leF p q S2 λS3=>h ρ S3).bind asB):=yIT (zXZ.or zFS) (zXZ.or zFS) zSA zSA ha hb hc hm
theorem yND(hu:X.A.units+64<cLine)(ha:PEm X W a f)(hb:PEm X W b g)(hc:PEm X W c h)(hm:lastMarks [.LtE,.Lt] [b,c]=false:=by with_unfolding_all rfl):PEm X W (.Compare a [.LtE,.Lt] [b,c] pos) (λρ S=>(f ρ S).bind λp S1=>(g ρ S1).bind λq S2=>chF leF ltF p q S2 λS3=>h ρ S3):=zYP (zXZ.or zFS) (yBM hu) zSA zWG ha hb hc hm
def zWI:Er->Er->Sto->R Er
 |.val .non,.val .non,S=>.ok (.val (.bl true)) S
 |_,.val .non,S=>.ok (.val (.bl false)) S
 |_,_,_=>.no
theorem yJF{α:List Addr}{H:Hp}{p:Er}{x:V}(d:DenX X.K α H p x)(n:p≠.val .non):decide (x=.non)=false:=by
 cases p with
 |new ds=>obtain⟨b,vs,rfl,_⟩:=d;rfl
 |val m=>
  cases m with
  |non=>exact absurd rfl n
  |bl b=>cases zIW d;rfl
  |int b=>cases xN d;rfl
  |str b=>cases jX d;rfl
  |typ b=>cases yIS d;rfl
  |tup b=>obtain⟨_,_,rfl,_⟩:=dU d;rfl
  |scr b=>obtain⟨_,_,rfl,_⟩:=zRX d;rfl
  |loc b=>obtain⟨_,rfl,_⟩:=zCB d;rfl
theorem yEB:Op2 X W (λx y H Q=>y=.non/\Q (.bl (decide (x=.non))) H) zWI:=by
 intro p q x y α S H Q wd dp dq post
 unfold zWI at post
 split at post
 ·cases zOH dp;exact⟨zOH dq,Post.val post wd (wL _)⟩
 ·rename_i p' S' hn
  rw [yJF dp (λz=>by first |exact hn z|exact hn z rfl|exact hn _ z|exact hn rfl z)]
  exact⟨zOH dq,Post.val post wd (wL _)⟩
 ·exact post.elim
theorem pm_is(ha:PEm X W a f)(hb:PEm X W b g):PEm X W (.Compare a [.Is] [b] pos) (λρ S=>(f ρ S).bind λp S1=>(g ρ S1).bind λq S2=>zWI p q S2):=zVX yIA yEB ha hb
theorem tm_is(ha:PEm X W a f)(hb:PEm X W b g):PTm X W (.Compare a [.Is] [b] pos) (λρ S=>((f ρ S).bind λp S1=>(g ρ S1).bind λq S2=>zWI p q S2).bind asB):=zLS yIA yEB ha hb
def getL(ds:List MV):Er->Sto->R Er
 |.val (.int i),S=>match atI ds i with |some d=>.ok (.val d) S|none=>.no
 |_,_=>.no
def ixF:Er->Er->Sto->R Er
 |.val (.str x),.val (.int i),S=>if x.length<=sizeLine then match atI x i with |some c=>.ok (.val (.str [c])) S|none=>.no else .no
 |.val (.tup ds),q,S=>getL ds q S
 |p,q,S=>match dQ S p with |some ds=>getL ds q S|none=>.no
theorem yNE{K:PySem.W.Frag}{α:List Addr}{H:Hp}{ds:List MV}{vs:List V}{i:Int}{d:MV}(l:DenL K α H ds vs)(e:atI ds i=some d): ∃v,atI vs i=some v/\Den K α H d v:=by
 unfold atI at e ⊢
 rw [l.length]
 cases z:ixN ds.length i with
 |none=>rw [z]at e;cases e
 |some j=>
  rw [z]at e
  obtain⟨v,h1,h2⟩:=l.at (show ds[j]? =some d from e)
  exact⟨v,h1,h2⟩
theorem zP(ha:PEm X W a f)(hb:PEm X W b g)(hs:zVO b:=by exact λ_ _=>rfl):PEm X W (.Subscript a b pos) (λρ S=>(f ρ S).bind λp S1=>(g ρ S1).bind λq S2=>ixF p q S2):=by
 refine pm_ix yRA ?_ ha hb hs
 intro p q x y α S H Q wd dp dq post
 have key: ∀{ds:List MV}{vs:List V}{i:Int}{d:MV},DenL X.K α H ds vs->atI ds i=some d->Post X.g W α H (.ok (Er.val d) S) Q-> ∃v,atI vs i=some v/\Q v H:=λl e post=>by
  obtain⟨v,h1,h2⟩:=yNE l e
  exact⟨v,h1,Post.val post wd h2⟩
 unfold ixF at post
 split at post
 ·split at post
  ·rename_i hz
   split at post
   ·rename_i ch e
    refine .inr (.inr ⟨_,_,ch,jX dp,xN dq,by rw [bP];exact hz,by rw [zGS];exact e,?_⟩)
    exact Post.val post wd (zBO [ch])
   ·exact post.elim
  ·exact post.elim
 ·unfold getL at post
  split at post
  ·split at post
   ·rename_i d e
    obtain⟨a1,vs,rfl,s1,l1⟩:=dU dp
    obtain⟨v,h1,h2⟩:=key l1 e post
    exact .inr (.inl ⟨a1,vs,_,v,rfl,xN dq,s1,h1,h2⟩)
   ·exact post.elim
  ·exact post.elim
 ·split at post
  ·rename_i ds el
   unfold getL at post
   split at post
   ·split at post
    ·rename_i d e
     obtain⟨a1,vs,rfl,s1,l1⟩:=zPS rfl wd el dp
     obtain⟨v,h1,h2⟩:=key l1 e post
     exact .inl ⟨a1,vs,_,v,rfl,xN dq,s1,h1,h2⟩
    ·exact post.elim
   ·exact post.elim
  ·exact post.elim
end
theorem zTO{prog:Program}{w:World}{A:Around}{E:Value->Shared->Prop}{s:Shared}{t sl:Addr}{its:Array Value}{vl vu:Value}{lo hi:Option Int}{Q:Value->Shared->Prop}(ht:IsTup s.heap t its)(hs:s.heap.IsSliceOf sl vl vu .none)(pl:IsPart vl lo)(pu:IsPart vu hi)
  (h0:HT.sIx its.size 0 lo=0) (h1:HT.sIx its.size its.size hi=its.size) (h:Q (.ref t) s):wpAny (model prog w) A (getItem (.ref t) (.ref sl)) Q E s:=by
 have hTs:s.TypeIs (.ref sl) "slice":=by obtain⟨os,hos,hcs,_⟩:=id hs;exact⟨os,hos,hcs⟩
 have hTt:=ht.typeIs
 unfold getItem
 try with_reducible refine wpAny_holding ?_
 first |refine wB0 (wP0 ?_)|skip
 refine wB0 (wpAny_sequenceKey hTt (by decide) ?_)
 refine wB0 (wpAny_callSpecial?_slot (name:=Str.ofString "__getitem__") hTt PyProof.Rows.slot_tuple_getitem (wpAny_call_entry PyProof.Rows.slot_tuple_getitem hTt entry_tuple_getitem ?_ (args_tuple_getitem _ _)))
 show wpAny _ _ (Builtin.Tuple.tupleItemsOf (.ref t) >>= _) _ _ s
 refine wB0 (tupleItemsOf_ ht (wB0 (wpAny_typeOf hTs ?_)))
 rw [iP (by decide)]
 refine wB0 (HT.sliceApplied_gen hs pl pu ?_)
 show wpAny _ _ (if(((HT.sIx its.size 0 lo:Nat):Int)==0&&(1:Int)==1&&(HT.sIx its.size its.size hi - HT.sIx its.size 0 lo)==its.size)=true then _ else _) _ _ s
 rw [iP (by rw [h0,h1];simp)]
 unfold Builtin.Tuple.tupleIsExact
 refine wB0 (wB0 (wpAny_typeOf hTt (wP0 ?_)))
 rw [iP (by decide)]
 refine wB0 (wpAny_rule ?_)
 first
  |exact wP0 ⟨_,rfl,wP0 h⟩
  |exact wB0 (wP0 (wP0 ⟨_,rfl,wP0 h⟩))
  |exact wB0 (wP0 ⟨_,rfl,wP0 h⟩)
section
variable{X:Cx}{W:XW}{a b c e:Expr}{es:List Expr}{f g h:Rho->Sto->R Er}{af:Rho->Sto->R (List Er)}{pos:Pos}
theorem yNF:SlR X (λx lo hi H Q=> ∃a xs,x=.ref a/\SqT X.K H a xs/\HT.sIx xs.length 0 lo=0/\HT.sIx xs.length xs.length hi=xs.length/\Q (.ref a) H):=by
 intro pins s σ H x v vl vu lo hi sl Q I rx hs pl pu h
 obtain⟨a,xs,rfl,hx,h0,h1,q⟩:=h
 cases rx
 obtain⟨its,r,ht,hz⟩:=I.tuple hx
 have hlen:its.toArray.size=xs.length:=by rw [sA];exact r.length.symm
 exact⟨"tuple",_,PyProof.Rows.slot_tuple_getitem.lookup,ht.typeIs,zTO ht hs pl pu (by rw [hlen];exact h0) (by rw [hlen];exact h1) ⟨.ref a,H,I,rfl,q⟩⟩
def zAD:Er->Option Int->Option Int->Sto->R Er
 |.val (.str x),lo,hi,S=>if x.length<=sizeLine then .ok (.val (.str (cK x lo hi))) S else .no
 |.val (.tup ds),lo,hi,S=>.ok (.val (.tup (cK ds lo hi))) S
 |p,lo,hi,S=>match dQ S p with |some ds=>.ok (.new (cK ds lo hi)) S|none=>.no
theorem yGN{α:Type}{ds:List α}{lo hi:Option Int}(h0:HT.sIx ds.length 0 lo=0)(h1:HT.sIx ds.length ds.length hi=ds.length):cK ds lo hi=ds:=by
 unfold cK
 rw [h0,h1]
 simp
theorem dY{lo hi:Option Expr}{lf hf:Rho->Sto->R (Option Int)}{p2:Pos}(ha:PEm X W a f)(hl:POm X W lo lf)(hh:POm X W hi hf):PEm X W (.Subscript a (.Slice lo hi none p2) pos) (λρ S=>(f ρ S).bind λp S1=>(lf ρ S1).bind λl S2=>(hf ρ S2).bind λu S3=>zAD p l u S3):=by
 refine yIV (yRF.or (yML.or (yQZ.or yNF))) ?_ ha hl hh
 intro p lo hi x α S H Q wd dp post
 unfold zAD at post
 split at post
 ·split at post
  ·rename_i hz
   exact .inl ⟨_,jX dp,hz,Post.val post wd (zBO _)⟩
  ·exact post.elim
 ·rename_i _ _ _ ds
  obtain⟨a1,vs,rfl,s1,l1⟩:=dU dp
  by_cases hw:HT.sIx vs.length 0 lo=0/\HT.sIx vs.length vs.length hi=vs.length
  ·have e:cK ds lo hi=ds:=yGN (by rw [<-l1.length];exact hw.1) (by rw [<-l1.length];exact hw.2)
   rw [e]at post
   exact .inr (.inr (.inr ⟨a1,vs,rfl,s1,hw.1,hw.2,Post.val post wd (nV s1 l1)⟩))
  ·exact .inr (.inr (.inl ⟨a1,vs,rfl,s1,hw,λp hp=>Post.newt post wd hp (l1.cut lo hi)⟩))
 ·split at post
  ·rename_i ds el
   obtain⟨a1,vs,rfl,s1,l1⟩:=zPS rfl wd el dp
   exact .inr (.inl ⟨a1,vs,rfl,s1,λp hp=>Post.newl post wd hp (l1.cut lo hi)⟩)
  ·exact post.elim
end
section
variable{X:Cx}{W:XW}{a b c e:Expr}{es:List Expr}{f g h:Rho->Sto->R Er}{af:Rho->Sto->R (List Er)}{pos:Pos}
def zWJ(S:Sto)(n:Nat)(d:MV):List MV->Option (List Bool)
 |[]=>some []
 |y::ys=>(eqv S n y d).bind λk=>(zWJ S n d ys).map (k::·)
section
variable{α:List Addr}{S:Sto}{H:Hp}{pins:List (Addr×Obj)}{σ:St}{s:Shared}
noncomputable def zYS(X:Cx)(α:List Addr)(S:Sto)(H:Hp)(n:Nat)(d:MV)(u:Value):Bool:=open Classical in decide (∃y x,Den X.K α H y x/\RelV x u/\eqv S n y d=some true)
open Classical in
theorem yNG(I:Inv X pins σ H s)(wd:Wd X.g α S H){n:Nat}{d y:MV}{x:V}{u:Value}{k:Bool}(dy:Den X.K α H y x)(r:RelV x u)(e:eqv S n y d=some k):zYS X α S H n d u=k:=by
 unfold zYS
 cases k with
 |true=>exact dT0 ⟨y,x,dy,r,e⟩
 |false=>
  refine dF0 λ⟨y',x',dy',r',e'⟩=>?_
  have ex:=r.inj r'
  subst ex
  rw [dy.inj I wd dy']at e
  rw [e]at e'
  cases e'
theorem zND(I:Inv X pins σ H s)(wd:Wd X.g α S H){n:Nat}{A:Around}{d:MV}{x:V}{v:Value}(hu:A.units+n<cLine)(dd:Den X.K α H d x)(rx:RelV x v): ∀{ys:List MV}{vs:List V}{us:List Value}{bs:List Bool},DenL X.K α H ys vs->Vals vs us->zWJ S n d ys=some bs->
  us.map (zYS X α S H n d)=bs/\ ∀u∈us,SeqAt.EqAt A s u v (zYS X α S H n d u)
 |[],_,_,bs,l,r,e=>by
  cases l.isnil;cases r;cases e
  exact⟨rfl,λu hu=>by cases hu⟩
 |y::ys,_,_,bs,l,r,e=>by
  obtain⟨v',r',rfl,dy,l'⟩:=l.uncons
  cases r with
  |cons r1 r2=>
   unfold zWJ at e
   cases z:eqv S n y d with
   |none=>rw [z]at e;cases e
   |some k=>
    rw [z]at e
    cases z2:zWJ S n d ys with
    |none=>simp [z2]at e
    |some cs=>
     simp [z2]at e
     subst e
     obtain⟨h1,h2⟩:=zND I wd hu dd rx l' r2 z2
     have h3:=yNG I wd dy r1 z
     refine⟨by rw [map_cons,h1,h3],λu hu'=>?_⟩
     rcases mC.mp hu' with rfl|hu'
     ·rw [h3];exact zWD I wd n A y d _ _ _ _ k hu dy dd r1 rx z
     ·exact h2 u hu'
end
theorem any_map{us:List Value}{f:Value->Bool}{bs:List Bool}(h:us.map f=bs):us.toArray.any f=bs.any id:=by
 subst h
 simp [List.any_map]
def itemsOf(S:Sto):Er->Option (List MV)
 |.val (.tup ds)=>some ds
 |r=>dQ S r
theorem zNE{α:List Addr}{S:Sto}{H:Hp}(wd:Wd X.g α S H){r:Er}{ds:List MV}{x:V}(e:itemsOf S r=some ds)(d:DenX X.K α H r x): ∃a vs,x=.ref a/\(SqL X.K H a vs\/SqT X.K H a vs)/\DenL X.K α H ds vs:=by
 unfold itemsOf at e
 split at e
 ·cases e
  obtain⟨a,vs,rfl,s,l⟩:=dU d
  exact⟨a,vs,rfl,.inr s,l⟩
 ·obtain⟨a,vs,rfl,s,l⟩:=zPS rfl wd e d
  exact⟨a,vs,rfl,.inl s,l⟩
def zOJ(neg:Bool)(p q:Er)(S:Sto):R Er:=match p with
 |.val d=>match itemsOf S q with
  |some ys=>match zWJ S yO d ys with
   |some bs=>.ok (.val (.bl (if neg=true then !bs.any id else bs.any id))) S
   |none=>.no
  |none=>.no
 |.new _=>.no
def inF(neg:Bool):Er->Er->Sto->R Er
 |.val (.str [c]),.val (.str y),S=>.ok (.val (.bl (if neg=true then !decide (c∈y)else decide (c∈y)))) S
 |p,q,S=>zOJ neg p q S
abbrev yJG(X:Cx)(neg:Bool):R2:=λx y H Q=> ∃α S d q ys bs,Wd X.g α S H/\Den X.K α H d x/\DenX X.K α H q y/\itemsOf S q=some ys/\zWJ S yO d ys=some bs/\Q (.bl (if neg=true then !bs.any id else bs.any id)) H
theorem yRV(hu:X.A.units+64<cLine):OpR X (compareOp .In) (yJG X false):=by
 intro pins s σ H x y v u Q I rx ry h
 obtain⟨α,S,d,q,ys,bs,wd,dd,dq,ei,ea,hq⟩:=h
 obtain⟨a,vs,rfl,sq,l⟩:=zNE wd ei dq
 cases ry
 rcases sq with sq|sq
 ·obtain⟨its,r,pl,_⟩:=I.list sq
  obtain⟨h1,h2⟩:=zND I wd (A:=X.A.in1) (by show X.A.units+1+yO<cLine;unfold yO;omega) dd rx l r ea
  refine SeqAt.in_listAt (zYS X α S H yO d) pl.isList (λw hw=>h2 w (by simpa using hw)) ⟨.bl _,H,I,rfl,?_⟩
  rw [any_map h1]
  exact hq
 ·obtain⟨its,r,pl,_⟩:=I.tuple sq
  obtain⟨h1,h2⟩:=zND I wd (A:=X.A.in1) (by show X.A.units+1+yO<cLine;unfold yO;omega) dd rx l r ea
  refine SeqAt.in_tupleAt (zYS X α S H yO d) pl (λw hw=>h2 w (by simpa using hw)) ⟨.bl _,H,I,rfl,?_⟩
  rw [any_map h1]
  exact hq
theorem yGO(hu:X.A.units+64<cLine):OpR X (compareOp .NotIn) (yJG X true):=by
 intro pins s σ H x y v u Q I rx ry h
 obtain⟨α,S,d,q,ys,bs,wd,dd,dq,ei,ea,hq⟩:=h
 obtain⟨a,vs,rfl,sq,l⟩:=zNE wd ei dq
 cases ry
 rcases sq with sq|sq
 ·obtain⟨its,r,pl,_⟩:=I.list sq
  obtain⟨h1,h2⟩:=zND I wd (A:=X.A.in1) (by show X.A.units+1+yO<cLine;unfold yO;omega) dd rx l r ea
  refine SeqAt.notIn_listAt (zYS X α S H yO d) pl.isList (λw hw=>h2 w (by simpa using hw)) ⟨.bl _,H,I,rfl,?_⟩
  rw [any_map h1]
  exact hq
 ·obtain⟨its,r,pl,_⟩:=I.tuple sq
  obtain⟨h1,h2⟩:=zND I wd (A:=X.A.in1) (by show X.A.units+1+yO<cLine;unfold yO;omega) dd rx l r ea
  refine SeqAt.notIn_tupleAt (zYS X α S H yO d) pl (λw hw=>h2 w (by simpa using hw)) ⟨.bl _,H,I,rfl,?_⟩
  rw [any_map h1]
  exact hq
theorem yEC{neg:Bool}:Op2 X W (λx y H Q=>(∃i j,x=.str i/\y=.str j/\Q (.bl (if neg=true then !(!(Builtin.Str.occurrences j i 0 j.length 1).isEmpty)else !(Builtin.Str.occurrences j i 0 j.length 1).isEmpty)) H)\/yJG X neg x y H Q) (inF neg):=by
 intro p q x y α S H Q wd dp dq post
 unfold inF at post
 split at post
 ·refine .inl ⟨_,_,jX dp,jX dq,?_⟩
  rw [<-yMQ,PySem.StrLaws.found_one,zGS]
  exact Post.val post wd (wL _)
 ·unfold zOJ at post
  split at post
  ·rename_i d _
   split at post
   ·rename_i ys ei
    split at post
    ·rename_i bs ea
     exact .inr ⟨α,S,_,q,ys,bs,wd,dp,dq,ei,ea,Post.val post wd (wL _)⟩
    ·exact post.elim
   ·exact post.elim
  ·exact post.elim
theorem OpR.imp{f:Value->Value->Sem Value}{r r':R2}(h:OpR X f r)(i: ∀x y H Q,r' x y H Q->r x y H Q):OpR X f r':=λpins s σ H x y v u Q I rx ry q=>h pins s σ H x y v u Q I rx ry (i x y H Q q)
theorem yRW(hu:X.A.units+64<cLine):OpR X (compareOp .In) (λx y H Q=>(∃i j,x=.str i/\y=.str j/\Q (.bl (if(false:Bool)=true then !(!(Builtin.Str.occurrences j i 0 j.length 1).isEmpty)else !(Builtin.Str.occurrences j i 0 j.length 1).isEmpty)) H)\/yJG X false x y H Q):=
 OpR.imp (yFX.or (yRV hu)) λx y H Q q=>q.imp (λq=>q) λq=>q
theorem yGP(hu:X.A.units+64<cLine):OpR X (compareOp .NotIn) (λx y H Q=>(∃i j,x=.str i/\y=.str j/\Q (.bl (if(true:Bool)=true then !(!(Builtin.Str.occurrences j i 0 j.length 1).isEmpty)else !(Builtin.Str.occurrences j i 0 j.length 1).isEmpty)) H)\/yJG X true x y H Q):=
 OpR.imp (zVL.or (yGO hu)) λx y H Q q=>q.imp (λq=>q) λq=>q
theorem pm_in(hu:X.A.units+64<cLine)(ha:PEm X W a f)(hb:PEm X W b g)(hm:behindInMarks .In b=false:=by with_unfolding_all rfl):PEm X W (.Compare a [.In] [b] pos) (λρ S=>(f ρ S).bind λp S1=>(g ρ S1).bind λq S2=>inF false p q S2):=zVX (yRW hu) yEC ha hb hm
theorem yJH(hu:X.A.units+64<cLine)(ha:PEm X W a f)(hb:PEm X W b g)(hm:behindInMarks .NotIn b=false:=by with_unfolding_all rfl):PTm X W (.Compare a [.NotIn] [b] pos) (λρ S=>((f ρ S).bind λp S1=>(g ρ S1).bind λq S2=>inF true p q S2).bind asB):=zLS (yGP hu) yEC ha hb hm
theorem zPU{K:PySem.W.Frag}{α:List Addr}{H:Hp}{r:Er}{vs:List V}(d:ArgsX K α H [r] vs): ∃v,vs=[v]/\DenX K α H r v:=by
 cases d with
 |cons a l=>cases l;exact⟨_,rfl,a⟩
theorem argx2{K:PySem.W.Frag}{α:List Addr}{H:Hp}{r r':Er}{vs:List V}(d:ArgsX K α H [r,r'] vs): ∃v u,vs=[v,u]/\DenX K α H r v/\DenX K α H r' u:=by
 cases d with
 |cons a l=>obtain⟨u,rfl,l'⟩:=zPU l;exact⟨_,u,rfl,a,l'⟩
def wC:List Er->Sto->R Er
 |[.val (.str x)],S=>if x.length<=sizeLine then .ok (.val (.int x.length)) S else .no
 |[r],S=>match itemsOf S r with |some ds=>.ok (.val (.int ds.length)) S|none=>.no
 |_,_=>.no
theorem xA:zPR X W (λxs H Q=>(∃z,xs=[.str z]/\z.length<=sizeLine/\Q (.int z.length) H)\/ ∃p ys,xs=[.ref p]/\(SqL X.K H p ys\/SqT X.K H p ys)/\Q (.int ys.length) H) wC:=by
 intro rs vs α S H Q wd d post
 unfold wC at post
 split at post
 ·split at post
  ·rename_i hz
   obtain⟨v,rfl,dv⟩:=zPU d
   cases jX dv
   refine .inl ⟨_,rfl,by rw [bP];exact hz,?_⟩
   rw [bP]
   exact Post.val post wd (wD _)
  ·exact post.elim
 ·split at post
  ·rename_i ds e
   obtain⟨v,rfl,dv⟩:=zPU d
   obtain⟨a,us,rfl,sq,l⟩:=zNE wd e dv
   refine .inr ⟨a,us,rfl,sq,?_⟩
   rw [l.length]
   exact Post.val post wd (wD _)
  ·exact post.elim
 ·exact post.elim
theorem zW:CallR X (.builtin "len") (λxs H Q=>(∃z,xs=[.str z]/\z.length<=sizeLine/\Q (.int z.length) H)\/ ∃p ys,xs=[.ref p]/\(SqL X.K H p ys\/SqT X.K H p ys)/\Q (.int ys.length) H):=zVR.or zVQ
def absF:List Er->Sto->R Er
 |[.val (.int i)],S=>.ok (.val (.int (if i<0 then -i else i))) S
 |_,_=>.no
theorem yRX:zPR X W (λxs H Q=> ∃i,xs=[.int i]/\Q (.int (if i<0 then -i else i)) H) absF:=by
 intro rs vs α S H Q wd d post
 unfold absF at post
 split at post
 ·obtain⟨v,rfl,dv⟩:=zPU d
  cases xN dv
  exact⟨_,rfl,Post.val post wd (wD _)⟩
 ·exact post.elim
def zNF:List MV->Option (List Bool)
 |[]=>some []
 |.bl b::r=>(zNF r).map (b::·)
 |_::_=>none
theorem zUR{K:PySem.W.Frag}{α:List Addr}{H:Hp}: ∀{ds:List MV}{bs:List Bool}{vs:List V},zNF ds=some bs->DenL K α H ds vs->vs=bs.map V.bl
 |[],_,_,e,l=>by cases e;exact l.isnil
 |d::r,bs,_,e,l=>by
  cases d with
  |bl b=>
   unfold zNF at e
   cases z:zNF r with
   |none=>rw [z]at e;cases e
   |some cs=>
    rw [z]at e
    cases e
    obtain⟨v,us,rfl,dv,l'⟩:=l.uncons
    rw [zFV dv,zUR z l']
    rfl
  |_=>cases e
def zTP:List Er->Sto->R Er
 |[r],S=>match (dQ S r).bind zNF with |some bs=>.ok (.val (.bl (bs.all id))) S|none=>.no
 |_,_=>.no
theorem zOK(hc:X.calm=true):zPR X W (λxs H Q=> ∃(a:Addr)(bs:List Bool),xs=[.ref a]/\SqL X.K H a (bs.map V.bl)/\X.calm=true/\Q (.bl (bs.all id)) H) zTP:=by
 intro rs vs α S H Q wd d post
 unfold zTP at post
 split at post
 ·split at post
  ·rename_i bs e
   obtain⟨v,rfl,dv⟩:=zPU d
   cases z:dQ S _ with
   |none=>rw [z]at e;cases e
   |some ds=>
    rw [z]at e
    obtain⟨a1,us,rfl,s,l⟩:=zPS rfl wd z dv
    refine⟨a1,bs,rfl,?_,hc,Post.val post wd (wL _)⟩
    rw [<-zUR e l]
    exact s
  ·exact post.elim
 ·exact post.elim
def zWK(S:Sto):Er->Option String
 |.val .non=>some "NoneType"
 |.val (.bl _)=>some "bool"
 |.val (.int _)=>some "int"
 |.val (.str _)=>some "str"
 |.val (.tup _)=>some "tuple"
 |.val (.typ _)=>none
 |r=>(dQ S r).map λ_=>"list"
def yJI(t T:String):Bool:=t==T || (t=="bool"&&T=="int")
def known(T:String):Bool:=T=="int" || T=="bool" || T=="str" || T=="tuple" || T=="list"
def cQ:List Er->Sto->R Er
 |[r,.val (.typ T)],S=>match zWK S r with
  |some t=>if known T=true then .ok (.val (.bl (yJI t T))) S else .no
  |none=>.no
 |_,_=>.no
theorem zBW(K:PySem.W.Frag){t T:String}(ht:t="NoneType"\/t="bool"\/t="int"\/t="str"\/t="tuple"\/t="list")(hT:known T=true):PySem.W.kitOne K (.type t) (.type T)=some (yJI t T):=by
 have hT':T="int"\/T="bool"\/T="str"\/T="tuple"\/T="list":=by
  unfold known at hT
  simp only [or_eq_true,beq_iff_eq]at hT
  rcases hT with(((h|h)|h)|h)|h
  ·exact .inl h
  ·exact .inr (.inl h)
  ·exact .inr (.inr (.inl h))
  ·exact .inr (.inr (.inr (.inl h)))
  ·exact .inr (.inr (.inr (.inr h)))
 rcases ht with rfl|rfl|rfl|rfl|rfl|rfl<;>rcases hT' with rfl|rfl|rfl|rfl|rfl<;>kernel_rfl
theorem wP:CallR X (.builtin "isinstance") (λxs H Q=> ∃α S r x t T,xs=[x,.ty T]/\Wd X.g α S H/\DenX X.K α H r x/\zWK S r=some t/\known T=true/\Q (.bl (yJI t T)) H):=by
 intro pins s σ H xs us Q I rr h
 obtain⟨α,S,r,x,t,T,rfl,wd,d,et,hk,q⟩:=h
 obtain⟨u,w',rfl,rx,rT⟩:=vals2 rr
 cases rT
 have fin: ∀tk,EP X pins σ Q (.bool (yJI t T)) {s with toks:=tk}:=λtk=>⟨.bl _,H,I.tok _,rfl,q⟩
 unfold zWK at et
 split at et
 ·cases et
  cases zOH d
  cases rx
  exact PySem.W.kia_one PySem.W.kitx_none I.kIn True.intro (zBW X.K (.inl rfl) hk) (λz=>nomatch z) fin
 ·cases et
  cases zIW d
  cases rx
  exact PySem.W.kia_one PySem.W.kitx_bool I.kIn True.intro (zBW X.K (.inr (.inl rfl)) hk) (λz=>nomatch z) fin
 ·cases et
  cases xN d
  obtain⟨t,rfl⟩:=rx
  exact PySem.W.kia_one PySem.W.kitx_int I.kIn True.intro (zBW X.K (.inr (.inr (.inl rfl))) hk) (λz=>nomatch z) fin
 ·cases et
  cases jX d
  obtain⟨t,rfl⟩:=rx
  exact PySem.W.kia_one PySem.W.kitx_str I.kIn True.intro (zBW X.K (.inr (.inr (.inr (.inl rfl)))) hk) (λz=>nomatch z) fin
 ·cases et
  obtain⟨a,vs,rfl,sq,l⟩:=dU d
  cases rx
  obtain⟨its,r1,p1,_⟩:=I.tuple sq
  obtain⟨o,h1,h2,_⟩:=p1
  exact PySem.W.kia_one PySem.W.kitx_tuple I.kIn ⟨o,h1,h2⟩ (zBW X.K (.inr (.inr (.inr (.inr (.inl rfl))))) hk) (λz=>nomatch z) fin
 ·cases et
 ·cases z:dQ S r with
  |none=>rw [z]at et;cases et
  |some ds=>
   rw [z]at et
   cases et
   obtain⟨a,vs,rfl,sq,l⟩:=zPS rfl wd z d
   cases rx
   obtain⟨its,r1,p1,_⟩:=I.list sq
   obtain⟨o,h1,h2,_⟩:=p1.isList
   exact PySem.W.kia_one PySem.W.kitx_list I.kIn ⟨o,h1,h2⟩ (zBW X.K (.inr (.inr (.inr (.inr (.inr rfl))))) hk) (λz=>nomatch z) fin
theorem bX:zPR X W (λxs H Q=> ∃α S r x t T,xs=[x,.ty T]/\Wd X.g α S H/\DenX X.K α H r x/\zWK S r=some t/\known T=true/\Q (.bl (yJI t T)) H) cQ:=by
 intro rs vs α S H Q wd d post
 unfold cQ at post
 split at post
 ·split at post
  ·rename_i t et
   split at post
   ·rename_i hk
    obtain⟨v,u,rfl,d1,d2⟩:=argx2 d
    cases yIS d2
    exact⟨α,S,_,v,t,_,rfl,wd,d1,et,hk,Post.val post wd (wL _)⟩
   ·exact post.elim
  ·exact post.elim
 ·exact post.elim
def gY:List Er->Sto->R Er
 |[.val (.tup ds)],S=>.ok (.val (.tup ds)) S
 |[r],S=>match dQ S r with |some ds=>.ok (.val (.tup ds)) S|none=>.no
 |_,_=>.no
theorem bC:zPR X W (λxs H Q=> ∃p ys,xs=[.ref p]/\((SqL X.K H p ys/\ ∀l,H l=none->Q (.ref l) (upd H l (.tup ys)))\/(SqT X.K H p ys/\Q (.ref p) H))) gY:=by
 intro rs vs α S H Q wd d post
 unfold gY at post
 split at post
 ·obtain⟨v,rfl,dv⟩:=zPU d
  obtain⟨a,us,rfl,sq,l⟩:=dU dv
  exact⟨a,us,rfl,.inr ⟨sq,Post.val post wd (nV sq l)⟩⟩
 ·split at post
  ·rename_i ds e
   obtain⟨v,rfl,dv⟩:=zPU d
   obtain⟨a,us,rfl,sq,l⟩:=zPS rfl wd e dv
   exact⟨a,us,rfl,.inl ⟨sq,λp hp=>Post.newt post wd hp l⟩⟩
  ·exact post.elim
 ·exact post.elim
def zUS:List Er->Sto->R Er
 |[r],S=>match itemsOf S r with |some ds=>.ok (.new ds) S|none=>.no
 |_,_=>.no
theorem yED:zPR X W (λxs H Q=> ∃p ys,xs=[.ref p]/\(SqL X.K H p ys\/SqT X.K H p ys)/\ ∀l,H l=none->Q (.ref l) (upd H l (.lst ys))) zUS:=by
 intro rs vs α S H Q wd d post
 unfold zUS at post
 split at post
 ·split at post
  ·rename_i ds e
   obtain⟨v,rfl,dv⟩:=zPU d
   obtain⟨a,us,rfl,sq,l⟩:=zNE wd e dv
   exact⟨a,us,rfl,sq,λp hp=>Post.newl post wd hp l⟩
  ·exact post.elim
 ·exact post.elim
theorem xB:bootBuiltins "len"=some (.builtin "len"):=by decide+kernel
theorem yRY:bootBuiltins "abs"=some (.builtin "abs"):=by decide+kernel
theorem zOL:bootBuiltins "all"=some (.builtin "all"):=by decide+kernel
theorem yE:bootBuiltins "isinstance"=some (.builtin "isinstance"):=by decide+kernel
theorem yBN:bootBuiltins "int"=some (.type "int"):=by decide+kernel
theorem zWL:bootBuiltins "bool"=some (.type "bool"):=by decide+kernel
theorem yBO:bootBuiltins "str"=some (.type "str"):=by decide+kernel
theorem kF:bootBuiltins "tuple"=some (.type "tuple"):=by decide+kernel
theorem zQO:bootBuiltins "list"=some (.type "list"):=by decide+kernel
end
def digN(n:Nat):List Nat:=(Nat.toDigits 10 n).map Char.toNat
def decL(i:Int):List Nat:=if i<0 then 45::digN i.natAbs else digN i.natAbs
section
variable{X:Cx}{W:XW}{a b c e o i:Expr}{es:List Expr}{f g h:Rho->Sto->R Er}{af:Rho->Sto->R (List Er)}{pos apos:Pos}
def strF:List Er->Sto->R Er
 |[.val (.int i)],S=>if i.natAbs.log2<1920 then .ok (.val (.str (decL i))) S else .no
 |[.val (.str x)],S=>.ok (.val (.str x)) S
 |_,_=>.no
def zSB:Er->Sto->Bool
 |.val (.str _),_=>true
 |_,_=>false
theorem ty_str:TyM X "str" zSB:=by
 intro p x α S H wd d h
 unfold zSB at h
 split at h
 ·cases jX d;rfl
 ·cases h
def zNG(p:Er)(S:Sto):Bool:=(dQ S p).isSome
theorem yRZ:TyM X "list" zNG:=by
 intro p x α S H wd d h
 unfold zNG at h
 cases z:dQ S p with
 |none=>rw [z]at h;cases h
 |some ds=>
  obtain⟨a,vs,rfl,s,l⟩:=zPS rfl wd z d
  exact .inl ⟨rfl,vs,s⟩
def swF:Er->List Er->Sto->R Er
 |.val (.str x),[.val (.str y)],S=>.ok (.val (.bl (decide (y.length<=x.length)&&decide (x.take y.length=y)))) S
 |_,_,_=>.no
def strIdx(x y:List Nat):Option Nat:=(Builtin.Str.occurrences (mkS x) (mkS y) 0 (mkS x).length 1).head?
def zYT:Er->List Er->Sto->R Er
 |.val (.str x),[.val (.str y)],S=>match strIdx x y with |some i=>.ok (.val (.int (i:Nat))) S|none=>.no
 |_,_,_=>.no
theorem yNH:MtR X "str.index" (λx xs H Q=> ∃y z i,x=.str (mkS y)/\xs=[.str (mkS z)]/\strIdx y z=some i/\Q (.int (i:Nat)) H):=by
 intro pins s σ H x xs v us Q I rx rs h
 obtain⟨y,z,i,rfl,rfl,hi,q⟩:=h
 obtain⟨t,rfl⟩:=rx
 obtain⟨u,rfl,t',rfl⟩:=vals1 rs
 unfold strIdx at hi
 cases zz:Builtin.Str.occurrences (mkS y) (mkS z) 0 (mkS y).length 1 with
 |nil=>rw [zz]at hi;cases hi
 |cons k r=>
  rw [zz]at hi
  cases hi
  exact PySem.SC.index zz ⟨.int _,H,I.tok _,⟨_,rfl⟩,q⟩
theorem yNI:MtdM X W (λx xs H Q=> ∃y z i,x=.str (mkS y)/\xs=[.str (mkS z)]/\strIdx y z=some i/\Q (.int (i:Nat)) H) zYT:=by
 intro p rs x vs α S H0 H Q α0 wd x0 dp da post
 replace post:=post.shift x0
 unfold zYT at post
 split at post
 ·split at post
  ·rename_i i hi
   obtain⟨v,rfl,dv⟩:=yDT da
   exact⟨_,_,i,jX dp,by rw [jX dv],hi,Post.val post wd (wD _)⟩
  ·exact post.elim
 ·exact post.elim
theorem yNJ(ho:PEm X W a f)(ha:PAm X W (e::es) af)
  (hbase:attributeBase a "index" X.env (eval a X.env)=eval a X.env:=by rfl)
  (hfew:((backTo pos (starEach (e::es) X.env)).all (λx=>!x.1)&&(backToKw pos (keywordEach [] X.env)).all (λx=>x.1.isSome)
   &&decide ((e::es).length+([]:List Keyword).length+(if([]:List Keyword).isEmpty then 0 else 1)<30))=true:=by rfl)
  (hline:(apos.endLine==pos.line)=true:=by rfl) (hs:starEach (e::es) X.env=(false,eval e X.env)::starEach es X.env:=by rfl) (hplain:(backTo pos (starEach es X.env)).any (·.1)=false:=by rfl):
  PEm X W (.Call (.Attribute a "index" apos) (e::es) [] pos) (λρ S=>(f ρ S).bind λp S1=>if zSB p S1=true then(af ρ S1).bind λrs S2=>zYT p rs S2 else .no):=
 yDR PySem.F.plainAttrs_str PySem.F.slot_str_index PySem.F.type_str_index yNH yNI ty_str ho ha hbase hfew hline hs hplain
def yGQ(p:Er)(S:Sto)(G:List MV->Option (List MV)):R Er:=match p with
 |.val (.loc l)=>match S[l]? with
  |some (.lst ds)=>match G ds with
   |some es=>.ok (.val .non) (S.set l (.lst es))
   |none=>.no
  |_=>.no
 |_=>.no
theorem yGR{α0 α:List Addr}{H0 H:Hp}{S:Sto}{p:Er}{x:V}{G:List MV->Option (List MV)}{Q:VK}(wd:Wd X.g α S H)(x0:Ext α0 H0 α H)(dp:DenX X.K α H p x)(post:Post X.g W α0 H0 (yGQ p S G) Q):
  ∃a vs ds es,x=.ref a/\H a=some (.lst vs)/\DenL X.K α H ds vs/\G ds=some es/\ ∀us,DenL X.K α H es us->Q .non (upd H a (.lst us)):=by
 unfold yGQ at post
 split at post
 ·rename_i l
  obtain⟨a,rfl,h⟩:=zCB dp
  obtain⟨ob,h1,h2⟩:=wd.of h
  rw [h1]at post
  cases ob with
  |lst ds=>
   obtain⟨vs,h3,l1⟩:=h2
   have post:Post X.g W α0 H0 (match G ds with |some es=>R.ok (Er.val .non) (S.set l (.lst es))|none=>R.no) Q:=post
   split at post
   ·rename_i es eg
    refine⟨a,vs,ds,es,rfl,h3,l1,eg,λus lu=>?_⟩
    have xw:=wd.writex h (o:=.lst us)
    exact(post.shift (x0.trans xw)).val (wd.write h ⟨us,yB,lu.ext xw⟩) zBN
   ·exact post.elim
  |dic _=>exact post.elim
  |ins _ _=>exact post.elim
 ·exact post.elim
def yBP:Er->List Er->Sto->R Er
 |p,[r],S=>(zCD r S).bind λy S1=>yGQ p S1 λds=>if ds.length<sizeLine then some (ds++[y])else none
 |_,_,_=>.no
theorem yGS:MtdM X W yDM yBP:=by
 intro p rs x vs α S H0 H Q α0 wd x0 dp da post
 match rs,da,post with
 |[],_,post=>exact post.elim
 |_::_::_,_,post=>exact post.elim
 |[r],da,post=>
  cases da with
  |cons d n l=>
   cases l
   obtain⟨d',S',α',e',x',y',w',dd⟩:=zFZ wd x0 d
   have post:Post X.g W α0 H0 ((zCD r S).bind λy S1=>yGQ p S1 λds=>if ds.length<sizeLine then some (ds++[y])else none) Q:=post
   rw [e']at post
   have dp':DenX X.K α' H p x:=by
    cases p with
    |val m=>exact Den.ex0 y' dp
    |new ds=>exact post.elim
   obtain⟨a,us,ds,es,rfl,h1,l1,eg,k⟩:=yGR w' x' dp' post
   split at eg
   ·rename_i hz
    cases eg
    exact⟨a,us,_,rfl,rfl,h1,by rw [l1.length];exact hz,k _ (l1.append (xH dd wM))⟩
   ·cases eg
theorem zKS(ho:PEm X W a f)(ha:PAm X W (e::es) af)
  (hbase:attributeBase a "append" X.env (eval a X.env)=eval a X.env:=by rfl)
  (hfew:((backTo pos (starEach (e::es) X.env)).all (λx=>!x.1)&&(backToKw pos (keywordEach [] X.env)).all (λx=>x.1.isSome)
   &&decide ((e::es).length+([]:List Keyword).length+(if([]:List Keyword).isEmpty then 0 else 1)<30))=true:=by rfl)
  (hline:(apos.endLine==pos.line)=true:=by rfl) (hs:starEach (e::es) X.env=(false,eval e X.env)::starEach es X.env:=by rfl) (hplain:(backTo pos (starEach es X.env)).any (·.1)=false:=by rfl):
  PEm X W (.Call (.Attribute a "append" apos) (e::es) [] pos) (λρ S=>(f ρ S).bind λp S1=>if zNG p S1=true then(af ρ S1).bind λrs S2=>yBP p rs S2 else .no):=
 yDR PySem.F.plainAttrs_list PySem.F.slot_list_append PySem.F.type_list_append yFZ yGS yRZ ho ha hbase hfew hline hs hplain
def jR(p q:Er)(d:MV)(ρ:Rho)(S:Sto):R Rho:=match p,q with
 |.val (.loc l),.val (.int k)=>match S[l]? with
  |some (.lst ds)=>match ixN ds.length k with
   |some j=>.ok ρ (S.set l (.lst (ds.set j d)))
   |none=>.no
  |_=>.no
 |_,_=>.no
theorem zAQ(ho:PEm X W o f)(hi:PEm X W i g)
  (ha: ∀v,assign (.Subscript o i pos) X.env v=(do
   let ov <-holding [v] (eval o X.env)
   let iv <-holding [v,ov] (eval i X.env)
   standAt pos
   holding [v,ov,iv] (setItem ov iv v)
   release [v,ov,iv] []):=by intro _;rfl):PGm X W (.Subscript o i pos) (λd ρ S=>(f ρ S).bind λp S1=>(g ρ S1).bind λq S2=>jR p q d ρ S2):=by
 obtain⟨to,ho,fo⟩:=ho
 obtain⟨ti,hi,fi⟩:=hi
 refine⟨_,yHY ho hi set_list ha,λα ρ S σ H d v Q wd sl de q=>fo α ρ S σ H _ wd sl (q.bind λu p S1 α1 H1 e1 x1 w1 d1 q1=>fi α1 ρ S1 σ H1 _ w1 (sl.ext x1) ((q1.shift x1).bind λu2 p2 S2 α2 H2 e2 x2 w2 d2 q2=>?_))⟩
 replace q2:=q2.shift x2
 have d1':=DenX.ext x2 d1.1
 unfold jR at q2
 split at q2
 ·rename_i l k
  obtain⟨a,rfl,h⟩:=zCB d1'
  cases xN d2.1
  obtain⟨ob,h1,h2⟩:=w2.of h
  rw [h1]at q2
  cases ob with
  |lst ds=>
   obtain⟨vs,h3,l1⟩:=h2
   have q2:Post X.g W α2 H2 (match ixN ds.length k with |some j=>R.ok ρ (S2.set l (.lst (ds.set j d)))|none=>R.no) Q:=q2
   split at q2
   ·rename_i j ej
    have xw:=w2.writex h (o:=.lst (vs.set j v))
    have sl2:=((sl.ext x1).ext x2).ext xw
    exact⟨a,vs,k,j,rfl,rfl,h3,by rw [l1.length];exact ej,q2 σ α2 _ xw (w2.write h ⟨_,yB,(l1.set ((de.ext x1).ext x2) j).ext xw⟩) sl2⟩
   ·exact q2.elim
  |dic _=>exact q2.elim
  |ins _ _=>exact q2.elim
 ·exact q2.elim
end
theorem _root_.L2.Inv.turnedL{X:Cx}{pins:List (Addr×Obj)}{σ:St}{H:Hp}{s:Shared}{h':Heap}{t':Nat}{fp:List Addr}(I:Inv X pins σ H s)(k: ∀b o,b∉fp->s.heap.get? b=some o->h'.get? b=some o)
  (hf: ∀b∈fp,zMU X pins H b):Inv X pins σ H {s with heap:=h',toks:=t'}:=by
 have nit: ∀b u,H b=some u->b∉fp:=λb u e z=>by rw [(hf b z).1]at e;cases e
 refine I.step (g':=s.gens) (d':=s.drawn) (ch:=fp) (λb hb=>⟨(hf b hb).2.2.2.1,(hf b hb).2.1,(hf b hb).2.2.2.2.1,(hf b hb).2.2.2.2.2⟩) (λb o _ _ hc e _=>k b o hc e) (λb o _ _ hc e _=>⟨o.slots,k b o hc e⟩) (λ_ _ _ _ n=>n)
  (λb o hc e=>⟨o,k b o hc e⟩) (λ_ _ e=>e) (λ_ _ _ e=>e) (λb ps e=>⟨#[],by rw [e];simp⟩) (λm hm=>?_) (λb u e=>?_) I.bare
 ·obtain⟨o,es,ep,ho,r⟩:=hm
  exact⟨o,es,ep,k _ o (λz=>(hf _ z).2.1 rfl) ho,r⟩
 ·refine(I.hok b u e).stay (λc v hc q=>k c v ?_ q) (λ_ q=>q) λ_ _ q=>q
  rcases hc with z|z
  ·rw [z];exact nit b u e
  ·exact nit c _ z
def IsSub(k:Bool)(h:Heap)(it l:Addr)(i:Nat):Prop:=if k=true then h.IsListIter it l i else h.IsTupleIter it l i
def IsSeq(k:Bool)(h:Heap)(l:Addr)(its:Array Value):Prop:=if k=true then h.IsList l its else h.IsTuple l its
def zGX(k:Bool)(l:Addr):Obj:={cls:=.type (if k=true then "list_iterator" else "tuple_iterator"),data:=.fields #[.ref l,.int 0 0]}
theorem IsSub.mk'{k:Bool}{h:Heap}{it l:Addr}(e:h.get? it=some (zGX k l)):IsSub k h it l 0:=by
 cases k with
 |true=>exact⟨_,e,rfl,rfl⟩
 |false=>exact⟨_,e,rfl,rfl⟩
theorem IsSub.there{k:Bool}{h:Heap}{it l:Addr}{i:Nat}(x:IsSub k h it l i): ∃o,h.get? it=some o/\ ∀v,o.data≠.cell v:=by
 cases k with
 |true=>obtain⟨o,e,_,d⟩:=(x:h.IsListIter it l i);exact⟨o,e,λv z=>by rw [d]at z;cases z⟩
 |false=>obtain⟨o,e,_,d⟩:=(x:h.IsTupleIter it l i);exact⟨o,e,λv z=>by rw [d]at z;cases z⟩
theorem IsSub.move{k:Bool}{h h':Heap}{it l:Addr}{i:Nat}(x:IsSub k h it l i)(f: ∀o,h.get? it=some o->h'.get? it=some o):IsSub k h' it l i:=by
 cases k with
 |true=>obtain⟨o,e,r⟩:=(x:h.IsListIter it l i);exact⟨o,f o e,r⟩
 |false=>obtain⟨o,e,r⟩:=(x:h.IsTupleIter it l i);exact⟨o,f o e,r⟩
theorem IsSeq.move{k:Bool}{h h':Heap}{l:Addr}{its:Array Value}(x:IsSeq k h l its)(f: ∀o,h.get? l=some o->h'.get? l=some o):IsSeq k h' l its:=by
 cases k with
 |true=>obtain⟨o,e,r⟩:=(x:h.IsList l its);exact⟨o,f o e,r⟩
 |false=>obtain⟨o,e,r⟩:=(x:h.IsTuple l its);exact⟨o,f o e,r⟩
section
variable{prog:Program}{w:World}{A:Around}{E:Value->Shared->Prop}{s:Shared}
theorem zJA{k:Bool}{l:Addr}{its:Array Value}{Q:Value->Shared->Prop}(hl:IsSeq k s.heap l its)(h:Q (.ref s.heap.objs.size) {s with heap:=s.heap.push (zGX k l)}):wpAny (model prog w) A (pyIter (.ref l)) Q E s:=by
 cases k with
 |true=>exact wpAny_pyIter_list hl h
 |false=>exact wpAny_pyIter_tuple hl h
theorem zNH{k:Bool}{it l:Addr}{i:Nat}{its:Array Value}{x:Value}{Q:Value->Shared->Prop}(hit:IsSub k s.heap it l i)(hl:IsSeq k s.heap l its)(hx:its[i]? =some x)
  (hQ: ∀h',IsSub k h' it l (i+1)->Heap.SameBut it s.heap h'->Q x {s with heap:=h'}):wpAny (model prog w) A (Builtin.SmallTypes.nextOf (.ref it)) Q E s:=by
 cases k with
 |true=>exact wpAny_nextOf_list_item hit hl hx hQ
 |false=>
  have hit':s.heap.IsTupleIter it l i:=hit
  obtain⟨o,ho,hc,hd⟩:=id hit'
  obtain⟨ol,hol,_,nl,hdl⟩:=(hl:s.heap.IsTuple l its)
  unfold Builtin.SmallTypes.nextOf
  refine wB0 (wpAny_callSpecial?_slot (name:=Str.ofString "__next__") hit'.typeIs F.slot_tuple_iterator_next (wpAny_call_entry F.slot_tuple_iterator_next hit'.typeIs F.entry_tuple_iterator_next ?_ (F.args_tuple_iterator_next_1 _)))
  show wpAny _ _ (field (.ref it) 0 >>= _) _ _ s
  refine wB0 (wpAny_field ho hd (x:=.ref l) rfl ?_)
  show wpAny _ _ (if(Value.ref l==Value.none)=true then _ else _) _ _ s
  rw [iN0 (show¬((Value.ref l==Value.none)=true)from xF0)]
  show wpAny _ _ (field (.ref it) 1 >>= _) _ _ s
  refine wB0 (wpAny_field ho hd (x:=.int i 0) rfl ?_)
  show wpAny _ _ (seqItems? (.ref l) >>= _) _ _ s
  refine wB0 (wpAny_seqItems hol hdl ?_)
  simp only [toNat_natCast,hx]
  refine wB0 (wpAny_setField ho hd (by simp) (wP0 ⟨x,rfl,wP0 (hQ _ ?_ (Heap.SameBut.update ..))⟩))
  exact⟨_,Heap.get?_update_self _ ho (Obj.isFreed_of_fields (Obj.data_mapFields hd _)),(Obj.cls_mapFields ..).trans hc,by rw [Obj.data_mapFields hd];simp [rawInt]⟩
theorem zWM{k:Bool}{it l:Addr}{i:Nat}{its:Array Value}{Q:Value->Shared->Prop}(hh:A.handled=none)(hit:IsSub k s.heap it l i)(hl:IsSeq k s.heap l its)(hx:its[i]? =none)
  (hE: ∀h' e,Heap.ExtBut it s.heap h'->(∃o,h'.get? e=some o/\o.cls=.type "StopIteration")->E (.ref e) {s with heap:=h'}):wpAny (model prog w) A (Builtin.SmallTypes.nextOf (.ref it)) Q E s:=by
 cases k with
 |true=>exact wpAny_nextOf_list_end hh hit hl hx hE
 |false=>
  have hit':s.heap.IsTupleIter it l i:=hit
  obtain⟨o,ho,hc,hd⟩:=id hit'
  obtain⟨ol,hol,_,nl,hdl⟩:=(hl:s.heap.IsTuple l its)
  unfold Builtin.SmallTypes.nextOf
  refine wB0 (wpAny_callSpecial?_slot (name:=Str.ofString "__next__") hit'.typeIs F.slot_tuple_iterator_next (wpAny_call_entry F.slot_tuple_iterator_next hit'.typeIs F.entry_tuple_iterator_next ?_ (F.args_tuple_iterator_next_1 _)))
  show wpAny _ _ (field (.ref it) 0 >>= _) _ _ s
  refine wB0 (wpAny_field ho hd (x:=.ref l) rfl ?_)
  show wpAny _ _ (if(Value.ref l==Value.none)=true then _ else _) _ _ s
  rw [iN0 (show¬((Value.ref l==Value.none)=true)from xF0)]
  show wpAny _ _ (field (.ref it) 1 >>= _) _ _ s
  refine wB0 (wpAny_field ho hd (x:=.int i 0) rfl ?_)
  show wpAny _ _ (seqItems? (.ref l) >>= _) _ _ s
  refine wB0 (wpAny_seqItems hol hdl ?_)
  simp only [toNat_natCast,hx]
  refine wB0 (wpAny_rule (wB0 (wpAny_setField ho hd (by simp) ?_)))
  show wpAny _ _ (newExc (.type "StopIteration") [] >>= _) _ _ _
  refine wB0 ?_
  simp only [newExc,newTuple]
  refine wB0 (wpAny_newObj_type ?_ (by size_fits))
  refine wB0 (m:=firstArgMember _ _) (wpAny_of_eq (a:=Value.none) (by first |rfl|(simp only [firstArgMember];rfl)) ?_)
  refine wpAny_newObj_type ?_ (by size_fits)
  simp only [raiseNew]
  refine wB0 (wpAny_handled ?_)
  first |rw [show A.in1.handled=none from hh]|rw [hh]
  refine wB0 (wP0 (wpAny_throw ?_))
  exact hE _ _ (((Heap.SameBut.update ..).extBut.push _).push _) ⟨_,Heap.get?_push_size _ rfl,rfl⟩
end
structure ZipSt(k1 k2:Bool)(z TI TO i1 i2 l1 l2:Addr)(i:Nat)(h:Heap):Prop where
 z:IsZip h z TI TO .none
 ti:IsPair h TI (.ref i1) (.ref i2)
 to: ∃a b,IsPair h TO a b
 s1:IsSub k1 h i1 l1 i
 s2:IsSub k2 h i2 l2 i
structure Apart5(z TI TO i1 i2:Addr):Prop where
 TIz:TI≠z
 TOz:TO≠z
 i1z:i1≠z
 i2z:i2≠z
 TITO:TI≠TO
 TIi1:TI≠i1
 TIi2:TI≠i2
 TOi1:TO≠i1
 TOi2:TO≠i2
 i12:i1≠i2
section
variable{prog:Program}{w:World}{A:Around}{E:Value->Shared->Prop}{s:Shared}{k1 k2:Bool}{z TI TO i1 i2 l1 l2:Addr}{i:Nat}{xs ys:Array Value}
def Off(l z TO i1 i2:Addr):Prop:=l≠z/\l≠TO/\l≠i1/\l≠i2
theorem yJJ{x y:Value}{Q:Value->Shared->Prop}(D:Apart5 z TI TO i1 i2)(o1:Off l1 z TO i1 i2)(o2:Off l2 z TO i1 i2)(st:ZipSt k1 k2 z TI TO i1 i2 l1 l2 i s.heap)(hl1:IsSeq k1 s.heap l1 xs)(hl2:IsSeq k2 s.heap l2 ys)(hx:xs[i]? =some x)(hy:ys[i]? =some y)
  (hQ: ∀h',IsZip h' z TI TO (rawInt s.heap.objs.size)->IsPair h' TO x y->IsSub k1 h' i1 l1 (i+1)->IsSub k2 h' i2 l2 (i+1)->IsPair h' s.heap.objs.size x y->
   (∀c o,c≠z->c≠TO->c≠i1->c≠i2->s.heap.get? c=some o->h'.get? c=some o)->Q (.ref s.heap.objs.size) {s with heap:=h'}):
  wpAny (model prog w) A (Builtin.«zip.__next__» ⟨[.ref z],[]⟩) (λfin s'=> ∃v,fin=.done (.ret v)/\Q v s') E s:=by
 obtain⟨hz,hTI,⟨a,b,hTO⟩,h1,h2⟩:=st
 show wpAny _ _ (field (.ref z) 2 >>= _) _ _ _
 refine wB0 (wpAny_field hz rfl (x:=.bool false) rfl ?_)
 show wpAny _ _ (field (.ref z) 3 >>= _) _ _ _
 refine wB0 (wpAny_field hz rfl (x:=.ref TI) rfl (wB0 (wpAny_seqItems hTI rfl ?_)))
 show wpAny _ _ (Builtin.SmallTypes.ownedTupleIsFree (.ref z) >>= _) _ _ _
 refine wB0 ?_
 unfold Builtin.SmallTypes.ownedTupleIsFree
 refine wB0 (wpAny_field hz rfl (x:=.none) rfl (wP0 ?_))
 simp only [if_true]
 refine wB0 (wpAny_rule (wB0 (wpAny_field hz rfl (x:=.ref TO) rfl (wB0 (wpAny_setField_rec hz (by simp) λha hza hsa=>?_)))))
 replace hza:IsZip ha z TI TO .ellipsis:=hza
 refine wB0 ?_
 simp only [zipIdx_cons,List.zipIdx_nil,forIn_cons,List.forIn_nil]
 refine wB0 (wB0 (wpAny_onRaise ?_))
 show wpAny _ _ (Builtin.SmallTypes.nextOf (.ref i1) >>= _) _ _ _
 refine wB0 (zNH (h1.move λo e=>hsa.extBut _ _ D.i1z e) (hl1.move λo e=>hsa.extBut _ _ o1.1 e) hx λhb h1b hsb=>wP0 ?_)
 have tob:IsPair hb TO a b:=hsb.extBut _ _ D.TOi1 (hsa.extBut _ _ D.TOz hTO)
 refine wB0 (wpAny_seqItems tob rfl (wB0 (wpAny_updateSeq_pair tob λhc toc hsc=>wB0 (wpAny_letGo (wP0 ?_)))))
 replace toc:IsPair hc TO x b:=toc
 refine wB0 (wB0 (wpAny_onRaise ?_))
 show wpAny _ _ (Builtin.SmallTypes.nextOf (.ref i2) >>= _) _ _ _
 have mv: ∀c o,c≠z->c≠TO->c≠i1->s.heap.get? c=some o->hc.get? c=some o:=λc o n1 n2 n3 e=>hsc.extBut _ _ n2 (hsb.extBut _ _ n3 (hsa.extBut _ _ n1 e))
 refine wB0 (zNH (h2.move λo e=>mv _ o D.i2z D.TOi2.symm D.i12.symm e) (hl2.move λo e=>mv _ o o2.1 o2.2.1 o2.2.2.1 e) hy λhd h2d hsd=>wP0 ?_)
 have tod:IsPair hd TO x b:=hsd.extBut _ _ D.TOi2 toc
 refine wB0 (wpAny_seqItems tod rfl (wB0 (wpAny_updateSeq_pair tod λhe toe hse=>wB0 (wpAny_letGo (wP0 (wP0 ?_))))))
 replace toe:IsPair he TO x y:=toe
 refine wB0 (wpAny_seqItems toe rfl (wB0 (wpAny_newTuple ?_)))
 have hsz:he.objs.size=s.heap.objs.size:=by rw [hse.1,hsd.1,hsc.1,hsb.1,hsa.1]
 have ze:IsZip he z TI TO .ellipsis:=hse.extBut _ _ D.TOz.symm (hsd.extBut _ _ D.i2z.symm (hsc.extBut _ _ D.TOz.symm (hsb.extBut _ _ D.i1z.symm hza)))
 have mve: ∀c o,c≠z->c≠TO->c≠i1->c≠i2->s.heap.get? c=some o->he.get? c=some o:=λc o n1 n2 n3 n4 e=>hse.extBut _ _ n2 (hsd.extBut _ _ n4 (mv c o n1 n2 n3 e))
 have s1e:IsSub k1 he i1 l1 (i+1):=h1b.move λo e=>hse.extBut _ _ D.TOi1.symm (hsd.extBut _ _ D.i12 (hsc.extBut _ _ D.TOi1.symm e))
 have s2e:IsSub k2 he i2 l2 (i+1):=h2d.move λo e=>hse.extBut _ _ D.TOi2.symm e
 have hzlt:z<he.objs.size:=Heap.lt_size ze
 show wpAny _ _ (Builtin.SmallTypes.ownedTupleHandOut (.ref z) (.ref he.objs.size) >>= _) _ _ _
 refine wB0 ?_
 unfold Builtin.SmallTypes.ownedTupleHandOut
 have zf:IsZip (he.push {cls:=.type "tuple",data:=.seq #[x,y]}) z TI TO .ellipsis:=hP00 _ ze
 refine wB0 (wpAny_setField_rec zf (by simp) λhg' zg hsg=>?_)
 replace zg:IsZip hg' z TI TO (rawInt he.objs.size):=zg
 refine wpAny_setField_rec zg (by simp) λhh' zh hsh=>?_
 replace zh:IsZip hh' z TI TO (rawInt he.objs.size):=zh
 have up: ∀c o,c≠z->he.get? c=some o->hh'.get? c=some o:=λc o c1 e=>hsh.extBut _ _ c1 (hsg.extBut _ _ c1 (hP00 _ e))
 have tT:IsPair hh' he.objs.size x y:=hsh.extBut _ _ (ne_of_gt hzlt) (hsg.extBut _ _ (ne_of_gt hzlt) (Heap.get?_push_size _ rfl))
 rw [hsz]at zh tT
 refine wP0 ⟨_,rfl,?_⟩
 show Q (.ref he.objs.size) _
 rw [hsz]
 exact hQ hh' zh (up _ _ D.TOz toe) (s1e.move λo e=>up _ o D.i1z e) (s2e.move λo e=>up _ o D.i2z e) tT λc o c1 c2 c3 c4 e=>up c o c1 (mve c o c1 c2 c3 c4 e)
theorem yNK{Q:Fin->Shared->Prop}(hh:A.handled=none)(D:Apart5 z TI TO i1 i2)(o1:Off l1 z TO i1 i2)(o2:Off l2 z TO i1 i2)(st:ZipSt k1 k2 z TI TO i1 i2 l1 l2 i s.heap)(hl1:IsSeq k1 s.heap l1 xs)(hl2:IsSeq k2 s.heap l2 ys)(hend:xs[i]? =none\/ys[i]? =none)
  (hE: ∀h' e,(∀c o,c≠z->c≠TO->c≠i1->c≠i2->s.heap.get? c=some o->h'.get? c=some o)->(∃o,h'.get? e=some o/\o.cls=.type "StopIteration")->E (.ref e) {s with heap:=h'}):
  wpAny (model prog w) A (Builtin.«zip.__next__» ⟨[.ref z],[]⟩) Q E s:=by
 obtain⟨hz,hTI,⟨a,b,hTO⟩,h1,h2⟩:=st
 show wpAny _ _ (field (.ref z) 2 >>= _) _ _ _
 refine wB0 (wpAny_field hz rfl (x:=.bool false) rfl ?_)
 show wpAny _ _ (field (.ref z) 3 >>= _) _ _ _
 refine wB0 (wpAny_field hz rfl (x:=.ref TI) rfl (wB0 (wpAny_seqItems hTI rfl ?_)))
 show wpAny _ _ (Builtin.SmallTypes.ownedTupleIsFree (.ref z) >>= _) _ _ _
 refine wB0 ?_
 unfold Builtin.SmallTypes.ownedTupleIsFree
 refine wB0 (wpAny_field hz rfl (x:=.none) rfl (wP0 ?_))
 simp only [if_true]
 refine wB0 (wpAny_rule (wB0 (wpAny_field hz rfl (x:=.ref TO) rfl (wB0 (wpAny_setField_rec hz (by simp) λha hza hsa=>?_)))))
 replace hza:IsZip ha z TI TO .ellipsis:=hza
 refine wB0 ?_
 simp only [zipIdx_cons,List.zipIdx_nil,forIn_cons,List.forIn_nil]
 refine wB0 (wB0 (wpAny_onRaise ?_))
 show wpAny _ _ (Builtin.SmallTypes.nextOf (.ref i1) >>= _) _ _ _
 cases hx:xs[i]? with
 |none=>
  refine wB0 (zWM hh (h1.move λo e=>hsa.extBut _ _ D.i1z e) (hl1.move λo e=>hsa.extBut _ _ o1.1 e) hx λhb e hsb he=>?_)
  obtain⟨oe,hoe,hce⟩:=he
  have hzb:IsZip hb z TI TO .ellipsis:=hsb _ _ D.i1z.symm hza
  have hez:e≠z:=λq=>by subst q;rw [hzb]at hoe;cases hoe;simp at hce
  exact wpAny_setField_rec hzb (by simp) λhc _ hsc=>hE hc e (λc o c1 _ c3 _ q=>hsc.extBut _ _ c1 (hsb _ _ c3 (hsa.extBut _ _ c1 q))) ⟨oe,hsc.extBut _ _ hez hoe,hce⟩
 |some x=>
  have hy:ys[i]? =none:=by rcases hend with h|h;(rw [hx]at h;cases h);exact h
  refine wB0 (zNH (h1.move λo e=>hsa.extBut _ _ D.i1z e) (hl1.move λo e=>hsa.extBut _ _ o1.1 e) hx λhb h1b hsb=>wP0 ?_)
  have tob:IsPair hb TO a b:=hsb.extBut _ _ D.TOi1 (hsa.extBut _ _ D.TOz hTO)
  refine wB0 (wpAny_seqItems tob rfl (wB0 (wpAny_updateSeq_pair tob λhc toc hsc=>wB0 (wpAny_letGo (wP0 ?_)))))
  refine wB0 (wB0 (wpAny_onRaise ?_))
  show wpAny _ _ (Builtin.SmallTypes.nextOf (.ref i2) >>= _) _ _ _
  have mv: ∀c o,c≠z->c≠TO->c≠i1->s.heap.get? c=some o->hc.get? c=some o:=λc o n1 n2 n3 e=>hsc.extBut _ _ n2 (hsb.extBut _ _ n3 (hsa.extBut _ _ n1 e))
  refine wB0 (zWM hh (h2.move λo e=>mv _ o D.i2z D.TOi2.symm D.i12.symm e) (hl2.move λo e=>mv _ o o2.1 o2.2.1 o2.2.2.1 e) hy λhd e hsd he=>?_)
  obtain⟨oe,hoe,hce⟩:=he
  have hzd:IsZip hd z TI TO .ellipsis:=hsd _ _ D.i2z.symm (hsc.extBut _ _ D.TOz.symm (hsb.extBut _ _ D.i1z.symm hza))
  have hez:e≠z:=λq=>by subst q;rw [hzd]at hoe;cases hoe;simp at hce
  exact wpAny_setField_rec hzd (by simp) λhg' _ hsg=>hE hg' e (λc o c1 c2 c3 c4 q=>hsg.extBut _ _ c1 (hsd _ _ c4 (mv c o c1 c2 c3 q))) ⟨oe,hsg.extBut _ _ hez hoe,hce⟩
theorem yBQ(k1 k2:Bool)(l1 l2:Addr)(xs ys:Array Value):
  Meets (Builtin.«zip.__new__» ⟨[.type "zip",.ref l1,.ref l2],[]⟩) (λ_ R s=>IsSeq k1 s.heap l1 xs/\IsSeq k2 s.heap l2 ys/\
   R (.ok (.ret (.ref (s.heap.objs.size+4)))) {s with heap:=((((s.heap.push (zGX k1 l1)).push (zGX k2 l2)).push {cls:=.type "tuple",data:=.seq #[.ref s.heap.objs.size,.ref (s.heap.objs.size+1)]}).push {cls:=.type "tuple",data:=.seq #[.none,.none]}).push {cls:=.type "zip",data:=.fields #[.none,.bool false,.bool false,.ref (s.heap.objs.size+2),.ref (s.heap.objs.size+3)]}}):=
 .of_wp λprog w A R s h=>by
  obtain⟨hp,g,d,tk,os⟩:=s;obtain⟨hl1,hl2,h⟩:=h
  have hsub:=sub_zip
  have hL1:IsSeq k1 (Shared.heap ⟨hp,g,d,tk,os⟩) l1 xs:=hl1
  have hL2:IsSeq k2 (Shared.heap ⟨hp.push (zGX k1 l1),g,d,tk,os⟩) l2 ys:=hl2.move λo e=>hP00 _ e
  have z1: ∀(h:Heap)(o:Obj),(h.push o).objs.size=h.objs.size+1:=λh o=>Heap.size_push ..
  simp only [z1]at h ⊢
  wp_walk using zJA hL1,zJA hL2
  exact⟨_,rfl,by simp only [z1];exact h⟩
theorem yJK(hl1:IsSeq k1 s.heap l1 xs)(hl2:IsSeq k2 s.heap l2 ys){Q:Value->Shared->Prop}
  (h: ∀h',ZipSt k1 k2 (s.heap.objs.size+4) (s.heap.objs.size+2) (s.heap.objs.size+3) s.heap.objs.size (s.heap.objs.size+1) l1 l2 0 h'->(∀c o,s.heap.get? c=some o->h'.get? c=some o)->Q (.ref (s.heap.objs.size+4)) {s with heap:=h'}):
  wpAny (model prog w) A (call (.type "zip") [.ref l1,.ref l2]) Q E s:=by
 refine callType_new F.called_zip (by decide) (F.typeCall_zip_2 _ _) (F.newCall_zip_2 _ _) (λobj=>F.args_object_init_3 obj _ _) F.entry_zip_new (yBQ k1 k2 l1 l2 xs ys) ⟨hl1,hl2,?_⟩
 have z1: ∀(h:Heap)(o:Obj),(h.push o).objs.size=h.objs.size+1:=λh o=>Heap.size_push ..
 have pg: ∀(h:Heap)(o:Obj)(n:Nat),o.isFreed=false->h.objs.size=n->(h.push o).get? n=some o:=λh o n hf e=>by subst e;exact Heap.get?_push_size _ hf
 have up: ∀(h:Heap)(o u:Obj)(n:Nat),h.get? n=some u->(h.push o).get? n=some u:=λh o u n e=>hP00 _ e
 refine⟨⟨_,pg _ _ _ rfl (by simp only [z1]),rfl⟩,h _ ⟨pg _ _ _ rfl (by simp only [z1]),up _ _ _ _ (up _ _ _ _ (pg _ _ _ rfl (by simp only [z1]))),⟨.none,.none,up _ _ _ _ (pg _ _ _ rfl (by simp only [z1]))⟩,?_,?_⟩ λc o e=>up _ _ _ _ (up _ _ _ _ (up _ _ _ _ (up _ _ _ _ (up _ _ _ _ e))))⟩
 ·exact IsSub.mk' (up _ _ _ _ (up _ _ _ _ (up _ _ _ _ (up _ _ _ _ (pg _ _ _ rfl rfl)))))
 ·exact IsSub.mk' (up _ _ _ _ (up _ _ _ _ (up _ _ _ _ (pg _ _ _ rfl (by simp only [z1])))))
end
theorem apart_new(n:Nat):Apart5 (n+4) (n+2) (n+3) n (n+1):=by
 constructor<;>(show(_:Nat)≠_;omega)
def SqK(k:Bool)(K:PySem.W.Frag)(H:Hp)(a:Addr)(xs:List V):Prop:=if k=true then SqL K H a xs else SqT K H a xs
def Itz(K:PySem.W.Frag)(k1 k2:Bool)(l1 l2:Addr):It:=
 ⟨λi H=> ∃xs ys x y,SqK k1 K H l1 xs/\SqK k2 K H l2 ys/\xs[i]? =some x/\ys[i]? =some y,
   λi H v H'=> ∃p x y,H p=none/\v=.ref p/\H'=upd H p (.tup [x,y])/\(∀xs,SqK k1 K H l1 xs->xs[i]? =some x)/\ ∀ys,SqK k2 K H l2 ys->ys[i]? =some y,
   λi H=> ∃xs ys,SqK k1 K H l1 xs/\SqK k2 K H l2 ys/\(xs.length<=i\/ys.length<=i)⟩
section
variable{X:Cx}{pins:List (Addr×Obj)}{σ:St}{H:Hp}{s:Shared}
theorem _root_.L2.Inv.seqK(I:Inv X pins σ H s){k:Bool}{a:Addr}{xs:List V}(h:SqK k X.K H a xs): ∃its:List Value,Vals xs its/\IsSeq k s.heap a its.toArray/\xs.length<=sizeLine:=by
 cases k with
 |true=>obtain⟨its,r,p,z⟩:=I.list h;exact⟨its,r,p.isList,z⟩
 |false=>obtain⟨its,r,p,z⟩:=I.tuple h;exact⟨its,r,p,z⟩
theorem _root_.L2.Inv.seqK_inj(I:Inv X pins σ H s){k:Bool}{a:Addr}{xs ys:List V}(h:SqK k X.K H a xs)(h':SqK k X.K H a ys):xs=ys:=by
 cases k with
 |true=>exact I.list_inj h h'
 |false=>exact I.tuple_inj h h'
theorem zDX(I:Inv X pins σ H s){k:Bool}{l b:Addr}{xs:List V}(h:SqK k X.K H l xs)(hb:zMU X pins H b):l≠b:=by
 rintro rfl
 have kk: ∀o,X.K.lookup l=some o->False:=λo e=>by
  have e1:=I.mod.kin l o e
  rcases hb.2.2.2.1 with z|z
  ·exact I.ok.noex l o e1 z
  ·exact absurd (lt_of_lt_of_le (Heap.lt_size e1) (le_trans I.ok.bsz z)) (lt_irrefl _)
 cases k with
 |true=>
  rcases (h:SqL X.K H l xs)with(h|⟨o,h⟩)|⟨o,its,n,h,_⟩
  ·rw [hb.1]at h;cases h
  ·rw [hb.1]at h;cases h
  ·exact kk o h
 |false=>
  rcases (h:SqT X.K H l xs)with(h|⟨o,h⟩)|⟨o,its,n,h,_⟩
  ·rw [hb.1]at h;cases h
  ·rw [hb.1]at h;cases h
  ·exact kk o h
end
theorem yJL{P:Program}{w:World}{K:PySem.W.Frag}{elts:List Expr}{kt:Nat}{pt:Pos}{k1 k2:Bool}{z TI TO i1 i2 l1 l2:Addr}(D:Apart5 z TI TO i1 i2):
  Turn P w K (.Tuple elts kt pt) (Itz K k1 k2 l1 l2) [z,TI,TO,i1,i2] z (λi h=>ZipSt k1 k2 z TI TO i1 i2 l1 l2 i h) where
 mem:=by simp
 obj:=λi h st b hb=>by
  obtain⟨hz,hTI,⟨a,b',hTO⟩,h1,h2⟩:=st
  have hb':b=z\/b=TI\/b=TO\/b=i1\/b=i2:=by simpa using hb
  rcases hb' with rfl|rfl|rfl|rfl|rfl
  ·exact⟨_,hz,λv q=>by cases q⟩
  ·exact⟨_,hTI,λv q=>by cases q⟩
  ·exact⟨_,hTO,λv q=>by cases q⟩
  ·exact h1.there
  ·exact h2.there
 keep:=λi h h' st k=>by
  obtain⟨hz,hTI,⟨a,b',hTO⟩,h1,h2⟩:=st
  exact⟨k z (by simp) _ hz,k TI (by simp) _ hTI,⟨a,b',k TO (by simp) _ hTO⟩,h1.move λo e=>k i1 (by simp) o e,h2.move λo e=>k i2 (by simp) o e⟩
 item:=by
  intro X hP hw hK hc i pins s σ H E I hf st hg
  subst hP hw hK
  obtain⟨xs,ys,x,y,q1,q2,hx,hy⟩:=hg
  obtain⟨its,r1,p1,_⟩:=I.seqK q1
  obtain⟨its2,r2,p2,_⟩:=I.seqK q2
  obtain⟨u,hu,ru⟩:=r1.get hx
  obtain⟨v,hv,rv⟩:=r2.get hy
  have off: ∀{k:Bool}{l:Addr}{xs:List V},SqK k X.K H l xs->Off l z TO i1 i2:=λq=>⟨zDX I q (hf z (by simp)),zDX I q (hf TO (by simp)),zDX I q (hf i1 (by simp)),zDX I q (hf i2 (by simp))⟩
  have hT:s.TypeIs (.ref z) "zip":=⟨_,st.z,rfl⟩
  unfold pyNext
  refine wB0 (wpAny_attempt (wpAny_callSpecial?_slot (name:=Str.ofString "__next__") hT F.slot_zip_next (wpAny_call_entry F.slot_zip_next hT F.entry_zip_next
   (yJJ D (off q1) (off q2) st p1 p2 (x:=u) (y:=v) (by simpa using hu) (by simpa using hv) λh' a1 a2 a3 a4 a5 a6=>wP0 ⟨_,rfl,?_⟩) (F.args_zip_next_1 _))))
  refine wpAny_letOwnedTupleGo_zip a1 λh2 z2 sb2=>?_
  have hpn:H s.heap.objs.size=none:=I.hok.fresh (le_refl _)
  have I0:Inv X pins σ (upd H s.heap.objs.size (.tup [x,y])) {s with heap:=s.heap.push {cls:=.type "tuple",data:=.seq #[u,v]}}:=
   I.laid (t':=s.toks) (o:=.tup [x,y]) (λb o e=>hP00 _ e) (le_refl _) ⟨by show 2<=sizeLine;decide,[u,v],.cons ru (.cons rv .nil),⟨_,Heap.get?_push_size _ rfl,rfl,_,rfl⟩⟩
  have lt: ∀b∈[z,TI,TO,i1,i2],b<s.heap.objs.size:=λb hb=>by
   have: ∃o,s.heap.get? b=some o:=by
    obtain⟨hz,hTI,⟨a,b',hTO⟩,g1,g2⟩:=st
    have hb':b=z\/b=TI\/b=TO\/b=i1\/b=i2:=by simpa using hb
    rcases hb' with rfl|rfl|rfl|rfl|rfl
    ·exact⟨_,hz⟩
    ·exact⟨_,hTI⟩
    ·exact⟨_,hTO⟩
    ·obtain⟨o,e,_⟩:=g1.there;exact⟨o,e⟩
    ·obtain⟨o,e,_⟩:=g2.there;exact⟨o,e⟩
   obtain⟨o,e⟩:=this
   exact Heap.lt_size e
  have fr: ∀b∈[z,TI,TO,i1,i2],upd H s.heap.objs.size (.tup [x,y]) b=none:=λb hb=>by rw [zQ (ne_of_lt (lt b hb))];exact(hf b hb).1
  have zne:s.heap.objs.size≠z:=ne_of_gt (lt z (by simp))
  have mv: ∀b o,b∉[z,TI,TO,i1,i2]->(s.heap.push {cls:=.type "tuple",data:=.seq #[u,v]}).get? b=some o->h2.get? b=some o:=λb o hb e=>by
   simp only [mC,nM0,or_false,not_or]at hb
   refine sb2.extBut _ _ hb.1 ?_
   by_cases hbs:b=s.heap.objs.size
   ·subst hbs
    rw [Heap.get?_push_size _ rfl]at e
    cases e
    exact a5
   ·rw [Heap.get?_push_ne _ _ _ hbs]at e
    exact a6 b o hb.1 hb.2.2.1 hb.2.2.2.1 hb.2.2.2.2 e
  have I2:=I0.turnedL (h':=h2) (t':=s.toks) mv λb hb=>let ⟨_,c2,c3,c4,c5,c6⟩:=hf b hb;⟨fr b hb,c2,c3,c4,c5,c6⟩
  refine⟨.ref s.heap.objs.size,_,I2,rfl,⟨s.heap.objs.size,x,y,hpn,rfl,rfl,λzs hz=>?_,λzs hz=>?_⟩,⟨z2,?_,⟨u,v,?_⟩,?_,?_⟩,fr⟩
  ·rw [I.seqK_inj hz q1];exact hx
  ·rw [I.seqK_inj hz q2];exact hy
  ·exact sb2.extBut _ _ D.TIz (a6 TI _ D.TIz D.TITO D.TIi1 D.TIi2 st.ti)
  ·exact sb2.extBut _ _ D.TOz a2
  ·exact a3.move λo e=>sb2.extBut _ _ D.i1z e
  ·exact a4.move λo e=>sb2.extBut _ _ D.i2z e
 done:=by
  intro X hP hw hK hc i pins s σ H E I hf st hg
  subst hP hw hK
  obtain⟨xs,ys,q1,q2,hx⟩:=hg
  obtain⟨its,r1,p1,_⟩:=I.seqK q1
  obtain⟨its2,r2,p2,_⟩:=I.seqK q2
  have off: ∀{k:Bool}{l:Addr}{xs:List V},SqK k X.K H l xs->Off l z TO i1 i2:=λq=>⟨zDX I q (hf z (by simp)),zDX I q (hf TO (by simp)),zDX I q (hf i1 (by simp)),zDX I q (hf i2 (by simp))⟩
  have hT:s.TypeIs (.ref z) "zip":=⟨_,st.z,rfl⟩
  have e1:=r1.length
  have e2:=r2.length
  unfold pyNext
  refine wB0 (wpAny_attempt (wpAny_callSpecial?_slot (name:=Str.ofString "__next__") hT F.slot_zip_next (wpAny_call_entry F.slot_zip_next hT F.entry_zip_next
   (yNK (I.ok.hd hc) D (off q1) (off q2) st p1 p2 (by rcases hx with h|h;(exact .inl (by simp;omega));exact .inr (by simp;omega)) λh' e hk he=>?_) (F.args_zip_next_1 _))))
  obtain⟨o,ho,hcl⟩:=he
  refine wB0 (wpAny_isInstance (T:="StopIteration") (b:=true) ⟨o,ho,hcl⟩ isSubtype_stop (wP0 ⟨rfl,?_⟩))
  refine I.turnedL (h':=h') (t':=s.toks) (λb o hb e=>?_) hf
  simp only [mC,nM0,or_false,not_or]at hb
  exact hk b o hb.1 hb.2.2.1 hb.2.2.2.1 hb.2.2.2.2 e
 self:=λ_ _ _ _ _ st h=>wpAny_pyIter_zip st.z h
structure Sr where
 k:Bool
 ds:List MV
 gs:List (Nat×List MV)
def srcOf(S:Sto):Er->Option Sr
 |.val (.tup ds)=>some ⟨false,ds,[]⟩
 |.new ds=>some ⟨true,ds,[]⟩
 |.val (.scr ds)=>some ⟨true,ds,[]⟩
 |.val (.loc l)=>match S[l]? with
  |some (.lst ds)=>some ⟨true,ds,[(l,ds)]⟩
  |_=>none
 |_=>none
structure SrcD(X:Cx)(q:Sr)(l:Addr)(P:List Addr->Sto->Hp->Prop):Prop where
 get: ∀α S H,P α S H-> ∃vs,SqK q.k X.K H l vs/\DenL X.K α H q.ds vs
 stays: ∀α1 S1 H1 α2 S2 H2,P α1 S1 H1->Ext α1 H1 α2 H2->Wd X.g α2 S2 H2->stay q.gs S2->P α2 S2 H2
 st: ∀α S H,P α S H->stay q.gs S
theorem yBR{X:Cx}{α:List Addr}{S:Sto}{H:Hp}(wd:Wd X.g α S H){r:Er}{x:V}{q:Sr}(e:srcOf S r=some q)(d:DenX X.K α H r x): ∃l P,x=.ref l/\P α S H/\SrcD X q l P:=by
 unfold srcOf at e
 split at e
 ·rename_i ds
  cases e
  obtain⟨a,vs,rfl,s,l⟩:=dU d
  exact⟨a,λα S H=> ∃vs,SqT X.K H a vs/\DenL X.K α H ds vs,rfl,⟨vs,s,l⟩,λα S H h=>h,λα1 S1 H1 α2 S2 H2 ⟨vs,h1,h2⟩ x w _=>⟨vs,x.sqT h1,h2.ext x⟩,λ_ _ _ _=>cO⟩
 ·rename_i ds
  cases e
  obtain⟨b,vs,rfl,h,n,l⟩:=d
  exact⟨b,λα S H=> ∃vs,H b=some (.lst vs)/\b∉α/\DenL X.K α H ds vs,rfl,⟨vs,h,n,l⟩,λα S H ⟨vs,h1,_,h2⟩=>⟨vs,(SqL.of h1:SqL X.K H b vs),h2⟩,
   λα1 S1 H1 α2 S2 H2 ⟨vs,h1,h2,h3⟩ x w _=>⟨vs,x.keep b _ h1 h2,x.out h1 h2,h3.ext x⟩,λ_ _ _ _=>cO⟩
 ·rename_i ds
  cases e
  obtain⟨a,vs,rfl,s,l⟩:=zRX d
  exact⟨a,λα S H=> ∃vs,SqF X.K H a vs/\DenL X.K α H ds vs,rfl,⟨vs,s,l⟩,λα S H ⟨vs,h1,h2⟩=>⟨vs,h1.l,h2⟩,λα1 S1 H1 α2 S2 H2 ⟨vs,h1,h2⟩ x w _=>⟨vs,x.sqF h1,h2.ext x⟩,λ_ _ _ _=>cO⟩
 ·rename_i n
  split at e
  ·rename_i ds hS
   cases e
   obtain⟨a,rfl,h⟩:=zCB d
   obtain⟨vs,h1,h2⟩:=wd.obj n a _ h hS
   refine⟨a,λα S H=> ∃vs,H a=some (.lst vs)/\DenL X.K α H ds vs/\α[n]? =some a/\S[n]? =some (.lst ds),rfl,⟨vs,h1,h2,h,hS⟩,λα S H ⟨vs,h1,h2,_⟩=>⟨vs,(SqL.of h1:SqL X.K H a vs),h2⟩,?_,?_⟩
   ·intro α1 S1 H1 α2 S2 H2 ⟨vs,a1,a2,a3,a4⟩ x w hs
    have hs':=hs (n,ds) (by simp)
    obtain⟨us,b1,b2⟩:=w.obj n a _ (x.at a3) hs'
    exact⟨us,b1,b2,x.at a3,hs'⟩
   ·intro α S H ⟨vs,_,_,_,a4⟩ p hp
    have:p=(n,ds):=by simpa using hp
    subst this
    exact a4
  ·cases e
 ·cases e
def iZip(K:PySem.W.Frag)(ta:TA):TI:=λσ H R=>ta σ H λvs H1=> ∃k1 k2 l1 l2,vs=[.ref l1,.ref l2]/\(∃xs,SqK k1 K H1 l1 xs)/\(∃ys,SqK k2 K H1 l2 ys)/\R (Itz K k1 k2 l1 l2) H1
section
variable{X:Cx}{W:XW}{a b:Expr}{elts:List Expr}{kt:Nat}{pt p pos:Pos}{ta:TA}{af:Rho->Sto->R (List Er)}
theorem ySA:bootBuiltins "zip"=some (.type "zip"):=by decide+kernel
theorem yNL:bootBuiltins "enumerate"=some (.type "enumerate"):=by decide+kernel
theorem ySB(hg:Gl X "zip")(hm:X.mg "zip"=none)(ha:PA X [a,b] ta)(hs:starEach [a,b] X.env=[(false,eval a X.env),(false,eval b X.env)]:=by rfl)(hs2:starEach [b] X.env=[(false,eval b X.env)]:=by rfl):
  PI X (.Tuple elts kt pt) (.Call (.Name "zip" p) [a,b] [] pos) (iZip X.K ta):=by
 intro pins s σ H R I h
 refine Call_ (zOD I hg hm ySA (PyProof.Rows.callWith_type1 (thn (ha pos pins s σ H _ I h) λus s1 ⟨vs,H1,I1,r1,q1⟩=>?_) (by rw [hs,hs2]) (by rw [hs2];rfl)))
 obtain⟨k1,k2,l1,l2,rfl,⟨xs,c1⟩,⟨ys,c2⟩,q⟩:=q1
 cases r1 with
 |cons r rr=>
  cases rr with
  |cons r' rr=>
   cases rr
   cases r
   cases r'
   obtain⟨its,v1,p1,_⟩:=I1.seqK c1
   obtain⟨its2,v2,p2,_⟩:=I1.seqK c2
   refine yJK p1 p2 λh' st hk=>wpAny_pyIter_zip st.z ?_
   have I2:Inv X pins σ H1 {s1 with heap:=h'}:=I1.kept (t':=s1.toks) hk
   refine⟨_,_,_,_,H1,rfl,I2,yJL (apart_new _),st,λb hb=>?_,q⟩
   have hle:s1.heap.objs.size<=b:=by
    have hb':b=s1.heap.objs.size+4\/b=s1.heap.objs.size+2\/b=s1.heap.objs.size+3\/b=s1.heap.objs.size\/b=s1.heap.objs.size+1:=by simpa using hb
    rcases hb' with h|h|h|h|h<;>rw [h]<;>(first |exact le_refl _|exact Nat.le_add_right _ _)
   exact I1.fpOk hle (I1.hok.fresh hle)
def pairs(xs ys:List MV):List MV:=List.zipWith (λx y=>.tup [x,y]) xs ys
def itZ(rs:List Er)(S:Sto):R Wk:=match rs with
 |[p,q]=>match srcOf S p with
  |some a=>match srcOf S q with
   |some b=>.ok ⟨pairs a.ds b.ds,a.gs++b.gs⟩ S
   |none=>.no
  |none=>.no
 |_=>.no
theorem ySC(hg:Gl X "zip")(hm:X.mg "zip"=none)(ha:PAm X W [a,b] af)(hs:starEach [a,b] X.env=[(false,eval a X.env),(false,eval b X.env)]:=by rfl)(hs2:starEach [b] X.env=[(false,eval b X.env)]:=by rfl):
  PIm X W (.Tuple elts kt pt) (.Call (.Name "zip" p) [a,b] [] pos) (λρ S=>(af ρ S).bind itZ):=by
 obtain⟨t,ha,k⟩:=ha
 refine⟨_,ySB hg hm ha hs hs2,λα ρ S σ H Rc wd sl q=>k α ρ S σ H _ wd sl (q.bind λvs rs S1 α1 H1 e x1 w1 d1 q1=>?_)⟩
 replace q1:=q1.shift x1
 unfold itZ at q1
 split at q1
 ·rename_i r1 r2
  split at q1
  ·rename_i s1 e1
   split at q1
   ·rename_i s2 e2
    obtain⟨u,v,rfl,du,dv⟩:=args2 d1
    obtain⟨l1,P1,rfl,p1,D1⟩:=yBR w1 e1 du
    obtain⟨l2,P2,rfl,p2,D2⟩:=yBR w1 e2 dv
    have g1:=D1.get _ _ _ p1
    have g2:=D2.get _ _ _ p2
    refine⟨s1.k,s2.k,l1,l2,rfl,⟨_,g1.choose_spec.1⟩,⟨_,g2.choose_spec.1⟩,q1.here (u:=Itz X.K s1.k s2.k l1 l2) w1 ⟨λα S H=>P1 α S H/\P2 α S H,?_,⟨p1,p2⟩,?_,?_⟩⟩
    ·intro i α2 S2 H2 ⟨b1,b2⟩ w2
     obtain⟨us,c1,c2⟩:=D1.get _ _ _ b1
     obtain⟨ws,c3,c4⟩:=D2.get _ _ _ b2
     have hl:(pairs s1.ds s2.ds).length=min us.length ws.length:=by unfold pairs;rw [List.length_zipWith,c2.length,c4.length]
     refine⟨λhi=>?_,λhi=>?_⟩
     ·have hi:i<(pairs s1.ds s2.ds).length:=hi
      have h1:i<us.length:=by omega
      have h2:i<ws.length:=by omega
      refine⟨⟨us,ws,us[i],ws[i],c1,c3,gE0 h1,gE0 h2⟩,?_⟩
      rintro x H' ⟨pp,xx,yy,hp,rfl,rfl,hx,hy⟩
      obtain⟨d,hd,dd⟩:=c2.get (hx us c1)
      obtain⟨f,hf,df⟩:=c4.get (hy ws c3)
      have xn:=w2.newx (o:=.tup [xx,yy]) hp
      have wn:=w2.new (o:=.tup [xx,yy]) hp
      refine⟨xn,wn,⟨D1.stays _ _ _ _ _ _ b1 xn wn (D1.st _ _ _ b1),D2.stays _ _ _ _ _ _ b2 xn wn (D2.st _ _ _ b2)⟩,.tup [d,f],?_,?_⟩
      ·unfold pairs;rw [List.getElem?_zipWith,hd,hf]
      ·exact nV (.of yB) (xH (dd.ext xn) (xH (df.ext xn) wM))
     ·have hi:(pairs s1.ds s2.ds).length<=i:=hi
      refine⟨us,ws,c1,c3,?_⟩
      by_cases h1:us.length<=i
      ·exact .inl h1
      ·exact .inr (by omega)
    ·intro α1 S1 H1 α2 S2 H2 ⟨b1,b2⟩ x w hs
     exact⟨D1.stays _ _ _ _ _ _ b1 x w λp hp=>hs p (mem_append_left _ hp),D2.stays _ _ _ _ _ _ b2 x w λp hp=>hs p (mem_append_right _ hp)⟩
    ·intro p hp
     rcases mem_append.mp hp with h|h
     ·exact D1.st _ _ _ p1 p h
     ·exact D2.st _ _ _ p2 p h
   ·exact q1.elim
  ·exact q1.elim
 ·exact q1.elim
end
structure EnSt(k:Bool)(e it l:Addr)(i:Nat)(h:Heap):Prop where
 e: ∃old,IsEnum h e it i old
 s:IsSub k h it l i
section
variable{prog:Program}{w:World}{A:Around}{E:Value->Shared->Prop}{s:Shared}{k:Bool}{e it l:Addr}{i:Nat}{its:Array Value}
theorem yNM{x old:Value}{Q:Value->Shared->Prop}(he:IsEnum s.heap e it i old)(hit:IsSub k s.heap it l i)(hl:IsSeq k s.heap l its)(hx:its[i]? =some x)(hne:e≠it)
  (hQ: ∀h',IsEnumOut h' e it ((i:Int)+1) x s.heap.objs.size->IsSub k h' it l (i+1)->h'.get? s.heap.objs.size=some {cls:=.type "tuple",data:=.seq #[.int i s.toks,x]}->
   (∀b o,b≠e->b≠it->s.heap.get? b=some o->h'.get? b=some o)->Q (.ref s.heap.objs.size) {s with heap:=h',toks:=s.toks+1}):
  wpAny (model prog w) A (Builtin.«enumerate.__next__» ⟨[.ref e],[]⟩) (λfin s'=> ∃v,fin=.done (.ret v)/\Q v s') E s:=by
 obtain⟨hp,g,d,tk,os⟩:=s
 show wpAny _ _ (field (.ref e) 2 >>= _) _ _ _
 refine wB0 (wpAny_field he rfl (x:=.ref it) rfl (wB0 (zNH hit hl hx λha ita hsa=>?_)))
 replace hsa:Heap.SameBut it hp ha:=hsa
 have ea:IsEnum ha e it i old:=(hsa.2 e hne).trans he
 show wpAny _ _ (field (.ref e) 3 >>= _) _ _ ⟨ha,g,d,tk,os⟩
 refine wB0 (wpAny_field ea rfl (x:=rawInt i) rfl ?_)
 show wpAny _ _ (field (.ref e) 4 >>= _) _ _ ⟨ha,g,d,tk,os⟩
 refine wB0 (wpAny_field ea rfl (x:=.none) rfl ?_)
 show wpAny _ _ (mkInt i >>= _) _ _ ⟨ha,g,d,tk,os⟩
 refine wB0 (wpAny_mkInt ?_)
 show wpAny _ _ (setField (.ref e) 3 (rawInt ((i:Int)+1)) >>= _) _ _ ⟨ha,g,d,tk+1,os⟩
 refine wB0 (wpAny_setField_rec ea (by simp) λhb eb hsb=>?_)
 replace hsb:Heap.SameBut e ha hb:=hsb
 replace eb:IsEnum hb e it ((i:Int)+1) old:=eb
 show wpAny _ _ (setField (.ref e) 4 .none >>= _) _ _ ⟨hb,g,d,tk+1,os⟩
 refine wB0 (wpAny_setField_rec eb (by simp) λhc ec hsc=>?_)
 replace hsc:Heap.SameBut e hb hc:=hsc
 replace ec:IsEnum hc e it ((i:Int)+1) old:=ec
 show wpAny _ _ (newTuple [.int i tk,x] >>= _) _ _ ⟨hc,g,d,tk+1,os⟩
 refine wB0 (wpAny_newTuple ?_)
 have hsz:hc.objs.size=hp.objs.size:=by rw [hsc.1,hsb.1,hsa.1]
 have hel:e<hp.objs.size:=Heap.lt_size he
 have ed:IsEnum (hc.push {cls:=.type "tuple",data:=.seq #[.int i tk,x]}) e it ((i:Int)+1) old:=hP00 _ ec
 have td:(hc.push {cls:=.type "tuple",data:=.seq #[.int i tk,x]}).get? hp.objs.size=some {cls:=.type "tuple",data:=.seq #[.int i tk,x]}:=by rw [<-hsz];exact Heap.get?_push_size _ rfl
 have kd: ∀b o,b≠e->b≠it->hp.get? b=some o->(hc.push {cls:=.type "tuple",data:=.seq #[.int i tk,x]}).get? b=some o:=λb o n1 n2 q=>
  hP00 _ (hsc.extBut b o n1 (hsb.extBut b o n1 (hsa.extBut b o n2 q)))
 have sd:IsSub k (hc.push {cls:=.type "tuple",data:=.seq #[.int i tk,x]}) it l (i+1):=ita.move λo q=>hP00 _ (hsc.extBut _ o (Ne.symm hne) (hsb.extBut _ o (Ne.symm hne) q))
 generalize hc.push {cls:=.type "tuple",data:=.seq #[.int i tk,x]}=hd at ed td kd sd ⊢
 show wpAny _ _ (Builtin.SmallTypes.ownedTupleIsFree (.ref e) >>= _) _ _ ⟨hd,g,d,tk+1,os⟩
 rw [hsz]
 refine wB0 ?_
 unfold Builtin.SmallTypes.ownedTupleIsFree
 refine wB0 (wpAny_field ed rfl (x:=.none) rfl (wP0 ?_))
 simp only [if_true]
 refine wB0 (wpAny_rule (wB0 (wpAny_field ed rfl (x:=old) rfl (wB0 (wpAny_setField_rec ed (by simp) λhf ef hsf=>?_)))))
 replace hsf:Heap.SameBut e hd hf:=hsf
 replace ef:IsEnum hf e it ((i:Int)+1) x:=ef
 show wpAny _ _ (Builtin.SmallTypes.ownedTupleHandOut (.ref e) (.ref hp.objs.size) >>= _) _ _ ⟨hf,g,d,tk+1,os⟩
 refine wB0 ?_
 unfold Builtin.SmallTypes.ownedTupleHandOut
 refine wB0 (wpAny_setField_rec ef (by simp) λhg' eg hsg=>?_)
 replace hsg:Heap.SameBut e hf hg':=hsg
 replace eg:IsEnumOut hg' e it ((i:Int)+1) x hp.objs.size:=eg
 refine wpAny_setField_rec eg (by simp) λhh' eh hsh=>?_
 replace hsh:Heap.SameBut e hg' hh':=hsh
 replace eh:IsEnumOut hh' e it ((i:Int)+1) x hp.objs.size:=eh
 have up: ∀b o,b≠e->hd.get? b=some o->hh'.get? b=some o:=λb o n q=>hsh.extBut b o n (hsg.extBut b o n (hsf.extBut b o n q))
 exact wB0 (wpAny_letGo (wP0 ⟨_,rfl,hQ hh' eh (sd.move λo q=>up _ o (Ne.symm hne) q) (up _ _ (ne_of_gt hel) td) λb o n1 n2 q=>up b o n1 (kd b o n1 n2 q)⟩))
theorem yBS(k:Bool)(l:Addr)(its:Array Value):
  Meets (Builtin.«enumerate.__new__» ⟨[.type "enumerate",.ref l],[]⟩) (λ_ R s=>IsSeq k s.heap l its/\
   R (.ok (.ret (.ref (s.heap.objs.size+1)))) {s with heap:=(s.heap.push (zGX k l)).push {cls:=.type "enumerate",data:=.fields #[.none,.bool false,.ref s.heap.objs.size,rawInt 0,.none,.none]}}):=
 .of_wp λprog w A R s h=>by
  obtain⟨hp,g,d,tk,os⟩:=s;obtain⟨hl,h⟩:=h
  have hsub:=sub_enumerate
  have hL:IsSeq k (Shared.heap ⟨hp,g,d,tk,os⟩) l its:=hl
  have z1: ∀(h:Heap)(o:Obj),(h.push o).objs.size=h.objs.size+1:=λh o=>Heap.size_push ..
  wp_walk
  refine wpAny_stack_any λst=>wP0 ?_
  split
  ·rename_i c _ _ _ _ _
   cases (c==Value.type "enumerate")
   ·wp_walk using zJA hL
    exact⟨_,rfl,by simp only [z1];exact h⟩
   ·wp_walk using zJA hL
    exact⟨_,rfl,by simp only [z1];exact h⟩
  ·wp_walk using zJA hL
   exact⟨_,rfl,by simp only [z1];exact h⟩
end
def zUT(K:PySem.W.Frag)(F:List MV->Sto->R Er):Sp:=λvs H Q _=> ∃ds,DenL K [] H ds vs/\ds.length=1/\ ∀g:Gm,g.K=K->Post g W0 [] H (F ds []) Q
theorem yJM{g:Gm}{F:List MV->Sto->R Er}: ∀vs H Q E,zUT g.K F vs H Q E->spM g 1 F vs H Q E:=λvs H Q E ⟨ds,l,hl,q⟩=>⟨[],[],ds,⟨rfl,by simp,λl a o h=>by simp at h⟩,l,hl,q g rfl⟩
theorem ySD{K:PySem.W.Frag}{H:Hp}{a:Addr}{xs:List V}(hO:yIJ H)(h:SqL K H a xs):SqF K H a xs:=by
 rcases h with(h|⟨o,h⟩)|h
 ·rcases hO a with z|⟨o,ys,z⟩
  ·rw [z]at h;cases h
  ·rw [z]at h;cases h
 ·exact .inl ⟨o,h⟩
 ·exact .inr h
theorem yJN{K:PySem.W.Frag}{F:List MV->Sto->R Er}{H:Hp}{a:Addr}{ns:List Int}(hO:yIJ H)(hS:SqL K H a (ns.map V.int))(h: ∃S,F [.scr (ns.map MV.int)] []=.ok (.val (.bl true)) S):zUT K F [.ref a] H (λv _=>v=.bl true) λ_ _ _=>False:=by
 obtain⟨S,h⟩:=h
 refine⟨_,xH (yDP (ySD hO hS) (zUO ns)) wM,rfl,λg _=>?_⟩
 rw [h]
 exact λv α' H' x w d=>zIW d.1
theorem bok{β γ:Type}(b:β)(S:Sto)(k:β->Sto->R γ):(R.ok b S).bind k=k b S:=by
 have h:=R.bind_ok b S k
 exact Eq.trans h rfl
theorem zWN(d:MV)(S:Sto):rdSl (some (some d)) S=.ok (.val d) S:=rfl
theorem zSC{S T:Sto}:zYR S (S++T):=⟨by rw [lA];omega,λl hl=>.inl (getElem?_append_left hl)⟩
theorem jY(n:Nat)(i:Int):lo n (.int i):=by unfold lo;trivial
theorem zGY(n:Nat)(i:List Nat):lo n (.str i):=by unfold lo;trivial
theorem zYU(n:Nat)(i:Bool):lo n (.bl i):=by unfold lo;trivial
theorem yBT(n:Nat):lo n .non:=by unfold lo;trivial
theorem wZ{n:Nat}{ds:List MV}(h:loL n ds):lo n (.tup ds):=by unfold lo;exact h
theorem xP{n:Nat}: ∀{ds:List MV},(∀d∈ds,lo n d)->loL n ds
 |[],_=>by unfold loL;trivial
 |d::ds,h=>by unfold loL;exact⟨h d mF0,xP λe he=>h e (mO _ he)⟩
theorem zNI{S T:Sto}{d:MV}(h:lo S.length d)(hn: ∀l,d≠.loc l):cP S (.val d) (S++T)=.ok (.val d) S:=by
 unfold cP
 rw [iP zSC]
 have e:(S++T).take S.length=S:=by simp
 cases d with
 |loc l=>exact absurd rfl (hn l)
 |_=>dsimp only;rw [iP h,e]
theorem yJO{S T:Sto}{ds:List MV}(h:loL S.length ds):cP S (.new ds) (S++T)=.ok (.new ds) S:=by
 unfold cP
 rw [iP zSC]
 have e:(S++T).take S.length=S:=by simp
 dsimp only
 rw [iP h,e]
theorem yJP{S T:Sto}{l:Nat}{ds:List MV}(hl:S.length<=l)(hS:(S++T)[l]? =some (.lst ds))(h:loL S.length ds):cP S (.val (.loc l)) (S++T)=.ok (.new ds) S:=by
 unfold cP
 rw [iP zSC]
 have e:(S++T).take S.length=S:=by simp
 dsimp only
 rw [iN0 (by omega),hS]
 dsimp only
 rw [iP h,e]
theorem zAE{n:Nat}{F:List MV->Sto->R Er}{rs:List Er}{S T:Sto}{d:MV}(hn:rs.length=n)(hF:F (zR rs S).1 (zR rs S).2=.ok (.val d) (S++T))(h:lo S.length d)(hd: ∀l,d≠.loc l):zO n F rs S=.ok (.val d) S:=by
 unfold zO
 rw [iP hn,hF]
 exact zNI h hd
theorem yJQ{n:Nat}{F:List MV->Sto->R Er}{rs:List Er}{S T:Sto}{ds:List MV}(hn:rs.length=n)(hF:F (zR rs S).1 (zR rs S).2=.ok (.new ds) (S++T))(h:loL S.length ds):zO n F rs S=.ok (.new ds) S:=by
 unfold zO
 rw [iP hn,hF]
 exact yJO h
theorem yJR{n:Nat}{F:List MV->Sto->R Er}{rs:List Er}{S T:Sto}{l:Nat}{ds:List MV}(hn:rs.length=n)(hF:F (zR rs S).1 (zR rs S).2=.ok (.val (.loc l)) (S++T))(hl:S.length<=l)(hS:(S++T)[l]? =some (.lst ds))(h:loL S.length ds):zO n F rs S=.ok (.new ds) S:=by
 unfold zO
 rw [iP hn,hF]
 exact yJP hl hS h
theorem zGA{n:Nat}{F:List MV->Sto->R Er}{rs:List Er}{S:Sto}{d:MV}(hn:rs.length=n)(hF:F (zR rs S).1 (zR rs S).2=.ok (.val d) S)(h:lo S.length d)(hd: ∀l,d≠.loc l):zO n F rs S=.ok (.val d) S:=zAE (T:=[]) hn (by rw [aN];exact hF) h hd
theorem zYV{gf:MV->Rho->Sto->R Rho}{body:Rho->Sto->R Fl}{gs:List (Nat×List MV)}{L:List MV}(I:Nat->Rho->Sto->Prop)
  (st: ∀i d,L[i]? =some d-> ∀ρ S,I i ρ S-> ∃ρ' S',((gf d ρ S).bind λρ0 S0=>body ρ0 S0)=.ok (.next ρ') S'/\stay gs S'/\I (i+1) ρ' S'):
  ∀(n i:Nat){ρ:Rho}{S:Sto},n+i=L.length->I i ρ S-> ∃ρ' S',zBQ gf body gs (L.drop i) ρ S=.ok (.next ρ') S'/\I L.length ρ' S'
 |0,i,ρ,S,hn,h=>by
  have e:i=L.length:=by omega
  subst e
  rw [drop_length]
  exact⟨ρ,S,rfl,h⟩
 |n+1,i,ρ,S,hn,h=>by
  have hi:i<L.length:=by omega
  obtain⟨ρ1,S1,e,hs,h1⟩:=st i L[i] (gE0 hi) ρ S h
  obtain⟨ρ2,S2,e2,h2⟩:=zYV I st n (i+1) (by omega) h1
  refine⟨ρ2,S2,?_,h2⟩
  rw [List.drop_eq_getElem_cons hi]
  unfold zBQ
  cases z:gf L[i] ρ S with
  |ok ρ0 S0=>
   rw [z]at e
   have e:body ρ0 S0=.ok (.next ρ1) S1:=e
   rw [bok]
   show(body ρ0 S0).bind _=_
   rw [e,bok]
   dsimp only
   rw [iP hs]
   exact e2
  |exc c fs S0=>rw [z]at e;cases e
  |no=>rw [z]at e;cases e
theorem zWO{gf:MV->Rho->Sto->R Rho}{body:Rho->Sto->R Fl}{gs:List (Nat×List MV)}{L:List MV}(I:Nat->Rho->Sto->Prop)
  (st: ∀i d,L[i]? =some d-> ∀ρ S,I i ρ S-> ∃ρ' S',((gf d ρ S).bind λρ0 S0=>body ρ0 S0)=.ok (.next ρ') S'/\stay gs S'/\I (i+1) ρ' S') {ρ:Rho} {S:Sto} (h:I 0 ρ S):
  ∃ρ' S',zBQ gf body gs L ρ S=.ok (.next ρ') S'/\I L.length ρ' S':=zYV I st L.length 0 (by omega) h
section
variable{S:Sto}
theorem as_bl(b:Bool)(S:Sto):asB (.val (.bl b)) S=.ok b S:=rfl
theorem as_int(i:Int)(S:Sto):asI (.val (.int i)) S=.ok (some i) S:=rfl
theorem ySE(b:Bool)(S:Sto):dW (.val (.bl b)) S=.ok b S:=rfl
theorem add_int(i j:Int)(S:Sto):wO (.val (.int i)) (.val (.int j)) S=.ok (.val (.int (i+j))) S:=rfl
theorem sub_int(i j:Int)(S:Sto):yGL (.val (.int i)) (.val (.int j)) S=.ok (.val (.int (i - j))) S:=rfl
theorem add_str{x y:List Nat}(h:x.length+y.length<=sizeLine):wO (.val (.str x)) (.val (.str y)) S=.ok (.val (.str (x++y))) S:=iP h
theorem zEI{p q:Er}{x y:List MV}(h1:lsW S p=some x)(h2:lsW S q=some y)(h:x.length+y.length<=sizeLine):wO p q S=.ok (.new (x++y)) S:=by
 have e:yDX p q S=.ok (.new (x++y)) S:=by
  unfold yDX
  rw [h1,h2]
  exact iP h
 unfold wO
 split
 ·cases h1
 ·cases h1
 ·cases h1
 ·exact e
theorem ySF{g:Int->Int->Bool}(i j:Int)(S:Sto):ibF g (.val (.int i)) (.val (.int j)) S=.ok (.val (.bl (g i j))) S:=rfl
theorem yNN(i j:Int):eqV (.int i) (.int j)=decide (i=j):=by
 show(i==j)=_
 by_cases h:i=j
 ·subst h;simp
 ·rw [dF0 h];simpa using h
theorem yNO(x y:List Nat):eqV (.str (mkS x)) (.str (mkS y))=decide (x=y):=by
 show(mkS x==mkS y)=_
 by_cases h:x=y
 ·subst h;simp
 ·rw [dF0 h]
  have:mkS x≠mkS y:=λz=>h (zVU z)
  simpa using this
theorem zQP(n:Nat)(i j:Int):eqv S (n+1) (.int i) (.int j)=some (decide (i=j)):=by rw [<-yNN];rfl
theorem zQQ(n:Nat)(x y:List Nat):eqv S (n+1) (.str x) (.str y)=some (decide (x=y)):=by rw [<-yNO];rfl
theorem ySG(n:Nat)(x:Int)(y:List Nat):eqv S (n+1) (.int x) (.str y)=some false:=rfl
theorem ySH(n:Nat)(x:List Nat)(y:Int):eqv S (n+1) (.str x) (.int y)=some false:=rfl
theorem ySI(n:Nat)(x y:Bool):eqv S (n+1) (.bl x) (.bl y)=some (x==y):=rfl
theorem yNP(d f:MV):eqF (.val d) (.val f) S=match eqv S (yO+1) d f with |some k=>.ok (.val (.bl k)) S|none=>.no:=rfl
theorem yNQ(d f:MV):neF (.val d) (.val f) S=match eqv S (yO+1) d f with |some k=>.ok (.val (.bl !k)) S|none=>.no:=rfl
theorem yJS{d f:MV}{k:Bool}(h:eqv S (yO+1) d f=some k):eqF (.val d) (.val f) S=.ok (.val (.bl k)) S:=by rw [yNP,h]
theorem yJT{d f:MV}{k:Bool}(h:eqv S (yO+1) d f=some k):neF (.val d) (.val f) S=.ok (.val (.bl !k)) S:=by rw [yNQ,h]
theorem eq_int(i j:Int)(S:Sto):eqF (.val (.int i)) (.val (.int j)) S=.ok (.val (.bl (decide (i=j)))) S:=yJS (zQP _ i j)
theorem eq_str(x y:List Nat)(S:Sto):eqF (.val (.str x)) (.val (.str y)) S=.ok (.val (.bl (decide (x=y)))) S:=yJS (zQQ _ x y)
theorem ne_int(i j:Int)(S:Sto):neF (.val (.int i)) (.val (.int j)) S=.ok (.val (.bl (!decide (i=j)))) S:=yJT (zQP _ i j)
theorem lt_int(i j:Int)(S:Sto):ltF (.val (.int i)) (.val (.int j)) S=.ok (.val (.bl (decide (i<j)))) S:=rfl
theorem lt_str(i j:List Nat)(S:Sto):ltF (.val (.str i)) (.val (.str j)) S=.ok (.val (.bl (decide (i<j)))) S:=rfl
theorem yP{b:Int}(h:0<b)(h2:b<1073741824)(a:Int)(S:Sto):cL (.val (.int a)) (.val (.int b)) S=.ok (.val (.int (a / b))) S:=by
 refine iP ⟨h,?_⟩
 have h3:b.natAbs<2 ^ 30:=by omega
 have:=(log2_lt (by omega:b.natAbs≠0)).mpr h3
 omega
theorem mod_lit{b:Int}(h:0<b)(a:Int)(S:Sto):kT (.val (.int a)) (.val (.int b)) S=.ok (.val (.int (a % b))) S:=iP h
theorem zQR{b:Int}(h: -(2 ^ 64)<b/\b<2 ^ 64)(a:Int)(S:Sto):zNB (.val (.int a)) (.val (.int b)) S=.ok (.val (.int (a * b))) S:=iP (Or.inr (Or.inl h))
theorem yJU{a:Int}(h: -(2 ^ 64)<a/\a<2 ^ 64)(b:Int)(S:Sto):zNB (.val (.int a)) (.val (.int b)) S=.ok (.val (.int (a * b))) S:=iP (Or.inl h)
theorem yNR{a b:Int}(h:yGM a b)(S:Sto):zIZ (.val (.int a)) (.val (.int b)) S=.ok (.val (.int (a ^ b.toNat))) S:=iP h
theorem yNS(ρ:Rho)(i:Nat)(d:MV)(S:Sto):zYQ ρ i (.val d) S=.ok (.next (ρ.set i (some d))) S:=rfl
theorem yNT(ρ:Rho)(i:Nat)(ds:List MV)(S:Sto):zYQ ρ i (.new ds) S=.ok (.next (ρ.set i (some (.loc S.length)))) (S++[.lst ds]):=rfl
theorem yNU(S:Sto):zR [] S=([],S):=rfl
theorem yNV(d:MV)(rs:List Er)(S:Sto):zR (.val d::rs) S=(d::(zR rs S).1,(zR rs S).2):=rfl
theorem zE{F G:Rho->Sto->R Fl}{ρ ρ':Rho}{S S':Sto}(h:F ρ S=.ok (.next ρ') S'):zT F G ρ S=G ρ' S':=by unfold zT;rw [h];rfl
theorem bR{F G:Rho->Sto->R Fl}{ρ:Rho}{S S':Sto}{r:Er}(h:F ρ S=.ok (.ret r) S'):zT F G ρ S=.ok (.ret r) S':=by unfold zT;rw [h];rfl
theorem kU(S:Sto):stay [] S:=cO
theorem bD{gf:MV->Rho->Sto->R Rho}{b:Rho->Sto->R Fl}{gs:List (Nat×List MV)}{d:MV}{ds:List MV}{ρ ρ0 ρ':Rho}{S0 S':Sto}(hg:gf d ρ S=.ok ρ0 S0)(h:b ρ0 S0=.ok (.next ρ') S')(hs:stay gs S'):zBQ gf b gs (d::ds) ρ S=zBQ gf b gs ds ρ' S':=by
 conv=>lhs;unfold zBQ
 rw [hg,bok,h,bok]
 dsimp only
 rw [iP hs]
theorem nX{α:Type}{xs:List α}{i:Int}(h0:0<=i)(h1:i<xs.length): ∃c,atI xs i=some c:=by
 refine⟨xs[i.toNat]'(by omega),?_⟩
 unfold atI ixN
 rw [iP h0,iP h1]
 exact gE0 _
theorem nY{α:Type}{P:α->Prop}{xs:List α}{i:Int}{e:α}(h: ∀e∈xs,P e)(z:atI xs i=some e):P e:=by
 unfold atI at z
 cases q:ixN xs.length i with
 |none=>rw [q]at z;cases z
 |some j=>rw [q]at z;exact h e (mem_of_getElem? (show xs[j]? =some e from z))
theorem ix_str{x:List Nat}{i:Int}{c:Nat}(h:x.length<=sizeLine)(hk:atI x i=some c):ixF (.val (.str x)) (.val (.int i)) S=.ok (.val (.str [c])) S:=by
 show(if x.length<=sizeLine then match atI x i with |some c=>R.ok (Er.val (.str [c])) S|none=>.no else .no)=_
 rw [iP h,hk]
theorem ix_tup{ds:List MV}{i:Int}{d:MV}(hk:atI ds i=some d):ixF (.val (.tup ds)) (.val (.int i)) S=.ok (.val d) S:=by
 show(match atI ds i with |some d=>R.ok (Er.val d) S|none=>.no)=_
 rw [hk]
theorem zWP{ds:List MV}{i:Int}{d:MV}(hk:atI ds i=some d):ixF (.new ds) (.val (.int i)) S=.ok (.val d) S:=by
 show(match atI ds i with |some d=>R.ok (Er.val d) S|none=>.no)=_
 rw [hk]
theorem kK{l:Nat}{ds:List MV}{i:Int}{d:MV}(hS:S[l]? =some (.lst ds))(hk:atI ds i=some d):ixF (.val (.loc l)) (.val (.int i)) S=.ok (.val d) S:=by
 have e:dQ S (.val (.loc l))=some ds:=by unfold dQ;dsimp only;rw [hS]
 show(match dQ S (.val (.loc l))with |some ds=>getL ds (.val (.int i)) S|none=>.no)=_
 rw [e]
 show(match atI ds i with |some d=>R.ok (Er.val d) S|none=>.no)=_
 rw [hk]
theorem yNW{l:Nat}{ds:List MV}(hS:S[l]? =some (.lst ds)):wC [.val (.loc l)] S=.ok (.val (.int ds.length)) S:=by
 have e:dQ S (.val (.loc l))=some ds:=by unfold dQ;dsimp only;rw [hS]
 have e2:itemsOf S (.val (.loc l))=some ds:=by unfold itemsOf;exact e
 show(match itemsOf S (.val (.loc l))with |some ds=>R.ok (Er.val (.int ds.length)) S|none=>.no)=_
 rw [e2]
theorem cR{l:Nat}{ds:List MV}(hS:S[l]? =some (.lst ds)):dQ S (.val (.loc l))=some ds:=by unfold dQ;dsimp only;rw [hS]
theorem zWQ{l:Nat}{ds:List MV}(hS:S[l]? =some (.lst ds)):lsW S (.val (.loc l))=some ds:=by unfold lsW;dsimp only;rw [hS]
theorem yEE{l:Nat}{ds:List MV}(hS:S[l]? =some (.lst ds)):itL (.val (.loc l)) S=.ok ⟨ds,[(l,ds)]⟩ S:=by unfold itL;dsimp only;rw [hS]
theorem zNJ{l:Nat}{ds:List MV}(hS:S[l]? =some (.lst ds)):stay [(l,ds)] S:=λp hp=>by
 have:p=(l,ds):=by simpa using hp
 subst this;exact hS
theorem zAR{j:Int}(h: -(2 ^ 62)<=j/\j<2 ^ 62):zDW [.val (.int j)] S=.ok ⟨(List.range j.toNat).map λk=>.int (k:Nat),[]⟩ S:=iP h
theorem cut_str{x:List Nat}(h:x.length<=sizeLine)(lo hi:Option Int):zAD (.val (.str x)) lo hi S=.ok (.val (.str (cK x lo hi))) S:=iP h
theorem yJV{α β:Type}(f:α->β)(x:List α)(lo hi:Option Int):cK (x.map f) lo hi=(cK x lo hi).map f:=by
 unfold cK
 rw [lM0,List.map_take,List.map_drop]
theorem yNX{α:Type}(x:List α)(k:Int)(h0:0<=k):cK x none (some k)=x.take k.toNat:=by
 unfold cK
 have h1:HT.sIx x.length 0 none=0:=rfl
 rw [h1]
 have h2:HT.sIx x.length x.length (some k)=min k.toNat x.length:=by
  unfold HT.sIx
  simp only
  split<;>omega
 rw [h2,List.drop_zero,Nat.sub_zero]
 by_cases hk:k.toNat<=x.length
 ·rw [min_eq_left hk]
 ·rw [Nat.min_eq_right (by omega),List.take_length,take_of_length_le (by omega)]
theorem fits{n:Nat}(h:n<=1000000):n<=sizeLine:=by rw [sizeLine_eq];exact le_trans h (by decide)
theorem zJB{rs:List Er}(h:rs.length<=1000000):gX rs S=.ok (.new (zR rs S).1) (zR rs S).2:=iP (fits h)
theorem zOM{rs:List Er}(h:rs.length<=1000000):kQ rs S=.ok (.val (.tup (zR rs S).1)) (zR rs S).2:=iP (fits h)
theorem lst0(S:Sto):gX [] S=.ok (.new []) S:=zJB (by simp)
theorem lst1(a:MV)(S:Sto):gX [.val a] S=.ok (.new [a]) S:=zJB (by simp)
theorem lst2(a b:MV)(S:Sto):gX [.val a,.val b] S=.ok (.new [a,b]) S:=zJB (by simp)
theorem lst3(a b c:MV)(S:Sto):gX [.val a,.val b,.val c] S=.ok (.new [a,b,c]) S:=zJB (by simp)
theorem lst6(a b c d e f:MV)(S:Sto):gX [.val a,.val b,.val c,.val d,.val e,.val f] S=.ok (.new [a,b,c,d,e,f]) S:=zJB (by simp)
theorem tup2(a b:MV)(S:Sto):kQ [.val a,.val b] S=.ok (.val (.tup [a,b])) S:=zOM (by simp)
theorem tup3(a b c:MV)(S:Sto):kQ [.val a,.val b,.val c] S=.ok (.val (.tup [a,b,c])) S:=zOM (by simp)
theorem ySJ(i:Int)(S:Sto):cQ [.val (.int i),.val (.typ "str")] S=.ok (.val (.bl false)) S:=rfl
theorem ySK(i:List Nat)(S:Sto):cQ [.val (.str i),.val (.typ "str")] S=.ok (.val (.bl true)) S:=rfl
theorem ySL(i:Int)(S:Sto):cQ [.val (.int i),.val (.typ "tuple")] S=.ok (.val (.bl false)) S:=rfl
theorem ySM(i:List Nat)(S:Sto):cQ [.val (.str i),.val (.typ "tuple")] S=.ok (.val (.bl false)) S:=rfl
theorem ySN(i:List MV)(S:Sto):cQ [.val (.tup i),.val (.typ "tuple")] S=.ok (.val (.bl true)) S:=rfl
theorem ySO(i:Bool)(S:Sto):cQ [.val (.bl i),.val (.typ "bool")] S=.ok (.val (.bl true)) S:=rfl
theorem zYW{gf:MV->Rho->Sto->R Rho}{cf:Rho->Sto->R Bool}{ef:Rho->Sto->R Er}{ρb:Rho}{gs:List (Nat×List MV)}{P:MV->Prop}(hs:stay gs S):
  ∀{ds:List MV},(∀d∈ds, ∃ρ1 y,gf d ρb S=.ok ρ1 S/\cf ρ1 S=.ok true S/\ef ρ1 S=.ok (.val y) S/\P y)-> ∃out,xX gf cf ef ρb gs ds S=.ok out S/\out.length=ds.length/\ ∀o∈out,P o
 |[],_=>⟨[],rfl,rfl,λo h=>by simp at h⟩
 |d::ds,st=>by
  obtain⟨ρ1,y,h1,h2,h3,h4⟩:=st d mF0
  obtain⟨out,e,hl,hp⟩:=zYW hs (ds:=ds) λd hd=>st d (mO _ hd)
  refine⟨y::out,?_,by rw [lC0,lC0,hl],λo ho=>(mC.mp ho).elim (λz=>z▸h4) (hp o)⟩
  unfold xX
  rw [h1,wN,bok,h2,wN,bok,iP rfl,h3,wN,bok]
  unfold zCD
  rw [bok,iP hs,e]
  rfl
theorem gA{gf:MV->Rho->Sto->R Rho}{cf:Rho->Sto->R Bool}{ef:Rho->Sto->R Er}{ρb:Rho}{gs:List (Nat×List MV)}{F:MV->MV}(hs:stay gs S):
  ∀{ds:List MV},(∀d∈ds, ∃ρ1,gf d ρb S=.ok ρ1 S/\cf ρ1 S=.ok true S/\ef ρ1 S=.ok (.val (F d)) S)->xX gf cf ef ρb gs ds S=.ok (ds.map F) S
 |[],_=>rfl
 |d::ds,st=>by
  obtain⟨ρ1,h1,h2,h3⟩:=st d mF0
  have e:=gA hs (ds:=ds) λd hd=>st d (mO _ hd)
  unfold xX
  rw [h1,wN,bok,h2,wN,bok,iP rfl,h3,wN,bok]
  unfold zCD
  rw [bok,iP hs,e]
  rfl
def Nm(x:List Nat):Prop:=1<=x.length/\x.length<=8/\ ∀c∈x,97<=c/\c<=122
def Vl:MV->Prop
 |.int i=> -(10 ^ 30)<i/\i<10 ^ 30
 |.str x=>Nm x
 |_=>False
theorem Vl.cases{d:MV}(h:Vl d):(∃i,d=.int i/\ -(10 ^ 30)<i/\i<10 ^ 30)\/ ∃x,d=.str x/\Nm x:=by
 cases d with
 |int i=>exact .inl ⟨i,rfl,h⟩
 |str x=>exact .inr ⟨x,rfl,h⟩
 |_=>exact h.elim
theorem Vl.lo{d:MV}(h:Vl d)(n:Nat):lo n d:=by
 rcases h.cases with⟨i,rfl,_⟩|⟨x,rfl,_⟩
 ·exact jY n i
 ·exact zGY n x
end
def Ite(K:PySem.W.Frag)(k:Bool)(l:Addr):It:=
 ⟨λi H=> ∃xs x,SqK k K H l xs/\xs[i]? =some x,
   λi H v H'=> ∃p x,H p=none/\v=.ref p/\H'=upd H p (.tup [.int (i:Nat),x])/\(∀xs,SqK k K H l xs->xs[i]? =some x),
   λi H=> ∃xs,SqK k K H l xs/\xs.length<=i⟩
section
variable{prog:Program}{w:World}{A:Around}{E:Value->Shared->Prop}{s:Shared}{k:Bool}{e it l:Addr}{i:Nat}{its:Array Value}
theorem yGT(hl:IsSeq k s.heap l its){Q:Value->Shared->Prop}
  (h: ∀h',EnSt k (s.heap.objs.size+1) s.heap.objs.size l 0 h'->(∀c o,s.heap.get? c=some o->h'.get? c=some o)->Q (.ref (s.heap.objs.size+1)) {s with heap:=h'}):
  wpAny (model prog w) A (call (.type "enumerate") [.ref l]) Q E s:=by
 refine callType_new F.called_enumerate (by decide) (F.typeCall_enumerate_1 _) (F.newCall_enumerate_1 _) (λobj=>F.args_object_init_2 obj _) F.entry_enumerate_new (yBS k l its) ⟨hl,?_⟩
 have hz:(s.heap.push (zGX k l)).objs.size=s.heap.objs.size+1:=Heap.size_push ..
 show _/\_
 have he:IsEnum ((s.heap.push (zGX k l)).push {cls:=.type "enumerate",data:=.fields #[.none,.bool false,.ref s.heap.objs.size,rawInt 0,.none,.none]}) (s.heap.objs.size+1) s.heap.objs.size 0 .none:=by
  have:=Heap.get?_push_size (s.heap.push (zGX k l)) (o:={cls:=.type "enumerate",data:=.fields #[.none,.bool false,.ref s.heap.objs.size,rawInt 0,.none,.none]}) rfl
  rw [hz]at this;exact this
 refine⟨⟨_,he,rfl⟩,h _ ⟨⟨.none,he⟩,IsSub.mk' (hP00 _ (Heap.get?_push_size _ rfl))⟩ λb o x=>hP00 _ (hP00 _ x)⟩
end
theorem yGU{P:Program}{w:World}{K:PySem.W.Frag}{elts:List Expr}{kt:Nat}{pt:Pos}{k:Bool}{e it l:Addr}(hne:e≠it):
  Turn P w K (.Tuple elts kt pt) (Ite K k l) [e,it] e (λi h=>EnSt k e it l i h) where
 mem:=by simp
 obj:=λi h st b hb=>by
  obtain⟨⟨old,he⟩,hs⟩:=st
  have hb':b=e\/b=it:=by simpa using hb
  rcases hb' with rfl|rfl
  ·exact⟨_,he,λv q=>by cases q⟩
  ·exact hs.there
 keep:=λi h h' st kk=>by
  obtain⟨⟨old,he⟩,hs⟩:=st
  exact⟨⟨old,kk e (by simp) _ he⟩,hs.move λo q=>kk it (by simp) o q⟩
 item:=by
  intro X hP hw hK hc i pins s σ H E I hf st hg
  subst hP hw hK
  obtain⟨xs,x,q1,hx⟩:=hg
  obtain⟨its,r1,p1,_⟩:=I.seqK q1
  obtain⟨u,hu,ru⟩:=r1.get hx
  obtain⟨⟨old,he⟩,hs⟩:=st
  have hT:s.TypeIs (.ref e) "enumerate":=⟨_,he,rfl⟩
  unfold pyNext
  refine wB0 (wpAny_attempt (wpAny_callSpecial?_slot (name:=Str.ofString "__next__") hT F.slot_enumerate_next (wpAny_call_entry F.slot_enumerate_next hT F.entry_enumerate_next
   (yNM he hs p1 (x:=u) (by simpa using hu) hne λh' a1 a2 a3 a4=>wP0 ⟨_,rfl,?_⟩) (F.args_enumerate_next_1 _))))
  refine wpAny_letOwnedTupleGo_enum a1 λh2 z2 sb2=>?_
  have hpn:H s.heap.objs.size=none:=I.hok.fresh (le_refl _)
  have I0:Inv X pins σ (upd H s.heap.objs.size (.tup [.int (i:Nat),x])) {s with heap:=s.heap.push {cls:=.type "tuple",data:=.seq #[.int i s.toks,u]},toks:=s.toks+1}:=
   I.laid (t':=s.toks+1) (o:=.tup [.int (i:Nat),x]) (λb o e=>hP00 _ e) (le_refl _) ⟨by show 2<=sizeLine;decide,[.int i s.toks,u],.cons ⟨_,rfl⟩ (.cons ru .nil),⟨_,Heap.get?_push_size _ rfl,rfl,_,rfl⟩⟩
  have lt: ∀b∈[e,it],b<s.heap.objs.size:=λb hb=>by
   have hb':b=e\/b=it:=by simpa using hb
   rcases hb' with rfl|rfl
   ·exact Heap.lt_size he
   ·obtain⟨o,eo,_⟩:=hs.there;exact Heap.lt_size eo
  have fr: ∀b∈[e,it],upd H s.heap.objs.size (.tup [.int (i:Nat),x]) b=none:=λb hb=>by rw [zQ (ne_of_lt (lt b hb))];exact(hf b hb).1
  have mv: ∀b o,b∉[e,it]->(s.heap.push {cls:=.type "tuple",data:=.seq #[.int i s.toks,u]}).get? b=some o->h2.get? b=some o:=λb o hb eo=>by
   simp only [mC,nM0,or_false,not_or]at hb
   refine sb2.extBut _ _ hb.1 ?_
   by_cases hbs:b=s.heap.objs.size
   ·subst hbs
    rw [Heap.get?_push_size _ rfl]at eo
    cases eo
    exact a3
   ·rw [Heap.get?_push_ne _ _ _ hbs]at eo
    exact a4 b o hb.1 hb.2 eo
  have I2:=I0.turnedL (h':=h2) (t':=s.toks+1) mv λb hb=>let ⟨_,c2,c3,c4,c5,c6⟩:=hf b hb;⟨fr b hb,c2,c3,c4,c5,c6⟩
  refine⟨.ref s.heap.objs.size,_,I2,rfl,⟨s.heap.objs.size,x,hpn,rfl,rfl,λzs hz=>?_⟩,⟨⟨u,?_⟩,?_⟩,fr⟩
  ·rw [I.seqK_inj hz q1];exact hx
  ·simpa using z2
  ·exact a2.move λo eo=>sb2.extBut _ _ (Ne.symm hne) eo
 done:=by
  intro X hP hw hK hc i pins s σ H E I hf st hg
  subst hP hw hK
  obtain⟨xs,q1,hx⟩:=hg
  obtain⟨its,r1,p1,_⟩:=I.seqK q1
  obtain⟨⟨old,he⟩,hs⟩:=st
  have hT:s.TypeIs (.ref e) "enumerate":=⟨_,he,rfl⟩
  have e1:=r1.length
  unfold pyNext
  refine wB0 (wpAny_attempt (wpAny_callSpecial?_slot (name:=Str.ofString "__next__") hT F.slot_enumerate_next (wpAny_call_entry F.slot_enumerate_next hT F.entry_enumerate_next ?_ (F.args_enumerate_next_1 _))))
  show wpAny _ _ (field (.ref e) 2 >>= _) _ _ _
  refine wB0 (wpAny_field he rfl (x:=.ref it) rfl ?_)
  refine wB0 (zWM (I.ok.hd hc) hs p1 (by simp;omega) λh' x hk hx'=>?_)
  obtain⟨o,ho,hcl⟩:=hx'
  refine wB0 (wpAny_isInstance (T:="StopIteration") (b:=true) ⟨o,ho,hcl⟩ isSubtype_stop (wP0 ⟨rfl,?_⟩))
  refine I.turnedL (h':=h') (t':=s.toks) (λb o hb eo=>?_) hf
  simp only [mC,nM0,or_false,not_or]at hb
  exact hk b o hb.2 eo
 self:=λ_ _ _ _ _ st h=>let ⟨⟨_,he⟩,_⟩:=st;wpAny_pyIter_enum he h
def iEnum(K:PySem.W.Frag)(ta:TA):TI:=λσ H R=>ta σ H λvs H1=> ∃k l,vs=[.ref l]/\(∃xs,SqK k K H1 l xs)/\R (Ite K k l) H1
section
variable{X:Cx}{W:XW}{a:Expr}{elts:List Expr}{kt:Nat}{pt p pos:Pos}{ta:TA}{af:Rho->Sto->R (List Er)}
theorem yNY(hg:Gl X "enumerate")(hm:X.mg "enumerate"=none)(ha:PA X [a] ta)(hs:starEach [a] X.env=[(false,eval a X.env)]:=by rfl):
  PI X (.Tuple elts kt pt) (.Call (.Name "enumerate" p) [a] [] pos) (iEnum X.K ta):=by
 intro pins s σ H R I h
 refine Call_ (zOD I hg hm yNL (PyProof.Rows.callWith_type1 (thn (ha pos pins s σ H _ I h) λus s1 ⟨vs,H1,I1,r1,q1⟩=>?_) (by rw [hs];rfl) (by rfl)))
 obtain⟨k,l,rfl,⟨xs,c1⟩,q⟩:=q1
 cases r1 with
 |cons r rr=>
  cases rr
  cases r
  obtain⟨its,v1,p1,_⟩:=I1.seqK c1
  refine yGT p1 λh' st hk=>let ⟨⟨_,he⟩,_⟩:=id st;wpAny_pyIter_enum he ?_
  have I2:Inv X pins σ H1 {s1 with heap:=h'}:=I1.kept (t':=s1.toks) hk
  refine⟨_,_,_,_,H1,rfl,I2,yGU (ne_of_gt (Nat.lt_succ_self _)),st,λb hb=>?_,q⟩
  have hle:s1.heap.objs.size<=b:=by
   have hb':b=s1.heap.objs.size+1\/b=s1.heap.objs.size:=by simpa using hb
   rcases hb' with h|h<;>rw [h]<;>(first |exact le_refl _|exact Nat.le_add_right _ _)
  exact I1.fpOk hle (I1.hok.fresh hle)
def zSD(xs:List MV):List MV:=xs.zipIdx.map λp=>.tup [.int (p.2:Nat),p.1]
def itE(rs:List Er)(S:Sto):R Wk:=match rs with
 |[p]=>match srcOf S p with
  |some a=>.ok ⟨zSD a.ds,a.gs⟩ S
  |none=>.no
 |_=>.no
theorem zQS(hg:Gl X "enumerate")(hm:X.mg "enumerate"=none)(ha:PAm X W [a] af)(hs:starEach [a] X.env=[(false,eval a X.env)]:=by rfl):
  PIm X W (.Tuple elts kt pt) (.Call (.Name "enumerate" p) [a] [] pos) (λρ S=>(af ρ S).bind itE):=by
 obtain⟨t,ha,k⟩:=ha
 refine⟨_,yNY hg hm ha hs,λα ρ S σ H Rc wd sl q=>k α ρ S σ H _ wd sl (q.bind λvs rs S1 α1 H1 e x1 w1 d1 q1=>?_)⟩
 replace q1:=q1.shift x1
 unfold itE at q1
 split at q1
 ·rename_i r1
  split at q1
  ·rename_i s1 e1
   obtain⟨u,rfl,du⟩:=yDT d1
   obtain⟨l1,P1,rfl,p1,D1⟩:=yBR w1 e1 du
   have g1:=D1.get _ _ _ p1
   have hlen:(zSD s1.ds).length=s1.ds.length:=by unfold zSD;rw [lM0,List.length_zipIdx]
   refine⟨s1.k,l1,rfl,⟨_,g1.choose_spec.1⟩,q1.here (u:=Ite X.K s1.k l1) w1 ⟨λα S H=>P1 α S H,?_,p1,?_,?_⟩⟩
   ·intro i α2 S2 H2 b1 w2
    obtain⟨us,c1,c2⟩:=D1.get _ _ _ b1
    have hl:=c2.length
    refine⟨λhi=>?_,λhi=>?_⟩
    ·have hi:i<(zSD s1.ds).length:=hi
     have h1:i<us.length:=by omega
     refine⟨⟨us,us[i],c1,gE0 h1⟩,?_⟩
     rintro x H' ⟨pp,xx,hp,rfl,rfl,hx⟩
     obtain⟨d,hd,dd⟩:=c2.get (hx us c1)
     have xn:=w2.newx (o:=.tup [.int (i:Nat),xx]) hp
     have wn:=w2.new (o:=.tup [.int (i:Nat),xx]) hp
     refine⟨xn,wn,D1.stays _ _ _ _ _ _ b1 xn wn (D1.st _ _ _ b1),.tup [.int (i:Nat),d],?_,?_⟩
     ·unfold zSD;rw [getElem?_map,List.getElem?_zipIdx,hd];simp
     ·exact nV (.of yB) (xH (wD _) (xH (dd.ext xn) wM))
    ·have hi:(zSD s1.ds).length<=i:=hi
     exact⟨us,c1,by omega⟩
   ·intro α1 S1 H1 α2 S2 H2 b1 x w hs
    exact D1.stays _ _ _ _ _ _ b1 x w hs
   ·exact D1.st _ _ _ p1
  ·exact q1.elim
 ·exact q1.elim
end
noncomputable instance:DecidableEq MV:=λ_ _=>Classical.propDecidable _
noncomputable def look(kvs:List (MV×MV))(k:MV):Option MV:=(kvs.find? λp=>decide (p.1=k)).map (·.2)
noncomputable def putK(kvs:List (MV×MV))(k d:MV):List (MV×MV):=if(look kvs k).isSome=true then kvs.map (λp=>if p.1=k then(p.1,d)else p)else kvs++[(k,d)]
def zON:MV->Bool
 |.tup _=>true
 |_=>false
theorem zGB(i:Int):jQ (.int i)=some (.key (.inl i)):=by unfold jQ;rfl
theorem zGC(x:List Nat):jQ (.str x)=some (.key (.inr (mkS x))):=by unfold jQ;rfl
theorem zGD(ds:List MV):jQ (.tup ds)=(bB ds).map .tup:=by
 conv=>lhs;unfold jQ
theorem zKT:bB []=some []:=by unfold bB;rfl
theorem zCG(d:MV)(ds:List MV):bB (d::ds)=(jQ d).bind λk=>(bB ds).map (k::·):=by
 conv=>lhs;unfold bB
mutual
theorem zSE: ∀{d e:MV}{k:NK},jQ d=some k->jQ e=some k->d=e
 |.int i,e,k,hd,he=>by
  rw [zGB]at hd;cases hd
  cases e with
  |int j=>rw [zGB]at he;cases he;rfl
  |str x=>rw [zGC]at he;cases he
  |tup ds=>rw [zGD]at he;cases z:bB ds<;>rw [z]at he<;>cases he
  |_=>unfold jQ at he;cases he
 |.str x,e,k,hd,he=>by
  rw [zGC]at hd;cases hd
  cases e with
  |int j=>rw [zGB]at he;cases he
  |str y=>
   rw [zGC]at he
   have he:=Option.some.inj he
   injection he with he
   injection he with he
   rw [zVU he]
  |tup ds=>rw [zGD]at he;cases z:bB ds<;>rw [z]at he<;>cases he
  |_=>unfold jQ at he;cases he
 |.tup ds,e,k,hd,he=>by
  rw [zGD]at hd
  cases z:bB ds with
  |none=>rw [z]at hd;cases hd
  |some ks=>
   rw [z]at hd;cases hd
   cases e with
   |int j=>rw [zGB]at he;cases he
   |str y=>rw [zGC]at he;cases he
   |tup es=>
    rw [zGD]at he
    cases z2:bB es with
    |none=>rw [z2]at he;cases he
    |some ks'=>rw [z2]at he;cases he;rw [zUU z z2]
   |_=>unfold jQ at he;cases he
 |.non,e,k,hd,he=>by unfold jQ at hd;cases hd
 |.bl _,e,k,hd,he=>by unfold jQ at hd;cases hd
 |.scr _,e,k,hd,he=>by unfold jQ at hd;cases hd
 |.loc _,e,k,hd,he=>by unfold jQ at hd;cases hd
 |.typ _,e,k,hd,he=>by unfold jQ at hd;cases hd
theorem zUU: ∀{ds es:List MV}{ks:List NK},bB ds=some ks->bB es=some ks->ds=es
 |[],es,ks,hd,he=>by
  rw [zKT]at hd;cases hd
  cases es with
  |nil=>rfl
  |cons e es=>
   rw [zCG]at he
   cases z:jQ e<;>rw [z]at he
   ·cases he
   ·cases z2:bB es<;>rw [z2]at he<;>cases he
 |d::ds,es,ks,hd,he=>by
  rw [zCG]at hd
  cases z:jQ d with
  |none=>rw [z]at hd;cases hd
  |some k=>
   rw [z]at hd
   cases z2:bB ds with
   |none=>rw [z2]at hd;cases hd
   |some ks2=>
    rw [z2]at hd
    cases es with
    |nil=>rw [zKT]at he;cases he;cases hd
    |cons e es=>
     rw [zCG]at he
     cases z3:jQ e with
     |none=>rw [z3]at he;cases he
     |some k'=>
      rw [z3]at he
      cases z4:bB es with
      |none=>rw [z4]at he;cases he
      |some ks4=>
       rw [z4]at he
       cases hd;cases he
       rw [zSE z z3,zUU z2 z4]
end
section
variable{X:Cx}{pins:List (Addr×Obj)}{σ:St}{H:Hp}{s:Shared}{α:List Addr}
mutual
theorem zWR(I:Inv X pins σ H s): ∀{d:MV}{k:NK}{x:V}{u:Value},jQ d=some k->Den X.K α H d x->RelV x u->isN (mk X.prog X.w) s.heap k u
 |.int i,k,x,u,hk,hd,r=>by
  rw [zGB]at hk;cases hk
  cases gV hd
  obtain⟨t,rfl⟩:=r
  exact jZ.mpr (by show zRG (.inl i) (.int i t)=true;simp [zRG,Value.isInt])
 |.str y,k,x,u,hk,hd,r=>by
  rw [zGC]at hk;cases hk
  cases bW hd
  obtain⟨t,rfl⟩:=r
  exact jZ.mpr (by show zRG (.inr (mkS y)) (.str (mkS y) t)=true;simp [zRG,Value.isStrOf])
 |.tup ds,k,x,u,hk,hd,r=>by
  rw [zGD]at hk
  cases z:bB ds with
  |none=>rw [z]at hk;cases hk
  |some ks=>
   rw [z]at hk;cases hk
   obtain⟨a,vs,rfl,sq,l⟩:=jW hd
   cases r
   obtain⟨its,rv,pt,_⟩:=I.tuple sq
   obtain⟨o,ho,hc,n,hdat⟩:=pt
   exact kN.mpr ⟨a,o,its.toArray,n,rfl,ho,hc,hdat,by simpa using yEF I z l rv⟩
 |.non,k,x,u,hk,hd,r=>by unfold jQ at hk;cases hk
 |.bl _,k,x,u,hk,hd,r=>by unfold jQ at hk;cases hk
 |.scr _,k,x,u,hk,hd,r=>by unfold jQ at hk;cases hk
 |.loc _,k,x,u,hk,hd,r=>by unfold jQ at hk;cases hk
 |.typ _,k,x,u,hk,hd,r=>by unfold jQ at hk;cases hk
theorem yEF(I:Inv X pins σ H s): ∀{ds:List MV}{ks:List NK}{xs:List V}{us:List Value},bB ds=some ks->DenL X.K α H ds xs->Vals xs us->zIS (mk X.prog X.w) s.heap ks us
 |[],ks,xs,us,hk,hd,r=>by
  rw [zKT]at hk;cases hk
  cases hd.isnil
  cases r
  exact jP.mpr rfl
 |d::ds,ks,xs,us,hk,hd,r=>by
  rw [zCG]at hk
  obtain⟨v,vs,rfl,a,l⟩:=hd.uncons
  cases r with
  |cons r1 r2=>
   cases z:jQ d with
   |none=>rw [z]at hk;cases hk
   |some k=>
    rw [z]at hk
    cases z2:bB ds with
    |none=>rw [z2]at hk;cases hk
    |some ks2=>
     rw [z2]at hk
     cases hk
     exact xL.mpr ⟨_,_,rfl,zWR I z a r1,yEF I z2 l r2⟩
end
def DD(X:Cx)(H:Hp)(d:Addr)(xs:List (NK×Addr×Value)):Prop:=H d=some (DN X.prog X.w d xs)\/(xs=[]/\H d=some (.dK []))
theorem dd_of{S:Sto}{kvs:List (MV×MV)}{d:Addr}(ob:ObD X.g α H d (.dic kvs))(hk:kvs.all (λp=>zON p.1)=true): ∃xs,DD X H d xs/\DenN X.K α H kvs xs:=by
 rcases ob with⟨ks,h,l⟩|⟨xs,h,l⟩
 ·cases l with
  |nil=>exact⟨[],.inr ⟨rfl,h⟩,.nil⟩
  |@cons k k' dd v fs gs hkd a l=>
   rw [all_cons,aE]at hk
   cases k with
   |tup ds=>exact absurd hkd (by unfold KeyD;exact λz=>z)
   |_=>exact absurd hk.1 xF0
 ·exact⟨xs,.inl h,l⟩
theorem yEG(I:Inv X pins σ H s): ∀{kvs:List (MV×MV)}{xs:List (NK×Addr×Value)},DenN X.K α H kvs xs-> ∀x∈xs,(zIV X.prog X.w).is s.heap x.1 x.2.1
 |_,_,.nil=>λx hx=>by simp at hx
 |_,_,.cons k e a d r l=>λx hx=>by
  rcases mC.mp hx with rfl|hx
  ·exact⟨zWR I k a rfl,e⟩
  ·exact yEG I l x hx
theorem yEH(I:Inv X pins σ H s){kvs:List (MV×MV)}{xs:List (NK×Addr×Value)}{d:Addr}(h:DD X H d xs)(l:DenN X.K α H kvs xs):s.heap.DictOfH (zIV X.prog X.w) d xs/\xs.length<=sizeLine/\(d==sysModules)=false:=by
 rcases h with h|⟨rfl,h⟩
 ·obtain⟨⟨hz,hs,o,es,ep,ho,hc,hd,he,hn⟩,_⟩:=(show ObjOk X.prog X.w H s.heap d (DN X.prog X.w d xs)from I.hok d _ h)
  exact⟨⟨o,es,ep,ho,hc,hd,he,yEG I l,hn⟩,hz,hs⟩
 ·obtain⟨_,hs,vs,kv,o,es,ep,ho,hc,hd,_,hp,_⟩:=(show ObjOk X.prog X.w H s.heap d (.dK [])from I.hok d _ h)
  cases kv
  have he:es.toList=[]:=by cases hes:es.toList with |nil=>rfl|cons a b=>rw [hes]at hp;cases hp
  exact⟨⟨o,es,ep,ho,hc,hd,by rw [he];rfl,λx hx=>by simp at hx,List.nodup_nil⟩,zero_le _,hs⟩
theorem zUV(p:MV×MV)(kvs:List (MV×MV))(k:MV):look (p::kvs) k=if p.1=k then some p.2 else look kvs k:=by
 unfold look
 rw [List.find?_cons]
 by_cases h:p.1=k
 ·rw [dT0 h,iP h];rfl
 ·rw [dF0 h,iN0 h]
theorem yBU(x:NK×Addr×Value)(xs:List (NK×Addr×Value))(k:NK):atKey (x::xs) k=if x.1=k then some x.2 else atKey xs k:=by
 unfold atKey
 rw [List.find?_cons]
 by_cases h:x.1=k
 ·rw [dT0 h,iP h];rfl
 ·rw [dF0 h,iN0 h]
theorem zWS: ∀{kvs:List (MV×MV)}{xs:List (NK×Addr×Value)}{k:MV}{nk:NK},DenN X.K α H kvs xs->jQ k=some nk->(atKey xs nk).isSome=(look kvs k).isSome
 |_,_,k,nk,.nil,hk=>rfl
 |_,_,k,nk,.cons (k:=k') (nk:=nk') hk' e a d r l,hk=>by
  rw [zUV,yBU]
  by_cases h:k'=k
  ·subst h
   have:nk'=nk:=by rw [hk]at hk';exact(Option.some.inj hk').symm
   rw [iP this,iP rfl];rfl
  ·have:nk'≠nk:=λz=>h (zSE hk' (by rw [hk,z]))
   rw [iN0 this,iN0 h]
   exact zWS l hk
theorem zWT: ∀{kvs:List (MV×MV)}{xs:List (NK×Addr×Value)}{k d:MV}{nk:NK}{v:V}{u:Value},DenN X.K α H kvs xs->jQ k=some nk->Den X.K α H d v->RelV v u->DenN X.K α H (kvs.map λp=>if p.1=k then(p.1,d)else p) (xs.map (putAt nk u))
 |_,_,k,d,nk,v,u,.nil,hk,hd,r=>.nil
 |_,_,k,d,nk,v,u,.cons (k:=k') (nk:=nk') hk' e a dd rr l,hk,hd,r=>by
  rw [map_cons,map_cons]
  unfold putAt
  by_cases h:k'=k
  ·have hn:nk'=nk:=by subst h;rw [hk]at hk';exact(Option.some.inj hk').symm
   rw [iP h,iP hn]
   exact .cons hk' e a hd r (zWT l hk hd r)
  ·have hn:nk'≠nk:=λz=>h (zSE hk' (by rw [hk,z]))
   rw [iN0 h,iN0 hn]
   exact .cons hk' e a dd rr (zWT l hk hd r)
theorem DenN.append: ∀{kvs kvs':List (MV×MV)}{xs xs':List (NK×Addr×Value)},DenN X.K α H kvs xs->DenN X.K α H kvs' xs'->DenN X.K α H (kvs++kvs') (xs++xs')
 |_,_,_,_,.nil,h=>h
 |_,_,_,_,.cons hk e a d r l,h=>.cons hk e a d r (DenN.append l h)
theorem yNZ{kvs:List (MV×MV)}{xs:List (NK×Addr×Value)}{k d:MV}{nk:NK}{a:Addr}{v:V}{u:Value}(l:DenN X.K α H kvs xs)(hk:jQ k=some nk)(e:zDQ nk<=4)(ha:Den X.K α H k (.ref a))(hd:Den X.K α H d v)(r:RelV v u):DenN X.K α H (putK kvs k d) (storedH xs nk a u):=by
 unfold putK
 have hl:=zWS l hk
 by_cases h:(look kvs k).isSome=true
 ·rw [iP h]
  rw [h]at hl
  obtain⟨p,hp⟩:=Option.isSome_iff_exists.mp hl
  rw [storedH_old hp]
  exact zWT l hk hd r
 ·rw [iN0 h]
  have hn:atKey xs nk=none:=by
   cases z:atKey xs nk with
   |none=>rfl
   |some p=>rw [z]at hl;exact absurd hl.symm h
  rw [storedH_new hn]
  exact l.append (.cons hk e ha hd r .nil)
end
section
variable{X:Cx}{W:XW}{a b o i:Expr}{f g:Rho->Sto->R Er}{pos:Pos}
theorem ySP{pins:List (Addr×Obj)}{σ:St}{H:Hp}{s:Shared}(I:Inv X pins σ H s):sysModules<s.heap.objs.size:=Nat.lt_trans (by decide) ((I.mod.glob.keeps I.bk).lt)
theorem Wd.put{gg:Gm}{α:List Addr}{S:Sto}{H:Hp}{p:Addr}{ho:HO}{m:MO}(w:Wd gg α S H)(hp:H p=none)(q:ObD gg (α++[p]) (upd H p ho) p m):Ext α H (α++[p]) (upd H p ho)/\Wd gg (α++[p]) (S++[m]) (upd H p ho):=by
 have x:=w.newx (o:=ho) hp
 have nw:=w.new (o:=ho) hp
 have np:=w.fresh hp
 refine⟨⟨⟨⟨[p],rfl⟩,x.tup,x.frz⟩,λb hb=>?_,x.keep,x.has⟩,⟨?_,?_,λl c ob h1 h2=>?_⟩⟩
 ·rcases mem_append.mp hb with h|h
  ·exact .inl h
  ·rw [mS.mp h];exact .inr hp
 ·rw [lA,lA,w.len];rfl
 ·exact nodup_append.mpr ⟨w.nd,by simp,λa ha c hc=>by rw [mS.mp hc];rintro rfl;exact np ha⟩
 ·by_cases hl:l<α.length
  ·rw [getElem?_append_left hl]at h1
   rw [getElem?_append_left (by rw [<-w.len];exact hl)]at h2
   exact(nw.obj l c ob h1 h2).move (Ex0.grow α [p] _) rfl
  ·have hl':l=α.length:=by
    have:=(gS0.mp h1).1
    rw [lA,lS]at this
    omega
   subst hl'
   rw [getElem?_append_right (le_refl _),sub_self]at h1
   rw [getElem?_append_right (by rw [w.len];exact le_refl _),w.len,sub_self]at h2
   cases h1;cases h2
   exact q
def yJW(S:Sto):R Er:=.ok (.val (.loc S.length)) (S++[.dic []])
theorem yJX:PEm X W (.Dict [] [] pos) (λ_ S=>yJW S):=by
 refine⟨λσ H Q=> ∀p,H p=none->Q (.ref p) (upd H p (.dK [])),λpins s σ H Q I h=>?_,λα ρ S σ H Q wd sl q p hp=>?_⟩
 ·exact wpAny_Dict_empty ⟨.ref s.heap.objs.size,_,I.laid (a:=s.heap.objs.size) (o:=.dK []) (t':=s.toks) (λ_ _ q=>hP00 _ q) (le_refl _)
   ⟨zero_le _,beq_eq_false_iff_ne.mpr (Ne.symm (ne_of_lt (ySP I))),[],.nil,Heap.DictOf.new s.heap⟩,rfl,h _ (I.hok.fresh (le_refl _))⟩
 ·obtain⟨x,w'⟩:=wd.put (ho:=.dK []) (m:=.dic []) hp (.inl ⟨[],yB,.nil⟩)
  exact q (.ref p) (α++[p]) _ x w' (DenE.val (zMX (by rw [<-wd.len,getElem?_append_right (le_refl _),sub_self];rfl)))
noncomputable def zUW(S:Sto):Er->Option (Nat×List (MV×MV))
 |.val (.loc l)=>match S[l]? with
  |some (.dic kvs)=>if kvs.all (λp=>zON p.1)=true then some (l,kvs)else none
  |_=>none
 |_=>none
noncomputable def keyOk(k:MV):Bool:=zON k&&(match jQ k with |some nk=>decide (zDQ nk<=4)|none=>false)
theorem zYX{k:MV}(h:keyOk k=true): ∃nk,jQ k=some nk/\zDQ nk<=4/\zON k=true:=by
 unfold keyOk at h
 rw [aE]at h
 cases z:jQ k with
 |none=>rw [z]at h;exact absurd h.2 xF0
 |some nk=>rw [z]at h;exact⟨nk,rfl,of_decide_eq_true h.2,h.1⟩
theorem yJY{α:List Addr}{S:Sto}{H:Hp}(wd:Wd X.g α S H){r:Er}{x:V}{l:Nat}{kvs:List (MV×MV)}(e:zUW S r=some (l,kvs))(d:DenX X.K α H r x):
  ∃c xs,x=.ref c/\α[l]? =some c/\S[l]? =some (.dic kvs)/\DD X H c xs/\DenN X.K α H kvs xs:=by
 unfold zUW at e
 split at e
 ·rename_i n
  obtain⟨c,rfl,h⟩:=zCB d
  split at e
  ·rename_i ks hS
   split at e
   ·rename_i hk
    obtain⟨rfl,rfl⟩:=Prod.mk.inj (Option.some.inj e)
    obtain⟨xs,dd,l⟩:=dd_of (S:=S) (wd.obj _ c _ h hS) hk
    exact⟨c,xs,rfl,h,hS,dd,l⟩
   ·cases e
  ·cases e
 ·cases e
abbrev rInD(X:Cx)(neg:Bool):R2:=λx y H Q=> ∃(α:List Addr)(kvs:List (MV×MV))(xs:List (NK×Addr×Value))(a d:Addr)(k:MV)(nk:NK),x=.ref a/\y=.ref d/\DD X H d xs/\DenN X.K α H kvs xs/\jQ k=some nk/\zDQ nk<=4/\Den X.K α H k (.ref a)/\
 Q (.bl (if neg=true then !(look kvs k).isSome else(look kvs k).isSome)) H
theorem zTQ{prog:Program}{w:World}{KK:Type}[DecidableEq KK]{knd:HeapKind prog w KK}{A:Around}{E:Value->Shared->Prop}{s:Shared}{d a:Addr}{k:KK}{xs:List (KK×Addr×Value)}{Q:Bool->Shared->Prop}(hu:knd.room A.in1)(hkey:knd.is s.heap k a)(hd:(d==sysModules)=false)
  (hm:s.heap.DictOfH knd d xs) (h:Q (atKey xs k).isSome {s with toks:=s.toks+knd.draws k}):wpAny (model prog w) A (contains (.ref d) (.ref a)) Q E s:=by
 unfold contains
 try with_reducible refine wpAny_holding ?_
 refine wB0 (wpAny_specialOf hm.typeIs slot_dict_contains.lookup ?_)
 show wpAny _ _ (if(some (Value.builtin "dict.__contains__")==some Value.none)=true then _ else _) _ E s
 rw [iN0 (by rw [beq_builtin_none];exact xF0)]
 refine wB0 (wpAny_callSpecialUnlessNone?_slot (name:=Str.ofString "__contains__") hm.typeIs slot_dict_contains (wpAny_call_entry slot_dict_contains hm.typeIs entry_dict_contains ?_ (args_dict_contains _ _)))
 show wpAny _ _ (dictGet d (.ref a) >>= _) _ _ s
 refine wB0 (wpAny_dictGet_heap hu hkey hm ?_)
 cases hf:atKey xs k with
 |some p=>
  rw [hf]at h
  show wpAny _ _ (ret (.bool true)) _ _ _
  exact wP0 ⟨_,rfl,wpAny_truthy_bool h⟩
 |none=>
  rw [hf]at h
  show wpAny _ _ (Builtin.Dict.pendingKey? d (.ref a) >>= _) _ _ _
  exact wB0 (wpAny_pendingKey_other hd (wP0 ⟨_,rfl,wpAny_truthy_bool h⟩))
theorem ySQ(hu:X.A.units+64<cLine):OpR X (compareOp .In) (rInD X false):=by
 intro pins s σ H x y v u Q I rx ry h
 obtain⟨α,kvs,xs,a,d,k,nk,rfl,rfl,dd,l,hk,e,ha,q⟩:=h
 cases rx;cases ry
 obtain⟨hm,_,hs⟩:=yEH I dd l
 show wpAny _ _ (do return Value.bool (<-contains (.ref d) (.ref a))) _ _ s
 refine wB0 (zTQ (knd:=zIV X.prog X.w) (show X.A.units+1+4<cLine by omega) ⟨zWR I hk ha rfl,e⟩ hs hm (wP0 ⟨.bl (look kvs k).isSome,H,I.kept (t':=_) (λ_ _ z=>z),?_,q⟩))
 rw [zWS l hk];rfl
noncomputable def yGV(neg:Bool)(p q:Er)(S:Sto):R Er:=match p with
 |.val k=>match zUW S q with
  |some (_,kvs)=>if keyOk k=true then .ok (.val (.bl (if neg=true then !(look kvs k).isSome else(look kvs k).isSome))) S else .no
  |none=>.no
 |_=>.no
theorem yEI{α:List Addr}{H:Hp}{k:MV}{x:V}(h:zON k=true)(d:Den X.K α H k x): ∃a,x=.ref a:=by
 cases k with
 |tup ds=>obtain⟨a,_,rfl,_⟩:=jW d;exact⟨a,rfl⟩
 |_=>exact absurd h xF0
theorem yOA{neg:Bool}:Op2 X W (rInD X neg) (yGV neg):=by
 intro p q x y α S H Q wd dp dq post
 unfold yGV at post
 split at post
 ·rename_i k
  split at post
  ·rename_i l kvs e
   split at post
   ·rename_i hk
    obtain⟨nk,h1,h2,h3⟩:=zYX hk
    obtain⟨c,xs,rfl,_,_,dd,dl⟩:=yJY wd e dq
    obtain⟨a',rfl⟩:=yEI (X:=X) (α:=α) (H:=H) h3 dp
    exact⟨α,kvs,xs,a',c,k,nk,rfl,rfl,dd,dl,h1,h2,dp,Post.val post wd (wL _)⟩
   ·exact post.elim
  ·exact post.elim
 ·exact post.elim
theorem ySR(hu:X.A.units+64<cLine)(ha:PEm X W a f)(hb:PEm X W b g)(hm:behindInMarks .In b=false:=by with_unfolding_all rfl):PTm X W (.Compare a [.In] [b] pos) (λρ S=>((f ρ S).bind λp S1=>(g ρ S1).bind λq S2=>yGV false p q S2).bind asB):=zLS (ySQ hu) yOA ha hb hm
def rSetD(X:Cx):TSet:=λo i v H Q=> ∃(α:List Addr)(kvs:List (MV×MV))(xs:List (NK×Addr×Value))(a d:Addr)(k:MV)(nk:NK),o=.ref d/\i=.ref a/\DD X H d xs/\DenN X.K α H kvs xs/\jQ k=some nk/\zDQ nk<=4/\Den X.K α H k (.ref a)/\xs.length<sizeLine/\
 ∀u,RelV v u->Q (upd H d (DN X.prog X.w d (storedH xs nk a u)))
theorem yBV{xs:List (NK×Addr×Value)}{k:NK}{a:Addr}{u:Value}:(storedH xs k a u).length<=xs.length+1:=by
 cases h:atKey xs k with
 |none=>rw [storedH_new h,lA];exact le_refl _
 |some p=>rw [storedH_old h,lM0];exact le_succ _
theorem yGW(hu:X.A.units+64<cLine):PSet X (rSetD X):=by
 intro pins s σ H o i v ov iv u Q I ro ri rv h
 obtain⟨α,kvs,xs,a,d,k,nk,rfl,rfl,dd,l,hk,e,ha,hz,q⟩:=h
 cases ro;cases ri
 obtain⟨hm,hz',hs⟩:=yEH I dd l
 refine wpAny_setItem_heap (knd:=zIV X.prog X.w) (show X.A.units+1+4<cLine by omega) ⟨zWR I hk ha rfl,e⟩ hm (λh' hm' hs'=>⟨_,?_,q u rv⟩) hz'
 have mu:Mut (H d):=by
  rcases dd with z|⟨_,z⟩<;>rw [z]<;>exact trivial
 obtain⟨ob,es,ep,ho,hc,hd,he,_,hn⟩:=hm'
 refine I.write (t':=_) (x:=d) (e:=d) mu (.inl rfl) (λb uo hb eo=>(hs'.2 b hb).trans eo) ⟨ob,ho⟩ ?_
 refine⟨⟨by have:=yBV (xs:=xs) (k:=nk) (a:=a) (u:=u);omega,hs,ob,es,ep,ho,hc,hd,he,hn⟩,⟨ob,ho⟩,?_⟩
 rintro h1 h2 ⟨z1,z2,o',es',ep',ho',r⟩ mv
 exact⟨z1,z2,o',es',ep',mv o' ho',r⟩
noncomputable def zYY(p q:Er)(d:MV)(ρ:Rho)(S:Sto):R Rho:=match q with
 |.val k=>match zUW S p with
  |some (l,kvs)=>if keyOk k=true/\kvs.length<1000000 then .ok ρ (S.set l (.dic (putK kvs k d)))else .no
  |none=>.no
 |_=>.no
theorem DenN.length{α:List Addr}{H:Hp}: ∀{kvs xs},DenN X.K α H kvs xs->xs.length=kvs.length
 |_,_,.nil=>rfl
 |_,_,.cons _ _ _ _ _ l=>by rw [lC0,lC0,DenN.length l]
theorem yOB(hu:X.A.units+64<cLine)(ho:PEm X W o f)(hi:PEm X W i g)
  (ha: ∀v,assign (.Subscript o i pos) X.env v=(do
   let ov <-holding [v] (eval o X.env)
   let iv <-holding [v,ov] (eval i X.env)
   standAt pos
   holding [v,ov,iv] (setItem ov iv v)
   release [v,ov,iv] []):=by intro _;rfl):PGm X W (.Subscript o i pos) (λd ρ S=>(f ρ S).bind λp S1=>(g ρ S1).bind λq S2=>zYY p q d ρ S2):=by
 obtain⟨to,ho,fo⟩:=ho
 obtain⟨ti,hi,fi⟩:=hi
 refine⟨_,yHY ho hi (yGW hu) ha,λα ρ S σ H d v Q wd sl de q=>fo α ρ S σ H _ wd sl (q.bind λu p S1 α1 H1 e1 x1 w1 d1 q1=>fi α1 ρ S1 σ H1 _ w1 (sl.ext x1) ((q1.shift x1).bind λu2 p2 S2 α2 H2 e2 x2 w2 d2 q2=>?_))⟩
 replace q2:=q2.shift x2
 have d1':=DenX.ext x2 d1.1
 have de2:=(de.ext x1).ext x2
 unfold zYY at q2
 split at q2
 ·rename_i k
  split at q2
  ·rename_i l kvs e
   split at q2
   ·rename_i hk
    obtain⟨nk,h1,h2,h3⟩:=zYX hk.1
    obtain⟨c,xs,rfl,hc,hS,dd,dl⟩:=yJY w2 e d1'
    obtain⟨a',rfl⟩:=yEI (X:=X) (α:=α2) (H:=H2) h3 d2.1
    refine⟨α2,kvs,xs,a',c,k,nk,rfl,rfl,dd,dl,h1,h2,d2.1,?_,λu ru=>?_⟩
    ·rw [dl.length]
     exact lt_of_lt_of_le hk.2 (fits (le_refl _))
    ·have xw:=w2.writex hc (o:=DN X.prog X.w c (storedH xs nk a' u))
     have sl2:=((sl.ext x1).ext x2).ext xw
     exact q2 σ α2 _ xw (w2.write hc (.inr ⟨_,yB,(yNZ dl h1 h2 d2.1 de2 ru).ex0 xw.toEx0⟩)) sl2
   ·exact q2.elim
  ·exact q2.elim
 ·exact q2.elim
end
def yEJ:MV->V
 |.non=>.non
 |.bl b=>.bl b
 |.int i=>.int i
 |.str x=>.str (mkS x)
 |.typ n=>.ty n
 |_=>.non
def zWU:MV->Bool
 |.non=>true
 |.bl _=>true
 |.int _=>true
 |.str _=>true
 |_=>false
theorem yJZ{K:PySem.W.Frag}{α:List Addr}{H:Hp}{d:MV}(h:zWU d=true):Den K α H d (yEJ d):=by
 cases d with
 |non=>exact zBN
 |bl b=>exact wL b
 |int i=>exact wD i
 |str x=>exact zBO x
 |_=>exact absurd h xF0
theorem zUX{K:PySem.W.Frag}{α:List Addr}{H:Hp}: ∀{ds:List MV},ds.all zWU=true->DenL K α H ds (ds.map yEJ)
 |[],_=>wM
 |d::ds,h=>by
  rw [all_cons,aE]at h
  exact xH (yJZ h.1) (zUX h.2)
structure GTup(K:PySem.W.Frag)(mg:Str->Option Value)(x:Str)(ds:List MV):Prop where
 ex: ∃(a:Addr)(o:Obj)(its:Array Value)(n:Nat),mg x=some (.ref a)/\K.lookup a=some o/\o.cls=.type "tuple"/\o.data=.seq its n/\its.size<=sizeLine/\Vals (ds.map yEJ) its.toList
 fl:ds.all zWU=true
theorem yOC{X:Cx}{W:XW}{x:Str}{ds:List MV}{pos:Pos}(hg:Gl X x)(G:GTup X.K X.mg x ds)(hd:(x==("__debug__":Str))=false:=by decide):PEm X W (.Name x pos) (λ_ S=>.ok (.val (.tup ds)) S):=by
 obtain⟨⟨a,o,its,n,hm,lk,hc,hdt,hz,hv⟩,hf⟩:=G
 exact⟨_,zVK (v:=.ref a) hg hm rfl hd,λα ρ S σ H Q wd sl q=>Post.val q wd (nV (.inr ⟨o,its,n,lk,hc,hdt,hz,hv⟩) (zUX hf))⟩
theorem fn_no{P:Program}{w:World}{K:PySem.W.Frag}{mg:Str->Option Value}{base:Heap}{k m:Nat}{f:Addr}{fd:FuncData}{ps:List Str}{g:Gm}:FnOk P w K mg base CX0 k f fd ps (spM g m λ_ _=>.no):=
 ⟨λvs H Q E ⟨_,_,_,_,_,_,q⟩=>q.elim,λ_ _ _ _ _ _ _ _ _ _ _ _ _ ⟨_,_,_,_,_,_,q⟩=>q.elim⟩
def FsD(g:Gm)(α:List Addr)(H:Hp)(d:Option Addr)(fs:List (Str×MV)):Prop:=fs=[]\/ ∃dx gs od,d=some dx/\H dx=some (.frz od (.xd gs))/\DenF g.K α H fs gs
abbrev WE(g:Gm)(E:XK):XW:=λc fs _ α H=> ∀C d,g.mg c=some (.ref C)->FsD g α H d fs->E (.ref C) d H
def zLW:MV->Bool
 |.non=>true
 |.bl _=>true
 |.int _=>true
 |.str _=>true
 |_=>false
theorem yGX{K:PySem.W.Frag}{α α':List Addr}{H:Hp}: ∀{d:MV}{v:V},zLW d=true->Den K α H d v->Den K α' H d v
 |.non,_,_,q=>by cases zBZ q;exact zBN
 |.bl _,_,_,q=>by cases zFV q;exact wL _
 |.int _,_,_,q=>by cases gV q;exact wD _
 |.str _,_,_,q=>by cases bW q;exact zBO _
theorem zSF{K:PySem.W.Frag}{α α':List Addr}{H:Hp}: ∀{fs gs},fs.all (λp=>zLW p.2)=true->DenF K α H fs gs->DenF K α' H fs gs
 |_,_,_,.nil=>.nil
 |_,_,h,.cons a l=>by
  rw [all_cons,aE]at h
  exact .cons (yGX h.1 a) (zSF h.2 l)
theorem Post.wmono{β τ:Type}[Dn β τ]{g:Gm}{W W':XW}{α:List Addr}{H:Hp}(f: ∀c fs S α' H',W c fs S α' H'->W' c fs S α' H'): ∀{m:R β}{Q:τ->Hp->Prop},Post g W α H m Q->Post g W' α H m Q
 |.ok b S,Q,q=>q
 |.exc c fs S,_,q=>λα' H' x w=>f _ _ _ _ _ (q α' H' x w)
 |.no,_,q=>q
def XCl(K:PySem.W.Frag)(C:Addr)(bm:List Value)(init:Option Value):Prop:=
 ∃nm q N bs hd sn sub ab col dd k0 k1 k2 k3 k5,K.lookup C=some (excClassObj nm q C N bs bm hd sn sub ab col dd k0 k1 k2 k3 k5 "ValueError.__new__")/\PySem.W.nsOkIn K N=true/\PySem.W.nsIn K N "__init__"=some init/\(∀n∈qn,PySem.W.nsIn K N n=some none)/\hd=true
def XEach(K:PySem.W.Frag)(mg:Str->Option Value)(M:Addr):List (Str×Addr)->Prop
 |[]=>True
 |(c,C)::r=>(mg c=some (.ref C)/\ ∃i,XCl K C (.ref M::bmV) i)/\XEach K mg M r
structure XTab(K:PySem.W.Frag)(mg:Str->Option Value)(M:Addr)(cs:List (Str×Addr)):Prop where
 m:mg "MendError"=some (.ref M)
 mc:XCl K M bmV none
 each:XEach K mg M cs
 nd:(M::cs.map (·.2)).Nodup
theorem XEach.at{K:PySem.W.Frag}{mg:Str->Option Value}{M:Addr}: ∀{cs:List (Str×Addr)},XEach K mg M cs-> ∀{c C},(c,C)∈cs->mg c=some (.ref C)/\ ∃i,XCl K C (.ref M::bmV) i
 |(c,C)::r,h,c',C',z=>by
  rcases mC.mp z with z|z
  ·cases z;exact h.1
  ·exact XEach.at h.2 z
theorem zNK{K:PySem.W.Frag}{h:Heap}{C M:Addr}{i:Option Value}(X:K.In h)(c:XCl K C (.ref M::bmV) i)(m:XCl K M bmV none):zFT h C M:=by
 obtain⟨_,_,N,_,_,_,_,_,_,_,_,_,_,_,_,l,o,_,q⟩:=c
 obtain⟨_,_,N',_,_,_,_,_,_,_,_,_,_,_,_,l',o',_,q'⟩:=m
 exact⟨_,_,_,_,_,_,_,_,_,_,_,_,_,_,_,_,_,X _ _ l,.of_isNs (PySem.W.isNs_of_in X o),λn hn=>PySem.W.nsMap_none_of_in X o (q.1 n hn),
  _,_,_,_,_,_,_,_,_,_,_,_,_,_,_,_,_,X _ _ l',.of_isNs (PySem.W.isNs_of_in X o'),λn hn=>PySem.W.nsMap_none_of_in X o' (q'.1 n hn)⟩
section
variable{X:Cx}{E:XK}{e:Expr}{es:List Expr}{af:Rho->Sto->R (List Er)}{pos np cpos:Pos}{x:Str}{C M:Addr}
theorem yGY(hx:XOk X E)(hg:Gl X x)(hm:X.mg x=some (.ref C))(hc:XCl X.K C (.ref M::bmV) none)(hM:XCl X.K M bmV none)(ha:PAm X (WE X.g E) (e::es) af)(hex:X.ex=[]:=by rfl)(hcalm:X.calm=true:=by rfl)
  (hd:(x==("__debug__":Str))=false:=by decide) (he:starEach (e::es) X.env=(false,eval e X.env)::starEach es X.env:=by rfl) (hpl:(backTo cpos (starEach es X.env)).any (·.1)=false:=by rfl):
  PSm X (WE X.g E) (.Raise (some (.Call (.Name x np) (e::es) [] cpos)) none pos) (λρ S=>(af ρ S).bind λrs S1=>if rs.length<=10 then .exc x [] S1 else .no):=by
 obtain⟨ta,ha,fa⟩:=ha
 refine⟨λD σ H=>ta σ H λvs H1=>vs.length<=10/\E (.ref C) none H1,λpins s σ H D I h=>?_,λα ρ S σ H D wd sl q=>fa α ρ S σ H _ wd sl (q.expr λvs rs S1 α1 H1 e1 x1 w1 d1 q1=>?_)⟩
 ·obtain⟨nm,q,N,bs,hdt,sn,sub,ab,col,dd,k0,k1,k2,k3,k5,lC,oN,iN,_⟩:=hc
  obtain⟨_,_,N',_,_,_,_,_,_,_,_,_,_,_,_,lM,oM,iM,_⟩:=hM
  have XB:=I.mod.kin
  have hN:=Heap.Ns.of_isNs (PySem.W.isNs_of_in XB oN)
  have hni:=PySem.W.nsMap_none_of_in XB oN iN
  have T:OwnTail X.base bmV (.ref M::bmV):=.own (XB _ _ lM) (.of_isNs (PySem.W.isNs_of_in XB oM)) (PySem.W.nsMap_none_of_in XB oM iM) .base
  refine wpAny_Raise_call_subT (C:=C) (nm:=nm) (q:=q) (N:=N) (bs:=bs) (bm:=.ref M::bmV) (hdct:=hdt) (sn:=sn) (sub:=sub) (ab:=ab) (col:=col) (dd:=dd) (k0:=k0) (k1:=k1) (k2:=k2) (k3:=k3) (k5:=k5)
   F.excBase_ValueError (T.hasType F.excBase_ValueError.hasBase) (I.ok.hd hcalm) (by rw [he];exact hpl) hni (zDR I hg hm ⟨rfl,?_⟩ hd)
  have hr:=ha cpos pins s σ H _ I h
  rw [he]at hr ⊢
  refine Calls.evalArgs_plain (thn hr λus s1 ⟨vs,H1,I1,r1,hl,hE⟩=>⟨rfl,by rw [<-r1.length];exact le_trans hl (by decide),I1.bk _ _ (XB _ _ lC),hN.keeps I1.bk,T.keeps I1.bk,λh' a mk=>?_⟩)
  obtain⟨t,ht,_,_⟩:=mk.there
  exact hx.born pins σ H1 _ a C none (I1.kept (t':=s1.toks) mk.keeps) ⟨_,_,ht,rfl,rfl,rfl,rfl⟩ (I1.older hex mk.new) (I1.hok.none_of mk.new) hE
 ·split at q1
  ·rename_i hl
   exact⟨by rw [ArgsE.length d1];exact hl,q1 α1 H1 x1 w1 C none hm (.inl rfl)⟩
  ·exact q1.elim
end
section
variable{X:Cx}{W:XW}{a:Expr}{f:Rho->Sto->R Er}{pos p p2:Pos}{M:Addr}{cs:List (Str×Addr)}{c2:Str}{D:Addr}
def zIO(ns:List Str)(c2:Str):Er->Sto->R Er
 |.val (.loc l),S=>match S[l]? with
  |some (.ins c _)=>if c∈ns then .ok (.val (.bl (decide (c=c2)))) S else .no
  |_=>.no
 |_,_=>.no
def yKA(ns:List Str):Er->Sto->R Er
 |.val (.loc l),S=>match S[l]? with
  |some (.ins c _)=>if c∈ns then .ok (.val (.bl true)) S else .no
  |_=>.no
 |_,_=>.no
def IsX(X:Cx)(M:Addr)(H:Hp)(x:V)(C:Addr):Prop:= ∃aa oe,x=.ref aa/\H aa=some (.ext λh=>h.get? aa=some oe)/\oe.cls=.ref C/\(∃i,XCl X.K C (.ref M::bmV) i)/\XCl X.K M bmV none
theorem yKB:CallR X (.builtin "isinstance") (λxs H Q=> ∃x C D,xs=[x,.ref D]/\IsX X M H x C/\(C=D\/(C≠D/\M≠D/\ ∃bm i,XCl X.K D bm i))/\Q (.bl (decide (C=D))) H):=by
 intro pins s σ H xs us Q I r h
 obtain⟨_,C,D,rfl,⟨aa,oe,rfl,hH,hc,⟨i,cC⟩,cM⟩,hD,q⟩:=h
 obtain⟨u1,us,r1,⟨u2,_,r2,r3,rfl⟩,rfl⟩: ∃u1 us',RelV (.ref aa) u1/\(∃u2 us'',RelV (.ref D) u2/\Vals [] us''/\us'=u2::us'')/\us=u1::us':=by
  cases r with
  |cons r1 r=>cases r with
   |cons r2 r=>exact⟨_,_,r1,⟨_,_,r2,r,rfl⟩,rfl⟩
 cases r1;cases r2;cases r3
 have ha:s.heap.get? aa=some oe:=(I.hok aa _ hH).1
 have O:=zNK I.kIn cC cM
 obtain⟨hp,g,d,tk,os⟩:=s
 rcases hD with rfl|⟨n1,n2,bm,i2,cD⟩
 ·refine PyProof.Rows.call_isinstance_of (yGH ha hc ⟨.bl true,H,I,rfl,?_⟩)
  simpa using q
 ·obtain⟨_,_,_,_,_,_,_,_,_,_,_,_,_,_,_,lD,_⟩:=cD
  obtain⟨oC,hC,hCc,hCd⟩:=yIQ O
  refine PyProof.Rows.call_isinstance_of (yMT O ha hc (I.kIn _ _ lD) hC hCc hCd ?_ ⟨.bl false,H,I.tok _,rfl,?_⟩)
  ·simp only [contains_cons,List.contains_nil,Bool.or_eq_false_iff,beq_eq_false_iff_ne]
   exact⟨λz=>n1 (by cases z;rfl),λz=>n2 (by cases z;rfl),by simp,by simp,by simp,by simp,trivial⟩
  ·simpa [n1]using q
theorem yKC:CallR X (.builtin "isinstance") (λxs H Q=> ∃x C,xs=[x,.ty "ValueError"]/\IsX X M H x C/\Q (.bl true) H):=by
 intro pins s σ H xs us Q I r h
 obtain⟨_,C,rfl,⟨aa,oe,rfl,hH,hc,⟨i,cC⟩,cM⟩,q⟩:=h
 obtain⟨u1,us,r1,⟨u2,_,r2,r3,rfl⟩,rfl⟩: ∃u1 us',RelV (.ref aa) u1/\(∃u2 us'',RelV (.ty "ValueError") u2/\Vals [] us''/\us'=u2::us'')/\us=u1::us':=by
  cases r with
  |cons r1 r=>cases r with
   |cons r2 r=>exact⟨_,_,r1,⟨_,_,r2,r,rfl⟩,rfl⟩
 cases r1;cases r2;cases r3
 have ha:s.heap.get? aa=some oe:=(I.hok aa _ hH).1
 have O:=zNK I.kIn cC cM
 obtain⟨hp,g,d,tk,os⟩:=s
 exact PyProof.Rows.call_isinstance_of (yMU O ha hc (by kernel_rfl) (by simp [contains_cons]) ⟨.bl true,H,I,rfl,q⟩)
theorem yEK{α:List Addr}{S:Sto}{H:Hp}{r:Er}{x:V}(T:XTab X.K X.mg M cs)(wd:Wd X.g α S H)(d:DenX X.K α H r x){l:Nat}{c:Str}{fs:List (Str×MV)}(e:r=.val (.loc l))(hl:S[l]? =some (.ins c fs))(hc:c∈cs.map (·.1)):
  ∃C,(c,C)∈cs/\IsX X M H x C:=by
 subst e
 obtain⟨aa,rfl,h⟩:=zCB d
 obtain⟨o,h1,C,gs,hm,hf,oe,hH,hcl,_⟩: ∃o,S[l]? =some o/\ObD X.g α H aa (.ins c fs):=⟨_,hl,wd.obj l aa _ h hl⟩
 obtain⟨⟨c',C'⟩,hm',rfl⟩:=mM0.mp hc
 obtain⟨q1,q2⟩:=T.each.at hm'
 have:C=C':=by
  have z:X.mg c'=some (.ref C):=hm
  rw [q1]at z;cases z;rfl
 subst this
 exact⟨C,hm',aa,oe,rfl,hH,hcl,q2,T.mc⟩
theorem XTab.inj{K:PySem.W.Frag}{mg:Str->Option Value}(T:XTab K mg M cs){c c':Str}{C C':Addr}(h:(c,C)∈cs)(h':(c',C')∈cs)(hn:(cs.map (·.1)).Nodup):(C=C'↔c=c'):=by
 constructor
 ·rintro rfl
  have nd:=(nodup_cons.mp T.nd).2
  have: ∀(l:List (Str×Addr)),(l.map (·.2)).Nodup->(c,C)∈l->(c',C)∈l->c=c':=by
   intro l
   induction l with
   |nil=>intro _ z;simp at z
   |cons y r ih=>
    intro nd a b
    rw [map_cons,nodup_cons]at nd
    rcases mC.mp a with a1|a1<;>rcases mC.mp b with b1|b1
    ·rw [<-b1]at a1;cases a1;rfl
    ·exact absurd (show y.2∈r.map (·.2)from by rw [<-a1];exact mM0.mpr ⟨(c',C),b1,rfl⟩) nd.1
    ·exact absurd (show y.2∈r.map (·.2)from by rw [<-b1];exact mM0.mpr ⟨(c,C),a1,rfl⟩) nd.1
    ·exact ih nd.2 a1 b1
  exact this cs nd h h'
 ·rintro rfl
  have a:=(T.each.at h).1
  rw [(T.each.at h').1]at a;cases a;rfl
theorem wF{ns:List Str}(T:XTab X.K X.mg M cs)(hn:(cs.map (·.1)).Nodup)(hD:(c2,D)∈cs)(hz:X.mg "isinstance"=none)(hg:Gl X "isinstance")(hg2:Gl X c2)(ha:PEm X W a f)(hns:cs.map (·.1)=ns:=by rfl)(hd:(c2==("__debug__":Str))=false:=by decide)
  (he:starEach [a,.Name c2 p2] X.env=(false,eval a X.env)::starEach [.Name c2 p2] X.env:=by rfl) (hp2:(backTo pos (starEach [.Name c2 p2] X.env)).any (·.1)=false:=by rfl):
  PEm X W (.Call (.Name "isinstance" p) [a,.Name c2 p2] [] pos) (λρ S=>(f ρ S).bind (zIO ns c2)):=by
 subst hns
 obtain⟨ta,ha,fa⟩:=ha
 have mD:=(T.each.at hD).1
 refine⟨_,zRN (yKB (M:=M)) hg hz PyProof.Rows.boot_isinstance (zDS ha (zDS (zVK (v:=.ref D) hg2 mD rfl hd) zRL) he) (by decide) (by decide) he hp2,λα ρ S σ H Q wd sl q=>fa α ρ S σ H _ wd sl (q.bind λu r S1 α1 H1 e1 x1 w1 d1 q1=>?_)⟩
 replace q1:=q1.shift x1
 unfold zIO at q1
 split at q1
 ·rename_i l
  split at q1
  ·rename_i c fs hl
   split at q1
   ·rename_i hc
    obtain⟨C,hC,ix⟩:=yEK T w1 d1.1 rfl hl hc
    refine⟨u,C,D,rfl,ix,?_,?_⟩
    ·by_cases z:C=D
     ·exact .inl z
     ·exact .inr ⟨z,λy=>(nodup_cons.mp T.nd).1 (by rw [y];exact mM0.mpr ⟨_,hD,rfl⟩),_,(T.each.at hD).2⟩
    ·have e2:decide (C=D)=decide (c=c2):=decide_eq_decide.mpr (T.inj hC hD hn)
     rw [e2]
     exact Post.val q1 w1 (wL _)
   ·exact q1.elim
  ·exact q1.elim
 ·exact q1.elim
theorem ySS{ns:List Str}(T:XTab X.K X.mg M cs)(hz:X.mg "isinstance"=none)(hz2:X.mg "ValueError"=none)(hg:Gl X "isinstance")(hg2:Gl X "ValueError")(ha:PEm X W a f)(hns:cs.map (·.1)=ns:=by rfl)
  (he:starEach [a,.Name "ValueError" p2] X.env=(false,eval a X.env)::starEach [.Name "ValueError" p2] X.env:=by rfl) (hp2:(backTo pos (starEach [.Name "ValueError" p2] X.env)).any (·.1)=false:=by rfl):
  PEm X W (.Call (.Name "isinstance" p) [a,.Name "ValueError" p2] [] pos) (λρ S=>(f ρ S).bind (yKA ns)):=by
 subst hns
 obtain⟨ta,ha,fa⟩:=ha
 refine⟨_,zRN (yKC (M:=M)) hg hz PyProof.Rows.boot_isinstance (zDS ha (zDS (yDF (v:=.ty "ValueError") hg2 hz2 (by decide+kernel) rfl (by decide) (by decide)) zRL) he) (by decide) (by decide) he hp2,λα ρ S σ H Q wd sl q=>fa α ρ S σ H _ wd sl (q.bind λu r S1 α1 H1 e1 x1 w1 d1 q1=>?_)⟩
 replace q1:=q1.shift x1
 unfold yKA at q1
 split at q1
 ·rename_i l
  split at q1
  ·rename_i c fs hl
   split at q1
   ·rename_i hc
    obtain⟨C,hC,ix⟩:=yEK T w1 d1.1 rfl hl hc
    exact⟨u,C,rfl,ix,Post.val q1 w1 (wL _)⟩
   ·exact q1.elim
  ·exact q1.elim
 ·exact q1.elim
end
def spX(g:Gm)(n:Nat)(F:List MV->Sto->R Er):Sp:=λvs H Q E=> ∃α S ds,Wd g α S H/\DenL g.K α H ds vs/\ds.length=n/\Post g (WE g E) α H (F ds S) Q
noncomputable def kW(n:Nat)(F:List MV->Sto->R Er)(rs:List Er)(S:Sto):R Er:=if rs.length=n then(match F (zR rs S).1 (zR rs S).2 with
 |.ok r S2=>cP S r S2
 |.exc c fs S2=>if fs.all (λp=>zLW p.2)=true then(cP S (.val .non) S2).bind λ_ S3=>.exc c fs S3 else .no
 |.no=>.no)else .no
section
variable{X:Cx}{E:XK}{e:Expr}{es:List Expr}{af:Rho->Sto->R (List Er)}{pos:Pos}
theorem zSG{n:Nat}{F:List MV->Sto->R Er}{rs:List Er}{vs:List V}{α α1:List Addr}{H H1:Hp}{S1:Sto}{Q:VK}(x1:Ext α H α1 H1)(w1:Wd X.g α1 S1 H1)(d1:ArgsE X.K H α1 H1 rs vs)(q:Post X.g (WE X.g E) α H (kW n F rs S1) Q):
  spX X.g n F vs H1 Q E:=by
 unfold kW at q
 split at q
 ·rename_i hl
  obtain⟨α2,x2,y2,w2,l2⟩:=zFY w1 x1 d1
  refine⟨α2,_,_,w2,l2,by rw [zKQ];exact hl,?_⟩
  cases z:F (zR rs S1).1 (zR rs S1).2 with
  |ok r S3=>
   rw [z]at q
   intro v α3 H3 x3 w3 d3
   obtain⟨r',S',α',e',x',w',d'⟩:=zWB x1 w1 y2.pre x2 x3 w3 d3
   have q:Post X.g (WE X.g E) α H (cP S1 r S3) Q:=q
   rw [e']at q
   exact q v α' H3 x' w' d'
  |exc c fs S3=>
   rw [z]at q
   dsimp only at q
   split at q
   ·rename_i hp
    intro α3 H3 x3 w3 C d hC hf
    obtain⟨r',S',α',e',x',w',d'⟩:=zWB (r:=.val .non) (v:=.non) x1 w1 y2.pre x2 x3 w3 (DenE.val zBN)
    rw [e']at q
    exact q α' H3 x' w' C d hC (hf.imp id λ⟨dx,gs,od,h1,h2,h3⟩=>⟨dx,gs,od,h1,h2,zSF hp h3⟩)
   ·exact q.elim
  |no=>rw [z]at q;exact q.elim
 ·exact q.elim
theorem yKD{k n:Nat}{fa:Addr}{fd:FuncData}{ps:List Str}{F:List MV->Sto->R Er}{x:Str}{p:Pos}(hx:XOk X E)(G:FnOk X.prog X.w X.K X.mg X.base (CXe X.prog X.w) k fa fd ps (spX X.g n F))(hr:Room k X.A)(hg:Gl X x)(hm:X.mg x=some (.ref fa))
  (hk:PySem.W.keepIn X.K (.ref fa)=true) (hb:Binds X.K fd ps []) (ha:PAm X (WE X.g E) (e::es) af) (hdb:(x==("__debug__":Str))=false:=by decide)
  (he:starEach (e::es) X.env=(false,eval e X.env)::starEach es X.env:=by rfl) (hpl:(backTo pos (starEach es X.env)).any (·.1)=false:=by rfl):
  PEm X (WE X.g E) (.Call (.Name x p) (e::es) [] pos) (λρ S=>(af ρ S).bind λrs S1=>kW n F rs S1):=by
 obtain⟨t,ha,kk⟩:=ha
 refine⟨_,yDJ G hr hg hm hk hb .nil hx.pass ha hdb he hpl,λα ρ S σ H Q wd sl q=>kk α ρ S σ H _ wd sl (q.bind λvs rs S1 α1 H1 e1 x1 w1 d1 q1=>?_)⟩
 rw [aN]
 exact zSG x1 w1 d1 q1
end
section
variable{P:Program}{w:World}{K:PySem.W.Frag}{mg:Str->Option Value}{base:Heap}
theorem okX{x qual:Str}{st:Stmt}{f:Addr}{fd:FuncData}{N ps:List Str}{k:Nat}(Fb:Rho->Sto->R Fl)(F:Fun K x qual st f fd)(Sc:FnScope N ps (zG st))
  (hbody: ∀(cdv:Value)(A:Around)(outer:List Env)(s:Shared)(H:Hp)(E:XK),Room k (A.deeper (envOfC qual (zG st) s.heap.objs.size f cdv))->
   zOI (zRM (CXe P w) P w K mg base N qual (zG st) f cdv A outer s H E) (WE ⟨K,mg,P,w⟩ E) (kE st) Fb):
  FnOk P w K mg base (CXe P w) (k+1) f fd ps (spX ⟨K,mg,P,w⟩ ps.length λds S=>yH (Fb (zS N ds) S)):=by
 obtain⟨oc,od,kV,doc,pm,an,cdv,ct,osl,rfl,lk,hcd⟩:=F.ex
 refine yPM lk hcd Sc (λvs H Q E h=>?_) λA outer s H vs Q E hr h=>?_
 ·obtain⟨α,S,ds,_,l,hl,_⟩:=h
  rw [l.length,hl]
 ·obtain⟨α,S,ds,wd,l,hl,q⟩:=h
  obtain⟨t,ht,kk⟩:=hbody cdv A outer s H E hr
  refine⟨t,ht,kk α (zS N ds) S (start N vs) H _ wd (zIY l) ?_⟩
  dsimp only at q
  cases z:Fb (zS N ds) S with
  |ok fl S'=>
   rw [z]at q
   cases fl with
   |next ρ=>exact λσ α' H' x' w' s'=>q .non α' H' x' w' (DenE.val zBN)
   |ret r=>exact λv α' H' x' w' d'=>q v α' H' x' w' d'
   |brk ρ=>exact q.elim
   |cont ρ=>exact q.elim
  |exc c fs S'=>rw [z]at q;exact λα' H' x' w'=>q α' H' x' w'
  |no=>rw [z]at q;exact q
theorem _root_.L2.FnOk.noX{k n:Nat}{f:Addr}{fd:FuncData}{ps:List Str}{g:Gm}{F:List MV->Sto->R Er}(G:FnOk P w K mg base (CXe P w) k f fd ps (spX g n F)):FnOk P w K mg base CX0 k f fd ps (spM g n F):=by
 have up: ∀{vs H Q}, ∀{E},spM g n F vs H Q E->spX g n F vs H Q E0:=λ⟨α,S,ds,h1,h2,h3,h4⟩=>⟨α,S,ds,h1,h2,h3,h4.wmono λ_ _ _ _ _ z=>z.elim⟩
 refine⟨λvs H Q E h=>G.len vs H Q E0 (up h),λA outer s H args us vs Q E hr e0 hb hv h=>codeAny_mono (G.run A outer s H args us vs Q E0 hr e0 hb hv (up h)) λr s' hq=>?_⟩
 cases r with
 |error e=>
  obtain⟨_,_,_,_,_,_,_,_,_,_,_,_,_,_,_,z⟩:=hq
  exact z
 |ok fl=>cases fl<;>exact hq
end
end M
end L2
namespace L2
open PySem PySem.Spec PyProof.Rows
structure Out(X:Cx)(pins:List (Addr×Obj))(H:Hp)(s:Shared)(b:Addr):Prop where
 s0:X.s₀.heap.get? b=none
 h:H b=none
 pin: ∀p∈X.pn++pins,p.1≠b
 fld: ∃o vs,s.heap.get? b=some o/\o.data=.fields vs
section
variable{X:Cx}{pins:List (Addr×Obj)}{σ:St}{H:Hp}{s:Shared}{e T b:Addr}{h':Heap}
theorem Out.ne(o:Out X pins H s b){c:Addr}{oc:Obj}(hc:s.heap.get? c=some oc)(nf: ∀vs,oc.data≠.fields vs):c≠b:=λz=>by
 obtain⟨ob,vs,h1,h2⟩:=o.fld
 rw [z,h1]at hc;cases hc
 exact nf vs h2
theorem Out.loc(o:Out X pins H s b)(I:Inv X pins σ H s):X.env.locals≠b:=by
 obtain⟨m,⟨oL,es,ep,h1,h2,_⟩,_⟩:=I.loc
 exact o.ne h1 λvs z=>by rw [h2]at z;cases z
theorem Out.cell(o:Out X pins H s b)(I:Inv X pins σ H s){x:Str}{c:Addr}(hc:X.env.cells.lookup x=some c):c≠b:=by
 obtain⟨v,oc,h1,h2⟩:=I.cell x c hc
 exact o.ne h1 λvs z=>by rw [h2]at z;cases z
theorem Inv.mvd(J:Inv X pins σ H s)(hex:X.ex=[])(m:Mvd (frs X.stack) e T s.heap h')(oe:Out X pins H s e)(oT:Out X pins H s T):Inv X pins σ H {s with heap:=h'}:=by
 obtain⟨u,hok⟩:=J.moved hex m oe.s0 oT.s0 oe.h oT.h
 have ns: ∀mm,s.heap.Ns X.env.locals mm->h'.Ns X.env.locals mm:=λmm hn=>by
  obtain⟨o,es,ep,ho,r⟩:=hn
  obtain⟨sl,e1⟩:=m.slot _ o (oe.loc J) (oT.loc J) ho
  exact⟨_,es,ep,e1,r⟩
 have cell: ∀x c,X.env.cells.lookup x=some c-> ∀v,s.heap.IsCell c v->h'.IsCell c v:=λx c hc v hv=>by
  obtain⟨o,ho,hd⟩:=hv
  obtain⟨sl,e1⟩:=m.slot c o (oe.cell J hc) (oT.cell J hc) ho
  exact⟨_,e1,hd⟩
 refine⟨J.ok,J.os,J.bare,by rw [hex];exact u,?_,λx c hc=>?_,J.free,J.freeC,λp hp=>?_,hok,J.len⟩
 ·obtain⟨mm,hn,hl⟩:=J.loc
  refine⟨mm,ns mm hn,λi x v e1 e2 e3=>?_⟩
  obtain⟨u,r,l⟩:=hl i x v e1 e2 e3
  exact⟨u,r,l.imp id λ⟨k,c,hc,z⟩=>⟨k,c,hc,cell x c hc _ z⟩⟩
 ·obtain⟨v,z⟩:=J.cell x c hc
  exact⟨v,cell x c hc v z⟩
 ·obtain⟨e1,n,ne,nf,dd⟩:=J.pin p hp
  refine⟨m.keep p.1 p.2 (oe.pin p hp) (oT.pin p hp) (λz=>?_) e1,n,ne,nf,dd⟩
  rcases mC.mp (J.stkSub _ z)with z|z
  ·exact ne z
  ·exact nf z
theorem Inv.track{ob:Obj}(J:Inv X pins σ H s)(o:Out X pins H s e)(he:s.heap.get? e=some ob):Inv X pins σ (upd H e (.ext λh=>h.get? e=some ob)) s:=by
 refine⟨J.ok,J.os,J.bare,⟨J.base.keep,J.base.slot,λb ob' q n hx=>?_,J.base.there,λb xs q=>?_,λb o' u q=>?_,λb ps q=>?_⟩,J.loc,J.cell,?_,λx c hc=>?_,λp hp=>?_,λb u q=>?_,J.len⟩
 ·rw [zQ λz=>by rw [z,o.s0]at q;cases q]
  exact J.base.free b ob' q n hx
 ·rw [zQ (yM (J.base.tups b xs q) o.h)];exact J.base.tups b xs q
 ·rw [zQ (yM (J.base.frzs b o' u q) o.h)];exact J.base.frzs b o' u q
 ·obtain⟨mo,z⟩:=J.base.tbls b ps q
  exact⟨mo,by rw [zQ (yM z o.h)];exact z⟩
 ·rw [zQ (o.loc J)];exact J.free
 ·rw [zQ (o.cell J hc)];exact J.freeC x c hc
 ·obtain⟨e1,n,ne,nf,dd⟩:=J.pin p hp
  exact⟨e1,by rw [zQ (o.pin p hp)];exact n,ne,nf,dd⟩
 ·by_cases z:b=e
  ·subst z
   rw [yB]at q
   cases q
   exact⟨he,⟨ob,he⟩,λh1 h2 p k=>k _ p⟩
  ·rw [zQ z]at q
   exact(J.hok b u q).stay (λ_ _ _ r=>r) (λc r=>by rw [zQ (yM r o.h)];exact r) λc xs r=>by rw [zQ (yM r o.h)];exact r
abbrev Cx.inH(X:Cx)(v:Value):Cx:={X with A:=X.A.mark (some v),calm:=false,xe:=λ_ _=>False}
theorem Cx.Ok.inH(ok:X.Ok)(v:Value):(X.inH v).Ok:=⟨ok.mod,ok.kind,ok.glob,ok.blt,ok.above,ok.inj,ok.has,ok.cab,λz=>(by cases z),ok.frames,ok.stk,ok.exf,ok.bs,ok.bsz,ok.noex,ok.exfs,ok.funs,ok.frf⟩
theorem Inv.inH(I:Inv X pins σ H s)(v:Value):Inv (X.inH v) pins σ H s:=⟨I.ok.inH v,I.os,I.bare,I.base,I.loc,I.cell,I.free,I.freeC,I.pin,I.hok,I.len⟩
theorem Inv.outH{v:Value}(ok:X.Ok)(I:Inv (X.inH v) pins σ H s):Inv X pins σ H s:=⟨ok,I.os,I.bare,I.base,I.loc,I.cell,I.free,I.freeC,I.pin,I.hok,I.len⟩
theorem name_goes{M:Model}{A:Around}{E:Value->Shared->Prop}{i:Nat}{x:Str}{pos:Pos}{Q:Unit->Shared->Prop}(I:Inv X pins σ H s)(hN:X.N.Nodup)(hi:X.N[i]? =some x)(hk:X.env.kindOf x=some .local)
  (h: ∀s',Inv X pins (σ.set i none) H s'->Q () s'):wpAny M A (do bindName X.env x .none;unbindBehindTheSuite X.env x pos) Q E s:=by
 obtain⟨m,hn,hl⟩:=id I.loc
 have hcls:(X.env.scope.kind==.class || (X.env.scope.kind==.module&&X.env.locals !=X.env.globals))=false:=by rw [I.ok.kind];rfl
 refine wpAny_nameGoes_keeps hk hn hcls λh' v hn' hs=>h _ ?_
 have keep: ∀b o,b≠X.env.locals->s.heap.get? b=some o->h'.get? b=some o:=λb o z q=>(hs.2 b z).trans q
 have neL: ∀b o,X.s₀.heap.get? b=some o->b≠X.env.locals:=λb o e=>ne_of_lt (lt_of_lt_of_le (Heap.lt_size e) I.ok.above)
 obtain⟨oL',_,_,hL',_⟩:=id hn'
 have there: ∀b o,s.heap.get? b=some o-> ∃o',h'.get? b=some o':=λb o q=>by
  by_cases z:b=X.env.locals
  ·rw [z];exact⟨_,hL'⟩
  ·exact⟨o,keep b o z q⟩
 refine⟨I.ok,I.os,I.bare,⟨λb o e n hb hx=>keep b o (neL b o e) (I.base.keep b o e n hb hx),λb o e n hb hx=>?_,I.base.free,λb o e hx=>?_,I.base.tups,I.base.frzs,I.base.tbls⟩,⟨_,hn',λj y v' e1 e2 e3=>?_⟩,λy c e=>?_,I.free,I.freeC,λp hp=>?_,λb u q=>?_,by rw [length_set];exact I.len⟩
 ·obtain⟨sl,e1⟩:=I.base.slot b o e n hb hx
  exact⟨sl,keep b _ (neL b o e) e1⟩
 ·obtain⟨o',e1⟩:=I.base.there b o e hx
  exact there b o' e1
 ·have hj:j≠i:=λz=>by
   subst z
   by_cases hl:j<σ.length
   ·rw [getElem?_set_self hl]at e2;cases e2
   ·rw [List.getElem?_eq_none (by rw [length_set];omega)]at e2;cases e2
  rw [getElem?_set_ne (Ne.symm hj)]at e2
  obtain⟨u,r,q⟩:=hl j y v' e1 e2 e3
  refine⟨u,r,?_⟩
  have hy:y≠x:=λz=>hj (zRH hN e1 (z▸hi))
  rcases q with⟨k,q⟩|⟨k,c,e,z⟩
  ·exact .inl ⟨k,by simp [hy,q]⟩
  ·exact .inr ⟨k,c,e,z.sameBut hs (I.cne y c e)⟩
 ·obtain⟨w',z⟩:=I.cell y c e
  exact⟨w',z.sameBut hs (I.cne y c e)⟩
 ·obtain⟨e,n,ne,nf,dd⟩:=I.pin p hp
  exact⟨keep p.1 p.2 ne e,n,ne,nf,dd⟩
 ·refine(I.hok b u q).stay (λc w' hc r=>keep c w' (λz=>?_) r) (λ_ q=>q) λ_ _ q=>q
  have: ∃y,H c=some y:=by
   rcases hc with rfl|hc
   ·exact⟨_,q⟩
   ·exact⟨_,hc⟩
  obtain⟨y,hy⟩:=this
  rw [z,I.free]at hy;cases hy
end
theorem tc_nt:isSubtype (.type "type") (.type "tuple")=pure false:=by rw [isSubtype_type];kernel_rfl
theorem yBW{Mo:Model}{A:Around}{E:Value->Shared->Prop}{h:Heap}{g:Array GenState}{d:Drawn}{t:Nat}{os:OsState}{C M e:Addr}{oe:Obj}{Q:Bool->Shared->Prop}(O:zFT h C M)(he:h.get? e=some oe)(hc:oe.cls=.ref C)
  (hq:Q true ⟨h,g,d,t,os⟩):wpAny Mo A (excMatches (.ref e) (.ref M)) Q E ⟨h,g,d,t,os⟩:=by
 have hb:(Value.ref C::.ref M::bmV).contains (.ref M)=true:=by simp [contains_cons]
 have f:=tc_nt
 have O':=O
 obtain⟨_,_,_,_,_,_,_,_,_,_,_,_,_,_,_,_,_,_,_,_,_,_,_,_,_,_,_,_,_,_,_,_,_,_,_,_,_,hM,_⟩:=O
 have hm:(Value.ref M::bmV).contains (.type "BaseException")=true:=by simp [contains_cons]
 unfold excMatches
 repeat (first |(with_reducible refine wpAny_loadPart_at he ?_;rw [hc])|with_reducible refine wpAny_loadPart_at hM ?_|(with_reducible refine zFU O' ?_;rw [hb])|(with_reducible refine wpAny_isSubtype_exc hM ?_;rw [hm])|wp_step)
 exact hq
end L2
namespace L2
namespace M
open PySem PySem.Spec PyProof.Rows
theorem Slots.unset{K:PySem.W.Frag}{α:List Addr}{H:Hp}{ρ:Rho}{σ:St}(q:Slots K α H ρ σ)(i:Nat):Slots K α H (ρ.set i none) (σ.set i none):=by
 refine⟨by rw [length_set,length_set];exact q.len,λj d e=>?_⟩
 rcases yDQ e with⟨_,z,_⟩|⟨hj,e'⟩
 ·cases z
 ·obtain⟨v,h1,h2⟩:=q.slot j d e'
  exact⟨v,by rw [getElem?_set_ne (Ne.symm hj)];exact h1,h2⟩
def endF(i:Nat):Fl->Sto->R Fl
 |.next ρ,S=>.ok (.next (ρ.set i none)) S
 |.ret r,S=>.ok (.ret r) S
 |.brk ρ,S=>.ok (.brk (ρ.set i none)) S
 |.cont ρ,S=>.ok (.cont (ρ.set i none)) S
def yBX(ns:List Str)(i:Nat)(kn:Er->Sto->R Fl)(Fh:Rho->Sto->R Fl)(ρ:Rho):R Er->R Fl
 |.ok r S=>kn r S
 |.exc c fs S=>if c∈ns then(noX (Fh (ρ.set i (some (.loc S.length))) (S++[.ins c fs]))).bind (endF i)else .no
 |.no=>.no
theorem PostS.exprX{β τ:Type}[Dn β τ]{g:Gm}{W:XW}{α:List Addr}{H:Hp}{D:Ends}{m:R β}{k:β->Sto->R Fl}{Q':τ->Hp->Prop}(q:PostS g W α H D ((noX m).bind k))
  (f: ∀u b S1 α1 H1,m=.ok b S1->Ext α H α1 H1->Wd g α1 S1 H1->Dn.d g H α1 S1 H1 b u->PostS g W α H D (k b S1)->Q' u H1):Post g W0 α H m Q':=by
 cases m with
 |ok b S=>exact λu α1 H1 x w d=>f u b S α1 H1 rfl x w d q
 |exc c fs S=>exact q.elim
 |no=>exact q
def E2(X:Cx)(W:XW)(ns:List Str)(i:Nat)(Fh:Rho->Sto->R Fl)(ρ:Rho)(α:List Addr)(H:Hp)(D:Ends):XK:=λcls d H'=> ∃c fs S2 α' C,cls=.ref C/\X.mg c=some (.ref C)/\Ext α H α' H'/\Wd X.g α' S2 H'/\FsD X.g α' H' d fs/\
 PostS X.g W α H D (if c∈ns then(noX (Fh (ρ.set i (some (.loc S2.length))) (S2++[.ins c fs]))).bind (endF i)else .no)
section
variable{X:Cx}{W:XW}{M:Addr}{cs:List (Str×Addr)}{pins:List (Addr×Obj)}{σ:St}{H H1:Hp}{s s1 s':Shared}{i:Nat}{nm:Str}{Fh:Rho->Sto->R Fl}{ρ:Rho}{α:List Addr}{D:Ends}{b0:Stmt}{suite:List Stmt}{mp hpos:Pos}
theorem yST(T:XTab X.K X.mg M cs)(hgm:Gl X "MendError")(hN:X.N.Nodup)(hi:X.N[i]? =some nm)(hk:X.env.kindOf nm=some .local)(hsuite: ∀v,zOI (X.inH v) W0 (b0::suite) Fh)(hex:X.ex=[])(hstk:X.stack=X.env::X.outer)(hfm:X.env.frame=some X.env.locals)
  (sl:Slots X.K α H ρ σ) (I1:Inv X pins σ H1 s1) {x:Value} (hq:CXe X.prog X.w X.stack H1 s1 (E2 X W (cs.map (·.1)) i Fh ρ α H D) x s'):
  wpAny (model X.prog X.w) X.A (noteFrame x X.env) (λ_ s₂=>wpAny (model X.prog X.w) X.A (setFlight x none) (λ_ s₃=>wpAny (model X.prog X.w) X.A (handleBy x X.env [.ExceptHandler (some (.Name "MendError" mp)) (some nm) (b0::suite) hpos]) (SP X pins D) X.xe s₃) X.xe s₂) X.xe s':=by
 obtain⟨e,Tb,C,d,H',rfl,os,bare,un,hok,fl,ne,nT,he,hT,c,fs,S2,α',C',eC,hmc,xx,w2,hf,q⟩:=hq
 cases eC
 split at q
 ·rename_i hcn
  have J:Inv X pins σ H' s':=I1.call' (ch:=[]) os un hok bare (λ_ z=>nomatch z)
  have hfr:X.A.frames=some (X.env::X.outer):=by rw [<-hstk];exact J.ok.frames
  have hl:s'.heap.FunFrames X.base (X.env::X.outer):=by rw [<-hstk];exact J.stack
  have oe:Out X pins H' s' e:=by
   obtain⟨ob,vs,_,_,h1,_,_,h2,_⟩:=id fl
   exact⟨I1.older hex ne,he,λp hp z=>(by have:=(I1.pin p hp).1;rw [z,ne]at this;cases this),ob,vs,h1,h2⟩
  have oT:Out X pins H' s' Tb:=by
   obtain⟨_,_,ob,ts,_,_,_,_,_,_,h1,h2,_⟩:=id fl
   exact⟨I1.older hex nT,hT,λp hp z=>(by have:=(I1.pin p hp).1;rw [z,nT]at this;cases this),ob,ts,h1,h2⟩
  refine zUM hfr hl hfm fl λh3 T3 n3 m3 f3=>?_
  rw [<-hstk]at m3
  have J3:=J.mvd hex m3 oe oT
  have oe3:Out X pins H' {s' with heap:=h3} e:=by
   obtain⟨ob,vs,_,_,h1,_,_,h2,_⟩:=id f3
   exact⟨oe.s0,oe.h,oe.pin,ob,vs,h1,h2⟩
  have oT3:Out X pins H' {s' with heap:=h3} T3:=by
   obtain⟨_,_,ob,ts,_,_,_,_,_,_,h1,h2,_⟩:=id f3
   exact⟨J.older hex n3,J.hok.none_of n3,λp hp z=>(by have:=(J.pin p hp).1;rw [z,n3]at this;cases this),ob,ts,h1,h2⟩
  refine zDU (env:=X.env) (outer:=X.outer) f3 λh4 m4 f4=>?_
  rw [<-hstk]at m4
  have J4:=J3.mvd hex m4 oe3 oT3
  have oe4:Out X pins H' {s' with heap:=h4} e:=by
   obtain⟨ob,vs,_,_,h1,_,_,h2,_⟩:=id f4
   exact⟨oe.s0,oe.h,oe.pin,ob,vs,h1,h2⟩
  have oT4:Out X pins H' {s' with heap:=h4} T3:=by
   obtain⟨_,_,ob,ts,_,_,_,_,_,_,h1,h2,_⟩:=id f4
   exact⟨oT3.s0,oT3.h,oT3.pin,ob,ts,h1,h2⟩
  have cls: ∃i,XCl X.K C (.ref M::bmV) i:=by
   obtain⟨⟨c',C'⟩,hm',rfl⟩:=mM0.mp hcn
   obtain⟨q1,q2⟩:=T.each.at hm'
   have:C=C':=by rw [hmc]at q1;cases q1;rfl
   rw [this];exact q2
  obtain⟨ini,cC⟩:=cls
  refine wpAny_handleBy_cons (codeAny_handlers_test (zDR (X:=X.inH (.ref e)) (J4.inH (.ref e)) hgm T.m ?_)) (by intro z;cases z)
  obtain⟨ob4,_,_,_,he4,hc4,_⟩:=id f4
  refine yBW (zNK J4.kIn cC T.mc) he4 hc4 ?_
  refine codeAny_handlers_suite_as ?_
  refine zDU (env:=X.env) (outer:=X.outer) (s:={s' with heap:=h4}) f4 λh5 m5 f5=>?_
  rw [<-hstk]at m5
  have J5:=J4.mvd hex m5 oe4 oT4
  obtain⟨ob,vs,_,_,h1,hcl,hdx,h2,_⟩:=id f5
  have oe5:Out X pins H' {s' with heap:=h5} e:=⟨oe.s0,oe.h,oe.pin,ob,vs,h1,h2⟩
  have J6:=J5.track oe5 h1
  have xw:=w2.put (ho:=.ext λh=>h.get? e=some ob) (m:=.ins c fs) oe.h (by
   rcases hf with rfl|⟨dx,gs,od,hd1,hd2,hd3⟩
   ·exact⟨C,[],hmc,.nil,ob,yB,hcl,.inl rfl⟩
   ·have xx0:Ext α' H' α' (upd H' e (.ext λh=>h.get? e=some ob)):=w2.newx oe.h
    exact⟨C,gs,hmc,(hd3.ex0 xx0.toEx0).ex0 (Ex0.grow _ _ _),ob,yB,hcl,.inr ⟨dx,od,hdx.trans hd1,(by rw [zQ (yM hd2 oe.h)];exact hd2),vs,h2⟩⟩)
  refine zRI (X:=X.inH (.ref e)) (J6.inH (.ref e)) hN hi (.inl hk) (v:=.ref e) rfl (λs7 J7=>?_) (.inr hk)
  obtain⟨th,hth,kh⟩:=hsuite (.ref e)
  let D':Ends:={nx:=λσ H=>D.nx (σ.set i none) H,rt:=D.rt,bk:=λσ H=>D.bk (σ.set i none) H,ct:=λσ H=>D.ct (σ.set i none) H}
  have q':PostS X.g W (α'++[e]) (upd H' e (.ext λh=>h.get? e=some ob)) D _:=PostS.shift (xx.trans xw.1) q
  have ht:th D' (σ.set i (some (.ref e))) (upd H' e (.ext λh=>h.get? e=some ob)):=by
   refine kh (α'++[e]) (ρ.set i (some (.loc S2.length))) (S2++[.ins c fs]) _ _ D' xw.2 (((sl.ext xx).ext xw.1).set (zMX (by rw [<-w2.len,getElem?_append_right (le_refl _),sub_self];rfl))) ?_
   cases z:Fh (ρ.set i (some (.loc S2.length))) (S2++[.ins c fs])with
   |ok fl S8=>
    rw [z]at q'
    cases fl with
    |next ρ8=>exact λσ8 α8 H8 x8 w8 s8=>q' (σ8.set i none) α8 H8 x8 w8 (s8.unset i)
    |ret r8=>exact λv8 α8 H8 x8 w8 d8=>q' v8 α8 H8 x8 w8 d8
    |brk ρ8=>exact λσ8 α8 H8 x8 w8 s8=>q' (σ8.set i none) α8 H8 x8 w8 (s8.unset i)
    |cont ρ8=>exact λσ8 α8 H8 x8 w8 s8=>q' (σ8.set i none) α8 H8 x8 w8 (s8.unset i)
   |exc c8 fs8 S8=>rw [z]at q';exact q'.elim
   |no=>rw [z]at q';exact q'.elim
  refine wpAny_mono (hth pins s7 _ _ D' J7 ht) (λf s8 hs=>?_) λ_ _ z=>z.elim
  show wpAny _ _ _ _ _ _
  cases f with
  |next=>
   obtain⟨σ8,H8,I8,q8⟩:=hs
   exact name_goes (I8.outH J.ok) hN hi hk λs9 I9=>⟨_,H8,I9,q8⟩
  |brk=>
   obtain⟨σ8,H8,I8,q8⟩:=hs
   exact name_goes (I8.outH J.ok) hN hi hk λs9 I9=>⟨_,H8,I9,q8⟩
  |cont=>
   obtain⟨σ8,H8,I8,q8⟩:=hs
   exact name_goes (I8.outH J.ok) hN hi hk λs9 I9=>⟨_,H8,I9,q8⟩
  |ret u=>
   obtain⟨v8,σ8,H8,I8,r8,q8⟩:=hs
   exact name_goes (I8.outH J.ok) hN hi hk λs9 I9=>⟨v8,_,H8,I9,r8,q8⟩
 ·exact q.elim
end
section
variable{X:Cx}{W:XW}{M:Addr}{cs:List (Str×Addr)}{i:Nat}{nm:Str}{Fh:Rho->Sto->R Fl}{b0:Stmt}{suite:List Stmt}{mp hpos cpos epos pos p:Pos}{e:Expr}{es:List Expr}{af:Rho->Sto->R (List Er)}{k n:Nat}{fa:Addr}{fd:FuncData}{ps:List Str}{F:List MV->Sto->R Er}{x:Str}
theorem yKE{pins:List (Addr×Obj)}{σ:St}{H:Hp}{s:Shared}{Q:VK}{E:XK}{Ex:Value->Shared->Prop}{ta:TA}(G:FnOk X.prog X.w X.K X.mg X.base (CXe X.prog X.w) k fa fd ps (spX X.g n F))(hr:Room k X.A)(hg:Gl X x)(hm:X.mg x=some (.ref fa))(hk:PySem.W.keepIn X.K (.ref fa)=true)(hb:Binds X.K fd ps [])
  (ha:PA X.nox (e::es) ta) (I:Inv X pins σ H s) (ht:ta σ H λvs H1=>spX X.g n F vs H1 Q E) (hx: ∀H1 s1 x s',Inv X pins σ H1 s1->CXe X.prog X.w X.stack H1 s1 E x s'->Ex x s') (hdb:(x==("__debug__":Str))=false)
  (he:starEach (e::es) X.env=(false,eval e X.env)::starEach es X.env) (hpl:(backTo cpos (starEach es X.env)).any (·.1)=false):
  wpAny (model X.prog X.w) X.A (eval (.Call (.Name x p) (e::es) [] cpos) X.env) (EP X pins σ Q) Ex s:=by
 refine wpAny_Call_Name_kw (zDR I hg hm ?_ hdb)
 refine PySem.W.callWith_K (h₀:=X.base) I.ok.mod.kin hk (wpAny_mono (ha cpos pins s σ H _ (I.wish _) ht) (λus s1 ⟨vs,H1,I1,r,q⟩=>⟨I1.unwish.kIn,?_⟩) λ_ _ z=>z.elim) he hpl
 have I2:=I1.unwish
 have hl:us.length=ps.length:=by rw [<-r.length];exact G.len _ _ _ _ q
 refine wpAny_call (codeAny_mono (G.run X.A X.stack s1 H1 ⟨us,[]⟩ us vs Q E hr I2.env0 ?_ r q) λr s' hq=>?_)
 ·have:=hb s1 us I2.kIn (by rw [aN];exact hl)
  rw [aN]at this
  exact this
 ·cases r with
  |error y=>exact hx H1 s1 y s' I2 hq
  |ok fl=>
   cases fl with
   |ret u=>exact I2.after hq
   |next=>exact False.elim hq
   |brk=>exact False.elim hq
   |cont=>exact False.elim hq
theorem yKF{α:List Addr}{H:Hp}{ρ:Rho}{S:Sto}{σ:St}{D:Ends}{Q:VK}{ta:TA}{kn:Er->Sto->R Fl}{ns:List Str}(kk: ∀α ρ S σ H Q,Wd X.g α S H->Slots X.K α H ρ σ->Post X.g W0 α H (af ρ S) Q->ta σ H Q)(wd:Wd X.g α S H)(sl:Slots X.K α H ρ σ)
  (q:PostS X.g W α H D ((noX (af ρ S)).bind λrs S1=>yBX ns i kn Fh ρ (kW n F rs S1))) (hkn: ∀r S1 u α1 H1,PostS X.g W α H D (kn r S1)->Ext α H α1 H1->Wd X.g α1 S1 H1->DenE X.K H α1 H1 r u->Q u H1):
  ta σ H λvs H1=>spX X.g n F vs H1 Q (E2 X W ns i Fh ρ α H D):=by
 refine kk α ρ S σ H _ wd sl (q.exprX λvs rs S1 α1 H1 e1 x1 w1 d1 q1=>zSG x1 w1 d1 ?_)
 cases z:kW n F rs S1 with
 |ok r S2=>rw [z]at q1;exact λu α2 H2 x2 w2 d2=>hkn r S2 u α2 H2 q1 x2 w2 d2
 |exc c fs S2=>rw [z]at q1;exact λα2 H2 x2 w2 C d hC hf=>⟨c,fs,S2,α2,C,rfl,hC,x2,w2,hf,q1⟩
 |no=>rw [z]at q1;exact q1.elim
theorem yOD{ns:List Str}(T:XTab X.K X.mg M cs)(hgm:Gl X "MendError")(hN:X.N.Nodup)(G:FnOk X.prog X.w X.K X.mg X.base (CXe X.prog X.w) k fa fd ps (spX X.g n F))(hr:Room k X.A)(hg:Gl X x)(hm:X.mg x=some (.ref fa))(hkp:PySem.W.keepIn X.K (.ref fa)=true)(hb:Binds X.K fd ps [])
  (ha:PAm X.nox W0 (e::es) af) (hsuite: ∀v,zOI (X.inH v) W0 (b0::suite) Fh) (hns:cs.map (·.1)=ns:=by rfl) (hi:X.N[i]? =some nm:=by rfl) (hk:X.env.kindOf nm=some .local:=by rfl) (hex:X.ex=[]:=by rfl) (hstk:X.stack=X.env::X.outer:=by rfl) (hfm:X.env.frame=some X.env.locals:=by rfl)
  (hdb:(x==("__debug__":Str))=false:=by decide) (he:starEach (e::es) X.env=(false,eval e X.env)::starEach es X.env:=by rfl) (hpl:(backTo cpos (starEach es X.env)).any (·.1)=false:=by rfl) (hs:swapsWith (.Call (.Name x p) (e::es) [] cpos) none epos.line X.env=pure false:=by rfl):
  PSm X W (.Try [.Expr (.Call (.Name x p) (e::es) [] cpos) epos] [.ExceptHandler (some (.Name "MendError" mp)) (some nm) (b0::suite) hpos] [] [] pos)
   (λρ S=>(noX (af ρ S)).bind λrs S1=>yBX ns i (λ_ S2=>.ok (.next ρ) S2) Fh ρ (kW n F rs S1)):=by
 subst hns
 obtain⟨ta,ha,kk⟩:=ha
 refine⟨λD σ H=> ∀pins s,Inv X pins σ H s->wpAny (model X.prog X.w) X.A (exec (.Try [.Expr (.Call (.Name x p) (e::es) [] cpos) epos] [.ExceptHandler (some (.Name "MendError" mp)) (some nm) (b0::suite) hpos] [] [] pos) X.env) (SP X pins D) X.xe s,
  λpins s σ H D I h=>h pins s I,λα ρ S σ H D wd sl q pins s I=>?_⟩
 rw [arm_exec_Try]
 refine wB0 (wpAny_standAt (wpAny_tryStmt_except (wpAny_execs_cons (wpAny_Expr_any ?_ I.quiet hs))))
 have ht:=yKF (Q:=λ_ H2=>D.nx σ H2) kk wd sl q λr S1 u α1 H1 q1 x1 w1 _=>q1 σ α1 H1 x1 w1 (sl.ext x1)
 refine thn (yKE G hr hg hm hkp hb ha I ht (λH1 s1 y s' I1 hq=>yST T hgm hN hi hk hsuite hex hstk hfm sl I1 hq) hdb he hpl) λu s' ⟨v,H',I',_,q'⟩=>?_
 exact wpAny_execs_nil (wpAny_execs_nil ⟨σ,H',I',q'⟩)
end
theorem xcl_mk{K:PySem.W.Frag}{C N:Addr}{bm bs sub:List Value}{init:Option Value}{nm q:Str}{hd ab:Bool}{sn:List Str}{col:Option Bool}{dd od:Option Addr}{k0 k1 k2 k3 k5:Option Value}{oc:Value}{es:Array DictEntry}{ep:Nat}{sl:Array (Option Value)}
  (l:K.lookup C=some (excClassObj nm q C N bs bm hd sn sub ab col dd k0 k1 k2 k3 k5 "ValueError.__new__")) (n:K.lookup N=some ⟨oc,od,.dict es ep,sl⟩) (o:(es.toList.all λe=>match e.key with |.str _ _=>true|_=>false)=true)
  (i:PySem.W.nsIn K N "__init__"=some init) (q1:PySem.W.nsIn K N "__class__"=some none) (q2:PySem.W.nsIn K N "__getattribute__"=some none) (q3:PySem.W.nsIn K N "__getattr__"=some none)
  (q4:PySem.W.nsIn K N "__setattr__"=some none) (q5:PySem.W.nsIn K N "place"=some none) (q6:PySem.W.nsIn K N "number"=some none) (hh:hd=true):XCl K C bm init:=by
 refine⟨nm,q,N,bs,hd,sn,sub,ab,col,dd,k0,k1,k2,k3,k5,l,?_,i,λy hy=>?_,hh⟩
 ·unfold PySem.W.nsOkIn
  rw [n]
  rw [Array.all_toList]at o
  exact o
 ·simp only [qn,mC,nM0,or_false]at hy
  rcases hy with rfl|rfl|rfl|rfl|rfl|rfl<;>assumption
section
variable{X:Cx}{W:XW}{a b o i:Expr}{f g:Rho->Sto->R Er}{pos:Pos}{pins:List (Addr×Obj)}{σ:St}{H:Hp}{s:Shared}{α:List Addr}
theorem DenK.length: ∀{kvs:List (MV×MV)}{xs:List (Key×V)},DenK X.K α H kvs xs->xs.length=kvs.length
 |_,_,.nil=>rfl
 |_,_,.cons _ _ l=>by rw [lC0,lC0,DenK.length l]
end
def VAt(d:Addr)(us:List Value)(ep:Nat)(h:Heap):Prop:= ∃o es,h.get? d=some o/\o.ExactDict/\o.data=.dict es ep/\es.toList.map (·.val)=us
theorem VAt.size{d:Addr}{us:List Value}{ep:Nat}{h:Heap}(x:VAt d us ep h): ∃o es,h.get? d=some o/\o.ExactDict/\o.data=.dict es ep/\es.size=us.length/\ ∀i (hi:i<es.size),us[i]? =some es[i].val:=by
 obtain⟨o,es,ho,hc,hd,e⟩:=x
 refine⟨o,es,ho,hc,hd,by rw [<-e,lM0,Array.length_toList],λi hi=>?_⟩
 rw [<-e,getElem?_map,Array.getElem?_toList,Array.getElem?_eq_getElem hi]
 rfl
end M
end L2
namespace L2
open PySem PySem.Spec PyProof.Rows
section
variable{prog:Program}{w:World}{A:Around}{E:Value->Shared->Prop}{h:Heap}{g:Array GenState}{d:Drawn}{t:Nat}{os:OsState}
variable{nm q:Str}{C N:Addr}{bs bm bmB:List Value}{hdct:Bool}{sn:List Str}{sub:List Value}{ab:Bool}{col:Option Bool}{dd:Option Addr}{k0 k1 k2 k3 k5:Option Value}{B newId initId:String}
theorem zQF(F:ExcBaseFacts B newId initId bmB)(T:OwnTail h bmB bm){mN:Str->Option Value}{rest:List Value}{fI:Addr}{oI:Obj}{Q:Fin->Shared->Prop}
  (hC:h.get? C=some (excClassObj nm q C N bs bm hdct sn sub ab col dd k0 k1 k2 k3 k5 newId)) (hn:h.Ns N mN) (hi:mN "__init__"=some (.ref fI)) (hfI:h.get? fI=some oI) (hfc:oI.cls=.type "function")
  (hq: ∀h' e,Heap.MadeExcOf h h' e (.ref C) rest->wpAny (model prog w) A (call (.ref fI) (.ref e::rest)) (λr s'=>r=.none/\Q (.done (.ret (.ref e))) s') E ⟨h',g,d,t,os⟩) (hrest:rest.length<=sizeLine):
  wpAny (model prog w) A (Builtin.«type.__call__» ⟨.ref C::rest,[]⟩) Q E ⟨h,g,d,t,os⟩:=by
 repeat (first |with_reducible refine wpAny_loadPart_at hC ?_|with_reducible refine wpAny_madeBy_exc hC ?_|wp_step)
 refine codeAny_call_builtin_code (Code.quiet_builtin _ F.quiet) (wpAny_check_new_subT F T hC ?_)
 refine codeAny_exc_new_subT F T hC ?_ hrest
 show wpAny _ _ _ _ _ _
 have hC₁:=hP00 {cls:=.ref C,data:=.fields #[.ref h.objs.size,.none,.none,.none,.bool false,.none]} (hP00 {cls:=.type "tuple",data:=.seq rest.toArray} hC)
 have hfI₁:=hP00 {cls:=.ref C,data:=.fields #[.ref h.objs.size,.none,.none,.none,.bool false,.none]} (hP00 {cls:=.type "tuple",data:=.seq rest.toArray} hfI)
 have hn₁:((h.push {cls:=.type "tuple",data:=.seq rest.toArray}).push {cls:=.ref C,data:=.fields #[.ref h.objs.size,.none,.none,.none,.bool false,.none]}).Ns N mN:=
  let ⟨o,es,ep,e,r⟩:=hn;⟨o,es,ep,hP00 _ (hP00 _ e),r⟩
 have hget:((h.push {cls:=.type "tuple",data:=.seq rest.toArray}).push {cls:=.ref C,data:=.fields #[.ref h.objs.size,.none,.none,.none,.bool false,.none]}).get? (h.objs.size+1)=some {cls:=.ref C,data:=.fields #[.ref h.objs.size,.none,.none,.none,.bool false,.none]}:=by heap_get
 have hcC:(Value.ref C::bm).contains (.ref C)=true:=by simp
 have T₁:=T.keeps (h':=(h.push {cls:=.type "tuple",data:=.seq rest.toArray}).push {cls:=.ref C,data:=.fields #[.ref h.objs.size,.none,.none,.none,.bool false,.none]}) λb o e=>hP00 _ (hP00 _ e)
 unfold isInstance
 repeat (first |with_reducible refine wpAny_loadPart_at hget ?_|(with_reducible refine wpAny_isSubtype_exc hC₁ ?_;rw [hcC])|wp_step)
 show wpAny _ _ (typeLookup (.ref C) _) _ _ _
 refine wpAny_typeLookup_tail hC₁ hn₁ T₁ F.mroIs F.init.lookup ?_
 rw [hi]
 refine wpAny_holding (wB0 ?_)
 unfold bindSpecial
 refine wB0 (wpAny_typeOf (T:="function") ⟨_,hfI₁,hfc⟩ ?_)
 rw [iP (by decide)]
 refine wP0 (wB0 (wpAny_mono (hq _ (h.objs.size+1) ⟨λb o hb=>hP00 _ (hP00 _ hb),Heap.get?_none_of_le (le_succ _),h.objs.size,hget,Heap.get?_none_of_le (le_refl _),?_⟩) (λr s' hr=>?_) λ_ _ x=>x))
 ·exact hP00 _ (Heap.get?_push_at rfl rfl)
 ·obtain⟨rfl,hQ⟩:=hr
  wp_walk
  exact hQ
theorem yBY(F:ExcBaseFacts B newId initId bmB)(T:OwnTail h bmB bm){mN:Str->Option Value}{rest:List Value}{fI:Addr}{oI:Obj}{Q:Value->Shared->Prop}
  (hC:h.get? C=some (excClassObj nm q C N bs bm hdct sn sub ab col dd k0 k1 k2 k3 k5 newId)) (hn:h.Ns N mN) (hi:mN "__init__"=some (.ref fI)) (hfI:h.get? fI=some oI) (hfc:oI.cls=.type "function")
  (hq: ∀h' e,Heap.MadeExcOf h h' e (.ref C) rest->wpAny (model prog w) (A.under (.builtin "type.__call__" ⟨.ref C::rest,[]⟩)) (call (.ref fI) (.ref e::rest)) (λr s'=>r=.none/\Q (.ref e) s') E ⟨h',g,d,t,os⟩) (hrest:rest.length<=sizeLine):
  wpAny (model prog w) A (call (.ref C) rest) Q E ⟨h,g,d,t,os⟩:=by
 have f1:=tc_lookup
 have f2:=tc_bind (.ref C)
 have hT:(⟨h,g,d,t,os⟩:Shared).TypeIs (.ref C) "type":=⟨_,hC,rfl⟩
 refine wpAny_call (codeAny_of_tree ?_)
 show wpAny _ _ (callAny (.ref C) _) _ _ _
 repeat (any_goals (first |assumption|with_reducible refine wpAny_loadPart_at hC ?_|wp_step))
 refine⟨rfl,?_⟩
 refine codeAny_call_builtin_at (Code.quiet_builtin _ (by decide+kernel)) entry_typeCall (wpAny_check_type_call_sub hC (zQF (hrest:=hrest) F T hC hn hi hfI hfc λh' e hm=>?_))
 exact hq h' e hm
end
section
variable{prog:Program}{w:World}{A:Around}{E:Value->Shared->Prop}{s:Shared}{env:Env}
variable{nm q:Str}{C N:Addr}{bs bm bmB:List Value}{hdct:Bool}{sn:List Str}{sub:List Value}{ab:Bool}{col:Option Bool}{dd:Option Addr}{k0 k1 k2 k3 k5:Option Value}{B newId initId:String}
theorem zSH{M:Model}{x:Sem Value}{Q:Flow->Shared->Prop}(hbase:bm.contains (.type "BaseException")=true)(hh:A.handled=none)
  (h:wpAny M A x (λv s₁=> ∃e dX vs,v=.ref e/\s₁.heap.get? C=some (excClassObj nm q C N bs bm hdct sn sub ab col dd k0 k1 k2 k3 k5 newId)/\s₁.heap.get? e=some {cls:=.ref C,dict:=dX,data:=.fields #[.ref vs,.none,.none,.none,.bool false,.none]}/\E (.ref e) s₁) E s):
  wpAny M A (raiseStmt env (some x) none) Q E s:=by
 have hcB:(Value.ref C::bm).contains (.type "BaseException")=true:=by rw [contains_cons,hbase,Bool.or_true]
 unfold raiseStmt
 refine wB0 (wpAny_mono h (λv s₁ h₁=>?_) λ_ _ x=>x)
 obtain⟨e,dX,vs,rfl,hC,he,hE⟩:=h₁
 obtain⟨hp,g,d,tk,os⟩:=s₁
 repeat (first |with_reducible refine wpAny_loadPart_at he ?_|with_reducible refine wpAny_loadPart_at hC ?_|(with_reducible refine wpAny_isSubtype_exc hC ?_;rw [hcB])|wp_step)
 exact wpAny_raiseNew_none hh hE
theorem zYZ(F:ExcBaseFacts B newId initId bmB){mN:Str->Option Value}{x:Str}{np cpos pos:Pos}{args:List Expr}{fI:Addr}{oI:Obj}{Q:Flow->Shared->Prop}
  (hbase:bm.contains (.type "BaseException")=true) (hh:A.handled=none) (hplain:(backTo cpos (starEach args env)).any (·.1)=false) (hi:mN "__init__"=some (.ref fI)) (hfc:oI.cls=.type "function")
  (h:wpAny (model prog w) A (eval (.Name x np) env) (λf s₁=>f=.ref C/\wpAny (model prog w) A (evalArgs (.ref C) true (backTo cpos (starEach args env)) [])
   (λa s₂=>a.kw=[]/\a.pos.length<=sizeLine/\s₂.heap.get? C=some (excClassObj nm q C N bs bm hdct sn sub ab col dd k0 k1 k2 k3 k5 newId)/\s₂.heap.Ns N mN/\OwnTail s₂.heap bmB bm/\s₂.heap.get? fI=some oI/\
    ∀h' e,Heap.MadeExcOf s₂.heap h' e (.ref C) a.pos->wpAny (model prog w) (A.under (.builtin "type.__call__" ⟨.ref C::a.pos,[]⟩)) (call (.ref fI) (.ref e::a.pos))
     (λr s'=>r=.none/\ ∃dX vs,s'.heap.get? C=some (excClassObj nm q C N bs bm hdct sn sub ab col dd k0 k1 k2 k3 k5 newId)/\s'.heap.get? e=some {cls:=.ref C,dict:=dX,data:=.fields #[.ref vs,.none,.none,.none,.bool false,.none]}/\E (.ref e) s') E {s₂ with heap:=h'}) E s₁) E s):
  wpAny (model prog w) A (exec (.Raise (some (.Call (.Name x np) args [] cpos)) none pos) env) Q E s:=by
 rw [arm_exec_Raise]
 first
  |refine wB0 (wpAny_standAt (zSH (C:=C) (nm:=nm) (q:=q) (N:=N) (bs:=bs) (bm:=bm) (hdct:=hdct) (sn:=sn) (sub:=sub) (ab:=ab) (col:=col) (dd:=dd) (k0:=k0) (k1:=k1) (k2:=k2) (k3:=k3) (k5:=k5) (newId:=newId) hbase hh (wB0 (wpAny_mono (wpAny_Call_ofName (wpAny_mono h (λf s₁ h₁=>?_) λ_ _ x=>x)) (λv s₃ h₃=>wB0 (wpAny_standAt (wP0 h₃))) λ_ _ x=>x))))
  |(simp only [evalOpt,Option.map];refine wB0 (wpAny_standAt (zSH (C:=C) (nm:=nm) (q:=q) (N:=N) (bs:=bs) (bm:=bm) (hdct:=hdct) (sn:=sn) (sub:=sub) (ab:=ab) (col:=col) (dd:=dd) (k0:=k0) (k1:=k1) (k2:=k2) (k3:=k3) (k5:=k5) (newId:=newId) hbase hh (wB0 (wpAny_mono (wpAny_Call_ofName (wpAny_mono h (λf s₁ h₁=>?_) λ_ _ x=>x)) (λv s₃ h₃=>wB0 (wpAny_standAt (wP0 h₃))) λ_ _ x=>x)))))
 obtain⟨rfl,h₁⟩:=h₁
 unfold callWith
 refine wB0 (wpAny_holding (wpAny_mono h₁ (λa s₂ h₂=>wB0 (wpAny_standAt ?_)) λ_ _ x=>x))
 obtain⟨apos,akw⟩:=a
 obtain⟨hkw,hlen,hC,hn,T,hfI,h₂⟩:=h₂
 obtain rfl:akw=[]:=hkw
 obtain⟨hp,g,d,tk,os⟩:=s₂
 simp only [hplain]
 refine wB0 (wpAny_keeperOf_exc hC ?_)
 refine wB0 (yBY (hrest:=hlen) F T hC hn hi hfI hfc λh' e hm=>wpAny_mono (h₂ h' e hm) (λr s' ⟨hr,dX,vs,a1,a2,a4⟩=>⟨hr,wB0 (wpAny_holding (wpAny_point (wP0 ⟨e,dX,vs,rfl,a1,a2,a4⟩)))⟩) λ_ _ z=>z)
end
open Builtin Builtin.ObjectAttr
section
variable{prog:Program}{w:World}{A:Around}{E:Value->Shared->Prop}{h:Heap}{g:Array GenState}{d:Drawn}{t:Nat}{os:OsState}{C M x:Addr}{o:Obj}{v:Value}{name:Str}
variable{nm q:Str}{N:Addr}{bs bm:List Value}{sn:List Str}{sub:List Value}{ab:Bool}{col:Option Bool}{dd:Option Addr}{k0 k1 k2 k3 k5:Option Value}{newId:String}
theorem yBZ{Mo:Model}{nameV:Value}{Q:Unit->Shared->Prop}(O:zFT h C M)(hx:h.get? x=some o)(hc:o.cls=.ref C)(hq:Q () ⟨h,g,d,t,os⟩):
  wpAny Mo A (checkBuiltinCall "object.__setattr__" ⟨[.ref x,nameV,v],[]⟩) Q E ⟨h,g,d,t,os⟩:=by
 have SF:=F.store_ValueError
 have hcB:(Value.ref C::.ref M::bmV).contains (.type "object")=true:=by simp [contains_cons]
 have ha:=SF.args (.ref x) nameV v
 simp only [checkBuiltinCall,SF.kind,SF.split]
 refine wB0 ?_
 ·unfold isInstance
  repeat (first |(with_reducible refine wpAny_loadPart_at hx ?_;rw [hc])|(with_reducible refine zFU O ?_;rw [hcB])|wp_step)
  exact hq
def yPS(h h':Heap)(x:Addr)(o:Obj)(name:Str)(v:Value)(dx:Addr):Prop:=
 h.get? dx=none/\dx≠x/\h'.get? x=some {cls:=o.cls,dict:=some dx,data:=o.data,slots:=o.slots}/\h'.Ns1 dx (λy=>if y=name then some v else none)/\ ∀b ob,b≠x->h.get? b=some ob->h'.get? b=some ob
theorem yCA{tk:Tok}{Q:Fin->Shared->Prop}(O:zFT h C M)(hC:h.get? C=some (excClassObj nm q C N bs (.ref M::bmV) true sn sub ab col dd k0 k1 k2 k3 k5 newId))(hx:h.get? x=some o)(hc:o.cls=.ref C)(hdn:o.dict=none)(hnc: ∀c,o.data≠.cls c)
  (hn:name∈qn) (hB:typeLookup (.type "ValueError") name=pure none) (hq: ∀h' tk' dx,yPS h h' x o name v dx->Q (.done (.ret .none)) ⟨h',g,d,tk',os⟩):
  wpAny (model prog w) A (Builtin.«object.__setattr__» ⟨[.ref x,.str name tk,v],[]⟩) Q E ⟨h,g,d,t,os⟩:=by
 have hpass:=F.store_ValueError.passes (.ref x)
 unfold Builtin.«object.__setattr__»
 repeat (first |rw [refuse_eq]|(rw [refuseLoop_ref,refuseLoop_ref,hpass])|(with_reducible refine wpAny_loadPart_at hx ?_;rw [hc])|with_reducible refine wpAny_mroOf_exc hC ?_|with_reducible refine zDV O hn hB ?_|wp_step)
 rw [hdn,iN0 (by simp [typeHasDict])]
 split
 ·rename_i hcd
  cases hcd
 split
 ·rename_i c hcd
  exact absurd hcd (hnc c)
 ·have hx₁:(h.push {cls:=.type "dict",data:=.dict #[]}).get? x=some o:=hP00 _ hx
  have hxs:x≠h.objs.size:=ne_of_lt (Heap.lt_size hx)
  refine wB0 (wpAny_alloc' ?_)
  refine wB0 (wpAny_update' hx₁ ?_)
  refine wP0 ?_
  have hgd:((h.push {cls:=.type "dict",data:=.dict #[]}).update x λo=>{cls:=o.cls,dict:=some h.objs.size,data:=o.data,slots:=o.slots}).get? h.objs.size=some {cls:=.type "dict",data:=.dict #[]}:=
   (Heap.get?_update_ne _ _ _ _ hxs.symm).trans (Heap.get?_push_at rfl rfl)
  have hnd:((h.push {cls:=.type "dict",data:=.dict #[]}).update x λo=>{cls:=o.cls,dict:=some h.objs.size,data:=o.data,slots:=o.slots}).Ns h.objs.size (λ_=>none):=
   ⟨_,#[],_,hgd,rfl,λe he=>absurd he (by simp),λ_=>rfl⟩
  show wpAny _ _ (storeInDict h.objs.size (.str name tk) name v) _ _ _
  unfold storeInDict newKeyGuard
  refine wB0 (wP0 (wB0 (wpAny_nsSet1 (Heap.Ns1.of_empty hnd) λh' hn' hs=>?_)))
  obtain⟨oD,esD,epD,hoD,hdD,hcD⟩:=hn'.count (Within.cons name v Within.nil)
  refine wB0 (wpAny_lookBehind hoD (by rw [hdD];exact pastItsLine_dict (le_trans hcD (by rw [lC0,length_nil,sizeLine_eq];omega))) ?_)
  wp_walk
  refine hq h' _ h.objs.size ⟨Heap.get?_none_of_le (le_refl _),hxs.symm,?_,hn',λb ob hbx hb=>(hs.2 b (ne_of_lt (Heap.lt_size hb))).trans ((Heap.get?_update_ne _ _ _ _ hbx).trans (hP00 _ hb))⟩
  refine(hs.2 x hxs).trans (Heap.get?_update_self _ hx₁ ?_)
  have hfr:=(Heap.get?_some_iff.mp hx).2
  obtain⟨oc,od,odt,osl⟩:=o
  cases odt<;>first |rfl|exact hfr
theorem yGZ{Q:Unit->Shared->Prop}(O:zFT h C M)(hC:h.get? C=some (excClassObj nm q C N bs (.ref M::bmV) true sn sub ab col dd k0 k1 k2 k3 k5 newId))(hx:h.get? x=some o)(hc:o.cls=.ref C)(hdn:o.dict=none)(hnc: ∀c,o.data≠.cls c)
  (hn:name∈qn) (hB:typeLookup (.type "ValueError") name=pure none) (hq: ∀h' tk' dx,yPS h h' x o name v dx->Q () ⟨h',g,d,tk',os⟩):wpAny (model prog w) A (setAttr (.ref x) name v) Q E ⟨h,g,d,t,os⟩:=by
 have f3:=F.store_ValueError.slot.bind (.ref x)
 have q4:("__setattr__":Str)∈qn:=by decide
 unfold setAttr callSpecial? specialOf
 repeat (any_goals (first |assumption|(with_reducible refine wpAny_loadPart_at hx ?_;rw [hc])|with_reducible refine zDV O q4 F.store_ValueError.slot.lookup ?_|wp_step))
 refine codeAny_call_builtin F.store_ValueError.slot.plain F.store_ValueError.entry (yBZ O hx hc (yCA O hC hx hc hdn hnc hn hB λh' tk' dx hs=>?_))
 repeat (any_goals (first |assumption|wp_step))
 exact hq h' tk' dx hs
theorem yCB{tk:Tok}{dx:Addr}{mA:Str->Option Value}{Q:Fin->Shared->Prop}(O:zFT h C M)(hC:h.get? C=some (excClassObj nm q C N bs bm true sn sub ab col dd k0 k1 k2 k3 k5 newId))(hx:h.get? x=some o)(hc:o.cls=.ref C)(hdx:o.dict=some dx)(hnc: ∀c,o.data≠.cls c)(hns:h.Ns1 dx mA)(hv:mA name=some v)
  (hn:name∈qn) (hB:typeLookup (.type "ValueError") name=pure none) (hq:Q (.done (.ret v)) ⟨h,g,d,t,os⟩):
  wpAny (model prog w) A (Builtin.«object.__getattribute__» ⟨[.ref x,.str name tk],[]⟩) Q E ⟨h,g,d,t,os⟩:=by
 repeat (any_goals (first |assumption|(with_reducible refine wpAny_loadPart_at hx ?_;rw [hc])|with_reducible refine zDV O hn hB ?_|wp_step))
 split
 ·rename_i c hcd
  exact absurd hcd (hnc c)
 unfold instanceDict
 repeat (first |(with_reducible refine wpAny_loadPart_at hx ?_;rw [hc])|with_reducible refine wpAny_loadPart_at hC ?_|wp_step)
 rw [hdx]
 repeat (first |(with_reducible refine wpAny_nsGet hns.ns ?_;rw [hv])|wp_step)
 exact hq
theorem yHA{tk:Tok}{dx:Addr}{mA:Str->Option Value}{R:Result->Shared->Prop}(O:zFT h C M)(hC:h.get? C=some (excClassObj nm q C N bs bm true sn sub ab col dd k0 k1 k2 k3 k5 newId))(hx:h.get? x=some o)(hc:o.cls=.ref C)(hdx:o.dict=some dx)(hnc: ∀c,o.data≠.cls c)(hns:h.Ns1 dx mA)(hv:mA name=some v)
  (hn:name∈qn) (hB:typeLookup (.type "ValueError") name=pure none) (hq:R (.ok (.ret v)) ⟨h,g,d,t,os⟩):
  codeAny (model prog w) A (.call (.builtin "BaseException.__getattribute__") ⟨[.ref x,.str name tk],[]⟩) R ⟨h,g,d,t,os⟩:=
 codeAny_call_builtin F.attrBase_ValueError.ga.plain F.entry_bexc_ga (zUN O hx hc (yCB O hC hx hc hdx hnc hns hv hn hB hq))
theorem yOE{tk:Tok}{dx:Addr}{mA:Str->Option Value}{fill expr:Bool}{Q:Value->Shared->Prop}(O:zFT h C M)(hC:h.get? C=some (excClassObj nm q C N bs bm true sn sub ab col dd k0 k1 k2 k3 k5 newId))(hx:h.get? x=some o)(hc:o.cls=.ref C)(hdx:o.dict=some dx)(hnc: ∀c,o.data≠.cls c)(hns:h.Ns1 dx mA)(hv:mA name=some v)
  (hn:name∈qn) (hB:typeLookup (.type "ValueError") name=pure none) (hh:handedOut v=pure v) (hq:Q v ⟨h,g,d,t,os⟩):
  wpAny (model prog w) A (getAttrBy (.ref x) (.str name tk) fill expr) Q E ⟨h,g,d,t,os⟩:=by
 have f3:=F.attrBase_ValueError.ga.bind (.ref x)
 have hx0:(expr&&onTheHeap (Value.builtin "BaseException.__getattribute__"))=false:=by cases expr<;>rfl
 have hx2:(Value.builtin "BaseException.__getattribute__"==Value.builtin "object.__getattribute__")=false:=by decide+kernel
 have hx1:(onTheHeap (Value.ref C)&&Value.builtin "BaseException.__getattribute__"==Value.builtin "object.__getattribute__")=false:=by rw [hx2];rfl
 repeat (any_goals (first |assumption|(with_reducible refine wpAny_loadPart_at hx ?_;rw [hc])|with_reducible refine zDV O qn2 yPP ?_|with_reducible refine zDV O qn3 zYL ?_|wp_step))
 refine yHA O hC hx hc hdx hnc hns hv hn hB ?_
 repeat (any_goals (first |assumption|rw [hh]|wp_step))
theorem yHB{dx:Addr}{mA:Str->Option Value}{expr:Bool}{Q:Value->Shared->Prop}(O:zFT h C M)(hC:h.get? C=some (excClassObj nm q C N bs bm true sn sub ab col dd k0 k1 k2 k3 k5 newId))(hx:h.get? x=some o)(hc:o.cls=.ref C)(hdx:o.dict=some dx)(hnc: ∀c,o.data≠.cls c)(hns:h.Ns1 dx mA)(hv:mA name=some v)
  (hn:name∈qn) (hB:typeLookup (.type "ValueError") name=pure none) (hh:handedOut v=pure v) (hq:Q v ⟨h,g,d,t+1,os⟩):wpAny (model prog w) A (getAttr (.ref x) name expr) Q E ⟨h,g,d,t,os⟩:=by
 unfold getAttr
 repeat (any_goals (first |assumption|with_reducible apply yOE O hC hx hc hdx hnc hns hv hn hB hh|wp_step))
end
theorem zJC:typeLookup (.type "ValueError") "place"=pure none:=by rw [typeLookup_type,builtinLookup_eq_fast];kernel_rfl
abbrev exO(C:Addr)(d:Option Addr)(t:Addr):Obj:={cls:=.ref C,dict:=d,data:=.fields #[.ref t,.none,.none,.none,.bool false,.none]}
section
variable{prog:Program}{w:World}{A:Around}{E:Value->Shared->Prop}{h:Heap}{g:Array GenState}{d:Drawn}{t:Nat}{os:OsState}{C M x t0:Addr}{u:Value}
variable{nm q:Str}{N:Addr}{bs bm bmB:List Value}{hdct:Bool}{sn:List Str}{sub:List Value}{ab:Bool}{col:Option Bool}{dd:Option Addr}{k0 k1 k2 k3 k5:Option Value}{B newId initId:String}
theorem yCC(F:ExcBaseFacts B newId initId bmB)(T:OwnTail h bmB bm){Q:Value->Shared->Prop}(hC:h.get? C=some (excClassObj nm q C N bs bm hdct sn sub ab col dd k0 k1 k2 k3 k5 newId))(hx:h.get? x=some (exO C none t0))
  (hq: ∀h' t1,h'.get? x=some (exO C none t1)->(∀b ob,b≠x->h.get? b=some ob->h'.get? b=some ob)->Q .none ⟨h',g,d,t,os⟩):wpAny (model prog w) A (call (.builtin initId) [.ref x,u]) Q E ⟨h,g,d,t,os⟩:=by
 refine wpAny_call (codeAny_call_builtin F.init.plain F.initEntry (wpAny_check_init_subT F T hC hx rfl ?_))
 wp_walk
 refine hq _ (h.objs.size) ?_ λb ob hb hob=>?_
 ·rw [Heap.get?_update_self _ (hP00 _ hx) rfl]
  rfl
 ·rw [Heap.get?_update_other _ _ (Ne.symm hb)]
  exact hP00 _ hob
end
abbrev BIG:Nat:=10 ^ 100
inductive JL(par:Str):List Expr->Prop
 |nil:JL par []
 |txt {y:Str} {k:Nat} {pos:Pos} {es:List Expr}:y.length<=200->JL par es->JL par (.Constant (.str y) k pos::es)
 |fld {p pos:Pos} {es:List Expr}:JL par es->JL par (.FormattedValue (.Name par p) (-1) none pos::es)
section
variable{X:Cx}{par:Str}{i:Nat}{pins:List (Addr×Obj)}{σ:St}{H:Hp}
theorem yKG(hN:X.N[i]? =some par)(hv:Vis X.env.scope par)(hd:(par==("__debug__":Str))=false)(hcd:(par==("__classdict__":Str))=false){n:Int}(hs:σ[i]? =some (some (.int n)))(hb:n.natAbs<BIG){Q:Str->Shared->Prop}(hq: ∀y s,y.length<=100000->Inv X pins σ H s->Q y s)
  {es:List Expr} (hj:JL par es): ∀(acc:Str)(s:Shared),acc.length+200 * es.length<=100000->Inv X pins σ H s->Joins (model X.prog X.w) X.A X.xe (evalEach es X.env) acc Q s:=by
 induction hj with
 |nil=>intro acc s hl I;exact hq acc s (by simpa using hl) I
 |@txt y k pos es hy h ih=>
  intro acc s hl I
  rw [lC0]at hl
  have sl:(acc++y).length=acc.length+y.length:=PySem.strLen_append ..
  refine thn (yHU (X:=X) pins s σ H (λv H'=>v=.str y/\H'=H) I ⟨rfl,rfl⟩) λu s1 ⟨v,H',I',r,e1,e2⟩=>?_
  subst e1 e2
  obtain⟨tk,rfl⟩:=r
  exact⟨y,tk,rfl,by rw [sl,sizeLine_eq];omega,ih (acc++y) s1 (by rw [sl];omega) I'⟩
 |@fld p pos es h ih=>
  intro acc s hl I
  rw [lC0]at hl
  have len:(Str.ofString (toString n)).length<=101:=by rw [PySem.ofString_length];exact int_text_length_le10 (k:=100) (by decide) hb
  have sl:(acc++(toString n:Str)).length<=acc.length+101:=by
   have:=PySem.strLen_append acc (toString n:Str)
   rw [this];exact Nat.add_le_add_left len _
  have hlog:n.natAbs.log2<1920:=by
   by_cases z:n.natAbs=0
   ·rw [z];decide
   ·exact(log2_lt z).mpr (Nat.lt_trans hb (by decide+kernel))
  refine wpAny_FormattedValue_plain (thn (zRJ (X:=X) hN hv hd hcd pins s σ H (λv H'=>v=.int n/\H'=H) I ⟨_,hs,rfl,rfl⟩) λu s1 ⟨v,H',I',r,e1,e2⟩=>?_)
  subst e1 e2
  obtain⟨tk,rfl⟩:=r
  exact wpAny_formatField_int hlog ⟨_,_,rfl,by rw [sizeLine_eq];omega,ih _ _ (by omega) (I'.tok _)⟩
def tJ(i:Nat):TE:=λσ H Q=> ∃n,σ[i]? =some (some (.int n))/\n.natAbs<BIG/\ ∀y:Str,Q (.str y) H
theorem yOF{v1 v2:Expr}{vs:List Expr}{pos:Pos}(hN:X.N[i]? =some par)(hv:Vis X.env.scope par)(hd:(par==("__debug__":Str))=false)(hcd:(par==("__classdict__":Str))=false)(h:JL par (v1::v2::vs))(hl:vs.length<=100):PE X (.JoinedStr (v1::v2::vs) pos) (tJ i):=by
 intro pins s σ H Q I ⟨n,hs,hb,q⟩
 refine wpAny_JoinedStr (yKG (pins:=pins) (H:=H) hN hv hd hcd hs hb (λy s1 hy I1=>⟨by rw [sizeLine_eq];omega,.str y,H,I1.tok _,⟨_,rfl⟩,q y⟩) h _ s ?_ I)
 rw [lC0,lC0]
 show 0+_<=_
 omega
end
def drp(H:Hp)(e:Addr):Hp:=λb=>if b=e then none else H b
theorem zLX{H:Hp}{e b:Addr}(h:b≠e):drp H e b=H b:=by unfold drp;rw [iN0 h]
theorem zZA{H:Hp}{e:Addr}:drp H e e=none:=by unfold drp;rw [iP rfl]
theorem Inv.untrack{X:Cx}{pins:List (Addr×Obj)}{σ:St}{H:Hp}{s:Shared}{e:Addr}{φ:Heap->Prop}(J:Inv X pins σ H s)(he:H e=some (.ext φ)):Inv X pins σ (drp H e) s:=by
 have ne: ∀b u,H b=some u->(∀φ,u≠.ext φ)->b≠e:=λb u q z y=>by rw [y,he]at q;cases q;exact z _ rfl
 have nn: ∀b,H b=none->drp H e b=none:=λb q=>by unfold drp;split<;>trivial
 refine⟨J.ok,J.os,J.bare,⟨J.base.keep,J.base.slot,λb ob q n hx=>nn b (J.base.free b ob q n hx),J.base.there,λb xs q=>?_,λb o' u q=>?_,λb ps q=>?_⟩,J.loc,J.cell,nn _ J.free,λx c hc=>nn _ (J.freeC x c hc),λp hp=>?_,λb u q=>?_,J.len⟩
 ·rw [zLX (ne b _ (J.base.tups b xs q) λ_ z=>by cases z)];exact J.base.tups b xs q
 ·rw [zLX (ne b _ (J.base.frzs b o' u q) λ_ z=>by cases z)];exact J.base.frzs b o' u q
 ·obtain⟨mo,z⟩:=J.base.tbls b ps q
  exact⟨mo,by rw [zLX (ne b _ z λ_ z=>by cases z)];exact z⟩
 ·obtain⟨e1,n,r⟩:=J.pin p hp
  exact⟨e1,nn _ n,r⟩
 ·by_cases z:b=e
  ·rw [z,zZA]at q;cases q
  ·rw [zLX z]at q
   exact(J.hok b u q).stay (λ_ _ _ r=>r) (λc r=>by rw [zLX (ne c _ r λ_ z=>by cases z)];exact r) λc xs r=>by rw [zLX (ne c _ r λ_ z=>by cases z)];exact r
namespace M
structure XIn(K:PySem.W.Frag)(M C f:Addr):Prop where
 ex: ∃nm q N bs sn sub ab col dd k0 k1 k2 k3 k5,K.lookup C=some (excClassObj nm q C N bs (.ref M::bmV) true sn sub ab col dd k0 k1 k2 k3 k5 "ValueError.__new__")/\PySem.W.nsOkIn K N=true/\PySem.W.nsIn K N "__init__"=some (some (.ref f))/\ ∀n∈qn,PySem.W.nsIn K N n=some none
 fo: ∃o,K.lookup f=some o/\o.cls=.type "function"
theorem XIn.cl{K:PySem.W.Frag}{M C f:Addr}(x:XIn K M C f):XCl K C (.ref M::bmV) (some (.ref f)):=by
 obtain⟨nm,q,N,bs,sn,sub,ab,col,dd,k0,k1,k2,k3,k5,a,b,c,d⟩:=x.ex
 exact⟨nm,q,N,bs,true,sn,sub,ab,col,dd,k0,k1,k2,k3,k5,a,b,c,d,rfl⟩
structure XMn(K:PySem.W.Frag)(M:Addr):Prop where
 ga:PySem.W.specialIn K (.ref M) "__getattribute__"=some (some (.builtin "type.__getattribute__"))
 rd:PySem.W.readsIn K M (.type "type")=true
 init:PySem.W.findCls K (.ref M) (.type "type") "__init__"=some (.val (.builtin "ValueError.__init__"))
def zLF(C:Addr)(fld:Str):Sp:=λvs H Q _=> ∃e n t0,vs=[.ref e,.int n]/\n.natAbs<BIG/\H e=some (.ext λh=>h.get? e=some (exO C none t0))/\
 ∀dx od t1,H dx=none->dx≠e->Q .non (upd (upd H dx (.frz od (.xd [(fld,.int n)]))) e (.ext λh=>h.get? e=some (exO C (some dx) t1)))
theorem yPT{K:PySem.W.Frag}{h:Heap}{M:Addr}(X:K.In h)(m:XCl K M bmV none):OwnTail h bmV (.ref M::bmV):=by
 obtain⟨_,_,N',_,_,_,_,_,_,_,_,_,_,_,_,lM,oM,iM,_⟩:=m
 exact .own (X _ _ lM) (.of_isNs (PySem.W.isNs_of_in X oM)) (PySem.W.nsMap_none_of_in X oM iM) .base
section
variable{X:Cx}{M C f:Addr}{fld par:Str}{p1 p2 p3 p4 p5 p6 p7 p8 p9 p10:Pos}{v1 v2:Expr}{vs:List Expr}
theorem yKH{pl:Sem Bool}(hM:XCl X.K M bmV none)(XI:XIn X.K M C f)(XM:XMn X.K M)(hmg:X.mg "MendError"=some (.ref M))(hg:Gl X "MendError")(hN0:X.N[0]? =some ("self":Str))(hN1:X.N[1]? =some par)(hv0:Vis X.env.scope "self")(hv1:Vis X.env.scope par)
  (hd:(par==("__debug__":Str))=false) (hcd:(par==("__classdict__":Str))=false) (hj:JL par (v1::v2::vs)) (hl:vs.length<=100) (hf:fld∈qn) (hB:typeLookup (.type "ValueError") fld=pure none) (hcalm:X.calm=true)
  (ht:eval (.Call (.Attribute (.Name "MendError" p1) "__init__" p2) [.Name "self" p3,.JoinedStr (v1::v2::vs) p4] [] p5) X.env=(do
   let ov <-eval (.Name "MendError" p1) X.env
   standAt p2.atName
   let (f,first) <-holding [ov] (getMethod ov "__init__" pl)
   callWith p5 f first (backTo p5 (starEach [.Name "self" p3,.JoinedStr (v1::v2::vs) p4] X.env)) (backToKw p5 (keywordEach [] X.env))))
  (hs1:swapsWith (.Call (.Attribute (.Name "MendError" p1) "__init__" p2) [.Name "self" p3,.JoinedStr (v1::v2::vs) p4] [] p5) none p6.line X.env=pure false) (hs2:swapsWith (.Name par p9) (some (.Attribute (.Name "self" p7) fld p8)) p10.line X.env=pure false)
  (he:starEach [Expr.Name "self" p3,.JoinedStr (v1::v2::vs) p4] X.env=(false,eval (.Name "self" p3) X.env)::starEach [.JoinedStr (v1::v2::vs) p4] X.env:=by rfl) (he2:starEach [Expr.JoinedStr (v1::v2::vs) p4] X.env=(false,eval (.JoinedStr (v1::v2::vs) p4) X.env)::starEach [] X.env:=by rfl)
  (hpl:(backTo p5 (starEach [Expr.JoinedStr (v1::v2::vs) p4] X.env)).any (·.1)=false:=by rfl):
  PSs X [.Expr (.Call (.Attribute (.Name "MendError" p1) "__init__" p2) [.Name "self" p3,.JoinedStr (v1::v2::vs) p4] [] p5) p6,.Assign [.Attribute (.Name "self" p7) fld p8] (.Name par p9) p10]
   (λD σ H=> ∃e n t0,σ[0]? =some (some (.ref e))/\σ[1]? =some (some (.int n))/\n.natAbs<BIG/\H e=some (.ext λh=>h.get? e=some (exO C none t0))/\
    ∀dx od t1,H dx=none->dx≠e->D.nx σ (upd (upd H dx (.frz od (.xd [(fld,.int n)]))) e (.ext λh=>h.get? e=some (exO C (some dx) t1)))):=by
 intro pins s σ H D I ⟨e,n,t0,s0,s1,hb,hH,q⟩
 obtain⟨nm,qq,N,bs,sn,sub,ab,col,dd,k0,k1,k2,k3,k5,lC,oN,iN,qN⟩:=XI.ex
 refine wpAny_execs_cons (wpAny_Expr_any ?_ I.quiet hs1)
 refine PySem.W.methodCall_KW (pl:=pl) (zDR I hg hmg ?_) ht
 refine PySem.W.method_cls I.kIn XM.ga (PySem.W.cls_value I.kIn XM.rd XM.init rfl ?_)
 refine PyProof.Rows.callWith_builtin1 (thn (zDS (zRJ (X:=X) hN0 hv0) (zDS (yOF hN1 hv1 hd hcd hj hl) zRL he2) he p5 pins _ σ H (λvs H1=> ∃y,vs=[.ref e,.str y]/\H1=H) (I.tok _) ⟨_,s0,n,s1,hb,λy=>⟨y,rfl,rfl⟩⟩) ?_) he hpl
 rintro us s2 ⟨vs2,H2,I2,r2,y,e2,e3⟩
 subst e2
 rw [e3]at I2
 obtain⟨u1,rfl⟩: ∃u1,us=[.ref e,u1]:=by
  cases r2 with
  |cons r1 r=>cases r with
   |cons r2 r=>cases r;cases r1;exact⟨_,rfl⟩
 have hx2:s2.heap.get? e=some (exO C none t0):=(I2.hok e _ hH).1
 have mu:Mut (H e):=by rw [hH];trivial
 obtain⟨hp2,g2,d2,tk2,os2⟩:=s2
 refine yCC F.excBase_ValueError (yPT I2.kIn hM) (I2.kIn _ _ lC) hx2 λh3 t1 hx3 k3'=>?_
 have I3:Inv X pins σ (upd H e (.ext λh=>h.get? e=some (exO C none t1))) ⟨h3,g2,d2,tk2,os2⟩:=
  I2.write (t':=tk2) mu (.inl rfl) (λb u hb' hu=>k3' b u hb' hu) ⟨_,hx3⟩ ⟨hx3,⟨_,hx3⟩,λh1 h2 z k=>k _ z⟩
 refine wpAny_execs_cons (plainObj_wpAny_Assign_Attribute ?_ hs2)
 refine thn (zRJ (X:=X) hN1 hv1 hd hcd pins _ σ _ (λv H'=>v=.int n/\H'=upd H e (.ext λh=>h.get? e=some (exO C none t1))) I3 ⟨_,s1,rfl,rfl⟩) ?_
 rintro u s4 ⟨v4,H4,I4,r4,e4,e5⟩
 subst e4 e5
 refine thn (zRJ (X:=X) hN0 hv0 (by decide) (by decide) pins _ σ _ (λv H'=>v=.ref e/\H'=upd H e (.ext λh=>h.get? e=some (exO C none t1))) I4 ⟨_,s0,rfl,rfl⟩) ?_
 rintro u5 s5 ⟨v5,H5,I5,r5,e6,e7⟩
 subst e6 e7
 cases r5
 have hx5:s5.heap.get? e=some (exO C none t1):=(I5.hok e _ yB).1
 obtain⟨hp5,g5,d5,tk5,os5⟩:=s5
 refine yGZ (zNK I5.kIn XI.cl hM) (I5.kIn _ _ lC) hx5 rfl rfl (λc z=>by cases z) hf hB λh6 tk6 dx st=>wpAny_execs_nil ?_
 obtain⟨n6,ne6,hx6,ns6,k6⟩:=st
 obtain⟨od,es6,ep6,hd6,r6⟩:=id ns6
 have hHdx:H dx=none:=by
  have:=I5.hok.none_of n6
  rwa [zQ ne6]at this
 refine⟨σ,_,?_,q dx od t1 hHdx ne6⟩
 have hin: ∀b,b≠e->(upd (upd H dx (.frz od (.xd [(fld,.int n)]))) e (.ext λh=>h.get? e=some (exO C (some dx) t1))) b=upd H dx (.frz od (.xd [(fld,.int n)])) b:=λb hb'=>zQ hb'
 have hol: ∀b o,H b=some o->b≠dx:=λb o z y=>by rw [y,hHdx]at z;cases z
 have base5: ∀b,b≠e->(upd H e (.ext λh=>h.get? e=some (exO C none t1))) b=H b:=λb hb'=>zQ hb'
 refine I5.un (h':=h6) (t':=tk6) ⟨λb o z n' _ _=>k6 b o (λy=>by rw [y,yB]at n';cases n') z,λb o z n' _ _=>⟨o.slots,k6 b o (λy=>by rw [y,yB]at n';cases n') z⟩,λb o z n' _=>?_,λb o z _=>?_,λb xs z=>?_,λb o' u' z=>?_,λb ps z=>?_⟩ λb u' z=>?_
 ·have hbe:b≠e:=λy=>by rw [y,yB]at n';cases n'
  rw [base5 b hbe]at n'
  rw [hin b hbe,zQ (λy=>by rw [y]at z;exact absurd (show hp5.get? dx=some o from z) (by rw [n6];simp))]
  exact n'
 ·by_cases hbe:b=e
  ·exact⟨_,by rw [hbe];exact hx6⟩
  ·exact⟨o,k6 b o hbe z⟩
 ·have hbe:b≠e:=λy=>by rw [y,yB]at z;cases z
  rw [base5 b hbe]at z
  rw [hin b hbe,zQ (hol b _ z)];exact z
 ·have hbe:b≠e:=λy=>by rw [y,yB]at z;cases z
  rw [base5 b hbe]at z
  rw [hin b hbe,zQ (hol b _ z)];exact z
 ·have hbe:b≠e:=λy=>by rw [y,yB]at z;cases z
  rw [base5 b hbe]at z
  exact⟨#[],by rw [hin b hbe,zQ (hol b _ z),z];simp⟩
 ·by_cases hbe:b=e
  ·subst hbe
   rw [yB]at z;cases z
   exact⟨hx6,⟨_,hx6⟩,λh1 h2 z k=>k _ z⟩
  ·rw [hin b hbe]at z
   by_cases hbd:b=dx
   ·subst hbd
    rw [yB]at z;cases z
    refine⟨hd6,_,ns6,λy=>?_⟩
    obtain⟨tk,rfl⟩:=r4
    by_cases hy:y=fld
    ·subst hy
     rw [iP rfl,List.lookup_cons_self]
     exact⟨tk,rfl⟩
    ·rw [iN0 hy]
     have:(([(fld,V.int n)]:List (Str×V))).lookup y=none:=by
      rw [lookup_cons]
      rw [show(y==fld)=false from by simpa using hy]
      rfl
     rw [this];trivial
   ·rw [zQ hbd]at z
    have z5:(upd H e (.ext λh=>h.get? e=some (exO C none t1))) b=some u':=by rw [base5 b hbe];exact z
    have ntr: ∀c o,(upd H e (.ext λh=>h.get? e=some (exO C none t1))) c=some o->(∀φ,o≠.ext φ)->(upd (upd H dx (.frz od (.xd [(fld,.int n)]))) e (.ext λh=>h.get? e=some (exO C (some dx) t1))) c=some o:=λc o w ne=>by
     have hce:c≠e:=λy=>by rw [y,yB]at w;cases w;exact ne _ rfl
     rw [base5 c hce]at w
     rw [hin c hce,zQ (hol c _ w)];exact w
    refine(I5.hok b u' z5).stay (λc v hc r=>k6 c v ?_ r) (λc w=>ntr c _ w λ_ y=>by cases y) λc xs w=>ntr c _ w λ_ y=>by cases y
    rcases hc with rfl|hc
    ·exact hbe
    ·intro y;rw [y,yB]at hc;cases hc
end
section
variable{P:Program}{w:World}{K:PySem.W.Frag}{mg:Str->Option Value}{base:Heap}{qual:Str}{st:Stmt}{f C M:Addr}{fd:FuncData}{fld par:Str}{p1 p2 p3 p4 p5 p6 p7 p8 p9 p10:Pos}{v1 v2:Expr}{vs:List Expr}
theorem zQT{pl:Env->Sem Bool}(Fu:Fun K "__init__" qual st f fd)(Sc:FnScope ["self",par] ["self",par] (zG st))(hM:XCl K M bmV none)(XI:XIn K M C f)(XM:XMn K M)(hmg:mg "MendError"=some (.ref M))
  (hbd:kE st=[.Expr (.Call (.Attribute (.Name "MendError" p1) "__init__" p2) [.Name "self" p3,.JoinedStr (v1::v2::vs) p4] [] p5) p6,.Assign [.Attribute (.Name "self" p7) fld p8] (.Name par p9) p10])
  (ht: ∀env:Env,eval (.Call (.Attribute (.Name "MendError" p1) "__init__" p2) [.Name "self" p3,.JoinedStr (v1::v2::vs) p4] [] p5) env=(do
   let ov <-eval (.Name "MendError" p1) env
   standAt p2.atName
   let (f,first) <-holding [ov] (getMethod ov "__init__" (pl env))
   callWith p5 f first (backTo p5 (starEach [.Name "self" p3,.JoinedStr (v1::v2::vs) p4] env)) (backToKw p5 (keywordEach [] env))))
  (hs1: ∀env:Env,swapsWith (.Call (.Attribute (.Name "MendError" p1) "__init__" p2) [.Name "self" p3,.JoinedStr (v1::v2::vs) p4] [] p5) none p6.line env=pure false) (hs2: ∀env:Env,swapsWith (.Name par p9) (some (.Attribute (.Name "self" p7) fld p8)) p10.line env=pure false)
  (hg:(zG st).names.lookup ("MendError":Str)=some .globalImplicit) (h0:(zG st).names.lookup ("self":Str)=some .local) (h1:(zG st).names.lookup par=some .local)
  (hd:(par==("__debug__":Str))=false) (hcd:(par==("__classdict__":Str))=false) (hj:JL par (v1::v2::vs)) (hl:vs.length<=100) (hf:fld∈qn) (hB:typeLookup (.type "ValueError") fld=pure none):FnOk P w K mg base CX0 1 f fd ["self",par] (zLF C fld):=by
 refine Fu.ok (k:=0) Sc (λvs' H Q E ⟨e,n,t0,z,_⟩=>by rw [z];rfl) λcdv A outer s H vs' Q E hr ⟨e,n,t0,z,hb,hH,q⟩=>?_
 subst z
 rw [hbd]
 exact⟨_,yKH hM XI XM hmg hg rfl rfl (.inl h0) (.inl h1) hd hcd hj hl hf hB rfl (ht _) (hs1 _) (hs2 _),e,n,t0,rfl,rfl,hb,hH,q⟩
end
theorem yCD{K:PySem.W.Frag}{h:Heap}{N:Addr}{mg:Str->Option Value}{n:Str}{v:Value}(X:K.In h)(G:h.Ns N mg)(e:PySem.W.nsIn K N n=some (some v)):mg n=some v:=by
 obtain⟨o,es,ep,ho,hd,_,hf⟩:=G
 unfold PySem.W.nsIn at e
 split at e
 ·rename_i c d es' n' sl q
  have:=X _ _ q
  rw [ho]at this
  cases this
  cases hd
  split at e
  ·rename_i en he
   cases e
   rw [<-hf]
   unfold nsFind findBy
   rw [<-Array.find?_toList,he]
   rfl
  ·split at e<;>cases e
 ·cases e
def raF(x fld:Str):Er->Sto->R Fl
 |.val (.int n),S=>if n.natAbs<BIG then .exc x [(fld,.int n)] S else .no
 |_,_=>.no
section
variable{X:Cx}{E:XK}{e:Expr}{fe:Rho->Sto->R Er}{pos np cpos:Pos}{x fld par:Str}{C M f:Addr}{fd:FuncData}{k:Nat}
theorem zGE(hx:XOk X E)(hg:Gl X x)(hm:X.mg x=some (.ref C))(hM:XCl X.K M bmV none)(XI:XIn X.K M C f)(G:FnOk X.prog X.w X.K X.mg X.base CX0 1 f fd ["self",par] (zLF C fld))(hb:Binds X.K fd ["self",par] [])(hr:Room k X.A)(ha:PEm X (WE X.g E) e fe)
  (hk:2<=k:=by decide) (hex:X.ex=[]:=by rfl) (hcalm:X.calm=true:=by rfl) (hd:(x==("__debug__":Str))=false:=by decide) (he:starEach [e] X.env=(false,eval e X.env)::starEach [] X.env:=by rfl) (hpl:(backTo cpos (starEach [] X.env)).any (·.1)=false:=by rfl):
  PSm X (WE X.g E) (.Raise (some (.Call (.Name x np) [e] [] cpos)) none pos) (λρ S=>(fe ρ S).bind (raF x fld)):=by
 obtain⟨ta,ha,fa⟩:=ha
 refine⟨λD σ H=>ta σ H λv H1=> ∃n,v=.int n/\n.natAbs<BIG/\ ∀dx od,H1 dx=none->E (.ref C) (some dx) (upd H1 dx (.frz od (.xd [(fld,.int n)]))),λpins s σ H D I h=>?_,λα ρ S σ H D wd sl q=>fa α ρ S σ H _ wd sl (q.expr λv r S1 α1 H1 e1 x1 w1 d1 q1=>?_)⟩
 ·obtain⟨nm,q,N,bs,sn,sub,ab,col,dd,k0,k1,k2,k3,k5,lC,oN,iN,qN⟩:=XI.ex
  obtain⟨oI,lI,cI⟩:=XI.fo
  have XB:=I.mod.kin
  have hN:=Heap.Ns.of_isNs (PySem.W.isNs_of_in XB oN)
  have hni:=yCD XB hN iN
  have T:=yPT XB hM
  refine zYZ (C:=C) (nm:=nm) (q:=q) (N:=N) (bs:=bs) (bm:=.ref M::bmV) (hdct:=true) (sn:=sn) (sub:=sub) (ab:=ab) (col:=col) (dd:=dd) (k0:=k0) (k1:=k1) (k2:=k2) (k3:=k3) (k5:=k5) (fI:=f) (oI:=oI)
   F.excBase_ValueError (T.hasType F.excBase_ValueError.hasBase) (I.ok.hd hcalm) (by rw [he];exact hpl) hni cI (zDR I hg hm ⟨rfl,?_⟩ hd)
  have hr':=zDS ha zRL he cpos pins s σ H (λvs H1=>match vs with |[v]=> ∃n,v=.int n/\n.natAbs<BIG/\ ∀dx od,H1 dx=none->E (.ref C) (some dx) (upd H1 dx (.frz od (.xd [(fld,.int n)])))|_=>False) I h
  rw [he]at hr' ⊢
  refine Calls.evalArgs_plain (thn hr' λus s1 ⟨vs,H1,I1,r1,hv⟩=>?_)
  obtain⟨v0,rfl,n,rfl,hn,hE⟩: ∃v0,vs=[v0]/\ ∃n,v0=.int n/\n.natAbs<BIG/\ ∀dx od,H1 dx=none->E (.ref C) (some dx) (upd H1 dx (.frz od (.xd [(fld,.int n)]))):=by
   match vs,hv with
   |[v],hv=>exact⟨v,rfl,hv⟩
  have hlen:us.length=1:=by rw [<-r1.length];rfl
  refine⟨rfl,by show us.length<=_;rw [hlen];decide,I1.bk _ _ (XB _ _ lC),hN.keeps I1.bk,T.keeps I1.bk,I1.bk _ _ (XB _ _ lI),λh' a mk=>?_⟩
  have J1:Inv X pins σ H1 {s1 with heap:=h'}:=I1.kept (t':=s1.toks) mk.keeps
  obtain⟨t0,ht0,_,_⟩:=mk.there
  have oa:Out X pins H1 {s1 with heap:=h'} a:=⟨I1.older hex mk.new,I1.hok.none_of mk.new,λp hp z=>(by have:=(I1.pin p hp).1;rw [z,mk.new]at this;cases this),_,_,ht0,rfl⟩
  have J2:=J1.track oa ht0
  have rv:Vals [.ref a,.int n] (.ref a::us):=.cons rfl r1
  refine wpAny_call (codeAny_mono (G.run _ X.stack _ _ ⟨.ref a::us,[]⟩ (.ref a::us) [.ref a,.int n] (λv H'=>v=.non/\ ∃dx od t1,H1 dx=none/\dx≠a/\H'=upd (upd (upd H1 a (.ext λh=>h.get? a=some (exO C none t0))) dx (.frz od (.xd [(fld,.int n)]))) a (.ext λh=>h.get? a=some (exO C (some dx) t1))) E0
   ((hr.mono hk).make C us []) (J2.env0.make C us []) ?_ rv ⟨a,n,t0,rfl,hn,yB,λdx od t1 h1 h2=>⟨rfl,dx,od,t1,by rwa [zQ h2]at h1,h2,rfl⟩⟩) λr s' hq=>?_)
  ·have hh:=hb _ (.ref a::us) J2.kIn (by simp [hlen])
   rw [aN]at hh
   exact hh
  ·cases r with
   |error y=>exact hq.elim
   |ok fl=>
    cases fl with
    |ret u=>
     obtain⟨v3,H3,I3,r3,e3,dx,od,t1,hdx,hne,e4⟩:=J2.after hq
     subst e3
     have hga:s'.heap.get? a=some (exO C (some dx) t1):=(I3.hok a (.ext λh=>h.get? a=some (exO C (some dx) t1)) (by rw [e4];exact yB)).1
     have I4:=I3.untrack (e:=a) (by rw [e4];exact yB)
     have eH:drp H3 a=upd H1 dx (.frz od (.xd [(fld,.int n)])):=by
      funext b
      rw [e4]
      by_cases hba:b=a
      ·rw [hba,zZA,zQ (Ne.symm hne)];exact oa.h.symm
      ·rw [zLX hba,zQ hba]
       by_cases hbd:b=dx
       ·rw [hbd,yB,yB]
       ·rw [zQ hbd,zQ hba,zQ hbd]
     rw [eH]at I4
     exact⟨r3,_,_,I3.kIn _ _ lC,hga,hx.born pins σ _ s' a C (some dx) I4 ⟨_,_,hga,rfl,rfl,rfl,rfl⟩ oa.s0 (by rw [zQ (Ne.symm hne)];exact oa.h) (hE dx od hdx)⟩
    |next=>exact False.elim hq
    |brk=>exact False.elim hq
    |cont=>exact False.elim hq
 ·unfold raF at q1
  split at q1
  ·rename_i n
   split at q1
   ·rename_i hn
    exact⟨n,xN d1.1,hn,λdx od hdx=>q1 α1 _ (x1.trans (w1.newx hdx)) (w1.new hdx) C (some dx) hm (.inr ⟨dx,_,od,rfl,yB,.cons (wD n) .nil⟩)⟩
   ·exact q1.elim
  ·exact q1.elim
end
def yKI(ns:List Str)(fld:Str):Er->Sto->R Er
 |.val (.loc l),S=>match S[l]? with
  |some (.ins c fs)=>if c∈ns then(match fs.lookup fld with
   |some (.int n)=>.ok (.val (.int n)) S
   |_=>.no)else .no
  |_=>.no
 |_,_=>.no
theorem DenF.get{K:PySem.W.Frag}{α:List Addr}{H:Hp}{y:Str}{d:MV}: ∀{fs gs},DenF K α H fs gs->fs.lookup y=some d-> ∃v,gs.lookup y=some v/\Den K α H d v
 |_,_,.nil,h=>by simp at h
 |_,_,.cons (x:=x) a l,h=>by
  rw [lookup_cons]at h ⊢
  cases q:y==x with
  |true=>rw [q]at h;cases h;exact⟨_,rfl,a⟩
  |false=>rw [q]at h;exact DenF.get l h
section
variable{X:Cx}{W:XW}{a:Expr}{f:Rho->Sto->R Er}{pos:Pos}{M:Addr}{cs:List (Str×Addr)}{fld:Str}
theorem ySU{ns:List Str}(T:XTab X.K X.mg M cs)(hf:fld∈qn)(hB:typeLookup (.type "ValueError") fld=pure none)(ha:PEm X W a f)(hns:cs.map (·.1)=ns:=by rfl)
  (hbase:attributeBase a fld X.env (eval a X.env)=eval a X.env:=by rfl) (hgo: ∀o r,letTemporaryGo a o r=pure ():=by intro _ _;rfl):PEm X W (.Attribute a fld pos) (λρ S=>(f ρ S).bind (yKI ns fld)):=by
 subst hns
 obtain⟨ta,ha,fa⟩:=ha
 refine⟨λσ H Q=>ta σ H λv H1=> ∃aa oe dx od gs n C,v=.ref aa/\H1 aa=some (.ext λh=>h.get? aa=some oe)/\oe.cls=.ref C/\oe.dict=some dx/\H1 dx=some (.frz od (.xd gs))/\gs.lookup fld=some (.int n)/\(∃i,XCl X.K C (.ref M::bmV) i)/\(∀c,oe.data≠.cls c)/\Q (.int n) H1,
  λpins s σ H Q I h=>?_,λα ρ S σ H Q wd sl q=>fa α ρ S σ H _ wd sl (q.bind λu r S1 α1 H1 e1 x1 w1 d1 q1=>?_)⟩
 ·rw [arm_eval_Attribute,hbase]
  refine wB0 (thn (ha pins s σ H _ I h) λu s1 ⟨v,H1,I1,r1,aa,oe,dx,od,gs,n,C,e1,hH,hc,hdx,hHd,hgs,⟨i,cC⟩,hnc,q⟩=>?_)
  subst e1
  cases r1
  refine wB0 (wpAny_standAt (wB0 (wpAny_holding ?_)))
  have hx:s1.heap.get? aa=some oe:=(I1.hok aa _ hH).1
  obtain⟨_,mA,hns,hrel⟩:=I1.hok dx _ hHd
  have hr2:=hrel fld
  rw [hgs]at hr2
  cases hm:mA fld with
  |none=>rw [hm]at hr2;exact hr2.elim
  |some u=>
   rw [hm]at hr2
   obtain⟨tk,rfl⟩:=hr2
   have O:=zNK I1.kIn cC T.mc
   obtain⟨nm,q',N,bs,hdd,sn,sub,ab,col,dd,k0,k1,k2,k3,k5,lC,_,_,_,rfl⟩:=cC
   have hC:=I1.kIn _ _ lC
   obtain⟨hp,g,d,tk2,os⟩:=s1
   refine yHB O hC hx hc hdx hnc hns hm hf hB rfl ?_
   rw [hgo]
   exact wB0 (wP0 (wP0 ⟨.int n,H1,I1.tok _,⟨tk,rfl⟩,q⟩))
 ·replace q1:=q1.shift x1
  unfold yKI at q1
  split at q1
  ·rename_i l
   split at q1
   ·rename_i c fs hl
    split at q1
    ·rename_i hc
     split at q1
     ·rename_i n hlk
      obtain⟨aa,rfl,hα⟩:=zCB d1.1
      obtain⟨C,gs,hm,hden,oe,hH,hcl,hdx⟩:=w1.obj l aa _ hα hl
      obtain⟨⟨c',C'⟩,hm',rfl⟩:=mM0.mp hc
      obtain⟨z1,z2⟩:=T.each.at hm'
      have:C=C':=by
       have z:X.mg c'=some (.ref C):=hm
       rw [z1]at z;cases z;rfl
      subst this
      rcases hdx with rfl|⟨dx,od,h1,h2,vs,h3⟩
      ·simp at hlk
      ·obtain⟨v,hv,hd⟩:=hden.get hlk
       rw [gV hd]at hv
       exact⟨aa,oe,dx,od,gs,n,C,rfl,hH,hcl,h1,h2,hv,z2,(λc z=>by rw [h3]at z;cases z),Post.val q1 w1 (wD n)⟩
     ·exact q1.elim
    ·exact q1.elim
   ·exact q1.elim
  ·exact q1.elim
end
theorem xin_mk{K:PySem.W.Frag}{C N M f:Addr}{bs sub:List Value}{nm q:Str}{ab:Bool}{sn:List Str}{col:Option Bool}{dd od:Option Addr}{k0 k1 k2 k3 k5:Option Value}{oc:Value}{es:Array DictEntry}{ep:Nat}{sl:Array (Option Value)}{fo:Obj}
  (l:K.lookup C=some (excClassObj nm q C N bs (.ref M::bmV) true sn sub ab col dd k0 k1 k2 k3 k5 "ValueError.__new__")) (n:K.lookup N=some ⟨oc,od,.dict es ep,sl⟩) (o:(es.toList.all λe=>match e.key with |.str _ _=>true|_=>false)=true)
  (i:PySem.W.nsIn K N "__init__"=some (some (.ref f))) (q1:PySem.W.nsIn K N "__class__"=some none) (q2:PySem.W.nsIn K N "__getattribute__"=some none) (q3:PySem.W.nsIn K N "__getattr__"=some none)
  (q4:PySem.W.nsIn K N "__setattr__"=some none) (q5:PySem.W.nsIn K N "place"=some none) (q6:PySem.W.nsIn K N "number"=some none) (lf:K.lookup f=some fo) (cf:fo.cls=.type "function"):XIn K M C f:=by
 refine⟨⟨nm,q,N,bs,sn,sub,ab,col,dd,k0,k1,k2,k3,k5,l,?_,i,λy hy=>?_⟩,fo,lf,cf⟩
 ·unfold PySem.W.nsOkIn
  rw [n]
  rw [Array.all_toList]at o
  exact o
 ·simp only [qn,mC,nM0,or_false]at hy
  rcases hy with rfl|rfl|rfl|rfl|rfl|rfl<;>assumption
structure DefM(K:PySem.W.Frag)(mg:Str->Option Value)(x:Str)(st:Stmt):Prop where
 ex: ∃f fd,mg x=some (.ref f)/\Fun K x x st f fd
theorem def_mk{K:PySem.W.Frag}{mg:Str->Option Value}{h:Heap}{x:Str}{st:Stmt}{g:Addr}{od an:Option Addr}{sl:Array (Option Value)}{oc kV dc pm cd ct:Value}(a:PySem.W.nsIn K mainGlobals x=some (some (.ref g)))
  (l:K.lookup g=some ⟨oc,od,.func (PySem.W.fnOf x x (cN st) (kE st) (zG st) .none kV dc pm an cd ct),sl⟩) (c:PySem.W.codeIn K cd x=true) (k:PySem.W.keepIn K (.ref g)=true) (X:K.In h) (GG:h.Ns mainGlobals mg):DefM K mg x st:=⟨_,_,PySem.W.mg_of X GG a,zRP l c k⟩
structure Cal(P:Program)(w:World)(K:PySem.W.Frag)(mg:Str->Option Value)(base:Heap)(CX:CXT)(x:Str)(k:Nat)(ps:List Str)(sp:Sp):Prop where
 ex: ∃fa fd,FnOk P w K mg base CX k fa fd ps sp/\mg x=some (.ref fa)/\PySem.W.keepIn K (.ref fa)=true/\Binds K fd ps []
abbrev CalM(P:Program)(w:World)(K:PySem.W.Frag)(mg:Str->Option Value)(base:Heap)(x:Str)(k n:Nat)(ps:List Str)(F:List MV->Sto->R Er):Prop:=Cal P w K mg base CX0 x k ps (spM ⟨K,mg,P,w⟩ n F)
abbrev yKJ(P:Program)(w:World)(K:PySem.W.Frag)(mg:Str->Option Value)(base:Heap)(x:Str)(k n:Nat)(ps:List Str)(F:List MV->Sto->R Er):Prop:=Cal P w K mg base (CXe P w) x k ps (spX ⟨K,mg,P,w⟩ n F)
section
variable{P:Program}{w:World}{K:PySem.W.Frag}{mg:Str->Option Value}{base:Heap}{x:Str}{st:Stmt}{N ps:List Str}{k n:Nat}{F:List MV->Sto->R Er}
abbrev yCE(x:Str)(st:Stmt)(ps:List Str):Prop:= ∀(kV doc pm:Value)(an:Option Addr)(cdv ct:Value)(us:List Value),us.length=ps.length->bindArgs (PySem.W.fnOf x x (cN st) (kE st) (zG st) .none kV doc pm an cdv ct) ⟨us,[]⟩=pure (ps.zip us)
theorem okC(D:DefM K mg x st)(hb:yCE x st ps)(h: ∀f fd,Fun K x x st f fd->FnOk P w K mg base CX0 k f fd ps (spM ⟨K,mg,P,w⟩ n F)):CalM P w K mg base x k n ps F:=
 let ⟨f,fd,m,Fu⟩:=D.ex;⟨f,fd,h f fd Fu,m,Fu.kp,Fu.binds hb⟩
theorem yKK(D:DefM K mg x st)(hb:yCE x st ps)(h: ∀f fd,Fun K x x st f fd->FnOk P w K mg base (CXe P w) k f fd ps (spX ⟨K,mg,P,w⟩ n F)):yKJ P w K mg base x k n ps F:=
 let ⟨f,fd,m,Fu⟩:=D.ex;⟨f,fd,h f fd Fu,m,Fu.kp,Fu.binds hb⟩
theorem Cal.noX(G:yKJ P w K mg base x k n ps F):CalM P w K mg base x k n ps F:=let ⟨fa,fd,G,m,kp,b⟩:=G.ex;⟨fa,fd,G.noX,m,kp,b⟩
theorem ySV{l:PySem.W.OpenLaw}{fa:Addr}{p:Str}(D:DefM K mg x st)(hfa:mg x=some (.ref fa))(hb: ∀(kV doc pm:Value)(an:Option Addr)(cdv ct:Value)(s:Shared)(v:Value),BindsTo s (PySem.W.fnOf x x (cN st) (kE st) (zG st) .none kV doc pm an cdv ct) ⟨[v],[]⟩ [(p,v)])
  (h: ∀base f fd,Fun K x x st f fd->FnOk l.prog w K mg base CX0 k f fd [p] (spM ⟨K,mg,l.prog,w⟩ 1 F)):
  ∃fd:FuncData,(∀(s:Shared)(v:Value),BindsTo s fd ⟨[v],[]⟩ [(p,v)])/\ ∀base:Heap,K.In base->base.Ns mainGlobals mg->FnOk l.prog w K mg base CX0 k fa fd [p] (zUT K F):=by
 obtain⟨f,fd,m,Fu⟩:=D.ex
 rw [hfa]at m
 cases m
 refine⟨fd,?_,λbase _ _=>(h base fa fd Fu).imp λvs H Q E=>yJM (g:=⟨K,mg,l.prog,w⟩) vs H Q E⟩
 obtain⟨_,_,_,_,_,_,_,_,_,rfl,_,_⟩:=Fu.ex
 exact hb _ _ _ _ _ _
end
section
variable{X:Cx}{W:XW}{E:XK}{e:Expr}{es:List Expr}{af:Rho->Sto->R (List Er)}{k n:Nat}{ps:List Str}{F:List MV->Sto->R Er}{x:Str}{p pos:Pos}
theorem zI(G:CalM X.prog X.w X.K X.mg X.base x k n ps F)(hr:Room k X.A)(hg:Gl X x)(ha:PAm X W (e::es) af)(hdb:(x==("__debug__":Str))=false:=by decide)
  (he:starEach (e::es) X.env=(false,eval e X.env)::starEach es X.env:=by rfl) (hpl:(backTo pos (starEach es X.env)).any (·.1)=false:=by rfl):PEm X W (.Call (.Name x p) (e::es) [] pos) (λρ S=>(af ρ S).bind λrs S1=>zO n F rs S1):=
 let ⟨_,_,G,m,kp,b⟩:=G.ex;yDW G hr hg m kp b ha hdb he hpl
theorem zKU(hx:XOk X E)(G:yKJ X.prog X.w X.K X.mg X.base x k n ps F)(hr:Room k X.A)(hg:Gl X x)(ha:PAm X (WE X.g E) (e::es) af)(hdb:(x==("__debug__":Str))=false:=by decide)
  (he:starEach (e::es) X.env=(false,eval e X.env)::starEach es X.env:=by rfl) (hpl:(backTo pos (starEach es X.env)).any (·.1)=false:=by rfl):PEm X (WE X.g E) (.Call (.Name x p) (e::es) [] pos) (λρ S=>(af ρ S).bind λrs S1=>kW n F rs S1):=
 let ⟨_,_,G,m,kp,b⟩:=G.ex;yKD hx G hr hg m kp b ha hdb he hpl
variable{M:Addr}{cs:List (Str×Addr)}{i j:Nat}{nm y:Str}{Fh:Rho->Sto->R Fl}{b0:Stmt}{suite:List Stmt}{mp hpos cpos epos pos':Pos}{ns:List Str}
theorem yKL(T:XTab X.K X.mg M cs)(hgm:Gl X "MendError")(hN:X.N.Nodup)(G:yKJ X.prog X.w X.K X.mg X.base x k n ps F)(hr:Room k X.A)(hg:Gl X x)(ha:PAm X.nox W0 (e::es) af)(hsuite: ∀v,zOI (X.inH v) W0 (b0::suite) Fh)(hns:cs.map (·.1)=ns:=by rfl)(hi:X.N[i]? =some nm:=by rfl)(hk:X.env.kindOf nm=some .local:=by rfl)(hex:X.ex=[]:=by rfl)(hstk:X.stack=X.env::X.outer:=by rfl)(hfm:X.env.frame=some X.env.locals:=by rfl)
  (hdb:(x==("__debug__":Str))=false:=by decide) (he:starEach (e::es) X.env=(false,eval e X.env)::starEach es X.env:=by rfl) (hpl:(backTo cpos (starEach es X.env)).any (·.1)=false:=by rfl) (hs:swapsWith (.Call (.Name x p) (e::es) [] cpos) none epos.line X.env=pure false:=by rfl):
  PSm X W (.Try [.Expr (.Call (.Name x p) (e::es) [] cpos) epos] [.ExceptHandler (some (.Name "MendError" mp)) (some nm) (b0::suite) hpos] [] [] pos)
   (λρ S=>(noX (af ρ S)).bind λrs S1=>yBX ns i (λ_ S2=>.ok (.next ρ) S2) Fh ρ (kW n F rs S1)):=
 let ⟨_,_,G,m,kp,b⟩:=G.ex;yOD T hgm hN G hr hg m kp b ha hsuite hns hi hk hex hstk hfm hdb he hpl hs
end
end M
end L2
namespace L2
open PySem PySem.Spec PyProof.Rows
structure RoomH(k:Nat)(A:Around):Prop where
 dp:A.depth+3 * k+5<recursionLimit
 un:A.units+16 * k+200<cLine
theorem RoomH.mono{j k:Nat}{A:Around}(r:RoomH k A)(h:j<=k):RoomH j A:=⟨by have:=r.dp;omega,by have:=r.un;omega⟩
theorem RoomH.deeper{k:Nat}{A:Around}(r:RoomH (k+1) A)(env:Env):RoomH k (A.deeper env):=
 ⟨by have:=r.dp;show A.depth+1+3 * k+5<_;omega,by have:=r.un;show A.units+3+16 * k+200<_;omega⟩
theorem RoomH.depth{k:Nat}{A:Around}(r:RoomH k A):A.depth<recursionLimit:=by have:=r.dp;omega
theorem Room.inH{k:Nat}{A:Around}(r:Room k A)(v:Value):RoomH k (A.mark (some v)):=⟨r.dp,r.un⟩
structure FnOkH(P:Program)(w:World)(K:PySem.W.Frag)(mg:Str->Option Value)(base:Heap)(k:Nat)(f:Addr)(fd:FuncData)(ps:List Str)(sp:Sp):Prop where
 len: ∀vs H Q E,sp vs H Q E->vs.length=ps.length
 run: ∀(A:Around)(outer:List Env)(s:Shared)(H:Hp)(args:Args)(us:List Value)(vs:List V)(Q:VK)(E:XK),RoomH k A->Env0 P w K mg base A outer s H->BindsTo s fd args (ps.zip us)->Vals vs us->sp vs H Q E->
  codeAny (model P w) A (.call (.ref f) args) (CR CX0 outer P w H s Q E) s
def cxH(P:Program)(w:World)(K:PySem.W.Frag)(mg:Str->Option Value)(base:Heap)(N:List Str)(qual:Str)(scope:Scope)(f:Addr)(cd:Value)(A:Around)(outer:List Env)(s:Shared)(H:Hp):Cx:={zRM CX0 P w K mg base N qual scope f cd A outer s H E0 with calm:=false,xe:=λ_ _=>False}
section
variable{P:Program}{w:World}{K:PySem.W.Frag}{mg:Str->Option Value}{base:Heap}{k:Nat}{f:Addr}{qual:Str}{scope:Scope}{cdv:Value}{A:Around}{outer:List Env}{s s1:Shared}{H:Hp}{σ:St}{N ps:List Str}{sp:Sp}
theorem inv_H(fr:A.frames=some outer)(I:Inv (zRM CX0 P w K mg base N qual scope f cdv {A with handled:=none} outer s H E0) [] σ H s1):Inv (cxH P w K mg base N qual scope f cdv A outer s H) [] σ H s1:=
 ⟨⟨I.ok.mod,I.ok.kind,I.ok.glob,I.ok.blt,I.ok.above,I.ok.inj,I.ok.has,I.ok.cab,λz=>(by cases z),Around.frames_deeper fr,I.ok.stk,I.ok.exf,I.ok.bs,I.ok.bsz,I.ok.noex,I.ok.exfs,I.ok.funs,I.ok.frf⟩,I.os,I.bare,I.base,I.loc,I.cell,I.free,I.freeC,I.pin,I.hok,I.len⟩
theorem ySW{x:Str}{st:Stmt}{fd:FuncData}(Fu:Fun K x qual st f fd)(S:FnScope N ps (zG st))(len: ∀vs H Q E,sp vs H Q E->vs.length=ps.length)
  (hbody: ∀(cdv:Value)(A:Around)(outer:List Env)(s:Shared)(H:Hp)(vs:List V)(Q:VK)(E:XK),RoomH k (A.deeper (envOfC qual (zG st) s.heap.objs.size f cdv))->sp vs H Q E->
   ∃t,PSs (cxH P w K mg base N qual (zG st) f cdv A outer s H) (kE st) t/\t {nx:=λ_ H'=>Q .non H',rt:=Q} (start N vs) H):FnOkH P w K mg base (k+1) f fd ps sp:=by
 obtain⟨oc,od,kV,doc,pm,an,cdv,ct,osl,rfl,lk,hcd⟩:=Fu.ex
 refine⟨len,λA outer s H args us vs Q E hr e0 hb r hsp=>?_⟩
 have hl:=len _ _ _ _ hsp
 have KX:K.In s.heap:=e0.mod.kin.keeps λb o e=>(e0.bs b o e).1
 have lim:s.heap.NoLimit:=e0.mod.nolimit.keeps λb o e=>(e0.bs b o e).1
 have hkind: ∀y∈ps.zip us,(zG st).names.lookup y.1=some .local\/((zG st).names.lookup y.1=some .cell/\((cellsFrom (s.heap.objs.size+1) (zG st).names []).lookup y.1).isSome=true):=λ⟨n,v⟩ hy=>by
  rcases S.par n (of_mem_zip hy).1 with q|q
  ·exact .inl q
  ·exact .inr ⟨q,PySem.W.cellsFrom_some _ _ _ (.inl q)⟩
 refine codeAny_call_function hr.depth (KX _ _ lk) rfl S.co S.gen rfl (PySem.W.codeRec_of KX hcd) (hb _ _ _ _ ?_)
 refine wpAny_newFunctionEnv_cells S.kind hkind λenv he s1 x=>?_
 subst he
 refine⟨lim.keeps x.toInCall.keep,codeAny_func ?_⟩
 obtain⟨t,ht,hq⟩:=hbody cdv A outer s H vs Q E (hr.deeper _) hsp
 have e1:Env0 P w K mg base {A with handled:=none} outer s H:=⟨e0.frames,e0.mod,e0.bs,e0.bsz,e0.funs,e0.frf,e0.hok,e0.bare⟩
 have I:=inv_H e0.frames (zUI (CX:=CX0) (E:=E0) S rfl e1 hl r x)
 refine wpAny_mono (ht [] s1 (start N vs) H _ I hq) (λfl s' hs=>?_) λe s' hs=>hs.elim
 have fin: ∀{σ':St}{H':Hp}{v:V}{u:Value},Inv (cxH P w K mg base N qual (zG st) f cdv A outer s H) [] σ' H' s'->RelV v u->Q v H'->CE outer P w H s Q u s':=
  λ{σ' H' v u} J rv q=>⟨v,H',J.os,J.bare,J.base,J.hok,rv,q⟩
 cases fl with
 |ret u=>
  obtain⟨v,σ',H',J,rv,q⟩:=hs
  exact fin J rv q
 |next=>
  obtain⟨σ',H',J,q⟩:=hs
  exact fin (v:=V.non) (u:=Value.none) J rfl q
 |brk=>
  obtain⟨_,_,_,q⟩:=hs
  exact False.elim q
 |cont=>
  obtain⟨_,_,_,q⟩:=hs
  exact False.elim q
end
namespace M
section
variable{P:Program}{w:World}{K:PySem.W.Frag}{mg:Str->Option Value}{base:Heap}{x:Str}{st:Stmt}{N ps:List Str}{k n:Nat}{F:List MV->Sto->R Er}
structure CalH(P:Program)(w:World)(K:PySem.W.Frag)(mg:Str->Option Value)(base:Heap)(x:Str)(k n:Nat)(ps:List Str)(F:List MV->Sto->R Er):Prop where
 ex: ∃fa fd,FnOkH P w K mg base k fa fd ps (spM ⟨K,mg,P,w⟩ n F)/\mg x=some (.ref fa)/\PySem.W.keepIn K (.ref fa)=true/\Binds K fd ps []
theorem okH{f:Addr}{fd:FuncData}(Fb:Rho->Sto->R Fl)(Fu:Fun K x x st f fd)(Sc:FnScope N ps (zG st))
  (hbody: ∀(cdv:Value)(A:Around)(outer:List Env)(s:Shared)(H:Hp),RoomH k (A.deeper (envOfC x (zG st) s.heap.objs.size f cdv))->zOI (cxH P w K mg base N x (zG st) f cdv A outer s H) W0 (kE st) Fb):
  FnOkH P w K mg base (k+1) f fd ps (spM ⟨K,mg,P,w⟩ ps.length λds S=>yH (Fb (zS N ds) S)):=by
 refine ySW Fu Sc (λvs H Q E h=>?_) (λcdv A outer s H vs Q E hr h=>?_)
 ·obtain⟨α,S,ds,_,l,hl,_⟩:=h
  rw [l.length,hl]
 ·obtain⟨α,S,ds,wd,l,hl,q⟩:=h
  obtain⟨t,ht,kk⟩:=hbody cdv A outer s H hr
  refine⟨t,ht,kk α (zS N ds) S (start N vs) H _ wd (zIY l) ?_⟩
  dsimp only at q
  cases z:Fb (zS N ds) S with
  |ok fl S'=>
   rw [z]at q
   cases fl with
   |next ρ=>exact λσ α' H' x' w' s'=>q .non α' H' x' w' (DenE.val zBN)
   |ret r=>exact λv α' H' x' w' d'=>q v α' H' x' w' d'
   |brk ρ=>exact q.elim
   |cont ρ=>exact q.elim
  |exc c fs S'=>rw [z]at q;exact λα' H' x' w'=>(q α' H' x' w').elim
  |no=>rw [z]at q;exact q
theorem okCH(D:DefM K mg x st)(hb:yCE x st ps)(h: ∀f fd,Fun K x x st f fd->FnOkH P w K mg base k f fd ps (spM ⟨K,mg,P,w⟩ n F)):CalH P w K mg base x k n ps F:=
 let ⟨f,fd,m,Fu⟩:=D.ex;⟨f,fd,h f fd Fu,m,Fu.kp,Fu.binds hb⟩
end
section
variable{X:Cx}{W:XW}{e:Expr}{es:List Expr}{af:Rho->Sto->R (List Er)}{k n:Nat}{ps:List Str}{F:List MV->Sto->R Er}{x:Str}{p pos:Pos}
theorem yHC(G:CalH X.prog X.w X.K X.mg X.base x k n ps F)(hr:RoomH k X.A)(hg:Gl X x)(ha:PAm X W (e::es) af)(hdb:(x==("__debug__":Str))=false:=by decide)
  (he:starEach (e::es) X.env=(false,eval e X.env)::starEach es X.env:=by rfl) (hpl:(backTo pos (starEach es X.env)).any (·.1)=false:=by rfl):PEm X W (.Call (.Name x p) (e::es) [] pos) (λρ S=>(af ρ S).bind λrs S1=>zO n F rs S1):=by
 obtain⟨fa,fd,G,m,kp,b⟩:=G.ex
 obtain⟨t,ha,kk⟩:=ha
 refine⟨λσ H Q=>t σ H λvs H1=>spM X.g n F vs H1 Q E0,λpins s σ H Q I h=>?_,λα ρ S σ H Q wd sl q=>kk α ρ S σ H _ wd sl (q.bind λvs rs S1 α1 H1 e1 x1 w1 d1 q1=>zUP x1 w1 d1 q1)⟩
 refine wpAny_Call_Name_kw (zDR I hg m ?_ hdb)
 refine PySem.W.callWith_K (h₀:=X.base) I.ok.mod.kin kp (thn (ha pos pins s σ H _ I h) λus s1 ⟨vs,H1,I1,r,q⟩=>⟨I1.kIn,?_⟩) he hpl
 have hl:us.length=ps.length:=by rw [<-r.length];exact G.len _ _ _ _ q
 have hb:=b s1 us I1.kIn (by rw [aN];exact hl)
 rw [aN]at hb
 refine wpAny_call (codeAny_mono (G.run X.A X.stack s1 H1 ⟨us,[]⟩ us vs Q E0 hr I1.env0 hb r q) λr s' hq=>?_)
 cases r with
 |error y=>exact hq.elim
 |ok fl=>
  cases fl with
  |ret u=>exact I1.after hq
  |next=>exact False.elim hq
  |brk=>exact False.elim hq
  |cont=>exact False.elim hq
end
section
variable{X:Cx}{W:XW}{o e:Expr}{es:List Expr}{f:Rho->Sto->R Er}{af:Rho->Sto->R (List Er)}{apos pos:Pos}
def lit3F(kvs:List (MV×MV))(S:Sto):R Er:=.ok (.val (.loc S.length)) (S++[.dic kvs])
end
theorem zOO:fillsNumberSlot (.type "tuple") "mul"=pure false:=
 PySem.fillsNumberSlot_seq (id:="tuple.__mul__") (r:=some (.builtin "tuple.__rmul__")) PySem.F.slot_tuple_mul.lookup (by decide+kernel) PySem.F.slot_tuple_rmul.lookup (by decide+kernel)
theorem zWV:seqRepeat? (.type "tuple")=pure (some (.builtin "tuple.__mul__")):=by
 unfold seqRepeat?
 rw [PySem.seqSlot_of (T:="tuple") (name:="__mul__") (id:="tuple.__mul__") PySem.F.slot_tuple_mul.lookup (by decide+kernel),PySem.seqSlot_of (T:="tuple") (name:="__rmul__") (id:="tuple.__rmul__") PySem.F.slot_tuple_rmul.lookup (by decide+kernel)]
 rfl
theorem yCF(a:Int)(t:Tok)(l:Addr)(items:Array Value)(n:Nat)(dd:Option Addr)(sl:Array (Option Value)):
  Meets (Builtin.«int.__rmul__» ⟨[.int a t,.ref l],[]⟩) (λ_ R s=>s.heap.get? l=some {cls:=.type "tuple",dict:=dd,data:=.seq items n,slots:=sl}/\R (.ok (.ret Value.notImplemented)) s):=
 .of_wp λprog w A R s h=>by obtain⟨hp,g,d,tk,os⟩:=s;obtain⟨hl,h⟩:=h;wp_walk;exact⟨_,rfl,h⟩
theorem yKM(l:Addr)(items:Array Value)(n:Nat)(dd:Option Addr)(sl:Array (Option Value))(x:Int)(u:Tok)(h1:(decide (x< -(2 ^ 63)) || decide (x>=2 ^ 63))=false)(h2:(items.isEmpty || x==1)=true):
  Meets (Builtin.«tuple.__mul__» ⟨[.ref l,.int x u],[]⟩) (λ_ R s=>s.heap.get? l=some {cls:=.type "tuple",dict:=dd,data:=.seq items n,slots:=sl}/\R (.ok (.ret (.ref l))) s):=
 .of_wp λprog w A R s h=>by obtain⟨hp,g,d,tk,os⟩:=s;obtain⟨hl,h⟩:=h;wp_walk;refine wpAny_ite_false (dF0 (by rw [h1];exact xF0)) ?_;wp_walk;exact⟨_,rfl,h⟩
theorem yKN(l:Addr)(items:Array Value)(n:Nat)(dd:Option Addr)(sl:Array (Option Value))(x:Int)(u:Tok)(h1:(decide (x< -(2 ^ 63)) || decide (x>=2 ^ 63))=false)(h2:(items.isEmpty || x==1)=false)(h3:(decide (x<=0) || items.isEmpty)=true):
  Meets (Builtin.«tuple.__mul__» ⟨[.ref l,.int x u],[]⟩) (λ_ R s=>s.heap.get? l=some {cls:=.type "tuple",dict:=dd,data:=.seq items n,slots:=sl}/\R (.ok (.ret (.ref s.heap.objs.size))) {s with heap:=s.heap.push {cls:=.type "tuple",data:=.seq #[]}}):=
 .of_wp λprog w A R s h=>by obtain⟨hp,g,d,tk,os⟩:=s;obtain⟨hl,h⟩:=h;wp_walk;refine wpAny_ite_false (dF0 (by rw [h1];exact xF0)) ?_;wp_walk;exact⟨_,rfl,h⟩
theorem yKO(l:Addr)(items:Array Value)(n:Nat)(dd:Option Addr)(sl:Array (Option Value))(x:Int)(u:Tok)(h1:(decide (x< -(2 ^ 63)) || decide (x>=2 ^ 63))=false)(h2:(items.isEmpty || x==1)=false)(h3:(decide (x<=0) || items.isEmpty)=false)
  (h4: ¬((items.size:Int) * x>(2 ^ 63 - 1) / 8)) (h5:Builtin.Tuple.tupleTooMany ((items.size:Int) * x)=false) (h6: ¬((List.foldl (λx1 x2=>x1++x2) #[] (List.replicate x.toNat items)).size>sizeLine)):
  Meets (Builtin.«tuple.__mul__» ⟨[.ref l,.int x u],[]⟩) (λ_ R s=>s.heap.get? l=some {cls:=.type "tuple",dict:=dd,data:=.seq items n,slots:=sl}/\R (.ok (.ret (.ref s.heap.objs.size))) {s with heap:=s.heap.push {cls:=.type "tuple",data:=.seq ((List.replicate x.toNat items).foldl (· ++·) #[])}}):=
 .of_wp λprog w A R s h=>by obtain⟨hp,g,d,tk,os⟩:=s;obtain⟨hl,h⟩:=h;wp_walk;refine wpAny_ite_false (dF0 (by rw [h1];exact xF0)) ?_;wp_walk;refine wpAny_ite_false (dF0 h4) ?_;wp_walk;exact⟨_,rfl,h⟩
section
variable{X:Cx}{W:XW}{a b:Expr}{f g:Rho->Sto->R Er}{pos:Pos}
def rRepT(K:PySem.W.Frag):R2:=λx y H Q=> ∃l k xs,x=.ref l/\y=.int k/\SqT K H l xs/\0<=k/\k<100000/\xs.length * k.toNat<=1000000/\
 ((xs=[]\/k=1)->Q (.ref l) H)/\(¬(xs=[]\/k=1)-> ∀p,H p=none->Q (.ref p) (upd H p (.tup (List.replicate k.toNat xs).flatten)))
theorem yOG:OpR X (binaryOp .Mult) (rRepT X.K):=by
 intro pins s σ H x y v u Q I rx ry h
 obtain⟨l,k,xs,rfl,rfl,hT,h0,h1,hz,q1,q2⟩:=h
 cases rx
 obtain⟨t,rfl⟩:=ry
 obtain⟨its,r1,p1,_⟩:=I.tuple hT
 obtain⟨⟨cls,dd,data,sl⟩,ho,hc,n,hd⟩:=id p1
 simp only at hc hd
 subst hc hd
 have hr:(decide (k< -(2 ^ 63)) || decide (k>=2 ^ 63))=false:=by
  rw [dF0 (by omega),dF0 (by omega)]
  rfl
 have hlen:its.length=xs.length:=r1.length.symm
 have hfit:xs.length * k.toNat<=sizeLine:=le_trans hz (by rw [sizeLine_eq];omega)
 have fin:wpAny (model X.prog X.w) X.A (call (.builtin "tuple.__mul__") [.ref l,.int k t]) (EP X pins σ Q) X.xe s:=by
  by_cases hs:xs=[]\/k=1
  ·refine call_meets PySem.F.slot_tuple_mul ⟨_,ho,rfl⟩ PySem.F.entry_tuple_mul (PySem.F.args_tuple_mul_2 _ _) (yKM l its.toArray n dd sl k t hr ?_) ⟨ho,⟨.ref l,H,I,rfl,q1 hs⟩⟩
   rcases hs with z|z
   ·have e0:its=[]:=r1.nil_iff.mpr z
    rw [e0]
    rfl
   ·rw [z]
    simp
  ·have hx:its.toArray.isEmpty=false:=by
    cases its with
    |nil=>exact absurd (.inl (r1.nil_iff.mp rfl)) hs
    |cons a r=>simp
   have hk1:(k==1)=false:=beq_eq_false_iff_ne.mpr λz=>hs (.inr z)
   by_cases hk:k<=0
   ·have hk0:k=0:=by omega
    refine call_meets PySem.F.slot_tuple_mul ⟨_,ho,rfl⟩ PySem.F.entry_tuple_mul (PySem.F.args_tuple_mul_2 _ _) (yKN l its.toArray n dd sl k t hr (by rw [hx,hk1];rfl) (by rw [dT0 hk];rfl)) ⟨ho,?_⟩
    refine⟨.ref s.heap.objs.size,_,I.laid (t':=s.toks) (o:=.tup (List.replicate k.toNat xs).flatten) (λb ob q=>hP00 _ q) (le_refl _) ?_,rfl,q2 hs _ (I.hok.fresh (le_refl _))⟩
    rw [hk0]
    exact⟨zero_le _,[],.nil,IsTup.new _ _⟩
   ·have hm:(its.toArray.size:Int) * k=((xs.length * k.toNat:Nat):Int):=by
     rw [sA,hlen,Int.natCast_mul,Int.toNat_of_nonneg h0]
    refine call_meets PySem.F.slot_tuple_mul ⟨_,ho,rfl⟩ PySem.F.entry_tuple_mul (PySem.F.args_tuple_mul_2 _ _) (yKO l its.toArray n dd sl k t hr (by rw [hx,hk1];rfl) (by rw [dF0 hk,hx];rfl) ?_ ?_ ?_) ⟨ho,?_⟩
    ·rw [hm]
     omega
    ·rw [hm]
     exact dF0 (by omega)
    ·have:=foldl_rep its k.toNat []
     rw [nil_append]at this
     rw [show(#[]:Array Value)=([]:List Value).toArray from rfl,this,sA,len_rep,hlen,mul_comm]
     omega
    ·have:=foldl_rep its k.toNat []
     rw [nil_append]at this
     rw [show List.foldl (λx1 x2=>x1++x2) #[] (List.replicate k.toNat its.toArray)=_ from this]
     refine⟨.ref s.heap.objs.size,_,I.laid (t':=s.toks) (o:=.tup (List.replicate k.toNat xs).flatten) (λb ob q=>hP00 _ q) (le_refl _) ?_,rfl,q2 hs _ (I.hok.fresh (le_refl _))⟩
     exact⟨by rw [len_rep,mul_comm];exact hfit,_,r1.rep k.toNat,IsTup.new _ _⟩
 exact wpAny_binaryOp_repeat_ref (T:="tuple") (U:="int") (by decide) ⟨_,ho,rfl⟩ (λs'=>typeIs_int s' k t) zOO PySem.F.fills_int_mul PySem.F.slot_int_rmul zWV PySem.F.slot_int_index.lookup
  (call_meets PySem.F.slot_int_rmul (typeIs_int s k t) PySem.F.entry_int_rmul (PySem.F.args_int_rmul_2 _ _) (yCF k t l its.toArray n dd sl) ⟨ho,rfl,⟨_,ho,rfl⟩,fin⟩)
def yEL:Er->Er->Sto->R Er
 |.val (.tup x),.val (.int k),S=>if 0<=k/\k<100000/\x.length * k.toNat<=1000000 then .ok (.val (.tup (List.replicate k.toNat x).flatten)) S else .no
 |_,_,_=>.no
theorem yOH(ha:PEm X W a f)(hb:PEm X W b g):PEm X W (.BinOp a .Mult b pos) (λρ S=>(f ρ S).bind λp S1=>(g ρ S1).bind λq S2=>yEL p q S2):=by
 refine zPQ yOG ?_ ha hb
 intro p q x y α S H Q wd dp dq post
 unfold yEL at post
 split at post
 ·rename_i xx k
  split at post
  ·rename_i hc
   obtain⟨a1,vs,rfl,s1,l1⟩:=dU dp
   refine⟨a1,k,vs,rfl,xN dq,s1,hc.1,hc.2.1,by rw [l1.length];exact hc.2.2,λh=>?_,λ_ p hp=>Post.newt post wd hp (l1.rep _)⟩
   have e:(List.replicate k.toNat xx).flatten=xx:=by
    rcases h with z|z
    ·have e0:=l1.length
     have:xx=[]:=by cases xx with |nil=>rfl|cons _ _=>rw [z]at e0;simp at e0
     rw [this]
     simp
    ·rw [z]
     simp
   rw [e]at post
   exact Post.val post wd (nV s1 l1)
  ·exact post.elim
 ·exact post.elim
end
noncomputable section
variable{α β:Type}
def vJ(i:Nat)(ρ:Rho)(S:Sto):R Er:=rdSl (ρ[i]?) S
def kJ(d:MV)(_:Rho)(S:Sto):R Er:=.ok (.val d) S
def bJ(f:Rho->Sto->R α)(F:α->Sto->R β)(ρ:Rho)(S:Sto):R β:=(f ρ S).bind F
def dJ(F:Er->Er->Sto->R Er)(f g:Rho->Sto->R Er)(ρ:Rho)(S:Sto):R Er:=(f ρ S).bind λp S=>(g ρ S).bind λq S=>F p q S
def nJ(f:Rho->Sto->R Er)(ρ:Rho)(S:Sto):R Er:=(f ρ S).bind λp S=>(asB p S).bind λk S=>.ok (.val (.bl !k)) S
def aJ(f g:Rho->Sto->R Er)(ρ:Rho)(S:Sto):R Er:=(f ρ S).bind λp S=>zFW p S λS=>g ρ S
def oJ(f g:Rho->Sto->R Er)(ρ:Rho)(S:Sto):R Er:=(f ρ S).bind λp S=>orF p S λS=>g ρ S
def iJ(c:Rho->Sto->R Bool)(f g:Rho->Sto->R α)(ρ:Rho)(S:Sto):R α:=(c ρ S).bind λk S=>if k=true then f ρ S else g ρ S
def mJ(_:Rho)(S:Sto):R (Option Int):=.ok none S
def tJ(F:Er->Option Int->Option Int->Sto->R Er)(f:Rho->Sto->R Er)(g h:Rho->Sto->R (Option Int))(ρ:Rho)(S:Sto):R Er:=(f ρ S).bind λp S=>(g ρ S).bind λl S=>(h ρ S).bind λu S=>F p l u S
def lJ(k:List (MV×MV))(_:Rho)(S:Sto):R Er:=lit3F k S
def zJ(_:Rho)(S:Sto):R Er:=yJW S
def fJ(n:Nat)(F:List MV->Sto->R Er)(a:Rho->Sto->R (List Er))(ρ:Rho)(S:Sto):R Er:=(a ρ S).bind λr S=>zO n F r S
def xJ(n:Nat)(F:List MV->Sto->R Er)(a:Rho->Sto->R (List Er))(ρ:Rho)(S:Sto):R Er:=(a ρ S).bind λr S=>kW n F r S
def hJ(F:List MV->Sto->R Er)(_:Rho)(S:Sto):R Er:=zO 0 F [] S
def eJ(t:Er->Sto->Bool)(F:Er->List Er->Sto->R Er)(f:Rho->Sto->R Er)(a:Rho->Sto->R (List Er))(ρ:Rho)(S:Sto):R Er:=(f ρ S).bind λp S=>if t p S=true then(a ρ S).bind λr S=>F p r S else .no
def gJ(t:Er->Sto->Bool)(F:Er->List Er->Sto->R Er)(f:Rho->Sto->R Er)(ρ:Rho)(S:Sto):R Er:=(f ρ S).bind λp S=>if t p S=true then F p [] S else .no
def uJ(_:Rho)(S:Sto):R Bool:=.ok true S
def pJ(i:Rho->Sto->R Wk)(g:MV->Rho->Sto->R Rho)(c:Rho->Sto->R Bool)(e:Rho->Sto->R Er)(n:Nat)(I:List Nat)(ρ:Rho)(S:Sto):R Er:=(i ρ S).bind λk S=>if k.ds.length<1000000 then(xX g c e (blk n I ρ) k.gs k.ds S).bind λo S=>.ok (.new o) S else .no
def jJ(F G:Er->Er->Sto->R Er)(f g h:Rho->Sto->R Er)(ρ:Rho)(S:Sto):R Er:=(f ρ S).bind λp S=>(g ρ S).bind λq S=>chF F G p q S λS=>h ρ S
def qJ(f:Rho->Sto->R Bool)(ρ:Rho)(S:Sto):R Bool:=(f ρ S).bind λk S=>.ok (!k) S
def rJ(f g:Rho->Sto->R Bool)(ρ:Rho)(S:Sto):R Bool:=(f ρ S).bind λk S=>if k=true then g ρ S else .ok false S
def sJ(f g:Rho->Sto->R Bool)(ρ:Rho)(S:Sto):R Bool:=(f ρ S).bind λk S=>if k=true then .ok true S else g ρ S
def wJ(_:Rho)(S:Sto):R (List Er):=.ok [] S
def yJ(f:Rho->Sto->R Er)(g:Rho->Sto->R (List Er))(ρ:Rho)(S:Sto):R (List Er):=(f ρ S).bind λp S=>(g ρ S).bind λl S=>.ok (p::l) S
def AJ(f:Rho->Sto->R Er)(ρ:Rho)(S:Sto):R Fl:=(f ρ S).bind λr S=>.ok (.ret r) S
def BJ(f:Rho->Sto->R Er)(ρ:Rho)(S:Sto):R Fl:=(f ρ S).bind λ_ S=>.ok (.next ρ) S
def CJ(f:Rho->Sto->R Er)(i:Nat)(ρ:Rho)(S:Sto):R Fl:=(f ρ S).bind (zYQ ρ i)
def DJ(F:Er->Er->MV->Rho->Sto->R Rho)(f g:Rho->Sto->R Er)(d:MV)(ρ:Rho)(S:Sto):R Rho:=(f ρ S).bind λp S=>(g ρ S).bind λq S=>F p q d ρ S
def EJ(f:Rho->Sto->R Er)(g:MV->Rho->Sto->R Rho)(ρ:Rho)(S:Sto):R Fl:=(f ρ S).bind (yGI g ρ)
def FJ(i:Rho->Sto->R Wk)(g:MV->Rho->Sto->R Rho)(b:Rho->Sto->R Fl)(ρ:Rho)(S:Sto):R Fl:=(i ρ S).bind λk S=>zBQ g b k.gs k.ds ρ S
def GJ(a:Rho->Sto->R (List Er))(c:Str)(ρ:Rho)(S:Sto):R Fl:=(a ρ S).bind λr S=>if r.length<=10 then .exc c [] S else .no
def HJ(cs:List Str)(i:Nat)(h:Rho->Sto->R Fl)(n:Nat)(F:List MV->Sto->R Er)(a:Rho->Sto->R (List Er))(ρ:Rho)(S:Sto):R Fl:=(noX (a ρ S)).bind λr S=>yBX cs i (λ_ S=>.ok (.next ρ) S) h ρ (kW n F r S)
def IJ(cs:List Str)(i j:Nat)(h:Rho->Sto->R Fl)(n:Nat)(F:List MV->Sto->R Er)(a:Rho->Sto->R (List Er))(ρ:Rho)(S:Sto):R Fl:=(noX (a ρ S)).bind λr S=>yBX cs i (zYQ ρ j) h ρ (kW n F r S)
def JJ(ρ:Rho)(S:Sto):R Fl:=.ok (.next ρ) S
end
end M
end L2
namespace L2
namespace M
namespace My
open PySem PySem.Spec PyProof.Rows
local macro_rules
 | `(tactic|simp? [$xs,*] $[$l:location]?)=>`(tactic|simp only [List.getElem?_cons_zero,List.getElem?_cons_succ,zWN,bok,as_int,as_bl,ySE,add_int,sub_int,eq_int,ySF,lst0,lst1,lst2,lst3,lst6,tup2,tup3,ySJ,ySK,ySL,ySM,ySN,ySO,yNS,yNT,set_cons_zero,set_cons_succ,if_true,yNV,yNU,vJ,kJ,bJ,dJ,nJ,aJ,oJ,iJ,mJ,tJ,lJ,zJ,fJ,xJ,hJ,eJ,gJ,uJ,pJ,jJ,qJ,rJ,sJ,wJ,yJ,AJ,BJ,CJ,DJ,EJ,FJ,GJ,HJ,IJ,JJ,$xs,*] $[$l:location]?)
abbrev kL:List Str:=["thing","least","most"]
abbrev zZB:List Str:=["rule","tables","number","columns"]
abbrev zSI:List Str:=["thing","tables","wide"]
abbrev yZ:List Str:=["tables","rules","rows"]
abbrev zJD:List Str:=["tables","place","table"]
abbrev zLG:List Str:=["tables","rules","place","rule"]
abbrev zNL:List Str:=["tables","rows","place","row","seen"]
abbrev zLY:List Str:=["_law_cell","_law_prime","_law_number"]
abbrev zJE:List Str:=["_law_cell","_law_letters","_law_number","_law_name_here","_law_k"]
abbrev zJF:List Str:=["_law_cell","_law_number","_law_letters","_law_name_here","_law_at","_law_turned","_law_other","_law_great"]
abbrev zEJ:List Str:=["_law_cell","_law_most","_law_number","_law_many","_law_tables_here","_law_k","_law_wide"]
abbrev zLZ:List Str:=["_law_cell","_law_tables_here","_law_pool_here","_law_wide","_law_number","_law_t","_law_cells","_law_k"]
abbrev zJG:List Str:=["_law_cells","_law_tables_here","_law_pool_here","_law_wide","_law_rows_here","_law_cell","_law_row_here"]
abbrev zJH:List Str:=["_law_state","_law_size","_law_found"]
abbrev zJI:List Str:=["_law_state","_law_there","_law_tables_here","_law_pool_here","_law_k"]
abbrev zGZ:List Str:=["_law_state","_law_there","_law_tables_here","_law_pool_here","_law_tests_here","_law_k","_law_word","_law_left"]
abbrev zAF:List Str:=["_law_cell","_law_tables_here","_law_pool_here","_law_state","_law_kind","_law_t","_law_u","_law_many","_law_columns"]
abbrev zNM:List Str:=["_law_e","_law_kinds_here"]
abbrev zCH:List Str:=["_law_parts","_law_which","_law_place","_law_kinds_here","_law_told","_law_e"]
abbrev zLH:List Str:=["_law_some","_law_cell","_law_thing","_law_at"]
abbrev kB:List Str:=["_law_parts","_law_cell"]
abbrev zJJ:List Str:=["_law_parts","_law_script","_law_bits","_law_cell","_law_places","_law_first","_law_at"]
abbrev zUY:List Str:=["_law_script","_law_pool_here","_law_tables_here","_law_head","_law_rules","_law_whole","_law_parts","_law_bits","_law_places","_law_handed","_law_due","_law_turn"]
abbrev XNS:List Str:=["TooGreat","NoText","NoPlace","NotPlain","NoTable","NoRule","NoRow","Twice","NoQuestion","Double","TooWide","Ring"]
noncomputable section
abbrev AF:=Rho->Sto->R Fl
abbrev AE:=Rho->Sto->R Er
def zHA:AF:=(AJ (aJ (bJ (yJ (vJ 0) (yJ (kJ (.typ "int")) wJ)) cQ) (nJ (bJ (yJ (vJ 0) (yJ (kJ (.typ "bool")) wJ)) cQ))))
def zCI:AF:=(zHA)
def jI(ds:List MV)(S:Sto):R Er:=yH (zCI (zS ["thing"] ds) S)
def zEK:Rho->Sto->R Bool:=uJ
def nZ:AE:=(jJ leF leF (kJ (.str [97])) (vJ 0) (kJ (.str [122])))
def zJK:AF:=(iJ (sJ (qJ (bJ (bJ (yJ (vJ 0) (yJ (kJ (.typ "str")) wJ)) cQ) dW)) (qJ (bJ (jJ leF leF (kJ (.int 1)) (bJ (yJ (vJ 0) wJ) wC) (kJ (.int 8))) asB))) ((AJ (kJ (.bl false)))) (JJ))
def zJL:AF:=(AJ (bJ (yJ (pJ (bJ (vJ 0) itS) (gNm 0) (zEK) (nZ) 1 []) wJ) zTP))
def zOP:AF:=zT (zJK) ((zJL))
def zKV(ds:List MV)(S:Sto):R Er:=yH (zOP (zS ["thing"] ds) S)
def cS:AF:=(iJ (bJ (fJ 1 jI (yJ (vJ 0) wJ)) dW) ((AJ (dJ ltF (bJ (yJ (vJ 0) wJ) absF) (dJ zIZ (kJ (.int 10)) (kJ (.int 30)))))) (JJ))
def zNN:AF:=(AJ (fJ 1 zKV (yJ (vJ 0) wJ)))
def zMA:AF:=zT (cS) ((zNN))
def dZ(ds:List MV)(S:Sto):R Er:=yH (zMA (zS ["thing"] ds) S)
def zNO:AF:=(AJ (aJ (bJ (yJ (vJ 0) (yJ (kJ (.typ "tuple")) wJ)) cQ) (jJ leF leF (vJ 1) (bJ (yJ (vJ 0) wJ) wC) (vJ 2))))
def zMB:AF:=(zNO)
def yF(ds:List MV)(S:Sto):R Er:=yH (zMB (zS kL ds) S)
def zBL:AF:=(AJ (aJ (fJ 1 jI (yJ (vJ 0) wJ)) (jJ leF ltF (kJ (.int 0)) (vJ 0) (vJ 1))))
def cT:AF:=(zBL)
def zM(ds:List MV)(S:Sto):R Er:=yH (cT (zS ["thing","bound"] ds) S)
def cU:AF:=(iJ (sJ (qJ (bJ (fJ 3 yF (yJ (vJ 0) (yJ (kJ (.int 2)) (yJ (kJ (.int 2)) wJ)))) dW)) (qJ (bJ (fJ 1 jI (yJ (dJ ixF (vJ 0) (kJ (.int 0))) wJ)) dW))) ((AJ (kJ (.bl false)))) (JJ))
def cV:AF:=(CJ (dJ ixF (vJ 0) (kJ (.int 0))) 1)
def cW:AF:=(AJ (aJ (jJ leF leF (kJ (.int 1)) (vJ 1) (kJ (.int 4))) (fJ 2 zM (yJ (dJ ixF (vJ 0) (kJ (.int 1))) (yJ (dJ wO (vJ 1) (kJ (.int 1))) wJ)))))
def zCJ:AF:=zT (cU) (zT (cV) ((cW)))
def nA(ds:List MV)(S:Sto):R Er:=yH (zCJ (zS ["thing","wide"] ds) S)
def zAG:AF:=(iJ (bJ (fJ 3 yF (yJ (vJ 0) (yJ (kJ (.int 2)) (yJ (kJ (.int 2)) wJ)))) dW) ((AJ (aJ (dJ eqF (dJ ixF (vJ 0) (kJ (.int 0))) (kJ (.str [105,115]))) (fJ 1 dZ (yJ (dJ ixF (vJ 0) (kJ (.int 1))) wJ))))) (JJ))
def zJM:AF:=(iJ (sJ (qJ (bJ (fJ 3 yF (yJ (vJ 0) (yJ (kJ (.int 3)) (yJ (kJ (.int 3)) wJ)))) dW)) (bJ (dJ neF (dJ ixF (vJ 0) (kJ (.int 0))) (kJ (.str [99,101,108,108]))) asB)) ((AJ (kJ (.bl false)))) (JJ))
def zJN:AF:=(AJ (aJ (fJ 2 zM (yJ (dJ ixF (vJ 0) (kJ (.int 1))) (yJ (bJ (yJ (vJ 1) wJ) wC) wJ))) (fJ 2 zM (yJ (dJ ixF (vJ 0) (kJ (.int 2))) (yJ (dJ ixF (vJ 1) (dJ ixF (vJ 0) (kJ (.int 1)))) wJ)))))
def zGF:AF:=zT (zAG) (zT (zJM) ((zJN)))
def zGG(ds:List MV)(S:Sto):R Er:=yH (zGF (zS ["thing","wides"] ds) S)
def zJO:AF:=(iJ (qJ (bJ (fJ 3 yF (yJ (vJ 0) (yJ (kJ (.int 3)) (yJ (kJ (.int 3)) wJ)))) dW)) ((AJ (kJ (.bl false)))) (JJ))
def zJP:AF:=(AJ (aJ (fJ 2 zGG (yJ (dJ ixF (vJ 0) (kJ (.int 0))) (yJ (vJ 1) wJ))) (aJ (dJ (inF false) (dJ ixF (vJ 0) (kJ (.int 1))) (kJ (.tup [.str [115,97,109,101],.str [117,110,108,105,107,101],.str [108,101,115,115]]))) (fJ 2 zGG (yJ (dJ ixF (vJ 0) (kJ (.int 2))) (yJ (vJ 1) wJ))))))
def zOQ:AF:=zT (zJO) ((zJP))
def zKW(ds:List MV)(S:Sto):R Er:=yH (zOQ (zS ["thing","wides"] ds) S)
def zIK:Rho->Sto->R Bool:=uJ
def zAS:AE:=(fJ 2 zKW (yJ (vJ 0) (yJ (vJ 1) wJ)))
def zLI:AF:=(AJ (aJ (fJ 3 yF (yJ (vJ 0) (yJ (kJ (.int 1)) (yJ (kJ (.int 3)) wJ)))) (bJ (yJ (pJ (bJ (vJ 0) itT) (gNm 0) (zIK) (zAS) 1 [1]) wJ) zTP)))
def zJQ:AF:=(zLI)
def gB(ds:List MV)(S:Sto):R Er:=yH (zJQ (zS ["thing","wides"] ds) S)
def zDY:Rho->Sto->R Bool:=uJ
def cX:AE:=(fJ 2 zM (yJ (vJ 0) (yJ (vJ 1) wJ)))
def zIL:AF:=(AJ (aJ (fJ 3 yF (yJ (vJ 0) (yJ (kJ (.int 1)) (yJ (kJ (.int 3)) wJ)))) (bJ (yJ (pJ (bJ (vJ 0) itT) (gNm 0) (zDY) (cX) 1 [1]) wJ) zTP)))
def zEL:AF:=(zIL)
def zAA(ds:List MV)(S:Sto):R Er:=yH (zEL (zS ["thing","wide"] ds) S)
def zHB:AF:=(iJ (sJ (bJ (dJ neF (bJ (yJ (vJ 0) wJ) wC) (kJ (.int 3))) asB) (qJ (bJ (fJ 2 zM (yJ (dJ ixF (vJ 0) (kJ (.int 1))) (yJ (bJ (yJ (vJ 1) wJ) wC) wJ))) dW))) ((AJ (kJ (.bl false)))) (JJ))
def zHC:AF:=(AJ (fJ 2 gB (yJ (dJ ixF (vJ 0) (kJ (.int 2))) (yJ (bJ (yJ (dJ ixF (dJ ixF (vJ 1) (dJ ixF (vJ 0) (kJ (.int 1)))) (kJ (.int 0))) wJ) gX) wJ))))
def zMC:AF:=zT (zHB) ((zHC))
def zHD(ds:List MV)(S:Sto):R Er:=yH (zMC (zS ["rule","tables"] ds) S)
def zJR:Rho->Sto->R Bool:=uJ
def zCK:AE:=(fJ 2 zM (yJ (vJ 0) (yJ (bJ (yJ (vJ 1) wJ) wC) wJ)))
def zCL:Rho->Sto->R Bool:=uJ
def cY:AE:=(dJ ixF (dJ ixF (vJ 1) (vJ 0)) (kJ (.int 0)))
def zHE:AF:=(iJ (sJ (bJ (dJ neF (bJ (yJ (vJ 0) wJ) wC) (kJ (.int 4))) asB) (qJ (bJ (bJ (yJ (pJ (bJ (tJ zAD (vJ 0) (bJ (kJ (.int 1)) asI) (bJ (kJ (.int 3)) asI)) itT) (gNm 0) (zJR) (zCK) 1 [1]) wJ) zTP) dW))) ((AJ (kJ (.bl false)))) (JJ))
def zHF:AF:=(AJ (fJ 2 gB (yJ (dJ ixF (vJ 0) (kJ (.int 3))) (yJ (pJ (bJ (tJ zAD (vJ 0) (bJ (kJ (.int 1)) asI) (bJ (kJ (.int 3)) asI)) itT) (gNm 0) (zCL) (cY) 1 [1]) wJ))))
def zMD:AF:=zT (zHE) ((zHF))
def zHG(ds:List MV)(S:Sto):R Er:=yH (zMD (zS ["rule","tables"] ds) S)
noncomputable def zHH:Rho->Sto->R Fl:=(iJ (sJ (qJ (bJ (fJ 2 zM (yJ (vJ 2) (yJ (bJ (yJ (vJ 1) wJ) wC) wJ))) dW)) (qJ (bJ (fJ 2 zAA (yJ (vJ 3) (yJ (dJ ixF (dJ ixF (vJ 1) (vJ 2)) (kJ (.int 0))) wJ))) dW))) ((AJ (kJ (.bl false)))) (JJ))
noncomputable def bY:Rho->Sto->R Fl:=(zHH)
def zCM:AF:=(iJ (bJ (dJ neF (bJ (yJ (vJ 0) wJ) wC) (kJ (.int 5))) asB) ((AJ (kJ (.bl false)))) (JJ))
def zCN:AF:=(FJ (bJ (bJ (yJ (bJ (yJ (dJ ixF (vJ 0) (kJ (.int 1))) (yJ (dJ ixF (vJ 0) (kJ (.int 2))) wJ)) kQ) (yJ (bJ (yJ (dJ ixF (vJ 0) (kJ (.int 3))) (yJ (dJ ixF (vJ 0) (kJ (.int 4))) wJ)) kQ) wJ)) kQ) itT) (gTp 2 (zX (gNm 2) (zX (gNm 3) kR))) (bY))
def zCO:AF:=(AJ (dJ eqF (bJ (yJ (dJ ixF (vJ 0) (kJ (.int 2))) wJ) wC) (bJ (yJ (dJ ixF (vJ 0) (kJ (.int 4))) wJ) wC)))
def zJS:AF:=zT (zCM) (zT (zCN) ((zCO)))
def zJT(ds:List MV)(S:Sto):R Er:=yH (zJS (zS zZB ds) S)
def zDZ:AF:=(iJ (sJ (qJ (bJ (bJ (yJ (vJ 0) (yJ (kJ (.typ "tuple")) wJ)) cQ) dW)) (bJ (dJ eqF (bJ (yJ (vJ 0) wJ) wC) (kJ (.int 0))) asB)) ((AJ (kJ (.bl false)))) (JJ))
def jG:AF:=(iJ (bJ (dJ eqF (dJ ixF (vJ 0) (kJ (.int 0))) (kJ (.str [110,101,118,101,114]))) asB) ((AJ (fJ 2 zHD (yJ (vJ 0) (yJ (vJ 1) wJ))))) (JJ))
def cF:AF:=(iJ (bJ (dJ eqF (dJ ixF (vJ 0) (kJ (.int 0))) (kJ (.str [97,112,97,114,116]))) asB) ((AJ (fJ 2 zHG (yJ (vJ 0) (yJ (vJ 1) wJ))))) (JJ))
def zAH:AF:=(AJ (aJ (dJ eqF (dJ ixF (vJ 0) (kJ (.int 0))) (kJ (.str [116,105,101]))) (fJ 2 zJT (yJ (vJ 0) (yJ (vJ 1) wJ)))))
def zGH:AF:=zT (zDZ) (zT (jG) (zT (cF) ((zAH))))
def zGI(ds:List MV)(S:Sto):R Er:=yH (zGH (zS ["thing","tables"] ds) S)
def zNP:Rho->Sto->R Bool:=uJ
def zHI:AE:=(fJ 1 dZ (yJ (vJ 0) wJ))
def zCP:AF:=(iJ (sJ (qJ (bJ (fJ 3 yF (yJ (vJ 0) (yJ (kJ (.int 2)) (yJ (kJ (.int 2)) wJ)))) dW)) (qJ (bJ (fJ 2 zM (yJ (dJ ixF (vJ 0) (kJ (.int 0))) (yJ (bJ (yJ (vJ 1) wJ) wC) wJ))) dW))) ((AJ (kJ (.bl false)))) (JJ))
def zME:AF:=(CJ (dJ ixF (dJ ixF (vJ 1) (dJ ixF (vJ 0) (kJ (.int 0)))) (kJ (.int 0))) 2)
def zMF:AF:=(AJ (aJ (fJ 3 yF (yJ (dJ ixF (vJ 0) (kJ (.int 1))) (yJ (vJ 2) (yJ (vJ 2) wJ)))) (bJ (yJ (pJ (bJ (dJ ixF (vJ 0) (kJ (.int 1))) itT) (gNm 0) (zNP) (zHI) 1 []) wJ) zTP)))
def zJU:AF:=zT (zCP) (zT (zME) ((zMF)))
def zJV(ds:List MV)(S:Sto):R Er:=yH (zJU (zS zSI ds) S)
def zAT:AF:=(iJ (sJ (bJ (dJ gtF (bJ (yJ (vJ 0) wJ) wC) (kJ (.int 4))) asB) (sJ (bJ (dJ gtF (bJ (yJ (vJ 1) wJ) wC) (kJ (.int 6))) asB) (bJ (dJ gtF (bJ (yJ (vJ 2) wJ) wC) (kJ (.int 60))) asB))) ((GJ (yJ (kJ (.str [109,111,114,101,32,116,97,98,108,101,115,44,32,114,117,108,101,115,32,111,114,32,114,111,119,115,32,116,104,97,110,32,97,32,98,111,111,107,32,109,97,121,32,104,97,118,101])) wJ) "TooGreat")) (JJ))
def bE:AF:=(zAT)
def bF(ds:List MV)(S:Sto):R Er:=yH (bE (zS yZ ds) S)
noncomputable def bZ:Rho->Sto->R Fl:=(iJ (qJ (bJ (fJ 1 nA (yJ (vJ 2) wJ)) dW)) ((bJ (vJ 1) (raF "NoTable" "place"))) (JJ))
noncomputable def xQ:Rho->Sto->R Fl:=(bZ)
def nB:AF:=(iJ (bJ (dJ eqF (bJ (yJ (vJ 0) wJ) wC) (kJ (.int 0))) asB) ((bJ (kJ (.int 0)) (raF "NoTable" "place"))) (JJ))
def kX:AF:=(FJ (bJ (yJ (vJ 0) wJ) itE) (gTp 2 (zX (gNm 1) (zX (gNm 2) kR))) (xQ))
def gC:AF:=zT (nB) ((kX))
def gE(ds:List MV)(S:Sto):R Er:=yH (gC (zS zJD ds) S)
noncomputable def cZ:Rho->Sto->R Fl:=(iJ (qJ (bJ (fJ 2 zGI (yJ (vJ 3) (yJ (vJ 0) wJ))) dW)) ((bJ (vJ 2) (raF "NoRule" "place"))) (JJ))
noncomputable def wA:Rho->Sto->R Fl:=(cZ)
def jS:AF:=(FJ (bJ (yJ (vJ 1) wJ) itE) (gTp 2 (zX (gNm 2) (zX (gNm 3) kR))) (wA))
def bG:AF:=(jS)
def bH(ds:List MV)(S:Sto):R Er:=yH (bG (zS zLG ds) S)
noncomputable def nE:Rho->Sto->R Fl:=(iJ (qJ (bJ (fJ 2 zJV (yJ (vJ 3) (yJ (vJ 0) wJ))) dW)) ((bJ (vJ 2) (raF "NoRow" "place"))) (JJ))
noncomputable def wQ:Rho->Sto->R Fl:=(nE)
noncomputable def gP:Rho->Sto->R Fl:=(iJ (bJ (dJ (yGV false) (vJ 3) (vJ 4)) asB) ((bJ (vJ 2) (raF "Twice" "place"))) (JJ))
noncomputable def zGJ:Rho->Sto->R Fl:=(EJ (kJ (.bl true)) (DJ zYY (vJ 4) (vJ 3)))
noncomputable def kY:Rho->Sto->R Fl:=zT (gP) ((zGJ))
def gF:AF:=(FJ (bJ (yJ (vJ 1) wJ) itE) (gTp 2 (zX (gNm 2) (zX (gNm 3) kR))) (wQ))
def zCQ:AF:=(CJ zJ 4)
def zCR:AF:=(FJ (bJ (yJ (vJ 1) wJ) itE) (gTp 2 (zX (gNm 2) (zX (gNm 3) kR))) (kY))
def jK:AF:=zT (gF) (zT (zCQ) ((zCR)))
def dA(ds:List MV)(S:Sto):R Er:=yH (jK (zS zNL ds) S)
def zAI:AF:=(BJ (xJ 3 bF (yJ (vJ 0) (yJ (vJ 1) (yJ (vJ 2) wJ)))))
def zAJ:AF:=(BJ (xJ 1 gE (yJ (vJ 0) wJ)))
def zAK:AF:=(BJ (xJ 2 bH (yJ (vJ 0) (yJ (vJ 1) wJ))))
def gG:AF:=(BJ (xJ 2 dA (yJ (vJ 0) (yJ (vJ 2) wJ))))
def zJW:AF:=(AJ (bJ (yJ (bJ (yJ (vJ 0) wJ) gY) (yJ (bJ (yJ (vJ 1) wJ) gY) (yJ (bJ (yJ (vJ 2) wJ) gY) wJ))) kQ))
def kZ:AF:=zT (zAI) (zT (zAJ) (zT (zAK) (zT (gG) ((zJW)))))
def xR(ds:List MV)(S:Sto):R Er:=yH (kZ (zS yZ ds) S)
def nF:AF:=(iJ (bJ (dJ ltF (vJ 1) (bJ (yJ (vJ 0) wJ) wC)) asB) ((AJ (dJ ixF (vJ 0) (vJ 1)))) (JJ))
def zOR:AF:=(AJ (kJ (.int 0)))
def zCS:AF:=zT (nF) ((zOR))
def zZ(ds:List MV)(S:Sto):R Er:=yH (zCS (zS ["_law_script","_law_k"] ds) S)
def zHJ:AF:=(iJ (bJ (dJ eqF (dJ kT (vJ 0) (kJ (.int 2))) (kJ (.int 0))) asB) ((AJ (dJ kT (dJ cL (vJ 0) (kJ (.int 2))) (dJ zIZ (dJ zIZ (kJ (.int 10)) (kJ (.int 60))) (kJ (.int 10)))))) (JJ))
def zHK:AF:=(CJ (dJ kT (dJ zNB (dJ wO (dJ kT (vJ 0) (kJ (.int 2147483629))) (kJ (.int 7))) (kJ (.int 48271))) (vJ 1)) 2)
def zHL:AF:=(AJ (dJ wO (dJ zNB (dJ kT (dJ zNB (vJ 2) (vJ 2)) (kJ (.int 2147483579))) (kJ (.int 1000003))) (vJ 2)))
def zMG:AF:=zT (zHJ) (zT (zHK) ((zHL)))
def xE(ds:List MV)(S:Sto):R Er:=yH (zMG (zS zLY ds) S)
noncomputable def zAU:Rho->Sto->R Fl:=(CJ (dJ wO (vJ 3) (dJ ixF (vJ 1) (dJ kT (vJ 2) (kJ (.int 26))))) 3)
noncomputable def zAV:Rho->Sto->R Fl:=(CJ (dJ cL (vJ 2) (kJ (.int 26))) 2)
noncomputable def zAB:Rho->Sto->R Fl:=zT (zAU) ((zAV))
def zLJ:AF:=(CJ (kJ (.str [97,98,99,100,101,102,103,104,105,106,107,108,109,110,111,112,113,114,115,116,117,118,119,120,121,122])) 1)
def zEM:AF:=(CJ (dJ cL (vJ 0) (kJ (.int 8))) 2)
def zLK:AF:=(CJ (kJ (.str [])) 3)
def zEN:AF:=(FJ (bJ (yJ (dJ wO (kJ (.int 1)) (dJ kT (vJ 0) (kJ (.int 8)))) wJ) zDW) (gNm 4) (zAB))
def zTR:AF:=(AJ (vJ 3))
def zPV:AF:=zT (zLJ) (zT (zEM) (zT (zLK) (zT (zEN) ((zTR)))))
def cG(ds:List MV)(S:Sto):R Er:=yH (zPV (zS zJE ds) S)
def zEO:AF:=(CJ (fJ 2 xE (yJ (vJ 0) (yJ (kJ (.int 2147483587)) wJ))) 1)
def zLL:AF:=(CJ (kJ (.str [97,98,99,100,101,102,103,104,105,106,107,108,109,110,111,112,113,114,115,116,117,118,119,120,121,122])) 2)
def zEP:AF:=(CJ (fJ 1 cG (yJ (vJ 1) wJ)) 3)
def zEQ:AF:=(CJ (dJ cL (vJ 1) (dJ zNB (kJ (.int 8)) (dJ zIZ (kJ (.int 26)) (kJ (.int 8))))) 1)
def zER:AF:=(CJ (dJ kT (vJ 1) (bJ (yJ (vJ 3) wJ) wC)) 4)
def zES:AF:=(CJ (dJ wO (dJ wO (eJ zSB zYT (vJ 2) (yJ (dJ ixF (vJ 3) (vJ 4)) wJ)) (kJ (.int 1))) (dJ kT (dJ cL (vJ 1) (kJ (.int 8))) (kJ (.int 25)))) 5)
def zET:AF:=(CJ (dJ wO (dJ wO (tJ zAD (vJ 3) mJ (bJ (vJ 4) asI)) (dJ ixF (vJ 2) (dJ kT (vJ 5) (kJ (.int 26))))) (tJ zAD (vJ 3) (bJ (dJ wO (vJ 4) (kJ (.int 1))) asI) mJ)) 6)
def zEU:AF:=(CJ (dJ cL (vJ 1) (kJ (.int 200))) 1)
def zEV:AF:=(CJ (dJ wO (dJ kT (dJ zIZ (dJ wO (dJ zNB (dJ kT (vJ 1) (dJ zIZ (kJ (.int 10)) (kJ (.int 30)))) (kJ (.int 48271))) (kJ (.int 11))) (kJ (.int 4))) (dJ yGL (dJ zIZ (kJ (.int 10)) (kJ (.int 30))) (kJ (.int 3)))) (kJ (.int 1))) 7)
def dB:AF:=(iJ (bJ (dJ eqF (dJ kT (vJ 1) (kJ (.int 2))) (kJ (.int 1))) asB) ((CJ (dJ wO (dJ kT (dJ cL (vJ 1) (kJ (.int 2))) (dJ yGL (dJ zIZ (kJ (.int 10)) (kJ (.int 30))) (kJ (.int 3)))) (kJ (.int 1))) 7)) (JJ))
def zCT:AF:=(AJ (bJ (yJ (dJ kT (dJ cL (vJ 1) (kJ (.int 64))) (kJ (.int 5))) (yJ (vJ 7) (yJ (vJ 3) (yJ (dJ yGL (kJ (.int 0)) (vJ 7)) (yJ (vJ 6) (yJ (dJ wO (dJ kT (dJ cL (vJ 1) (kJ (.int 320))) (kJ (.int 5))) (kJ (.int 7))) (yJ (dJ wO (vJ 7) (kJ (.int 1))) wJ))))))) gX))
def zPW:AF:=zT (zEO) (zT (zLL) (zT (zEP) (zT (zEQ) (zT (zER) (zT (zES) (zT (zET) (zT (zEU) (zT (zEV) (zT (dB) ((zCT)))))))))))
def cH(ds:List MV)(S:Sto):R Er:=yH (zPW (zS zJF ds) S)
def zGK(self:List MV->Sto->R Er):Rho->Sto->R Bool:=uJ
def nG(self:List MV->Sto->R Er):AE:=(fJ 2 self (yJ (vJ 0) (yJ (vJ 1) wJ)))
def wR(self:List MV->Sto->R Er):AF:=(iJ (bJ (dJ zWI (vJ 1) (kJ .non)) asB) ((AJ (dJ zWI (vJ 0) (kJ .non)))) (JJ))
def wS(self:List MV->Sto->R Er):AF:=(iJ (bJ (bJ (yJ (vJ 1) (yJ (kJ (.typ "str")) wJ)) cQ) dW) ((AJ (aJ (bJ (yJ (vJ 0) (yJ (kJ (.typ "str")) wJ)) cQ) (dJ eqF (vJ 0) (vJ 1))))) (JJ))
def gH(self:List MV->Sto->R Er):AF:=(iJ (bJ (bJ (yJ (vJ 1) (yJ (kJ (.typ "int")) wJ)) cQ) dW) ((AJ (aJ (bJ (yJ (vJ 0) (yJ (kJ (.typ "int")) wJ)) cQ) (aJ (nJ (bJ (yJ (vJ 0) (yJ (kJ (.typ "bool")) wJ)) cQ)) (dJ eqF (vJ 0) (vJ 1)))))) (JJ))
def zCU(self:List MV->Sto->R Er):AF:=(iJ (rJ (bJ (bJ (yJ (vJ 1) (yJ (kJ (.typ "list")) wJ)) cQ) dW) (qJ (bJ (bJ (yJ (vJ 0) (yJ (kJ (.typ "list")) wJ)) cQ) dW))) ((AJ (kJ (.bl false)))) (JJ))
def zCV(self:List MV->Sto->R Er):AF:=(iJ (rJ (bJ (bJ (yJ (vJ 1) (yJ (kJ (.typ "tuple")) wJ)) cQ) dW) (qJ (bJ (bJ (yJ (vJ 0) (yJ (kJ (.typ "tuple")) wJ)) cQ) dW))) ((AJ (kJ (.bl false)))) (JJ))
def zJX(self:List MV->Sto->R Er):AF:=(AJ (aJ (dJ eqF (bJ (yJ (vJ 0) wJ) wC) (bJ (yJ (vJ 1) wJ) wC)) (bJ (yJ (pJ (bJ (yJ (vJ 0) (yJ (vJ 1) wJ)) itZ) (gTp 2 (zX (gNm 0) (zX (gNm 1) kR))) (zGK self) (nG self) 2 []) wJ) zTP)))
def zHM(self:List MV->Sto->R Er):AF:=zT (wR self) (zT (wS self) (zT (gH self) (zT (zCU self) (zT (zCV self) ((zJX self))))))
def zY:Nat->List MV->Sto->R Er
 |0=>λ_ _=>.no
 |n+1=>λds S=>yH (zHM (zY n) (zS ["_law_told","_law_due"] ds) S)
noncomputable def dC:Rho->Sto->R Fl:=(CJ (dJ wO (kJ (.int 1)) (dJ kT (vJ 2) (kJ (.int 4)))) 6)
noncomputable def dE:Rho->Sto->R Fl:=(BJ (eJ zNG yBP (vJ 4) (yJ (bJ (yJ (vJ 6) (yJ (dJ kT (dJ cL (vJ 2) (kJ (.int 4))) (dJ wO (vJ 6) (kJ (.int 1)))) wJ)) kQ) wJ)))
noncomputable def dF:Rho->Sto->R Fl:=(CJ (dJ cL (vJ 2) (kJ (.int 20))) 2)
noncomputable def bS:Rho->Sto->R Fl:=zT (dC) (zT (dE) ((dF)))
def zAW:AF:=(CJ (fJ 2 xE (yJ (vJ 0) (yJ (kJ (.int 2147483629)) wJ))) 2)
def zAX:AF:=(CJ (dJ wO (kJ (.int 1)) (dJ kT (vJ 2) (vJ 1))) 3)
def zAY:AF:=(CJ (dJ cL (vJ 2) (vJ 1)) 2)
def zAZ:AF:=(CJ (bJ wJ gX) 4)
def zBA:AF:=(FJ (bJ (yJ (vJ 3) wJ) zDW) (gNm 5) (bS))
def zBB:AF:=(AJ (bJ (yJ (vJ 4) wJ) gY))
def zLM:AF:=zT (zAW) (zT (zAX) (zT (zAY) (zT (zAZ) (zT (zBA) ((zBB))))))
def jU(ds:List MV)(S:Sto):R Er:=yH (zLM (zS zEJ ds) S)
noncomputable def zCW:Rho->Sto->R Fl:=(BJ (eJ zNG yBP (vJ 6) (yJ (dJ ixF (vJ 2) (dJ kT (vJ 4) (vJ 3))) wJ)))
noncomputable def zCX:Rho->Sto->R Fl:=(CJ (dJ cL (vJ 4) (vJ 3)) 4)
noncomputable def zBR:Rho->Sto->R Fl:=zT (zCW) ((zCX))
def zHN:AF:=(CJ (fJ 2 xE (yJ (vJ 0) (yJ (kJ (.int 2147483563)) wJ))) 4)
def zHO:AF:=(CJ (dJ kT (vJ 4) (bJ (yJ (vJ 1) wJ) wC)) 5)
def zHP:AF:=(CJ (dJ cL (vJ 4) (bJ (yJ (vJ 1) wJ) wC)) 4)
def zHQ:AF:=(CJ (bJ wJ gX) 6)
def zHR:AF:=(FJ (bJ (yJ (dJ ixF (dJ ixF (vJ 1) (vJ 5)) (kJ (.int 0))) wJ) zDW) (gNm 7) (zBR))
def zHS:AF:=(AJ (bJ (yJ (vJ 5) (yJ (bJ (yJ (vJ 6) wJ) gY) wJ)) kQ))
def zSJ:AF:=zT (zHN) (zT (zHO) (zT (zHP) (zT (zHQ) (zT (zHR) ((zHS))))))
def nH(ds:List MV)(S:Sto):R Er:=yH (zSJ (zS zLZ ds) S)
noncomputable def zBC:Rho->Sto->R Fl:=(CJ (fJ 4 nH (yJ (vJ 5) (yJ (vJ 1) (yJ (vJ 2) (yJ (vJ 3) wJ))))) 6)
noncomputable def jT:Rho->Sto->R Fl:=(iJ (bJ (dJ (inF true) (vJ 6) (vJ 4)) asB) ((BJ (eJ zNG yBP (vJ 4) (yJ (vJ 6) wJ)))) (JJ))
noncomputable def bI:Rho->Sto->R Fl:=zT (zBC) ((jT))
def zEW:AF:=(CJ (bJ wJ gX) 4)
def zEX:AF:=(FJ (bJ (vJ 0) itL) (gNm 5) (bI))
def zEY:AF:=(AJ (bJ (yJ (vJ 4) wJ) gY))
def zPX:AF:=zT (zEW) (zT (zEX) ((zEY)))
def cJ(ds:List MV)(S:Sto):R Er:=yH (zPX (zS zJG ds) S)
def zEZ:AF:=(CJ (dJ kT (dJ ixF (vJ 0) (kJ (.int 0))) (vJ 1)) 2)
def zFA:AF:=(EJ (dJ cL (dJ ixF (vJ 0) (kJ (.int 0))) (vJ 1)) (DJ jR (vJ 0) (kJ (.int 0))))
def zTS:AF:=(AJ (vJ 2))
def zPY:AF:=zT (zEZ) (zT (zFA) ((zTS)))
def yC(ds:List MV)(S:Sto):R Er:=yH (zPY (zS zJH ds) S)
def bK:AF:=(iJ (bJ (dJ eqF (fJ 2 yC (yJ (vJ 0) (yJ (kJ (.int 4)) wJ))) (kJ (.int 0))) asB) ((AJ (bJ (yJ (kJ (.str [105,115])) (yJ (dJ ixF (vJ 3) (fJ 2 yC (yJ (vJ 0) (yJ (kJ (.int 7)) wJ)))) wJ)) kQ))) (JJ))
def zFB:AF:=(CJ (fJ 2 yC (yJ (vJ 0) (yJ (bJ (yJ (vJ 1) wJ) wC) wJ))) 4)
def zFC:AF:=(AJ (bJ (yJ (kJ (.str [99,101,108,108])) (yJ (vJ 4) (yJ (fJ 2 yC (yJ (vJ 0) (yJ (dJ ixF (dJ ixF (vJ 2) (dJ ixF (vJ 1) (vJ 4))) (kJ (.int 0))) wJ))) wJ))) kQ))
def zJY:AF:=zT (bK) (zT (zFB) ((zFC)))
def kG(ds:List MV)(S:Sto):R Er:=yH (zJY (zS zJI ds) S)
noncomputable def nI:Rho->Sto->R Fl:=(CJ (dJ ixF (bJ (yJ (kJ (.str [115,97,109,101])) (yJ (kJ (.str [117,110,108,105,107,101])) (yJ (kJ (.str [108,101,115,115])) wJ))) gX) (fJ 2 yC (yJ (vJ 0) (yJ (kJ (.int 3)) wJ)))) 6)
noncomputable def nK:Rho->Sto->R Fl:=(CJ (fJ 4 kG (yJ (vJ 0) (yJ (vJ 1) (yJ (vJ 2) (yJ (vJ 3) wJ))))) 7)
noncomputable def nL:Rho->Sto->R Fl:=(BJ (eJ zNG yBP (vJ 4) (yJ (bJ (yJ (vJ 7) (yJ (vJ 6) (yJ (fJ 4 kG (yJ (vJ 0) (yJ (vJ 1) (yJ (vJ 2) (yJ (vJ 3) wJ))))) wJ))) kQ) wJ)))
noncomputable def dG:Rho->Sto->R Fl:=zT (nI) (zT (nK) ((nL)))
def zCY:AF:=(CJ (bJ wJ gX) 4)
def zCZ:AF:=(FJ (bJ (yJ (dJ ixF (bJ (yJ (kJ (.int 1)) (yJ (kJ (.int 1)) (yJ (kJ (.int 2)) (yJ (kJ (.int 1)) (yJ (kJ (.int 2)) (yJ (kJ (.int 3)) wJ)))))) gX) (fJ 2 yC (yJ (vJ 0) (yJ (kJ (.int 6)) wJ)))) wJ) zDW) (gNm 5) (dG))
def zDA:AF:=(AJ (bJ (yJ (vJ 4) wJ) gY))
def zNQ:AF:=zT (zCY) (zT (zCZ) ((zDA)))
def wG(ds:List MV)(S:Sto):R Er:=yH (zNQ (zS zGZ ds) S)
def zIM:Rho->Sto->R Bool:=uJ
def bT:AE:=(fJ 2 yC (yJ (vJ 2) (yJ (dJ ixF (dJ ixF (vJ 1) (vJ 3)) (kJ (.int 0))) wJ)))
def zIN:Rho->Sto->R Bool:=uJ
def bU:AE:=(fJ 2 yC (yJ (vJ 2) (yJ (dJ ixF (dJ ixF (vJ 1) (vJ 3)) (kJ (.int 0))) wJ)))
def zFD:AF:=(CJ (bJ (yJ (fJ 2 xE (yJ (vJ 0) (yJ (kJ (.int 2147483543)) wJ))) wJ) gX) 3)
def zFE:AF:=(CJ (fJ 2 yC (yJ (vJ 3) (yJ (kJ (.int 4)) wJ))) 4)
def zFF:AF:=(CJ (fJ 2 yC (yJ (vJ 3) (yJ (bJ (yJ (vJ 1) wJ) wC) wJ))) 5)
def zFG:AF:=(CJ (fJ 2 yC (yJ (vJ 3) (yJ (bJ (yJ (vJ 1) wJ) wC) wJ))) 6)
def bL:AF:=(iJ (bJ (dJ eqF (vJ 4) (kJ (.int 0))) asB) ((AJ (bJ (yJ (kJ (.str [110,101,118,101,114])) (yJ (vJ 5) (yJ (fJ 4 wG (yJ (vJ 3) (yJ (bJ (yJ (vJ 5) wJ) kQ) (yJ (vJ 1) (yJ (vJ 2) wJ))))) wJ))) kQ))) (JJ))
def bM:AF:=(iJ (bJ (dJ ltF (vJ 4) (kJ (.int 3))) asB) ((AJ (bJ (yJ (kJ (.str [97,112,97,114,116])) (yJ (vJ 5) (yJ (vJ 6) (yJ (fJ 4 wG (yJ (vJ 3) (yJ (bJ (yJ (vJ 5) (yJ (vJ 6) wJ)) kQ) (yJ (vJ 1) (yJ (vJ 2) wJ))))) wJ)))) kQ))) (JJ))
def zFH:AF:=(CJ (dJ ixF (bJ (yJ (kJ (.int 1)) (yJ (kJ (.int 2)) (yJ (kJ (.int 1)) (yJ (kJ (.int 3)) (yJ (kJ (.int 1)) wJ))))) gX) (fJ 2 yC (yJ (vJ 3) (yJ (kJ (.int 5)) wJ)))) 7)
def zFI:AF:=(CJ (bJ (yJ (pJ (bJ (yJ (vJ 7) wJ) zDW) (gNm 0) (zIM) (bT) 1 [1,3,5]) wJ) gY) 8)
def zFJ:AF:=(AJ (bJ (yJ (kJ (.str [116,105,101])) (yJ (vJ 5) (yJ (vJ 8) (yJ (vJ 6) (yJ (bJ (yJ (pJ (bJ (yJ (vJ 7) wJ) zDW) (gNm 0) (zIN) (bU) 1 [1,3,6]) wJ) gY) wJ))))) kQ))
def zEA:AF:=zT (zFD) (zT (zFE) (zT (zFF) (zT (zFG) (zT (bL) (zT (bM) (zT (zFH) (zT (zFI) ((zFJ)))))))))
def kH(ds:List MV)(S:Sto):R Er:=yH (zEA (zS zAF ds) S)
def zDB:AF:=(CJ (bJ (yJ (bJ (vJ 0) (zIO XNS "TooGreat")) (yJ (bJ (vJ 0) (zIO XNS "NoTable")) (yJ (bJ (vJ 0) (zIO XNS "NoRule")) (yJ (bJ (vJ 0) (zIO XNS "NoRow")) wJ)))) gX) 1)
def zDC:AF:=(CJ (dJ wO (vJ 1) (bJ (yJ (bJ (vJ 0) (zIO XNS "Twice")) (yJ (bJ (vJ 0) (zIO XNS "NoText")) (yJ (bJ (vJ 0) (zIO XNS "NoPlace")) (yJ (bJ (vJ 0) (zIO XNS "NotPlain")) wJ)))) gX)) 1)
def zDD:AF:=(CJ (dJ wO (vJ 1) (bJ (yJ (bJ (vJ 0) (zIO XNS "NoQuestion")) (yJ (bJ (vJ 0) (zIO XNS "Double")) (yJ (bJ (vJ 0) (zIO XNS "TooWide")) (yJ (bJ (vJ 0) (zIO XNS "Ring")) wJ)))) gX)) 1)
def zJZ:AF:=(AJ (vJ 1))
def zHT:AF:=zT (zDB) (zT (zDC) (zT (zDD) ((zJZ))))
def dH(ds:List MV)(S:Sto):R Er:=yH (zHT (zS zNM ds) S)
noncomputable def wT:Rho->Sto->R Fl:=(CJ (dJ wO (fJ 1 dH (yJ (vJ 5) wJ)) (bJ (yJ (bJ (vJ 5) (yKA XNS)) wJ) gX)) 3)
noncomputable def wU:Rho->Sto->R Fl:=(iJ (bJ (dJ gtF (vJ 1) (kJ (.int 0))) asB) ((CJ (bJ (vJ 5) (yKI XNS "place")) 4)) (JJ))
noncomputable def jA:Rho->Sto->R Fl:=zT (wT) ((wU))
def cA:Rho->Sto->R Bool:=uJ
def wV:AE:=(dJ eqF (vJ 0) (vJ 1))
def jB:AF:=(CJ (bJ wJ gX) 3)
def nM:AF:=(CJ (kJ .non) 4)
def jC:AF:=(HJ XNS 5 jA 3 xR (yJ (dJ ixF (vJ 0) (kJ (.int 0))) (yJ (dJ ixF (vJ 0) (kJ (.int 1))) (yJ (dJ ixF (vJ 0) (kJ (.int 2))) wJ))))
def jD:AF:=(iJ (bJ (dJ neF (vJ 3) (dJ wO (pJ (bJ (yJ (kJ (.int 12)) wJ) zDW) (gNm 0) (cA) (wV) 1 [1]) (bJ (yJ (kJ (.bl true)) wJ) gX))) asB) ((AJ (kJ (.bl false)))) (JJ))
def jE:AF:=(AJ (oJ (dJ eqF (vJ 1) (kJ (.int 0))) (aJ (nJ (bJ (yJ (vJ 4) (yJ (kJ (.typ "bool")) wJ)) cQ)) (dJ eqF (vJ 4) (vJ 2)))))
def gI:AF:=zT (jB) (zT (nM) (zT (jC) (zT (jD) ((jE)))))
def jF(ds:List MV)(S:Sto):R Er:=yH (gI (zS zCH ds) S)
def zBD:AF:=(CJ (dJ kT (vJ 1) (dJ wO (bJ (yJ (vJ 0) wJ) wC) (kJ (.int 1)))) 3)
def zBE:AF:=(AJ (bJ (yJ (dJ wO (dJ wO (tJ zAD (vJ 0) mJ (bJ (vJ 3) asI)) (bJ (yJ (vJ 2) wJ) gX)) (tJ zAD (vJ 0) (bJ (vJ 3) asI) mJ)) (yJ (vJ 3) wJ)) kQ))
def zFK:AF:=zT (zBD) ((zBE))
def kM(ds:List MV)(S:Sto):R Er:=yH (zFK (zS zLH ds) S)
def zBM:Rho->Sto->R Bool:=uJ
def gZ:AE:=(bJ (yJ (kJ (.int 0)) (yJ (dJ yEL (bJ (yJ (vJ 0) wJ) kQ) (dJ ixF (dJ ixF (dJ ixF (vJ 1) (kJ (.int 0))) (kJ (.int 0))) (kJ (.int 0)))) wJ)) kQ)
def xY:AF:=(iJ (bJ (dJ eqF (dJ kT (vJ 1) (kJ (.int 3))) (kJ (.int 0))) asB) ((EJ (tJ zAD (dJ zNB (dJ ixF (vJ 0) (kJ (.int 0))) (kJ (.int 5))) mJ (bJ (kJ (.int 5)) asI)) (DJ jR (vJ 0) (kJ (.int 0))))) ((iJ (bJ (dJ eqF (dJ kT (vJ 1) (kJ (.int 3))) (kJ (.int 1))) asB) ((EJ (dJ zNB (bJ (yJ (bJ (yJ (kJ (.str [110,101,118,101,114])) (yJ (kJ (.int 0)) (yJ (bJ (yJ (bJ (yJ (bJ (yJ (kJ (.str [99,101,108,108])) (yJ (kJ (.int 0)) (yJ (kJ (.int 0)) wJ))) kQ) (yJ (kJ (.str [115,97,109,101])) (yJ (bJ (yJ (kJ (.str [105,115])) (yJ (kJ (.int 1)) wJ)) kQ) wJ))) kQ) wJ) kQ) wJ))) kQ) wJ) gX) (kJ (.int 7))) (DJ jR (vJ 0) (kJ (.int 1))))) ((EJ (pJ (bJ (yJ (kJ (.int 61)) wJ) zDW) (gNm 0) (zBM) (gZ) 1 [0]) (DJ jR (vJ 0) (kJ (.int 2))))))))
def zBF:AF:=(xY)
def kC(ds:List MV)(S:Sto):R Er:=yH (zBF (zS kB ds) S)
def nN:AF:=(CJ (dJ kT (fJ 2 zZ (yJ (vJ 1) (yJ (kJ (.int 4)) wJ))) (kJ (.int 32))) 2)
def nO:AF:=(CJ (dJ kT (fJ 2 zZ (yJ (vJ 1) (yJ (kJ (.int 5)) wJ))) (dJ zIZ (kJ (.int 10)) (kJ (.int 12)))) 3)
def nP:AF:=(CJ (bJ (yJ (kJ (.int 0)) (yJ (kJ (.int 0)) (yJ (kJ (.int 0)) (yJ (kJ (.int 0)) (yJ (kJ (.int 0)) wJ))))) gX) 4)
def gQ:AF:=(iJ (rJ (bJ (dJ eqF (dJ kT (dJ cL (vJ 2) (kJ (.int 16))) (kJ (.int 2))) (kJ (.int 1))) asB) (rJ (bJ (dJ neF (dJ ixF (vJ 0) (kJ (.int 2))) (bJ wJ gX)) asB) (bJ (dJ ltF (bJ (yJ (dJ ixF (vJ 0) (kJ (.int 2))) wJ) wC) (kJ (.int 60))) asB))) (zT (CJ (dJ kT (vJ 3) (bJ (yJ (dJ ixF (vJ 0) (kJ (.int 2))) wJ) wC)) 5) (zT (CJ (dJ wO (dJ wO (vJ 5) (kJ (.int 1))) (dJ kT (dJ cL (vJ 3) (kJ (.int 61))) (dJ yGL (bJ (yJ (dJ ixF (vJ 0) (kJ (.int 2))) wJ) wC) (vJ 5)))) 6) (zT (EJ (dJ wO (dJ wO (tJ zAD (dJ ixF (vJ 0) (kJ (.int 2))) mJ (bJ (vJ 6) asI)) (bJ (yJ (dJ ixF (dJ ixF (vJ 0) (kJ (.int 2))) (vJ 5)) wJ) gX)) (tJ zAD (dJ ixF (vJ 0) (kJ (.int 2))) (bJ (vJ 6) asI) mJ)) (DJ jR (vJ 0) (kJ (.int 2)))) ((EJ (vJ 6) (DJ jR (vJ 4) (kJ (.int 4)))))))) ((CJ (dJ kT (vJ 2) (kJ (.int 16))) 2)))
def gR:AF:=(iJ (bJ (dJ eqF (dJ kT (dJ cL (vJ 2) (kJ (.int 8))) (kJ (.int 2))) (kJ (.int 1))) asB) ((EJ (fJ 3 kM (yJ (tJ zAD (dJ ixF (vJ 0) (kJ (.int 2))) mJ (bJ (kJ (.int 59)) asI)) (yJ (dJ cL (vJ 3) (kJ (.int 7))) (yJ (bJ (yJ (bJ (yJ (dJ ixF (vJ 0) (kJ (.int 0))) wJ) wC) (yJ (bJ (yJ (kJ (.int 1)) wJ) kQ) wJ)) kQ) wJ)))) (gTp 2 (zX (DJ jR (vJ 0) (kJ (.int 2))) (zX (DJ jR (vJ 4) (kJ (.int 3))) kR))))) (JJ))
def gS:AF:=(iJ (bJ (dJ eqF (dJ kT (dJ cL (vJ 2) (kJ (.int 4))) (kJ (.int 2))) (kJ (.int 1))) asB) ((EJ (fJ 3 kM (yJ (tJ zAD (dJ ixF (vJ 0) (kJ (.int 1))) mJ (bJ (kJ (.int 5)) asI)) (yJ (dJ cL (vJ 3) (kJ (.int 11))) (yJ (bJ (yJ (kJ (.str [116,105,101])) (yJ (kJ (.int 0)) (yJ (bJ (yJ (kJ (.int 0)) wJ) kQ) (yJ (kJ (.int 0)) (yJ (bJ (yJ (kJ (.int 0)) (yJ (kJ (.int 0)) wJ)) kQ) wJ))))) kQ) wJ)))) (gTp 2 (zX (DJ jR (vJ 0) (kJ (.int 1))) (zX (DJ jR (vJ 4) (kJ (.int 2))) kR))))) (JJ))
def gT:AF:=(iJ (bJ (dJ eqF (dJ kT (dJ cL (vJ 2) (kJ (.int 2))) (kJ (.int 2))) (kJ (.int 1))) asB) ((EJ (fJ 3 kM (yJ (tJ zAD (dJ ixF (vJ 0) (kJ (.int 0))) mJ (bJ (kJ (.int 3)) asI)) (yJ (dJ cL (vJ 3) (kJ (.int 13))) (yJ (dJ ixF (bJ (yJ (bJ (yJ (kJ (.int 0)) (yJ (kJ (.int 0)) wJ)) kQ) (yJ (bJ (yJ (kJ (.int 2)) (yJ (kJ (.int 3)) wJ)) kQ) (yJ (bJ (yJ (kJ (.int 5)) (yJ (kJ (.int 1)) wJ)) kQ) (yJ (bJ (yJ (kJ (.int 1)) (yJ (kJ (.int (-1))) wJ)) kQ) wJ)))) gX) (dJ kT (dJ cL (vJ 3) (kJ (.int 50))) (kJ (.int 4)))) wJ)))) (gTp 2 (zX (DJ jR (vJ 0) (kJ (.int 0))) (zX (DJ jR (vJ 4) (kJ (.int 1))) kR))))) (JJ))
def gU:AF:=(iJ (bJ (dJ eqF (dJ kT (vJ 2) (kJ (.int 2))) (kJ (.int 1))) asB) ((BJ (fJ 2 kC (yJ (vJ 0) (yJ (dJ cL (vJ 3) (kJ (.int 17))) wJ))))) (JJ))
def nQ:AF:=(AJ (bJ (yJ (vJ 2) (yJ (vJ 4) wJ)) kQ))
def zDE:AF:=zT (nN) (zT (nO) (zT (nP) (zT (gQ) (zT (gR) (zT (gS) (zT (gT) (zT (gU) ((nQ)))))))))
def gK(ds:List MV)(S:Sto):R Er:=yH (zDE (zS zJJ ds) S)
def zUZ:Rho->Sto->R Bool:=uJ
def zOS:AE:=(fJ 3 kH (yJ (fJ 2 zZ (yJ (vJ 1) (yJ (dJ wO (kJ (.int 6)) (vJ 0)) wJ))) (yJ (vJ 3) (yJ (vJ 2) wJ))))
def zVA:Rho->Sto->R Bool:=uJ
def zOT:AE:=(bJ (yJ (vJ 0) wJ) zUS)
def zVB:Rho->Sto->R Bool:=uJ
def zOU:AE:=(bJ (yJ (vJ 0) wJ) zUS)
def zOV:Rho->Sto->R Bool:=(bJ (dJ eqF (dJ kT (dJ cL (vJ 1) (dJ shlF (kJ (.int 1)) (vJ 0))) (kJ (.int 2))) (kJ (.int 1))) asB)
def zVC:AE:=(vJ 0)
noncomputable def zVD:Rho->Sto->R Fl:=(iJ (sJ (qJ (bJ (fJ 3 jF (yJ (vJ 6) (yJ (dJ ixF (vJ 10) (kJ (.int 0))) (yJ (dJ ixF (vJ 8) (dJ ixF (vJ 10) (kJ (.int 0)))) wJ)))) dW)) (bJ (dJ neF (vJ 6) (vJ 9)) asB)) ((AJ (kJ (.bl false)))) (JJ))
noncomputable def zQU:Rho->Sto->R Fl:=(zVD)
def zWW:AF:=(CJ (fJ 1 cH (yJ (fJ 2 zZ (yJ (vJ 0) (yJ (kJ (.int 0)) wJ))) wJ)) 1)
def zWX:AF:=(CJ (fJ 2 jU (yJ (fJ 2 zZ (yJ (vJ 0) (yJ (kJ (.int 1)) wJ))) (yJ (kJ (.int 4)) wJ))) 2)
def zWY:AF:=(CJ (fJ 2 zZ (yJ (vJ 0) (yJ (kJ (.int 2)) wJ))) 3)
def zWZ:AF:=(CJ (bJ (yJ (pJ (bJ (yJ (dJ kT (vJ 3) (kJ (.int 7))) wJ) zDW) (gNm 0) (zUZ) (zOS) 1 [0,1,2]) wJ) gY) 4)
def zXA:AF:=(CJ (bJ (yJ (vJ 2) (yJ (vJ 4) (yJ (fJ 4 cJ (yJ (tJ zAD (vJ 0) (bJ (kJ (.int 12)) asI) (bJ (kJ (.int 63)) asI)) (yJ (vJ 2) (yJ (vJ 1) (yJ (dJ wO (kJ (.int 2)) (dJ kT (dJ cL (vJ 3) (kJ (.int 7))) (kJ (.int 6)))) wJ))))) wJ))) kQ) 5)
def zXB:AF:=(CJ (pJ (bJ (vJ 5) itT) (gNm 0) (zVA) (zOT) 1 []) 6)
def zQV:AF:=(EJ (fJ 2 gK (yJ (vJ 6) (yJ (vJ 0) wJ))) (gTp 2 (zX (gNm 7) (zX (gNm 8) kR))))
def zQW:AF:=(CJ (pJ (bJ (vJ 6) itL) (gNm 0) (zVB) (zOU) 1 []) 9)
def zQX:AF:=(CJ (pJ (bJ (yJ (kJ (.int 5)) wJ) zDW) (gNm 0) (zOV) (zVC) 1 [7]) 10)
def zKA:AF:=(iJ (bJ (dJ neF (vJ 10) (bJ wJ gX)) asB) ((FJ (bJ (yJ (kJ (.int 2)) wJ) zDW) (gNm 11) (zQU))) (JJ))
def zNR:AF:=(AJ (fJ 2 (zY 8) (yJ (fJ 3 xR (yJ (dJ ixF (vJ 5) (kJ (.int 0))) (yJ (dJ ixF (vJ 5) (kJ (.int 1))) (yJ (dJ ixF (vJ 5) (kJ (.int 2))) wJ)))) (yJ (vJ 5) wJ))))
def yKP:AF:=zT (zWW) (zT (zWX) (zT (zWY) (zT (zWZ) (zT (zXA) (zT (zXB) (zT (zQV) (zT (zQW) (zT (zQX) (zT (zKA) ((zNR)))))))))))
def zZC(ds:List MV)(S:Sto):R Er:=yH (yKP (zS zUY ds) S)
end
def abc:List Nat:=[97,98,99,100,101,102,103,104,105,106,107,108,109,110,111,112,113,114,115,116,117,118,119,120,121,122]
theorem yHD(c n:Int)(x:List Nat)(s:Option MV)(S:Sto)(h:x.length<=1000): ∃k,(97<=k/\k<=122)/\zAB [some (.int c),some (.str abc),some (.int n),some (.str x),s] S=
  .ok (.next [some (.int c),some (.str abc),some (.int (n / 26)),some (.str (x++[k])),s]) S:=by
 obtain⟨k,hk⟩:=nX (xs:=abc) (i:=n % 26) (eN _ (by decide)) (by have:=eL n (show(0:Int)<26 by decide);show n % 26<26;exact this)
 refine⟨k,nY (P:=λk=>97<=k/\k<=122) (by decide) hk,?_⟩
 have h1:zAU [some (.int c),some (.str abc),some (.int n),some (.str x),s] S=.ok (.next [some (.int c),some (.str abc),some (.int n),some (.str (x++[k])),s]) S:=by
  unfold zAU
  simp? [mod_lit (show(0:Int)<26 by decide),ix_str (show abc.length<=sizeLine by rw [sizeLine_eq];decide) hk]
  rw [add_str (fits (by rw [lS];omega))]
  rfl
 have h2:zAV [some (.int c),some (.str abc),some (.int n),some (.str (x++[k])),s] S=.ok (.next [some (.int c),some (.str abc),some (.int (n / 26)),some (.str (x++[k])),s]) S:=by
  unfold zAV
  simp? [yP (b:=26) (by decide) (by decide)]
 unfold zAB
 rw [zE h1,h2]
theorem zVE(c:Int)(S:Sto): ∀(ds:List MV)(n:Int)(x:List Nat)(s:Option MV),x.length+ds.length<=1000->(∀c∈x,97<=c/\c<=122)-> ∃n' x' s',zBQ (gNm 4) zAB [] ds [some (.int c),some (.str abc),some (.int n),some (.str x),s] S=
  .ok (.next [some (.int c),some (.str abc),some (.int n'),some (.str x'),s']) S/\x'.length=x.length+ds.length/\ ∀c∈x',97<=c/\c<=122
 |[],n,x,s,_,hx=>⟨n,x,s,rfl,rfl,hx⟩
 |d::ds,n,x,s,h,hx=>by
  rw [lC0]at h
  obtain⟨k,hl,hk⟩:=yHD c n x (some d) S (by omega)
  obtain⟨n',x',s',h1,h2,h3⟩:=zVE c S ds (n / 26) (x++[k]) (some d) (by rw [lA,lS];omega) (by
   intro c hc
   rw [mem_append,mS]at hc
   rcases hc with hc|rfl
   ·exact hx c hc
   ·exact hl)
  refine⟨n',x',s',?_,by rw [h2,lA,lS,lC0];omega,h3⟩
  rw [bD rfl hk (kU S)]
  exact h1
theorem yOI(c:Int)(S:Sto): ∃x,cG [.int c] S=.ok (.val (.str x)) S/\Nm x:=by
 have hm0:0<=c % 8:=eN _ (by decide)
 have hm1:c % 8<8:=eL _ (by decide)
 have hn:((List.range (1+c % 8).toNat).map λk=>MV.int (k:Nat)).length=(1+c % 8).toNat:=by rw [lM0,length_range]
 obtain⟨n',x',s',h1,h2,h3⟩:=zVE c S ((List.range (1+c % 8).toNat).map λk=>MV.int (k:Nat)) (c / 8) [] none (by rw [hn];simp only [length_nil];omega) (by simp)
 rw [hn,length_nil]at h2
 refine⟨x',?_,by omega,by omega,h3⟩
 have e1:zLJ [some (.int c),none,none,none,none] S=.ok (.next [some (.int c),some (.str abc),none,none,none]) S:=rfl
 have e2:zEM [some (.int c),some (.str abc),none,none,none] S=.ok (.next [some (.int c),some (.str abc),some (.int (c / 8)),none,none]) S:=by
  unfold zEM
  simp? [yP (b:=8) (by decide) (by decide)]
 have e3:zLK [some (.int c),some (.str abc),some (.int (c / 8)),none,none] S=.ok (.next [some (.int c),some (.str abc),some (.int (c / 8)),some (.str []),none]) S:=rfl
 have e4:zEN [some (.int c),some (.str abc),some (.int (c / 8)),some (.str []),none] S=.ok (.next [some (.int c),some (.str abc),some (.int n'),some (.str x'),s']) S:=by
  unfold zEN
  simp? [mod_lit (show(0:Int)<8 by decide)]
  rw [zAR (by omega),bok]
  exact h1
 have hs:zS zJE [.int c]=[some (.int c),none,none,none,none]:=rfl
 unfold cG zPV
 rw [hs,zE e1,zE e2,zE e3,zE e4]
 rfl
theorem p1060(S:Sto):zIZ (.val (.int 10)) (.val (.int 60)) S=.ok (.val (.int (10 ^ 60))) S:=rfl
theorem p600(S:Sto):zIZ (.val (.int (10 ^ 60))) (.val (.int 10)) S=.ok (.val (.int ((10 ^ 60) ^ 10))) S:=by
 show(if yGM (10 ^ 60) 10 then R.ok (Er.val (.int ((10 ^ 60) ^ (10:Int).toNat))) S else .no)=_
 rw [iP (by decide+kernel)]
 rfl
theorem pp30(S:Sto):zIZ (.val (.int 10)) (.val (.int 30)) S=.ok (.val (.int (10 ^ 30))) S:=rfl
theorem pp268(S:Sto):zIZ (.val (.int 26)) (.val (.int 8)) S=.ok (.val (.int 208827064576)) S:=rfl
theorem yEM{b:Int}(h:yBK 0 b)(a:Int)(S:Sto):cL (.val (.int a)) (.val (.int b)) S=.ok (.val (.int (a / b))) S:=iP (show yBK a b from h)
theorem ySX{a:Int}(h:0<=a/\a<4294967296)(S:Sto):zNB (.val (.int a)) (.val (.int a)) S=.ok (.val (.int (a * a))) S:=
 zQR ⟨Int.lt_of_lt_of_le (by decide) h.1,Int.lt_trans h.2 (by decide)⟩ a S
theorem zXC(c p:Int)(hp:0<p/\p<4294967296)(S:Sto): ∃n,zO 2 xE [.val (.int c),.val (.int p)] S=.ok (.val (.int n)) S:=by
 have hs:zS zLY [.int c,.int p]=[some (.int c),some (.int p),none]:=rfl
 have h600:(0:Int)<(10 ^ 60) ^ 10:=pow_pos (pow_pos (by decide))
 have e1:zHJ [some (.int c),some (.int p),none] S=if decide (c % 2=0)=true then .ok (.ret (.val (.int (c / 2 % (10 ^ 60) ^ 10)))) S else .ok (.next [some (.int c),some (.int p),none]) S:=by
  unfold zHJ
  simp? [mod_lit (show(0:Int)<2 by decide),yP (b:=2) (by decide) (by decide),p1060,p600,mod_lit h600]
 have fin: ∀n,xE [.int c,.int p] S=.ok (.val (.int n)) S-> ∃n,zO 2 xE [.val (.int c),.val (.int p)] S=.ok (.val (.int n)) S:=λn h=>⟨n,zGA rfl h (jY _ _) (λl=>by simp)⟩
 cases hb:decide (c % 2=0)with
 |true=>
  refine fin (c / 2 % (10 ^ 60) ^ 10) ?_
  rw [hb,iP rfl]at e1
  unfold xE zMG
  rw [hs,bR e1]
  rfl
 |false=>
  rw [hb,iN0 xF0]at e1
  have hn0:0<=(c % 2147483629+7) * 48271 % p:=eN _ (by omega)
  have hn1:(c % 2147483629+7) * 48271 % p<p:=eL _ hp.1
  have e2:zHK [some (.int c),some (.int p),none] S=.ok (.next [some (.int c),some (.int p),some (.int ((c % 2147483629+7) * 48271 % p))]) S:=by
   unfold zHK
   simp? [mod_lit (show(0:Int)<2147483629 by decide),zQR (show -(2 ^ 64)<(48271:Int)/\(48271:Int)<2 ^ 64 by decide),mod_lit hp.1]
  generalize (c % 2147483629+7) * 48271 % p=m at hn0 hn1 e2
  have e3:zHL [some (.int c),some (.int p),some (.int m)] S=.ok (.ret (.val (.int (m * m % 2147483579 * 1000003+m)))) S:=by
   unfold zHL
   simp? [ySX (a:=m) ⟨hn0,by omega⟩,mod_lit (show(0:Int)<2147483579 by decide),zQR (show -(2 ^ 64)<(1000003:Int)/\(1000003:Int)<2 ^ 64 by decide)]
  refine fin (m * m % 2147483579 * 1000003+m) ?_
  unfold xE zMG
  rw [hs,zE e1,zE e2,e3]
  rfl
theorem yOJ: ∀k,k<26->strIdx abc [97+k]=some k:=by decide+kernel
abbrev P8(c n:Int)(a b x4 x5 x6 x7:Option MV):Rho:=[some (.int c),some (.int n),a,b,x4,x5,x6,x7]
section
variable{c n:Int}{a b x4 x5 x6 x7:Option MV}{S:Sto}{x:List Nat}{at' tn:Int}
theorem po4:zEQ (P8 c n a b x4 x5 x6 x7) S=.ok (.next (P8 c (n / 1670616516608) a b x4 x5 x6 x7)) S:=by
 unfold zEQ
 simp? [pp268,yJU (show -(2 ^ 64)<(8:Int)/\(8:Int)<2 ^ 64 by decide),yEM (show yBK 0 (8 * 208827064576) by decide+kernel)]
 rfl
theorem po5(hx:Nm x):zER (P8 c n a (some (.str x)) x4 x5 x6 x7) S=.ok (.next (P8 c n a (some (.str x)) (some (.int (n % x.length))) x5 x6 x7)) S:=by
 have hl:wC [.val (.str x)] S=.ok (.val (.int x.length)) S:=iP (fits (by have:=hx.2.1;omega))
 have hp:(0:Int)<(x.length:Int):=by have:=hx.1;omega
 unfold zER
 simp? [hl,mod_lit hp]
theorem po6(hx:Nm x)(h0:0<=at')(h1:at'<x.length): ∃tn,zES (P8 c n (some (.str abc)) (some (.str x)) (some (.int at')) x5 x6 x7) S=.ok (.next (P8 c n (some (.str abc)) (some (.str x)) (some (.int at')) (some (.int tn)) x6 x7)) S:=by
 obtain⟨k,hk⟩:=nX (xs:=x) h0 h1
 obtain⟨k0,k1⟩:=nY (P:=λc=>97<=c/\c<=122) hx.2.2 hk
 have hi:=yOJ (k - 97) (by omega)
 rw [show 97+(k - 97)=k by omega]at hi
 have hsi:zYT (.val (.str abc)) [.val (.str [k])] S=.ok (.val (.int ((k - 97:Nat):Int))) S:=by
  show(match strIdx abc [k]with |some i=>R.ok (Er.val (.int (i:Nat))) S|none=>.no)=_
  rw [hi]
 refine⟨((k - 97:Nat):Int)+1+n / 8 % 25,?_⟩
 unfold zES
 simp? [ix_str (S:=S) (fits (show x.length<=1000000 by have:=hx.2.1;omega)) hk,show zSB (.val (.str abc)) S=true from rfl,hsi,yP (b:=8) (by decide) (by decide),mod_lit (show(0:Int)<25 by decide)]
theorem po7(hx:Nm x)(h0:0<=at')(h1:at'<x.length): ∃y,Nm y/\zET (P8 c n (some (.str abc)) (some (.str x)) (some (.int at')) (some (.int tn)) x6 x7) S=.ok (.next (P8 c n (some (.str abc)) (some (.str x)) (some (.int at')) (some (.int tn)) (some (.str y)) x7)) S:=by
 obtain⟨k,hk⟩:=nX (xs:=abc) (i:=tn % 26) (eN _ (by decide)) (by have:=eL tn (show(0:Int)<26 by decide);show tn % 26<26;exact this)
 have hkl:=nY (P:=λk=>97<=k/\k<=122) (by decide) hk
 have c1:cK x none (some at')=x.take at'.toNat:=yNX _ _ h0
 have c2:cK x (some (at'+1)) none=x.drop (at'.toNat+1):=by
  unfold cK
  have z1:HT.sIx x.length 0 (some (at'+1))=at'.toNat+1:=by
   unfold HT.sIx
   simp only
   split<;>omega
  have z2:HT.sIx x.length x.length none=x.length:=rfl
  rw [z1,z2]
  rw [take_of_length_le (by rw [length_drop];omega)]
 have hlen:=hx.2.1
 refine⟨x.take at'.toNat++[k]++x.drop (at'.toNat+1),⟨?_,?_,?_⟩,?_⟩
 ·simp only [lA,lS];omega
 ·simp only [lA,lS,lT0,length_drop];omega
 ·intro z hz
  rw [mem_append,mem_append,mS]at hz
  rcases hz with(hz|rfl)|hz
  ·exact hx.2.2 z (mem_of_mem_take hz)
  ·exact hkl
  ·exact hx.2.2 z (List.mem_of_mem_drop hz)
 ·unfold zET
  simp? [cut_str (S:=S) (fits (show x.length<=1000000 by omega)),c1,mod_lit (show(0:Int)<26 by decide),ix_str (show abc.length<=sizeLine by rw [sizeLine_eq];decide) hk,c2]
  rw [add_str (x:=x.take at'.toNat) (y:=[k]) (fits (by rw [lS,lT0];omega)),bok]
  simp? [cut_str (S:=S) (fits (show x.length<=1000000 by omega)),c2]
  rw [add_str (fits (by simp only [lA,lS,lT0,length_drop];omega)),bok]
  rfl
theorem po8:zEU (P8 c n a b x4 x5 x6 x7) S=.ok (.next (P8 c (n / 200) a b x4 x5 x6 x7)) S:=by
 unfold zEU
 simp? [yP (b:=200) (by decide) (by decide)]
theorem po9: ∃g,(1<=g/\g<=10 ^ 30 - 3)/\zEV (P8 c n a b x4 x5 x6 x7) S=.ok (.next (P8 c n a b x4 x5 x6 (some (.int g)))) S:=by
 have h0:0<=n % 10 ^ 30:=eN _ (by decide)
 have h1:n % 10 ^ 30<10 ^ 30:=eL _ (by decide)
 have h2:0<=(n % 10 ^ 30 * 48271+11) ^ (4:Int).toNat % (10 ^ 30 - 3):=eN _ (by decide)
 have h3:(n % 10 ^ 30 * 48271+11) ^ (4:Int).toNat % (10 ^ 30 - 3)<10 ^ 30 - 3:=eL _ (by decide)
 have h4:yGM (n % 10 ^ 30 * 48271+11) 4:=by
  refine⟨by decide,?_⟩
  have hb:Builtin.Int.intBits (n % 10 ^ 30 * 48271+11)<=200:=by
   unfold Builtin.Int.intBits
   split
   ·omega
   ·rename_i hn
    have hn':(n % 10 ^ 30 * 48271+11).natAbs≠0:=by omega
    have:=(log2_lt hn').mpr (show(n % 10 ^ 30 * 48271+11).natAbs<2 ^ 199 by omega)
    omega
  omega
 refine⟨(n % 10 ^ 30 * 48271+11) ^ (4:Int).toNat % (10 ^ 30 - 3)+1,⟨by omega,by omega⟩,?_⟩
 unfold zEV
 simp? [pp30,mod_lit (show(0:Int)<10 ^ 30 by decide),zQR (show -(2 ^ 64)<(48271:Int)/\(48271:Int)<2 ^ 64 by decide),yNR h4,mod_lit (show(0:Int)<10 ^ 30 - 3 by decide)]
theorem po10{g:Int}(hg:1<=g/\g<=10 ^ 30 - 3): ∃g',(1<=g'/\g'<=10 ^ 30 - 3)/\dB (P8 c n a b x4 x5 x6 (some (.int g))) S=.ok (.next (P8 c n a b x4 x5 x6 (some (.int g')))) S:=by
 have h2:0<=n / 2 % (10 ^ 30 - 3):=eN _ (by decide)
 have h3:n / 2 % (10 ^ 30 - 3)<10 ^ 30 - 3:=eL _ (by decide)
 have e:dB (P8 c n a b x4 x5 x6 (some (.int g))) S=if decide (n % 2=1)=true then .ok (.next (P8 c n a b x4 x5 x6 (some (.int (n / 2 % (10 ^ 30 - 3)+1))))) S else .ok (.next (P8 c n a b x4 x5 x6 (some (.int g)))) S:=by
  unfold dB
  simp? [mod_lit (show(0:Int)<2 by decide),yP (b:=2) (by decide) (by decide),pp30,mod_lit (show(0:Int)<10 ^ 30 - 3 by decide)]
 cases hb:decide (n % 2=1)with
 |true=>exact⟨n / 2 % (10 ^ 30 - 3)+1,⟨by omega,by omega⟩,by rw [e,hb,iP rfl]⟩
 |false=>exact⟨g,hg,by rw [e,hb,iN0 xF0]⟩
theorem lst7(a b c d e f g:MV)(S:Sto):gX [.val a,.val b,.val c,.val d,.val e,.val f,.val g] S=.ok (.new [a,b,c,d,e,f,g]) S:=zJB (by simp)
theorem po11{g:Int}{y:List Nat}(hg:1<=g/\g<=10 ^ 30 - 3)(hx:Nm x)(hy:Nm y): ∃vs,vs.length=7/\(∀d∈vs,Vl d)/\zCT (P8 c n a (some (.str x)) x4 x5 (some (.str y)) (some (.int g))) S=.ok (.ret (.new vs)) S:=by
 have h0:0<=n / 64 % 5:=eN _ (by decide)
 have h1:n / 64 % 5<5:=eL _ (by decide)
 have h2:0<=n / 320 % 5:=eN _ (by decide)
 have h3:n / 320 % 5<5:=eL _ (by decide)
 refine⟨[.int (n / 64 % 5),.int g,.str x,.int (0 - g),.str y,.int (n / 320 % 5+7),.int (g+1)],rfl,?_,?_⟩
 ·intro d hd
  simp only [mC,nM0,or_false]at hd
  rcases hd with rfl|rfl|rfl|rfl|rfl|rfl|rfl
  ·exact⟨by omega,by omega⟩
  ·exact⟨by omega,by omega⟩
  ·exact hx
  ·exact⟨by omega,by omega⟩
  ·exact hy
  ·exact⟨by omega,by omega⟩
  ·exact⟨by omega,by omega⟩
 ·unfold zCT
  simp? [yP (b:=64) (by decide) (by decide),mod_lit (show(0:Int)<5 by decide),yP (b:=320) (by decide) (by decide),lst7]
end
theorem yOK(c:Int)(S:Sto): ∃vs,vs.length=7/\(∀d∈vs,Vl d)/\zO 1 cH [.val (.int c)] S=.ok (.new vs) S:=by
 obtain⟨n,hn⟩:=zXC c 2147483587 ⟨by decide,by decide⟩ S
 obtain⟨x,hx,nx⟩:=yOI n S
 have hc:zO 1 cG [.val (.int n)] S=.ok (.val (.str x)) S:=zGA rfl hx (zGY _ x) (λl=>by simp)
 have hs:zS zJF [.int c]=[some (.int c),none,none,none,none,none,none,none]:=rfl
 have e1:zEO [some (.int c),none,none,none,none,none,none,none] S=.ok (.next (P8 c n none none none none none none)) S:=by
  unfold zEO
  simp? [hn]
 have e2:zLL (P8 c n none none none none none none) S=.ok (.next (P8 c n (some (.str abc)) none none none none none)) S:=rfl
 have e3:zEP (P8 c n (some (.str abc)) none none none none none) S=.ok (.next (P8 c n (some (.str abc)) (some (.str x)) none none none none)) S:=by
  unfold zEP
  simp? [hc]
 have hp:0<x.length:=by have:=nx.1;omega
 have hm0:0<=n / 1670616516608 % (x.length:Int):=eN _ (by omega)
 have hm1:n / 1670616516608 % (x.length:Int)<x.length:=eL _ (by omega)
 obtain⟨tn,e6⟩:=po6 (c:=c) (n:=n / 1670616516608) (x5:=none) (x6:=none) (x7:=none) (S:=S) nx hm0 hm1
 obtain⟨y,ny,e7⟩:=po7 (c:=c) (n:=n / 1670616516608) (tn:=tn) (x6:=none) (x7:=none) (S:=S) nx hm0 hm1
 obtain⟨g,hg,e9⟩:=po9 (c:=c) (n:=n / 1670616516608 / 200) (a:=some (.str abc)) (b:=some (.str x)) (x4:=some (.int (n / 1670616516608 % (x.length:Int)))) (x5:=some (.int tn)) (x6:=some (.str y)) (x7:=none) (S:=S)
 obtain⟨g',hg',e10⟩:=po10 (c:=c) (n:=n / 1670616516608 / 200) (a:=some (.str abc)) (b:=some (.str x)) (x4:=some (.int (n / 1670616516608 % (x.length:Int)))) (x5:=some (.int tn)) (x6:=some (.str y)) (S:=S) hg
 obtain⟨vs,hl,hv,e11⟩:=po11 (c:=c) (n:=n / 1670616516608 / 200) (a:=some (.str abc)) (x4:=some (.int (n / 1670616516608 % (x.length:Int)))) (x5:=some (.int tn)) (S:=S) hg' nx ny
 refine⟨vs,hl,hv,yJQ (T:=[]) rfl ?_ (xP λd hd=>(hv d hd).lo _)⟩
 rw [aN]
 show cH [.int c] S=_
 unfold cH zPW
 rw [hs,zE e1,zE e2,zE e3,zE po4,zE (po5 nx),zE e6,zE e7,zE po8,zE e9,zE e10,e11]
 rfl
theorem zQY{S:Sto}{l:Nat}{ds:List MV}{d:MV}(hS:S[l]? =some (.lst ds))(hz:ds.length<1000000):yBP (.val (.loc l)) [.val d] S=.ok (.val .non) (S.set l (.lst (ds++[d]))):=by
 show yGQ (.val (.loc l)) S (λds=>if ds.length<sizeLine then some (ds++[d])else none)=_
 unfold yGQ
 dsimp only
 rw [hS]
 dsimp only
 rw [iP (lt_of_lt_of_le hz (fits (le_refl _)))]
theorem zQZ{S:Sto}{l:Nat}{ds:List MV}(hS:S[l]? =some (.lst ds)):zNG (.val (.loc l)) S=true:=by
 unfold zNG
 rw [cR hS];rfl
theorem zGL{S:Sto}{l:Nat}{ds:List MV}{k:Int}{j:Nat}{d:MV}{ρ:Rho}(hS:S[l]? =some (.lst ds))(hj:ixN ds.length k=some j):jR (.val (.loc l)) (.val (.int k)) d ρ S=.ok ρ (S.set l (.lst (ds.set j d))):=by
 unfold jR
 dsimp only
 rw [hS]
 dsimp only
 rw [hj]
theorem get_set{S:Sto}{l:Nat}{o o':MO}(h:S[l]? =some o):(S.set l o')[l]? =some o':=getElem?_set_self (gS0.mp h).1
theorem gL{S:Sto}{l m:Nat}{o':MO}(h:l≠m):(S.set l o')[m]? =S[m]? :=getElem?_set_ne h
theorem zGM{S:Sto}{l:Nat}{ds:List MV}(hS:S[l]? =some (.lst ds)):gY [.val (.loc l)] S=.ok (.val (.tup ds)) S:=by
 show(match dQ S (.val (.loc l))with |some ds=>R.ok (Er.val (.tup ds)) S|none=>.no)=_
 rw [cR hS]
theorem zEB(ds:List MV)(S:Sto):wC [.val (.tup ds)] S=.ok (.val (.int ds.length)) S:=rfl
theorem zRA(gf:MV->Rho->Sto->R Rho)(ρ:Rho)(d:MV)(S:Sto):yGI gf ρ (.val d) S=(gf d ρ S).bind λρ' S2=>.ok (.next ρ') S2:=rfl
theorem zSK{n:Nat}{F:List MV->Sto->R Er}{rs:List Er}{S:Sto}{d:MV}{l:Nat}{x:Int}(hn:rs.length=n)(hF:F (zR rs S).1 (zR rs S).2=.ok (.val d) (S.set l (.lst [.int x])))(h:lo S.length d)(hd: ∀l,d≠.loc l):zO n F rs S=.ok (.val d) (S.set l (.lst [.int x])):=by
 unfold zO
 rw [iP hn,hF,wN,bok]
 have hc:zYR S (S.set l (.lst [.int x])):=by
  refine⟨by rw [length_set];exact le_refl _,λm hm=>?_⟩
  by_cases e:l=m
  ·subst e
   exact .inr ⟨_,getElem?_set_self hm,xP λe he=>by rw [mS.mp he];exact jY _ _⟩
  ·exact .inl (getElem?_set_ne e)
 unfold cP
 rw [iP hc]
 have e:(S.set l (.lst [.int x])).take S.length=S.set l (.lst [.int x]):=by rw [take_of_length_le (by rw [length_set];exact le_refl _)]
 cases d with
 |loc m=>exact absurd rfl (hd m)
 |_=>dsimp only;rw [iP h,e]
theorem zHU{S:Sto}{l:Nat}{x n:Int}(hS:S[l]? =some (.lst [.int x]))(h0:0<n)(h1:n<1073741824):zO 2 yC [.val (.loc l),.val (.int n)] S=.ok (.val (.int (x % n))) (S.set l (.lst [.int (x / n)])):=by
 have hs:zS zJH [.loc l,.int n]=[some (.loc l),some (.int n),none]:=rfl
 have ha:atI [MV.int x] 0=some (.int x):=rfl
 have e1:zEZ [some (.loc l),some (.int n),none] S=.ok (.next [some (.loc l),some (.int n),some (.int (x % n))]) S:=by
  unfold zEZ
  simp? [kK hS ha,mod_lit h0]
 have e2:zFA [some (.loc l),some (.int n),some (.int (x % n))] S=.ok (.next [some (.loc l),some (.int n),some (.int (x % n))]) (S.set l (.lst [.int (x / n)])):=by
  unfold zFA
  simp? [kK hS ha,yP h0 h1,zRA,zGL hS (show ixN [MV.int x].length 0=some 0 from rfl)]
 refine zSK rfl ?_ (jY _ _) (λl=>by simp)
 show yC [.loc l,.int n] S=_
 unfold yC zPY
 rw [hs,zE e1,zE e2]
 rfl
def tbl(p:Int×Int):MV:=.tup [.int p.1,.int p.2]
def TOk(ts:List (Int×Int)):Prop:=1<=ts.length/\ts.length<=4/\ ∀p∈ts,1<=p.1/\p.1<=4/\0<=p.2/\p.2<=p.1
abbrev P7(c m n k:MV)(l:Nat)(x5 x6:Option MV):Rho:=[some c,some m,some n,some k,some (.loc l),x5,x6]
theorem yKQ{c m k:MV}{n:Int}{l:Nat}{x5 x6:Option MV}{S:Sto}{ts:List (Int×Int)}(hS:S[l]? =some (.lst (ts.map tbl)))(hl:ts.length<1000):
  ∃p n',(1<=p.1/\p.1<=4/\0<=p.2/\p.2<=p.1)/\bS (P7 c m (.int n) k l x5 x6) S=.ok (.next (P7 c m (.int n') k l x5 (some (.int p.1)))) (S.set l (.lst ((ts++[p]).map tbl))):=by
 have h0:0<=n % 4:=eN _ (by decide)
 have h1:n % 4<4:=eL _ (by decide)
 have hp:(0:Int)<1+n % 4+1:=by omega
 have h2:0<=n / 4 % (1+n % 4+1):=eN _ (by omega)
 have h3:n / 4 % (1+n % 4+1)<1+n % 4+1:=eL _ hp
 refine⟨(1+n % 4,n / 4 % (1+n % 4+1)),n / 20,⟨by show 1<=1+n % 4;omega,by show 1+n % 4<=4;omega,h2,by show n / 4 % (1+n % 4+1)<=1+n % 4;omega⟩,?_⟩
 have e1:dC (P7 c m (.int n) k l x5 x6) S=.ok (.next (P7 c m (.int n) k l x5 (some (.int (1+n % 4))))) S:=by
  unfold dC
  simp? [mod_lit (show(0:Int)<4 by decide)]
 have e2:dE (P7 c m (.int n) k l x5 (some (.int (1+n % 4)))) S=.ok (.next (P7 c m (.int n) k l x5 (some (.int (1+n % 4))))) (S.set l (.lst ((ts++[(1+n % 4,n / 4 % (1+n % 4+1))]).map tbl))):=by
  unfold dE
  simp? [zQZ hS,yP (b:=4) (by decide) (by decide),mod_lit hp,zQY hS (show(ts.map tbl).length<1000000 by rw [lM0];omega)]
  rw [map_append]
  rfl
 have e3:dF (P7 c m (.int n) k l x5 (some (.int (1+n % 4)))) (S.set l (.lst ((ts++[(1+n % 4,n / 4 % (1+n % 4+1))]).map tbl)))=.ok (.next (P7 c m (.int (n / 20)) k l x5 (some (.int (1+n % 4))))) (S.set l (.lst ((ts++[(1+n % 4,n / 4 % (1+n % 4+1))]).map tbl))):=by
  unfold dF
  simp? [yP (b:=20) (by decide) (by decide)]
 unfold bS
 rw [zE e1,zE e2,e3]
theorem yHE(c:Int)(S:Sto): ∃ts,TOk ts/\zO 2 jU [.val (.int c),.val (.int 4)] S=.ok (.val (.tup (ts.map tbl))) S:=by
 obtain⟨n,hn⟩:=zXC c 2147483629 ⟨by decide,by decide⟩ S
 have h0:0<=n % 4:=eN _ (by decide)
 have h1:n % 4<4:=eL _ (by decide)
 have hs:zS zEJ [.int c,.int 4]=[some (.int c),some (.int 4),none,none,none,none,none]:=rfl
 have e1:zAW [some (.int c),some (.int 4),none,none,none,none,none] S=.ok (.next [some (.int c),some (.int 4),some (.int n),none,none,none,none]) S:=by
  unfold zAW
  simp? [hn]
 have e2:zAX [some (.int c),some (.int 4),some (.int n),none,none,none,none] S=.ok (.next [some (.int c),some (.int 4),some (.int n),some (.int (1+n % 4)),none,none,none]) S:=by
  unfold zAX
  simp? [mod_lit (show(0:Int)<4 by decide)]
 have e3:zAY [some (.int c),some (.int 4),some (.int n),some (.int (1+n % 4)),none,none,none] S=.ok (.next [some (.int c),some (.int 4),some (.int (n / 4)),some (.int (1+n % 4)),none,none,none]) S:=by
  unfold zAY
  simp? [yP (b:=4) (by decide) (by decide)]
 have e4:zAZ [some (.int c),some (.int 4),some (.int (n / 4)),some (.int (1+n % 4)),none,none,none] S=.ok (.next (P7 (.int c) (.int 4) (.int (n / 4)) (.int (1+n % 4)) S.length none none)) (S++[.lst []]):=by
  unfold zAZ
  simp? [bok]
 have hlen:((List.range (1+n % 4).toNat).map λk=>MV.int (k:Nat)).length=(1+n % 4).toNat:=by rw [lM0,length_range]
 obtain⟨ρ',S',e,x5,x6,n',ts,hρ,hS',hl,hT⟩:=zWO (L:=(List.range (1+n % 4).toNat).map λk=>MV.int (k:Nat)) (gf:=gNm 5) (body:=bS) (gs:=[]) (S:=S++[.lst []]) (ρ:=P7 (.int c) (.int 4) (.int (n / 4)) (.int (1+n % 4)) S.length none none)
  (λi ρ S'=> ∃x5 x6 n' ts,ρ=P7 (.int c) (.int 4) (.int n') (.int (1+n % 4)) S.length x5 x6/\S'=S++[.lst (ts.map tbl)]/\ts.length=i/\ ∀p∈ts,1<=p.1/\p.1<=4/\0<=p.2/\p.2<=p.1) (λi d hi ρ S1 ⟨x5,x6,n',ts,hρ,hS1,hl,hT⟩=>by
   subst hρ hS1
   have hil:i<5:=by have:=(gS0.mp hi).1;omega
   obtain⟨p,n'',hp,hb⟩:=yKQ (c:=.int c) (m:=.int 4) (k:=.int (1+n % 4)) (n:=n') (l:=S.length) (x5:=some d) (x6:=x6) (S:=S++[.lst (ts.map tbl)]) (ts:=ts) (by simp) (by omega)
   refine⟨P7 (.int c) (.int 4) (.int n'') (.int (1+n % 4)) S.length (some d) (some (.int p.1)),S++[.lst ((ts++[p]).map tbl)],?_,kU _,some d,some (.int p.1),n'',ts++[p],rfl,rfl,by rw [lA,hl];rfl,?_⟩
   ·rw [show gNm 5 d (P7 (.int c) (.int 4) (.int n') (.int (1+n % 4)) S.length x5 x6) (S++[.lst (ts.map tbl)])=.ok (P7 (.int c) (.int 4) (.int n') (.int (1+n % 4)) S.length (some d) x6) (S++[.lst (ts.map tbl)])from rfl,bok,hb]
    rw [show(S++[MO.lst (ts.map tbl)]).set S.length (.lst ((ts++[p]).map tbl))=S++[.lst ((ts++[p]).map tbl)] by simp]
   ·intro q hq
    rw [mem_append,mS]at hq
    rcases hq with hq|rfl
    ·exact hT q hq
    ·exact hp) ⟨none,none,n / 4,[],rfl,rfl,rfl,λp hp=>by simp at hp⟩
 subst hρ hS'
 rw [hlen]at hl
 have e5:zBA (P7 (.int c) (.int 4) (.int (n / 4)) (.int (1+n % 4)) S.length none none) (S++[.lst []])=.ok (.next (P7 (.int c) (.int 4) (.int n') (.int (1+n % 4)) S.length x5 x6)) (S++[.lst (ts.map tbl)]):=by
  unfold zBA
  simp? [zAR (S:=S++[.lst []]) (show -(2 ^ 62)<=1+n % 4/\1+n % 4<2 ^ 62 by omega)]
  exact e
 have e6:zBB (P7 (.int c) (.int 4) (.int n') (.int (1+n % 4)) S.length x5 x6) (S++[.lst (ts.map tbl)])=.ok (.ret (.val (.tup (ts.map tbl)))) (S++[.lst (ts.map tbl)]):=by
  unfold zBB
  simp? [zGM (S:=S++[.lst (ts.map tbl)]) (l:=S.length) (ds:=ts.map tbl) (by simp)]
 refine⟨ts,⟨by omega,by omega,hT⟩,zAE (T:=[.lst (ts.map tbl)]) rfl ?_ (wZ (xP λd hd=>?_)) (λl=>by simp)⟩
 ·show jU [.int c,.int 4] S=_
  unfold jU zLM
  rw [hs,zE e1,zE e2,zE e3,zE e4,zE e5,e6]
  rfl
 ·obtain⟨p,_,rfl⟩:=mM0.mp hd
  exact wZ (xP λe he=>by simp at he;rcases he with rfl|rfl<;>exact jY _ _)
mutual
def pd:MV->Bool
 |.int _=>true
 |.str _=>true
 |.tup ds=>pdL ds
 |_=>false
def pdL:List MV->Bool
 |[]=>true
 |d::ds=>pd d&&pdL ds
end
mutual
def dpt:MV->Nat
 |.tup ds=>zIP ds+1
 |_=>0
def zIP:List MV->Nat
 |[]=>0
 |d::ds=>max (dpt d) (zIP ds)
end
theorem nR(ds:List MV):pd (.tup ds)=pdL ds:=by rw [pd]
theorem zKX:pdL []=true:=by rw [pdL]
theorem xC(d:MV)(ds:List MV):pdL (d::ds)=(pd d&&pdL ds):=by rw [pdL]
theorem kI(ds:List MV):dpt (.tup ds)=zIP ds+1:=by rw [dpt]
theorem yI(d:MV)(ds:List MV):zIP (d::ds)=max (dpt d) (zIP ds):=by rw [zIP]
theorem zDF:zIP []=0:=by rw [zIP]
theorem zKB(i:Int):pd (.int i)=true:=by rw [pd]
theorem zOW(i:List Nat):pd (.str i)=true:=by rw [pd]
theorem zBS(i:Int):dpt (.int i)=0:=by simp [dpt]
theorem zHV(i:List Nat):dpt (.str i)=0:=by simp [dpt]
theorem zHW: ∀{ds:List MV},(∀d∈ds,pd d=true)->pdL ds=true
 |[],_=>zKX
 |d::ds,h=>by rw [xC,h d mF0,zHW λe he=>h e (mO _ he)];rfl
theorem zRB: ∀{ds:List MV},pdL ds=true-> ∀d∈ds,pd d=true
 |[],_,d,h=>by simp at h
 |e::ds,hp,d,h=>by
  rw [xC,aE]at hp
  rcases mC.mp h with rfl|h
  ·exact hp.1
  ·exact zRB hp.2 d h
theorem zEC: ∀{ds:List MV}{n:Nat},(∀d∈ds,dpt d<=n)->zIP ds<=n
 |[],n,_=>by rw [zDF];exact zero_le _
 |d::ds,n,h=>by
  rw [yI]
  have h1:=h d mF0
  have h2:=zEC λe he=>h e (mO _ he)
  omega
theorem zNS: ∀{ds:List MV}, ∀d∈ds,dpt d<=zIP ds
 |[],d,h=>by simp at h
 |e::ds,d,h=>by
  rw [yI]
  rcases mC.mp h with rfl|h
  ·exact Nat.le_max_left _ _
  ·exact le_trans (zNS d h) (Nat.le_max_right _ _)
theorem zSL{d:MV}(h:pd d=true):(∃i,d=.int i)\/(∃x,d=.str x)\/ ∃ds,d=.tup ds/\pdL ds=true:=by
 cases d with
 |int i=>exact .inl ⟨i,rfl⟩
 |str x=>exact .inr (.inl ⟨x,rfl⟩)
 |tup ds=>exact .inr (.inr ⟨ds,rfl,by rw [<-nR];exact h⟩)
 |_=>rw [pd]at h<;>first |cases h|(intros;simp)
theorem dec_is{p:Prop}[Decidable p]{q:Prop}[Decidable q](h:p↔q):decide p=decide q:=by
 by_cases hq:q
 ·rw [dT0 hq,dT0 (h.mpr hq)]
 ·rw [dF0 hq,dF0 λz=>hq (h.mp z)]
theorem zZD{e:MV->MV->Option Bool}: ∀{ds es:List MV},(∀d∈ds, ∀f∈es,e d f=some (decide (d=f)))-> ∃bs,prs e ds es=some bs/\(bs.all id&&ds.length==es.length)=decide (ds=es)
 |[],[],_=>⟨[],rfl,by simp⟩
 |[],_::_,_=>⟨[],rfl,by simp⟩
 |_::_,[],_=>⟨[],rfl,by simp⟩
 |d::ds,f::es,h=>by
  obtain⟨bs,h1,h2⟩:=zZD (e:=e) (ds:=ds) (es:=es) λa ha b hb=>h a (mO _ ha) b (mO _ hb)
  refine⟨decide (d=f)::bs,?_,?_⟩
  ·unfold prs
   rw [h d mF0 f mF0,h1]
   rfl
  ·by_cases hd:d=f
   ·subst hd
    rw [all_cons,dT0 rfl]
    simp only [id,Bool.true_and,lC0]
    rw [show(ds.length+1==es.length+1)=(ds.length==es.length) by simp,h2]
    exact dec_is (by simp)
   ·rw [all_cons,dF0 hd]
    rw [dF0 (show¬(d::ds=f::es)from λz=>hd (List.cons.inj z).1)]
    rfl
theorem zZE{S:Sto}: ∀(n:Nat){d e:MV},pd d=true->pd e=true->dpt d<n->eqv S n d e=some (decide (d=e))
 |0,d,e,_,_,h=>by omega
 |n+1,d,e,hd,he,h=>by
  rcases zSL hd with⟨i,rfl⟩|⟨x,rfl⟩|⟨ds,rfl,pds⟩<;>rcases zSL he with⟨j,rfl⟩|⟨y,rfl⟩|⟨es,rfl,pes⟩
  ·rw [zQP];exact congrArg some (dec_is (by simp))
  ·rw [ySG,dF0 (by simp)]
  ·rw [dF0 (by simp)];rfl
  ·rw [ySH,dF0 (by simp)]
  ·rw [zQQ];exact congrArg some (dec_is (by simp))
  ·rw [dF0 (by simp)];rfl
  ·rw [dF0 (by simp)];rfl
  ·rw [dF0 (by simp)];rfl
  ·rw [kI]at h
   obtain⟨bs,h1,h2⟩:=zZD (e:=eqv S n) (ds:=ds) (es:=es) λa ha b hb=>zZE n (zRB pds a ha) (zRB pes b hb) (by have:=zNS a ha;omega)
   show((prs (eqv S n) ds es).map λbs=>bs.all id&&ds.length==es.length)=_
   rw [h1]
   show some (bs.all id&&ds.length==es.length)=_
   rw [h2]
   exact congrArg some (dec_is (by simp))
theorem zSM{S:Sto}{d:MV}(hd:pd d=true): ∀{ys:List MV},(∀y∈ys,pd y=true/\dpt y<40)->zWJ S yO d ys=some (ys.map λy=>decide (y=d))
 |[],_=>rfl
 |y::ys,h=>by
  have h1:=h y mF0
  unfold zWJ
  rw [zZE yO h1.1 hd (by unfold yO;exact h1.2),zSM hd λz hz=>h z (mO _ hz)]
  rfl
theorem yCG{S:Sto}{l:Nat}{d:MV}{ys:List MV}(hS:S[l]? =some (.lst ys))(hd:pd d=true)(hs: ∀x,d≠.str x)(h: ∀y∈ys,pd y=true/\dpt y<40):inF true (.val d) (.val (.loc l)) S=.ok (.val (.bl (!decide (d∈ys)))) S:=by
 have e1:itemsOf S (.val (.loc l))=some ys:=by unfold itemsOf;exact cR hS
 have e2:zOJ true (.val d) (.val (.loc l)) S=.ok (.val (.bl (!decide (d∈ys)))) S:=by
  unfold zOJ
  dsimp only
  rw [e1]
  dsimp only
  rw [zSM hd h]
  dsimp only
  rw [iP rfl]
  congr 4
  rw [List.any_map]
  by_cases hm:d∈ys
  ·rw [dT0 hm,List.any_eq_true]
   exact⟨d,hm,by simp⟩
  ·rw [dF0 hm]
   rw [List.any_eq_false]
   intro y hy
   simp only [Function.comp,id,decide_eq_true_eq]
   rintro rfl
   exact hm hy
 cases d with
 |str x=>exact absurd rfl (hs x)
 |_=>exact e2
def yG(r:Nat×List MV):MV:=.tup [.int r.1,.tup r.2]
def ROk(ts:List (Int×Int))(r:Nat×List MV):Prop:= ∃p,ts[r.1]? =some p/\(r.2.length:Int)=p.1/\ ∀d∈r.2,Vl d
theorem yPU{d:MV}(h:Vl d):pd d=true/\dpt d=0:=by
 rcases h.cases with⟨i,rfl,_⟩|⟨x,rfl,_⟩
 ·exact⟨zKB i,zBS i⟩
 ·exact⟨zOW x,zHV x⟩
theorem zSN{ts:List (Int×Int)}{r:Nat×List MV}(h:ROk ts r):pd (yG r)=true/\dpt (yG r)<=2:=by
 obtain⟨p,_,_,hv⟩:=h
 have h1:pdL r.2=true:=zHW λd hd=>(yPU (hv d hd)).1
 have h2:zIP r.2<=0:=zEC λd hd=>by rw [(yPU (hv d hd)).2];exact le_refl _
 unfold yG
 refine⟨by rw [nR,xC,xC,zKX,zKB,nR,h1];rfl,?_⟩
 rw [kI,yI,yI,zDF,zBS,kI]
 omega
theorem yKR{r q:Nat×List MV}(h:yG r=yG q):r=q:=by
 unfold yG at h
 injection h with h
 injection h with h1 h2
 injection h2 with h2 _
 injection h1 with h1
 injection h2 with h2
 exact Prod.ext (by omega) h2
theorem yKS{ts:List (Int×Int)}{r:Nat×List MV}(h:ROk ts r)(n:Nat):lo n (yG r):=by
 obtain⟨p,_,_,hv⟩:=h
 refine wZ (xP λd hd=>?_)
 simp only [mC,nM0,or_false]at hd
 rcases hd with rfl|rfl
 ·exact jY _ _
 ·exact wZ (xP λe he=>(hv e he).lo n)
theorem zXD{ts:List (Int×Int)}{t:Nat}{p:Int×Int}(h:ts[t]? =some p):atI (ts.map tbl) (t:Int)=some (tbl p):=by
 have hl:t<ts.length:=(gS0.mp h).1
 unfold atI ixN
 rw [iP (by omega),iP (by rw [lM0];omega)]
 show(ts.map tbl)[(t:Int).toNat]? =_
 rw [toNat_natCast,getElem?_map,h]
 rfl
abbrev R8(c tb pl w:MV)(n:Int)(t:Int)(l:Nat)(x7:Option MV):Rho:=[some c,some tb,some pl,some w,some (.int n),some (.int t),some (.loc l),x7]
theorem yKT{c tb:MV}{lp l:Nat}{w n t:Int}{x7:Option MV}{S:Sto}{vs cs:List MV}(hw:1<=w/\w<=7)(hv:vs.length=7)(hP:S[lp]? =some (.lst vs))(hS:S[l]? =some (.lst cs))(hl:cs.length<1000):
  ∃v n',v∈vs/\zBR (R8 c tb (.loc lp) (.int w) n t l x7) S=.ok (.next (R8 c tb (.loc lp) (.int w) n' t l x7)) (S.set l (.lst (cs++[v]))):=by
 have hp:(0:Int)<w:=by omega
 have h0:0<=n % w:=eN _ (by omega)
 have h1:n % w<w:=eL _ hp
 obtain⟨v,hvv⟩:=nX (xs:=vs) (i:=n % w) h0 (by omega)
 refine⟨v,n / w,nY (P:=λe=>e∈vs) (λe h=>h) hvv,?_⟩
 have e1:zCW (R8 c tb (.loc lp) (.int w) n t l x7) S=.ok (.next (R8 c tb (.loc lp) (.int w) n t l x7)) (S.set l (.lst (cs++[v]))):=by
  unfold zCW
  simp? [zQZ hS,mod_lit hp,kK hP hvv,zQY hS (show cs.length<1000000 by omega)]
 have e2:zCX (R8 c tb (.loc lp) (.int w) n t l x7) (S.set l (.lst (cs++[v])))=.ok (.next (R8 c tb (.loc lp) (.int w) (n / w) t l x7)) (S.set l (.lst (cs++[v]))):=by
  unfold zCX
  simp? [yP hp (show w<1073741824 by omega)]
 unfold zBR
 rw [zE e1,e2]
theorem ySY{ts:List (Int×Int)}(hT:TOk ts)(c w:Int)(hw:1<=w/\w<=7){lp:Nat}{vs:List MV}{S:Sto}(hv:vs.length=7)(hV: ∀d∈vs,Vl d)(hP:S[lp]? =some (.lst vs)):
  ∃r,ROk ts r/\zO 4 nH [.val (.int c),.val (.tup (ts.map tbl)),.val (.loc lp),.val (.int w)] S=.ok (.val (yG r)) S:=by
 obtain⟨n,hn⟩:=zXC c 2147483563 ⟨by decide,by decide⟩ S
 have hlp:lp<S.length:=(gS0.mp hP).1
 have hp:(0:Int)<(ts.length:Int):=by have:=hT.1;omega
 have h0:0<=n % (ts.length:Int):=eN _ (by omega)
 have h1:n % (ts.length:Int)<ts.length:=eL _ hp
 obtain⟨t,ht⟩:=Int.eq_ofNat_of_zero_le h0
 have htl:t<ts.length:=by omega
 have hgt:ts[t]? =some ts[t]:=gE0 htl
 have hpp:=hT.2.2 ts[t] (getElem_mem htl)
 generalize hpe:ts[t]=p at hgt hpp
 have hs:zS zLZ [.int c,.tup (ts.map tbl),.loc lp,.int w]=[some (.int c),some (.tup (ts.map tbl)),some (.loc lp),some (.int w),none,none,none,none]:=rfl
 have hlen:wC [.val (.tup (ts.map tbl))] S=.ok (.val (.int ts.length)) S:=by rw [zEB,lM0]
 have e1:zHN [some (.int c),some (.tup (ts.map tbl)),some (.loc lp),some (.int w),none,none,none,none] S=.ok (.next [some (.int c),some (.tup (ts.map tbl)),some (.loc lp),some (.int w),some (.int n),none,none,none]) S:=by
  unfold zHN
  simp? [hn]
 have e2:zHO [some (.int c),some (.tup (ts.map tbl)),some (.loc lp),some (.int w),some (.int n),none,none,none] S=.ok (.next [some (.int c),some (.tup (ts.map tbl)),some (.loc lp),some (.int w),some (.int n),some (.int t),none,none]) S:=by
  unfold zHO
  simp? [hlen,mod_lit hp]
  rw [ht]
 have hdc:yBK 0 (ts.length:Int):=by
  have:=hT.2.1
  have h1:=hT.1
  have:ts.length=1\/ts.length=2\/ts.length=3\/ts.length=4:=by omega
  rcases this with h|h|h|h<;>rw [h]<;>decide+kernel
 have e3:zHP [some (.int c),some (.tup (ts.map tbl)),some (.loc lp),some (.int w),some (.int n),some (.int t),none,none] S=.ok (.next [some (.int c),some (.tup (ts.map tbl)),some (.loc lp),some (.int w),some (.int (n / ts.length)),some (.int t),none,none]) S:=by
  unfold zHP
  simp? [hlen,yEM hdc]
 have e4:zHQ [some (.int c),some (.tup (ts.map tbl)),some (.loc lp),some (.int w),some (.int (n / ts.length)),some (.int t),none,none] S=.ok (.next (R8 (.int c) (.tup (ts.map tbl)) (.loc lp) (.int w) (n / ts.length) t S.length none)) (S++[.lst []]):=by
  unfold zHQ
  simp? [bok]
 have hll:((List.range p.1.toNat).map λk=>MV.int (k:Nat)).length=p.1.toNat:=by rw [lM0,length_range]
 obtain⟨ρ',S',e,x7,n',cs,hρ,hS',hl,hC⟩:=zWO (L:=(List.range p.1.toNat).map λk=>MV.int (k:Nat)) (gf:=gNm 7) (body:=zBR) (gs:=[]) (S:=S++[.lst []]) (ρ:=R8 (.int c) (.tup (ts.map tbl)) (.loc lp) (.int w) (n / ts.length) t S.length none)
  (λi ρ S'=> ∃x7 n' cs,ρ=R8 (.int c) (.tup (ts.map tbl)) (.loc lp) (.int w) n' t S.length x7/\S'=S++[.lst cs]/\cs.length=i/\ ∀d∈cs,d∈vs) (λi d hi ρ S1 ⟨x7,n',cs,hρ,hS1,hl,hC⟩=>by
   subst hρ hS1
   have hil:i<5:=by have:=(gS0.mp hi).1;omega
   obtain⟨v,n'',hv',hb⟩:=yKT (c:=.int c) (tb:=.tup (ts.map tbl)) (lp:=lp) (l:=S.length) (w:=w) (n:=n') (t:=t) (x7:=some d) (S:=S++[.lst cs]) (vs:=vs) (cs:=cs) hw hv (by rw [getElem?_append_left hlp];exact hP) (by simp) (by omega)
   refine⟨R8 (.int c) (.tup (ts.map tbl)) (.loc lp) (.int w) n'' t S.length (some d),S++[.lst (cs++[v])],?_,kU _,some d,n'',cs++[v],rfl,rfl,by rw [lA,hl];rfl,?_⟩
   ·rw [show gNm 7 d (R8 (.int c) (.tup (ts.map tbl)) (.loc lp) (.int w) n' t S.length x7) (S++[.lst cs])=.ok (R8 (.int c) (.tup (ts.map tbl)) (.loc lp) (.int w) n' t S.length (some d)) (S++[.lst cs])from rfl,bok,hb]
    rw [show(S++[MO.lst cs]).set S.length (.lst (cs++[v]))=S++[.lst (cs++[v])] by simp]
   ·intro q hq
    rw [mem_append,mS]at hq
    rcases hq with hq|rfl
    ·exact hC q hq
    ·exact hv') ⟨none,_,[],rfl,rfl,rfl,λp hp=>by simp at hp⟩
 subst hρ hS'
 rw [hll]at hl
 have e5:zHR (R8 (.int c) (.tup (ts.map tbl)) (.loc lp) (.int w) (n / ts.length) t S.length none) (S++[.lst []])=.ok (.next (R8 (.int c) (.tup (ts.map tbl)) (.loc lp) (.int w) n' t S.length x7)) (S++[.lst cs]):=by
  unfold zHR
  simp? [ix_tup (S:=S++[.lst []]) (zXD hgt)]
  rw [show ixF (.val (tbl p)) (.val (.int 0)) (S++[MO.lst []])=.ok (.val (.int p.1)) (S++[.lst []])from rfl]
  simp? [zAR (S:=S++[.lst []]) (show -(2 ^ 62)<=p.1/\p.1<2 ^ 62 by omega)]
  exact e
 have e6:zHS (R8 (.int c) (.tup (ts.map tbl)) (.loc lp) (.int w) n' t S.length x7) (S++[.lst cs])=.ok (.ret (.val (yG (t,cs)))) (S++[.lst cs]):=by
  unfold zHS
  simp? [zGM (S:=S++[.lst cs]) (l:=S.length) (ds:=cs) (by simp)]
  rfl
 have hR:ROk ts (t,cs):=⟨p,hgt,by show(cs.length:Int)=p.1;omega,λd hd=>hV d (hC d hd)⟩
 refine⟨(t,cs),hR,zAE (T:=[.lst cs]) rfl ?_ (yKS hR _) (λl=>by unfold yG;simp)⟩
 show nH [.int c,.tup (ts.map tbl),.loc lp,.int w] S=_
 unfold nH zSJ
 rw [hs,zE e1,zE e2,zE e3,zE e4,zE e5,e6]
 rfl
abbrev R7(lc:Nat)(tb:MV)(lp:Nat)(w:Int)(lr:Nat)(x5 x6:Option MV):Rho:=[some (.loc lc),some tb,some (.loc lp),some (.int w),some (.loc lr),x5,x6]
theorem yHF{ts:List (Int×Int)}(hT:TOk ts){c w:Int}(hw:1<=w/\w<=7){lc lp lr:Nat}{vs:List MV}{S:Sto}{x6:Option MV}{rs:List (Nat×List MV)}(hv:vs.length=7)(hV: ∀d∈vs,Vl d)(hP:S[lp]? =some (.lst vs))(hS:S[lr]? =some (.lst (rs.map yG)))
  (hR: ∀r∈rs,ROk ts r) (hn:rs.Nodup) (hl:rs.length<1000): ∃(x6':Option MV)(rs':List (Nat×List MV)),bI (R7 lc (.tup (ts.map tbl)) lp w lr (some (.int c)) x6) S=.ok (.next (R7 lc (.tup (ts.map tbl)) lp w lr (some (.int c)) x6')) (S.set lr (.lst (rs'.map yG)))/\(∀r∈rs',ROk ts r)/\rs'.Nodup/\rs'.length<=rs.length+1:=by
 obtain⟨r,hr,hcall⟩:=ySY hT c w hw hv hV hP
 have e1:zBC (R7 lc (.tup (ts.map tbl)) lp w lr (some (.int c)) x6) S=.ok (.next (R7 lc (.tup (ts.map tbl)) lp w lr (some (.int c)) (some (yG r)))) S:=by
  unfold zBC
  simp? [hcall]
 have hin:inF true (.val (yG r)) (.val (.loc lr)) S=.ok (.val (.bl (!decide (yG r∈rs.map yG)))) S:=yCG hS (zSN hr).1 (λx=>by unfold yG;simp) λy hy=>by
  obtain⟨q,hq,rfl⟩:=mM0.mp hy
  have:=zSN (hR q hq)
  exact⟨this.1,by omega⟩
 have hmem:yG r∈rs.map yG↔r∈rs:=⟨λh=>by obtain⟨q,hq,e⟩:=mM0.mp h;rw [<-yKR e];exact hq,λh=>List.mem_map_of_mem h⟩
 by_cases hm:r∈rs
 ·have e2:jT (R7 lc (.tup (ts.map tbl)) lp w lr (some (.int c)) (some (yG r))) S=.ok (.next (R7 lc (.tup (ts.map tbl)) lp w lr (some (.int c)) (some (yG r)))) S:=by
   unfold jT
   simp? [hin,dT0 (hmem.mpr hm)]
   rfl
  refine⟨some (yG r),rs,?_,hR,hn,le_succ _⟩
  unfold bI
  rw [zE e1,e2]
  have hset:S.set lr (.lst (rs.map yG))=S:=by
   refine ext_getElem? λj=>?_
   by_cases e:lr=j
   ·subst e;rw [get_set hS,hS]
   ·rw [gL e]
  rw [hset]
 ·have e2:jT (R7 lc (.tup (ts.map tbl)) lp w lr (some (.int c)) (some (yG r))) S=.ok (.next (R7 lc (.tup (ts.map tbl)) lp w lr (some (.int c)) (some (yG r)))) (S.set lr (.lst ((rs++[r]).map yG))):=by
   unfold jT
   simp? [hin,dF0 (λz=>hm (hmem.mp z)),zQZ hS,zQY hS (show(rs.map yG).length<1000000 by rw [lM0];omega)]
   rw [map_append]
   rfl
  refine⟨some (yG r),rs++[r],?_,?_,?_,?_⟩
  ·unfold bI
   rw [zE e1,e2]
  ·intro q hq
   rw [mem_append,mS]at hq
   rcases hq with hq|rfl
   ·exact hR q hq
   ·exact hr
  ·exact nodup_append.mpr ⟨hn,by simp,λa ha c hc=>by rw [mS.mp hc];rintro rfl;exact hm ha⟩
  ·rw [lA];exact le_refl _
theorem yOL{ts:List (Int×Int)}(hT:TOk ts)(is:List Int)(hil:is.length<=60){w:Int}(hw:1<=w/\w<=7){lp:Nat}{vs:List MV}{S:Sto}(hv:vs.length=7)(hV: ∀d∈vs,Vl d)(hP:S[lp]? =some (.lst vs)):
  ∃rs:List (Nat×List MV),(∀r∈rs,ROk ts r)/\rs.Nodup/\rs.length<=is.length/\zO 4 cJ [.new (is.map MV.int),.val (.tup (ts.map tbl)),.val (.loc lp),.val (.int w)] S=.ok (.val (.tup (rs.map yG))) S:=by
 have hlp:lp<S.length:=(gS0.mp hP).1
 have hs:zS zJG [.loc S.length,.tup (ts.map tbl),.loc lp,.int w]=[some (.loc S.length),some (.tup (ts.map tbl)),some (.loc lp),some (.int w),none,none,none]:=rfl
 have e1:zEW [some (.loc S.length),some (.tup (ts.map tbl)),some (.loc lp),some (.int w),none,none,none] (S++[.lst (is.map MV.int)])=.ok (.next (R7 S.length (.tup (ts.map tbl)) lp w (S.length+1) none none)) (S++[.lst (is.map MV.int)]++[.lst []]):=by
  unfold zEW
  simp? [bok]
  rw [lA]
  rfl
 obtain⟨ρ',S',e,x5,x6,rs,hρ,hS',hR,hN,hl⟩:=zWO (L:=is.map MV.int) (gf:=gNm 5) (body:=bI) (gs:=[(S.length,is.map MV.int)]) (S:=S++[.lst (is.map MV.int)]++[.lst []]) (ρ:=R7 S.length (.tup (ts.map tbl)) lp w (S.length+1) none none)
  (λi ρ S'=> ∃(x5 x6:Option MV)(rs:List (Nat×List MV)),ρ=R7 S.length (.tup (ts.map tbl)) lp w (S.length+1) x5 x6/\S'=S++[.lst (is.map MV.int)]++[.lst (rs.map yG)]/\(∀r∈rs,ROk ts r)/\rs.Nodup/\rs.length<=i) (λi d hi ρ S1 ⟨x5,x6,rs,hρ,hS1,hR,hN,hl⟩=>by
   subst hρ hS1
   obtain⟨c,_,rfl⟩:=mM0.mp (mem_of_getElem? hi)
   have hil':i<is.length:=by have:=(gS0.mp hi).1;rw [lM0]at this;exact this
   obtain⟨x6',rs',hb,hR',hN',hl'⟩:=yHF hT (c:=c) hw (lc:=S.length) (lp:=lp) (lr:=S.length+1) (S:=S++[.lst (is.map MV.int)]++[.lst (rs.map yG)]) (x6:=x6) (rs:=rs) hv hV (by rw [aA,getElem?_append_left hlp];exact hP) (by simp) hR hN (by omega)
   refine⟨R7 S.length (.tup (ts.map tbl)) lp w (S.length+1) (some (.int c)) x6',S++[.lst (is.map MV.int)]++[.lst (rs'.map yG)],?_,zNJ (by simp),some (.int c),x6',rs',rfl,rfl,hR',hN',by omega⟩
   rw [show gNm 5 (.int c) (R7 S.length (.tup (ts.map tbl)) lp w (S.length+1) x5 x6) (S++[.lst (is.map MV.int)]++[.lst (rs.map yG)])=.ok (R7 S.length (.tup (ts.map tbl)) lp w (S.length+1) (some (.int c)) x6) (S++[.lst (is.map MV.int)]++[.lst (rs.map yG)])from rfl,bok,hb]
   have hset:List.set (S++[MO.lst (is.map MV.int)]++[MO.lst (rs.map yG)]) (S.length+1) (MO.lst (rs'.map yG))=S++[MO.lst (is.map MV.int)]++[MO.lst (rs'.map yG)]:=by simp
   rw [hset])
  ⟨none,none,[],rfl,rfl,λr hr=>by simp at hr,by simp,zero_le _⟩
 subst hρ hS'
 rw [lM0]at hl
 have e2:zEX (R7 S.length (.tup (ts.map tbl)) lp w (S.length+1) none none) (S++[.lst (is.map MV.int)]++[.lst []])=.ok (.next (R7 S.length (.tup (ts.map tbl)) lp w (S.length+1) x5 x6)) (S++[.lst (is.map MV.int)]++[.lst (rs.map yG)]):=by
  unfold zEX
  simp? [yEE (S:=S++[.lst (is.map MV.int)]++[.lst []]) (l:=S.length) (ds:=is.map MV.int) (by simp)]
  exact e
 have e3:zEY (R7 S.length (.tup (ts.map tbl)) lp w (S.length+1) x5 x6) (S++[.lst (is.map MV.int)]++[.lst (rs.map yG)])=.ok (.ret (.val (.tup (rs.map yG)))) (S++[.lst (is.map MV.int)]++[.lst (rs.map yG)]):=by
  unfold zEY
  simp? [zGM (S:=S++[.lst (is.map MV.int)]++[.lst (rs.map yG)]) (l:=S.length+1) (ds:=rs.map yG) (by simp)]
 refine⟨rs,hR,hN,hl,zAE (T:=[.lst (is.map MV.int),.lst (rs.map yG)]) rfl ?_ (wZ (xP λd hd=>?_)) (λl=>by simp)⟩
 ·show cJ [.loc S.length,.tup (ts.map tbl),.loc lp,.int w] (S++[.lst (is.map MV.int)])=_
  unfold cJ zPX
  rw [hs,zE e1,zE e2,e3]
  rw [aA]
  rfl
 ·obtain⟨r,hr,rfl⟩:=mM0.mp hd
  exact yKS (hR r hr) _
inductive Side where
 |isv (v:MV)|cell (k j:Nat)
def sIs:List Nat:=[105,115]
def zGN:List Nat:=[99,101,108,108]
def xT:Side->MV
 |.isv v=>.tup [.str sIs,v]
 |.cell k j=>.tup [.str zGN,.int k,.int j]
def zZF(ws:List Int):Side->Prop
 |.isv v=>Vl v
 |.cell k j=> ∃w,ws[k]? =some w/\(j:Int)<w
def wid(ts:List (Int×Int))(t:Nat):Int:=((ts[t]?).map (·.1)).getD 0
theorem zOX{ts:List (Int×Int)}{t:Nat}{p:Int×Int}(h:ts[t]? =some p):wid ts t=p.1:=by unfold wid;rw [h];rfl
theorem yCH{ts:List (Int×Int)}(hT:TOk ts){t:Nat}(h:t<ts.length):1<=wid ts t/\wid ts t<=4:=by
 have:=hT.2.2 ts[t] (getElem_mem h)
 rw [zOX (gE0 h)]
 exact⟨this.1,this.2.1⟩
def yL(t:Nat):MV:=.int (t:Nat)
def ThOk(ts:List (Int×Int))(th:List Nat):Prop:=1<=th.length/\th.length<=2/\ ∀t∈th,t<ts.length
theorem ySZ{th:List Nat}{k t:Nat}(h:th[k]? =some t):atI (th.map yL) (k:Int)=some (yL t):=by
 have hl:k<th.length:=(gS0.mp h).1
 unfold atI ixN
 rw [iP (by omega),iP (by rw [lM0];omega)]
 show(th.map yL)[(k:Int).toNat]? =_
 rw [toNat_natCast,getElem?_map,h]
 rfl
theorem zRC{ws:List Int}{sd:Side}(h:zZF ws sd)(n:Nat):lo n (xT sd):=by
 cases sd with
 |isv v=>exact wZ (xP λe he=>by simp at he;rcases he with rfl|rfl;(exact zGY _ _);exact Vl.lo h n)
 |cell k j=>exact wZ (xP λe he=>by simp at he;rcases he with rfl|rfl|rfl<;>first |exact zGY _ _|exact jY _ _)
theorem zSO(sd:Side)(l:Nat):xT sd≠.loc l:=by cases sd<;>(intro h;cases h)
abbrev D5(l:Nat)(th tb:MV)(lp:Nat)(x4:Option MV):Rho:=[some (.loc l),some th,some tb,some (.loc lp),x4]
theorem yEN{ts:List (Int×Int)}(hT:TOk ts){th:List Nat}(hth:ThOk ts th){l lp:Nat}{x:Int}{vs:List MV}{S:Sto}(hne:l≠lp)(hv:vs.length=7)(hV: ∀d∈vs,Vl d)(hP:S[lp]? =some (.lst vs))(hS:S[l]? =some (.lst [.int x])):
  ∃sd x',zZF (th.map (wid ts)) sd/\zO 4 kG [.val (.loc l),.val (.tup (th.map yL)),.val (.tup (ts.map tbl)),.val (.loc lp)] S=.ok (.val (xT sd)) (S.set l (.lst [.int x'])):=by
 have hs:zS zJI [.loc l,.tup (th.map yL),.tup (ts.map tbl),.loc lp]=D5 l (.tup (th.map yL)) (.tup (ts.map tbl)) lp none:=rfl
 have t1:=zHU (n:=4) hS (by decide) (by decide)
 have hS1:=get_set (o':=.lst [.int (x / 4)]) hS
 have hP1:(S.set l (.lst [.int (x / 4)]))[lp]? =some (.lst vs):=by rw [gL hne];exact hP
 cases hb:decide (x % 4=0)with
 |true=>
  have t2:=zHU (n:=7) hS1 (by decide) (by decide)
  rw [List.set_set]at t2
  have hP2:(S.set l (.lst [.int (x / 4 / 7)]))[lp]? =some (.lst vs):=by rw [gL hne];exact hP
  obtain⟨v,hvv⟩:=nX (xs:=vs) (i:=x / 4 % 7) (eN _ (by decide)) (by have:=eL (x / 4) (show(0:Int)<7 by decide);rw [hv];exact this)
  have vV:=nY hV hvv
  refine⟨.isv v,x / 4 / 7,vV,zSK rfl ?_ (zRC (ws:=[]) (sd:=.isv v) vV _) (zSO _)⟩
  have e1:bK (D5 l (.tup (th.map yL)) (.tup (ts.map tbl)) lp none) S=.ok (.ret (.val (xT (.isv v)))) (S.set l (.lst [.int (x / 4 / 7)])):=by
   unfold bK
   simp? [t1,hb,t2,kK hP2 hvv]
   rfl
  show kG [.loc l,.tup (th.map yL),.tup (ts.map tbl),.loc lp] S=_
  unfold kG zJY
  rw [hs,bR e1]
  rfl
 |false=>
  have e1:bK (D5 l (.tup (th.map yL)) (.tup (ts.map tbl)) lp none) S=.ok (.next (D5 l (.tup (th.map yL)) (.tup (ts.map tbl)) lp none)) (S.set l (.lst [.int (x / 4)])):=by
   unfold bK
   simp? [t1,hb]
   rfl
  have hp:(0:Int)<(th.length:Int):=by have:=hth.1;omega
  have hlen: ∀S,wC [.val (.tup (th.map yL))] S=.ok (.val (.int th.length)) S:=λS=>by rw [zEB,lM0]
  have t2:=zHU (n:=(th.length:Int)) hS1 hp (by have:=hth.2.1;omega)
  rw [List.set_set]at t2
  have h0:0<=x / 4 % (th.length:Int):=eN _ (by omega)
  have h1:x / 4 % (th.length:Int)<th.length:=eL _ hp
  obtain⟨k,hk⟩:=Int.eq_ofNat_of_zero_le h0
  have hkl:k<th.length:=by omega
  have e2:zFB (D5 l (.tup (th.map yL)) (.tup (ts.map tbl)) lp none) (S.set l (.lst [.int (x / 4)]))=.ok (.next (D5 l (.tup (th.map yL)) (.tup (ts.map tbl)) lp (some (.int (k:Nat))))) (S.set l (.lst [.int (x / 4 / th.length)])):=by
   unfold zFB
   simp? [hlen,t2]
   rw [hk]
  have hgk:th[k]? =some th[k]:=gE0 hkl
  have htl:=hth.2.2 th[k] (getElem_mem hkl)
  generalize th[k]=t at hgk htl
  have hgt:ts[t]? =some ts[t]:=gE0 htl
  have hwd:=yCH hT htl
  rw [zOX hgt]at hwd
  have hS2:=get_set (o':=.lst [.int (x / 4 / th.length)]) hS
  have t3:=zHU (n:=ts[t].1) hS2 (by omega) (by omega)
  rw [List.set_set]at t3
  have g0:0<=x / 4 / th.length % ts[t].1:=eN _ (by omega)
  have g1:x / 4 / th.length % ts[t].1<ts[t].1:=eL _ (by omega)
  obtain⟨j,hj⟩:=Int.eq_ofNat_of_zero_le g0
  have hOk:zZF (th.map (wid ts)) (.cell k j):=⟨ts[t].1,by rw [getElem?_map,hgk];show some (wid ts t)=_;rw [zOX hgt],by omega⟩
  refine⟨.cell k j,x / 4 / th.length / ts[t].1,hOk,zSK rfl ?_ (zRC hOk _) (zSO _)⟩
  have e3:zFC (D5 l (.tup (th.map yL)) (.tup (ts.map tbl)) lp (some (.int (k:Nat)))) (S.set l (.lst [.int (x / 4 / th.length)]))=.ok (.ret (.val (xT (.cell k j)))) (S.set l (.lst [.int (x / 4 / th.length / ts[t].1)])):=by
   unfold zFC
   simp? [ix_tup (S:=S.set l (.lst [.int (x / 4 / th.length)])) (show atI (th.map yL) (k:Int)=some (.int t)from ySZ hgk),ix_tup (S:=S.set l (.lst [.int (x / 4 / th.length)])) (zXD hgt)]
   rw [show ixF (.val (tbl ts[t])) (.val (.int 0)) (S.set l (.lst [.int (x / 4 / th.length)]))=.ok (.val (.int ts[t].1)) (S.set l (.lst [.int (x / 4 / th.length)]))from rfl]
   simp? [t3]
   rw [hj]
   rfl
  show kG [.loc l,.tup (th.map yL),.tup (ts.map tbl),.loc lp] S=_
  unfold kG zJY
  rw [hs,zE e1,zE e2,e3]
  rfl
theorem yHG{n:Nat}{F:List MV->Sto->R Er}{rs:List Er}{S T:Sto}{d:MV}{l:Nat}{x:Int}(hn:rs.length=n)(hF:F (zR rs S).1 (zR rs S).2=.ok (.val d) (S.set l (.lst [.int x])++T))(h:lo S.length d)(hd: ∀l,d≠.loc l):zO n F rs S=.ok (.val d) (S.set l (.lst [.int x])):=by
 unfold zO
 rw [iP hn,hF,wN,bok]
 have hL:(S.set l (.lst [.int x])).length=S.length:=length_set
 have hc:zYR S (S.set l (.lst [.int x])++T):=by
  refine⟨by rw [lA,hL];omega,λm hm=>?_⟩
  rw [getElem?_append_left (by rw [hL];exact hm)]
  by_cases e:l=m
  ·subst e
   exact .inr ⟨_,getElem?_set_self hm,xP λe he=>by rw [mS.mp he];exact jY _ _⟩
  ·exact .inl (getElem?_set_ne e)
 unfold cP
 rw [iP hc]
 have e:(S.set l (.lst [.int x])++T).take S.length=S.set l (.lst [.int x]):=by rw [<-hL];simp
 cases d with
 |loc m=>exact absurd rfl (hd m)
 |_=>dsimp only;rw [iP h,e]
structure Test where
 l:Side
 w:List Nat
 r:Side
def words3:List (List Nat):=[[115,97,109,101],[117,110,108,105,107,101],[108,101,115,115]]
def testM(t:Test):MV:=.tup [xT t.l,.str t.w,xT t.r]
def zOY(ws:List Int)(t:Test):Prop:=zZF ws t.l/\t.w∈words3/\zZF ws t.r
theorem zXE{ws:List Int}{t:Test}(h:zOY ws t)(n:Nat):lo n (testM t):=wZ (xP λe he=>by
 simp only [mC,nM0,or_false]at he
 rcases he with rfl|rfl|rfl
 ·exact zRC h.1 n
 ·exact zGY _ _
 ·exact zRC h.2.2 n)
abbrev T8(l:Nat)(th tb:MV)(lp lt:Nat)(x5 x6 x7:Option MV):Rho:=[some (.loc l),some th,some tb,some (.loc lp),some (.loc lt),x5,x6,x7]
theorem yHH{ts:List (Int×Int)}(hT:TOk ts){th:List Nat}(hth:ThOk ts th){l lp lt:Nat}{x:Int}{vs:List MV}{S:Sto}{x5 x6 x7:Option MV}{qs:List Test}(hne:l≠lp)(hlt:l≠lt)(hv:vs.length=7)(hV: ∀d∈vs,Vl d)(hP:S[lp]? =some (.lst vs))(hS:S[l]? =some (.lst [.int x]))
  (hQ:S[lt]? =some (.lst (qs.map testM))) (hql:qs.length<1000): ∃(q:Test)(x':Int)(y6 y7:Option MV),zOY (th.map (wid ts)) q/\dG (T8 l (.tup (th.map yL)) (.tup (ts.map tbl)) lp lt x5 x6 x7) S=.ok (.next (T8 l (.tup (th.map yL)) (.tup (ts.map tbl)) lp lt x5 y6 y7)) ((S.set l (.lst [.int x'])).set lt (.lst ((qs++[q]).map testM))):=by
 have t1:=zHU (n:=3) hS (by decide) (by decide)
 have hS1:=get_set (o':=.lst [.int (x / 3)]) hS
 have hP1:(S.set l (.lst [.int (x / 3)]))[lp]? =some (.lst vs):=by rw [gL hne];exact hP
 obtain⟨w,hw⟩:=nX (xs:=words3) (i:=x % 3) (eN _ (by decide)) (by have:=eL x (show(0:Int)<3 by decide);show x % 3<3;exact this)
 have hww:atI [MV.str [115,97,109,101],MV.str [117,110,108,105,107,101],MV.str [108,101,115,115]] (x % 3)=some (.str w):=by
  have e:([MV.str [115,97,109,101],MV.str [117,110,108,105,107,101],MV.str [108,101,115,115]]:List MV)=words3.map MV.str:=rfl
  rw [e]
  unfold atI at hw ⊢
  rw [lM0]
  cases z:ixN words3.length (x % 3)with
  |none=>rw [z]at hw;cases hw
  |some j=>
   rw [z]at hw
   show(words3.map MV.str)[j]? =_
   rw [getElem?_map,show words3[j]? =some w from hw]
   rfl
 have e1:nI (T8 l (.tup (th.map yL)) (.tup (ts.map tbl)) lp lt x5 x6 x7) S=.ok (.next (T8 l (.tup (th.map yL)) (.tup (ts.map tbl)) lp lt x5 (some (.str w)) x7)) (S.set l (.lst [.int (x / 3)])):=by
  unfold nI
  simp? [t1,zWP hww]
 obtain⟨sa,xa,oka,ca⟩:=yEN hT hth hne hv hV hP1 hS1
 rw [List.set_set]at ca
 have e2:nK (T8 l (.tup (th.map yL)) (.tup (ts.map tbl)) lp lt x5 (some (.str w)) x7) (S.set l (.lst [.int (x / 3)]))=.ok (.next (T8 l (.tup (th.map yL)) (.tup (ts.map tbl)) lp lt x5 (some (.str w)) (some (xT sa)))) (S.set l (.lst [.int xa])):=by
  unfold nK
  simp? [ca]
 have hS2:=get_set (o':=.lst [.int xa]) hS
 have hP2:(S.set l (.lst [.int xa]))[lp]? =some (.lst vs):=by rw [gL hne];exact hP
 have hQ2:(S.set l (.lst [.int xa]))[lt]? =some (.lst (qs.map testM)):=by rw [gL hlt];exact hQ
 obtain⟨sb,xb,okb,cb⟩:=yEN hT hth hne hv hV hP2 hS2
 rw [List.set_set]at cb
 have hQ3:(S.set l (.lst [.int xb]))[lt]? =some (.lst (qs.map testM)):=by rw [gL hlt];exact hQ
 have e3:nL (T8 l (.tup (th.map yL)) (.tup (ts.map tbl)) lp lt x5 (some (.str w)) (some (xT sa))) (S.set l (.lst [.int xa]))=.ok (.next (T8 l (.tup (th.map yL)) (.tup (ts.map tbl)) lp lt x5 (some (.str w)) (some (xT sa)))) ((S.set l (.lst [.int xb])).set lt (.lst ((qs++[Test.mk sa w sb]).map testM))):=by
  unfold nL
  simp? [zQZ hQ2,cb,zQY hQ3 (show(qs.map testM).length<1000000 by rw [lM0];omega)]
  rw [map_append]
  rfl
 refine⟨⟨sa,w,sb⟩,xb,some (.str w),some (xT sa),⟨oka,nY (P:=λw=>w∈words3) (λw h=>h) hw,okb⟩,?_⟩
 unfold dG
 rw [zE e1,zE e2,e3]
theorem zZG{ts:List (Int×Int)}(hT:TOk ts){th:List Nat}(hth:ThOk ts th){l lp:Nat}{x:Int}{vs:List MV}{S:Sto}(hne:l≠lp)(hv:vs.length=7)(hV: ∀d∈vs,Vl d)(hP:S[lp]? =some (.lst vs))(hS:S[l]? =some (.lst [.int x])):
  ∃(qs:List Test)(x':Int),1<=qs.length/\qs.length<=3/\(∀q∈qs,zOY (th.map (wid ts)) q)/\zO 4 wG [.val (.loc l),.val (.tup (th.map yL)),.val (.tup (ts.map tbl)),.val (.loc lp)] S=.ok (.val (.tup (qs.map testM))) (S.set l (.lst [.int x'])):=by
 have hl:l<S.length:=(gS0.mp hS).1
 have hlp:lp<S.length:=(gS0.mp hP).1
 have hs:zS zGZ [.loc l,.tup (th.map yL),.tup (ts.map tbl),.loc lp]=[some (.loc l),some (.tup (th.map yL)),some (.tup (ts.map tbl)),some (.loc lp),none,none,none,none]:=rfl
 have e1:zCY [some (.loc l),some (.tup (th.map yL)),some (.tup (ts.map tbl)),some (.loc lp),none,none,none,none] S=.ok (.next (T8 l (.tup (th.map yL)) (.tup (ts.map tbl)) lp S.length none none none)) (S++[.lst []]):=by
  unfold zCY
  simp? [bok]
 have hSa:(S++[MO.lst []])[l]? =some (.lst [.int x]):=by rw [getElem?_append_left hl];exact hS
 have t1:=zHU (n:=6) hSa (by decide) (by decide)
 have hset: ∀(y:Int)(zs:List Test),List.set (S++[MO.lst (zs.map testM)]) l (MO.lst [.int y])=S.set l (.lst [.int y])++[.lst (zs.map testM)]:=λy zs=>List.set_append_left _ _ hl
 rw [show S++[MO.lst []]=S++[MO.lst (([]:List Test).map testM)]from rfl,hset]at t1
 obtain⟨m,hm⟩:=nX (xs:=[MV.int 1,MV.int 1,MV.int 2,MV.int 1,MV.int 2,MV.int 3]) (i:=x % 6) (eN _ (by decide)) (by have:=eL x (show(0:Int)<6 by decide);show x % 6<6;exact this)
 obtain⟨mi,rfl,m1,m3⟩: ∃v,m=.int v/\1<=v/\v<=3:=nY (P:=λe=> ∃v,e=.int v/\(1:Int)<=v/\v<=3) (by
  intro e he;simp only [mC,nM0,or_false]at he
  rcases he with rfl|rfl|rfl|rfl|rfl|rfl<;>exact⟨_,rfl,by decide,by decide⟩) hm
 have hlen:((List.range mi.toNat).map λk=>MV.int (k:Nat)).length=mi.toNat:=by rw [lM0,length_range]
 obtain⟨ρ',S',e,x5,x6,x7,x',qs,hρ,hS',hql,hqk⟩:=zWO (L:=(List.range mi.toNat).map λk=>MV.int (k:Nat)) (gf:=gNm 5) (body:=dG) (gs:=[]) (S:=S.set l (.lst [.int (x / 6)])++[.lst (([]:List Test).map testM)]) (ρ:=T8 l (.tup (th.map yL)) (.tup (ts.map tbl)) lp S.length none none none)
  (λi ρ S'=> ∃(x5 x6 x7:Option MV)(x':Int)(qs:List Test),ρ=T8 l (.tup (th.map yL)) (.tup (ts.map tbl)) lp S.length x5 x6 x7/\S'=S.set l (.lst [.int x'])++[.lst (qs.map testM)]/\qs.length=i/\ ∀q∈qs,zOY (th.map (wid ts)) q) (λi d hi ρ S1 ⟨x5,x6,x7,x',qs,hρ,hS1,hql,hqk⟩=>by
   subst hρ hS1
   have hil:i<4:=by have:=(gS0.mp hi).1;omega
   have hLs:(S.set l (.lst [.int x'])).length=S.length:=length_set
   have a1:(S.set l (.lst [.int x'])++[MO.lst (qs.map testM)])[lp]? =some (.lst vs):=by rw [getElem?_append_left (by rw [hLs];exact hlp),gL hne];exact hP
   have a2:(S.set l (.lst [.int x'])++[MO.lst (qs.map testM)])[l]? =some (.lst [.int x']):=by rw [getElem?_append_left (by rw [hLs];exact hl)];exact get_set hS
   have a3:(S.set l (.lst [.int x'])++[MO.lst (qs.map testM)])[S.length]? =some (.lst (qs.map testM)):=by rw [<-hLs];simp
   obtain⟨q,x'',y6,y7,hq,hb⟩:=yHH hT hth (x5:=some d) (x6:=x6) (x7:=x7) (lt:=S.length) (qs:=qs) hne (by omega) hv hV a1 a2 a3 (by omega)
   have hfin:List.set (List.set (S.set l (.lst [.int x'])++[MO.lst (qs.map testM)]) l (MO.lst [.int x''])) S.length (MO.lst ((qs++[q]).map testM))=S.set l (.lst [.int x''])++[.lst ((qs++[q]).map testM)]:=by
    rw [List.set_append_left _ _ (by rw [hLs];exact hl),List.set_set]
    have hL2:(S.set l (.lst [.int x''])).length=S.length:=length_set
    rw [<-hL2]
    simp
   rw [hfin]at hb
   refine⟨T8 l (.tup (th.map yL)) (.tup (ts.map tbl)) lp S.length (some d) y6 y7,_,?_,kU _,some d,y6,y7,x'',qs++[q],rfl,rfl,by rw [lA,hql];rfl,?_⟩
   ·rw [show gNm 5 d (T8 l (.tup (th.map yL)) (.tup (ts.map tbl)) lp S.length x5 x6 x7) (S.set l (.lst [.int x'])++[MO.lst (qs.map testM)])=.ok (T8 l (.tup (th.map yL)) (.tup (ts.map tbl)) lp S.length (some d) x6 x7) (S.set l (.lst [.int x'])++[MO.lst (qs.map testM)])from rfl,bok,hb]
   ·intro z hz
    rw [mem_append,mS]at hz
    rcases hz with hz|rfl
    ·exact hqk z hz
    ·exact hq) ⟨none,none,none,x / 6,[],rfl,rfl,rfl,λp hp=>by simp at hp⟩
 subst hρ hS'
 rw [hlen]at hql
 have e2:zCZ (T8 l (.tup (th.map yL)) (.tup (ts.map tbl)) lp S.length none none none) (S++[MO.lst []])=.ok (.next (T8 l (.tup (th.map yL)) (.tup (ts.map tbl)) lp S.length x5 x6 x7)) (S.set l (.lst [.int x'])++[.lst (qs.map testM)]):=by
  unfold zCZ
  rw [show S++[MO.lst []]=S++[MO.lst (([]:List Test).map testM)]from rfl]
  simp? [t1,zWP hm]
  rw [zAR (by omega),bok]
  exact e
 have hLs:(S.set l (.lst [.int x'])).length=S.length:=length_set
 have e3:zDA (T8 l (.tup (th.map yL)) (.tup (ts.map tbl)) lp S.length x5 x6 x7) (S.set l (.lst [.int x'])++[.lst (qs.map testM)])=.ok (.ret (.val (.tup (qs.map testM)))) (S.set l (.lst [.int x'])++[.lst (qs.map testM)]):=by
  unfold zDA
  simp? [zGM (S:=S.set l (.lst [.int x'])++[.lst (qs.map testM)]) (l:=S.length) (ds:=qs.map testM) (by rw [<-hLs];simp)]
 refine⟨qs,x',by omega,by omega,hqk,yHG (T:=[.lst (qs.map testM)]) rfl ?_ (wZ (xP λd hd=>?_)) (λl=>by simp)⟩
 ·show wG [.loc l,.tup (th.map yL),.tup (ts.map tbl),.loc lp] S=_
  unfold wG zNQ
  rw [hs,zE e1,zE e2,e3]
  rfl
 ·obtain⟨q,hq,rfl⟩:=mM0.mp hd
  exact zXE (hqk q hq) _
theorem yEO{gf:MV->Rho->Sto->R Rho}{cf:Rho->Sto->R Bool}{ef:Rho->Sto->R Er}{ρb:Rho}{gs:List (Nat×List MV)}{P:MV->Prop}{I:Sto->Prop}:
  ∀{ds:List MV}{S:Sto},(∀d∈ds, ∀S,I S-> ∃ρ1 y S',gf d ρb S=.ok ρ1 S/\cf ρ1 S=.ok true S/\ef ρ1 S=.ok (.val y) S'/\P y/\I S'/\stay gs S')->I S-> ∃out S',xX gf cf ef ρb gs ds S=.ok out S'/\I S'/\out.length=ds.length/\ ∀o∈out,P o
 |[],S,_,h=>⟨[],S,rfl,h,rfl,λo h=>by simp at h⟩
 |d::ds,S,st,h=>by
  obtain⟨ρ1,y,S1,h1,h2,h3,h4,h5,h6⟩:=st d mF0 S h
  obtain⟨out,S2,e,i2,hl,hp⟩:=yEO (ds:=ds) (S:=S1) (λd hd=>st d (mO _ hd)) h5
  refine⟨y::out,S2,?_,i2,by rw [lC0,lC0,hl],λo ho=>(mC.mp ho).elim (λz=>z▸h4) (hp o)⟩
  unfold xX
  rw [h1,wN,bok,h2,wN,bok,iP rfl,h3,wN,bok]
  unfold zCD
  rw [bok,iP h6,e]
  rfl
inductive Rule where
 |never (t:Nat) (qs:List Test)|apart (t u:Nat) (qs:List Test)|tie (t:Nat) (cs:List Nat) (u:Nat) (ds:List Nat)
def zFL:List Nat:=[110,101,118,101,114]
def nS:List Nat:=[97,112,97,114,116]
def zZH:List Nat:=[116,105,101]
def yA:Rule->MV
 |.never t qs=>.tup [.str zFL,.int (t:Nat),.tup (qs.map testM)]
 |.apart t u qs=>.tup [.str nS,.int (t:Nat),.int (u:Nat),.tup (qs.map testM)]
 |.tie t cs u ds=>.tup [.str zZH,.int (t:Nat),.tup (cs.map yL),.int (u:Nat),.tup (ds.map yL)]
def zHX(ts:List (Int×Int)):Rule->Prop
 |.never t qs=>t<ts.length/\1<=qs.length/\qs.length<=3/\ ∀q∈qs,zOY [wid ts t] q
 |.apart t u qs=>t<ts.length/\u<ts.length/\1<=qs.length/\qs.length<=3/\ ∀q∈qs,zOY [wid ts t,wid ts u] q
 |.tie t cs u ds=>t<ts.length/\u<ts.length/\1<=cs.length/\cs.length<=3/\ds.length=cs.length/\(∀c∈cs,(c:Int)<wid ts t)/\ ∀d∈ds,(d:Int)<wid ts u
theorem yEP{ts:List (Int×Int)}{r:Rule}(h:zHX ts r)(n:Nat):lo n (yA r):=by
 have nm: ∀(cs:List Nat),lo n (.tup (cs.map yL)):=λcs=>wZ (xP λe he=>by
  obtain⟨c,_,rfl⟩:=mM0.mp he
  exact jY _ _)
 cases r with
 |never t qs=>
  refine wZ (xP λe he=>?_)
  simp only [mC,nM0,or_false]at he
  rcases he with rfl|rfl|rfl
  ·exact zGY _ _
  ·exact jY _ _
  ·exact wZ (xP λe he=>by obtain⟨q,hq,rfl⟩:=mM0.mp he;exact zXE (h.2.2.2 q hq) n)
 |apart t u qs=>
  refine wZ (xP λe he=>?_)
  simp only [mC,nM0,or_false]at he
  rcases he with rfl|rfl|rfl|rfl
  ·exact zGY _ _
  ·exact jY _ _
  ·exact jY _ _
  ·exact wZ (xP λe he=>by obtain⟨q,hq,rfl⟩:=mM0.mp he;exact zXE (h.2.2.2.2 q hq) n)
 |tie t cs u ds=>
  refine wZ (xP λe he=>?_)
  simp only [mC,nM0,or_false]at he
  rcases he with rfl|rfl|rfl|rfl|rfl
  ·exact zGY _ _
  ·exact jY _ _
  ·exact nm cs
  ·exact jY _ _
  ·exact nm ds
theorem yCI(r:Rule)(l:Nat):yA r≠.loc l:=by cases r<;>(intro h;cases h)
abbrev U9(c:MV)(tb:MV)(lp l:Nat)(k t u:Option MV)(x7 x8:Option MV):Rho:=[some c,some tb,some (.loc lp),some (.loc l),k,t,u,x7,x8]
theorem yKU(a:MV)(S:Sto):kQ [.val a] S=.ok (.val (.tup [a])) S:=zOM (by simp)
theorem tup4(a b c d:MV)(S:Sto):kQ [.val a,.val b,.val c,.val d] S=.ok (.val (.tup [a,b,c,d])) S:=zOM (by simp)
theorem tup5(a b c d e:MV)(S:Sto):kQ [.val a,.val b,.val c,.val d,.val e] S=.ok (.val (.tup [a,b,c,d,e])) S:=zOM (by simp)
theorem lst5(a b c d e:MV)(S:Sto):gX [.val a,.val b,.val c,.val d,.val e] S=.ok (.new [a,b,c,d,e]) S:=zJB (by simp)
abbrev SN(S:Sto)(x:Int):Sto:=S++[MO.lst [.int x]]
theorem yKV(S:Sto)(x:Int):(SN S x)[S.length]? =some (.lst [.int x]):=by simp
theorem yCJ(S:Sto)(x y:Int):List.set (SN S x) S.length (MO.lst [.int y])=SN S y:=by simp
theorem zNT(S:Sto)(x:Int){n:Int}(h0:0<n)(h1:n<1073741824):zO 2 yC [.val (.loc S.length),.val (.int n)] (SN S x)=.ok (.val (.int (x % n))) (SN S (x / n)):=by
 have:=zHU (n:=n) (yKV S x) h0 h1
 rw [yCJ]at this
 exact this
theorem zZI(x:Int){n:Nat}(h:0<n): ∃t:Nat,x % (n:Int)=t/\t<n:=by
 have h0:0<=x % (n:Int):=eN _ (by omega)
 have h1:x % (n:Int)<n:=eL _ (by omega)
 obtain⟨t,ht⟩:=Int.eq_ofNat_of_zero_le h0
 exact⟨t,ht,by omega⟩
theorem yEQ{ts:List (Int×Int)}(hT:TOk ts){t:Nat}(ht:t<ts.length){ef:Rho->Sto->R Er}{ρb:Rho}{S:Sto}{x:Int}{mi:Int}
  (hef: ∀(d:MV)(y:Int),ef (ρb.set 0 (some d)) (SN S y)=zO 2 yC [.val (.loc S.length),.val (.int (wid ts t))] (SN S y)): ∃(cs:List Nat)(x':Int),xX (gNm 0) (λρ S=>(R.ok true S)) ef ρb [] ((List.range mi.toNat).map λk=>MV.int (k:Nat)) (SN S x)=.ok (cs.map yL) (SN S x')/\cs.length=mi.toNat/\ ∀c∈cs,(c:Int)<wid ts t:=by
 have hw:=yCH hT ht
 obtain⟨out,S',e,⟨x',rfl⟩,hl,hp⟩:=yEO (gf:=gNm 0) (cf:=λρ S=>(R.ok true S)) (ef:=ef) (ρb:=ρb) (gs:=[]) (P:=λy=> ∃c:Nat,y=yL c/\(c:Int)<wid ts t) (I:=λS'=> ∃y,S'=SN S y) (ds:=(List.range mi.toNat).map λk=>MV.int (k:Nat)) (S:=SN S x) (λd hd S1 ⟨y,hy⟩=>by
  subst hy
  have h0:0<=y % wid ts t:=eN _ (by omega)
  have h1:y % wid ts t<wid ts t:=eL _ (by omega)
  obtain⟨c,hc⟩:=Int.eq_ofNat_of_zero_le h0
  refine⟨ρb.set 0 (some d),.int (y % wid ts t),SN S (y / wid ts t),rfl,rfl,?_,⟨c,by rw [hc];rfl,by omega⟩,⟨_,rfl⟩,kU _⟩
  rw [hef,zNT S y (by omega) (by omega)]) ⟨x,rfl⟩
 have: ∀(o:List MV),(∀y∈o, ∃c:Nat,y=yL c/\(c:Int)<wid ts t)-> ∃cs:List Nat,o=cs.map yL/\ ∀c∈cs,(c:Int)<wid ts t:=by
  intro o
  induction o with
  |nil=>exact λ_=>⟨[],rfl,λc hc=>by simp at hc⟩
  |cons a o ih=>
   intro h
   obtain⟨c,rfl,hc⟩:=h a mF0
   obtain⟨cs,rfl,hcs⟩:=ih λy hy=>h y (mO _ hy)
   exact⟨c::cs,rfl,λd hd=>(mC.mp hd).elim (λe=>e▸hc) (hcs d)⟩
 obtain⟨cs,rfl,hcs⟩:=this out hp
 exact⟨cs,x',e,by rw [lM0,lM0,length_range]at hl;exact hl,hcs⟩
theorem yER{ts:List (Int×Int)}{t:Nat}(ht:t<ts.length)(S:Sto): ∃e,ixF (.val (.tup (ts.map tbl))) (.val (.int (t:Nat))) S=.ok (.val e) S/\ixF (.val e) (.val (.int 0)) S=.ok (.val (.int (wid ts t))) S:=by
 have hgt:ts[t]? =some ts[t]:=gE0 ht
 exact⟨tbl ts[t],ix_tup (zXD hgt),by rw [zOX hgt];rfl⟩
theorem yOM{ts:List (Int×Int)}(hT:TOk ts)(c:Int){lp:Nat}{vs:List MV}{S:Sto}(hv:vs.length=7)(hV: ∀d∈vs,Vl d)(hP:S[lp]? =some (.lst vs)):
  ∃r,zHX ts r/\zO 3 kH [.val (.int c),.val (.tup (ts.map tbl)),.val (.loc lp)] S=.ok (.val (yA r)) S:=by
 obtain⟨n,hn⟩:=zXC c 2147483543 ⟨by decide,by decide⟩ S
 have hlp:lp<S.length:=(gS0.mp hP).1
 have hne:S.length≠lp:=by omega
 have hPn: ∀x,(SN S x)[lp]? =some (.lst vs):=λx=>by rw [getElem?_append_left hlp];exact hP
 have hp:0<ts.length:=hT.1
 have hl4:=hT.2.1
 have hlen: ∀S,wC [.val (.tup (ts.map tbl))] S=.ok (.val (.int ts.length)) S:=λS=>by rw [zEB,lM0]
 have fin: ∀(r:Rule)(x:Int),zHX ts r->kH [.int c,.tup (ts.map tbl),.loc lp] S=.ok (.val (yA r)) (SN S x)-> ∃r,zHX ts r/\zO 3 kH [.val (.int c),.val (.tup (ts.map tbl)),.val (.loc lp)] S=.ok (.val (yA r)) S:=
  λr x hr h=>⟨r,hr,zAE (T:=[.lst [.int x]]) rfl h (yEP hr _) (yCI r)⟩
 have hs:zS zAF [.int c,.tup (ts.map tbl),.loc lp]=[some (.int c),some (.tup (ts.map tbl)),some (.loc lp),none,none,none,none,none,none]:=rfl
 have e1:zFD [some (.int c),some (.tup (ts.map tbl)),some (.loc lp),none,none,none,none,none,none] S=.ok (.next (U9 (.int c) (.tup (ts.map tbl)) lp S.length none none none none none)) (SN S n):=by
  unfold zFD
  simp? [hn]
 have e2:zFE (U9 (.int c) (.tup (ts.map tbl)) lp S.length none none none none none) (SN S n)=.ok (.next (U9 (.int c) (.tup (ts.map tbl)) lp S.length (some (.int (n % 4))) none none none none)) (SN S (n / 4)):=by
  unfold zFE
  simp? [zNT S n (n:=4) (by decide) (by decide)]
 obtain⟨t,ht,htl⟩:=zZI (n / 4) hp
 have e3:zFF (U9 (.int c) (.tup (ts.map tbl)) lp S.length (some (.int (n % 4))) none none none none) (SN S (n / 4))=.ok (.next (U9 (.int c) (.tup (ts.map tbl)) lp S.length (some (.int (n % 4))) (some (.int (t:Nat))) none none none)) (SN S (n / 4 / ts.length)):=by
  unfold zFF
  simp? [hlen,zNT S (n / 4) (n:=(ts.length:Int)) (by omega) (by omega)]
  rw [ht]
 obtain⟨u,hu,hul⟩:=zZI (n / 4 / ts.length) hp
 have e4:zFG (U9 (.int c) (.tup (ts.map tbl)) lp S.length (some (.int (n % 4))) (some (.int (t:Nat))) none none none) (SN S (n / 4 / ts.length))=.ok (.next (U9 (.int c) (.tup (ts.map tbl)) lp S.length (some (.int (n % 4))) (some (.int (t:Nat))) (some (.int (u:Nat))) none none)) (SN S (n / 4 / ts.length / ts.length)):=by
  unfold zFG
  simp? [hlen,zNT S (n / 4 / ts.length) (n:=(ts.length:Int)) (by omega) (by omega)]
  rw [hu]
 generalize n / 4 / ts.length / ts.length=x4 at e4
 cases hb:decide (n % 4=0)with
 |true=>
  obtain⟨qs,x',q1,q2,q3,hc⟩:=zZG hT (th:=[t]) ⟨by simp,by simp,λz hz=>by rw [mS.mp hz];exact htl⟩ hne hv hV (hPn x4) (yKV S x4)
  rw [yCJ]at hc
  have e5:bL (U9 (.int c) (.tup (ts.map tbl)) lp S.length (some (.int (n % 4))) (some (.int (t:Nat))) (some (.int (u:Nat))) none none) (SN S x4)=.ok (.ret (.val (yA (.never t qs)))) (SN S x'):=by
   unfold bL
   have hc':zO 4 wG [.val (.loc S.length),.val (.tup [.int (t:Nat)]),.val (.tup (ts.map tbl)),.val (.loc lp)] (SN S x4)=.ok (.val (.tup (qs.map testM))) (SN S x'):=hc
   simp? [hb,yKU,hc']
   rfl
  refine fin (.never t qs) x' ⟨htl,q1,q2,q3⟩ ?_
  unfold kH zEA
  rw [hs,zE e1,zE e2,zE e3,zE e4,bR e5]
  rfl
 |false=>
  have e5:bL (U9 (.int c) (.tup (ts.map tbl)) lp S.length (some (.int (n % 4))) (some (.int (t:Nat))) (some (.int (u:Nat))) none none) (SN S x4)=.ok (.next (U9 (.int c) (.tup (ts.map tbl)) lp S.length (some (.int (n % 4))) (some (.int (t:Nat))) (some (.int (u:Nat))) none none)) (SN S x4):=by
   unfold bL
   simp? [hb]
   rfl
  cases hb2:decide (n % 4<3)with
  |true=>
   obtain⟨qs,x',q1,q2,q3,hc⟩:=zZG hT (th:=[t,u]) ⟨by simp,by simp,λz hz=>by simp at hz;rcases hz with rfl|rfl;(exact htl);exact hul⟩ hne hv hV (hPn x4) (yKV S x4)
   rw [yCJ]at hc
   have e6:bM (U9 (.int c) (.tup (ts.map tbl)) lp S.length (some (.int (n % 4))) (some (.int (t:Nat))) (some (.int (u:Nat))) none none) (SN S x4)=.ok (.ret (.val (yA (.apart t u qs)))) (SN S x'):=by
    unfold bM
    have hc':zO 4 wG [.val (.loc S.length),.val (.tup [.int (t:Nat),.int (u:Nat)]),.val (.tup (ts.map tbl)),.val (.loc lp)] (SN S x4)=.ok (.val (.tup (qs.map testM))) (SN S x'):=hc
    simp? [lt_int,hb2,tup4,hc']
    rfl
   refine fin (.apart t u qs) x' ⟨htl,hul,q1,q2,q3⟩ ?_
   unfold kH zEA
   rw [hs,zE e1,zE e2,zE e3,zE e4,zE e5,bR e6]
   rfl
  |false=>
   have e6:bM (U9 (.int c) (.tup (ts.map tbl)) lp S.length (some (.int (n % 4))) (some (.int (t:Nat))) (some (.int (u:Nat))) none none) (SN S x4)=.ok (.next (U9 (.int c) (.tup (ts.map tbl)) lp S.length (some (.int (n % 4))) (some (.int (t:Nat))) (some (.int (u:Nat))) none none)) (SN S x4):=by
    unfold bM
    simp? [lt_int,hb2]
    rfl
   obtain⟨m,hm⟩:=nX (xs:=[MV.int 1,MV.int 2,MV.int 1,MV.int 3,MV.int 1]) (i:=x4 % 5) (eN _ (by decide)) (by have:=eL x4 (show(0:Int)<5 by decide);show x4 % 5<5;exact this)
   obtain⟨mi,rfl,m1,m3⟩: ∃v,m=.int v/\1<=v/\v<=3:=nY (P:=λe=> ∃v,e=.int v/\(1:Int)<=v/\v<=3) (by
    intro e he;simp only [mC,nM0,or_false]at he
    rcases he with rfl|rfl|rfl|rfl|rfl<;>exact⟨_,rfl,by decide,by decide⟩) hm
   have e7:zFH (U9 (.int c) (.tup (ts.map tbl)) lp S.length (some (.int (n % 4))) (some (.int (t:Nat))) (some (.int (u:Nat))) none none) (SN S x4)=.ok (.next (U9 (.int c) (.tup (ts.map tbl)) lp S.length (some (.int (n % 4))) (some (.int (t:Nat))) (some (.int (u:Nat))) (some (.int mi)) none)) (SN S (x4 / 5)):=by
    unfold zFH
    simp? [lst5,zNT S x4 (n:=5) (by decide) (by decide),zWP hm]
   obtain⟨cs,x8,hcs,hcl,hcw⟩:=yEQ hT htl (ef:=bT) (ρb:=[none,some (.tup (ts.map tbl)),some (.loc S.length),some (.int (t:Nat))]) (S:=S) (x:=x4 / 5) (mi:=mi) (λd y=>by
    obtain⟨e,i1,i2⟩:=yER htl (SN S y)
    show bT [some d,some (.tup (ts.map tbl)),some (.loc S.length),some (.int (t:Nat))] (SN S y)=_
    unfold bT
    simp? [i1,i2])
   have hll:((List.range mi.toNat).map λk=>MV.int (k:Nat)).length<1000000:=by rw [lM0,length_range];omega
   have e8:zFI (U9 (.int c) (.tup (ts.map tbl)) lp S.length (some (.int (n % 4))) (some (.int (t:Nat))) (some (.int (u:Nat))) (some (.int mi)) none) (SN S (x4 / 5))=.ok (.next (U9 (.int c) (.tup (ts.map tbl)) lp S.length (some (.int (n % 4))) (some (.int (t:Nat))) (some (.int (u:Nat))) (some (.int mi)) (some (.tup (cs.map yL))))) (SN S x8):=by
    unfold zFI
    simp? [zAR (S:=SN S (x4 / 5)) (show -(2 ^ 62)<=mi/\mi<2 ^ 62 by omega)]
    rw [iP hll]
    rw [show blk 1 [1,3,5] (U9 (.int c) (.tup (ts.map tbl)) lp S.length (some (.int (n % 4))) (some (.int (t:Nat))) (some (.int (u:Nat))) (some (.int mi)) none)=[none,some (.tup (ts.map tbl)),some (.loc S.length),some (.int (t:Nat))]from rfl]
    rw [show zIM=(λρ S=>(R.ok true S))from rfl,hcs]
    rfl
   obtain⟨ds,x9,hds,hdl,hdw⟩:=yEQ hT hul (ef:=bU) (ρb:=[none,some (.tup (ts.map tbl)),some (.loc S.length),some (.int (u:Nat))]) (S:=S) (x:=x8) (mi:=mi) (λd y=>by
    obtain⟨e,i1,i2⟩:=yER hul (SN S y)
    show bU [some d,some (.tup (ts.map tbl)),some (.loc S.length),some (.int (u:Nat))] (SN S y)=_
    unfold bU
    simp? [i1,i2])
   have e9:zFJ (U9 (.int c) (.tup (ts.map tbl)) lp S.length (some (.int (n % 4))) (some (.int (t:Nat))) (some (.int (u:Nat))) (some (.int mi)) (some (.tup (cs.map yL)))) (SN S x8)=.ok (.ret (.val (yA (.tie t cs u ds)))) (SN S x9):=by
    unfold zFJ
    simp? [zAR (S:=SN S x8) (show -(2 ^ 62)<=mi/\mi<2 ^ 62 by omega)]
    rw [iP hll]
    rw [show blk 1 [1,3,6] (U9 (.int c) (.tup (ts.map tbl)) lp S.length (some (.int (n % 4))) (some (.int (t:Nat))) (some (.int (u:Nat))) (some (.int mi)) (some (.tup (cs.map yL))))=[none,some (.tup (ts.map tbl)),some (.loc S.length),some (.int (u:Nat))]from rfl]
    rw [show zIN=(λρ S=>(R.ok true S))from rfl,hds]
    simp? [show gY [.new (ds.map yL)] (SN S x9)=.ok (.val (.tup (ds.map yL))) (SN S x9)from rfl,tup5]
    rfl
   refine fin (.tie t cs u ds) x9 ⟨htl,hul,by omega,by omega,by omega,hcw,hdw⟩ ?_
   unfold kH zEA
   rw [hs,zE e1,zE e2,zE e3,zE e4,zE e5,zE e6,zE e7,zE e8,e9]
   rfl
theorem le_int(i j:Int)(S:Sto):leF (.val (.int i)) (.val (.int j)) S=.ok (.val (.bl (decide (i<=j)))) S:=rfl
theorem le_str(i j:List Nat)(S:Sto):leF (.val (.str i)) (.val (.str j)) S=.ok (.val (.bl (!decide (j<i)))) S:=rfl
theorem yKW(i:Int)(S:Sto):cQ [.val (.int i),.val (.typ "int")] S=.ok (.val (.bl true)) S:=rfl
theorem yCK(i:Int)(S:Sto):cQ [.val (.int i),.val (.typ "bool")] S=.ok (.val (.bl false)) S:=rfl
theorem yTA(i:List Nat)(S:Sto):cQ [.val (.str i),.val (.typ "int")] S=.ok (.val (.bl false)) S:=rfl
theorem xZ{n:Nat}{F:List MV->Sto->R Er}{rs:List Er}{S:Sto}{b:Bool}(hn:rs.length=n)(hF:F (zR rs S).1 (zR rs S).2=.ok (.val (.bl b)) S):zO n F rs S=.ok (.val (.bl b)) S:=zGA hn hF (zYU _ _) (λl=>by simp)
theorem zED(i:Int)(S:Sto):zO 1 jI [.val (.int i)] S=.ok (.val (.bl true)) S:=xZ rfl (by
 show yH (zCI [some (.int i)] S)=_
 unfold zCI zHA
 simp? [yKW,yCK,zFW]
 rfl)
theorem zZJ(i:List Nat)(S:Sto):zO 1 jI [.val (.str i)] S=.ok (.val (.bl false)) S:=xZ rfl (by
 show yH (zCI [some (.str i)] S)=_
 unfold zCI zHA
 simp? [yTA,zFW]
 rfl)
theorem yHI{c:Nat}(h:97<=c/\c<=122):(!decide ([c]<[97]))=true/\(!decide ([122]<[c]))=true:=by
 have h1: ¬([c]<[97]):=by
  intro z
  rw [List.cons_lt_cons_iff]at z
  rcases z with z|⟨_,z⟩
  ·omega
  ·exact absurd z (by simp)
 have h2: ¬([122]<[c]):=by
  intro z
  rw [List.cons_lt_cons_iff]at z
  rcases z with z|⟨_,z⟩
  ·omega
  ·exact absurd z (by simp)
 exact⟨by rw [dF0 h1];rfl,by rw [dF0 h2];rfl⟩
theorem zGO: ∀{n:Nat}{S:Sto},zTP [.new (List.replicate n (.bl true))] S=.ok (.val (.bl true)) S:=by
 intro n S
 have h: ∀n:Nat,zNF (List.replicate n (.bl true))=some (List.replicate n true):=by
  intro n
  induction n with
  |zero=>rfl
  |succ n ih=>rw [replicate_succ,replicate_succ];unfold zNF;rw [ih];rfl
 show(match (some (List.replicate n (MV.bl true))).bind zNF with |some bs=>R.ok (Er.val (.bl (bs.all id))) S|none=>.no)=_
 rw [show(some (List.replicate n (MV.bl true))).bind zNF=some (List.replicate n true)from h n]
 show R.ok (Er.val (.bl ((List.replicate n true).all id))) S=_
 rw [show(List.replicate n true).all id=true by simp]
theorem zGP{ds:List MV}:ds.map (λ_=>MV.bl true)=List.replicate ds.length (.bl true):=by
 induction ds with
 |nil=>rfl
 |cons d ds ih=>rw [map_cons,lC0,replicate_succ,ih]
theorem yTB{x:List Nat}(h:Nm x)(S:Sto):zO 1 zKV [.val (.str x)] S=.ok (.val (.bl true)) S:=xZ rfl (by
 have hl: ∀S,wC [.val (.str x)] S=.ok (.val (.int x.length)) S:=λS=>iP (fits (by have:=h.2.1;omega))
 have e1:zJK [some (.str x)] S=.ok (.next [some (.str x)]) S:=by
  unfold zJK
  simp? [hl,chF,le_int,dT0 (show(1:Int)<=x.length by have:=h.1;omega),dT0 (show(x.length:Int)<=8 by have:=h.2.1;omega)]
  rfl
 have hc:xX (gNm 0) zEK nZ (blk 1 [] [some (.str x)]) [] (x.map λc=>.str [c]) S=.ok ((x.map λc=>MV.str [c]).map λ_=>.bl true) S:=gA (kU S) λd hd=>by
  obtain⟨c,hc,rfl⟩:=mM0.mp hd
  obtain⟨h1,h2⟩:=yHI (h.2.2 c hc)
  refine⟨[some (.str [c])],rfl,rfl,?_⟩
  unfold nZ
  simp? [chF,le_str,h1,h2]
 have e2:zJL [some (.str x)] S=.ok (.ret (.val (.bl true))) S:=by
  unfold zJL
  simp? [bok]
  show(((((if(x.map λc=>MV.str [c]).length<1000000 then(xX (gNm 0) zEK nZ (blk 1 [] [some (.str x)]) [] (x.map λc=>.str [c]) S).bind λo S=>R.ok (Er.new o) S else .no).bind λp S1=>R.ok [p] S1).bind zTP).bind λr S1=>R.ok (Fl.ret r) S1))=_
  rw [iP (by rw [lM0];have:=h.2.1;omega),hc,bok,bok,bok,zGP,zGO]
  rfl
 show yH (zOP [some (.str x)] S)=_
 unfold zOP
 rw [zE e1,e2]
 rfl)
theorem yES{d:MV}(h:Vl d)(S:Sto):zO 1 dZ [.val d] S=.ok (.val (.bl true)) S:=xZ rfl (by
 show yH (zMA [some d] S)=_
 unfold zMA
 rcases h.cases with⟨i,rfl,h0,h1⟩|⟨x,rfl,hx⟩
 ·have habs:absF [.val (.int i)] S=.ok (.val (.int (if i<0 then -i else i))) S:=rfl
  have hlt:decide ((if i<0 then -i else i)<(10:Int) ^ 30)=true:=dT0 (by split<;>omega)
  rw [bR (show cS [some (.int i)] S=.ok (.ret (.val (.bl true))) S by
   unfold cS
   simp? [zED,habs,show zIZ (.val (.int 10)) (.val (.int 30)) S=.ok (.val (.int (10 ^ 30))) S from rfl,lt_int,hlt])]
  rfl
 ·rw [zE (show cS [some (.str x)] S=.ok (.next [some (.str x)]) S by
   unfold cS
   simp? [zZJ]
   rfl)]
  unfold zNN
  simp? [yTB hx]
  rfl)
theorem yET(ds:List MV)(a b:Int)(S:Sto):zO 3 yF [.val (.tup ds),.val (.int a),.val (.int b)] S=.ok (.val (.bl (decide (a<=ds.length)&&decide ((ds.length:Int)<=b)))) S:=xZ rfl (by
 show yH (zMB [some (.tup ds),some (.int a),some (.int b)] S)=_
 unfold zMB zNO
 simp? [zFW,zEB,chF,le_int]
 cases decide (a<=(ds.length:Int))<;>rfl)
theorem zXF(i b:Int)(S:Sto):zO 2 zM [.val (.int i),.val (.int b)] S=.ok (.val (.bl (decide (0<=i)&&decide (i<b)))) S:=xZ rfl (by
 show yH (cT [some (.int i),some (.int b)] S)=_
 unfold cT zBL
 simp? [zED,zFW,chF,le_int,lt_int]
 cases decide (0<=i)<;>rfl)
theorem jL{i b:Int}(h0:0<=i)(h1:i<b)(S:Sto):zO 2 zM [.val (.int i),.val (.int b)] S=.ok (.val (.bl true)) S:=by
 rw [zXF,dT0 h0,dT0 h1];rfl
theorem zDG{ds:List MV}{a b:Int}(h0:a<=ds.length)(h1:(ds.length:Int)<=b)(S:Sto):zO 3 yF [.val (.tup ds),.val (.int a),.val (.int b)] S=.ok (.val (.bl true)) S:=by
 rw [yET,dT0 h0,dT0 h1];rfl
theorem zSP(a b:MV)(S:Sto):zO 3 yF [.val (.tup [a,b]),.val (.int 2),.val (.int 2)] S=.ok (.val (.bl true)) S:=zDG (by simp) (by simp) S
theorem yKX(a b c:MV)(S:Sto):zO 3 yF [.val (.tup [a,b,c]),.val (.int 3),.val (.int 3)] S=.ok (.val (.bl true)) S:=zDG (by simp) (by simp) S
theorem yON(a b c:MV)(S:Sto):zO 3 yF [.val (.tup [a,b,c]),.val (.int 2),.val (.int 2)] S=.ok (.val (.bl false)) S:=by
 rw [yET,dF0 (show¬(([a,b,c].length:Int)<=2) by simp),Bool.and_false]
theorem yOO{p:Int×Int}(h:1<=p.1/\p.1<=4/\0<=p.2/\p.2<=p.1)(S:Sto):zO 1 nA [.val (tbl p)] S=.ok (.val (.bl true)) S:=xZ rfl (by
 have i0: ∀S,ixF (.val (.tup [.int p.1,.int p.2])) (.val (.int 0)) S=.ok (.val (.int p.1)) S:=λS=>rfl
 have i1: ∀S,ixF (.val (.tup [.int p.1,.int p.2])) (.val (.int 1)) S=.ok (.val (.int p.2)) S:=λS=>rfl
 have e1:cU [some (.tup [.int p.1,.int p.2]),none] S=.ok (.next [some (.tup [.int p.1,.int p.2]),none]) S:=by
  unfold cU
  simp? [zSP,i0,zED]
  rfl
 have e2:cV [some (.tup [.int p.1,.int p.2]),none] S=.ok (.next [some (.tup [.int p.1,.int p.2]),some (.int p.1)]) S:=by
  unfold cV
  simp? [i0]
 have e3:cW [some (.tup [.int p.1,.int p.2]),some (.int p.1)] S=.ok (.ret (.val (.bl true))) S:=by
  unfold cW
  simp? [chF,le_int,dT0 h.1,dT0 h.2.1,zFW,i1,jL h.2.2.1 (show p.2<p.1+1 by omega)]
 show yH (zCJ [some (.tup [.int p.1,.int p.2]),none] S)=_
 unfold zCJ
 rw [zE e1,zE e2,e3]
 rfl)
def SqM(S:Sto)(m:MV)(ds:List MV):Prop:=m=.tup ds\/ ∃l,m=.loc l/\S[l]? =some (.lst ds)
theorem SqM.ix{S:Sto}{m:MV}{ds:List MV}{i:Int}{d:MV}(h:SqM S m ds)(hk:atI ds i=some d):ixF (.val m) (.val (.int i)) S=.ok (.val d) S:=by
 rcases h with rfl|⟨l,rfl,hS⟩
 ·exact ix_tup hk
 ·exact kK hS hk
theorem SqM.len{S:Sto}{m:MV}{ds:List MV}(h:SqM S m ds):wC [.val m] S=.ok (.val (.int ds.length)) S:=by
 rcases h with rfl|⟨l,rfl,hS⟩
 ·rfl
 ·exact yNW hS
theorem SqM.app{S T:Sto}{m:MV}{ds:List MV}(h:SqM S m ds):SqM (S++T) m ds:=by
 rcases h with h|⟨l,h,hS⟩
 ·exact .inl h
 ·exact .inr ⟨l,h,by rw [getElem?_append_left (gS0.mp hS).1];exact hS⟩
theorem yTC{ws:List Int}{k:Nat}{w:Int}(h:ws[k]? =some w):atI (ws.map MV.int) (k:Int)=some (.int w):=by
 have hl:k<ws.length:=(gS0.mp h).1
 unfold atI ixN
 rw [iP (by omega),iP (by rw [lM0];omega)]
 show(ws.map MV.int)[(k:Int).toNat]? =_
 rw [toNat_natCast,getElem?_map,h]
 rfl
theorem yKY{ws:List Int}{sd:Side}(h:zZF ws sd){m:MV}{S:Sto}(hm:SqM S m (ws.map MV.int)):zO 2 zGG [.val (xT sd),.val m] S=.ok (.val (.bl true)) S:=xZ rfl (by
 cases sd with
 |isv v=>
  have i0: ∀S,ixF (.val (.tup [.str sIs,v])) (.val (.int 0)) S=.ok (.val (.str sIs)) S:=λS=>rfl
  have i1: ∀S,ixF (.val (.tup [.str sIs,v])) (.val (.int 1)) S=.ok (.val v) S:=λS=>rfl
  have e1:zAG [some (.tup [.str sIs,v]),some m] S=.ok (.ret (.val (.bl true))) S:=by
   unfold zAG
   simp? [zSP,i0,i1,eq_str,show decide (sIs=[105,115])=true from rfl,zFW,yES h]
  show yH (zGF [some (.tup [.str sIs,v]),some m] S)=_
  unfold zGF
  rw [bR e1]
  rfl
 |cell k j=>
  obtain⟨w,hw,hj⟩:=h
  have hkl:k<ws.length:=(gS0.mp hw).1
  have i0: ∀S,ixF (.val (.tup [.str zGN,.int (k:Nat),.int (j:Nat)])) (.val (.int 0)) S=.ok (.val (.str zGN)) S:=λS=>rfl
  have i1: ∀S,ixF (.val (.tup [.str zGN,.int (k:Nat),.int (j:Nat)])) (.val (.int 1)) S=.ok (.val (.int (k:Nat))) S:=λS=>rfl
  have i2: ∀S,ixF (.val (.tup [.str zGN,.int (k:Nat),.int (j:Nat)])) (.val (.int 2)) S=.ok (.val (.int (j:Nat))) S:=λS=>rfl
  have e1:zAG [some (.tup [.str zGN,.int (k:Nat),.int (j:Nat)]),some m] S=.ok (.next [some (.tup [.str zGN,.int (k:Nat),.int (j:Nat)]),some m]) S:=by
   unfold zAG
   simp? [yON]
   rfl
  have e2:zJM [some (.tup [.str zGN,.int (k:Nat),.int (j:Nat)]),some m] S=.ok (.next [some (.tup [.str zGN,.int (k:Nat),.int (j:Nat)]),some m]) S:=by
   unfold zJM
   simp? [yKX,i0,show neF (.val (.str zGN)) (.val (.str [99,101,108,108])) S=.ok (.val (.bl false)) S from yJT (zQQ _ _ _)]
   rfl
  have e3:zJN [some (.tup [.str zGN,.int (k:Nat),.int (j:Nat)]),some m] S=.ok (.ret (.val (.bl true))) S:=by
   unfold zJN
   simp? [i1,hm.len,lM0,jL (show(0:Int)<=(k:Nat) by omega) (show((k:Nat):Int)<ws.length by omega),zFW,i2,hm.ix (yTC hw),jL (show(0:Int)<=(j:Nat) by omega) hj]
  show yH (zGF [some (.tup [.str zGN,.int (k:Nat),.int (j:Nat)]),some m] S)=_
  unfold zGF
  rw [zE e1,zE e2,e3]
  rfl)
theorem yOP(neg:Bool)(p:Er)(ds:List MV)(S:Sto):inF neg p (.val (.tup ds)) S=zOJ neg p (.val (.tup ds)) S:=by
 unfold inF
 split
 ·rename_i h;cases h
 ·rfl
theorem yTD{ws:List Int}{q:Test}(h:zOY ws q){m:MV}{S:Sto}(hm:SqM S m (ws.map MV.int)):zO 2 zKW [.val (testM q),.val m] S=.ok (.val (.bl true)) S:=xZ rfl (by
 obtain⟨sl,w,sr⟩:=q
 obtain⟨h1,h2,h3⟩:=h
 have h2:w∈words3:=h2
 have i0: ∀S,ixF (.val (.tup [xT sl,.str w,xT sr])) (.val (.int 0)) S=.ok (.val (xT sl)) S:=λS=>rfl
 have i1: ∀S,ixF (.val (.tup [xT sl,.str w,xT sr])) (.val (.int 1)) S=.ok (.val (.str w)) S:=λS=>rfl
 have i2: ∀S,ixF (.val (.tup [xT sl,.str w,xT sr])) (.val (.int 2)) S=.ok (.val (xT sr)) S:=λS=>rfl
 have hin:inF false (.val (.str w)) (.val (.tup [.str [115,97,109,101],.str [117,110,108,105,107,101],.str [108,101,115,115]])) S=.ok (.val (.bl true)) S:=by
  rw [yOP]
  unfold zOJ
  show(match zWJ S yO (.str w) [.str [115,97,109,101],.str [117,110,108,105,107,101],.str [108,101,115,115]]with |some bs=>R.ok (Er.val (.bl (if false=true then !bs.any id else bs.any id))) S|none=>.no)=_
  rw [zSM (zOW _) (λy hy=>by simp only [mC,nM0,or_false]at hy;rcases hy with rfl|rfl|rfl<;>exact⟨zOW _,by rw [zHV];decide⟩)]
  simp only [words3,mC,nM0,or_false]at h2
  rcases h2 with rfl|rfl|rfl<;>simp
 have e1:zJO [some (.tup [xT sl,.str w,xT sr]),some m] S=.ok (.next [some (.tup [xT sl,.str w,xT sr]),some m]) S:=by
  unfold zJO
  simp? [yKX]
  rfl
 have e2:zJP [some (.tup [xT sl,.str w,xT sr]),some m] S=.ok (.ret (.val (.bl true))) S:=by
  unfold zJP
  simp? [i0,i1,i2,yKY h1 hm,zFW,hin,yKY h3 hm]
 show yH (zOQ [some (.tup [xT sl,.str w,xT sr]),some m] S)=_
 unfold zOQ
 rw [zE e1,e2]
 rfl)
theorem yOQ{ws:List Int}{qs:List Test}(h0:1<=qs.length)(h1:qs.length<=3)(h: ∀q∈qs,zOY ws q){m:MV}{S:Sto}(hm:SqM S m (ws.map MV.int)):gB [.tup (qs.map testM),m] S=.ok (.val (.bl true)) S:=by
 have hc:xX (gNm 0) zIK zAS [none,some m] [] (qs.map testM) S=.ok ((qs.map testM).map λ_=>.bl true) S:=gA (kU S) λd hd=>by
  obtain⟨q,hq,rfl⟩:=mM0.mp hd
  refine⟨[some (testM q),some m],rfl,rfl,?_⟩
  unfold zAS
  simp? [yTD (h q hq) hm]
 show yH (zJQ [some (.tup (qs.map testM)),some m] S)=_
 unfold zJQ zLI
 simp? [zDG (ds:=qs.map testM) (a:=1) (b:=3) (by rw [lM0];omega) (by rw [lM0];omega),zFW,show itT (.val (.tup (qs.map testM))) S=.ok ⟨qs.map testM,[]⟩ S from rfl]
 rw [iP (by rw [lM0];omega)]
 rw [show blk 1 [1] [some (.tup (qs.map testM)),some m]=[none,some m]from rfl,hc]
 simp? [zGP,zGO]
 rfl
theorem zZK{ws:List Int}{qs:List Test}(h0:1<=qs.length)(h1:qs.length<=3)(h: ∀q∈qs,zOY ws q)(S:Sto):zO 2 gB [.val (.tup (qs.map testM)),.new (ws.map MV.int)] S=.ok (.val (.bl true)) S:=
 by
 have hf:=yOQ h0 h1 h (m:=.loc S.length) (S:=S++[.lst (ws.map MV.int)]) (.inr ⟨S.length,rfl,by simp⟩)
 refine zAE (T:=[.lst (ws.map MV.int)]) rfl ?_ (zYU _ _) (λl=>by simp)
 rw [show zR [.val (.tup (qs.map testM)),.new (ws.map MV.int)] S=([.tup (qs.map testM),.loc S.length],S++[.lst (ws.map MV.int)])from rfl]
 exact hf
theorem yKZ{cs:List Nat}{w:Int}(h0:1<=cs.length)(h1:cs.length<=3)(h: ∀c∈cs,(c:Int)<w)(S:Sto):zO 2 zAA [.val (.tup (cs.map yL)),.val (.int w)] S=.ok (.val (.bl true)) S:=xZ rfl (by
 have hc:xX (gNm 0) zDY cX [none,some (.int w)] [] (cs.map yL) S=.ok ((cs.map yL).map λ_=>.bl true) S:=gA (kU S) λd hd=>by
  obtain⟨c,hcc,rfl⟩:=mM0.mp hd
  refine⟨[some (.int (c:Nat)),some (.int w)],rfl,rfl,?_⟩
  unfold cX
  simp? [jL (show(0:Int)<=(c:Nat) by omega) (h c hcc)]
 show yH (zEL [some (.tup (cs.map yL)),some (.int w)] S)=_
 unfold zEL zIL
 simp? [zDG (ds:=cs.map yL) (a:=1) (b:=3) (by rw [lM0];omega) (by rw [lM0];omega),zFW,show itT (.val (.tup (cs.map yL))) S=.ok ⟨cs.map yL,[]⟩ S from rfl]
 rw [iP (by rw [lM0];omega)]
 rw [show blk 1 [1] [some (.tup (cs.map yL)),some (.int w)]=[none,some (.int w)]from rfl,hc]
 simp? [zGP,zGO]
 rfl)
section
variable{ts:List (Int×Int)}{m:MV}{S:Sto}
theorem zZL(hm:SqM S m (ts.map tbl)){t:Nat}(ht:t<ts.length): ∃e,ixF (.val m) (.val (.int (t:Nat))) S=.ok (.val e) S/\ixF (.val e) (.val (.int 0)) S=.ok (.val (.int (wid ts t))) S:=by
 have hgt:ts[t]? =some ts[t]:=gE0 ht
 exact⟨tbl ts[t],hm.ix (zXD hgt),by rw [zOX hgt];rfl⟩
theorem zOZ(hm:SqM S m (ts.map tbl)):wC [.val m] S=.ok (.val (.int ts.length)) S:=by rw [hm.len,lM0]
theorem yOR(hm:SqM S m (ts.map tbl)){t:Nat}{qs:List Test}(h:zHX ts (.never t qs)):zO 2 zHD [.val (yA (.never t qs)),.val m] S=.ok (.val (.bl true)) S:=xZ rfl (by
 obtain⟨ht,q1,q2,q3⟩:=h
 have i1: ∀S,ixF (.val (.tup [.str zFL,.int (t:Nat),.tup (qs.map testM)])) (.val (.int 1)) S=.ok (.val (.int (t:Nat))) S:=λS=>rfl
 have i2: ∀S,ixF (.val (.tup [.str zFL,.int (t:Nat),.tup (qs.map testM)])) (.val (.int 2)) S=.ok (.val (.tup (qs.map testM))) S:=λS=>rfl
 have hl: ∀S,wC [.val (.tup [.str zFL,.int (t:Nat),.tup (qs.map testM)])] S=.ok (.val (.int 3)) S:=λS=>rfl
 obtain⟨e,ix1,ix2⟩:=zZL hm ht
 have e1:zHB [some (.tup [.str zFL,.int (t:Nat),.tup (qs.map testM)]),some m] S=.ok (.next [some (.tup [.str zFL,.int (t:Nat),.tup (qs.map testM)]),some m]) S:=by
  unfold zHB
  simp? [hl,ne_int,show decide ((3:Int)=3)=true from rfl,i1,zOZ hm,jL (show(0:Int)<=(t:Nat) by omega) (show((t:Nat):Int)<ts.length by omega)]
  rfl
 have e2:zHC [some (.tup [.str zFL,.int (t:Nat),.tup (qs.map testM)]),some m] S=.ok (.ret (.val (.bl true))) S:=by
  unfold zHC
  have hc:=zZK (ws:=[wid ts t]) q1 q2 q3 S
  simp? [i2,i1,ix1,ix2]
  rw [show([wid ts t]:List Int).map MV.int=[.int (wid ts t)]from rfl]at hc
  rw [hc]
  rfl
 show yH (zMC [some (.tup [.str zFL,.int (t:Nat),.tup (qs.map testM)]),some m] S)=_
 unfold zMC
 rw [zE e1,e2]
 rfl)
theorem yOS(hm:SqM S m (ts.map tbl)){t u:Nat}{qs:List Test}(h:zHX ts (.apart t u qs)):zO 2 zHG [.val (yA (.apart t u qs)),.val m] S=.ok (.val (.bl true)) S:=xZ rfl (by
 obtain⟨ht,hu,q1,q2,q3⟩:=h
 have i3: ∀S,ixF (.val (.tup [.str nS,.int (t:Nat),.int (u:Nat),.tup (qs.map testM)])) (.val (.int 3)) S=.ok (.val (.tup (qs.map testM))) S:=λS=>rfl
 have hl: ∀S,wC [.val (.tup [.str nS,.int (t:Nat),.int (u:Nat),.tup (qs.map testM)])] S=.ok (.val (.int 4)) S:=λS=>rfl
 have hcut: ∀S,zAD (.val (.tup [.str nS,.int (t:Nat),.int (u:Nat),.tup (qs.map testM)])) (some 1) (some 3) S=.ok (.val (.tup [.int (t:Nat),.int (u:Nat)])) S:=λS=>rfl
 have hit: ∀S,itT (.val (.tup [.int (t:Nat),.int (u:Nat)])) S=.ok ⟨[.int (t:Nat),.int (u:Nat)],[]⟩ S:=λS=>rfl
 have hc1:xX (gNm 0) zJR zCK [none,some m] [] [.int (t:Nat),.int (u:Nat)] S=.ok ([MV.int (t:Nat),MV.int (u:Nat)].map λ_=>.bl true) S:=gA (kU S) λd hd=>by
  have hd': ∃z:Nat,z<ts.length/\d=.int (z:Nat):=by
   simp only [mC,nM0,or_false]at hd
   rcases hd with rfl|rfl
   ·exact⟨t,ht,rfl⟩
   ·exact⟨u,hu,rfl⟩
  obtain⟨z,hz,rfl⟩:=hd'
  refine⟨[some (.int (z:Nat)),some m],rfl,rfl,?_⟩
  unfold zCK
  simp? [zOZ hm,jL (show(0:Int)<=(z:Nat) by omega) (show((z:Nat):Int)<ts.length by omega)]
 have hc2:xX (gNm 0) zCL cY [none,some m] [] [.int (t:Nat),.int (u:Nat)] S=.ok [.int (wid ts t),.int (wid ts u)] S:=by
  have:=gA (S:=S) (gf:=gNm 0) (cf:=zCL) (ef:=cY) (ρb:=[none,some m]) (gs:=[]) (ds:=[.int (t:Nat),.int (u:Nat)]) (F:=λd=>match d with |.int i=>.int (wid ts i.toNat)|d=>d) (kU S) λd hd=>by
   have hd': ∃z:Nat,z<ts.length/\d=.int (z:Nat):=by
    simp only [mC,nM0,or_false]at hd
    rcases hd with rfl|rfl
    ·exact⟨t,ht,rfl⟩
    ·exact⟨u,hu,rfl⟩
   obtain⟨z,hz,rfl⟩:=hd'
   obtain⟨e,ix1,ix2⟩:=zZL hm hz
   refine⟨[some (.int (z:Nat)),some m],rfl,rfl,?_⟩
   unfold cY
   simp? [ix1,ix2]
   rw [toNat_natCast]
  rw [this]
  simp
 have e1:zHE [some (.tup [.str nS,.int (t:Nat),.int (u:Nat),.tup (qs.map testM)]),some m] S=.ok (.next [some (.tup [.str nS,.int (t:Nat),.int (u:Nat),.tup (qs.map testM)]),some m]) S:=by
  unfold zHE
  simp? [hl,ne_int,show decide ((4:Int)=4)=true from rfl,hcut,hit]
  rw [show blk 1 [1] [some (.tup [.str nS,.int (t:Nat),.int (u:Nat),.tup (qs.map testM)]),some m]=[none,some m]from rfl,hc1,zGP]
  rw [iP (show([MV.int (t:Nat),MV.int (u:Nat)]:List MV).length<1000000 by simp)]
  simp? [zGO]
  rfl
 have e2:zHF [some (.tup [.str nS,.int (t:Nat),.int (u:Nat),.tup (qs.map testM)]),some m] S=.ok (.ret (.val (.bl true))) S:=by
  unfold zHF
  have hc:=zZK (ws:=[wid ts t,wid ts u]) q1 q2 q3 S
  simp? [i3,hcut,hit]
  rw [show blk 1 [1] [some (.tup [.str nS,.int (t:Nat),.int (u:Nat),.tup (qs.map testM)]),some m]=[none,some m]from rfl,hc2]
  rw [iP (show([MV.int (t:Nat),MV.int (u:Nat)]:List MV).length<1000000 by simp)]
  simp? [bok]
  rw [show([wid ts t,wid ts u]:List Int).map MV.int=[.int (wid ts t),.int (wid ts u)]from rfl]at hc
  rw [hc]
  rfl
 show yH (zMD [some (.tup [.str nS,.int (t:Nat),.int (u:Nat),.tup (qs.map testM)]),some m] S)=_
 unfold zMD
 rw [zE e1,e2]
 rfl)
theorem c_tie(hm:SqM S m (ts.map tbl)){t u:Nat}{cs ds:List Nat}(h:zHX ts (.tie t cs u ds)):zO 2 zJT [.val (yA (.tie t cs u ds)),.val m] S=.ok (.val (.bl true)) S:=xZ rfl (by
 obtain⟨ht,hu,q1,q2,q3,q4,q5⟩:=h
 generalize hR:yA (.tie t cs u ds)=Rr
 have i1: ∀S,ixF (.val Rr) (.val (.int 1)) S=.ok (.val (.int (t:Nat))) S:=λS=>by rw [<-hR];rfl
 have i2: ∀S,ixF (.val Rr) (.val (.int 2)) S=.ok (.val (.tup (cs.map yL))) S:=λS=>by rw [<-hR];rfl
 have i3: ∀S,ixF (.val Rr) (.val (.int 3)) S=.ok (.val (.int (u:Nat))) S:=λS=>by rw [<-hR];rfl
 have i4: ∀S,ixF (.val Rr) (.val (.int 4)) S=.ok (.val (.tup (ds.map yL))) S:=λS=>by rw [<-hR];rfl
 have hl: ∀S,wC [.val Rr] S=.ok (.val (.int 5)) S:=λS=>by rw [<-hR];rfl
 have e1:zCM [some Rr,some m,none,none] S=.ok (.next [some Rr,some m,none,none]) S:=by
  unfold zCM
  simp? [hl,ne_int,show decide ((5:Int)=5)=true from rfl]
  rfl
 have turn: ∀{z:Nat}{es:List Nat}(x2 x3:Option MV),z<ts.length->1<=es.length->es.length<=3->(∀c∈es,(c:Int)<wid ts z)->bY [some Rr,some m,some (.int (z:Nat)),some (.tup (es.map yL))] S=.ok (.next [some Rr,some m,some (.int (z:Nat)),some (.tup (es.map yL))]) S:=λ{z es} x2 x3 hz h1 h2 h3=>by
  obtain⟨e,ix1,ix2⟩:=zZL hm hz
  unfold bY zHH
  simp? [zOZ hm,jL (show(0:Int)<=(z:Nat) by omega) (show((z:Nat):Int)<ts.length by omega),ix1,ix2,yKZ h1 h2 h3]
  rfl
 have e2:zCN [some Rr,some m,none,none] S=.ok (.next [some Rr,some m,some (.int (u:Nat)),some (.tup (ds.map yL))]) S:=by
  unfold zCN
  simp? [i1,i2,i3,i4,show itT (.val (.tup [.tup [.int (t:Nat),.tup (cs.map yL)],.tup [.int (u:Nat),.tup (ds.map yL)]])) S=.ok ⟨[.tup [.int (t:Nat),.tup (cs.map yL)],.tup [.int (u:Nat),.tup (ds.map yL)]],[]⟩ S from rfl]
  rw [bD (show gTp 2 (zX (gNm 2) (zX (gNm 3) kR)) (.tup [.int (t:Nat),.tup (cs.map yL)]) [some Rr,some m,none,none] S=.ok [some Rr,some m,some (.int (t:Nat)),some (.tup (cs.map yL))] S from rfl) (turn none none ht q1 q2 q4) (kU S)]
  rw [bD (show gTp 2 (zX (gNm 2) (zX (gNm 3) kR)) (.tup [.int (u:Nat),.tup (ds.map yL)]) [some Rr,some m,some (.int (t:Nat)),some (.tup (cs.map yL))] S=.ok [some Rr,some m,some (.int (u:Nat)),some (.tup (ds.map yL))] S from rfl) (turn none none hu (by omega) (by omega) q5) (kU S)]
  rfl
 have e3:zCO [some Rr,some m,some (.int (u:Nat)),some (.tup (ds.map yL))] S=.ok (.ret (.val (.bl true))) S:=by
  unfold zCO
  simp? [i2,i4,zEB,lM0,dT0 (show(cs.length:Int)=ds.length by omega)]
 show yH (zJS [some Rr,some m,none,none] S)=_
 unfold zJS
 rw [zE e1,zE e2,e3]
 rfl)
theorem yTE(hm:SqM S m (ts.map tbl)){r:Rule}(h:zHX ts r):zO 2 zGI [.val (yA r),.val m] S=.ok (.val (.bl true)) S:=xZ rfl (by
 have key: ∀(w:List Nat)(rest:List MV),yA r=.tup (.str w::rest)->zDZ [some (yA r),some m] S=.ok (.next [some (yA r),some m]) S/\ ∀S,ixF (.val (yA r)) (.val (.int 0)) S=.ok (.val (.str w)) S:=λw rest e=>by
  rw [e]
  refine⟨?_,λS=>ix_tup (by unfold atI ixN;rw [iP (by decide),iP (by rw [lC0];omega)];rfl)⟩
  unfold zDZ
  simp? [zEB,dF0 (show¬(((MV.str w::rest).length:Nat):Int)=0 by rw [lC0];omega)]
  rfl
 show yH (zGH [some (yA r),some m] S)=_
 unfold zGH
 cases r with
 |never t qs=>
  obtain⟨e1,i0⟩:=key zFL _ rfl
  have e2:jG [some (yA (.never t qs)),some m] S=.ok (.ret (.val (.bl true))) S:=by
   unfold jG
   simp? [i0,eq_str,show decide (zFL=[110,101,118,101,114])=true from rfl,yOR hm h]
  rw [zE e1,bR e2]
  rfl
 |apart t u qs=>
  obtain⟨e1,i0⟩:=key nS _ rfl
  have e2:jG [some (yA (.apart t u qs)),some m] S=.ok (.next [some (yA (.apart t u qs)),some m]) S:=by
   unfold jG
   simp? [i0,eq_str,show decide (nS=[110,101,118,101,114])=false from rfl]
   rfl
  have e3:cF [some (yA (.apart t u qs)),some m] S=.ok (.ret (.val (.bl true))) S:=by
   unfold cF
   simp? [i0,eq_str,show decide (nS=[97,112,97,114,116])=true from rfl,yOS hm h]
  rw [zE e1,zE e2,bR e3]
  rfl
 |tie t cs u ds=>
  obtain⟨e1,i0⟩:=key zZH _ rfl
  have e2:jG [some (yA (.tie t cs u ds)),some m] S=.ok (.next [some (yA (.tie t cs u ds)),some m]) S:=by
   unfold jG
   simp? [i0,eq_str,show decide (zZH=[110,101,118,101,114])=false from rfl]
   rfl
  have e3:cF [some (yA (.tie t cs u ds)),some m] S=.ok (.next [some (yA (.tie t cs u ds)),some m]) S:=by
   unfold cF
   simp? [i0,eq_str,show decide (zZH=[97,112,97,114,116])=false from rfl]
   rfl
  have e4:zAH [some (yA (.tie t cs u ds)),some m] S=.ok (.ret (.val (.bl true))) S:=by
   unfold zAH
   simp? [i0,eq_str,show decide (zZH=[116,105,101])=true from rfl,zFW,c_tie hm h]
  rw [zE e1,zE e2,zE e3,e4]
  rfl)
end
section
variable{ts:List (Int×Int)}{m:MV}{S:Sto}
theorem yLA(hm:SqM S m (ts.map tbl)){r:Nat×List MV}(h:ROk ts r)(hT:TOk ts):zO 2 zJV [.val (yG r),.val m] S=.ok (.val (.bl true)) S:=xZ rfl (by
 obtain⟨t,cs⟩:=r
 obtain⟨p,hp,hl,hv⟩:=h
 have hp:ts[t]? =some p:=hp
 have hl:(cs.length:Int)=p.1:=hl
 have ht:t<ts.length:=(gS0.mp hp).1
 have hw:=zOX hp
 have hpw:=hT.2.2 p (mem_of_getElem? hp)
 obtain⟨e,ix1,ix2⟩:=zZL hm ht
 rw [hw]at ix2
 generalize hR:yG (t,cs)=Rr
 have hRt:Rr=.tup [.int (t:Nat),.tup cs]:=hR.symm
 have i0: ∀S,ixF (.val Rr) (.val (.int 0)) S=.ok (.val (.int (t:Nat))) S:=λS=>by rw [hRt];rfl
 have i1: ∀S,ixF (.val Rr) (.val (.int 1)) S=.ok (.val (.tup cs)) S:=λS=>by rw [hRt];rfl
 have h2:zO 3 yF [.val Rr,.val (.int 2),.val (.int 2)] S=.ok (.val (.bl true)) S:=by rw [hRt];exact zSP _ _ S
 have e1:zCP [some Rr,some m,none] S=.ok (.next [some Rr,some m,none]) S:=by
  unfold zCP
  simp? [h2,i0,zOZ hm,jL (show(0:Int)<=(t:Nat) by omega) (show((t:Nat):Int)<ts.length by omega)]
  rfl
 have e2:zME [some Rr,some m,none] S=.ok (.next [some Rr,some m,some (.int p.1)]) S:=by
  unfold zME
  simp? [i0,ix1,ix2]
 have hc:xX (gNm 0) zNP zHI [none] [] cs S=.ok (cs.map λ_=>.bl true) S:=gA (kU S) λd hd=>by
  refine⟨[some d],rfl,rfl,?_⟩
  unfold zHI
  simp? [yES (hv d hd)]
 have e3:zMF [some Rr,some m,some (.int p.1)] S=.ok (.ret (.val (.bl true))) S:=by
  unfold zMF
  simp? [i1,zDG (ds:=cs) (a:=p.1) (b:=p.1) (by omega) (by omega),zFW,show itT (.val (.tup cs)) S=.ok ⟨cs,[]⟩ S from rfl]
  rw [iP (show cs.length<1000000 by omega)]
  rw [show blk 1 [] [some Rr,some m,some (.int p.1)]=[none]from rfl,hc,zGP]
  simp? [zGO]
 show yH (zJU [some Rr,some m,none] S)=_
 unfold zJU
 rw [zE e1,zE e2,e3]
 rfl)
theorem gt_int(i j:Int)(S:Sto):gtF (.val (.int i)) (.val (.int j)) S=.ok (.val (.bl (decide (j<i)))) S:=rfl
theorem SqM.src{m:MV}{ds:List MV}(h:SqM S m ds): ∃gs,itE [.val m] S=.ok ⟨zSD ds,gs⟩ S/\stay gs S/\ ∀T,stay gs (S++T):=by
 rcases h with rfl|⟨l,rfl,hS⟩
 ·exact⟨[],rfl,kU S,λT=>kU _⟩
 ·refine⟨[(l,ds)],?_,zNJ hS,λT=>zNJ (by rw [getElem?_append_left (gS0.mp hS).1];exact hS)⟩
  show(match srcOf S (.val (.loc l))with |some a=>R.ok (⟨zSD a.ds,a.gs⟩:Wk) S|none=>.no)=_
  rw [show srcOf S (.val (.loc l))=some ⟨true,ds,[(l,ds)]⟩ by unfold srcOf;dsimp only;rw [hS]]
end
mutual
theorem yEU: ∀{d:MV},pd d=true-> ∃nk,jQ d=some nk/\zDQ nk<=dpt d
 |.int i,_=>⟨_,zGB i,by rw [zDQ];exact zero_le _⟩
 |.str x,_=>⟨_,zGC x,by rw [zDQ];exact zero_le _⟩
 |.tup ds,h=>by
  obtain⟨ks,h1,h2⟩:=zZM (by rw [<-nR];exact h:pdL ds=true)
  exact⟨.tup ks,by rw [zGD,h1];rfl,by rw [zBY,kI];omega⟩
 |.non,h=>by rw [pd]at h<;>first |cases h|(intros;simp)
 |.bl _,h=>by rw [pd]at h<;>first |cases h|(intros;simp)
 |.scr _,h=>by rw [pd]at h<;>first |cases h|(intros;simp)
 |.loc _,h=>by rw [pd]at h<;>first |cases h|(intros;simp)
 |.typ _,h=>by rw [pd]at h<;>first |cases h|(intros;simp)
theorem zZM: ∀{ds:List MV},pdL ds=true-> ∃ks,bB ds=some ks/\zLC ks<=zIP ds
 |[],_=>⟨[],zKT,by rw [zLC];exact zero_le _⟩
 |d::ds,h=>by
  rw [xC,aE]at h
  obtain⟨k,h1,h2⟩:=yEU h.1
  obtain⟨ks,h3,h4⟩:=zZM h.2
  exact⟨k::ks,by rw [zCG,h1,h3];rfl,by rw [zLR,yI];omega⟩
end
section
variable{ts:List (Int×Int)}{m:MV}{S:Sto}
theorem yEV{r:Nat×List MV}(h:ROk ts r):keyOk (yG r)=true:=by
 have hp:=zSN h
 obtain⟨nk,h1,h2⟩:=yEU hp.1
 unfold keyOk
 rw [h1]
 show(zON (yG r)&&decide (zDQ nk<=4))=true
 rw [dT0 (show zDQ nk<=4 by omega)]
 rfl
end
theorem yTF(S:Sto)(a b:MO):(S++[a,b])[S.length+1]? =some b:=by
 rw [getElem?_append_right (by omega),show S.length+1 - S.length=1 by omega]
 rfl
theorem yEW(S:Sto)(o:MO):(S++[o])[S.length]? =some o:=by simp
theorem yLB(S:Sto)(o o':MO):(S++[o]).set S.length o'=S++[o']:=by simp
theorem yEX{gf:MV->Rho->Sto->R Rho}{b:Rho->Sto->R Fl}{gs:List (Nat×List MV)}{d:MV}{ds:List MV}{ρ ρ0:Rho}{S S0 S':Sto}{c:Str}{fs:List (Str×MV)}(hg:gf d ρ S=.ok ρ0 S0)(h:b ρ0 S0=.exc c fs S'):zBQ gf b gs (d::ds) ρ S=.exc c fs S':=by
 unfold zBQ
 rw [hg,bok,h]
 rfl
theorem zHY{F G:Rho->Sto->R Fl}{ρ:Rho}{S S':Sto}{c:Str}{fs:List (Str×MV)}(h:F ρ S=.exc c fs S'):zT F G ρ S=.exc c fs S':=by
 unfold zT
 rw [h]
 rfl
theorem dI{B L:Sto}{n i:Nat}(h:B.length=n):(B++L)[n+i]? =L[i]? :=by
 rw [getElem?_append_right (by omega),h,Nat.add_sub_cancel_left]
theorem yT{B L:Sto}{m:Nat}{o:MO}(h:B[m]? =some o):(B++L)[m]? =some o:=by
 rw [getElem?_append_left (gS0.mp h).1];exact h
abbrev NQ(k:Nat):List (Str×MV):=[("place",.int (k:Nat))]
theorem yEY{c:Str}{k:Nat}(h:k<=1000000)(S:Sto):raF c "place" (.val (.int (k:Nat))) S=.exc c (NQ k) S:=iP (show(k:Int).natAbs<BIG from Nat.lt_of_le_of_lt (by omega:(k:Int).natAbs<=1000000) (by decide+kernel))
theorem yEZ{n:Nat}{F:List MV->Sto->R Er}{rs:List Er}{S T:Sto}(hn:rs.length=n)(hF:F (zR rs S).1 (zR rs S).2=.ok (.val .non) (S++T)):kW n F rs S=.ok (.val .non) S:=by
 unfold kW
 rw [iP hn,hF]
 exact zNI (yBT _) (λl=>by simp)
theorem zSQ{n:Nat}{F:List MV->Sto->R Er}{rs:List Er}{S T:Sto}{c:Str}{k:Nat}(hn:rs.length=n)(hF:F (zR rs S).1 (zR rs S).2=.exc c (NQ k) (S++T)):kW n F rs S=.exc c (NQ k) S:=by
 unfold kW
 rw [iP hn,hF]
 show(if(NQ k).all (λp=>zLW p.2)=true then(cP S (.val .non) (S++T)).bind λ_ S3=>R.exc c (NQ k) S3 else .no)=_
 rw [iP (show(NQ k).all (λp=>zLW p.2)=true from rfl),zNI (yBT _) (λl=>by simp)]
 rfl
theorem yFA{gf:MV->Rho->Sto->R Rho}{B:Rho->Sto->R Fl}{gs:List (Nat×List MV)}{S:Sto}{r:Option MV->Option MV->Rho}(hg:stay gs S)(hf: ∀(n:Nat)(d:MV) p q,gf (.tup [.int (n:Nat),d]) (r p q) S=.ok (r (some (.int (n:Nat))) (some d)) S):
  ∀(L:List MV)(n:Nat),(∀d∈L, ∀k:Nat,B (r (some (.int (k:Nat))) (some d)) S=.ok (.next (r (some (.int (k:Nat))) (some d))) S)-> ∀(p q:Option MV), ∃p' q',zBQ gf B gs ((L.zipIdx n).map λp=>.tup [.int (p.2:Nat),p.1]) (r p q) S=.ok (.next (r p' q')) S
 |[],n,_,p,q=>⟨p,q,rfl⟩
 |d::L,n,h,p,q=>by
  obtain⟨p',q',ih⟩:=yFA hg hf L (n+1) (λe he=>h e (mO _ he)) (some (.int (n:Nat))) (some d)
  refine⟨p',q',?_⟩
  rw [zipIdx_cons,map_cons,bD (hf n d p q) (h d mF0 n) hg]
  exact ih
theorem zXG{gf:MV->Rho->Sto->R Rho}{B:Rho->Sto->R Fl}{gs:List (Nat×List MV)}{S:Sto}{r:Option MV->Option MV->Rho}{c:Str}{z:MV}{L2:List MV}(hg:stay gs S)(hf: ∀(n:Nat)(d:MV) p q,gf (.tup [.int (n:Nat),d]) (r p q) S=.ok (r (some (.int (n:Nat))) (some d)) S)
  (hz: ∀k:Nat,k<=1000->B (r (some (.int (k:Nat))) (some z)) S=.exc c (NQ k) S):
  ∀(L:List MV)(n:Nat),n+L.length<=1000->(∀d∈L, ∀k:Nat,B (r (some (.int (k:Nat))) (some d)) S=.ok (.next (r (some (.int (k:Nat))) (some d))) S)-> ∀(p q:Option MV),zBQ gf B gs (((L++z::L2).zipIdx n).map λp=>.tup [.int (p.2:Nat),p.1]) (r p q) S=.exc c (NQ (n+L.length)) S
 |[],n,hn,_,p,q=>by
  rw [nil_append,zipIdx_cons,map_cons]
  exact yEX (hf n z p q) (hz n hn)
 |d::L,n,hn,h,p,q=>by
  rw [lC0]at hn
  have ih:=zXG (L2:=L2) hg hf hz L (n+1) (by omega) (λe he=>h e (mO _ he)) (some (.int (n:Nat))) (some d)
  rw [cons_append,zipIdx_cons,map_cons,bD (hf n d p q) (h d mF0 n) hg,ih,lC0]
  rw [show n+1+L.length=n+(L.length+1) by omega]
section
variable{m b a c:MV}{S:Sto}{L:List MV}
def TbS(S:Sto)(k:Bool)(d:MV):Prop:=zO 1 nA [.val d] S=.ok (.val (.bl k)) S
def RuS(S:Sto)(m:MV)(k:Bool)(d:MV):Prop:=zO 2 zGI [.val d,.val m] S=.ok (.val (.bl k)) S
def RoS(S:Sto)(m:MV)(k:Bool)(d:MV):Prop:=zO 2 zJV [.val d,.val m] S=.ok (.val (.bl k)) S
theorem yOT{as bs cs:List MV}(ha:SqM S a as)(hb:SqM S b bs)(hc:SqM S c cs)(h1:as.length<=4)(h2:bs.length<=6)(h3:cs.length<=60):kW 3 bF [.val a,.val b,.val c] S=.ok (.val .non) S:=yEZ (T:=[]) rfl (by
 show yH (bE [some a,some b,some c] S)=_
 unfold bE zAT
 simp? [ha.len,hb.len,hc.len,gt_int,dF0 (show¬(4:Int)<as.length by omega),dF0 (show¬(6:Int)<bs.length by omega),dF0 (show¬(60:Int)<cs.length by omega),fT,iF,aN]
 rfl)
theorem yFB{n:Nat}{F:List MV->Sto->R Er}{rs:List Er}{S T:Sto}{c:Str}(hn:rs.length=n)(hF:F (zR rs S).1 (zR rs S).2=.exc c [] (S++T)):kW n F rs S=.exc c [] S:=by
 unfold kW
 rw [iP hn,hF]
 show(if([]:List (Str×MV)).all (λp=>zLW p.2)=true then(cP S (.val .non) (S++T)).bind λ_ S3=>R.exc c [] S3 else .no)=_
 rw [iP (show([]:List (Str×MV)).all (λp=>zLW p.2)=true from rfl),zNI (yBT _) (λl=>by simp)]
 rfl
theorem yOU{as bs cs:List MV}(ha:SqM S a as)(hb:SqM S b bs)(hc:SqM S c cs)(h:4<as.length\/6<bs.length\/60<cs.length):kW 3 bF [.val a,.val b,.val c] S=.exc "TooGreat" [] S:=yFB (T:=[]) rfl (by
 show yH (bE [some a,some b,some c] S)=_
 unfold bE zAT
 simp? [ha.len,hb.len,hc.len,gt_int]
 by_cases h1:4<as.length
 ·simp? [dT0 (show(4:Int)<as.length by omega),aN]
  rfl
 ·simp? [dF0 (show¬(4:Int)<as.length by omega),fT,iF]
  by_cases h2:6<bs.length
  ·simp? [dT0 (show(6:Int)<bs.length by omega),aN]
   rfl
  ·simp? [dF0 (show¬(6:Int)<bs.length by omega),fT,iF,dT0 (show(60:Int)<cs.length by omega),aN]
   rfl)
theorem yFC{d:MV}{k:Nat}(h:TbS S true d):xQ [some m,some (.int (k:Nat)),some d] S=.ok (.next [some m,some (.int (k:Nat)),some d]) S:=by
 unfold TbS at h
 unfold xQ bZ
 simp? [h,Bool.not_true,fT,iF]
theorem yTG{d:MV}{k:Nat}(hk:k<=1000)(h:TbS S false d):xQ [some m,some (.int (k:Nat)),some d] S=.exc "NoTable" (NQ k) S:=by
 unfold TbS at h
 unfold xQ bZ
 simp? [h,Bool.not_false,yEY (show k<=1000000 by omega)]
theorem yFD{d:MV}{k:Nat}(h:RuS S m true d):wA [some m,some b,some (.int (k:Nat)),some d] S=.ok (.next [some m,some b,some (.int (k:Nat)),some d]) S:=by
 unfold RuS at h
 unfold wA cZ
 simp? [h,Bool.not_true,fT,iF]
theorem yTH{d:MV}{k:Nat}(hk:k<=1000)(h:RuS S m false d):wA [some m,some b,some (.int (k:Nat)),some d] S=.exc "NoRule" (NQ k) S:=by
 unfold RuS at h
 unfold wA cZ
 simp? [h,Bool.not_false,yEY (show k<=1000000 by omega)]
theorem yFE{d:MV}{k:Nat}(h:RoS S m true d):wQ [some m,some b,some (.int (k:Nat)),some d,none] S=.ok (.next [some m,some b,some (.int (k:Nat)),some d,none]) S:=by
 unfold RoS at h
 unfold wQ nE
 simp? [h,Bool.not_true,fT,iF]
theorem yTI{d:MV}{k:Nat}(hk:k<=1000)(h:RoS S m false d):wQ [some m,some b,some (.int (k:Nat)),some d,none] S=.exc "NoRow" (NQ k) S:=by
 unfold RoS at h
 unfold wQ nE
 simp? [h,Bool.not_false,yEY (show k<=1000000 by omega)]
theorem ct_1(hm:SqM S m L)(h0:L≠[]):nB [some m,none,none] S=.ok (.next [some m,none,none]) S:=by
 have:L.length≠0:=λz=>h0 (List.length_eq_zero_iff.mp z)
 unfold nB
 simp? [hm.len,dF0 (show¬(L.length:Int)=0 by omega),fT,iF]
theorem yLC(hm:SqM S m L)(h0:L≠[])(h: ∀d∈L,TbS S true d):kW 1 gE [.val m] S=.ok (.val .non) S:=by
 obtain⟨gs,hit,hg,_⟩:=hm.src
 obtain⟨p',q',e⟩:=yFA (gf:=gTp 2 (zX (gNm 1) (zX (gNm 2) kR))) (B:=xQ) (r:=λp q=>[some m,p,q]) hg (λn d p q=>rfl) L 0 (λd hd k=>yFC (h d hd)) none none
 refine yEZ (T:=[]) rfl ?_
 show yH (gC [some m,none,none] S)=_
 unfold gC
 rw [zE (ct_1 hm h0)]
 have e2:kX [some m,none,none] S=.ok (.next [some m,p',q']) S:=by
  unfold kX
  simp? [hit]
  exact e
 rw [e2,aN]
 rfl
theorem yHJ{A B':List MV}{z:MV}(hm:SqM S m (A++z::B'))(hA:A.length<=1000)(h: ∀d∈A,TbS S true d)(hz:TbS S false z):kW 1 gE [.val m] S=.exc "NoTable" (NQ A.length) S:=by
 obtain⟨gs,hit,hg,_⟩:=hm.src
 have e:=zXG (gf:=gTp 2 (zX (gNm 1) (zX (gNm 2) kR))) (B:=xQ) (r:=λp q=>[some m,p,q]) (L2:=B') (c:="NoTable") hg (λn d p q=>rfl) (λk hk=>yTG hk hz) A 0 (by omega) (λd hd k=>yFC (h d hd)) none none
 rw [zero_add]at e
 refine zSQ (T:=[]) rfl ?_
 show yH (gC [some m,none,none] S)=_
 unfold gC
 rw [zE (ct_1 hm (by simp))]
 have e2:kX [some m,none,none] S=.exc "NoTable" (NQ A.length) S:=by
  unfold kX
  simp? [hit]
  exact e
 rw [e2,aN]
 rfl
theorem yOV(hb:SqM S b L)(h: ∀d∈L,RuS S m true d):kW 2 bH [.val m,.val b] S=.ok (.val .non) S:=by
 obtain⟨gs,hit,hg,_⟩:=hb.src
 obtain⟨p',q',e⟩:=yFA (gf:=gTp 2 (zX (gNm 2) (zX (gNm 3) kR))) (B:=wA) (r:=λp q=>[some m,some b,p,q]) hg (λn d p q=>rfl) L 0 (λd hd k=>yFD (h d hd)) none none
 refine yEZ (T:=[]) rfl ?_
 show yH (bG [some m,some b,none,none] S)=_
 unfold bG
 have e2:jS [some m,some b,none,none] S=.ok (.next [some m,some b,p',q']) S:=by
  unfold jS
  simp? [hit]
  exact e
 rw [e2,aN]
 rfl
theorem yLD{A B':List MV}{z:MV}(hb:SqM S b (A++z::B'))(hA:A.length<=1000)(h: ∀d∈A,RuS S m true d)(hz:RuS S m false z):kW 2 bH [.val m,.val b] S=.exc "NoRule" (NQ A.length) S:=by
 obtain⟨gs,hit,hg,_⟩:=hb.src
 have e:=zXG (gf:=gTp 2 (zX (gNm 2) (zX (gNm 3) kR))) (B:=wA) (r:=λp q=>[some m,some b,p,q]) (L2:=B') (c:="NoRule") hg (λn d p q=>rfl) (λk hk=>yTH hk hz) A 0 (by omega) (λd hd k=>yFD (h d hd)) none none
 rw [zero_add]at e
 refine zSQ (T:=[]) rfl ?_
 show yH (bG [some m,some b,none,none] S)=_
 unfold bG
 have e2:jS [some m,some b,none,none] S=.exc "NoRule" (NQ A.length) S:=by
  unfold jS
  simp? [hit]
  exact e
 rw [e2,aN]
 rfl
theorem yOW{A B':List MV}{z:MV}(hb:SqM S b (A++z::B'))(hA:A.length<=1000)(h: ∀d∈A,RoS S m true d)(hz:RoS S m false z):kW 2 dA [.val m,.val b] S=.exc "NoRow" (NQ A.length) S:=by
 obtain⟨gs,hit,hg,_⟩:=hb.src
 have e:=zXG (gf:=gTp 2 (zX (gNm 2) (zX (gNm 3) kR))) (B:=wQ) (r:=λp q=>[some m,some b,p,q,none]) (L2:=B') (c:="NoRow") hg (λn d p q=>rfl) (λk hk=>yTI hk hz) A 0 (by omega) (λd hd k=>yFE (h d hd)) none none
 rw [zero_add]at e
 refine zSQ (T:=[]) rfl ?_
 show yH (jK [some m,some b,none,none,none] S)=_
 unfold jK
 have e2:gF [some m,some b,none,none,none] S=.exc "NoRow" (NQ A.length) S:=by
  unfold gF
  simp? [hit]
  exact e
 rw [zHY e2,aN]
 rfl
end
noncomputable def zMH:List MV->List MV->Nat->Option Nat
 |_,[],_=>none
 |P,d::ds,n=>if d∈P then some n else zMH (P++[d]) ds (n+1)
def kv(P:List MV):List (MV×MV):=P.map λr=>(r,.bl true)
theorem zXH(d:MV): ∀P:List MV,(look (kv P) d).isSome=decide (d∈P)
 |[]=>by rw [dF0 (by simp)];rfl
 |e::P=>by
  show(look ((e,.bl true)::kv P) d).isSome=_
  rw [zUV]
  by_cases h:e=d
  ·rw [iP h,dT0 (by rw [h];exact mF0)];rfl
  ·rw [iN0 h,zXH d P]
   exact dec_is ⟨λz=>mO _ z,λz=>(mC.mp z).resolve_left λz=>h z.symm⟩
theorem yTJ{T:Sto}{l:Nat}{P:List MV}(hK: ∀d∈P,keyOk d=true)(hS:T[l]? =some (.dic (kv P))):zUW T (.val (.loc l))=some (l,kv P):=by
 unfold zUW
 dsimp only
 rw [hS]
 dsimp only
 rw [iP]
 rw [all_eq_true]
 intro p hp
 obtain⟨r,hr,rfl⟩:=mM0.mp hp
 have:=hK r hr
 unfold keyOk at this
 rw [aE]at this
 exact this.1
section
variable{ts rs:List MV}{a b m:MV}{S:Sto}
theorem yLE{gs:List (Nat×List MV)}(hs: ∀kvs,stay gs (S++[.dic kvs])): ∀(L:List MV)(n:Nat)(P:List MV),(∀d∈P++L,keyOk d=true)->n+L.length<=1000000->P.length+L.length<=1000-> ∀(p q:Option MV), ∃p' q' kvs,zBQ (gTp 2 (zX (gNm 2) (zX (gNm 3) kR))) kY gs ((L.zipIdx n).map λp=>.tup [.int (p.2:Nat),p.1]) [some m,some b,p,q,some (.loc S.length)] (S++[.dic (kv P)])=
   match zMH P L n with
   |none=>.ok (.next [some m,some b,p',q',some (.loc S.length)]) (S++[.dic kvs])
   |some k=>.exc "Twice" (NQ k) (S++[.dic kvs])
 |[],n,P,_,_,_,p,q=>⟨p,q,kv P,rfl⟩
 |d::L,n,P,hK,hn,hl,p,q=>by
  rw [lC0]at hn hl
  have g:gTp 2 (zX (gNm 2) (zX (gNm 3) kR)) (.tup [.int (n:Nat),d]) [some m,some b,p,q,some (.loc S.length)] (S++[.dic (kv P)])=.ok [some m,some b,some (.int (n:Nat)),some d,some (.loc S.length)] (S++[.dic (kv P)]):=rfl
  have hd:=yTJ (T:=S++[.dic (kv P)]) (l:=S.length) (P:=P) (λe he=>hK e (mem_append_left _ he)) (yEW _ _)
  have kd:keyOk d=true:=hK d (mem_append_right _ mF0)
  have hin:yGV false (.val d) (.val (.loc S.length)) (S++[.dic (kv P)])=.ok (.val (.bl (decide (d∈P)))) (S++[.dic (kv P)]):=by
   unfold yGV
   dsimp only
   rw [hd]
   dsimp only
   rw [iP kd,iN0 xF0,zXH]
  rw [zipIdx_cons,map_cons]
  unfold zMH
  by_cases hm:d∈P
  ·refine⟨none,none,kv P,?_⟩
   rw [iP hm]
   refine yEX g ?_
   unfold kY
   refine zHY ?_
   unfold gP
   simp? [hin,dT0 hm,yEY (show n<=1000000 by omega)]
  ·obtain⟨p',q',kvs,ih⟩:=yLE hs L (n+1) (P++[d]) (λe he=>hK e (by rw [aA]at he;exact he)) (by omega) (by rw [lA];show P.length+1+L.length<=1000;omega) (some (.int (n:Nat))) (some d)
   refine⟨p',q',kvs,?_⟩
   have hset: ∀ρ,zYY (.val (.loc S.length)) (.val d) (.bl true) ρ (S++[.dic (kv P)])=.ok ρ (S++[.dic (kv (P++[d]))]):=λρ=>by
    unfold zYY
    dsimp only
    rw [hd]
    dsimp only
    rw [iP ⟨kd,by unfold kv;rw [lM0];omega⟩]
    unfold putK
    rw [zXH,dF0 hm,iN0 xF0,yLB]
    unfold kv
    rw [map_append]
    rfl
   rw [iN0 hm,bD g (ρ':=[some m,some b,some (.int (n:Nat)),some d,some (.loc S.length)]) (S':=S++[.dic (kv (P++[d]))]) ?_ (hs _)]
   ·exact ih
   ·unfold kY
    rw [zE (show gP [some m,some b,some (.int (n:Nat)),some d,some (.loc S.length)] (S++[.dic (kv P)])=.ok (.next [some m,some b,some (.int (n:Nat)),some d,some (.loc S.length)]) (S++[.dic (kv P)]) by
     unfold gP
     simp? [hin,dF0 hm,fT,iF])]
    unfold zGJ
    simp? [zRA,hset]
end
section
variable{ts rs:List MV}{a b m:MV}{S:Sto}
theorem SqM.itEA{m:MV}{ds:List MV}(h:SqM S m ds): ∃gs,(∀kvs,stay gs (S++[MO.dic kvs]))/\ ∀kvs,M.itE [Er.val m] (S++[MO.dic kvs])=R.ok ⟨zSD ds,gs⟩ (S++[MO.dic kvs]):=by
 rcases h with rfl|⟨l,rfl,hS⟩
 ·exact⟨[],λ_=>kU _,λ_=>rfl⟩
 ·have g: ∀kvs,(S++[MO.dic kvs])[l]? =some (.lst ds):=λkvs=>yT hS
  refine⟨[(l,ds)],λkvs=>?_,λkvs=>?_⟩
  ·intro p hp
   rw [mS.mp hp]
   exact g kvs
  ·have e:srcOf (S++[MO.dic kvs]) (.val (.loc l))=some ⟨true,ds,[(l,ds)]⟩:=by
    unfold srcOf
    dsimp only
    rw [g kvs]
   unfold L2.M.itE
   dsimp only
   rw [e]
end
theorem zZN: ∀{L P:List MV}{n:Nat},(P++L).Nodup->zMH P L n=none
 |[],P,n,_=>rfl
 |d::L,P,n,h=>by
  unfold zMH
  have hd:d∉P:=λz=>by
   rw [nodup_append]at h
   exact h.2.2 d z d mF0 rfl
  rw [iN0 hd]
  exact zZN (by rw [aA];exact h)
theorem yLF: ∀{A P B':List MV}{d:MV}{n:Nat},(P++A).Nodup->d∈P++A->zMH P (A++d::B') n=some (n+A.length)
 |[],P,B',d,n,_,hd=>by
  rw [aN]at hd
  show zMH P (d::B') n=_
  unfold zMH
  rw [iP hd]
  rfl
 |e::A,P,B',d,n,h,hd=>by
  show zMH P (e::(A++d::B')) n=_
  unfold zMH
  have he:e∉P:=λz=>by
   rw [nodup_append]at h
   exact h.2.2 e z e mF0 rfl
  rw [iN0 he,yLF (P:=P++[e]) (by rw [aA];exact h) (by rw [aA];exact hd),lC0]
  congr 1
  omega
section
variable{m b:MV}{S:Sto}{L:List MV}
theorem yTK(hb:SqM S b L)(hl:L.length<=900)(h: ∀d∈L,RoS S m true d)(hK: ∀d∈L,keyOk d=true):kW 2 dA [.val m,.val b] S=match zMH [] L 0 with
   |none=>.ok (.val .non) S
   |some k=>.exc "Twice" (NQ k) S:=by
 obtain⟨gs,hit,hg,_⟩:=hb.src
 obtain⟨p',q',e⟩:=yFA (gf:=gTp 2 (zX (gNm 2) (zX (gNm 3) kR))) (B:=wQ) (r:=λp q=>[some m,some b,p,q,none]) hg (λn d p q=>rfl) L 0 (λd hd k=>yFE (h d hd)) none none
 have e1:gF [some m,some b,none,none,none] S=.ok (.next [some m,some b,p',q',none]) S:=by
  unfold gF
  simp? [hit]
  exact e
 obtain⟨gs2,hg2,hit2⟩:=hb.itEA
 obtain⟨p2,q2,kvs,hlp2⟩:=yLE (S:=S) (m:=m) (b:=b) hg2 L 0 [] hK (by omega) (by rw [length_nil];omega) p' q'
 have e2:zCQ [some m,some b,p',q',none] S=.ok (.next [some m,some b,p',q',some (.loc S.length)]) (S++[.dic (kv [])]):=by
  unfold zCQ
  simp? [show yJW S=.ok (.val (.loc S.length)) (S++[.dic []])from rfl]
  rfl
 have e3:zCR [some m,some b,p',q',some (.loc S.length)] (S++[.dic (kv [])])=zBQ (gTp 2 (zX (gNm 2) (zX (gNm 3) kR))) kY gs2 (zSD L) [some m,some b,p',q',some (.loc S.length)] (S++[.dic (kv [])]):=by
  unfold zCR
  simp? [hit2]
 rw [show zBQ (gTp 2 (zX (gNm 2) (zX (gNm 3) kR))) kY gs2 (zSD L) [some m,some b,p',q',some (.loc S.length)] (S++[.dic (kv [])])=_ from hlp2]at e3
 cases hd:zMH [] L 0 with
 |some k=>
  rw [hd]at e3
  refine zSQ (T:=[.dic kvs]) rfl ?_
  show yH (jK [some m,some b,none,none,none] S)=_
  unfold jK
  rw [zE e1,zE e2,e3]
  rfl
 |none=>
  rw [hd]at e3
  refine yEZ (T:=[.dic kvs]) rfl ?_
  show yH (jK [some m,some b,none,none,none] S)=_
  unfold jK
  rw [zE e1,zE e2,e3]
  rfl
end
section
variable{a b c:MV}{S:Sto}{as bs cs:List MV}
theorem yFF(ha:SqM S a as)(hb:SqM S b bs)(hc:SqM S c cs)(h1:as.length<=4)(h2:bs.length<=6)(h3:cs.length<=60):zAI [some a,some b,some c] S=.ok (.next [some a,some b,some c]) S:=by
 unfold zAI
 simp? [yOT ha hb hc h1 h2 h3]
theorem yLG(ha:SqM S a as)(h0:as≠[])(hT: ∀d∈as,TbS S true d):zAJ [some a,some b,some c] S=.ok (.next [some a,some b,some c]) S:=by
 unfold zAJ
 simp? [yLC ha h0 hT]
theorem yPV(hb:SqM S b bs)(hR: ∀d∈bs,RuS S a true d):zAK [some a,some b,some c] S=.ok (.next [some a,some b,some c]) S:=by
 unfold zAK
 simp? [yOV hb hR]
theorem yLH(ha:SqM S a as)(hb:SqM S b bs)(hc:SqM S c cs)(h:4<as.length\/6<bs.length\/60<cs.length):xR [a,b,c] S=.exc "TooGreat" [] S:=by
 show yH (kZ [some a,some b,some c] S)=_
 unfold kZ
 rw [zHY (show zAI [some a,some b,some c] S=.exc "TooGreat" [] S by
  unfold zAI
  simp? [yOU ha hb hc h]
  rfl)]
 rfl
theorem yLI{A B':List MV}{z:MV}(ha:SqM S a (A++z::B'))(hb:SqM S b bs)(hc:SqM S c cs)(h1:(A++z::B').length<=4)(h2:bs.length<=6)(h3:cs.length<=60)(hT: ∀d∈A,TbS S true d)(hz:TbS S false z):xR [a,b,c] S=.exc "NoTable" (NQ A.length) S:=by
 show yH (kZ [some a,some b,some c] S)=_
 unfold kZ
 rw [zE (yFF ha hb hc h1 h2 h3),zHY (show zAJ [some a,some b,some c] S=.exc "NoTable" (NQ A.length) S by
  unfold zAJ
  simp? [yHJ ha (by rw [lA]at h1;omega) hT hz]
  rfl)]
 rfl
theorem yOX{A B':List MV}{z:MV}(ha:SqM S a as)(hb:SqM S b (A++z::B'))(hc:SqM S c cs)(h1:as.length<=4)(h2:(A++z::B').length<=6)(h3:cs.length<=60)(h0:as≠[])(hT: ∀d∈as,TbS S true d)(hR: ∀d∈A,RuS S a true d)(hz:RuS S a false z):xR [a,b,c] S=.exc "NoRule" (NQ A.length) S:=by
 show yH (kZ [some a,some b,some c] S)=_
 unfold kZ
 rw [zE (yFF ha hb hc h1 h2 h3),zE (yLG ha h0 hT),zHY (show zAK [some a,some b,some c] S=.exc "NoRule" (NQ A.length) S by
  unfold zAK
  simp? [yLD hb (by rw [lA]at h2;omega) hR hz]
  rfl)]
 rfl
theorem yTL{A B':List MV}{z:MV}(ha:SqM S a as)(hb:SqM S b bs)(hc:SqM S c (A++z::B'))(h1:as.length<=4)(h2:bs.length<=6)(h3:(A++z::B').length<=60)(h0:as≠[])(hT: ∀d∈as,TbS S true d)(hR: ∀d∈bs,RuS S a true d)(hA: ∀d∈A,RoS S a true d)(hz:RoS S a false z):xR [a,b,c] S=.exc "NoRow" (NQ A.length) S:=by
 show yH (kZ [some a,some b,some c] S)=_
 unfold kZ
 rw [zE (yFF ha hb hc h1 h2 h3),zE (yLG ha h0 hT),zE (yPV hb hR),zHY (show gG [some a,some b,some c] S=.exc "NoRow" (NQ A.length) S by
  unfold gG
  simp? [yOW hc (by rw [lA]at h3;omega) hA hz]
  rfl)]
 rfl
theorem yFG(ha:SqM S a as)(hb:SqM S b bs)(hc:SqM S c cs)(h1:as.length<=4)(h2:bs.length<=6)(h3:cs.length<=60)(h0:as≠[])(hT: ∀d∈as,TbS S true d)(hR: ∀d∈bs,RuS S a true d)(hA: ∀d∈cs,RoS S a true d)(hK: ∀d∈cs,keyOk d=true):xR [a,b,c] S=match zMH [] cs 0 with
   |none=>.ok (.val (.tup [.tup as,.tup bs,.tup cs])) S
   |some k=>.exc "Twice" (NQ k) S:=by
 have x4:=yTK (m:=a) hc (by omega) hA hK
 show yH (kZ [some a,some b,some c] S)=_
 unfold kZ
 rw [zE (yFF ha hb hc h1 h2 h3),zE (yLG ha h0 hT),zE (yPV hb hR)]
 cases hd:zMH [] cs 0 with
 |some k=>
  rw [hd]at x4
  rw [zHY (show gG [some a,some b,some c] S=.exc "Twice" (NQ k) S by
   unfold gG
   simp? [x4]
   rfl)]
  rfl
 |none=>
  rw [hd]at x4
  have e4:gG [some a,some b,some c] S=.ok (.next [some a,some b,some c]) S:=by
   unfold gG
   simp? [x4]
  have tp: ∀{m:MV}{ds:List MV},SqM S m ds->gY [.val m] S=.ok (.val (.tup ds)) S:=λh=>by
   rcases h with rfl|⟨l,rfl,hS⟩
   ·rfl
   ·exact zGM hS
  have e5:zJW [some a,some b,some c] S=.ok (.ret (.val (.tup [.tup as,.tup bs,.tup cs]))) S:=by
   unfold zJW
   simp? [tp ha,tp hb,tp hc]
  rw [zE e4,e5]
  rfl
end
mutual
def pq:MV->Bool
 |.int _=>true
 |.str x=>decide (x.length<=1000)
 |.bl _=>true
 |.non=>true
 |.tup ds=>pqL ds&&decide (ds.length<=1000)
 |_=>false
def pqL:List MV->Bool
 |[]=>true
 |d::ds=>pq d&&pqL ds
end
theorem yTM(i:Int):pq (.int i)=true:=by rw [pq]
theorem yPW(i:Bool):pq (.bl i)=true:=by rw [pq]
theorem yTN{x:List Nat}(h:x.length<=1000):pq (.str x)=true:=by rw [pq];exact dT0 h
theorem yFH(ds:List MV):pq (.tup ds)=(pqL ds&&decide (ds.length<=1000)):=by rw [pq]
theorem yOY:pqL []=true:=by rw [pqL]
theorem zZO(d:MV)(ds:List MV):pqL (d::ds)=(pq d&&pqL ds):=by rw [pqL]
theorem yFI: ∀{ds:List MV},(∀d∈ds,pq d=true)->pqL ds=true
 |[],_=>yOY
 |d::ds,h=>by rw [zZO,h d mF0,yFI λe he=>h e (mO _ he)];rfl
theorem yFJ: ∀{ds:List MV},pqL ds=true-> ∀d∈ds,pq d=true
 |[],_,d,h=>by simp at h
 |e::ds,hp,d,h=>by
  rw [zZO,aE]at hp
  rcases mC.mp h with rfl|h
  ·exact hp.1
  ·exact yFJ hp.2 d h
theorem yTO{ds:List MV}(h: ∀d∈ds,pq d=true)(hl:ds.length<=1000):pq (.tup ds)=true:=by rw [yFH,yFI h,dT0 hl];rfl
theorem yLJ{d:MV}(h:pq d=true):(∃i,d=.int i)\/(∃x,d=.str x/\x.length<=1000)\/(∃b,d=.bl b)\/d=.non\/ ∃ds,d=.tup ds/\(∀e∈ds,pq e=true)/\ds.length<=1000:=by
 cases d with
 |int i=>exact .inl ⟨i,rfl⟩
 |str x=>rw [pq]at h;exact .inr (.inl ⟨x,rfl,of_decide_eq_true h⟩)
 |bl b=>exact .inr (.inr (.inl ⟨b,rfl⟩))
 |non=>exact .inr (.inr (.inr (.inl rfl)))
 |tup ds=>
  rw [yFH,aE]at h
  exact .inr (.inr (.inr (.inr ⟨ds,rfl,yFJ h.1,of_decide_eq_true h.2⟩)))
 |_=>rw [pq]at h<;>first |cases h|(intros;simp)
theorem zNU{e:MV->MV->Option Bool}: ∀{ds:List MV},(∀d∈ds,e d d=some true)->prs e ds ds=some (ds.map λ_=>true)
 |[],_=>rfl
 |d::ds,h=>by
  unfold prs
  rw [h d mF0,zNU λa ha=>h a (mO _ ha)]
  rfl
theorem zPA(ds:List MV):(ds.map λ_=>true).all id=true:=by
 rw [all_eq_true]
 intro b hb
 obtain⟨_,_,rfl⟩:=mM0.mp hb
 rfl
theorem eqv_refl{S:Sto}: ∀(n:Nat){d:MV},pq d=true->dpt d<n->eqv S n d d=some true
 |0,d,_,h=>by omega
 |n+1,d,hd,h=>by
  rcases yLJ hd with⟨i,rfl⟩|⟨x,rfl,_⟩|⟨b,rfl⟩|rfl|⟨ds,rfl,hp,_⟩
  ·rw [zQP,dT0 rfl]
  ·rw [zQQ,dT0 rfl]
  ·rw [ySI,beq_self_eq_true]
  ·rfl
  ·rw [kI]at h
   show((prs (eqv S n) ds ds).map λbs=>bs.all id&&ds.length==ds.length)=_
   rw [zNU λd hd=>eqv_refl n (hp d hd) (by have:=zNS d hd;omega)]
   show some ((ds.map λ_=>true).all id&&ds.length==ds.length)=_
   rw [zPA,beq_self_eq_true]
   rfl
theorem lst4(a b c d:MV)(S:Sto):gX [.val a,.val b,.val c,.val d] S=.ok (.new [a,b,c,d]) S:=zJB (by simp)
theorem yCL{S:Sto}{u n k:Nat}{ds:List MV}(hu:S[u]? =some (.lst ds))(hn:S[n]? =some (.lst ds))(hp: ∀d∈ds,pq d=true/\dpt d<k):eqv S (k+1) (.loc u) (.loc n)=some true:=by
 have e: ∀l,S[l]? =some (.lst ds)->vwE S (.val (.loc l))=some (.ls ds):=λl h=>by
  show(dQ S (.val (.loc l))).map Vw.ls=_
  rw [cR h];rfl
 unfold eqv
 rw [e u hu,e n hn]
 show(if ds.length=ds.length then(prs (eqv S k) ds ds).map λbs=>bs.all id else some false)=_
 rw [iP rfl,zNU λd hd=>eqv_refl k (hp d hd).1 (hp d hd).2]
 show some ((ds.map λ_=>true).all id)=_
 rw [zPA]
theorem yLK{S:Sto}{n:Nat}{c:Str}{fs:List (Str×MV)}(h:S[n]? =some (.ins c fs))(hc:c∈XNS)(c2:Str):zIO XNS c2 (.val (.loc n)) S=.ok (.val (.bl (decide (c=c2)))) S:=by
 unfold zIO
 dsimp only
 rw [h]
 dsimp only
 rw [iP hc]
theorem yLL{S:Sto}{n:Nat}{c:Str}{fs:List (Str×MV)}(h:S[n]? =some (.ins c fs))(hc:c∈XNS):yKA XNS (.val (.loc n)) S=.ok (.val (.bl true)) S:=by
 unfold yKA
 dsimp only
 rw [h]
 dsimp only
 rw [iP hc]
theorem yTP{S:Sto}{n k:Nat}{c:Str}(h:S[n]? =some (.ins c (NQ k)))(hc:c∈XNS):yKI XNS "place" (.val (.loc n)) S=.ok (.val (.int (k:Nat))) S:=by
 unfold yKI
 dsimp only
 rw [h]
 dsimp only
 rw [iP hc]
 rfl
theorem yLM{n:Nat}{F:List MV->Sto->R Er}{rs:List Er}{S T:Sto}{l:Nat}{ds:List MV}{as:List MV}(hn:rs.length=n)(hE:zR rs S=(as,S))(hF:F as S=.ok (.val (.loc l)) (S++T))(h1:S.length<=l)(h2:(S++T)[l]? =some (.lst ds))(h:loL S.length ds):zO n F rs S=.ok (.new ds) S:=by
 have hF':F (zR rs S).1 (zR rs S).2=.ok (.val (.loc l)) (S++T):=by rw [hE];exact hF
 exact yJR hn hF' h1 h2 h
abbrev bq(c x:Str):MV:=.bl (decide (c=x))
abbrev K4(c:Str):List MV:=[bq c "TooGreat",bq c "NoTable",bq c "NoRule",bq c "NoRow"]
abbrev K8(c:Str):List MV:=[bq c "Twice",bq c "NoText",bq c "NoPlace",bq c "NotPlain"]
abbrev K12(c:Str):List MV:=[bq c "NoQuestion",bq c "Double",bq c "TooWide",bq c "Ring"]
abbrev KL(c:Str):List MV:=K4 c++K8 c++K12 c
theorem zZP{S:Sto}{n:Nat}{c:Str}{fs:List (Str×MV)}(h:S[n]? =some (.ins c fs))(hc:c∈XNS):zO 1 dH [.val (.loc n)] S=.ok (.new (KL c)) S:=by
 have H: ∀(L:Sto)(c2:Str),zIO XNS c2 (.val (.loc n)) (S++L)=.ok (.val (.bl (decide (c=c2)))) (S++L):=λL c2=>yLK (yT h) hc c2
 have H0: ∀c2:Str,zIO XNS c2 (.val (.loc n)) S=.ok (.val (.bl (decide (c=c2)))) S:=λc2=>yLK h hc c2
 have l1: ∀a,(S++[a]).length=S.length+1:=λa=>by rw [lA];rfl
 have l2: ∀a b,(S++[a,b]).length=S.length+2:=λa b=>by rw [lA];rfl
 have e1:zDB [some (.loc n),none] S=.ok (.next [some (.loc n),some (.loc S.length)]) (S++[.lst (K4 c)]):=by
  unfold zDB
  simp? [H0,lst4]
 have a2:wO (.val (.loc S.length)) (.new (K8 c)) (S++[.lst (K4 c)])=.ok (.new (K4 c++K8 c)) (S++[.lst (K4 c)]):=zEI (zWQ (yEW _ _)) rfl (fits (show 4+4<=1000000 by decide))
 have e2:zDC [some (.loc n),some (.loc S.length)] (S++[.lst (K4 c)])=.ok (.next [some (.loc n),some (.loc (S.length+1))]) (S++[.lst (K4 c),.lst (K4 c++K8 c)]):=by
  unfold zDC
  simp? [H,lst4,a2,l1,aA]
  rfl
 have a3:wO (.val (.loc (S.length+1))) (.new (K12 c)) (S++[.lst (K4 c),.lst (K4 c++K8 c)])=.ok (.new (KL c)) (S++[.lst (K4 c),.lst (K4 c++K8 c)]):=zEI (zWQ (yTF _ _ _)) rfl (fits (show 8+4<=1000000 by decide))
 have e3:zDD [some (.loc n),some (.loc (S.length+1))] (S++[.lst (K4 c),.lst (K4 c++K8 c)])=.ok (.next [some (.loc n),some (.loc (S.length+2))]) (S++[.lst (K4 c),.lst (K4 c++K8 c),.lst (KL c)]):=by
  unfold zDD
  simp? [H,lst4,a3,l2]
  rw [aA]
  rfl
 have e4: ∀T,zJZ [some (.loc n),some (.loc (S.length+2))] T=.ok (.ret (.val (.loc (S.length+2)))) T:=λT=>rfl
 refine yLM (T:=[.lst (K4 c),.lst (K4 c++K8 c),.lst (KL c)]) (l:=S.length+2) (as:=[.loc n]) rfl rfl ?_ (by omega) (dI (i:=2) rfl) (xP λe he=>?_)
 ·show yH (zHT [some (.loc n),none] S)=_
  unfold zHT
  rw [zE e1,zE e2,zE e3,e4]
  rfl
 ·simp only [KL,K4,K8,K12,cons_append,nil_append,mC,nM0,or_false]at he
  rcases he with rfl|rfl|rfl|rfl|rfl|rfl|rfl|rfl|rfl|rfl|rfl|rfl<;>exact zYU _ _
theorem yPX{S:Sto}{l:Nat}{ds:List MV}(hl:S[l]? =some (.lst ds))(hd: ∀d∈ds,pq d=true/\dpt d<40):neF (.val (.loc l)) (.new ds) S=.ok (.val (.bl false)) S:=by
 have e:vwE S (.val (.loc l))=some (.ls ds):=by
  show(dQ S (.val (.loc l))).map Vw.ls=_
  rw [cR hl];rfl
 have q:zLU S yO (.val (.loc l)) (.new ds)=some true:=by
  unfold zLU
  rw [e]
  show(if ds.length=ds.length then(prs (eqv S 40) ds ds).map λbs=>bs.all id else some false)=_
  rw [iP rfl,zNU λd hd'=>eqv_refl 40 (hd d hd').1 (hd d hd').2]
  show some ((ds.map λ_=>true).all id)=_
  rw [zPA]
 unfold neF
 rw [q]
 rfl
abbrev WL(w:Int):List MV:=(List.range 12).map λk=>.bl (decide (((k:Nat):Int)=w))
section
variable{p u v x k:Nat}{w:Int}{cl:Str}{S:Sto}
theorem zRD(hp:S[p]? =some (.lst [.loc u,.loc v,.loc x]))(hc:cl∈XNS)(hkl:KL cl=WL w)(hw:0<w)(hb:xR [.loc u,.loc v,.loc x] (S++[.lst []])=.exc cl (NQ k) (S++[.lst []])):
  zO 3 jF [.val (.loc p),.val (.int w),.val (.int (k:Nat))] S=.ok (.val (.bl true)) S:=by
 have w0:decide (0<w)=true:=dT0 hw
 have w1:decide (w=0)=false:=dF0 (by omega)
 have l1:(S++[MO.lst []]).length=S.length+1:=by rw [lA];rfl
 have l2: ∀a,(S++[MO.lst [],a]).length=S.length+2:=λa=>by rw [lA];rfl
 have bk:kW 3 xR [.val (.loc u),.val (.loc v),.val (.loc x)] (S++[.lst []])=.exc cl (NQ k) (S++[.lst []]):=zSQ (T:=[]) rfl (by rw [aN];exact hb)
 have e1:jB [some (.loc p),some (.int w),some (.int (k:Nat)),none,none,none] S=.ok (.next [some (.loc p),some (.int w),some (.int (k:Nat)),some (.loc S.length),none,none]) (S++[.lst []]):=by
  unfold jB
  simp? [bok]
 have e2:nM [some (.loc p),some (.int w),some (.int (k:Nat)),some (.loc S.length),none,none] (S++[.lst []])=.ok (.next [some (.loc p),some (.int w),some (.int (k:Nat)),some (.loc S.length),some .non,none]) (S++[.lst []]):=rfl
 have gi:(S++[MO.lst [],.ins cl (NQ k)])[S.length+1]? =some (.ins cl (NQ k)):=dI (i:=1) rfl
 have ad:wO (.new (KL cl)) (.new [.bl true]) (S++[.lst [],.ins cl (NQ k)])=.ok (.new (KL cl++[.bl true])) (S++[.lst [],.ins cl (NQ k)]):=zEI rfl rfl (fits (show 12+1<=1000000 by decide))
 have h1:wT [some (.loc p),some (.int w),some (.int (k:Nat)),some (.loc S.length),some .non,some (.loc (S.length+1))] (S++[.lst [],.ins cl (NQ k)])=.ok (.next [some (.loc p),some (.int w),some (.int (k:Nat)),some (.loc (S.length+2)),some .non,some (.loc (S.length+1))]) (S++[.lst [],.ins cl (NQ k),.lst (KL cl++[.bl true])]):=by
  unfold wT
  simp? [zZP gi hc,yLL gi hc,ad,l2]
  rw [aA]
  rfl
 generalize hS:S++[.lst [],.ins cl (NQ k),.lst (KL cl++[.bl true])]=S3 at h1
 have gi3:S3[S.length+1]? =some (.ins cl (NQ k)):=by rw [<-hS];exact dI (i:=1) rfl
 have gl3:S3[S.length+2]? =some (.lst (KL cl++[.bl true])):=by rw [<-hS];exact dI (i:=2) rfl
 have h2:wU [some (.loc p),some (.int w),some (.int (k:Nat)),some (.loc (S.length+2)),some .non,some (.loc (S.length+1))] S3=.ok (.next [some (.loc p),some (.int w),some (.int (k:Nat)),some (.loc (S.length+2)),some (.int (k:Nat)),some (.loc (S.length+1))]) S3:=by
  unfold wU
  simp? [gt_int,w0,yTP gi3 hc]
 have hh:jA [some (.loc p),some (.int w),some (.int (k:Nat)),some (.loc S.length),some .non,some (.loc (S.length+1))] (S++[.lst [],.ins cl (NQ k)])=.ok (.next [some (.loc p),some (.int w),some (.int (k:Nat)),some (.loc (S.length+2)),some (.int (k:Nat)),some (.loc (S.length+1))]) S3:=by
  unfold jA
  rw [zE h1,h2]
 have e3:jC [some (.loc p),some (.int w),some (.int (k:Nat)),some (.loc S.length),some .non,none] (S++[.lst []])=.ok (.next [some (.loc p),some (.int w),some (.int (k:Nat)),some (.loc (S.length+2)),some (.int (k:Nat)),none]) S3:=by
  unfold jC
  have j0:ixF (.val (.loc p)) (.val (.int 0)) (S++[.lst []])=.ok (.val (.loc u)) (S++[.lst []]):=kK (yT hp) rfl
  have j1:ixF (.val (.loc p)) (.val (.int 1)) (S++[.lst []])=.ok (.val (.loc v)) (S++[.lst []]):=kK (yT hp) rfl
  have j2:ixF (.val (.loc p)) (.val (.int 2)) (S++[.lst []])=.ok (.val (.loc x)) (S++[.lst []]):=kK (yT hp) rfl
  simp? [j0,j1,j2,wN,bk]
  unfold yBX
  dsimp only
  rw [iP hc,l1,aA]
  rw [show [MO.lst []]++[MO.ins cl (NQ k)]=[.lst [],.ins cl (NQ k)]from rfl]
  simp only [set_cons_zero,set_cons_succ]
  rw [hh]
  rfl
 have hcm:xX (gNm 0) cA wV [none,some (.int w)] [] ((List.range 12).map λk=>MV.int (k:Nat)) S3=.ok (WL w) S3:=by
  rw [gA (F:=λd=>match d with |.int i=>.bl (decide (i=w))|_=>.non) (kU _) λd hd=>by
   obtain⟨i,_,rfl⟩:=mM0.mp hd
   refine⟨[some (.int (i:Nat)),some (.int w)],rfl,rfl,?_⟩
   unfold wV
   simp? [bok],map_map]
  rfl
 have ad2:wO (.new (WL w)) (.new [.bl true]) S3=.ok (.new (WL w++[.bl true])) S3:=zEI rfl rfl (fits (show 12+1<=1000000 by decide))
 rw [hkl]at gl3
 have nn:=yPX gl3 λd hd=>by
  have: ∃b,d=.bl b:=by
   rcases mem_append.mp hd with hd|hd
   ·obtain⟨i,_,rfl⟩:=mM0.mp hd;exact⟨_,rfl⟩
   ·rw [mS.mp hd];exact⟨_,rfl⟩
  obtain⟨b,rfl⟩:=this
  exact⟨yPW b,by simp [dpt]⟩
 have e4:jD [some (.loc p),some (.int w),some (.int (k:Nat)),some (.loc (S.length+2)),some (.int (k:Nat)),none] S3=.ok (.next [some (.loc p),some (.int w),some (.int (k:Nat)),some (.loc (S.length+2)),some (.int (k:Nat)),none]) S3:=by
  unfold jD
  simp? [zAR (S:=S3) (j:=12) (by omega),show(12:Int).toNat=12 from rfl,lM0,length_range,show((12:Nat)<1000000)=True from by simp,show blk 1 [1] [some (.loc p),some (.int w),some (.int (k:Nat)),some (.loc (S.length+2)),some (.int (k:Nat)),none]=[none,some (.int w)]from rfl,hcm,ad2,nn,fT,iF]
 have e5:jE [some (.loc p),some (.int w),some (.int (k:Nat)),some (.loc (S.length+2)),some (.int (k:Nat)),none] S3=.ok (.ret (.val (.bl true))) S3:=by
  unfold jE
  simp? [w1,orF,fT,iF,yCK,zFW,Bool.not_false,decide_true]
 refine zAE (T:=[.lst [],.ins cl (NQ k),.lst (KL cl++[.bl true])]) rfl ?_ (zYU _ _) (λl=>by simp)
 show yH (gI [some (.loc p),some (.int w),some (.int (k:Nat)),none,none,none] S)=_
 unfold gI
 rw [zE e1,zE e2,zE e3,zE e4,e5,hS]
 rfl
end
section
variable{p u v x k:Nat}{S:Sto}
theorem yHK(hp:S[p]? =some (.lst [.loc u,.loc v,.loc x]))(hb:xR [.loc u,.loc v,.loc x] (S++[.lst []])=.exc "TooGreat" [] (S++[.lst []])):
  zO 3 jF [.val (.loc p),.val (.int 0),.val (.int (k:Nat))] S=.ok (.val (.bl true)) S:=by
 have hc:("TooGreat":Str)∈XNS:=by decide
 have hkl:KL "TooGreat"=WL 0:=rfl
 have w0:decide ((0:Int)<0)=false:=rfl
 have w1:decide ((0:Int)=0)=true:=rfl
 have l1:(S++[MO.lst []]).length=S.length+1:=by rw [lA];rfl
 have l2: ∀a,(S++[MO.lst [],a]).length=S.length+2:=λa=>by rw [lA];rfl
 have bk:kW 3 xR [.val (.loc u),.val (.loc v),.val (.loc x)] (S++[.lst []])=.exc "TooGreat" [] (S++[.lst []]):=yFB (T:=[]) rfl (by rw [aN];exact hb)
 have e1:jB [some (.loc p),some (.int 0),some (.int (k:Nat)),none,none,none] S=.ok (.next [some (.loc p),some (.int 0),some (.int (k:Nat)),some (.loc S.length),none,none]) (S++[.lst []]):=by
  unfold jB
  simp? [bok]
 have e2:nM [some (.loc p),some (.int 0),some (.int (k:Nat)),some (.loc S.length),none,none] (S++[.lst []])=.ok (.next [some (.loc p),some (.int 0),some (.int (k:Nat)),some (.loc S.length),some .non,none]) (S++[.lst []]):=rfl
 have gi:(S++[MO.lst [],.ins "TooGreat" []])[S.length+1]? =some (.ins "TooGreat" []):=dI (i:=1) rfl
 have ad:wO (.new (KL "TooGreat")) (.new [.bl true]) (S++[.lst [],.ins "TooGreat" []])=.ok (.new (KL "TooGreat"++[.bl true])) (S++[.lst [],.ins "TooGreat" []]):=zEI rfl rfl (fits (show 12+1<=1000000 by decide))
 have h1:wT [some (.loc p),some (.int 0),some (.int (k:Nat)),some (.loc S.length),some .non,some (.loc (S.length+1))] (S++[.lst [],.ins "TooGreat" []])=.ok (.next [some (.loc p),some (.int 0),some (.int (k:Nat)),some (.loc (S.length+2)),some .non,some (.loc (S.length+1))]) (S++[.lst [],.ins "TooGreat" [],.lst (KL "TooGreat"++[.bl true])]):=by
  unfold wT
  simp? [zZP gi hc,yLL gi hc,ad,l2]
  rw [aA]
  rfl
 generalize hS:S++[.lst [],.ins "TooGreat" [],.lst (KL "TooGreat"++[.bl true])]=S3 at h1
 have gi3:S3[S.length+1]? =some (.ins "TooGreat" []):=by rw [<-hS];exact dI (i:=1) rfl
 have gl3:S3[S.length+2]? =some (.lst (KL "TooGreat"++[.bl true])):=by rw [<-hS];exact dI (i:=2) rfl
 have h2:wU [some (.loc p),some (.int 0),some (.int (k:Nat)),some (.loc (S.length+2)),some .non,some (.loc (S.length+1))] S3=.ok (.next [some (.loc p),some (.int 0),some (.int (k:Nat)),some (.loc (S.length+2)),some .non,some (.loc (S.length+1))]) S3:=by
  unfold wU
  simp? [gt_int,w0,fT,iF]
 have hh:jA [some (.loc p),some (.int 0),some (.int (k:Nat)),some (.loc S.length),some .non,some (.loc (S.length+1))] (S++[.lst [],.ins "TooGreat" []])=.ok (.next [some (.loc p),some (.int 0),some (.int (k:Nat)),some (.loc (S.length+2)),some .non,some (.loc (S.length+1))]) S3:=by
  unfold jA
  rw [zE h1,h2]
 have e3:jC [some (.loc p),some (.int 0),some (.int (k:Nat)),some (.loc S.length),some .non,none] (S++[.lst []])=.ok (.next [some (.loc p),some (.int 0),some (.int (k:Nat)),some (.loc (S.length+2)),some .non,none]) S3:=by
  unfold jC
  have j0:ixF (.val (.loc p)) (.val (.int 0)) (S++[.lst []])=.ok (.val (.loc u)) (S++[.lst []]):=kK (yT hp) rfl
  have j1:ixF (.val (.loc p)) (.val (.int 1)) (S++[.lst []])=.ok (.val (.loc v)) (S++[.lst []]):=kK (yT hp) rfl
  have j2:ixF (.val (.loc p)) (.val (.int 2)) (S++[.lst []])=.ok (.val (.loc x)) (S++[.lst []]):=kK (yT hp) rfl
  simp? [j0,j1,j2,wN,bk]
  unfold yBX
  dsimp only
  rw [iP hc,l1,aA]
  rw [show [MO.lst []]++[MO.ins "TooGreat" []]=[.lst [],.ins "TooGreat" []]from rfl]
  simp only [set_cons_zero,set_cons_succ]
  rw [hh]
  rfl
 have hcm:xX (gNm 0) cA wV [none,some (.int 0)] [] ((List.range 12).map λk=>MV.int (k:Nat)) S3=.ok (WL 0) S3:=by
  rw [gA (F:=λd=>match d with |.int i=>.bl (decide (i=0))|_=>.non) (kU _) λd hd=>by
   obtain⟨i,_,rfl⟩:=mM0.mp hd
   refine⟨[some (.int (i:Nat)),some (.int 0)],rfl,rfl,?_⟩
   unfold wV
   simp? [bok],map_map]
  rfl
 have ad2:wO (.new (WL 0)) (.new [.bl true]) S3=.ok (.new (WL 0++[.bl true])) S3:=zEI rfl rfl (fits (show 12+1<=1000000 by decide))
 rw [hkl]at gl3
 have nn:=yPX gl3 λd hd=>by
  have: ∃b,d=.bl b:=by
   rcases mem_append.mp hd with hd|hd
   ·obtain⟨i,_,rfl⟩:=mM0.mp hd;exact⟨_,rfl⟩
   ·rw [mS.mp hd];exact⟨_,rfl⟩
  obtain⟨b,rfl⟩:=this
  exact⟨yPW b,by simp [dpt]⟩
 have e4:jD [some (.loc p),some (.int 0),some (.int (k:Nat)),some (.loc (S.length+2)),some .non,none] S3=.ok (.next [some (.loc p),some (.int 0),some (.int (k:Nat)),some (.loc (S.length+2)),some .non,none]) S3:=by
  unfold jD
  simp? [zAR (S:=S3) (j:=12) (by omega),show(12:Int).toNat=12 from rfl,lM0,length_range,show((12:Nat)<1000000)=True from by simp,show blk 1 [1] [some (.loc p),some (.int 0),some (.int (k:Nat)),some (.loc (S.length+2)),some .non,none]=[none,some (.int 0)]from rfl,hcm,ad2,nn,fT,iF]
 have e5:jE [some (.loc p),some (.int 0),some (.int (k:Nat)),some (.loc (S.length+2)),some .non,none] S3=.ok (.ret (.val (.bl true))) S3:=by
  unfold jE
  simp? [w1,orF]
  rfl
 refine zAE (T:=[.lst [],.ins "TooGreat" [],.lst (KL "TooGreat"++[.bl true])]) rfl ?_ (zYU _ _) (λl=>by simp)
 show yH (gI [some (.loc p),some (.int 0),some (.int (k:Nat)),none,none,none] S)=_
 unfold gI
 rw [zE e1,zE e2,zE e3,zE e4,e5,hS]
 rfl
end
theorem j2_0(a b:MV)(S:Sto):ixF (.val (.tup [a,b])) (.val (.int 0)) S=.ok (.val a) S:=rfl
theorem j2_1(a b:MV)(S:Sto):ixF (.val (.tup [a,b])) (.val (.int 1)) S=.ok (.val b) S:=rfl
theorem zXI(w k:Int)(S:Sto):zO 1 nA [.val (.tup [.int w,.int k])] S=.ok (.val (.bl (decide (1<=w)&&decide (w<=4)&&(decide (0<=k)&&decide (k<w+1))))) S:=by
 refine xZ rfl ?_
 show yH (zCJ [some (.tup [.int w,.int k]),none] S)=_
 have e1:cU [some (.tup [.int w,.int k]),none] S=.ok (.next [some (.tup [.int w,.int k]),none]) S:=by
  unfold cU
  simp? [zSP,Bool.not_true,fT,iF,j2_0,zED]
 have e2:cV [some (.tup [.int w,.int k]),none] S=.ok (.next [some (.tup [.int w,.int k]),some (.int w)]) S:=by
  unfold cV
  simp? [j2_0]
 have e3:cW [some (.tup [.int w,.int k]),some (.int w)] S=.ok (.ret (.val (.bl (decide (1<=w)&&decide (w<=4)&&(decide (0<=k)&&decide (k<w+1)))))) S:=by
  unfold cW
  simp? [j2_1,chF,le_int,zXF,zFW]
  cases decide (1<=w)with
  |false=>rfl
  |true=>cases decide (w<=4)<;>rfl
 unfold zCJ
 rw [zE e1,zE e2,e3]
 rfl
abbrev zSR:List MV:=[.tup [.int 0,.int 0],.tup [.int 2,.int 3],.tup [.int 5,.int 1],.tup [.int 1,.int (-1)]]
theorem yTQ{d:MV}(h:d∈zSR)(S:Sto):TbS S false d:=by
 simp only [zSR,mC,nM0,or_false]at h
 rcases h with rfl|rfl|rfl|rfl
 ·exact zXI 0 0 S
 ·exact zXI 2 3 S
 ·exact zXI 5 1 S
 ·exact zXI 1 (-1) S
section
variable{ts:List (Int×Int)}{m:MV}{S:Sto}
theorem yFK(hT:TOk ts): ∀d∈ts.map tbl,TbS S true d:=λd hd=>by
 obtain⟨p,hp,rfl⟩:=mM0.mp hd
 exact yOO (hT.2.2 p hp) S
theorem zRE(hm:SqM S m (ts.map tbl)){rl:List Rule}(h: ∀r∈rl,zHX ts r): ∀d∈rl.map yA,RuS S m true d:=λd hd=>by
 obtain⟨r,hr,rfl⟩:=mM0.mp hd
 exact yTE hm (h r hr)
theorem yOZ(hm:SqM S m (ts.map tbl))(hT:TOk ts){rs:List (Nat×List MV)}(h: ∀r∈rs,ROk ts r): ∀d∈rs.map yG,RoS S m true d:=λd hd=>by
 obtain⟨r,hr,rfl⟩:=mM0.mp hd
 exact yLA hm (h r hr) hT
theorem yTR(hm:SqM S m (ts.map tbl)):RoS S m false (.tup [.int (ts.length:Nat),.tup [.int 1]]):=by
 refine xZ rfl ?_
 show yH (zJU [some (.tup [.int (ts.length:Nat),.tup [.int 1]]),some m,none] S)=_
 have e1:zCP [some (.tup [.int (ts.length:Nat),.tup [.int 1]]),some m,none] S=.ok (.ret (.val (.bl false))) S:=by
  unfold zCP
  simp? [zSP,Bool.not_true,fT,iF,j2_0,zOZ hm,zXF,dF0 (show¬((ts.length:Nat):Int)<ts.length by omega),Bool.and_false,Bool.not_false]
 unfold zJU
 rw [bR e1]
 rfl
abbrev zGQ:MV:=.tup [.str zZH,.int 0,.tup [.int 0],.int 0,.tup [.int 0,.int 0]]
theorem yPA(hm:SqM S m (ts.map tbl))(hT:TOk ts):zO 2 zJT [.val zGQ,.val m] S=.ok (.val (.bl false)) S:=xZ rfl (by
 have ht:0<ts.length:=hT.1
 have hw:=(yCH hT ht).1
 generalize hR:zGQ=Rr
 have i1: ∀S,ixF (.val Rr) (.val (.int 1)) S=.ok (.val (.int 0)) S:=λS=>by rw [<-hR];rfl
 have i2: ∀S,ixF (.val Rr) (.val (.int 2)) S=.ok (.val (.tup [.int 0])) S:=λS=>by rw [<-hR];rfl
 have i3: ∀S,ixF (.val Rr) (.val (.int 3)) S=.ok (.val (.int 0)) S:=λS=>by rw [<-hR];rfl
 have i4: ∀S,ixF (.val Rr) (.val (.int 4)) S=.ok (.val (.tup [.int 0,.int 0])) S:=λS=>by rw [<-hR];rfl
 have hl: ∀S,wC [.val Rr] S=.ok (.val (.int 5)) S:=λS=>by rw [<-hR];rfl
 have e1:zCM [some Rr,some m,none,none] S=.ok (.next [some Rr,some m,none,none]) S:=by
  unfold zCM
  simp? [hl,ne_int,show decide ((5:Int)=5)=true from rfl]
  rfl
 have turn: ∀{es:List Nat},1<=es.length->es.length<=3->(∀c∈es,(c:Int)<wid ts 0)->bY [some Rr,some m,some (.int 0),some (.tup (es.map yL))] S=.ok (.next [some Rr,some m,some (.int 0),some (.tup (es.map yL))]) S:=λ{es} h1 h2 h3=>by
  obtain⟨e,ix1,ix2⟩:=zZL hm ht
  have ix1':ixF (.val m) (.val (.int 0)) S=.ok (.val e) S:=ix1
  unfold bY zHH
  simp? [zOZ hm,jL (show(0:Int)<=0 by omega) (show(0:Int)<ts.length by omega),ix1',ix2,yKZ h1 h2 h3]
  rfl
 have z1: ∀c∈[0],((c:Nat):Int)<wid ts 0:=λc hc=>by rw [mS.mp hc];omega
 have z2: ∀c∈[0,0],((c:Nat):Int)<wid ts 0:=λc hc=>by
  simp only [mC,nM0,or_false,or_self]at hc
  rw [hc];omega
 have t1:bY [some Rr,some m,some (.int 0),some (.tup [.int 0])] S=.ok (.next [some Rr,some m,some (.int 0),some (.tup [.int 0])]) S:=turn (es:=[0]) (by simp) (by simp) z1
 have t2:bY [some Rr,some m,some (.int 0),some (.tup [.int 0,.int 0])] S=.ok (.next [some Rr,some m,some (.int 0),some (.tup [.int 0,.int 0])]) S:=turn (es:=[0,0]) (by simp) (by simp) z2
 have g1: ∀(x y:MV)(p q:Option MV),gTp 2 (zX (gNm 2) (zX (gNm 3) kR)) (.tup [x,y]) [some Rr,some m,p,q] S=.ok [some Rr,some m,some x,some y] S:=λx y p q=>rfl
 have e2:zCN [some Rr,some m,none,none] S=.ok (.next [some Rr,some m,some (.int 0),some (.tup [.int 0,.int 0])]) S:=by
  unfold zCN
  simp? [i1,i2,i3,i4,show itT (.val (.tup [.tup [.int 0,.tup [.int 0]],.tup [.int 0,.tup [.int 0,.int 0]]])) S=.ok ⟨[.tup [.int 0,.tup [.int 0]],.tup [.int 0,.tup [.int 0,.int 0]]],[]⟩ S from rfl]
  rw [bD (g1 _ _ none none) t1 (kU S),bD (g1 _ _ _ _) t2 (kU S)]
  rfl
 have e3:zCO [some Rr,some m,some (.int 0),some (.tup [.int 0,.int 0])] S=.ok (.ret (.val (.bl false))) S:=by
  unfold zCO
  simp? [i2,i4,zEB]
  rfl
 show yH (zJS [some Rr,some m,none,none] S)=_
 unfold zJS
 rw [zE e1,zE e2,e3]
 rfl)
theorem yTS(hm:SqM S m (ts.map tbl))(hT:TOk ts):RuS S m false zGQ:=xZ rfl (by
 have hb:=yPA hm hT
 have i0: ∀S,ixF (.val zGQ) (.val (.int 0)) S=.ok (.val (.str zZH)) S:=λS=>rfl
 have e1:zDZ [some zGQ,some m] S=.ok (.next [some zGQ,some m]) S:=rfl
 have e2:jG [some zGQ,some m] S=.ok (.next [some zGQ,some m]) S:=rfl
 have e3:cF [some zGQ,some m] S=.ok (.next [some zGQ,some m]) S:=rfl
 have e4:zAH [some zGQ,some m] S=.ok (.ret (.val (.bl false))) S:=by
  unfold zAH
  simp? [i0,eq_str,show decide (zZH=[116,105,101])=true from rfl,zFW,hb]
  try rfl
 show yH (zGH [some zGQ,some m] S)=_
 unfold zGH
 rw [zE e1,zE e2,zE e3,e4]
 rfl)
end
theorem zBX(ds:List MV)(j:Nat):cK ds none (some (j:Int))=ds.take j:=by
 unfold cK
 rw [HT.sIx_nat,show HT.sIx ds.length 0 none=0 from rfl,List.drop_zero,Nat.sub_zero]
 by_cases h:j<=ds.length
 ·rw [min_eq_left h]
 ·rw [Nat.min_eq_right (by omega),take_of_length_le (le_refl _),take_of_length_le (by omega)]
theorem zVF(ds:List MV)(j:Nat):cK ds (some (j:Int)) none=ds.drop j:=by
 unfold cK
 rw [HT.sIx_nat,show HT.sIx ds.length ds.length none=ds.length from rfl]
 by_cases h:j<=ds.length
 ·rw [min_eq_left h,take_of_length_le (by rw [length_drop];exact le_refl _)]
 ·rw [Nat.min_eq_right (by omega),List.drop_of_length_le (le_refl _),List.drop_of_length_le (show ds.length<=j by omega),List.take_nil]
theorem zVG{n:Nat}{F:List MV->Sto->R Er}{rs:List Er}{S S2:Sto}{ds:List MV}(hn:rs.length=n)(hF:F (zR rs S).1 (zR rs S).2=.ok (.val (.tup ds)) S2)(h: ¬loL S.length ds):zO n F rs S=.ok (.val (.tup ds)) S2:=by
 unfold zO
 rw [iP hn,hF,wN,bok]
 unfold cP
 split
 ·dsimp only
  rw [iN0 (show¬lo S.length (.tup ds) by unfold lo;exact h)]
 ·rfl
theorem zPB{S:Sto}{l:Nat}{ds:List MV}(hS:S[l]? =some (.lst ds))(a b:Option Int):zAD (.val (.loc l)) a b S=.ok (.new (cK ds a b)) S:=by
 unfold zAD
 dsimp only
 rw [cR hS]
theorem yCM(A:List MV)(c:Int)(z:MV)(S:Sto)(hA:A.length<=1000)(hz: ∀l,z≠.loc l): ∃j:Nat,j<=A.length/\zO 3 kM [.new A,.val (.int c),.val z] S=.ok (.val (.tup [.loc (S.length+1),.int (j:Nat)])) (S++[.lst A,.lst (A.take j++z::A.drop j)]):=by
 have hp:(0:Int)<(A.length:Int)+1:=by omega
 have h0:=eN c (show(A.length:Int)+1≠0 by omega)
 have h1:=eL c hp
 obtain⟨j,hj⟩: ∃j:Nat,c % ((A.length:Int)+1)=(j:Int):=⟨(c % ((A.length:Int)+1)).toNat,(Int.toNat_of_nonneg h0).symm⟩
 have hjl:j<=A.length:=by omega
 refine⟨j,hjl,zVG rfl ?_ (by unfold loL lo;omega)⟩
 have hs:(S++[.lst A])[S.length]? =some (.lst A):=by simp
 have hlen:wC [.val (.loc S.length)] (S++[.lst A])=.ok (.val (.int (A.length:Nat))) (S++[.lst A]):=SqM.len (.inr ⟨_,rfl,hs⟩)
 have a1:wO (.new (A.take j)) (.new [z]) (S++[.lst A])=.ok (.new (A.take j++[z])) (S++[.lst A]):=zEI rfl rfl (fits (by rw [lT0,lS];omega))
 have a2:wO (.new (A.take j++[z])) (.new (A.drop j)) (S++[.lst A])=.ok (.new (A.take j++[z]++A.drop j)) (S++[.lst A]):=zEI rfl rfl (fits (by rw [lA,lT0,lS,length_drop];omega))
 have tp:kQ [.new (A.take j++[z]++A.drop j),.val (.int (j:Nat))] (S++[.lst A])=.ok (.val (.tup [.loc (S.length+1),.int (j:Nat)])) (S++[.lst A,.lst (A.take j++z::A.drop j)]):=by
  rw [zOM (by simp)]
  show R.ok (Er.val (.tup [.loc (S++[MO.lst A]).length,.int (j:Nat)])) (S++[.lst A]++[.lst (A.take j++[z]++A.drop j)])=_
  rw [lA,aA,aA]
  rfl
 have e1:zBD [some (.loc S.length),some (.int c),some z,none] (S++[.lst A])=.ok (.next [some (.loc S.length),some (.int c),some z,some (.int (j:Nat))]) (S++[.lst A]):=by
  unfold zBD
  simp? [hlen,mod_lit hp,hj]
 have e2:zBE [some (.loc S.length),some (.int c),some z,some (.int (j:Nat))] (S++[.lst A])=.ok (.ret (.val (.tup [.loc (S.length+1),.int (j:Nat)]))) (S++[.lst A,.lst (A.take j++z::A.drop j)]):=by
  unfold zBE
  simp? [zPB hs,zBX,zVF,a1,a2,tp]
 show yH (zFK [some (.loc S.length),some (.int c),some z,none] (S++[.lst A]))=_
 unfold zFK
 rw [zE e1,e2]
 rfl
def Ps(S:Sto)(p l:Nat)(T R' W pl:List MV):Prop:= ∃a b c,S[p]? =some (.lst [.loc a,.loc b,.loc c])/\S[a]? =some (.lst T)/\S[b]? =some (.lst R')/\S[c]? =some (.lst W)/\S[l]? =some (.lst pl)/\p≠l/\(a≠p/\a≠l)/\(b≠p/\b≠l)/\c≠p/\c≠l
theorem yD{S:Sto}{l m:Nat}{o':MO}(h:m≠l):(S.set l o')[m]? =S[m]? :=getElem?_set_ne (Ne.symm h)
theorem asg2{S:Sto}{p l n:Nat}{i k:Int}{i' k':Nat}{j:Int}{ps pl:List MV}{ρ:Rho}(h0:ρ[0]? =some (some (.loc p)))(h4:ρ[4]? =some (some (.loc l)))(hp:S[p]? =some (.lst ps))(hl:S[l]? =some (.lst pl))(hne:p≠l)(hi:ixN ps.length i=some i')(hk:ixN pl.length k=some k'):
  yGI (gTp 2 (zX (DJ jR (vJ 0) (kJ (.int i))) (zX (DJ jR (vJ 4) (kJ (.int k))) kR))) ρ (.val (.tup [.loc n,.int j])) S=.ok (.next ρ) ((S.set p (.lst (ps.set i' (.loc n)))).set l (.lst (pl.set k' (.int j)))):=by
 have g1:DJ jR (vJ 0) (kJ (.int i)) (.loc n) ρ S=.ok ρ (S.set p (.lst (ps.set i' (.loc n)))):=by
  unfold DJ vJ kJ
  rw [h0,zWN,bok,bok]
  exact zGL hp hi
 have g2:DJ jR (vJ 4) (kJ (.int k)) (.int j) ρ (S.set p (.lst (ps.set i' (.loc n))))=.ok ρ ((S.set p (.lst (ps.set i' (.loc n)))).set l (.lst (pl.set k' (.int j)))):=by
  unfold DJ vJ kJ
  rw [h4,zWN,bok,bok]
  exact zGL (by rw [yD (Ne.symm hne)];exact hl) hk
 rw [zRA]
 show((DJ jR (vJ 0) (kJ (.int i)) (.loc n) ρ S).bind λρ1 S1=>(DJ jR (vJ 4) (kJ (.int k)) (.int j) ρ1 S1).bind λρ2 S2=>_).bind _=_
 rw [g1,bok,g2,bok]
 rfl
section
variable{S:Sto}{p l:Nat}{T R' W pl:List MV}
theorem Ps.grow(h:Ps S p l T R' W pl)(L:Sto):Ps (S++L) p l T R' W pl:=by
 obtain⟨a,b,c,h1,h2,h3,h4,h5,h6⟩:=h
 exact⟨a,b,c,yT h1,yT h2,yT h3,yT h4,yT h5,h6⟩
theorem Ps.rows(h:Ps S p l T R' W pl){n:Nat}{X pl':List MV}(hn:S[n]? =some (.lst X))(n1:n≠p)(n2:n≠l): ∃a b c,S[p]? =some (.lst [.loc a,.loc b,.loc c])/\Ps ((S.set p (.lst [.loc a,.loc b,.loc n])).set l (.lst pl')) p l T R' X pl':=by
 obtain⟨a,b,c,h1,h2,h3,h4,h5,h6,ha,hb,hc⟩:=h
 refine⟨a,b,c,h1,a,b,n,?_,?_,?_,?_,?_,h6,ha,hb,n1,n2⟩
 ·rw [yD h6];exact get_set h1
 ·rw [yD ha.2,yD ha.1];exact h2
 ·rw [yD hb.2,yD hb.1];exact h3
 ·rw [yD n2,yD n1];exact hn
 ·exact get_set (by rw [yD (Ne.symm h6)];exact h5)
theorem Ps.rules(h:Ps S p l T R' W pl){n:Nat}{X pl':List MV}(hn:S[n]? =some (.lst X))(n1:n≠p)(n2:n≠l): ∃a b c,S[p]? =some (.lst [.loc a,.loc b,.loc c])/\Ps ((S.set p (.lst [.loc a,.loc n,.loc c])).set l (.lst pl')) p l T X W pl':=by
 obtain⟨a,b,c,h1,h2,h3,h4,h5,h6,ha,hb,hc⟩:=h
 refine⟨a,b,c,h1,a,n,c,?_,?_,?_,?_,?_,h6,ha,⟨n1,n2⟩,hc.1,hc.2⟩
 ·rw [yD h6];exact get_set h1
 ·rw [yD ha.2,yD ha.1];exact h2
 ·rw [yD n2,yD n1];exact hn
 ·rw [yD hc.2,yD hc.1];exact h4
 ·exact get_set (by rw [yD (Ne.symm h6)];exact h5)
theorem Ps.tables(h:Ps S p l T R' W pl){n:Nat}{X pl':List MV}(hn:S[n]? =some (.lst X))(n1:n≠p)(n2:n≠l): ∃a b c,S[p]? =some (.lst [.loc a,.loc b,.loc c])/\Ps ((S.set p (.lst [.loc n,.loc b,.loc c])).set l (.lst pl')) p l X R' W pl':=by
 obtain⟨a,b,c,h1,h2,h3,h4,h5,h6,ha,hb,hc⟩:=h
 refine⟨a,b,c,h1,n,b,c,?_,?_,?_,?_,?_,h6,⟨n1,n2⟩,hb,hc.1,hc.2⟩
 ·rw [yD h6];exact get_set h1
 ·rw [yD n2,yD n1];exact hn
 ·rw [yD hb.2,yD hb.1];exact h3
 ·rw [yD hc.2,yD hc.1];exact h4
 ·exact get_set (by rw [yD (Ne.symm h6)];exact h5)
end
theorem xV{S:Sto}{l:Nat}{o:MO}(h:S[l]? =some o):l<S.length:=(gS0.mp h).1
theorem Ps.at(h:Ps S p l T R' W pl): ∃a b c,S[p]? =some (.lst [.loc a,.loc b,.loc c])/\S[a]? =some (.lst T)/\S[b]? =some (.lst R')/\S[c]? =some (.lst W)/\S[l]? =some (.lst pl)/\p≠l:=by
 obtain⟨a,b,c,h1,h2,h3,h4,h5,h6,_⟩:=h
 exact⟨a,b,c,h1,h2,h3,h4,h5,h6⟩
abbrev V7(p:Nat)(q:MV)(b c:Int)(l:Nat)(f t:Option MV):Rho:=[some (.loc p),some q,some (.int b),some (.int c),some (.loc l),f,t]
abbrev ins(A:List MV)(j:Nat)(z:MV):List MV:=A.take j++z::A.drop j
section
variable{S:Sto}{p l:Nat}{T R' W pl:List MV}{q:MV}{b c:Int}{f t:Option MV}
theorem sp5(h:Ps S p l T R' W pl)(hpl:pl.length=5)(hW:W.length<=1000): ∃S' W' pl',gR (V7 p q b c l f t) S=.ok (.next (V7 p q b c l f t)) S'/\Ps S' p l T R' W' pl'/\pl'.length=5/\
  ((b / 8 % 2=1/\ ∃j:Nat,j<=(W.take 59).length/\W'=ins (W.take 59) j (.tup [.int (T.length:Nat),.tup [.int 1]])/\pl'=pl.set 3 (.int (j:Nat)))\/(¬b / 8 % 2=1/\W'=W/\pl'=pl)):=by
 by_cases hb:b / 8 % 2=1
 ·obtain⟨a,b',c',h1,h2,h3,h4,h5,h6⟩:=h.at
  obtain⟨j,hj,hput⟩:=yCM (W.take 59) (c / 7) (.tup [.int (T.length:Nat),.tup [.int 1]]) S (by rw [lT0];omega) (λl z=>by cases z)
  have hn:(S++[.lst (W.take 59),.lst (ins (W.take 59) j (.tup [.int (T.length:Nat),.tup [.int 1]]))])[S.length+1]? =some (.lst (ins (W.take 59) j (.tup [.int (T.length:Nat),.tup [.int 1]]))):=dI (i:=1) rfl
  have l1:=xV h1
  have l5:=xV h5
  obtain⟨x,y,z,hp,hPs⟩:=(h.grow [.lst (W.take 59),.lst (ins (W.take 59) j (.tup [.int (T.length:Nat),.tup [.int 1]]))]).rows (pl':=pl.set 3 (.int (j:Nat))) hn (by omega) (by omega)
  refine⟨_,_,_,?_,hPs,by rw [length_set];exact hpl,.inl ⟨hb,j,hj,rfl,rfl⟩⟩
  have as:=asg2 (ρ:=V7 p q b c l f t) (n:=S.length+1) (i:=2) (k:=3) (i':=2) (k':=3) (j:=(j:Nat)) rfl rfl hp (yT h5) h6 rfl (by rw [hpl];rfl)
  have ix0:ixF (.val (.loc p)) (.val (.int 0)) S=.ok (.val (.loc a)) S:=kK h1 rfl
  have ix2:ixF (.val (.loc p)) (.val (.int 2)) S=.ok (.val (.loc c')) S:=kK h1 rfl
  have ct:zAD (.val (.loc c')) none (some 59) S=.ok (.new (W.take 59)) S:=by rw [zPB h4];exact congrArg (λx=>R.ok (Er.new x) S) (zBX W 59)
  have ln:wC [.val (.loc a)] S=.ok (.val (.int (T.length:Nat))) S:=SqM.len (.inr ⟨_,rfl,h2⟩)
  unfold gR
  simp? [yP (b:=8) (by decide) (by decide),mod_lit (show(0:Int)<2 by decide),dT0 hb,ix0,ix2,ct,ln,yP (b:=7) (by decide) (by decide),yKU,hput]
  exact as
 ·refine⟨S,W,pl,?_,h,hpl,.inr ⟨hb,rfl,rfl⟩⟩
  unfold gR
  simp? [yP (b:=8) (by decide) (by decide),mod_lit (show(0:Int)<2 by decide),dF0 hb,fT,iF]
theorem sp6(h:Ps S p l T R' W pl)(hpl:pl.length=5)(hR:R'.length<=1000): ∃S' X pl',gS (V7 p q b c l f t) S=.ok (.next (V7 p q b c l f t)) S'/\Ps S' p l T X W pl'/\pl'.length=5/\
  ((b / 4 % 2=1/\ ∃j:Nat,j<=(R'.take 5).length/\X=ins (R'.take 5) j zGQ/\pl'=pl.set 2 (.int (j:Nat)))\/(¬b / 4 % 2=1/\X=R'/\pl'=pl)):=by
 by_cases hb:b / 4 % 2=1
 ·obtain⟨a,b',c',h1,h2,h3,h4,h5,h6⟩:=h.at
  obtain⟨j,hj,hput⟩:=yCM (R'.take 5) (c / 11) zGQ S (by rw [lT0];omega) (λl z=>by cases z)
  have hn:(S++[.lst (R'.take 5),.lst (ins (R'.take 5) j zGQ)])[S.length+1]? =some (.lst (ins (R'.take 5) j zGQ)):=dI (i:=1) rfl
  have l1:=xV h1
  have l5:=xV h5
  obtain⟨x,y,z,hp,hPs⟩:=(h.grow [.lst (R'.take 5),.lst (ins (R'.take 5) j zGQ)]).rules (pl':=pl.set 2 (.int (j:Nat))) hn (by omega) (by omega)
  refine⟨_,_,_,?_,hPs,by rw [length_set];exact hpl,.inl ⟨hb,j,hj,rfl,rfl⟩⟩
  have as:=asg2 (ρ:=V7 p q b c l f t) (n:=S.length+1) (i:=1) (k:=2) (i':=1) (k':=2) (j:=(j:Nat)) rfl rfl hp (yT h5) h6 rfl (by rw [hpl];rfl)
  have ix1:ixF (.val (.loc p)) (.val (.int 1)) S=.ok (.val (.loc b')) S:=kK h1 rfl
  have ct:zAD (.val (.loc b')) none (some 5) S=.ok (.new (R'.take 5)) S:=by rw [zPB h3];exact congrArg (λx=>R.ok (Er.new x) S) (zBX R' 5)
  unfold gS
  simp? [yP (b:=4) (by decide) (by decide),mod_lit (show(0:Int)<2 by decide),dT0 hb,ix1,ct,yP (b:=11) (by decide) (by decide),yKU,tup5]
  rw [show zO 3 kM [.new (R'.take 5),.val (.int (c / 11)),.val (.tup [.str [116,105,101],.int 0,.tup [.int 0],.int 0,.tup [.int 0,.int 0]])] S=_ from hput]
  exact as
 ·refine⟨S,R',pl,?_,h,hpl,.inr ⟨hb,rfl,rfl⟩⟩
  unfold gS
  simp? [yP (b:=4) (by decide) (by decide),mod_lit (show(0:Int)<2 by decide),dF0 hb,fT,iF]
theorem sp7(h:Ps S p l T R' W pl)(hpl:pl.length=5)(hT:T.length<=1000): ∃S' X pl',gT (V7 p q b c l f t) S=.ok (.next (V7 p q b c l f t)) S'/\Ps S' p l X R' W pl'/\pl'.length=5/\
  ((b / 2 % 2=1/\ ∃(j:Nat)(d:MV),d∈zSR/\j<=(T.take 3).length/\X=ins (T.take 3) j d/\pl'=pl.set 1 (.int (j:Nat)))\/(¬b / 2 % 2=1/\X=T/\pl'=pl)):=by
 by_cases hb:b / 2 % 2=1
 ·obtain⟨a,b',c',h1,h2,h3,h4,h5,h6⟩:=h.at
  obtain⟨d,hd⟩:=nX (xs:=zSR) (i:=c / 50 % 4) (by omega) (by show c / 50 % 4<((4:Nat):Int);omega)
  have hdm:d∈zSR:=nY (P:=λx=>x∈zSR) (λx hx=>hx) hd
  have hnl: ∀l,d≠.loc l:=λl z=>by
   subst z
   simp [zSR]at hdm
  obtain⟨j,hj,hput⟩:=yCM (T.take 3) (c / 13) d S (by rw [lT0];omega) hnl
  have hn:(S++[.lst (T.take 3),.lst (ins (T.take 3) j d)])[S.length+1]? =some (.lst (ins (T.take 3) j d)):=dI (i:=1) rfl
  have l1:=xV h1
  have l5:=xV h5
  obtain⟨x,y,z,hp,hPs⟩:=(h.grow [.lst (T.take 3),.lst (ins (T.take 3) j d)]).tables (pl':=pl.set 1 (.int (j:Nat))) hn (by omega) (by omega)
  refine⟨_,_,_,?_,hPs,by rw [length_set];exact hpl,.inl ⟨hb,j,d,hdm,hj,rfl,rfl⟩⟩
  have as:=asg2 (ρ:=V7 p q b c l f t) (n:=S.length+1) (i:=0) (k:=1) (i':=0) (k':=1) (j:=(j:Nat)) rfl rfl hp (yT h5) h6 rfl (by rw [hpl];rfl)
  have ix0:ixF (.val (.loc p)) (.val (.int 0)) S=.ok (.val (.loc a)) S:=kK h1 rfl
  have ct:zAD (.val (.loc a)) none (some 3) S=.ok (.new (T.take 3)) S:=by rw [zPB h2];exact congrArg (λx=>R.ok (Er.new x) S) (zBX T 3)
  unfold gT
  simp? [yP (b:=2) (by decide) (by decide),mod_lit (show(0:Int)<2 by decide),dT0 hb,ix0,ct,yP (b:=13) (by decide) (by decide),lst4,yP (b:=50) (by decide) (by decide),mod_lit (show(0:Int)<4 by decide),zWP hd,hput]
  exact as
 ·refine⟨S,T,pl,?_,h,hpl,.inr ⟨hb,rfl,rfl⟩⟩
  unfold gT
  simp? [yP (b:=2) (by decide) (by decide),mod_lit (show(0:Int)<2 by decide),dF0 hb,fT,iF]
end
theorem zSS{S:Sto}{l:Nat}{ds:List MV}(hS:S[l]? =some (.lst ds)):neF (.val (.loc l)) (.new []) S=.ok (.val (.bl (!ds.isEmpty))) S:=by
 have e:vwE S (.val (.loc l))=some (.ls ds):=by
  show(dQ S (.val (.loc l))).map Vw.ls=_
  rw [cR hS];rfl
 unfold neF zLU
 rw [e]
 cases ds with
 |nil=>rfl
 |cons d ds=>rfl
theorem zRF(gf:MV->Rho->Sto->R Rho)(ρ:Rho)(ds:List MV)(S:Sto):yGI gf ρ (.new ds) S=(gf (.loc S.length) ρ (S++[.lst ds])).bind λρ' S2=>.ok (.next ρ') S2:=rfl
theorem yFL{α:Type}{xs:List α}{i:Nat}{d:α}(h:xs[i]? =some d):atI xs (i:Int)=some d:=by
 have hl:=(gS0.mp h).1
 unfold atI ixN
 rw [iP (by omega),iP (by omega)]
 show xs[(i:Int).toNat]? =_
 rw [toNat_natCast,h]
section
variable{S:Sto}{p l:Nat}{T R' W pl:List MV}{q:MV}{b c:Int}
theorem sp4(h:Ps S p l T R' W pl)(hpl:pl.length=5)(hW:W.length<=1000): ∃S' W' pl' b' f t,gQ (V7 p q b c l none none) S=.ok (.next (V7 p q b' c l f t)) S'/\Ps S' p l T R' W' pl'/\pl'.length=5/\
  ((b'=b/\b / 16 % 2=1/\W.length<60/\ ∃(i j:Nat)(d:MV),W[i]? =some d/\i<j/\j<=W.length/\W'=ins W j d/\pl'=pl.set 4 (.int (j:Nat)))\/(b'=b % 16/\W'=W/\pl'=pl)):=by
 obtain⟨a,b',c',h1,h2,h3,h4,h5,h6⟩:=h.at
 have ix2:ixF (.val (.loc p)) (.val (.int 2)) S=.ok (.val (.loc c')) S:=kK h1 rfl
 have ln:wC [.val (.loc c')] S=.ok (.val (.int (W.length:Nat))) S:=SqM.len (.inr ⟨_,rfl,h4⟩)
 by_cases hb:b / 16 % 2=1/\W≠[]/\W.length<60
 ·obtain⟨hb1,hb2,hb3⟩:=hb
  have hpos:0<W.length:=List.length_pos_iff.mpr hb2
  have hp0:(0:Int)<(W.length:Int):=by omega
  have m0:=eN c (show(W.length:Int)≠0 by omega)
  have m1:=eL c hp0
  obtain⟨i,hi⟩: ∃i:Nat,c % (W.length:Int)=(i:Int):=⟨(c % (W.length:Int)).toNat,(Int.toNat_of_nonneg m0).symm⟩
  have hil:i<W.length:=by omega
  have hq0:(0:Int)<(W.length:Int) - (i:Int):=by omega
  have n0:=eN (c / 61) (show(W.length:Int) - (i:Int)≠0 by omega)
  have n1:=eL (c / 61) hq0
  obtain⟨j,hj⟩: ∃j:Nat,(i:Int)+1+c / 61 % ((W.length:Int) - (i:Int))=(j:Int):=⟨((i:Int)+1+c / 61 % ((W.length:Int) - (i:Int))).toNat,(Int.toNat_of_nonneg (by omega)).symm⟩
  have hij:i<j/\j<=W.length:=by omega
  have g:W[i]? =some W[i]:=gE0 hil
  have ixi:ixF (.val (.loc c')) (.val (.int (i:Nat))) S=.ok (.val W[i]) S:=kK h4 (yFL g)
  have ct1:zAD (.val (.loc c')) none (some (j:Int)) S=.ok (.new (W.take j)) S:=by rw [zPB h4,zBX]
  have ct2:zAD (.val (.loc c')) (some (j:Int)) none S=.ok (.new (W.drop j)) S:=by rw [zPB h4,zVF]
  have a1:wO (.new (W.take j)) (.new [W[i]]) S=.ok (.new (W.take j++[W[i]])) S:=zEI rfl rfl (fits (by rw [lT0,lS];omega))
  have a2:wO (.new (W.take j++[W[i]])) (.new (W.drop j)) S=.ok (.new (W.take j++[W[i]]++W.drop j)) S:=zEI rfl rfl (fits (by rw [lA,lT0,lS,length_drop];omega))
  have hX:W.take j++[W[i]]++W.drop j=ins W j W[i]:=by rw [aA];rfl
  rw [hX]at a2
  have l1:=xV h1
  have l5:=xV h5
  obtain⟨x,y,z,hp,hPs⟩:=(h.grow [.lst (ins W j W[i])]).rows (n:=S.length) (X:=ins W j W[i]) (pl':=pl.set 4 (.int (j:Nat))) (getElem?_append_right (le_refl _) |>.trans (by rw [sub_self];rfl)) (by omega) (by omega)
  refine⟨_,_,_,b,some (.int (i:Nat)),some (.int (j:Nat)),?_,hPs,by rw [length_set];exact hpl,.inl ⟨rfl,hb1,hb3,i,j,W[i],g,hij.1,hij.2,rfl,rfl⟩⟩
  have d1: ∀ρ,jR (.val (.loc p)) (.val (.int 2)) (.loc S.length) ρ (S++[MO.lst (ins W j W[i])])=.ok ρ ((S++[MO.lst (ins W j W[i])]).set p (.lst [.loc x,.loc y,.loc S.length])):=λρ=>zGL (j:=2) hp rfl
  have d2: ∀ρ,jR (.val (.loc l)) (.val (.int 4)) (.int (j:Nat)) ρ ((S++[MO.lst (ins W j W[i])]).set p (.lst [.loc x,.loc y,.loc S.length]))=.ok ρ (((S++[MO.lst (ins W j W[i])]).set p (.lst [.loc x,.loc y,.loc S.length])).set l (.lst (pl.set 4 (.int (j:Nat))))):=λρ=>zGL (j:=4) (by rw [yD (Ne.symm h6)];exact yT h5) (by rw [hpl];rfl)
  have hemp:(!W.isEmpty)=true:=by cases W with |nil=>exact absurd rfl hb2|cons=>rfl
  unfold gQ
  simp? [yP (b:=16) (by decide) (by decide),mod_lit (show(0:Int)<2 by decide),dT0 hb1,ix2,zSS h4,hemp,ln,lt_int,dT0 (show((W.length:Nat):Int)<60 by omega),zT,mod_lit hp0,hi,yP (b:=61) (by decide) (by decide),mod_lit hq0,hj,ct1,ixi,a1,ct2,a2,zRF,d1,zRA,d2]
 ·refine⟨S,W,pl,b % 16,none,none,?_,h,hpl,.inr ⟨rfl,rfl,rfl⟩⟩
  unfold gQ
  by_cases hb1:b / 16 % 2=1
  ·by_cases hb2:W=[]
   ·simp? [yP (b:=16) (by decide) (by decide),mod_lit (show(0:Int)<2 by decide),dT0 hb1,ix2,zSS h4,show(!W.isEmpty)=false by rw [hb2];rfl,fT,iF,mod_lit (show(0:Int)<16 by decide)]
   ·have hb3: ¬((W.length:Nat):Int)<60:=λz=>hb ⟨hb1,hb2,by omega⟩
    have hemp:(!W.isEmpty)=true:=by cases W with |nil=>exact absurd rfl hb2|cons=>rfl
    simp? [yP (b:=16) (by decide) (by decide),mod_lit (show(0:Int)<2 by decide),dT0 hb1,ix2,zSS h4,hemp,ln,lt_int,dF0 hb3,fT,iF,mod_lit (show(0:Int)<16 by decide)]
  ·simp? [yP (b:=16) (by decide) (by decide),mod_lit (show(0:Int)<2 by decide),dF0 hb1,fT,iF,mod_lit (show(0:Int)<16 by decide)]
end
theorem yCN{n:Nat}{F:List MV->Sto->R Er}{rs:List Er}{S S2:Sto}{p k:Nat}{ds:List MV}(hn:rs.length=n)(hF:F (zR rs S).1 (zR rs S).2=.ok (.val .non) S2)(hp:S2[p]? =some (.lst ds))(hl:p<S.length)(hd:.loc k∈ds)(hk:S.length<=k)(ho:S[p]? ≠S2[p]?):zO n F rs S=.ok (.val .non) S2:=by
 unfold zO
 rw [iP hn,hF,wN,bok]
 unfold cP
 rw [iN0]
 rintro⟨_,h⟩
 rcases h p hl with z|⟨o,z1,z2⟩
 ·exact ho z.symm
 ·rw [hp]at z1
  cases z1
  have: ∀(xs:List MV),loL S.length xs->.loc k∈xs->False:=λxs=>by
   induction xs with
   |nil=>intro _ h;cases h
   |cons x xs ih=>
    intro h hm
    unfold loL at h
    rcases mC.mp hm with e|hm
    ·rw [<-e]at h
     have:k<S.length:=by have:=h.1;unfold lo at this;exact this
     omega
    ·exact ih h.2 hm
  exact this ds z2 hd
def Mk(d:MV):Prop:=d=MV.tup [.str [110,101,118,101,114],.int 0,.tup [.tup [.tup [.str [99,101,108,108],.int 0,.int 0],.str [115,97,109,101],.tup [.str [105,115],.int 1]]]]\/ ∃k n:Nat,n<=100/\d=.tup [.int 0,.tup (List.replicate n [MV.int (k:Nat)]).flatten]
section
variable{S:Sto}{p l:Nat}{T R' W pl:List MV}{c:Int}
theorem yPB(h:Ps S p l T R' W pl)(hT: ∃w k r,T=.tup [.int w,.int k]::r/\0<=w/\w<=100)(hTl:T.length<=100): ∃S' T' R'' W',zO 2 kC [.val (.loc p),.val (.int c)] S=.ok (.val .non) S'/\Ps S' p l T' R'' W' pl/\((4<T'.length\/6<R''.length\/60<W'.length)/\(∀d∈T',d∈T)/\(∀d∈R'',d∈R'\/Mk d)/\ ∀d∈W',d∈W\/Mk d):=by
 obtain⟨a,b',c',h1,h2,h3,h4,h5,h6⟩:=h.at
 have l1:=xV h1
 have l5:=xV h5
 have ix0:ixF (.val (.loc p)) (.val (.int 0)) S=.ok (.val (.loc a)) S:=kK h1 rfl
 have hset: ∀(X:List MV)(k:Int)(k':Nat)(hk:ixN 3 k=some k')(ρ:Rho),jR (.val (.loc p)) (.val (.int k)) (.loc S.length) ρ (S++[MO.lst X])=.ok ρ ((S++[MO.lst X]).set p (.lst ([.loc a,.loc b',.loc c'].set k' (.loc S.length)))):=λX k k' hk ρ=>zGL (yT h1) hk
 have fin: ∀(X:List MV)(k':Nat)(hk:k'<3),xY [some (.loc p),some (.int c)] S=.ok (.next [some (.loc p),some (.int c)]) ((S++[MO.lst X]).set p (.lst ([.loc a,.loc b',.loc c'].set k' (.loc S.length))))->zO 2 kC [.val (.loc p),.val (.int c)] S=.ok (.val .non) ((S++[MO.lst X]).set p (.lst ([.loc a,.loc b',.loc c'].set k' (.loc S.length)))):=λX k' hk e=>by
  have hat:((S++[MO.lst X]).set p (.lst ([.loc a,.loc b',.loc c'].set k' (.loc S.length))))[p]? =some (.lst ([.loc a,.loc b',.loc c'].set k' (.loc S.length))):=get_set (yT h1)
  have la:=xV h2
  have lb:=xV h3
  have lc:=xV h4
  refine yCN (k:=S.length) rfl ?_ hat l1 ?_ (le_refl _) ?_
  ·show yH (zBF [some (.loc p),some (.int c)] S)=_
   unfold zBF
   rw [e]
   rfl
  ·match k',hk with
   |0,_=>simp
   |1,_=>simp
   |2,_=>simp
  ·rw [hat,h1]
   intro z
   have z:=MO.lst.inj (Option.some.inj z)
   match k',hk,z with
   |0,_,z=>simp at z;omega
   |1,_,z=>simp at z;omega
   |2,_,z=>simp at z;omega
 have hgs: ∀X:List MV,(S++[MO.lst X])[S.length]? =some (.lst X):=λX=>getElem?_append_right (le_refl _) |>.trans (by rw [sub_self];rfl)
 have same: ∀(X:List MV)(o:MO),(((S++[MO.lst X]).set p o).set l (.lst pl))=(S++[MO.lst X]).set p o:=λX o=>by
  apply ext_getElem?
  intro i
  by_cases hi:i=l
  ·subst hi
   rw [get_set (o:=.lst pl) (by rw [yD (Ne.symm h6)];exact yT h5),yD (Ne.symm h6)]
   exact(yT h5).symm
  ·rw [yD hi]
 obtain⟨w,kk,r,hTe,hw0,hw1⟩:=hT
 have done: ∀(k':Nat)(X T' R'' W':List MV),k'<3->xY [some (.loc p),some (.int c)] S=.ok (.next [some (.loc p),some (.int c)]) ((S++[MO.lst X]).set p (.lst ([.loc a,.loc b',.loc c'].set k' (.loc S.length))))->
   Ps (((S++[MO.lst X]).set p (.lst ([.loc a,.loc b',.loc c'].set k' (.loc S.length)))).set l (.lst pl)) p l T' R'' W' pl->((4<T'.length\/6<R''.length\/60<W'.length)/\(∀d∈T',d∈T)/\(∀d∈R'',d∈R'\/Mk d)/\ ∀d∈W',d∈W\/Mk d)-> ∃S' T' R'' W',zO 2 kC [.val (.loc p),.val (.int c)] S=.ok (.val .non) S'/\Ps S' p l T' R'' W' pl/\((4<T'.length\/6<R''.length\/60<W'.length)/\(∀d∈T',d∈T)/\(∀d∈R'',d∈R'\/Mk d)/\ ∀d∈W',d∈W\/Mk d):=λk' X T' R'' W' hk e hP hs=>⟨_,T',R'',W',fin X k' hk e,by rw [<-same X];exact hP,hs⟩
 have abc: ∀X:List MV, ∀{x y z:Nat},(S++[MO.lst X])[p]? =some (.lst [.loc x,.loc y,.loc z])->x=a/\y=b'/\z=c':=λX {x y z} hp=>by
  rw [yT h1]at hp
  simp at hp
  exact⟨hp.1.symm,hp.2.1.symm,hp.2.2.symm⟩
 by_cases c0:c % 3=0
 ·have mu:zNB (.val (.loc a)) (.val (.int 5)) S=.ok (.new (List.replicate 5 T).flatten) S:=by
   show zUQ (.val (.loc a)) 5 S=_
   unfold zUQ
   rw [zWQ h2]
   dsimp only
   rw [iP ⟨by decide,by decide,fits (by show T.length * 5<=1000000;omega)⟩]
   rfl
  have ct:zAD (.new (List.replicate 5 T).flatten) none (some 5) S=.ok (.new ((List.replicate 5 T).flatten.take 5)) S:=congrArg (λx=>R.ok (Er.new x) S) (zBX (List.replicate 5 T).flatten 5)
  obtain⟨x,y,z,hp,hPs⟩:=(h.grow [.lst ((List.replicate 5 T).flatten.take 5)]).tables (n:=S.length) (pl':=pl) (hgs _) (by omega) (by omega)
  obtain⟨rfl,rfl,rfl⟩:=abc _ hp
  refine done 0 _ _ _ _ (by decide) ?_ hPs ⟨.inl ?_,λd hd=>?_,λd hd=>.inl hd,λd hd=>.inl hd⟩
  ·unfold xY
   simp? [mod_lit (show(0:Int)<3 by decide),dT0 c0,ix0,mu,ct,zRF,hset _ 0 0 rfl]
  ·rw [lT0,len_rep]
   have:1<=T.length:=by rw [hTe];simp
   omega
  ·obtain⟨z,z1,z2⟩:=mem_flatten.mp (mem_of_mem_take hd)
   rw [List.eq_of_mem_replicate z1]at z2
   exact z2
 ·by_cases c1:c % 3=1
  ·obtain⟨x,y,z,hp,hPs⟩:=(h.grow [.lst (List.replicate 7 [MV.tup [.str [110,101,118,101,114],.int 0,.tup [.tup [.tup [.str [99,101,108,108],.int 0,.int 0],.str [115,97,109,101],.tup [.str [105,115],.int 1]]]]]).flatten]).rules (n:=S.length) (pl':=pl) (hgs _) (by omega) (by omega)
   obtain⟨rfl,rfl,rfl⟩:=abc _ hp
   have mu:zNB (.new [MV.tup [.str [110,101,118,101,114],.int 0,.tup [.tup [.tup [.str [99,101,108,108],.int 0,.int 0],.str [115,97,109,101],.tup [.str [105,115],.int 1]]]]]) (.val (.int 7)) S=.ok (.new (List.replicate 7 [MV.tup [.str [110,101,118,101,114],.int 0,.tup [.tup [.tup [.str [99,101,108,108],.int 0,.int 0],.str [115,97,109,101],.tup [.str [105,115],.int 1]]]]]).flatten) S:=by
    generalize MV.tup [.str [110,101,118,101,114],.int 0,.tup [.tup [.tup [.str [99,101,108,108],.int 0,.int 0],.str [115,97,109,101],.tup [.str [105,115],.int 1]]]]=z
    show zUQ (.new [z]) 7 S=_
    unfold zUQ
    rw [show lsW S (.new [z])=some [z]from rfl]
    dsimp only
    rw [iP ⟨by decide,by decide,fits (show 1 * 7<=1000000 by decide)⟩]
    rfl
   refine done 1 _ _ _ _ (by decide) ?_ hPs ⟨.inr (.inl ?_),λd hd=>hd,λd hd=>?_,λd hd=>.inl hd⟩
   ·unfold xY
    simp? [mod_lit (show(0:Int)<3 by decide),dF0 c0,fT,iF,dT0 c1,yKU,mu,zRF,hset _ 1 1 rfl]
   ·rw [len_rep]
    show 6<7 * 1
    decide
   ·obtain⟨z,z1,z2⟩:=mem_flatten.mp hd
    rw [List.eq_of_mem_replicate z1]at z2
    exact .inr (.inl (mS.mp z2))
  ·have hcm:xX (gNm 0) zBM gZ [none,some (.loc p)] [] ((List.range 61).map λk=>MV.int (k:Nat)) S=.ok (((List.range 61).map λk=>MV.int (k:Nat)).map λd=>.tup [.int 0,.tup (List.replicate w.toNat [d]).flatten]) S:=gA (F:=λd=>.tup [.int 0,.tup (List.replicate w.toNat [d]).flatten]) (kU S) λd hd=>⟨[some d,some (.loc p)],rfl,rfl,by
    have j0:ixF (.val (.loc a)) (.val (.int 0)) S=.ok (.val (.tup [.int w,.int kk])) S:=kK h2 (by rw [hTe];exact yFL rfl)
    have mt:yEL (.val (.tup [d])) (.val (.int w)) S=.ok (.val (.tup (List.replicate w.toNat [d]).flatten)) S:=iP ⟨hw0,by omega,by show 1 * w.toNat<=1000000;omega⟩
    unfold gZ
    simp? [yKU,ix0,j0,j2_0,mt]⟩
   obtain⟨x,y,z,hp,hPs⟩:=(h.grow [.lst (((List.range 61).map λk=>MV.int (k:Nat)).map λd=>.tup [.int 0,.tup (List.replicate w.toNat [d]).flatten])]).rows (n:=S.length) (pl':=pl) (hgs _) (by omega) (by omega)
   obtain⟨rfl,rfl,rfl⟩:=abc _ hp
   refine done 2 _ _ _ _ (by decide) ?_ hPs ⟨.inr (.inr (by rw [lM0,lM0,length_range];decide)),λd hd=>hd,λd hd=>.inl hd,λd hd=>.inr (.inr ?_)⟩
   case refine_2=>
    obtain⟨e,he,rfl⟩:=mM0.mp hd
    obtain⟨k,_,rfl⟩:=mM0.mp he
    exact⟨k,w.toNat,by omega,rfl⟩
   unfold xY
   simp? [mod_lit (show(0:Int)<3 by decide),dF0 c0,dF0 c1,fT,iF,zAR (S:=S) (j:=61) (by omega),show(61:Int).toNat=61 from rfl,lM0,length_range,show((61:Nat)<1000000)=True from by simp,show blk 1 [0] [some (.loc p),some (.int c)]=[none,some (.loc p)]from rfl,hcm,zRF,hset _ 2 2 rfl]
end
theorem p12(S:Sto):zIZ (.val (.int 10)) (.val (.int 12)) S=.ok (.val (.int 1000000000000)) S:=rfl
def Sp(T R' W pl:List MV)(b:Int)(T2 R2 W2 pl2:List MV):Prop:=
 ∃W1 pl1,(((b / 16 % 2=1/\W.length<60/\ ∃(i j:Nat)(d:MV),W[i]? =some d/\i<j/\j<=W.length/\W1=ins W j d/\pl1=pl.set 4 (.int (j:Nat)))\/(0<=b/\b<16/\W1=W/\pl1=pl)))/\
 ∃W3 pl3,((b / 8 % 2=1/\ ∃j:Nat,j<=(W1.take 59).length/\W3=ins (W1.take 59) j (.tup [.int (T.length:Nat),.tup [.int 1]])/\pl3=pl1.set 3 (.int (j:Nat)))\/(¬b / 8 % 2=1/\W3=W1/\pl3=pl1))/\
 ∃R3 pl4,((b / 4 % 2=1/\ ∃j:Nat,j<=(R'.take 5).length/\R3=ins (R'.take 5) j zGQ/\pl4=pl3.set 2 (.int (j:Nat)))\/(¬b / 4 % 2=1/\R3=R'/\pl4=pl3))/\
 ∃T3 pl5,((b / 2 % 2=1/\ ∃(j:Nat)(d:MV),d∈zSR/\j<=(T.take 3).length/\T3=ins (T.take 3) j d/\pl5=pl4.set 1 (.int (j:Nat)))\/(¬b / 2 % 2=1/\T3=T/\pl5=pl4))/\
 pl2=pl5/\((b % 2=1/\(4<T2.length\/6<R2.length\/60<W2.length)/\(∀d∈T2,d∈T3)/\(∀d∈R2,d∈R3\/Mk d)/\ ∀d∈W2,d∈W3\/Mk d)\/(¬b % 2=1/\T2=T3/\R2=R3/\W2=W3))
section
variable{S:Sto}{p l:Nat}{T R' W pl:List MV}{q:MV}{b c:Int}{f t:Option MV}
theorem sp8(h:Ps S p l T R' W pl)(hT: ∃w k r,T=.tup [.int w,.int k]::r/\0<=w/\w<=100)(hTl:T.length<=100): ∃S' T' R'' W',gU (V7 p q b c l f t) S=.ok (.next (V7 p q b c l f t)) S'/\Ps S' p l T' R'' W' pl/\((b % 2=1/\(4<T'.length\/6<R''.length\/60<W'.length)/\(∀d∈T',d∈T)/\(∀d∈R'',d∈R'\/Mk d)/\ ∀d∈W',d∈W\/Mk d)\/(¬b % 2=1/\T'=T/\R''=R'/\W'=W)):=by
 by_cases hb:b % 2=1
 ·obtain⟨S',T',R'',W',e,hP,hs⟩:=yPB (c:=c / 17) h hT hTl
  refine⟨S',T',R'',W',?_,hP,.inl ⟨hb,hs⟩⟩
  unfold gU
  simp? [mod_lit (show(0:Int)<2 by decide),dT0 hb,yP (b:=17) (by decide) (by decide),e]
 ·refine⟨S,T,R',W,?_,h,.inr ⟨hb,rfl,rfl,rfl⟩⟩
  unfold gU
  simp? [mod_lit (show(0:Int)<2 by decide),dF0 hb,fT,iF]
end
theorem yLN{T:List MV}(hT: ∀d∈T, ∃w k,d=.tup [.int w,.int k]/\0<=w/\w<=100)(h0:T≠[]): ∃w k r,T=.tup [.int w,.int k]::r/\0<=w/\w<=100:=by
 cases T with
 |nil=>exact absurd rfl h0
 |cons d r=>
  obtain⟨w,k,rfl,h1,h2⟩:=hT d mF0
  exact⟨w,k,r,rfl,h1,h2⟩
theorem yTT(A:List MV)(j:Nat)(z:MV):ins A j z≠[]:=by
 intro h
 have:=congrArg List.length h
 simp [ins]at this
theorem zKY(A:List MV)(j:Nat)(z:MV):(ins A j z).length=A.length+1:=by
 unfold ins
 rw [lA,lC0,lT0,length_drop]
 omega
theorem zKZ{A:List MV}{j:Nat}{z d:MV}(h:d∈ins A j z):d=z\/d∈A:=by
 rcases mem_append.mp h with h|h
 ·exact .inr (mem_of_mem_take h)
 ·rcases mC.mp h with h|h
  ·exact .inl h
  ·exact .inr (List.mem_of_mem_drop h)
theorem yFM{d:MV}(h:d∈zSR): ∃w k,d=.tup [.int w,.int k]/\0<=w/\w<=100:=by
 simp only [zSR,mC,nM0,or_false]at h
 rcases h with rfl|rfl|rfl|rfl
 ·exact⟨_,_,rfl,by decide,by decide⟩
 ·exact⟨_,_,rfl,by decide,by decide⟩
 ·exact⟨_,_,rfl,by decide,by decide⟩
 ·exact⟨_,_,rfl,by decide,by decide⟩
theorem yLO{S:Sto}{p a b c:Nat}{T R' W:List MV}{ns:List Int}(h1:S[p]? =some (.lst [.loc a,.loc b,.loc c]))(h2:S[a]? =some (.lst T))(h3:S[b]? =some (.lst R'))(h4:S[c]? =some (.lst W))(ha:a≠p)(hb:b≠p)(hc:c≠p)
  (hT: ∀d∈T, ∃w k,d=.tup [.int w,.int k]/\0<=w/\w<=100) (h0:T≠[]) (hl1:T.length<=4) (hl2:R'.length<=6) (hl3:W.length<=60)
  (c4: ∃x,zO 2 zZ [.val (.scr (ns.map MV.int)),.val (.int 4)] S=.ok (.val (.int x)) S) (c5: ∃x,zO 2 zZ [.val (.scr (ns.map MV.int)),.val (.int 5)] S=.ok (.val (.int x)) S):
  ∃(bb:Int)(S':Sto)(T2 R2 W2 pl2:List MV),zO 2 gK [.val (.loc p),.val (.scr (ns.map MV.int))] S=.ok (.val (.tup [.int bb,.loc S.length])) S'/\Ps S' p S.length T2 R2 W2 pl2/\pl2.length=5/\0<=bb/\bb<32/\Sp T R' W [.int 0,.int 0,.int 0,.int 0,.int 0] bb T2 R2 W2 pl2:=by
 obtain⟨x4,hx4⟩:=c4
 obtain⟨x5,hx5⟩:=c5
 have lp:=xV h1
 have la:=xV h2
 have lb:=xV h3
 have lc:=xV h4
 have hP0:Ps (S++[.lst [.int 0,.int 0,.int 0,.int 0,.int 0]]) p S.length T R' W [.int 0,.int 0,.int 0,.int 0,.int 0]:=⟨a,b,c,yT h1,yT h2,yT h3,yT h4,by simp,by omega,⟨ha,by omega⟩,⟨hb,by omega⟩,hc,by omega⟩
 obtain⟨S4,W1,pl1,b1,f,t,e4,P4,q4,r4⟩:=sp4 (q:=.scr (ns.map MV.int)) (b:=x4 % 32) (c:=x5 % 1000000000000) hP0 rfl (by omega)
 have hW1:W1.length<=60:=by
  rcases r4 with⟨_,_,hlt,i,j,d,_,_,_,rfl,_⟩|⟨_,rfl,_⟩
  ·rw [zKY];omega
  ·exact hl3
 obtain⟨S5,W3,pl3,e5,P5,q5,r5⟩:=sp5 (q:=.scr (ns.map MV.int)) (b:=b1) (c:=x5 % 1000000000000) (f:=f) (t:=t) P4 q4 (by omega)
 obtain⟨S6,R3,pl4,e6,P6,q6,r6⟩:=sp6 (q:=.scr (ns.map MV.int)) (b:=b1) (c:=x5 % 1000000000000) (f:=f) (t:=t) P5 q5 (by omega)
 obtain⟨S7,T3,pl5,e7,P7',q7,r7⟩:=sp7 (q:=.scr (ns.map MV.int)) (b:=b1) (c:=x5 % 1000000000000) (f:=f) (t:=t) P6 q6 (by omega)
 have hT3:(∃w k r,T3=.tup [.int w,.int k]::r/\0<=w/\w<=100)/\T3.length<=100:=by
  rcases r7 with⟨_,j,d,hd,_,rfl,_⟩|⟨_,rfl,_⟩
  ·refine⟨yLN (λe he=>?_) (yTT _ _ _),by rw [zKY,lT0];omega⟩
   rcases zKZ he with rfl|he
   ·exact yFM hd
   ·exact hT e (mem_of_mem_take he)
  ·exact⟨yLN hT h0,by omega⟩
 obtain⟨S8,T2,R2,W2,e8,P8,r8⟩:=sp8 (q:=.scr (ns.map MV.int)) (b:=b1) (c:=x5 % 1000000000000) (f:=f) (t:=t) P7' hT3.1 hT3.2
 have m0:=eN x4 (show(32:Int)≠0 by decide)
 have m1:=eL x4 (show(0:Int)<32 by decide)
 have hb1:0<=b1/\b1<32:=by
  rcases r4 with⟨rfl,_⟩|⟨rfl,_⟩
  ·exact⟨m0,m1⟩
  ·omega
 refine⟨b1,S8,T2,R2,W2,pl5,?_,P8,q7,hb1.1,hb1.2,W1,pl1,?_,W3,pl3,r5,R3,pl4,r6,T3,pl5,r7,rfl,r8⟩
 ·refine zVG rfl ?_ (by unfold loL lo;simp only [loL,lo];omega)
  have e1:nN [some (.loc p),some (.scr (ns.map MV.int)),none,none,none,none,none] S=.ok (.next [some (.loc p),some (.scr (ns.map MV.int)),some (.int (x4 % 32)),none,none,none,none]) S:=by
   unfold nN
   simp? [hx4,mod_lit (show(0:Int)<32 by decide)]
  have e2:nO [some (.loc p),some (.scr (ns.map MV.int)),some (.int (x4 % 32)),none,none,none,none] S=.ok (.next [some (.loc p),some (.scr (ns.map MV.int)),some (.int (x4 % 32)),some (.int (x5 % 1000000000000)),none,none,none]) S:=by
   unfold nO
   simp? [hx5,p12,mod_lit (show(0:Int)<1000000000000 by decide)]
  have e3:nP [some (.loc p),some (.scr (ns.map MV.int)),some (.int (x4 % 32)),some (.int (x5 % 1000000000000)),none,none,none] S=.ok (.next (V7 p (.scr (ns.map MV.int)) (x4 % 32) (x5 % 1000000000000) S.length none none)) (S++[.lst [.int 0,.int 0,.int 0,.int 0,.int 0]]):=by
   unfold nP
   simp? [lst5]
  have e9:nQ (V7 p (.scr (ns.map MV.int)) b1 (x5 % 1000000000000) S.length f t) S8=.ok (.ret (.val (.tup [.int b1,.loc S.length]))) S8:=by
   unfold nQ
   simp? [bok]
  show yH (zDE [some (.loc p),some (.scr (ns.map MV.int)),none,none,none,none,none] S)=_
  unfold zDE
  rw [zE e1,zE e2,zE e3,zE e4,zE e5,zE e6,zE e7,zE e8,e9]
  rfl
 ·rcases r4 with⟨rfl,h⟩|⟨rfl,h,h'⟩
  ·exact .inl h
  ·exact .inr ⟨by omega,by omega,h,h'⟩
abbrev Z5:List MV:=[.int 0,.int 0,.int 0,.int 0,.int 0]
theorem zNV{A:List MV}{j:Nat}(h:j<=A.length):(A.take j).length=j:=by rw [lT0];omega
section
variable{ts:List (Int×Int)}{rl:List Rule}{rs:List (Nat×List MV)}{S:Sto}{p l:Nat}{T2 R2 W2 pl2:List MV}{b:Int}
def Told(S:Sto)(p:Nat)(pl2:List MV)(w:Nat):Prop:= ∃k:Nat,pl2[w]? =some (.int (k:Nat))/\zO 3 jF [.val (.loc p),.val (.int (w:Nat)),.val (.int (k:Nat))] S=.ok (.val (.bl true)) S
theorem told(hT:TOk ts)(hR: ∀r∈rl,zHX ts r)(hrl:rl.length<=6)(hW: ∀r∈rs,ROk ts r)(hnd:(rs.map yG).Nodup)(hrs:rs.length<=60)(hP:Ps S p l T2 R2 W2 pl2)(h0:0<=b)(h32:b<32)(hS:Sp (ts.map tbl) (rl.map yA) (rs.map yG) Z5 b T2 R2 W2 pl2):
  (b % 2=1->Told S p pl2 0)/\(¬b % 2=1->b / 2 % 2=1->Told S p pl2 1)/\(¬b % 2=1-> ¬b / 2 % 2=1->b / 4 % 2=1->Told S p pl2 2)/\(¬b % 2=1-> ¬b / 2 % 2=1-> ¬b / 4 % 2=1->b / 8 % 2=1->Told S p pl2 3)/\(¬b % 2=1-> ¬b / 2 % 2=1-> ¬b / 4 % 2=1-> ¬b / 8 % 2=1->b / 16 % 2=1->Told S p pl2 4):=by
 obtain⟨W1,pl1,q1,W3,pl3,q3,R3,pl4,q4,T3,pl5,q5,rfl,q2⟩:=hS
 obtain⟨u,v,x,g1,g2,g3,g4,g5,g6⟩:=hP.at
 have s2:SqM (S++[.lst []]) (.loc u) T2:=.inr ⟨_,rfl,yT g2⟩
 have s3:SqM (S++[.lst []]) (.loc v) R2:=.inr ⟨_,rfl,yT g3⟩
 have s4:SqM (S++[.lst []]) (.loc x) W2:=.inr ⟨_,rfl,yT g4⟩
 have hTl:=hT.2.1
 have hT1:=hT.1
 have lT:(ts.map tbl).length=ts.length:=lM0 _
 have lR:(rl.map yA).length=rl.length:=lM0 _
 have lW:(rs.map yG).length=rs.length:=lM0 _
 have n0:ts.map tbl≠[]:=λz=>by have:=congrArg List.length z;rw [lT]at this;simp at this;rw [this]at hT1;simp at hT1
 have w1:W1.length<=60/\pl1.length=5/\pl1[0]? =some (.int 0):=by
  rcases q1 with⟨_,hl,i,j,d,_,_,_,rfl,rfl⟩|⟨_,_,rfl,rfl⟩
  ·exact⟨by rw [zKY];omega,rfl,rfl⟩
  ·exact⟨by omega,rfl,rfl⟩
 have w3:W3.length<=60/\pl3.length=5/\pl3[0]? =some (.int 0):=by
  rcases q3 with⟨_,j,hj,rfl,rfl⟩|⟨_,rfl,rfl⟩
  ·exact⟨by rw [zKY,lT0];omega,by rw [length_set];exact w1.2.1,by rw [getElem?_set_ne (by decide)];exact w1.2.2⟩
  ·exact w1
 have r3:R3.length<=6/\pl4.length=5/\pl4[0]? =some (.int 0):=by
  rcases q4 with⟨_,j,hj,rfl,rfl⟩|⟨_,rfl,rfl⟩
  ·exact⟨by rw [zKY,lT0];omega,by rw [length_set];exact w3.2.1,by rw [getElem?_set_ne (by decide)];exact w3.2.2⟩
  ·exact⟨by omega,w3.2.1,w3.2.2⟩
 have t3:T3.length<=4/\pl2[0]? =some (.int 0):=by
  rcases q5 with⟨_,j,d,hd,hj,rfl,rfl⟩|⟨_,rfl,rfl⟩
  ·exact⟨by rw [zKY,lT0];omega,by rw [getElem?_set_ne (by decide)];exact r3.2.2⟩
  ·exact⟨by omega,r3.2.2⟩
 have rowW: ∀d∈W1, ∃r∈rs,d=yG r:=λd hd=>by
  have up: ∀d∈rs.map yG, ∃r∈rs,d=yG r:=λd hd=>by
   obtain⟨r,hr,rfl⟩:=mM0.mp hd
   exact⟨r,hr,rfl⟩
  rcases q1 with⟨_,hl,i,j,e,he,_,_,rfl,rfl⟩|⟨_,_,rfl,rfl⟩
  ·rcases zKZ hd with rfl|hd
   ·exact up _ (mem_of_getElem? he)
   ·exact up _ hd
  ·exact up _ hd
 have tbG: ∀d∈ts.map tbl,TbS (S++[.lst []]) true d:=yFK hT
 refine⟨λc0=>?_,λc0 c1=>?_,λc0 c1 c2=>?_,λc0 c1 c2 c3=>?_,λc0 c1 c2 c3 c4=>?_⟩
 ·rcases q2 with⟨_,hs,_⟩|⟨z,_⟩
  ·exact⟨0,t3.2,yHK g1 (yLH s2 s3 s4 hs)⟩
  ·exact absurd c0 z
 all_goals
  rcases q2 with⟨z,_⟩|⟨_,rfl,rfl,rfl⟩
  ·exact absurd z c0
 ·rcases q5 with⟨_,j,d,hd,hj,rfl,rfl⟩|⟨z,_⟩
  ·refine⟨j,getElem?_set_self (by rw [r3.2.1];decide),?_⟩
   have bk:=yLI (A:=((ts.map tbl).take 3).take j) (B':=((ts.map tbl).take 3).drop j) (z:=d) s2 s3 s4 t3.1 r3.1 w3.1 (λe he=>tbG e (mem_of_mem_take (mem_of_mem_take he))) (yTQ hd _)
   rw [zNV hj]at bk
   exact zRD (w:=1) g1 (by decide) rfl (by decide) bk
  ·exact absurd c1 z
 all_goals
  rcases q5 with⟨z,_⟩|⟨_,rfl,rfl⟩
  ·exact absurd z c1
 ·rcases q4 with⟨_,j,hj,rfl,rfl⟩|⟨z,_⟩
  ·refine⟨j,getElem?_set_self (by rw [w3.2.1];decide),?_⟩
   have bk:=yOX (A:=((rl.map yA).take 5).take j) (B':=((rl.map yA).take 5).drop j) (z:=zGQ) s2 s3 s4 t3.1 r3.1 w3.1 n0 tbG (λe he=>zRE s2 hR e (mem_of_mem_take (mem_of_mem_take he))) (yTS s2 hT)
   rw [zNV hj]at bk
   exact zRD (w:=2) g1 (by decide) rfl (by decide) bk
  ·exact absurd c2 z
 all_goals
  rcases q4 with⟨z,_⟩|⟨_,rfl,rfl⟩
  ·exact absurd z c2
 ·rcases q3 with⟨_,j,hj,rfl,rfl⟩|⟨z,_⟩
  ·refine⟨j,getElem?_set_self (by rw [w1.2.1];decide),?_⟩
   have bk:=yTL (A:=(W1.take 59).take j) (B':=(W1.take 59).drop j) (z:=.tup [.int ((ts.map tbl).length:Nat),.tup [.int 1]]) s2 s3 s4 t3.1 r3.1 w3.1 n0 tbG (zRE s2 hR) (λe he=>by
    obtain⟨r,hr,rfl⟩:=rowW e (mem_of_mem_take (mem_of_mem_take he))
    exact yLA s2 (hW r hr) hT) (by rw [lT];exact yTR s2)
   rw [zNV hj]at bk
   exact zRD (w:=3) g1 (by decide) rfl (by decide) bk
  ·exact absurd c3 z
 ·rcases q3 with⟨z,_⟩|⟨_,rfl,rfl⟩
  ·exact absurd z c3
  rcases q1 with⟨_,hl,i,j,d,hd,hij,hj,rfl,rfl⟩|⟨z1,z2,_⟩
  ·refine⟨j,rfl,?_⟩
   have bk:=yFG s2 s3 s4 t3.1 r3.1 w3.1 n0 tbG (zRE s2 hR) (λe he=>by
    obtain⟨r,hr,rfl⟩:=rowW e he
    exact yLA s2 (hW r hr) hT) (λe he=>by
    obtain⟨r,hr,rfl⟩:=rowW e he
    exact yEV (hW r hr))
   have du:zMH [] (ins (rs.map yG) j d) 0=some j:=by
    have hm:d∈(rs.map yG).take j:=by
     have:((rs.map yG).take j)[i]? =some d:=by rw [List.getElem?_take_of_lt hij];exact hd
     exact mem_of_getElem? this
    have:=yLF (A:=(rs.map yG).take j) (P:=[]) (B':=(rs.map yG).drop j) (d:=d) (n:=0) (by rw [nil_append];exact hnd.sublist (List.take_sublist _ _)) hm
    rw [zNV hj,zero_add]at this
    exact this
   rw [du]at bk
   exact zRD (w:=4) g1 (by decide) rfl (by decide) bk
  ·omega
end
theorem zLA(ns:List Int)(k:Int)(hk:0<=k)(S:Sto): ∃c,zO 2 zZ [.val (.scr (ns.map MV.int)),.val (.int k)] S=.ok (.val (.int c)) S:=by
 have hlen:wC [.val (.scr (ns.map MV.int))] S=.ok (.val (.int ns.length)) S:=by
  show R.ok (Er.val (.int (((ns.map MV.int).length:Nat):Int))) S=_
  rw [lM0]
 have e1:nF [some (.scr (ns.map MV.int)),some (.int k)] S=if decide (k<ns.length)=true then(ixF (.val (.scr (ns.map MV.int))) (.val (.int k)) S).bind λr S1=>.ok (.ret r) S1 else .ok (.next [some (.scr (ns.map MV.int)),some (.int k)]) S:=by
  unfold nF
  simp? [hlen,lt_int]
 have fin: ∀c,zZ [.scr (ns.map MV.int),.int k] S=.ok (.val (.int c)) S-> ∃c,zO 2 zZ [.val (.scr (ns.map MV.int)),.val (.int k)] S=.ok (.val (.int c)) S:=λc h=>⟨c,zGA rfl h (jY _ _) (λl=>by simp)⟩
 have hs:zS ["_law_script","_law_k"] [.scr (ns.map MV.int),.int k]=[some (.scr (ns.map MV.int)),some (.int k)]:=rfl
 by_cases hlt:k<ns.length
 ·obtain⟨d,hd⟩:=nX (xs:=ns.map MV.int) (i:=k) hk (by rw [lM0];exact hlt)
  obtain⟨c,rfl⟩: ∃c,d=.int c:=nY (P:=λd=> ∃c,d=.int c) (λe he=>by obtain⟨c,_,rfl⟩:=mM0.mp he;exact⟨c,rfl⟩) hd
  have hix:ixF (.val (.scr (ns.map MV.int))) (.val (.int k)) S=.ok (.val (.int c)) S:=by
   show(match atI (ns.map MV.int) k with |some d=>R.ok (Er.val d) S|none=>.no)=_
   rw [hd]
  refine fin c ?_
  rw [dT0 hlt,iP rfl,hix,bok]at e1
  unfold zZ zCS
  rw [hs,bR e1]
  rfl
 ·refine fin 0 ?_
  rw [dF0 hlt,iN0 xF0]at e1
  unfold zZ zCS
  rw [hs,zE e1]
  rfl
theorem yLP: ∀{ts:List (Int×Int)}{o:List MV},(∀y∈o, ∃r,zHX ts r/\y=yA r)-> ∃rl:List Rule,o=rl.map yA/\ ∀r∈rl,zHX ts r:=by
 intro ts o
 induction o with
 |nil=>exact λ_=>⟨[],rfl,λc hc=>by simp at hc⟩
 |cons a o ih=>
  intro h
  obtain⟨r,hr,rfl⟩:=h a mF0
  obtain⟨rl,rfl,hrl⟩:=ih λy hy=>h y (mO _ hy)
  exact⟨r::rl,rfl,λd hd=>(mC.mp hd).elim (λe=>e▸hr) (hrl d)⟩
theorem SqM.list{S:Sto}{m:MV}{ds:List MV}(h:SqM S m ds):zUS [.val m] S=.ok (.new ds) S:=by
 rcases h with rfl|⟨l,rfl,hS⟩
 ·rfl
 ·show(match itemsOf S (.val (.loc l))with |some ds=>R.ok (Er.new ds) S|none=>.no)=_
  rw [show itemsOf S (.val (.loc l))=some ds by unfold itemsOf;exact cR hS]
theorem zST{gf:MV->Rho->Sto->R Rho}{cf:Rho->Sto->R Bool}{ef:Rho->Sto->R Er}{ρb ρ1:Rho}{gs:List (Nat×List MV)}{d:MV}{r ds:List MV}{S:Sto}(hg:gf d ρb S=.ok ρ1 S)(hc:cf ρ1 S=.ok true S)(he:ef ρ1 S=.ok (.new ds) S)(hs:stay gs (S++[.lst ds])):
  xX gf cf ef ρb gs (d::r) S=(xX gf cf ef ρb gs r (S++[.lst ds])).bind λout S4=>.ok (.loc S.length::out) S4:=by
 rw [xX,hg,wN,bok,hc,wN,bok,iP rfl,he,wN,bok]
 unfold zCD
 rw [bok,iP hs]
theorem yPY{cf:Rho->Sto->R Bool}{ef:Rho->Sto->R Er}{gs:List (Nat×List MV)}{x y z:MV}{A B C:List MV}{S:Sto}(hc: ∀ρ S,cf ρ S=.ok true S)(he: ∀(d:MV) S,ef [some d] S=zUS [.val d] S)(hx:SqM S x A)(hy:SqM S y B)(hz:SqM S z C)(hs: ∀L,stay gs (S++L)):
  xX (gNm 0) cf ef [none] gs [x,y,z] S=.ok [.loc S.length,.loc (S.length+1),.loc (S.length+2)] (S++[.lst A,.lst B,.lst C]):=by
 have g: ∀(d:MV)(S:Sto),gNm 0 d [none] S=.ok [some d] S:=λd S=>rfl
 rw [zST (ds:=A) (g x _) (hc _ _) (by rw [he];exact hx.list) (hs _)]
 rw [zST (ds:=B) (g y _) (hc _ _) (by rw [he];exact hy.app.list) (by rw [aA];exact hs _)]
 rw [zST (ds:=C) (g z _) (hc _ _) (by rw [he];exact hz.app.app.list) (by rw [aA,aA];exact hs _)]
 show R.ok [MV.loc S.length,.loc (S++[MO.lst A]).length,.loc (S++[MO.lst A]++[MO.lst B]).length] (S++[.lst A]++[.lst B]++[.lst C])=_
 simp only [lA,aA]
 rfl
theorem yLQ{S:Sto}{l h u v x u' v' x':Nat}{ds es fs:List MV}(hl:S[l]? =some (.lst [.loc u,.loc v,.loc x]))(hh:S[h]? =some (.lst [.loc u',.loc v',.loc x']))(hu:S[u]? =some (.lst ds))(hu':S[u']? =some (.lst ds))(hv:S[v]? =some (.lst es))(hv':S[v']? =some (.lst es))(hx:S[x]? =some (.lst fs))(hx':S[x']? =some (.lst fs))(hd: ∀d∈ds,pq d=true/\dpt d<39)(he: ∀d∈es,pq d=true/\dpt d<39)(hf: ∀d∈fs,pq d=true/\dpt d<39):
  neF (.val (.loc l)) (.val (.loc h)) S=.ok (.val (.bl false)) S:=by
 have e: ∀{l:Nat}{xs:List MV},S[l]? =some (.lst xs)->vwE S (.val (.loc l))=some (.ls xs):=λ{l xs} h=>by
  show(dQ S (.val (.loc l))).map Vw.ls=_
  rw [cR h];rfl
 have q:zLU S yO (.val (.loc l)) (.val (.loc h))=some true:=by
  unfold zLU
  rw [e hl,e hh]
  show((eqv S 40 (.loc u) (.loc u')).bind λk=>((eqv S 40 (.loc v) (.loc v')).bind λk=>((eqv S 40 (.loc x) (.loc x')).bind λk=>(some ([]:List Bool)).map (k::·)).map (k::·)).map (k::·)).map (λbs=>bs.all id)=_
  rw [yCL hu hu' hd,yCL hv hv' he,yCL hx hx' hf]
  rfl
 unfold neF
 rw [q]
 rfl
def Tq(n:Nat)(d:MV):Prop:=pq d=true/\dpt d<=n
theorem xI(n:Nat)(i:Int):Tq n (.int i):=⟨yTM i,by rw [zBS];exact zero_le _⟩
theorem nU(n:Nat){x:List Nat}(h:x.length<=1000):Tq n (.str x):=⟨yTN h,by rw [zHV];exact zero_le _⟩
theorem bA{n:Nat}{ds:List MV}(h: ∀d∈ds,Tq n d)(hl:ds.length<=1000):Tq (n+1) (.tup ds):=⟨yTO (λd hd=>(h d hd).1) hl,by rw [kI];exact Nat.succ_le_succ (zEC λd hd=>(h d hd).2)⟩
theorem Tq.up{n m:Nat}{d:MV}(h:Tq n d)(hn:n<=m):Tq m d:=⟨h.1,le_trans h.2 hn⟩
theorem yPZ{d:MV}(h:Mk d):Tq 6 d:=by
 rcases h with rfl|⟨k,n,hn,rfl⟩
 ·have two: ∀{n:Nat}{a b:MV},Tq n a->Tq n b->Tq (n+1) (.tup [a,b]):=λ{n a b} h1 h2=>bA (λe he=>by
   rcases mC.mp he with rfl|he
   ·exact h1
   ·rw [mS.mp he];exact h2) (by simp)
  have three: ∀{n:Nat}{a b c:MV},Tq n a->Tq n b->Tq n c->Tq (n+1) (.tup [a,b,c]):=λ{n a b c} h1 h2 h3=>bA (λe he=>by
   simp only [mC,nM0,or_false]at he
   rcases he with rfl|rfl|rfl
   ·exact h1
   ·exact h2
   ·exact h3) (by simp)
  have t1:Tq 1 (.tup [.str [99,101,108,108],.int 0,.int 0]):=three (nU 0 (by decide)) (xI 0 _) (xI 0 _)
  have t2:Tq 1 (.tup [.str [105,115],.int 1]):=two (nU 0 (by decide)) (xI 0 _)
  have t3:Tq 2 (.tup [.tup [.str [99,101,108,108],.int 0,.int 0],.str [115,97,109,101],.tup [.str [105,115],.int 1]]):=three t1 (nU 1 (by decide)) t2
  have t4:Tq 3 (.tup [.tup [.tup [.str [99,101,108,108],.int 0,.int 0],.str [115,97,109,101],.tup [.str [105,115],.int 1]]]):=bA (λe he=>by rw [mS.mp he];exact t3) (by simp)
  exact(three (nU 3 (by decide)) (xI 3 _) t4).up (by decide)
 ·refine(bA (n:=1) (λe he=>?_) (by simp)).up (by decide)
  rcases mC.mp he with rfl|he
  ·exact xI 1 _
  ·rw [mS.mp he]
   refine bA (n:=0) (λe he=>?_) (by rw [len_rep];simp;omega)
   obtain⟨z,z1,z2⟩:=mem_flatten.mp he
   rw [List.eq_of_mem_replicate z1]at z2
   rw [mS.mp z2]
   exact xI 0 _
theorem tq_1{n:Nat}{a:MV}(h1:Tq n a):Tq (n+1) (.tup [a]):=bA (λe he=>by
 rw [mS.mp he]
 exact h1) (by simp)
theorem yLR{n:Nat}{a b:MV}(h1:Tq n a)(h2:Tq n b):Tq (n+1) (.tup [a,b]):=bA (λe he=>by
 rcases mC.mp he with rfl|he
 ·exact h1
 ·rw [mS.mp he];exact h2) (by simp)
theorem tq_3{n:Nat}{a b c:MV}(h1:Tq n a)(h2:Tq n b)(h3:Tq n c):Tq (n+1) (.tup [a,b,c]):=bA (λe he=>by
 rcases mC.mp he with rfl|he
 ·exact h1
 rcases mC.mp he with rfl|he
 ·exact h2
 ·rw [mS.mp he];exact h3) (by simp)
theorem yFN{ws:List Int}{sd:Side}(h:zZF ws sd): ∃as,xT sd=.tup as/\(∀d∈as,Tq 2 d)/\as.length<=100:=by
 cases sd with
 |isv v=>
  refine⟨[.str sIs,v],rfl,λd hd=>?_,by simp⟩
  rcases mC.mp hd with rfl|hd
  ·exact nU 2 (by decide)
  ·rw [mS.mp hd]
   have hv:Vl v:=h
   cases v with
   |int i=>exact xI 2 _
   |str x=>exact nU 2 (le_trans hv.2.1 (by decide))
   |_=>exact False.elim hv
 |cell k j=>
  refine⟨[.str zGN,.int k,.int j],rfl,λd hd=>?_,by simp⟩
  simp only [mC,nM0,or_false]at hd
  rcases hd with rfl|rfl|rfl
  ·exact nU 2 (by decide)
  ·exact xI 2 _
  ·exact xI 2 _
theorem yTU: ∀x∈words3,x.length<=1000:=by decide
theorem yPC{ws:List Int}{q:Test}(h:zOY ws q):Tq 4 (testM q):=by
 obtain⟨h1,h2,h3⟩:=h
 obtain⟨as,e1,a1,a2⟩:=yFN h1
 obtain⟨cs,e2,c1,c2⟩:=yFN h3
 show Tq 4 (.tup [xT q.l,.str q.w,xT q.r])
 rw [e1,e2]
 exact tq_3 (bA a1 (by omega)) (nU 3 (yTU _ h2)) (bA c1 (by omega))
theorem zZQ{ws:List Int}{qs:List Test}(h: ∀q∈qs,zOY ws q)(hl:qs.length<=3):Tq 5 (.tup (qs.map testM)):=bA (λd hd=>by
 obtain⟨q,hq,rfl⟩:=mM0.mp hd
 exact yPC (h q hq)) (by rw [lM0];omega)
theorem yFO{cs:List Nat}(hl:cs.length<=3):Tq 5 (.tup (cs.map yL)):=(bA (n:=0) (λd hd=>by
 obtain⟨q,hq,rfl⟩:=mM0.mp hd
 exact xI 0 _) (by rw [lM0];omega)).up (by decide)
section
variable{ts:List (Int×Int)}{rl:List Rule}{rs:List (Nat×List MV)}{T2 R2 W2 pl2:List MV}{b:Int}
theorem yTV(p:Int×Int):Tq 6 (tbl p):=(yLR (xI 0 _) (xI 0 _)).up (by decide)
theorem yPD{r:Rule}(h:zHX ts r):Tq 6 (yA r):=by
 cases r with
 |never t qs=>
  obtain⟨_,q1,q2,q3⟩:=h
  exact tq_3 (nU 5 (by decide)) (xI 5 _) (zZQ q3 q2)
 |apart t u qs=>
  obtain⟨_,_,q1,q2,q3⟩:=h
  refine bA (n:=5) (λe he=>?_) (by simp)
  simp only [mC,nM0,or_false]at he
  rcases he with rfl|rfl|rfl|rfl
  ·exact nU 5 (by decide)
  ·exact xI 5 _
  ·exact xI 5 _
  ·exact zZQ q3 q2
 |tie t cs u ds=>
  obtain⟨_,_,q1,q2,q3,_,_⟩:=h
  refine bA (n:=5) (λe he=>?_) (by simp)
  simp only [mC,nM0,or_false]at he
  rcases he with rfl|rfl|rfl|rfl|rfl
  ·exact nU 5 (by decide)
  ·exact xI 5 _
  ·exact yFO q2
  ·exact xI 5 _
  ·exact yFO (by omega)
theorem yTW(hT:TOk ts){r:Nat×List MV}(h:ROk ts r):Tq 6 (yG r):=by
 obtain⟨p,h1,h2,h3⟩:=h
 have hp:=hT.2.2 p (mem_of_getElem? h1)
 refine(yLR (xI 1 _) (bA (n:=0) (λd hd=>?_) (by omega))).up (by decide)
 have hv:=h3 d hd
 rcases hv.cases with⟨i,rfl,_⟩|⟨x,rfl,hx⟩
 ·exact xI 0 _
 ·exact nU 0 (le_trans hx.2.1 (by decide))
theorem yPE:Tq 6 zGQ:=by
 refine bA (n:=5) (λe he=>?_) (by simp)
 simp only [mC,nM0,or_false]at he
 rcases he with rfl|rfl|rfl|rfl|rfl
 ·exact nU 5 (by decide)
 ·exact xI 5 _
 ·exact(tq_1 (xI 0 _)).up (by decide)
 ·exact xI 5 _
 ·exact(yLR (xI 0 _) (xI 0 _)).up (by decide)
theorem yPF{d:MV}(h:d∈zSR):Tq 6 d:=by
 obtain⟨w,k,rfl,_⟩:=yFM h
 exact(yLR (xI 0 _) (xI 0 _)).up (by decide)
theorem yLS(hT:TOk ts)(hR: ∀r∈rl,zHX ts r)(hW: ∀r∈rs,ROk ts r)(hS:Sp (ts.map tbl) (rl.map yA) (rs.map yG) Z5 b T2 R2 W2 pl2):(∀d∈T2,Tq 6 d)/\(∀d∈R2,Tq 6 d)/\ ∀d∈W2,Tq 6 d:=by
 obtain⟨W1,pl1,q1,W3,pl3,q3,R3,pl4,q4,T3,pl5,q5,rfl,q2⟩:=hS
 have a1: ∀d∈rs.map yG,Tq 6 d:=λd hd=>by
  obtain⟨r,hr,rfl⟩:=mM0.mp hd
  exact yTW hT (hW r hr)
 have a2: ∀d∈W1,Tq 6 d:=λd hd=>by
  rcases q1 with⟨_,hl,i,j,e,he,_,_,rfl,_⟩|⟨_,_,rfl,_⟩
  ·rcases zKZ hd with rfl|hd
   ·exact a1 _ (mem_of_getElem? he)
   ·exact a1 _ hd
  ·exact a1 _ hd
 have a3: ∀d∈W3,Tq 6 d:=λd hd=>by
  rcases q3 with⟨_,j,hj,rfl,_⟩|⟨_,rfl,_⟩
  ·rcases zKZ hd with rfl|hd
   ·exact(yLR (xI 1 _) (tq_1 (xI 0 _))).up (by decide)
   ·exact a2 _ (mem_of_mem_take hd)
  ·exact a2 _ hd
 have a4: ∀d∈R3,Tq 6 d:=λd hd=>by
  have up: ∀d∈rl.map yA,Tq 6 d:=λd hd=>by
   obtain⟨r,hr,rfl⟩:=mM0.mp hd
   exact yPD (hR r hr)
  rcases q4 with⟨_,j,hj,rfl,_⟩|⟨_,rfl,_⟩
  ·rcases zKZ hd with rfl|hd
   ·exact yPE
   ·exact up _ (mem_of_mem_take hd)
  ·exact up _ hd
 have a5: ∀d∈T3,Tq 6 d:=λd hd=>by
  have up: ∀d∈ts.map tbl,Tq 6 d:=λd hd=>by
   obtain⟨p,_,rfl⟩:=mM0.mp hd
   exact yTV p
  rcases q5 with⟨_,j,z,hz,hj,rfl,_⟩|⟨_,rfl,_⟩
  ·rcases zKZ hd with rfl|hd
   ·exact yPF hz
   ·exact up _ (mem_of_mem_take hd)
  ·exact up _ hd
 rcases q2 with⟨_,_,m1,m2,m3⟩|⟨_,rfl,rfl,rfl⟩
 ·exact⟨λd hd=>a5 d (m1 d hd),λd hd=>(m2 d hd).elim (a4 d) yPZ,λd hd=>(m3 d hd).elim (a3 d) yPZ⟩
 ·exact⟨a5,a4,a3⟩
end
theorem yPG(i:Int)(S:Sto):zWI (.val (.int i)) (.val .non) S=.ok (.val (.bl false)) S:=rfl
theorem yPH(i:List Nat)(S:Sto):zWI (.val (.str i)) (.val .non) S=.ok (.val (.bl false)) S:=rfl
theorem yLT(i:List MV)(S:Sto):zWI (.val (.tup i)) (.val .non) S=.ok (.val (.bl false)) S:=rfl
theorem yTX(i:List MV)(S:Sto):cQ [.val (.tup i),.val (.typ "str")] S=.ok (.val (.bl false)) S:=rfl
theorem yTY(i:List MV)(S:Sto):cQ [.val (.tup i),.val (.typ "int")] S=.ok (.val (.bl false)) S:=rfl
theorem yTZ(i:List MV)(S:Sto):cQ [.val (.tup i),.val (.typ "list")] S=.ok (.val (.bl false)) S:=rfl
theorem zSU(ds:List MV):pairs ds ds=ds.map λd=>.tup [d,d]:=by
 induction ds with
 |nil=>rfl
 |cons d ds ih=>show MV.tup [d,d]::pairs ds ds=_;rw [ih];rfl
mutual
def sm:MV->Bool
 |.tup ds=>decide (ds.length<1000)&&smL ds
 |_=>true
def smL:List MV->Bool
 |[]=>true
 |d::ds=>sm d&&smL ds
end
theorem zBG(ds:List MV):sm (.tup ds)=(decide (ds.length<1000)&&smL ds):=by rw [sm]
theorem xF(d:MV)(ds:List MV):smL (d::ds)=(sm d&&smL ds):=by rw [smL]
theorem yFP: ∀{ds:List MV},smL ds=true-> ∀d∈ds,sm d=true
 |[],_,d,h=>by simp at h
 |e::ds,hp,d,h=>by
  rw [xF,aE]at hp
  rcases mC.mp h with rfl|h
  ·exact hp.1
  ·exact yFP hp.2 d h
theorem zHZ: ∀{ds:List MV},(∀d∈ds,sm d=true)->smL ds=true
 |[],_=>by rw [smL]
 |d::ds,h=>by rw [xF,h d mF0,zHZ λe he=>h e (mO _ he)];rfl
theorem zZR: ∀(n:Nat){d:MV}(S:Sto),pd d=true->sm d=true->dpt d<n->zO 2 (zY n) [.val d,.val d] S=.ok (.val (.bl true)) S
 |0,d,S,_,_,h=>by omega
 |n+1,d,S,hp,hsm,h=>xZ rfl (by
  show yH (zHM (zY n) [some d,some d] S)=_
  unfold zHM
  rcases zSL hp with⟨i,rfl⟩|⟨x,rfl⟩|⟨ds,rfl,pds⟩
  ·rw [zE (show wR (zY n) [some (.int i),some (.int i)] S=.ok (.next [some (.int i),some (.int i)]) S by unfold wR;simp? [yPG];rfl)]
   rw [zE (show wS (zY n) [some (.int i),some (.int i)] S=.ok (.next [some (.int i),some (.int i)]) S by unfold wS;simp? [bok];rfl)]
   rw [bR (show gH (zY n) [some (.int i),some (.int i)] S=.ok (.ret (.val (.bl true))) S by unfold gH;simp? [yKW,yCK,zFW];first |rfl|simp [bok])]
   rfl
  ·rw [zE (show wR (zY n) [some (.str x),some (.str x)] S=.ok (.next [some (.str x),some (.str x)]) S by unfold wR;simp? [yPH];rfl)]
   rw [bR (show wS (zY n) [some (.str x),some (.str x)] S=.ok (.ret (.val (.bl true))) S by unfold wS;simp? [zFW,eq_str];first |rfl|simp [bok])]
   rfl
  ·rw [kI]at h
   rw [zBG,aE,decide_eq_true_eq]at hsm
   have hlen:ds.length<1000000:=by omega
   have hc:xX (gTp 2 (zX (gNm 0) (zX (gNm 1) kR))) (zGK (zY n)) (nG (zY n)) [none,none] [] (pairs ds ds) S=.ok ((pairs ds ds).map λ_=>.bl true) S:=gA (kU S) λe he=>by
    rw [zSU]at he
    obtain⟨x,hx,rfl⟩:=mM0.mp he
    refine⟨[some x,some x],rfl,rfl,?_⟩
    unfold nG
    simp? [zZR n S (zRB pds x hx) (yFP hsm.2 x hx) (by have:=zNS x hx;omega)]
   rw [zE (show wR (zY n) [some (.tup ds),some (.tup ds)] S=.ok (.next [some (.tup ds),some (.tup ds)]) S by unfold wR;simp? [yLT];rfl)]
   rw [zE (show wS (zY n) [some (.tup ds),some (.tup ds)] S=.ok (.next [some (.tup ds),some (.tup ds)]) S by unfold wS;simp? [yTX];rfl)]
   rw [zE (show gH (zY n) [some (.tup ds),some (.tup ds)] S=.ok (.next [some (.tup ds),some (.tup ds)]) S by unfold gH;simp? [yTY];rfl)]
   rw [zE (show zCU (zY n) [some (.tup ds),some (.tup ds)] S=.ok (.next [some (.tup ds),some (.tup ds)]) S by unfold zCU;simp? [yTZ];rfl)]
   rw [zE (show zCV (zY n) [some (.tup ds),some (.tup ds)] S=.ok (.next [some (.tup ds),some (.tup ds)]) S by unfold zCV;simp? [bok];rfl)]
   unfold zJX
   simp? [zEB,zFW,show itZ [.val (.tup ds),.val (.tup ds)] S=.ok ⟨pairs ds ds,[]⟩ S from rfl]
   rw [iP (show(pairs ds ds).length<1000000 by rw [zSU,lM0];exact hlen)]
   rw [show blk 2 [] [some (.tup ds),some (.tup ds)]=[none,none]from rfl,hc,zGP]
   simp [bok,zGO]
   rfl)
theorem yFQ{ws:List Int}{sd:Side}(h:zZF ws sd):pd (xT sd)=true/\dpt (xT sd)<=1/\sm (xT sd)=true:=by
 cases sd with
 |isv v=>
  have hv:Vl v:=h
  rcases hv.cases with⟨i,rfl,_⟩|⟨x,rfl,_⟩<;>(unfold xT;simp [pd,pdL,dpt,zIP,sm,smL])
 |cell k j=>unfold xT;simp [pd,pdL,dpt,zIP,sm,smL]
theorem zXJ{ws:List Int}{q:Test}(h:zOY ws q):pd (testM q)=true/\dpt (testM q)<=2/\sm (testM q)=true:=by
 obtain⟨a1,a2,a3⟩:=yFQ h.1
 obtain⟨b1,b2,b3⟩:=yFQ h.2.2
 unfold testM
 refine⟨by simp [pd,pdL,a1,b1],?_,by simp [sm,smL,a3,b3]⟩
 rw [kI,yI,yI,yI,zDF,zHV]
 omega
theorem zZS{ws:List Int}{qs:List Test}(h: ∀q∈qs,zOY ws q)(hl:qs.length<=3):pd (.tup (qs.map testM))=true/\dpt (.tup (qs.map testM))<=3/\sm (.tup (qs.map testM))=true:=by
 refine⟨?_,?_,?_⟩
 ·rw [nR];exact zHW λd hd=>by obtain⟨q,hq,rfl⟩:=mM0.mp hd;exact(zXJ (h q hq)).1
 ·rw [kI];have:=zEC (n:=2) (ds:=qs.map testM) λd hd=>by obtain⟨q,hq,rfl⟩:=mM0.mp hd;exact(zXJ (h q hq)).2.1
  omega
 ·rw [zBG,dT0 (by rw [lM0];omega),zHZ λd hd=>by obtain⟨q,hq,rfl⟩:=mM0.mp hd;exact(zXJ (h q hq)).2.2];rfl
theorem yFR{cs:List Nat}(hl:cs.length<=3):pd (.tup (cs.map yL))=true/\dpt (.tup (cs.map yL))<=1/\sm (.tup (cs.map yL))=true:=by
 refine⟨?_,?_,?_⟩
 ·rw [nR];exact zHW λd hd=>by obtain⟨q,hq,rfl⟩:=mM0.mp hd;exact zKB _
 ·rw [kI];have:=zEC (n:=0) (ds:=cs.map yL) λd hd=>by obtain⟨q,hq,rfl⟩:=mM0.mp hd;exact Nat.le_of_eq (zBS _)
  omega
 ·rw [zBG,dT0 (by rw [lM0];omega),zHZ λd hd=>by obtain⟨q,hq,rfl⟩:=mM0.mp hd;unfold yL;simp [sm]];rfl
theorem zXK{ts:List (Int×Int)}{r:Rule}(h:zHX ts r):pd (yA r)=true/\dpt (yA r)<=4/\sm (yA r)=true:=by
 cases r with
 |never t qs=>
  obtain⟨a1,a2,a3⟩:=zZS h.2.2.2 h.2.2.1
  unfold yA
  refine⟨?_,?_,?_⟩
  ·rw [nR,xC,xC,xC,zKX,a1,zOW,zKB];rfl
  ·rw [kI,yI,yI,yI,zDF,zHV,zBS];omega
  ·rw [zBG,xF,xF,xF,a3];simp [sm,smL]
 |apart t u qs=>
  obtain⟨a1,a2,a3⟩:=zZS h.2.2.2.2 h.2.2.2.1
  unfold yA
  refine⟨?_,?_,?_⟩
  ·rw [nR,xC,xC,xC,xC,zKX,a1,zOW,zKB,zKB];rfl
  ·rw [kI,yI,yI,yI,yI,zDF,zHV,zBS,zBS];omega
  ·rw [zBG,xF,xF,xF,xF,a3];simp [sm,smL]
 |tie t cs u ds=>
  obtain⟨_,_,_,hc,hd,_⟩:=h
  obtain⟨a1,a2,a3⟩:=yFR (cs:=cs) hc
  obtain⟨b1,b2,b3⟩:=yFR (cs:=ds) (by omega)
  unfold yA
  refine⟨?_,?_,?_⟩
  ·rw [nR,xC,xC,xC,xC,xC,zKX,a1,b1,zOW,zKB,zKB];rfl
  ·rw [kI,yI,yI,yI,yI,yI,zDF,zHV,zBS,zBS];omega
  ·rw [zBG,xF,xF,xF,xF,xF,a3,b3];simp [sm,smL]
theorem yCO(p:Int×Int):pd (tbl p)=true/\dpt (tbl p)<=1/\sm (tbl p)=true:=by unfold tbl;simp [pd,pdL,dpt,zIP,sm,smL]
theorem yUA{ts:List (Int×Int)}(hT:TOk ts){r:Nat×List MV}(h:ROk ts r):sm (yG r)=true:=by
 obtain⟨p,hp,hl,hv⟩:=h
 have hw:=hT.2.2 p (mem_of_getElem? hp)
 have hs:smL r.2=true:=zHZ λd hd=>by
  rcases (hv d hd).cases with⟨i,rfl,_⟩|⟨x,rfl,_⟩<;>simp [sm]
 unfold yG
 rw [zBG,xF,xF,zBG,hs,dT0 (show r.2.length<1000 by omega)]
 simp [sm,smL]
abbrev zLN(ts:List (Int×Int))(rl:List Rule)(rs:List (Nat×List MV)):MV:=.tup [.tup (ts.map tbl),.tup (rl.map yA),.tup (rs.map yG)]
section
variable{ts:List (Int×Int)}{rl:List Rule}{rs:List (Nat×List MV)}
theorem yPI(hT:TOk ts)(hR: ∀r∈rl,zHX ts r)(hrl:rl.length<=6)(hr: ∀r∈rs,ROk ts r)(hl:rs.length<=60):pd (zLN ts rl rs)=true/\dpt (zLN ts rl rs)<8/\sm (zLN ts rl rs)=true:=by
 have a:pdL (ts.map tbl)=true/\zIP (ts.map tbl)<=1/\smL (ts.map tbl)=true:=⟨zHW λd hd=>by obtain⟨p,_,rfl⟩:=mM0.mp hd;exact(yCO p).1,zEC λd hd=>by obtain⟨p,_,rfl⟩:=mM0.mp hd;exact(yCO p).2.1,zHZ λd hd=>by obtain⟨p,_,rfl⟩:=mM0.mp hd;exact(yCO p).2.2⟩
 have b:pdL (rl.map yA)=true/\zIP (rl.map yA)<=4/\smL (rl.map yA)=true:=⟨zHW λd hd=>by obtain⟨p,hp,rfl⟩:=mM0.mp hd;exact(zXK (hR p hp)).1,zEC λd hd=>by obtain⟨p,hp,rfl⟩:=mM0.mp hd;exact(zXK (hR p hp)).2.1,zHZ λd hd=>by obtain⟨p,hp,rfl⟩:=mM0.mp hd;exact(zXK (hR p hp)).2.2⟩
 have c:pdL (rs.map yG)=true/\zIP (rs.map yG)<=2/\smL (rs.map yG)=true:=⟨zHW λd hd=>by obtain⟨p,hp,rfl⟩:=mM0.mp hd;exact(zSN (hr p hp)).1,zEC λd hd=>by obtain⟨p,hp,rfl⟩:=mM0.mp hd;exact(zSN (hr p hp)).2,zHZ λd hd=>by obtain⟨p,hp,rfl⟩:=mM0.mp hd;exact yUA hT (hr p hp)⟩
 have h4:=hT.2.1
 refine⟨?_,?_,?_⟩
 ·rw [nR,xC,xC,xC,zKX,nR,nR,nR,a.1,b.1,c.1];rfl
 ·rw [kI,yI,yI,yI,zDF,kI,kI,kI];omega
 ·rw [zBG,xF,xF,xF,zBG,zBG,zBG,a.2.2,b.2.2,c.2.2,dT0 (show(ts.map tbl).length<1000 by rw [lM0];omega),dT0 (show(rl.map yA).length<1000 by rw [lM0];omega),dT0 (show(rs.map yG).length<1000 by rw [lM0];omega)]
  simp [smL]
end
theorem zNW{S:Sto}{gf:MV->Rho->Sto->R Rho}{cf:Rho->Sto->R Bool}{ef:Rho->Sto->R Er}{ρb:Rho}{gs:List (Nat×List MV)}{p:MV->Bool}(hs:stay gs S):
  ∀{ds:List MV},(∀d∈ds, ∃ρ1,gf d ρb S=.ok ρ1 S/\cf ρ1 S=.ok (p d) S/\ef ρ1 S=.ok (.val d) S)->xX gf cf ef ρb gs ds S=.ok (ds.filter p) S
 |[],_=>rfl
 |d::ds,st=>by
  obtain⟨ρ1,h1,h2,h3⟩:=st d mF0
  have e:=zNW hs (p:=p) (ds:=ds) λd hd=>st d (mO _ hd)
  unfold xX
  cases hp:p d with
  |true=>
   rw [h1,wN,bok,h2,wN,bok,hp,iP rfl,h3,wN,bok]
   unfold zCD
   rw [bok,iP hs,e,filter_cons_of_pos hp]
   rfl
  |false=>
   rw [h1,wN,bok,h2,wN,bok,hp,iN0 xF0,iP hs,e,filter_cons_of_neg (by rw [hp];exact xF0)]
abbrev L12(q:MV)(ts:List (Int×Int))(hd:Int)(rl:List Rule)(rs:List (Nat×List MV))(x6 x7 x8 x9 x10 x11:Option MV):Rho:=[some q,some (.loc 0),some (.tup (ts.map tbl)),some (.int hd),some (.tup (rl.map yA)),some (zLN ts rl rs),x6,x7,x8,x9,x10,x11]
theorem shl1(k:Nat)(h:k<5)(S:Sto):shlF (.val (.int 1)) (.val (.int (k:Nat))) S=.ok (.val (.int (2 ^ k))) S:=by
 have:shlC 1 (k:Nat):=⟨by omega,by omega,by decide⟩
 show(if shlC 1 (k:Nat)then R.ok (Er.val (.int (1 * 2 ^ ((k:Int).toNat)))) S else .no)=_
 rw [iP this,toNat_natCast,Int.one_mul]
section
variable{ts:List (Int×Int)}{rl:List Rule}{rs:List (Nat×List MV)}{q:MV}{hd b:Int}{S:Sto}{p l:Nat}{T2 R2 W2 pl2:List MV}
def zTT(b:Int):MV->Bool
 |.int k=>decide (b / 2 ^ k.toNat % 2=1)
 |_=>false
theorem yUB(b:Int)(S:Sto):xX (gNm 0) zOV zVC [none,some (.int b)] [] ((List.range 5).map λk=>MV.int (k:Nat)) S=.ok (((List.range 5).map λk=>MV.int (k:Nat)).filter (zTT b)) S:=zNW (kU S) λd hd=>by
  obtain⟨k,hk,rfl⟩:=mM0.mp hd
  have hk:=mem_range.mp hk
  refine⟨[some (.int (k:Nat)),some (.int b)],rfl,?_,rfl⟩
  have hp:(0:Int)<2 ^ k:=pow_pos (by decide)
  have hz:(2:Int) ^ k<1073741824:=by
   have:k=0\/k=1\/k=2\/k=3\/k=4:=by omega
   rcases this with rfl|rfl|rfl|rfl|rfl<;>decide
  show _=R.ok (decide (b / 2 ^ ((k:Int).toNat) % 2=1)) S
  rw [toNat_natCast]
  unfold zOV
  simp? [shl1 k hk,yP hp hz,mod_lit (show(0:Int)<2 by decide)]
end
theorem rng5:((List.range 5).map λk=>MV.int (k:Nat))=[.int 0,.int 1,.int 2,.int 3,.int 4]:=rfl
theorem zZT(b:Int)(k:Nat):zTT b (.int (k:Nat))=decide (b / 2 ^ k % 2=1):=by
 show decide (b / 2 ^ ((k:Int).toNat) % 2=1)=_
 rw [toNat_natCast]
theorem yUC(b:Int)(P:Nat->Prop)(h0:b % 2=1->P 0)(h1: ¬b % 2=1->b / 2 % 2=1->P 1)(h2: ¬b % 2=1-> ¬b / 2 % 2=1->b / 4 % 2=1->P 2)(h3: ¬b % 2=1-> ¬b / 2 % 2=1-> ¬b / 4 % 2=1->b / 8 % 2=1->P 3)(h4: ¬b % 2=1-> ¬b / 2 % 2=1-> ¬b / 4 % 2=1-> ¬b / 8 % 2=1->b / 16 % 2=1->P 4):
  ((List.range 5).map λk=>MV.int (k:Nat)).filter (zTT b)=[]\/ ∃(w:Nat)(r:List MV),((List.range 5).map λk=>MV.int (k:Nat)).filter (zTT b)=.int (w:Nat)::r/\P w:=by
 rw [rng5]
 have e0:zTT b (.int 0)=decide (b % 2=1):=by rw [show(0:Int)=((0:Nat):Int)from rfl,zZT];simp
 have e1:zTT b (.int 1)=decide (b / 2 % 2=1):=by rw [show(1:Int)=((1:Nat):Int)from rfl,zZT];simp
 have e2:zTT b (.int 2)=decide (b / 4 % 2=1):=by rw [show(2:Int)=((2:Nat):Int)from rfl,zZT];simp
 have e3:zTT b (.int 3)=decide (b / 8 % 2=1):=by rw [show(3:Int)=((3:Nat):Int)from rfl,zZT];simp
 have e4:zTT b (.int 4)=decide (b / 16 % 2=1):=by rw [show(4:Int)=((4:Nat):Int)from rfl,zZT];simp
 by_cases c0:b % 2=1
 ·exact .inr ⟨0,_,filter_cons_of_pos (by rw [e0];exact dT0 c0),h0 c0⟩
 rw [filter_cons_of_neg (by rw [e0,dF0 c0];exact xF0)]
 by_cases c1:b / 2 % 2=1
 ·exact .inr ⟨1,_,filter_cons_of_pos (by rw [e1];exact dT0 c1),h1 c0 c1⟩
 rw [filter_cons_of_neg (by rw [e1,dF0 c1];exact xF0)]
 by_cases c2:b / 4 % 2=1
 ·exact .inr ⟨2,_,filter_cons_of_pos (by rw [e2];exact dT0 c2),h2 c0 c1 c2⟩
 rw [filter_cons_of_neg (by rw [e2,dF0 c2];exact xF0)]
 by_cases c3:b / 8 % 2=1
 ·exact .inr ⟨3,_,filter_cons_of_pos (by rw [e3];exact dT0 c3),h3 c0 c1 c2 c3⟩
 rw [filter_cons_of_neg (by rw [e3,dF0 c3];exact xF0)]
 by_cases c4:b / 16 % 2=1
 ·exact .inr ⟨4,_,filter_cons_of_pos (by rw [e4];exact dT0 c4),h4 c0 c1 c2 c3 c4⟩
 rw [filter_cons_of_neg (by rw [e4,dF0 c4];exact xF0)]
 exact .inl rfl
theorem yPJ{ts:List (Int×Int)}{rl:List Rule}{rs:List (Nat×List MV)}(hR: ∀r∈rl,zHX ts r)(hr: ∀r∈rs,ROk ts r)(n:Nat):lo n (zLN ts rl rs):=by
 have a:lo n (.tup (ts.map tbl)):=wZ (xP λe he=>by
  obtain⟨p,_,rfl⟩:=mM0.mp he
  exact wZ (xP λx hx=>by
   simp only [mC,nM0,or_false]at hx
   rcases hx with rfl|rfl<;>exact jY _ _))
 have b:lo n (.tup (rl.map yA)):=wZ (xP λe he=>by
  obtain⟨r,h,rfl⟩:=mM0.mp he
  exact yEP (hR r h) n)
 have c:lo n (.tup (rs.map yG)):=wZ (xP λe he=>by
  obtain⟨r,h,rfl⟩:=mM0.mp he
  obtain⟨p,_,_,h3⟩:=hr r h
  exact wZ (xP λx hx=>by
   rcases mC.mp hx with rfl|hx
   ·exact jY _ _
   ·rw [mS.mp hx]
    exact wZ (xP λy hy=>by
     rcases (h3 y hy).cases with⟨i,rfl,_⟩|⟨z,rfl,_⟩
     ·exact jY _ _
     ·exact zGY _ _)))
 exact wZ (xP λx hx=>by
  simp only [mC,nM0,or_false]at hx
  rcases hx with rfl|rfl|rfl
  ·exact a
  ·exact b
  ·exact c)
section
variable{ts:List (Int×Int)}{rl:List Rule}{rs:List (Nat×List MV)}{ns:List Int}{hd:Int}{vs:List MV}
abbrev S5(vs tb rl rs:List MV):Sto:=[.lst vs,.lst tb,.lst rl,.lst rs,.lst [.loc 1,.loc 2,.loc 3]]
theorem yPK(hT:TOk ts)(hR: ∀r∈rl,zHX ts r)(hrl:rl.length<=6)(hr: ∀r∈rs,ROk ts r)(hn:(rs.map yG).Nodup)(hl:rs.length<=60): ∃S,zT zQV (zT zQW (zT zQX (zT zKA zNR))) (L12 (.scr (ns.map MV.int)) ts hd rl rs (some (.loc 4)) none none none none none) (S5 vs (ts.map tbl) (rl.map yA) (rs.map yG))=.ok (.ret (.val (.bl true))) S:=by
 have hT1:=hT.1
 have hT4:=hT.2.1
 have n0:ts.map tbl≠[]:=λz=>by have:=congrArg List.length z;rw [lM0]at this;simp at this;rw [this]at hT1;simp at hT1
 obtain⟨bb,S',T2,R2,W2,pl2,hsp,hP,hpl,b0,b1,hSp⟩:=yLO (S:=S5 vs (ts.map tbl) (rl.map yA) (rs.map yG)) (p:=4) (a:=1) (b:=2) (c:=3) (ns:=ns) rfl rfl rfl rfl (by decide) (by decide) (by decide) (λd hd=>by
  obtain⟨p,hp,rfl⟩:=mM0.mp hd
  obtain⟨h1,h2,_⟩:=hT.2.2 p hp
  exact⟨p.1,p.2,rfl,by omega,by omega⟩) n0 (by rw [lM0];exact hT4) (by rw [lM0];exact hrl) (by rw [lM0];exact hl) (zLA ns 4 (by decide) _) (zLA ns 5 (by decide) _)
 have hsp:zO 2 gK [.val (.loc 4),.val (.scr (ns.map MV.int))] (S5 vs (ts.map tbl) (rl.map yA) (rs.map yG))=.ok (.val (.tup [.int bb,.loc 5])) S':=hsp
 have hP:Ps S' 4 5 T2 R2 W2 pl2:=hP
 have e7:zQV (L12 (.scr (ns.map MV.int)) ts hd rl rs (some (.loc 4)) none none none none none) (S5 vs (ts.map tbl) (rl.map yA) (rs.map yG))=.ok (.next (L12 (.scr (ns.map MV.int)) ts hd rl rs (some (.loc 4)) (some (.int bb)) (some (.loc 5)) none none none)) S':=by
  unfold zQV
  simp? [hsp]
  rfl
 obtain⟨u,v,x,g1,g2,g3,g4,g5,_⟩:=hP.at
 obtain⟨pT,pR,pW⟩:=yLS hT hR hr hSp
 have cp:=yPY (S:=S') (cf:=zVB) (ef:=zOU) (gs:=[(4,[.loc u,.loc v,.loc x])]) (x:=.loc u) (y:=.loc v) (z:=.loc x) (A:=T2) (B:=R2) (C:=W2) (λρ S=>rfl) (λd S=>by
  unfold zOU
  simp? [bok]) (.inr ⟨_,rfl,g2⟩) (.inr ⟨_,rfl,g3⟩) (.inr ⟨_,rfl,g4⟩) (λL=>zNJ (yT g1))
 have l3:(S'++[MO.lst T2,.lst R2,.lst W2]).length=S'.length+3:=by rw [lA];rfl
 have e8:zQW (L12 (.scr (ns.map MV.int)) ts hd rl rs (some (.loc 4)) (some (.int bb)) (some (.loc 5)) none none none) S'=.ok (.next (L12 (.scr (ns.map MV.int)) ts hd rl rs (some (.loc 4)) (some (.int bb)) (some (.loc 5)) (some (.loc (S'.length+3))) none none)) (S'++[.lst T2,.lst R2,.lst W2,.lst [.loc S'.length,.loc (S'.length+1),.loc (S'.length+2)]]):=by
  unfold zQW
  simp? [yEE g1,show(([.loc u,.loc v,.loc x]:List MV).length<1000000)=True from eq_true (by show 3<1000000;decide),show blk 1 [] (L12 (.scr (ns.map MV.int)) ts hd rl rs (some (.loc 4)) (some (.int bb)) (some (.loc 5)) none none none)=[none]from rfl,cp,l3]
  rw [aA]
  rfl
 generalize hS3:S'++[.lst T2,.lst R2,.lst W2,.lst [.loc S'.length,.loc (S'.length+1),.loc (S'.length+2)]]=S3 at e8
 have l4:S3.length=S'.length+4:=by rw [<-hS3,lA];rfl
 generalize hD:((List.range 5).map λk=>MV.int (k:Nat)).filter (zTT bb)=D
 have du:=yUB bb S3
 rw [hD]at du
 have e9:zQX (L12 (.scr (ns.map MV.int)) ts hd rl rs (some (.loc 4)) (some (.int bb)) (some (.loc 5)) (some (.loc (S'.length+3))) none none) S3=.ok (.next (L12 (.scr (ns.map MV.int)) ts hd rl rs (some (.loc 4)) (some (.int bb)) (some (.loc 5)) (some (.loc (S'.length+3))) (some (.loc S3.length)) none)) (S3++[.lst D]):=by
  unfold zQX
  simp? [zAR (S:=S3) (j:=5) (by omega),show(5:Int).toNat=5 from rfl,lM0,length_range,show((5:Nat)<1000000)=True from by simp,show blk 1 [7] (L12 (.scr (ns.map MV.int)) ts hd rl rs (some (.loc 4)) (some (.int bb)) (some (.loc 5)) (some (.loc (S'.length+3))) none none)=[none,some (.int bb)]from rfl,du]
 generalize hS4:S3++[MO.lst D]=S4 at e9
 have gD:S4[S3.length]? =some (.lst D):=by rw [<-hS4];simp
 have hP4:Ps S4 4 5 T2 R2 W2 pl2:=by rw [<-hS4, <-hS3];exact(hP.grow _).grow _
 have gh:S4[S'.length+3]? =some (.lst [.loc S'.length,.loc (S'.length+1),.loc (S'.length+2)]):=by rw [<-hS4, <-hS3];exact yT (dI (i:=3) rfl)
 have h1:S4[S'.length]? =some (.lst T2):=by rw [<-hS4, <-hS3];exact yT (dI (i:=0) rfl)
 have h2:S4[S'.length+1]? =some (.lst R2):=by rw [<-hS4, <-hS3];exact yT (dI (i:=1) rfl)
 have h3:S4[S'.length+2]? =some (.lst W2):=by rw [<-hS4, <-hS3];exact yT (dI (i:=2) rfl)
 obtain⟨u4,v4,x4,k1,k2,k3,k4,k5,_⟩:=hP4.at
 have lt: ∀{d:MV},Tq 6 d->pq d=true/\dpt d<39:=λh=>⟨h.1,Nat.lt_of_le_of_lt h.2 (by decide)⟩
 have nn:=yLQ k1 gh k2 h1 k3 h2 k4 h3 (λd hd=>lt (pT d hd)) (λd hd=>lt (pR d hd)) (λd hd=>lt (pW d hd))
 obtain⟨t0,t1,t2,t3,t4⟩:=told hT hR hrl hr hn hl hP4 b0 b1 hSp
 have hh:=yUC bb (Told S4 4 pl2) t0 t1 t2 t3 t4
 rw [hD]at hh
 have e10: ∃t,zKA (L12 (.scr (ns.map MV.int)) ts hd rl rs (some (.loc 4)) (some (.int bb)) (some (.loc 5)) (some (.loc (S'.length+3))) (some (.loc S3.length)) none) S4=.ok (.next (L12 (.scr (ns.map MV.int)) ts hd rl rs (some (.loc 4)) (some (.int bb)) (some (.loc 5)) (some (.loc (S'.length+3))) (some (.loc S3.length)) t)) S4:=by
  rcases hh with z|⟨w,r,z,k,hk,href⟩
  ·refine⟨none,?_⟩
   unfold zKA
   simp? [zSS gD,show(!D.isEmpty)=false by rw [z];rfl,fT,iF]
  ·have i0:ixF (.val (.loc S3.length)) (.val (.int 0)) S4=.ok (.val (.int (w:Nat))) S4:=kK gD (by rw [z];exact yFL rfl)
   have ik:ixF (.val (.loc 5)) (.val (.int (w:Nat))) S4=.ok (.val (.int (k:Nat))) S4:=kK k5 (yFL hk)
   have turn: ∀t:Option MV,zQU (L12 (.scr (ns.map MV.int)) ts hd rl rs (some (.loc 4)) (some (.int bb)) (some (.loc 5)) (some (.loc (S'.length+3))) (some (.loc S3.length)) t) S4=.ok (.next (L12 (.scr (ns.map MV.int)) ts hd rl rs (some (.loc 4)) (some (.int bb)) (some (.loc 5)) (some (.loc (S'.length+3))) (some (.loc S3.length)) t)) S4:=λt=>by
    unfold zQU zVD
    simp? [i0,ik,href,nn,Bool.not_true,fT,iF]
   refine⟨some (.int 1),?_⟩
   unfold zKA
   simp? [zSS gD,show(!D.isEmpty)=true by rw [z];rfl,zAR (S:=S4) (j:=2) (by omega),show(2:Int).toNat=2 from rfl]
   show zBQ (gNm 11) zQU [] [.int 0,.int 1] _ S4=_
   rw [bD (show gNm 11 (.int 0) _ S4=.ok _ S4 from rfl) (turn (some (.int 0))) (kU _),bD (show gNm 11 (.int 1) _ S4=.ok _ S4 from rfl) (turn (some (.int 1))) (kU _)]
   rfl
 obtain⟨t,e10⟩:=e10
 have bk:zO 3 xR [.val (.tup (ts.map tbl)),.val (.tup (rl.map yA)),.val (.tup (rs.map yG))] S4=.ok (.val (zLN ts rl rs)) S4:=by
  have:=yFG (S:=S4) (a:=.tup (ts.map tbl)) (b:=.tup (rl.map yA)) (c:=.tup (rs.map yG)) (.inl rfl) (.inl rfl) (.inl rfl) (by rw [lM0];exact hT4) (by rw [lM0];exact hrl) (by rw [lM0];exact hl) n0 (yFK hT) (zRE (.inl rfl) hR) (yOZ (.inl rfl) hT hr) (λe he=>by
   obtain⟨r,h,rfl⟩:=mM0.mp he
   exact yEV (hr r h))
  rw [zZN (by rw [nil_append];exact hn)]at this
  exact zGA rfl this (yPJ hR hr _) (λl z=>by cases z)
 obtain⟨d1,d2,d3⟩:=yPI hT hR hrl hr hl
 have al:=zZR 8 S4 d1 d3 d2
 have e11:zNR (L12 (.scr (ns.map MV.int)) ts hd rl rs (some (.loc 4)) (some (.int bb)) (some (.loc 5)) (some (.loc (S'.length+3))) (some (.loc S3.length)) t) S4=.ok (.ret (.val (.bl true))) S4:=by
  unfold zNR
  simp? [show ixF (.val (zLN ts rl rs)) (.val (.int 0)) S4=.ok (.val (.tup (ts.map tbl))) S4 from rfl,show ixF (.val (zLN ts rl rs)) (.val (.int 1)) S4=.ok (.val (.tup (rl.map yA))) S4 from rfl,show ixF (.val (zLN ts rl rs)) (.val (.int 2)) S4=.ok (.val (.tup (rs.map yG))) S4 from rfl,bk,al]
 exact⟨S4,by rw [zE e7,zE e8,zE e9,zE e10,e11]⟩
end
theorem yLU(ns:List Int)(h:ns.length<=63): ∃S,zZC [.scr (ns.map MV.int)] []=.ok (.val (.bl true)) S:=by
 obtain⟨c0,h0⟩:=zLA ns 0 (by decide) []
 obtain⟨vs,hv,hV,hpool⟩:=yOK c0 []
 obtain⟨c1,h1⟩:=zLA ns 1 (by decide) [.lst vs]
 obtain⟨ts,hT,htab⟩:=yHE c1 [.lst vs]
 obtain⟨hd,h2⟩:=zLA ns 2 (by decide) [.lst vs]
 have hS0:([MO.lst vs]:Sto)[0]? =some (.lst vs):=rfl
 have hm0:0<=hd % 7:=eN _ (by decide)
 have hm1:hd % 7<7:=eL _ (by decide)
 obtain⟨out,k1,l1,p1⟩:=zYW (S:=[MO.lst vs]) (gf:=gNm 0) (cf:=zUZ) (ef:=zOS) (ρb:=[none,some (.scr (ns.map MV.int)),some (.loc 0),some (.tup (ts.map tbl))]) (gs:=[]) (P:=λy=> ∃r,zHX ts r/\y=yA r) (kU _) (ds:=(List.range (hd % 7).toNat).map λj=>MV.int (j:Nat)) (λd hd'=>by
  obtain⟨j,_,rfl⟩:=mM0.mp hd'
  obtain⟨c,hc⟩:=zLA ns (6+(j:Nat)) (by omega) [.lst vs]
  obtain⟨r,hr,hrc⟩:=yOM hT c hv hV hS0
  refine⟨[some (.int (j:Nat)),some (.scr (ns.map MV.int)),some (.loc 0),some (.tup (ts.map tbl))],yA r,rfl,rfl,?_,r,hr,rfl⟩
  unfold zOS
  simp? [hc,hrc])
 rw [lM0,length_range]at l1
 obtain⟨rl,rfl,hR⟩:=yLP p1
 rw [lM0]at l1
 have hw0:0<=hd / 7 % 6:=eN _ (by decide)
 have hw1:hd / 7 % 6<6:=eL _ (by decide)
 have hcl:(cK ns (some 12) (some 63)).length<=60:=by
  unfold cK
  rw [lT0,length_drop]
  have z1:HT.sIx ns.length 0 (some 12)=min 12 ns.length:=by unfold HT.sIx;simp only;split<;>omega
  have z2:HT.sIx ns.length ns.length (some 63)=min 63 ns.length:=by unfold HT.sIx;simp only;split<;>omega
  rw [z1,z2]
  omega
 obtain⟨rs,hr,hn,hl,hrows⟩:=yOL hT (cK ns (some 12) (some 63)) hcl (w:=2+hd / 7 % 6) ⟨by omega,by omega⟩ hv hV hS0
 have hnd:(rs.map yG).Nodup:=by
  rw [List.nodup_iff_pairwise_ne]at hn ⊢
  rw [List.pairwise_map]
  refine hn.imp λ{a b} hab z=>hab ?_
  obtain⟨a1,a2⟩:=a
  obtain⟨b1,b2⟩:=b
  have z:MV.tup [.int (a1:Nat),.tup a2]=.tup [.int (b1:Nat),.tup b2]:=z
  simp only [MV.tup.injEq,List.cons.injEq,MV.int.injEq,and_true]at z
  rw [Int.ofNat_inj.mp z.1,z.2]
 obtain⟨S',etail⟩:=yPK (ns:=ns) (hd:=hd) (vs:=vs) hT hR (by omega) hr hnd (by omega)
 refine⟨S',?_⟩
 have e1:zWW [some (.scr (ns.map MV.int)),none,none,none,none,none,none,none,none,none,none,none] []=.ok (.next [some (.scr (ns.map MV.int)),some (.loc 0),none,none,none,none,none,none,none,none,none,none]) [.lst vs]:=by
  unfold zWW
  simp? [h0,hpool]
  rfl
 have e2:zWX [some (.scr (ns.map MV.int)),some (.loc 0),none,none,none,none,none,none,none,none,none,none] [.lst vs]=.ok (.next [some (.scr (ns.map MV.int)),some (.loc 0),some (.tup (ts.map tbl)),none,none,none,none,none,none,none,none,none]) [.lst vs]:=by
  unfold zWX
  simp? [h1,htab]
 have e3:zWY [some (.scr (ns.map MV.int)),some (.loc 0),some (.tup (ts.map tbl)),none,none,none,none,none,none,none,none,none] [.lst vs]=.ok (.next [some (.scr (ns.map MV.int)),some (.loc 0),some (.tup (ts.map tbl)),some (.int hd),none,none,none,none,none,none,none,none]) [.lst vs]:=by
  unfold zWY
  simp? [h2]
 have hll:((List.range (hd % 7).toNat).map λk=>MV.int (k:Nat)).length<1000000:=by rw [lM0,length_range];omega
 have e4:zWZ [some (.scr (ns.map MV.int)),some (.loc 0),some (.tup (ts.map tbl)),some (.int hd),none,none,none,none,none,none,none,none] [.lst vs]=.ok (.next [some (.scr (ns.map MV.int)),some (.loc 0),some (.tup (ts.map tbl)),some (.int hd),some (.tup (rl.map yA)),none,none,none,none,none,none,none]) [.lst vs]:=by
  unfold zWZ
  simp? [mod_lit (show(0:Int)<7 by decide),zAR (S:=[MO.lst vs]) (show -(2 ^ 62)<=hd % 7/\hd % 7<2 ^ 62 by omega),hll,
   show blk 1 [0,1,2] [some (.scr (ns.map MV.int)),some (.loc 0),some (.tup (ts.map tbl)),some (.int hd),none,none,none,none,none,none,none,none]=[none,some (.scr (ns.map MV.int)),some (.loc 0),some (.tup (ts.map tbl))]from rfl,k1,
   show∀(o:List MV)(S:Sto),gY [.new o] S=.ok (.val (.tup o)) S from λo S=>rfl]
 have e5:zXA [some (.scr (ns.map MV.int)),some (.loc 0),some (.tup (ts.map tbl)),some (.int hd),some (.tup (rl.map yA)),none,none,none,none,none,none,none] [.lst vs]=.ok (.next (L12 (.scr (ns.map MV.int)) ts hd rl rs none none none none none none)) [.lst vs]:=by
  unfold zXA
  have hcut:zAD (.val (.scr (ns.map MV.int))) (some 12) (some 63) [MO.lst vs]=.ok (.new ((cK ns (some 12) (some 63)).map MV.int)) [MO.lst vs]:=by
   rw [<-yJV];rfl
  simp? [hcut,yP (b:=7) (by decide) (by decide),mod_lit (show(0:Int)<6 by decide),hrows]
 have cp:=yPY (S:=[MO.lst vs]) (cf:=zVA) (ef:=zOT) (gs:=[]) (x:=.tup (ts.map tbl)) (y:=.tup (rl.map yA)) (z:=.tup (rs.map yG)) (A:=ts.map tbl) (B:=rl.map yA) (C:=rs.map yG) (λρ S=>rfl) (λd S=>by
  unfold zOT
  simp? [bok]) (.inl rfl) (.inl rfl) (.inl rfl) (λL=>kU _)
 have e6:zXB (L12 (.scr (ns.map MV.int)) ts hd rl rs none none none none none none) [.lst vs]=.ok (.next (L12 (.scr (ns.map MV.int)) ts hd rl rs (some (.loc 4)) none none none none none)) (S5 vs (ts.map tbl) (rl.map yA) (rs.map yG)):=by
  unfold zXB
  simp? [show itT (.val (zLN ts rl rs)) [MO.lst vs]=.ok ⟨[.tup (ts.map tbl),.tup (rl.map yA),.tup (rs.map yG)],[]⟩ [MO.lst vs]from rfl,show(([.tup (ts.map tbl),.tup (rl.map yA),.tup (rs.map yG)]:List MV).length<1000000)=True from eq_true (by show 3<1000000;decide),show blk 1 [] (L12 (.scr (ns.map MV.int)) ts hd rl rs none none none none none none)=[none]from rfl,cp]
  rfl
 show yH (yKP [some (.scr (ns.map MV.int)),none,none,none,none,none,none,none,none,none,none,none] [])=_
 unfold yKP
 rw [zE e1,zE e2,zE e3,zE e4,zE e5,zE e6,etail]
 rfl
section
variable{P:Program}{w:World}{K:PySem.W.Frag}{mg:Str->Option Value}{base:Heap}
abbrev XCS(xl:Nat->Addr):List (Str×Addr):=[("TooGreat",xl 0),("NoText",xl 1),("NoPlace",xl 2),("NotPlain",xl 3),("NoTable",xl 4),("NoRule",xl 5),("NoRow",xl 6),("Twice",xl 7),("NoQuestion",xl 8),("Double",xl 9),("TooWide",xl 10),("Ring",xl 11)]
theorem xnd{xl:Nat->Addr}:((XCS xl).map (·.1)).Nodup:=show XNS.Nodup from by decide
def top(i:Nat):Stmt:=PySem.Challenge.pw_mendsure_k07_which_refusal_first.main.body.getD i (.Pass ⟨0,0,0,0⟩)
abbrev zKC:Stmt:=zQN (top 8) 0
theorem yHL:FnScope ["self","place"] ["self","place"] (zG zKC):=fsK (by decide+kernel)
abbrev zGR:Stmt:=zQN (top 7) 0
theorem yCP:FnScope ["self","place"] ["self","place"] (zG zGR):=fsK (by decide+kernel)
abbrev zKD:Stmt:=zQN (top 9) 0
theorem yHM:FnScope ["self","place"] ["self","place"] (zG zKD):=fsK (by decide+kernel)
abbrev zDH:Stmt:=zQN (top 6) 0
theorem zZU:FnScope ["self","place"] ["self","place"] (zG zDH):=fsK (by decide+kernel)
abbrev zMI:Stmt:=top 16
theorem zZV:FnScope ["thing"] ["thing"] (zG zMI):=fsK (by decide+kernel)
theorem zZW(D:DefM K mg "is_whole" zMI)(zQD:mg "int"=none)(zH:mg "isinstance"=none)(zIG:mg "bool"=none):(CalM P w K mg base) "is_whole" 1 1 ["thing"] jI:=
 by have h:=okC (P:=P) (w:=w) (base:=base) D (λ_ _ _ _ _ _ us hl=>match us,hl with |[_],_=>rfl) λf fd F=>okM (k:=0) _ F zZV λcdv A outer s H E hr=>(zK (zU (hZ (zL wP bX rfl zH yE (zA (zB 0) (zA (zCC rfl zQD yBN) zD))) (gW (yBG (zL wP bX rfl zH yE (zA (zB 0) (zA (zCC rfl zIG zWL) zD))))))))
    exact h
abbrev zLB:Stmt:=top 17
theorem yCQ:FnScope ["thing"] ["thing"] (zG zLB):=fsK (by decide+kernel)
theorem yCR(D:DefM K mg "is_name" zLB)(zQC:mg "str"=none)(zH:mg "isinstance"=none)(yQ:mg "len"=none){zDP:Tok}(gN:mg "MOST_LETTERS"=some (.int 8 zDP))(zDO:mg "all"=none):(CalM P w K mg base) "is_name" 1 1 ["thing"] zKV:=
 by have h:=okC (P:=P) (w:=w) (base:=base) D (λ_ _ _ _ _ _ us hl=>match us,hl with |[_],_=>rfl) λf fd F=>okM (k:=0) _ F yCQ λcdv A outer s H E hr=>(zF (yY (zFX (zIX (jH (yR (zL wP bX rfl zH yE (zA (zB 0) (zA (zCC rfl zQC yBO) zD))))) (zEH (jH (yNC zC (zL zW xA rfl yQ xB (zA (zB 0) zD)) (zGT rfl gN)))))) (zK (zU zBJ)) yK) (zK (zU (zL gO (zOK rfl) rfl zDO zOL (zA (bQ (zG zLB) ["thing"] ["sign"] [] (yRN (zB 0)) rfl (λ_ _ _ _ hN=>(kP 0 hN)) (λ_ _ _ _=>hU) (λ_ _ _ _=>(zWH (wE [97]) (zB 0) (wE [122])))) zD)))))
    exact h
abbrev zMJ:Stmt:=top 18
theorem zZX:FnScope ["thing"] ["thing"] (zG zMJ):=fsK (by decide+kernel)
theorem zZY(D:DefM K mg "is_value" zMJ)(zDN:(CalM P w K mg base) "is_whole" 1 1 ["thing"] jI)(yAM:mg "abs"=none)(yHP:(CalM P w K mg base) "is_name" 1 1 ["thing"] zKV):(CalM P w K mg base) "is_value" 2 1 ["thing"] dZ:=
 by have h:=okC (P:=P) (w:=w) (base:=base) D (λ_ _ _ _ _ _ us hl=>match us,hl with |[_],_=>rfl) λf fd F=>okM (k:=1) _ F zZX λcdv A outer s H E hr=>(zF (yY (yR (zI zDN (hr.mono (by decide)) rfl (zA (zB 0) zD))) (zK (zU (pm_lt hr.units (zL yIF yRX rfl yAM yRY (zA (zB 0) zD)) (zGW zC zC)))) yK) (zK (zU (zI yHP (hr.mono (by decide)) rfl (zA (zB 0) zD)))))
    exact h
abbrev zMK:Stmt:=top 27
theorem zZZ:FnScope kL kL (zG zMK):=fsK (by decide+kernel)
theorem yAA(D:DefM K mg "is_tuple" zMK)(yU:mg "tuple"=none)(zH:mg "isinstance"=none)(yQ:mg "len"=none):(CalM P w K mg base) "is_tuple" 1 3 kL yF:=
 by have h:=okC (P:=P) (w:=w) (base:=base) D (λ_ _ _ _ _ _ us hl=>match us,hl with |[_,_,_],_=>rfl) λf fd F=>okM (k:=0) _ F zZZ λcdv A outer s H E hr=>(zK (zU (hZ (zL wP bX rfl zH yE (zA (zB 0) (zA (zCC rfl yU kF) zD))) (gW (zWH (zB 1) (zL zW xA rfl yQ xB (zA (zB 0) zD)) (zB 2))))))
    exact h
abbrev dL:Stmt:=top 28
theorem zML:FnScope ["thing","bound"] ["thing","bound"] (zG dL):=fsK (by decide+kernel)
theorem zMM(D:DefM K mg "is_number_below" dL)(zDN:(CalM P w K mg base) "is_whole" 1 1 ["thing"] jI):(CalM P w K mg base) "is_number_below" 2 2 ["thing","bound"] zM:=
 by have h:=okC (P:=P) (w:=w) (base:=base) D (λ_ _ _ _ _ _ us hl=>match us,hl with |[_,_],_=>rfl) λf fd F=>okM (k:=1) _ F zML λcdv A outer s H E hr=>(zK (zU (hZ (zI zDN (hr.mono (by decide)) rfl (zA (zB 0) zD)) (gW (yND hr.units zC (zB 0) (zB 1))))))
    exact h
abbrev zMN:Stmt:=top 29
theorem zPZ:FnScope ["thing","wide"] ["thing"] (zG zMN):=fsK (by decide+kernel)
theorem yAB(D:DefM K mg "is_table" zMN)(xS:(CalM P w K mg base) "is_tuple" 1 3 kL yF)(zDN:(CalM P w K mg base) "is_whole" 1 1 ["thing"] jI){zKO:Tok}(zAM:mg "MOST_WIDE"=some (.int 4 zKO))(zV:(CalM P w K mg base) "is_number_below" 2 2 ["thing","bound"] zM):(CalM P w K mg base) "is_table" 3 1 ["thing"] nA:=
 by have h:=okC (P:=P) (w:=w) (base:=base) D (λ_ _ _ _ _ _ us hl=>match us,hl with |[_],_=>rfl) λf fd F=>okM (k:=2) _ F zPZ λcdv A outer s H E hr=>(zF (yY (zFX (zIX (jH (yR (zI xS (hr.mono (by decide)) rfl (zA (zB 0) (zA zC (zA zC zD)))))) (zEH (jH (yR (zI zDN (hr.mono (by decide)) rfl (zA (zP (zB 0) zC) zD))))))) (zK (zU zBJ)) yK) (zF (zN 1 zPZ.nd (zP (zB 0) zC)) (zK (zU (hZ (zWH zC (zB 1) (zGT rfl zAM)) (gW (zI zV (hr.mono (by decide)) rfl (zA (zP (zB 0) zC) (zA (yW (zB 1) zC) zD)))))))))
    exact h
abbrev zPC:Stmt:=top 30
theorem yCS:FnScope ["thing","wides"] ["thing","wides"] (zG zPC):=fsK (by decide+kernel)
theorem yCT(D:DefM K mg "is_side" zPC)(xS:(CalM P w K mg base) "is_tuple" 1 3 kL yF)(zMS:(CalM P w K mg base) "is_value" 2 1 ["thing"] dZ)(zV:(CalM P w K mg base) "is_number_below" 2 2 ["thing","bound"] zM)(yQ:mg "len"=none):(CalM P w K mg base) "is_side" 3 2 ["thing","wides"] zGG:=
 by have h:=okC (P:=P) (w:=w) (base:=base) D (λ_ _ _ _ _ _ us hl=>match us,hl with |[_,_],_=>rfl) λf fd F=>okM (k:=2) _ F yCS λcdv A outer s H E hr=>(zF (yY (yR (zI xS (hr.mono (by decide)) rfl (zA (zB 0) (zA zC (zA zC zD))))) (zK (zU (hZ (zNC hr.units (zP (zB 0) zC) (wE [105,115])) (gW (zI zMS (hr.mono (by decide)) rfl (zA (zP (zB 0) zC) zD)))))) yK) (zF (yY (zFX (zIX (jH (yR (zI xS (hr.mono (by decide)) rfl (zA (zB 0) (zA zC (zA zC zD)))))) (zEH (zPT hr.units (zP (zB 0) zC) (wE [99,101,108,108]))))) (zK (zU zBJ)) yK) (zK (zU (hZ (zI zV (hr.mono (by decide)) rfl (zA (zP (zB 0) zC) (zA (zL zW xA rfl yQ xB (zA (zB 1) zD)) zD))) (gW (zI zV (hr.mono (by decide)) rfl (zA (zP (zB 0) zC) (zA (zP (zB 1) (zP (zB 0) zC)) zD)))))))))
    exact h
abbrev zPD:Stmt:=top 31
theorem yCU:FnScope ["thing","wides"] ["thing","wides"] (zG zPD):=fsK (by decide+kernel)
theorem yCV(D:DefM K mg "is_test" zPD)(xS:(CalM P w K mg base) "is_tuple" 1 3 kL yF)(zVI:(CalM P w K mg base) "is_side" 3 2 ["thing","wides"] zGG)(zOC:GTup K mg "WORDS" [.str [115,97,109,101],.str [117,110,108,105,107,101],.str [108,101,115,115]]):(CalM P w K mg base) "is_test" 4 2 ["thing","wides"] zKW:=
 by have h:=okC (P:=P) (w:=w) (base:=base) D (λ_ _ _ _ _ _ us hl=>match us,hl with |[_,_],_=>rfl) λf fd F=>okM (k:=3) _ F yCU λcdv A outer s H E hr=>(zF (yY (jH (yR (zI xS (hr.mono (by decide)) rfl (zA (zB 0) (zA zC (zA zC zD)))))) (zK (zU zBJ)) yK) (zK (zU (hZ (zI zVI (hr.mono (by decide)) rfl (zA (zP (zB 0) zC) (zA (zB 1) zD))) (hZ (pm_in hr.units (zP (zB 0) zC) (yOC (ds:=[.str [115,97,109,101],.str [117,110,108,105,107,101],.str [108,101,115,115]]) rfl zOC)) (gW (zI zVI (hr.mono (by decide)) rfl (zA (zP (zB 0) zC) (zA (zB 1) zD)))))))))
    exact h
abbrev zEE:Stmt:=top 32
theorem zXL:FnScope ["thing","wides"] ["thing","wides"] (zG zEE):=fsK (by decide+kernel)
theorem zXM(D:DefM K mg "are_tests" zEE)(xS:(CalM P w K mg base) "is_tuple" 1 3 kL yF){zIE:Tok}(dO:mg "MOST_TESTS"=some (.int 3 zIE))(yHQ:(CalM P w K mg base) "is_test" 4 2 ["thing","wides"] zKW)(zDO:mg "all"=none):(CalM P w K mg base) "are_tests" 5 2 ["thing","wides"] gB:=
 by have h:=okC (P:=P) (w:=w) (base:=base) D (λ_ _ _ _ _ _ us hl=>match us,hl with |[_,_],_=>rfl) λf fd F=>okM (k:=4) _ F zXL λcdv A outer s H E hr=>(zK (zU (hZ (zI xS (hr.mono (by decide)) rfl (zA (zB 0) (zA zC (zA (zGT rfl dO) zD)))) (gW (zL gO (zOK rfl) rfl zDO zOL (zA (bQ (zG zEE) ["thing","wides"] ["part"] [1] (zLT (zB 0)) rfl (λ_ _ _ _ hN=>(kP 0 hN)) (λ_ _ _ _=>hU) (λ_ _ _ _=>(zI yHQ (hr.mono (by decide)) rfl (zA (zB 0) (zA (zB 1) zD))))) zD))))))
    exact h
abbrev zAC:Stmt:=top 33
theorem zSV:FnScope ["thing","wide"] ["thing","wide"] (zG zAC):=fsK (by decide+kernel)
theorem zSW(D:DefM K mg "are_columns" zAC)(xS:(CalM P w K mg base) "is_tuple" 1 3 kL yF){zKK:Tok}(zAO:mg "MOST_TIED"=some (.int 3 zKK))(zV:(CalM P w K mg base) "is_number_below" 2 2 ["thing","bound"] zM)(zDO:mg "all"=none):(CalM P w K mg base) "are_columns" 3 2 ["thing","wide"] zAA:=
 by have h:=okC (P:=P) (w:=w) (base:=base) D (λ_ _ _ _ _ _ us hl=>match us,hl with |[_,_],_=>rfl) λf fd F=>okM (k:=2) _ F zSV λcdv A outer s H E hr=>(zK (zU (hZ (zI xS (hr.mono (by decide)) rfl (zA (zB 0) (zA zC (zA (zGT rfl zAO) zD)))) (gW (zL gO (zOK rfl) rfl zDO zOL (zA (bQ (zG zAC) ["thing","wide"] ["part"] [1] (zLT (zB 0)) rfl (λ_ _ _ _ hN=>(kP 0 hN)) (λ_ _ _ _=>hU) (λ_ _ _ _=>(zI zV (hr.mono (by decide)) rfl (zA (zB 0) (zA (zB 1) zD))))) zD))))))
    exact h
abbrev zMO:Stmt:=top 34
theorem yAC:FnScope ["rule","tables"] ["rule","tables"] (zG zMO):=fsK (by decide+kernel)
theorem yAD(D:DefM K mg "is_never" zMO)(yQ:mg "len"=none)(zV:(CalM P w K mg base) "is_number_below" 2 2 ["thing","bound"] zM)(zKM:(CalM P w K mg base) "are_tests" 5 2 ["thing","wides"] gB):(CalM P w K mg base) "is_never" 6 2 ["rule","tables"] zHD:=
 by have h:=okC (P:=P) (w:=w) (base:=base) D (λ_ _ _ _ _ _ us hl=>match us,hl with |[_,_],_=>rfl) λf fd F=>okM (k:=5) _ F yAC λcdv A outer s H E hr=>(zF (yY (zFX (zIX (zPT hr.units (zL zW xA rfl yQ xB (zA (zB 0) zD)) zC) (zEH (jH (yR (zI zV (hr.mono (by decide)) rfl (zA (zP (zB 0) zC) (zA (zL zW xA rfl yQ xB (zA (zB 1) zD)) zD)))))))) (zK (zU zBJ)) yK) (zK (zU (zI zKM (hr.mono (by decide)) rfl (zA (zP (zB 0) zC) (zA (xU (zA (zP (zP (zB 1) (zP (zB 0) zC)) zC) zD)) zD))))))
    exact h
abbrev zDI:Stmt:=top 35
theorem yAE:FnScope ["rule","tables"] ["rule","tables"] (zG zDI):=fsK (by decide+kernel)
theorem yAF(D:DefM K mg "is_apart" zDI)(yQ:mg "len"=none)(zV:(CalM P w K mg base) "is_number_below" 2 2 ["thing","bound"] zM)(zDO:mg "all"=none)(zKM:(CalM P w K mg base) "are_tests" 5 2 ["thing","wides"] gB):(CalM P w K mg base) "is_apart" 6 2 ["rule","tables"] zHG:=
 by have h:=okC (P:=P) (w:=w) (base:=base) D (λ_ _ _ _ _ _ us hl=>match us,hl with |[_,_],_=>rfl) λf fd F=>okM (k:=5) _ F yAE λcdv A outer s H E hr=>(zF (yY (zFX (zIX (zPT hr.units (zL zW xA rfl yQ xB (zA (zB 0) zD)) zC) (zEH (jH (yR (zL gO (zOK rfl) rfl zDO zOL (zA (bQ (zG zDI) ["rule","tables"] ["part"] [1] (zLT (dY (zB 0) (kO zC) (kO zC))) rfl (λ_ _ _ _ hN=>(kP 0 hN)) (λ_ _ _ _=>hU) (λ_ _ _ _=>(zI zV (hr.mono (by decide)) rfl (zA (zB 0) (zA (zL zW xA rfl yQ xB (zA (zB 1) zD)) zD))))) zD))))))) (zK (zU zBJ)) yK) (zK (zU (zI zKM (hr.mono (by decide)) rfl (zA (zP (zB 0) zC) (zA (bQ (zG zDI) ["rule","tables"] ["part"] [1] (zLT (dY (zB 0) (kO zC) (kO zC))) rfl (λ_ _ _ _ hN=>(kP 0 hN)) (λ_ _ _ _=>hU) (λ_ _ _ _=>(zP (zP (zB 1) (zB 0)) zC))) zD))))))
    exact h
abbrev zSX:Stmt:=top 36
theorem zPE:FnScope zZB ["rule","tables"] (zG zSX):=fsK (by decide+kernel)
theorem yHN(D:DefM K mg "is_tie" zSX)(yQ:mg "len"=none)(zV:(CalM P w K mg base) "is_number_below" 2 2 ["thing","bound"] zM)(zUC:(CalM P w K mg base) "are_columns" 3 2 ["thing","wide"] zAA):(CalM P w K mg base) "is_tie" 4 2 ["rule","tables"] zJT:=
 by have h:=okC (P:=P) (w:=w) (base:=base) D (λ_ _ _ _ _ _ us hl=>match us,hl with |[_,_],_=>rfl) λf fd F=>okM (k:=3) _ F zPE λcdv A outer s H E hr=>(zF (yY (zPT hr.units (zL zW xA rfl yQ xB (zA (zB 0) zD)) zC) (zK (zU zBJ)) yK) (zF (zCF PassesOwn.never rfl (zLT (yV (zA (yV (zA (zP (zB 0) zC) (zA (zP (zB 0) zC) zD))) (zA (yV (zA (zP (zB 0) zC) (zA (zP (zB 0) zC) zD))) zD)))) (zGV (n:=2) rfl (wY (wX 2 zPE.nd) (wY (wX 3 zPE.nd) zGU))) (zK (yY (zFX (zIX (jH (yR (zI zV (hr.mono (by decide)) rfl (zA (zB 2) (zA (zL zW xA rfl yQ xB (zA (zB 1) zD)) zD))))) (zEH (jH (yR (zI zUC (hr.mono (by decide)) rfl (zA (zB 3) (zA (zP (zP (zB 1) (zB 2)) zC) zD)))))))) (zK (zU zBJ)) yK))) (zK (zU (zNC hr.units (zL zW xA rfl yQ xB (zA (zP (zB 0) zC) zD)) (zL zW xA rfl yQ xB (zA (zP (zB 0) zC) zD)))))))
    exact h
abbrev zPF:Stmt:=top 37
theorem yCW:FnScope ["thing","tables"] ["thing","tables"] (zG zPF):=fsK (by decide+kernel)
theorem yCX(D:DefM K mg "is_rule" zPF)(yU:mg "tuple"=none)(zH:mg "isinstance"=none)(yQ:mg "len"=none)(yDC:(CalM P w K mg base) "is_never" 6 2 ["rule","tables"] zHD)(yDE:(CalM P w K mg base) "is_apart" 6 2 ["rule","tables"] zHG)(yLW:(CalM P w K mg base) "is_tie" 4 2 ["rule","tables"] zJT):(CalM P w K mg base) "is_rule" 7 2 ["thing","tables"] zGI:=
 by have h:=okC (P:=P) (w:=w) (base:=base) D (λ_ _ _ _ _ _ us hl=>match us,hl with |[_,_],_=>rfl) λf fd F=>okM (k:=6) _ F yCW λcdv A outer s H E hr=>(zF (yY (zFX (zIX (jH (yR (zL wP bX rfl zH yE (zA (zB 0) (zA (zCC rfl yU kF) zD))))) (zEH (zBK hr.units (zL zW xA rfl yQ xB (zA (zB 0) zD)) zC)))) (zK (zU zBJ)) yK) (zF (yY (zBK hr.units (zP (zB 0) zC) (wE [110,101,118,101,114])) (zK (zU (zI yDC (hr.mono (by decide)) rfl (zA (zB 0) (zA (zB 1) zD))))) yK) (zF (yY (zBK hr.units (zP (zB 0) zC) (wE [97,112,97,114,116])) (zK (zU (zI yDE (hr.mono (by decide)) rfl (zA (zB 0) (zA (zB 1) zD))))) yK) (zK (zU (hZ (zNC hr.units (zP (zB 0) zC) (wE [116,105,101])) (gW (zI yLW (hr.mono (by decide)) rfl (zA (zB 0) (zA (zB 1) zD))))))))))
    exact h
abbrev zNX:Stmt:=top 38
theorem zVH:FnScope zSI ["thing","tables"] (zG zNX):=fsK (by decide+kernel)
theorem yHO(D:DefM K mg "is_row" zNX)(xS:(CalM P w K mg base) "is_tuple" 1 3 kL yF)(zV:(CalM P w K mg base) "is_number_below" 2 2 ["thing","bound"] zM)(yQ:mg "len"=none)(zMS:(CalM P w K mg base) "is_value" 2 1 ["thing"] dZ)(zDO:mg "all"=none):(CalM P w K mg base) "is_row" 3 2 ["thing","tables"] zJV:=
 by have h:=okC (P:=P) (w:=w) (base:=base) D (λ_ _ _ _ _ _ us hl=>match us,hl with |[_,_],_=>rfl) λf fd F=>okM (k:=2) _ F zVH λcdv A outer s H E hr=>(zF (yY (zFX (zIX (jH (yR (zI xS (hr.mono (by decide)) rfl (zA (zB 0) (zA zC (zA zC zD)))))) (zEH (jH (yR (zI zV (hr.mono (by decide)) rfl (zA (zP (zB 0) zC) (zA (zL zW xA rfl yQ xB (zA (zB 1) zD)) zD)))))))) (zK (zU zBJ)) yK) (zF (zN 2 zVH.nd (zP (zP (zB 1) (zP (zB 0) zC)) zC)) (zK (zU (hZ (zI xS (hr.mono (by decide)) rfl (zA (zP (zB 0) zC) (zA (zB 2) (zA (zB 2) zD)))) (gW (zL gO (zOK rfl) rfl zDO zOL (zA (bQ (zG zNX) zSI ["cell"] [] (zLT (zP (zB 0) zC)) rfl (λ_ _ _ _ hN=>(kP 0 hN)) (λ_ _ _ _=>hU) (λ_ _ _ _=>(zI zMS (hr.mono (by decide)) rfl (zA (zB 0) zD)))) zD))))))))
    exact h
abbrev zFM:Stmt:=top 39
theorem zSY:FnScope yZ yZ (zG zFM):=fsK (by decide+kernel)
theorem zSZ(D:DefM K mg "check_sizes" zFM){xM:Addr}{xl:Nat->Addr}(XT:XTab K mg xM (XCS xl))(yQ:mg "len"=none){zFQ:Tok}(bO:mg "MOST_TABLES"=some (.int 4 zFQ)){zIF:Tok}(dP:mg "MOST_RULES"=some (.int 6 zIF)){zKL:Tok}(zAN:mg "MOST_ROWS"=some (.int 60 zKL))(x_TooGreat:XCl K (xl 0) (.ref xM::bmV) none):(yKJ P w K mg base) "check_sizes" 1 3 yZ bF:=
 by have h:=yKK (P:=P) (w:=w) (base:=base) D (λ_ _ _ _ _ _ us hl=>match us,hl with |[_,_,_],_=>rfl) λf fd F=>okX (k:=0) _ F zSY λcdv A outer s H E hr=>(zK (yY (zFX (zIX (yEA (zL zW xA rfl yQ xB (zA (zB 0) zD)) (zGT rfl bO)) (zIX (yEA (zL zW xA rfl yQ xB (zA (zB 1) zD)) (zGT rfl dP)) (zEH (yEA (zL zW xA rfl yQ xB (zA (zB 2) zD)) (zGT rfl zAN)))))) (zK (yGY zEG rfl (XT.each.at (.head _)).1 x_TooGreat XT.mc (zA (wE [109,111,114,101,32,116,97,98,108,101,115,44,32,114,117,108,101,115,32,111,114,32,114,111,119,115,32,116,104,97,110,32,97,32,98,111,111,107,32,109,97,121,32,104,97,118,101]) zD))) yK))
    exact h
abbrev zDJ:Stmt:=top 40
theorem zBH:FnScope zJD ["tables"] (zG zDJ):=fsK (by decide+kernel)
theorem zQG(D:DefM K mg "check_tables" zDJ){xM:Addr}{xl:Nat->Addr}(XT:XTab K mg xM (XCS xl))(yQ:mg "len"=none){f_NoTable:Addr}{fdI_NoTable:FuncData}(y_NoTable:XIn K xM (xl 4) f_NoTable)(GI_NoTable:FnOk P w K mg base CX0 1 f_NoTable fdI_NoTable ["self","place"] (zLF (xl 4) "place"))(bI_NoTable:Binds K fdI_NoTable ["self","place"] [])(wK:mg "enumerate"=none)(yDD:(CalM P w K mg base) "is_table" 3 1 ["thing"] nA):(yKJ P w K mg base) "check_tables" 4 1 ["tables"] gE:=
 by have h:=yKK (P:=P) (w:=w) (base:=base) D (λ_ _ _ _ _ _ us hl=>match us,hl with |[_],_=>rfl) λf fd F=>okX (k:=3) _ F zBH λcdv A outer s H E hr=>(zF (yY (zBK hr.units (zL zW xA rfl yQ xB (zA (zB 0) zD)) zC) (zK (zGE zEG rfl (XT.each.at t4M).1 XT.mc y_NoTable GI_NoTable bI_NoTable hr zC)) yK) (zK (zCF PassesOwn.leaving rfl (zQS rfl wK (zA (zB 0) zD)) (zGV (n:=2) rfl (wY (wX 1 zBH.nd) (wY (wX 2 zBH.nd) zGU))) (zK (yY (jH (yR (zI yDD (hr.mono (by decide)) rfl (zA (zB 2) zD)))) (zK (zGE zEG rfl (XT.each.at t4M).1 XT.mc y_NoTable GI_NoTable bI_NoTable hr (zB 1))) yK)))))
    exact h
abbrev zFN:Stmt:=top 41
theorem zDK:FnScope zLG ["tables","rules"] (zG zFN):=fsK (by decide+kernel)
theorem zTA(D:DefM K mg "check_rules" zFN){xM:Addr}{xl:Nat->Addr}(XT:XTab K mg xM (XCS xl))(wK:mg "enumerate"=none)(yHR:(CalM P w K mg base) "is_rule" 7 2 ["thing","tables"] zGI){f_NoRule:Addr}{fdI_NoRule:FuncData}(y_NoRule:XIn K xM (xl 5) f_NoRule)(GI_NoRule:FnOk P w K mg base CX0 1 f_NoRule fdI_NoRule ["self","place"] (zLF (xl 5) "place"))(bI_NoRule:Binds K fdI_NoRule ["self","place"] []):(yKJ P w K mg base) "check_rules" 8 2 ["tables","rules"] bH:=
 by have h:=yKK (P:=P) (w:=w) (base:=base) D (λ_ _ _ _ _ _ us hl=>match us,hl with |[_,_],_=>rfl) λf fd F=>okX (k:=7) _ F zDK λcdv A outer s H E hr=>(zK (zCF PassesOwn.leaving rfl (zQS rfl wK (zA (zB 1) zD)) (zGV (n:=2) rfl (wY (wX 2 zDK.nd) (wY (wX 3 zDK.nd) zGU))) (zK (yY (jH (yR (zI yHR (hr.mono (by decide)) rfl (zA (zB 3) (zA (zB 0) zD))))) (zK (zGE zEG rfl (XT.each.at t5M).1 XT.mc y_NoRule GI_NoRule bI_NoRule hr (zB 2))) yK))))
    exact h
abbrev zIA:Stmt:=top 42
theorem jV:FnScope zNL ["tables","rows"] (zG zIA):=fsK (by decide+kernel)
theorem zTU(D:DefM K mg "check_rows" zIA){xM:Addr}{xl:Nat->Addr}(XT:XTab K mg xM (XCS xl))(wK:mg "enumerate"=none)(yLV:(CalM P w K mg base) "is_row" 3 2 ["thing","tables"] zJV){f_NoRow:Addr}{fdI_NoRow:FuncData}(y_NoRow:XIn K xM (xl 6) f_NoRow)(GI_NoRow:FnOk P w K mg base CX0 1 f_NoRow fdI_NoRow ["self","place"] (zLF (xl 6) "place"))(bI_NoRow:Binds K fdI_NoRow ["self","place"] []){f_Twice:Addr}{fdI_Twice:FuncData}(y_Twice:XIn K xM (xl 7) f_Twice)(GI_Twice:FnOk P w K mg base CX0 1 f_Twice fdI_Twice ["self","place"] (zLF (xl 7) "place"))(bI_Twice:Binds K fdI_Twice ["self","place"] []):(yKJ P w K mg base) "check_rows" 4 2 ["tables","rows"] dA:=
 by have h:=yKK (P:=P) (w:=w) (base:=base) D (λ_ _ _ _ _ _ us hl=>match us,hl with |[_,_],_=>rfl) λf fd F=>okX (k:=3) _ F jV λcdv A outer s H E hr=>(zF (zCF PassesOwn.leaving rfl (zQS rfl wK (zA (zB 1) zD)) (zGV (n:=2) rfl (wY (wX 2 jV.nd) (wY (wX 3 jV.nd) zGU))) (zK (yY (jH (yR (zI yLV (hr.mono (by decide)) rfl (zA (zB 3) (zA (zB 0) zD))))) (zK (zGE zEG rfl (XT.each.at t6M).1 XT.mc y_NoRow GI_NoRow bI_NoRow hr (zB 2))) yK))) (zF (zN 4 jV.nd yJX) (zK (zCF PassesOwn.leaving rfl (zQS rfl wK (zA (zB 1) zD)) (zGV (n:=2) rfl (wY (wX 2 jV.nd) (wY (wX 3 jV.nd) zGU))) (zF (yY (ySR hr.units (zB 3) (zB 4)) (zK (zGE zEG rfl (XT.each.at t7M).1 XT.mc y_Twice GI_Twice bI_Twice hr (zB 2))) yK) (zK (zCE zBJ (yOB hr.units (zB 4) (zB 3)))))))))
    exact h
abbrev zPG:Stmt:=top 43
theorem yCY:FnScope yZ yZ (zG zPG):=fsK (by decide+kernel)
theorem yCZ(D:DefM K mg "book_of" zPG)(zUA:(yKJ P w K mg base) "check_sizes" 1 3 yZ bF)(zTF:(yKJ P w K mg base) "check_tables" 4 1 ["tables"] gE)(zTZ:(yKJ P w K mg base) "check_rules" 8 2 ["tables","rules"] bH)(zXV:(yKJ P w K mg base) "check_rows" 4 2 ["tables","rows"] dA)(yU:mg "tuple"=none):(yKJ P w K mg base) "book_of" 9 3 yZ xR:=
 by have h:=yKK (P:=P) (w:=w) (base:=base) D (λ_ _ _ _ _ _ us hl=>match us,hl with |[_,_,_],_=>rfl) λf fd F=>okX (k:=8) _ F yCY λcdv A outer s H E hr=>(zF (zBP (zKU zEG zUA (hr.mono (by decide)) rfl (zA (zB 0) (zA (zB 1) (zA (zB 2) zD))))) (zF (zBP (zKU zEG zTF (hr.mono (by decide)) rfl (zA (zB 0) zD))) (zF (zBP (zKU zEG zTZ (hr.mono (by decide)) rfl (zA (zB 0) (zA (zB 1) zD)))) (zF (zBP (zKU zEG zXV (hr.mono (by decide)) rfl (zA (zB 0) (zA (zB 2) zD)))) (zK (zU (yV (zA (kA xD bC rfl yU kF (zA (zB 0) zD)) (zA (kA xD bC rfl yU kF (zA (zB 1) zD)) (zA (kA xD bC rfl yU kF (zA (zB 2) zD)) zD))))))))))
    exact h
abbrev zDL:Stmt:=top 45
theorem zQH:FnScope ["_law_script","_law_k"] ["_law_script","_law_k"] (zG zDL):=fsK (by decide+kernel)
theorem zQI(D:DefM K mg "_law_cell_at" zDL)(yQ:mg "len"=none):(CalM P w K mg base) "_law_cell_at" 1 2 ["_law_script","_law_k"] zZ:=
 by have h:=okC (P:=P) (w:=w) (base:=base) D (λ_ _ _ _ _ _ us hl=>match us,hl with |[_,_],_=>rfl) λf fd F=>okM (k:=0) _ F zQH λcdv A outer s H E hr=>(zF (yY (yJE hr.units (zB 1) (zL zW xA rfl yQ xB (zA (zB 0) zD))) (zK (zU (zP (zB 0) (zB 1)))) yK) (zK (zU zC)))
    exact h
abbrev zMP:Stmt:=top 46
theorem zQA:FnScope zLY ["_law_cell","_law_prime"] (zG zMP):=fsK (by decide+kernel)
theorem yAG(D:DefM K mg "_law_mix" zMP):(CalM P w K mg base) "_law_mix" 1 2 ["_law_cell","_law_prime"] xE:=
 by have h:=okC (P:=P) (w:=w) (base:=base) D (λ_ _ _ _ _ _ us hl=>match us,hl with |[_,_],_=>rfl) λf fd F=>okM (k:=0) _ F zQA λcdv A outer s H E hr=>(zF (yY (zBK hr.units (yN (zB 0) zC) zC) (zK (zU (yN (xO (zB 0) zC) (zGW (zGW zC zC) zC)))) yK) (zF (zN 2 zQA.nd (yN (zLV (yW (yN (zB 0) zC) zC) zC) (zB 1))) (zK (zU (yW (zLV (yN (zLV (zB 2) (zB 2)) zC) zC) (zB 2))))))
    exact h
abbrev zKE:Stmt:=top 47
theorem jM:FnScope zJE ["_law_cell"] (zG zKE):=fsK (by decide+kernel)
theorem zXN(D:DefM K mg "_law_name" zKE)(xK:mg "range"=none):(CalM P w K mg base) "_law_name" 1 1 ["_law_cell"] cG:=
 by have h:=okC (P:=P) (w:=w) (base:=base) D (λ_ _ _ _ _ _ us hl=>match us,hl with |[_],_=>rfl) λf fd F=>okM (k:=0) _ F jM λcdv A outer s H E hr=>(zF (zN 1 jM.nd (wE [97,98,99,100,101,102,103,104,105,106,107,108,109,110,111,112,113,114,115,116,117,118,119,120,121,122])) (zF (zN 2 jM.nd (xO (zB 0) zC)) (zF (zN 3 jM.nd (wE [])) (zF (zCF PassesOwn.never rfl (kS rfl xK (zA (yW zC (yN (zB 0) zC)) zD)) (wX 4 jM.nd) (zF (zN 3 jM.nd (yW (zB 3) (zP (zB 1) (yN (zB 2) zC)))) (zK (zN 2 jM.nd (xO (zB 2) zC))))) (zK (zU (zB 3)))))))
    exact h
abbrev zKF:Stmt:=top 48
theorem xG:FnScope zJF ["_law_cell"] (zG zKF):=fsK (by decide+kernel)
theorem zXO(D:DefM K mg "_law_pool" zKF)(cB:(CalM P w K mg base) "_law_mix" 1 2 ["_law_cell","_law_prime"] xE)(yAJ:(CalM P w K mg base) "_law_name" 1 1 ["_law_cell"] cG)(yQ:mg "len"=none):(CalM P w K mg base) "_law_pool" 2 1 ["_law_cell"] cH:=
 by have h:=okC (P:=P) (w:=w) (base:=base) D (λ_ _ _ _ _ _ us hl=>match us,hl with |[_],_=>rfl) λf fd F=>okM (k:=1) _ F xG λcdv A outer s H E hr=>(zF (zN 1 xG.nd (zI cB (hr.mono (by decide)) rfl (zA (zB 0) (zA zC zD)))) (zF (zN 2 xG.nd (wE [97,98,99,100,101,102,103,104,105,106,107,108,109,110,111,112,113,114,115,116,117,118,119,120,121,122])) (zF (zN 3 xG.nd (zI yAJ (hr.mono (by decide)) rfl (zA (zB 1) zD))) (zF (zN 1 xG.nd (xO (zB 1) (zLV zC (zGW zC zC)))) (zF (zN 4 xG.nd (yN (zB 1) (zL zW xA rfl yQ xB (zA (zB 3) zD)))) (zF (zN 5 xG.nd (yW (yW (yNJ (zB 2) (zA (zP (zB 3) (zB 4)) zD)) zC) (yN (xO (zB 1) zC) zC))) (zF (zN 6 xG.nd (yW (yW (dY (zB 3) nW (kO (zB 4))) (zP (zB 2) (yN (zB 5) zC))) (dY (zB 3) (kO (yW (zB 4) zC)) nW))) (zF (zN 1 xG.nd (xO (zB 1) zC)) (zF (zN 7 xG.nd (yW (yN (zGW (yW (zLV (yN (zB 1) (zGW zC zC)) zC) zC) zC) (zWF (zGW zC zC) zC)) zC)) (zF (yY (zBK hr.units (yN (zB 1) zC) zC) (zK (zN 7 xG.nd (yW (yN (xO (zB 1) zC) (zWF (zGW zC zC) zC)) zC))) yK) (zK (zU (xU (zA (yN (xO (zB 1) zC) zC) (zA (zB 7) (zA (zB 3) (zA (zWF zC (zB 7)) (zA (zB 6) (zA (yW (yN (xO (zB 1) zC) zC) zC) (zA (yW (zB 7) zC) zD))))))))))))))))))))
    exact h
abbrev zBT:Stmt:=top 49
theorem zTV:FnScope ["_law_told","_law_due"] ["_law_told","_law_due"] (zG zBT):=fsK (by decide+kernel)
theorem zTW(D:DefM K mg "_law_alike" zBT)(zQC:mg "str"=none)(zH:mg "isinstance"=none)(zQD:mg "int"=none)(zIG:mg "bool"=none)(zIC:mg "list"=none)(yU:mg "tuple"=none)(yQ:mg "len"=none)(yAK:mg "zip"=none)(zDO:mg "all"=none):(CalM P w K mg base) "_law_alike" 8 2 ["_law_told","_law_due"] (zY 8):=by
 obtain⟨f,fd,hself,F⟩:=D.ex
 have kself:=F.kp
 have bself:=F.binds (ps:=["_law_told","_law_due"]) (λ_ _ _ _ _ _ us hl=>match us,hl with |[_,_],_=>rfl)
 have all: ∀n,FnOk P w K mg base CX0 (0+n) f fd ["_law_told","_law_due"] (spM ⟨K,mg,P,w⟩ 2 (zY n)):=by
  intro n
  induction n with
  |zero=>exact fn_no
  |succ n ih0=>
   have ih: ∀m,m=n->FnOk P w K mg base CX0 (0+m) f fd ["_law_told","_law_due"] (spM ⟨K,mg,P,w⟩ 2 (zY m)):=λm e=>e▸ih0
   have h:=okM (P:=P) (w:=w) (mg:=mg) (base:=base) (k:=0+n) _ F zTV λcdv A outer s H E hr=>(zF (yY (tm_is (zB 1) yBF) (zK (zU (pm_is (zB 0) yBF))) yK) (zF (yY (yR (zL wP bX rfl zH yE (zA (zB 1) (zA (zCC rfl zQC yBO) zD)))) (zK (zU (hZ (zL wP bX rfl zH yE (zA (zB 0) (zA (zCC rfl zQC yBO) zD))) (gW (zNC hr.units (zB 0) (zB 1)))))) yK) (zF (yY (yR (zL wP bX rfl zH yE (zA (zB 1) (zA (zCC rfl zQD yBN) zD)))) (zK (zU (hZ (zL wP bX rfl zH yE (zA (zB 0) (zA (zCC rfl zQD yBN) zD))) (hZ (yBG (zL wP bX rfl zH yE (zA (zB 0) (zA (zCC rfl zIG zWL) zD)))) (gW (zNC hr.units (zB 0) (zB 1))))))) yK) (zF (yY (zFX (zVZ (yR (zL wP bX rfl zH yE (zA (zB 1) (zA (zCC rfl zIC zQO) zD)))) (zVY (jH (yR (zL wP bX rfl zH yE (zA (zB 0) (zA (zCC rfl zIC zQO) zD)))))))) (zK (zU zBJ)) yK) (zF (yY (zFX (zVZ (yR (zL wP bX rfl zH yE (zA (zB 1) (zA (zCC rfl yU kF) zD)))) (zVY (jH (yR (zL wP bX rfl zH yE (zA (zB 0) (zA (zCC rfl yU kF) zD)))))))) (zK (zU zBJ)) yK) (zK (zU (hZ (zNC hr.units (zL zW xA rfl yQ xB (zA (zB 0) zD)) (zL zW xA rfl yQ xB (zA (zB 1) zD))) (gW (zL gO (zOK rfl) rfl zDO zOL (zA (bQ (zG zBT) ["_law_told","_law_due"] ["_law_one","_law_other"] [] (ySC rfl yAK (zA (zB 0) (zA (zB 1) zD))) rfl (λ_ _ _ _ hN=>(yRP (n:=2) rfl (yDU (kP 0 hN) (yDU (kP 1 hN) yRO)))) (λ_ _ _ _=>hU) (λ_ _ _ _=>(yDW (ih n rfl) (hr.mono (by omega)) rfl hself kself bself (zA (zB 0) (zA (zB 1) zD))))) zD)))))))))))
   exact h
 exact⟨f,fd,all 8,hself,kself,bself⟩
abbrev zFO:Stmt:=top 50
theorem xW:FnScope zEJ ["_law_cell","_law_most"] (zG zFO):=fsK (by decide+kernel)
theorem zTB(D:DefM K mg "_law_tables" zFO)(cB:(CalM P w K mg base) "_law_mix" 1 2 ["_law_cell","_law_prime"] xE)(xK:mg "range"=none)(yU:mg "tuple"=none):(CalM P w K mg base) "_law_tables" 2 2 ["_law_cell","_law_most"] jU:=
 by have h:=okC (P:=P) (w:=w) (base:=base) D (λ_ _ _ _ _ _ us hl=>match us,hl with |[_,_],_=>rfl) λf fd F=>okM (k:=1) _ F xW λcdv A outer s H E hr=>(zF (zN 2 xW.nd (zI cB (hr.mono (by decide)) rfl (zA (zB 0) (zA zC zD)))) (zF (zN 3 xW.nd (yW zC (yN (zB 2) (zB 1)))) (zF (zN 2 xW.nd (xO (zB 2) (zB 1))) (zF (zN 4 xW.nd (xU zD)) (zF (zCF PassesOwn.never rfl (kS rfl xK (zA (zB 3) zD)) (wX 5 xW.nd) (zF (zN 6 xW.nd (yW zC (yN (zB 2) zC))) (zF (zBP (zKS (zB 4) (zA (yV (zA (zB 6) (zA (yN (xO (zB 2) zC) (yW (zB 6) zC)) zD))) zD))) (zK (zN 2 xW.nd (xO (zB 2) zC)))))) (zK (zU (kA xD bC rfl yU kF (zA (zB 4) zD)))))))))
    exact h
abbrev zMQ:Stmt:=top 51
theorem gM:FnScope zLZ ["_law_cell","_law_tables_here","_law_pool_here","_law_wide"] (zG zMQ):=fsK (by decide+kernel)
theorem yAH(D:DefM K mg "_law_row" zMQ)(cB:(CalM P w K mg base) "_law_mix" 1 2 ["_law_cell","_law_prime"] xE)(yQ:mg "len"=none)(xK:mg "range"=none)(yU:mg "tuple"=none):(CalM P w K mg base) "_law_row" 2 4 ["_law_cell","_law_tables_here","_law_pool_here","_law_wide"] nH:=
 by have h:=okC (P:=P) (w:=w) (base:=base) D (λ_ _ _ _ _ _ us hl=>match us,hl with |[_,_,_,_],_=>rfl) λf fd F=>okM (k:=1) _ F gM λcdv A outer s H E hr=>(zF (zN 4 gM.nd (zI cB (hr.mono (by decide)) rfl (zA (zB 0) (zA zC zD)))) (zF (zN 5 gM.nd (yN (zB 4) (zL zW xA rfl yQ xB (zA (zB 1) zD)))) (zF (zN 4 gM.nd (xO (zB 4) (zL zW xA rfl yQ xB (zA (zB 1) zD)))) (zF (zN 6 gM.nd (xU zD)) (zF (zCF PassesOwn.never rfl (kS rfl xK (zA (zP (zP (zB 1) (zB 5)) zC) zD)) (wX 7 gM.nd) (zF (zBP (zKS (zB 6) (zA (zP (zB 2) (yN (zB 4) (zB 3))) zD))) (zK (zN 4 gM.nd (xO (zB 4) (zB 3)))))) (zK (zU (yV (zA (zB 5) (zA (kA xD bC rfl yU kF (zA (zB 6) zD)) zD))))))))))
    exact h
abbrev zKG:Stmt:=top 52
theorem zBU:FnScope zJG ["_law_cells","_law_tables_here","_law_pool_here","_law_wide"] (zG zKG):=fsK (by decide+kernel)
theorem zXP(D:DefM K mg "_law_rows" zKG)(yDB:(CalM P w K mg base) "_law_row" 2 4 ["_law_cell","_law_tables_here","_law_pool_here","_law_wide"] nH)(yU:mg "tuple"=none):(CalM P w K mg base) "_law_rows" 3 4 ["_law_cells","_law_tables_here","_law_pool_here","_law_wide"] cJ:=
 by have h:=okC (P:=P) (w:=w) (base:=base) D (λ_ _ _ _ _ _ us hl=>match us,hl with |[_,_,_,_],_=>rfl) λf fd F=>okM (k:=2) _ F zBU λcdv A outer s H E hr=>(zF (zN 4 zBU.nd (xU zD)) (zF (zCF PassesOwn.never rfl (yDS (zB 0)) (wX 5 zBU.nd) (zF (zN 6 zBU.nd (zI yDB (hr.mono (by decide)) rfl (zA (zB 5) (zA (zB 1) (zA (zB 2) (zA (zB 3) zD)))))) (zK (yY (yJH hr.units (zB 6) (zB 4)) (zK (zBP (zKS (zB 4) (zA (zB 6) zD)))) yK)))) (zK (zU (kA xD bC rfl yU kF (zA (zB 4) zD))))))
    exact h
abbrev zKH:Stmt:=top 53
theorem zNY:FnScope zJH ["_law_state","_law_size"] (zG zKH):=fsK (by decide+kernel)
theorem zXQ(D:DefM K mg "_law_take" zKH):(CalM P w K mg base) "_law_take" 1 2 ["_law_state","_law_size"] yC:=
 by have h:=okC (P:=P) (w:=w) (base:=base) D (λ_ _ _ _ _ _ us hl=>match us,hl with |[_,_],_=>rfl) λf fd F=>okM (k:=0) _ F zNY λcdv A outer s H E hr=>(zF (zN 2 zNY.nd (yN (zP (zB 0) zC) (zB 1))) (zF (zCE (xO (zP (zB 0) zC) (zB 1)) (zAQ (zB 0) zC)) (zK (zU (zB 2)))))
    exact h
abbrev zKI:Stmt:=top 54
theorem zNZ:FnScope zJI ["_law_state","_law_there","_law_tables_here","_law_pool_here"] (zG zKI):=fsK (by decide+kernel)
theorem zXR(D:DefM K mg "_law_side" zKI)(yX:(CalM P w K mg base) "_law_take" 1 2 ["_law_state","_law_size"] yC)(yQ:mg "len"=none):(CalM P w K mg base) "_law_side" 2 4 ["_law_state","_law_there","_law_tables_here","_law_pool_here"] kG:=
 by have h:=okC (P:=P) (w:=w) (base:=base) D (λ_ _ _ _ _ _ us hl=>match us,hl with |[_,_,_,_],_=>rfl) λf fd F=>okM (k:=1) _ F zNZ λcdv A outer s H E hr=>(zF (yY (zBK hr.units (zI yX (hr.mono (by decide)) rfl (zA (zB 0) (zA zC zD))) zC) (zK (zU (yV (zA (wE [105,115]) (zA (zP (zB 3) (zI yX (hr.mono (by decide)) rfl (zA (zB 0) (zA zC zD)))) zD))))) yK) (zF (zN 4 zNZ.nd (zI yX (hr.mono (by decide)) rfl (zA (zB 0) (zA (zL zW xA rfl yQ xB (zA (zB 1) zD)) zD)))) (zK (zU (yV (zA (wE [99,101,108,108]) (zA (zB 4) (zA (zI yX (hr.mono (by decide)) rfl (zA (zB 0) (zA (zP (zP (zB 2) (zP (zB 1) (zB 4))) zC) zD))) zD))))))))
    exact h
abbrev zIB:Stmt:=top 55
theorem bN:FnScope zGZ ["_law_state","_law_there","_law_tables_here","_law_pool_here"] (zG zIB):=fsK (by decide+kernel)
theorem zTX(D:DefM K mg "_law_tests" zIB)(xK:mg "range"=none)(yX:(CalM P w K mg base) "_law_take" 1 2 ["_law_state","_law_size"] yC)(zQB:(CalM P w K mg base) "_law_side" 2 4 ["_law_state","_law_there","_law_tables_here","_law_pool_here"] kG)(yU:mg "tuple"=none):(CalM P w K mg base) "_law_tests" 3 4 ["_law_state","_law_there","_law_tables_here","_law_pool_here"] wG:=
 by have h:=okC (P:=P) (w:=w) (base:=base) D (λ_ _ _ _ _ _ us hl=>match us,hl with |[_,_,_,_],_=>rfl) λf fd F=>okM (k:=2) _ F bN λcdv A outer s H E hr=>(zF (zN 4 bN.nd (xU zD)) (zF (zCF PassesOwn.never rfl (kS rfl xK (zA (zP (xU (zA zC (zA zC (zA zC (zA zC (zA zC (zA zC zD))))))) (zI yX (hr.mono (by decide)) rfl (zA (zB 0) (zA zC zD)))) zD)) (wX 5 bN.nd) (zF (zN 6 bN.nd (zP (xU (zA (wE [115,97,109,101]) (zA (wE [117,110,108,105,107,101]) (zA (wE [108,101,115,115]) zD)))) (zI yX (hr.mono (by decide)) rfl (zA (zB 0) (zA zC zD))))) (zF (zN 7 bN.nd (zI zQB (hr.mono (by decide)) rfl (zA (zB 0) (zA (zB 1) (zA (zB 2) (zA (zB 3) zD)))))) (zK (zBP (zKS (zB 4) (zA (yV (zA (zB 7) (zA (zB 6) (zA (zI zQB (hr.mono (by decide)) rfl (zA (zB 0) (zA (zB 1) (zA (zB 2) (zA (zB 3) zD))))) zD)))) zD))))))) (zK (zU (kA xD bC rfl yU kF (zA (zB 4) zD))))))
    exact h
abbrev zAL:Stmt:=top 56
theorem jN:FnScope zAF ["_law_cell","_law_tables_here","_law_pool_here"] (zG zAL):=fsK (by decide+kernel)
theorem zXS(D:DefM K mg "_law_rule" zAL)(cB:(CalM P w K mg base) "_law_mix" 1 2 ["_law_cell","_law_prime"] xE)(yX:(CalM P w K mg base) "_law_take" 1 2 ["_law_state","_law_size"] yC)(yQ:mg "len"=none)(zOA:(CalM P w K mg base) "_law_tests" 3 4 ["_law_state","_law_there","_law_tables_here","_law_pool_here"] wG)(xK:mg "range"=none)(yU:mg "tuple"=none):(CalM P w K mg base) "_law_rule" 4 3 ["_law_cell","_law_tables_here","_law_pool_here"] kH:=
 by have h:=okC (P:=P) (w:=w) (base:=base) D (λ_ _ _ _ _ _ us hl=>match us,hl with |[_,_,_],_=>rfl) λf fd F=>okM (k:=3) _ F jN λcdv A outer s H E hr=>(zF (zN 3 jN.nd (xU (zA (zI cB (hr.mono (by decide)) rfl (zA (zB 0) (zA zC zD))) zD))) (zF (zN 4 jN.nd (zI yX (hr.mono (by decide)) rfl (zA (zB 3) (zA zC zD)))) (zF (zN 5 jN.nd (zI yX (hr.mono (by decide)) rfl (zA (zB 3) (zA (zL zW xA rfl yQ xB (zA (zB 1) zD)) zD)))) (zF (zN 6 jN.nd (zI yX (hr.mono (by decide)) rfl (zA (zB 3) (zA (zL zW xA rfl yQ xB (zA (zB 1) zD)) zD)))) (zF (yY (zBK hr.units (zB 4) zC) (zK (zU (yV (zA (wE [110,101,118,101,114]) (zA (zB 5) (zA (zI zOA (hr.mono (by decide)) rfl (zA (zB 3) (zA (yV (zA (zB 5) zD)) (zA (zB 1) (zA (zB 2) zD))))) zD)))))) yK) (zF (yY (yJE hr.units (zB 4) zC) (zK (zU (yV (zA (wE [97,112,97,114,116]) (zA (zB 5) (zA (zB 6) (zA (zI zOA (hr.mono (by decide)) rfl (zA (zB 3) (zA (yV (zA (zB 5) (zA (zB 6) zD))) (zA (zB 1) (zA (zB 2) zD))))) zD))))))) yK) (zF (zN 7 jN.nd (zP (xU (zA zC (zA zC (zA zC (zA zC (zA zC zD)))))) (zI yX (hr.mono (by decide)) rfl (zA (zB 3) (zA zC zD))))) (zF (zN 8 jN.nd (kA xD bC rfl yU kF (zA (bQ (zG zAL) zAF ["_law_k"] [1,3,5] (kS rfl xK (zA (zB 7) zD)) rfl (λ_ _ _ _ hN=>(kP 0 hN)) (λ_ _ _ _=>hU) (λ_ _ _ _=>(zI yX (hr.mono (by decide)) rfl (zA (zB 2) (zA (zP (zP (zB 1) (zB 3)) zC) zD))))) zD))) (zK (zU (yV (zA (wE [116,105,101]) (zA (zB 5) (zA (zB 8) (zA (zB 6) (zA (kA xD bC rfl yU kF (zA (bQ (zG zAL) zAF ["_law_k"] [1,3,6] (kS rfl xK (zA (zB 7) zD)) rfl (λ_ _ _ _ hN=>(kP 0 hN)) (λ_ _ _ _=>hU) (λ_ _ _ _=>(zI yX (hr.mono (by decide)) rfl (zA (zB 2) (zA (zP (zP (zB 1) (zB 3)) zC) zD))))) zD)) zD))))))))))))))))
    exact h
abbrev zBV:Stmt:=top 57
theorem wI:FnScope zNM ["_law_e"] (zG zBV):=fsK (by decide+kernel)
theorem zTC(D:DefM K mg "_law_kinds" zBV){xM:Addr}{xl:Nat->Addr}(XT:XTab K mg xM (XCS xl))(zH:mg "isinstance"=none):(CalH P w K mg base) "_law_kinds" 1 1 ["_law_e"] dH:=
 by have h:=okCH (P:=P) (w:=w) (base:=base) D (λ_ _ _ _ _ _ us hl=>match us,hl with |[_],_=>rfl) λf fd F=>okH (k:=0) _ F wI λcdv A outer s H hr=>(zF (zN 1 wI.nd (xU (zA (wF XT xnd (.head _) zH rfl rfl (zB 0)) (zA (wF XT xnd t4M zH rfl rfl (zB 0)) (zA (wF XT xnd t5M zH rfl rfl (zB 0)) (zA (wF XT xnd t6M zH rfl rfl (zB 0)) zD)))))) (zF (zN 1 wI.nd (yW (zB 1) (xU (zA (wF XT xnd t7M zH rfl rfl (zB 0)) (zA (wF XT xnd t1M zH rfl rfl (zB 0)) (zA (wF XT xnd t2M zH rfl rfl (zB 0)) (zA (wF XT xnd t3M zH rfl rfl (zB 0)) zD))))))) (zF (zN 1 wI.nd (yW (zB 1) (xU (zA (wF XT xnd t8M zH rfl rfl (zB 0)) (zA (wF XT xnd t9M zH rfl rfl (zB 0)) (zA (wF XT xnd t10M zH rfl rfl (zB 0)) (zA (wF XT xnd t11M zH rfl rfl (zB 0)) zD))))))) (zK (zU (zB 1))))))
    exact h
theorem zTY(D:DefM K mg "_law_kinds" zBV){xM:Addr}{xl:Nat->Addr}(XT:XTab K mg xM (XCS xl))(zH:mg "isinstance"=none):(CalM P w K mg base) "_law_kinds" 1 1 ["_law_e"] dH:=
 by have h:=okC (P:=P) (w:=w) (base:=base) D (λ_ _ _ _ _ _ us hl=>match us,hl with |[_],_=>rfl) λf fd F=>okM (k:=0) _ F wI λcdv A outer s H E hr=>(zF (zN 1 wI.nd (xU (zA (wF XT xnd (.head _) zH rfl rfl (zB 0)) (zA (wF XT xnd t4M zH rfl rfl (zB 0)) (zA (wF XT xnd t5M zH rfl rfl (zB 0)) (zA (wF XT xnd t6M zH rfl rfl (zB 0)) zD)))))) (zF (zN 1 wI.nd (yW (zB 1) (xU (zA (wF XT xnd t7M zH rfl rfl (zB 0)) (zA (wF XT xnd t1M zH rfl rfl (zB 0)) (zA (wF XT xnd t2M zH rfl rfl (zB 0)) (zA (wF XT xnd t3M zH rfl rfl (zB 0)) zD))))))) (zF (zN 1 wI.nd (yW (zB 1) (xU (zA (wF XT xnd t8M zH rfl rfl (zB 0)) (zA (wF XT xnd t9M zH rfl rfl (zB 0)) (zA (wF XT xnd t10M zH rfl rfl (zB 0)) (zA (wF XT xnd t11M zH rfl rfl (zB 0)) zD))))))) (zK (zU (zB 1))))))
    exact h
abbrev dM:Stmt:=top 58
theorem kD:FnScope zCH ["_law_parts","_law_which","_law_place"] (zG dM):=fsK (by decide+kernel)
theorem zQJ(D:DefM K mg "_law_refused" dM){xM:Addr}{xl:Nat->Addr}(XT:XTab K mg xM (XCS xl))(GH__law_kinds:(CalH P w K mg base) "_law_kinds" 1 1 ["_law_e"] dH)(zH:mg "isinstance"=none)(dN:mg "ValueError"=none)(zPL:(yKJ P w K mg base) "book_of" 9 3 yZ xR)(xK:mg "range"=none)(zIG:mg "bool"=none):(CalM P w K mg base) "_law_refused" 10 3 ["_law_parts","_law_which","_law_place"] jF:=
 by have h:=okC (P:=P) (w:=w) (base:=base) D (λ_ _ _ _ _ _ us hl=>match us,hl with |[_,_,_],_=>rfl) λf fd F=>okM (k:=9) _ F kD λcdv A outer s H E hr=>(zF (zN 3 kD.nd (xU zD)) (zF (zN 4 kD.nd yBF) (zF (yKL (i:=5) XT rfl kD.nd zPL (hr.mono (by decide)) rfl (zA (zP (zB 0) zC) (zA (zP (zB 0) zC) (zA (zP (zB 0) zC) zD))) (λv=>(zF (zN 3 kD.nd (yW (yHC GH__law_kinds ((hr.inH v).mono (by decide)) rfl (zA (zB 5) zD)) (xU (zA (ySS XT zH dN rfl rfl (zB 5)) zD)))) (zK (yY (yEA (zB 1) zC) (zK (zN 4 kD.nd (ySU XT (by decide) zJC (zB 5)))) yK))))) (zF (yY (zPT hr.units (zB 3) (yW (bQ (zG dM) zCH ["_law_k"] [1] (kS rfl xK (zA zC zD)) rfl (λ_ _ _ _ hN=>(kP 0 hN)) (λ_ _ _ _=>hU) (λ_ _ _ _=>(zNC hr.units (zB 0) (zB 1)))) (xU (zA zBJ zD)))) (zK (zU zBJ)) yK) (zK (zU (pm_or (zNC hr.units (zB 1) zC) (gW (hZ (yBG (zL wP bX rfl zH yE (zA (zB 4) (zA (zCC rfl zIG zWL) zD)))) (gW (zNC hr.units (zB 4) (zB 2))))))))))))
    exact h
abbrev zFP:Stmt:=top 59
theorem zKJ:FnScope zLH ["_law_some","_law_cell","_law_thing"] (zG zFP):=fsK (by decide+kernel)
theorem zTD(D:DefM K mg "_law_put_in" zFP)(yQ:mg "len"=none):(CalM P w K mg base) "_law_put_in" 1 3 ["_law_some","_law_cell","_law_thing"] kM:=
 by have h:=okC (P:=P) (w:=w) (base:=base) D (λ_ _ _ _ _ _ us hl=>match us,hl with |[_,_,_],_=>rfl) λf fd F=>okM (k:=0) _ F zKJ λcdv A outer s H E hr=>(zF (zN 3 zKJ.nd (yN (zB 1) (yW (zL zW xA rfl yQ xB (zA (zB 0) zD)) zC))) (zK (zU (yV (zA (yW (yW (dY (zB 0) nW (kO (zB 3))) (xU (zA (zB 2) zD))) (dY (zB 0) (kO (zB 3)) nW)) (zA (zB 3) zD))))))
    exact h
abbrev bV:Stmt:=top 60
theorem zPH:FnScope kB kB (zG bV):=fsK (by decide+kernel)
theorem zPI(D:DefM K mg "_law_too_many" bV)(xK:mg "range"=none):(CalM P w K mg base) "_law_too_many" 1 2 kB kC:=
 by have h:=okC (P:=P) (w:=w) (base:=base) D (λ_ _ _ _ _ _ us hl=>match us,hl with |[_,_],_=>rfl) λf fd F=>okM (k:=0) _ F zPH λcdv A outer s H E hr=>(zK (yY (zBK hr.units (yN (zB 1) zC) zC) (zK (zCE (dY (zLV (zP (zB 0) zC) zC) nW (kO zC)) (zAQ (zB 0) zC))) (zK (yY (zBK hr.units (yN (zB 1) zC) zC) (zK (zCE (zLV (xU (zA (yV (zA (wE [110,101,118,101,114]) (zA zC (zA (yV (zA (yV (zA (yV (zA (wE [99,101,108,108]) (zA zC (zA zC zD)))) (zA (wE [115,97,109,101]) (zA (yV (zA (wE [105,115]) (zA zC zD))) zD)))) zD)) zD)))) zD)) zC) (zAQ (zB 0) zC))) (zK (zCE (bQ (zG bV) kB ["_law_k"] [0] (kS rfl xK (zA zC zD)) rfl (λ_ _ _ _ hN=>(kP 0 hN)) (λ_ _ _ _=>hU) (λ_ _ _ _=>(yV (zA zC (zA (yOH (yV (zA (zB 0) zD)) (zP (zP (zP (zB 1) zC) zC) zC)) zD))))) (zAQ (zB 0) zC)))))))
    exact h
abbrev zDM:Stmt:=top 61
theorem wB:FnScope zJJ ["_law_parts","_law_script"] (zG zDM):=fsK (by decide+kernel)
theorem zQK(D:DefM K mg "_law_spoiled" zDM)(wW:(CalM P w K mg base) "_law_cell_at" 1 2 ["_law_script","_law_k"] zZ)(yQ:mg "len"=none)(zFR:(CalM P w K mg base) "_law_put_in" 1 3 ["_law_some","_law_cell","_law_thing"] kM)(zQL:(CalM P w K mg base) "_law_too_many" 1 2 kB kC):(CalM P w K mg base) "_law_spoiled" 2 2 ["_law_parts","_law_script"] gK:=
 by have h:=okC (P:=P) (w:=w) (base:=base) D (λ_ _ _ _ _ _ us hl=>match us,hl with |[_,_],_=>rfl) λf fd F=>okM (k:=1) _ F wB λcdv A outer s H E hr=>(zF (zN 2 wB.nd (yN (zI wW (hr.mono (by decide)) rfl (zA (zB 1) (zA zC zD))) zC)) (zF (zN 3 wB.nd (yN (zI wW (hr.mono (by decide)) rfl (zA (zB 1) (zA zC zD))) (zGW zC zC))) (zF (zN 4 wB.nd (xU (zA zC (zA zC (zA zC (zA zC (zA zC zD))))))) (zF (yY (zFX (zVZ (zBK hr.units (yN (xO (zB 2) zC) zC) zC) (zVZ (zPT hr.units (zP (zB 0) zC) (xU zD)) (zVY (yJE hr.units (zL zW xA rfl yQ xB (zA (zP (zB 0) zC) zD)) zC))))) (zF (zN 5 wB.nd (yN (zB 3) (zL zW xA rfl yQ xB (zA (zP (zB 0) zC) zD)))) (zF (zN 6 wB.nd (yW (yW (zB 5) zC) (yN (xO (zB 3) zC) (zWF (zL zW xA rfl yQ xB (zA (zP (zB 0) zC) zD)) (zB 5))))) (zF (zCE (yW (yW (dY (zP (zB 0) zC) nW (kO (zB 6))) (xU (zA (zP (zP (zB 0) zC) (zB 5)) zD))) (dY (zP (zB 0) zC) (kO (zB 6)) nW)) (zAQ (zB 0) zC)) (zK (zCE (zB 6) (zAQ (zB 4) zC)))))) (zK (zN 2 wB.nd (yN (zB 2) zC)))) (zF (yY (zBK hr.units (yN (xO (zB 2) zC) zC) zC) (zK (zCE (zI zFR (hr.mono (by decide)) rfl (zA (dY (zP (zB 0) zC) nW (kO zC)) (zA (xO (zB 3) zC) (zA (yV (zA (zL zW xA rfl yQ xB (zA (zP (zB 0) zC) zD)) (zA (yV (zA zC zD)) zD))) zD)))) (zGV (n:=2) rfl (wY (zAQ (zB 0) zC) (wY (zAQ (zB 4) zC) zGU))))) yK) (zF (yY (zBK hr.units (yN (xO (zB 2) zC) zC) zC) (zK (zCE (zI zFR (hr.mono (by decide)) rfl (zA (dY (zP (zB 0) zC) nW (kO zC)) (zA (xO (zB 3) zC) (zA (yV (zA (wE [116,105,101]) (zA zC (zA (yV (zA zC zD)) (zA zC (zA (yV (zA zC (zA zC zD))) zD)))))) zD)))) (zGV (n:=2) rfl (wY (zAQ (zB 0) zC) (wY (zAQ (zB 4) zC) zGU))))) yK) (zF (yY (zBK hr.units (yN (xO (zB 2) zC) zC) zC) (zK (zCE (zI zFR (hr.mono (by decide)) rfl (zA (dY (zP (zB 0) zC) nW (kO zC)) (zA (xO (zB 3) zC) (zA (zP (xU (zA (yV (zA zC (zA zC zD))) (zA (yV (zA zC (zA zC zD))) (zA (yV (zA zC (zA zC zD))) (zA (yV (zA zC (zA yRM zD))) zD))))) (yN (xO (zB 3) zC) zC)) zD)))) (zGV (n:=2) rfl (wY (zAQ (zB 0) zC) (wY (zAQ (zB 4) zC) zGU))))) yK) (zF (yY (zBK hr.units (yN (zB 2) zC) zC) (zK (zBP (zI zQL (hr.mono (by decide)) rfl (zA (zB 0) (zA (xO (zB 3) zC) zD))))) yK) (zK (zU (yV (zA (zB 2) (zA (zB 4) zD)))))))))))))
    exact h
abbrev zTE:Stmt:=top 62
theorem zBI:FnScope zUY ["_law_script"] (zG zTE):=fsK (by decide+kernel)
theorem yUD{f:Addr}{fd:FuncData}(F:Fun K "law" "law" zTE f fd)(yAN:(CalM P w K mg base) "_law_pool" 2 1 ["_law_cell"] cH)(wW:(CalM P w K mg base) "_law_cell_at" 1 2 ["_law_script","_law_k"] zZ)(zUB:(CalM P w K mg base) "_law_tables" 2 2 ["_law_cell","_law_most"] jU)(xK:mg "range"=none)(yAI:(CalM P w K mg base) "_law_rule" 4 3 ["_law_cell","_law_tables_here","_law_pool_here"] kH)(yU:mg "tuple"=none)(yAL:(CalM P w K mg base) "_law_rows" 3 4 ["_law_cells","_law_tables_here","_law_pool_here","_law_wide"] cJ)(zIC:mg "list"=none)(zTH:(CalM P w K mg base) "_law_spoiled" 2 2 ["_law_parts","_law_script"] gK)(zTK:(CalM P w K mg base) "_law_refused" 10 3 ["_law_parts","_law_which","_law_place"] jF)(zXT:(CalM P w K mg base) "_law_alike" 8 2 ["_law_told","_law_due"] (zY 8))(zPL:(yKJ P w K mg base) "book_of" 9 3 yZ xR):FnOk P w K mg base CX0 11 f fd ["_law_script"] (spM ⟨K,mg,P,w⟩ 1 zZC):=
 by have h:=okM (P:=P) (w:=w) (mg:=mg) (base:=base) (k:=10) _ F zBI λcdv A outer s H E hr=>(zF (zN 1 zBI.nd (zI yAN (hr.mono (by decide)) rfl (zA (zI wW (hr.mono (by decide)) rfl (zA (zB 0) (zA zC zD))) zD))) (zF (zN 2 zBI.nd (zI zUB (hr.mono (by decide)) rfl (zA (zI wW (hr.mono (by decide)) rfl (zA (zB 0) (zA zC zD))) (zA zC zD)))) (zF (zN 3 zBI.nd (zI wW (hr.mono (by decide)) rfl (zA (zB 0) (zA zC zD)))) (zF (zN 4 zBI.nd (kA xD bC rfl yU kF (zA (bQ (zG zTE) zUY ["_law_k"] [0,1,2] (kS rfl xK (zA (yN (zB 3) zC) zD)) rfl (λ_ _ _ _ hN=>(kP 0 hN)) (λ_ _ _ _=>hU) (λ_ _ _ _=>(zI yAI (hr.mono (by decide)) rfl (zA (zI wW (hr.mono (by decide)) rfl (zA (zB 1) (zA (yW zC (zB 0)) zD))) (zA (zB 3) (zA (zB 2) zD)))))) zD))) (zF (zN 5 zBI.nd (yV (zA (zB 2) (zA (zB 4) (zA (zI yAL (hr.mono (by decide)) rfl (zA (dY (zB 0) (kO zC) (kO zC)) (zA (zB 2) (zA (zB 1) (zA (yW zC (yN (xO (zB 3) zC) zC)) zD))))) zD))))) (zF (zWA 6 zBI.nd (zG zTE) zUY ["_law_some"] [] (zLT (zB 5)) rfl (λ_ _ _ _ hN=>(kP 0 hN)) (λ_ _ _ _=>hU) (λ_ _ _ _=>(kA zMV yED rfl zIC zQO (zA (zB 0) zD)))) (zF (zCE (zI zTH (hr.mono (by decide)) rfl (zA (zB 6) (zA (zB 0) zD))) (zGV (n:=2) rfl (wY (wX 7 zBI.nd) (wY (wX 8 zBI.nd) zGU)))) (zF (zWA 9 zBI.nd (zG zTE) zUY ["_law_some"] [] (yDS (zB 6)) rfl (λ_ _ _ _ hN=>(kP 0 hN)) (λ_ _ _ _=>hU) (λ_ _ _ _=>(kA zMV yED rfl zIC zQO (zA (zB 0) zD)))) (zF (zWA 10 zBI.nd (zG zTE) zUY ["_law_k"] [7] (kS rfl xK (zA zC zD)) rfl (λ_ _ _ _ hN=>(kP 0 hN)) (λ_ _ _ _=>(yMX (zBK hr.units (yN (xO (zB 1) (yRT zC (zB 0))) zC) zC))) (λ_ _ _ _=>(zB 0))) (zF (yY (zPT hr.units (zB 10) (xU zD)) (zK (zCF PassesOwn.never rfl (kS rfl xK (zA zC zD)) (wX 11 zBI.nd) (zK (yY (zFX (zIX (jH (yR (zI zTK (hr.mono (by decide)) rfl (zA (zB 6) (zA (zP (zB 10) zC) (zA (zP (zB 8) (zP (zB 10) zC)) zD)))))) (zEH (zPT hr.units (zB 6) (zB 9))))) (zK (zU zBJ)) yK)))) yK) (zK (zU (zI zXT (hr.mono (by decide)) rfl (zA (zI zPL.noX (hr.mono (by decide)) rfl (zA (zP (zB 5) zC) (zA (zP (zB 5) zC) (zA (zP (zB 5) zC) zD)))) (zA (zB 5) zD)))))))))))))))
    exact h
end
theorem all_mk{l:PySem.W.OpenLaw}{w:World}{K:PySem.W.Frag}{h:Heap}{mg:Str->Option Value}{fa:Addr}(X:K.In h)(GG:h.Ns mainGlobals mg)(hfa:mg "law"=some (.ref fa))
  (D0:DefM K mg "is_whole" zMI)
  (D1:DefM K mg "is_name" zLB)
  (D2:DefM K mg "is_value" zMJ)
  (D3:DefM K mg "is_tuple" zMK)
  (D4:DefM K mg "is_number_below" dL)
  (D5:DefM K mg "is_table" zMN)
  (D6:DefM K mg "is_side" zPC)
  (D7:DefM K mg "is_test" zPD)
  (D8:DefM K mg "are_tests" zEE)
  (D9:DefM K mg "are_columns" zAC)
  (D10:DefM K mg "is_never" zMO)
  (D11:DefM K mg "is_apart" zDI)
  (D12:DefM K mg "is_tie" zSX)
  (D13:DefM K mg "is_rule" zPF)
  (D14:DefM K mg "is_row" zNX)
  (D15:DefM K mg "check_sizes" zFM)
  (D16:DefM K mg "check_tables" zDJ)
  (D17:DefM K mg "check_rules" zFN)
  (D18:DefM K mg "check_rows" zIA)
  (D19:DefM K mg "book_of" zPG)
  (D20:DefM K mg "_law_cell_at" zDL)
  (D21:DefM K mg "_law_mix" zMP)
  (D22:DefM K mg "_law_name" zKE)
  (D23:DefM K mg "_law_pool" zKF)
  (D24:DefM K mg "_law_alike" zBT)
  (D25:DefM K mg "_law_tables" zFO)
  (D26:DefM K mg "_law_row" zMQ)
  (D27:DefM K mg "_law_rows" zKG)
  (D28:DefM K mg "_law_take" zKH)
  (D29:DefM K mg "_law_side" zKI)
  (D30:DefM K mg "_law_tests" zIB)
  (D31:DefM K mg "_law_rule" zAL)
  (D32:DefM K mg "_law_kinds" zBV)
  (D33:DefM K mg "_law_refused" dM)
  (D34:DefM K mg "_law_put_in" zFP)
  (D35:DefM K mg "_law_too_many" bV)
  (D36:DefM K mg "_law_spoiled" zDM)
  (D37:DefM K mg "law" zTE)
  {zDP:Tok} (gN:PySem.W.nsIn K mainGlobals "MOST_LETTERS"=some (some (.int 8 zDP)))
  {zKL:Tok} (zAN:PySem.W.nsIn K mainGlobals "MOST_ROWS"=some (some (.int 60 zKL)))
  {zIF:Tok} (dP:PySem.W.nsIn K mainGlobals "MOST_RULES"=some (some (.int 6 zIF)))
  {zFQ:Tok} (bO:PySem.W.nsIn K mainGlobals "MOST_TABLES"=some (some (.int 4 zFQ)))
  {zIE:Tok} (dO:PySem.W.nsIn K mainGlobals "MOST_TESTS"=some (some (.int 3 zIE)))
  {zKK:Tok} (zAO:PySem.W.nsIn K mainGlobals "MOST_TIED"=some (some (.int 3 zKK)))
  {zKO:Tok} (zAM:PySem.W.nsIn K mainGlobals "MOST_WIDE"=some (some (.int 4 zKO)))
  {yFS:Addr} {oc_WORDS:Value} {od_WORDS:Option Addr} {its_WORDS:Array Value} {n_WORDS:Nat} {sl_WORDS:Array (Option Value)} (zOC:PySem.W.nsIn K mainGlobals "WORDS"=some (some (.ref yFS))) (zXW:K.lookup yFS=some ⟨oc_WORDS,od_WORDS,.seq its_WORDS n_WORDS,sl_WORDS⟩) (zOB:oc_WORDS=.type "tuple"/\its_WORDS.size<=sizeLine/\Vals ([.str [115,97,109,101],.str [117,110,108,105,107,101],.str [108,101,115,115]].map yEJ) its_WORDS.toList)
  {C_MendError:Addr} {i_MendError:Option Value} (zKN:PySem.W.nsIn K mainGlobals "MendError"=some (some (.ref C_MendError))) (x_MendError:XCl K C_MendError bmV i_MendError)
  {C_TooGreat:Addr} {i_TooGreat:Option Value} (zMR:PySem.W.nsIn K mainGlobals "TooGreat"=some (some (.ref C_TooGreat))) (x_TooGreat:XCl K C_TooGreat (.ref C_MendError::bmV) i_TooGreat)
  {C_NoText:Addr} {i_NoText:Option Value} (zTI:PySem.W.nsIn K mainGlobals "NoText"=some (some (.ref C_NoText))) (x_NoText:XCl K C_NoText (.ref C_MendError::bmV) i_NoText)
  {C_NoPlace:Addr} {i_NoPlace:Option Value} (zPM:PySem.W.nsIn K mainGlobals "NoPlace"=some (some (.ref C_NoPlace))) (x_NoPlace:XCl K C_NoPlace (.ref C_MendError::bmV) i_NoPlace)
  {C_NotPlain:Addr} {i_NotPlain:Option Value} (zMT:PySem.W.nsIn K mainGlobals "NotPlain"=some (some (.ref C_NotPlain))) (x_NotPlain:XCl K C_NotPlain (.ref C_MendError::bmV) i_NotPlain)
  {C_NoTable:Addr} {i_NoTable:Option Value} (zPJ:PySem.W.nsIn K mainGlobals "NoTable"=some (some (.ref C_NoTable))) (x_NoTable:XCl K C_NoTable (.ref C_MendError::bmV) i_NoTable)
  {C_NoRule:Addr} {i_NoRule:Option Value} (zTG:PySem.W.nsIn K mainGlobals "NoRule"=some (some (.ref C_NoRule))) (x_NoRule:XCl K C_NoRule (.ref C_MendError::bmV) i_NoRule)
  {C_NoRow:Addr} {i_NoRow:Option Value} (zXU:PySem.W.nsIn K mainGlobals "NoRow"=some (some (.ref C_NoRow))) (x_NoRow:XCl K C_NoRow (.ref C_MendError::bmV) i_NoRow)
  {C_Twice:Addr} {i_Twice:Option Value} (zXX:PySem.W.nsIn K mainGlobals "Twice"=some (some (.ref C_Twice))) (x_Twice:XCl K C_Twice (.ref C_MendError::bmV) i_Twice)
  {C_NoQuestion:Addr} {i_NoQuestion:Option Value} (zID:PySem.W.nsIn K mainGlobals "NoQuestion"=some (some (.ref C_NoQuestion))) (x_NoQuestion:XCl K C_NoQuestion (.ref C_MendError::bmV) i_NoQuestion)
  {C_Double:Addr} {i_Double:Option Value} (zTJ:PySem.W.nsIn K mainGlobals "Double"=some (some (.ref C_Double))) (x_Double:XCl K C_Double (.ref C_MendError::bmV) i_Double)
  {C_TooWide:Addr} {i_TooWide:Option Value} (zPK:PySem.W.nsIn K mainGlobals "TooWide"=some (some (.ref C_TooWide))) (x_TooWide:XCl K C_TooWide (.ref C_MendError::bmV) i_TooWide)
  {C_Ring:Addr} {i_Ring:Option Value} (yDA:PySem.W.nsIn K mainGlobals "Ring"=some (some (.ref C_Ring))) (x_Ring:XCl K C_Ring (.ref C_MendError::bmV) i_Ring)
  (j_MendError:i_MendError=none)
  (j_TooGreat:i_TooGreat=none)
  (j_NoText:i_NoText=none)
  (j_NoPlace:i_NoPlace=none)
  (j_NotPlain:i_NotPlain=none)
  {I_NoTable:Addr} {odI_NoTable anI_NoTable:Option Addr} {slI_NoTable:Array (Option Value)} {ocI_NoTable kVI_NoTable dcI_NoTable pmI_NoTable cdI_NoTable ctI_NoTable:Value} (y_NoTable:XIn K C_MendError C_NoTable I_NoTable) (lI_NoTable:K.lookup I_NoTable=some ⟨ocI_NoTable,odI_NoTable,.func (PySem.W.fnOf "__init__" "NoTable.__init__" (cN zDH) (kE zDH) (zG zDH) .none kVI_NoTable dcI_NoTable pmI_NoTable anI_NoTable cdI_NoTable ctI_NoTable),slI_NoTable⟩) (cI_NoTable:PySem.W.codeIn K cdI_NoTable "NoTable.__init__"=true) (kI_NoTable:PySem.W.keepIn K (.ref I_NoTable)=true)
  {I_NoRule:Addr} {odI_NoRule anI_NoRule:Option Addr} {slI_NoRule:Array (Option Value)} {ocI_NoRule kVI_NoRule dcI_NoRule pmI_NoRule cdI_NoRule ctI_NoRule:Value} (y_NoRule:XIn K C_MendError C_NoRule I_NoRule) (lI_NoRule:K.lookup I_NoRule=some ⟨ocI_NoRule,odI_NoRule,.func (PySem.W.fnOf "__init__" "NoRule.__init__" (cN zGR) (kE zGR) (zG zGR) .none kVI_NoRule dcI_NoRule pmI_NoRule anI_NoRule cdI_NoRule ctI_NoRule),slI_NoRule⟩) (cI_NoRule:PySem.W.codeIn K cdI_NoRule "NoRule.__init__"=true) (kI_NoRule:PySem.W.keepIn K (.ref I_NoRule)=true)
  {I_NoRow:Addr} {odI_NoRow anI_NoRow:Option Addr} {slI_NoRow:Array (Option Value)} {ocI_NoRow kVI_NoRow dcI_NoRow pmI_NoRow cdI_NoRow ctI_NoRow:Value} (y_NoRow:XIn K C_MendError C_NoRow I_NoRow) (lI_NoRow:K.lookup I_NoRow=some ⟨ocI_NoRow,odI_NoRow,.func (PySem.W.fnOf "__init__" "NoRow.__init__" (cN zKC) (kE zKC) (zG zKC) .none kVI_NoRow dcI_NoRow pmI_NoRow anI_NoRow cdI_NoRow ctI_NoRow),slI_NoRow⟩) (cI_NoRow:PySem.W.codeIn K cdI_NoRow "NoRow.__init__"=true) (kI_NoRow:PySem.W.keepIn K (.ref I_NoRow)=true)
  {I_Twice:Addr} {odI_Twice anI_Twice:Option Addr} {slI_Twice:Array (Option Value)} {ocI_Twice kVI_Twice dcI_Twice pmI_Twice cdI_Twice ctI_Twice:Value} (y_Twice:XIn K C_MendError C_Twice I_Twice) (lI_Twice:K.lookup I_Twice=some ⟨ocI_Twice,odI_Twice,.func (PySem.W.fnOf "__init__" "Twice.__init__" (cN zKD) (kE zKD) (zG zKD) .none kVI_Twice dcI_Twice pmI_Twice anI_Twice cdI_Twice ctI_Twice),slI_Twice⟩) (cI_Twice:PySem.W.codeIn K cdI_Twice "Twice.__init__"=true) (kI_Twice:PySem.W.keepIn K (.ref I_Twice)=true)
  (xm:XMn K C_MendError)
  (xd:[C_MendError,C_TooGreat,C_NoText,C_NoPlace,C_NotPlain,C_NoTable,C_NoRule,C_NoRow,C_Twice,C_NoQuestion,C_Double,C_TooWide,C_Ring].Nodup)
  (dN:PySem.W.nsIn K mainGlobals "ValueError"=some none)
  (yAM:PySem.W.nsIn K mainGlobals "abs"=some none)
  (zDO:PySem.W.nsIn K mainGlobals "all"=some none)
  (zIG:PySem.W.nsIn K mainGlobals "bool"=some none)
  (wK:PySem.W.nsIn K mainGlobals "enumerate"=some none)
  (zQD:PySem.W.nsIn K mainGlobals "int"=some none)
  (zH:PySem.W.nsIn K mainGlobals "isinstance"=some none)
  (yQ:PySem.W.nsIn K mainGlobals "len"=some none)
  (zIC:PySem.W.nsIn K mainGlobals "list"=some none)
  (xK:PySem.W.nsIn K mainGlobals "range"=some none)
  (zQC:PySem.W.nsIn K mainGlobals "str"=some none)
  (yU:PySem.W.nsIn K mainGlobals "tuple"=some none)
  (yAK:PySem.W.nsIn K mainGlobals "zip"=some none)
  : ∃fd:FuncData,(∀(s:Shared)(v:Value),BindsTo s fd ⟨[v],[]⟩ [("_law_script",v)])/\ ∀base:Heap,K.In base->base.Ns mainGlobals mg->FnOk l.prog w K mg base CX0 11 fa fd ["_law_script"] (zUT K zZC):=by
 have Z_ValueError:=PySem.W.mg_none_of X GG dN
 have Z_abs:=PySem.W.mg_none_of X GG yAM
 have Z_all:=PySem.W.mg_none_of X GG zDO
 have Z_bool:=PySem.W.mg_none_of X GG zIG
 have Z_enumerate:=PySem.W.mg_none_of X GG wK
 have Z_int:=PySem.W.mg_none_of X GG zQD
 have Z_isinstance:=PySem.W.mg_none_of X GG zH
 have Z_len:=PySem.W.mg_none_of X GG yQ
 have Z_list:=PySem.W.mg_none_of X GG zIC
 have Z_range:=PySem.W.mg_none_of X GG xK
 have Z_str:=PySem.W.mg_none_of X GG zQC
 have Z_tuple:=PySem.W.mg_none_of X GG yU
 have Z_zip:=PySem.W.mg_none_of X GG yAK
 have M_MOST_LETTERS:=PySem.W.mg_of X GG gN
 have M_MOST_ROWS:=PySem.W.mg_of X GG zAN
 have M_MOST_RULES:=PySem.W.mg_of X GG dP
 have M_MOST_TABLES:=PySem.W.mg_of X GG bO
 have M_MOST_TESTS:=PySem.W.mg_of X GG dO
 have M_MOST_TIED:=PySem.W.mg_of X GG zAO
 have M_MOST_WIDE:=PySem.W.mg_of X GG zAM
 have M_WORDS:GTup K mg "WORDS" [.str [115,97,109,101],.str [117,110,108,105,107,101],.str [108,101,115,115]]:=⟨⟨_,_,_,_,PySem.W.mg_of X GG zOC,zXW,zOB.1,rfl,zOB.2.1,zOB.2.2⟩,rfl⟩
 subst j_MendError
 subst j_TooGreat
 subst j_NoText
 subst j_NoPlace
 subst j_NotPlain
 let xl:Nat->Addr:=λn=>[C_TooGreat,C_NoText,C_NoPlace,C_NotPlain,C_NoTable,C_NoRule,C_NoRow,C_Twice,C_NoQuestion,C_Double,C_TooWide,C_Ring].getD n 0
 have XT:XTab K mg C_MendError (XCS xl):=⟨PySem.W.mg_of X GG zKN,x_MendError,⟨⟨PySem.W.mg_of X GG zMR,_,x_TooGreat⟩,⟨PySem.W.mg_of X GG zTI,_,x_NoText⟩,⟨PySem.W.mg_of X GG zPM,_,x_NoPlace⟩,⟨PySem.W.mg_of X GG zMT,_,x_NotPlain⟩,⟨PySem.W.mg_of X GG zPJ,_,x_NoTable⟩,⟨PySem.W.mg_of X GG zTG,_,x_NoRule⟩,⟨PySem.W.mg_of X GG zXU,_,x_NoRow⟩,⟨PySem.W.mg_of X GG zXX,_,x_Twice⟩,⟨PySem.W.mg_of X GG zID,_,x_NoQuestion⟩,⟨PySem.W.mg_of X GG zTJ,_,x_Double⟩,⟨PySem.W.mg_of X GG zPK,_,x_TooWide⟩,⟨PySem.W.mg_of X GG yDA,_,x_Ring⟩,trivial⟩,xd⟩
 have FI_NoTable:=zRP (st:=zDH) lI_NoTable cI_NoTable kI_NoTable
 have bI_NoTable:=FI_NoTable.binds (ps:=["self","place"]) λ_ _ _ _ _ _ us hl=>match us,hl with |[_,_],_=>rfl
 have FI_NoRule:=zRP (st:=zGR) lI_NoRule cI_NoRule kI_NoRule
 have bI_NoRule:=FI_NoRule.binds (ps:=["self","place"]) λ_ _ _ _ _ _ us hl=>match us,hl with |[_,_],_=>rfl
 have FI_NoRow:=zRP (st:=zKC) lI_NoRow cI_NoRow kI_NoRow
 have bI_NoRow:=FI_NoRow.binds (ps:=["self","place"]) λ_ _ _ _ _ _ us hl=>match us,hl with |[_,_],_=>rfl
 have FI_Twice:=zRP (st:=zKD) lI_Twice cI_Twice kI_Twice
 have bI_Twice:=FI_Twice.binds (ps:=["self","place"]) λ_ _ _ _ _ _ us hl=>match us,hl with |[_,_],_=>rfl
 refine ySV D37 hfa (λ_ _ _ _ _ _ s v=>.of_eq rfl) λbase f fd F=>?_
 have GI_NoTable:FnOk l.prog w K mg base CX0 1 I_NoTable _ ["self","place"] (zLF C_NoTable "place"):=zQT FI_NoTable zZU x_MendError y_NoTable xm XT.m rfl (λ_=>rfl) (λ_=>rfl) (λ_=>rfl) rfl rfl rfl (by decide) (by decide) (.txt (by decide) (.fld (.nil))) (by decide) (by decide) zJC
 have GI_NoRule:FnOk l.prog w K mg base CX0 1 I_NoRule _ ["self","place"] (zLF C_NoRule "place"):=zQT FI_NoRule yCP x_MendError y_NoRule xm XT.m rfl (λ_=>rfl) (λ_=>rfl) (λ_=>rfl) rfl rfl rfl (by decide) (by decide) (.txt (by decide) (.fld (.nil))) (by decide) (by decide) zJC
 have GI_NoRow:FnOk l.prog w K mg base CX0 1 I_NoRow _ ["self","place"] (zLF C_NoRow "place"):=zQT FI_NoRow yHL x_MendError y_NoRow xm XT.m rfl (λ_=>rfl) (λ_=>rfl) (λ_=>rfl) rfl rfl rfl (by decide) (by decide) (.txt (by decide) (.fld (.nil))) (by decide) (by decide) zJC
 have GI_Twice:FnOk l.prog w K mg base CX0 1 I_Twice _ ["self","place"] (zLF C_Twice "place"):=zQT FI_Twice yHM x_MendError y_Twice xm XT.m rfl (λ_=>rfl) (λ_=>rfl) (λ_=>rfl) rfl rfl rfl (by decide) (by decide) (.txt (by decide) (.fld (.txt (by decide) (.nil)))) (by decide) (by decide) zJC
 have G0:=zZW (P:=l.prog) (w:=w) (base:=base) D0 Z_int Z_isinstance Z_bool
 have G1:=yCR (P:=l.prog) (w:=w) (base:=base) D1 Z_str Z_isinstance Z_len M_MOST_LETTERS Z_all
 have G2:=zZY (P:=l.prog) (w:=w) (base:=base) D2 G0 Z_abs G1
 have G3:=yAA (P:=l.prog) (w:=w) (base:=base) D3 Z_tuple Z_isinstance Z_len
 have G4:=zMM (P:=l.prog) (w:=w) (base:=base) D4 G0
 have G5:=yAB (P:=l.prog) (w:=w) (base:=base) D5 G3 G0 M_MOST_WIDE G4
 have G6:=yCT (P:=l.prog) (w:=w) (base:=base) D6 G3 G2 G4 Z_len
 have G7:=yCV (P:=l.prog) (w:=w) (base:=base) D7 G3 G6 M_WORDS
 have G8:=zXM (P:=l.prog) (w:=w) (base:=base) D8 G3 M_MOST_TESTS G7 Z_all
 have G9:=zSW (P:=l.prog) (w:=w) (base:=base) D9 G3 M_MOST_TIED G4 Z_all
 have G10:=yAD (P:=l.prog) (w:=w) (base:=base) D10 Z_len G4 G8
 have G11:=yAF (P:=l.prog) (w:=w) (base:=base) D11 Z_len G4 Z_all G8
 have G12:=yHN (P:=l.prog) (w:=w) (base:=base) D12 Z_len G4 G9
 have G13:=yCX (P:=l.prog) (w:=w) (base:=base) D13 Z_tuple Z_isinstance Z_len G10 G11 G12
 have G14:=yHO (P:=l.prog) (w:=w) (base:=base) D14 G3 G4 Z_len G2 Z_all
 have G15:=zSZ (P:=l.prog) (w:=w) (base:=base) D15 XT Z_len M_MOST_TABLES M_MOST_RULES M_MOST_ROWS x_TooGreat
 have G16:=zQG (P:=l.prog) (w:=w) (base:=base) D16 XT Z_len y_NoTable GI_NoTable bI_NoTable Z_enumerate G5
 have G17:=zTA (P:=l.prog) (w:=w) (base:=base) D17 XT Z_enumerate G13 y_NoRule GI_NoRule bI_NoRule
 have G18:=zTU (P:=l.prog) (w:=w) (base:=base) D18 XT Z_enumerate G14 y_NoRow GI_NoRow bI_NoRow y_Twice GI_Twice bI_Twice
 have G19:=yCZ (P:=l.prog) (w:=w) (base:=base) D19 G15 G16 G17 G18 Z_tuple
 have G20:=zQI (P:=l.prog) (w:=w) (base:=base) D20 Z_len
 have G21:=yAG (P:=l.prog) (w:=w) (base:=base) D21
 have G22:=zXN (P:=l.prog) (w:=w) (base:=base) D22 Z_range
 have G23:=zXO (P:=l.prog) (w:=w) (base:=base) D23 G21 G22 Z_len
 have G24:=zTW (P:=l.prog) (w:=w) (base:=base) D24 Z_str Z_isinstance Z_int Z_bool Z_list Z_tuple Z_len Z_zip Z_all
 have G25:=zTB (P:=l.prog) (w:=w) (base:=base) D25 G21 Z_range Z_tuple
 have G26:=yAH (P:=l.prog) (w:=w) (base:=base) D26 G21 Z_len Z_range Z_tuple
 have G27:=zXP (P:=l.prog) (w:=w) (base:=base) D27 G26 Z_tuple
 have G28:=zXQ (P:=l.prog) (w:=w) (base:=base) D28
 have G29:=zXR (P:=l.prog) (w:=w) (base:=base) D29 G28 Z_len
 have G30:=zTX (P:=l.prog) (w:=w) (base:=base) D30 Z_range G28 G29 Z_tuple
 have G31:=zXS (P:=l.prog) (w:=w) (base:=base) D31 G21 G28 Z_len G30 Z_range Z_tuple
 have GH32:=zTC (P:=l.prog) (w:=w) (base:=base) D32 XT Z_isinstance
 have G32:=zTY (P:=l.prog) (w:=w) (base:=base) D32 XT Z_isinstance
 have G33:=zQJ (P:=l.prog) (w:=w) (base:=base) D33 XT GH32 Z_isinstance Z_ValueError G19 Z_range Z_bool
 have G34:=zTD (P:=l.prog) (w:=w) (base:=base) D34 Z_len
 have G35:=zPI (P:=l.prog) (w:=w) (base:=base) D35 Z_range
 have G36:=zQK (P:=l.prog) (w:=w) (base:=base) D36 G20 Z_len G34 G35
 exact yUD (P:=l.prog) (w:=w) (base:=base) F G23 G20 G25 Z_range G31 Z_tuple G27 Z_list G36 G33 G24 G19
theorem walk{l:PySem.W.OpenLaw}{q:Program}{loose:List Str}{XP:(Str->Option Value)->Heap->Prop}{YP:World->Heap->Prop}{d:DefRec}{K:Params->PySem.W.Frag}(hn:l.most=some 63)(hdf:d.params.defaults=[])
  (hY: ∀(w:World)(h:Heap),YP w h->(K w.params).In h)
  (F: ∀(w:World)(mg:Str->Option Value)(fa:Addr)(h:Heap),(K w.params).In h->h.Ns mainGlobals mg->mg d.name=some (.ref fa)->
   ∃fd:FuncData,(∀(s:Shared)(u:Value),BindsTo s fd ⟨[u],[]⟩ [("_law_script",u)])/\ ∀base:Heap,(K w.params).In base->base.Ns mainGlobals mg->FnOk l.prog w (K w.params) mg base CX0 11 fa fd ["_law_script"] (zUT (K w.params) zZC)):
  PySem.W.WalkO q loose XP YP l.row.toRowW d [] (λf vs=>PySem.call f vs):=
 L2.walk_of (n:=63) (k:=11) (x:="_law_script") (CX:=λ_=>CX0) (sp:=λw=>zUT (K w.params) zZC) hn (by decide) hdf ⟨rfl,by decide,by decide⟩ hY F
  (λw H a ns hl hO hS=>yJN hO hS (yLU ns hl)) λ_ _ _ _ _ z=>z
end My
end M
end L2
noncomputable def zTw : PySem.Params → PySem.Heap := fun P => { PySem.W.boot_heap P with objs := #[] }
noncomputable def PySem.W.Fast.tw10722539067855434832 := zTw
theorem PySem.W.Fast.te10722539067855434832 : PySem.W.Fast.tw10722539067855434832 = zTw := rfl
noncomputable def PySem.W.Fast.tw4494322191216112323 := zTw
theorem PySem.W.Fast.te4494322191216112323 : PySem.W.Fast.tw4494322191216112323 = zTw := rfl
noncomputable def PySem.W.Fast.tw8200152948396324744 := zTw
theorem PySem.W.Fast.te8200152948396324744 : PySem.W.Fast.tw8200152948396324744 = zTw := rfl
noncomputable def PySem.W.Fast.tw4849204276687977269 := zTw
theorem PySem.W.Fast.te4849204276687977269 : PySem.W.Fast.tw4849204276687977269 = zTw := rfl
noncomputable def PySem.W.Fast.tw14392133815559931966 := zTw
theorem PySem.W.Fast.te14392133815559931966 : PySem.W.Fast.tw14392133815559931966 = zTw := rfl
noncomputable def PySem.W.Fast.tw1266216995919603759 := zTw
theorem PySem.W.Fast.te1266216995919603759 : PySem.W.Fast.tw1266216995919603759 = zTw := rfl
noncomputable def PySem.W.Fast.tw11944401270377181656 := zTw
theorem PySem.W.Fast.te11944401270377181656 : PySem.W.Fast.tw11944401270377181656 = zTw := rfl
noncomputable def PySem.W.Fast.tw4858979077148359482 := zTw
theorem PySem.W.Fast.te4858979077148359482 : PySem.W.Fast.tw4858979077148359482 = zTw := rfl
noncomputable def PySem.W.Fast.tw7328443528534686123 := zTw
theorem PySem.W.Fast.te7328443528534686123 : PySem.W.Fast.tw7328443528534686123 = zTw := rfl
noncomputable def PySem.W.Fast.tw5427427504790291893 := zTw
theorem PySem.W.Fast.te5427427504790291893 : PySem.W.Fast.tw5427427504790291893 = zTw := rfl
noncomputable def PySem.W.Fast.tw6718062101933858767 := zTw
theorem PySem.W.Fast.te6718062101933858767 : PySem.W.Fast.tw6718062101933858767 = zTw := rfl
noncomputable def PySem.W.Fast.tw353686741413597506 := zTw
theorem PySem.W.Fast.te353686741413597506 : PySem.W.Fast.tw353686741413597506 = zTw := rfl
noncomputable def PySem.W.Fast.tw4419394523600758364 := zTw
theorem PySem.W.Fast.te4419394523600758364 : PySem.W.Fast.tw4419394523600758364 = zTw := rfl
noncomputable def PySem.W.Fast.tw6125138700248947956 := zTw
theorem PySem.W.Fast.te6125138700248947956 : PySem.W.Fast.tw6125138700248947956 = zTw := rfl
noncomputable def PySem.W.Fast.tw1567609930277420376 := zTw
theorem PySem.W.Fast.te1567609930277420376 : PySem.W.Fast.tw1567609930277420376 = zTw := rfl
noncomputable def PySem.W.Fast.tw5733374816164708425 := zTw
theorem PySem.W.Fast.te5733374816164708425 : PySem.W.Fast.tw5733374816164708425 = zTw := rfl
noncomputable def PySem.W.Fast.tw2792366571475992737 := zTw
theorem PySem.W.Fast.te2792366571475992737 : PySem.W.Fast.tw2792366571475992737 = zTw := rfl
noncomputable def PySem.W.Fast.tw2363721646116612835 := zTw
theorem PySem.W.Fast.te2363721646116612835 : PySem.W.Fast.tw2363721646116612835 = zTw := rfl
noncomputable def PySem.W.Fast.tw18412571654468011650 := zTw
theorem PySem.W.Fast.te18412571654468011650 : PySem.W.Fast.tw18412571654468011650 = zTw := rfl
noncomputable def PySem.W.Fast.tw12307972387031885294 := zTw
theorem PySem.W.Fast.te12307972387031885294 : PySem.W.Fast.tw12307972387031885294 = zTw := rfl
open PySem PySem.W PyProof.Rows
set_option maxRecDepth 100000 in
set_option maxHeartbeats 0 in
theorem PySem.Challenge.cw_mendsure_k07_which_refusal_first_holds : PySem.Challenge.rw_mendsure_k07_which_refusal_first.Holds := by
  w_on; o_law; k_head; (case hw => w_witness2)
  k_fill
  refine L2.M.My.walk (l := PySem.Challenge.rw_mendsure_k07_which_refusal_first) rfl rfl (fun w h Y => PySem.W.kIn_of Y) ?F
  case F =>
    intro w mg fa h KX G hmg
    refine' L2.M.My.all_mk KX G hmg ?D0 ?D1 ?D2 ?D3 ?D4 ?D5 ?D6 ?D7 ?D8 ?D9 ?D10 ?D11 ?D12 ?D13 ?D14 ?D15 ?D16 ?D17 ?D18 ?D19 ?D20 ?D21 ?D22 ?D23 ?D24 ?D25 ?D26 ?D27 ?D28 ?D29 ?D30 ?D31 ?D32 ?D33 ?D34 ?D35 ?D36 ?D37 ?gN ?zAN ?dP ?bO ?dO ?zAO ?zAM ?zOC ?zXW ?zOB ?zKN ?x_MendError ?zMR ?x_TooGreat ?zTI ?x_NoText ?zPM ?x_NoPlace ?zMT ?x_NotPlain ?zPJ ?x_NoTable ?zTG ?x_NoRule ?zXU ?x_NoRow ?zXX ?x_Twice ?zID ?x_NoQuestion ?zTJ ?x_Double ?zPK ?x_TooWide ?yDA ?x_Ring ?j_MendError ?j_TooGreat ?j_NoText ?j_NoPlace ?j_NotPlain ?y_NoTable ?lI_NoTable ?cI_NoTable ?kI_NoTable ?y_NoRule ?lI_NoRule ?cI_NoRule ?kI_NoRule ?y_NoRow ?lI_NoRow ?cI_NoRow ?kI_NoRow ?y_Twice ?lI_Twice ?cI_Twice ?kI_Twice ?xm ?xd ?dN ?yAM ?zDO ?zIG ?wK ?zQD ?zH ?yQ ?zIC ?xK ?zQC ?yU ?yAK
    (case D0 => exact L2.M.def_mk (by k_is) (by k_is) (by k_is) (by k_is) KX G)
    (case D1 => exact L2.M.def_mk (by k_is) (by k_is) (by k_is) (by k_is) KX G)
    (case D2 => exact L2.M.def_mk (by k_is) (by k_is) (by k_is) (by k_is) KX G)
    (case D3 => exact L2.M.def_mk (by k_is) (by k_is) (by k_is) (by k_is) KX G)
    (case D4 => exact L2.M.def_mk (by k_is) (by k_is) (by k_is) (by k_is) KX G)
    (case D5 => exact L2.M.def_mk (by k_is) (by k_is) (by k_is) (by k_is) KX G)
    (case D6 => exact L2.M.def_mk (by k_is) (by k_is) (by k_is) (by k_is) KX G)
    (case D7 => exact L2.M.def_mk (by k_is) (by k_is) (by k_is) (by k_is) KX G)
    (case D8 => exact L2.M.def_mk (by k_is) (by k_is) (by k_is) (by k_is) KX G)
    (case D9 => exact L2.M.def_mk (by k_is) (by k_is) (by k_is) (by k_is) KX G)
    (case D10 => exact L2.M.def_mk (by k_is) (by k_is) (by k_is) (by k_is) KX G)
    (case D11 => exact L2.M.def_mk (by k_is) (by k_is) (by k_is) (by k_is) KX G)
    (case D12 => exact L2.M.def_mk (by k_is) (by k_is) (by k_is) (by k_is) KX G)
    (case D13 => exact L2.M.def_mk (by k_is) (by k_is) (by k_is) (by k_is) KX G)
    (case D14 => exact L2.M.def_mk (by k_is) (by k_is) (by k_is) (by k_is) KX G)
    (case D15 => exact L2.M.def_mk (by k_is) (by k_is) (by k_is) (by k_is) KX G)
    (case D16 => exact L2.M.def_mk (by k_is) (by k_is) (by k_is) (by k_is) KX G)
    (case D17 => exact L2.M.def_mk (by k_is) (by k_is) (by k_is) (by k_is) KX G)
    (case D18 => exact L2.M.def_mk (by k_is) (by k_is) (by k_is) (by k_is) KX G)
    (case D19 => exact L2.M.def_mk (by k_is) (by k_is) (by k_is) (by k_is) KX G)
    (case D20 => exact L2.M.def_mk (by k_is) (by k_is) (by k_is) (by k_is) KX G)
    (case D21 => exact L2.M.def_mk (by k_is) (by k_is) (by k_is) (by k_is) KX G)
    (case D22 => exact L2.M.def_mk (by k_is) (by k_is) (by k_is) (by k_is) KX G)
    (case D23 => exact L2.M.def_mk (by k_is) (by k_is) (by k_is) (by k_is) KX G)
    (case D24 => exact L2.M.def_mk (by k_is) (by k_is) (by k_is) (by k_is) KX G)
    (case D25 => exact L2.M.def_mk (by k_is) (by k_is) (by k_is) (by k_is) KX G)
    (case D26 => exact L2.M.def_mk (by k_is) (by k_is) (by k_is) (by k_is) KX G)
    (case D27 => exact L2.M.def_mk (by k_is) (by k_is) (by k_is) (by k_is) KX G)
    (case D28 => exact L2.M.def_mk (by k_is) (by k_is) (by k_is) (by k_is) KX G)
    (case D29 => exact L2.M.def_mk (by k_is) (by k_is) (by k_is) (by k_is) KX G)
    (case D30 => exact L2.M.def_mk (by k_is) (by k_is) (by k_is) (by k_is) KX G)
    (case D31 => exact L2.M.def_mk (by k_is) (by k_is) (by k_is) (by k_is) KX G)
    (case D32 => exact L2.M.def_mk (by k_is) (by k_is) (by k_is) (by k_is) KX G)
    (case D33 => exact L2.M.def_mk (by k_is) (by k_is) (by k_is) (by k_is) KX G)
    (case D34 => exact L2.M.def_mk (by k_is) (by k_is) (by k_is) (by k_is) KX G)
    (case D35 => exact L2.M.def_mk (by k_is) (by k_is) (by k_is) (by k_is) KX G)
    (case D36 => exact L2.M.def_mk (by k_is) (by k_is) (by k_is) (by k_is) KX G)
    (case D37 => exact L2.M.def_mk (by k_is) (by k_is) (by k_is) (by k_is) KX G)
    (case gN => k_is)
    (case zAN => k_is)
    (case dP => k_is)
    (case bO => k_is)
    (case dO => k_is)
    (case zAO => k_is)
    (case zAM => k_is)
    (case zOC => k_is)
    (case zXW => k_is)
    (case zOB => exact ⟨rfl, by decide, .cons ⟨_, rfl⟩ (.cons ⟨_, rfl⟩ (.cons ⟨_, rfl⟩ (.nil)))⟩)
    (case zKN => k_is)
    (case x_MendError => exact L2.M.xcl_mk (by k_is) (by k_is) rfl (by k_is) (by k_is) (by k_is) (by k_is) (by k_is) (by k_is) (by k_is) rfl)
    (case zMR => k_is)
    (case x_TooGreat => exact L2.M.xcl_mk (by k_is) (by k_is) rfl (by k_is) (by k_is) (by k_is) (by k_is) (by k_is) (by k_is) (by k_is) rfl)
    (case zTI => k_is)
    (case x_NoText => exact L2.M.xcl_mk (by k_is) (by k_is) rfl (by k_is) (by k_is) (by k_is) (by k_is) (by k_is) (by k_is) (by k_is) rfl)
    (case zPM => k_is)
    (case x_NoPlace => exact L2.M.xcl_mk (by k_is) (by k_is) rfl (by k_is) (by k_is) (by k_is) (by k_is) (by k_is) (by k_is) (by k_is) rfl)
    (case zMT => k_is)
    (case x_NotPlain => exact L2.M.xcl_mk (by k_is) (by k_is) rfl (by k_is) (by k_is) (by k_is) (by k_is) (by k_is) (by k_is) (by k_is) rfl)
    (case zPJ => k_is)
    (case x_NoTable => exact L2.M.xcl_mk (by k_is) (by k_is) rfl (by k_is) (by k_is) (by k_is) (by k_is) (by k_is) (by k_is) (by k_is) rfl)
    (case zTG => k_is)
    (case x_NoRule => exact L2.M.xcl_mk (by k_is) (by k_is) rfl (by k_is) (by k_is) (by k_is) (by k_is) (by k_is) (by k_is) (by k_is) rfl)
    (case zXU => k_is)
    (case x_NoRow => exact L2.M.xcl_mk (by k_is) (by k_is) rfl (by k_is) (by k_is) (by k_is) (by k_is) (by k_is) (by k_is) (by k_is) rfl)
    (case zXX => k_is)
    (case x_Twice => exact L2.M.xcl_mk (by k_is) (by k_is) rfl (by k_is) (by k_is) (by k_is) (by k_is) (by k_is) (by k_is) (by k_is) rfl)
    (case zID => k_is)
    (case x_NoQuestion => exact L2.M.xcl_mk (by k_is) (by k_is) rfl (by k_is) (by k_is) (by k_is) (by k_is) (by k_is) (by k_is) (by k_is) rfl)
    (case zTJ => k_is)
    (case x_Double => exact L2.M.xcl_mk (by k_is) (by k_is) rfl (by k_is) (by k_is) (by k_is) (by k_is) (by k_is) (by k_is) (by k_is) rfl)
    (case zPK => k_is)
    (case x_TooWide => exact L2.M.xcl_mk (by k_is) (by k_is) rfl (by k_is) (by k_is) (by k_is) (by k_is) (by k_is) (by k_is) (by k_is) rfl)
    (case yDA => k_is)
    (case x_Ring => exact L2.M.xcl_mk (by k_is) (by k_is) rfl (by k_is) (by k_is) (by k_is) (by k_is) (by k_is) (by k_is) (by k_is) rfl)
    (case j_MendError => rfl)
    (case j_TooGreat => rfl)
    (case j_NoText => rfl)
    (case j_NoPlace => rfl)
    (case j_NotPlain => rfl)
    (case y_NoTable => exact L2.M.xin_mk (by k_is) (by k_is) rfl (by k_is) (by k_is) (by k_is) (by k_is) (by k_is) (by k_is) (by k_is) (by k_is) rfl)
    (case lI_NoTable => k_is)
    (case cI_NoTable => k_is)
    (case kI_NoTable => k_is)
    (case y_NoRule => exact L2.M.xin_mk (by k_is) (by k_is) rfl (by k_is) (by k_is) (by k_is) (by k_is) (by k_is) (by k_is) (by k_is) (by k_is) rfl)
    (case lI_NoRule => k_is)
    (case cI_NoRule => k_is)
    (case kI_NoRule => k_is)
    (case y_NoRow => exact L2.M.xin_mk (by k_is) (by k_is) rfl (by k_is) (by k_is) (by k_is) (by k_is) (by k_is) (by k_is) (by k_is) (by k_is) rfl)
    (case lI_NoRow => k_is)
    (case cI_NoRow => k_is)
    (case kI_NoRow => k_is)
    (case y_Twice => exact L2.M.xin_mk (by k_is) (by k_is) rfl (by k_is) (by k_is) (by k_is) (by k_is) (by k_is) (by k_is) (by k_is) (by k_is) rfl)
    (case lI_Twice => k_is)
    (case cI_Twice => k_is)
    (case kI_Twice => k_is)
    (case xm => exact ⟨by k_is, by k_is, by k_is⟩)
    (case xd => decide)
    (case dN => k_is)
    (case yAM => k_is)
    (case zDO => k_is)
    (case zIG => k_is)
    (case wK => k_is)
    (case zQD => k_is)
    (case zH => k_is)
    (case yQ => k_is)
    (case zIC => k_is)
    (case xK => k_is)
    (case zQC => k_is)
    (case yU => k_is)
    (case yAK => k_is)
