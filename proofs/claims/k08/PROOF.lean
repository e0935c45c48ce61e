import PyProof.Rows.All
import Wide.All
import OpenK.AllK
import Wide.FinOn
import Lean
import PyProof.EqAt
import PyProof.EqKinds
import PyProof.TupleCall
import PySem.Challenge.RW_mendsure_k08_rules_judged
set_option Elab.async false
set_option linter.all false
set_option maxRecDepth 100000
open List (all_cons all_eq_true any_cons cons_append contains_cons drop_length find?_cons flatten_cons foldl_cons forIn_cons getD_eq_getElem?_getD getElem?_append_left getElem?_append_right getElem?_map getElem?_set_ne getElem?_set_self getElem_inj getElem_mem length_drop length_nil length_range length_replicate length_set lookup_cons map_cons map_map mem_append mem_append_left mem_append_right mem_of_getElem? mem_range nil_append nodup_cons of_mem_zip replicate_succ zipIdx_cons zip_cons_cons)
open Bool (decide_and or_eq_true)
open Nat (add_assoc le_of_lt le_refl le_trans log2_lt lt_irrefl lt_of_lt_of_le mul_comm ne_of_gt ne_of_lt sub_self zero_le)
open Int (ofNat_lt toNat_natCast)
theorem xF0:¬(false=true):=Bool.false_ne_true
theorem t1M{A:Type}{x0 x1:A}{l:List A}:x1∈x0::x1::l:=.tail _ (.head _)
theorem t2M{A:Type}{x0 x1 x2:A}{l:List A}:x2∈x0::x1::x2::l:=(.tail _ (.tail _ (.head _)))
theorem t3M{A:Type}{x0 x1 x2 x3:A}{l:List A}:x3∈x0::x1::x2::x3::l:=(.tail _ (.tail _ (.tail _ (.head _))))
theorem t4M{A:Type}{x0 x1 x2 x3 x4:A}{l:List A}:x4∈x0::x1::x2::x3::x4::l:=(.tail _ (.tail _ (.tail _ (.tail _ (.head _)))))
theorem t5M{A:Type}{x0 x1 x2 x3 x4 x5:A}{l:List A}:x5∈x0::x1::x2::x3::x4::x5::l:=(.tail _ (.tail _ (.tail _ (.tail _ (.tail _ (.head _))))))
theorem t6M{A:Type}{x0 x1 x2 x3 x4 x5 x6:A}{l:List A}:x6∈x0::x1::x2::x3::x4::x5::x6::l:=(.tail _ (.tail _ (.tail _ (.tail _ (.tail _ (.tail _ (.head _)))))))
theorem t7M{A:Type}{x0 x1 x2 x3 x4 x5 x6 x7:A}{l:List A}:x7∈x0::x1::x2::x3::x4::x5::x6::x7::l:=(.tail _ (.tail _ (.tail _ (.tail _ (.tail _ (.tail _ (.tail _ (.head _))))))))
theorem t8M{A:Type}{x0 x1 x2 x3 x4 x5 x6 x7 x8:A}{l:List A}:x8∈x0::x1::x2::x3::x4::x5::x6::x7::x8::l:=(.tail _ (.tail _ (.tail _ (.tail _ (.tail _ (.tail _ (.tail _ (.tail _ (.head _)))))))))
theorem t9M{A:Type}{x0 x1 x2 x3 x4 x5 x6 x7 x8 x9:A}{l:List A}:x9∈x0::x1::x2::x3::x4::x5::x6::x7::x8::x9::l:=(.tail _ (.tail _ (.tail _ (.tail _ (.tail _ (.tail _ (.tail _ (.tail _ (.tail _ (.head _))))))))))
theorem t10M{A:Type}{x0 x1 x2 x3 x4 x5 x6 x7 x8 x9 x10:A}{l:List A}:x10∈x0::x1::x2::x3::x4::x5::x6::x7::x8::x9::x10::l:=(.tail _ (.tail _ (.tail _ (.tail _ (.tail _ (.tail _ (.tail _ (.tail _ (.tail _ (.tail _ (.head _)))))))))))
theorem t11M{A:Type}{x0 x1 x2 x3 x4 x5 x6 x7 x8 x9 x10 x11:A}{l:List A}:x11∈x0::x1::x2::x3::x4::x5::x6::x7::x8::x9::x10::x11::l:=(.tail _ (.tail _ (.tail _ (.tail _ (.tail _ (.tail _ (.tail _ (.tail _ (.tail _ (.tail _ (.tail _ (.head _))))))))))))
abbrev dF0:=@decide_eq_false
abbrev dT0:=@decide_eq_true
abbrev iP:=@if_pos
abbrev iN0:=@if_neg
abbrev mC0:=@List.mem_cons
abbrev lC0:=@List.length_cons
abbrev mO:=@List.mem_cons_of_mem
abbrev lM0:=@List.length_map
abbrev nM0:=@List.not_mem_nil
abbrev mS:=@List.mem_singleton
abbrev mF0:=@List.mem_cons_self
abbrev fT:=@Bool.false_eq_true
abbrev sA:=@List.size_toArray
abbrev lS:=@List.length_singleton
abbrev eL:=@Int.emod_lt_of_pos
abbrev eN:=@Int.emod_nonneg
abbrev aE:=@Bool.and_eq_true
abbrev iF:=@if_false
abbrev aN:=@List.append_nil
abbrev lA:=@List.length_append
abbrev gS0:=@List.getElem?_eq_some_iff
abbrev gE0:=@List.getElem?_eq_getElem
abbrev wB0:=@PySem.wpAny_bind
abbrev wP0:=@PySem.wpAny_pure
abbrev hP0:=@PySem.Heap.get?_push_of_some
abbrev mM0:=@List.mem_map
abbrev lT:=@List.length_take
abbrev aA:=@List.append_assoc
namespace L2
open PySem PySem.Spec PyProof.Rows
abbrev Key:=Sum Int Str
def zZH:Key->Value->Bool
 |.inl k,v=>Value.isInt k v
 |.inr x,v=>Value.isStrOf x v
def keyH(w:World):Key->Int
 |.inl k=>hashInt k
 |.inr x=>hashStr w x
theorem wN: ∀{k:Key}{v:Value},zZH k v=true->(∃i t,k=Sum.inl i/\v=Value.int i t)\/(∃x t,k=Sum.inr x/\v=Value.str x t)
 |.inl i,v,h=>by
  obtain⟨t,e⟩:=Value.isInt_shape (k:=i) (v:=v) h
  exact .inl ⟨i,t,rfl,e⟩
 |.inr x,v,h=>by
  obtain⟨t,e⟩:=Value.isStrOf_shape (x:=x) (v:=v) h
  exact .inr ⟨x,t,rfl,e⟩
theorem yGO(x:Str)(t:Tok):zZH (.inr x) (.str x t)=true:=by simp [zZH,Value.isStrOf]
theorem yRX(a b:Int):decide ((Sum.inl a:Key)=Sum.inl b)=(a==b):=by
 by_cases e:a=b
 ·subst e;simp
 ·have h: ¬(Sum.inl a:Key)=Sum.inl b:=λq=>e (Sum.inl.inj q)
  rw [dF0 h]
  exact(beq_eq_false_iff_ne.mpr e).symm
theorem yRY(a b:Str):decide ((Sum.inr a:Key)=Sum.inr b)=decide (a=b):=by
 by_cases e:a=b
 ·subst e;simp
 ·have h: ¬(Sum.inr a:Key)=Sum.inr b:=λq=>e (Sum.inr.inj q)
  rw [dF0 h,dF0 e]
theorem yRZ(a:Int)(b:Str):decide ((Sum.inl a:Key)=Sum.inr b)=false:=dF0 (λq=>nomatch q)
theorem ySA(a:Str)(b:Int):decide ((Sum.inr a:Key)=Sum.inl b)=false:=dF0 (λq=>nomatch q)
def zEQ(prog:Program)(w:World):PySem.KeyKind prog w Key where
 is:=zZH
 hash:=keyH w
 inj:=λv a b ha hb=>by
  rcases wN ha with⟨i,t,rfl,rfl⟩|⟨x,t,rfl,rfl⟩
  ·rcases wN hb with⟨j,u,rfl,e⟩|⟨y,u,rfl,e⟩
   ·injection e with e1 _;rw [e1]
   ·exact nomatch e
  ·rcases wN hb with⟨j,u,rfl,e⟩|⟨y,u,rfl,e⟩
   ·exact nomatch e
   ·injection e with e1 _;rw [e1]
 byValue:=λk v h=>by
  rcases wN h with⟨i,t,rfl,rfl⟩|⟨x,t,rfl,rfl⟩<;>rfl
 pyHash:=λhv h=>by
  rcases wN hv with⟨i,t,rfl,rfl⟩|⟨x,t,rfl,rfl⟩
  ·exact wpAny_pyHash_int h
  ·exact wpAny_pyHash_str h
 eqBool:=λhu hv h=>by
  rcases wN hu with⟨i,t,rfl,rfl⟩|⟨x,t,rfl,rfl⟩
  ·rcases wN hv with⟨j,u,rfl,rfl⟩|⟨y,u,rfl,rfl⟩
   ·rw [yRX]at h;exact wpAny_eqBool_int h
   ·rw [yRZ]at h;exact SeqAt.EqAt.int_str i t y u _ _ _ _ h
  ·rcases wN hv with⟨j,u,rfl,rfl⟩|⟨y,u,rfl,rfl⟩
   ·rw [ySA]at h;exact SeqAt.EqAt.str_int x t j u _ _ _ _ h
   ·rw [yRY]at h;exact wpAny_eqBool_str h
 «strs»:=λk x t v h=>by
  rcases wN h with⟨i,u,rfl,e⟩|⟨y,u,rfl,e⟩
  ·exact nomatch e
  ·injection e with e1 _
   subst e1
   cases v<;>rfl
theorem zER(prog:Program)(w:World)(x:Str)(t:Tok):(zEQ prog w).is (.inr x) (.str x t)=true:=yGO x t
inductive V where
 |non|bl (b:Bool)|int (i:Int)|str (x:Str)|byt (b:Array UInt8)|flt (b:UInt64)|ref (a:Addr)|ty (n:String)
 deriving DecidableEq
def RelV:V->Value->Prop
 |.non,u=>u=Value.none
 |.bl b,u=>u=Value.bool b
 |.int i,u=> ∃t,u=Value.int i t
 |.str x,u=> ∃t,u=Value.str x t
 |.byt b,u=> ∃t,u=Value.bytes b t
 |.flt b,u=> ∃t,u=Value.float b t
 |.ref a,u=>u=Value.ref a
 |.ty n,u=>u=Value.type n
abbrev Vals:List V->List Value->Prop:=Paired RelV
theorem Vals.length{xs:List V}{us:List Value}(r:Vals xs us):xs.length=us.length:=Paired.length r
theorem Vals.get: ∀{xs:List V}{us:List Value}{i:Nat}{x:V},Vals xs us->xs[i]? =some x-> ∃u,us[i]? =some u/\RelV x u
 |_,_,_,_,.nil,e=>by simp at e
 |_,_,0,_,.cons r _,e=>by simp at e;subst e;exact⟨_,rfl,r⟩
 |_,_,i+1,x,.cons _ t,e=>by
  obtain⟨u,h1,h2⟩:=Vals.get (i:=i) (x:=x) t (by simpa using e)
  exact⟨u,by simpa using h1,h2⟩
theorem Vals.set{x:V}{u:Value}(r:RelV x u): ∀{xs:List V}{us:List Value}(i:Nat),Vals xs us->Vals (xs.set i x) (us.set i u)
 |_,_,_,.nil=>.nil
 |_,_,0,.cons _ t=>.cons r t
 |_,_,i+1,.cons q t=>.cons q (Vals.set r i t)
theorem Vals.append: ∀{xs ys:List V}{us ws:List Value},Vals xs us->Vals ys ws->Vals (xs++ys) (us++ws)
 |_,_,_,_,.nil,s=>s
 |_,_,_,_,.cons r t,s=>.cons r (Vals.append t s)
theorem Vals.take: ∀{xs:List V}{us:List Value}(n:Nat),Vals xs us->Vals (xs.take n) (us.take n)
 |_,_,0,_=>.nil
 |_,_,_+1,.nil=>.nil
 |_,_,n+1,.cons r t=>.cons r (Vals.take n t)
theorem Vals.drop: ∀{xs:List V}{us:List Value}(n:Nat),Vals xs us->Vals (xs.drop n) (us.drop n)
 |_,_,0,r=>r
 |_,_,_+1,.nil=>.nil
 |_,_,n+1,.cons _ t=>Vals.drop n t
def RelO:Option V->Option Value->Prop
 |some v,some u=>RelV v u
 |none,none=>True
 |_,_=>False
def KV{κ:Type}:List (κ×V)->List (κ×Value)->Prop:=Paired λ(p:κ×V) (q:κ×Value)=>p.1=q.1/\RelV p.2 q.2
def kV:Key->V
 |.inl i=>.int i
 |.inr x=>.str x
inductive HO where
 |lst (xs:List V)
 |tup (xs:List V)
 |dK (kvs:List (Key×V))|dT (kvs:List (List Key×V))
 |set (S:Int->Bool) (n:Nat)
 |ins (C dx:Addr) (fs:List (Str×V))
 |own (x:Addr)
 |xd (fs:List (Str×V))
 |met (f x:Addr)
 |rng (lo hi:Int)
 |frz (o:Obj) (u:HO)
 |tbl (ps:Array Value)
 |ext (φ:Heap->Prop)
abbrev Hp:=Addr->Option HO
def upd(H:Hp)(a:Addr)(o:HO):Hp:=λb=>if b=a then some o else H b
theorem yD{H:Hp}{a:Addr}{o:HO}:upd H a o a=some o:=by unfold upd;rw [iP rfl]
theorem zV{H:Hp}{a b:Addr}{o:HO}(h:b≠a):upd H a o b=H b:=by unfold upd;rw [iN0 h]
theorem yR{H:Hp}{a b:Addr}{o:HO}(h:H a=some o)(h':H b=none):a≠b:=by
 intro e;subst e;rw [h]at h';cases h'
section
variable(P:Program)(w:World)
def ObjOk(H:Hp)(h:Heap)(a:Addr):HO->Prop
 |.lst xs=>xs.length<=sizeLine/\ ∃(its:List Value)(n:Nat),Vals xs its/\h.get? a=some {cls:=.type "list",data:=.seq its.toArray n}
 |.tup xs=>xs.length<=sizeLine/\ ∃its:List Value,Vals xs its/\IsTup h a its.toArray
 |.dK kvs=>kvs.length<=sizeLine/\(a==sysModules)=false/\ ∃vs,KV kvs vs/\h.DictOf (zEQ P w) a vs
 |.dT kvs=>kvs.length<=sizeLine/\(a==sysModules)=false/\ ∃xs:List (List Key×Addr×Value),
   Paired (λ(p:List Key×V) (q:List Key×Addr×Value)=>p.1=q.1/\H q.2.1=some (.tup (p.1.map kV))/\RelV p.2 q.2.2) kvs xs/\
   ∃o es ep,h.get? a=some o/\o.ExactDict/\o.data=.dict es ep/\es.toList=xs.map (entryOfKey (tupleKind (zEQ P w)))/\(xs.map (·.1)).Nodup
 |.set S n=>h.SetOf (intKind P w) a S n
 |.ins C dx fs=>H dx=some (.own a)/\fs.length<=1000/\dx≠a/\h.get? a=some (PySem.W.instObj C dx)/\
   ∃mA,h.Ns1 dx mA/\(∀f,RelO (fs.lookup f) (mA f))/\PySem.Within mA (fs.map (·.1))
 |.own _=> ∃o,h.get? a=some o
 |.xd fs=> ∃mA,h.Ns1 a mA/\ ∀f,RelO (fs.lookup f) (mA f)
 |.rng lo hi=> ∃t u v,h.get? a=some {cls:=.type "range",data:=.fields #[.int lo t,.int hi u,.int 1 v]}
 |.frz o u=>h.get? a=some o/\ObjOk H h a u
 |.tbl ps=>h.get? a=some {cls:=.none,data:=.fields ps}
 |.met f x=>h.get? a=some (PySem.W.methodObj (.ref f) (.ref x))
 |.ext φ=>φ h/\(∃o,h.get? a=some o)/\ ∀h1 h2:Heap,φ h1->(∀o,h1.get? a=some o->h2.get? a=some o)->φ h2
def HOk(H:Hp)(h:Heap):Prop:= ∀a o,H a=some o->ObjOk P w H h a o
end
section
variable{P:Program}{w:World}{H H':Hp}{h h':Heap}{a:Addr}{o:HO}
theorem ObjOk.lt(x:ObjOk P w H h a o):a<h.objs.size:=by
 cases o with
 |lst xs=>obtain⟨_,_,_,_,e⟩:=x;exact Heap.lt_size e
 |tup xs=>obtain⟨_,_,_,p⟩:=x;exact p.lt
 |dK kvs=>obtain⟨_,_,_,_,o,_,_,e,_⟩:=x;exact Heap.lt_size e
 |dT kvs=>obtain⟨_,_,_,_,o,_,_,e,_⟩:=x;exact Heap.lt_size e
 |set S n=>obtain⟨o,_,_,_,e,_⟩:=x;exact Heap.lt_size e
 |ins C dx fs=>obtain⟨_,_,_,e,_⟩:=x;exact Heap.lt_size e
 |own y=>obtain⟨_,e⟩:=x;exact Heap.lt_size e
 |xd fs=>obtain⟨_,⟨_,_,_,e,_⟩,_⟩:=x;exact Heap.lt_size e
 |rng lo hi=>obtain⟨_,_,_,e⟩:=x;exact Heap.lt_size e
 |frz ob u=>obtain⟨e,_⟩:=x;exact Heap.lt_size e
 |tbl ps=>exact Heap.lt_size (show h.get? a=some _ from x)
 |met f y=>exact Heap.lt_size (show h.get? a=some _ from x)
 |ext φ=>obtain⟨_,⟨_,e⟩,_⟩:=x;exact Heap.lt_size e
theorem Paired.mapP{α β:Type}{F G:α->β->Prop}: ∀{l₁:List α}{l₂:List β},Paired F l₁ l₂->(∀a b,F a b->G a b)->Paired G l₁ l₂
 |_,_,.nil,_=>.nil
 |_,_,.cons r t,f=>.cons (f _ _ r) (Paired.mapP t f)
theorem ObjOk.stay(x:ObjOk P w H h a o)(k: ∀b u,(b=a\/H b=some (.own a))->h.get? b=some u->h'.get? b=some u)
  (ho: ∀b,H b=some (.own a)->H' b=some (.own a)) (ht: ∀b xs,H b=some (.tup xs)->H' b=some (.tup xs)):ObjOk P w H' h' a o:=by
 induction o with
 |lst xs=>obtain⟨z,its,n,r,e⟩:=x;exact⟨z,its,n,r,k _ _ (.inl rfl) e⟩
 |tup xs=>obtain⟨z,its,r,ob,e,c⟩:=x;exact⟨z,its,r,ob,k _ _ (.inl rfl) e,c⟩
 |dK kvs=>obtain⟨z,y,vs,r,ob,es,ep,e,c⟩:=x;exact⟨z,y,vs,r,ob,es,ep,k _ _ (.inl rfl) e,c⟩
 |dT kvs=>
  obtain⟨z,y,xs,r,ob,es,ep,e,c⟩:=x
  exact⟨z,y,xs,Paired.mapP r λp q z=>⟨z.1,ht _ _ z.2.1,z.2.2⟩,ob,es,ep,k _ _ (.inl rfl) e,c⟩
 |set S n=>obtain⟨ob,es,ep,t,e,c⟩:=x;exact⟨ob,es,ep,t,k _ _ (.inl rfl) e,c⟩
 |ins C dx fs=>
  obtain⟨d,z,ne,e,mA,⟨od,es,ep,e2,c⟩,r⟩:=x
  exact⟨ho _ d,z,ne,k _ _ (.inl rfl) e,mA,⟨od,es,ep,k _ _ (.inr d) e2,c⟩,r⟩
 |own y=>obtain⟨ob,e⟩:=x;exact⟨ob,k _ _ (.inl rfl) e⟩
 |xd fs=>obtain⟨mA,⟨od,es,ep,e,c⟩,r⟩:=x;exact⟨mA,⟨od,es,ep,k _ _ (.inl rfl) e,c⟩,r⟩
 |rng lo hi=>obtain⟨t,u,v,e⟩:=x;exact⟨t,u,v,k _ _ (.inl rfl) e⟩
 |frz ob u ih=>obtain⟨e,q⟩:=x;exact⟨k _ _ (.inl rfl) e,ih q⟩
 |tbl ps=>
  have e:h.get? a=some {cls:=.none,data:=.fields ps}:=x
  show h'.get? a=some {cls:=.none,data:=.fields ps}
  exact k a _ (.inl rfl) e
 |met f y=>
  have e:h.get? a=some (PySem.W.methodObj (.ref f) (.ref y)):=x
  show h'.get? a=some (PySem.W.methodObj (.ref f) (.ref y))
  exact k a _ (.inl rfl) e
 |ext φ=>obtain⟨p,⟨o,e⟩,st⟩:=x;exact⟨st _ _ p λo q=>k _ _ (.inl rfl) q,⟨o,k _ _ (.inl rfl) e⟩,st⟩
theorem HOk.lt(x:HOk P w H h)(e:H a=some o):a<h.objs.size:=(x a o e).lt
theorem HOk.fresh(x:HOk P w H h)(e:h.objs.size<=a):H a=none:=by
 cases q:H a with
 |none=>rfl
 |some u=>exact absurd (lt_of_lt_of_le (x.lt q) e) (lt_irrefl _)
theorem HOk.kept(x:HOk P w H h)(k: ∀b u,h.get? b=some u->h'.get? b=some u):HOk P w H h':=λa o e=>
 (x a o e).stay (λb u _ q=>k b u q) (λ_ q=>q) λ_ _ q=>q
theorem HOk.laid(x:HOk P w H h)(k: ∀b u,h.get? b=some u->h'.get? b=some u)(hp:h.objs.size<=a)(new:ObjOk P w (upd H a o) h' a o):HOk P w (upd H a o) h':=λb u e=>by
 have hn:=x.fresh hp
 by_cases hb:b=a
 ·subst hb;rw [yD]at e;cases e;exact new
 ·rw [zV hb]at e
  exact(x b u e).stay (λc v _ q=>k c v q) (λc q=>by rw [zV (yR q hn)];exact q) λc xs q=>by rw [zV (yR q hn)];exact q
end
def Rd(H:Hp)(a:Addr)(u:HO):Prop:=H a=some u\/ ∃o,H a=some (.frz o u)
theorem Rd.ok{P:Program}{w:World}{H:Hp}{h:Heap}{a:Addr}{u:HO}(r:Rd H a u)(x:HOk P w H h):ObjOk P w H h a u:=by
 rcases r with r|⟨o,r⟩
 ·exact x a u r
 ·obtain⟨_,q⟩:=x a _ r
  exact q
def Mut:Option HO->Prop
 |some (.lst _)=>True
 |some (.dK _)=>True
 |some (.dT _)=>True
 |some (.set _ _)=>True
 |some (.ins _ _ _)=>True
 |some (.ext _)=>True
 |_=>False
section
variable{P:Program}{w:World}{H:Hp}{h h':Heap}{x e:Addr}{o':HO}
theorem HOk.write(ok:HOk P w H h)(mu:Mut (H x))(he:e=x\/H e=some (.own x))(k: ∀b u,b≠e->h.get? b=some u->h'.get? b=some u)(heo: ∃u,h'.get? e=some u)
  (new:ObjOk P w (upd H x o') h' x o'):HOk P w (upd H x o') h':=λb u q=>by
 have nown: ∀c y,H c=some (.own y)->c≠x:=λc y r z=>by subst z;rw [r]at mu;exact mu
 have ntup: ∀c xs,H c=some (.tup xs)->c≠x:=λc xs r z=>by subst z;rw [r]at mu;exact mu
 by_cases hb:b=x
 ·subst hb;rw [yD]at q;cases q;exact new
 ·rw [zV hb]at q
  by_cases hbe:b=e
  ·have q':H b=some (.own x):=by
    rcases he with z|z
    ·exact absurd (hbe.trans z) hb
    ·rw [hbe];exact z
   rw [q]at q';cases q'
   obtain⟨v,hv⟩:=heo
   exact⟨v,by rw [hbe];exact hv⟩
  ·refine(ok b u q).stay (λc v hc r=>k c v ?_ r) (λc r=>by rw [zV (nown c b r)];exact r) λc xs r=>by rw [zV (ntup c xs r)];exact r
   rcases hc with rfl|hc
   ·exact hbe
   ·rintro rfl
    rcases he with z|z
    ·exact nown c b hc z
    ·rw [hc]at z;cases z;exact hb rfl
end
structure Un(fs ex:List Addr)(H H':Hp)(h h':Heap):Prop where
 keep: ∀b o,h.get? b=some o->H b=none->b∉fs->b∉ex->h'.get? b=some o
 slot: ∀b o,h.get? b=some o->H b=none->b∈fs->b∉ex-> ∃sl,h'.get? b=some {o with slots:=sl}
 free: ∀b o,h.get? b=some o->H b=none->b∉ex->H' b=none
 there: ∀b o,h.get? b=some o->b∉ex-> ∃o',h'.get? b=some o'
 tups: ∀b xs,H b=some (.tup xs)->H' b=some (.tup xs)
 frzs: ∀b o u,H b=some (.frz o u)->H' b=some (.frz o u)
 tbls: ∀b ps,H b=some (.tbl ps)-> ∃more,H' b=some (.tbl (ps++more))
section
variable{fs fs' ex ex':List Addr}{H H1 H2:Hp}{h h1 h2 h':Heap}{a x e:Addr}{o:HO}
theorem Un.any(u:Un fs ex H H1 h h1){b:Addr}{ob:Obj}(q:h.get? b=some ob)(n:H b=none)(hx:b∉ex): ∃sl,h1.get? b=some {ob with slots:=sl}:=by
 by_cases hb:b∈fs
 ·exact u.slot b ob q n hb hx
 ·exact⟨ob.slots,u.keep b ob q n hb hx⟩
theorem Un.trans(a:Un fs ex H H1 h h1)(b:Un fs ex H1 H2 h1 h2):Un fs ex H H2 h h2 where
 keep:=λc ob q n hc hx=>b.keep c ob (a.keep c ob q n hc hx) (a.free c ob q n hx) hc hx
 slot:=λc ob q n hc hx=>by
  obtain⟨sl,e1⟩:=a.slot c ob q n hc hx
  obtain⟨sl',e2⟩:=b.slot c _ e1 (a.free c ob q n hx) hc hx
  exact⟨sl',e2⟩
 free:=λc ob q n hx=>by
  obtain⟨o',e1⟩:=a.there c ob q hx
  exact b.free c o' e1 (a.free c ob q n hx) hx
 there:=λc ob q hx=>by
  obtain⟨o',e1⟩:=a.there c ob q hx
  exact b.there c o' e1 hx
 tups:=λc xs q=>b.tups c xs (a.tups c xs q)
 frzs:=λc ob xs q=>b.frzs c ob xs (a.frzs c ob xs q)
 tbls:=λc ps q=>by
  obtain⟨m1,e1⟩:=a.tbls c ps q
  obtain⟨m2,e2⟩:=b.tbls c _ e1
  exact⟨m1++m2,by rw [e2,Array.append_assoc]⟩
theorem Un.kept(k: ∀b u,h.get? b=some u->h'.get? b=some u):Un fs ex H H h h':=
 ⟨λb ob q _ _ _=>k b ob q,λb ob q _ _ _=>⟨ob.slots,k b ob q⟩,λ_ _ _ n _=>n,λb ob q _=>⟨ob,k b ob q⟩,λ_ _ q=>q,λ_ _ _ q=>q,λ_ ps q=>⟨#[],by rw [q];simp⟩⟩
theorem Un.refl:Un fs ex H H h h:=Un.kept λ_ _ q=>q
theorem Un.laid(k: ∀b u,h.get? b=some u->h'.get? b=some u)(hp:h.objs.size<=a)(hn:H a=none):Un fs ex H (upd H a o) h h' where
 keep:=λb u q _ _ _=>k b u q
 slot:=λb u q _ _ _=>⟨u.slots,k b u q⟩
 free:=λb u q n _=>by rw [zV (ne_of_lt (lt_of_lt_of_le (Heap.lt_size q) hp))];exact n
 there:=λb u q _=>⟨u,k b u q⟩
 tups:=λb xs q=>by rw [zV (yR q hn)];exact q
 frzs:=λb u xs q=>by rw [zV (yR q hn)];exact q
 tbls:=λb ps q=>⟨#[],by rw [zV (yR q hn),q];simp⟩
theorem Un.write(mu:Mut (H x))(he:e=x\/H e=some (.own x))(k: ∀b u,b≠e->h.get? b=some u->h'.get? b=some u)(heo: ∃u,h'.get? e=some u):Un fs ex H (upd H x o) h h':=by
 have hx: ∀b,H b=none->b≠x:=λb n z=>by subst z;rw [n]at mu;exact mu
 have hb: ∀b,H b=none->b≠e:=λb n z=>by
  subst z
  rcases he with r|r
  ·exact hx b n r
  ·rw [n]at r;cases r
 have hm: ∀b u,H b=some u-> ¬Mut (some u)->b≠x:=λb u q nm z=>by subst z;rw [q]at mu;exact nm mu
 refine⟨λb u q n _ _=>k b u (hb b n) q,λb u q n _ _=>⟨u.slots,k b u (hb b n) q⟩,λb u q n _=>by rw [zV (hx b n)];exact n,λb u q _=>?_,
  λb xs q=>by rw [zV (hm b _ q λz=>z)];exact q,λb u xs q=>by rw [zV (hm b _ q λz=>z)];exact q,λb ps q=>⟨#[],by rw [zV (hm b _ q λz=>z),q];simp⟩⟩
 by_cases hbe:b=e
 ·subst hbe;exact heo
 ·exact⟨u,k b u hbe q⟩
end
def trk(h:Heap)(H:Hp):List Addr:=(List.range h.objs.size).filter λa=>(H a).isSome
def zWW(h:Heap)(H:Hp):Heap:=PySem.W.hideAll h (trk h H)
theorem yGP(h:Heap)(H:Hp):(zWW h H).objs.size=h.objs.size:=PySem.W.hideAll_size _ _
theorem yII{h:Heap}{H:Hp}{b:Addr}{o:Obj}(e:h.get? b=some o)(n:H b=none):(zWW h H).get? b=some o:=
 PySem.W.hideAll_get _ e λhm=>by
  have q:(H b).isSome=true:=(List.mem_filter.mp hm).2
  rw [n]at q;simp at q
theorem yNF{h:Heap}{H:Hp}{b:Addr}{o:Obj}(e:(zWW h H).get? b=some o):h.get? b=some o/\H b=none:=by
 have e':h.get? b=some o:=PySem.W.of_hideAll (trk h H) e
 refine⟨e',?_⟩
 cases q:H b with
 |none=>rfl
 |some x=>
  have hm:b∈trk h H:=List.mem_filter.mpr ⟨mem_range.mpr (Heap.lt_size e'),by simp [q]⟩
  have z:(zWW h H).get? b=none:=PySem.W.hideAll_none (trk h H) hm
  rw [z]at e;cases e
def yNG(g h:Heap)(L:Addr):List (Addr×Obj):=(List.range h.objs.size).filterMap λa=>if a=L\/(g.get? a).isSome=true then none else(h.get? a).map λo=>(a,o)
def rest(g h:Heap)(L d:Addr):List (Addr×Obj):=(yNG g h L).filter λp=>decide (p.1≠d)
structure Mod(K:PySem.W.Frag)(mg:Str->Option Value)(base:Heap):Prop where
 kin:K.In base
 glob:base.Ns mainGlobals mg
 blt: ∃mb,base.Ns builtinsNs mb/\ ∀x:Str,x≠"__name__"->mb x=bootBuiltins x
 nolimit:base.NoLimit
structure Cx where
 prog:Program
 w:World
 K:PySem.W.Frag
 mg:Str->Option Value
 base:Heap
 A:Around
 N:List Str
 s₀:Shared
 H₀:Hp
 env:Env
 outer:List Env
 stack:List Env
 ex:List Addr
 fn:Str->Bool
 calm:Bool
 pn:List (Addr×Obj)
 xe:Value->Shared->Prop
def frs(l:List Env):List Addr:=l.filterMap (·.frame)
abbrev Cx.fs(X:Cx):List Addr:=frs X.outer
def Vis(sc:Scope)(x:Str):Prop:=sc.names.lookup x=some .local\/sc.names.lookup x=some .cell\/sc.names.lookup x=some .free
def Loc(sc:Scope)(x:Str):Prop:=sc.names.lookup x=some .local\/sc.names.lookup x=some .cell
def Look(env:Env)(h:Heap)(m:Str->Option Value)(x:Str)(u:Value):Prop:=
 (env.kindOf x=some .local/\m x=some u)\/((env.kindOf x=some .cell\/env.kindOf x=some .free)/\ ∃c,env.cells.lookup x=some c/\h.IsCell c (some u))
structure Cx.Ok(X:Cx):Prop where
 mod:Mod X.K X.mg X.base
 kind:X.env.scope.kind=.function
 glob:X.env.globals=mainGlobals
 blt:X.env.builtins=builtinsNs
 above:X.s₀.heap.objs.size<=X.env.locals
 inj: ∀x y c,X.env.cells.lookup x=some c->X.env.cells.lookup y=some c->x=y
 has: ∀x,(X.env.kindOf x=some .cell\/X.env.kindOf x=some .free)-> ∃c,X.env.cells.lookup x=some c
 cab: ∀x c,X.fn x=true->X.env.cells.lookup x=some c->X.s₀.heap.objs.size<=c
 hd:X.calm=true->X.A.handled=none
 frames:X.A.frames=some X.stack
 stk:X.stack=X.outer\/(X.stack=X.env::X.outer/\X.env.frame=some X.env.locals)
 exf: ∀b∈X.ex,b≠X.env.locals/\ ∀x c,X.env.cells.lookup x=some c->c≠b
 bs: ∀b o,X.base.get? b=some o->X.s₀.heap.get? b=some o/\X.H₀ b=none
 bsz:X.base.objs.size<=X.s₀.heap.objs.size
 noex: ∀b o,X.base.get? b=some o->b∉X.ex
 exfs: ∀b∈X.ex,b∉X.fs
 funs:X.s₀.heap.FunFrames X.base X.outer
 frf: ∀b∈X.fs,X.H₀ b=none
structure Inv(X:Cx)(pins:List (Addr×Obj))(σ:List (Option V))(H:Hp)(s:Shared):Prop where
 ok:X.Ok
 os:s.os=X.s₀.os
 bare:AllBare s.gens
 base:Un X.fs X.ex X.H₀ H X.s₀.heap s.heap
 loc: ∃m,s.heap.Ns X.env.locals m/\ ∀(i:Nat)(x:Str)(v:V),X.N[i]? =some x->σ[i]? =some (some v)->Vis X.env.scope x-> ∃u,RelV v u/\Look X.env s.heap m x u
 cell: ∀x c,X.env.cells.lookup x=some c-> ∃v,s.heap.IsCell c v
 free:H X.env.locals=none
 freeC: ∀x c,X.env.cells.lookup x=some c->H c=none
 pin: ∀p∈X.pn++pins,s.heap.get? p.1=some p.2/\H p.1=none/\p.1≠X.env.locals/\p.1∉X.fs/\ ∀v,p.2.data≠.cell v
 hok:HOk X.prog X.w H s.heap
 len:σ.length=X.N.length
section
variable{X:Cx}{pins:List (Addr×Obj)}{σ:List (Option V)}{H H':Hp}{s:Shared}{h':Heap}
theorem Cx.Ok.nofr(ok:X.Ok){b:Addr}{o:Obj}(e:X.base.get? b=some o):b∉X.fs:=λhb=>by
 have:=(ok.funs.mem hb).1
 rw [e]at this;cases this
theorem Inv.bs(I:Inv X pins σ H s): ∀b o,X.base.get? b=some o->s.heap.get? b=some o/\H b=none:=λb o e=>
 ⟨I.base.keep b o (I.ok.bs b o e).1 (I.ok.bs b o e).2 (I.ok.nofr e) (I.ok.noex b o e),I.base.free b o (I.ok.bs b o e).1 (I.ok.bs b o e).2 (I.ok.noex b o e)⟩
theorem Inv.bk(I:Inv X pins σ H s): ∀b o,X.base.get? b=some o->s.heap.get? b=some o:=λb o e=>(I.bs b o e).1
theorem Inv.mod(I:Inv X pins σ H s):Mod X.K X.mg X.base:=I.ok.mod
theorem Inv.kIn(I:Inv X pins σ H s):X.K.In s.heap:=I.ok.mod.kin.keeps I.bk
theorem Inv.lt(I:Inv X pins σ H s):X.env.locals<s.heap.objs.size:=let ⟨_,hn,_⟩:=I.loc;hn.lt
theorem Inv.sz(I:Inv X pins σ H s):X.s₀.heap.objs.size<=s.heap.objs.size:=le_trans I.ok.above (le_of_lt I.lt)
theorem Inv.nofs(I:Inv X pins σ H s){a:Addr}(h:s.heap.objs.size<=a):a∉X.fs:=λhb=>by
 obtain⟨_,o,ho,_⟩:=I.ok.funs.mem hb
 exact absurd (lt_of_lt_of_le (Heap.lt_size ho) (le_trans I.sz h)) (lt_irrefl _)
theorem Inv.cne(I:Inv X pins σ H s): ∀x c,X.env.cells.lookup x=some c->c≠X.env.locals:=λx c e z=>by
 obtain⟨v,o,ho,hd⟩:=I.cell x c e
 obtain⟨m,⟨o',es,ep,ho',hd',_⟩,_⟩:=I.loc
 rw [z,ho']at ho;cases ho;rw [hd']at hd;cases hd
theorem Inv.funs(I:Inv X pins σ H s):s.heap.FunFrames X.base X.outer:=by
 have all: ∀(l:List Env),(∀b∈frs l,b∈X.fs)->X.s₀.heap.FunFrames X.base l->s.heap.FunFrames X.base l:=by
  intro l
  induction l with
  |nil=>intro _ _;trivial
  |cons env r ih=>
   intro hs hl
   obtain⟨hk,⟨L,o,hf,hn,ho,hd⟩,hr⟩:=hl
   have hL:L∈X.fs:=hs L (by unfold frs;rw [List.filterMap_cons,hf];exact mF0)
   obtain⟨sl,e⟩:=I.base.slot L o ho (I.ok.frf L hL) hL λz=>I.ok.exfs L z hL
   exact⟨hk,⟨L,_,hf,hn,e,hd⟩,ih (λb hb=>hs b (by unfold frs;rw [List.filterMap_cons,hf];exact mO _ hb)) hr⟩
 exact all X.outer (λ_ hb=>hb) I.ok.funs
theorem Inv.stack(I:Inv X pins σ H s):s.heap.FunFrames X.base X.stack:=by
 rcases I.ok.stk with e|⟨e,hf⟩
 ·rw [e];exact I.funs
 ·rw [e]
  obtain⟨m,hn,_⟩:=I.loc
  refine .cons (by rw [I.ok.kind];decide) hf hn ?_ I.funs
  exact Heap.get?_none_of_le (le_trans I.ok.bsz I.ok.above)
theorem Inv.stkSub(I:Inv X pins σ H s): ∀b∈frs X.stack,b∈X.env.locals::X.fs:=λb hb=>by
 rcases I.ok.stk with e|⟨e,hf⟩
 ·rw [e]at hb;exact mO _ hb
 ·rw [e]at hb
  unfold frs at hb
  rw [List.filterMap_cons,hf]at hb
  exact hb
theorem Inv.stkFree(I:Inv X pins σ H s): ∀b∈frs X.stack,H b=none:=λb hb=>by
 rcases mC0.mp (I.stkSub b hb)with e|hb
 ·rw [e];exact I.free
 ·obtain⟨_,o,ho,_⟩:=I.ok.funs.mem hb
  exact I.base.free b o ho (I.ok.frf b hb) λz=>I.ok.exfs b z hb
theorem Inv.step{g':Array GenState}{t':Nat}{d':Drawn}{ch:List Addr}(I:Inv X pins σ H s)
  (hch: ∀b∈ch,(b∈X.ex\/X.s₀.heap.objs.size<=b)/\b≠X.env.locals/\(∀x c,X.env.cells.lookup x=some c->c≠b)/\ ∀p∈X.pn++pins,p.1≠b)
  (keep: ∀b o,b≠X.env.locals->b∉X.fs->b∉ch->s.heap.get? b=some o->H b=none->h'.get? b=some o)
  (slot: ∀b o,b≠X.env.locals->b∈X.fs->b∉ch->s.heap.get? b=some o->H b=none-> ∃sl,h'.get? b=some {o with slots:=sl}) (free: ∀b o,b∉ch->s.heap.get? b=some o->H b=none->H' b=none)
  (there: ∀b o,b∉ch->s.heap.get? b=some o-> ∃o',h'.get? b=some o')
  (tups: ∀b xs,H b=some (.tup xs)->H' b=some (.tup xs)) (frzs: ∀b o u,H b=some (.frz o u)->H' b=some (.frz o u)) (tbls: ∀b ps,H b=some (.tbl ps)-> ∃more,H' b=some (.tbl (ps++more)))
  (ns: ∀m,s.heap.Ns X.env.locals m->h'.Ns X.env.locals m) (hok:HOk X.prog X.w H' h') (hg:AllBare g'):
  Inv X pins σ H' {s with heap:=h',gens:=g',drawn:=d',toks:=t'}:=by
 have neL: ∀b o,X.s₀.heap.get? b=some o->b≠X.env.locals:=λb o e=>ne_of_lt (lt_of_lt_of_le (Heap.lt_size e) I.ok.above)
 have neC: ∀b o,X.s₀.heap.get? b=some o->b∉X.ex->b∉ch:=λb o e hx hb=>by
  rcases (hch b hb).1 with z|z
  ·exact hx z
  ·exact absurd (lt_of_lt_of_le (Heap.lt_size e) z) (lt_irrefl _)
 have cellK: ∀x c,X.env.cells.lookup x=some c-> ∀v,s.heap.IsCell c v->h'.IsCell c v:=λx c e v ⟨o,ho,hd⟩=>by
  have nch:c∉ch:=λz=>(hch c z).2.2.1 x c e rfl
  by_cases hc:c∈X.fs
  ·obtain⟨sl,q⟩:=slot c o (I.cne x c e) hc nch ho (I.freeC x c e)
   exact⟨_,q,hd⟩
  ·exact⟨o,keep c o (I.cne x c e) hc nch ho (I.freeC x c e),hd⟩
 refine⟨I.ok,I.os,hg,⟨λb o e n hb hx=>?_,λb o e n hb hx=>?_,λb o e n hx=>?_,λb o e hx=>?_,λb xs e=>tups b xs (I.base.tups b xs e),λb o xs e=>frzs b o xs (I.base.frzs b o xs e),λb ps e=>?_⟩,?_,λx c e=>?_,?_,λx c e=>?_,λp hp=>?_,hok,I.len⟩
 ·exact keep b o (neL b o e) hb (neC b o e hx) (I.base.keep b o e n hb hx) (I.base.free b o e n hx)
 ·obtain⟨sl,e1⟩:=I.base.slot b o e n hb hx
  obtain⟨sl',e2⟩:=slot b _ (neL b o e) hb (neC b o e hx) e1 (I.base.free b o e n hx)
  exact⟨sl',e2⟩
 ·obtain⟨o',e1⟩:=I.base.there b o e hx
  exact free b o' (neC b o e hx) e1 (I.base.free b o e n hx)
 ·obtain⟨o',e1⟩:=I.base.there b o e hx
  exact there b o' (neC b o e hx) e1
 ·obtain⟨m1,e1⟩:=I.base.tbls b ps e
  obtain⟨m2,e2⟩:=tbls b _ e1
  exact⟨m1++m2,by rw [e2,Array.append_assoc]⟩
 ·obtain⟨m,hn,hl⟩:=I.loc
  refine⟨m,ns m hn,λi x v e1 e2 e3=>?_⟩
  obtain⟨u,r,l⟩:=hl i x v e1 e2 e3
  refine⟨u,r,?_⟩
  rcases l with l|⟨k,c,e,z⟩
  ·exact .inl l
  ·exact .inr ⟨k,c,e,cellK x c e _ z⟩
 ·obtain⟨v,z⟩:=I.cell x c e
  exact⟨v,cellK x c e v z⟩
 ·obtain⟨m,⟨o,_,_,ho,_⟩,_⟩:=I.loc
  exact free _ o (λz=>(hch _ z).2.1 rfl) ho I.free
 ·obtain⟨v,o,ho,hd⟩:=I.cell x c e
  exact free c o (λz=>(hch c z).2.2.1 x c e rfl) ho (I.freeC x c e)
 ·obtain⟨e,n,ne,nf,d⟩:=I.pin p hp
  have nch:p.1∉ch:=λz=>(hch p.1 z).2.2.2 p hp rfl
  exact⟨keep p.1 p.2 ne nf nch e n,free p.1 p.2 nch e n,ne,nf,d⟩
theorem Inv.un{t':Nat}(I:Inv X pins σ H s)(u:Un X.fs [] H H' s.heap h')(hok:HOk X.prog X.w H' h'):Inv X pins σ H' {s with heap:=h',toks:=t'}:=by
 obtain⟨m,⟨o,es,ep,ho,r⟩,_⟩:=id I.loc
 obtain⟨sl,hL⟩:=u.any ho I.free (by simp)
 exact I.step (g':=s.gens) (d':=s.drawn) (ch:=[]) (λ_ z=>nomatch z) (λb o _ hb _ e n=>u.keep b o e n hb (by simp)) (λb o _ hb _ e n=>u.slot b o e n hb (by simp)) (λb o _ e n=>u.free b o e n (by simp)) (λb o _ e=>u.there b o e (by simp)) u.tups u.frzs u.tbls (λm' hm=>by
  obtain⟨o',es',ep',ho',r'⟩:=hm
  rw [ho]at ho';cases ho'
  exact⟨_,es',ep',hL,r'⟩) hok I.bare
theorem Inv.call{g':Array GenState}{t':Nat}{d':Drawn}{ch:List Addr}(I:Inv X pins σ H s)(u:Un (frs X.stack) ch H H' s.heap h')(hok:HOk X.prog X.w H' h')(hg:AllBare g')
  (hch: ∀b∈ch,(b∈X.ex\/X.s₀.heap.objs.size<=b)/\b≠X.env.locals/\(∀x c,X.env.cells.lookup x=some c->c≠b)/\ ∀p∈X.pn++pins,p.1≠b):
  Inv X pins σ H' {s with heap:=h',gens:=g',drawn:=d',toks:=t'}:=by
 obtain⟨m,⟨o,es,ep,ho,r⟩,_⟩:=id I.loc
 obtain⟨sl,hL⟩:=u.any ho I.free λz=>(hch _ z).2.1 rfl
 exact I.step (ch:=ch) hch (λb o hL hb hc e n=>u.keep b o e n (λz=>(mC0.mp (I.stkSub b z)).elim hL hb) hc) (λb o _ _ hc e n=>u.any e n hc) (λb o hc e n=>u.free b o e n hc) (λb o hc e=>u.there b o e hc) u.tups u.frzs u.tbls (λm' hm=>by
  obtain⟨o',es',ep',ho',r'⟩:=hm
  rw [ho]at ho';cases ho'
  exact⟨_,es',ep',hL,r'⟩) hok hg
theorem Inv.turned{t':Nat}{it:Addr}(I:Inv X pins σ H s)(k: ∀b o,b≠it->s.heap.get? b=some o->h'.get? b=some o)(hn:H it=none)(hL:it≠X.env.locals)
  (h1:it∈X.ex\/X.s₀.heap.objs.size<=it) (h2: ∀x c,X.env.cells.lookup x=some c->c≠it) (h3: ∀p∈X.pn++pins,p.1≠it):Inv X pins σ H {s with heap:=h',toks:=t'}:=by
 have nit: ∀b u,H b=some u->b≠it:=λb u e z=>by rw [z,hn]at e;cases e
 refine I.step (g':=s.gens) (d':=s.drawn) (ch:=[it]) (λb hb=>?_) (λb o _ _ hc e _=>k b o (λz=>hc (by simp [z])) e) (λb o _ _ hc e _=>⟨o.slots,k b o (λz=>hc (by simp [z])) e⟩) (λ_ _ _ _ n=>n)
  (λb o hc e=>⟨o,k b o (λz=>hc (by simp [z])) e⟩) (λ_ _ e=>e) (λ_ _ _ e=>e) (λb ps e=>⟨#[],by rw [e];simp⟩) (λm hm=>?_) (λb u e=>?_) I.bare
 ·have e:b=it:=by simpa using hb
  subst e
  exact⟨h1,hL,h2,h3⟩
 ·obtain⟨o,es,ep,ho,r⟩:=hm
  exact⟨o,es,ep,k _ o (Ne.symm hL) ho,r⟩
 ·refine(I.hok b u e).stay (λc v hc q=>k c v ?_ q) (λ_ q=>q) λ_ _ q=>q
  rcases hc with z|z
  ·rw [z];exact nit b u e
  ·exact nit c _ z
theorem Inv.tok(I:Inv X pins σ H s)(t:Nat):Inv X pins σ H {s with toks:=t}:=I.un (h':=s.heap) (t':=t) Un.refl I.hok
theorem Inv.kept{t':Nat}(I:Inv X pins σ H s)(k: ∀b u,s.heap.get? b=some u->h'.get? b=some u):Inv X pins σ H {s with heap:=h',toks:=t'}:=I.un (Un.kept k) (I.hok.kept k)
theorem Inv.laid{a:Addr}{o:HO}{t':Nat}(I:Inv X pins σ H s)(k: ∀b u,s.heap.get? b=some u->h'.get? b=some u)(hp:s.heap.objs.size<=a)(new:ObjOk X.prog X.w (upd H a o) h' a o):
  Inv X pins σ (upd H a o) {s with heap:=h',toks:=t'}:=I.un (Un.laid k hp (I.hok.fresh hp)) (I.hok.laid k hp new)
theorem Inv.write{x e:Addr}{o:HO}{t':Nat}(I:Inv X pins σ H s)(mu:Mut (H x))(he:e=x\/H e=some (.own x))(k: ∀b u,b≠e->s.heap.get? b=some u->h'.get? b=some u)(heo: ∃u,h'.get? e=some u)
  (new:ObjOk X.prog X.w (upd H x o) h' x o):Inv X pins σ (upd H x o) {s with heap:=h',toks:=t'}:=I.un (Un.write mu he k heo) (I.hok.write mu he k heo new)
theorem Inv.pins_of{pins':List (Addr×Obj)}(I:Inv X pins σ H s)(h: ∀p∈pins',s.heap.get? p.1=some p.2/\H p.1=none/\p.1≠X.env.locals/\p.1∉X.fs/\ ∀v,p.2.data≠.cell v):Inv X pins' σ H s:=
 ⟨I.ok,I.os,I.bare,I.base,I.loc,I.cell,I.free,I.freeC,λp hp=>(mem_append.mp hp).elim (λz=>I.pin p (mem_append_left _ z)) (h p),I.hok,I.len⟩
theorem zSG{N:List Str}(hN:N.Nodup){i j:Nat}{x:Str}(a:N[i]? =some x)(b:N[j]? =some x):i=j:=by
 obtain⟨h1,e1⟩:=gS0.mp a
 obtain⟨h2,e2⟩:=gS0.mp b
 exact(getElem_inj hN).mp (e1.trans e2.symm)
theorem zVU{M:Model}{A:Around}{E:Value->Shared->Prop}{i:Nat}{x:Str}{v:V}{u:Value}{Q:Unit->Shared->Prop}(I:Inv X pins σ H s)(hN:X.N.Nodup)(hi:X.N[i]? =some x)(hx:Loc X.env.scope x)(r:RelV v u)
  (h: ∀s',Inv X pins (σ.set i (some v)) H s'->(∃a,Heap.SameBut a s.heap s'.heap/\(a=X.env.locals\/X.env.cells.lookup x=some a))->Q () s') (hf:X.fn x=true\/X.env.scope.names.lookup x=some .local:=by first |exact .inl rfl|exact .inr rfl|assumption):wpAny M A (storeName X.env x u) Q E s:=by
 obtain⟨m,hn,hl⟩:=id I.loc
 have hcls:(X.env.scope.kind==.class || (X.env.scope.kind==.module&&X.env.locals !=X.env.globals))=false:=by rw [I.ok.kind];rfl
 have hiσ:i<σ.length:=by rw [I.len];exact(gS0.mp hi).1
 have cne:=I.cne
 have tracked: ∀{a:Addr}{h':Heap},(∃o,s.heap.get? a=some o/\H a=none)->Heap.SameBut a s.heap h'->HOk X.prog X.w H h':=λ{a h'} ha hs b ob e=>by
  obtain⟨_,_,hfree⟩:=ha
  refine(I.hok b ob e).stay (λc w' hc q=>(hs.2 c ?_).trans q) (λ_ q=>q) λ_ _ q=>q
  rintro rfl
  rcases hc with rfl|hc
  ·rw [hfree]at e;cases e
  ·rw [hfree]at hc;cases hc
 rcases hx with hk|hk
 ·refine wpAny_storeName_local hk hn (λh' hn' hs=>?_) hcls
  obtain⟨oL,_,_,hoL,_⟩:=id hn
  refine h _ ⟨I.ok,I.os,I.bare,⟨λb o e n hb hx=>?_,λb o e n hb hx=>?_,I.base.free,λb o e hx=>?_,I.base.tups,I.base.frzs,I.base.tbls⟩,⟨_,hn',λj y v' e1 e2 e3=>?_⟩,λy c e=>?_,I.free,I.freeC,λp hp=>?_,tracked ⟨oL,hoL,I.free⟩ hs,by simpa using I.len⟩ ⟨_,hs,.inl rfl⟩
  ·exact(hs.2 b (ne_of_lt (lt_of_lt_of_le (Heap.lt_size e) I.ok.above))).trans (I.base.keep b o e n hb hx)
  ·obtain⟨sl,e1⟩:=I.base.slot b o e n hb hx
   exact⟨sl,(hs.2 b (ne_of_lt (lt_of_lt_of_le (Heap.lt_size e) I.ok.above))).trans e1⟩
  ·obtain⟨o',e1⟩:=I.base.there b o e hx
   exact⟨o',(hs.2 b (ne_of_lt (lt_of_lt_of_le (Heap.lt_size e) I.ok.above))).trans e1⟩
  ·by_cases hj:j=i
   ·subst hj
    rw [hi]at e1;cases e1
    rw [getElem?_set_self hiσ]at e2
    cases e2
    exact⟨u,r,.inl ⟨hk,by simp⟩⟩
   ·rw [getElem?_set_ne (Ne.symm hj)]at e2
    obtain⟨u',r',q⟩:=hl j y v' e1 e2 e3
    refine⟨u',r',?_⟩
    rcases q with⟨k,e⟩|⟨k,c,e,z⟩
    ·refine .inl ⟨k,?_⟩
     have:y≠x:=λe=>hj (zSG hN e1 (e▸hi))
     simp [this,e]
    ·exact .inr ⟨k,c,e,z.sameBut hs (cne y c e)⟩
  ·obtain⟨w',z⟩:=I.cell y c e
   exact⟨w',z.sameBut hs (cne y c e)⟩
  ·obtain⟨e,n,ne,nf,d⟩:=I.pin p hp
   exact⟨(hs.2 p.1 ne).trans e,n,ne,nf,d⟩
 ·have hfn:X.fn x=true:=by
   rcases hf with z|z
   ·exact z
   ·rw [z]at hk;cases hk
  obtain⟨c,hc⟩:=I.ok.has x (.inl hk)
  obtain⟨w',z⟩:=I.cell x c hc
  refine wpAny_storeName_cell I.ok.kind hk hc z (λh' hc' hs=>?_)
  obtain⟨oc,hoc,hocd⟩:=id z
  refine h {s with heap:=h'} ⟨I.ok,I.os,I.bare,⟨λb o e n hb hx=>?_,λb o e n hb hx=>?_,I.base.free,λb o e hx=>?_,I.base.tups,I.base.frzs,I.base.tbls⟩,⟨m,hn.sameBut hs (Ne.symm (cne x c hc)),λj y v' e1 e2 e3=>?_⟩,λy c' e=>?_,I.free,I.freeC,λp hp=>?_,tracked ⟨oc,hoc,I.freeC x c hc⟩ hs,by simpa using I.len⟩ ⟨c,hs,.inr hc⟩
  ·exact(hs.2 b (ne_of_lt (lt_of_lt_of_le (Heap.lt_size e) (I.ok.cab x c hfn hc)))).trans (I.base.keep b o e n hb hx)
  ·obtain⟨sl,e1⟩:=I.base.slot b o e n hb hx
   exact⟨sl,(hs.2 b (ne_of_lt (lt_of_lt_of_le (Heap.lt_size e) (I.ok.cab x c hfn hc)))).trans e1⟩
  ·obtain⟨o',e1⟩:=I.base.there b o e hx
   exact⟨o',(hs.2 b (ne_of_lt (lt_of_lt_of_le (Heap.lt_size e) (I.ok.cab x c hfn hc)))).trans e1⟩
  ·by_cases hj:j=i
   ·subst hj
    rw [hi]at e1;cases e1
    rw [getElem?_set_self hiσ]at e2
    cases e2
    exact⟨u,r,.inr ⟨.inl hk,c,hc,hc'⟩⟩
   ·rw [getElem?_set_ne (Ne.symm hj)]at e2
    obtain⟨u',r',q⟩:=hl j y v' e1 e2 e3
    refine⟨u',r',?_⟩
    rcases q with q|⟨k,c',e,z'⟩
    ·exact .inl q
    ·refine .inr ⟨k,c',e,z'.sameBut hs ?_⟩
     rintro rfl
     exact hj (zSG hN e1 (I.ok.inj _ _ _ e hc▸hi))
  ·by_cases hcc:c'=c
   ·subst hcc;exact⟨_,hc'⟩
   ·obtain⟨w2,z2⟩:=I.cell y c' e
    exact⟨w2,z2.sameBut hs hcc⟩
  ·obtain⟨e,n,ne,nf,d⟩:=I.pin p hp
   refine⟨(hs.2 p.1 ?_).trans e,n,ne,nf,d⟩
   intro q
   rw [q,hoc]at e
   have q':oc=p.2:=Option.some.inj e
   exact d w' (by rw [<-q'];exact hocd)
theorem zSH{M:Model}{A:Around}{E:Value->Shared->Prop}{i:Nat}{x:Str}{v:V}{u:Value}{Q:Unit->Shared->Prop}(I:Inv X pins σ H s)(hN:X.N.Nodup)(hi:X.N[i]? =some x)(hx:Loc X.env.scope x)(r:RelV v u)
  (h: ∀s',Inv X pins (σ.set i (some v)) H s'->Q () s') (hf:X.fn x=true\/X.env.scope.names.lookup x=some .local:=by first |exact .inl rfl|exact .inr rfl|assumption):wpAny M A (storeName X.env x u) Q E s:=
 zVU I hN hi hx r (λs' I' _=>h s' I') hf
theorem Inv.call'{s':Shared}{ch:List Addr}(I:Inv X pins σ H s)(ho:s'.os=s.os)(u:Un (frs X.stack) ch H H' s.heap s'.heap)(hok:HOk X.prog X.w H' s'.heap)(hg:AllBare s'.gens)
  (hch: ∀b∈ch,(b∈X.ex\/X.s₀.heap.objs.size<=b)/\b≠X.env.locals/\(∀x c,X.env.cells.lookup x=some c->c≠b)/\ ∀p∈X.pn++pins,p.1≠b):Inv X pins σ H' s':=by
 obtain⟨h',g',d',t',o'⟩:=s'
 have e:o'=s.os:=ho
 subst e
 exact I.call (g':=g') (t':=t') (d':=d') u hok hg hch
end
abbrev XK:=Value->Option Addr->Hp->Prop
abbrev St:=List (Option V)
abbrev VK:=V->Hp->Prop
abbrev TE:=St->Hp->VK->Prop
abbrev TT:=St->Hp->(Bool->Hp->Prop)->Prop
abbrev TA:=St->Hp->(List V->Hp->Prop)->Prop
structure Ends where
 nx:St->Hp->Prop
 rt:VK
 bk:St->Hp->Prop:=λ_ _=>False
 ct:St->Hp->Prop:=λ_ _=>False
abbrev TS:=Ends->St->Hp->Prop
def EP(X:Cx)(pins:List (Addr×Obj))(σ:St)(Q:VK)(u:Value)(s':Shared):Prop:= ∃v H',Inv X pins σ H' s'/\RelV v u/\Q v H'
def TP(X:Cx)(pins:List (Addr×Obj))(σ:St)(Q:Bool->Hp->Prop)(b:Bool)(s':Shared):Prop:= ∃H',Inv X pins σ H' s'/\Q b H'
def AP(X:Cx)(pins:List (Addr×Obj))(σ:St)(Q:List V->Hp->Prop)(us:List Value)(s':Shared):Prop:= ∃vs H',Inv X pins σ H' s'/\Vals vs us/\Q vs H'
def SP(X:Cx)(pins:List (Addr×Obj))(D:Ends)(f:Flow)(s':Shared):Prop:=
 match f with
 |.next=> ∃σ' H',Inv X pins σ' H' s'/\D.nx σ' H'
 |.brk=> ∃σ' H',Inv X pins σ' H' s'/\D.bk σ' H'
 |.cont=> ∃σ' H',Inv X pins σ' H' s'/\D.ct σ' H'
 |.ret u=> ∃v σ' H',Inv X pins σ' H' s'/\RelV v u/\D.rt v H'
def PE(X:Cx)(e:Expr)(t:TE):Prop:=
 ∀(pins:List (Addr×Obj))(s:Shared)(σ:St)(H:Hp)(Q:VK),Inv X pins σ H s->t σ H Q->wpAny (model X.prog X.w) X.A (eval e X.env) (EP X pins σ Q) X.xe s
def PT(X:Cx)(e:Expr)(t:TT):Prop:=
 ∀(pins:List (Addr×Obj))(s:Shared)(σ:St)(H:Hp)(Q:Bool->Hp->Prop),Inv X pins σ H s->t σ H Q->wpAny (model X.prog X.w) X.A (isTrue e X.env (eval e X.env)) (TP X pins σ Q) X.xe s
def PW(X:Cx)(e:Expr)(t:TT):Prop:=
 ∀(whole:Sem Value)(pins:List (Addr×Obj))(s:Shared)(σ:St)(H:Hp)(Q:Bool->Hp->Prop),Inv X pins σ H s->t σ H Q->wpAny (model X.prog X.w) X.A (isTrue e X.env whole) (TP X pins σ Q) X.xe s
theorem PW.pt{X:Cx}{e:Expr}{t:TT}(h:PW X e t):PT X e t:=h _
def PA(X:Cx)(es:List Expr)(t:TA):Prop:=
 ∀(pos:Pos)(pins:List (Addr×Obj))(s:Shared)(σ:St)(H:Hp)(Q:List V->Hp->Prop),Inv X pins σ H s->t σ H Q->wpAny (model X.prog X.w) X.A (spliced (backTo pos (starEach es X.env))) (AP X pins σ Q) X.xe s
def PS(X:Cx)(st:Stmt)(t:TS):Prop:=
 ∀(pins:List (Addr×Obj))(s:Shared)(σ:St)(H:Hp)(D:Ends),Inv X pins σ H s->t D σ H->wpAny (model X.prog X.w) X.A (exec st X.env) (SP X pins D) X.xe s
def PSs(X:Cx)(st:List Stmt)(t:TS):Prop:=
 ∀(pins:List (Addr×Obj))(s:Shared)(σ:St)(H:Hp)(D:Ends),Inv X pins σ H s->t D σ H->wpAny (model X.prog X.w) X.A (execs st X.env) (SP X pins D) X.xe s
theorem thn{α:Type}{t:Sem α}{Q Q':α->Shared->Prop}{M:Model}{A:Around}{E:Value->Shared->Prop}{s:Shared}(h:wpAny M A t Q E s)(hQ: ∀a s,Q a s->Q' a s):wpAny M A t Q' E s:=wpAny_mono h hQ λ_ _ x=>x
section
variable{X:Cx}
def tVar(i:Nat):TE:=λσ H Q=> ∃v,σ[i]? =some (some v)/\Q v H
def tC(v:V):TE:=λ_ H Q=>Q v H
theorem zSI{i:Nat}{x:Str}{pos:Pos}(hN:X.N[i]? =some x)(hv:Vis X.env.scope x)(hd:(x==("__debug__":Str))=false:=by decide)(hcd:(x==("__classdict__":Str))=false:=by decide):PE X (.Name x pos) (tVar i):=by
 intro pins s σ H Q I h
 obtain⟨v,e,h⟩:=h
 obtain⟨m,hn,hl⟩:=I.loc
 obtain⟨u,r,l⟩:=hl i x v hN e hv
 have fin:EP X pins σ Q u s:=⟨v,H,I,r,h⟩
 rcases l with⟨hk,hm⟩|⟨hk,c,hc,hcell⟩
 ·exact wpAny_Name (wpAny_loadName_local I.ok.kind hk hn hm fin) hd
 ·rcases hk with hk|hk
  ·exact wpAny_Name (wpAny_loadName_cell I.ok.kind hk hc hcell fin) hd
  ·exact wpAny_Name (wpAny_loadName_free I.ok.kind hk hc hcell fin hcd) hd
theorem yIJ{i j pos}:PE X (.Constant (.int i) j pos) (tC (.int i)):=λ_ _ _ H _ I h=>wpAny_Constant_int ⟨.int i,H,I.tok _,⟨_,rfl⟩,h⟩
theorem pe_bl{b j pos}:PE X (.Constant (.bool b) j pos) (tC (.bl b)):=λ_ _ _ H _ I h=>Constant_bool ⟨.bl b,H,I,rfl,h⟩
theorem ySB{j pos}:PE X (.Constant .none j pos) (tC .non):=λ_ _ _ H _ I h=>Constant_none ⟨.non,H,I,rfl,h⟩
theorem yIK{x j pos}:PE X (.Constant (.str x) j pos) (tC (.str x)):=λ_ _ _ H _ I h=>Calls.Constant_str ⟨.str x,H,I.tok _,⟨_,rfl⟩,h⟩
def Gl(X:Cx)(x:Str):Prop:=X.env.kindOf x=some .globalImplicit
theorem zHX{E:Value->Shared->Prop}{pins:List (Addr×Obj)}{s:Shared}{σ:St}{H:Hp}{x:Str}{u:Value}{pos:Pos}{Q:Value->Shared->Prop}(I:Inv X pins σ H s)(hg:Gl X x)(hm:X.mg x=some u)(h:Q u s)
  (hd:(x==("__debug__":Str))=false:=by decide):wpAny (model X.prog X.w) X.A (eval (.Name x pos) X.env) Q E s:=
 Calls.Name_function_global I.ok.kind hg (Calls.loadGlobal_global (by rw [I.ok.glob];exact I.mod.glob.keeps I.bk) hm h) hd
theorem zPR{E:Value->Shared->Prop}{pins:List (Addr×Obj)}{s:Shared}{σ:St}{H:Hp}{x:Str}{u:Value}{pos:Pos}{Q:Value->Shared->Prop}(I:Inv X pins σ H s)(hg:Gl X x)(hm:X.mg x=none)(hv:bootBuiltins x=some u)(h:Q u s)
  (hn:x≠"__name__":=by decide) (hd:(x==("__debug__":Str))=false:=by decide):wpAny (model X.prog X.w) X.A (eval (.Name x pos) X.env) Q E s:=by
 obtain⟨mb,h1,h2⟩:=I.mod.blt
 exact Calls.Name_function_global I.ok.kind hg (Calls.loadGlobal_builtin (by rw [I.ok.glob];exact I.mod.glob.keeps I.bk) hm (by rw [I.ok.blt];exact h1.keeps I.bk) ((h2 x hn).trans hv) h) hd
theorem zWX{x:Str}{v:V}{u:Value}{pos:Pos}(hg:Gl X x)(hm:X.mg x=some u)(r:RelV v u)(hd:(x==("__debug__":Str))=false:=by decide):PE X (.Name x pos) (tC v):=
 λ_ _ _ H _ I h=>zHX I hg hm ⟨v,H,I,r,h⟩ hd
theorem yED{x:Str}{v:V}{u:Value}{pos:Pos}(hg:Gl X x)(hm:X.mg x=none)(hv:bootBuiltins x=some u)(r:RelV v u)(hn:x≠"__name__":=by decide)(hd:(x==("__debug__":Str))=false:=by decide):PE X (.Name x pos) (tC v):=
 λ_ _ _ H _ I h=>zPR I hg hm hv ⟨v,H,I,r,h⟩ hn hd
variable{a b:Expr}{ta tb:TE}{pos:Pos}
variable{tA tB':TT}{rest:List Expr}
def tAnd(t u:TT):TT:=λσ H Q=>t σ H λc H1=>if c=true then u σ H1 Q else Q false H1
def tOr(t u:TT):TT:=λσ H Q=>t σ H λc H1=>if c=true then Q true H1 else u σ H1 Q
def tNot(t:TT):TT:=λσ H Q=>t σ H λc H1=>Q (!c) H1
theorem yNH(ha:PT X a tA):PW X (.BoolOp .And [a] pos) tA:=by
 intro wh pins s σ H Q I h
 refine isTrue_and (thn (ha pins s σ H Q I h) λc s1 e=>?_)
 cases c with
 |true=>exact isTrue_and_nil e
 |false=>exact e
theorem ySC(ha:PT X a tA):PW X (.BoolOp .Or [a] pos) tA:=by
 intro wh pins s σ H Q I h
 refine isTrue_or (thn (ha pins s σ H Q I h) λc s1 e=>?_)
 cases c with
 |false=>exact isTrue_or_nil e
 |true=>exact e
theorem ySD(ha:PT X a tA)(hb:PW X (.BoolOp .And (b::rest) pos) tB'):PW X (.BoolOp .And (a::b::rest) pos) (tAnd tA tB'):=by
 intro wh pins s σ H Q I h
 refine isTrue_and (thn (ha pins s σ H _ I h) λc s1 ⟨H1,I1,q1⟩=>?_)
 cases c with
 |true=>exact hb wh pins s1 σ H1 Q I1 q1
 |false=>exact⟨H1,I1,q1⟩
theorem pw_or(ha:PT X a tA)(hb:PW X (.BoolOp .Or (b::rest) pos) tB'):PW X (.BoolOp .Or (a::b::rest) pos) (tOr tA tB'):=by
 intro wh pins s σ H Q I h
 refine isTrue_or (thn (ha pins s σ H _ I h) λc s1 ⟨H1,I1,q1⟩=>?_)
 cases c with
 |true=>exact⟨H1,I1,q1⟩
 |false=>exact hb wh pins s1 σ H1 Q I1 q1
theorem ySE(ha:PT X a tA):PT X (.UnaryOp .Not a pos) (tNot tA):=by
 intro pins s σ H Q I h
 exact isTrue_not (ha pins s σ H (λc H1=>Q (!c) H1) I h)
def tAndV(ta tb:TE):TE:=λσ H Q=>ta σ H λx H1=> ∃c,x=.bl c/\if c=true then tb σ H1 Q else Q (.bl false) H1
def tOrV(ta tb:TE):TE:=λσ H Q=>ta σ H λx H1=> ∃c,x=.bl c/\if c=true then Q (.bl true) H1 else tb σ H1 Q
def tNotV(ta:TE):TE:=λσ H Q=>ta σ H λx H1=> ∃c,x=.bl c/\Q (.bl (!c)) H1
theorem ySF{op}{t:TE}(h:PE X a t):PE X (.BoolOp op [a] pos) t:=λpins s σ H Q I hw=>BoolOp_one (h pins s σ H Q I hw)
theorem ySG(ha:PE X a ta)(hb:PE X (.BoolOp .And (b::rest) pos) tb):PE X (.BoolOp .And (a::b::rest) pos) (tAndV ta tb):=by
 intro pins s σ H Q I h
 refine BoolOp_and (thn (ha pins s σ H _ I h) λv s1 ⟨x,H1,I1,r1,q1⟩=>?_)
 obtain⟨c,rfl,q1⟩:=q1
 cases r1
 refine wpAny_truthy_bool ?_
 cases c with
 |true=>exact hb pins s1 σ H1 Q I1 q1
 |false=>exact⟨.bl false,H1,I1,rfl,q1⟩
theorem pe_or(ha:PE X a ta)(hb:PE X (.BoolOp .Or (b::rest) pos) tb):PE X (.BoolOp .Or (a::b::rest) pos) (tOrV ta tb):=by
 intro pins s σ H Q I h
 refine BoolOp_or (thn (ha pins s σ H _ I h) λv s1 ⟨x,H1,I1,r1,q1⟩=>?_)
 obtain⟨c,rfl,q1⟩:=q1
 cases r1
 refine wpAny_truthy_bool ?_
 cases c with
 |false=>exact hb pins s1 σ H1 Q I1 q1
 |true=>exact⟨.bl true,H1,I1,rfl,q1⟩
theorem ySH(ha:PE X a ta):PE X (.UnaryOp .Not a pos) (tNotV ta):=by
 intro pins s σ H Q I h
 refine UnaryOp_ (thn (ha pins s σ H _ I h) λv s1 ⟨x,H1,I1,r1,q1⟩=>?_)
 obtain⟨c,rfl,q1⟩:=q1
 cases r1
 exact not_of (wpAny_truthy_bool ⟨.bl (!c),H1,I1,rfl,q1⟩)
end
def SqL(K:PySem.W.Frag)(H:Hp)(a:Addr)(xs:List V):Prop:=
 Rd H a (.lst xs)\/
  ∃(o:Obj)(its:Array Value)(n:Nat),K.lookup a=some o/\o.cls=.type "list"/\o.dict=none/\o.data=.seq its n/\its.size<=sizeLine/\Vals xs its.toList
def SqT(K:PySem.W.Frag)(H:Hp)(a:Addr)(xs:List V):Prop:=
 Rd H a (.tup xs)\/
  ∃(o:Obj)(its:Array Value)(n:Nat),K.lookup a=some o/\o.cls=.type "tuple"/\o.data=.seq its n/\its.size<=sizeLine/\Vals xs its.toList
def absV:Value->Option V
 |.none=>some .non
 |.bool b=>some (.bl b)
 |.int i _=>some (.int i)
 |.str x _=>some (.str x)
 |.bytes b _=>some (.byt b)
 |.float b _=>some (.flt b)
 |.ref a=>some (.ref a)
 |.type n=>some (.ty n)
 |_=>none
theorem RelV.abs{x:V}{u:Value}(r:RelV x u):absV u=some x:=by
 cases x with
 |non=>cases r;rfl
 |bl _=>cases r;rfl
 |int _=>obtain⟨t,rfl⟩:=r;rfl
 |str _=>obtain⟨t,rfl⟩:=r;rfl
 |byt _=>obtain⟨t,rfl⟩:=r;rfl
 |flt _=>obtain⟨t,rfl⟩:=r;rfl
 |ref _=>cases r;rfl
 |ty _=>cases r;rfl
theorem RelV.inj{x y:V}{u:Value}(r:RelV x u)(q:RelV y u):x=y:=Option.some.inj (r.abs.symm.trans q.abs)
theorem Vals.inj: ∀{xs ys:List V}{us:List Value},Vals xs us->Vals ys us->xs=ys
 |_,_,_,.nil,.nil=>rfl
 |_,_,_,.cons r t,.cons r' t'=>by rw [r.inj r',Vals.inj t t']
section
variable{X:Cx}{pins:List (Addr×Obj)}{σ:St}{H:Hp}{s:Shared}{a:Addr}{xs ys:List V}
theorem SqL.of{K:PySem.W.Frag}(h:H a=some (.lst xs)):SqL K H a xs:=.inl (.inl h)
theorem SqT.of{K:PySem.W.Frag}(h:H a=some (.tup xs)):SqT K H a xs:=.inl (.inl h)
theorem Inv.list(I:Inv X pins σ H s)(h:SqL X.K H a xs): ∃its:List Value,Vals xs its/\PlainL s.heap a its.toArray/\xs.length<=sizeLine:=by
 rcases h with h|⟨o,its,n,hk,hc,hd,hs,hz,r⟩
 ·obtain⟨z,its,n,r,e⟩:=h.ok I.hok
  exact⟨its,r,⟨_,n,e,rfl,rfl,rfl⟩,z⟩
 ·refine⟨its.toList,r,⟨o,n,I.kIn a o hk,hc,hd,by simpa using hs⟩,?_⟩
  have e:=r.length
  simp only [Array.length_toList]at e
  omega
theorem Inv.tuple(I:Inv X pins σ H s)(h:SqT X.K H a xs): ∃its:List Value,Vals xs its/\IsTup s.heap a its.toArray/\xs.length<=sizeLine:=by
 rcases h with h|⟨o,its,n,hk,hc,hs,hz,r⟩
 ·obtain⟨z,its,r,p⟩:=h.ok I.hok
  exact⟨its,r,p,z⟩
 ·refine⟨its.toList,r,⟨o,I.kIn a o hk,hc,n,by simpa using hs⟩,?_⟩
  have e:=r.length
  simp only [Array.length_toList]at e
  omega
theorem Inv.list_inj(I:Inv X pins σ H s)(h:SqL X.K H a xs)(h':SqL X.K H a ys):xs=ys:=by
 obtain⟨its,r,⟨o,n,e,_,_,d⟩,_⟩:=I.list h
 obtain⟨its',r',⟨o',n',e',_,_,d'⟩,_⟩:=I.list h'
 rw [e]at e';cases e'
 rw [d]at d'
 injection d' with d1 _
 have:its=its':=by simpa using congrArg Array.toList d1
 subst this
 exact r.inj r'
theorem Inv.tuple_inj(I:Inv X pins σ H s)(h:SqT X.K H a xs)(h':SqT X.K H a ys):xs=ys:=by
 obtain⟨its,r,⟨o,e,_,n,d⟩,_⟩:=I.tuple h
 obtain⟨its',r',⟨o',e',_,n',d'⟩,_⟩:=I.tuple h'
 rw [e]at e';cases e'
 rw [d]at d'
 injection d' with d1 _
 have:its=its':=by simpa using congrArg Array.toList d1
 subst this
 exact r.inj r'
end
abbrev Cx.wish(X:Cx)(E:Value->Shared->Prop):Cx:={X with xe:=E}
abbrev Cx.nox(X:Cx):Cx:=X.wish λ_ _=>False
theorem Cx.Ok.wish{X:Cx}(ok:X.Ok)(E:Value->Shared->Prop):(X.wish E).Ok:=
 ⟨ok.mod,ok.kind,ok.glob,ok.blt,ok.above,ok.inj,ok.has,ok.cab,ok.hd,ok.frames,ok.stk,ok.exf,ok.bs,ok.bsz,ok.noex,ok.exfs,ok.funs,ok.frf⟩
theorem Cx.Ok.unwish{X:Cx}{E:Value->Shared->Prop}(ok:(X.wish E).Ok):X.Ok:=
 ⟨ok.mod,ok.kind,ok.glob,ok.blt,ok.above,ok.inj,ok.has,ok.cab,ok.hd,ok.frames,ok.stk,ok.exf,ok.bs,ok.bsz,ok.noex,ok.exfs,ok.funs,ok.frf⟩
section
variable{X:Cx}{pins:List (Addr×Obj)}{σ:St}{H:Hp}{s:Shared}{E:Value->Shared->Prop}
theorem Inv.wish(I:Inv X pins σ H s)(E:Value->Shared->Prop):Inv (X.wish E) pins σ H s:=⟨I.ok.wish E,I.os,I.bare,I.base,I.loc,I.cell,I.free,I.freeC,I.pin,I.hok,I.len⟩
theorem Inv.unwish(I:Inv (X.wish E) pins σ H s):Inv X pins σ H s:=⟨I.ok.unwish,I.os,I.bare,I.base,I.loc,I.cell,I.free,I.freeC,I.pin,I.hok,I.len⟩
theorem SP.unwish{D:Ends}{f:Flow}{s':Shared}(h:SP (X.wish E) pins D f s'):SP X pins D f s':=by
 cases f with
 |next=>obtain⟨σ',H',I,q⟩:=h;exact⟨σ',H',I.unwish,q⟩
 |brk=>obtain⟨σ',H',I,q⟩:=h;exact⟨σ',H',I.unwish,q⟩
 |cont=>obtain⟨σ',H',I,q⟩:=h;exact⟨σ',H',I.unwish,q⟩
 |ret u=>obtain⟨v,σ',H',I,r,q⟩:=h;exact⟨v,σ',H',I.unwish,r,q⟩
theorem PSs.nox{st:List Stmt}{t:TS}(h:PSs X.nox st t):PSs X st t:=λpins s σ H D I hw=>
 wpAny_mono (h pins s σ H D (I.wish _) hw) (λ_ _ q=>q.unwish) λ_ _ z=>False.elim z
end
section
variable{X:Cx}{st:Stmt}{rest:List Stmt}{t u:TS}{e:Expr}{te:TE}{pos:Pos}
def tNext:TS:=λD σ H=>D.nx σ H
def tSeq(t u:TS):TS:=λD σ H=>t {D with nx:=u D} σ H
theorem yNI:PSs X [] tNext:=λ_ _ σ H _ I h=>wpAny_execs_nil ⟨σ,H,I,h⟩
theorem yIL(h1:PS X st t)(h2:PSs X rest u):PSs X (st::rest) (tSeq t u):=by
 intro pins s σ H D I h
 refine wpAny_execs_cons (thn (h1 pins s σ H {D with nx:=u D} I h) λf s1 q=>?_)
 cases f with
 |next=>
  obtain⟨σ',H',I',q⟩:=q
  exact h2 pins s1 σ' H' D I' q
 |ret v=>exact q
 |brk=>exact q
 |cont=>exact q
theorem yNJ(h1:PS X st t):PSs X [st] t:=by
 intro pins s σ H D I h
 refine wpAny_execs_cons (thn (h1 pins s σ H D I h) λf s1 q=>?_)
 cases f with
 |next=>exact wpAny_execs_nil q
 |ret v=>exact q
 |brk=>exact q
 |cont=>exact q
theorem Inv.quiet{pins:List (Addr×Obj)}{σ:St}{H:Hp}{s:Shared}(I:Inv X pins σ H s):interactive X.env=false:=by simp [interactive,I.ok.kind]
def tDrop(te:TE):TS:=λD σ H=>te σ H λ_ H1=>D.nx σ H1
theorem yNK(he:PE X e te)(hs:swapsWith e none pos.line X.env=pure false:=by rfl):PS X (.Expr e pos) (tDrop te):=by
 intro pins s σ H D I h
 exact wpAny_Expr_any (thn (he pins s σ H _ I h) λv s1 ⟨x,H1,I1,r1,q1⟩=>⟨σ,H1,I1,q1⟩) I.quiet hs
def tRet(te:TE):TS:=λD σ H=>te σ H D.rt
theorem ySI(he:PE X e te):PS X (.Return (some e) pos) (tRet te):=by
 intro pins s σ H D I h
 exact wpAny_Return_some (thn (he pins s σ H _ I h) λv s1 ⟨x,H1,I1,r1,q1⟩=>⟨x,σ,H1,I1,r1,q1⟩)
def tIfS(c:TT)(t u:TS):TS:=λD σ H=>c σ H λb H1=>if b=true then t D σ H1 else u D σ H1
theorem ps_if{c:Expr}{a b:List Stmt}{tc:TT}(hc:PT X c tc)(ha:PSs X a t)(hb:PSs X b u):PS X (.If c a b pos) (tIfS tc t u):=by
 intro pins s σ H D I h
 refine wpAny_If (thn (hc pins s σ H _ I h) λd s1 ⟨H1,I1,q1⟩=>?_)
 cases d with
 |true=>exact ha pins s1 σ H1 D I1 q1
 |false=>exact hb pins s1 σ H1 D I1 q1
def ySJ:TS:=λ_ _ _=>False
theorem yIM:PS X st ySJ:=λ_ _ _ _ _ _ h=>h.elim
end
abbrev TG:=V->St->Hp->(St->Hp->Prop)->Prop
abbrev TGs:=List V->St->Hp->(St->Hp->Prop)->Prop
def PG(X:Cx)(target:Expr)(t:TG):Prop:=
 ∀(pins:List (Addr×Obj))(s:Shared)(σ:St)(H:Hp)(v:V)(u:Value)(Q:St->Hp->Prop),Inv X pins σ H s->RelV v u->t v σ H Q->
  wpAny (model X.prog X.w) X.A (assign target X.env u) (λ_ s'=> ∃σ' H',Inv X pins σ' H' s'/\Q σ' H') X.xe s
def PGs(X:Cx)(ts:List Expr)(t:TGs):Prop:=
 ∀(pins:List (Addr×Obj))(s:Shared)(σ:St)(H:Hp)(vs:List V)(us:List Value)(Q:St->Hp->Prop),Inv X pins σ H s->Vals vs us->t vs σ H Q->
  wpAny (model X.prog X.w) X.A (assignInOrder ((assignEach ts X.env).map (·.2)) us) (λ_ s'=> ∃σ' H',Inv X pins σ' H' s'/\Q σ' H') X.xe s
abbrev TSet:=V->V->V->Hp->(Hp->Prop)->Prop
def PSet(X:Cx)(t:TSet):Prop:=
 ∀(pins:List (Addr×Obj))(s:Shared)(σ:St)(H:Hp)(o i v:V)(ov iv u:Value)(Q:Hp->Prop),Inv X pins σ H s->RelV o ov->RelV i iv->RelV v u->t o i v H Q->
  wpAny (model X.prog X.w) X.A (setItem ov iv u) (λ_ s'=> ∃H',Inv X pins σ H' s'/\Q H') X.xe s
section
variable{X:Cx}{pos:Pos}
def yIN(i:Nat):TG:=λv σ H Q=>Q (σ.set i (some v)) H
theorem yEE{i:Nat}{x:Str}(hN:X.N.Nodup)(hi:X.N[i]? =some x)(hx:Loc X.env.scope x)(hf:X.fn x=true\/X.env.scope.names.lookup x=some .local:=by first |exact .inl rfl|exact .inr rfl|assumption):PG X (.Name x pos) (yIN i):=by
 intro pins s σ H v u Q I r h
 exact wpAny_assign_Name (zSH I hN hi hx r (λs' I'=>⟨_,H,I',h⟩) hf)
def gNil:TGs:=λvs σ H Q=>vs=[]/\Q σ H
def gCons(t:TG)(u:TGs):TGs:=λvs σ H Q=> ∃v r,vs=v::r/\t v σ H λσ' H'=>u r σ' H' Q
theorem yEF:PGs X [] gNil:=by
 intro pins s σ H vs us Q I r h
 obtain⟨e,h⟩:=h
 subst e
 cases r
 exact assignInOrder_nil ⟨σ,H,I,h⟩
theorem zZI{e:Expr}{es:List Expr}{t:TG}{u:TGs}(h1:PG X e t)(h2:PGs X es u)
  (hs:(assignEach (e::es) X.env).map (·.2)=assign e X.env::(assignEach es X.env).map (·.2):=by rfl):PGs X (e::es) (gCons t u):=by
 intro pins s σ H vs us Q I r h
 obtain⟨v,vr,e1,h⟩:=h
 subst e1
 cases r with
 |cons r rr=>
  rw [hs]
  refine assignInOrder_cons (thn (h1 pins s σ H _ _ _ I r h) λ_ s1 ⟨σ1,H1,I1,q1⟩=>?_)
  exact h2 pins s1 σ1 H1 _ _ Q I1 rr q1
def gTup(K:PySem.W.Frag)(n:Nat)(t:TGs):TG:=λv σ H Q=> ∃a xs,v=.ref a/\SqT K H a xs/\xs.length=n/\t xs σ H Q
theorem yIO{es:List Expr}{k:Nat}{t:TGs}{n:Nat}(hc:X.calm=true)(h:PGs X es t)
  (hn:(assignEach es X.env).length=n:=by rfl) (hst:(assignEach es X.env).findIdx? (·.1)=none:=by rfl):PG X (.Tuple es k pos) (gTup X.K n t):=by
 intro pins s σ H v u Q I r hw
 obtain⟨a,xs,e1,hq,hl,hw⟩:=hw
 subst e1
 cases r
 obtain⟨its,rv,ht,hz⟩:=I.tuple hq
 refine assign_Tuple_tuple (I.ok.hd hc) ht (by simp [hn, <-hl,rv.length]) hst λh' hx=>?_
 have I1:Inv X pins σ H {s with heap:=h'}:=I.kept (t':=s.toks) λb o e=>hx b o (ne_of_lt (Heap.lt_size e)) e
 exact h pins _ σ H xs _ Q I1 (by simpa using rv) hw
def gSub(to ti:TE)(t:TSet):TG:=λv σ H Q=>to σ H λo H1=>ti σ H1 λi H2=>t o i v H2 λH3=>Q σ H3
theorem ySK{o i:Expr}{to ti:TE}{t:TSet}(ho:PE X o to)(hi:PE X i ti)(hs:PSet X t)
  (ha: ∀v,assign (.Subscript o i pos) X.env v=(do
   let ov <-holding [v] (eval o X.env)
   let iv <-holding [v,ov] (eval i X.env)
   standAt pos
   holding [v,ov,iv] (setItem ov iv v)
   release [v,ov,iv] []):=by intro _;rfl):PG X (.Subscript o i pos) (gSub to ti t):=by
 intro pins s σ H v u Q I r h
 rw [ha]
 refine wB0 (wpAny_holding (thn (ho pins s σ H _ I h) λov s1 ⟨x,H1,I1,r1,q1⟩=>?_))
 refine wB0 (wpAny_holding (thn (hi pins s1 σ H1 _ I1 q1) λiv s2 ⟨y,H2,I2,r2,q2⟩=>?_))
 refine wB0 (wpAny_standAt (wB0 (wpAny_holding (thn (hs pins s2 σ H2 x y v ov iv u _ I2 r1 r2 r q2) λ_ s3 ⟨H3,I3,q3⟩=>?_))))
 exact wpAny_release ⟨σ,H3,I3,q3⟩
def tAsg(te:TE)(g:TG):TS:=λD σ H=>te σ H λx H1=>g x σ H1 D.nx
theorem ySL{tg e:Expr}{te:TE}{g:TG}(he:PE X e te)(hg:PG X tg g)(hs:swapsWithSole [tg] e pos.line X.env=pure false:=by rfl)(hw:swappedStores [tg] e X.env=pure none:=by rfl)
  (h1:(assignEach [tg] X.env).map (·.2)=[assign tg X.env]:=by rfl):PS X (.Assign [tg] e pos) (tAsg te g):=by
 intro pins s σ H D I h
 refine wpAny_Assign_stores (thn (he pins s σ H _ I h) λv s1 ⟨x,H1,I1,r1,q1⟩=>?_) hs hw
 rw [h1]
 exact thn (hg pins s1 σ H1 x v _ I1 r1 q1) λ_ s2 q=>q
theorem ySM{i:Nat}{x:Str}{e:Expr}{te:TE}{pos':Pos}(hN:X.N.Nodup)(hi:X.N[i]? =some x)(hx:Loc X.env.scope x)(he:PE X e te)(hs:swapsWith e (some (.Name x pos')) pos.line X.env=pure false:=by rfl)(hf:X.fn x=true\/X.env.scope.names.lookup x=some .local:=by first |exact .inl rfl|exact .inr rfl|assumption):
  PS X (.Assign [.Name x pos'] e pos) (tAsg te (yIN i)):=by
 intro pins s σ H D I h
 refine wpAny_Assign_Name (thn (he pins s σ H _ I h) λv s1 ⟨y,H1,I1,r1,q1⟩=>?_) hs
 exact zSH I1 hN hi hx r1 (λs2 I2=>⟨_,H1,I2,q1⟩) hf
end
structure It where
 go:Nat->Hp->Prop
 yld:Nat->Hp->V->Hp->Prop
 stop:Nat->Hp->Prop
def zOC(X:Cx)(pins:List (Addr×Obj))(H:Hp)(b:Addr):Prop:=
 H b=none/\b≠X.env.locals/\b∉X.fs/\(b∈X.ex\/X.s₀.heap.objs.size<=b)/\(∀x c,X.env.cells.lookup x=some c->c≠b)/\ ∀p∈X.pn++pins,p.1≠b
theorem Inv.fpOk{X:Cx}{pins:List (Addr×Obj)}{σ:St}{H H':Hp}{s:Shared}{b:Addr}(I:Inv X pins σ H s)(hb:s.heap.objs.size<=b)(hn:H' b=none):zOC X pins H' b:=by
 refine⟨hn,ne_of_gt (lt_of_lt_of_le I.lt hb),I.nofs hb,.inr (le_trans I.sz hb),λx c e z=>?_,λp hp z=>?_⟩
 ·obtain⟨v,q⟩:=I.cell x c e
  exact absurd (lt_of_lt_of_le q.lt (by rw [z];exact hb)) (lt_irrefl _)
 ·exact absurd (lt_of_lt_of_le (Heap.lt_size (I.pin p hp).1) (by rw [z];exact hb)) (lt_irrefl _)
structure Turn(P:Program)(w:World)(K:PySem.W.Frag)(tg:Expr)(J:It)(fp:List Addr)(it:Addr)(tn:Nat->Heap->Prop):Prop where
 mem:it∈fp
 obj: ∀i h,tn i h-> ∀b∈fp, ∃o,h.get? b=some o/\ ∀v,o.data≠.cell v
 keep: ∀i h h',tn i h->(∀b∈fp, ∀o,h.get? b=some o->h'.get? b=some o)->tn i h'
 item: ∀(X:Cx),X.prog=P->X.w=w->X.K=K->X.calm=true-> ∀(i:Nat)(pins:List (Addr×Obj))(s:Shared)(σ:St)(H:Hp)(E:Value->Shared->Prop),Inv X pins σ H s->(∀b∈fp,zOC X pins H b)->tn i s.heap->J.go i H->
  wpAny (model P w) X.A (pyNext (.ref it)) (λr s1=> ∃u,r=some u/\
   wpAny (model P w) X.A (letOwnedTupleGo tg (.ref it) u) (λ_ s2=> ∃x H',Inv X pins σ H' s2/\RelV x u/\J.yld i H x H'/\tn (i+1) s2.heap/\ ∀b∈fp,H' b=none) E s1) E s
 done: ∀(X:Cx),X.prog=P->X.w=w->X.K=K->X.calm=true-> ∀(i:Nat)(pins:List (Addr×Obj))(s:Shared)(σ:St)(H:Hp)(E:Value->Shared->Prop),Inv X pins σ H s->(∀b∈fp,zOC X pins H b)->tn i s.heap->J.stop i H->
  wpAny (model P w) X.A (pyNext (.ref it)) (λr s1=>r=none/\Inv X pins σ H s1) E s
 self: ∀(A:Around)(i:Nat)(s:Shared)(Q:Value->Shared->Prop)(E:Value->Shared->Prop),tn i s.heap->Q (.ref it) s->wpAny (model P w) A (pyIter (.ref it)) Q E s
abbrev TI:=St->Hp->(It->Hp->Prop)->Prop
def PIE(X:Cx)(pins:List (Addr×Obj))(σ:St)(tg:Expr)(R:It->Hp->Prop)(itv:Value)(s2:Shared):Prop:=
 ∃(it:Addr)(fp:List Addr)(tn:Nat->Heap->Prop)(J:It)(H':Hp),itv=.ref it/\Inv X pins σ H' s2/\Turn X.prog X.w X.K tg J fp it tn/\tn 0 s2.heap/\(∀b∈fp,zOC X pins H' b)/\R J H'
def PI(X:Cx)(tg iter:Expr)(wi:TI):Prop:=
 ∀(pins:List (Addr×Obj))(s:Shared)(σ:St)(H:Hp)(R:It->Hp->Prop),Inv X pins σ H s->wi σ H R->
  wpAny (model X.prog X.w) X.A (eval iter X.env) (λv s1=>wpAny (model X.prog X.w) X.A (pyIter v) (PIE X pins σ tg R) X.xe s1) X.xe s
theorem yEG{M:Model}{A:Around}{E:Value->Shared->Prop}{s:Shared}{tg:Expr}{it:Addr}{u:Value}{o:Obj}{n:String}{vs:Array Value}{Q:Unit->Shared->Prop}(ho:s.heap.get? it=some o)(hc:o.cls=.type n)(hd:o.data=.fields vs)
  (hn:["enumerate","zip","dict_itemiterator","dict_reverseitemiterator","odict_iterator","itertools.zip_longest","itertools.pairwise"].contains n=false) (hQ:Q () s):wpAny M A (letOwnedTupleGo tg (.ref it) u) Q E s:=by
 unfold letOwnedTupleGo
 cases tg<;>first
  |exact wP0 hQ
  |(cases u<;>first
    |exact wP0 hQ
    |(refine wB0 (wpAny_load ho ?_)
      rw [hc,hd]
      show wpAny M A (if(["enumerate","zip","dict_itemiterator","dict_reverseitemiterator","odict_iterator","itertools.zip_longest","itertools.pairwise"].contains n&&vs[0]? ==some (rawInt _))=true then _ else _) Q E s
      rw [iN0 (by intro h;rw [hn,Bool.false_and]at h;cases h)]
      exact wP0 hQ))
def Itl(K:PySem.W.Frag)(a:Addr):It:=
 ⟨λi H=> ∃xs x,SqL K H a xs/\xs[i]? =some x,λi H x H'=>H'=H/\ ∀xs,SqL K H a xs->xs[i]? =some x,λi H=> ∃xs,SqL K H a xs/\xs.length<=i⟩
def Itt(K:PySem.W.Frag)(a:Addr):It:=
 ⟨λi H=> ∃xs x,SqT K H a xs/\xs[i]? =some x,λi H x H'=>H'=H/\ ∀xs,SqT K H a xs->xs[i]? =some x,λi H=> ∃xs,SqT K H a xs/\xs.length<=i⟩
def Itr(lo:Int)(n:Nat):It:=⟨λi _=>i<n,λi H x H'=>H'=H/\x=.int (lo+i),λi _=>n<=i⟩
theorem yGQ{P:Program}{w:World}{K:PySem.W.Frag}{tg:Expr}(a it:Addr):Turn P w K tg (Itl K a) [it] it (λi h=>h.IsListIter it a i) where
 mem:=by simp
 obj:=λi h st b hb=>by
  have e:b=it:=by simpa using hb
  subst e
  obtain⟨o,e,c,d⟩:=st
  exact⟨o,e,λv z=>by rw [d]at z;cases z⟩
 keep:=λi h h' st k=>st.at λo e=>k it (by simp) o e
 item:=by
  intro X hP hw hK hc i pins s σ H E I hf st hg
  subst hP hw hK
  obtain⟨xs,x,hq,hx⟩:=hg
  obtain⟨its,rv,p,hz⟩:=I.list hq
  obtain⟨u,hu,ru⟩:=rv.get hx
  obtain⟨f0,f1,f2,f3,f4,f5⟩:=hf it (by simp)
  refine wpAny_pyNext_list_item st p.isList (x:=u) (by simpa using hu) λh' st' sb=>?_
  have I1:Inv X pins σ H {s with heap:=h'}:=I.turned (t':=s.toks) (λb o hb e=>(sb.2 b hb).trans e) f0 f1 f3 f4 f5
  obtain⟨o,e,c,d⟩:=id st'
  exact⟨u,rfl,yEG (s:={s with heap:=h'}) e c d (by decide) ⟨x,H,I1,ru,⟨rfl,λys hy=>by rw [I.list_inj hy hq];exact hx⟩,st',λb hb=>(hf b hb).1⟩⟩
 done:=by
  intro X hP hw hK hc i pins s σ H E I hf st hg
  subst hP hw hK
  obtain⟨xs,hq,hx⟩:=hg
  obtain⟨its,rv,p,hz⟩:=I.list hq
  obtain⟨f0,f1,f2,f3,f4,f5⟩:=hf it (by simp)
  have hl:=rv.length
  exact wpAny_pyNext_list_end (I.ok.hd hc) st p.isList (by simp;omega) λh' eb=>⟨rfl,I.turned (t':=s.toks) (λb o hb e=>eb b o hb e) f0 f1 f3 f4 f5⟩
 self:=λ_ _ _ _ _ st h=>wpAny_pyIter_listiter st h
theorem yBR{P:Program}{w:World}{K:PySem.W.Frag}{tg:Expr}(a it:Addr):Turn P w K tg (Itt K a) [it] it (λi h=>h.IsTupleIter it a i) where
 mem:=by simp
 obj:=λi h st b hb=>by
  have e:b=it:=by simpa using hb
  subst e
  obtain⟨o,e,c,d⟩:=st
  exact⟨o,e,λv z=>by rw [d]at z;cases z⟩
 keep:=λi h h' st k=>st.at λo e=>k it (by simp) o e
 item:=by
  intro X hP hw hK hc i pins s σ H E I hf st hg
  subst hP hw hK
  obtain⟨xs,x,hq,hx⟩:=hg
  obtain⟨its,rv,p,hz⟩:=I.tuple hq
  obtain⟨u,hu,ru⟩:=rv.get hx
  obtain⟨f0,f1,f2,f3,f4,f5⟩:=hf it (by simp)
  refine wpAny_pyNext_tuple_item st (show s.heap.IsTuple a its.toArray from p) (x:=u) (by simpa using hu) λh' st' sb=>?_
  have I1:Inv X pins σ H {s with heap:=h'}:=I.turned (t':=s.toks) (λb o hb e=>(sb.2 b hb).trans e) f0 f1 f3 f4 f5
  obtain⟨o,e,c,d⟩:=id st'
  exact⟨u,rfl,yEG (s:={s with heap:=h'}) e c d (by decide) ⟨x,H,I1,ru,⟨rfl,λys hy=>by rw [I.tuple_inj hy hq];exact hx⟩,st',λb hb=>(hf b hb).1⟩⟩
 done:=by
  intro X hP hw hK hc i pins s σ H E I hf st hg
  subst hP hw hK
  obtain⟨xs,hq,hx⟩:=hg
  obtain⟨its,rv,p,hz⟩:=I.tuple hq
  obtain⟨f0,f1,f2,f3,f4,f5⟩:=hf it (by simp)
  have hl:=rv.length
  exact wpAny_pyNext_tuple_end (I.ok.hd hc) st (show s.heap.IsTuple a its.toArray from p) (by simp;omega) λh' eb=>⟨rfl,I.turned (t':=s.toks) (λb o hb e=>eb b o hb e) f0 f1 f3 f4 f5⟩
 self:=λ_ _ _ _ _ st h=>wpAny_pyIter_tupleiter st h
theorem yBS{P:Program}{w:World}{K:PySem.W.Frag}{tg:Expr}(it:Addr)(lo:Int)(n:Nat):Turn P w K tg (Itr lo n) [it] it (λi h=>IsRangeIter h it (lo+(i:Nat) * 1) ((n:Int) - (i:Nat)) 1) where
 mem:=by simp
 obj:=λi h st b hb=>by
  have e:b=it:=by simpa using hb
  subst e
  exact⟨_,st,λv z=>by
   have z':Data.fields _=Data.cell v:=z
   cases z'⟩
 keep:=λi h h' st k=>k it (by simp) _ st
 item:=by
  intro X hP hw hK hc i pins s σ H E I hf st hg
  subst hP hw hK
  obtain⟨f0,f1,f2,f3,f4,f5⟩:=hf it (by simp)
  have W:=Walks.range (prog:=X.prog) (w:=X.w) (I.ok.hd hc) it lo 1 n
  refine W.item i s _ _ hg st λv h' tk hv st' kk=>?_
  obtain⟨t,rfl⟩:=hv
  have I1:Inv X pins σ H {s with heap:=h',toks:=tk}:=I.turned (λb o hb e=>kk b o (by simpa using hb) e) f0 f1 f3 f4 f5
  refine⟨_,rfl,yEG (s:={s with heap:=h',toks:=tk}) (n:="range_iterator") st' rfl rfl (by decide) ⟨.int (lo+i),H,I1,⟨t,?_⟩,⟨rfl,rfl⟩,st',λb hb=>(hf b hb).1⟩⟩
  rw [Int.mul_one]
 done:=by
  intro X hP hw hK hc i pins s σ H E I hf st hg
  subst hP hw hK
  obtain⟨f0,f1,f2,f3,f4,f5⟩:=hf it (by simp)
  exact wpAny_pyNext_range_end (I.ok.hd hc) st (by have:n<=i:=hg;omega) λh' eb=>⟨rfl,I.turned (t':=s.toks) (λb o hb e=>eb b o hb e) f0 f1 f3 f4 f5⟩
 self:=λ_ _ _ _ _ st h=>wpAny_pyIter_rangeiter st h
section
variable{X:Cx}{tg:Expr}
def iList(K:PySem.W.Frag)(tl:TE):TI:=λσ H R=>tl σ H λx H1=> ∃a,x=.ref a/\(∃xs,SqL K H1 a xs)/\R (Itl K a) H1
def iTup(K:PySem.W.Frag)(tl:TE):TI:=λσ H R=>tl σ H λx H1=> ∃a,x=.ref a/\(∃xs,SqT K H1 a xs)/\R (Itt K a) H1
theorem yNL{l:Expr}{tl:TE}(hl:PE X l tl):PI X tg l (iList X.K tl):=by
 intro pins s σ H R I h
 refine thn (hl pins s σ H _ I h) λv s1 ⟨x,H1,I1,r1,q1⟩=>?_
 obtain⟨a,e,⟨xs,hq⟩,q⟩:=q1
 subst e
 cases r1
 obtain⟨its,rv,p,hz⟩:=I1.list hq
 refine wpAny_pyIter_list p.isList ?_
 refine⟨s1.heap.objs.size,[s1.heap.objs.size],_,_,H1,rfl,I1.kept (t':=s1.toks) λb o e=>hP0 _ e,yGQ a _,⟨_,Heap.get?_push_size _ rfl,rfl,rfl⟩,λb hb=>?_,q⟩
 have e:b=s1.heap.objs.size:=by simpa using hb
 subst e
 exact I1.fpOk (le_refl _) (I1.hok.fresh (le_refl _))
theorem ySN{l:Expr}{tl:TE}(hl:PE X l tl):PI X tg l (iTup X.K tl):=by
 intro pins s σ H R I h
 refine thn (hl pins s σ H _ I h) λv s1 ⟨x,H1,I1,r1,q1⟩=>?_
 obtain⟨a,e,⟨xs,hq⟩,q⟩:=q1
 subst e
 cases r1
 obtain⟨its,rv,p,hz⟩:=I1.tuple hq
 refine wpAny_pyIter_tuple (show s1.heap.IsTuple a its.toArray from p) ?_
 refine⟨s1.heap.objs.size,[s1.heap.objs.size],_,_,H1,rfl,I1.kept (t':=s1.toks) λb o e=>hP0 _ e,yBR a _,⟨_,Heap.get?_push_size _ rfl,rfl,rfl⟩,λb hb=>?_,q⟩
 have e:b=s1.heap.objs.size:=by simpa using hb
 subst e
 exact I1.fpOk (le_refl _) (I1.hok.fresh (le_refl _))
theorem yIP{pins:List (Addr×Obj)}{σ:St}{H:Hp}{s:Shared}{R:It->Hp->Prop}{E:Value->Shared->Prop}{lo hi:Int}{t u v:Tok}{tk:Nat}(I:Inv X pins σ H s)(h1: -(2 ^ 62)<=lo)(h2:lo<2 ^ 62)(h3: -(2 ^ 62)<=hi)(h4:hi<2 ^ 62)
  (q:R (Itr lo (hi - lo).toNat) H):wpAny (model X.prog X.w) X.A (pyIter (.ref s.heap.objs.size)) (PIE X pins σ tg R) E {s with heap:=s.heap.push {cls:=.type "range",data:=.fields #[.int lo t,.int hi u,.int 1 v]},toks:=tk}:=by
 refine wpAny_pyIter_range (IsRange.new ..) (small_one h1 h2 h3 h4) ?_
 have I1:Inv X pins σ H {s with heap:=s.heap.push {cls:=.type "range",data:=.fields #[.int lo t,.int hi u,.int 1 v]},toks:=tk}:=I.kept λb o e=>hP0 _ e
 refine⟨(s.heap.push {cls:=.type "range",data:=.fields #[.int lo t,.int hi u,.int 1 v]}).objs.size,[(s.heap.push {cls:=.type "range",data:=.fields #[.int lo t,.int hi u,.int 1 v]}).objs.size],_,_,H,rfl,
  I1.kept (t':=tk) λb o e=>hP0 _ e,yBS _ lo (hi - lo).toNat,?_,λb hb=>?_,q⟩
 ·have e1:lo+((0:Nat):Int) * 1=lo:=by simp
  have e2:(((hi - lo).toNat:Nat):Int) - ((0:Nat):Int)=Builtin.Range.rangeSize lo hi 1:=by rw [rangeSize_one];split<;>omega
  show IsRangeIter _ _ (lo+((0:Nat):Int) * 1) ((((hi - lo).toNat:Nat):Int) - ((0:Nat):Int)) 1
  rw [e1,e2]
  exact Heap.get?_push_size _ rfl
 ·have e:b=(s.heap.push {cls:=.type "range",data:=.fields #[.int lo t,.int hi u,.int 1 v]}).objs.size:=by simpa using hb
  subst e
  exact I1.fpOk (le_refl _) (I1.hok.fresh (le_refl _))
def iRng1(ta:TA):TI:=λσ H R=>ta σ H λvs H1=> ∃j:Int,vs=[.int j]/\ -(2 ^ 62)<=j/\j<2 ^ 62/\R (Itr 0 j.toNat) H1
theorem yGR{a:Expr}{ta:TA}{p pos:Pos}(hg:Gl X "range")(hm:X.mg "range"=none)(ha:PA X [a] ta)(hs:starEach [a] X.env=[(false,eval a X.env)]:=by rfl):PI X tg (.Call (.Name "range" p) [a] [] pos) (iRng1 ta):=by
 intro pins s σ H R I h
 refine Call_ (zPR I hg hm boot_range (PyProof.Rows.callWith_type1 (thn (ha pos pins s σ H _ I h) λus s1 ⟨vs,H1,I1,r1,q1⟩=>?_) hs rfl))
 obtain⟨j,e,q1,q2,q⟩:=q1
 subst e
 cases r1 with
 |cons r rr=>
  cases rr
  obtain⟨t,rfl⟩:=r
  exact call_range_1 (yIP I1 (by omega) (by omega) q1 q2 (by simpa using q))
def tFor(wi:TI)(g:TG)(tb:TS):TS:=λD σ H=>wi σ H λJ H1=> ∃W:Nat->Nat->St->Hp->Prop,(∃m,W 0 m σ H1)/\ ∀i m σ H,W i m σ H->
 (J.stop i H/\D.nx σ H)\/(J.go i H/\ ∃N:St->Hp->Prop,(∀σ' H',N σ' H'-> ∃m',m'<m/\W (i+1) m' σ' H')/\ ∀x H',J.yld i H x H'->g x σ H' λσ2 H2=>tb {D with nx:=N,ct:=N,bk:=D.nx} σ2 H2)
def zPS(fp:List Addr)(h:Heap):List (Addr×Obj):=fp.filterMap λb=>(h.get? b).map λo=>(b,o)
theorem zMS{fp:List Addr}{h:Heap}{b:Addr}{o:Obj}(hb:b∈fp)(e:h.get? b=some o):(b,o)∈zPS fp h:=List.mem_filterMap.mpr ⟨b,hb,by rw [e];rfl⟩
theorem yGS{fp:List Addr}{h:Heap}{p:Addr×Obj}(hp:p∈zPS fp h):p.1∈fp/\h.get? p.1=some p.2:=by
 obtain⟨b,hb,e⟩:=List.mem_filterMap.mp hp
 cases q:h.get? b with
 |none=>rw [q]at e;cases e
 |some o=>
  rw [q]at e
  have e':(b,o)=p:=Option.some.inj e
  subst e'
  exact⟨hb,q⟩
theorem Inv.pinned{pins:List (Addr×Obj)}{σ:St}{H:Hp}{s:Shared}{fp:List Addr}(I:Inv X pins σ H s)(hf: ∀b∈fp,zOC X pins H b)(ho: ∀b∈fp, ∃o,s.heap.get? b=some o/\ ∀v,o.data≠.cell v):Inv X (pins++zPS fp s.heap) σ H s:=
 I.pins_of λp hp=>(mem_append.mp hp).elim (λz=>I.pin p (mem_append_right _ z)) λz=>by
  obtain⟨hb,e⟩:=yGS z
  obtain⟨f0,f1,f2,_⟩:=hf p.1 hb
  obtain⟨o,e',d⟩:=ho p.1 hb
  rw [e]at e';cases e'
  exact⟨e,f0,f1,f2,d⟩
theorem Inv.unpinned{pins pl:List (Addr×Obj)}{σ:St}{H:Hp}{s:Shared}(I:Inv X (pins++pl) σ H s):Inv X pins σ H s:=I.pins_of λp hp=>I.pin p (mem_append_right _ (mem_append_left _ hp))
theorem ySO{iter:Expr}{body:List Stmt}{wi:TI}{g:TG}{tb:TS}{pos:Pos}(hp:PassesOwn (model X.prog X.w) X.A X.env X.xe)(hc:X.calm=true)(hi:PI X tg iter wi)(hg:PG X tg g)(hb:PSs X body tb)
  (hs: ∀x,foldedSetIterable iter X.env x=pure x:=by intro _;rfl):PS X (.For tg iter body [] pos) (tFor wi g tb):=by
 intro pins s σ H D I h
 refine wpAny_For (thn (hi pins s σ H _ I h) λv s1 h1=>thn h1 λitv s2 h2=>?_) hs
 obtain⟨it,fp,tn,J,H2,e,I2,T,st2,f2,W,⟨m0,w0⟩,turn⟩:=h2
 subst e
 have stat: ∀{H':Hp},(∀b∈fp,H' b=none)-> ∀b∈fp,zOC X pins H' b:=λhn b hb=>⟨hn b hb,(f2 b hb).2⟩
 refine codeAny_forLoop_any (λn s'=> ∃i σ' H',Inv X pins σ' H' s'/\tn i s'.heap/\(∀b∈fp,H' b=none)/\W i n σ' H') ?_ m0 ⟨0,σ,H2,I2,st2,λb hb=>(f2 b hb).1,w0⟩
 rintro n s3 ⟨i,σ3,H3,I3,st3,fr3,w3⟩
 rcases turn i n σ3 H3 w3 with⟨stop,qn⟩|⟨go,N,hN,step⟩
 ·refine wpAny_passesOwn hp (thn (T.done X rfl rfl rfl hc i pins s3 σ3 H3 X.xe I3 (stat fr3) st3 stop) λr s4 ⟨hr,I4⟩=>?_)
  subst hr
  exact wpAny_execs_nil ⟨σ3,H3,I4,qn⟩
 ·refine wpAny_passesOwn hp (thn (T.item X rfl rfl rfl hc i pins s3 σ3 H3 X.xe I3 (stat fr3) st3 go) λr s4 ⟨u,hr,h4⟩=>?_)
  subst hr
  refine wpAny_passesOwn hp (thn h4 λ_ s5 ⟨x,H5,I5,r5,y5,st5,fr5⟩=>?_)
  have I5':=I5.pinned (stat fr5) (T.obj _ _ st5)
  refine wpAny_passesOwn hp (thn (hg _ s5 σ3 H5 x u _ I5' r5 (step x H5 y5)) λ_ s6 ⟨σ6,H6,I6,q6⟩=>?_)
  refine wpAny_passesOwn hp (thn (hb _ s6 σ6 H6 _ I6 q6) λf s7 q7=>?_)
  have again: ∀{σ7:St}{H7:Hp},Inv X (pins++zPS fp s5.heap) σ7 H7 s7->N σ7 H7-> ∃m,m<n/\ ∃i σ' H',Inv X pins σ' H' s7/\tn i s7.heap/\(∀b∈fp,H' b=none)/\W i m σ' H':=λ{σ7 H7} I7 n7=>by
   obtain⟨m',hm,w7⟩:=hN σ7 H7 n7
   refine⟨m',hm,i+1,σ7,H7,I7.unpinned,T.keep _ _ _ st5 λb hb o e=>(I7.pin (b,o) (mem_append_right _ (mem_append_right _ (zMS hb e)))).1,λb hb=>?_,w7⟩
   obtain⟨o,e,d⟩:=T.obj _ _ st5 b hb
   exact(I7.pin (b,o) (mem_append_right _ (mem_append_right _ (zMS hb e)))).2.1
  cases f with
  |next=>obtain⟨σ7,H7,I7,n7⟩:=q7;exact again I7 n7
  |cont=>obtain⟨σ7,H7,I7,n7⟩:=q7;exact again I7 n7
  |brk=>obtain⟨σ7,H7,I7,q7⟩:=q7;exact⟨σ7,H7,I7.unpinned,q7⟩
  |ret v=>obtain⟨x7,σ7,H7,I7,r7,q7⟩:=q7;exact⟨x7,σ7,H7,I7.unpinned,r7,q7⟩
end
abbrev R2:=V->V->Hp->VK->Prop
def OpR(X:Cx)(f:Value->Value->Sem Value)(r:R2):Prop:=
 ∀(pins:List (Addr×Obj))(s:Shared)(σ:St)(H:Hp)(x y:V)(v u:Value)(Q:VK),Inv X pins σ H s->RelV x v->RelV y u->r x y H Q->
  wpAny (model X.prog X.w) X.A (f v u) (EP X pins σ Q) X.xe s
def UnR(X:Cx)(f:Value->Sem Value)(r:V->Hp->VK->Prop):Prop:=
 ∀(pins:List (Addr×Obj))(s:Shared)(σ:St)(H:Hp)(x:V)(v:Value)(Q:VK),Inv X pins σ H s->RelV x v->r x H Q->
  wpAny (model X.prog X.w) X.A (f v) (EP X pins σ Q) X.xe s
def CallR(X:Cx)(f:Value)(r:List V->Hp->VK->Prop):Prop:=
 ∀(pins:List (Addr×Obj))(s:Shared)(σ:St)(H:Hp)(xs:List V)(us:List Value)(Q:VK),Inv X pins σ H s->Vals xs us->r xs H Q->
  wpAny (model X.prog X.w) X.A (call f us) (EP X pins σ Q) X.xe s
def TruR(X:Cx)(r:V->Hp->(Bool->Hp->Prop)->Prop):Prop:=
 ∀(pins:List (Addr×Obj))(s:Shared)(σ:St)(H:Hp)(x:V)(v:Value)(Q:Bool->Hp->Prop),Inv X pins σ H s->RelV x v->r x H Q->
  wpAny (model X.prog X.w) X.A (truthy v) (TP X pins σ Q) X.xe s
def tOp(r:R2)(ta tb:TE):TE:=λσ H Q=>ta σ H λx H1=>tb σ H1 λy H2=>r x y H2 Q
def tUn(r:V->Hp->VK->Prop)(ta:TE):TE:=λσ H Q=>ta σ H λx H1=>r x H1 Q
def rI(C:Int->Int->Prop)(g:Int->Int->V):R2:=λx y H Q=> ∃i j,x=.int i/\y=.int j/\C i j/\Q (g i j) H
def rI0(g:Int->Int->V):R2:=λx y H Q=> ∃i j,x=.int i/\y=.int j/\Q (g i j) H
def rU(g:Int->V):V->Hp->VK->Prop:=λx H Q=> ∃i,x=.int i/\Q (g i) H
section
variable{X:Cx}{a b c:Expr}{ta tb tc:TE}{pos:Pos}
theorem binT(ha:PE X a ta)(hb:PE X b tb){pins:List (Addr×Obj)}{s:Shared}{σ:St}{H:Hp}{R:V->V->Hp->Prop}(I:Inv X pins σ H s)
  (h:ta σ H λx H1=>tb σ H1 λy H2=>R x y H2) {Q:Value->Shared->Prop} {f:Value->Value->Sem Value}
  (hf: ∀v u s2 x y H2,Inv X pins σ H2 s2->RelV x v->RelV y u->R x y H2->wpAny (model X.prog X.w) X.A (f v u) Q X.xe s2):
  wpAny (model X.prog X.w) X.A (eval a X.env) (λv s₁=>wpAny (model X.prog X.w) X.A (eval b X.env) (λu s₂=>wpAny (model X.prog X.w) X.A (f v u) Q X.xe s₂) X.xe s₁) X.xe s:=by
 refine thn (ha pins s σ H _ I h) λv s1 ⟨x,H1,I1,r1,q1⟩=>?_
 refine thn (hb pins s1 σ H1 _ I1 q1) λu s2 ⟨y,H2,I2,r2,q2⟩=>?_
 exact hf v u s2 x y H2 I2 r1 r2 q2
theorem pe_op{op:Operator}{r:R2}(ho:OpR X (binaryOp op) r)(ha:PE X a ta)(hb:PE X b tb):PE X (.BinOp a op b pos) (tOp r ta tb):=by
 intro pins s σ H Q I h
 exact wpAny_BinOp (binT ha hb I h λv u s2 x y H2 I2 rx ry q=>ho pins s2 σ H2 x y v u Q I2 rx ry q)
theorem pe_un{op:UnaryOp}{r:V->Hp->VK->Prop}(ho:UnR X (unaryOp op) r)(ha:PE X a ta):PE X (.UnaryOp op a pos) (tUn r ta):=by
 intro pins s σ H Q I h
 exact UnaryOp_ (thn (ha pins s σ H _ I h) λv s1 ⟨x,H1,I1,r1,q1⟩=>ho pins s1 σ H1 x v Q I1 r1 q1)
theorem opI{f:Value->Value->Sem Value}{C:Int->Int->Prop}{g:Int->Int->Int}
  (rule: ∀(i j:Int)(t u:Tok)(s:Shared)(Q:Value->Shared->Prop)(E:Value->Shared->Prop),C i j->Q (.int (g i j) s.toks) {s with toks:=s.toks+1}->wpAny (model X.prog X.w) X.A (f (.int i t) (.int j u)) Q E s):
  OpR X f (rI C λi j=>.int (g i j)):=by
 intro pins s σ H x y v u Q I rx ry h
 obtain⟨i,j,rfl,rfl,hc,q⟩:=h
 obtain⟨t,rfl⟩:=rx
 obtain⟨t',rfl⟩:=ry
 exact rule i j t t' s _ _ hc ⟨.int (g i j),H,I.tok _,⟨_,rfl⟩,q⟩
theorem opI0{f:Value->Value->Sem Value}{g:Int->Int->Int}
  (rule: ∀(i j:Int)(t u:Tok)(s:Shared)(Q:Value->Shared->Prop)(E:Value->Shared->Prop),Q (.int (g i j) s.toks) {s with toks:=s.toks+1}->wpAny (model X.prog X.w) X.A (f (.int i t) (.int j u)) Q E s):
  OpR X f (rI0 λi j=>.int (g i j)):=by
 intro pins s σ H x y v u Q I rx ry h
 obtain⟨i,j,rfl,rfl,q⟩:=h
 obtain⟨t,rfl⟩:=rx
 obtain⟨t',rfl⟩:=ry
 exact rule i j t t' s _ _ ⟨.int (g i j),H,I.tok _,⟨_,rfl⟩,q⟩
theorem opB0{f:Value->Value->Sem Value}{g:Int->Int->Bool}
  (rule: ∀(i j:Int)(t u:Tok)(s:Shared)(Q:Value->Shared->Prop)(E:Value->Shared->Prop),Q (.bool (g i j)) s->wpAny (model X.prog X.w) X.A (f (.int i t) (.int j u)) Q E s):
  OpR X f (rI0 λi j=>.bl (g i j)):=by
 intro pins s σ H x y v u Q I rx ry h
 obtain⟨i,j,rfl,rfl,q⟩:=h
 obtain⟨t,rfl⟩:=rx
 obtain⟨t',rfl⟩:=ry
 exact rule i j t t' s _ _ ⟨.bl (g i j),H,I,rfl,q⟩
def CMul(i j:Int):Prop:=(-(2 ^ 64)<i/\i<2 ^ 64)\/(-(2 ^ 64)<j/\j<2 ^ 64)
theorem CMul.ok{i j:Int}(h:CMul i j):IntMulOk i j:=by
 rcases h with⟨h1,h2⟩|⟨h1,h2⟩
 ·exact .of_left (intBits_le_64 h1 h2)
 ·exact .of_right (intBits_le_64 h1 h2)
theorem ySP:OpR X (binaryOp .Add) (rI0 λi j=>.int (i+j)):=opI0 λ_ _ _ _ _ _ _ q=>add_int q
theorem ySQ:OpR X (binaryOp .Sub) (rI0 λi j=>.int (i - j)):=opI0 λ_ _ _ _ _ _ _ q=>sub_int q
theorem ySR:OpR X (binaryOp .Mod) (rI (λ_ j=>0<j) λi j=>.int (i % j)):=opI λi j _ _ _ _ _ hc q=>by
 have h1:(0:Int)<j:=hc
 exact mod_int' (by omega) (by rw [Int.fmod_eq_emod_of_nonneg i (by omega)];exact q)
theorem unI{f:Value->Sem Value}{g:Int->Int}
  (rule: ∀(i:Int)(t:Tok)(s:Shared)(Q:Value->Shared->Prop)(E:Value->Shared->Prop),Q (.int (g i) s.toks) {s with toks:=s.toks+1}->wpAny (model X.prog X.w) X.A (f (.int i t)) Q E s):
  UnR X f (rU λi=>.int (g i)):=by
 intro pins s σ H x v Q I rx h
 obtain⟨i,rfl,q⟩:=h
 obtain⟨t,rfl⟩:=rx
 exact rule i t s _ _ ⟨.int (g i),H,I.tok _,⟨_,rfl⟩,q⟩
theorem ySS:UnR X (unaryOp .USub) (rU λi=>.int (-i)):=unI λ_ _ _ _ _ q=>neg_int q
end
section
variable{X:Cx}{a b c:Expr}{ta tb tc:TE}{pos:Pos}
theorem yBT{pins:List (Addr×Obj)}{σ:St}{H:Hp}{s:Shared}{Q:VK}{k k':Bool}(I:Inv X pins σ H s)(q:Q (.bl k) H)(e:k=k'):EP X pins σ Q (.bool k') s:=by
 subst e
 exact⟨.bl k,H,I,rfl,q⟩
theorem zZJ:OpR X (compareOp .LtE) (rI0 λi j=>.bl (decide (i<=j))):=opB0 λ_ _ _ _ _ _ _ q=>le_int q
theorem op_gt:OpR X (compareOp .Gt) (rI0 λi j=>.bl (decide (j<i))):=opB0 λ_ _ _ _ _ _ _ q=>gt_int q
theorem yGT:OpR X (compareOp .In) (λx y H Q=> ∃i j,x=.str i/\y=.str j/\Q (.bl (!(Builtin.Str.occurrences j i 0 j.length 1).isEmpty)) H):=by
 intro pins s σ H x y v u Q I rx ry h
 obtain⟨i,j,rfl,rfl,q⟩:=h
 obtain⟨t,rfl⟩:=rx
 obtain⟨t',rfl⟩:=ry
 exact in_str (yBT I q rfl)
theorem yIQ:OpR X (compareOp .Is) (λx y H Q=>y=.non/\Q (.bl (decide (x=.non))) H):=by
 intro pins s σ H x y v u Q I rx ry h
 obtain⟨rfl,q⟩:=h
 cases ry
 refine is_none_gen (yBT I q ?_)
 cases x<;>first
  |(cases rx;rfl)
  |(obtain⟨t,rfl⟩:=rx;rfl)
theorem zWY:OpR X (compareOp .NotIn) (λx y H Q=> ∃i j,x=.str i/\y=.str j/\Q (.bl (!(!(Builtin.Str.occurrences j i 0 j.length 1).isEmpty))) H):=by
 intro pins s σ H x y v u Q I rx ry h
 obtain⟨i,j,rfl,rfl,q⟩:=h
 obtain⟨t,rfl⟩:=rx
 obtain⟨t',rfl⟩:=ry
 exact notIn_str (yBT I q rfl)
theorem OpR.or{f:Value->Value->Sem Value}{r r':R2}(h:OpR X f r)(h':OpR X f r'):OpR X f (λx y H Q=>r x y H Q\/r' x y H Q):=by
 intro pins s σ H x y v u Q I rx ry q
 rcases q with q|q
 ·exact h pins s σ H x y v u Q I rx ry q
 ·exact h' pins s σ H x y v u Q I rx ry q
theorem yIR(b:Expr){op:CmpOp}(h:op≠.In:=by decide)(h2:op≠.NotIn:=by decide):behindInMarks op b=false:=by
 have e1:(op==CmpOp.In)=false:=by cases op<;>first |rfl|exact absurd rfl h
 have e2:(op==CmpOp.NotIn)=false:=by cases op<;>first |rfl|exact absurd rfl h2
 cases b<;>simp [behindInMarks,e1,e2]
theorem yNM{op:CmpOp}{r:R2}(ho:OpR X (compareOp op) r)(ha:PE X a ta)(hb:PE X b tb)(hm:behindInMarks op b=false):PE X (.Compare a [op] [b] pos) (tOp r ta tb):=by
 intro pins s σ H Q I h
 exact wpAny_Compare1 (binT ha hb I h λv u s2 x y H2 I2 rx ry q=>ho pins s2 σ H2 x y v u Q I2 rx ry q) hm
def yRA(t:TE):TT:=λσ H Q=>t σ H λx H'=> ∃k,x=.bl k/\Q k H'
theorem yNN{op:CmpOp}{r:R2}(ho:OpR X (compareOp op) r)(ha:PE X a ta)(hb:PE X b tb)(hm:behindInMarks op b=false):PT X (.Compare a [op] [b] pos) (yRA (tOp r ta tb)):=by
 intro pins s σ H Q I h
 refine wpAny_isTrue_Compare1 (thn (ha pins s σ H _ I h) λv s1 ⟨x,H1,I1,r1,q1⟩=>thn (hb pins s1 σ H1 _ I1 q1) λu s2 ⟨y,H2,I2,r2,q2⟩=>
  thn (ho pins s2 σ H2 x y v u _ I2 r1 r2 q2) λc s3 ⟨z,H3,I3,r3,k,e,q3⟩=>?_) hm
 subst e
 cases r3
 exact wpAny_truthy_bool ⟨H3,I3,q3⟩
def yBU(r r':R2)(ta tb tc:TE):TE:=λσ H Q=>ta σ H λx H1=>tb σ H1 λy H2=>r x y H2 λz H3=> ∃k,z=.bl k/\
 (if k=true then tc σ H3 λw' H4=>r' y w' H4 Q else Q (.bl false) H3)
theorem yIS{op op':CmpOp}{r r':R2}(ho:OpR X (compareOp op) r)(ho':OpR X (compareOp op') r')(ha:PE X a ta)(hb:PE X b tb)(hc:PE X c tc)
  (hm:lastMarks [op,op'] [b,c]=false:=by with_unfolding_all rfl):PE X (.Compare a [op,op'] [b,c] pos) (yBU r r' ta tb tc):=by
 intro pins s σ H Q I h
 refine Compare_chain (thn (ha pins s σ H _ I h) λv s1 ⟨x,H1,I1,r1,q1⟩=>chain_link (thn (hb pins s1 σ H1 _ I1 q1) λu s2 ⟨y,H2,I2,r2,q2⟩=>
  thn (ho pins s2 σ H2 x y v u _ I2 r1 r2 q2) λd s3 ⟨z,H3,I3,r3,k,e,q3⟩=>?_)) hm
 subst e
 cases r3
 refine wpAny_truthy_bool ?_
 cases k with
 |false=>exact ite_ff ⟨.bl false,H3,I3,rfl,q3⟩
 |true=>exact ite_tt (chain_last (thn (hc pins s3 σ H3 _ I3 q3) λw' s4 ⟨z',H4,I4,r4,q4⟩=>ho' pins s4 σ H4 y z' u w' Q I4 r2 r4 q4))
theorem yIT{op op':CmpOp}{r r':R2}(ho:OpR X (compareOp op) r)(ho':OpR X (compareOp op') r')(ha:PE X a ta)(hb:PE X b tb)(hc:PE X c tc)
  (hm:lastMarks [op,op'] [b,c]=false:=by with_unfolding_all rfl):PT X (.Compare a [op,op'] [b,c] pos) (yRA (yBU r r' ta tb tc)):=by
 intro pins s σ H Q I h
 refine isTrue_chain (thn (ha pins s σ H _ I h) λv s1 ⟨x,H1,I1,r1,q1⟩=>test_link (thn (hb pins s1 σ H1 _ I1 q1) λu s2 ⟨y,H2,I2,r2,q2⟩=>
  thn (ho pins s2 σ H2 x y v u _ I2 r1 r2 q2) λd s3 ⟨z,H3,I3,r3,k,e,q3⟩=>?_)) hm
 subst e
 cases r3
 refine wpAny_truthy_bool ?_
 cases k with
 |false=>
  obtain⟨k',e',q'⟩:=q3
  cases e'
  exact ite_ff ⟨H3,I3,q'⟩
 |true=>
  refine ite_tt (test_last (thn (hc pins s3 σ H3 _ I3 q3) λw' s4 ⟨z',H4,I4,r4,q4⟩=>thn (ho' pins s4 σ H4 y z' u w' _ I4 r2 r4 q4) λd' s5 ⟨z2,H5,I5,r5,k2,e2,q5⟩=>?_))
  subst e2
  cases r5
  exact wpAny_truthy_bool ⟨H5,I5,q5⟩
def TruV(K:PySem.W.Frag)(x:V)(H:Hp)(k:Bool):Prop:=
 match x with
 |.non=>k=false
 |.bl b=>k=b
 |.int i=>k=(i !=0)
 |.str y=>y.length<=sizeLine/\k=((y.length:Int) !=0)
 |.byt y=>y.size<=sizeLine/\k=((y.size:Int) !=0)
 |.ref p=>(∃xs,SqL K H p xs/\k= !xs.isEmpty)\/(∃xs,SqT K H p xs/\k= !xs.isEmpty)\/ ∃kvs,H p=some (.dK kvs)/\k= !kvs.isEmpty
 |_=>False
theorem yBV{κ:Type}{kvs:List (κ×V)}{vs:List (κ×Value)}(r:KV kvs vs):(!vs.isEmpty)= !kvs.isEmpty:=by
 cases r<;>rfl
theorem zSJ{xs:List V}{its:List Value}(r:Vals xs its):(!its.toArray.isEmpty)= !xs.isEmpty:=by
 cases r<;>simp
theorem zMT:(sizeLine:Nat)<2 ^ 63:=by rw [sizeLine_eq];decide
theorem yST:TruR X (λx H Q=> ∃k,TruV X.K x H k/\Q k H):=by
 intro pins s σ H x v Q I rx h
 obtain⟨k,e,q⟩:=h
 have hl:=zMT
 have hs:sizeLine=16777216:=sizeLine_eq
 cases x with
 |non=>
  cases rx
  have e':k=false:=e
  subst e'
  exact truthy_none ⟨H,I,q⟩
 |bl b=>
  cases rx
  have e':k=b:=e
  subst e'
  exact wpAny_truthy_bool ⟨H,I,q⟩
 |int i=>
  obtain⟨t,rfl⟩:=rx
  have e':k=(i !=0):=e
  subst e'
  exact PySem.P.truthy_int ⟨H,I,q⟩
 |str y=>
  obtain⟨t,rfl⟩:=rx
  obtain⟨hy,e'⟩:y.length<=sizeLine/\k=((y.length:Int) !=0):=e
  subst e'
  exact PySem.P.truthy_str (by omega) ⟨H,I.tok _,q⟩
 |byt y=>
  obtain⟨t,rfl⟩:=rx
  obtain⟨hy,e'⟩:y.size<=sizeLine/\k=((y.size:Int) !=0):=e
  subst e'
  exact PySem.W.truthy_bytes (by omega) ⟨H,I.tok _,q⟩
 |ref p=>
  cases rx
  have e':(∃xs,SqL X.K H p xs/\k= !xs.isEmpty)\/(∃xs,SqT X.K H p xs/\k= !xs.isEmpty)\/ ∃kvs,H p=some (.dK kvs)/\k= !kvs.isEmpty:=e
  rcases e' with⟨xs,hx,e'⟩|⟨xs,hx,e'⟩|⟨kvs,hx,e'⟩
  ·subst e'
   obtain⟨its,r,pl,hz⟩:=I.list hx
   have hlen:=r.length
   exact wpAny_truthy_list pl.isList (by simp only [sA];omega) ⟨H,I.tok _,by rw [zSJ r];exact q⟩
  ·subst e'
   obtain⟨its,r,pl,hz⟩:=I.tuple hx
   have hlen:=r.length
   exact truthy_tuple pl (by simp only [sA];omega) ⟨H,I.tok _,by rw [zSJ r];exact q⟩
  ·subst e'
   obtain⟨hz,hS,vs,r,m⟩:kvs.length<=sizeLine/\(p==sysModules)=false/\ ∃vs,KV kvs vs/\s.heap.DictOf (zEQ X.prog X.w) p vs:=I.hok p _ hx
   have hlen:kvs.length=vs.length:=Paired.length r
   exact wpAny_truthy_dict hS m (by omega) ⟨H,I.tok _,by rw [yBV r];exact q⟩
 |_=>exact(show False from e).elim
theorem yIU(ha:PE X a ta)(he: ∀whole,isTrue a X.env whole=(do let v <-whole;standAt a.pos;holding [v] (truthy v))):
  PT X a (λσ H Q=>ta σ H λx H'=> ∃k,TruV X.K x H' k/\Q k H'):=by
 intro pins s σ H Q I h
 exact isTrue_plain (thn (ha pins s σ H _ I h) λv s1 ⟨x,H1,I1,r1,q1⟩=>yST pins s1 σ H1 x v Q I1 r1 q1) (he _)
theorem yBW:OpR X (binaryOp .Add) (λx y H Q=> ∃i j,x=.str i/\y=.str j/\i.length+j.length<=sizeLine/\Q (.str (i++j)) H):=by
 intro pins s σ H x y v u Q I rx ry h
 obtain⟨i,j,rfl,rfl,hz,q⟩:=h
 obtain⟨t,rfl⟩:=rx
 obtain⟨t',rfl⟩:=ry
 exact add_str (λt' tk=>⟨.str (i++j),H,I.tok _,⟨_,rfl⟩,q⟩) hz
theorem vals1{x:V}{us:List Value}(r:Vals [x] us): ∃u,us=[u]/\RelV x u:=by
 cases r with
 |cons r1 r2=>cases r2;exact⟨_,rfl,r1⟩
theorem vals2{x y:V}{us:List Value}(r:Vals [x,y] us): ∃u w',us=[u,w']/\RelV x u/\RelV y w':=by
 cases r with
 |cons r1 r2=>
  cases r2 with
  |cons r3 r4=>cases r4;exact⟨_,_,rfl,r1,r3⟩
theorem zZK:CallR X (.builtin "abs") (λxs H Q=> ∃i,xs=[.int i]/\Q (.int (if i<0 then -i else i)) H):=by
 intro pins s σ H xs us Q I r h
 obtain⟨i,rfl,q⟩:=h
 obtain⟨u,rfl,t,rfl⟩:=vals1 r
 exact call_abs_int λu tk=>⟨.int (if i<0 then -i else i),H,I.tok _,⟨_,rfl⟩,q⟩
end
structure Cls(K:PySem.W.Frag)(C:Addr):Prop where
 pg:PySem.W.plainGet K C Str.empty=true
 hd:PySem.W.hasDictIn K C=true
 po:PySem.W.plainOver K C=true
 sa:PySem.W.findIn K (.ref C) "__setattr__"=some (some (.builtin "object.__setattr__"))
section
variable{X:Cx}{pins:List (Addr×Obj)}{σ:St}{H:Hp}{s:Shared}{A:Around}{E:Value->Shared->Prop}{Q:Value->Shared->Prop}{c:Value}{b:Bool}
inductive zOT(K:PySem.W.Frag)(H:Hp):V->Value->Prop where
 |non:zOT K H .non (.type "NoneType")
 |bl (x:Bool):zOT K H (.bl x) (.type "bool")
 |int (i:Int):zOT K H (.int i) (.type "int")
 |str (x:Str):zOT K H (.str x) (.type "str")
 |flt (x:UInt64):zOT K H (.flt x) (.type "float")
 |lst {a:Addr} {xs:List V} (e:H a=some (.lst xs)):zOT K H (.ref a) (.type "list")
 |frz {a:Addr} {o:Obj} {xs:List V} (e:H a=some (.frz o (.lst xs))):zOT K H (.ref a) (.type "list")
 |tup {a:Addr} {xs:List V} (e:H a=some (.tup xs)):zOT K H (.ref a) (.type "tuple")
 |dK {a:Addr} {kvs:List (Key×V)} (e:H a=some (.dK kvs)):zOT K H (.ref a) (.type "dict")
 |dT {a:Addr} {kvs:List (List Key×V)} (e:H a=some (.dT kvs)):zOT K H (.ref a) (.type "dict")
 |ins {a C dx:Addr} {fs:List (Str×V)} (e:H a=some (.ins C dx fs)) (cl:Cls K C) (ha:PySem.W.findIn K (.ref C) "__class__"=some (some (.builtin "object.__class__")))
   (hn:PySem.W.specialIn K (.builtin "object.__class__") "__get__"=some (some (.builtin "getset_descriptor.__get__"))) (htk:PySem.W.takesIn K (.builtin "object.__class__")=some true)
   (hm:PySem.W.mroIn K C (.type "object")=some true):zOT K H (.ref a) (.ref C)
end
structure Room(k:Nat)(A:Around):Prop where
 hd:A.handled=none
 dp:A.depth+3 * k+5<recursionLimit
 un:A.units+16 * k+200<cLine
theorem Room.mono{j k:Nat}{A:Around}(r:Room k A)(h:j<=k):Room j A:=⟨r.hd,by have:=r.dp;omega,by have:=r.un;omega⟩
theorem Room.deeper{k:Nat}{A:Around}(r:Room (k+1) A)(env:Env):Room k (A.deeper env):=
 ⟨r.hd,by have:=r.dp;show A.depth+1+3 * k+5<_;omega,by have:=r.un;show A.units+3+16 * k+200<_;omega⟩
theorem yBX{A:Around}{C:Addr}{us:List Value}{kw:List (Str×Value)}:(A.under (.builtin "type.__call__" ⟨.ref C::us,kw⟩)).depth=A.depth+1:=by
 first |rfl|simp [Around.under,Code.weight,Code.isCreation,Code.isGuard,Code.isCaller,Code.frames,Code.isFrame,guardIds]
theorem yBY{A:Around}{C:Addr}{us:List Value}{kw:List (Str×Value)}:(A.under (.builtin "type.__call__" ⟨.ref C::us,kw⟩)).units=A.units+1:=by
 first |rfl|simp [Around.under,Code.cUnits,Code.frames,Code.isFrame]
theorem Room.make{k:Nat}{A:Around}(r:Room (k+1) A)(C:Addr)(us:List Value)(kw:List (Str×Value)):Room k (A.under (.builtin "type.__call__" ⟨.ref C::us,kw⟩)):=
 ⟨r.hd,by have:=r.dp;rw [yBX];omega,by have:=r.un;rw [yBY];omega⟩
theorem Room.depth{k:Nat}{A:Around}(r:Room k A):A.depth<recursionLimit:=by have:=r.dp;omega
theorem Room.units{k:Nat}{A:Around}(r:Room k A):A.units+64<cLine:=by have:=r.un;omega
def tNil:TA:=λ_ H Q=>Q [] H
def tCons(ta:TE)(tr:TA):TA:=λσ H Q=>ta σ H λx H1=>tr σ H1 λxs H2=>Q (x::xs) H2
section
variable{X:Cx}{e:Expr}{es:List Expr}{te:TE}{t:TA}{pos:Pos}
theorem zSK:PA X [] tNil:=λ_ _ _ _ H Q I h=>Calls.spliced_nil ⟨[],H,I,.nil,h⟩
theorem zES(ha:PE X e te)(hr:PA X es t)(hs:starEach (e::es) X.env=(false,eval e X.env)::starEach es X.env:=by rfl):PA X (e::es) (tCons te t):=by
 intro pos pins s σ H Q I h
 rw [hs]
 show wpAny _ _ (spliced ((false,eval e X.env)::backTo pos (starEach es X.env))) _ _ s
 refine Calls.spliced_cons (thn (ha pins s σ H _ I h) λu s1 ⟨x,H1,I1,r1,q1⟩=>?_)
 exact thn (hr pos pins s1 σ H1 _ I1 q1) λus s2 ⟨xs,H2,I2,r2,q2⟩=>⟨x::xs,H2,I2,.cons r1 r2,q2⟩
def tTup(t:TA):TE:=λσ H Q=>t σ H λxs H1=>xs.length<=sizeLine/\ ∀p,H1 p=none->Q (.ref p) (upd H1 p (.tup xs))
def tLst(t:TA):TE:=λσ H Q=>t σ H λxs H1=>xs.length<=sizeLine/\ ∀p,H1 p=none->Q (.ref p) (upd H1 p (.lst xs))
theorem ySU{x1}(h:PA X es t):PE X (.Tuple es x1 pos) (tTup t):=by
 intro pins s σ H Q I hq
 refine wpAny_Tuple_spliced (thn (h pos pins s σ H _ I hq) λus s1 ⟨xs,H1,I1,r,z,q⟩=>⟨by rw [<-r.length];exact z,?_⟩)
 have hf:H1 s1.heap.objs.size=none:=I1.hok.fresh (le_refl _)
 refine⟨.ref s1.heap.objs.size,upd H1 s1.heap.objs.size (.tup xs),I1.laid (t':=s1.toks) (λb u e=>hP0 _ e) (le_refl _) ?_,rfl,q _ hf⟩
 exact⟨z,us,r,⟨_,Heap.get?_push_size _ rfl,rfl,_,rfl⟩⟩
theorem ySV(h:PA X es t):PE X (.List es pos) (tLst t):=by
 intro pins s σ H Q I hq
 refine wpAny_List_spliced (thn (h pos pins s σ H _ I hq) λus s1 ⟨xs,H1,I1,r,z,q⟩=>⟨by rw [<-r.length];exact z,?_⟩)
 have hf:H1 s1.heap.objs.size=none:=I1.hok.fresh (le_refl _)
 refine⟨.ref s1.heap.objs.size,upd H1 s1.heap.objs.size (.lst xs),I1.laid (t':=s1.toks) (λb u e=>hP0 _ e) (le_refl _) ?_,rfl,q _ hf⟩
 exact⟨z,us,0,r,Heap.get?_push_size _ rfl⟩
end
abbrev Sp:=List V->Hp->VK->XK->Prop
abbrev CXT:=List Env->Hp->Shared->XK->Value->Shared->Prop
structure Env0(P:Program)(w:World)(K:PySem.W.Frag)(mg:Str->Option Value)(base:Heap)(A:Around)(outer:List Env)(s:Shared)(H:Hp):Prop where
 frames:A.frames=some outer
 mod:Mod K mg base
 bs: ∀b o,base.get? b=some o->s.heap.get? b=some o/\H b=none
 bsz:base.objs.size<=s.heap.objs.size
 funs:s.heap.FunFrames base outer
 frf: ∀b∈frs outer,H b=none
 hok:HOk P w H s.heap
 bare:AllBare s.gens
def CE(outer:List Env)(P:Program)(w:World)(H:Hp)(s:Shared)(Q:VK)(u:Value)(s':Shared):Prop:=
 ∃v H',s'.os=s.os/\AllBare s'.gens/\Un (frs outer) [] H H' s.heap s'.heap/\HOk P w H' s'.heap/\RelV v u/\Q v H'
def CR(CX:CXT)(outer:List Env)(P:Program)(w:World)(H:Hp)(s:Shared)(Q:VK)(E:XK)(r:Result)(s':Shared):Prop:=
 match r with
 |.ok (.ret u)=>CE outer P w H s Q u s'
 |.ok _=>False
 |.error e=>CX outer H s E e s'
structure FnOk(P:Program)(w:World)(K:PySem.W.Frag)(mg:Str->Option Value)(base:Heap)(CX:CXT)(k:Nat)(f:Addr)(fd:FuncData)(ps:List Str)(sp:Sp):Prop where
 len: ∀vs H Q E,sp vs H Q E->vs.length=ps.length
 run: ∀(A:Around)(outer:List Env)(s:Shared)(H:Hp)(args:Args)(us:List Value)(vs:List V)(Q:VK)(E:XK),Room k A->Env0 P w K mg base A outer s H->BindsTo s fd args (ps.zip us)->Vals vs us->sp vs H Q E->
  codeAny (model P w) A (.call (.ref f) args) (CR CX outer P w H s Q E) s
theorem FnOk.imp{P:Program}{w:World}{K:PySem.W.Frag}{mg:Str->Option Value}{base:Heap}{CX:CXT}{k:Nat}{f:Addr}{fd:FuncData}{ps:List Str}{sp sp':Sp}(F:FnOk P w K mg base CX k f fd ps sp)
  (h: ∀vs H Q E,sp' vs H Q E->sp vs H Q E):FnOk P w K mg base CX k f fd ps sp':=
 ⟨λvs H Q E q=>F.len vs H Q E (h _ _ _ _ q),λA outer s H args us vs Q E hr he hb hv hs=>F.run A outer s H args us vs Q E hr he hb hv (h _ _ _ _ hs)⟩
theorem Env0.make{P:Program}{w:World}{K:PySem.W.Frag}{mg:Str->Option Value}{base:Heap}{A:Around}{outer:List Env}{s:Shared}{H:Hp}(e:Env0 P w K mg base A outer s H)(C:Addr)(us:List Value)(kw:List (Str×Value)):
  Env0 P w K mg base (A.under (.builtin "type.__call__" ⟨.ref C::us,kw⟩)) outer s H:=⟨by first |exact e.frames|(simpa [Around.under,Code.envs,Code.isFrame,pushEnvs]using e.frames),e.mod,e.bs,e.bsz,e.funs,e.frf,e.hok,e.bare⟩
section
variable{X:Cx}{pins:List (Addr×Obj)}{σ:St}{H:Hp}{s s':Shared}
theorem Inv.env0(I:Inv X pins σ H s):Env0 X.prog X.w X.K X.mg X.base X.A X.stack s H:=
 ⟨I.ok.frames,I.ok.mod,I.bs,le_trans I.ok.bsz I.sz,I.stack,I.stkFree,I.hok,I.bare⟩
theorem Inv.after{Q:VK}{u:Value}(I:Inv X pins σ H s)(h:CE X.stack X.prog X.w H s Q u s'):EP X pins σ Q u s':=by
 obtain⟨v,H',os,bare,un,hok,r,q⟩:=h
 obtain⟨hh,g,d,t,os'⟩:=s'
 obtain rfl:os'=s.os:=os
 exact⟨v,H',I.call (h':=hh) (g':=g) (d':=d) (t':=t) (ch:=[]) un hok bare (λb z=>absurd z (by simp)),r,q⟩
end
def tCall(sp:Sp)(dvs:List V)(E:XK)(t:TA):TE:=λσ H Q=>t σ H λvs H1=>sp (vs++dvs) H1 Q E
def Binds(K:PySem.W.Frag)(fd:FuncData)(ps:List Str)(ds:List Value):Prop:=
 ∀(s:Shared)(us:List Value),K.In s.heap->(us++ds).length=ps.length->BindsTo s fd ⟨us,[]⟩ (ps.zip (us++ds))
theorem Binds.all{K:PySem.W.Frag}{fd:FuncData}{ps:List Str}(h: ∀us:List Value,us.length=ps.length->bindArgs fd ⟨us,[]⟩=pure (ps.zip us)):Binds K fd ps []:=λs us _ hl=>by
 rw [aN]at hl ⊢
 exact .of_eq (h us hl)
def zWZ(CX:CXT)(X:Cx)(E:XK):Prop:= ∀(pins:List (Addr×Obj))(σ:St)(H:Hp)(s:Shared)(e:Value)(s':Shared),Inv X pins σ H s->CX X.stack H s E e s'->X.xe e s'
section
variable{X:Cx}{CX:CXT}{k:Nat}{f C:Addr}{fd:FuncData}{ps:List Str}{sp:Sp}{dvs:List V}{ds:List Value}{E:XK}{x m:Str}{p pos apos:Pos}{e o:Expr}{es:List Expr}{ta:TE}{t:TA}
theorem ySW{pins:List (Addr×Obj)}{σ:St}{H:Hp}{s:Shared}{Q:VK}{us:List Value}{vs:List V}(F:FnOk X.prog X.w X.K X.mg X.base CX k f fd ps sp)(hr:Room k X.A)(hb:Binds X.K fd ps ds)(hd:Vals dvs ds)(hx:zWZ CX X E)
  (I:Inv X pins σ H s) (r:Vals vs us) (h:sp (vs++dvs) H Q E):wpAny (model X.prog X.w) X.A (call (.ref f) us) (EP X pins σ Q) X.xe s:=by
 have r2:Vals (vs++dvs) (us++ds):=r.append hd
 have hl:(us++ds).length=ps.length:=by rw [<-r2.length];exact F.len _ _ _ _ h
 refine wpAny_call (codeAny_mono (F.run X.A X.stack s H ⟨us,[]⟩ (us++ds) (vs++dvs) Q E hr I.env0 (hb s us I.kIn hl) r2 h) λr s' hq=>?_)
 cases r with
 |error e=>exact hx pins σ H s e s' I hq
 |ok fl=>
  cases fl with
  |ret u=>exact I.after hq
  |next=>exact False.elim hq
  |brk=>exact False.elim hq
  |cont=>exact False.elim hq
theorem yEH(F:FnOk X.prog X.w X.K X.mg X.base CX k f fd ps sp)(hr:Room k X.A)(hg:Gl X x)(hm:X.mg x=some (.ref f))(hk:PySem.W.keepIn X.K (.ref f)=true)(hb:Binds X.K fd ps ds)(hd:Vals dvs ds)(hx:zWZ CX X E)
  (ha:PA X (e::es) t) (hdb:(x==("__debug__":Str))=false:=by decide) (he:starEach (e::es) X.env=(false,eval e X.env)::starEach es X.env:=by rfl) (hpl:(backTo pos (starEach es X.env)).any (·.1)=false:=by rfl):
  PE X (.Call (.Name x p) (e::es) [] pos) (tCall sp dvs E t):=by
 intro pins s σ H Q I h
 refine wpAny_Call_Name_kw (zHX I hg hm ?_ hdb)
 refine PySem.W.callWith_K (h₀:=X.base) I.ok.mod.kin hk (thn (ha pos pins s σ H _ I h) λus s1 ⟨vs,H1,I1,r,q⟩=>⟨I1.kIn,?_⟩) he hpl
 exact ySW F hr hb hd hx I1 r q
end
structure FnScope(N P:List Str)(sc:Scope):Prop where
 kind:sc.kind=.function
 co:sc.isCoroutine=false
 gen:sc.isGenerator=false
 nd:N.Nodup
 pre:N.take P.length=P
 par: ∀x∈P,sc.names.lookup x=some .local\/sc.names.lookup x=some .cell
 nofree: ∀y∈sc.names,y.2≠.free
theorem fsK{N P:List Str}{sc:Scope}(h:N.Nodup/\N.take P.length=P/\(∀x∈P,sc.names.lookup x=some .local\/sc.names.lookup x=some .cell)/\∀y∈sc.names,y.2≠.free)(a:sc.kind=.function:=by rfl)(b:sc.isCoroutine=false:=by rfl)(c:sc.isGenerator=false:=by rfl):FnScope N P sc:=⟨a,b,c,h.1,h.2.1,h.2.2.1,h.2.2.2⟩
theorem zVV{kindOf:Str->Option NameKind}{x:Str}: ∀{binds:List (Str×Value)}{m:Str->Option Value},(∀v,(x,v)∉binds)->bindL kindOf binds m x=m x
 |[],_,_=>rfl
 |(n,v)::r,m,h=>by
  unfold bindL
  rw [zVV λw hw=>h w (mO _ hw)]
  split
  ·have:x≠n:=by rintro rfl;exact h v mF0
   simp [this]
  ·rfl
theorem zVW{kindOf:Str->Option NameKind}{x:Str}: ∀{binds:List (Str×Value)}{m:Str->Option Value},(∀v,(x,v)∉binds)->bindC kindOf binds m x=m x
 |[],_,_=>rfl
 |(n,v)::r,m,h=>by
  unfold bindC
  rw [zVW λw hw=>h w (mO _ hw)]
  split
  ·rfl
  ·have:x≠n:=by rintro rfl;exact h v mF0
   simp [this]
theorem zVX{kindOf:Str->Option NameKind}{x:Str}{v:Value}: ∀{P:List Str}{vs:List Value}{i:Nat}{m:Str->Option Value},P.Nodup->P[i]? =some x->vs[i]? =some v->kindOf x=some .local->
  bindL kindOf (P.zip vs) m x=some v
 |[],_,_,_,_,h,_,_=>by simp at h
 |_::_,[],_,_,_,_,h,_=>by simp at h
 |p::P,w::vs,0,m,nd,h1,h2,hk=>by
  simp at h1 h2;subst h1;subst h2
  show bindL kindOf ((p,w)::P.zip vs) m p=_
  unfold bindL
  rw [zVV λv hv=>(nodup_cons.mp nd).1 (of_mem_zip hv).1,iP hk]
  simp
 |p::P,w::vs,i+1,m,nd,h1,h2,hk=>by
  show bindL kindOf ((p,w)::P.zip vs) m x=_
  unfold bindL
  exact zVX (i:=i) (nodup_cons.mp nd).2 (by simpa using h1) (by simpa using h2) hk
theorem zVY{kindOf:Str->Option NameKind}{x:Str}{v:Value}: ∀{P:List Str}{vs:List Value}{i:Nat}{m:Str->Option Value},P.Nodup->P[i]? =some x->vs[i]? =some v->kindOf x≠some .local->
  bindC kindOf (P.zip vs) m x=some v
 |[],_,_,_,_,h,_,_=>by simp at h
 |_::_,[],_,_,_,_,h,_=>by simp at h
 |p::P,w::vs,0,m,nd,h1,h2,hk=>by
  simp at h1 h2;subst h1;subst h2
  show bindC kindOf ((p,w)::P.zip vs) m p=_
  unfold bindC
  rw [zVW λv hv=>(nodup_cons.mp nd).1 (of_mem_zip hv).1,iN0 hk]
  simp
 |p::P,w::vs,i+1,m,nd,h1,h2,hk=>by
  show bindC kindOf ((p,w)::P.zip vs) m x=_
  unfold bindC
  exact zVY (i:=i) (nodup_cons.mp nd).2 (by simpa using h1) (by simpa using h2) hk
def start(N:List Str)(vs:List V):St:=vs.map some++List.replicate (N.length - vs.length) none
def zSL(CX:CXT)(P:Program)(w:World)(K:PySem.W.Frag)(mg:Str->Option Value)(base:Heap)(N:List Str)(qual:Str)(scope:Scope)(f:Addr)(cd:Value)(A:Around)(outer:List Env)(s:Shared)(H:Hp)(E:XK):Cx where
 prog:=P
 w:=w
 K:=K
 mg:=mg
 base:=base
 A:=A.deeper (envOfC qual scope s.heap.objs.size f cd)
 N:=N
 s₀:=s
 H₀:=H
 env:=envOfC qual scope s.heap.objs.size f cd
 outer:=outer
 stack:=envOfC qual scope s.heap.objs.size f cd::outer
 ex:=[]
 calm:=true
 fn:=λ_=>true
 pn:=[]
 xe:=λe s'=>wpAny (model P w) (A.deeper (envOfC qual scope s.heap.objs.size f cd)) (leaving (envOfC qual scope s.heap.objs.size f cd) e) (λ_ s''=>CX outer H s E e s'') (λe' s''=>CX outer H s E e' s'') s'
theorem zZL{sc:Scope}{n:Nat}{x:Str}(h:sc.names.lookup x=some .cell): ∃c,(cellsFrom n sc.names []).lookup x=some c:=by
 have q:=PySem.W.cellsFrom_some sc.names n [] (.inl h)
 exact Option.isSome_iff_exists.mp q
theorem zVZ{CX:CXT}{P:Program}{w:World}{K:PySem.W.Frag}{mg:Str->Option Value}{base:Heap}{N ps:List Str}{qual:Str}{scope:Scope}{f:Addr}{cd:Value}{A:Around}{outer:List Env}{s s1:Shared}{H:Hp}{E:XK}{us:List Value}{vs:List V}
  (S:FnScope N ps scope) (hd:A.handled=none) (e0:Env0 P w K mg base A outer s H) (hl:vs.length=ps.length) (r:Vals vs us)
  (x:InCallC s s.heap.objs.size (bindL (envOfC qual scope s.heap.objs.size f cd).kindOf (ps.zip us) λ_=>none) (cellsFrom (s.heap.objs.size+1) scope.names []) (bindC (envOfC qual scope s.heap.objs.size f cd).kindOf (ps.zip us) λ_=>none) s1):
  Inv (zSL CX P w K mg base N qual scope f cd A outer s H E) [] (start N vs) H s1:=by
 have hpl:ps.length<=N.length:=by have:=congrArg List.length S.pre;rw [lT]at this;omega
 obtain⟨h1,tk,rfl,hk⟩:=x.done
 have noA: ∀b:Addr,b∉(zSL CX P w K mg base N qual scope f cd A outer s H E).ex:=λb z=>absurd (show b∈([]:List Addr)from z) (by simp)
 refine⟨⟨e0.mod,S.kind,rfl,rfl,le_refl _,λy z c h1 h2=>?_,λy hy=>?_,λy c _ h=>?_,λ_=>hd,Around.frames_deeper e0.frames,.inr ⟨rfl,rfl⟩,λb z=>absurd z (noA b),e0.bs,e0.bsz,λb _ _=>noA b,λb z=>absurd z (noA b),e0.funs,e0.frf⟩,
  rfl,e0.bare,Un.kept hk,⟨_,x.toInCall.ns,λi y v h1 h2 h3=>?_⟩,λy c h=>⟨_,x.cell y c h⟩,e0.hok.fresh (le_refl _),λy c h=>?_,λp hp=>absurd (show p∈([]:List (Addr×Obj))from hp) (by simp),e0.hok.kept hk,?_⟩
 ·exact name_of_addr x.apart (PySem.mem_of_lookup h1) (PySem.mem_of_lookup h2)
 ·have hy:scope.names.lookup y=some .cell\/scope.names.lookup y=some .free:=hy
  rcases hy with hy|hy
  ·exact zZL hy
  ·exact absurd rfl (S.nofree _ (PySem.mem_of_lookup hy))
 ·exact le_of_lt (x.above y c (PySem.mem_of_lookup h))
 ·have hi:i<vs.length:=by
   unfold start at h2
   by_cases hi:i<vs.length
   ·exact hi
   ·rw [getElem?_append_right (by simpa using hi)]at h2
    rw [List.getElem?_replicate]at h2
    split at h2<;>cases h2
  have ha:vs[i]? =some v:=by
   unfold start at h2
   rw [getElem?_append_left (by simpa using hi),getElem?_map]at h2
   cases e:vs[i]? with
   |none=>rw [e]at h2;cases h2
   |some a=>rw [e]at h2;cases h2;rfl
  obtain⟨u,hu,rv⟩:=r.get ha
  have hp:ps[i]? =some y:=by
   rw [<-S.pre,List.getElem?_take_of_lt (by omega)];exact h1
  have ndP:ps.Nodup:=by rw [<-S.pre];exact S.nd.sublist (List.take_sublist _ _)
  refine⟨u,rv,?_⟩
  rcases S.par y (mem_of_getElem? hp)with k|k
  ·exact .inl ⟨k,zVX ndP hp hu k⟩
  ·obtain⟨c,e⟩:=zZL (n:=s.heap.objs.size+1) k
   refine .inr ⟨.inl k,c,e,?_⟩
   have q:=x.cell y c e
   rw [zVY ndP hp hu (by show scope.names.lookup y≠_;rw [k];decide)]at q
   exact q
 ·exact e0.hok.fresh (le_of_lt (x.above y c (PySem.mem_of_lookup h)))
 ·unfold start
  show _=N.length
  rw [lA,lM0,length_replicate]
  omega
theorem yRB{CX:CXT}{P:Program}{w:World}{K:PySem.W.Frag}{mg:Str->Option Value}{base:Heap}{k:Nat}{f:Addr}{name qual:Str}{params:Arguments}{body:List Stmt}{scope:Scope}{dV kV doc pm cdv ct oc:Value}{an od:Option Addr}
  {osl:Array (Option Value)} {N ps:List Str} {sp:Sp} (lk:K.lookup f=some ⟨oc,od,.func (PySem.W.fnOf name qual params body scope dV kV doc pm an cdv ct),osl⟩) (hcd:PySem.W.codeIn K cdv qual=true) (S:FnScope N ps scope)
  (len: ∀vs H Q E,sp vs H Q E->vs.length=ps.length)
  (hbody: ∀(A:Around)(outer:List Env)(s:Shared)(H:Hp)(vs:List V)(Q:VK)(E:XK),Room k (A.deeper (envOfC qual scope s.heap.objs.size f cdv))->sp vs H Q E->
   ∃t,PSs (zSL CX P w K mg base N qual scope f cdv A outer s H E) body t/\t {nx:=λ_ H'=>Q .non H',rt:=Q} (start N vs) H):
  FnOk P w K mg base CX (k+1) f (PySem.W.fnOf name qual params body scope dV kV doc pm an cdv ct) ps sp:=by
 refine⟨len,λA outer s H args us vs Q E hr e0 hb r hsp=>?_⟩
 have hl:=len _ _ _ _ hsp
 have KX:K.In s.heap:=e0.mod.kin.keeps λb o e=>(e0.bs b o e).1
 have lim:s.heap.NoLimit:=e0.mod.nolimit.keeps λb o e=>(e0.bs b o e).1
 have hkind: ∀y∈ps.zip us,scope.names.lookup y.1=some .local\/(scope.names.lookup y.1=some .cell/\((cellsFrom (s.heap.objs.size+1) scope.names []).lookup y.1).isSome=true):=λ⟨n,v⟩ hy=>by
  rcases S.par n (of_mem_zip hy).1 with q|q
  ·exact .inl q
  ·exact .inr ⟨q,PySem.W.cellsFrom_some _ _ _ (.inl q)⟩
 refine codeAny_call_function hr.depth (KX _ _ lk) rfl S.co S.gen rfl (PySem.W.codeRec_of KX hcd) (hb _ _ _ _ ?_)
 refine wpAny_newFunctionEnv_cells S.kind hkind λenv he s1 x=>?_
 subst he
 refine⟨lim.keeps x.toInCall.keep,codeAny_func ?_⟩
 obtain⟨t,ht,hq⟩:=hbody A outer s H vs Q E (hr.deeper _) hsp
 have I:Inv (zSL CX P w K mg base N qual scope f cdv A outer s H E) [] (start N vs) H s1:=zVZ S hr.hd e0 hl r x
 refine wpAny_mono (ht [] s1 (start N vs) H _ I hq) (λfl s' hs=>?_) λe s' hs=>hs
 have fin: ∀{σ':St}{H':Hp}{v:V}{u:Value},Inv (zSL CX P w K mg base N qual scope f cdv A outer s H E) [] σ' H' s'->RelV v u->Q v H'->CE outer P w H s Q u s':=
  λ{σ' H' v u} J rv q=>⟨v,H',J.os,J.bare,J.base,J.hok,rv,q⟩
 cases fl with
 |ret u=>
  obtain⟨v,σ',H',J,rv,q⟩:=hs
  exact fin J rv q
 |next=>
  obtain⟨σ',H',J,q⟩:=hs
  exact fin (v:=V.non) (u:=Value.none) J rfl q
 |brk=>
  obtain⟨_,_,_,q⟩:=hs
  exact False.elim q
 |cont=>
  obtain⟨_,_,_,q⟩:=hs
  exact False.elim q
section
variable{X:Cx}{x:Str}{p pos:Pos}{e:Expr}{es:List Expr}{t:TA}{id T:String}{r:List V->Hp->VK->Prop}
def tCB(r:List V->Hp->VK->Prop)(t:TA):TE:=λσ H Q=>t σ H λvs H1=>r vs H1 Q
theorem zSM(hc:CallR X (.builtin id) r)(hg:Gl X x)(hm:X.mg x=none)(hv:bootBuiltins x=some (.builtin id))(ha:PA X (e::es) t)(hn:x≠"__name__":=by decide)(hdb:(x==("__debug__":Str))=false:=by decide)
  (he:starEach (e::es) X.env=(false,eval e X.env)::starEach es X.env:=by rfl) (hpl:(backTo pos (starEach es X.env)).any (·.1)=false:=by rfl):PE X (.Call (.Name x p) (e::es) [] pos) (tCB r t):=by
 intro pins s σ H Q I h
 refine wpAny_Call_Name_kw (zPR I hg hm hv ?_ hn hdb)
 exact PyProof.Rows.callWith_builtin1 (thn (ha pos pins s σ H _ I h) λus s1 ⟨vs,H1,I1,r1,q1⟩=>hc pins s1 σ H1 vs us Q I1 r1 q1) he hpl
theorem yGU(hc:CallR X (.type T) r)(hg:Gl X x)(hm:X.mg x=none)(hv:bootBuiltins x=some (.type T))(ha:PA X (e::es) t)(hn:x≠"__name__":=by decide)(hdb:(x==("__debug__":Str))=false:=by decide)
  (he:starEach (e::es) X.env=(false,eval e X.env)::starEach es X.env:=by rfl) (hpl:(backTo pos (starEach es X.env)).any (·.1)=false:=by rfl):PE X (.Call (.Name x p) (e::es) [] pos) (tCB r t):=by
 intro pins s σ H Q I h
 refine wpAny_Call_Name_kw (zPR I hg hm hv ?_ hn hdb)
 exact PyProof.Rows.callWith_type1 (thn (ha pos pins s σ H _ I h) λus s1 ⟨vs,H1,I1,r1,q1⟩=>hc pins s1 σ H1 vs us Q I1 r1 q1) he hpl
end
end L2
namespace HT
open PySem PyProof.Rows
section
variable{prog:Program}{w:World}{A:Around}{E:Value->Shared->Prop}{s:Shared}
theorem cat_tup{t b:Addr}{vs ws:List Value}{Q:Value->Shared->Prop}(ht:IsTup s.heap t vs.toArray)(hb:IsTup s.heap b ws.toArray)(hv:vs≠[])
  (h1:ws=[]->Q (.ref t) s) (h2:ws≠[]->Q (.ref s.heap.objs.size) {s with heap:=s.heap.push {cls:=.type "tuple",data:=.seq (vs++ws).toArray}})
  (hsz:vs.length+ws.length<=sizeLine):wpAny (model prog w) A (binaryOp .Add (.ref t) (.ref b)) Q E s:=by
 obtain⟨⟨cls,dd,data,sl⟩,ho,hc,n,hd⟩:=id ht
 obtain⟨⟨cls2,dd2,data2,sl2⟩,ho2,hc2,n2,hd2⟩:=id hb
 simp only at hc hd hc2 hd2
 subst hc hd hc2 hd2
 have e:vs.toArray++ws.toArray=(vs++ws).toArray:=by simp
 by_cases hw:ws=[]
 ·exact concat_meets ⟨_,ho,rfl⟩ ⟨_,ho2,rfl⟩ noFill_tuple_add seq_tuple_add PySem.F.slot_tuple_add PySem.F.entry_tuple_add (PySem.F.args_tuple_add_2 _ _)
   (tuple_addW1 t b vs.toArray ws.toArray n n2 dd dd2 sl sl2 (by simpa using hv) (by simp [hw])) ⟨ho,ho2,h1 hw⟩
 ·refine concat_meets ⟨_,ho,rfl⟩ ⟨_,ho2,rfl⟩ noFill_tuple_add seq_tuple_add PySem.F.slot_tuple_add PySem.F.entry_tuple_add (PySem.F.args_tuple_add_2 _ _)
   (tuple_addW2 t b vs.toArray ws.toArray n n2 dd dd2 sl sl2 (by simpa using hv) (by simpa using hw) (by rw [sA,sA];exact hsz)) ⟨ho,ho2,?_⟩
  rw [e]
  exact h2 hw
def sIx(n d:Nat):Option Int->Nat
 |none=>d
 |some v=>if v<0 then(v+(n:Int)).toNat else min v.toNat n
theorem sIx_none(n d:Nat):sIx n d none=d:=rfl
theorem sIx_nat(n d k:Nat):sIx n d (some (k:Int))=min k n:=by
 show(if(k:Int)<0 then((k:Int)+(n:Int)).toNat else min (k:Int).toNat n)=min k n
 rw [iN0 (by omega),toNat_natCast]
theorem sIx_le(n d:Nat)(hd:d<=n)(o:Option Int):sIx n d o<=n:=by
 cases o with
 |none=>exact hd
 |some v=>
  show(if v<0 then(v+(n:Int)).toNat else min v.toNat n)<=n
  by_cases hv:v<0
  ·rw [iP hv];omega
  ·rw [iN0 hv];exact Nat.min_le_right _ _
theorem yEI(v:Int)(n d:Nat):(if v<0 then max (v+(n:Int)) 0 else min v (n:Int))=((sIx n d (some v):Nat):Int):=by
 show(if v<0 then max (v+(n:Int)) 0 else min v (n:Int))=(((if v<0 then(v+(n:Int)).toNat else min v.toNat n):Nat):Int)
 by_cases hv:v<0
 ·simp only [iP hv];omega
 ·simp only [iN0 hv];omega
theorem yBZ(lo hi:Option Int)(n:Nat):Builtin.Slice.sliceAdjust lo hi 1 (n:Int)=(((sIx n 0 lo:Nat):Int),((sIx n n hi:Nat):Int)):=by
 have h1: ¬((1:Int)<0):=by omega
 unfold Builtin.Slice.sliceAdjust
 simp only [h1,iF]
 refine Prod.ext ?_ ?_
 ·cases lo with
  |none=>rfl
  |some v=>exact yEI v n 0
 ·cases hi with
  |none=>rfl
  |some v=>exact yEI v n n
theorem yCA(i j:Nat):Builtin.Slice.slicePlaces (i:Int) (j:Int) 1=j - i:=by
 unfold Builtin.Slice.slicePlaces
 have h1:(1:Int)>0:=by omega
 simp only [h1,if_true,Int.ediv_one]
 split<;>omega
theorem zSN{v:Value}{o:Option Int}{Q:Option Int->Shared->Prop}(p:IsPart v o)(h:Q o s):wpAny (model prog w) A (Builtin.Slice.slicePartIndex v) Q E s:=by
 cases p with
 |none=>exact slicePart_none h
 |int i t=>exact slicePart_int h
theorem sliceApplied_gen{sl:Addr}{vl vu:Value}{lo hi:Option Int}{n:Nat}{Q:Int×Int×Nat->Shared->Prop}(hs:s.heap.IsSliceOf sl vl vu .none)(pl:IsPart vl lo)(pu:IsPart vu hi)
  (h:Q (((sIx n 0 lo:Nat):Int),1,sIx n n hi - sIx n 0 lo) s):wpAny (model prog w) A (Builtin.Slice.sliceApplied (.ref sl) (pure (n:Int))) Q E s:=by
 obtain⟨os,hos,hcs,hds⟩:=id hs
 unfold Builtin.Slice.sliceApplied Builtin.Slice.sliceFields
 refine wB0 (wB0 (wpAny_field hos hds (x:=vl) rfl (wB0 (wpAny_field hos hds (x:=vu) rfl (wB0 (wpAny_field hos hds (x:=.none) rfl (wP0 ?_)))))))
 refine wB0 (slicePart_none ?_)
 show wpAny _ _ (if((1:Int)==0)=true then _ else _) _ _ s
 rw [iN0 (by decide)]
 refine wB0 (zSN pl (wB0 (zSN pu (wB0 (wP0 ?_)))))
 show wpAny _ _ (match Builtin.Slice.sliceAdjust lo hi 1 (n:Int)with |(lo,hi)=>pure (lo,(1:Int),Builtin.Slice.slicePlaces lo hi 1)) _ _ s
 rw [yBZ lo hi n]
 show wpAny _ _ (pure (((sIx n 0 lo:Nat):Int),(1:Int),Builtin.Slice.slicePlaces ((sIx n 0 lo:Nat):Int) ((sIx n n hi:Nat):Int) 1)) _ _ s
 rw [yCA]
 exact wP0 h
theorem yIV(xs:Array Value)(i k:Nat):((List.range k).filterMap λ(m:Nat)=>xs[((i:Int)+(m:Int) * 1).toNat]?).toArray=((xs.toList.drop i).take k).toArray:=by
 have e:(λ(m:Nat)=>xs[((i:Int)+(m:Int) * 1).toNat]?)=λm=>xs[i+m]? :=by
  funext m
  have:((i:Int)+(m:Int) * 1).toNat=i+m:=by omega
  rw [this]
 rw [e]
 have:=pick_run xs i k
 rw [List.filterMap_map]at this
 have e2:((λx=>xs[x]?)∘λx=>i+x)=λm=>xs[i+m]? :=rfl
 rw [e2]at this
 rw [this]
theorem getItem_tuple_cut{t sl:Addr}{items:Array Value}{vl vu:Value}{lo hi:Option Int}{Q:Value->Shared->Prop}(ht:IsTup s.heap t items)(hs:s.heap.IsSliceOf sl vl vu .none)(pl:IsPart vl lo)(pu:IsPart vu hi)
  (hw: ¬(sIx items.size 0 lo=0/\sIx items.size items.size hi=items.size))
  (h:Q (.ref s.heap.objs.size) {s with heap:=s.heap.push {cls:=.type "tuple",data:=.seq ((items.toList.drop (sIx items.size 0 lo)).take (sIx items.size items.size hi - sIx items.size 0 lo)).toArray}})
  (hsz:items.size<=sizeLine):wpAny (model prog w) A (getItem (.ref t) (.ref sl)) Q E s:=by
 have htake:sizeOk (.seq ((items.toList.drop (sIx items.size 0 lo)).take (sIx items.size items.size hi - sIx items.size 0 lo)).toArray):=by
  show((items.toList.drop (sIx items.size 0 lo)).take (sIx items.size items.size hi - sIx items.size 0 lo)).toArray.size<=sizeLine
  rw [sA,lT,length_drop,Array.length_toList]
  omega
 have hj:sIx items.size items.size hi<=items.size:=sIx_le _ _ (le_refl _) hi
 obtain⟨os,hos,hcs,hds⟩:=id hs
 have hTs:s.TypeIs (.ref sl) "slice":=⟨os,hos,hcs⟩
 unfold getItem
 try with_reducible refine wpAny_holding ?_
 first |refine wB0 (wP0 ?_)|skip
 refine wB0 (wpAny_sequenceKey ht.typeIs (by decide) ?_)
 refine wB0 (wpAny_callSpecial?_slot (name:=Str.ofString "__getitem__") ht.typeIs PyProof.Rows.slot_tuple_getitem
  (wpAny_call_entry PyProof.Rows.slot_tuple_getitem ht.typeIs entry_tuple_getitem ?_ (args_tuple_getitem _ _)))
 show wpAny _ _ (Builtin.Tuple.tupleItemsOf (.ref t) >>= _) _ _ s
 refine wB0 (tupleItemsOf_ ht ?_)
 refine wB0 (wpAny_typeOf hTs ?_)
 rw [iP (by decide)]
 refine wB0 (sliceApplied_gen hs pl pu ?_)
 have hno: ¬((((sIx items.size 0 lo:Nat):Int)==0&&(1:Int)==1&&(sIx items.size items.size hi - sIx items.size 0 lo)==items.size)=true):=by
  intro q
  rw [aE,aE]at q
  have q1:((sIx items.size 0 lo:Nat):Int)=0:=eq_of_beq q.1.1
  have q2:sIx items.size items.size hi - sIx items.size 0 lo=items.size:=eq_of_beq q.2
  exact hw ⟨by omega,by omega⟩
 show wpAny _ _ (if(((sIx items.size 0 lo:Nat):Int)==0&&(1:Int)==1&&(sIx items.size items.size hi - sIx items.size 0 lo)==items.size)=true then _ else _) _ _ s
 rw [iN0 hno,yIV]
 first
  |exact wB0 (m:=Builtin.Tuple.tupleExact _) (wpAny_newObj_type (wP0 ⟨_,rfl,wP0 h⟩) htake)
  |exact wB0 (m:=Builtin.Tuple.tupleExact _) (wpAny_newObj_type (wB0 (wP0 (wP0 ⟨_,rfl,wP0 h⟩))) htake)
  |exact wB0 (wB0 (m:=Builtin.Tuple.tupleExact _) (wpAny_newObj_type (wP0 (wP0 ⟨_,rfl,wP0 h⟩)) htake))
  |exact wB0 (wB0 (m:=Builtin.Tuple.tupleExact _) (wpAny_newObj_type (wP0 ⟨_,rfl,wP0 h⟩) htake))
end
end HT
namespace L2
open PySem PySem.Spec PyProof.Rows
abbrev TO:=St->Hp->(Option Int->Hp->Prop)->Prop
def PO(X:Cx)(e:Option Expr)(t:TO):Prop:=
 ∀(pins:List (Addr×Obj))(s:Shared)(σ:St)(H:Hp)(Q:Option Int->Hp->Prop),Inv X pins σ H s->t σ H Q->
  wpAny (model X.prog X.w) X.A (evalPart e X.env) (λu s'=> ∃o H',Inv X pins σ H' s'/\IsPart u o/\Q o H') X.xe s
def yNO:TO:=λ_ H Q=>Q none H
def tPart(t:TE):TO:=λσ H Q=>t σ H λx H1=> ∃i,x=.int i/\Q (some i) H1
section
variable{X:Cx}{e:Expr}{te:TE}{lo hi:Option Expr}{tl th:TO}{pos p2:Pos}
theorem yNP:PO X none yNO:=by
 intro pins s σ H Q I h
 rw [evalPart_none]
 exact wP0 ⟨none,H,I,.none,h⟩
theorem yNQ(h:PE X e te):PO X (some e) (tPart te):=by
 intro pins s σ H Q I hw
 rw [evalPart_some]
 refine thn (h pins s σ H _ I hw) λu s1 ⟨x,H1,I1,r1,q1⟩=>?_
 obtain⟨i,rfl,q⟩:=q1
 obtain⟨t,rfl⟩:=r1
 exact⟨some i,H1,I1,.int i t,q⟩
def SlR(X:Cx)(r:V->Option Int->Option Int->Hp->VK->Prop):Prop:=
 ∀(pins:List (Addr×Obj))(s:Shared)(σ:St)(H:Hp)(x:V)(v vl vu:Value)(lo hi:Option Int)(sl:Addr)(Q:VK),Inv X pins σ H s->RelV x v->s.heap.IsSliceOf sl vl vu .none->IsPart vl lo->IsPart vu hi->r x lo hi H Q->
  ∃T id,typeLookup (.type T) "__getitem__"=pure (some (.builtin id))/\s.TypeIs v T/\wpAny (model X.prog X.w) X.A (getItem v (.ref sl)) (EP X pins σ Q) X.xe s
theorem SlR.or{r r':V->Option Int->Option Int->Hp->VK->Prop}(h:SlR X r)(h':SlR X r'):SlR X (λx lo hi H Q=>r x lo hi H Q\/r' x lo hi H Q):=by
 intro pins s σ H x v vl vu lo hi sl Q I rx hs pl pu q
 rcases q with q|q
 ·exact h pins s σ H x v vl vu lo hi sl Q I rx hs pl pu q
 ·exact h' pins s σ H x v vl vu lo hi sl Q I rx hs pl pu q
def tSl(r:V->Option Int->Option Int->Hp->VK->Prop)(te:TE)(tl th:TO):TE:=λσ H Q=>te σ H λx H1=>tl σ H1 λl H2=>th σ H2 λu H3=>r x l u H3 Q
theorem yIW{r:V->Option Int->Option Int->Hp->VK->Prop}(hr:SlR X r)(he:PE X e te)(hl:PO X lo tl)(hu:PO X hi th):PE X (.Subscript e (.Slice lo hi none p2) pos) (tSl r te tl th):=by
 intro pins s σ H Q I h
 refine Subscript_ (thn (he pins s σ H _ I h) λv s1 ⟨x,H1,I1,r1,q1⟩=>?_)
 refine wpAny_Slice (thn (hl pins s1 σ H1 _ I1 q1) λvl s2 ⟨l,H2,I2,pl,q2⟩=>thn (hu pins s2 σ H2 _ I2 q2) λvu s3 ⟨u,H3,I3,pu,q3⟩=>?_)
 rw [evalPart_none]
 refine wP0 ?_
 have I4:Inv X pins σ H3 {s3 with heap:=s3.heap.push {cls:=.type "slice",data:=.fields #[vl,vu,.none]}}:=I3.kept (t':=s3.toks) λb ob q=>hP0 _ q
 obtain⟨T,id,hT,ht,hg⟩:=hr pins {s3 with heap:=s3.heap.push {cls:=.type "slice",data:=.fields #[vl,vu,.none]}} σ H3 x v vl vu l u s3.heap.objs.size Q I4 r1 (Heap.IsSliceOf.new ..) pl pu q3
 show wpAny (model X.prog X.w) X.A (subscriptTail e (.Slice lo hi none p2) v (.ref s3.heap.objs.size)) (EP X pins σ Q) X.xe {s3 with heap:=s3.heap.push {cls:=.type "slice",data:=.fields #[vl,vu,.none]}}
 exact tail_any (ops:=[.ref s3.heap.objs.size,v]) ht hT hg (by with_unfolding_all rfl)
def zZM(xs:List V)(lo hi:Option Int):List V:=(xs.drop (HT.sIx xs.length 0 lo)).take (HT.sIx xs.length xs.length hi - HT.sIx xs.length 0 lo)
theorem zQW(xs:List V)(lo hi:Option Int):(zZM xs lo hi).length<=xs.length:=by
 unfold zZM
 rw [lT,length_drop]
 omega
def rSlT(K:PySem.W.Frag):V->Option Int->Option Int->Hp->VK->Prop:=λx lo hi H Q=> ∃a xs,x=.ref a/\SqT K H a xs/\
 ¬(HT.sIx xs.length 0 lo=0/\HT.sIx xs.length xs.length hi=xs.length)/\ ∀p,H p=none->Q (.ref p) (upd H p (.tup (zZM xs lo hi)))
theorem ySX:SlR X (rSlT X.K):=by
 intro pins s σ H x v vl vu lo hi sl Q I rx hs pl pu h
 obtain⟨a,xs,rfl,hx,hw,q⟩:=h
 cases rx
 obtain⟨its,r,ht,hz⟩:=I.tuple hx
 have hlen:its.toArray.size=xs.length:=by rw [sA];exact r.length.symm
 refine⟨"tuple",_,PyProof.Rows.slot_tuple_getitem.lookup,ht.typeIs,?_⟩
 refine HT.getItem_tuple_cut ht hs pl pu (by rw [hlen];exact hw) ?_ (by rw [hlen];exact hz)
 rw [hlen]
 refine⟨.ref s.heap.objs.size,_,I.laid (t':=s.toks) (o:=.tup (zZM xs lo hi)) (λb ob q=>hP0 _ q) (le_refl _) ?_,rfl,q _ (I.hok.fresh (le_refl _))⟩
 exact⟨le_trans (zQW xs lo hi) hz,_,(r.drop (HT.sIx xs.length 0 lo)).take (HT.sIx xs.length xs.length hi - HT.sIx xs.length 0 lo),IsTup.new _ _⟩
def rCatT(K:PySem.W.Frag):R2:=λx y H Q=> ∃a b xs ys,x=.ref a/\y=.ref b/\SqT K H a xs/\SqT K H b ys/\xs≠[]/\xs.length+ys.length<=sizeLine/\
 (ys=[]->Q (.ref a) H)/\(ys≠[]-> ∀p,H p=none->Q (.ref p) (upd H p (.tup (xs++ys))))
theorem Vals.nil_iff{xs:List V}{us:List Value}(r:Vals xs us):us=[]↔xs=[]:=by
 cases r with
 |nil=>simp
 |cons _ _=>simp
theorem yNR:OpR X (binaryOp .Add) (rCatT X.K):=by
 intro pins s σ H x y v u Q I rx ry h
 obtain⟨a,b,xs,ys,rfl,rfl,ha,hb,hx,hz,q1,q2⟩:=h
 cases rx
 cases ry
 obtain⟨its,r1,p1,_⟩:=I.tuple ha
 obtain⟨its2,r2,p2,_⟩:=I.tuple hb
 refine HT.cat_tup p1 p2 (λz=>hx (r1.nil_iff.mp z)) (λz=>⟨.ref a,H,I,rfl,q1 (r2.nil_iff.mp z)⟩) (λz=>?_) (by rw [<-r1.length, <-r2.length];exact hz)
 refine⟨.ref s.heap.objs.size,_,I.laid (t':=s.toks) (o:=.tup (xs++ys)) (λb ob q=>hP0 _ q) (le_refl _) ?_,rfl,q2 (λw=>z (r2.nil_iff.mpr w)) _ (I.hok.fresh (le_refl _))⟩
 exact⟨by rw [lA];exact hz,_,r1.append r2,IsTup.new _ _⟩
end
def ixN(n:Nat)(i:Int):Option Nat:=if 0<=i then(if i<n then some i.toNat else none)else if -(n:Int)<=i then some (i+n).toNat else none
def atI{α:Type}(xs:List α)(i:Int):Option α:=(ixN xs.length i).bind λj=>xs[j]?
theorem yEJ{n:Nat}{i:Int}{j:Nat}(h:ixN n i=some j):seqIndex? i n=some j/\j<n/\ -(n:Int)<=i/\i<n:=by
 unfold ixN at h
 by_cases h0:0<=i
 ·rw [iP h0]at h
  by_cases h1:i<n
  ·rw [iP h1]at h
   have e:i.toNat=j:=Option.some.inj h
   exact⟨by rw [seqIndex_of h0 h1,e],by omega,by omega,h1⟩
  ·rw [iN0 h1]at h;cases h
 ·rw [iN0 h0]at h
  by_cases h1: -(n:Int)<=i
  ·rw [iP h1]at h
   have e:(i+n).toNat=j:=Option.some.inj h
   exact⟨by rw [seqIndex_neg (by omega) h1,e],by omega,h1,by omega⟩
  ·rw [iN0 h1]at h;cases h
theorem zXA{α:Type}{xs:List α}{i:Int}{v:α}(h:atI xs i=some v): ∃j,seqIndex? i xs.length=some j/\xs[j]? =some v/\j<xs.length/\ -(xs.length:Int)<=i/\i<xs.length:=by
 unfold atI at h
 cases e:ixN xs.length i with
 |none=>rw [e]at h;cases h
 |some j=>
  rw [e]at h
  obtain⟨h1,h2,h3,h4⟩:=yEJ e
  exact⟨j,h1,h,h2,h3,h4⟩
def zXB(b:Expr):Prop:= ∀o i,subscripted b false o i=operate [o,i] (getItem o i)
def IxR(X:Cx)(r:R2):Prop:=
 ∀(value slice:Expr)(pins:List (Addr×Obj))(s:Shared)(σ:St)(H:Hp)(x y:V)(v u:Value)(Q:VK),Inv X pins σ H s->RelV x v->RelV y u->r x y H Q->
  subscripted slice false v u=operate [v,u] (getItem v u)->wpAny (model X.prog X.w) X.A (subscriptTail value slice v u) (EP X pins σ Q) X.xe s
def MtR(X:Cx)(id:String)(r:V->List V->Hp->VK->Prop):Prop:=
 ∀(pins:List (Addr×Obj))(s:Shared)(σ:St)(H:Hp)(x:V)(xs:List V)(v:Value)(us:List Value)(Q:VK),Inv X pins σ H s->RelV x v->Vals xs us->r x xs H Q->
  wpAny (model X.prog X.w) X.A (call (.builtin id) (v::us)) (EP X pins σ Q) X.xe s
section
variable{X:Cx}{a b:Expr}{ta tb:TE}{pos:Pos}
theorem IxR.or{r r':R2}(h:IxR X r)(h':IxR X r'):IxR X (λx y H Q=>r x y H Q\/r' x y H Q):=by
 intro value slice pins s σ H x y v u Q I rx ry q hs
 rcases q with q|q
 ·exact h value slice pins s σ H x y v u Q I rx ry q hs
 ·exact h' value slice pins s σ H x y v u Q I rx ry q hs
theorem pe_ix{r:R2}(hr:IxR X r)(ha:PE X a ta)(hb:PE X b tb)(hs:zXB b):PE X (.Subscript a b pos) (tOp r ta tb):=by
 intro pins s σ H Q I h
 exact Subscript_ (binT ha hb I h λv u s2 x y H2 I2 rx ry q=>hr a b pins s2 σ H2 x y v u Q I2 rx ry q (hs _ _))
def rIxL(K:PySem.W.Frag):R2:=λx y H Q=> ∃p xs i v,x=.ref p/\y=.int i/\SqL K H p xs/\atI xs i=some v/\Q v H
def rIxT(K:PySem.W.Frag):R2:=λx y H Q=> ∃p xs i v,x=.ref p/\y=.int i/\SqT K H p xs/\atI xs i=some v/\Q v H
def rIxS:R2:=λx y H Q=> ∃z i c,x=.str z/\y=.int i/\z.length<=sizeLine/\atI z.cps.toList i=some c/\Q (.str ⟨#[c]⟩) H
theorem yNS:IxR X (rIxL X.K):=by
 intro value slice pins s σ H x y v u Q I rx ry h hs
 obtain⟨p,xs,i,z,rfl,rfl,hq,he,q⟩:=h
 cases rx
 obtain⟨t,rfl⟩:=ry
 obtain⟨its,r,pl,hz⟩:=I.list hq
 obtain⟨j,h1,h2,h3,h4,h5⟩:=zXA he
 obtain⟨w,ew,rw'⟩:=r.get h2
 have hl:=r.length
 have hn:=zMT
 have fin:EP X pins σ Q w s:=⟨z,H,I,rw',q⟩
 by_cases h0:0<=i
 ·have hj:i.toNat=j:=by
   rw [seqIndex_of h0 h5]at h1
   exact Option.some.inj h1
  exact item_listR pl.isList h0 (by omega) (by rw [hj];simpa using ew) fin hs
 ·have hj:(i+(its.toArray.size:Int)).toNat=j:=by
   rw [seqIndex_neg (by omega) h4]at h1
   rw [sA, <-hl]
   exact Option.some.inj h1
  exact subscriptTail_builtinR (x:=w) pl.isList.typeIs slot_list_getitem.lookup
   (wpAny_getItem_list_neg (Q:=λr s'=>r=w/\EP X pins σ Q r s') pl.isList (by omega) (by rw [sA]<;>omega) (by omega) (by rw [hj];simpa using ew) ⟨rfl,fin⟩) hs
theorem ix_tup:IxR X (rIxT X.K):=by
 intro value slice pins s σ H x y v u Q I rx ry h hs
 obtain⟨p,xs,i,z,rfl,rfl,hq,he,q⟩:=h
 cases rx
 obtain⟨t,rfl⟩:=ry
 obtain⟨its,r,pl,hz⟩:=I.tuple hq
 obtain⟨j,h1,h2,h3,h4,h5⟩:=zXA he
 obtain⟨w,ew,rw'⟩:=r.get h2
 have hl:=r.length
 have hn:=zMT
 have fin:EP X pins σ Q w s:=⟨z,H,I,rw',q⟩
 exact subscriptTail_builtinR (x:=w) pl.typeIs slot_tuple_getitem.lookup
  (getItem_tuple (j:=j) (Q:=λr s'=>r=w/\EP X pins σ Q r s') pl (by omega) (by omega) (by rw [sA, <-hl];exact h1) (by simpa using ew) ⟨rfl,fin⟩) hs
theorem ix_str:IxR X rIxS:=by
 intro value slice pins s σ H x y v u Q I rx ry h hs
 obtain⟨z,i,c,rfl,rfl,hz,he,q⟩:=h
 obtain⟨t,rfl⟩:=rx
 obtain⟨t',rfl⟩:=ry
 obtain⟨j,h1,h2,h3,h4,h5⟩:=zXA he
 have hl:z.cps.toList.length=z.length:=by simp [Str.length]
 rw [hl]at h1 h4 h5
 have hn:=zMT
 exact tail_any (typeIs_str s z t) slot_str_getitem.lookup (getItem_str (c:=c) (by
  have e1:decide (i< -(2 ^ 63:Int))=false:=dF0 (by omega)
  have e2:decide (i>=2 ^ 63)=false:=dF0 (by omega)
  rw [e1,e2,Bool.or_false]) (by rw [h1];simpa using h2) ⟨.str ⟨#[c]⟩,H,I.tok _,⟨_,rfl⟩,q⟩) hs
def rIx(K:PySem.W.Frag):R2:=λx y H Q=>rIxL K x y H Q\/rIxT K x y H Q\/rIxS x y H Q
theorem ySY:IxR X (rIx X.K):=yNS.or (ix_tup.or ix_str)
theorem yCB(its:List Value)(n j:Nat)(u:Value):Obj.mapSeq (·.setIfInBounds j u) {cls:=.type "list",data:=.seq its.toArray n}={cls:=.type "list",data:=.seq (its.set j u).toArray n}:=by
 simp [Obj.mapSeq]
theorem Inv.lst{pins:List (Addr×Obj)}{σ:St}{H:Hp}{s:Shared}{p:Addr}{xs:List V}(I:Inv X pins σ H s)(h:H p=some (.lst xs)):
  ∃(its:List Value)(n:Nat),Vals xs its/\s.heap.get? p=some {cls:=.type "list",data:=.seq its.toArray n}/\xs.length<=sizeLine:=by
 obtain⟨z,its,n,r,e⟩:=I.hok p _ h
 exact⟨its,n,r,e,z⟩
theorem Inv.lstUpd{pins:List (Addr×Obj)}{σ:St}{H:Hp}{s:Shared}{p:Addr}{xs ys:List V}{its its':List Value}{n n':Nat}{f:Obj->Obj}(I:Inv X pins σ H s)(h:H p=some (.lst xs))
  (ho:s.heap.get? p=some {cls:=.type "list",data:=.seq its.toArray n}) (hf:f {cls:=.type "list",data:=.seq its.toArray n}={cls:=.type "list",data:=.seq its'.toArray n'}) (r:Vals ys its') (hz:ys.length<=sizeLine) (t:Nat):
  Inv X pins σ (upd H p (.lst ys)) {s with heap:=s.heap.update p f,toks:=t}:=by
 have e:(s.heap.update p f).get? p=some {cls:=.type "list",data:=.seq its'.toArray n'}:=by
  rw [Heap.get?_update_self f ho (by rw [hf]<;>rfl),hf]
 refine I.write (x:=p) (e:=p) (by rw [h];trivial) (.inl rfl) (λb u hb q=>(Heap.get?_update_other _ _ (Ne.symm hb)).trans q) ⟨_,e⟩ ?_
 exact⟨hz,its',n',r,e⟩
def rSetL:V->V->V->Hp->(Hp->Prop)->Prop:=λo i v H Q=> ∃p xs k j,o=.ref p/\i=.int k/\H p=some (.lst xs)/\ixN xs.length k=some j/\Q (upd H p (.lst (xs.set j v)))
theorem set_list:PSet X rSetL:=by
 intro pins s σ H o i v ov iv u Q I ro ri rv h
 obtain⟨p,xs,k,j,rfl,rfl,hp,hj,q⟩:=h
 cases ro
 obtain⟨t,rfl⟩:=ri
 obtain⟨its,n,r,ho,hz⟩:=I.lst hp
 obtain⟨h1,h2,h3,h4⟩:=yEJ hj
 have hl:=r.length
 have hn:=zMT
 have I':Inv X pins σ (upd H p (.lst (xs.set j v))) {s with heap:=s.heap.update p (Obj.mapSeq (·.setIfInBounds j u))}:=
  I.lstUpd hp ho (yCB its n j u) (r.set rv j) (by rw [length_set];exact hz) s.toks
 by_cases h0:0<=k
 ·have hk:k.toNat=j:=by
   rw [seqIndex_of h0 h4]at h1
   exact Option.some.inj h1
  exact PySem.W.ki_setAt ho h0 (by omega) (by rw [sA, <-hl];exact h4) (by rw [hk];exact⟨_,I',q⟩)
 ·have hk:(k+(its.toArray.size:Int)).toNat=j:=by
   rw [seqIndex_neg (by omega) h3]at h1
   rw [sA, <-hl]
   exact Option.some.inj h1
  exact PySem.W.ki_setBack ho (by omega) (by rw [sA, <-hl];exact h3) (by omega) (by rw [hk];exact⟨_,I',q⟩)
theorem zXC(lo hi:Option Int)(n:Nat):(sliceBounds lo hi none n).1=((HT.sIx n 0 lo:Nat):Int)/\(sliceBounds lo hi none n).2.1=((HT.sIx n n hi:Nat):Int)/\(sliceBounds lo hi none n).2.2=1:=by
 refine⟨?_,?_,rfl⟩
 ·cases lo with
  |none=>simp [sliceBounds,HT.sIx]
  |some i=>
   simp only [sliceBounds,HT.sIx,Option.getD_none,show(1:Int)>0 by decide,if_true]
   by_cases h:i<0
   ·simp only [h,if_true]<;>omega
   ·simp only [h,iF]<;>omega
 ·cases hi with
  |none=>simp [sliceBounds,HT.sIx]
  |some i=>
   simp only [sliceBounds,HT.sIx,Option.getD_none,show(1:Int)>0 by decide,if_true]
   by_cases h:i<0
   ·simp only [h,if_true]<;>omega
   ·simp only [h,iF]<;>omega
theorem zUZ(its:List Value)(lo hi:Option Int):slicePick its.toArray lo hi none=((its.drop (HT.sIx its.length 0 lo)).take (HT.sIx its.length its.length hi - HT.sIx its.length 0 lo)).toArray:=by
 obtain⟨h1,h2,h3⟩:=zXC lo hi its.toArray.size
 unfold slicePick
 rw [h1,h2,h3]
 simp only [sliceRange_one,pick_run,sA]<;>rfl
def rSlL(K:PySem.W.Frag):V->Option Int->Option Int->Hp->VK->Prop:=λx lo hi H Q=> ∃a xs,x=.ref a/\SqL K H a xs/\ ∀p,H p=none->Q (.ref p) (upd H p (.lst (zZM xs lo hi)))
theorem yNT:SlR X (rSlL X.K):=by
 intro pins s σ H x v vl vu lo hi sl Q I rx hs pl pu h
 obtain⟨a,xs,rfl,hx,q⟩:=h
 cases rx
 obtain⟨its,r,ht,hz⟩:=I.list hx
 have hlen:=r.length
 refine⟨"list",_,slot_list_getitem.lookup,ht.isList.typeIs,?_⟩
 refine wpAny_getItem_list_slice ht.isList hs pl pu .none (by simp) ?_ (by rw [sA]<;>omega)
 rw [zUZ, <-hlen]
 refine⟨.ref s.heap.objs.size,_,I.laid (t':=s.toks) (o:=.lst (zZM xs lo hi)) (λb ob q=>hP0 _ q) (le_refl _) ?_,rfl,q _ (I.hok.fresh (le_refl _))⟩
 exact⟨le_trans (zQW xs lo hi) hz,_,0,(r.drop (HT.sIx xs.length 0 lo)).take (HT.sIx xs.length xs.length hi - HT.sIx xs.length 0 lo),Heap.get?_push_size _ rfl⟩
def gA:V->Bool
 |.non=>true
 |.bl _=>true
 |.int _=>true
 |.str _=>true
 |_=>false
def eqV:V->V->Bool
 |.non,.non=>true
 |.bl a,.bl b=>a==b
 |.bl a,.int b=>(if a then 1 else 0)==b
 |.int a,.bl b=>a==(if b then 1 else 0)
 |.int a,.int b=>a==b
 |.str a,.str b=>a==b
 |_,_=>false
theorem ySZ{A:Around}{s:Shared}{y x:V}{u v:Value}(ry:RelV y u)(rx:RelV x v)(fy:gA y=true)(fx:gA x=true):SeqAt.EqAt A s u v (eqV y x):=by
 cases y with
 |non=>
  cases ry
  cases x with
  |non=>cases rx;exact SeqAt.EqAt.same _
  |bl b=>cases rx;exact SeqAt.EqAt.none_bool b
  |int b=>obtain⟨t,rfl⟩:=rx;exact SeqAt.EqAt.none_int b t
  |str b=>obtain⟨t,rfl⟩:=rx;exact SeqAt.EqAt.none_str b t
  |_=>exact absurd (show false=true from fx) xF0
 |bl a=>
  cases ry
  cases x with
  |non=>cases rx;exact SeqAt.EqAt.bool_none a
  |bl b=>cases rx;exact SeqAt.EqAt.bool_bool a b
  |int b=>obtain⟨t,rfl⟩:=rx;exact SeqAt.EqAt.bool_int a b t
  |str b=>obtain⟨t,rfl⟩:=rx;exact SeqAt.EqAt.bool_str a b t
  |_=>exact absurd (show false=true from fx) xF0
 |int a=>
  obtain⟨t',rfl⟩:=ry
  cases x with
  |non=>cases rx;exact SeqAt.EqAt.int_none a t'
  |bl b=>cases rx;exact SeqAt.EqAt.int_bool a t' b
  |int b=>obtain⟨t,rfl⟩:=rx;exact SeqAt.EqAt.int_int a t' b t
  |str b=>obtain⟨t,rfl⟩:=rx;exact SeqAt.EqAt.int_str a t' b t
  |_=>exact absurd (show false=true from fx) xF0
 |str a=>
  obtain⟨t',rfl⟩:=ry
  cases x with
  |non=>cases rx;exact SeqAt.EqAt.str_none a t'
  |bl b=>cases rx;exact SeqAt.EqAt.str_bool a t' b
  |int b=>obtain⟨t,rfl⟩:=rx;exact SeqAt.EqAt.str_int a t' b t
  |str b=>obtain⟨t,rfl⟩:=rx;exact SeqAt.EqAt.str_str a t' b t
  |_=>exact absurd (show false=true from fx) xF0
 |_=>exact absurd (show false=true from fy) xF0
theorem zXD:CallR X (.builtin "len") (λxs H Q=> ∃p ys,xs=[.ref p]/\(SqL X.K H p ys\/SqT X.K H p ys)/\Q (.int ys.length) H):=by
 intro pins s σ H xs us Q I r h
 obtain⟨p,ys,rfl,hq,q⟩:=h
 obtain⟨u,rfl,rx⟩:=vals1 r
 cases rx
 have hn:=zMT
 rcases hq with hq|hq
 ·obtain⟨its,r',pl,hz⟩:=I.list hq
  have hlen:=r'.length
  exact Calls.call_len_list pl.isList (by simp only [sA]<;>omega) ⟨.int ys.length,H,I.tok _,⟨s.toks+1,by rw [sA,hlen]⟩,q⟩
 ·obtain⟨its,r',pl,hz⟩:=I.tuple hq
  have hlen:=r'.length
  exact len_tuple pl (by simp only [sA]<;>omega) ⟨.int ys.length,H,I.tok _,⟨s.toks+1,by rw [sA,hlen]⟩,q⟩
theorem zXE:CallR X (.builtin "len") (λxs H Q=> ∃z,xs=[.str z]/\z.length<=sizeLine/\Q (.int z.length) H):=by
 intro pins s σ H xs us Q I r h
 obtain⟨z,rfl,hz,q⟩:=h
 obtain⟨u,rfl,t,rfl⟩:=vals1 r
 have hn:=zMT
 exact len_str (by omega) ⟨.int z.length,H,I.tok _,⟨_,rfl⟩,q⟩
theorem CallR.or{f:Value}{r r':List V->Hp->VK->Prop}(h:CallR X f r)(h':CallR X f r'):CallR X f (λxs H Q=>r xs H Q\/r' xs H Q):=by
 intro pins s σ H xs us Q I rs q
 rcases q with q|q
 ·exact h pins s σ H xs us Q I rs q
 ·exact h' pins s σ H xs us Q I rs q
theorem zOD:CallR X (.type "list") (λxs H Q=> ∃p ys,xs=[.ref p]/\(SqL X.K H p ys\/SqT X.K H p ys)/\ ∀l,H l=none->Q (.ref l) (upd H l (.lst ys))):=by
 intro pins s σ H xs us Q I r h
 obtain⟨p,ys,rfl,hq,q⟩:=h
 obtain⟨u,rfl,rx⟩:=vals1 r
 cases rx
 have fin: ∀(its:List Value),Vals ys its->ys.length<=sizeLine-> ∀(h':Heap)(c':Nat),(∀b o',s.heap.get? b=some o'->h'.get? b=some o')->
   h'.get? s.heap.objs.size=some {cls:=.type "list",dict:=none,data:=.seq its.toArray c',slots:=#[]}->EP X pins σ Q (.ref s.heap.objs.size) {s with heap:=h'}:=λits r' hz h' c' kp e=>
  ⟨.ref s.heap.objs.size,_,I.laid (t':=s.toks) kp (le_refl _) (show ObjOk X.prog X.w _ h' _ (.lst ys)from⟨hz,its,c',r',e⟩),rfl,q _ (I.hok.fresh (le_refl _))⟩
 rcases hq with hq|hq
 ·obtain⟨its,r',pl,hz⟩:=I.list hq
  have hlen:=r'.length
  obtain⟨o,ho,hc,n,hd⟩:=pl.isList
  exact call_list_seq p (.inl rfl) ho hc hd (λh' c' kp e=>fin its r' hz h' c' kp e) (by simp only [sA]<;>omega)
 ·obtain⟨its,r',pl,hz⟩:=I.tuple hq
  have hlen:=r'.length
  obtain⟨o,ho,hc,n,hd⟩:=pl
  exact call_list_seq p (.inr rfl) ho hc hd (λh' c' kp e=>fin its r' hz h' c' kp e) (by simp only [sA]<;>omega)
theorem wO:CallR X (.type "tuple") (λxs H Q=> ∃p ys,xs=[.ref p]/\((SqL X.K H p ys/\ ∀l,H l=none->Q (.ref l) (upd H l (.tup ys)))\/(SqT X.K H p ys/\Q (.ref p) H))):=by
 intro pins s σ H xs us Q I r h
 obtain⟨p,ys,rfl,h⟩:=h
 obtain⟨u,rfl,rx⟩:=vals1 r
 cases rx
 rcases h with⟨hq,q⟩|⟨hq,q⟩
 ·obtain⟨its,r',pl,hz⟩:=I.list hq
  have hlen:=r'.length
  refine call_tuple_list pl.isList (λh' kp=>?_) (by simp only [sA]<;>omega)
  have I1:Inv X pins σ H {s with heap:=h'}:=I.kept (t':=s.toks) kp
  have I2:Inv X pins σ (upd H h'.objs.size (.tup ys)) {s with heap:=h'.push {cls:=.type "tuple",data:=.seq its.toArray}}:=
   I1.laid (t':=s.toks) (λb o e=>hP0 _ e) (le_refl _) (show ObjOk X.prog X.w _ _ _ (.tup ys)from⟨hz,its,r',IsTup.new _ _⟩)
  exact⟨.ref h'.objs.size,_,I2,rfl,q _ (I1.hok.fresh (le_refl _))⟩
 ·obtain⟨its,r',pl,hz⟩:=I.tuple hq
  exact call_tuple_same pl ⟨.ref p,H,I,rfl,q⟩
def tyV(K:PySem.W.Frag)(T:String)(x:V)(H:Hp):Prop:=match x with
 |.str _=>T="str"
 |.int _=>T="int"
 |.ref p=>(T="list"/\ ∃xs,SqL K H p xs)\/(T="tuple"/\ ∃o,K.lookup p=some o/\o.cls=.type "tuple"/\o.dict=none)\/
   (T="dict"/\((∃kvs,H p=some (.dK kvs))\/ ∃kvs,H p=some (.dT kvs)))\/(T="set"/\ ∃S n,H p=some (.set S n))
 |_=>False
theorem yTA{pins:List (Addr×Obj)}{σ:St}{H:Hp}{s:Shared}{T:String}{x:V}{v:Value}(I:Inv X pins σ H s)(r:RelV x v)(ty:tyV X.K T x H):
  s.TypeIs v T/\ ∀a,v=.ref a-> ∃ob,s.heap.get? a=some ob/\ob.dict=none:=by
 cases x with
 |str z=>
  obtain⟨t,rfl⟩:=r
  cases (show T="str" from ty)
  exact⟨typeIs_str s z t,λ_ e=>nomatch e⟩
 |int i=>
  obtain⟨t,rfl⟩:=r
  cases (show T="int" from ty)
  exact⟨typeIs_int s i t,λ_ e=>nomatch e⟩
 |ref p=>
  cases r
  rcases ty with⟨rfl,xs,hq⟩|⟨rfl,o,hk,hc,hd⟩|⟨rfl,hk⟩|⟨rfl,S,n,hk⟩
  ·obtain⟨its,_,pl,_⟩:=I.list hq
   refine⟨pl.isList.typeIs,λa e=>?_⟩
   cases e
   obtain⟨o,n,e,c,hd,_⟩:=pl
   exact⟨o,e,hd⟩
  ·refine⟨⟨o,I.kIn p o hk,hc⟩,λa e=>?_⟩
   cases e
   exact⟨o,I.kIn _ o hk,hd⟩
  ·have z: ∃o,s.heap.get? p=some o/\o.ExactDict:=by
    rcases hk with⟨kvs,hk⟩|⟨kvs,hk⟩
    ·obtain⟨_,_,_,_,o,_,_,e,ex,_⟩:=I.hok p _ hk
     exact⟨o,e,ex⟩
    ·obtain⟨_,_,_,_,o,_,_,e,ex,_⟩:=I.hok p _ hk
     exact⟨o,e,ex⟩
   obtain⟨o,e,ex⟩:=z
   refine⟨⟨o,e,ex.1⟩,λa e2=>?_⟩
   cases e2
   exact⟨o,e,ex.2.1⟩
  ·obtain⟨o,_,_,_,e,ex,_⟩:=I.hok p _ hk
   refine⟨⟨o,e,ex.1⟩,λa e2=>?_⟩
   cases e2
   exact⟨o,e,ex.2.1⟩
 |_=>exact False.elim ty
def tBM(K:PySem.W.Frag)(T:String)(r:V->List V->Hp->VK->Prop)(to:TE)(t:TA):TE:=λσ H Q=>to σ H λx H1=>tyV K T x H1/\t σ H1 λxs H2=>r x xs H2 Q
variable{o e:Expr}{es:List Expr}{to:TE}{t:TA}{name:Str}{apos cpos:Pos}{T id:String}{r:V->List V->Hp->VK->Prop}
theorem pe_bm(pa:PlainAttrs T)(slot:Slot T name id)(hty:typeOf (.builtin id)=pure (.type "method_descriptor"))(hm:MtR X id r)(ho:PE X o to)(ha:PA X (e::es) t)
  (hbase:attributeBase o name X.env (eval o X.env)=eval o X.env:=by rfl)
  (hfew:((backTo cpos (starEach (e::es) X.env)).all (λx=>!x.1)&&(backToKw cpos (keywordEach [] X.env)).all (λx=>x.1.isSome)
   &&decide ((e::es).length+([]:List Keyword).length+(if([]:List Keyword).isEmpty then 0 else 1)<30))=true:=by rfl)
  (hline:(apos.endLine==cpos.line)=true:=by rfl) (hs:starEach (e::es) X.env=(false,eval e X.env)::starEach es X.env:=by rfl) (hplain:(backTo cpos (starEach es X.env)).any (·.1)=false:=by rfl):
  PE X (.Call (.Attribute o name apos) (e::es) [] cpos) (tBM X.K T r to t):=by
 intro pins s σ H Q I h
 refine wpAny_Call_method_late hbase hfew hline rfl (thn (ho pins s σ H _ I h) λv s1 ⟨x,H1,I1,r1,ty,q1⟩=>?_)
 obtain⟨h1,h2⟩:=yTA I1 r1 ty
 refine⟨T,id,pa,slot,hty,h1,h2,?_⟩
 have hA:=ha cpos pins s1 σ H1 _ I1 q1
 rw [hs]at hA ⊢
 refine Calls.callWith_builtin (by show(false || (backTo cpos (starEach es X.env)).any (·.1))=false;rw [hplain]<;>rfl) (Calls.evalArgs_plain ?_)
 exact thn hA λus s2 ⟨vs,H2,I2,r2,q2⟩=>hm pins s2 σ H2 x vs v us Q I2 r1 r2 q2
end
def MtM(X:Cx)(id:String)(r:V->List V->Hp->VK->Prop):Prop:=
 ∀(pins:List (Addr×Obj))(s:Shared)(σ:St)(H:Hp)(x:V)(xs:List V)(v:Value)(us:List Value)(Q:VK),Inv X pins σ H s->RelV x v->Vals xs us->r x xs H Q->
  wpAny (model X.prog X.w) X.A (call (.builtin id) (v::us)) (EP X pins σ Q) X.xe s
theorem Vals.one: ∀{x:V}{us:List Value},Vals [x] us-> ∃u,us=[u]/\RelV x u
 |_,_,.cons r .nil=>⟨_,rfl,r⟩
theorem Vals.rep{xs:List V}{us:List Value}(h:Vals xs us): ∀k:Nat,Vals (List.replicate k xs).flatten (List.replicate k us).flatten
 |0=>.nil
 |k+1=>by
  rw [replicate_succ,replicate_succ,flatten_cons,flatten_cons]
  exact Vals.append h (Vals.rep h k)
theorem foldl_rep(its:List Value): ∀(k:Nat)(acc:List Value),
  List.foldl (λx1 x2=>x1++x2) acc.toArray (List.replicate k its.toArray)=(acc++(List.replicate k its).flatten).toArray
 |0,acc=>by simp
 |k+1,acc=>by
  have e:acc.toArray++its.toArray=(acc++its).toArray:=by simp
  have e2:(acc++its)++(List.replicate k its).flatten=acc++(List.replicate (k+1) its).flatten:=by
   rw [replicate_succ,flatten_cons,aA]
  rw [<-e2, <-foldl_rep its k (acc++its), <-e,replicate_succ,foldl_cons]
section
variable{X:Cx}{pins:List (Addr×Obj)}{σ:St}{H:Hp}{s:Shared}{l b:Addr}{xs ys zs:List V}
theorem Inv.lset{its its':List Value}{n:Nat}{f:Array Value->Array Value}{t':Nat}(I:Inv X pins σ H s)(hH:H l=some (.lst xs))
  (e:s.heap.get? l=some {cls:=.type "list",data:=.seq its.toArray n}) (hf:f its.toArray=its'.toArray) (hv:Vals ys its') (hz:ys.length<=sizeLine):
  Inv X pins σ (upd H l (.lst ys)) {s with heap:=s.heap.update l (Obj.mapSeq f),toks:=t'}:=by
 have q:=PySem.IsL.update e f
 rw [hf]at q
 refine I.write (x:=l) (e:=l) (by rw [hH];exact trivial) (.inl rfl) (λb' u hb hu=>(Heap.get?_update_other s.heap (Obj.mapSeq f) (Ne.symm hb)).trans hu) ⟨_,q⟩ ?_
 exact⟨hz,its',_,hv,q⟩
theorem Inv.lnew{its:List Value}{t':Nat}(I:Inv X pins σ H s)(hv:Vals ys its)(hz:ys.length<=sizeLine):
  Inv X pins σ (upd H s.heap.objs.size (.lst ys)) {s with heap:=s.heap.push {cls:=.type "list",data:=.seq its.toArray},toks:=t'}:=
 I.laid (λ_ _ q=>hP0 _ q) (le_refl _) ⟨hz,its,0,hv,Heap.get?_push_size _ rfl⟩
theorem Inv.fresh(I:Inv X pins σ H s):H s.heap.objs.size=none:=I.hok.fresh (le_refl _)
theorem Inv.lstM(I:Inv X pins σ H s)(hH:H l=some (.lst xs)):xs.length<=sizeLine/\ ∃(its:List Value)(n:Nat),Vals xs its/\xs.length=its.length/\s.heap.get? l=some {cls:=.type "list",data:=.seq its.toArray n}:=by
 obtain⟨z,its,n,r,e⟩:=I.hok l _ hH
 exact⟨z,its,n,r,r.length,e⟩
theorem yIX{n:Nat}(h:n<=sizeLine):Builtin.List.listTooLong n=false:=by
 unfold Builtin.List.listTooLong
 exact dF0 (by omega)
end
section
variable{X:Cx}
def yEK:V->List V->Hp->VK->Prop:=λx vs H Q=> ∃l xs y,x=.ref l/\vs=[y]/\H l=some (.lst xs)/\xs.length<sizeLine/\Q .non (upd H l (.lst (xs++[y])))
theorem yGV:MtM X "list.append" yEK:=by
 intro pins s σ H x vs v us Q I rx rv h
 obtain⟨l,xs,y,rfl,rfl,hH,hz,q⟩:=h
 cases rx
 obtain⟨u,rfl,ru⟩:=rv.one
 obtain⟨z,its,n,r,hl,e⟩:=I.lstM hH
 refine call_meets F.slot_list_append ⟨_,e,rfl⟩ F.entry_list_append (F.args_list_append_2 _ _) (PySem.list_append l its.toArray n u (by rw [sA];omega)) ⟨e,?_⟩
 refine⟨.non,_,I.lset (its':=its++[u]) hH e (by simp) (r.append (.cons ru .nil)) ?_,rfl,q⟩
 rw [lA,lS]
 omega
def rCat:R2:=λx y H Q=> ∃l b xs zs,x=.ref l/\y=.ref b/\H l=some (.lst xs)/\H b=some (.lst zs)/\xs.length+zs.length<=sizeLine/\ ∀p,H p=none->Q (.ref p) (upd H p (.lst (xs++zs)))
theorem yTB:OpR X (binaryOp .Add) rCat:=by
 intro pins s σ H x y v u Q I rx ry h
 obtain⟨l,b,xs,zs,rfl,rfl,hH,hB,hz,q⟩:=h
 cases rx
 cases ry
 obtain⟨z,its,n,r,hl,e⟩:=I.lstM hH
 obtain⟨z2,its2,n2,r2,hl2,e2⟩:=I.lstM hB
 refine PySem.P.add_list e e2 ?_ (by rw [sA,sA];omega)
 have ea:its.toArray++its2.toArray=(its++its2).toArray:=by simp
 rw [ea]
 exact⟨.ref _,_,I.lnew (t':=s.toks) (r.append r2) (by rw [lA];omega),rfl,q _ I.fresh⟩
def rRep:R2:=λx y H Q=> ∃l k xs,x=.ref l/\y=.int k/\H l=some (.lst xs)/\ -(2 ^ 63)<=k/\k<2 ^ 63/\xs.length * k.toNat<=sizeLine/\
 ∀p,H p=none->Q (.ref p) (upd H p (.lst (List.replicate k.toNat xs).flatten))
theorem len_rep{α:Type}(xs:List α)(k:Nat):(List.replicate k xs).flatten.length=k * xs.length:=by
 induction k with
 |zero=>simp
 |succ k ih=>rw [replicate_succ,flatten_cons,lA,ih,Nat.succ_mul,Nat.add_comm]
theorem yTC:OpR X (binaryOp .Mult) rRep:=by
 intro pins s σ H x y v u Q I rx ry h
 obtain⟨l,k,xs,rfl,rfl,hH,h1,h2,hz,q⟩:=h
 cases rx
 obtain⟨t,rfl⟩:=ry
 obtain⟨z,its,n,r,hl,e⟩:=I.lstM hH
 have hlen:its.toArray.size * k.toNat<=sizeLine:=by rw [sA, <-hl];exact hz
 have hcap: ¬its.toArray.size * k.toNat>(2 ^ 63 - 1) / 8:=by
  have:(sizeLine:Nat)<=(2 ^ 63 - 1) / 8:=by decide
  omega
 have hfit: ¬(!Builtin.List.listFitsIndex k)=true:=by
  rw [fitsIndex_both h1 h2]
  exact xF0
 have hlong: ¬Builtin.List.listTooLong (its.toArray.size * k.toNat)=true:=by
  rw [yIX hlen]
  exact xF0
 have hnew:List.foldl (λx1 x2=>x1++x2) #[] (List.replicate (if its.toArray.isEmpty=true then 0 else k.toNat) its.toArray)=(List.replicate k.toNat its).flatten.toArray:=by
  have f0: ∀m:Nat,List.foldl (λx1 x2=>x1++x2) #[] (List.replicate m its.toArray)=(List.replicate m its).flatten.toArray:=λm=>by
   have:=foldl_rep its m []
   rw [nil_append]at this
   exact this
  rw [f0]
  cases its with
  |nil=>simp
  |cons a r'=>rw [iN0 (by simp)]
 refine wpAny_binaryOp_repeat_ref (T:="list") (U:="int") (by decide) ⟨_,e,rfl⟩ (λs'=>typeIs_int s' k t) noFill_list_mul F.fills_int_mul F.slot_int_rmul repeat_list F.slot_int_index.lookup
  (call_meets F.slot_int_rmul (typeIs_int s k t) F.entry_int_rmul (F.args_int_rmul_2 _ _) (int___rmul___int_list k t l its.toArray n)
   ⟨e,rfl,⟨_,e,rfl⟩,call_meets F.slot_list_mul ⟨_,e,rfl⟩ F.entry_list_mul (F.args_list_mul_2 _ _) (AutoListH.list___mul___list_int_3 l its.toArray n k t hfit hcap hlong) ⟨e,?_⟩⟩)
 rw [hnew]
 exact⟨.ref _,_,I.lnew (t':=s.toks) (r.rep k.toNat) (by rw [len_rep,mul_comm];exact hz),rfl,q _ I.fresh⟩
end
end L2
namespace Att
open PySem PySem.W PySem.Calls PyProof.Rows
theorem zRK{P:Params}{h:Heap}: ∀(ns:List Int)(vs:List Value),WellAll P h vs (ns.map WData.int)->IntsAre vs ns:=by
 intro ns
 induction ns with
 |nil=>
  intro vs w
  rw [List.map_nil]at w
  cases w
  exact .nil
 |cons n ns ih=>
  intro vs w
  rw [map_cons]at w
  cases w with
  |cons a b=>
   cases a
   exact .cons _ _ (ih _ b)
theorem yGW{l:OpenLaw}{n:Nat}(hn:l.most=some n){P:Params}{h:Heap}{args:List WData}{vals:List Value}
  (hpre:l.row.toRowW.claim.pre args=true) (hwl:WellAll P h vals args):
  ∃a vs ns,vals=[Value.ref a]/\args=[WData.list (ns.map WData.int)]/\h.get? a=some {cls:=.type "list",data:=.seq vs.toArray}/\IntsAre vs ns/\ns.length<=n:=by
 have hsh:WShape.hasAll [] args [.list .int]=true:=(pre_splitW hpre).1
 have hc:l.pre.holds [] {args:=args}=true:=(pre_splitW hpre).2
 obtain⟨d,r,rfl,h1,h2⟩:=hasAllW_cons hsh
 obtain rfl:=hasAllW_nil h2
 obtain⟨xs,rfl,h3⟩:=hasW_list h1
 obtain⟨ns,rfl⟩:=items_int h3
 have hlen:ns.length<=n:=by
  unfold OpenLaw.pre at hc
  have h4:(WTm.not (.lt (.lit (.int (n:Int))) (.len (.arg 0)))).holds [] {args:=[.list (ns.map .int)]}=true:=by
   have h4:=(holds_andW hc).1
   rw [hn]at h4
   exact h4
  have h5:=condW_of h4 (w_not (w_lt w_lit (w_len_list (w_arg rfl))))
  rw [lM0]at h5
  refine Nat.le_of_not_lt λq=>?_
  have q':(n:Int)<((ns.length:Nat):Int):=by omega
  first
   |(rw [dT0 q']at h5;exact absurd h5 (by decide))
   |(simp at h5;omega)
 cases hwl with
 |cons w1 w2=>
  cases w2
  cases w1 with
  |list ho hall=>exact⟨_,_,ns,rfl,rfl,ho,zRK ns _ hall,hlen⟩
theorem yGX(l:OpenLaw)(args:List WData):l.row.toRowW.claim.post args (.bool true) args=true:=
 postW_of (r:=l.row.toRowW) (X:=(true==true))
  (show WShape.has [] (.bool true) .bool=true by first |rfl|decide|simp [WShape.has,WShape.arms,WShape.armsAll])
  (show(WTm.eq .res (.lit (.bool true))).value [] {args:=args,res:=some (.bool true),after:=args}=some (.bool (true==true))from w_eq_bool (w_res rfl) w_lit) rfl
theorem attach_call{l:OpenLaw}{n:Nat}{q:Program}{loose:List Str}{XP:(Str->Option Value)->Heap->Prop}{YP:World->Heap->Prop}{d:DefRec}
  (hn:l.most=some n) (hdf:d.params.defaults=[])
  (call: ∀(w:World)(s₀ s₁:Shared)(mg mb:Str->Option Value)(fa:Addr)(o:Obj)(pm cd doc:Value)(a:Addr)(vs:List Value)(ns:List Int),
   Ground q loose [] XP w s₀ mg mb s₁.heap->YP w s₁.heap->
   s₁.heap.get? fa=some o->o.data=.func (docDef d.name d.params d.body d.scope pm cd doc)->s₁.heap.CodeRec cd d.name->mg d.name=some (.ref fa)->
   s₁.heap.get? a=some {cls:=.type "list",data:=.seq vs.toArray}->IntsAre vs ns->ns.length<=n->s₁.gens=#[]->
   codeAny (model l.prog w) callerA (.call (.ref fa) ⟨[.ref a],[]⟩) (λr s'=>r=.ok (.ret (.bool true))/\OldK s₁.heap s'.heap/\s'.os=s₁.os/\AllBare s'.gens) s₁):
  WalkO q loose XP YP l.row.toRowW d [] (λf vs=>PySem.call f vs):=by
 intro w s₀ s₁ mg mb G Y fa o pm cd doc dV kV ho hd hcd hD hmg hg args vals as hpre hlay hrd hwl hlo
 obtain rfl:dV=.none:=Dflts.none hD hdf
 obtain rfl:kV=.none:=Dflts.noKw hD
 obtain⟨a,vs,ns,rfl,rfl,hobj,hints,hlen⟩:=yGW hn hpre hwl
 refine enter_call (codeAny_mono (call w s₀ s₁ mg mb fa o pm cd doc a vs ns G Y ho (fd_plain hd) hcd hmg hobj hints hlen hg) λr s' hq=>?_)
 obtain⟨rfl,h2,h3,h4⟩:=hq
 exact⟨.inl ⟨.bool true,.bool true,[],rfl,λ_=>rfl,.bool true,yGX l _,λ_=>⟨List.Pairwise.nil,λ_ hm=>(nomatch hm)⟩⟩,h2,h3,h4⟩
end Att
namespace L2
open PySem PySem.Spec PyProof.Rows
theorem zWA: ∀{vs:List Value}{ns:List Int},IntsAre vs ns->Vals (ns.map V.int) vs
 |_,_,.nil=>.nil
 |_,_,.cons n t h=>.cons ⟨t,rfl⟩ (zWA h)
def yIY(H:Hp):Prop:= ∀b,H b=none\/ ∃o xs,H b=some (.frz o (.lst xs))
theorem yIZ{P:Program}{w:World}{K:PySem.W.Frag}{mg mb:Str->Option Value}{CX:CXT}{k:Nat}{fa a:Addr}{fd:FuncData}{x:Str}{sp:Sp}{s₁:Shared}{vs:List Value}{ns:List Int}
  (KX:K.In s₁.heap) (hns:s₁.heap.Ns mainGlobals mg) (hb:s₁.heap.Ns builtinsNs mb) (hbb: ∀x:Str,x≠"__name__"->mb x=bootBuiltins x) (hlim:s₁.heap.NoLimit) (hg:s₁.gens=#[])
  (ha:s₁.heap.get? a=some {cls:=.type "list",data:=.seq vs.toArray}) (hi:IntsAre vs ns) (hl:ns.length<=sizeLine) (hr:Room k callerA)
  (F: ∀base:Heap,K.In base->base.Ns mainGlobals mg->FnOk P w K mg base CX k fa fd [x] sp) (hbind: ∀(s:Shared)(u:Value),BindsTo s fd ⟨[u],[]⟩ [(x,u)])
  (hsp: ∀H:Hp,yIY H->SqL K H a (ns.map V.int)->sp [.ref a] H (λv _=>v=.bl true) λ_ _ _=>False)
  (hCX: ∀H e s',CX [] H s₁ (λ_ _ _=>False) e s'->False):
  codeAny (model P w) callerA (.call (.ref fa) ⟨[.ref a],[]⟩) (λr s'=>r=.ok (.ret (.bool true))/\OldK s₁.heap s'.heap/\s'.os=s₁.os/\AllBare s'.gens) s₁:=by
 have rv:=zWA hi
 have lenV:=hi.length
 have core: ∀H:Hp,yIY H->SqL K H a (ns.map V.int)->HOk P w H s₁.heap->(∀b,H b≠none->b=a)->(H a≠none->K.lookup a=none)->
   codeAny (model P w) callerA (.call (.ref fa) ⟨[.ref a],[]⟩) (λr s'=>r=.ok (.ret (.bool true))/\OldK s₁.heap s'.heap/\s'.os=s₁.os/\AllBare s'.gens) s₁:=by
  intro H hO hS hok hA hK
  have base_of: ∀{b:Addr}{o:Obj},s₁.heap.get? b=some o->H b=none->(zWW s₁.heap H).get? b=some o:=λe n=>yII e n
  have noA: ∀{b:Addr}{o:Obj}{es:Array DictEntry}{ep:Nat},s₁.heap.get? b=some o->o.data=.dict es ep->H b=none:=λ{b o es ep} e d=>by
   cases q:H b with
   |none=>rfl
   |some u=>
    have e':b=a:=hA b (by rw [q];simp)
    subst e'
    rw [ha]at e;cases e
    have d':Data.seq vs.toArray _=Data.dict es ep:=d
    cases d'
  have nsK: ∀{b:Addr}{m:Str->Option Value},s₁.heap.Ns b m->(zWW s₁.heap H).Ns b m:=λ{b m} ⟨o,es,ep,e,d,r⟩=>⟨o,es,ep,base_of e (noA e d),d,r⟩
  have hKb:K.In (zWW s₁.heap H):=λb o e=>base_of (KX b o e) (by
   cases q:H b with
   |none=>rfl
   |some u=>
    have e':b=a:=hA b (by rw [q];simp)
    subst e'
    rw [hK (by rw [q];simp)]at e;cases e)
  have hM:Mod K mg (zWW s₁.heap H):=⟨hKb,nsK hns,⟨mb,nsK hb,hbb⟩,let ⟨mc,h1,h2⟩:=hlim;⟨mc,nsK h1,h2⟩⟩
  have e0:Env0 P w K mg (zWW s₁.heap H) callerA [] s₁ H:=⟨rfl,hM,λb o e=>yNF e,Nat.le_of_eq (yGP _ _),trivial,λb hb=>absurd (show b∈([]:List Addr)from hb) (by simp),hok,.of_eq hg⟩
  refine codeAny_mono ((F _ hKb (nsK hns)).run callerA [] s₁ H ⟨[.ref a],[]⟩ [.ref a] [.ref a] _ _ hr e0 (hbind s₁ (.ref a)) (.cons rfl .nil) (hsp H hO hS)) λr s' h=>?_
  cases r with
  |error e=>exact(hCX H e s' h).elim
  |ok fl=>
   cases fl with
   |next=>exact False.elim h
   |brk=>exact False.elim h
   |cont=>exact False.elim h
   |ret u=>
    obtain⟨v,H',os,bare,un,hok',r',q⟩:=h
    have q':v=.bl true:=q
    subst q'
    obtain rfl:u=Value.bool true:=r'
    refine⟨rfl,OldK.of_keep λb o e=>?_,os,bare⟩
    cases q:H b with
    |none=>exact un.keep b o e q (by intro z;exact absurd (show b∈([]:List Addr)from z) (by simp)) (by simp)
    |some u=>
     rcases hO b with z|⟨ob,xs,z⟩
     ·rw [q]at z;cases z
     ·have z2:=un.frzs b ob _ z
      obtain⟨e1,_⟩:=hok b _ z
      obtain⟨e2,_⟩:=hok' b _ z2
      rw [e]at e1;cases e1
      exact e2
 cases hk:K.lookup a with
 |some o=>
  have e:=KX a o hk
  rw [ha]at e
  cases e
  refine core (λ_=>none) (λ_=>.inl rfl) (.inr ⟨_,vs.toArray,_,hk,rfl,rfl,rfl,by rw [sA,lenV];exact hl,by simpa using rv⟩) (λb u z=>by have z':(none:Option HO)=some u:=z;cases z') (λb z=>absurd rfl z) λz=>absurd rfl z
 |none=>
  refine core (λb=>if b=a then some (.frz {cls:=.type "list",data:=.seq vs.toArray} (.lst (ns.map V.int)))else none) (λb=>?_) (.inl (.inr ⟨{cls:=.type "list",data:=.seq vs.toArray},iP rfl⟩)) (λb u z=>?_) (λb z=>?_) λ_=>hk
  ·by_cases hb:b=a
   ·exact .inr ⟨_,_,iP hb⟩
   ·exact .inl (iN0 hb)
  ·by_cases hb:b=a
   ·have z':=(iP hb).symm.trans z
    cases z'
    subst hb
    exact⟨ha,by rw [lM0];exact hl,vs,_,rv,ha⟩
   ·have z':=(iN0 hb).symm.trans z
    cases z'
  ·by_cases hb:b=a
   ·exact hb
   ·exact absurd (iN0 hb) z
theorem walk_of{l:PySem.W.OpenLaw}{n k:Nat}{q:Program}{loose:List Str}{XP:(Str->Option Value)->Heap->Prop}{YP:World->Heap->Prop}{d:DefRec}{K:Params->PySem.W.Frag}{CX:World->CXT}{sp:World->Sp}{x:Str}
  (hn:l.most=some n) (hn2:n<=sizeLine) (hdf:d.params.defaults=[]) (hr:Room k callerA)
  (hY: ∀(w:World)(h:Heap),YP w h->(K w.params).In h)
  (F: ∀(w:World)(mg:Str->Option Value)(fa:Addr)(h:Heap),(K w.params).In h->h.Ns mainGlobals mg->mg d.name=some (.ref fa)->
   ∃fd:FuncData,(∀(s:Shared)(u:Value),BindsTo s fd ⟨[u],[]⟩ [(x,u)])/\
    ∀base:Heap,(K w.params).In base->base.Ns mainGlobals mg->FnOk l.prog w (K w.params) mg base (CX w) k fa fd [x] (sp w))
  (hsp: ∀(w:World)(H:Hp)(a:Addr)(ns:List Int),ns.length<=n->yIY H->SqL (K w.params) H a (ns.map V.int)->sp w [.ref a] H (λv _=>v=.bl true) λ_ _ _=>False)
  (hCX: ∀(w:World)(H:Hp)(s:Shared)(e:Value)(s':Shared),CX w [] H s (λ_ _ _=>False) e s'->False):
  PySem.W.WalkO q loose XP YP l.row.toRowW d [] (λf vs=>PySem.call f vs):=by
 refine Att.attach_call hn hdf λw s₀ s₁ mg mb fa o pm cd doc a vs ns G Y ho hd hcd hmg hobj hints hlen hg=>?_
 have KX:=hY w _ Y
 obtain⟨fd,hb,hF⟩:=F w mg fa _ KX G.T.g hmg
 exact yIZ KX G.T.g G.T.b G.T.builtins G.T.nolimit hg hobj hints (le_trans hlen hn2) hr hF hb (λH hO hS=>hsp w H a ns hlen hO hS) λH e s'=>hCX w H s₁ e s'
def inClass(s:Stmt)(j:Nat):Stmt:=match s with
 |.ClassDef _ _ _ body _ _ _ _ _ _ _=>body.getD j (.Pass ⟨0,0,0,0⟩)
 |_=>.Pass ⟨0,0,0,0⟩
def zCU(s:Stmt):Arguments:=match s with
 |.FunctionDef _ a _ _ _ _ _ _ _ _=>a
 |_=>{posonlyargs:=[],args:=[],vararg:=none,kwonlyargs:=[],kw_defaults:=[],kwarg:=none,defaults:=[]}
def jN(s:Stmt):List Stmt:=match s with
 |.FunctionDef _ _ b _ _ _ _ _ _ _=>b
 |_=>[]
def zH(s:Stmt):Scope:=match s with
 |.FunctionDef _ _ _ _ _ _ sc _ _ _=>sc
 |_=>{kind:=.function,names:=[],isGenerator:=false,isCoroutine:=false}
abbrev CX0:CXT:=λ_ _ _ _ _ _=>False
abbrev E0:XK:=λ_ _ _=>False
theorem pass0{X:Cx}:zWZ CX0 X E0:=λ_ _ _ _ _ _ _ h=>h.elim
structure Fun(K:PySem.W.Frag)(x qual:Str)(st:Stmt)(f:Addr)(fd:FuncData):Prop where
 ex: ∃(oc:Value)(od:Option Addr)(kV doc pm:Value)(an:Option Addr)(cdv ct:Value)(osl:Array (Option Value)),
  fd=PySem.W.fnOf x qual (zCU st) (jN st) (zH st) .none kV doc pm an cdv ct/\K.lookup f=some ⟨oc,od,.func fd,osl⟩/\PySem.W.codeIn K cdv qual=true
 kp:PySem.W.keepIn K (.ref f)=true
section
variable{P:Program}{w:World}{K:PySem.W.Frag}{mg:Str->Option Value}{base:Heap}
theorem Fun.ok{x qual:Str}{st:Stmt}{f:Addr}{fd:FuncData}{N ps:List Str}{k:Nat}{sp:Sp}(F:Fun K x qual st f fd)(S:FnScope N ps (zH st))(len: ∀vs H Q E,sp vs H Q E->vs.length=ps.length)
  (hbody: ∀(cdv:Value)(A:Around)(outer:List Env)(s:Shared)(H:Hp)(vs:List V)(Q:VK)(E:XK),Room k (A.deeper (envOfC qual (zH st) s.heap.objs.size f cdv))->sp vs H Q E->
   ∃t,PSs (zSL CX0 P w K mg base N qual (zH st) f cdv A outer s H E).nox (jN st) t/\t {nx:=λ_ H'=>Q .non H',rt:=Q} (start N vs) H):FnOk P w K mg base CX0 (k+1) f fd ps sp:=by
 obtain⟨oc,od,kV,doc,pm,an,cdv,ct,osl,rfl,lk,hcd⟩:=F.ex
 refine yRB lk hcd S len λA outer s H vs Q E hr hsp=>?_
 obtain⟨t,h,q⟩:=hbody cdv A outer s H vs Q E hr hsp
 exact⟨t,h.nox,q⟩
theorem Fun.binds{x qual:Str}{st:Stmt}{f:Addr}{fd:FuncData}{ps:List Str}(F:Fun K x qual st f fd)
  (h: ∀(kV doc pm:Value)(an:Option Addr)(cdv ct:Value)(us:List Value),us.length=ps.length->bindArgs (PySem.W.fnOf x qual (zCU st) (jN st) (zH st) .none kV doc pm an cdv ct) ⟨us,[]⟩=pure (ps.zip us)):Binds K fd ps []:=by
 obtain⟨oc,od,kV,doc,pm,an,cdv,ct,osl,rfl,lk,hcd⟩:=F.ex
 exact .all (h kV doc pm an cdv ct)
theorem yCC{x qual:Str}{st:Stmt}{f:Addr}{oc:Value}{od an:Option Addr}{osl:Array (Option Value)}{kV doc pm cdv ct:Value}(l:K.lookup f=some ⟨oc,od,.func (PySem.W.fnOf x qual (zCU st) (jN st) (zH st) .none kV doc pm an cdv ct),osl⟩)
  (c:PySem.W.codeIn K cdv qual=true) (k:PySem.W.keepIn K (.ref f)=true):Fun K x qual st f (PySem.W.fnOf x qual (zCU st) (jN st) (zH st) .none kV doc pm an cdv ct):=⟨⟨oc,od,kV,doc,pm,an,cdv,ct,osl,rfl,l,c⟩,k⟩
end
section
variable{X:Cx}
theorem pv(i:Nat){x:Str}{pos:Pos}(hN:X.N[i]? =some x:=by rfl)(hv:Vis X.env.scope x:=by first |exact Or.inl rfl|exact Or.inr (Or.inl rfl)|exact Or.inr (Or.inr rfl))(hd:(x==("__debug__":Str))=false:=by decide)
  (hcd:(x==("__classdict__":Str))=false:=by decide):PE X (.Name x pos) (tVar i):=zSI hN hv hd hcd
end
def Same(H H':Hp):Prop:= ∀b o,H b=some o->H' b=some o
theorem Same.trans{H H1 H2:Hp}(a:Same H H1)(b:Same H1 H2):Same H H2:=λc o h=>b c o (a c o h)
theorem Same.free{H H':Hp}(e:Same H H'){l:Addr}(h:H' l=Option.none):H l=Option.none:=by
 cases q:H l with
 |none=>rfl
 |some o=>
  rw [e l o q]at h
  cases h
theorem Same.seq{K:PySem.W.Frag}{H H':Hp}{a:Addr}{xs:List V}(e:Same H H')(h:SqL K H a xs):SqL K H' a xs:=by
 rcases h with(h|⟨o,h⟩)|h
 ·exact .inl (.inl (e _ _ h))
 ·exact .inl (.inr ⟨o,e _ _ h⟩)
 ·exact .inr h
end L2
set_option maxHeartbeats 4000000
namespace L2
open PySem PySem.Spec PyProof.Rows
def zJZ(env:Env)(l:List (Str×NameKind))(cs:List (Str×Addr)):List (Str×Addr):=
 l.foldl (λc y=>if y.2==.free then(y.1,(env.cells.lookup y.1).getD 0)::c else c) cs
theorem zXF{α β:Type}{l:List α}{f:α->β->Sem (ForInStep β)}{g:β->α->β}: ∀(c:β),(∀x∈l, ∀c,f x c=pure (.yield (g c x)))->
  forIn l c f=pure (l.foldl g c):=by
 induction l with
 |nil=>intro c _;rfl
 |cons x l ih=>
  intro c h
  rw [forIn_cons,h x mF0,pure_bind]
  exact ih _ λy hy=>h y (mO _ hy)
theorem zVA{scope:Scope}{env:Env}(h: ∀y∈scope.names,y.2=.free-> ∃c,env.cells.lookup y.1=some c):closureFor scope env=pure (zJZ env scope.names []):=by
 unfold closureFor zJZ
 dsimp only
 rw [zXF (g:=λc y=>if y.2==.free then(y.1,(env.cells.lookup y.1).getD 0)::c else c) [] ?_]
 ·rfl
 ·intro y hy c
  obtain⟨n,k⟩:=y
  by_cases hk:k=.free
  ·subst hk
   obtain⟨a,ha⟩:=h _ hy rfl
   have ha':env.cells.lookup n=some a:=ha
   simp [cellOf,ha']
  ·have e:(k==NameKind.free)=false:=by simpa using hk
   simp [e]
theorem zQX{env:Env}: ∀(l:List (Str×NameKind))(cs:List (Str×Addr)),(∀y∈l,y.2=.free-> ∃c,env.cells.lookup y.1=some c)->(∀p∈cs,env.cells.lookup p.1=some p.2)->
  ∀p∈zJZ env l cs,env.cells.lookup p.1=some p.2
 |[],_,_,h=>h
 |(n,k)::l,cs,hl,h=>by
  refine zQX l _ (λy hy=>hl y (mO _ hy)) λp hp=>?_
  by_cases hk:k=.free
  ·subst hk
   obtain⟨c,hc⟩:=hl _ mF0 rfl
   have hc':env.cells.lookup n=some c:=hc
   have hp':p∈(n,(env.cells.lookup n).getD 0)::cs:=hp
   rcases mC0.mp hp' with rfl|hp
   ·show env.cells.lookup n=some ((env.cells.lookup n).getD 0)
    rw [hc'];rfl
   ·exact h p hp
  ·have hp':p∈(if(k==NameKind.free)=true then(n,(env.cells.lookup n).getD 0)::cs else cs):=hp
   rw [iN0 (by simpa using hk)]at hp'
   exact h p hp'
theorem zSO{env:Env}: ∀(l:List (Str×NameKind))(cs:List (Str×Addr))(p:Str×Addr),p∈cs->p∈zJZ env l cs
 |[],_,_,h=>h
 |(n,k)::l,cs,p,h=>by
  refine zSO l _ p ?_
  show p∈(if(k==.free)=true then(n,(env.cells.lookup n).getD 0)::cs else cs)
  split
  ·exact mO _ h
  ·exact h
theorem zKA{env:Env}: ∀(l:List (Str×NameKind))(cs:List (Str×Addr))(n:Str),(n,NameKind.free)∈l-> ∃c,(n,c)∈zJZ env l cs
 |[],_,_,h=>nomatch h
 |(m,k)::l,cs,n,h=>by
  rcases mC0.mp h with e|h
  ·have e1:n=m:=congrArg Prod.fst e
   have e2:NameKind.free=k:=congrArg Prod.snd e
   subst e1 e2
   exact⟨(env.cells.lookup n).getD 0,zSO l _ _ mF0⟩
  ·exact zKA l _ n h
theorem zFH{β:Type}: ∀{l:List (Str×β)}{n:Str},(∃c,(n,c)∈l)-> ∃c,l.lookup n=some c
 |[],_,h=>let ⟨_,z⟩:=h;nomatch z
 |(m,b)::l,n,h=>by
  by_cases e:n=m
  ·subst e
   exact⟨b,by simp [lookup_cons]⟩
  ·obtain⟨c,hc⟩:=h
   rcases mC0.mp hc with z|z
   ·cases z;exact absurd rfl e
   ·obtain⟨c',h'⟩:=zFH ⟨c,z⟩
    refine⟨c',?_⟩
    have e':(n==m)=false:=by simpa using e
    simp [lookup_cons,e',h']
def zVB(scope osc:Scope):List (Str×NameKind):=scope.names.map λ(n,k)=>if(k==.free&&osc.kind==.function&&osc.names.lookup n==some .cell)then(n,.cell)else(n,k)
def zQY(osc:Scope)(N:List Str)(sc:Scope)(idx:List Nat):Bool:=
 decide (sc.kind=.function)&&sc.names.all (λy=>decide (y.2≠.cell))&&sc.names.all (λy=>decide (y.2≠.local) || decide (sc.names.lookup y.1=some .local))&&
 sc.names.all (λy=>decide (y.2≠.free) || decide (osc.names.lookup y.1=some .cell) || decide (osc.names.lookup y.1=some .free))&&
 idx.all (λi=>match N[i]? with
  |some y=>(decide (osc.names.lookup y=some .cell) || decide (osc.names.lookup y=some .free))&&(decide ((zVB sc osc).lookup y=some .cell) || decide ((zVB sc osc).lookup y=some .free))
  |none=>false)
def zPT(σ:St)(idx:List Nat):St:=idx.map λi=>(σ[i]?).join
theorem zET(σ:St)(idx:List Nat):(zPT σ idx).length=idx.length:=by unfold zPT;rw [lM0]
def yV(X:Cx)(sc:Scope)(T:List Str)(idx:List Nat)(C:Addr)(s₂:Shared)(H1:Hp)(fp:List Addr):Cx where
 prog:=X.prog
 w:=X.w
 K:=X.K
 mg:=X.mg
 base:=X.base
 A:=X.A
 N:=T++idx.map λi=>(X.N[i]?).getD Str.empty
 s₀:=s₂
 H₀:=H1
 env:=compEnvC sc (zJZ X.env sc.names []) C X.env
 outer:=X.stack
 stack:=X.stack
 ex:=fp
 fn:=λ_=>false
 calm:=X.calm
 pn:=[]
 xe:=λ_ _=>False
def yJA(wi:TI)(g:TG)(tc:Addr->Shared->Hp->List Addr->TT)(te:Addr->Shared->Hp->List Addr->TE)(nt:Nat)(idx:List Nat):TE:=λσ H Q=>wi σ H λJ H1=> ∃W:Nat->Nat->List V->Hp->Prop,(∃m,W 0 m [] H1)/\ ∀i m ys H2,W i m ys H2->ys.length<=sizeLine/\
 ((J.stop i H2/\ ∀D,H2 D=none->Q (.ref D) (upd H2 D (.lst ys)))\/
   (J.go i H2/\ys.length<sizeLine/\ ∀x H3,J.yld i H2 x H3-> ∀τ:St,τ.length=nt->g x (τ++zPT σ idx) H3 λσ4 H4=>(∃τ',σ4=τ'++zPT σ idx/\τ'.length=nt)/\
    ∀C s₂ fp,tc C s₂ H1 fp σ4 H4 λb H5=>if b=true then te C s₂ H1 fp σ4 H5 λy H6=> ∃m',m'<m/\W (i+1) m' (ys++[y]) H6 else∃m',m'<m/\W (i+1) m' ys H5))
section
variable{prog:Program}{w:World}{A:Around}{R:Result->Shared->Prop}{s:Shared}
theorem zXG{elt target iter:Expr}{ifs:List Expr}{scope:Scope}{pos:Pos}{it acc:Value}{env:Env}(I:Nat->Shared->Prop)
  (turn: ∀n s,I n s->wpAny (model prog w) A (pyNext it) (λr s₁=>match r with
   |none=>R (.ok .next) s₁
   |some v=>wpAny (model prog w) A (letOwnedTupleGo target it v) (λ_ s₁'=>wpAny (model prog w) A (assign target env v) (λ_ s₂=>
     wpAny (model prog w) A (forIn ifs true λc r=>if r=true then do let ok <-isTrue c env (eval c env);pure (ForInStep.yield ok)else pure (ForInStep.yield r)) (λok s₃=>
      if ok=true then wpAny (model prog w) A (eval elt env) (λx s₄=>
       wpAny (model prog w) A (call (.builtin "list.append") [acc,x]) (λ_ s₅=> ∃m,m<n/\I m s₅) (λ_ _=>False) s₄) (λ_ _=>False) s₃
      else∃m,m<n/\I m s₃) (λ_ _=>False) s₂) (λ_ _=>False) s₁') (λ_ _=>False) s₁) (λ_ _=>False) s)
  (n:Nat) (h:I n s):codeAny (model prog w) A (.compLoop (.ListComp elt [⟨target,iter,ifs,0⟩] scope pos) 0 it acc env) R s:=by
 refine codeAny_loop rfl I (λn s hI=>?_) n h
 show wpAny _ A ((compTurn (.ListComp elt [⟨target,iter,ifs,0⟩] scope pos) 0 it acc env).onRaise (λx=>do noteFrame x env;theTreesLotGoes x)) _ _ s
 refine wpAny_noted ?_
 rw [compTurn_list]
 have no: ∀{E':Value->Shared->Prop}(v:Value)(s':Shared),False->E' v s':=λ_ _ z=>z.elim
 refine wB0 (wpAny_standAt (wB0 (wpAny_mono (turn n s hI) (λr s₁ h₁=>?_) (no))))
 cases r with
 |none=>exact wP0 h₁
 |some v=>
  refine wB0 (wpAny_mono h₁ (λ_ s₁' h₁'=>wB0 (wpAny_mono h₁' (λ_ s₂ h₂=>wB0 (wpAny_mono h₂ (λok s₃ h₃=>?_) no)) no)) no)
  cases ok with
  |false=>exact wP0 ⟨rfl,h₃⟩
  |true=>
   exact wB0 (wB0 (wpAny_mono h₃ (λx s₄ h₄=>wB0 (wpAny_mono h₄ (λ_ s₅ h₅=>wP0 (wP0 ⟨rfl,h₅⟩)) no)) no))
end
def yGY(X:Cx)(ifs:List Expr)(t:TT):Prop:=
 ∀(pins:List (Addr×Obj))(s:Shared)(σ:St)(H:Hp)(Q:Bool->Hp->Prop),Inv X pins σ H s->t σ H Q->
  wpAny (model X.prog X.w) X.A (forIn ifs true λc r=>if r=true then do let ok <-isTrue c X.env (eval c X.env);pure (ForInStep.yield ok)else pure (ForInStep.yield r)) (TP X pins σ Q) X.xe s
def tNoIf:TT:=λ_ H Q=>Q true H
theorem yJB{X:Cx}:yGY X [] tNoIf:=λ_ _ _ H _ I h=>wpAny_tests_nil ⟨H,I,h⟩
theorem yJC{X:Cx}{c:Expr}{t:TT}(h:PT X c t):yGY X [c] t:=λpins s σ H Q I q=>wpAny_tests_one (h pins s σ H Q I q)
structure CompF(osc:Scope)(N:List Str)(sc:Scope)(idx:List Nat):Prop where
 kind:sc.kind=.function
 nocell: ∀y∈sc.names,y.2≠.cell
 locs: ∀y∈sc.names,y.2=.local->sc.names.lookup y.1=some .local
 frees: ∀y∈sc.names,y.2=.free->osc.names.lookup y.1=some .cell\/osc.names.lookup y.1=some .free
 cap: ∀i∈idx, ∃y,N[i]? =some y/\(osc.names.lookup y=some .cell\/osc.names.lookup y=some .free)/\((zVB sc osc).lookup y=some .cell\/(zVB sc osc).lookup y=some .free)
theorem yNU{osc:Scope}{N:List Str}{sc:Scope}{idx:List Nat}(h:zQY osc N sc idx=true):CompF osc N sc idx:=by
 unfold zQY at h
 simp only [aE,all_eq_true,decide_eq_true_eq,or_eq_true]at h
 obtain⟨⟨⟨⟨h1,h2⟩,h3⟩,h4⟩,h5⟩:=h
 refine⟨h1,λy hy=>h2 y hy,λy hy e=>?_,λy hy e=>?_,λi hi=>?_⟩
 ·rcases h3 y hy with z|z
  ·exact absurd e z
  ·exact z
 ·rcases h4 y hy with(z|z)|z
  ·exact absurd e z
  ·exact .inl z
  ·exact .inr z
 ·have q:=h5 i hi
  cases e:N[i]? with
  |none=>rw [e]at q;cases q
  |some y=>
   rw [e]at q
   simp only [aE,decide_eq_true_eq,or_eq_true]at q
   exact⟨y,rfl,q.1,q.2⟩
theorem zWB{sc osc:Scope}{x:Str}(hno: ∀y∈sc.names,y.2≠.cell)(h:(zVB sc osc).lookup x=some .cell\/(zVB sc osc).lookup x=some .free):(x,NameKind.free)∈sc.names:=by
 have key: ∀k',(k'=.cell\/k'=.free)->(x,k')∈zVB sc osc->(x,NameKind.free)∈sc.names:=by
  intro k' hk' hm
  unfold zVB at hm
  obtain⟨⟨n,k⟩,hy,e⟩:=mM0.mp hm
  dsimp only at e
  split at e
  ·rename_i hc
   cases e
   rw [aE,aE]at hc
   have:k=.free:=by simpa using hc.1.1
   subst this
   exact hy
  ·cases e
   rcases hk' with rfl|rfl
   ·exact absurd rfl (hno _ hy)
   ·exact hy
 rcases h with h|h
 ·exact key _ (.inl rfl) (PySem.mem_of_lookup h)
 ·exact key _ (.inr rfl) (PySem.mem_of_lookup h)
section
variable{X:Cx}{pins:List (Addr×Obj)}{σ:St}{H1:Hp}{s₂:Shared}{sc:Scope}{T:List Str}{idx:List Nat}{C:Addr}{fp:List Addr}
theorem zZN(I:Inv X pins σ H1 s₂)(F:CompF X.env.scope X.N sc idx): ∀y∈sc.names,y.2=.free-> ∃c,X.env.cells.lookup y.1=some c:=
 λy hy e=>I.ok.has y.1 (F.frees y hy e)
theorem dM(I:Inv X pins σ H1 s₂)(F:CompF X.env.scope X.N sc idx){x:Str}{c:Addr}(e:(zJZ X.env sc.names []).lookup x=some c):X.env.cells.lookup x=some c:=
 zQX sc.names [] (zZN I F) (λ_ z=>nomatch z) (x,c) (PySem.mem_of_lookup e)
theorem yNV(I:Inv X pins σ H1 s₂)(F:CompF X.env.scope X.N sc idx){x:Str}{c:Addr}(hx:(x,NameKind.free)∈sc.names)(e:X.env.cells.lookup x=some c):(zJZ X.env sc.names []).lookup x=some c:=by
 obtain⟨c',h'⟩:=zFH (zKA (env:=X.env) sc.names [] x hx)
 rw [h']
 rw [dM I F h']at e
 exact e
theorem yGZ(I:Inv X pins σ H1 s₂)(F:CompF X.env.scope X.N sc idx)(hC:s₂.heap.objs.size<=C)(hfp: ∀b∈fp,zOC X pins H1 b)(hlt: ∀b∈fp,b<s₂.heap.objs.size):(yV X sc T idx C s₂ H1 fp).Ok where
 mod:=I.ok.mod
 kind:=F.kind
 glob:=I.ok.glob
 blt:=I.ok.blt
 above:=hC
 inj:=λx y c h1 h2=>I.ok.inj x y c (dM I F h1) (dM I F h2)
 has:=λx hx=>by
  have hx':(zVB sc X.env.scope).lookup x=some .cell\/(zVB sc X.env.scope).lookup x=some .free:=hx
  exact zFH (zKA sc.names [] x (zWB F.nocell hx'))
 cab:=λx c h _=>nomatch h
 hd:=I.ok.hd
 frames:=I.ok.frames
 stk:=.inl rfl
 exf:=λb hb=>⟨ne_of_lt (lt_of_lt_of_le (hlt b hb) hC),λx c e=>(hfp b hb).2.2.2.2.1 x c (dM I F e)⟩
 bs:=I.bs
 bsz:=le_trans I.ok.bsz I.sz
 noex:=λb o e hb=>by
  rcases (hfp b hb).2.2.2.1 with z|z
  ·exact I.ok.noex b o e z
  ·exact absurd (lt_of_lt_of_le (Heap.lt_size e) (le_trans I.ok.bsz z)) (lt_irrefl _)
 exfs:=λb hb z=>by
  rcases mC0.mp (I.stkSub b z)with e|e
  ·exact(hfp b hb).2.1 e
  ·exact(hfp b hb).2.2.1 e
 funs:=I.stack
 frf:=I.stkFree
theorem yCD{s₄:Shared}{m:Str->Option Value}(I:Inv X pins σ H1 s₂)(F:CompF X.env.scope X.N sc idx)(hC:s₂.heap.objs.size<=C)(hfp: ∀b∈fp,zOC X pins H1 b)(hlt: ∀b∈fp,b<s₂.heap.objs.size)
  (kp: ∀b o,s₂.heap.get? b=some o->s₄.heap.get? b=some o) (ho:s₄.os=s₂.os) (hg:s₄.gens=s₂.gens) (hn:s₄.heap.Ns C m):
  Inv (yV X sc T idx C s₂ H1 fp) [] (T.map (λ_=>none)++zPT σ idx) H1 s₄:=by
 have cellK: ∀c v,s₂.heap.IsCell c v->s₄.heap.IsCell c v:=λc v ⟨o,h1,h2⟩=>⟨o,kp c o h1,h2⟩
 refine⟨yGZ I F hC hfp hlt,ho,by rw [hg];exact I.bare,Un.kept kp,⟨m,hn,λi x v e1 e2 e3=>?_⟩,λx c e=>?_,I.hok.fresh hC,λx c e=>I.freeC x c (dM I F e),λp hp=>absurd (show p∈([]:List (Addr×Obj))from hp) (by simp),I.hok.kept kp,?_⟩
 ·have e1':(T++idx.map λi=>(X.N[i]?).getD Str.empty)[i]? =some x:=e1
  by_cases hi:i<T.length
  ·rw [getElem?_append_left (by simpa using hi),getElem?_map]at e2
   cases z:T[i]? with
   |none=>rw [z]at e2;cases e2
   |some y=>rw [z]at e2;cases e2
  ·rw [getElem?_append_right (by simpa using hi)]at e2
   rw [getElem?_append_right (by omega)]at e1'
   rw [lM0]at e2
   unfold zPT at e2
   rw [getElem?_map]at e1' e2
   cases z:idx[i - T.length]? with
   |none=>rw [z]at e2;cases e2
   |some j=>
    rw [z]at e1' e2
    have hj:j∈idx:=mem_of_getElem? z
    obtain⟨y,hy,k1,k2⟩:=F.cap j hj
    have ex:y=x:=by
     have q:(X.N[j]?).getD Str.empty=x:=Option.some.inj e1'
     rw [hy]at q;exact q
    subst ex
    have ev:σ[j]? =some (some v):=by
     have q:(σ[j]?).join=some v:=Option.some.inj e2
     cases w':σ[j]? with
     |none=>rw [w']at q;cases q
     |some a=>rw [w']at q;have q':a=some v:=q;rw [q']
    obtain⟨m0,hn0,hl0⟩:=I.loc
    have vis:Vis X.env.scope y:=k1.elim (λz=>.inr (.inl z)) λz=>.inr (.inr z)
    obtain⟨u,r,l⟩:=hl0 j y v hy ev vis
    refine⟨u,r,?_⟩
    rcases l with⟨kl,_⟩|⟨_,c,hc,q⟩
    ·have kl':X.env.scope.names.lookup y=some .local:=kl
     rcases k1 with z|z<;>rw [z]at kl'<;>cases kl'
    ·exact .inr ⟨k2,c,yNV I F (zWB F.nocell k2) hc,cellK c _ q⟩
 ·obtain⟨v,q⟩:=I.cell x c (dM I F e)
  exact⟨v,cellK c v q⟩
 ·show(T.map (λ_=>(none:Option V))++zPT σ idx).length=(T++idx.map λi=>(X.N[i]?).getD Str.empty).length
  rw [lA,lA,lM0,lM0,zET]
theorem yCE{σ1:St}{H':Hp}{s':Shared}{h':Heap}{D:Addr}{ys:List V}{its:List Value}{n:Nat}(I:Inv X pins σ H1 s₂)(hC:s₂.heap.objs.size<=C)(hfp: ∀b∈fp,zOC X pins H1 b)
  (J:Inv (yV X sc T idx C s₂ H1 fp) [] σ1 H' s') (hs:Heap.SameBut C s'.heap h') (hD:s₂.heap.objs.size<=D) (hDC:D≠C) (eD:s'.heap.get? D=some {cls:=.type "list",data:=.seq its.toArray n}) (nD:H' D=none) (r:Vals ys its) (hz:ys.length<=sizeLine):
  Inv X pins σ (upd H' D (.lst ys)) {s' with heap:=h'}:=by
 have old: ∀b o,s₂.heap.get? b=some o->b≠C/\b≠D:=λb o e=>⟨ne_of_lt (lt_of_lt_of_le (Heap.lt_size e) hC),ne_of_lt (lt_of_lt_of_le (Heap.lt_size e) hD)⟩
 have oldH: ∀b u,H1 b=some u->b≠D:=λb u e=>ne_of_lt (lt_of_lt_of_le (I.hok.lt e) hD)
 have nC:H' C=none:=J.free
 have B:Un (frs X.stack) fp H1 H' s₂.heap s'.heap:=J.base
 have mv: ∀b o,b≠C->s'.heap.get? b=some o->h'.get? b=some o:=λb o hb e=>(hs.2 b hb).trans e
 refine I.call' (s':={s' with heap:=h'}) (ch:=fp) J.os ⟨λb o e q hb hx=>?_,λb o e q hb hx=>?_,λb o e q hx=>?_,λb o e hx=>?_,λb xs e=>?_,λb o u e=>?_,λb ps e=>?_⟩ ?_ J.bare λb hb=>⟨(hfp b hb).2.2.2.1,(hfp b hb).2.1,(hfp b hb).2.2.2.2.1,(hfp b hb).2.2.2.2.2⟩
 ·exact mv b o (old b o e).1 (B.keep b o e q hb hx)
 ·obtain⟨sl,z⟩:=B.slot b o e q hb hx
  exact⟨sl,mv b _ (old b o e).1 z⟩
 ·rw [zV (old b o e).2];exact B.free b o e q hx
 ·obtain⟨o',z⟩:=B.there b o e hx
  exact⟨o',mv b o' (old b o e).1 z⟩
 ·rw [zV (oldH b _ e)];exact B.tups b xs e
 ·rw [zV (oldH b _ e)];exact B.frzs b o u e
 ·obtain⟨more,z⟩:=B.tbls b ps e
  exact⟨more,by rw [zV (oldH b _ e)];exact z⟩
 ·intro b u e
  by_cases hb:b=D
  ·subst hb
   rw [yD]at e;cases e
   exact⟨hz,its,n,r,mv b _ hDC eD⟩
  ·rw [zV hb]at e
   refine(J.hok b u e).stay (λc v hc q=>mv c v ?_ q) (λc q=>by rw [zV (yR q nD)];exact q) λc xs q=>by rw [zV (yR q nD)];exact q
   rcases hc with z|z
   ·rw [z];exact yR e nC
   ·exact yR z nC
end
section
variable{X:Cx}
theorem zZO{elt tg iter:Expr}{ifs:List Expr}{pos:Pos}{sc:Scope}{wi:TI}{g:TG}{tc:Addr->Shared->Hp->List Addr->TT}{te:Addr->Shared->Hp->List Addr->TE}(T:List Str)(idx:List Nat)
  (hi:PI X tg iter wi) (hcalm:X.calm=true) (hB:zQY X.env.scope X.N sc idx=true)
  (hg: ∀C s₂ H1 fp,PG (yV X sc T idx C s₂ H1 fp) tg g)
  (hc: ∀C s₂ H1 fp,yGY (yV X sc T idx C s₂ H1 fp) ifs (tc C s₂ H1 fp))
  (he: ∀C s₂ H1 fp,PE (yV X sc T idx C s₂ H1 fp) elt (te C s₂ H1 fp))
  (hs: ∀x,foldedSetIterable iter X.env x=pure x:=by intro _;rfl)
  {pins:List (Addr×Obj)} {s:Shared} {σ:St} {H:Hp} {Q:VK} {use:Option (Value->Sem Unit)} {Q':Value->Shared->Prop} (I:Inv X pins σ H s) (h:yJA wi g tc te T.length idx σ H Q)
  (fin: ∀(D C:Addr)(s4:Shared)(H':Hp)(r:_),(∀h',Heap.SameBut C s4.heap h'->Inv X pins σ H' {s4 with heap:=h'})->zOC X pins H' C->(∃m,s4.heap.Ns C m)->Q (.ref D) H'->
   compPost (model X.prog X.w) X.A X.xe use Q' (.ref D) C (.ok r) s4):
  wpAny (model X.prog X.w) X.A (comprehension (.ListComp elt [⟨tg,iter,ifs,0⟩] sc pos) sc X.env (firstIterPos [⟨tg,iter,ifs,0⟩] pos) (newList []) false (eval iter X.env) use) Q' X.xe s:=by
 have cf:=yNU hB
 refine wpAny_comprehension_free (use:=use) (cl:=zJZ X.env sc.names []) rfl hs (zVA (zZN I cf)) cf.kind cf.locs ?_
 refine thn (hi pins s σ H _ I h) λv s1 h1=>thn h1 λitv s2 h2=>?_
 obtain⟨it,fp,tn,J,H2,e,I2,Tn,st2,f2,W,⟨m0,w0⟩,turn⟩:=h2
 subst e
 have hlt: ∀b∈fp,b<s2.heap.objs.size:=λb hb=>let ⟨o,e,_⟩:=Tn.obj _ _ st2 b hb;Heap.lt_size e
 refine wpAny_newObj_type (wpAny_newFunctionEnv cf.nocell (by intro y hy;simp at hy) (λh₁ hns₁ hsb₁=>?_) cf.kind)
 dsimp only at hns₁ hsb₁ ⊢
 generalize hH2:s2.heap.push {cls:=.type "list",dict:=none,data:=.seq ([]:List Value).toArray}=HH at hns₁ hsb₁ ⊢
 have hC:HH.objs.size=s2.heap.objs.size+1:=by rw [<-hH2,Heap.size_push]
 have hDC:s2.heap.objs.size≠HH.objs.size:=by rw [hC];exact ne_of_lt (Nat.lt_succ_self _)
 have hCle:s2.heap.objs.size<=HH.objs.size:=by rw [hC];exact Nat.le_succ _
 have old: ∀b o,s2.heap.get? b=some o->h₁.get? b=some o:=λb o e=>hsb₁.extBut b o (by rw [hC];exact ne_of_lt (Nat.lt_succ_of_lt (Heap.lt_size e))) (hP0 _ (hH2▸hP0 _ e))
 have eD0:h₁.get? s2.heap.objs.size=some {cls:=.type "list",data:=.seq ([]:List Value).toArray 0}:=hsb₁.extBut _ _ hDC (hP0 _ (hH2▸Heap.get?_push_size _ rfl))
 have nD0:H2 s2.heap.objs.size=none:=I2.hok.fresh (le_refl _)
 have cD: ∀x c,(zJZ X.env sc.names []).lookup x=some c->c≠s2.heap.objs.size:=λx c e=>by
  obtain⟨v,q⟩:=I2.cell x c (dM I2 cf e)
  exact ne_of_lt q.lt
 have loop: ∀s4:Shared,s4={s2 with heap:=h₁,toks:=s2.toks+([]:List (Str×Value)).length}->
   codeAny (model X.prog X.w) X.A (.compLoop (.ListComp elt [⟨tg,iter,ifs,0⟩] sc pos) 0 (.ref it) (.ref s2.heap.objs.size) (compEnvC sc (zJZ X.env sc.names []) HH.objs.size X.env))
    (compPost (model X.prog X.w) X.A X.xe use Q' (.ref s2.heap.objs.size) HH.objs.size) s4:=by
  rintro s4 rfl
  have J0:Inv (yV X sc T idx HH.objs.size s2 H2 fp) [] (T.map (λ_=>none)++zPT σ idx) H2 {s2 with heap:=h₁,toks:=s2.toks+([]:List (Str×Value)).length}:=
   yCD I2 cf hCle f2 hlt old rfl rfl hns₁
  refine zXG (λk s'=> ∃(i:Nat)(ys:List V)(its:List Value)(n:Nat)(H':Hp)(τ:St),Inv (yV X sc T idx HH.objs.size s2 H2 fp) [] (τ++zPT σ idx) H' s'/\τ.length=T.length/\tn i s'.heap/\(∀b∈fp,H' b=none)/\
   s'.heap.get? s2.heap.objs.size=some {cls:=.type "list",data:=.seq its.toArray n}/\H' s2.heap.objs.size=none/\Vals ys its/\W i k ys H') ?_ m0
   ⟨0,[],[],0,H2,T.map (λ_=>none),J0,by rw [lM0],Tn.keep _ _ _ st2 λb _ o e=>old b o e,λb hb=>(f2 b hb).1,eD0,nD0,.nil,w0⟩
  rintro k s3 ⟨i,ys,its,n,H3,τ,I3,hτ,st3,fr3,eD3,nD3,r3,w3⟩
  obtain⟨hz,alt⟩:=turn i k ys H3 w3
  have hDfs:s2.heap.objs.size∉(yV X sc T idx HH.objs.size s2 H2 fp).fs:=λz=>by
   obtain⟨_,o,ho,_⟩:=I2.stack.mem (show s2.heap.objs.size∈frs X.stack from z)
   exact absurd (Heap.lt_size ho) (lt_irrefl _)
  have pinD: ∀{H':Hp}{s':Shared},s'.heap.get? s2.heap.objs.size=some {cls:=.type "list",data:=.seq its.toArray n}->H' s2.heap.objs.size=none->
    ∀p∈[(s2.heap.objs.size,({cls:=.type "list",data:=.seq its.toArray n}:Obj))],s'.heap.get? p.1=some p.2/\H' p.1=none/\p.1≠(yV X sc T idx HH.objs.size s2 H2 fp).env.locals/\p.1∉(yV X sc T idx HH.objs.size s2 H2 fp).fs/\ ∀v,p.2.data≠.cell v:=
   λ{H' s'} e1 e2 p hp=>by
    have ep:p=(s2.heap.objs.size,{cls:=.type "list",data:=.seq its.toArray n}):=by simpa using hp
    subst ep
    exact⟨e1,e2,hDC,hDfs,λv z=>by cases z⟩
  have P3:Inv (yV X sc T idx HH.objs.size s2 H2 fp) [(s2.heap.objs.size,{cls:=.type "list",data:=.seq its.toArray n})] (τ++zPT σ idx) H3 s3:=I3.pins_of (pinD eD3 nD3)
  have stat: ∀{H':Hp},(∀b∈fp,H' b=none)-> ∀b∈fp,zOC (yV X sc T idx HH.objs.size s2 H2 fp) [(s2.heap.objs.size,{cls:=.type "list",data:=.seq its.toArray n})] H' b:=λ{H'} hn b hb=>by
   have hb2:=hlt b hb
   refine⟨hn b hb,ne_of_lt (lt_of_lt_of_le hb2 hCle),I3.ok.exfs b hb,.inl hb,λx c e=>(f2 b hb).2.2.2.2.1 x c (dM I2 cf e),λp hp=>?_⟩
   have ep:p=(s2.heap.objs.size,({cls:=.type "list",data:=.seq its.toArray n}:Obj)):=by simpa [yV]using hp
   subst ep
   exact ne_of_gt hb2
  rcases alt with⟨stop,q⟩|⟨go,hl2,step⟩
  ·refine thn (Tn.done (yV X sc T idx HH.objs.size s2 H2 fp) rfl rfl rfl hcalm i _ s3 _ H3 (λ_ _=>False) P3 (stat fr3) st3 stop) λr s4 ⟨hr,I4⟩=>?_
   subst hr
   obtain⟨m,hn,_⟩:=id I4.loc
   have eD4:=(I4.pin (s2.heap.objs.size,{cls:=.type "list",data:=.seq its.toArray n}) (by simp)).1
   exact fin _ _ s4 _ _ (λh' hs'=>yCE I2 hCle f2 (I4.pins_of (λp hp=>nomatch hp)) hs' (le_refl _) hDC eD4 nD3 r3 hz) (I2.fpOk hCle (by rw [zV (Ne.symm hDC)];exact I4.free)) ⟨m,hn⟩ (q _ nD3)
  ·refine thn (Tn.item (yV X sc T idx HH.objs.size s2 H2 fp) rfl rfl rfl hcalm i _ s3 _ H3 (λ_ _=>False) P3 (stat fr3) st3 go) λr s4 ⟨u,hr,h4⟩=>?_
   subst hr
   refine thn h4 λ_ s5 ⟨x,H5,I5,r5,y5,st5,fr5⟩=>?_
   have I5':=I5.pinned (stat fr5) (Tn.obj _ _ st5)
   refine thn (hg HH.objs.size s2 H2 fp _ s5 _ H5 x u _ I5' r5 (step x H5 y5 τ hτ)) λ_ s6 ⟨σ6,H6,I6,⟨τ',e6,l6⟩,q6⟩=>?_
   subst e6
   refine thn (hc HH.objs.size s2 H2 fp _ s6 _ H6 _ I6 (q6 HH.objs.size s2 fp)) λok s7 ⟨H7,I7,q7⟩=>?_
   have mD:(s2.heap.objs.size,({cls:=.type "list",data:=.seq its.toArray n}:Obj))∈(yV X sc T idx HH.objs.size s2 H2 fp).pn++([(s2.heap.objs.size,{cls:=.type "list",data:=.seq its.toArray n})]++zPS fp s5.heap):=
    mem_append_right _ (mem_append_left _ (by simp))
   have mF: ∀b∈fp, ∀o,s5.heap.get? b=some o->(b,o)∈(yV X sc T idx HH.objs.size s2 H2 fp).pn++([(s2.heap.objs.size,{cls:=.type "list",data:=.seq its.toArray n})]++zPS fp s5.heap):=λb hb o e=>
    mem_append_right _ (mem_append_right _ (zMS hb e))
   cases ok with
   |false=>
    rw [iN0 xF0]at q7 ⊢
    obtain⟨m',hm',w7⟩:=q7
    refine⟨m',hm',i+1,ys,its,n,H7,τ',I7.pins_of (λp hp=>nomatch hp),l6,Tn.keep _ _ _ st5 λb hb o e=>(I7.pin _ (mF b hb o e)).1,λb hb=>?_,(I7.pin _ mD).1,(I7.pin _ mD).2.1,r3,w7⟩
    obtain⟨o,e,d⟩:=Tn.obj _ _ st5 b hb
    exact(I7.pin _ (mF b hb o e)).2.1
   |true=>
    rw [iP rfl]at q7 ⊢
    refine thn (he HH.objs.size s2 H2 fp _ s7 _ H7 _ I7 q7) λy s8 ⟨yv,H8,I8,r8,m',hm',w8⟩=>?_
    have eD8:=(I8.pin _ mD).1
    have nD8:=(I8.pin _ mD).2.1
    have hl:=r3.length
    have q:=PySem.IsL.update eD8 (λz=>z.push y)
    rw [show its.toArray.push y=(its++[y]).toArray by simp]at q
    refine call_meets PySem.F.slot_list_append ⟨_,eD8,rfl⟩ PySem.F.entry_list_append (PySem.F.args_list_append_2 _ _) (PySem.list_append s2.heap.objs.size its.toArray n y (by rw [sA];omega)) ⟨eD8,?_⟩
    have I9:Inv (yV X sc T idx HH.objs.size s2 H2 fp) [] (τ'++zPT σ idx) H8 s8:=I8.pins_of (λp hp=>nomatch hp)
    have up: ∀b o,b≠s2.heap.objs.size->s8.heap.get? b=some o->(s8.heap.update s2.heap.objs.size (Obj.mapSeq λz=>z.push y)).get? b=some o:=λb o hb e=>(Heap.get?_update_other s8.heap _ (Ne.symm hb)).trans e
    refine⟨m',hm',i+1,ys++[yv],its++[y],_,H8,τ',I9.turned (t':=s8.toks) up nD8 hDC (.inr (le_refl _)) cD (λp hp=>nomatch hp),l6,?_,λb hb=>?_,q,nD8,r3.append (.cons r8 .nil),w8⟩
    ·exact Tn.keep _ _ _ st5 λb hb o e=>up b o (ne_of_lt (hlt b hb)) (I8.pin _ (mF b hb o e)).1
    ·obtain⟨o,e,d⟩:=Tn.obj _ _ st5 b hb
     exact(I8.pin _ (mF b hb o e)).2.1
 exact codeAny_compStart_list (loop _ rfl) (Tn.self X.A 0 _ _ _ (Tn.keep _ _ _ st2 λb _ o e=>old b o e) (loop _ rfl))
theorem yNW{elt tg iter:Expr}{ifs:List Expr}{pos:Pos}{sc:Scope}{wi:TI}{g:TG}{tc:Addr->Shared->Hp->List Addr->TT}{te:Addr->Shared->Hp->List Addr->TE}(T:List Str)(idx:List Nat)
  (hi:PI X tg iter wi) (hcalm:X.calm=true) (hB:zQY X.env.scope X.N sc idx=true)
  (hg: ∀C s₂ H1 fp,PG (yV X sc T idx C s₂ H1 fp) tg g)
  (hc: ∀C s₂ H1 fp,yGY (yV X sc T idx C s₂ H1 fp) ifs (tc C s₂ H1 fp))
  (he: ∀C s₂ H1 fp,PE (yV X sc T idx C s₂ H1 fp) elt (te C s₂ H1 fp))
  (hs: ∀x,foldedSetIterable iter X.env x=pure x:=by intro _;rfl):
  PE X (.ListComp elt [⟨tg,iter,ifs,0⟩] sc pos) (yJA wi g tc te T.length idx):=by
 intro pins s σ H Q I h
 rw [eval_ListComp]
 exact zZO T idx hi hcalm hB hg hc he hs (use:=none) I h λD C s4 H' r J _ ⟨m,hn⟩ q=>⟨m,hn,λh' hs'=>⟨.ref D,H',J h' hs',rfl,q⟩⟩
end
def mkS(x:List Nat):Str:=⟨x.toArray⟩
theorem cB(x:List Nat):(mkS x).length=x.length:=by simp [mkS,Str.length]
theorem zHY(x:List Nat):(mkS x).cps.toList=x:=by simp [mkS]
theorem zXH{x y:List Nat}(h:mkS x=mkS y):x=y:=by
 have:=congrArg (λs=>s.cps.toList) h
 simpa [mkS]using this
theorem yNX(x y:List Nat):mkS x++mkS y=mkS (x++y):=by
 show Str.append (mkS x) (mkS y)=_
 simp [Str.append,mkS]
theorem yNY(c:Nat):(⟨#[c]⟩:Str)=mkS [c]:=rfl
def xF{α:Type}(xs:List α)(lo hi:Option Int):List α:=(xs.drop (HT.sIx xs.length 0 lo)).take (HT.sIx xs.length xs.length hi - HT.sIx xs.length 0 lo)
theorem strIdx(lo hi:Option Int)(n:Nat):Builtin.Str.strSliceIndices lo hi 1 n=(List.range (HT.sIx n n hi - HT.sIx n 0 lo)).map (HT.sIx n 0 lo+·):=by
 have e1:(match lo with |none=>(if(1:Int)>0 then(0:Int)else(n:Int) - 1)|some i=>if(1:Int)>0 then max 0 (min (if i<0 then i+(n:Int)else i) (n:Int))else max (-1) (min (if i<0 then i+(n:Int)else i) ((n:Int) - 1)))=((HT.sIx n 0 lo:Nat):Int):=by
  cases lo with
  |none=>simp [HT.sIx]
  |some i=>
   simp only [HT.sIx,show(1:Int)>0 by decide,if_true]
   by_cases h:i<0
   ·simp only [h,if_true];omega
   ·simp only [h,iF];omega
 have e2:(match hi with |none=>(if(1:Int)>0 then(n:Int)else -1)|some i=>if(1:Int)>0 then max 0 (min (if i<0 then i+(n:Int)else i) (n:Int))else max (-1) (min (if i<0 then i+(n:Int)else i) ((n:Int) - 1)))=((HT.sIx n n hi:Nat):Int):=by
  cases hi with
  |none=>simp [HT.sIx]
  |some i=>
   simp only [HT.sIx,show(1:Int)>0 by decide,if_true]
   by_cases h:i<0
   ·simp only [h,if_true];omega
   ·simp only [h,iF];omega
 rw [<-sliceRange_one]
 unfold Builtin.Str.strSliceIndices
 dsimp only
 rw [<-e1, <-e2]
 cases lo<;>cases hi<;>rfl
theorem yHA(x:List Nat)(lo hi:Option Int):Txt.slice (mkS x) lo hi=mkS (xF x lo hi):=by
 unfold Txt.slice
 rw [strIdx,cB]
 have hp:((List.range (HT.sIx x.length x.length hi - HT.sIx x.length 0 lo)).map (HT.sIx x.length 0 lo+·)).filterMap ((mkS x).cps[·]?)=xF x lo hi:=by
  have:=pick_run (mkS x).cps (HT.sIx x.length 0 lo) (HT.sIx x.length x.length hi - HT.sIx x.length 0 lo)
  rw [zHY]at this
  exact this
 rw [hp]
 split
 ·rename_i hc
  rw [aE]at hc
  have hl:HT.sIx x.length x.length hi - HT.sIx x.length 0 lo=x.length:=by simpa using hc.2
  have h2:HT.sIx x.length x.length hi<=x.length:=HT.sIx_le _ _ (le_refl _) _
  have h3:HT.sIx x.length 0 lo<=x.length:=HT.sIx_le _ _ (zero_le _) _
  have e:HT.sIx x.length 0 lo=0:=by omega
  unfold xF
  rw [hl,e]
  simp
 ·rfl
section
variable{X:Cx}
def rSlS:V->Option Int->Option Int->Hp->VK->Prop:=λx lo hi H Q=> ∃cs,x=.str (mkS cs)/\cs.length<=sizeLine/\Q (.str (mkS (xF cs lo hi))) H
theorem yTD:SlR X rSlS:=by
 intro pins s σ H x v vl vu lo hi sl Q I rx hs pl pu h
 obtain⟨cs,rfl,hz,q⟩:=h
 obtain⟨t,rfl⟩:=rx
 have hl:(Txt.slice (mkS cs) lo hi).length<=sizeLine:=le_trans (Txt.slice_le _ _ _) (by rw [cB];exact hz)
 rw [<-yHA]at q
 refine⟨"str",_,slot_str_getitem.lookup,typeIs_str _ _ _,?_⟩
 obtain⟨o,ho,hc,hd⟩:=hs
 cases pl with
 |none=>
  cases pu with
  |none=>exact wpAny_getItem_str_slice (l:=none) (u:=none) (st:=none) ⟨o,ho,hc,hd⟩ rfl (post_val_or_str ⟨hl,λt' k=>⟨.str _,H,I.tok _,⟨_,rfl⟩,q⟩⟩)
  |int j uj=>exact wpAny_getItem_str_slice (l:=none) (u:=some (j,uj)) (st:=none) ⟨o,ho,hc,hd⟩ rfl (post_val_or_str ⟨hl,λt' k=>⟨.str _,H,I.tok _,⟨_,rfl⟩,q⟩⟩)
 |int i ui=>
  cases pu with
  |none=>exact wpAny_getItem_str_slice (l:=some (i,ui)) (u:=none) (st:=none) ⟨o,ho,hc,hd⟩ rfl (post_val_or_str ⟨hl,λt' k=>⟨.str _,H,I.tok _,⟨_,rfl⟩,q⟩⟩)
  |int j uj=>exact wpAny_getItem_str_slice (l:=some (i,ui)) (u:=some (j,uj)) (st:=none) ⟨o,ho,hc,hd⟩ rfl (post_val_or_str ⟨hl,λt' k=>⟨.str _,H,I.tok _,⟨_,rfl⟩,q⟩⟩)
theorem zGX:OpR X (compareOp .LtE) (λx y H Q=> ∃i j,x=.str i/\y=.str j/\Q (.bl (!(j.cps.toList<i.cps.toList))) H):=by
 intro pins s σ H x y v u Q I rx ry h
 obtain⟨i,j,rfl,rfl,q⟩:=h
 obtain⟨t,rfl⟩:=rx
 obtain⟨t',rfl⟩:=ry
 exact PySem.P.le_str ⟨.bl _,H,I,rfl,q⟩
def zSP(cs:List Nat)(k:Int):List Nat:=(List.replicate k.toNat cs).flatten
theorem zPU(cs:List Nat): ∀(k:Nat)(acc:List Nat),List.foldl (λx1 x2=>x1++x2) acc.toArray (List.replicate k cs.toArray)=(acc++(List.replicate k cs).flatten).toArray
 |0,acc=>by simp
 |k+1,acc=>by
  rw [replicate_succ,foldl_cons,replicate_succ,flatten_cons, <-aA, <-zPU cs k (acc++cs)]
  simp
theorem yCF:OpR X (binaryOp .Mult) (λx y H Q=> ∃cs k,x=.str (mkS cs)/\y=.int k/\0<=k/\k<1000/\cs.length<=1000/\Q (.str (mkS (zSP cs k))) H):=by
 intro pins s σ H x y v u Q I rx ry h
 obtain⟨cs,k,rfl,rfl,h0,h1,hc,q⟩:=h
 obtain⟨t,rfl⟩:=rx
 obtain⟨t',rfl⟩:=ry
 have hs:sizeLine=16777216:=sizeLine_eq
 have hprod:cs.length * k.toNat<=1000 * 1000:=Nat.mul_le_mul hc (by omega)
 have e: ∀b,Q (.str b) H->b=mkS (zSP cs k)->True:=λ_ _ _=>trivial
 refine PySem.P.mul_str (by rw [dF0 (by omega),dF0 (by omega)];rfl) (λh2 _=>?_) (λ_ _=>?_) ?_
 ·rw [cB]
  have hk:1<=k:=by omega
  have:(1000:Int)<=(2 ^ 63 - 1) / k:=by
   rw [Int.le_ediv_iff_mul_le (by omega)]
   omega
  omega
 ·rw [cB]
  unfold PySem.Builtin.Str.tooLong
  exact dF0 (by omega)
 ·have made: ∀(z:Str),z=mkS (zSP cs k)->z.length<=sizeLine->(Made.str z).post (EP X pins σ Q) s:=λz ez hz=>⟨hz,by rw [ez];exact⟨.str _,H,I.tok _,⟨_,rfl⟩,q⟩⟩
  have hlen:(zSP cs k).length=k.toNat * cs.length:=by
   unfold zSP;rw [len_rep]
  by_cases hn:k<1
  ·rw [iP hn]
   have hk:k.toNat=0:=by omega
   refine made _ ?_ (by decide)
   unfold zSP;rw [hk];rfl
  ·rw [iN0 hn]
   by_cases h3:(k==1 || (mkS cs).length==0)=true
   ·rw [iP h3]
    refine⟨.str (mkS cs),H,I,⟨_,rfl⟩,?_⟩
    have:zSP cs k=cs:=by
     unfold zSP
     rw [or_eq_true]at h3
     rcases h3 with h3|h3
     ·have:k=1:=by simpa using h3
      subst this
      simp
     ·rw [cB]at h3
      have:cs=[]:=by cases cs with |nil=>rfl|cons _ _=>simp at h3
      subst this
      simp
    rw [this]at q
    exact q
   ·rw [iN0 h3]
    refine made _ ?_ ?_
    ·unfold zSP mkS
     have:=zPU cs k.toNat []
     rw [nil_append]at this
     exact congrArg Str.mk this
    ·have e3:(List.foldl (λx1 x2=>x1++x2) #[] (List.replicate k.toNat (mkS cs).cps))=(zSP cs k).toArray:=by
      have:=zPU cs k.toNat []
      rw [nil_append]at this
      exact this
     show(List.foldl (λx1 x2=>x1++x2) #[] (List.replicate k.toNat (mkS cs).cps)).size<=sizeLine
     rw [e3,sA,hlen,mul_comm]
     omega
theorem dR:CallR X (.builtin "all") (λxs H Q=> ∃(a:Addr)(bs:List Bool),xs=[.ref a]/\SqL X.K H a (bs.map V.bl)/\X.calm=true/\Q (.bl (bs.all id)) H):=by
 intro pins s σ H xs us Q I r h
 obtain⟨a,bs,rfl,hq,hc,q⟩:=h
 obtain⟨u,rfl,ru⟩:=vals1 r
 cases ru
 obtain⟨its,rv,pl,hz⟩:=I.list hq
 have hlen:its.length=bs.length:=by rw [<-rv.length,lM0]
 refine PySem.call_all_walk (wpAny_pyIter_list pl.isList ?_)
 have hI:a≠s.heap.objs.size:=by
  obtain⟨o,ho,_⟩:=pl.isList
  exact ne_of_lt (Heap.lt_size ho)
 have I1: ∀(h':Heap)(tk:Nat),(∀b o,b∉[s.heap.objs.size]->(s.heap.push {cls:=.type "list_iterator",data:=.fields #[.ref a,.int 0 0]}).get? b=some o->h'.get? b=some o)->Inv X pins σ H {s with heap:=h',toks:=tk}:=λh' tk k=>
  I.kept λb o e=>k b o (by simpa using ne_of_lt (Heap.lt_size e)) (hP0 _ e)
 refine⟨s.heap.objs.size,[s.heap.objs.size,a],[s.heap.objs.size],its.toArray.size,_,_,λi=>bs.getD i false,rfl,PySem.Walks.list (by first |exact I.ok.hd hc|exact(show X.A.in1.handled=none from I.ok.hd hc)) _ a hI its.toArray,⟨⟨_,Heap.get?_push_size _ rfl,rfl,rfl⟩,pl.isList.at λo e=>hP0 _ e⟩,?_,λh' tk k=>?_⟩
 ·intro i v s' Q' E' hv hQ'
  have hv':its[i]? =some v:=by simpa using hv
  have hi:i<bs.length:=by rw [<-hlen];exact(gS0.mp hv').1
  have hb:(bs.map V.bl)[i]? =some (V.bl (bs.getD i false)):=by
   rw [getElem?_map,gE0 hi]
   simp [getD_eq_getElem?_getD,hi]
  obtain⟨u',hu',rv'⟩:=rv.get hb
  rw [hv']at hu'
  cases hu'
  cases rv'
  exact wpAny_truthy_bool hQ'
 ·refine⟨.bl (bs.all id),H,I1 h' tk k,?_,q⟩
  show Value.bool _=Value.bool _
  congr 1
  rw [sA,hlen]
  have: ∀(l:List Bool),(List.range l.length).all (λi=>l.getD i false)=l.all id:=by
   intro l
   rw [Bool.eq_iff_iff,all_eq_true,all_eq_true]
   constructor
   ·intro h x hx
    obtain⟨i,hi,rfl⟩:=List.getElem_of_mem hx
    have:=h i (mem_range.mpr hi)
    simpa [getD_eq_getElem?_getD,hi]using this
   ·intro h i hi
    have hi':=mem_range.mp hi
    have:=h l[i] (getElem_mem hi')
    simpa [getD_eq_getElem?_getD,hi']using this
  exact this bs
def Its(x:List Nat):It:=⟨λi _=>i<x.length,λi H v H'=>H'=H/\ ∃c,x[i]? =some c/\v=.str (mkS [c]),λi _=>x.length<=i⟩
def iStr(tl:TE):TI:=λσ H R=>tl σ H λv H1=> ∃x,v=.str (mkS x)/\R (Its x) H1
theorem zZP{P:Program}{w:World}{K:PySem.W.Frag}{tg:Expr}(it:Addr)(ty:String)(x:List Nat)(t:Tok)(hty:ty="str_ascii_iterator"\/ty="str_iterator"):
  Turn P w K tg (Its x) [it] it (λi h=>h.IsStrIter it ty (mkS x) t i) where
 mem:=by simp
 obj:=λi h st b hb=>by
  have e:b=it:=by simpa using hb
  subst e
  obtain⟨o,e,c,d⟩:=st
  exact⟨o,e,λv z=>by rw [d]at z;cases z⟩
 keep:=λi h h' st k=>let ⟨o,ho,r⟩:=st;⟨o,k it (by simp) o ho,r⟩
 item:=by
  intro X hP hw hK hc i pins s σ H E I hf st hg
  subst hP hw hK
  obtain⟨f0,f1,f2,f3,f4,f5⟩:=hf it (by simp)
  have hi:i<x.length:=hg
  have hxi:(mkS x).cps[i]? =some x[i]:=by simp [mkS,hi]
  have fin: ∀(h':Heap),h'.IsStrIter it ty (mkS x) t (i+1)->Heap.SameBut it s.heap h'-> ∃u,some (Value.str ⟨#[x[i]]⟩ s.toks)=some u/\
    wpAny (model X.prog X.w) X.A (letOwnedTupleGo tg (.ref it) u) (λ_ s2=> ∃y H',Inv X pins σ H' s2/\RelV y u/\(Its x).yld i H y H'/\s2.heap.IsStrIter it ty (mkS x) t (i+1)/\ ∀b∈[it],H' b=none) E {s with heap:=h',toks:=s.toks+1}:=λh' st' sb=>by
   have I1:Inv X pins σ H {s with heap:=h',toks:=s.toks+1}:=I.turned (λb o hb e=>(sb.2 b hb).trans e) f0 f1 f3 f4 f5
   obtain⟨o,e,c,d⟩:=id st'
   refine⟨_,rfl,yEG (s:={s with heap:=h',toks:=s.toks+1}) e c d (by rcases hty with rfl|rfl<;>decide) ⟨.str (mkS [x[i]]),H,I1,⟨_,rfl⟩,⟨rfl,x[i],by simp [hi],rfl⟩,st',λb hb=>(hf b hb).1⟩⟩
  rcases hty with rfl|rfl
  ·exact wpAny_pyNext_ascii_item st hxi λh' st' sb=>fin h' st' sb
  ·exact wpAny_pyNext_wide_item st hxi λh' st' sb=>fin h' st' sb
 done:=by
  intro X hP hw hK hc i pins s σ H E I hf st hg
  subst hP hw hK
  obtain⟨f0,f1,f2,f3,f4,f5⟩:=hf it (by simp)
  have hi:x.length<=i:=hg
  have hxi:(mkS x).cps[i]? =none:=by simp [mkS,hi]
  rcases hty with rfl|rfl
  ·exact wpAny_pyNext_ascii_end (I.ok.hd hc) st hxi λh' eb=>⟨rfl,I.turned (t':=s.toks) (λb o hb e=>eb b o hb e) f0 f1 f3 f4 f5⟩
  ·exact wpAny_pyNext_wide_end (I.ok.hd hc) st hxi λh' eb=>⟨rfl,I.turned (t':=s.toks) (λb o hb e=>eb b o hb e) f0 f1 f3 f4 f5⟩
 self:=λ_ _ _ _ _ st h=>by
  rcases hty with rfl|rfl
  ·exact wpAny_pyIter_striter_ascii st h
  ·exact wpAny_pyIter_striter_wide st h
theorem yTE{tg l:Expr}{tl:TE}(hl:PE X l tl):PI X tg l (iStr tl):=by
 intro pins s σ H R I h
 refine thn (hl pins s σ H _ I h) λv s1 ⟨x,H1,I1,r1,q1⟩=>?_
 obtain⟨cs,e,q⟩:=q1
 subst e
 obtain⟨t,rfl⟩:=r1
 have fp: ∀(o:Obj), ∀b∈[s1.heap.objs.size],zOC X pins H1 b:=λo b hb=>by
  have e:b=s1.heap.objs.size:=by simpa using hb
  subst e
  exact I1.fpOk (le_refl _) (I1.hok.fresh (le_refl _))
 cases ha:(mkS cs).cps.all (· <128)
 ·refine wpAny_pyIter_wide ha ?_
  exact⟨s1.heap.objs.size,[s1.heap.objs.size],_,_,H1,rfl,I1.kept (t':=s1.toks) λb o e=>hP0 _ e,zZP _ "str_iterator" cs t (.inr rfl),⟨_,Heap.get?_push_size _ rfl,rfl,rfl⟩,fp default,q⟩
 ·refine wpAny_pyIter_ascii ha ?_
  exact⟨s1.heap.objs.size,[s1.heap.objs.size],_,_,H1,rfl,I1.kept (t':=s1.toks) λb o e=>hP0 _ e,zZP _ "str_ascii_iterator" cs t (.inl rfl),⟨_,Heap.get?_push_size _ rfl,rfl,rfl⟩,fp default,q⟩
end
section
variable{X:Cx}
def PU(X:Cx)(e:Expr)(t:TE):Prop:= ∀(i:Nat)(x:Str)(pos' pos:Pos),X.N.Nodup->X.N[i]? =some x->Loc X.env.scope x->(X.fn x=true\/X.env.scope.names.lookup x=some .local)->
 swapsWith e (some (.Name x pos')) pos.line X.env=pure true->PS X (.Assign [.Name x pos'] e pos) (tAsg t (yIN i))
theorem yNZ{elt tg iter:Expr}{ifs:List Expr}{pos:Pos}{sc:Scope}{wi:TI}{g:TG}{tc:Addr->Shared->Hp->List Addr->TT}{te:Addr->Shared->Hp->List Addr->TE}(T:List Str)(idx:List Nat)
  (hi:PI X tg iter wi) (hcalm:X.calm=true) (hB:zQY X.env.scope X.N sc idx=true)
  (hg: ∀C s₂ H1 fp,PG (yV X sc T idx C s₂ H1 fp) tg g)
  (hc: ∀C s₂ H1 fp,yGY (yV X sc T idx C s₂ H1 fp) ifs (tc C s₂ H1 fp))
  (he: ∀C s₂ H1 fp,PE (yV X sc T idx C s₂ H1 fp) elt (te C s₂ H1 fp))
  (hs: ∀x,foldedSetIterable iter X.env x=pure x:=by intro _;rfl):
  PU X (.ListComp elt [⟨tg,iter,ifs,0⟩] sc pos) (yJA wi g tc te T.length idx):=by
 intro i x pos' spos hN hix hx hf hsw pins s σ H D I h
 rw [exec_Assign_Name_used _ _ _ _ hsw]
 refine wB0 (wpAny_standAt (wB0 ?_))
 rw [arm_evalThenUse_ListComp]
 refine wB0 (thn (zZO T idx hi hcalm hB hg hc he hs (use:=some (assign (.Name x pos') X.env)) (Q':=λ_ s'=> ∃σ' H',Inv X pins σ' H' s'/\D.nx σ' H') I h λDd C s4 H' _ J4 fo hm q=>?_) λ_ s' hq=>wP0 (wP0 hq))
 have I4:=J4 s4.heap (Heap.SameBut.refl _ _)
 refine wpAny_assign_Name (zVU I4 hN hix hx (show RelV (.ref Dd) (.ref Dd)from rfl) (λs' I' ⟨a,hs',ha⟩=>?_) hf)
 obtain⟨m,hm⟩:=hm
 have hCa:C≠a:=by
  rintro rfl
  rcases ha with ha|ha
  ·exact fo.2.1 ha
  ·exact fo.2.2.2.2.1 x _ ha rfl
 refine⟨m,hm.sameBut hs' hCa,λh' hs''=>⟨_,H',?_,q⟩⟩
 exact I'.turned (t':=s'.toks) (λb o hb e=>(hs''.2 b hb).trans e) fo.1 fo.2.1 fo.2.2.2.1 fo.2.2.2.2.1 fo.2.2.2.2.2
end
end L2
namespace L2
namespace M
open PySem PySem.Spec PyProof.Rows
theorem yTF{A:Around}{s:Shared}{y x:V}{u v:Value}(ry:RelV y u)(rx:RelV x v)(fy:gA y=true)(fx:gA x=true):SeqAt.RcAt A s u v (eqV y x):=by
 cases y with
 |non=>
  cases ry
  cases x with
  |non=>cases rx;exact SeqAt.RcAt.none_none
  |bl b=>cases rx;exact SeqAt.RcAt.none_bool b
  |int b=>obtain⟨t,rfl⟩:=rx;exact SeqAt.RcAt.none_int b t
  |str b=>obtain⟨t,rfl⟩:=rx;exact SeqAt.RcAt.none_str b t
  |_=>exact absurd (show false=true from fx) xF0
 |bl a=>
  cases ry
  cases x with
  |non=>cases rx;exact SeqAt.RcAt.bool_none a
  |bl b=>cases rx;exact SeqAt.RcAt.bool_bool a b
  |int b=>obtain⟨t,rfl⟩:=rx;exact SeqAt.RcAt.bool_int a b t
  |str b=>obtain⟨t,rfl⟩:=rx;exact SeqAt.RcAt.bool_str a b t
  |_=>exact absurd (show false=true from fx) xF0
 |int a=>
  obtain⟨t',rfl⟩:=ry
  cases x with
  |non=>cases rx;exact SeqAt.RcAt.int_none a t'
  |bl b=>cases rx;exact SeqAt.RcAt.int_bool a t' b
  |int b=>obtain⟨t,rfl⟩:=rx;exact SeqAt.RcAt.int_int a t' b t
  |str b=>obtain⟨t,rfl⟩:=rx;exact SeqAt.RcAt.int_str a t' b t
  |_=>exact absurd (show false=true from fx) xF0
 |str a=>
  obtain⟨t',rfl⟩:=ry
  cases x with
  |non=>cases rx;exact SeqAt.RcAt.str_none a t'
  |bl b=>cases rx;exact SeqAt.RcAt.str_bool a t' b
  |int b=>obtain⟨t,rfl⟩:=rx;exact SeqAt.RcAt.str_int a t' b t
  |str b=>obtain⟨t,rfl⟩:=rx;exact SeqAt.RcAt.str_str a t' b t
  |_=>exact absurd (show false=true from fx) xF0
 |_=>exact absurd (show false=true from fy) xF0
theorem yTG{A:Around}{s:Shared}{y x:V}{u v:Value}(ry:RelV y u)(rx:RelV x v)(fy:gA y=true)(fx:gA x=true):SeqAt.RcNeAt A s u v (!eqV y x):=by
 cases y with
 |non=>
  cases ry
  cases x with
  |non=>cases rx;exact SeqAt.RcNeAt.none_none
  |bl b=>cases rx;exact SeqAt.RcNeAt.none_bool b
  |int b=>obtain⟨t,rfl⟩:=rx;exact SeqAt.RcNeAt.none_int b t
  |str b=>obtain⟨t,rfl⟩:=rx;exact SeqAt.RcNeAt.none_str b t
  |_=>exact absurd (show false=true from fx) xF0
 |bl a=>
  cases ry
  cases x with
  |non=>cases rx;exact SeqAt.RcNeAt.bool_none a
  |bl b=>cases rx;exact SeqAt.RcNeAt.bool_bool a b
  |int b=>obtain⟨t,rfl⟩:=rx;exact SeqAt.RcNeAt.bool_int a b t
  |str b=>obtain⟨t,rfl⟩:=rx;exact SeqAt.RcNeAt.bool_str a b t
  |_=>exact absurd (show false=true from fx) xF0
 |int a=>
  obtain⟨t',rfl⟩:=ry
  cases x with
  |non=>cases rx;exact SeqAt.RcNeAt.int_none a t'
  |bl b=>cases rx;exact SeqAt.RcNeAt.int_bool a t' b
  |int b=>obtain⟨t,rfl⟩:=rx;exact SeqAt.RcNeAt.int_int a t' b t
  |str b=>obtain⟨t,rfl⟩:=rx;exact SeqAt.RcNeAt.int_str a t' b t
  |_=>exact absurd (show false=true from fx) xF0
 |str a=>
  obtain⟨t',rfl⟩:=ry
  cases x with
  |non=>cases rx;exact SeqAt.RcNeAt.str_none a t'
  |bl b=>cases rx;exact SeqAt.RcNeAt.str_bool a t' b
  |int b=>obtain⟨t,rfl⟩:=rx;exact SeqAt.RcNeAt.str_int a t' b t
  |str b=>obtain⟨t,rfl⟩:=rx;exact SeqAt.RcNeAt.str_str a t' b t
  |_=>exact absurd (show false=true from fx) xF0
 |_=>exact absurd (show false=true from fy) xF0
theorem eq_ll{A:Around}{s:Shared}{x:V}{v:Value}{l:Addr}{items:Array Value}(rx:RelV x v)(fx:gA x=true)(hl:s.heap.IsList l items)(hu:A.units<cLine):SeqAt.EqAt A s (.ref l) v false:=by
 cases x with
 |non=>cases rx;exact SeqAt.EqAt.list_none hl hu
 |bl b=>cases rx;exact SeqAt.EqAt.list_bool b hl hu
 |int b=>obtain⟨t,rfl⟩:=rx;exact SeqAt.EqAt.list_int b t hl hu
 |str b=>obtain⟨t,rfl⟩:=rx;exact SeqAt.EqAt.list_str b t hl hu
 |_=>exact absurd (show false=true from fx) xF0
theorem eq_lr{A:Around}{s:Shared}{x:V}{v:Value}{l:Addr}{items:Array Value}(rx:RelV x v)(fx:gA x=true)(hl:s.heap.IsList l items)(hu:A.units<cLine):SeqAt.EqAt A s v (.ref l) false:=by
 cases x with
 |non=>cases rx;exact SeqAt.EqAt.none_list hl hu
 |bl b=>cases rx;exact SeqAt.EqAt.bool_list b hl hu
 |int b=>obtain⟨t,rfl⟩:=rx;exact SeqAt.EqAt.int_list b t hl hu
 |str b=>obtain⟨t,rfl⟩:=rx;exact SeqAt.EqAt.str_list b t hl hu
 |_=>exact absurd (show false=true from fx) xF0
theorem yRC{A:Around}{s:Shared}{x:V}{v:Value}{l:Addr}{items:Array Value}(rx:RelV x v)(fx:gA x=true)(hl:s.heap.IsTuple l items)(hu:A.units<cLine):SeqAt.EqAt A s (.ref l) v false:=by
 cases x with
 |non=>cases rx;exact SeqAt.EqAt.tuple_none hl hu
 |bl b=>cases rx;exact SeqAt.EqAt.tuple_bool b hl hu
 |int b=>obtain⟨t,rfl⟩:=rx;exact SeqAt.EqAt.tuple_int b t hl hu
 |str b=>obtain⟨t,rfl⟩:=rx;exact SeqAt.EqAt.tuple_str b t hl hu
 |_=>exact absurd (show false=true from fx) xF0
theorem yRD{A:Around}{s:Shared}{x:V}{v:Value}{l:Addr}{items:Array Value}(rx:RelV x v)(fx:gA x=true)(hl:s.heap.IsTuple l items)(hu:A.units<cLine):SeqAt.EqAt A s v (.ref l) false:=by
 cases x with
 |non=>cases rx;exact SeqAt.EqAt.none_tuple hl hu
 |bl b=>cases rx;exact SeqAt.EqAt.bool_tuple b hl hu
 |int b=>obtain⟨t,rfl⟩:=rx;exact SeqAt.EqAt.int_tuple b t hl hu
 |str b=>obtain⟨t,rfl⟩:=rx;exact SeqAt.EqAt.str_tuple b t hl hu
 |_=>exact absurd (show false=true from fx) xF0
theorem rc_ll{A:Around}{s:Shared}{x:V}{v:Value}{l:Addr}{items:Array Value}(rx:RelV x v)(fx:gA x=true)(hl:s.heap.IsList l items)(hu:A.units<cLine):SeqAt.RcAt A s (.ref l) v false:=by
 cases x with
 |non=>cases rx;exact SeqAt.RcAt.list_none hl hu
 |bl b=>cases rx;exact SeqAt.RcAt.list_bool b hl hu
 |int b=>obtain⟨t,rfl⟩:=rx;exact SeqAt.RcAt.list_int b t hl hu
 |str b=>obtain⟨t,rfl⟩:=rx;exact SeqAt.RcAt.list_str b t hl hu
 |_=>exact absurd (show false=true from fx) xF0
theorem rc_lr{A:Around}{s:Shared}{x:V}{v:Value}{l:Addr}{items:Array Value}(rx:RelV x v)(fx:gA x=true)(hl:s.heap.IsList l items)(hu:A.units<cLine):SeqAt.RcAt A s v (.ref l) false:=by
 cases x with
 |non=>cases rx;exact SeqAt.RcAt.none_list hl hu
 |bl b=>cases rx;exact SeqAt.RcAt.bool_list b hl hu
 |int b=>obtain⟨t,rfl⟩:=rx;exact SeqAt.RcAt.int_list b t hl hu
 |str b=>obtain⟨t,rfl⟩:=rx;exact SeqAt.RcAt.str_list b t hl hu
 |_=>exact absurd (show false=true from fx) xF0
theorem rc_tl{A:Around}{s:Shared}{x:V}{v:Value}{l:Addr}{items:Array Value}(rx:RelV x v)(fx:gA x=true)(hl:s.heap.IsTuple l items)(hu:A.units<cLine):SeqAt.RcAt A s (.ref l) v false:=by
 cases x with
 |non=>cases rx;exact SeqAt.RcAt.tuple_none hl hu
 |bl b=>cases rx;exact SeqAt.RcAt.tuple_bool b hl hu
 |int b=>obtain⟨t,rfl⟩:=rx;exact SeqAt.RcAt.tuple_int b t hl hu
 |str b=>obtain⟨t,rfl⟩:=rx;exact SeqAt.RcAt.tuple_str b t hl hu
 |_=>exact absurd (show false=true from fx) xF0
theorem rc_tr{A:Around}{s:Shared}{x:V}{v:Value}{l:Addr}{items:Array Value}(rx:RelV x v)(fx:gA x=true)(hl:s.heap.IsTuple l items)(hu:A.units<cLine):SeqAt.RcAt A s v (.ref l) false:=by
 cases x with
 |non=>cases rx;exact SeqAt.RcAt.none_tuple hl hu
 |bl b=>cases rx;exact SeqAt.RcAt.bool_tuple b hl hu
 |int b=>obtain⟨t,rfl⟩:=rx;exact SeqAt.RcAt.int_tuple b t hl hu
 |str b=>obtain⟨t,rfl⟩:=rx;exact SeqAt.RcAt.str_tuple b t hl hu
 |_=>exact absurd (show false=true from fx) xF0
theorem rn_ll{A:Around}{s:Shared}{x:V}{v:Value}{l:Addr}{items:Array Value}(rx:RelV x v)(fx:gA x=true)(hl:s.heap.IsList l items)(hu:A.units<cLine):SeqAt.RcNeAt A s (.ref l) v true:=by
 cases x with
 |non=>cases rx;exact SeqAt.RcNeAt.list_none hl hu
 |bl b=>cases rx;exact SeqAt.RcNeAt.list_bool b hl hu
 |int b=>obtain⟨t,rfl⟩:=rx;exact SeqAt.RcNeAt.list_int b t hl hu
 |str b=>obtain⟨t,rfl⟩:=rx;exact SeqAt.RcNeAt.list_str b t hl hu
 |_=>exact absurd (show false=true from fx) xF0
theorem rn_lr{A:Around}{s:Shared}{x:V}{v:Value}{l:Addr}{items:Array Value}(rx:RelV x v)(fx:gA x=true)(hl:s.heap.IsList l items)(hu:A.units<cLine):SeqAt.RcNeAt A s v (.ref l) true:=by
 cases x with
 |non=>cases rx;exact SeqAt.RcNeAt.none_list hl hu
 |bl b=>cases rx;exact SeqAt.RcNeAt.bool_list b hl hu
 |int b=>obtain⟨t,rfl⟩:=rx;exact SeqAt.RcNeAt.int_list b t hl hu
 |str b=>obtain⟨t,rfl⟩:=rx;exact SeqAt.RcNeAt.str_list b t hl hu
 |_=>exact absurd (show false=true from fx) xF0
theorem rn_tl{A:Around}{s:Shared}{x:V}{v:Value}{l:Addr}{items:Array Value}(rx:RelV x v)(fx:gA x=true)(hl:s.heap.IsTuple l items)(hu:A.units<cLine):SeqAt.RcNeAt A s (.ref l) v true:=by
 cases x with
 |non=>cases rx;exact SeqAt.RcNeAt.tuple_none hl hu
 |bl b=>cases rx;exact SeqAt.RcNeAt.tuple_bool b hl hu
 |int b=>obtain⟨t,rfl⟩:=rx;exact SeqAt.RcNeAt.tuple_int b t hl hu
 |str b=>obtain⟨t,rfl⟩:=rx;exact SeqAt.RcNeAt.tuple_str b t hl hu
 |_=>exact absurd (show false=true from fx) xF0
theorem rn_tr{A:Around}{s:Shared}{x:V}{v:Value}{l:Addr}{items:Array Value}(rx:RelV x v)(fx:gA x=true)(hl:s.heap.IsTuple l items)(hu:A.units<cLine):SeqAt.RcNeAt A s v (.ref l) true:=by
 cases x with
 |non=>cases rx;exact SeqAt.RcNeAt.none_tuple hl hu
 |bl b=>cases rx;exact SeqAt.RcNeAt.bool_tuple b hl hu
 |int b=>obtain⟨t,rfl⟩:=rx;exact SeqAt.RcNeAt.int_tuple b t hl hu
 |str b=>obtain⟨t,rfl⟩:=rx;exact SeqAt.RcNeAt.str_tuple b t hl hu
 |_=>exact absurd (show false=true from fx) xF0
theorem yJD{y:V}(h:gA y=true):eqV y y=true:=by
 cases y<;>first |rfl|(simp [eqV];done)|exact absurd (show false=true from h) xF0
inductive NK where
 |key (k:Key)|tup (ks:List NK)
noncomputable instance:DecidableEq NK:=λ_ _=>Classical.propDecidable _
section
variable{prog:Program}{w:World}(knd:KeyKind prog w Key)
mutual
def isN(h:Heap):NK->Value->Prop
 |.key k,v=>knd.is k v=true
 |.tup ks,v=> ∃a o items n,v=.ref a/\h.get? a=some o/\o.cls=.type "tuple"/\o.data=.seq items n/\zMF h ks items.toList
def zMF(h:Heap):List NK->List Value->Prop
 |[],vs=>vs=[]
 |k::ks,vs=> ∃v r,vs=v::r/\isN h k v/\zMF h ks r
end
mutual
def zKB:NK->Int
 |.key k=>knd.hash k
 |.tup ks=>reduceHash (Builtin.Tuple.tupleHashOf (zSQ ks))
def zSQ:List NK->List Int
 |[]=>[]
 |k::ks=>zKB k::zSQ ks
end
mutual
def zSR:NK->Nat
 |.key _=>1
 |.tup ks=>zAG ks+1
def zAG:List NK->Nat
 |[]=>0
 |k::ks=>zSR k+zAG ks
end
mutual
def zRL:NK->Nat
 |.key _=>0
 |.tup ks=>zQZ ks+1
def zQZ:List NK->Nat
 |[]=>0
 |k::ks=>max (zRL k) (zQZ ks)
end
variable{knd}
theorem cE{h:Heap}{k:Key}{v:Value}:isN knd h (.key k) v↔knd.is k v=true:=by unfold isN;exact Iff.rfl
theorem jO{h:Heap}{ks:List NK}{v:Value}:isN knd h (.tup ks) v↔ ∃a o items n,v=.ref a/\h.get? a=some o/\o.cls=.type "tuple"/\o.data=.seq items n/\zMF knd h ks items.toList:=by
 conv=>lhs;unfold isN
theorem gQ{h:Heap}{vs:List Value}:zMF knd h [] vs↔vs=[]:=by unfold zMF;exact Iff.rfl
theorem wC{h:Heap}{k:NK}{ks:List NK}{vs:List Value}:zMF knd h (k::ks) vs↔ ∃v r,vs=v::r/\isN knd h k v/\zMF knd h ks r:=by
 conv=>lhs;unfold zMF
mutual
theorem zXI{h:Heap}: ∀{x y:NK}{v:Value},isN knd h x v->isN knd h y v->x=y
 |.key k,.key k',v,hx,hy=>by rw [knd.inj v k k' (cE.mp hx) (cE.mp hy)]
 |.key k,.tup ks,v,hx,hy=>by
  obtain⟨a,o,items,n,rfl,_⟩:=jO.mp hy
  have:=knd.byValue _ _ (cE.mp hx)
  simp [carriedByValue]at this
 |.tup ks,.key k,v,hx,hy=>by
  obtain⟨a,o,items,n,rfl,_⟩:=jO.mp hx
  have:=knd.byValue _ _ (cE.mp hy)
  simp [carriedByValue]at this
 |.tup ks,.tup ks',v,hx,hy=>by
  obtain⟨a,o,items,n,e,ho,_,hd,hi⟩:=jO.mp hx
  obtain⟨a',o',items',n',e',ho',_,hd',hi'⟩:=jO.mp hy
  rw [e]at e'
  cases e'
  obtain rfl:o=o':=Option.some.inj (ho.symm.trans ho')
  rw [hd]at hd'
  injection hd' with h1 _
  subst h1
  rw [zZQ hi hi']
theorem zZQ{h:Heap}: ∀{xs ys:List NK}{vs:List Value},zMF knd h xs vs->zMF knd h ys vs->xs=ys
 |[],[],_,_,_=>rfl
 |[],y::ys,vs,hx,hy=>by
  obtain⟨v,r,e,_⟩:=wC.mp hy
  rw [gQ.mp hx]at e;cases e
 |x::xs,[],vs,hx,hy=>by
  obtain⟨v,r,e,_⟩:=wC.mp hx
  rw [gQ.mp hy]at e;cases e
 |x::xs,y::ys,vs,hx,hy=>by
  obtain⟨v,r,e,h1,h2⟩:=wC.mp hx
  obtain⟨v',r',e',h1',h2'⟩:=wC.mp hy
  rw [e]at e'
  cases e'
  rw [zXI h1 h1',zZQ h2 h2']
end
mutual
theorem zZR{h h':Heap}(m: ∀a o items n,h.get? a=some o->o.data=.seq items n->h'.get? a=some o): ∀{x:NK}{v:Value},isN knd h x v->isN knd h' x v
 |.key k,v,hx=>cE.mpr (cE.mp hx)
 |.tup ks,v,hx=>by
  obtain⟨a,o,items,n,e,ho,hc,hd,hi⟩:=jO.mp hx
  exact jO.mpr ⟨a,o,items,n,e,m a o items n ho hd,hc,hd,zWC m hi⟩
theorem zWC{h h':Heap}(m: ∀a o items n,h.get? a=some o->o.data=.seq items n->h'.get? a=some o): ∀{xs:List NK}{vs:List Value},zMF knd h xs vs->zMF knd h' xs vs
 |[],vs,hx=>gQ.mpr (gQ.mp hx)
 |x::xs,vs,hx=>by
  obtain⟨v,r,e,h1,h2⟩:=wC.mp hx
  exact wC.mpr ⟨v,r,e,zZR m h1,zWC m h2⟩
end
theorem zSS: ∀ks:List NK,zSQ knd ks=ks.map (zKB knd)
 |[]=>by unfold zSQ;rfl
 |k::ks=>by unfold zSQ;rw [zSS ks];rfl
theorem zMU:zAG []=0:=by rw [zAG]
theorem zKC(k:NK)(ks:List NK):zAG (k::ks)=zSR k+zAG ks:=by rw [zAG]
theorem zST(k:NK)(ks:List NK):zQZ (k::ks)=max (zRL k) (zQZ ks):=by rw [zQZ]
theorem zGY(ks:List NK):zRL (.tup ks)=zQZ ks+1:=by rw [zRL]
theorem zMI: ∀(xs ys:List NK),zAG (xs++ys)=zAG xs+zAG ys
 |[],ys=>by rw [zMU,nil_append,Nat.zero_add]
 |x::xs,ys=>by rw [cons_append,zKC,zKC,zMI xs ys];omega
theorem zOE{s:Shared}{ks:List NK}{a:Addr}(h:isN knd s.heap (.tup ks) (.ref a)):s.TypeIs (.ref a) "tuple":=by
 obtain⟨a',o,items,n,e,ho,hc,_⟩:=jO.mp h
 cases e
 exact⟨o,ho,hc⟩
theorem zZS: ∀(n:Nat){A:Around}{E:Value->Shared->Prop}{s:Shared}{k:NK}{v:Value}{Q:Int->Shared->Prop},zRL k<=n->A.units+n<cLine->isN knd s.heap k v->Q (zKB knd k) {s with toks:=s.toks+zSR k}->wpAny (model prog w) A (pyHash v) Q E s
 |n,A,E,s,.key k,v,Q,_,_,hk,h=>knd.pyHash (cE.mp hk) (by rw [zKB,zSR]at h;exact h)
 |0,A,E,s,.tup ks,v,Q,hd,_,_,_=>by rw [zGY]at hd;omega
 |n+1,A,E,s,.tup ks,v,Q,hdep,hu,hk,h=>by
  obtain⟨a,o,items,m,rfl,ho,hc,hd,hi⟩:=jO.mp hk
  have hT:s.TypeIs (.ref a) "tuple":=⟨o,ho,hc⟩
  rw [zGY]at hdep
  have hdl: ∀k∈ks,zRL k<=n:=by
   have: ∀ks:List NK,zQZ ks<=n-> ∀k∈ks,zRL k<=n:=by
    intro ks
    induction ks with
    |nil=>intro _ k hk;simp at hk
    |cons x xs ih=>
     intro hx k hk
     rw [zST]at hx
     rcases mC0.mp hk with rfl|hk
     ·omega
     ·exact ih (by omega) k hk
   exact this ks (by omega)
  rw [zKB,zSR,zSS]at h
  unfold pyHash
  first |unfold pyHashByItsType|skip
  first |refine wB0 (wpAny_cRoomFor_or (.inr (show A.units<cLine by omega)) ?_)|skip
  refine wB0 (wpAny_specialOf hT F.slot_tuple_hash.lookup ?_)
  show wpAny _ _ (if(some (Value.builtin "tuple.__hash__")==some Value.none)=true then _ else _) Q E s
  rw [iN0 (by rw [beq_builtin_none];exact xF0)]
  refine wB0 (wpAny_specialOf hT F.slot_tuple_hash.lookup ?_)
  show wpAny _ _ (callSpecialIfBoundUnlessNone? (.ref a) "__hash__" _ >>= _) Q E s
  refine wB0 (wpAny_callSpecialIfBoundUnlessNone?_slot hT F.slot_tuple_hash (wpAny_call_entry F.slot_tuple_hash hT F.entry_tuple_hash ?_ (F.args_tuple_hash_1 _)))
  show wpAny _ _ (Builtin.Tuple.tupleItemsOf (.ref a) >>= _) _ _ s
  refine wB0 (wpAny_tupleItemsOf ho hd ?_)
  refine wB0 ?_
  rw [<-Array.forIn_toList]
  refine wpAny_forIn_list _
   (λrest (b:Array Int) s'=> ∃done left,ks=done++left/\zMF knd s.heap left rest/\b.toList=done.map (zKB knd)/\s'={s with toks:=s.toks+zAG done})
   _ ?_ ?_ _ _ ⟨[],ks,rfl,hi,rfl,by rw [zMU];rfl⟩
  ·rintro x rest b s' ⟨done,left,rfl,hl,hb,rfl⟩
   cases left with
   |nil=>rw [gQ]at hl;cases hl
   |cons k ks'=>
    obtain⟨v,r,e,h1,hl'⟩:=wC.mp hl
    cases e
    refine wB0 (zZS n (hdl k (by simp)) (show A.units+1+n<cLine by omega) h1 ?_)
    have e1:zAG (done++[k])=zAG done+zSR k:=by rw [zMI,zKC,zMU];rfl
    first
     |exact wP0 ⟨done++[k],ks',by simp,hl',by simp [hb],by simp [add_assoc,e1]⟩
     |exact wB0 (wP0 (wP0 ⟨done++[k],ks',by simp,hl',by simp [hb],by simp [add_assoc,e1]⟩))
  ·rintro b s' ⟨done,left,rfl,hl,hb,rfl⟩
   cases left with
   |cons k ks'=>obtain⟨v,r,e,_⟩:=wC.mp hl;cases e
   |nil=>
    rw [aN]at h
    show wpAny _ _ (retInt (Builtin.Tuple.tupleHashOf b.toList)) _ _ _
    rw [hb]
    refine wpAny_ret_mkInt ?_
    show wpAny _ _ (if(decide (-(2:Int) ^ 63<=Builtin.Tuple.tupleHashOf (done.map (zKB knd)))&&decide (Builtin.Tuple.tupleHashOf (done.map (zKB knd))<2 ^ 63))=true then _ else _) Q E _
    unfold reduceHash at h
    by_cases hr:(decide (-(2:Int) ^ 63<=Builtin.Tuple.tupleHashOf (done.map (zKB knd)))&&decide (Builtin.Tuple.tupleHashOf (done.map (zKB knd))<2 ^ 63))=true
    ·rw [iP hr]
     rw [iP hr]at h
     exact wP0 (by simpa [add_assoc]using h)
    ·rw [iN0 hr]
     rw [iN0 hr]at h
     exact wB0 (wpAny_rule (wP0 (by simpa [add_assoc]using h)))
end
section
variable{prog:Program}{w:World}
abbrev mk(prog:Program)(w:World):KeyKind prog w Key:=zEQ prog w
theorem yOA(a b:Key):decide (NK.key a=NK.key b)=decide (a=b):=by
 by_cases h:a=b
 ·subst h;simp
 ·rw [dF0 h,dF0 λz=>h (NK.key.inj z)]
theorem yTH(a:Key)(b:List NK):decide (NK.key a=NK.tup b)=false:=dF0 λz=>nomatch z
theorem yTI(a:Key)(b:List NK):decide (NK.tup b=NK.key a)=false:=dF0 λz=>nomatch z
theorem yTJ(a b:List NK):decide (NK.tup a=NK.tup b)=decide (a=b):=by
 by_cases h:a=b
 ·subst h;simp
 ·rw [dF0 h,dF0 λz=>h (NK.tup.inj z)]
theorem zZT{k:Key}{v:Value}(h:(mk prog w).is k v=true): ∃x:V,RelV x v/\gA x=true:=by
 rcases wN (show zZH k v=true from h)with⟨i,t,rfl,rfl⟩|⟨x,t,rfl,rfl⟩
 ·exact⟨.int i,⟨t,rfl⟩,rfl⟩
 ·exact⟨.str x,⟨t,rfl⟩,rfl⟩
theorem yHB{A:Around}{E:Value->Shared->Prop}{s:Shared}{x y:List NK}{a b:Addr}{P:Fin->Shared->Prop}
  (he: ∀k1∈x, ∀k2 u v (Q:Bool->Shared->Prop),isN (mk prog w) s.heap k1 u->isN (mk prog w) s.heap k2 v->Q (decide (k1=k2)) s->wpAny (model prog w) A (eqBool u v) Q E s)
  (hx:isN (mk prog w) s.heap (.tup x) (.ref a)) (hy:isN (mk prog w) s.heap (.tup y) (.ref b)) (h:P (.done (.ret (.bool (decide (x=y))))) s):
  wpAny (model prog w) A (Builtin.«tuple.__eq__» ⟨[.ref a,.ref b],[]⟩) P E s:=by
 have hTb:=zOE hy
 obtain⟨_,oa,xs,na,e,hoa,_,hda,hia⟩:=jO.mp hx
 cases e
 obtain⟨_,ob,ys,nb,e,hob,_,hdb,hib⟩:=jO.mp hy
 cases e
 show wpAny _ _ (isInstance (.ref b) (.type "tuple") >>= _) _ _ s
 refine wB0 (wpAny_isInstance hTb isSubtype_tuple_tuple ?_)
 simp only [Bool.not_true,fT,iF]
 refine wB0 (wpAny_tupleItemsOf hoa hda ?_)
 refine wB0 (wpAny_tupleItemsOf hob hdb ?_)
 refine wB0 ?_
 refine wpAny_forIn_list _
  (λrest r s'=>r.1=none/\s'=s/\ ∃x' y' xs' ys',rest=List.zip xs' ys'/\(∀k∈x',k∈x)/\zMF (mk prog w) s.heap x' xs'/\zMF (mk prog w) s.heap y' ys'/\decide (x'=y')=decide (x=y)/\(xs'.length==ys'.length)=(xs.size==ys.size))
  _ ?_ ?_ _ _ ⟨rfl,rfl,x,y,xs.toList,ys.toList,rfl,λk hk=>hk,hia,hib,rfl,by simp⟩
 ·rintro⟨u,v⟩ rest r s' ⟨hr,rfl,x',y',xs',ys',hz,hm,hx',hy',hdec,hlen⟩
  cases x' with
  |nil=>rw [gQ.mp hx']at hz;simp at hz
  |cons k1 x''=>
   cases y' with
   |nil=>rw [gQ.mp hy']at hz;simp at hz
   |cons k2 y''=>
    obtain⟨u',xs'',rfl,h1,hx''⟩:=wC.mp hx'
    obtain⟨v',ys'',rfl,h2,hy''⟩:=wC.mp hy'
    simp only [zip_cons_cons,List.cons.injEq,Prod.mk.injEq]at hz
    obtain⟨⟨rfl,rfl⟩,rfl⟩:=hz
    refine wB0 (he k1 (hm k1 mF0) k2 _ _ _ h1 h2 ?_)
    by_cases hk:k1=k2
    ·subst hk
     rw [dT0 rfl]
     simp only [Bool.not_true,fT,iF]
     refine wP0 ⟨rfl,rfl,x'',y'',xs'',ys'',rfl,λk hk=>hm k (mO _ hk),hx'',hy'',?_,by simpa using hlen⟩
     rw [<-hdec]
     by_cases hxy:x''=y''
     ·simp [hxy]
     ·simp [hxy]
    ·rw [dF0 hk]
     simp only [Bool.not_false,if_true]
     have hf:decide (x=y)=false:=by rw [<-hdec];simp [hk]
     rw [hf]at h
     exact wB0 (wP0 (wP0 (wP0 h)))
 ·rintro⟨r1,r2⟩ s' ⟨hr,rfl,x',y',xs',ys',hz,hm,hx',hy',hdec,hlen⟩
  simp only at hr
  subst hr
  refine wP0 ?_
  have hfin:(xs.size==ys.size)=decide (x=y):=by
   rw [<-hdec, <-hlen]
   cases x' with
   |nil=>
    rw [gQ.mp hx']
    cases y' with
    |nil=>rw [gQ.mp hy'];simp
    |cons k2 y''=>obtain⟨v',ys'',rfl,h2,hy''⟩:=wC.mp hy';simp
   |cons k1 x''=>
    obtain⟨u',xs'',rfl,h1,hx''⟩:=wC.mp hx'
    cases y' with
    |nil=>rw [gQ.mp hy'];simp
    |cons k2 y''=>obtain⟨v',ys'',rfl,h2,hy''⟩:=wC.mp hy';simp at hz
  show P (.done (.ret (.bool (xs.size==ys.size)))) s'
  rw [hfin];exact h
theorem zSU{n:Nat}: ∀{ks:List NK},zQZ ks<=n-> ∀k∈ks,zRL k<=n
 |[],_,k,hk=>by simp at hk
 |x::xs,hx,k,hk=>by
  rw [zST]at hx
  rcases mC0.mp hk with rfl|hk
  ·omega
  ·exact zSU (by omega) k hk
theorem zZU: ∀(n:Nat){A:Around}{E:Value->Shared->Prop}{s:Shared}{x y:NK}{u v:Value}{Q:Bool->Shared->Prop},zRL x<=n->A.units+n<cLine->isN (mk prog w) s.heap x u->isN (mk prog w) s.heap y v->Q (decide (x=y)) s->wpAny (model prog w) A (eqBool u v) Q E s
 |n,A,E,s,.key a,.key b,u,v,Q,_,_,hx,hy,h=>(mk prog w).eqBool (cE.mp hx) (cE.mp hy) (by rw [yOA]at h;exact h)
 |n,A,E,s,.key a,.tup b,u,v,Q,_,hu,hx,hy,h=>by
  obtain⟨z,rz,fz⟩:=zZT (cE.mp hx)
  obtain⟨l,o,items,m,rfl,ho,hc,hd,_⟩:=jO.mp hy
  rw [yTH]at h
  exact yRD rz fz (items:=items) ⟨o,ho,hc,m,hd⟩ (by omega) prog w E Q h
 |n,A,E,s,.tup a,.key b,u,v,Q,_,hu,hx,hy,h=>by
  obtain⟨z,rz,fz⟩:=zZT (cE.mp hy)
  obtain⟨l,o,items,m,rfl,ho,hc,hd,_⟩:=jO.mp hx
  rw [yTI]at h
  exact yRC rz fz (items:=items) ⟨o,ho,hc,m,hd⟩ (by omega) prog w E Q h
 |0,A,E,s,.tup a,.tup b,u,v,Q,hd,_,hx,hy,h=>by rw [zGY]at hd;omega
 |n+1,A,E,s,.tup x,.tup y,u,v,Q,hd,hu,hx,hy,h=>by
  obtain⟨a,_,_,_,ea,_⟩:=jO.mp hx
  obtain⟨b,_,_,_,eb,_⟩:=jO.mp hy
  subst ea eb
  rw [zGY]at hd
  rw [yTJ]at h
  unfold eqBool
  try with_reducible refine wpAny_holding ?_
  show wpAny _ _ (if(Value.ref a==Value.ref b)=true then _ else _) Q E s
  by_cases hab:(Value.ref a==Value.ref b)=true
  ·rw [iP hab]
   have e:a=b:=by have:=eq_of_beq hab;injection this
   subst e
   have:x=y:=NK.tup.inj (zXI hx hy)
   subst this
   exact wB0 (wpAny_rule (wP0 (by simpa using h)))
  ·rw [iN0 hab]
   refine wB0 (wpAny_richCompare_same_room (op:=.Eq) (zOE hx) (zOE hy) F.slot_tuple_eq
    (wpAny_call_entry F.slot_tuple_eq (zOE hx) F.entry_tuple_eq (yHB (λk1 hk1 k2 u v Q h1 h2 h3=>zZU n (zSU (by omega) k1 hk1) (show A.units+1+n<cLine by omega) h1 h2 h3) hx hy ⟨_,rfl,(λe=>nomatch e),wpAny_truthy_bool h⟩) (F.args_tuple_eq_2 _ _)) (by omega))
theorem yEL: ∀(n m:Nat){A:Around}{E:Value->Shared->Prop}{s:Shared}{x:NK}{u:Value}{Q:Bool->Shared->Prop},zRL x<=n->n<m->isN (mk prog w) s.heap x u->Q true s->wpAny (model prog w) A (eqIsQuiet m u) Q E s
 |n,m,A,E,s,.key k,u,Q,_,_,hx,h=>by
  rw [eqIsQuiet_byValue m ((mk prog w).byValue _ _ (cE.mp hx))]
  exact wP0 h
 |0,m,A,E,s,.tup ks,u,Q,hd,_,hx,h=>by rw [zGY]at hd;omega
 |n+1,0,A,E,s,.tup ks,u,Q,hd,hm,hx,h=>by omega
 |n+1,m+1,A,E,s,.tup ks,u,Q,hdp,hm,hx,h=>by
  obtain⟨a,o,items,j,rfl,ho,hc,hd,hi⟩:=jO.mp hx
  have hT:s.TypeIs (.ref a) "tuple":=⟨o,ho,hc⟩
  rw [zGY]at hdp
  unfold eqIsQuiet
  refine wB0 (wpAny_specialOf hT F.slot_tuple_eq.lookup ?_)
  show wpAny _ _ (isInstance (.ref a) (.type "tuple") >>= _) _ _ s
  refine wB0 (wpAny_isInstance hT isSubtype_tuple_tuple ?_)
  simp only [Bool.not_true,fT,iF]
  refine wB0 (wpAny_seqItems ho hd ?_)
  refine wB0 ?_
  show wpAny _ _ (forIn items _ _) _ _ s
  rw [<-Array.forIn_toList]
  refine wpAny_forIn_list _ (λrest r s'=>r.1=none/\s'=s/\ ∃left,(∀k∈left,k∈ks)/\zMF (mk prog w) s.heap left rest) _ ?_ ?_ _ _ ⟨rfl,rfl,ks,λk hk=>hk,hi⟩
  ·rintro v rest r s' ⟨hr,rfl,left,hm',hl⟩
   cases left with
   |nil=>rw [gQ]at hl;cases hl
   |cons k left=>
    obtain⟨v',r',e,h1,h2⟩:=wC.mp hl
    cases e
    refine wB0 (yEL n m (zSU (by omega) k (hm' k mF0)) (by omega) h1 ?_)
    simp only [Bool.not_true,fT,iF]
    exact wP0 ⟨rfl,rfl,left,λk hk=>hm' k (mO _ hk),h2⟩
  ·rintro⟨r1,r2⟩ s' ⟨hr,rfl,_⟩
   simp only at hr
   subst hr
   exact wP0 h
end
noncomputable def yJE(prog:Program)(w:World):HeapKind prog w NK where
 is:=λh k a=>isN (mk prog w) h k (.ref a)/\zRL k<=4
 hash:=zKB (mk prog w)
 draws:=zSR
 room:=λA=>A.units+4<cLine
 inj:=λhx hy=>zXI hx.1 hy.1
 keeps:=λx ho hd hs=>⟨zZR (λa o' items n e q=>(hs.2 a λz=>by
  subst z
  rw [ho]at e;cases e
  rw [hd]at q;cases q).trans e) x.1,x.2⟩
 pyHash:=λhu hk h=>zZS 4 hk.2 hu hk.1 h
 eqBool:=λhu hx hy h=>zZU 4 hx.2 hu hx.1 hy.1 h
 quiet:=λhk h=>yEL 4 8 hk.2 (by decide) hk.1 h
def DN(P:Program)(w:World)(a:Addr)(xs:List (NK×Addr×Value)):HO:=
 .ext λh=>xs.length<=sizeLine/\(a==sysModules)=false/\ ∃o es ep,h.get? a=some o/\o.ExactDict/\o.data=.dict es ep/\es.toList=xs.map (entryOfKey (yJE P w))/\(xs.map (·.1)).Nodup
end M
end L2
namespace L2
open PySem PySem.Spec PyProof.Rows
def Fly(h:Heap)(e T:Addr)(cls:Value)(d:Option Addr)(fl:Value):Prop:=
 ∃oe vs oT ts,h.get? e=some oe/\oe.cls=cls/\oe.dict=d/\oe.data=.fields vs/\vs[1]? =some (.ref T)/\T≠e/\h.get? T=some oT/\oT.data=.fields ts/\ts[3]? =some fl
def Born(h:Heap)(e:Addr)(cls:Value)(d:Option Addr):Prop:= ∃oe vs,h.get? e=some oe/\oe.cls=cls/\oe.dict=d/\oe.data=.fields vs/\vs[1]? =some .none
structure Mvd(fs:List Addr)(e T:Addr)(h h':Heap):Prop where
 keep: ∀b o,b≠e->b≠T->b∉fs->h.get? b=some o->h'.get? b=some o
 slot: ∀b o,b≠e->b≠T->h.get? b=some o-> ∃sl,h'.get? b=some {o with slots:=sl}
 there: ∀b o,h.get? b=some o-> ∃o',h'.get? b=some o'
theorem Mvd.trans{fs:List Addr}{e T:Addr}{h h1 h2:Heap}(a:Mvd fs e T h h1)(b:Mvd fs e T h1 h2):Mvd fs e T h h2 where
 keep:=λc o h1 h2 h3 q=>b.keep c o h1 h2 h3 (a.keep c o h1 h2 h3 q)
 slot:=λc o h1 h2 q=>by
  obtain⟨sl,e1⟩:=a.slot c o h1 h2 q
  obtain⟨sl',e2⟩:=b.slot c _ h1 h2 e1
  exact⟨sl',e2⟩
 there:=λc o q=>let ⟨o',e1⟩:=a.there c o q;b.there c o' e1
theorem Mvd.new{fs:List Addr}{e T T':Addr}{h h1 h2:Heap}(a:Mvd fs e T h h1)(n:h.get? T'=none)(b:Mvd fs e T' h1 h2):Mvd fs e T h h2:=by
 have ne: ∀c o,h.get? c=some o->c≠T':=λc o q z=>by rw [z,n]at q;cases q
 exact⟨λc o h1 h2 h3 q=>b.keep c o h1 (ne c o q) h3 (a.keep c o h1 h2 h3 q),λc o h1 h2 q=>by
  obtain⟨sl,e1⟩:=a.slot c o h1 h2 q
  obtain⟨sl',e2⟩:=b.slot c _ h1 (ne c o q) e1
  exact⟨sl',e2⟩,λc o q=>let ⟨o',e1⟩:=a.there c o q;b.there c o' e1⟩
theorem zSV(f:Array Value->Array Value)(o:Obj):(Obj.mapFields f o).dict=o.dict:=by
 obtain⟨c,d,dt,sl⟩:=o;cases dt<;>rfl
section
variable{M:Model}{A:Around}{E:Value->Shared->Prop}{s:Shared}{base:Heap}{env:Env}{outer:List Env}{L e T:Addr}{cls:Value}{d:Option Addr}{Q:Unit->Shared->Prop}
theorem yJF{oe:Obj}{vs:Array Value}{head:Value}{hadNext:Bool}(hfr:A.frames=some (env::outer))(hl:s.heap.FunFrames base (env::outer))(hf:env.frame=some L)
  (he:s.heap.get? e=some oe) (hd:oe.data=.fields vs) (hsz:1<vs.size)
  (h: ∀h' T',s.heap.get? T'=none->Mvd (frs (env::outer)) e e s.heap h'->Fly h' e T' oe.cls oe.dict (rawInt L)->Q () {s with heap:=h'}):
  wpAny M A (do let a <-frameOf env;let pl <-entryPlaceOf L hadNext;let b <-EntryCells.newEntry head a .none (rawInt L) .none pl;setField (.ref e) 1 b) Q E s:=by
 have hene:e∉(env::outer).filterMap (·.frame):=λhm=>by
  obtain⟨_,o,ho,hnf⟩:=hl.mem hm
  rw [he]at ho;injection ho with ho;subst ho;exact hnf vs hd
 refine wB0 (wpAny_frameOf_fun hfr hl hf λh₁ hs₁=>?_)
 refine wB0 (wpAny_entryPlaceOf λpl hpl=>?_)
 unfold EntryCells.newEntry newFields
 refine wB0 (wpAny_newObj_type ?_ (hpl.sizeOk5 _ _ _ _ _))
 have he₁:h₁.get? e=some oe:=(hs₁.2.1 e hene).trans he
 have he₂:=hP0 (h:=h₁) {cls:=.type "traceback",dict:=none,data:=.fields ([head,.ref L,.none,rawInt L,.none]++(if pl.isEmpty then List.replicate 6 Value.none else pl)).toArray} he₁
 refine wpAny_setField he₂ hd hsz ?_
 have hTe:h₁.objs.size≠e:=ne_of_gt (Heap.lt_size he₁)
 have hd₃:=Obj.data_mapFields hd (·.setIfInBounds 1 (Value.ref h₁.objs.size))
 have he₃:=Heap.get?_update_self (Obj.mapFields (·.setIfInBounds 1 (Value.ref h₁.objs.size))) he₂ (Obj.isFreed_of_fields hd₃)
 have hT₃:=(Heap.get?_update_other (h₁.push {cls:=.type "traceback",dict:=none,data:=.fields ([head,.ref L,.none,rawInt L,.none]++(if pl.isEmpty then List.replicate 6 Value.none else pl)).toArray})
  (Obj.mapFields (·.setIfInBounds 1 (Value.ref h₁.objs.size))) (Ne.symm hTe)).trans (Heap.get?_push_size h₁ rfl)
 have keep: ∀b o,b≠e->h₁.get? b=some o->
   ((h₁.push {cls:=.type "traceback",dict:=none,data:=.fields ([head,.ref L,.none,rawInt L,.none]++(if pl.isEmpty then List.replicate 6 Value.none else pl)).toArray}).update e (Obj.mapFields (·.setIfInBounds 1 (Value.ref h₁.objs.size)))).get? b=some o:=
  λb o hbe hb=>by
   rw [Heap.get?_update_other _ _ (Ne.symm hbe)]
   exact hP0 _ hb
 refine h _ h₁.objs.size ?_ ⟨λb o hbe _ hbf hb=>keep b o hbe ((hs₁.2.1 b hbf).trans hb),λb o hbe _ hb=>?_,λb o hb=>?_⟩ ?_
 ·cases q:s.heap.get? h₁.objs.size with
  |none=>rfl
  |some o=>
   obtain⟨sl,hs⟩:=hs₁.2.2 _ o q
   exact absurd (Heap.lt_size hs) (lt_irrefl _)
 ·obtain⟨sl,hs⟩:=hs₁.2.2 b o hb
  exact⟨sl,keep b _ hbe hs⟩
 ·by_cases hbe:b=e
  ·subst hbe;exact⟨_,he₃⟩
  ·obtain⟨sl,hs⟩:=hs₁.2.2 b o hb
   exact⟨_,keep b _ hbe hs⟩
 ·exact⟨_,_,_,_,he₃,Obj.cls_mapFields _ _,zSV _ _,hd₃,by simp [hsz],hTe,hT₃,rfl,by first |(simp;done)|(rcases hpl with rfl|⟨_,_,_,_,_,_,_,rfl⟩<;>simp)⟩
theorem yCG(hfr:A.frames=some (env::outer))(hl:s.heap.FunFrames base (env::outer))(hf:env.frame=some L)(hb:Born s.heap e cls d)
  (h: ∀h' T',s.heap.get? T'=none->Mvd (frs (env::outer)) e e s.heap h'->Fly h' e T' cls d (rawInt L)->Q () {s with heap:=h'}):wpAny M A (noteFrame (.ref e) env) Q E s:=by
 obtain⟨oe,vs,he,rfl,rfl,hd,h1⟩:=hb
 unfold noteFrame
 simp only [hf]
 refine wB0 (wpAny_field he hd h1 ?_)
 rw [iN0 (by decide)]
 exact yJF hfr hl hf he hd (Array.getElem?_eq_some_iff.mp h1).1 h
theorem setT{oT:Obj}{ts:Array Value}{x:Value}{h0:Heap}(hT:h0.get? T=some oT)(hdT:oT.data=.fields ts):Mvd (frs (env::outer)) e T h0 (h0.update T (Obj.mapFields (·.setIfInBounds 3 x))):=by
 have other: ∀b,b≠T->(h0.update T (Obj.mapFields (·.setIfInBounds 3 x))).get? b=h0.get? b:=λb hb=>Heap.get?_update_other _ _ (Ne.symm hb)
 refine⟨λb o _ hbT _ hb=>(other b hbT).trans hb,λb o _ hbT hb=>⟨o.slots,(other b hbT).trans hb⟩,λb o hb=>?_⟩
 by_cases hbT:b=T
 ·subst hbT
  exact⟨_,Heap.get?_update_self _ hT (Obj.isFreed_of_fields (Obj.data_mapFields hdT _))⟩
 ·exact⟨o,(other b hbT).trans hb⟩
theorem zWD(hfr:A.frames=some (env::outer))(hl:s.heap.FunFrames base (env::outer))(hf:env.frame=some L)(hb:Fly s.heap e T cls d .none)
  (h: ∀h' T',s.heap.get? T'=none->Mvd (frs (env::outer)) e T s.heap h'->Fly h' e T' cls d (rawInt L)->Q () {s with heap:=h'}):wpAny M A (noteFrame (.ref e) env) Q E s:=by
 obtain⟨oe,vs,oT,ts,he,rfl,rfl,hd,h1,hTe,hT,hdT,h3⟩:=hb
 unfold noteFrame
 simp only [hf]
 refine wB0 (wpAny_field he hd h1 ?_)
 rw [iP (show(Value.ref T !=Value.none)=true from by simp)]
 refine wB0 (wpAny_field hT hdT h3 ?_)
 rw [iN0 (show¬((Value.none==rawInt L)=true)from by simp [rawInt])]
 refine wB0 (wpAny_setField hT hdT (Array.getElem?_eq_some_iff.mp h3).1 ?_)
 have mv:=setT (env:=env) (outer:=outer) (e:=e) (x:=Value.none) hT hdT
 have other: ∀b,b≠T->(s.heap.update T (Obj.mapFields (·.setIfInBounds 3 Value.none))).get? b=s.heap.get? b:=λb hb=>Heap.get?_update_other _ _ (Ne.symm hb)
 have noRecord: ∀b o,s.heap.get? b=some o->(∀vs,o.data≠.fields vs)->b≠T:=λb o hb hnf q=>by
  rw [q,hT]at hb;injection hb with hb;subst hb;exact hnf ts hdT
 refine yJF (s:={s with heap:=s.heap.update T (Obj.mapFields (·.setIfInBounds 3 Value.none))}) hfr (hl.of_keeps λb o hb hnf=>⟨o,(other b (noRecord b o hb hnf)).trans hb,rfl⟩) hf ((other e (Ne.symm hTe)).trans he) hd (Array.getElem?_eq_some_iff.mp h1).1
  λh' T' n m f=>h h' T' ?_ ⟨λb o hbe hbT hbf hb=>m.keep b o hbe hbe hbf (mv.keep b o hbe hbT hbf hb),λb o hbe hbT hb=>?_,λb o hb=>?_⟩ f
 ·cases q:s.heap.get? T' with
  |none=>rfl
  |some o=>
   obtain⟨o',hs⟩:=mv.there _ o q
   have n':(s.heap.update T (Obj.mapFields (·.setIfInBounds 3 Value.none))).get? T'=none:=n
   rw [n']at hs;cases hs
 ·obtain⟨sl,e1⟩:=mv.slot b o hbe hbT hb
  obtain⟨sl',e2⟩:=m.slot b _ hbe hbe e1
  exact⟨sl',e2⟩
 ·obtain⟨o',e1⟩:=mv.there b o hb
  exact m.there b o' e1
theorem zEU{fl:Value}(hb:Fly s.heap e T cls d fl)(h: ∀h',Mvd (frs (env::outer)) e T s.heap h'->Fly h' e T cls d .none->Q () {s with heap:=h'}):wpAny M A (setFlight (.ref e) none) Q E s:=by
 obtain⟨oe,vs,oT,ts,he,rfl,rfl,hd,h1,hTe,hT,hdT,h3⟩:=hb
 have hsz3:3<ts.size:=(Array.getElem?_eq_some_iff.mp h3).1
 unfold setFlight
 refine wB0 (wpAny_field he hd h1 ?_)
 rw [iP (show(Value.ref T !=Value.none)=true from by simp)]
 refine wpAny_setField hT hdT hsz3 (h _ (setT hT hdT) ?_)
 exact⟨oe,vs,_,_,(Heap.get?_update_other _ _ hTe).trans he,rfl,rfl,hd,h1,hTe,Heap.get?_update_self _ hT (Obj.isFreed_of_fields (Obj.data_mapFields hdT _)),Obj.data_mapFields hdT _,by simp [hsz3]⟩
theorem zZV(hfr:A.frames=some (env::outer))(hl:s.heap.FunFrames base (env::outer))(hf:env.frame=some L)(hb:Born s.heap e cls d)
  (h: ∀h' T',s.heap.get? T'=none->Mvd (frs (env::outer)) e e s.heap h'->Fly h' e T' cls d .none->Q () {s with heap:=h'}):wpAny M A (leaving env (.ref e)) Q E s:=by
 unfold leaving
 refine wB0 (yCG hfr hl hf hb λh1 T' n m f=>zEU (env:=env) (outer:=outer) f λh2 m2 f2=>h h2 T' n (m.new n m2) f2)
theorem yCH(hfr:A.frames=some (env::outer))(hl:s.heap.FunFrames base (env::outer))(hf:env.frame=some L)(hb:Fly s.heap e T cls d .none)
  (h: ∀h' T',s.heap.get? T'=none->Mvd (frs (env::outer)) e T s.heap h'->Fly h' e T' cls d .none->Q () {s with heap:=h'}):wpAny M A (leaving env (.ref e)) Q E s:=by
 unfold leaving
 refine wB0 (zWD hfr hl hf hb λh1 T' n m f=>zEU (env:=env) (outer:=outer) f λh2 m2 f2=>h h2 T' n (m.new n m2) f2)
end
theorem ObjOk.here{P:Program}{w:World}{H:Hp}{h:Heap}{a:Addr}{o:HO}(x:ObjOk P w H h a o): ∃ob,h.get? a=some ob:=by
 cases o with
 |lst xs=>obtain⟨_,_,_,_,e⟩:=x;exact⟨_,e⟩
 |tup xs=>obtain⟨_,_,_,ob,e,_⟩:=x;exact⟨_,e⟩
 |dK kvs=>obtain⟨_,_,_,_,o,_,_,e,_⟩:=x;exact⟨_,e⟩
 |dT kvs=>obtain⟨_,_,_,_,o,_,_,e,_⟩:=x;exact⟨_,e⟩
 |set S n=>obtain⟨o,_,_,_,e,_⟩:=x;exact⟨_,e⟩
 |ins C dx fs=>obtain⟨_,_,_,e,_⟩:=x;exact⟨_,e⟩
 |own y=>exact x
 |xd fs=>obtain⟨_,⟨_,_,_,e,_⟩,_⟩:=x;exact⟨_,e⟩
 |rng lo hi=>obtain⟨_,_,_,e⟩:=x;exact⟨_,e⟩
 |frz ob u=>obtain⟨e,_⟩:=x;exact⟨_,e⟩
 |tbl ps=>exact⟨_,(show h.get? a=some _ from x)⟩
 |met f y=>exact⟨_,(show h.get? a=some _ from x)⟩
 |ext φ=>obtain⟨_,e,_⟩:=x;exact e
theorem HOk.none_of{P:Program}{w:World}{H:Hp}{h:Heap}{a:Addr}(x:HOk P w H h)(n:h.get? a=none):H a=none:=by
 cases q:H a with
 |none=>rfl
 |some u=>
  obtain⟨ob,e⟩:=(x a u q).here
  rw [n]at e;cases e
section
variable{X:Cx}{pins:List (Addr×Obj)}{σ:St}{H:Hp}{s:Shared}
theorem Inv.older(J:Inv X pins σ H s)(hex:X.ex=[]){b:Addr}(n:s.heap.get? b=none):X.s₀.heap.get? b=none:=by
 cases q:X.s₀.heap.get? b with
 |none=>rfl
 |some o=>
  obtain⟨o',e⟩:=J.base.there b o q (by rw [hex];simp)
  rw [n]at e;cases e
theorem Inv.moved{e T:Addr}{h':Heap}(J:Inv X pins σ H s)(hex:X.ex=[])(m:Mvd (frs X.stack) e T s.heap h')(ne:X.s₀.heap.get? e=none)(nT:X.s₀.heap.get? T=none)(he:H e=none)(hT:H T=none):
  Un X.fs [] X.H₀ H X.s₀.heap h'/\HOk X.prog X.w H h':=by
 have nex: ∀b:Addr,b∉X.ex:=λb=>by rw [hex];simp
 have ne1: ∀b o,X.s₀.heap.get? b=some o->b≠e:=λb o q z=>by rw [z,ne]at q;cases q
 have ne2: ∀b o,X.s₀.heap.get? b=some o->b≠T:=λb o q z=>by rw [z,nT]at q;cases q
 refine⟨⟨λb o q n hb _=>?_,λb o q n hb _=>?_,λb o q n _=>J.base.free b o q n (nex b),λb o q _=>?_,J.base.tups,J.base.frzs,J.base.tbls⟩,λb u q=>(J.hok b u q).stay (λc v hc r=>?_) (λ_ q=>q) λ_ _ q=>q⟩
 ·refine m.keep b o (ne1 b o q) (ne2 b o q) (λz=>?_) (J.base.keep b o q n hb (nex b))
  rcases mC0.mp (J.stkSub b z)with z|z
  ·exact absurd z (ne_of_lt (lt_of_lt_of_le (Heap.lt_size q) J.ok.above))
  ·exact hb z
 ·obtain⟨sl,e1⟩:=J.base.slot b o q n hb (nex b)
  obtain⟨sl',e2⟩:=m.slot b _ (ne1 b o q) (ne2 b o q) e1
  exact⟨sl',e2⟩
 ·obtain⟨o',e1⟩:=J.base.there b o q (nex b)
  exact m.there b o' e1
 ·have hc': ∃z,H c=some z:=by
   rcases hc with rfl|hc
   ·exact⟨_,q⟩
   ·exact⟨_,hc⟩
  obtain⟨z,hz⟩:=hc'
  refine m.keep c v (λy=>by rw [y,he]at hz;cases hz) (λy=>by rw [y,hT]at hz;cases hz) (λy=>?_) r
  rw [J.stkFree c y]at hz;cases hz
end
def CXe(P:Program)(w:World):CXT:=λouter H s E x s'=> ∃e T C d H',x=.ref e/\s'.os=s.os/\AllBare s'.gens/\Un (frs outer) [] H H' s.heap s'.heap/\HOk P w H' s'.heap/\Fly s'.heap e T (.ref C) d .none/\
 s.heap.get? e=none/\s.heap.get? T=none/\H' e=none/\H' T=none/\E (.ref C) d H'
structure XOk(X:Cx)(E:XK):Prop where
 pass:zWZ (CXe X.prog X.w) X E
 born: ∀(pins:List (Addr×Obj))(σ:St)(H:Hp)(s:Shared)(e C:Addr)(d:Option Addr),Inv X pins σ H s->Born s.heap e (.ref C) d->X.s₀.heap.get? e=none->H e=none->E (.ref C) d H->X.xe (.ref e) s
section
variable{P:Program}{w:World}{K:PySem.W.Frag}{mg:Str->Option Value}{base:Heap}{N:List Str}{qual:Str}{scope:Scope}{f:Addr}{cd:Value}{A:Around}{outer:List Env}{s:Shared}{H:Hp}{E:XK}
theorem zMV:XOk (zSL (CXe P w) P w K mg base N qual scope f cd A outer s H E) E:=by
 refine⟨λpins σ H1 s1 x s2 I h=>?_,λpins σ H1 s1 e C d J b ne he q=>?_⟩
 ·obtain⟨e,T,C,d,H',rfl,os,bare,un,hok,fl,ne,nT,he,hT,q⟩:=h
  have J:Inv _ pins σ H' s2:=I.call' (ch:=[]) os un hok bare (λ_ z=>nomatch z)
  have ne':=I.older rfl ne
  have nT':=I.older rfl nT
  refine yCH J.ok.frames J.stack rfl fl λh' T' n m f'=>?_
  obtain⟨u,hk⟩:=J.moved rfl m ne' nT' he hT
  exact⟨e,T',C,d,H',rfl,J.os,J.bare,u,hk,f',ne',J.older rfl n,he,J.hok.none_of n,q⟩
 ·refine zZV J.ok.frames J.stack rfl b λh' T' n m f'=>?_
  obtain⟨u,hk⟩:=J.moved rfl m ne ne he he
  exact⟨e,T',C,d,H1,rfl,J.os,J.bare,u,hk,f',ne,J.older rfl n,he,J.hok.none_of n,q⟩
end
abbrev bmV:List Value:=[.type "ValueError",.type "Exception",.type "BaseException",.type "object"]
def qn:List Str:=["__class__","__getattribute__","__getattr__","__setattr__","place","number"]
def zGZ(h:Heap)(C M:Addr):Prop:=
 ∃nm q N bs hd sn sub ab col dd k0 k1 k2 k3 k5 nw mN,h.get? C=some (excClassObj nm q C N bs (.ref M::bmV) hd sn sub ab col dd k0 k1 k2 k3 k5 nw)/\h.Ns N mN/\(∀n∈qn,mN n=none)/\
  ∃nm q N bs hd sn sub ab col dd k0 k1 k2 k3 k5 nw mN,h.get? M=some (excClassObj nm q M N bs bmV hd sn sub ab col dd k0 k1 k2 k3 k5 nw)/\h.Ns N mN/\(∀n∈qn,mN n=none)
section
variable{Mo:Model}{A:Around}{E:Value->Shared->Prop}{h:Heap}{g:Array GenState}{d:Drawn}{t:Nat}{os:OsState}{C M:Addr}
theorem zHA(O:zGZ h C M){base:Value}{Q:Bool->Shared->Prop}(hq:Q ((Value.ref C::.ref M::bmV).contains base) ⟨h,g,d,t,os⟩):wpAny Mo A (isSubtype (.ref C) base) Q E ⟨h,g,d,t,os⟩:=by
 obtain⟨nm,q,N,bs,hd,sn,sub,ab,col,dd,k0,k1,k2,k3,k5,nw,mN,hC,_⟩:=O
 exact wpAny_isSubtype_exc hC hq
theorem zEV(O:zGZ h C M){n:Str}(hn:n∈qn){y:Option Value}(hB:typeLookup (.type "ValueError") n=pure y){Q:Option Value->Shared->Prop}(hq:Q y ⟨h,g,d,t,os⟩):wpAny Mo A (typeLookup (.ref C) n) Q E ⟨h,g,d,t,os⟩:=by
 obtain⟨nm,q,N,bs,hd,sn,sub,ab,col,dd,k0,k1,k2,k3,k5,nw,mN,hC,hN,hmN,_,_,_,_,_,_,_,_,_,_,_,_,_,_,_,_,mM,hM,hNM,hmM⟩:=O
 have hrest:lookupAlong bmV n=pure y:=by
  rw [typeLookup_eq,F.excBase_ValueError.mroIs]at hB
  exact hB
 rw [typeLookup_eq]
 refine wB0 (wpAny_mroOf_exc hC ?_)
 rw [lookupAlong_cons]
 refine wB0 (wpAny_classOwn_exc hC hN ?_)
 rw [hmN n hn,lookupAlong_cons]
 refine wB0 (wpAny_classOwn_exc hM hNM ?_)
 rw [hmM n hn,hrest]
 exact wP0 hq
theorem yJG(O:zGZ h C M): ∃o,h.get? C=some o/\o.cls=.type "type"/\ ∃cd,o.data=.cls cd:=by
 obtain⟨_,_,_,_,_,_,_,_,_,_,_,_,_,_,_,_,_,hC,_⟩:=O
 exact⟨_,hC,rfl,_,rfl⟩
end
theorem qn1:("__class__":Str)∈qn:=.head _
theorem qn2:("__getattribute__":Str)∈qn:=.tail _ (.head _)
theorem qn3:("__getattr__":Str)∈qn:=.tail _ t1M
theorem yJH:typeLookup (.type "ValueError") "__class__"=pure (some (.builtin "object.__class__")):=by rw [typeLookup_type,builtinLookup_eq_fast];kernel_rfl
theorem yRE:typeLookup (.type "ValueError") "__getattribute__"=pure (some (.builtin "BaseException.__getattribute__")):=by rw [typeLookup_type,builtinLookup_eq_fast];kernel_rfl
theorem zZW:typeLookup (.type "ValueError") "__getattr__"=pure none:=by rw [typeLookup_type,builtinLookup_eq_fast];kernel_rfl
section
variable{prog:Program}{w:World}{A:Around}{E:Value->Shared->Prop}{h:Heap}{g:Array GenState}{d:Drawn}{t:Nat}{os:OsState}{C M a:Addr}{o:Obj}
theorem yCI{R:Result->Shared->Prop}(O:zGZ h C M)(hx:h.get? a=some o)(hc:o.cls=.ref C)(hq:R (.ok (.ret (.ref C))) ⟨h,g,d,t,os⟩):
  codeAny (model prog w) A (.call (.builtin "getset_descriptor.__get__") ⟨[.builtin "object.__class__",.ref a,.ref C],[]⟩) R ⟨h,g,d,t,os⟩:=by
 have hT5:(⟨h,g,d,t,os⟩:Shared).TypeIs (.builtin "object.__class__") "getset_descriptor":=F.typeOf_object_class
 have ho:(Value.ref C::.ref M::bmV).contains (.type (".".intercalate ("object.__class__".cutAt '.').dropLast))=true:=by
  rw [F.owner_object_class];simp [contains_cons]
 refine codeAny_call_builtin F.slot_gs_get.plain F.entry_gs_get (F.slot_gs_get.check _ _ _ _ _ _ _ _ hT5 (F.args_gs_get _ _ _) ?_)
 repeat (any_goals (first |assumption|(with_reducible refine wpAny_loadPart_at hx ?_;rw [hc])|(with_reducible refine zHA O ?_;rw [ho])|wp_step))
 refine⟨Code.quiet_builtin _ (by decide+kernel),codeAny_builtin F.entry_object_class ?_⟩
 repeat (any_goals (first |assumption|(with_reducible refine wpAny_loadPart_at hx ?_;rw [hc])|wp_step))
theorem zWE{Mo:Model}{nameV:Value}{Q:Unit->Shared->Prop}(O:zGZ h C M)(hx:h.get? a=some o)(hc:o.cls=.ref C)(hq:Q () ⟨h,g,d,t,os⟩):wpAny Mo A (checkBuiltinCall "BaseException.__getattribute__" ⟨[.ref a,nameV],[]⟩) Q E ⟨h,g,d,t,os⟩:=by
 have hk:builtinKind "BaseException.__getattribute__"=some .slot:=by decide+kernel
 have hs:splitId "BaseException.__getattribute__"=some ("BaseException","__getattribute__"):=by decide+kernel
 have hb:(Value.ref C::.ref M::bmV).contains (.type "BaseException")=true:=by simp [contains_cons]
 have ha:=F.args_bexc_ga (.ref a) nameV
 simp only [checkBuiltinCall,hk,hs]
 refine wB0 ?_
 unfold isInstance
 repeat (first |(with_reducible refine wpAny_loadPart_at hx ?_;rw [hc])|(with_reducible refine zHA O ?_;rw [hb])|wp_step)
 exact hq
theorem zXJ{tk:Tok}{Q:Fin->Shared->Prop}(O:zGZ h C M)(hx:h.get? a=some o)(hc:o.cls=.ref C)(hq:Q (.done (.ret (.ref C))) ⟨h,g,d,t,os⟩):
  wpAny (model prog w) A (Builtin.«object.__getattribute__» ⟨[.ref a,.str "__class__" tk],[]⟩) Q E ⟨h,g,d,t,os⟩:=by
 have hT5:(⟨h,g,d,t,os⟩:Shared).TypeIs (.builtin "object.__class__") "getset_descriptor":=F.typeOf_object_class
 have f5:=F.typeOf_object_class
 have f6:=F.slot_gs_get.lookup
 have f7:=F.slot_gs_set.lookup
 repeat (any_goals (first |assumption|(with_reducible refine wpAny_loadPart_at hx ?_;rw [hc])|with_reducible refine zEV O qn1 yJH ?_|wp_step))
 refine yCI O hx hc ?_
 repeat (any_goals (first |assumption|wp_step))
theorem zZX{tk:Tok}{R:Result->Shared->Prop}(O:zGZ h C M)(hx:h.get? a=some o)(hc:o.cls=.ref C)(hq:R (.ok (.ret (.ref C))) ⟨h,g,d,t,os⟩):
  codeAny (model prog w) A (.call (.builtin "BaseException.__getattribute__") ⟨[.ref a,.str "__class__" tk],[]⟩) R ⟨h,g,d,t,os⟩:=
 codeAny_call_builtin F.attrBase_ValueError.ga.plain F.entry_bexc_ga (zWE O hx hc (zXJ O hx hc hq))
theorem yHC{tk:Tok}{fill expr:Bool}{Q:Value->Shared->Prop}(O:zGZ h C M)(hx:h.get? a=some o)(hc:o.cls=.ref C)(hq:Q (.ref C) ⟨h,g,d,t,os⟩):
  wpAny (model prog w) A (getAttrBy (.ref a) (.str "__class__" tk) fill expr) Q E ⟨h,g,d,t,os⟩:=by
 have f3:=F.attrBase_ValueError.ga.bind (.ref a)
 have hx0:(expr&&onTheHeap (Value.builtin "BaseException.__getattribute__"))=false:=by cases expr<;>rfl
 have hx2:(Value.builtin "BaseException.__getattribute__"==Value.builtin "object.__getattribute__")=false:=by decide+kernel
 have hx1:(onTheHeap (Value.ref C)&&Value.builtin "BaseException.__getattribute__"==Value.builtin "object.__getattribute__")=false:=by rw [hx2];rfl
 repeat (any_goals (first |assumption|(with_reducible refine wpAny_loadPart_at hx ?_;rw [hc])|with_reducible refine zEV O qn2 yRE ?_|with_reducible refine zEV O qn3 zZW ?_|wp_step))
 refine zZX O hx hc ?_
 repeat (any_goals (first |assumption|wp_step))
theorem zZY{Q:Option Value->Shared->Prop}(O:zGZ h C M)(hx:h.get? a=some o)(hc:o.cls=.ref C)(hq:Q (some (.ref C)) ⟨h,g,d,t+1,os⟩):wpAny (model prog w) A (getAttr? (.ref a) "__class__") Q E ⟨h,g,d,t,os⟩:=by
 unfold getAttr? getAttrBy?
 repeat (any_goals (first |assumption|with_reducible apply yHC O hx hc|wp_step))
theorem yOB{D:Addr}{dD:Option Addr}{cD:ClassData}{sD:Array (Option Value)}{oC:Obj}{Q:Fin->Shared->Prop}(O:zGZ h C M)(hx:h.get? a=some o)(hc:o.cls=.ref C)(hD:h.get? D=some {cls:=.type "type",dict:=dD,data:=.cls cD,slots:=sD})(hC:h.get? C=some oC)(hCc:oC.cls=.type "type")(hCd: ∃cd,oC.data=.cls cd)(hn:(Value.ref C::.ref M::bmV).contains (.ref D)=false)(hq:Q (.done (.ret (.bool false))) ⟨h,g,d,t+1,os⟩):
  wpAny (model prog w) A (Builtin.«isinstance.nested» ⟨[.ref a,.ref D,rawInt 0],[]⟩) Q E ⟨h,g,d,t,os⟩:=by
 have hne:(Value.ref C==Value.ref D)=false:=by
  rw [contains_cons,Bool.or_eq_false_iff]at hn
  have:=hn.1
  rw [beq_eq_false_iff_ne]at this ⊢
  exact this.symm
 obtain⟨cd,hCd⟩:=hCd
 obtain⟨c1,c2,c3,c4⟩:=oC
 dsimp only at hCc hCd
 subst hCc hCd
 repeat (any_goals (first |assumption|(with_reducible refine wpAny_loadPart_at hx ?_;rw [hc])|with_reducible refine wpAny_loadPart_at hD ?_|with_reducible refine wpAny_loadPart_at hC ?_|(with_reducible refine zHA O ?_;rw [hn])|with_reducible apply zZY O hx hc|wp_step))
theorem yHD{Q:Fin->Shared->Prop}(hx:h.get? a=some o)(hc:o.cls=.ref C)(hq:Q (.done (.ret (.bool true))) ⟨h,g,d,t,os⟩):
  wpAny (model prog w) A (Builtin.«isinstance.nested» ⟨[.ref a,.ref C,rawInt 0],[]⟩) Q E ⟨h,g,d,t,os⟩:=by
 repeat (any_goals (first |assumption|(with_reducible refine wpAny_loadPart_at hx ?_;rw [hc])|wp_step))
theorem yOC{T:String}{Q:Fin->Shared->Prop}(O:zGZ h C M)(hx:h.get? a=some o)(hc:o.cls=.ref C)(hty:typeOf (.type T)=pure (.type "type"))(hn:(Value.ref C::.ref M::bmV).contains (.type T)=true)(hq:Q (.done (.ret (.bool true))) ⟨h,g,d,t,os⟩):
  wpAny (model prog w) A (Builtin.«isinstance.nested» ⟨[.ref a,.type T,rawInt 0],[]⟩) Q E ⟨h,g,d,t,os⟩:=by
 have hne:(Value.ref C==Value.type T)=false:=rfl
 repeat (any_goals (first |assumption|(with_reducible refine wpAny_loadPart_at hx ?_;rw [hc])|(with_reducible refine zHA O ?_;rw [hn])|wp_step))
end
end L2
namespace L2
namespace M
open PySem PySem.Spec PyProof.Rows
inductive MV where
 |non|bl (b:Bool)|int (i:Int)|str (x:List Nat)|tup (ds:List MV)|scr (ds:List MV)|loc (l:Nat)|typ (n:String)
instance:Inhabited MV:=⟨.non⟩
inductive MO where
 |lst (ds:List MV)|dic (kvs:List (MV×MV))|ins (c:Str) (fs:List (Str×MV))
abbrev Sto:=List MO
def SqF(K:PySem.W.Frag)(H:Hp)(a:Addr)(xs:List V):Prop:=
 (∃o,H a=some (.frz o (.lst xs)))\/
  ∃(o:Obj)(its:Array Value)(n:Nat),K.lookup a=some o/\o.cls=.type "list"/\o.dict=none/\o.data=.seq its n/\its.size<=sizeLine/\Vals xs its.toList
theorem SqF.l{K:PySem.W.Frag}{H:Hp}{a:Addr}{xs:List V}(h:SqF K H a xs):SqL K H a xs:=by
 rcases h with⟨o,h⟩|h
 ·exact .inl (.inr ⟨o,h⟩)
 ·exact .inr h
mutual
def Den(K:PySem.W.Frag)(α:List Addr)(H:Hp):MV->V->Prop
 |.non,v=>v=.non
 |.bl b,v=>v=.bl b
 |.int i,v=>v=.int i
 |.str x,v=>v=.str (mkS x)
 |.tup ds,v=> ∃a vs,v=.ref a/\SqT K H a vs/\DenL K α H ds vs
 |.scr ds,v=> ∃a vs,v=.ref a/\SqF K H a vs/\DenL K α H ds vs
 |.loc l,v=> ∃a,v=.ref a/\α[l]? =some a
 |.typ n,v=>v=.ty n
def DenL(K:PySem.W.Frag)(α:List Addr)(H:Hp):List MV->List V->Prop
 |[],vs=>vs=[]
 |d::ds,vs=> ∃v r,vs=v::r/\Den K α H d v/\DenL K α H ds r
end
structure Ex0(α:List Addr)(H:Hp)(α':List Addr)(H':Hp):Prop where
 pre: ∃t,α'=α++t
 tup: ∀b xs,H b=some (.tup xs)->H' b=some (.tup xs)
 frz: ∀b o u,H b=some (.frz o u)->H' b=some (.frz o u)
structure Ext(α:List Addr)(H:Hp)(α':List Addr)(H':Hp):Prop extends Ex0 α H α' H' where
 new: ∀b∈α',b∈α\/H b=none
 keep: ∀b o,H b=some o->b∉α->H' b=some o
 has: ∀b o,H b=some o-> ∃o',H' b=some o'
section
variable{K:PySem.W.Frag}{α α' α'':List Addr}{H H' H'':Hp}
theorem Ext.refl(α:List Addr)(H:Hp):Ext α H α H:=⟨⟨⟨[],by simp⟩,λ_ _ h=>h,λ_ _ _ h=>h⟩,λb h=>.inl h,λ_ _ h _=>h,λ_ o h=>⟨o,h⟩⟩
theorem Ex0.grow(α t:List Addr)(H:Hp):Ex0 α H (α++t) H:=⟨⟨t,rfl⟩,λ_ _ h=>h,λ_ _ _ h=>h⟩
theorem Ext.free(x:Ext α H α' H'){b:Addr}(h:H' b=none):H b=none:=by
 cases e:H b with
 |none=>rfl
 |some o=>obtain⟨o',h'⟩:=x.has b o e;rw [h]at h';cases h'
theorem Ext.out(x:Ext α H α' H'){b:Addr}{o:HO}(h:H b=some o)(n:b∉α):b∉α':=λz=>by
 rcases x.new b z with z|z
 ·exact n z
 ·rw [h]at z;cases z
theorem Ext.trans(x:Ext α H α' H')(y:Ext α' H' α'' H''):Ext α H α'' H'' where
 pre:=by
  obtain⟨t,rfl⟩:=x.pre
  obtain⟨u,rfl⟩:=y.pre
  exact⟨t++u,by rw [aA]⟩
 new:=λb h=>(y.new b h).elim (x.new b) λz=>.inr (x.free z)
 keep:=λb o h n=>y.keep b o (x.keep b o h n) (x.out h n)
 has:=λb o h=>let ⟨o',h'⟩:=x.has b o h;y.has b o' h'
 tup:=λb xs h=>y.tup b xs (x.tup b xs h)
 frz:=λb o u h=>y.frz b o u (x.frz b o u h)
theorem Ex0.at(x:Ex0 α H α' H'){l:Nat}{a:Addr}(h:α[l]? =some a):α'[l]? =some a:=by
 obtain⟨t,rfl⟩:=x.pre
 rw [getElem?_append_left (gS0.mp h).1]
 exact h
theorem Ex0.sqT(x:Ex0 α H α' H'){a:Addr}{vs:List V}(q:SqT K H a vs):SqT K H' a vs:=by
 rcases q with(q|⟨o,q⟩)|q
 ·exact .inl (.inl (x.tup a vs q))
 ·exact .inl (.inr ⟨o,x.frz a o _ q⟩)
 ·exact .inr q
theorem Ex0.sqF(x:Ex0 α H α' H'){a:Addr}{vs:List V}(q:SqF K H a vs):SqF K H' a vs:=by
 rcases q with⟨o,q⟩|q
 ·exact .inl ⟨o,x.frz a o _ q⟩
 ·exact .inr q
mutual
theorem Den.ex0(x:Ex0 α H α' H'): ∀{d:MV}{v:V},Den K α H d v->Den K α' H' d v
 |.non,_,q=>by unfold Den at q ⊢; exact q
 |.bl _,_,q=>by unfold Den at q ⊢; exact q
 |.int _,_,q=>by unfold Den at q ⊢; exact q
 |.str _,_,q=>by unfold Den at q ⊢; exact q
 |.typ _,_,q=>by unfold Den at q ⊢; exact q
 |.loc _,_,q=>by
  unfold Den at q ⊢
  obtain⟨a,e,h⟩:=q
  exact⟨a,e,x.at h⟩
 |.tup ds,_,q=>by
  unfold Den at q ⊢
  obtain⟨a,vs,e,s,l⟩:=q
  exact⟨a,vs,e,x.sqT s,DenL.ex0 x l⟩
 |.scr ds,_,q=>by
  unfold Den at q ⊢
  obtain⟨a,vs,e,s,l⟩:=q
  exact⟨a,vs,e,x.sqF s,DenL.ex0 x l⟩
theorem DenL.ex0(x:Ex0 α H α' H'): ∀{ds:List MV}{vs:List V},DenL K α H ds vs->DenL K α' H' ds vs
 |[],_,q=>by unfold DenL at q ⊢; exact q
 |d::ds,_,q=>by
  unfold DenL at q ⊢
  obtain⟨v,r,e,a,l⟩:=q
  exact⟨v,r,e,Den.ex0 x a,DenL.ex0 x l⟩
end
theorem Den.ext(x:Ext α H α' H'){d:MV}{v:V}(q:Den K α H d v):Den K α' H' d v:=q.ex0 x.toEx0
theorem DenL.ext(x:Ext α H α' H'){d:List MV}{v:List V}(q:DenL K α H d v):DenL K α' H' d v:=q.ex0 x.toEx0
theorem zCV:Den K α H .non .non:=by unfold Den;rfl
theorem wT(b:Bool):Den K α H (.bl b) (.bl b):=by unfold Den;rfl
theorem xV(i:Int):Den K α H (.int i) (.int i):=by unfold Den;rfl
theorem zCW(x:List Nat):Den K α H (.str x) (.str (mkS x)):=by unfold Den;rfl
theorem yEM(n:String):Den K α H (.typ n) (.ty n):=by unfold Den;rfl
theorem zBC{ds:List MV}{a:Addr}{vs:List V}(s:SqT K H a vs)(l:DenL K α H ds vs):Den K α H (.tup ds) (.ref a):=by unfold Den;exact⟨a,vs,rfl,s,l⟩
theorem yEN{ds:List MV}{a:Addr}{vs:List V}(s:SqF K H a vs)(l:DenL K α H ds vs):Den K α H (.scr ds) (.ref a):=by unfold Den;exact⟨a,vs,rfl,s,l⟩
theorem zLU{l:Nat}{a:Addr}(h:α[l]? =some a):Den K α H (.loc l) (.ref a):=by unfold Den;exact⟨a,rfl,h⟩
theorem zDE{v:V}(d:Den K α H .non v):v=.non:=by unfold Den at d;exact d
theorem zHB{b:Bool}{v:V}(d:Den K α H (.bl b) v):v=.bl b:=by unfold Den at d;exact d
theorem cK{i:Int}{v:V}(d:Den K α H (.int i) v):v=.int i:=by unfold Den at d;exact d
theorem cL{x:List Nat}{v:V}(d:Den K α H (.str x) v):v=.str (mkS x):=by unfold Den at d;exact d
theorem zCC{n:String}{v:V}(d:Den K α H (.typ n) v):v=.ty n:=by unfold Den at d;exact d
theorem bD{ds:List MV}{v:V}(d:Den K α H (.tup ds) v): ∃a vs,v=.ref a/\SqT K H a vs/\DenL K α H ds vs:=by unfold Den at d;exact d
theorem zCD{ds:List MV}{v:V}(d:Den K α H (.scr ds) v): ∃a vs,v=.ref a/\SqF K H a vs/\DenL K α H ds vs:=by unfold Den at d;exact d
theorem zAH{l:Nat}{v:V}(d:Den K α H (.loc l) v): ∃a,v=.ref a/\α[l]? =some a:=by unfold Den at d;exact d
theorem wU:DenL K α H [] []:=by unfold DenL;rfl
theorem xS{d:MV}{v:V}{ds:List MV}{vs:List V}(a:Den K α H d v)(l:DenL K α H ds vs):DenL K α H (d::ds) (v::vs):=by unfold DenL;exact⟨v,vs,rfl,a,l⟩
theorem DenL.uncons{d:MV}{ds:List MV}{vs:List V}(l:DenL K α H (d::ds) vs): ∃v r,vs=v::r/\Den K α H d v/\DenL K α H ds r:=by unfold DenL at l;exact l
theorem DenL.isnil{vs:List V}(l:DenL K α H [] vs):vs=[]:=by unfold DenL at l;exact l
theorem DenL.length: ∀{ds:List MV}{vs:List V},DenL K α H ds vs->vs.length=ds.length
 |[],_,q=>by rw [q.isnil];rfl
 |d::ds,_,q=>by
  obtain⟨v,r,rfl,_,l⟩:=q.uncons
  rw [lC0,lC0,DenL.length l]
theorem DenL.append: ∀{ds es:List MV}{vs us:List V},DenL K α H ds vs->DenL K α H es us->DenL K α H (ds++es) (vs++us)
 |[],_,_,_,q,l=>by rw [q.isnil];exact l
 |d::ds,_,_,_,q,l=>by
  obtain⟨v,r,rfl,a,l'⟩:=q.uncons
  exact xS a (DenL.append l' l)
theorem DenL.drop: ∀{ds:List MV}{vs:List V}(n:Nat),DenL K α H ds vs->DenL K α H (ds.drop n) (vs.drop n)
 |_,_,0,q=>q
 |[],_,n+1,q=>by rw [q.isnil];exact wU
 |d::ds,_,n+1,q=>by
  obtain⟨v,r,rfl,_,l⟩:=q.uncons
  exact DenL.drop n l
theorem DenL.take: ∀{ds:List MV}{vs:List V}(n:Nat),DenL K α H ds vs->DenL K α H (ds.take n) (vs.take n)
 |_,_,0,q=>wU
 |[],_,n+1,q=>by rw [q.isnil];exact wU
 |d::ds,_,n+1,q=>by
  obtain⟨v,r,rfl,a,l⟩:=q.uncons
  exact xS a (DenL.take n l)
theorem DenL.set{d:MV}{v:V}(a:Den K α H d v): ∀{ds:List MV}{vs:List V}(n:Nat),DenL K α H ds vs->DenL K α H (ds.set n d) (vs.set n v)
 |[],_,_,q=>by rw [q.isnil];exact wU
 |e::ds,_,0,q=>by
  obtain⟨v',r,rfl,a',l⟩:=q.uncons
  exact xS a l
 |e::ds,_,n+1,q=>by
  obtain⟨v',r,rfl,a',l⟩:=q.uncons
  exact xS a' (DenL.set a n l)
theorem DenL.get: ∀{ds:List MV}{vs:List V}{i:Nat}{v:V},DenL K α H ds vs->vs[i]? =some v-> ∃d,ds[i]? =some d/\Den K α H d v
 |[],_,_,_,q,e=>by rw [q.isnil]at e;simp at e
 |d::ds,_,0,_,q,e=>by
  obtain⟨v,r,rfl,a,l⟩:=q.uncons
  simp at e;subst e
  exact⟨d,rfl,a⟩
 |d::ds,_,i+1,_,q,e=>by
  obtain⟨v,r,rfl,a,l⟩:=q.uncons
  obtain⟨d',h1,h2⟩:=DenL.get (i:=i) l (by simpa using e)
  exact⟨d',by simpa using h1,h2⟩
theorem DenL.at{ds:List MV}{vs:List V}{i:Nat}{d:MV}(q:DenL K α H ds vs)(e:ds[i]? =some d): ∃v,vs[i]? =some v/\Den K α H d v:=by
 have hi:i<ds.length:=(gS0.mp e).1
 have hv:i<vs.length:=by rw [q.length];exact hi
 obtain⟨d',h1,h2⟩:=q.get (gE0 hv)
 rw [e]at h1;cases h1
 exact⟨_,gE0 hv,h2⟩
theorem DenL.cut{ds:List MV}{vs:List V}(q:DenL K α H ds vs)(lo hi:Option Int):DenL K α H (xF ds lo hi) (zZM vs lo hi):=by
 unfold xF zZM
 rw [q.length]
 exact(q.drop _).take _
theorem zWF: ∀(ns:List Int),DenL K α H (ns.map MV.int) (ns.map V.int)
 |[]=>wU
 |b::bs=>xS (xV b) (zWF bs)
end
structure Gm where
 K:PySem.W.Frag
 mg:Str->Option Value
 P:Program
 w:World
abbrev _root_.L2.Cx.g(X:Cx):Gm:=⟨X.K,X.mg,X.prog,X.w⟩
inductive DenF(K:PySem.W.Frag)(α:List Addr)(H:Hp):List (Str×MV)->List (Str×V)->Prop
 |nil:DenF K α H [] []
 |cons {x:Str} {d:MV} {v:V} {fs gs}:Den K α H d v->DenF K α H fs gs->DenF K α H ((x,d)::fs) ((x,v)::gs)
theorem DenF.ex0{K:PySem.W.Frag}{α α':List Addr}{H H':Hp}(x:Ex0 α H α' H'): ∀{fs gs},DenF K α H fs gs->DenF K α' H' fs gs
 |_,_,.nil=>.nil
 |_,_,.cons a l=>.cons (a.ex0 x) (DenF.ex0 x l)
def KeyD:MV->Key->Prop
 |.int i,k=>k=.inl i
 |.str x,k=>k=.inr (mkS x)
 |_,_=>False
inductive DenK(K:PySem.W.Frag)(α:List Addr)(H:Hp):List (MV×MV)->List (Key×V)->Prop
 |nil:DenK K α H [] []
 |cons {k:MV} {k':Key} {d:MV} {v:V} {fs gs}:KeyD k k'->Den K α H d v->DenK K α H fs gs->DenK K α H ((k,d)::fs) ((k',v)::gs)
theorem DenK.ex0{K:PySem.W.Frag}{α α':List Addr}{H H':Hp}(x:Ex0 α H α' H'): ∀{fs gs},DenK K α H fs gs->DenK K α' H' fs gs
 |_,_,.nil=>.nil
 |_,_,.cons k a l=>.cons k (a.ex0 x) (DenK.ex0 x l)
mutual
def nkOf:MV->Option NK
 |.int i=>some (.key (.inl i))
 |.str x=>some (.key (.inr (mkS x)))
 |.tup ds=>(yRF ds).map .tup
 |_=>none
def yRF:List MV->Option (List NK)
 |[]=>some []
 |d::ds=>(nkOf d).bind λk=>(yRF ds).map (k::·)
end
inductive DenN(K:PySem.W.Frag)(α:List Addr)(H:Hp):List (MV×MV)->List (NK×Addr×Value)->Prop
 |nil:DenN K α H [] []
 |cons {k:MV} {nk:NK} {a:Addr} {d:MV} {v:V} {u:Value} {fs xs}:nkOf k=some nk->zRL nk<=4->Den K α H k (.ref a)->Den K α H d v->RelV v u->DenN K α H fs xs->DenN K α H ((k,d)::fs) ((nk,a,u)::xs)
theorem DenN.ex0{K:PySem.W.Frag}{α α':List Addr}{H H':Hp}(x:Ex0 α H α' H'): ∀{fs xs},DenN K α H fs xs->DenN K α' H' fs xs
 |_,_,.nil=>.nil
 |_,_,.cons k e a d r l=>.cons k e (a.ex0 x) (d.ex0 x) r (DenN.ex0 x l)
def ObD(g:Gm)(α:List Addr)(H:Hp)(a:Addr):MO->Prop
 |.lst ds=> ∃vs,H a=some (.lst vs)/\DenL g.K α H ds vs
 |.dic kvs=>(∃ks,H a=some (.dK ks)/\DenK g.K α H kvs ks)\/ ∃xs,H a=some (DN g.P g.w a xs)/\DenN g.K α H kvs xs
 |.ins c fs=> ∃C gs,g.mg c=some (.ref C)/\DenF g.K α H fs gs/\
   ∃oe,H a=some (.ext λh=>h.get? a=some oe)/\oe.cls=.ref C/\(fs=[]\/ ∃dx od,oe.dict=some dx/\H dx=some (.frz od (.xd gs))/\ ∃vs,oe.data=.fields vs)
theorem ObD.there{g:Gm}{α:List Addr}{H:Hp}{a:Addr}{o:MO}(h:ObD g α H a o): ∃ho,H a=some ho/\(∀xs,ho≠.tup xs)/\ ∀ob u,ho≠.frz ob u:=by
 cases o with
 |lst ds=>obtain⟨vs,h,_⟩:=h;exact⟨_,h,(λxs z=>by cases z),λ_ _ z=>by cases z⟩
 |dic ds=>
  rcases h with⟨vs,h,_⟩|⟨vs,h,_⟩
  ·exact⟨_,h,(λxs z=>by cases z),λ_ _ z=>by cases z⟩
  ·exact⟨_,h,(λxs z=>by cases z),λ_ _ z=>by cases z⟩
 |ins c ds=>
  obtain⟨_,_,_,_,_,h,_⟩:=h
  exact⟨_,h,(λxs z=>by cases z),λ_ _ z=>by cases z⟩
theorem ObD.move{g:Gm}{α α':List Addr}{H H':Hp}{a:Addr}{o:MO}(h:ObD g α H a o)(x:Ex0 α H α' H')(e:H' a=H a):ObD g α' H' a o:=by
 cases o with
 |lst ds=>obtain⟨vs,h,l⟩:=h;exact⟨vs,e.trans h,l.ex0 x⟩
 |dic ds=>
  rcases h with⟨vs,h,l⟩|⟨vs,h,l⟩
  ·exact .inl ⟨vs,e.trans h,l.ex0 x⟩
  ·exact .inr ⟨vs,e.trans h,l.ex0 x⟩
 |ins c ds=>
  obtain⟨C,gs,m,l,oe,h,hc,hf⟩:=h
  exact⟨C,gs,m,l.ex0 x,oe,e.trans h,hc,hf.imp id λ⟨dx,od,h1,h2,h3⟩=>⟨dx,od,h1,x.frz _ _ _ h2,h3⟩⟩
structure Wd(g:Gm)(α:List Addr)(S:Sto)(H:Hp):Prop where
 len:α.length=S.length
 nd:α.Nodup
 obj: ∀(l:Nat)(a:Addr)(o:MO),α[l]? =some a->S[l]? =some o->ObD g α H a o
section
variable{g:Gm}{α α':List Addr}{S S':Sto}{H H':Hp}
theorem Wd.at(w:Wd g α S H){l:Nat}{o:MO}(h:S[l]? =some o): ∃a,α[l]? =some a/\ObD g α H a o:=by
 have hl:l<α.length:=by rw [w.len];exact(gS0.mp h).1
 exact⟨α[l],gE0 hl,w.obj l _ o (gE0 hl) h⟩
theorem Wd.of(w:Wd g α S H){l:Nat}{a:Addr}(h:α[l]? =some a): ∃o,S[l]? =some o/\ObD g α H a o:=by
 have hl:l<S.length:=by rw [<-w.len];exact(gS0.mp h).1
 exact⟨S[l],gE0 hl,w.obj l a _ h (gE0 hl)⟩
theorem Wd.mem(w:Wd g α S H){a:Addr}(h:a∈α): ∃ho,H a=some ho/\(∀xs,ho≠.tup xs)/\ ∀ob u,ho≠.frz ob u:=by
 obtain⟨l,hl⟩:=List.getElem?_of_mem h
 obtain⟨o,_,q⟩:=w.of hl
 exact q.there
theorem Wd.newx(w:Wd g α S H){p:Addr}{o:HO}(hp:H p=none):Ext α H α (upd H p o) where
 pre:=⟨[],by simp⟩
 new:=λb h=>.inl h
 keep:=λb o h _=>by rw [zV (yR h hp)];exact h
 has:=λb o h=>⟨o,by rw [zV (yR h hp)];exact h⟩
 tup:=λb o h=>by rw [zV (yR h hp)];exact h
 frz:=λb o u h=>by rw [zV (yR h hp)];exact h
theorem Wd.fresh(w:Wd g α S H){p:Addr}(hp:H p=none):p∉α:=λz=>by
 obtain⟨_,h,_⟩:=w.mem z;rw [hp]at h;cases h
theorem Wd.new(w:Wd g α S H){p:Addr}{o:HO}(hp:H p=none):Wd g α S (upd H p o):=
 ⟨w.len,w.nd,λl a ob h1 h2=>(w.obj l a ob h1 h2).move (w.newx hp).toEx0 (zV λz=>w.fresh hp (by rw [<-z];exact mem_of_getElem? h1))⟩
theorem Wd.writex(w:Wd g α S H){l:Nat}{a:Addr}{o:HO}(h:α[l]? =some a):Ext α H α (upd H a o) where
 pre:=⟨[],by simp⟩
 new:=λb h=>.inl h
 keep:=λb o e n=>by rw [zV λz=>n (by rw [z];exact mem_of_getElem? h)];exact e
 has:=λb o e=>by
  by_cases z:b=a
  ·subst z;exact⟨_,yD⟩
  ·exact⟨o,by rw [zV z];exact e⟩
 tup:=λb xs e=>by
  obtain⟨ho,h1,h2,_⟩:=w.mem (mem_of_getElem? h)
  rw [zV λz=>h2 xs (by subst z;rw [e]at h1;exact(Option.some.inj h1).symm)];exact e
 frz:=λb ob u e=>by
  obtain⟨ho,h1,_,h2⟩:=w.mem (mem_of_getElem? h)
  rw [zV λz=>h2 ob u (by subst z;rw [e]at h1;exact(Option.some.inj h1).symm)];exact e
theorem Wd.ne(w:Wd g α S H){l m:Nat}{a b:Addr}(h:α[l]? =some a)(h':α[m]? =some b)(n:l≠m):a≠b:=by
 rintro rfl
 obtain⟨h1,e1⟩:=gS0.mp h
 obtain⟨h2,e2⟩:=gS0.mp h'
 exact n ((getElem_inj w.nd).mp (e1.trans e2.symm))
theorem Wd.write(w:Wd g α S H){l:Nat}{a:Addr}{o:HO}{ob:MO}(h:α[l]? =some a)(q:ObD g α (upd H a o) a ob):Wd g α (S.set l ob) (upd H a o) where
 len:=by rw [length_set];exact w.len
 nd:=w.nd
 obj:=λm b ob' h1 h2=>by
  by_cases e:l=m
  ·subst e
   rw [h]at h1
   have hl:l<S.length:=by rw [<-w.len];exact(gS0.mp h).1
   rw [getElem?_set_self hl]at h2
   rw [<-Option.some.inj h1, <-Option.some.inj h2]
   exact q
  ·rw [getElem?_set_ne e]at h2
   exact(w.obj m b ob' h1 h2).move (w.writex h).toEx0 (zV (w.ne h1 h λz=>e z.symm))
theorem Wd.enterx(w:Wd g α S H){H0:Hp}{α0:List Addr}(x:Ext α0 H0 α H){b:Addr}(h0:H0 b=none)(n:b∉α):Ext α0 H0 (α++[b]) H where
 pre:=let ⟨t,e⟩:=x.pre;⟨t++[b],by rw [e,aA]⟩
 new:=λc hc=>(mem_append.mp hc).elim (x.new c) λz=>.inr (by rw [mS.mp z];exact h0)
 keep:=x.keep
 has:=x.has
 tup:=x.tup
 frz:=x.frz
theorem Wd.enter(w:Wd g α S H){b:Addr}{ds:List MV}{vs:List V}(h:H b=some (.lst vs))(n:b∉α)(l:DenL g.K α H ds vs):Wd g (α++[b]) (S++[.lst ds]) H where
 len:=by rw [lA,lA,w.len];rfl
 nd:=List.nodup_append.mpr ⟨w.nd,by simp,λa ha c hc=>by rw [mS.mp hc];rintro rfl;exact n ha⟩
 obj:=λm a o h1 h2=>by
  by_cases hm:m<α.length
  ·rw [getElem?_append_left hm]at h1
   rw [getElem?_append_left (by rw [<-w.len];exact hm)]at h2
   exact(w.obj m a o h1 h2).move (Ex0.grow α [b] H) rfl
  ·have hm':m=α.length:=by
    have:=(gS0.mp h1).1
    rw [lA,lS]at this
    omega
   subst hm'
   rw [getElem?_append_right (le_refl _),sub_self]at h1
   rw [getElem?_append_right (by rw [w.len];exact le_refl _),w.len,sub_self]at h2
   cases h1;cases h2
   exact⟨vs,h,l.ex0 (Ex0.grow α [b] H)⟩
end
inductive R(β:Type) where
 |ok (b:β) (S:Sto)|exc (c:Str) (fs:List (Str×MV)) (S:Sto)|no
def R.bind{β γ:Type}:R β->(β->Sto->R γ)->R γ
 |.ok b S,k=>k b S
 |.exc c fs S,_=>.exc c fs S
 |.no,_=>.no
theorem R.bind_ok{β γ:Type}(b:β)(S:Sto)(k:β->Sto->R γ):(R.ok b S).bind k=k b S:=rfl
inductive Er where
 |val (d:MV)|new (ds:List MV)
instance:Inhabited Er:=⟨.val .non⟩
def DenX(K:PySem.W.Frag)(α:List Addr)(H:Hp):Er->V->Prop
 |.val d,v=>Den K α H d v
 |.new ds,v=> ∃b vs,v=.ref b/\H b=some (.lst vs)/\b∉α/\DenL K α H ds vs
def DenE(K:PySem.W.Frag)(H:Hp)(α':List Addr)(H':Hp)(r:Er)(v:V):Prop:=DenX K α' H' r v/\match r with |.new _=> ∀a,v=.ref a->H a=none|_=>True
section
variable{K:PySem.W.Frag}{α α':List Addr}{H H0 H':Hp}
theorem DenX.ext(x:Ext α H α' H'): ∀{r:Er}{v:V},DenX K α H r v->DenX K α' H' r v
 |.val d,_,q=>Den.ext x q
 |.new ds,_,⟨b,vs,e,h,n,l⟩=>⟨b,vs,e,x.keep b _ h n,x.out h n,l.ext x⟩
theorem DenE.val{d:MV}{v:V}(q:Den K α' H' d v):DenE K H α' H' (.val d) v:=⟨q,trivial⟩
theorem DenE.back(hf: ∀b,H b=none->H0 b=none){r:Er}{v:V}(q:DenE K H α' H' r v):DenE K H0 α' H' r v:=by
 refine⟨q.1,?_⟩
 cases r with
 |new ds=>exact λa e=>hf a (q.2 a e)
 |_=>trivial
theorem DenE.ext{α'':List Addr}{H'':Hp}(x:Ext α' H' α'' H''){r:Er}{v:V}(q:DenE K H α' H' r v):DenE K H α'' H'' r v:=⟨q.1.ext x,q.2⟩
end
section
variable{K:PySem.W.Frag}{α:List Addr}{H:Hp}{v:V}
theorem zMW(d:DenX K α H (.val .non) v):v=.non:=zDE (K:=K) (α:=α) (H:=H) d
theorem zJK{b:Bool}(d:DenX K α H (.val (.bl b)) v):v=.bl b:=zHB (K:=K) (α:=α) (H:=H) d
theorem xU{b:Int}(d:DenX K α H (.val (.int b)) v):v=.int b:=cK (K:=K) (α:=α) (H:=H) d
theorem jG{b:List Nat}(d:DenX K α H (.val (.str b)) v):v=.str (mkS b):=cL (K:=K) (α:=α) (H:=H) d
theorem yJI{b:String}(d:DenX K α H (.val (.typ b)) v):v=.ty b:=zCC (K:=K) (α:=α) (H:=H) d
theorem cN{ds:List MV}(d:DenX K α H (.val (.tup ds)) v): ∃a vs,v=.ref a/\SqT K H a vs/\DenL K α H ds vs:=bD (K:=K) (α:=α) (H:=H) d
theorem zSW{ds:List MV}(d:DenX K α H (.val (.scr ds)) v): ∃a vs,v=.ref a/\SqF K H a vs/\DenL K α H ds vs:=zCD (K:=K) (α:=α) (H:=H) d
theorem zDF{l:Nat}(d:DenX K α H (.val (.loc l)) v): ∃a,v=.ref a/\α[l]? =some a:=zAH (K:=K) (α:=α) (H:=H) d
end
def zMJ:List Er->List V->List Addr
 |.new _::rs,.ref b::vs=>b::zMJ rs vs
 |_::rs,_::vs=>zMJ rs vs
 |_,_=>[]
inductive ArgsE(K:PySem.W.Frag)(H:Hp)(α':List Addr)(H':Hp):List Er->List V->Prop
 |nil:ArgsE K H α' H' [] []
 |cons {r v rs vs}:DenE K H α' H' r v->(∀ds b,r=.new ds->v=.ref b->b∉zMJ rs vs)->ArgsE K H α' H' rs vs->ArgsE K H α' H' (r::rs) (v::vs)
theorem ArgsE.nones{K:PySem.W.Frag}{H:Hp}{α':List Addr}{H':Hp}: ∀{rs vs},ArgsE K H α' H' rs vs-> ∀b∈zMJ rs vs,H b=none
 |_,_,.nil=>λb h=>by simp [zMJ]at h
 |.val d::_,v::_,.cons a n l=>λb h=>ArgsE.nones l b (by simpa [zMJ]using h)
 |.new ds::_,v::_,.cons a n l=>λb h=>by
  obtain⟨c,vs,rfl,_⟩:=a.1
  rcases mC0.mp (show b∈c::zMJ _ _ from h)with rfl|h
  ·exact a.2 _ rfl
  ·exact ArgsE.nones l b h
theorem ArgsE.back{K:PySem.W.Frag}{H H0:Hp}{α':List Addr}{H':Hp}(hf: ∀b,H b=none->H0 b=none): ∀{rs vs},ArgsE K H α' H' rs vs->ArgsE K H0 α' H' rs vs
 |_,_,.nil=>.nil
 |_,_,.cons a n l=>.cons (a.back hf) n (ArgsE.back hf l)
theorem ArgsE.length{K:PySem.W.Frag}{H:Hp}{α':List Addr}{H':Hp}: ∀{rs vs},ArgsE K H α' H' rs vs->vs.length=rs.length
 |_,_,.nil=>rfl
 |_,_,.cons _ _ l=>by rw [lC0,lC0,ArgsE.length l]
class Dn (β:Type) (τ:outParam Type) where
 d:Gm->Hp->List Addr->Sto->Hp->β->τ->Prop
 back: ∀{g:Gm}{H H0:Hp}{α':List Addr}{S':Sto}{H':Hp}{b:β}{u:τ},(∀b,H b=none->H0 b=none)->d g H α' S' H' b u->d g H0 α' S' H' b u
instance:Dn Er V:=⟨λg H α' _ H' r v=>DenE g.K H α' H' r v,λhf q=>q.back hf⟩
instance:Dn Bool Bool:=⟨λ_ _ _ _ _ b u=>u=b,λ_ q=>q⟩
instance:Dn (List Er) (List V):=⟨λg H α' _ H' r v=>ArgsE g.K H α' H' r v,λhf q=>q.back hf⟩
instance:Dn (Option Int) (Option Int):=⟨λ_ _ _ _ _ b u=>u=b,λ_ q=>q⟩
abbrev XW:=Str->List (Str×MV)->Sto->List Addr->Hp->Prop
abbrev W0:XW:=λ_ _ _ _ _=>False
def Post{β τ:Type}[Dn β τ](g:Gm)(W:XW)(α:List Addr)(H:Hp):R β->(τ->Hp->Prop)->Prop
 |.ok b S,Q=> ∀u α' H',Ext α H α' H'->Wd g α' S H'->Dn.d g H α' S H' b u->Q u H'
 |.exc c fs S,_=> ∀α' H',Ext α H α' H'->Wd g α' S H'->W c fs S α' H'
 |.no,_=>False
section
variable{β τ γ υ:Type}[Dn β τ][Dn γ υ]{g:Gm}{W:XW}{α α':List Addr}{H H':Hp}
theorem Post.shift(x:Ext α H α' H'): ∀{m:R β}{Q:τ->Hp->Prop},Post g W α H m Q->Post g W α' H' m Q
 |.ok b S,Q,q=>λu α2 H2 x2 w2 d2=>q u α2 H2 (x.trans x2) w2 (Dn.back (λb h=>x.free h) d2)
 |.exc c fs S,_,q=>λα2 H2 x2 w2=>q α2 H2 (x.trans x2) w2
 |.no,_,q=>q
theorem Post.bind{m:R β}{k:β->Sto->R γ}{Q:υ->Hp->Prop}{Q':τ->Hp->Prop}(q:Post g W α H (m.bind k) Q)
  (f: ∀u b S1 α1 H1,m=.ok b S1->Ext α H α1 H1->Wd g α1 S1 H1->Dn.d g H α1 S1 H1 b u->Post g W α H (k b S1) Q->Q' u H1):Post g W α H m Q':=by
 cases m with
 |ok b S=>exact λu α1 H1 x w d=>f u b S α1 H1 rfl x w d q
 |exc c fs S=>exact q
 |no=>exact q
theorem Post.here{b:β}{S:Sto}{Q:τ->Hp->Prop}{u:τ}(q:Post g W α H (.ok b S) Q)(w:Wd g α S H)(d:Dn.d g H α S H b u):Q u H:=q u α H (Ext.refl α H) w d
end
theorem Post.val{g:Gm}{W:XW}{α:List Addr}{H:Hp}{d:MV}{S:Sto}{Q:VK}{v:V}(q:Post g W α H (.ok (Er.val d) S) Q)(w:Wd g α S H)(k:Den g.K α H d v):Q v H:=q.here w (DenE.val k)
theorem Post.newl{g:Gm}{W:XW}{α:List Addr}{H:Hp}{ds:List MV}{S:Sto}{Q:VK}{vs:List V}{p:Addr}(q:Post g W α H (.ok (Er.new ds) S) Q)(w:Wd g α S H)(hp:H p=none)(l:DenL g.K α H ds vs):Q (.ref p) (upd H p (.lst vs)):=
 q (.ref p) α _ (w.newx hp) (w.new hp) ⟨⟨p,vs,rfl,yD,w.fresh hp,l.ext (w.newx hp)⟩,λa e=>by cases e;exact hp⟩
theorem Post.newt{g:Gm}{W:XW}{α:List Addr}{H:Hp}{ds:List MV}{S:Sto}{Q:VK}{vs:List V}{p:Addr}(q:Post g W α H (.ok (Er.val (.tup ds)) S) Q)(w:Wd g α S H)(hp:H p=none)(l:DenL g.K α H ds vs):Q (.ref p) (upd H p (.tup vs)):=
 q (.ref p) α _ (w.newx hp) (w.new hp) (.val (zBC (.of yD) (l.ext (w.newx hp))))
abbrev Rho:=List (Option MV)
structure Slots(K:PySem.W.Frag)(α:List Addr)(H:Hp)(ρ:Rho)(σ:St):Prop where
 len:σ.length=ρ.length
 slot: ∀(i:Nat)(d:MV),ρ[i]? =some (some d)-> ∃v,σ[i]? =some (some v)/\Den K α H d v
section
variable{K:PySem.W.Frag}{α α':List Addr}{H H':Hp}{ρ:Rho}{σ:St}
theorem Slots.ex0(q:Slots K α H ρ σ)(x:Ex0 α H α' H'):Slots K α' H' ρ σ:=⟨q.len,λi d e=>let ⟨v,h1,h2⟩:=q.slot i d e;⟨v,h1,h2.ex0 x⟩⟩
theorem Slots.ext(q:Slots K α H ρ σ)(x:Ext α H α' H'):Slots K α' H' ρ σ:=q.ex0 x.toEx0
theorem yEO{α:Type}{l:List α}{i j:Nat}{x y:α}(h:(l.set i x)[j]? =some y):(j=i/\y=x/\i<l.length)\/(j≠i/\l[j]? =some y):=by
 by_cases hj:i=j
 ·subst hj
  by_cases hl:i<l.length
  ·rw [getElem?_set_self hl]at h
   exact .inl ⟨rfl,(Option.some.inj h).symm,hl⟩
  ·rw [List.getElem?_eq_none (by rw [length_set];omega)]at h;cases h
 ·rw [getElem?_set_ne hj]at h
  exact .inr ⟨λz=>hj z.symm,h⟩
theorem Slots.set(q:Slots K α H ρ σ){i:Nat}{d:MV}{v:V}(h:Den K α H d v):Slots K α H (ρ.set i (some d)) (σ.set i (some v)):=by
 refine⟨by rw [length_set,length_set];exact q.len,λj e z=>?_⟩
 rcases yEO z with⟨rfl,e',hl⟩|⟨hj,e'⟩
 ·cases e'
  exact⟨v,by rw [getElem?_set_self (by rw [q.len];exact hl)],h⟩
 ·obtain⟨u,h1,h2⟩:=q.slot j e e'
  exact⟨u,by rw [getElem?_set_ne (Ne.symm hj)];exact h1,h2⟩
end
def Jd(X:Cx)(W:XW){β τ:Type}[Dn β τ](P:(St->Hp->(τ->Hp->Prop)->Prop)->Prop)(f:Rho->Sto->R β):Prop:=
 ∃t,P t/\ ∀α ρ S σ H Q,Wd X.g α S H->Slots X.K α H ρ σ->Post X.g W α H (f ρ S) Q->t σ H Q
abbrev PEm(X:Cx)(W:XW)(e:Expr)(f:Rho->Sto->R Er):Prop:=Jd X W (PE X e) f
abbrev PTm(X:Cx)(W:XW)(e:Expr)(f:Rho->Sto->R Bool):Prop:=Jd X W (PT X e) f
abbrev PWm(X:Cx)(W:XW)(e:Expr)(f:Rho->Sto->R Bool):Prop:=Jd X W (PW X e) f
abbrev PAm(X:Cx)(W:XW)(es:List Expr)(f:Rho->Sto->R (List Er)):Prop:=Jd X W (PA X es) f
abbrev POm(X:Cx)(W:XW)(e:Option Expr)(f:Rho->Sto->R (Option Int)):Prop:=Jd X W (PO X e) f
section
variable{X:Cx}{W:XW}{a b c e:Expr}{es:List Expr}{f g h:Rho->Sto->R Er}{tf tg:Rho->Sto->R Bool}{af:Rho->Sto->R (List Er)}{pos:Pos}
def rdSl:Option (Option MV)->Sto->R Er
 |some (some d),S=>.ok (.val d) S
 |_,_=>.no
theorem zB(i:Nat){x:Str}(hN:X.N[i]? =some x:=by rfl)(hv:Vis X.env.scope x:=by first |exact Or.inl rfl|exact Or.inr (Or.inl rfl)|exact Or.inr (Or.inr rfl))(hd:(x==("__debug__":Str))=false:=by decide)
  (hcd:(x==("__classdict__":Str))=false:=by decide):PEm X W (.Name x pos) (λρ S=>rdSl (ρ[i]?) S):=by
 refine⟨_,pv i hN hv hd hcd,λα ρ S σ H Q wd sl q=>?_⟩
 dsimp only at q
 cases z:ρ[i]? with
 |none=>rw [z]at q;exact q.elim
 |some o=>
  cases o with
  |none=>rw [z]at q;exact q.elim
  |some d=>
   rw [z]at q
   obtain⟨v,h1,h2⟩:=sl.slot i d z
   exact⟨v,h1,Post.val q wd h2⟩
theorem zC{i:Int}{j:Nat}:PEm X W (.Constant (.int i) j pos) (λ_ S=>.ok (.val (.int i)) S):=⟨_,yIJ,λα ρ S σ H Q wd sl q=>Post.val q wd (xV i)⟩
theorem kI{i:Bool}{j:Nat}:PEm X W (.Constant (.bool i) j pos) (λ_ S=>.ok (.val (.bl i)) S):=⟨_,pe_bl,λα ρ S σ H Q wd sl q=>Post.val q wd (wT i)⟩
theorem zMX{j:Nat}:PEm X W (.Constant .none j pos) (λ_ S=>.ok (.val .non) S):=⟨_,ySB,λα ρ S σ H Q wd sl q=>Post.val q wd zCV⟩
theorem yG{x:Str}{j:Nat}(cs:List Nat)(hx:x=mkS cs:=by rfl):PEm X W (.Constant (.str x) j pos) (λ_ S=>.ok (.val (.str cs)) S):=
 ⟨_,yIK,λα ρ S σ H Q wd sl q=>Post.val q wd (by rw [hx];exact zCW cs)⟩
theorem zHZ{x:Str}{i:Int}{t:Tok}(hg:Gl X x)(hm:X.mg x=some (.int i t))(hd:(x==("__debug__":Str))=false:=by decide):PEm X W (.Name x pos) (λ_ S=>.ok (.val (.int i)) S):=
 ⟨_,zWX (v:=.int i) hg hm ⟨t,rfl⟩ hd,λα ρ S σ H Q wd sl q=>Post.val q wd (xV i)⟩
theorem gB{x:Str}{T:String}(hg:Gl X x)(hm:X.mg x=none)(hv:bootBuiltins x=some (.type T))(hn:x≠"__name__":=by decide)(hd:(x==("__debug__":Str))=false:=by decide):PEm X W (.Name x pos) (λ_ S=>.ok (.val (.typ T)) S):=
 ⟨_,yED (v:=.ty T) hg hm hv rfl hn hd,λα ρ S σ H Q wd sl q=>Post.val q wd (yEM T)⟩
theorem zIA{i:Int}{j:Nat}{p3:Pos}:PEm X W (.UnaryOp .USub (.Constant (.int i) j p3) pos) (λ_ S=>.ok (.val (.int (-i))) S):=
 ⟨_,pe_un ySS yIJ,λα ρ S σ H Q wd sl q=>⟨i,rfl,Post.val q wd (xV (-i))⟩⟩
def Op2(X:Cx)(W:XW)(r:R2)(F:Er->Er->Sto->R Er):Prop:= ∀p q x y α S H Q,Wd X.g α S H->DenX X.K α H p x->DenX X.K α H q y->Post X.g W α H (F p q S) Q->r x y H Q
theorem two{r:R2}{F:Er->Er->Sto->R Er}(hF:Op2 X W r F){ta tb:TE}(fa: ∀α ρ S σ H Q,Wd X.g α S H->Slots X.K α H ρ σ->Post X.g W α H (f ρ S) Q->ta σ H Q)
  (fb: ∀α ρ S σ H Q,Wd X.g α S H->Slots X.K α H ρ σ->Post X.g W α H (g ρ S) Q->tb σ H Q) {α:List Addr} {ρ:Rho} {S:Sto} {σ:St} {H:Hp} {Q:VK} (wd:Wd X.g α S H) (sl:Slots X.K α H ρ σ)
  (q:Post X.g W α H ((f ρ S).bind λp S1=>(g ρ S1).bind λq S2=>F p q S2) Q):ta σ H λx H1=>tb σ H1 λy H2=>r x y H2 Q:=
 fa α ρ S σ H _ wd sl (q.bind λu p S1 α1 H1 e1 x1 w1 d1 q1=>fb α1 ρ S1 σ H1 _ w1 (sl.ext x1) ((q1.shift x1).bind λu2 p2 S2 α2 H2 e2 x2 w2 d2 q2=>
  hF p p2 u u2 α2 S2 H2 Q w2 (d1.1.ext x2) d2.1 (q2.shift x2)))
theorem zSX{op:Operator}{r:R2}{F:Er->Er->Sto->R Er}(ho:OpR X (binaryOp op) r)(hF:Op2 X W r F)(ha:PEm X W a f)(hb:PEm X W b g):PEm X W (.BinOp a op b pos) (λρ S=>(f ρ S).bind λp S1=>(g ρ S1).bind λq S2=>F p q S2):=by
 obtain⟨ta,ha,fa⟩:=ha
 obtain⟨tb,hb,fb⟩:=hb
 exact⟨_,pe_op ho ha hb,λα ρ S σ H Q wd sl q=>two hF fa fb wd sl q⟩
theorem zXK{op:CmpOp}{r:R2}{F:Er->Er->Sto->R Er}(ho:OpR X (compareOp op) r)(hF:Op2 X W r F)(ha:PEm X W a f)(hb:PEm X W b g)(hm:behindInMarks op b=false:=by first |exact yIR _|with_unfolding_all rfl):
  PEm X W (.Compare a [op] [b] pos) (λρ S=>(f ρ S).bind λp S1=>(g ρ S1).bind λq S2=>F p q S2):=by
 obtain⟨ta,ha,fa⟩:=ha
 obtain⟨tb,hb,fb⟩:=hb
 exact⟨_,yNM ho ha hb hm,λα ρ S σ H Q wd sl q=>two hF fa fb wd sl q⟩
theorem pm_ix{r:R2}{F:Er->Er->Sto->R Er}(ho:IxR X r)(hF:Op2 X W r F)(ha:PEm X W a f)(hb:PEm X W b g)(hs:zXB b:=by exact λ_ _=>rfl):
  PEm X W (.Subscript a b pos) (λρ S=>(f ρ S).bind λp S1=>(g ρ S1).bind λq S2=>F p q S2):=by
 obtain⟨ta,ha,fa⟩:=ha
 obtain⟨tb,hb,fb⟩:=hb
 exact⟨_,pe_ix ho ha hb hs,λα ρ S σ H Q wd sl q=>two hF fa fb wd sl q⟩
def asB:Er->Sto->R Bool
 |.val (.bl b),S=>.ok b S
 |_,_=>.no
theorem zZZ{p:Er}{S:Sto}{α:List Addr}{H:Hp}{Q:Bool->Hp->Prop}(q:Post X.g W α H (asB p S) Q): ∃k,p=.val (.bl k)/\Post X.g W α H (.ok k S) Q:=by
 unfold asB at q
 split at q
 ·exact⟨_,rfl,q⟩
 ·exact q.elim
theorem zOF{β τ:Type}[Dn β τ]{p:Er}{S:Sto}{α:List Addr}{H:Hp}{k:Bool->Sto->R β}{Q:τ->Hp->Prop}(q:Post X.g W α H ((asB p S).bind k) Q): ∃c,p=.val (.bl c)/\Post X.g W α H (k c S) Q:=by
 unfold asB at q
 split at q
 ·exact⟨_,rfl,q⟩
 ·exact q.elim
theorem zMY{op:CmpOp}{r:R2}{F:Er->Er->Sto->R Er}(ho:OpR X (compareOp op) r)(hF:Op2 X W r F)(ha:PEm X W a f)(hb:PEm X W b g)(hm:behindInMarks op b=false:=by first |exact yIR _|with_unfolding_all rfl):
  PTm X W (.Compare a [op] [b] pos) (λρ S=>((f ρ S).bind λp S1=>(g ρ S1).bind λq S2=>F p q S2).bind asB):=by
 obtain⟨ta,ha,fa⟩:=ha
 obtain⟨tb,hb,fb⟩:=hb
 refine⟨_,yNN ho ha hb hm,λα ρ S σ H Q wd sl q=>?_⟩
 refine two hF fa fb wd sl (Q:=λx H'=> ∃k,x=.bl k/\Q k H') (q.bind λu p S1 α1 H1 e1 x1 w1 d1 q1=>?_)
 obtain⟨k,rfl,q2⟩:=zZZ (q1.shift x1)
 exact⟨k,zJK d1.1,q2.here w1 rfl⟩
def chF(F G:Er->Er->Sto->R Er)(p q:Er)(S:Sto)(k:Sto->R Er):R Er:=(F p q S).bind λz S1=>(asB z S1).bind λc S2=>if c=true then(k S2).bind λr S3=>G q r S3 else .ok (.val (.bl false)) S2
theorem chain{r r':R2}{F G:Er->Er->Sto->R Er}(hF:Op2 X W r F)(hG:Op2 X W r' G){ta tb tc:TE}(fa: ∀α ρ S σ H Q,Wd X.g α S H->Slots X.K α H ρ σ->Post X.g W α H (f ρ S) Q->ta σ H Q)
  (fb: ∀α ρ S σ H Q,Wd X.g α S H->Slots X.K α H ρ σ->Post X.g W α H (g ρ S) Q->tb σ H Q) (fc: ∀α ρ S σ H Q,Wd X.g α S H->Slots X.K α H ρ σ->Post X.g W α H (h ρ S) Q->tc σ H Q) {α:List Addr} {ρ:Rho} {S:Sto} {σ:St} {H:Hp} {Q:VK} (wd:Wd X.g α S H) (sl:Slots X.K α H ρ σ)
  (q:Post X.g W α H ((f ρ S).bind λp S1=>(g ρ S1).bind λq S2=>chF F G p q S2 λS3=>h ρ S3) Q):yBU r r' ta tb tc σ H Q:=
 fa α ρ S σ H _ wd sl (q.bind λu p S1 α1 H1 e1 x1 w1 d1 q1=>fb α1 ρ S1 σ H1 _ w1 (sl.ext x1) ((q1.shift x1).bind λu2 p2 S2 α2 H2 e2 x2 w2 d2 q2=>by
  refine hF p p2 u u2 α2 S2 H2 _ w2 (d1.1.ext x2) d2.1 (Post.bind (q2.shift x2) λu3 p3 S3 α3 H3 e3 x3 w3 d3 q3=>?_)
  obtain⟨k,rfl,q4⟩:=zOF (q3.shift x3)
  refine⟨k,zJK d3.1,?_⟩
  cases k with
  |true=>
   rw [iP rfl]at q4 ⊢
   exact fc α3 ρ S3 σ H3 _ w3 (((sl.ext x1).ext x2).ext x3) (q4.bind λu5 p5 S5 α5 H5 e5 x5 w5 d5 q5=>hG p2 p5 u2 u5 α5 S5 H5 Q w5 ((d2.1.ext x3).ext x5) d5.1 (q5.shift x5))
  |false=>
   rw [iN0 xF0]at q4 ⊢
   exact Post.val q4 w3 (wT false)))
theorem zSY{op op':CmpOp}{r r':R2}{F G:Er->Er->Sto->R Er}(ho:OpR X (compareOp op) r)(ho':OpR X (compareOp op') r')(hF:Op2 X W r F)(hG:Op2 X W r' G)(ha:PEm X W a f)(hb:PEm X W b g)(hc:PEm X W c h)
  (hm:lastMarks [op,op'] [b,c]=false:=by with_unfolding_all rfl):
  PEm X W (.Compare a [op,op'] [b,c] pos) (λρ S=>(f ρ S).bind λp S1=>(g ρ S1).bind λq S2=>chF F G p q S2 λS3=>h ρ S3):=by
 obtain⟨ta,ha,fa⟩:=ha
 obtain⟨tb,hb,fb⟩:=hb
 obtain⟨tc,hc,fc⟩:=hc
 exact⟨_,yIS ho ho' ha hb hc hm,λα ρ S σ H Q wd sl q=>chain hF hG fa fb fc wd sl q⟩
theorem yJJ{op op':CmpOp}{r r':R2}{F G:Er->Er->Sto->R Er}(ho:OpR X (compareOp op) r)(ho':OpR X (compareOp op') r')(hF:Op2 X W r F)(hG:Op2 X W r' G)(ha:PEm X W a f)(hb:PEm X W b g)(hc:PEm X W c h)
  (hm:lastMarks [op,op'] [b,c]=false:=by with_unfolding_all rfl):
  PTm X W (.Compare a [op,op'] [b,c] pos) (λρ S=>((f ρ S).bind λp S1=>(g ρ S1).bind λq S2=>chF F G p q S2 λS3=>h ρ S3).bind asB):=by
 obtain⟨ta,ha,fa⟩:=ha
 obtain⟨tb,hb,fb⟩:=hb
 obtain⟨tc,hc,fc⟩:=hc
 refine⟨_,yIT ho ho' ha hb hc hm,λα ρ S σ H Q wd sl q=>?_⟩
 refine chain hF hG fa fb fc wd sl (Q:=λx H'=> ∃k,x=.bl k/\Q k H') (q.bind λu p S1 α1 H1 e1 x1 w1 d1 q1=>?_)
 obtain⟨k,rfl,q2⟩:=zZZ (q1.shift x1)
 exact⟨k,zJK d1.1,q2.here w1 rfl⟩
def gK:Er->Sto->R Bool
 |.val .non,S=>.ok false S
 |.val (.bl b),S=>.ok b S
 |.val (.int i),S=>.ok (i !=0) S
 |.val (.str x),S=>if x.length<=sizeLine then .ok (!x.isEmpty) S else .no
 |.val (.tup ds),S=>.ok (!ds.isEmpty) S
 |.val (.scr ds),S=>.ok (!ds.isEmpty) S
 |.val (.loc l),S=>match S[l]? with
  |some (.lst ds)=>.ok (!ds.isEmpty) S
  |_=>.no
 |.val (.typ _),_=>.no
 |.new ds,S=>.ok (!ds.isEmpty) S
theorem zLV{ds:List MV}{vs:List V}{K:PySem.W.Frag}{α:List Addr}{H:Hp}(l:DenL K α H ds vs):(!vs.isEmpty)= !ds.isEmpty:=by
 have:=l.length
 cases ds<;>cases vs<;>simp_all
theorem yJK{p:Er}{x:V}{S:Sto}{α:List Addr}{H:Hp}{Q:Bool->Hp->Prop}(wd:Wd X.g α S H)(d:DenX X.K α H p x)(q:Post X.g W α H (gK p S) Q): ∃k,TruV X.K x H k/\Q k H:=by
 match p,d,q with
 |.val .non,d,q=>cases zMW d;exact⟨_,rfl,q.here wd rfl⟩
 |.val (.bl b),d,q=>cases zJK d;exact⟨_,rfl,q.here wd rfl⟩
 |.val (.int i),d,q=>cases xU d;exact⟨_,rfl,q.here wd rfl⟩
 |.val (.typ n),d,q=>exact q.elim
 |.val (.str z),d,q=>
  cases jG d
  have q':Post X.g W α H (if z.length<=sizeLine then R.ok (!z.isEmpty) S else R.no) Q:=q
  split at q'
  ·rename_i hz
   refine⟨_,⟨by rw [cB];exact hz,?_⟩,q'.here wd rfl⟩
   rw [cB]
   cases z with
   |nil=>rfl
   |cons c r=>
    have h0:((r.length:Int)+1)≠0:=by omega
    simp [h0]
  ·exact q'.elim
 |.val (.tup ds),d,q=>
  obtain⟨a,vs,rfl,s,l⟩:=cN d
  exact⟨_,.inr (.inl ⟨vs,s,(zLV l).symm⟩),q.here wd rfl⟩
 |.val (.scr ds),d,q=>
  obtain⟨a,vs,rfl,s,l⟩:=zSW d
  exact⟨_,.inl ⟨vs,s.l,(zLV l).symm⟩,q.here wd rfl⟩
 |.val (.loc n),d,q=>
  obtain⟨a,rfl,h⟩:=zDF d
  obtain⟨o,h1,h2⟩:=wd.of h
  have q':Post X.g W α H (match S[n]? with |some (.lst ds)=>R.ok (!ds.isEmpty) S|_=>R.no) Q:=q
  rw [h1]at q'
  cases o with
  |lst ds=>
   obtain⟨vs,h3,l⟩:=h2
   exact⟨_,.inl ⟨vs,.of h3,(zLV l).symm⟩,q'.here wd rfl⟩
  |dic ds=>exact q'.elim
  |ins c fs=>exact q'.elim
 |.new ds,⟨a,vs,ex,s,n,l⟩,q=>subst ex;exact⟨_,.inl ⟨vs,.of s,(zLV l).symm⟩,q.here wd rfl⟩
theorem yB(ha:PEm X W a f)(he: ∀whole,isTrue a X.env whole=(do let v <-whole;standAt a.pos;holding [v] (truthy v)):=by intro _;rfl):PTm X W a (λρ S=>(f ρ S).bind gK):=by
 obtain⟨ta,ha,fa⟩:=ha
 exact⟨_,yIU ha he,λα ρ S σ H Q wd sl q=>fa α ρ S σ H _ wd sl (q.bind λu p S1 α1 H1 e1 x1 w1 d1 q1=>yJK w1 d1.1 (q1.shift x1))⟩
end
section
variable{X:Cx}{W:XW}{a b c e:Expr}{es:List Expr}{f g h:Rho->Sto->R Er}{tf tg:Rho->Sto->R Bool}{af:Rho->Sto->R (List Er)}{pos:Pos}
def zAI(p:Er)(S:Sto)(k:Sto->R Er):R Er:=(asB p S).bind λc S1=>if c=true then k S1 else .ok (.val (.bl false)) S1
def orF(p:Er)(S:Sto)(k:Sto->R Er):R Er:=(asB p S).bind λc S1=>if c=true then .ok (.val (.bl true)) S1 else k S1
theorem jH{op}(ha:PEm X W a f):PEm X W (.BoolOp op [a] pos) f:=let ⟨t,h,k⟩:=ha;⟨t,ySF h,k⟩
theorem wV(ha:PEm X W a f)(hb:PEm X W (.BoolOp .And (b::es) pos) g):PEm X W (.BoolOp .And (a::b::es) pos) (λρ S=>(f ρ S).bind λp S1=>zAI p S1 λS2=>g ρ S2):=by
 obtain⟨ta,ha,fa⟩:=ha
 obtain⟨tb,hb,fb⟩:=hb
 refine⟨_,ySG ha hb,λα ρ S σ H Q wd sl q=>fa α ρ S σ H _ wd sl (q.bind λu p S1 α1 H1 e1 x1 w1 d1 q1=>?_)⟩
 obtain⟨k,rfl,q2⟩:=zOF (q1.shift x1)
 refine⟨k,zJK d1.1,?_⟩
 cases k with
 |true=>rw [iP rfl]at q2 ⊢; exact fb α1 ρ S1 σ H1 _ w1 (sl.ext x1) q2
 |false=>rw [iN0 xF0]at q2 ⊢; exact Post.val q2 w1 (wT false)
theorem pm_or(ha:PEm X W a f)(hb:PEm X W (.BoolOp .Or (b::es) pos) g):PEm X W (.BoolOp .Or (a::b::es) pos) (λρ S=>(f ρ S).bind λp S1=>orF p S1 λS2=>g ρ S2):=by
 obtain⟨ta,ha,fa⟩:=ha
 obtain⟨tb,hb,fb⟩:=hb
 refine⟨_,pe_or ha hb,λα ρ S σ H Q wd sl q=>fa α ρ S σ H _ wd sl (q.bind λu p S1 α1 H1 e1 x1 w1 d1 q1=>?_)⟩
 obtain⟨k,rfl,q2⟩:=zOF (q1.shift x1)
 refine⟨k,zJK d1.1,?_⟩
 cases k with
 |true=>rw [iP rfl]at q2 ⊢; exact Post.val q2 w1 (wT true)
 |false=>rw [iN0 xF0]at q2 ⊢; exact fb α1 ρ S1 σ H1 _ w1 (sl.ext x1) q2
theorem zXL(ha:PEm X W a f):PEm X W (.UnaryOp .Not a pos) (λρ S=>(f ρ S).bind λp S1=>(asB p S1).bind λk S2=>.ok (.val (.bl !k)) S2):=by
 obtain⟨ta,ha,fa⟩:=ha
 refine⟨_,ySH ha,λα ρ S σ H Q wd sl q=>fa α ρ S σ H _ wd sl (q.bind λu p S1 α1 H1 e1 x1 w1 d1 q1=>?_)⟩
 obtain⟨k,rfl,q2⟩:=zOF (q1.shift x1)
 exact⟨k,zJK d1.1,Post.val q2 w1 (wT _)⟩
theorem yEP(ha:PTm X W a tf):PWm X W (.BoolOp .And [a] pos) tf:=let ⟨t,h,k⟩:=ha;⟨t,yNH h,k⟩
theorem dS(ha:PTm X W a tf):PWm X W (.BoolOp .Or [a] pos) tf:=let ⟨t,h,k⟩:=ha;⟨t,ySC h,k⟩
theorem yJL(ha:PTm X W a tf)(hb:PWm X W (.BoolOp .And (b::es) pos) tg):PWm X W (.BoolOp .And (a::b::es) pos) (λρ S=>(tf ρ S).bind λk S1=>if k=true then tg ρ S1 else .ok false S1):=by
 obtain⟨ta,ha,fa⟩:=ha
 obtain⟨tb,hb,fb⟩:=hb
 refine⟨_,ySD ha hb,λα ρ S σ H Q wd sl q=>fa α ρ S σ H _ wd sl (q.bind λu p S1 α1 H1 e1 x1 w1 d1 q1=>?_)⟩
 cases d1
 cases u with
 |true=>rw [iP rfl]at q1 ⊢; exact fb α1 ρ S1 σ H1 _ w1 (sl.ext x1) (q1.shift x1)
 |false=>rw [iN0 xF0]at q1 ⊢; exact(q1.shift x1).here w1 rfl
theorem zDG(ha:PTm X W a tf)(hb:PWm X W (.BoolOp .Or (b::es) pos) tg):PWm X W (.BoolOp .Or (a::b::es) pos) (λρ S=>(tf ρ S).bind λk S1=>if k=true then .ok true S1 else tg ρ S1):=by
 obtain⟨ta,ha,fa⟩:=ha
 obtain⟨tb,hb,fb⟩:=hb
 refine⟨_,pw_or ha hb,λα ρ S σ H Q wd sl q=>fa α ρ S σ H _ wd sl (q.bind λu p S1 α1 H1 e1 x1 w1 d1 q1=>?_)⟩
 cases d1
 cases u with
 |true=>rw [iP rfl]at q1 ⊢; exact(q1.shift x1).here w1 rfl
 |false=>rw [iN0 xF0]at q1 ⊢; exact fb α1 ρ S1 σ H1 _ w1 (sl.ext x1) (q1.shift x1)
theorem zCQ(h:PWm X W a tf):PTm X W a tf:=let ⟨t,h,k⟩:=h;⟨t,h.pt,k⟩
theorem xX(ha:PTm X W a tf):PTm X W (.UnaryOp .Not a pos) (λρ S=>(tf ρ S).bind λk S1=>.ok (!k) S1):=by
 obtain⟨ta,ha,fa⟩:=ha
 refine⟨_,ySE ha,λα ρ S σ H Q wd sl q=>fa α ρ S σ H _ wd sl (q.bind λu p S1 α1 H1 e1 x1 w1 d1 q1=>?_)⟩
 cases d1
 exact(q1.shift x1).here w1 rfl
end
section
variable{K:PySem.W.Frag}{H0:Hp}
def zY:List Er->Sto->List MV×Sto
 |[],S=>([],S)
 |.val d::rs,S=>((d::(zY rs S).1),(zY rs S).2)
 |.new xs::rs,S=>((.loc S.length::(zY rs (S++[.lst xs])).1),(zY rs (S++[.lst xs])).2)
theorem ArgsE.grow{H0:Hp}{α:List Addr}{H:Hp}{b:Addr}{rs:List Er}{vs:List V}(q:ArgsE K H0 α H rs vs)(n:b∉zMJ rs vs):ArgsE K H0 (α++[b]) H rs vs:=by
 induction q with
 |nil=>exact .nil
 |@cons r v rs vs a m l ih=>
  cases r with
  |val d=>exact .cons ⟨Den.ex0 (Ex0.grow α [b] H) a.1,trivial⟩ m (ih (by simpa [zMJ]using n))
  |new ds=>
   obtain⟨⟨c,us,rfl,h1,h2,h3⟩,h4⟩:=a
   have n':b∉c::zMJ rs vs:=n
   refine .cons ⟨⟨c,us,rfl,h1,λz=>?_,h3.ex0 (Ex0.grow α [b] H)⟩,h4⟩ m (ih λz=>n' (mO _ z))
   rcases mem_append.mp z with z|z
   ·exact h2 z
   ·exact n' (by rw [mS.mp z];exact mF0)
theorem zHC{g:Gm}{H0:Hp}{α0:List Addr}{H:Hp}: ∀{rs:List Er}{vs:List V}{α:List Addr}{S:Sto},Wd g α S H->Ext α0 H0 α H->ArgsE g.K H0 α H rs vs->
  ∃α',Ext α0 H0 α' H/\Ex0 α H α' H/\Wd g α' (zY rs S).2 H/\DenL g.K α' H (zY rs S).1 vs
 |_,_,α,S,w,x,.nil=>⟨α,x,⟨⟨[],by simp⟩,λ_ _ h=>h,λ_ _ _ h=>h⟩,w,wU⟩
 |.val d::rs,v::vs,α,S,w,x,.cons a n l=>by
  obtain⟨α',x',y',w',l'⟩:=zHC w x l
  exact⟨α',x',y',w',xS (Den.ex0 y' a.1) l'⟩
 |.new ds::rs,v::vs,α,S,w,x,.cons a n l=>by
  obtain⟨⟨c,us,rfl,h1,h2,h3⟩,h4⟩:=a
  obtain⟨α',x',y',w',l'⟩:=zHC (w.enter h1 h2 h3) (w.enterx x (h4 c rfl) h2) (l.grow (n ds c rfl rfl))
  refine⟨α',x',⟨?_,y'.tup,y'.frz⟩,w',xS (zLU (y'.at ?_)) l'⟩
  ·obtain⟨t,e⟩:=y'.pre
   exact⟨[c]++t,by rw [e,aA]⟩
  ·rw [<-w.len,getElem?_append_right (le_refl _),sub_self];rfl
theorem zLW: ∀(rs:List Er)(S:Sto),(zY rs S).1.length=rs.length
 |[],S=>rfl
 |.val d::rs,S=>by show(d::(zY rs S).1).length=_;rw [lC0,zLW rs S];rfl
 |.new ds::rs,S=>by show(_::(zY rs _).1).length=_;rw [lC0,zLW rs _];rfl
end
section
variable{X:Cx}{W:XW}{a b c e:Expr}{es:List Expr}{f g h:Rho->Sto->R Er}{tf tg:Rho->Sto->R Bool}{af:Rho->Sto->R (List Er)}{pos:Pos}
theorem zD:PAm X W [] (λ_ S=>.ok [] S):=⟨_,zSK,λα ρ S σ H Q wd sl q=>q.here wd .nil⟩
theorem zA(ha:PEm X W a f)(hr:PAm X W es af)(hs:starEach (a::es) X.env=(false,eval a X.env)::starEach es X.env:=by rfl):PAm X W (a::es) (λρ S=>(f ρ S).bind λp S1=>(af ρ S1).bind λps S2=>.ok (p::ps) S2):=by
 obtain⟨ta,ha,fa⟩:=ha
 obtain⟨tr,hr,fr⟩:=hr
 refine⟨_,zES ha hr hs,λα ρ S σ H Q wd sl q=>fa α ρ S σ H _ wd sl (q.bind λu p S1 α1 H1 e1 x1 w1 d1 q1=>fr α1 ρ S1 σ H1 _ w1 (sl.ext x1) ?_)⟩
 have q1':Post X.g W α H ((af ρ S1).bind λps S2=>.ok (p::ps) S2) Q:=q1
 cases z:af ρ S1 with
 |ok ps S2=>
  rw [z]at q1'
  intro vs α2 H2 x2 w2 d2
  refine q1' (u::vs) α2 H2 (x1.trans x2) w2 (ArgsE.cons (DenE.ext x2 d1) (λds b er eu hb=>?_) (ArgsE.back (λb h=>x1.free h) d2))
  subst er eu
  obtain⟨⟨c,us,ec,h1,_⟩,_⟩:=d1
  cases ec
  have:=ArgsE.nones d2 _ hb
  rw [h1]at this;cases this
 |exc c fs S2=>rw [z]at q1';exact λα2 H2 x2 w2=>q1' α2 H2 (x1.trans x2) w2
 |no=>rw [z]at q1';exact q1'
def xE(rs:List Er)(S:Sto):R Er:=if rs.length<=sizeLine then .ok (.val (.tup (zY rs S).1)) (zY rs S).2 else .no
def jP(rs:List Er)(S:Sto):R Er:=if rs.length<=sizeLine then .ok (.new (zY rs S).1) (zY rs S).2 else .no
theorem zZ{x1}(h:PAm X W es af):PEm X W (.Tuple es x1 pos) (λρ S=>(af ρ S).bind xE):=by
 obtain⟨t,h,k⟩:=h
 refine⟨_,ySU h,λα ρ S σ H Q wd sl q=>k α ρ S σ H _ wd sl (q.bind λvs rs S1 α1 H1 e1 x1 w1 d1 q1=>?_)⟩
 have q1':Post X.g W α H (if rs.length<=sizeLine then R.ok (Er.val (.tup (zY rs S1).1)) (zY rs S1).2 else R.no) Q:=q1
 split at q1'
 ·rename_i hz
  obtain⟨α2,x2,y2,w2,l2⟩:=zHC w1 x1 d1
  exact⟨by rw [ArgsE.length d1];exact hz,λp hp=>(q1'.shift x2).newt w2 hp l2⟩
 ·exact q1'.elim
theorem xL(h:PAm X W es af):PEm X W (.List es pos) (λρ S=>(af ρ S).bind jP):=by
 obtain⟨t,h,k⟩:=h
 refine⟨_,ySV h,λα ρ S σ H Q wd sl q=>k α ρ S σ H _ wd sl (q.bind λvs rs S1 α1 H1 e1 x1 w1 d1 q1=>?_)⟩
 have q1':Post X.g W α H (if rs.length<=sizeLine then R.ok (Er.new (zY rs S1).1) (zY rs S1).2 else R.no) Q:=q1
 split at q1'
 ·rename_i hz
  obtain⟨α2,x2,y2,w2,l2⟩:=zHC w1 x1 d1
  exact⟨by rw [ArgsE.length d1];exact hz,λp hp=>(q1'.shift x2).newl w2 hp l2⟩
 ·exact q1'.elim
inductive ArgsX(K:PySem.W.Frag)(α:List Addr)(H:Hp):List Er->List V->Prop
 |nil:ArgsX K α H [] []
 |cons {r v rs vs}:DenX K α H r v->ArgsX K α H rs vs->ArgsX K α H (r::rs) (v::vs)
theorem ArgsE.x{K:PySem.W.Frag}{H0:Hp}{α:List Addr}{H:Hp}: ∀{rs vs},ArgsE K H0 α H rs vs->ArgsX K α H rs vs
 |_,_,.nil=>.nil
 |_,_,.cons a _ l=>.cons a.1 (ArgsE.x l)
def zOG(X:Cx)(W:XW)(r:List V->Hp->VK->Prop)(F:List Er->Sto->R Er):Prop:= ∀rs vs α S H Q,Wd X.g α S H->ArgsX X.K α H rs vs->Post X.g W α H (F rs S) Q->r vs H Q
theorem zL{id:String}{r:List V->Hp->VK->Prop}{F:List Er->Sto->R Er}{x:Str}{p:Pos}(hc:CallR X (.builtin id) r)(hF:zOG X W r F)(hg:Gl X x)(hm:X.mg x=none)(hv:bootBuiltins x=some (.builtin id))(ha:PAm X W (e::es) af)
  (hn:x≠"__name__":=by decide) (hdb:(x==("__debug__":Str))=false:=by decide)
  (he:starEach (e::es) X.env=(false,eval e X.env)::starEach es X.env:=by rfl) (hpl:(backTo pos (starEach es X.env)).any (·.1)=false:=by rfl):PEm X W (.Call (.Name x p) (e::es) [] pos) (λρ S=>(af ρ S).bind F):=by
 obtain⟨t,ha,k⟩:=ha
 exact⟨_,zSM hc hg hm hv ha hn hdb he hpl,λα ρ S σ H Q wd sl q=>k α ρ S σ H _ wd sl (q.bind λvs rs S1 α1 H1 e1 x1 w1 d1 q1=>hF rs vs α1 S1 H1 Q w1 (ArgsE.x d1) (q1.shift x1))⟩
theorem gF{T:String}{r:List V->Hp->VK->Prop}{F:List Er->Sto->R Er}{x:Str}{p:Pos}(hc:CallR X (.type T) r)(hF:zOG X W r F)(hg:Gl X x)(hm:X.mg x=none)(hv:bootBuiltins x=some (.type T))(ha:PAm X W (e::es) af)
  (hn:x≠"__name__":=by decide) (hdb:(x==("__debug__":Str))=false:=by decide)
  (he:starEach (e::es) X.env=(false,eval e X.env)::starEach es X.env:=by rfl) (hpl:(backTo pos (starEach es X.env)).any (·.1)=false:=by rfl):PEm X W (.Call (.Name x p) (e::es) [] pos) (λρ S=>(af ρ S).bind F):=by
 obtain⟨t,ha,k⟩:=ha
 exact⟨_,yGU hc hg hm hv ha hn hdb he hpl,λα ρ S σ H Q wd sl q=>k α ρ S σ H _ wd sl (q.bind λvs rs S1 α1 H1 e1 x1 w1 d1 q1=>hF rs vs α1 S1 H1 Q w1 (ArgsE.x d1) (q1.shift x1))⟩
def MtdM(X:Cx)(W:XW)(r:V->List V->Hp->VK->Prop)(F:Er->List Er->Sto->R Er):Prop:= ∀p rs x vs α S H0 H Q α0,Wd X.g α S H->Ext α0 H0 α H->DenX X.K α H p x->ArgsE X.K H0 α H rs vs->Post X.g W α0 H0 (F p rs S) Q->r x vs H Q
def TyM(X:Cx)(T:String)(ty:Er->Sto->Bool):Prop:= ∀p x α S H,Wd X.g α S H->DenX X.K α H p x->ty p S=true->tyV X.K T x H
theorem yEQ{T:String}{name:Str}{id:String}{r:V->List V->Hp->VK->Prop}{F:Er->List Er->Sto->R Er}{ty:Er->Sto->Bool}{apos:Pos}(pa:PlainAttrs T)(slot:Slot T name id)(hty:typeOf (.builtin id)=pure (.type "method_descriptor"))(hm:MtR X id r)(hF:MtdM X W r F)(hT:TyM X T ty)
  (ho:PEm X W a f) (ha:PAm X W (e::es) af)
  (hbase:attributeBase a name X.env (eval a X.env)=eval a X.env:=by rfl)
  (hfew:((backTo pos (starEach (e::es) X.env)).all (λx=>!x.1)&&(backToKw pos (keywordEach [] X.env)).all (λx=>x.1.isSome)
   &&decide ((e::es).length+([]:List Keyword).length+(if([]:List Keyword).isEmpty then 0 else 1)<30))=true:=by rfl)
  (hline:(apos.endLine==pos.line)=true:=by rfl) (hs:starEach (e::es) X.env=(false,eval e X.env)::starEach es X.env:=by rfl) (hplain:(backTo pos (starEach es X.env)).any (·.1)=false:=by rfl):
  PEm X W (.Call (.Attribute a name apos) (e::es) [] pos) (λρ S=>(f ρ S).bind λp S1=>if ty p S1=true then(af ρ S1).bind λrs S2=>F p rs S2 else .no):=by
 obtain⟨to,ho,fo⟩:=ho
 obtain⟨t,ha,k⟩:=ha
 refine⟨_,pe_bm pa slot hty hm ho ha hbase hfew hline hs hplain,λα ρ S σ H Q wd sl q=>fo α ρ S σ H _ wd sl (q.bind λu p S1 α1 H1 e1 x1 w1 d1 q1=>?_)⟩
 split at q1
 ·rename_i hz
  exact⟨hT p u α1 S1 H1 w1 d1.1 hz,k α1 ρ S1 σ H1 _ w1 (sl.ext x1) ((q1.shift x1).bind λvs rs S2 α2 H2 e2 x2 w2 d2 q2=>hF p rs u vs α2 S2 H1 H2 Q α1 w2 x2 (d1.1.ext x2) d2 q2)⟩
 ·exact q1.elim
theorem kK:POm X W none (λ_ S=>.ok none S):=⟨_,yNP,λα ρ S σ H Q wd sl q=>q.here wd rfl⟩
def asI:Er->Sto->R (Option Int)
 |.val (.int i),S=>.ok (some i) S
 |_,_=>.no
theorem yU(ha:PEm X W a f):POm X W (some a) (λρ S=>(f ρ S).bind asI):=by
 obtain⟨ta,ha,fa⟩:=ha
 refine⟨_,yNQ ha,λα ρ S σ H Q wd sl q=>fa α ρ S σ H _ wd sl (q.bind λu p S1 α1 H1 e1 x1 w1 d1 q1=>?_)⟩
 unfold asI at q1
 split at q1
 ·exact⟨_,xU d1.1,(q1.shift x1).here w1 rfl⟩
 ·exact q1.elim
def Sl3(X:Cx)(W:XW)(r:V->Option Int->Option Int->Hp->VK->Prop)(F:Er->Option Int->Option Int->Sto->R Er):Prop:= ∀p lo hi x α S H Q,Wd X.g α S H->DenX X.K α H p x->Post X.g W α H (F p lo hi S) Q->r x lo hi H Q
theorem yJM{lo hi:Option Expr}{r:V->Option Int->Option Int->Hp->VK->Prop}{F:Er->Option Int->Option Int->Sto->R Er}{lf hf:Rho->Sto->R (Option Int)}{p2:Pos}(hr:SlR X r)(hF:Sl3 X W r F)(ha:PEm X W a f)(hl:POm X W lo lf)(hh:POm X W hi hf):
  PEm X W (.Subscript a (.Slice lo hi none p2) pos) (λρ S=>(f ρ S).bind λp S1=>(lf ρ S1).bind λl S2=>(hf ρ S2).bind λu S3=>F p l u S3):=by
 obtain⟨ta,ha,fa⟩:=ha
 obtain⟨tl,hl,fl⟩:=hl
 obtain⟨th,hh,fh⟩:=hh
 refine⟨_,yIW hr ha hl hh,λα ρ S σ H Q wd sl q=>fa α ρ S σ H _ wd sl (q.bind λu p S1 α1 H1 e1 x1 w1 d1 q1=>fl α1 ρ S1 σ H1 _ w1 (sl.ext x1) ((q1.shift x1).bind λu2 l S2 α2 H2 e2 x2 w2 d2 q2=>
  fh α2 ρ S2 σ H2 _ w2 ((sl.ext x1).ext x2) ((q2.shift x2).bind λu3 m S3 α3 H3 e3 x3 w3 d3 q3=>?_)))⟩
 cases d2
 cases d3
 exact hF p u2 u3 u α3 S3 H3 Q w3 ((d1.1.ext x2).ext x3) (q3.shift x3)
end
inductive Fl where
 |next (ρ:Rho)|ret (r:Er)|brk (ρ:Rho)|cont (ρ:Rho)
def PostS(g:Gm)(W:XW)(α:List Addr)(H:Hp)(D:Ends):R Fl->Prop
 |.ok (.next ρ) S=> ∀σ α' H',Ext α H α' H'->Wd g α' S H'->Slots g.K α' H' ρ σ->D.nx σ H'
 |.ok (.ret r) S=> ∀v α' H',Ext α H α' H'->Wd g α' S H'->DenE g.K H α' H' r v->D.rt v H'
 |.ok (.brk ρ) S=> ∀σ α' H',Ext α H α' H'->Wd g α' S H'->Slots g.K α' H' ρ σ->D.bk σ H'
 |.ok (.cont ρ) S=> ∀σ α' H',Ext α H α' H'->Wd g α' S H'->Slots g.K α' H' ρ σ->D.ct σ H'
 |.exc c fs S=> ∀α' H',Ext α H α' H'->Wd g α' S H'->W c fs S α' H'
 |.no=>False
section
variable{g:Gm}{W:XW}{α α':List Addr}{H H':Hp}{D D':Ends}
theorem PostS.shift(x:Ext α H α' H'): ∀{m:R Fl},PostS g W α H D m->PostS g W α' H' D m
 |.ok (.next ρ) S,q=>λσ α2 H2 x2 w2 s2=>q σ α2 H2 (x.trans x2) w2 s2
 |.ok (.ret r) S,q=>λv α2 H2 x2 w2 d2=>q v α2 H2 (x.trans x2) w2 (d2.back λb h=>x.free h)
 |.ok (.brk ρ) S,q=>λσ α2 H2 x2 w2 s2=>q σ α2 H2 (x.trans x2) w2 s2
 |.ok (.cont ρ) S,q=>λσ α2 H2 x2 w2 s2=>q σ α2 H2 (x.trans x2) w2 s2
 |.exc c fs S,q=>λα2 H2 x2 w2=>q α2 H2 (x.trans x2) w2
 |.no,q=>q
theorem PostS.expr{β τ:Type}[Dn β τ]{m:R β}{k:β->Sto->R Fl}{Q':τ->Hp->Prop}(q:PostS g W α H D (m.bind k))
  (f: ∀u b S1 α1 H1,m=.ok b S1->Ext α H α1 H1->Wd g α1 S1 H1->Dn.d g H α1 S1 H1 b u->PostS g W α H D (k b S1)->Q' u H1):Post g W α H m Q':=by
 cases m with
 |ok b S=>exact λu α1 H1 x w d=>f u b S α1 H1 rfl x w d q
 |exc c fs S=>exact q
 |no=>exact q
theorem PostS.stmt{m:R Fl}{k:Fl->Sto->R Fl}(q:PostS g W α H D (m.bind k))
  (hn: ∀ρ S σ α1 H1,m=.ok (.next ρ) S->Ext α H α1 H1->Wd g α1 S H1->Slots g.K α1 H1 ρ σ->PostS g W α H D (k (.next ρ) S)->D'.nx σ H1)
  (hr: ∀r S v α1 H1,m=.ok (.ret r) S->Ext α H α1 H1->Wd g α1 S H1->DenE g.K H α1 H1 r v->PostS g W α H D (k (.ret r) S)->D'.rt v H1)
  (hb: ∀ρ S σ α1 H1,m=.ok (.brk ρ) S->Ext α H α1 H1->Wd g α1 S H1->Slots g.K α1 H1 ρ σ->PostS g W α H D (k (.brk ρ) S)->D'.bk σ H1)
  (hc: ∀ρ S σ α1 H1,m=.ok (.cont ρ) S->Ext α H α1 H1->Wd g α1 S H1->Slots g.K α1 H1 ρ σ->PostS g W α H D (k (.cont ρ) S)->D'.ct σ H1):PostS g W α H D' m:=by
 cases m with
 |ok fl S=>
  cases fl with
  |next ρ=>exact λσ α1 H1 x w s=>hn ρ S σ α1 H1 rfl x w s q
  |ret r=>exact λv α1 H1 x w d=>hr r S v α1 H1 rfl x w d q
  |brk ρ=>exact λσ α1 H1 x w s=>hb ρ S σ α1 H1 rfl x w s q
  |cont ρ=>exact λσ α1 H1 x w s=>hc ρ S σ α1 H1 rfl x w s q
 |exc c fs S=>exact q
 |no=>exact q
end
def PSm(X:Cx)(W:XW)(st:Stmt)(F:Rho->Sto->R Fl):Prop:=
 ∃t,PS X st t/\ ∀α ρ S σ H D,Wd X.g α S H->Slots X.K α H ρ σ->PostS X.g W α H D (F ρ S)->t D σ H
def zPV(X:Cx)(W:XW)(st:List Stmt)(F:Rho->Sto->R Fl):Prop:=
 ∃t,PSs X st t/\ ∀α ρ S σ H D,Wd X.g α S H->Slots X.K α H ρ σ->PostS X.g W α H D (F ρ S)->t D σ H
def zN(F G:Rho->Sto->R Fl):Rho->Sto->R Fl:=λρ S=>(F ρ S).bind λfl S1=>match fl with
 |.next ρ'=>G ρ' S1
 |.ret r=>.ok (.ret r) S1
 |.brk ρ'=>.ok (.brk ρ') S1
 |.cont ρ'=>.ok (.cont ρ') S1
section
variable{X:Cx}{W:XW}{st:Stmt}{sts as bs:List Stmt}{F G:Rho->Sto->R Fl}{f g:Rho->Sto->R Er}{tf:Rho->Sto->R Bool}{e c:Expr}{pos:Pos}
theorem zR:zPV X W [] (λρ S=>.ok (.next ρ) S):=⟨_,yNI,λα ρ S σ H D wd sl q=>q σ α H (Ext.refl α H) wd sl⟩
theorem zI(h:PSm X W st F):zPV X W [st] F:=let ⟨t,h,k⟩:=h;⟨t,yNJ h,k⟩
theorem zF(h1:PSm X W st F)(h2:zPV X W sts G):zPV X W (st::sts) (zN F G):=by
 obtain⟨t,h1,k1⟩:=h1
 obtain⟨u,h2,k2⟩:=h2
 refine⟨_,yIL h1 h2,λα ρ S σ H D wd sl q=>k1 α ρ S σ H _ wd sl (q.stmt ?_ ?_ ?_ ?_)⟩
 ·intro ρ1 S1 σ1 α1 H1 e x1 w1 s1 q1
  exact k2 α1 ρ1 S1 σ1 H1 D w1 s1 (PostS.shift x1 q1)
 ·intro r S1 v α1 H1 e x1 w1 d1 q1
  exact q1 v α1 H1 x1 w1 d1
 ·intro ρ1 S1 σ1 α1 H1 e x1 w1 s1 q1
  exact q1 σ1 α1 H1 x1 w1 s1
 ·intro ρ1 S1 σ1 α1 H1 e x1 w1 s1 q1
  exact q1 σ1 α1 H1 x1 w1 s1
theorem zM(he:PEm X W e f):PSm X W (.Return (some e) pos) (λρ S=>(f ρ S).bind λr S1=>.ok (.ret r) S1):=by
 obtain⟨t,he,k⟩:=he
 exact⟨_,ySI he,λα ρ S σ H D wd sl q=>k α ρ S σ H _ wd sl (q.expr λu r S1 α1 H1 e x1 w1 d1 q1=>q1 u α1 H1 x1 w1 d1)⟩
theorem zOH:PSm X W st (λ_ _=>.no):=⟨_,yIM,λα ρ S σ H D wd sl q=>q.elim⟩
theorem zIB(he:PEm X W e f)(hs:swapsWith e none pos.line X.env=pure false:=by rfl):PSm X W (.Expr e pos) (λρ S=>(f ρ S).bind λ_ S1=>.ok (.next ρ) S1):=by
 obtain⟨t,he,k⟩:=he
 exact⟨_,yNK he hs,λα ρ S σ H D wd sl q=>k α ρ S σ H _ wd sl (q.expr λu r S1 α1 H1 e x1 w1 d1 q1=>q1 σ α1 H1 x1 w1 (sl.ext x1))⟩
theorem yC(hc:PTm X W c tf)(ha:zPV X W as F)(hb:zPV X W bs G):PSm X W (.If c as bs pos) (λρ S=>(tf ρ S).bind λk S1=>if k=true then F ρ S1 else G ρ S1):=by
 obtain⟨tc,hc,kc⟩:=hc
 obtain⟨ta,ha,ka⟩:=ha
 obtain⟨tb,hb,kb⟩:=hb
 refine⟨_,ps_if hc ha hb,λα ρ S σ H D wd sl q=>kc α ρ S σ H _ wd sl (q.expr λu p S1 α1 H1 e x1 w1 d1 q1=>?_)⟩
 cases d1
 cases u with
 |true=>rw [iP rfl]at q1 ⊢; exact ka α1 ρ S1 σ H1 D w1 (sl.ext x1) (PostS.shift x1 q1)
 |false=>rw [iN0 xF0]at q1 ⊢; exact kb α1 ρ S1 σ H1 D w1 (sl.ext x1) (PostS.shift x1 q1)
instance:Dn Rho St:=⟨λg _ α' _ H' ρ σ=>Slots g.K α' H' ρ σ,λ_ q=>q⟩
def PGm(X:Cx)(W:XW)(tg:Expr)(gf:MV->Rho->Sto->R Rho):Prop:=
 ∃t,PG X tg t/\ ∀α ρ S σ H d v Q,Wd X.g α S H->Slots X.K α H ρ σ->Den X.K α H d v->Post X.g W α H (gf d ρ S) Q->t v σ H Q
def PGsm(X:Cx)(W:XW)(tgs:List Expr)(gf:List MV->Rho->Sto->R Rho):Prop:=
 ∃t,PGs X tgs t/\ ∀α ρ S σ H ds vs Q,Wd X.g α S H->Slots X.K α H ρ σ->DenL X.K α H ds vs->Post X.g W α H (gf ds ρ S) Q->t vs σ H Q
def gNm(i:Nat):MV->Rho->Sto->R Rho:=λd ρ S=>.ok (ρ.set i (some d)) S
theorem wD(i:Nat){x:Str}(hN:X.N.Nodup)(hi:X.N[i]? =some x:=by rfl)(hx:Loc X.env.scope x:=by first |exact Or.inl rfl|exact Or.inr rfl)(hf:X.fn x=true\/X.env.scope.names.lookup x=some .local:=by first |exact .inl rfl|exact .inr rfl|assumption):
  PGm X W (.Name x pos) (gNm i):=⟨_,yEE hN hi hx hf,λα ρ S σ H d v Q wd sl de q=>Post.here (b:=ρ.set i (some d)) q wd (sl.set de)⟩
def dU:List MV->Rho->Sto->R Rho
 |[],ρ,S=>.ok ρ S
 |_,_,_=>.no
def yT(g1:MV->Rho->Sto->R Rho)(g2:List MV->Rho->Sto->R Rho):List MV->Rho->Sto->R Rho
 |d::ds,ρ,S=>(g1 d ρ S).bind λρ1 S1=>g2 ds ρ1 S1
 |_,_,_=>.no
theorem zPW:PGsm X W [] dU:=⟨_,yEF,λα ρ S σ H ds vs Q wd sl de q=>by
 cases ds with
 |nil=>exact⟨de.isnil,Post.here (b:=ρ) q wd sl⟩
 |cons d ds=>exact q.elim⟩
theorem bB{es:List Expr}{g1:MV->Rho->Sto->R Rho}{g2:List MV->Rho->Sto->R Rho}(h1:PGm X W e g1)(h2:PGsm X W es g2)(hs:(assignEach (e::es) X.env).map (·.2)=assign e X.env::(assignEach es X.env).map (·.2):=by rfl):PGsm X W (e::es) (yT g1 g2):=by
 obtain⟨t1,h1,k1⟩:=h1
 obtain⟨t2,h2,k2⟩:=h2
 refine⟨_,zZI h1 h2 hs,λα ρ S σ H ds vs Q wd sl de q=>?_⟩
 cases ds with
 |nil=>exact q.elim
 |cons d ds=>
  obtain⟨v,r,rfl,a,l⟩:=de.uncons
  refine⟨v,r,rfl,k1 α ρ S σ H d v _ wd sl a (Post.bind q λu p S1 α1 H1 e x1 w1 d1 q1=>k2 α1 p S1 u H1 ds r Q w1 d1 (l.ext x1) (q1.shift x1))⟩
def gTp(n:Nat)(g2:List MV->Rho->Sto->R Rho):MV->Rho->Sto->R Rho
 |.tup ds,ρ,S=>if ds.length=n then g2 ds ρ S else .no
 |_,_,_=>.no
theorem zPX{es:List Expr}{k n:Nat}{g2:List MV->Rho->Sto->R Rho}(hc:X.calm=true)(h:PGsm X W es g2)
  (hn:(assignEach es X.env).length=n:=by rfl) (hst:(assignEach es X.env).findIdx? (·.1)=none:=by rfl):PGm X W (.Tuple es k pos) (gTp n g2):=by
 obtain⟨t,h,k⟩:=h
 refine⟨_,yIO hc h hn hst,λα ρ S σ H d v Q wd sl de q=>?_⟩
 unfold gTp at q
 split at q
 ·split at q
  ·rename_i hl
   obtain⟨a,vs,rfl,s,l⟩:=bD de
   exact⟨a,vs,rfl,s,by rw [l.length];exact hl,k α ρ S σ H _ vs Q wd sl l q⟩
  ·exact q.elim
 ·exact q.elim
def zIC(r:Er)(S:Sto):R MV:=match r with
 |.val d=>.ok d S
 |.new ds=>.ok (.loc S.length) (S++[.lst ds])
theorem zHD{g:Gm}{H0:Hp}{α0 α:List Addr}{H:Hp}{S:Sto}{r:Er}{v:V}(w:Wd g α S H)(x:Ext α0 H0 α H)(d:DenE g.K H0 α H r v):
  ∃d' S' α',zIC r S=.ok d' S'/\Ext α0 H0 α' H/\Ex0 α H α' H/\Wd g α' S' H/\Den g.K α' H d' v:=by
 cases r with
 |val d'=>exact⟨d',S,α,rfl,x,⟨⟨[],by simp⟩,λ_ _ h=>h,λ_ _ _ h=>h⟩,w,d.1⟩
 |new ds=>
  obtain⟨⟨c,us,rfl,h1,h2,h3⟩,h4⟩:=d
  exact⟨.loc S.length,S++[.lst ds],α++[c],rfl,w.enterx x (h4 c rfl) h2,Ex0.grow α [c] H,w.enter h1 h2 h3,zLU (by rw [<-w.len,getElem?_append_right (le_refl _),sub_self];rfl)⟩
def zXM(ρ:Rho)(i:Nat)(r:Er)(S:Sto):R Fl:=(zIC r S).bind λd S1=>.ok (.next (ρ.set i (some d))) S1
theorem zW(i:Nat){x:Str}{pos':Pos}(hN:X.N.Nodup)(he:PEm X W e f)(hi:X.N[i]? =some x:=by rfl)(hx:Loc X.env.scope x:=by first |exact Or.inl rfl|exact Or.inr rfl)
  (hs:swapsWith e (some (.Name x pos')) pos.line X.env=pure false:=by rfl) (hf:X.fn x=true\/X.env.scope.names.lookup x=some .local:=by first |exact .inl rfl|exact .inr rfl|assumption):
  PSm X W (.Assign [.Name x pos'] e pos) (λρ S=>(f ρ S).bind (zXM ρ i)):=by
 obtain⟨t,he,k⟩:=he
 refine⟨_,ySM hN hi hx he hs hf,λα ρ S σ H D wd sl q=>k α ρ S σ H _ wd sl (q.expr λu r S1 α1 H1 e x1 w1 d1 q1=>?_)⟩
 obtain⟨d',S',α',e1,x',y',w',de⟩:=zHD w1 x1 d1
 unfold zXM at q1
 rw [e1]at q1
 exact q1 _ α' H1 x' w' (((sl.ext x1).ex0 y').set de)
def asgF(gf:MV->Rho->Sto->R Rho)(ρ:Rho)(r:Er)(S:Sto):R Fl:=(zIC r S).bind λd S1=>(gf d ρ S1).bind λρ' S2=>.ok (.next ρ') S2
theorem yJN{tg:Expr}{gf:MV->Rho->Sto->R Rho}(he:PEm X W e f)(hg:PGm X W tg gf)(hs:swapsWithSole [tg] e pos.line X.env=pure false:=by rfl)(hw:swappedStores [tg] e X.env=pure none:=by rfl)
  (h1:(assignEach [tg] X.env).map (·.2)=[assign tg X.env]:=by rfl):PSm X W (.Assign [tg] e pos) (λρ S=>(f ρ S).bind (asgF gf ρ)):=by
 obtain⟨t,he,k⟩:=he
 obtain⟨tg',hg,kg⟩:=hg
 refine⟨_,ySL he hg hs hw h1,λα ρ S σ H D wd sl q=>k α ρ S σ H _ wd sl (q.expr λu r S1 α1 H1 e x1 w1 d1 q1=>?_)⟩
 obtain⟨d',S',α',e1,x',y',w',de⟩:=zHD w1 x1 d1
 unfold asgF at q1
 rw [e1]at q1
 have q1:PostS X.g W α H D ((gf d' ρ S').bind λρ' S2=>.ok (.next ρ') S2):=q1
 exact kg α' ρ S' σ H1 d' u _ w' ((sl.ext x1).ex0 y') de ((PostS.shift x' q1).expr λσ2 ρ2 S2 α2 H2 e2 x2 w2 s2 q2=>q2 σ2 α2 H2 x2 w2 s2)
structure Wk where
 ds:List MV
 gs:List (Nat×List MV)
def stay(gs:List (Nat×List MV))(S:Sto):Prop:= ∀p∈gs,S[p.1]? =some (.lst p.2)
def ItM(g:Gm)(J:It)(P:List Addr->Sto->Hp->Prop)(ds:List MV):Prop:= ∀i α S H,P α S H->Wd g α S H->(i<ds.length->J.go i H/\ ∀x H',J.yld i H x H'->Ext α H α H'/\Wd g α S H'/\P α S H'/\ ∃d,ds[i]? =some d/\Den g.K α H' d x)/\(ds.length<=i->J.stop i H)
structure WkD(g:Gm)(α:List Addr)(S:Sto)(H:Hp)(k:Wk)(J:It)(P:List Addr->Sto->Hp->Prop):Prop where
 it:ItM g J P k.ds
 here:P α S H
 stays: ∀α1 S1 H1 α2 S2 H2,P α1 S1 H1->Ext α1 H1 α2 H2->Wd g α2 S2 H2->stay k.gs S2->P α2 S2 H2
 st:stay k.gs S
instance:Dn Wk It:=⟨λg _ α S H k J=> ∃P,WkD g α S H k J P,λ_ q=>q⟩
abbrev PIm(X:Cx)(W:XW)(tg iter:Expr)(f:Rho->Sto->R Wk):Prop:=Jd X W (PI X tg iter) f
variable{tg iter:Expr}
theorem zSZ{a:Addr}{ds:List MV}:ItM X.g (Itl X.K a) (λα S H=> ∃vs,SqL X.K H a vs/\DenL X.K α H ds vs) ds:=by
 intro i α S H ⟨vs,s,l⟩ w
 have hl:=l.length
 refine⟨λhi=>?_,λhi=>⟨vs,s,by omega⟩⟩
 have hv:i<vs.length:=by omega
 refine⟨⟨vs,vs[i],s,gE0 hv⟩,λx H' y=>?_⟩
 obtain⟨rfl,y⟩:=y
 obtain⟨d,h1,h2⟩:=l.get (y vs s)
 exact⟨Ext.refl _ _,w,⟨vs,s,l⟩,d,h1,h2⟩
theorem yOD{a:Addr}{ds:List MV}:ItM X.g (Itt X.K a) (λα S H=> ∃vs,SqT X.K H a vs/\DenL X.K α H ds vs) ds:=by
 intro i α S H ⟨vs,s,l⟩ w
 have hl:=l.length
 refine⟨λhi=>?_,λhi=>⟨vs,s,by omega⟩⟩
 have hv:i<vs.length:=by omega
 refine⟨⟨vs,vs[i],s,gE0 hv⟩,λx H' y=>?_⟩
 obtain⟨rfl,y⟩:=y
 obtain⟨d,h1,h2⟩:=l.get (y vs s)
 exact⟨Ext.refl _ _,w,⟨vs,s,l⟩,d,h1,h2⟩
theorem yOE{x:List Nat}:ItM X.g (Its x) (λ_ _ _=>True) (x.map λc=>.str [c]):=by
 intro i α S H _ w
 refine⟨λhi=>⟨show i<x.length by simpa using hi,λv H' y=>?_⟩,λhi=>by show x.length<=i;simpa using hi⟩
 obtain⟨rfl,c,h1,h2⟩:=y
 refine⟨Ext.refl _ _,w,trivial,.str [c],by rw [getElem?_map,h1];rfl,?_⟩
 rw [h2]
 exact zCW [c]
theorem yHE{lo:Int}{n:Nat}:ItM X.g (Itr lo n) (λ_ _ _=>True) ((List.range n).map λk=>.int (lo+(k:Nat))):=by
 intro i α S H _ w
 refine⟨λhi=>⟨show i<n by simpa using hi,λv H' y=>?_⟩,λhi=>by show n<=i;simpa using hi⟩
 obtain⟨rfl,y⟩:=y
 have hi':i<n:=by simpa using hi
 refine⟨Ext.refl _ _,w,trivial,.int (lo+i),by rw [getElem?_map,List.getElem?_range hi'];rfl,?_⟩
 rw [y]
 exact xV _
def itL:Er->Sto->R Wk
 |.new ds,S=>.ok ⟨ds,[]⟩ S
 |.val (.scr ds),S=>.ok ⟨ds,[]⟩ S
 |.val (.loc l),S=>match S[l]? with
  |some (.lst ds)=>.ok ⟨ds,[(l,ds)]⟩ S
  |_=>.no
 |_,_=>.no
theorem dW{S:Sto}:stay [] S:=λp h=>by simp at h
theorem yOF(he:PEm X W iter f):PIm X W tg iter (λρ S=>(f ρ S).bind itL):=by
 obtain⟨t,he,k⟩:=he
 refine⟨_,yNL he,λα ρ S σ H Rc wd sl q=>k α ρ S σ H _ wd sl (q.bind λu p S1 α1 H1 e x1 w1 d1 q1=>?_)⟩
 replace q1:=q1.shift x1
 unfold itL at q1
 split at q1
 ·rename_i S0 ds
  obtain⟨⟨b,vs,rfl,h1,h2,h3⟩,h4⟩:=d1
  refine⟨b,rfl,⟨vs,.of h1⟩,q1.here (u:=Itl X.K b) w1 ⟨λα2 S2 H2=> ∃vs,SqL X.K H2 b vs/\DenL X.K α2 H2 ds vs/\H2 b=some (.lst vs)/\b∉α2,?_,⟨vs,.of h1,h3,h1,h2⟩,?_,dW⟩⟩
  ·intro i α2 S2 H2 ⟨vs2,a1,a2,a3,a4⟩ w2
   obtain⟨i1,i2⟩:=zSZ (X:=X) (a:=b) (ds:=ds) i α2 S2 H2 ⟨vs2,a1,a2⟩ w2
   refine⟨λhi=>⟨(i1 hi).1,λx H' y=>?_⟩,i2⟩
   obtain⟨j1,j2,j3,j4⟩:=(i1 hi).2 x H' y
   obtain⟨rfl,_⟩:=y
   exact⟨j1,j2,⟨vs2,a1,a2,a3,a4⟩,j4⟩
  ·intro α2 S2 H2 α3 S3 H3 ⟨vs2,a1,a2,a3,a4⟩ x w3 _
   exact⟨vs2,.of (x.keep b _ a3 a4),a2.ext x,x.keep b _ a3 a4,x.out a3 a4⟩
 ·rename_i S0 ds
  obtain⟨a,vs,rfl,s,l⟩:=zSW d1.1
  refine⟨a,rfl,⟨vs,s.l⟩,q1.here (u:=Itl X.K a) w1 ⟨λα2 S2 H2=> ∃vs,SqL X.K H2 a vs/\DenL X.K α2 H2 ds vs/\SqF X.K H2 a vs,?_,⟨vs,s.l,l,s⟩,?_,dW⟩⟩
  ·intro i α2 S2 H2 ⟨vs2,a1,a2,a3⟩ w2
   obtain⟨i1,i2⟩:=zSZ (X:=X) (a:=a) (ds:=ds) i α2 S2 H2 ⟨vs2,a1,a2⟩ w2
   refine⟨λhi=>⟨(i1 hi).1,λx H' y=>?_⟩,i2⟩
   obtain⟨j1,j2,j3,j4⟩:=(i1 hi).2 x H' y
   obtain⟨rfl,_⟩:=y
   exact⟨j1,j2,⟨vs2,a1,a2,a3⟩,j4⟩
  ·intro α2 S2 H2 α3 S3 H3 ⟨vs2,a1,a2,a3⟩ x w3 _
   exact⟨vs2,(x.sqF a3).l,a2.ext x,x.sqF a3⟩
 ·rename_i S0 n
  obtain⟨a,rfl,h⟩:=zDF d1.1
  obtain⟨o,h1,h2⟩:=w1.of h
  rw [h1]at q1
  cases o with
  |lst ds=>
   obtain⟨vs,h3,l⟩:=h2
   refine⟨a,rfl,⟨vs,.of h3⟩,Post.here (b:=(⟨ds,[(n,ds)]⟩:Wk)) q1 (u:=Itl X.K a) w1 ⟨λα2 S2 H2=> ∃vs,SqL X.K H2 a vs/\DenL X.K α2 H2 ds vs/\α2[n]? =some a,?_,⟨vs,.of h3,l,h⟩,?_,?_⟩⟩
   ·intro i α2 S2 H2 ⟨vs2,a1,a2,a3⟩ w2
    obtain⟨i1,i2⟩:=zSZ (X:=X) (a:=a) (ds:=ds) i α2 S2 H2 ⟨vs2,a1,a2⟩ w2
    refine⟨λhi=>⟨(i1 hi).1,λx H' y=>?_⟩,i2⟩
    obtain⟨j1,j2,j3,j4⟩:=(i1 hi).2 x H' y
    obtain⟨rfl,_⟩:=y
    exact⟨j1,j2,⟨vs2,a1,a2,a3⟩,j4⟩
   ·intro α2 S2 H2 α3 S3 H3 ⟨vs2,a1,a2,a3⟩ x w3 hs
    have a3':=x.at a3
    have:=w3.obj n a _ a3' (hs (n,ds) (by simp))
    obtain⟨vs3,b1,b2⟩:=this
    exact⟨vs3,.of b1,b2,a3'⟩
   ·intro p hp
    have:p=(n,ds):=by simpa using hp
    subst this
    exact h1
  |dic ds=>exact q1.elim
  |ins c fs=>exact q1.elim
 ·exact q1.elim
def itT:Er->Sto->R Wk
 |.val (.tup ds),S=>.ok ⟨ds,[]⟩ S
 |_,_=>.no
theorem zID(he:PEm X W iter f):PIm X W tg iter (λρ S=>(f ρ S).bind itT):=by
 obtain⟨t,he,k⟩:=he
 refine⟨_,ySN he,λα ρ S σ H Rc wd sl q=>k α ρ S σ H _ wd sl (q.bind λu p S1 α1 H1 e x1 w1 d1 q1=>?_)⟩
 replace q1:=q1.shift x1
 unfold itT at q1
 split at q1
 ·rename_i S0 ds
  obtain⟨a,vs,rfl,s,l⟩:=cN d1.1
  exact⟨a,rfl,⟨vs,s⟩,q1.here (u:=Itt X.K a) w1 ⟨_,yOD,⟨vs,s,l⟩,λα2 S2 H2 α3 S3 H3 ⟨vs2,a1,a2⟩ x w3 _=>⟨vs2,x.sqT a1,a2.ext x⟩,dW⟩⟩
 ·exact q1.elim
def itS:Er->Sto->R Wk
 |.val (.str x),S=>.ok ⟨x.map λc=>.str [c],[]⟩ S
 |_,_=>.no
theorem yJO(he:PEm X W iter f):PIm X W tg iter (λρ S=>(f ρ S).bind itS):=by
 obtain⟨t,he,k⟩:=he
 refine⟨_,yTE he,λα ρ S σ H Rc wd sl q=>k α ρ S σ H _ wd sl (q.bind λu p S1 α1 H1 e x1 w1 d1 q1=>?_)⟩
 replace q1:=q1.shift x1
 unfold itS at q1
 split at q1
 ·rename_i S0 x
  exact⟨x,jG d1.1,q1.here (u:=Its x) w1 ⟨_,yOE,trivial,λ_ _ _ _ _ _ _ _ _ _=>trivial,dW⟩⟩
 ·exact q1.elim
def zMK:List Er->Sto->R Wk
 |[.val (.int j)],S=>if -(2 ^ 62)<=j/\j<2 ^ 62 then .ok ⟨(List.range j.toNat).map λk=>.int (k:Nat),[]⟩ S else .no
 |_,_=>.no
variable{af:Rho->Sto->R (List Er)}{p:Pos}{a b:Expr}
theorem yER{K:PySem.W.Frag}{H0:Hp}{α:List Addr}{H:Hp}{r:Er}{vs:List V}(d:ArgsE K H0 α H [r] vs): ∃v,vs=[v]/\DenX K α H r v:=by
 cases d with
 |cons a n l=>cases l;exact⟨_,rfl,a.1⟩
theorem args2{K:PySem.W.Frag}{H0:Hp}{α:List Addr}{H:Hp}{r r':Er}{vs:List V}(d:ArgsE K H0 α H [r,r'] vs): ∃v u,vs=[v,u]/\DenX K α H r v/\DenX K α H r' u:=by
 cases d with
 |cons a n l=>obtain⟨u,rfl,l'⟩:=yER l;exact⟨_,u,rfl,a.1,l'⟩
theorem zAJ(hg:Gl X "range")(hm:X.mg "range"=none)(ha:PAm X W [a] af)(hs:starEach [a] X.env=[(false,eval a X.env)]:=by rfl):PIm X W tg (.Call (.Name "range" p) [a] [] pos) (λρ S=>(af ρ S).bind zMK):=by
 obtain⟨t,ha,k⟩:=ha
 refine⟨_,yGR hg hm ha hs,λα ρ S σ H Rc wd sl q=>k α ρ S σ H _ wd sl (q.bind λvs rs S1 α1 H1 e x1 w1 d1 q1=>?_)⟩
 replace q1:=q1.shift x1
 unfold zMK at q1
 split at q1
 ·split at q1
  ·rename_i S0 j hj
   obtain⟨v,rfl,dv⟩:=yER d1
   cases xU dv
   have:=yHE (X:=X) (lo:=0) (n:=j.toNat)
   simp only [Int.zero_add]at this
   exact⟨j,rfl,hj.1,hj.2,q1.here (u:=Itr 0 j.toNat) w1 ⟨_,this,trivial,λ_ _ _ _ _ _ _ _ _ _=>trivial,dW⟩⟩
  ·exact q1.elim
 ·exact q1.elim
open Classical in
noncomputable def bS(gf:MV->Rho->Sto->R Rho)(body:Rho->Sto->R Fl)(gs:List (Nat×List MV)):List MV->Rho->Sto->R Fl
 |[],ρ,S=>.ok (.next ρ) S
 |d::ds,ρ,S=>(gf d ρ S).bind λρ0 S0=>(body ρ0 S0).bind λfl S1=>match fl with
  |.next ρ'=>if stay gs S1 then bS gf body gs ds ρ' S1 else .no
  |.cont ρ'=>if stay gs S1 then bS gf body gs ds ρ' S1 else .no
  |.brk ρ'=>.ok (.next ρ') S1
  |.ret r=>.ok (.ret r) S1
open Classical in
theorem zCE{itf:Rho->Sto->R Wk}{gf:MV->Rho->Sto->R Rho}(hp:PassesOwn (model X.prog X.w) X.A X.env X.xe)(hc:X.calm=true)(hi:PIm X W tg iter itf)(hg:PGm X W tg gf)(hb:zPV X W as F)
  (hs: ∀y,foldedSetIterable iter X.env y=pure y:=by intro _;rfl):PSm X W (.For tg iter as [] pos) (λρ S=>(itf ρ S).bind λk S1=>bS gf F k.gs k.ds ρ S1):=by
 obtain⟨wi,hi,ki⟩:=hi
 obtain⟨tg',hg,kg⟩:=hg
 obtain⟨tb,hb,kb⟩:=hb
 refine⟨_,ySO hp hc hi hg hb hs,λα ρ S σ H D wd sl q=>ki α ρ S σ H _ wd sl (q.expr λJ k S1 α1 H1 e x1 w1 d1 q1=>?_)⟩
 obtain⟨P,hP⟩:=d1
 have sl1:=sl.ext x1
 replace q1:=PostS.shift x1 q1
 refine⟨λn m σ2 H2=>m=k.ds.length - n/\n<=k.ds.length/\ ∃α2 ρ2 S2,Wd X.g α2 S2 H2/\Slots X.K α2 H2 ρ2 σ2/\P α2 S2 H2/\PostS X.g W α2 H2 D (bS gf F k.gs (k.ds.drop n) ρ2 S2),⟨_,rfl,zero_le _,α1,ρ,S1,w1,sl1,hP.here,by simpa using q1⟩,?_⟩
 rintro n m σ2 H2 ⟨rfl,hn,α2,ρ2,S2,w2,sl2,p2,q2⟩
 obtain⟨i1,i2⟩:=hP.it n α2 S2 H2 p2 w2
 by_cases hlt:n<k.ds.length
 ·obtain⟨go,yl⟩:=i1 hlt
  refine .inr ⟨go,λσ3 H3=> ∃α3 ρ3 S3,Wd X.g α3 S3 H3/\Slots X.K α3 H3 ρ3 σ3/\P α3 S3 H3/\PostS X.g W α3 H3 D (bS gf F k.gs (k.ds.drop (n+1)) ρ3 S3),λσ3 H3 ⟨α3,ρ3,S3,h3⟩=>⟨k.ds.length - (n+1),by omega,rfl,hlt,α3,ρ3,S3,h3⟩,λv H3 y=>?_⟩
  obtain⟨x3,w3,p3,d,hd,dv⟩:=yl v H3 y
  have hdrop:k.ds.drop n=d::k.ds.drop (n+1):=by
   rw [List.drop_eq_getElem_cons hlt]
   have:=gE0 hlt
   rw [hd]at this
   rw [<-Option.some.inj this]
  rw [hdrop]at q2
  unfold bS at q2
  replace q2:=PostS.shift x3 q2
  refine kg α2 ρ2 S2 σ2 H3 d v _ w3 (sl2.ext x3) dv (q2.expr λσ4 ρ4 S4 α4 H4 e4 x4 w4 s4 q4=>?_)
  have p4: ∀α5 S5 H5,Ext α4 H4 α5 H5->Wd X.g α5 S5 H5->stay k.gs S5->P α5 S5 H5:=λα5 S5 H5 x5 w5 s5=>hP.stays α2 S2 H3 α5 S5 H5 p3 (x4.trans x5) w5 s5
  refine kb α4 ρ4 S4 σ4 H4 _ w4 s4 ((PostS.shift x4 q4).stmt ?_ ?_ ?_ ?_)
  ·intro ρ5 S5 σ5 α5 H5 e5 x5 w5 s5 q5
   have q5':PostS X.g W α4 H4 D (if stay k.gs S5 then bS gf F k.gs (k.ds.drop (n+1)) ρ5 S5 else .no):=q5
   split at q5'
   ·rename_i hst
    exact⟨α5,ρ5,S5,w5,s5,p4 α5 S5 H5 x5 w5 hst,PostS.shift x5 q5'⟩
   ·exact q5'.elim
  ·intro r S5 v5 α5 H5 e5 x5 w5 d5 q5
   exact q5 v5 α5 H5 x5 w5 d5
  ·intro ρ5 S5 σ5 α5 H5 e5 x5 w5 s5 q5
   exact q5 σ5 α5 H5 x5 w5 s5
  ·intro ρ5 S5 σ5 α5 H5 e5 x5 w5 s5 q5
   have q5':PostS X.g W α4 H4 D (if stay k.gs S5 then bS gf F k.gs (k.ds.drop (n+1)) ρ5 S5 else .no):=q5
   split at q5'
   ·rename_i hst
    exact⟨α5,ρ5,S5,w5,s5,p4 α5 S5 H5 x5 w5 hst,PostS.shift x5 q5'⟩
   ·exact q5'.elim
 ·have e:n=k.ds.length:=by omega
  subst e
  refine .inl ⟨i2 (le_refl _),?_⟩
  rw [drop_length]at q2
  exact q2 σ2 α2 H2 (Ext.refl _ _) w2 sl2
end
def noX{β:Type}:R β->R β
 |.ok b S=>.ok b S
 |_=>.no
theorem dY{β:Type}(b:β)(S:Sto):noX (R.ok b S)=.ok b S:=rfl
theorem Post.bindY{β τ γ υ:Type}[Dn β τ][Dn γ υ]{g:Gm}{W:XW}{α α':List Addr}{H H':Hp}(x:Ext α H α' H'){m:R β}{k:β->Sto->R γ}{Q:υ->Hp->Prop}{Q':τ->Hp->Prop}(q:Post g W α H ((noX m).bind k) Q)
  (f: ∀u b S1 α1 H1,m=.ok b S1->Ext α' H' α1 H1->Wd g α1 S1 H1->Dn.d g H' α1 S1 H1 b u->Post g W α H (k b S1) Q->Q' u H1):Post g W0 α' H' m Q':=by
 cases m with
 |ok b S=>exact λu α1 H1 x w d=>f u b S α1 H1 rfl x w d q
 |exc c fs S=>exact q.elim
 |no=>exact q
theorem R.bind_assoc{β γ δ:Type}(m:R β)(k1:β->Sto->R γ)(k2:γ->Sto->R δ):(m.bind k1).bind k2=m.bind λb S=>(k1 b S).bind k2:=by cases m<;>rfl
def blk(nt:Nat)(idx:List Nat)(ρ:Rho):Rho:=List.replicate nt none++idx.map λi=>(ρ[i]?).join
open Classical in
noncomputable def jE(gf:MV->Rho->Sto->R Rho)(cf:Rho->Sto->R Bool)(ef:Rho->Sto->R Er)(ρb:Rho)(gs:List (Nat×List MV)):List MV->Sto->R (List MV)
 |[],S=>.ok [] S
 |d::ds,S=>(noX (gf d ρb S)).bind λρ1 S0=>(noX (cf ρ1 S0)).bind λk S1=>
  if k=true then(noX (ef ρ1 S1)).bind λr S2=>(zIC r S2).bind λy S3=>if stay gs S3 then(jE gf cf ef ρb gs ds S3).bind λout S4=>.ok (y::out) S4 else .no
  else if stay gs S1 then jE gf cf ef ρb gs ds S1 else .no
theorem yHF{K:PySem.W.Frag}{α:List Addr}{H:Hp}{ρ:Rho}{σ:St}(q:Slots K α H ρ σ)(nt:Nat)(idx:List Nat)(τ:St)(hτ:τ.length=nt):Slots K α H (blk nt idx ρ) (τ++zPT σ idx):=by
 refine⟨by unfold blk;rw [lA,lA,zET,lM0,length_replicate,hτ],λi d e=>?_⟩
 unfold blk at e
 by_cases hi:i<nt
 ·rw [getElem?_append_left (by rw [length_replicate];exact hi),List.getElem?_replicate]at e
  split at e<;>cases e
 ·rw [getElem?_append_right (by rw [length_replicate];omega),length_replicate,getElem?_map]at e
  cases z:idx[i - nt]? with
  |none=>rw [z]at e;cases e
  |some k=>
   rw [z]at e
   have e2:(ρ[k]?).join=some d:=Option.some.inj e
   cases z2:ρ[k]? with
   |none=>rw [z2]at e2;cases e2
   |some o=>
    rw [z2]at e2
    have e3:o=some d:=e2
    subst e3
    obtain⟨v,h1,h2⟩:=q.slot k d z2
    refine⟨v,?_,h2⟩
    rw [getElem?_append_right (by omega),hτ]
    unfold zPT
    rw [getElem?_map,z]
    show some (σ[k]?).join=some (some v)
    rw [h1];rfl
def Keeps(nt:Nat)(σ:St)(Q:St->Hp->Prop):St->Hp->Prop:=λσ' H'=>σ'.length=σ.length->(∀j,nt<=j->σ'[j]? =σ[j]?)->Q σ' H'
def PGn(nt:Nat)(X:Cx)(W:XW)(tg:Expr)(gf:MV->Rho->Sto->R Rho):Prop:=
 ∃t,PG X tg t/\ ∀α ρ S σ H d v Q,Wd X.g α S H->Slots X.K α H ρ σ->Den X.K α H d v->Post X.g W α H (gf d ρ S) (Keeps nt σ Q)->t v σ H Q
def PGsn(nt:Nat)(X:Cx)(W:XW)(tgs:List Expr)(gf:List MV->Rho->Sto->R Rho):Prop:=
 ∃t,PGs X tgs t/\ ∀α ρ S σ H ds vs Q,Wd X.g α S H->Slots X.K α H ρ σ->DenL X.K α H ds vs->Post X.g W α H (gf ds ρ S) (Keeps nt σ Q)->t vs σ H Q
section
variable{X:Cx}{W:XW}{e:Expr}{pos:Pos}{nt:Nat}
theorem bC(i:Nat){x:Str}(hN:X.N.Nodup)(hi:X.N[i]? =some x:=by rfl)(hx:Loc X.env.scope x:=by first |exact Or.inl rfl|exact Or.inr rfl)(hf:X.fn x=true\/X.env.scope.names.lookup x=some .local:=by first |exact .inl rfl|exact .inr rfl|assumption)(hlt:i<nt:=by decide):
  PGn nt X W (.Name x pos) (gNm i):=⟨_,yEE hN hi hx hf,λα ρ S σ H d v Q wd sl de q=>Post.here (b:=ρ.set i (some d)) q wd (sl.set de) (by rw [length_set]) λj hj=>by rw [getElem?_set_ne (by omega)]⟩
theorem yTK:PGsn nt X W [] dU:=⟨_,yEF,λα ρ S σ H ds vs Q wd sl de q=>by
 cases ds with
 |nil=>exact⟨de.isnil,Post.here (b:=ρ) q wd sl rfl λ_ _=>rfl⟩
 |cons d ds=>exact q.elim⟩
theorem Post.keeps{g:Gm}{W:XW}{α:List Addr}{H:Hp}{m:R Rho}{σ σ1:St}{Q:St->Hp->Prop}(h1:σ1.length=σ.length)(h2: ∀j,nt<=j->σ1[j]? =σ[j]?)(q:Post g W α H m (Keeps nt σ Q)):Post g W α H m (Keeps nt σ1 Q):=by
 cases m with
 |ok b S=>exact λu α1 H1 x w d k1 k2=>q u α1 H1 x w d (k1.trans h1) λj hj=>(k2 j hj).trans (h2 j hj)
 |exc c fs S=>exact q
 |no=>exact q
theorem yES{es:List Expr}{g1:MV->Rho->Sto->R Rho}{g2:List MV->Rho->Sto->R Rho}(h1:PGn nt X W e g1)(h2:PGsn nt X W es g2)(hs:(assignEach (e::es) X.env).map (·.2)=assign e X.env::(assignEach es X.env).map (·.2):=by rfl):PGsn nt X W (e::es) (yT g1 g2):=by
 obtain⟨t1,h1,k1⟩:=h1
 obtain⟨t2,h2,k2⟩:=h2
 refine⟨_,zZI h1 h2 hs,λα ρ S σ H ds vs Q wd sl de q=>?_⟩
 cases ds with
 |nil=>exact q.elim
 |cons d ds=>
  obtain⟨v,r,rfl,a,l⟩:=de.uncons
  refine⟨v,r,rfl,k1 α ρ S σ H d v _ wd sl a (Post.bind q λu p S1 α1 H1 e x1 w1 d1 q1 k1 k2'=>k2 α1 p S1 u H1 ds r Q w1 d1 (l.ext x1) (Post.keeps k1 k2' (q1.shift x1)))⟩
theorem yTL{es:List Expr}{k n:Nat}{g2:List MV->Rho->Sto->R Rho}(hc:X.calm=true)(h:PGsn nt X W es g2)
  (hn:(assignEach es X.env).length=n:=by rfl) (hst:(assignEach es X.env).findIdx? (·.1)=none:=by rfl):PGn nt X W (.Tuple es k pos) (gTp n g2):=by
 obtain⟨t,h,k⟩:=h
 refine⟨_,yIO hc h hn hst,λα ρ S σ H d v Q wd sl de q=>?_⟩
 unfold gTp at q
 split at q
 ·split at q
  ·rename_i hl
   obtain⟨a,vs,rfl,s,l⟩:=bD de
   exact⟨a,vs,rfl,s,by rw [l.length];exact hl,k α ρ S σ H _ vs Q wd sl l q⟩
  ·exact q.elim
 ·exact q.elim
end
abbrev yJP(X:Cx)(W:XW)(ifs:List Expr)(f:Rho->Sto->R Bool):Prop:=Jd X W (yGY X ifs) f
section
variable{X:Cx}{W:XW}{iter:Expr}{c:Expr}{tf:Rho->Sto->R Bool}{pos:Pos}
theorem zCX:yJP X W [] (λ_ S=>.ok true S):=⟨_,yJB,λα ρ S σ H Q wd sl q=>q.here wd rfl⟩
theorem zXN(h:PTm X W c tf):yJP X W [c] tf:=let ⟨t,h,k⟩:=h;⟨t,yJC h,k⟩
open Classical in
theorem yET{elt tg:Expr}{ifs:List Expr}{sc:Scope}{itf:Rho->Sto->R Wk}{cf:Rho->Sto->R Bool}{ef:Rho->Sto->R Er}{gf:MV->Rho->Sto->R Rho}(osc:Scope)(N:List Str)(T:List Str)(idx:List Nat)
  (hi:PIm X W tg iter itf) (hcalm:X.calm=true)
  (hg: ∀C s₂ H1 fp,([]++T++idx.map λi=>(N[i]?).getD Str.empty).Nodup->PGn T.length (yV X sc T idx C s₂ H1 fp) W0 tg gf)
  (hc: ∀C s₂ H1 fp,yJP (yV X sc T idx C s₂ H1 fp) W0 ifs cf) (he: ∀C s₂ H1 fp,PEm (yV X sc T idx C s₂ H1 fp) W0 elt ef)
  (e1:X.env.scope=osc:=by rfl) (e2:X.N=N:=by rfl) (hB:zQY osc N sc idx=true:=by decide+kernel) (hN:([]++T++idx.map λi=>(N[i]?).getD Str.empty).Nodup:=by decide+kernel)
  (hs: ∀y,foldedSetIterable iter X.env y=pure y:=by intro _;rfl):
  Jd (β:=Er) (τ:=V) X W (λt=>PE X (.ListComp elt [⟨tg,iter,ifs,0⟩] sc pos) t/\PU X (.ListComp elt [⟨tg,iter,ifs,0⟩] sc pos) t) (λρ S=>(itf ρ S).bind λk S1=>if k.ds.length<1000000 then(jE gf cf ef (blk T.length idx ρ) k.gs k.ds S1).bind λout S2=>.ok (.new out) S2 else .no):=by
 obtain⟨wi,hi,ki⟩:=hi
 subst e1 e2
 have big:(1000000:Nat)<sizeLine:=by rw [sizeLine_eq];decide
 have hg': ∃t,(∀C s₂ H1 fp,PG (yV X sc T idx C s₂ H1 fp) tg t)/\ ∀α ρ S σ H d v Q,Wd X.g α S H->Slots X.K α H ρ σ->Den X.K α H d v->Post X.g W0 α H (gf d ρ S) (Keeps T.length σ Q)->t v σ H Q:=by
  refine⟨λv σ H Q=> ∃α ρ S d,Wd X.g α S H/\Slots X.K α H ρ σ/\Den X.K α H d v/\Post X.g W0 α H (gf d ρ S) (Keeps T.length σ Q),λC s₂ H1 fp pins s σ H v u Q I r ⟨α,ρ,S,d,h1,h2,h3,h4⟩=>?_,λα ρ S σ H d v Q h1 h2 h3 h4=>⟨α,ρ,S,d,h1,h2,h3,h4⟩⟩
  obtain⟨t,ht,kt⟩:=hg C s₂ H1 fp hN
  exact ht pins s σ H v u Q I r (kt α ρ S σ H d v Q h1 h2 h3 h4)
 obtain⟨tg',hg1,kg⟩:=hg'
 refine⟨_,⟨yNW T idx hi hcalm hB hg1 (λC s₂ H1 fp=>(Classical.choose_spec (hc C s₂ H1 fp)).1) (λC s₂ H1 fp=>(Classical.choose_spec (he C s₂ H1 fp)).1) hs,yNZ T idx hi hcalm hB hg1 (λC s₂ H1 fp=>(Classical.choose_spec (hc C s₂ H1 fp)).1) (λC s₂ H1 fp=>(Classical.choose_spec (he C s₂ H1 fp)).1) hs⟩,λα ρ S σ H Q wd sl q=>ki α ρ S σ H _ wd sl (q.bind λJ k S1 α1 H1 e1 x1 w1 d1 q1=>?_)⟩
 obtain⟨P,hP⟩:=d1
 split at q1
 ·rename_i hlen
  refine⟨λn m ys H2=>m=k.ds.length - n/\n<=k.ds.length/\ys.length<=n/\ ∃α2 S2,Ext α H α2 H2/\Wd X.g α2 S2 H2/\P α2 S2 H2/\ ∃outs,DenL X.K α2 H2 outs ys/\Post X.g W α H ((jE gf cf ef (blk T.length idx ρ) k.gs (k.ds.drop n) S2).bind λo S'=>.ok (Er.new (outs++o)) S') Q,
   ⟨_,rfl,zero_le _,le_refl _,α1,S1,x1,w1,hP.here,[],wU,by simpa using q1⟩,?_⟩
  rintro n m ys H2 ⟨rfl,hn,hy,α2,S2,x2,w2,p2,outs,l,q2⟩
  obtain⟨i1,i2⟩:=hP.it n α2 S2 H2 p2 w2
  refine⟨by omega,?_⟩
  by_cases hlt:n<k.ds.length
  ·obtain⟨go,yl⟩:=i1 hlt
   refine .inr ⟨go,by omega,λv H3 y τ hτ=>?_⟩
   obtain⟨x3,w3,p3,d,hd,dv⟩:=yl v H3 y
   have hdrop:k.ds.drop n=d::k.ds.drop (n+1):=by
    rw [List.drop_eq_getElem_cons hlt]
    have:=gE0 hlt
    rw [hd]at this
    rw [<-Option.some.inj this]
   rw [hdrop]at q2
   unfold jE at q2
   have slb:=yHF (sl.ext (x2.trans x3)) T.length idx τ hτ
   refine kg α2 (blk T.length idx ρ) S2 _ H3 d v _ w3 slb dv ?_
   rw [R.bind_assoc]at q2
   refine q2.bindY (x2.trans x3) λσ4 ρ4 S4 α4 H4 e4 x4 w4 s4 q4 len4 kp4=>⟨⟨σ4.take T.length,?_,?_⟩,λC s₂ fp=>?_⟩
   ·refine List.ext_getElem? λj=>?_
    have hl4:σ4.length=T.length+idx.length:=by rw [len4,lA,zET,hτ]
    by_cases hj:j<T.length
    ·rw [getElem?_append_left (by rw [lT];omega),List.getElem?_take_of_lt hj]
    ·rw [kp4 j (by omega),getElem?_append_right (by omega),getElem?_append_right (by rw [lT];omega),hτ,lT,Nat.min_eq_left (by omega)]
   ·rw [lT,len4,lA,zET,hτ];omega
   have x34:Ext α H α4 H4:=(x2.trans x3).trans x4
   have p4: ∀α5 S5 H5,Ext α4 H4 α5 H5->Wd X.g α5 S5 H5->stay k.gs S5->P α5 S5 H5:=λα5 S5 H5 x5 w5 s5=>hP.stays α2 S2 H3 α5 S5 H5 p3 (x4.trans x5) w5 s5
   rw [R.bind_assoc]at q4
   refine(Classical.choose_spec (hc C s₂ H1 fp)).2 α4 ρ4 S4 σ4 H4 _ w4 s4 (q4.bindY x34 λb5 b5' S5 α5 H5 e5 x5 w5 d5 q5=>?_)
   cases d5
   cases b5 with
   |false=>
    rw [iN0 xF0]at q5 ⊢
    split at q5
    ·rename_i hst
     exact⟨k.ds.length - (n+1),by omega,rfl,hlt,by omega,α5,S5,x34.trans x5,w5,p4 α5 S5 H5 x5 w5 hst,outs,(l.ext (x3.trans x4)).ext x5,q5⟩
    ·exact q5.elim
   |true=>
    rw [iP rfl,R.bind_assoc]at q5
    rw [iP rfl]
    refine(Classical.choose_spec (he C s₂ H1 fp)).2 α5 ρ4 S5 σ4 H5 _ w5 (s4.ext x5) (q5.bindY (x34.trans x5) λy6 r6 S6 α6 H6 e6 x6 w6 d6 q6=>?_)
    obtain⟨d',S',α',e7,x7,y7,w7,de⟩:=zHD w6 x6 d6
    rw [e7]at q6
    have q6:Post X.g W α H ((if stay k.gs S' then(jE gf cf ef (blk T.length idx ρ) k.gs (k.ds.drop (n+1)) S').bind λout S4=>.ok (d'::out) S4 else .no).bind λo S'=>.ok (Er.new (outs++o)) S') Q:=q6
    split at q6
    ·rename_i hst
     refine⟨k.ds.length - (n+1),by omega,rfl,hlt,by rw [lA,lS];omega,α',S',(x34.trans x5).trans x7,w7,p4 α' S' H6 (x5.trans x7) w7 hst,outs++[d'],((l.ext (x3.trans x4)).ext (x5.trans x7)).append (xS de wU),?_⟩
     rw [R.bind_assoc]at q6
     have e8:(λ(o:List MV) (S':Sto)=>R.ok (Er.new ((outs++[d'])++o)) S')=(λ(b:List MV) S=>(R.ok (d'::b) S).bind λo S'=>.ok (Er.new (outs++o)) S'):=by
      funext o S'
      show _=R.ok (Er.new (outs++(d'::o))) S'
      rw [aA];rfl
     rw [e8]
     exact q6
    ·exact q6.elim
  ·have e:n=k.ds.length:=by omega
   subst e
   rw [drop_length]at q2
   have q3:Post X.g W α H (.ok (Er.new (outs++[])) S2) Q:=q2
   rw [aN]at q3
   exact .inl ⟨i2 (le_refl _),λD hD=>(q3.shift x2).newl w2 hD l⟩
 ·exact q1.elim
open Classical in
theorem zBD{elt tg:Expr}{ifs:List Expr}{sc:Scope}{itf:Rho->Sto->R Wk}{cf:Rho->Sto->R Bool}{ef:Rho->Sto->R Er}{gf:MV->Rho->Sto->R Rho}(osc:Scope)(N:List Str)(T:List Str)(idx:List Nat)
  (hi:PIm X W tg iter itf) (hcalm:X.calm=true)
  (hg: ∀C s₂ H1 fp,([]++T++idx.map λi=>(N[i]?).getD Str.empty).Nodup->PGn T.length (yV X sc T idx C s₂ H1 fp) W0 tg gf)
  (hc: ∀C s₂ H1 fp,yJP (yV X sc T idx C s₂ H1 fp) W0 ifs cf) (he: ∀C s₂ H1 fp,PEm (yV X sc T idx C s₂ H1 fp) W0 elt ef)
  (e1:X.env.scope=osc:=by rfl) (e2:X.N=N:=by rfl) (hB:zQY osc N sc idx=true:=by decide+kernel) (hN:([]++T++idx.map λi=>(N[i]?).getD Str.empty).Nodup:=by decide+kernel)
  (hs: ∀y,foldedSetIterable iter X.env y=pure y:=by intro _;rfl):
  PEm X W (.ListComp elt [⟨tg,iter,ifs,0⟩] sc pos) (λρ S=>(itf ρ S).bind λk S1=>if k.ds.length<1000000 then(jE gf cf ef (blk T.length idx ρ) k.gs k.ds S1).bind λout S2=>.ok (.new out) S2 else .no):=let ⟨t,h,k⟩:=(yET osc N T idx hi hcalm hg hc he e1 e2 hB hN hs);⟨t,h.1,k⟩
open Classical in
theorem yEU{x:Str}{pos' spos:Pos}(i:Nat)(hNN:X.N.Nodup){elt tg:Expr}{ifs:List Expr}{sc:Scope}{itf:Rho->Sto->R Wk}{cf:Rho->Sto->R Bool}{ef:Rho->Sto->R Er}{gf:MV->Rho->Sto->R Rho}(osc:Scope)(N:List Str)(T:List Str)(idx:List Nat)
  (hi:PIm X W tg iter itf) (hcalm:X.calm=true)
  (hg: ∀C s₂ H1 fp,([]++T++idx.map λi=>(N[i]?).getD Str.empty).Nodup->PGn T.length (yV X sc T idx C s₂ H1 fp) W0 tg gf)
  (hc: ∀C s₂ H1 fp,yJP (yV X sc T idx C s₂ H1 fp) W0 ifs cf) (he: ∀C s₂ H1 fp,PEm (yV X sc T idx C s₂ H1 fp) W0 elt ef)
  (e1:X.env.scope=osc:=by rfl) (e2:X.N=N:=by rfl) (hB:zQY osc N sc idx=true:=by decide+kernel) (hN:([]++T++idx.map λi=>(N[i]?).getD Str.empty).Nodup:=by decide+kernel)
  (hs: ∀y,foldedSetIterable iter X.env y=pure y:=by intro _;rfl)
  (hi2:X.N[i]? =some x:=by rfl) (hx:Loc X.env.scope x:=by first |exact Or.inl rfl|exact Or.inr rfl)
  (hsw:swapsWith (.ListComp elt [⟨tg,iter,ifs,0⟩] sc pos) (some (.Name x pos')) spos.line X.env=pure true:=by with_unfolding_all rfl) (hf:X.fn x=true\/X.env.scope.names.lookup x=some .local:=by first |exact .inl rfl|exact .inr rfl|assumption):
  PSm X W (.Assign [.Name x pos'] (.ListComp elt [⟨tg,iter,ifs,0⟩] sc pos) spos) (λρ S=>((itf ρ S).bind λk S1=>if k.ds.length<1000000 then(jE gf cf ef (blk T.length idx ρ) k.gs k.ds S1).bind λout S2=>.ok (.new out) S2 else .no).bind (zXM ρ i)):=by
 obtain⟨t,h,k⟩:=(yET osc N T idx hi hcalm hg hc he e1 e2 hB hN hs)
 refine⟨_,h.2 i x pos' spos hNN hi2 hx hf hsw,λα ρ S σ H D wd sl q=>k α ρ S σ H _ wd sl (q.expr λu r S1 α1 H1 e x1 w1 d1 q1=>?_)⟩
 obtain⟨d',S',α',e1,x',y',w',de⟩:=zHD w1 x1 d1
 unfold zXM at q1
 rw [e1]at q1
 exact q1 _ α' H1 x' w' (((sl.ext x1).ex0 y').set de)
end
mutual
def lo(n:Nat):MV->Prop
 |.loc l=>l<n
 |.tup ds=>loL n ds
 |.scr ds=>loL n ds
 |_=>True
def loL(n:Nat):List MV->Prop
 |[]=>True
 |d::ds=>lo n d/\loL n ds
end
def loO(n:Nat):MO->Prop
 |.lst ds=>loL n ds
 |.dic kvs=> ∀p∈kvs,lo n p.1/\lo n p.2
 |.ins _ fs=> ∀p∈fs,lo n p.2
section
variable{K:PySem.W.Frag}{α t:List Addr}{H:Hp}
mutual
theorem Den.back: ∀{d:MV}{v:V},Den K (α++t) H d v->lo α.length d->Den K α H d v
 |.non,_,q,_=>by cases zDE q;exact zCV
 |.bl _,_,q,_=>by cases zHB q;exact wT _
 |.int _,_,q,_=>by cases cK q;exact xV _
 |.str _,_,q,_=>by cases cL q;exact zCW _
 |.typ _,_,q,_=>by cases zCC q;exact yEM _
 |.loc l,_,q,h=>by
  obtain⟨a,rfl,e⟩:=zAH q
  have hl:l<α.length:=by unfold lo at h;exact h
  rw [getElem?_append_left hl]at e
  exact zLU e
 |.tup ds,_,q,h=>by
  obtain⟨a,vs,rfl,s,l⟩:=bD q
  exact zBC s (DenL.back l (by unfold lo at h;exact h))
 |.scr ds,_,q,h=>by
  obtain⟨a,vs,rfl,s,l⟩:=zCD q
  exact yEN s (DenL.back l (by unfold lo at h;exact h))
theorem DenL.back: ∀{ds:List MV}{vs:List V},DenL K (α++t) H ds vs->loL α.length ds->DenL K α H ds vs
 |[],_,q,_=>by rw [q.isnil];exact wU
 |d::ds,_,q,h=>by
  obtain⟨v,r,rfl,a,l⟩:=q.uncons
  unfold loL at h
  exact xS (Den.back a h.1) (DenL.back l h.2)
end
mutual
theorem Den.lo: ∀{d:MV}{v:V},Den K α H d v->lo α.length d
 |.non,_,q=>by unfold M.lo;trivial
 |.bl _,_,q=>by unfold M.lo;trivial
 |.int _,_,q=>by unfold M.lo;trivial
 |.str _,_,q=>by unfold M.lo;trivial
 |.typ _,_,q=>by unfold M.lo;trivial
 |.loc l,_,q=>by
  obtain⟨a,rfl,e⟩:=zAH q
  unfold M.lo
  exact(gS0.mp e).1
 |.tup ds,_,q=>by
  obtain⟨a,vs,rfl,s,l⟩:=bD q
  unfold M.lo
  exact DenL.lo l
 |.scr ds,_,q=>by
  obtain⟨a,vs,rfl,s,l⟩:=zCD q
  unfold M.lo
  exact DenL.lo l
theorem DenL.lo: ∀{ds:List MV}{vs:List V},DenL K α H ds vs->loL α.length ds
 |[],_,q=>by unfold loL;trivial
 |d::ds,_,q=>by
  obtain⟨v,r,rfl,a,l⟩:=q.uncons
  unfold loL
  exact⟨Den.lo a,DenL.lo l⟩
end
theorem DenK.back: ∀{fs gs},DenK K (α++t) H fs gs->(∀p∈fs,M.lo α.length p.1/\M.lo α.length p.2)->DenK K α H fs gs
 |_,_,.nil,_=>.nil
 |_,_,.cons k a l,h=>.cons k (a.back (h _ mF0).2) (DenK.back l λp hp=>h p (mO _ hp))
theorem KeyD.lo{n:Nat}{k:MV}{k':Key}(h:KeyD k k'):M.lo n k:=by
 unfold KeyD at h
 split at h
 ·unfold M.lo;trivial
 ·unfold M.lo;trivial
 ·exact h.elim
theorem DenK.lo: ∀{fs gs},DenK K α H fs gs-> ∀p∈fs,M.lo α.length p.1/\M.lo α.length p.2
 |_,_,.nil=>λp h=>by simp at h
 |_,_,.cons k a l=>λp h=>(mC0.mp h).elim (λe=>by subst e;exact⟨k.lo,a.lo⟩) (DenK.lo l p)
theorem DenN.back: ∀{fs xs},DenN K (α++t) H fs xs->(∀p∈fs,M.lo α.length p.1/\M.lo α.length p.2)->DenN K α H fs xs
 |_,_,.nil,_=>.nil
 |_,_,.cons k e a d r l,h=>.cons k e (a.back (h _ mF0).1) (d.back (h _ mF0).2) r (DenN.back l λp hp=>h p (mO _ hp))
theorem DenN.lo: ∀{fs xs},DenN K α H fs xs-> ∀p∈fs,M.lo α.length p.1/\M.lo α.length p.2
 |_,_,.nil=>λp h=>by simp at h
 |_,_,.cons k e a d r l=>λp h=>(mC0.mp h).elim (λz=>by subst z;exact⟨a.lo,d.lo⟩) (DenN.lo l p)
theorem DenF.back: ∀{fs gs},DenF K (α++t) H fs gs->(∀p∈fs,M.lo α.length p.2)->DenF K α H fs gs
 |_,_,.nil,_=>.nil
 |_,_,.cons a l,h=>.cons (a.back (h _ mF0)) (DenF.back l λp hp=>h p (mO _ hp))
theorem DenF.lo: ∀{fs gs},DenF K α H fs gs-> ∀p∈fs,M.lo α.length p.2
 |_,_,.nil=>λp h=>by simp at h
 |_,_,.cons a l=>λp h=>(mC0.mp h).elim (λe=>by subst e;exact a.lo) (DenF.lo l p)
theorem ObD.back{g:Gm}{a:Addr}{o:MO}(q:ObD g (α++t) H a o)(h:loO α.length o):ObD g α H a o:=by
 cases o with
 |lst ds=>obtain⟨vs,h1,l⟩:=q;exact⟨vs,h1,l.back h⟩
 |dic ds=>
  rcases q with⟨vs,h1,l⟩|⟨vs,h1,l⟩
  ·exact .inl ⟨vs,h1,l.back h⟩
  ·exact .inr ⟨vs,h1,l.back h⟩
 |ins c fs=>obtain⟨C,gs,m,l,r⟩:=q;exact⟨C,gs,m,l.back h,r⟩
theorem ObD.lo{g:Gm}{a:Addr}{o:MO}(q:ObD g α H a o):loO α.length o:=by
 cases o with
 |lst ds=>obtain⟨vs,h1,l⟩:=q;exact l.lo
 |dic ds=>
  rcases q with⟨vs,h1,l⟩|⟨vs,h1,l⟩
  ·exact l.lo
  ·exact l.lo
 |ins c fs=>obtain⟨C,gs,m,l,r⟩:=q;exact l.lo
end
def yAA(S S2:Sto):Prop:=S.length<=S2.length/\ ∀l,l<S.length->S2[l]? =S[l]? \/ ∃o,S2[l]? =some o/\loO S.length o
open Classical in
noncomputable def zCR(S:Sto)(r:Er)(S2:Sto):R Er:=
 if yAA S S2 then match r with
  |.val (.loc l)=>if l<S.length then .ok r (S2.take S.length)else match S2[l]? with
   |some (.lst ds)=>if loL S.length ds then .ok (.new ds) (S2.take S.length)else .ok r S2
   |_=>.ok r S2
  |.val d=>if lo S.length d then .ok r (S2.take S.length)else .ok r S2
  |.new ds=>if loL S.length ds then .ok r (S2.take S.length)else .ok r S2
 else .ok r S2
theorem zXO{g:Gm}{α α1 α2 α3:List Addr}{H H1 H3:Hp}{S1 S3:Sto}{r:Er}{v:V}(x1:Ext α H α1 H1)(w1:Wd g α1 S1 H1)(h12: ∃t,α2=α1++t)(x2:Ext α H α2 H1)(x3:Ext α2 H1 α3 H3)(w3:Wd g α3 S3 H3)(d:DenE g.K H1 α3 H3 r v):
  ∃r' S' α',zCR S1 r S3=.ok r' S'/\Ext α H α' H3/\Wd g α' S' H3/\DenE g.K H α' H3 r' v:=by
 have x23:=x2.trans x3
 have dfull:DenE g.K H α3 H3 r v:=d.back λb h=>x1.free h
 unfold zCR
 by_cases hc:yAA S1 S3
 ·rw [iP hc]
  obtain⟨t,ht⟩: ∃t,α3=α1++t:=by
   obtain⟨t,e⟩:=h12
   obtain⟨u,e'⟩:=x3.pre
   exact⟨t++u,by rw [e',e,aA]⟩
  have hn:α1.length=S1.length:=w1.len
  have xc:Ext α H α1 H3:=⟨⟨x1.pre,x23.tup,x23.frz⟩,x1.new,x23.keep,x23.has⟩
  have wc:Wd g α1 (S3.take S1.length) H3:=by
   refine⟨by rw [lT,hn,Nat.min_eq_left hc.1],w1.nd,λl a o h1 h2=>?_⟩
   have hl:l<S1.length:=by rw [<-hn];exact(gS0.mp h1).1
   rw [List.getElem?_take_of_lt hl]at h2
   have h1':α3[l]? =some a:=by rw [ht,getElem?_append_left (by rw [hn];exact hl)];exact h1
   have q:=w3.obj l a o h1' h2
   rw [ht]at q
   refine q.back ?_
   rcases hc.2 l hl with e|⟨o',e,lo'⟩
   ·rw [e]at h2
    exact(w1.obj l a o h1 h2).lo
   ·rw [h2]at e
    cases e
    rw [hn];exact lo'
  have dlo: ∀d,lo S1.length d->Den g.K α3 H3 d v->DenE g.K H α1 H3 (.val d) v:=λd hd q=>.val ((ht▸q:Den g.K (α1++t) H3 d v).back (by rw [hn];exact hd))
  cases r with
  |new ds=>
   dsimp only
   split
   ·rename_i hl
    obtain⟨⟨b,vs,rfl,h1,h2,h3⟩,h4⟩:=dfull
    exact⟨_,_,α1,rfl,xc,wc,⟨b,vs,rfl,h1,λz=>h2 (by rw [ht];exact mem_append_left _ z),(ht▸h3:DenL g.K (α1++t) H3 ds vs).back (by rw [hn];exact hl)⟩,h4⟩
   ·exact⟨_,_,α3,rfl,x23,w3,dfull⟩
  |val mv=>
   have dd:Den g.K α3 H3 mv v:=dfull.1
   cases mv with
   |loc l=>
    dsimp only
    split
    ·rename_i hl
     exact⟨_,_,α1,rfl,xc,wc,dlo _ (by unfold lo;exact hl) dd⟩
    ·rename_i hl
     obtain⟨a,rfl,ha⟩:=zAH dd
     split
     ·rename_i ds hS
      split
      ·rename_i hlo
       obtain⟨vs,h1,h2⟩:=w3.obj l a _ ha hS
       have hna:a∉α1:=λz=>by
        obtain⟨m,hm⟩:=List.getElem?_of_mem z
        have hml:m<α1.length:=(gS0.mp hm).1
        have hm':α3[m]? =some a:=by rw [ht,getElem?_append_left hml];exact hm
        obtain⟨u1,e1⟩:=gS0.mp hm'
        obtain⟨u2,e2⟩:=gS0.mp ha
        have:=(getElem_inj w3.nd).mp (e1.trans e2.symm)
        omega
       refine⟨_,_,α1,rfl,xc,wc,⟨a,vs,rfl,h1,hna,(ht▸h2:DenL g.K (α1++t) H3 ds vs).back (by rw [hn];exact hlo)⟩,λb e=>?_⟩
       cases e
       rcases x23.new a (mem_of_getElem? ha)with z|z
       ·obtain⟨u,eu⟩:=x1.pre
        exact absurd (by rw [eu];exact mem_append_left _ z) hna
       ·exact z
      ·exact⟨_,_,α3,rfl,x23,w3,dfull⟩
     ·exact⟨_,_,α3,rfl,x23,w3,dfull⟩
   |non=>dsimp only;split;(· rename_i hl;exact⟨_,_,α1,rfl,xc,wc,dlo _ hl dd⟩);(· exact⟨_,_,α3,rfl,x23,w3,dfull⟩)
   |bl b=>dsimp only;split;(· rename_i hl;exact⟨_,_,α1,rfl,xc,wc,dlo _ hl dd⟩);(· exact⟨_,_,α3,rfl,x23,w3,dfull⟩)
   |int b=>dsimp only;split;(· rename_i hl;exact⟨_,_,α1,rfl,xc,wc,dlo _ hl dd⟩);(· exact⟨_,_,α3,rfl,x23,w3,dfull⟩)
   |str b=>dsimp only;split;(· rename_i hl;exact⟨_,_,α1,rfl,xc,wc,dlo _ hl dd⟩);(· exact⟨_,_,α3,rfl,x23,w3,dfull⟩)
   |typ b=>dsimp only;split;(· rename_i hl;exact⟨_,_,α1,rfl,xc,wc,dlo _ hl dd⟩);(· exact⟨_,_,α3,rfl,x23,w3,dfull⟩)
   |tup b=>dsimp only;split;(· rename_i hl;exact⟨_,_,α1,rfl,xc,wc,dlo _ hl dd⟩);(· exact⟨_,_,α3,rfl,x23,w3,dfull⟩)
   |scr b=>dsimp only;split;(· rename_i hl;exact⟨_,_,α1,rfl,xc,wc,dlo _ hl dd⟩);(· exact⟨_,_,α3,rfl,x23,w3,dfull⟩)
 ·rw [iN0 hc]
  exact⟨_,_,α3,rfl,x23,w3,dfull⟩
def spM(g:Gm)(n:Nat)(F:List MV->Sto->R Er):Sp:=λvs H Q _=> ∃α S ds,Wd g α S H/\DenL g.K α H ds vs/\ds.length=n/\Post g W0 α H (F ds S) Q
noncomputable def zX(n:Nat)(F:List MV->Sto->R Er)(rs:List Er)(S:Sto):R Er:=if rs.length=n then(noX (F (zY rs S).1 (zY rs S).2)).bind λr S2=>zCR S r S2 else .no
section
variable{X:Cx}{W:XW}{e:Expr}{es:List Expr}{af:Rho->Sto->R (List Er)}{pos:Pos}
theorem zWG{n:Nat}{F:List MV->Sto->R Er}{rs:List Er}{vs:List V}{α α1:List Addr}{H H1:Hp}{S1:Sto}{Q:VK}(x1:Ext α H α1 H1)(w1:Wd X.g α1 S1 H1)(d1:ArgsE X.K H α1 H1 rs vs)(q:Post X.g W α H (zX n F rs S1) Q):
  spM X.g n F vs H1 Q E0:=by
 unfold zX at q
 split at q
 ·rename_i hl
  obtain⟨α2,x2,y2,w2,l2⟩:=zHC w1 x1 d1
  refine⟨α2,_,_,w2,l2,by rw [zLW];exact hl,?_⟩
  cases z:F (zY rs S1).1 (zY rs S1).2 with
  |ok r S3=>
   rw [z]at q
   intro v α3 H3 x3 w3 d3
   obtain⟨r',S',α',e',x',w',d'⟩:=zXO x1 w1 y2.pre x2 x3 w3 d3
   have q:Post X.g W α H (zCR S1 r S3) Q:=q
   rw [e']at q
   exact q v α' H3 x' w' d'
  |exc c fs S3=>rw [z]at q;exact q.elim
  |no=>rw [z]at q;exact q.elim
 ·exact q.elim
theorem yEV{k n:Nat}{fa:Addr}{fd:FuncData}{ps:List Str}{F:List MV->Sto->R Er}{x:Str}{p:Pos}(G:FnOk X.prog X.w X.K X.mg X.base CX0 k fa fd ps (spM X.g n F))(hr:Room k X.A)(hg:Gl X x)(hm:X.mg x=some (.ref fa))
  (hk:PySem.W.keepIn X.K (.ref fa)=true) (hb:Binds X.K fd ps []) (ha:PAm X W (e::es) af) (hdb:(x==("__debug__":Str))=false:=by decide)
  (he:starEach (e::es) X.env=(false,eval e X.env)::starEach es X.env:=by rfl) (hpl:(backTo pos (starEach es X.env)).any (·.1)=false:=by rfl):
  PEm X W (.Call (.Name x p) (e::es) [] pos) (λρ S=>(af ρ S).bind λrs S1=>zX n F rs S1):=by
 obtain⟨t,ha,kk⟩:=ha
 refine⟨_,yEH G hr hg hm hk hb .nil pass0 ha hdb he hpl,λα ρ S σ H Q wd sl q=>kk α ρ S σ H _ wd sl (q.bind λvs rs S1 α1 H1 e1 x1 w1 d1 q1=>?_)⟩
 rw [aN]
 exact zWG x1 w1 d1 q1
end
def zS(N:List Str)(ds:List MV):Rho:=ds.map some++List.replicate (N.length - ds.length) none
def yK:R Fl->R Er
 |.ok (.next _) S=>.ok (.val .non) S
 |.ok (.ret r) S=>.ok r S
 |.exc c fs S=>.exc c fs S
 |_=>.no
theorem zKD{K:PySem.W.Frag}{α:List Addr}{N:List Str}{H:Hp}{ds:List MV}{vs:List V}(l:DenL K α H ds vs):Slots K α H (zS N ds) (start N vs):=by
 have hlen:=l.length
 refine⟨?_,λi d e=>?_⟩
 ·unfold start zS
  rw [lA,lA,lM0,lM0,length_replicate,length_replicate,hlen]
 ·unfold zS at e
  by_cases hi:i<ds.length
  ·rw [getElem?_append_left (by simpa using hi),getElem?_map]at e
   cases z:ds[i]? with
   |none=>rw [z]at e;cases e
   |some d'=>
    rw [z]at e
    obtain⟨v,h1,h2⟩:=l.at z
    have e':d'=d:=Option.some.inj (Option.some.inj e)
    subst e'
    refine⟨v,?_,h2⟩
    unfold start
    rw [getElem?_append_left (by rw [lM0,hlen];exact hi),getElem?_map,h1];rfl
  ·rw [getElem?_append_right (by simpa using hi),List.getElem?_replicate]at e
   split at e<;>cases e
section
variable{P:Program}{w:World}{K:PySem.W.Frag}{mg:Str->Option Value}{base:Heap}
theorem okM{x qual:Str}{st:Stmt}{f:Addr}{fd:FuncData}{N ps:List Str}{k:Nat}(Fb:Rho->Sto->R Fl)(F:Fun K x qual st f fd)(Sc:FnScope N ps (zH st))
  (hbody: ∀(cdv:Value)(A:Around)(outer:List Env)(s:Shared)(H:Hp)(E:XK),Room k (A.deeper (envOfC qual (zH st) s.heap.objs.size f cdv))->
   zPV (zSL CX0 P w K mg base N qual (zH st) f cdv A outer s H E).nox W0 (jN st) Fb):
  FnOk P w K mg base CX0 (k+1) f fd ps (spM ⟨K,mg,P,w⟩ ps.length λds S=>yK (Fb (zS N ds) S)):=by
 refine F.ok Sc (λvs H Q E h=>?_) (λcdv A outer s H vs Q E hr h=>?_)
 ·obtain⟨α,S,ds,_,l,hl,_⟩:=h
  rw [l.length,hl]
 ·obtain⟨α,S,ds,wd,l,hl,q⟩:=h
  obtain⟨t,ht,kk⟩:=hbody cdv A outer s H E hr
  refine⟨t,ht,kk α (zS N ds) S (start N vs) H _ wd (zKD l) ?_⟩
  dsimp only at q
  cases z:Fb (zS N ds) S with
  |ok fl S'=>
   rw [z]at q
   cases fl with
   |next ρ=>exact λσ α' H' x' w' s'=>q .non α' H' x' w' (DenE.val zCV)
   |ret r=>exact λv α' H' x' w' d'=>q v α' H' x' w' d'
   |brk ρ=>exact q.elim
   |cont ρ=>exact q.elim
  |exc c fs S'=>rw [z]at q;exact λα' H' x' w'=>q α' H' x' w'
  |no=>rw [z]at q;exact q
end
inductive Vw where
 |fl (v:V)|tp (ds:List MV)|ls (ds:List MV)
def dZ(S:Sto):Er->Option (List MV)
 |.new ds=>some ds
 |.val (.scr ds)=>some ds
 |.val (.loc l)=>match S[l]? with
  |some (.lst ds)=>some ds
  |_=>none
 |_=>none
def vwE(S:Sto):Er->Option Vw
 |.val .non=>some (.fl .non)
 |.val (.bl b)=>some (.fl (.bl b))
 |.val (.int i)=>some (.fl (.int i))
 |.val (.str x)=>some (.fl (.str (mkS x)))
 |.val (.tup ds)=>some (.tp ds)
 |.val (.typ _)=>none
 |r=>(dZ S r).map .ls
def prs(e:MV->MV->Option Bool):List MV->List MV->Option (List Bool)
 |d::ds,f::fs=>(e d f).bind λk=>(prs e ds fs).map (k::·)
 |_,_=>some []
def eqW(e:MV->MV->Option Bool):Vw->Vw->Option Bool
 |.fl x,.fl y=>some (eqV x y)
 |.tp ds,.tp es=>(prs e ds es).map λbs=>bs.all id&&ds.length==es.length
 |.ls ds,.ls es=>if ds.length=es.length then(prs e ds es).map λbs=>bs.all id else some false
 |_,_=>some false
theorem yCJ(e:MV->MV->Option Bool)(ds es:List MV):eqW e (.tp ds) (.tp es)=(prs e ds es).map λbs=>bs.all id&&ds.length==es.length:=rfl
theorem yCK(e:MV->MV->Option Bool)(ds es:List MV):eqW e (.ls ds) (.ls es)=if ds.length=es.length then(prs e ds es).map λbs=>bs.all id else some false:=rfl
def eqv(S:Sto):Nat->MV->MV->Option Bool
 |0,_,_=>none
 |n+1,a,b=>(vwE S (.val a)).bind λx=>(vwE S (.val b)).bind λy=>eqW (eqv S n) x y
def zPY(S:Sto)(n:Nat)(a b:Er):Option Bool:=(vwE S a).bind λx=>(vwE S b).bind λy=>eqW (eqv S n) x y
section
variable{X:Cx}{α:List Addr}{S:Sto}{H:Hp}
theorem zOI{K:PySem.W.Frag}{g:Gm}(hK:g.K=K)(wd:Wd g α S H){r:Er}{ds:List MV}{x:V}(e:dZ S r=some ds)(d:DenX K α H r x): ∃a vs,x=.ref a/\SqL K H a vs/\DenL K α H ds vs:=by
 subst hK
 unfold dZ at e
 split at e
 ·cases e
  obtain⟨b,vs,rfl,h,_,l⟩:=d
  exact⟨b,vs,rfl,.of h,l⟩
 ·cases e
  obtain⟨a,vs,rfl,s,l⟩:=zSW d
  exact⟨a,vs,rfl,s.l,l⟩
 ·rename_i n
  obtain⟨a,rfl,h⟩:=zDF d
  split at e
  ·rename_i es hS
   cases e
   obtain⟨vs,h1,l⟩:=wd.obj n a _ h hS
   exact⟨a,vs,rfl,.of h1,l⟩
  ·cases e
 ·cases e
theorem zJL{r:Er}{x y:V}(e:vwE S r=some (.fl y))(d:DenX X.K α H r x):x=y/\gA y=true:=by
 unfold vwE at e
 split at e
 ·cases e;exact⟨zMW d,rfl⟩
 ·cases e;exact⟨zJK d,rfl⟩
 ·cases e;exact⟨xU d,rfl⟩
 ·cases e;exact⟨jG d,rfl⟩
 ·cases e
 ·cases e
 ·cases z:dZ S r<;>rw [z]at e<;>cases e
theorem zJM{r:Er}{x:V}{ds:List MV}(e:vwE S r=some (.tp ds))(d:DenX X.K α H r x): ∃a vs,x=.ref a/\SqT X.K H a vs/\DenL X.K α H ds vs:=by
 unfold vwE at e
 split at e
 ·cases e
 ·cases e
 ·cases e
 ·cases e
 ·cases e;exact cN d
 ·cases e
 ·cases z:dZ S r<;>rw [z]at e<;>cases e
theorem zJN(wd:Wd X.g α S H){r:Er}{x:V}{ds:List MV}(e:vwE S r=some (.ls ds))(d:DenX X.K α H r x): ∃a vs,x=.ref a/\SqL X.K H a vs/\DenL X.K α H ds vs:=by
 unfold vwE at e
 split at e
 ·cases e
 ·cases e
 ·cases e
 ·cases e
 ·cases e
 ·cases e
 ·cases z:dZ S r with
  |none=>rw [z]at e;cases e
  |some es=>rw [z]at e;cases e;exact zOI rfl wd z d
theorem zLX{e:MV->MV->Option Bool}: ∀{ds es:List MV}{bs:List Bool},prs e ds es=some bs->bs.length=min ds.length es.length
 |[],_,_,h=>by simp [prs]at h;subst h;simp
 |_::_,[],_,h=>by simp [prs]at h;subst h;simp
 |d::ds,f::fs,bs,h=>by
  unfold prs at h
  cases z:e d f with
  |none=>rw [z]at h;cases h
  |some k=>
   rw [z]at h
   cases z2:prs e ds fs with
   |none=>simp [z2]at h
   |some cs=>
    simp [z2]at h
    subst h
    simp [zLX z2]
theorem zXP{e:MV->MV->Option Bool}: ∀{ds es:List MV}{bs:List Bool}{j:Nat}{d f:MV},prs e ds es=some bs->ds[j]? =some d->es[j]? =some f->e d f=some (bs.getD j true)
 |[],_,_,_,_,_,h,h1,_=>by simp at h1
 |_::_,[],_,_,_,_,h,_,h2=>by simp at h2
 |d::ds,f::fs,bs,j,d',f',h,h1,h2=>by
  unfold prs at h
  cases z:e d f with
  |none=>rw [z]at h;cases h
  |some k=>
   rw [z]at h
   cases z2:prs e ds fs with
   |none=>simp [z2]at h
   |some cs=>
    simp [z2]at h
    subst h
    cases j with
    |zero=>simp at h1 h2;subst h1 h2;simpa using z
    |succ j=>simpa using zXP z2 (by simpa using h1) (by simpa using h2)
theorem range_all{bs:List Bool}{n:Nat}(h:bs.length=n):(List.range n).all (λj=>bs.getD j true)=bs.all id:=by
 subst h
 rw [Bool.eq_iff_iff,all_eq_true,all_eq_true]
 constructor
 ·intro h x hx
  obtain⟨i,hi,rfl⟩:=List.getElem_of_mem hx
  have:=h i (mem_range.mpr hi)
  simpa [getD_eq_getElem?_getD,hi]using this
 ·intro h i hi
  have hi':=mem_range.mp hi
  have:=h bs[i] (getElem_mem hi')
  simpa [getD_eq_getElem?_getD,hi']using this
variable{pins:List (Addr×Obj)}{σ:St}{s:Shared}
theorem zOJ(I:Inv X pins σ H s){a:Addr}{xs ys:List V}(h:SqL X.K H a xs)(h':SqT X.K H a ys):False:=by
 obtain⟨_,_,pl,_⟩:=I.list h
 obtain⟨_,_,pt,_⟩:=I.tuple h'
 obtain⟨o,n,e,c,_,_⟩:=pl
 obtain⟨o',e',c',_⟩:=pt
 rw [e]at e'
 cases e'
 rw [c]at c'
 exact absurd c' (by simp)
theorem yJQ(I:Inv X pins σ H s)(wd:Wd X.g α S H){e:MV->MV->Option Bool}(he: ∀d f v k,Den X.K α H d v->Den X.K α H f v->e d f=some k->k=true){a b:Er}{x:V}{p q:Vw}{k:Bool}
  (ha:vwE S a=some p) (hb:vwE S b=some q) (da:DenX X.K α H a x) (db:DenX X.K α H b x) (h:eqW e p q=some k):k=true:=by
 have hp: ∀{ds es:List MV}{vs:List V}{bs:List Bool},DenL X.K α H ds vs->DenL X.K α H es vs->prs e ds es=some bs->bs.all id=true:=by
  intro ds es vs bs l1 l2 z
  rw [all_eq_true]
  intro k hk
  obtain⟨i,hi,rfl⟩:=List.getElem_of_mem hk
  have hl:=zLX z
  have h1:i<ds.length:=by omega
  have h2:i<es.length:=by omega
  obtain⟨v,g1,g2⟩:=l1.at (gE0 h1)
  obtain⟨v',g3,g4⟩:=l2.at (gE0 h2)
  rw [g1]at g3;cases g3
  have:=he _ _ _ _ g2 g4 (zXP z (gE0 h1) (gE0 h2))
  simpa [getD_eq_getElem?_getD,hi]using this
 cases p with
 |fl y=>
  obtain⟨rfl,f1⟩:=zJL ha da
  cases q with
  |fl z=>obtain⟨rfl,f2⟩:=zJL hb db;cases h;exact yJD f1
  |tp ds=>obtain⟨a,vs,rfl,_⟩:=zJM hb db;exact absurd (show false=true from f1) xF0
  |ls ds=>obtain⟨a,vs,rfl,_⟩:=zJN wd hb db;exact absurd (show false=true from f1) xF0
 |tp ds=>
  obtain⟨a1,vs,rfl,s1,l1⟩:=zJM ha da
  cases q with
  |fl z=>obtain⟨rfl,f2⟩:=zJL hb db;exact absurd (show false=true from f2) xF0
  |tp es=>
   obtain⟨a2,us,e2,s2,l2⟩:=zJM hb db
   cases e2
   cases I.tuple_inj s1 s2
   rw [yCJ]at h
   cases z:prs e ds es with
   |none=>rw [z]at h;cases h
   |some bs=>
    rw [z]at h
    cases h
    show(bs.all id&&ds.length==es.length)=true
    rw [hp l1 l2 z, <-l1.length, <-l2.length];simp
  |ls es=>obtain⟨a2,us,e2,s2,l2⟩:=zJN wd hb db;cases e2;exact(zOJ I s2 s1).elim
 |ls ds=>
  obtain⟨a1,vs,rfl,s1,l1⟩:=zJN wd ha da
  cases q with
  |fl z=>obtain⟨rfl,f2⟩:=zJL hb db;exact absurd (show false=true from f2) xF0
  |tp es=>obtain⟨a2,us,e2,s2,l2⟩:=zJM hb db;cases e2;exact(zOJ I s1 s2).elim
  |ls es=>
   obtain⟨a2,us,e2,s2,l2⟩:=zJN wd hb db
   cases e2
   cases I.list_inj s1 s2
   rw [yCK]at h
   rw [iP (by rw [<-l1.length, <-l2.length])]at h
   cases z:prs e ds es with
   |none=>rw [z]at h;cases h
   |some bs=>rw [z]at h;cases h;exact hp l1 l2 z
theorem zTA(I:Inv X pins σ H s)(wd:Wd X.g α S H): ∀(n:Nat)(d f:MV)(v:V)(k:Bool),Den X.K α H d v->Den X.K α H f v->eqv S n d f=some k->k=true
 |0,_,_,_,_,_,_,h=>by cases h
 |n+1,d,f,v,k,h1,h2,h=>by
  unfold eqv at h
  cases za:vwE S (.val d)with
  |none=>rw [za]at h;cases h
  |some p=>
   cases zb:vwE S (.val f)with
   |none=>rw [za,zb]at h;cases h
   |some q=>
    rw [za,zb]at h
    exact yJQ I wd (zTA I wd n) za zb (a:=.val d) (b:=.val f) h1 h2 h
theorem zOK{e:MV->MV->Option Bool}{A:Around}(he: ∀d f x y u v k,Den X.K α H d x->Den X.K α H f y->RelV x u->RelV y v->e d f=some k->SeqAt.EqAt A s u v k)
  {ds es:List MV} {vs us:List V} {its its2:List Value} {bs:List Bool} (l1:DenL X.K α H ds vs) (l2:DenL X.K α H es us) (r1:Vals vs its) (r2:Vals us its2) (z:prs e ds es=some bs):
  ∀j (h1:j<its.toArray.size) (h2:j<its2.toArray.size),SeqAt.EqAt A s its.toArray[j] its2.toArray[j] (bs.getD j true):=by
 intro j h1 h2
 have g1:j<vs.length:=by rw [r1.length];simpa using h1
 have g2:j<us.length:=by rw [r2.length];simpa using h2
 obtain⟨d,d1,d2⟩:=l1.get (gE0 g1)
 obtain⟨f,f1,f2⟩:=l2.get (gE0 g2)
 obtain⟨u,u1,u2⟩:=r1.get (gE0 g1)
 obtain⟨v,v1,v2⟩:=r2.get (gE0 g2)
 have e1:its.toArray[j]=u:=by
  have:its[j]? =some (its[j]'(by simpa using h1)):=gE0 _
  rw [u1]at this
  simpa using(Option.some.inj this).symm
 have e2:its2.toArray[j]=v:=by
  have:its2[j]? =some (its2[j]'(by simpa using h2)):=gE0 _
  rw [v1]at this
  simpa using(Option.some.inj this).symm
 rw [e1,e2]
 exact he d f _ _ u v _ d2 f2 u2 v2 (zXP z d1 f1)
theorem zXQ(I:Inv X pins σ H s)(wd:Wd X.g α S H): ∀(n:Nat)(A:Around)(d f:MV)(x y:V)(u v:Value)(k:Bool),A.units+n<cLine->Den X.K α H d x->Den X.K α H f y->RelV x u->RelV y v->eqv S n d f=some k->SeqAt.EqAt A s u v k
 |0,_,_,_,_,_,_,_,_,_,_,_,_,_,h=>by cases h
 |n+1,A,d,f,x,y,u,v,k,hu,h1,h2,rx,ry,h=>by
  have hu0:A.units<cLine:=by omega
  have hsame:=h
  unfold eqv at h
  cases za:vwE S (.val d)with
  |none=>rw [za]at h;cases h
  |some p=>
   cases zb:vwE S (.val f)with
   |none=>rw [za,zb]at h;cases h
   |some q=>
    rw [za,zb]at h
    have h:eqW (eqv S n) p q=some k:=h
    have he:=λd f x y u v k a b c d' e=>zXQ I wd n A.in1 d f x y u v k (show A.units+1+n<cLine by omega) a b c d' e
    cases p with
    |fl x'=>
     obtain⟨rfl,fx⟩:=zJL za (α:=α) (H:=H) (X:=X) h1
     cases q with
     |fl y'=>obtain⟨rfl,fy⟩:=zJL zb (α:=α) (H:=H) (X:=X) h2;cases h;exact ySZ rx ry fx fy
     |tp es=>
      obtain⟨b,us,rfl,s2,l2⟩:=zJM zb (α:=α) (H:=H) (X:=X) h2
      cases ry;cases h
      obtain⟨its,_,pt,_⟩:=I.tuple s2
      exact yRD rx fx pt hu0
     |ls es=>
      obtain⟨b,us,rfl,s2,l2⟩:=zJN wd zb h2
      cases ry;cases h
      obtain⟨its,_,pl,_⟩:=I.list s2
      exact eq_lr rx fx pl.isList hu0
    |tp ds=>
     obtain⟨a,vs,rfl,s1,l1⟩:=zJM za (α:=α) (H:=H) (X:=X) h1
     cases rx
     obtain⟨its,r1,pt,_⟩:=I.tuple s1
     cases q with
     |fl y'=>obtain⟨rfl,fy⟩:=zJL zb (α:=α) (H:=H) (X:=X) h2;cases h;exact yRC ry fy pt hu0
     |tp es=>
      obtain⟨b,us,rfl,s2,l2⟩:=zJM zb (α:=α) (H:=H) (X:=X) h2
      cases ry
      by_cases hab:a=b
      ·subst hab
       rw [zTA I wd (n+1) d f _ k h1 h2 hsame]
       exact SeqAt.EqAt.same _
      ·obtain⟨its2,r2,pt2,_⟩:=I.tuple s2
       rw [yCJ]at h
       cases z:prs (eqv S n) ds es with
       |none=>rw [z]at h;cases h
       |some bs=>
        rw [z]at h
        cases h
        have:=SeqAt.RcAt.tuples pt pt2 hu0 (zOK he l1 l2 r1 r2 z)
        have hl:=zLX z
        rw [range_all (by rw [hl];simp [<-r1.length, <-r2.length,l1.length,l2.length])]at this
        have e3:(its.toArray.size==its2.toArray.size)=(ds.length==es.length):=by simp [<-r1.length, <-r2.length,l1.length,l2.length]
        rw [e3]at this
        exact SeqAt.EqAt.of_refs hab this
     |ls es=>
      obtain⟨b,us,rfl,s2,l2⟩:=zJN wd zb h2
      cases ry;cases h
      obtain⟨its2,_,pl,_⟩:=I.list s2
      exact SeqAt.EqAt.tuple_list pt pl.isList hu0
    |ls ds=>
     obtain⟨a,vs,rfl,s1,l1⟩:=zJN wd za h1
     cases rx
     obtain⟨its,r1,pl,_⟩:=I.list s1
     cases q with
     |fl y'=>obtain⟨rfl,fy⟩:=zJL zb (α:=α) (H:=H) (X:=X) h2;cases h;exact eq_ll ry fy pl.isList hu0
     |tp es=>
      obtain⟨b,us,rfl,s2,l2⟩:=zJM zb (α:=α) (H:=H) (X:=X) h2
      cases ry;cases h
      obtain⟨its2,_,pt,_⟩:=I.tuple s2
      exact SeqAt.EqAt.list_tuple pl.isList pt hu0
     |ls es=>
      obtain⟨b,us,rfl,s2,l2⟩:=zJN wd zb h2
      cases ry
      by_cases hab:a=b
      ·subst hab
       rw [zTA I wd (n+1) d f _ k h1 h2 hsame]
       exact SeqAt.EqAt.same _
      ·obtain⟨its2,r2,pl2,_⟩:=I.list s2
       rw [yCK]at h
       by_cases hl:ds.length=es.length
       ·rw [iP hl]at h
        cases z:prs (eqv S n) ds es with
        |none=>rw [z]at h;cases h
        |some bs=>
         rw [z]at h
         cases h
         have hs:its.toArray.size=its2.toArray.size:=by simp [<-r1.length, <-r2.length,l1.length,l2.length,hl]
         have:=SeqAt.RcAt.lists pl.isList pl2.isList hs hu0 (zOK he l1 l2 r1 r2 z)
         have hl':=zLX z
         rw [range_all (by rw [hl'];simp [<-r1.length,l1.length,hl])]at this
         exact SeqAt.EqAt.of_refs hab this
       ·rw [iN0 hl]at h
        cases h
        exact SeqAt.EqAt.of_refs hab (SeqAt.RcAt.lists_lengths pl.isList pl2.isList (by simpa [<-r1.length, <-r2.length,l1.length,l2.length]using hl) hu0)
theorem yRG{RC:Around->Shared->Value->Value->Bool->Prop}{tr:Bool->Bool}{A:Around}
  (hff: ∀x y u v,RelV x u->RelV y v->gA x=true->gA y=true->RC A s u v (tr (eqV x y)))
  (hfl: ∀x v l items,RelV x v->gA x=true->s.heap.IsList l items->A.units<cLine->RC A s v (.ref l) (tr false)/\RC A s (.ref l) v (tr false))
  (hft: ∀x v l items,RelV x v->gA x=true->s.heap.IsTuple l items->A.units<cLine->RC A s v (.ref l) (tr false)/\RC A s (.ref l) v (tr false))
  (hlt: ∀l b items items2,s.heap.IsList l items->s.heap.IsTuple b items2->A.units<cLine->RC A s (.ref l) (.ref b) (tr false)/\RC A s (.ref b) (.ref l) (tr false))
  (htt: ∀(l b:Addr)(items items2:Array Value)(e:Nat->Bool),s.heap.IsTuple l items->s.heap.IsTuple b items2->A.units<cLine->(∀j (h1:j<items.size) (h2:j<items2.size),SeqAt.EqAt A.in1 s items[j] items2[j] (e j))->RC A s (.ref l) (.ref b) (tr ((List.range (min items.size items2.size)).all e&&items.size==items2.size)))
  (hll: ∀(l b:Addr)(items items2:Array Value)(e:Nat->Bool),s.heap.IsList l items->s.heap.IsList b items2->items.size=items2.size->A.units<cLine->(∀j (h1:j<items.size) (h2:j<items2.size),SeqAt.EqAt A.in1 s items[j] items2[j] (e j))->RC A s (.ref l) (.ref b) (tr ((List.range items.size).all e)))
  (hln: ∀(l b:Addr)(items items2:Array Value),s.heap.IsList l items->s.heap.IsList b items2->(items.size !=items2.size)=true->A.units<cLine->RC A s (.ref l) (.ref b) (tr false))
  (I:Inv X pins σ H s) (wd:Wd X.g α S H) (n:Nat) {a b:Er} {x y:V} {u v:Value} {k:Bool} (hu:A.units+(n+1)<cLine) (h1:DenX X.K α H a x) (h2:DenX X.K α H b y) (rx:RelV x u) (ry:RelV y v) (h:zPY S n a b=some k):RC A s u v (tr k):=by
 have hu0:A.units<cLine:=by omega
 unfold zPY at h
 cases za:vwE S a with
 |none=>rw [za]at h;cases h
 |some p=>
  cases zb:vwE S b with
  |none=>rw [za,zb]at h;cases h
  |some q=>
   rw [za,zb]at h
   have h:eqW (eqv S n) p q=some k:=h
   have he:=λd f x y u v k a b c d' e=>zXQ I wd n A.in1 d f x y u v k (show A.units+1+n<cLine by omega) a b c d' e
   cases p with
   |fl x'=>
    obtain⟨rfl,fx⟩:=zJL za h1
    cases q with
    |fl y'=>obtain⟨rfl,fy⟩:=zJL zb h2;cases h;exact hff _ _ _ _ rx ry fx fy
    |tp es=>
     obtain⟨b,us,rfl,s2,l2⟩:=zJM zb h2
     cases ry;cases h
     obtain⟨its,_,pt,_⟩:=I.tuple s2
     exact(hft _ _ _ _ rx fx pt hu0).1
    |ls es=>
     obtain⟨b,us,rfl,s2,l2⟩:=zJN wd zb h2
     cases ry;cases h
     obtain⟨its,_,pl,_⟩:=I.list s2
     exact(hfl _ _ _ _ rx fx pl.isList hu0).1
   |tp ds=>
    obtain⟨a,vs,rfl,s1,l1⟩:=zJM za h1
    cases rx
    obtain⟨its,r1,pt,_⟩:=I.tuple s1
    cases q with
    |fl y'=>obtain⟨rfl,fy⟩:=zJL zb h2;cases h;exact(hft _ _ _ _ ry fy pt hu0).2
    |tp es=>
     obtain⟨b,us,rfl,s2,l2⟩:=zJM zb h2
     cases ry
     obtain⟨its2,r2,pt2,_⟩:=I.tuple s2
     rw [yCJ]at h
     cases z:prs (eqv S n) ds es with
     |none=>rw [z]at h;cases h
     |some bs=>
      rw [z]at h
      cases h
      have:=htt _ _ _ _ _ pt pt2 hu0 (zOK he l1 l2 r1 r2 z)
      have hl:=zLX z
      rw [range_all (by rw [hl];simp [<-r1.length, <-r2.length,l1.length,l2.length])]at this
      have e3:(its.toArray.size==its2.toArray.size)=(ds.length==es.length):=by simp [<-r1.length, <-r2.length,l1.length,l2.length]
      rw [e3]at this
      exact this
    |ls es=>
     obtain⟨b,us,rfl,s2,l2⟩:=zJN wd zb h2
     cases ry;cases h
     obtain⟨its2,_,pl,_⟩:=I.list s2
     exact(hlt _ _ _ _ pl.isList pt hu0).2
   |ls ds=>
    obtain⟨a,vs,rfl,s1,l1⟩:=zJN wd za h1
    cases rx
    obtain⟨its,r1,pl,_⟩:=I.list s1
    cases q with
    |fl y'=>obtain⟨rfl,fy⟩:=zJL zb h2;cases h;exact(hfl _ _ _ _ ry fy pl.isList hu0).2
    |tp es=>
     obtain⟨b,us,rfl,s2,l2⟩:=zJM zb h2
     cases ry;cases h
     obtain⟨its2,_,pt,_⟩:=I.tuple s2
     exact(hlt _ _ _ _ pl.isList pt hu0).1
    |ls es=>
     obtain⟨b,us,rfl,s2,l2⟩:=zJN wd zb h2
     cases ry
     obtain⟨its2,r2,pl2,_⟩:=I.list s2
     rw [yCK]at h
     by_cases hl:ds.length=es.length
     ·rw [iP hl]at h
      cases z:prs (eqv S n) ds es with
      |none=>rw [z]at h;cases h
      |some bs=>
       rw [z]at h
       cases h
       have hs:its.toArray.size=its2.toArray.size:=by simp [<-r1.length, <-r2.length,l1.length,l2.length,hl]
       have:=hll _ _ _ _ _ pl.isList pl2.isList hs hu0 (zOK he l1 l2 r1 r2 z)
       have hl':=zLX z
       rw [range_all (by rw [hl'];simp [<-r1.length,l1.length,hl])]at this
       exact this
     ·rw [iN0 hl]at h
      cases h
      exact hln _ _ _ _ pl.isList pl2.isList (by simpa [<-r1.length, <-r2.length,l1.length,l2.length]using hl) hu0
theorem yTM(I:Inv X pins σ H s)(wd:Wd X.g α S H)(n:Nat){A:Around}{a b:Er}{x y:V}{u v:Value}{k:Bool}(hu:A.units+(n+1)<cLine)(h1:DenX X.K α H a x)(h2:DenX X.K α H b y)(rx:RelV x u)(ry:RelV y v)(h:zPY S n a b=some k):SeqAt.RcAt A s u v k:=
 yRG (RC:=SeqAt.RcAt) (tr:=id) (λ_ _ _ _ a b c d=>yTF a b c d) (λ_ _ _ _ a b c d=>⟨rc_lr a b c d,rc_ll a b c d⟩) (λ_ _ _ _ a b c d=>⟨rc_tr a b c d,rc_tl a b c d⟩)
  (λ_ _ _ _ a b c=>⟨SeqAt.RcAt.list_tuple a b c,SeqAt.RcAt.tuple_list b a c⟩) (λ_ _ _ _ _ a b c d=>SeqAt.RcAt.tuples a b c d) (λ_ _ _ _ _ a b c d e=>SeqAt.RcAt.lists a b c d e) (λ_ _ _ _ a b c d=>SeqAt.RcAt.lists_lengths a b c d)
  I wd n hu h1 h2 rx ry h
theorem yTN(I:Inv X pins σ H s)(wd:Wd X.g α S H)(n:Nat){A:Around}{a b:Er}{x y:V}{u v:Value}{k:Bool}(hu:A.units+(n+1)<cLine)(h1:DenX X.K α H a x)(h2:DenX X.K α H b y)(rx:RelV x u)(ry:RelV y v)(h:zPY S n a b=some k):SeqAt.RcNeAt A s u v (!k):=
 yRG (RC:=SeqAt.RcNeAt) (tr:=λb=>!b) (λ_ _ _ _ a b c d=>yTG a b c d) (λ_ _ _ _ a b c d=>⟨rn_lr a b c d,rn_ll a b c d⟩) (λ_ _ _ _ a b c d=>⟨rn_tr a b c d,rn_tl a b c d⟩)
  (λ_ _ _ _ a b c=>⟨SeqAt.RcNeAt.list_tuple a b c,SeqAt.RcNeAt.tuple_list b a c⟩) (λ_ _ _ _ _ a b c d=>SeqAt.RcNeAt.tuples a b c d) (λ_ _ _ _ _ a b c d e=>SeqAt.RcNeAt.lists a b c d e) (λ_ _ _ _ a b c d=>SeqAt.RcNeAt.lists_lengths a b c d)
  I wd n hu h1 h2 rx ry h
mutual
theorem Den.inj(I:Inv X pins σ H s)(wd:Wd X.g α S H): ∀{d f:MV}{v:V},Den X.K α H d v->Den X.K α H f v->d=f
 |.non,f,v,h,h'=>by cases zDE h;cases f<;>first |rfl|(have:=zHB h';cases this;done)|(have:=cK h';cases this;done)|(have:=cL h';cases this;done)|(have:=zCC h';cases this;done)|(obtain⟨_,_,e,_⟩:=bD h';cases e;done)|(obtain⟨_,_,e,_⟩:=zCD h';cases e;done)|(obtain⟨_,e,_⟩:=zAH h';cases e;done)
 |.bl b,f,v,h,h'=>by cases zHB h;cases f<;>first |(have:=zHB h';cases this;rfl;done)|(have:=zDE h';cases this;done)|(have:=cK h';cases this;done)|(have:=cL h';cases this;done)|(have:=zCC h';cases this;done)|(obtain⟨_,_,e,_⟩:=bD h';cases e;done)|(obtain⟨_,_,e,_⟩:=zCD h';cases e;done)|(obtain⟨_,e,_⟩:=zAH h';cases e;done)
 |.int b,f,v,h,h'=>by cases cK h;cases f<;>first |(have:=cK h';cases this;rfl;done)|(have:=zDE h';cases this;done)|(have:=zHB h';cases this;done)|(have:=cL h';cases this;done)|(have:=zCC h';cases this;done)|(obtain⟨_,_,e,_⟩:=bD h';cases e;done)|(obtain⟨_,_,e,_⟩:=zCD h';cases e;done)|(obtain⟨_,e,_⟩:=zAH h';cases e;done)
 |.str b,f,v,h,h'=>by cases cL h;cases f<;>first |(have:=cL h';rw [zXH (V.str.inj this)];done)|(have:=zDE h';cases this;done)|(have:=zHB h';cases this;done)|(have:=cK h';cases this;done)|(have:=zCC h';cases this;done)|(obtain⟨_,_,e,_⟩:=bD h';cases e;done)|(obtain⟨_,_,e,_⟩:=zCD h';cases e;done)|(obtain⟨_,e,_⟩:=zAH h';cases e;done)
 |.typ b,f,v,h,h'=>by cases zCC h;cases f<;>first |(have:=zCC h';cases this;rfl;done)|(have:=zDE h';cases this;done)|(have:=zHB h';cases this;done)|(have:=cK h';cases this;done)|(have:=cL h';cases this;done)|(obtain⟨_,_,e,_⟩:=bD h';cases e;done)|(obtain⟨_,_,e,_⟩:=zCD h';cases e;done)|(obtain⟨_,e,_⟩:=zAH h';cases e;done)
 |.tup ds,f,v,h,h'=>by
  obtain⟨a,vs,rfl,s1,l1⟩:=bD h
  cases f with
  |tup es=>
   obtain⟨a2,us,e2,s2,l2⟩:=bD h'
   cases e2
   cases I.tuple_inj s1 s2
   rw [DenL.inj I wd l1 l2]
  |scr es=>obtain⟨a2,us,e2,s2,l2⟩:=zCD h';cases e2;exact(zOJ I s2.l s1).elim
  |loc l=>
   obtain⟨a2,e2,h2⟩:=zAH h'
   cases e2
   obtain⟨ho,k1,k2,k3⟩:=wd.mem (mem_of_getElem? h2)
   rcases s1 with(s1|⟨o,s1⟩)|⟨o,its,n,s1,_⟩
   ·rw [k1]at s1;exact absurd (Option.some.inj s1) (k2 _)
   ·rw [k1]at s1;exact absurd (Option.some.inj s1) (k3 _ _)
   ·have:=(I.bs a o (I.mod.kin a o s1)).2;rw [k1]at this;cases this
  |non=>cases zDE h'
  |bl b=>cases zHB h'
  |int b=>cases cK h'
  |str b=>cases cL h'
  |typ b=>cases zCC h'
 |.scr ds,f,v,h,h'=>by
  obtain⟨a,vs,rfl,s1,l1⟩:=zCD h
  cases f with
  |scr es=>
   obtain⟨a2,us,e2,s2,l2⟩:=zCD h'
   cases e2
   cases I.list_inj s1.l s2.l
   rw [DenL.inj I wd l1 l2]
  |tup es=>obtain⟨a2,us,e2,s2,l2⟩:=bD h';cases e2;exact(zOJ I s1.l s2).elim
  |loc l=>
   obtain⟨a2,e2,h2⟩:=zAH h'
   cases e2
   obtain⟨ho,k1,k2,k3⟩:=wd.mem (mem_of_getElem? h2)
   rcases s1 with⟨o,s1⟩|⟨o,its,n,s1,_⟩
   ·rw [k1]at s1;exact absurd (Option.some.inj s1) (k3 _ _)
   ·have:=(I.bs a o (I.mod.kin a o s1)).2;rw [k1]at this;cases this
  |non=>cases zDE h'
  |bl b=>cases zHB h'
  |int b=>cases cK h'
  |str b=>cases cL h'
  |typ b=>cases zCC h'
 |.loc l,f,v,h,h'=>by
  obtain⟨a,rfl,h1⟩:=zAH h
  obtain⟨ho,k1,k2,k3⟩:=wd.mem (mem_of_getElem? h1)
  cases f with
  |loc m=>
   obtain⟨a2,e2,h2⟩:=zAH h'
   cases e2
   by_cases hlm:l=m
   ·rw [hlm]
   ·exact absurd rfl (wd.ne h1 h2 hlm)
  |tup es=>
   obtain⟨a2,us,e2,s1,l2⟩:=bD h'
   cases e2
   rcases s1 with(s1|⟨o,s1⟩)|⟨o,its,n,s1,_⟩
   ·rw [k1]at s1;exact absurd (Option.some.inj s1) (k2 _)
   ·rw [k1]at s1;exact absurd (Option.some.inj s1) (k3 _ _)
   ·have:=(I.bs a o (I.mod.kin a o s1)).2;rw [k1]at this;cases this
  |scr es=>
   obtain⟨a2,us,e2,s1,l2⟩:=zCD h'
   cases e2
   rcases s1 with⟨o,s1⟩|⟨o,its,n,s1,_⟩
   ·rw [k1]at s1;exact absurd (Option.some.inj s1) (k3 _ _)
   ·have:=(I.bs a o (I.mod.kin a o s1)).2;rw [k1]at this;cases this
  |non=>cases zDE h'
  |bl b=>cases zHB h'
  |int b=>cases cK h'
  |str b=>cases cL h'
  |typ b=>cases zCC h'
theorem DenL.inj(I:Inv X pins σ H s)(wd:Wd X.g α S H): ∀{ds fs:List MV}{vs:List V},DenL X.K α H ds vs->DenL X.K α H fs vs->ds=fs
 |[],fs,vs,h,h'=>by
  cases h.isnil
  cases fs with
  |nil=>rfl
  |cons f fs=>obtain⟨_,_,e,_⟩:=h'.uncons;cases e
 |d::ds,fs,vs,h,h'=>by
  obtain⟨v,r,rfl,a,l⟩:=h.uncons
  cases fs with
  |nil=>cases h'.isnil
  |cons f fs=>
   obtain⟨v',r',e,a',l'⟩:=h'.uncons
   cases e
   rw [Den.inj I wd a a',DenL.inj I wd l l']
end
end
inductive LexR(A:Around)(s:Shared):List Value->List Value->Bool->Prop
 |nn:LexR A s [] [] false
 |nc (x xs):LexR A s [] (x::xs) true
 |cn (y ys):LexR A s (y::ys) [] false
 |eq {y x ys xs k}:SeqAt.EqAt A s y x true->LexR A s ys xs k->LexR A s (y::ys) (x::xs) k
 |ne {y x ys xs k}:SeqAt.EqAt A s y x false->(∀(prog:Program)(w:World)(E Q:Value->Shared->Prop),Q (.bool k) s->wpAny (model prog w) A (richCompare .Lt y x) Q E s)->LexR A s (y::ys) (x::xs) k
section
open PySem.SeqAt
open PySem.AutoSeq1 (wpAny_loadPart')
open PySem.MeetsSeq PySem.MeetsSeq2 PySem.MeetsSeq3
theorem yCL(l b:Addr)(its its2:Array Value)(n n2:Nat)(dd dd2:Option Addr)(sl sl2:Array (Option Value))(k:Bool):
  Meets (Builtin.«tuple.__lt__» ⟨[.ref l,.ref b],[]⟩)
   (λA R s=>s.heap.get? l=some {cls:=.type "tuple",dict:=dd,data:=.seq its n,slots:=sl}/\s.heap.get? b=some {cls:=.type "tuple",dict:=dd2,data:=.seq its2 n2,slots:=sl2}/\
    LexR A.in1 s its.toList its2.toList k/\R (.ok (.ret (.bool k))) s):=
 .of_wp λprog w A R s h=>by
  obtain⟨hp,g,d,tk,os⟩:=s;obtain⟨hl,hb,hx,h⟩:=h
  have f2:=AutoSeq1.sub_tuple_tuple
  wp_walk using wpAny_loadPart' hl,wpAny_loadPart' hb,wpAny_forIn_list _ (λrest b s'=>b.1=none/\s'=⟨hp,g,d,tk,os⟩/\ ∃(vs ws:List Value),rest=vs.zip ws/\
   LexR A.in1 ⟨hp,g,d,tk,os⟩ vs ws k/\vs.length+its2.size=ws.length+its.size) _
  case turn=>
   rintro⟨y,x⟩ rest b s' ⟨hb',rfl,vs,ws,hz,hlx,hlen⟩
   cases hlx with
   |nn=>rw [List.zip_nil_left]at hz;cases hz
   |nc x xs=>rw [List.zip_nil_left]at hz;cases hz
   |cn y ys=>rw [List.zip_nil_right]at hz;cases hz
   |@eq y' x' ys xs k' he hr=>
    rw [zip_cons_cons]at hz
    injection hz with hyx hrest
    injection hyx with hy hx
    subst hy hx
    simp only [lC0]at hlen
    refine wB0 (he prog w _ _ ?_)
    wp_walk
    exact⟨rfl,rfl,_,_,hrest,hr,by omega⟩
   |@ne y' x' ys xs k' he hr=>
    rw [zip_cons_cons]at hz
    injection hz with hyx hrest
    injection hyx with hy hx
    subst hy hx
    refine wB0 (he prog w _ _ ?_)
    have hri:=hr prog w
    wp_walk using hri
    exact⟨_,rfl,by simpa using h⟩
  case fin=>
   rintro⟨b1,b2⟩ s' ⟨hb',rfl,vs,ws,hz,hlx,hlen⟩
   simp only at hb'
   subst hb'
   have hv:k=decide (its.size<its2.size):=by
    cases hlx with
    |nn=>simp only [length_nil]at hlen;exact(dF0 (by omega)).symm
    |nc x xs=>simp only [length_nil,lC0]at hlen;exact(dT0 (by omega)).symm
    |cn y ys=>simp only [length_nil,lC0]at hlen;exact(dF0 (by omega)).symm
    |eq he hr=>rw [zip_cons_cons]at hz;cases hz
    |ne he hr=>rw [zip_cons_cons]at hz;cases hz
   rw [hv]at h
   wp_walk
   exact⟨_,rfl,by simpa [Builtin.Tuple.tupleCompareSizes]using h⟩
  case h=>
   exact⟨rfl,rfl,its.toList,its2.toList,rfl,hx,by simp;omega⟩
end
theorem yJR{A:Around}{s:Shared}{l b:Addr}{its its2:Array Value}{k:Bool}(hl:IsTup s.heap l its)(hb:IsTup s.heap b its2)(hx:LexR A.in1 s its.toList its2.toList k)(hu:A.units<cLine)(prog:Program)(w:World)(E Q:Value->Shared->Prop)(h:Q (.bool k) s):
  wpAny (model prog w) A (richCompare .Lt (.ref l) (.ref b)) Q E s:=by
 obtain⟨⟨cls,dd,data,sl⟩,ho,hc,n,hd⟩:=id hl
 obtain⟨⟨cls2,dd2,data2,sl2⟩,ho2,hc2,n2,hd2⟩:=id hb
 simp only at hc hd hc2 hd2
 subst hc hd hc2 hd2
 exact richCompare_meets_room (op:=.Lt) ⟨_,ho,rfl⟩ ⟨_,ho2,rfl⟩ PySem.F.slot_tuple_lt PySem.F.entry_tuple_lt (PySem.F.args_tuple_lt_2 _ _) (yCL l b its its2 n n2 dd dd2 sl sl2 k)
  ⟨ho,ho2,hx,show Value.bool k≠Value.notImplemented/\Q (.bool k) s from⟨(λx=>nomatch x),h⟩⟩ hu
def yJS(e l:MV->MV->Option Bool):List MV->List MV->Option Bool
 |[],[]=>some false
 |[],_::_=>some true
 |_::_,[]=>some false
 |d::ds,f::fs=>(e d f).bind λk=>if k=true then yJS e l ds fs else l d f
def ltv(S:Sto):Nat->MV->MV->Option Bool
 |0,_,_=>none
 |n+1,.int i,.int j=>some (decide (i<j))
 |n+1,.str x,.str y=>some (decide (x<y))
 |n+1,.tup ds,.tup es=>yJS (eqv S n) (ltv S n) ds es
 |_,_,_=>none
section
variable{X:Cx}{α:List Addr}{S:Sto}{H:Hp}{pins:List (Addr×Obj)}{σ:St}{s:Shared}
theorem yRH{A:Around}{e l:MV->MV->Option Bool}(he: ∀d f x y u v k,Den X.K α H d x->Den X.K α H f y->RelV x u->RelV y v->e d f=some k->SeqAt.EqAt A s u v k)
  (hl: ∀d f x y u v k,Den X.K α H d x->Den X.K α H f y->RelV x u->RelV y v->l d f=some k-> ∀(prog:Program)(w:World)(E Q:Value->Shared->Prop),Q (.bool k) s->wpAny (model prog w) A (richCompare .Lt u v) Q E s):
  ∀{ds fs:List MV}{vs us:List V}{its its2:List Value}{k:Bool},DenL X.K α H ds vs->DenL X.K α H fs us->Vals vs its->Vals us its2->yJS e l ds fs=some k->LexR A s its its2 k
 |[],[],_,_,_,_,k,l1,l2,r1,r2,h=>by
  cases l1.isnil;cases l2.isnil;cases r1;cases r2;cases h;exact .nn
 |[],f::fs,_,_,_,_,k,l1,l2,r1,r2,h=>by
  cases l1.isnil
  obtain⟨v,r,rfl,a,l⟩:=l2.uncons
  cases r1
  cases r2 with
  |cons a b=>cases h;exact .nc _ _
 |d::ds,[],_,_,_,_,k,l1,l2,r1,r2,h=>by
  cases l2.isnil
  obtain⟨v,r,rfl,a,l⟩:=l1.uncons
  cases r2
  cases r1 with
  |cons a b=>cases h;exact .cn _ _
 |d::ds,f::fs,_,_,_,_,k,l1,l2,r1,r2,h=>by
  obtain⟨v,r,rfl,a,l1'⟩:=l1.uncons
  obtain⟨v2,r3,rfl,a2,l2'⟩:=l2.uncons
  cases r1 with
  |cons b1 c1=>
   cases r2 with
   |cons b2 c2=>
    unfold yJS at h
    cases z:e d f with
    |none=>rw [z]at h;cases h
    |some kk=>
     rw [z]at h
     have h:(if kk=true then yJS e l ds fs else l d f)=some k:=h
     cases kk with
     |true=>
      rw [iP rfl]at h
      exact .eq (he d f _ _ _ _ _ a a2 b1 b2 z) (yRH he hl l1' l2' c1 c2 h)
     |false=>
      rw [iN0 xF0]at h
      exact .ne (he d f _ _ _ _ _ a a2 b1 b2 z) (hl d f _ _ _ _ _ a a2 b1 b2 h)
theorem yJT(I:Inv X pins σ H s)(wd:Wd X.g α S H): ∀(n:Nat)(A:Around)(d f:MV)(x y:V)(u v:Value)(k:Bool),A.units+n<cLine->Den X.K α H d x->Den X.K α H f y->RelV x u->RelV y v->ltv S n d f=some k->
  ∀(prog:Program)(w:World)(E Q:Value->Shared->Prop),Q (.bool k) s->wpAny (model prog w) A (richCompare .Lt u v) Q E s
 |0,_,_,_,_,_,_,_,_,_,_,_,_,_,h=>by cases h
 |n+1,A,d,f,x,y,u,v,k,hu,h1,h2,rx,ry,h=>by
  intro prog w E Q hq
  unfold ltv at h
  split at h
  ·cases h
  ·cases h
   cases cK h1;cases cK h2
   obtain⟨t,rfl⟩:=rx
   obtain⟨t',rfl⟩:=ry
   exact(PyProof.Rows.lt_int hq:wpAny (model prog w) A (compareOp .Lt _ _) Q E s)
  ·cases h
   cases cL h1;cases cL h2
   obtain⟨t,rfl⟩:=rx
   obtain⟨t',rfl⟩:=ry
   refine(PySem.P.lt_str ?_:wpAny (model prog w) A (compareOp .Lt _ _) Q E s)
   rw [zHY,zHY]
   exact hq
  ·rename_i n' ds es hn
   obtain⟨a,vs,rfl,s1,l1⟩:=bD h1
   obtain⟨b,us,rfl,s2,l2⟩:=bD h2
   cases rx;cases ry
   obtain⟨its,r1,pt,_⟩:=I.tuple s1
   obtain⟨its2,r2,pt2,_⟩:=I.tuple s2
   cases hn
   refine yJR pt pt2 ?_ (by omega) prog w E Q hq
   exact yRH (λd f x y u v k a b c d' e=>zXQ I wd n A.in1 d f x y u v k (show A.units+1+n<cLine by omega) a b c d' e)
    (λd f x y u v k a b c d' e=>yJT I wd n A.in1 d f x y u v k (show A.units+1+n<cLine by omega) a b c d' e) l1 l2 r1 r2 h
  ·cases h
end
section
variable{X:Cx}{W:XW}{a b c e:Expr}{es:List Expr}{f g h:Rho->Sto->R Er}{af:Rho->Sto->R (List Er)}{pos:Pos}
def iiF(C:Int->Int->Prop)[∀i j,Decidable (C i j)](g:Int->Int->Int):Er->Er->Sto->R Er
 |.val (.int i),.val (.int j),S=>if C i j then .ok (.val (.int (g i j))) S else .no
 |_,_,_=>.no
def ibF(g:Int->Int->Bool):Er->Er->Sto->R Er
 |.val (.int i),.val (.int j),S=>.ok (.val (.bl (g i j))) S
 |_,_,_=>.no
theorem yCM{C C':Int->Int->Prop}[∀i j,Decidable (C i j)]{g:Int->Int->Int}(h: ∀i j,C i j->C' i j):Op2 X W (rI C' λi j=>.int (g i j)) (iiF C g):=by
 intro p q x y α S H Q wd dp dq post
 unfold iiF at post
 split at post
 ·split at post
  ·rename_i hc
   exact⟨_,_,xU dp,xU dq,h _ _ hc,Post.val post wd (xV _)⟩
  ·exact post.elim
 ·exact post.elim
theorem yOG{g:Int->Int->Int}:Op2 X W (rI0 λi j=>.int (g i j)) (iiF (λ_ _=>True) g):=by
 intro p q x y α S H Q wd dp dq post
 unfold iiF at post
 split at post
 ·rw [iP trivial]at post
  exact⟨_,_,xU dp,xU dq,Post.val post wd (xV _)⟩
 ·exact post.elim
theorem yTO{g:Int->Int->Bool}:Op2 X W (rI0 λi j=>.bl (g i j)) (ibF g):=by
 intro p q x y α S H Q wd dp dq post
 unfold ibF at post
 split at post
 ·exact⟨_,_,xU dp,xU dq,Post.val post wd (wT _)⟩
 ·exact post.elim
abbrev yCN:=iiF (λ_ _=>True) λi j=>i - j
theorem zTB(ha:PEm X W a f)(hb:PEm X W b g):PEm X W (.BinOp a .Sub b pos) (λρ S=>(f ρ S).bind λp S1=>(g ρ S1).bind λq S2=>yCN p q S2):=zSX ySQ yOG ha hb
def yHG(_ j:Int):Prop:=0<j/\j.natAbs.log2<9000
instance(i j:Int):Decidable (yHG i j):=inferInstanceAs (Decidable (_/\_))
abbrev zBK:=iiF yHG λi j=>i / j
theorem yJU:OpR X (binaryOp .FloorDiv) (rI yHG λi j=>.int (i / j)):=opI λi j _ _ _ _ _ hc q=>by
 have e:i.fdiv j=i / j:=Int.fdiv_eq_ediv_of_nonneg i (Int.le_of_lt hc.1)
 refine floordiv_int (by have:=hc.1;omega) ?_ (.inl (PyProof.noPylong_of_log2 hc.2))
 rw [e]
 exact q
theorem wW(ha:PEm X W a f)(hb:PEm X W b g):PEm X W (.BinOp a .FloorDiv b pos) (λρ S=>(f ρ S).bind λp S1=>(g ρ S1).bind λq S2=>zBK p q S2):=zSX yJU (yCM λi j h=>h) ha hb
abbrev gP:=iiF (λ_ j=>0<j) λi j=>i % j
theorem yX(ha:PEm X W a f)(hb:PEm X W b g):PEm X W (.BinOp a .Mod b pos) (λρ S=>(f ρ S).bind λp S1=>(g ρ S1).bind λq S2=>gP p q S2):=zSX ySR (yCM λi j h=>h) ha hb
def yHH(i j:Int):Prop:=0<=j/\(Builtin.Int.intBits i:Int) * j<=2 ^ 27
instance(i j:Int):Decidable (yHH i j):=inferInstanceAs (Decidable (_/\_))
abbrev zFI:=iiF yHH λi j=>i ^ j.toNat
theorem yOH:OpR X (binaryOp .Pow) (rI yHH λi j=>.int (i ^ j.toNat)):=opI λ_ _ _ _ _ _ _ hc q=>pow_int hc.1 hc.2 q
theorem zAK(ha:PEm X W a f)(hb:PEm X W b g):PEm X W (.BinOp a .Pow b pos) (λρ S=>(f ρ S).bind λp S1=>(g ρ S1).bind λq S2=>zFI p q S2):=zSX yOH (yCM λi j h=>h) ha hb
def shlC(i j:Int):Prop:=0<=j/\j<=1000000/\i.natAbs<2 ^ 64
instance(i j:Int):Decidable (shlC i j):=inferInstanceAs (Decidable (_/\_/\_))
def usubF:Er->Sto->R Er
 |.val (.int i),S=>.ok (.val (.int (-i))) S
 |_,_=>.no
def lsW(S:Sto):Er->Option (List MV)
 |.new ds=>some ds
 |.val (.loc l)=>match S[l]? with
  |some (.lst ds)=>some ds
  |_=>none
 |_=>none
theorem yCO{α:List Addr}{S:Sto}{H:Hp}(wd:Wd X.g α S H){r:Er}{ds:List MV}{x:V}(e:lsW S r=some ds)(d:DenX X.K α H r x): ∃a vs,x=.ref a/\H a=some (.lst vs)/\DenL X.K α H ds vs:=by
 unfold lsW at e
 split at e
 ·cases e
  obtain⟨b,vs,rfl,h,_,l⟩:=d
  exact⟨b,vs,rfl,h,l⟩
 ·rename_i n
  obtain⟨a,rfl,h⟩:=zDF d
  split at e
  ·rename_i es hS
   cases e
   obtain⟨vs,h1,l⟩:=wd.obj n a _ h hS
   exact⟨a,vs,rfl,h1,l⟩
  ·cases e
 ·cases e
def yEW(p q:Er)(S:Sto):R Er:=match lsW S p,lsW S q with
 |some x,some y=>if x.length+y.length<=sizeLine then .ok (.new (x++y)) S else .no
 |_,_=>.no
def xN:Er->Er->Sto->R Er
 |.val (.int i),.val (.int j),S=>.ok (.val (.int (i+j))) S
 |.val (.str x),.val (.str y),S=>if x.length+y.length<=sizeLine then .ok (.val (.str (x++y))) S else .no
 |.val (.tup x),.val (.tup y),S=>if x.length+y.length<=sizeLine then .ok (.val (.tup (x++y))) S else .no
 |p,q,S=>yEW p q S
theorem yJV:OpR X (binaryOp .Add) (λx y H Q=> ∃a b ys,x=.ref a/\y=.ref b/\SqT X.K H a []/\SqT X.K H b ys/\Q (.ref b) H):=by
 intro pins s σ H x y v u Q I rx ry h
 obtain⟨a,b,ys,rfl,rfl,ha,hb,q⟩:=h
 cases rx
 cases ry
 obtain⟨its,r1,p1,_⟩:=I.tuple ha
 obtain⟨its2,r2,p2,_⟩:=I.tuple hb
 have e0:its=[]:=r1.nil_iff.mpr rfl
 subst e0
 obtain⟨⟨cls,dd,data,sl⟩,ho,hc,n,hd⟩:=id p1
 obtain⟨⟨cls2,dd2,data2,sl2⟩,ho2,hc2,n2,hd2⟩:=id p2
 simp only at hc hd hc2 hd2
 subst hc hd hc2 hd2
 exact concat_meets ⟨_,ho,rfl⟩ ⟨_,ho2,rfl⟩ noFill_tuple_add seq_tuple_add PySem.F.slot_tuple_add PySem.F.entry_tuple_add (PySem.F.args_tuple_add_2 _ _)
  (tuple_addW0 a b _ _ n n2 dd dd2 sl sl2 rfl) ⟨ho,ho2,⟨.ref b,H,I,rfl,q⟩⟩
theorem yL(ha:PEm X W a f)(hb:PEm X W b g):PEm X W (.BinOp a .Add b pos) (λρ S=>(f ρ S).bind λp S1=>(g ρ S1).bind λq S2=>xN p q S2):=by
 refine zSX (ySP.or (yBW.or (yTB.or (yNR.or yJV)))) ?_ ha hb
 intro p q x y α S H Q wd dp dq post
 unfold xN at post
 split at post
 ·exact .inl ⟨_,_,xU dp,xU dq,Post.val post wd (xV _)⟩
 ·split at post
  ·rename_i hz
   refine .inr (.inl ⟨_,_,jG dp,jG dq,by rw [cB,cB];exact hz,?_⟩)
   rw [yNX]
   exact Post.val post wd (zCW _)
  ·exact post.elim
 ·split at post
  ·rename_i xx yy hz
   obtain⟨a1,vs,rfl,s1,l1⟩:=cN dp
   obtain⟨a2,us,rfl,s2,l2⟩:=cN dq
   by_cases h0:vs=[]
   ·subst h0
    have e0:=l1.length
    refine .inr (.inr (.inr (.inr ⟨a1,a2,us,rfl,rfl,s1,s2,?_⟩)))
    have:xx=[]:=by cases xx with |nil=>rfl|cons _ _=>simp at e0
    subst this
    exact Post.val post wd (zBC s2 l2)
   ·refine .inr (.inr (.inr (.inl ⟨a1,a2,vs,us,rfl,rfl,s1,s2,h0,by rw [l1.length,l2.length];exact hz,λh1=>?_,λh1 p hp=>Post.newt post wd hp (l1.append l2)⟩)))
    subst h1
    have e0:=l2.length
    have:yy=[]:=by cases yy with |nil=>rfl|cons _ _=>simp at e0
    subst this
    rw [aN]at post
    exact Post.val post wd (zBC s1 l1)
  ·exact post.elim
 ·unfold yEW at post
  split at post
  ·rename_i ds1 ds2 e1 e2
   split at post
   ·rename_i hz
    obtain⟨a1,vs,rfl,h1,l1⟩:=yCO wd e1 dp
    obtain⟨a2,us,rfl,h2,l2⟩:=yCO wd e2 dq
    exact .inr (.inr (.inl ⟨a1,a2,vs,us,rfl,rfl,h1,h2,by rw [l1.length,l2.length];exact hz,λp hp=>Post.newl post wd hp (l1.append l2)⟩))
   ·exact post.elim
  ·exact post.elim
def mulC(i j:Int):Prop:=(-(2 ^ 64)<i/\i<2 ^ 64)\/(-(2 ^ 64)<j/\j<2 ^ 64)\/(i.natAbs.log2<4000/\j.natAbs.log2<4000)
theorem yEX{i:Int}(h:i.natAbs.log2<4000):Builtin.Int.intBits i<=2 ^ 20:=by
 have e:(2:Nat) ^ 20=1048576:=by decide
 unfold Builtin.Int.intBits
 split<;>omega
theorem mulC.ok{i j:Int}(h:mulC i j):IntMulOk i j:=by
 rcases h with h|h|⟨h1,h2⟩
 ·exact CMul.ok (.inl h)
 ·exact CMul.ok (.inr h)
 ·exact .of_bits (yEX h1) (yEX h2)
theorem yOI{X:Cx}:OpR X (binaryOp .Mult) (rI mulC λi j=>.int (i * j)):=opI λ_ _ _ _ _ _ _ hc q=>mul_int q hc.ok
instance(i j:Int):Decidable (mulC i j):=inferInstanceAs (Decidable (_\/_\/_))
def yRI(p:Er)(k:Int)(S:Sto):R Er:=match lsW S p with
 |some x=>if 0<=k/\k<100000/\x.length * k.toNat<=sizeLine then .ok (.new (List.replicate k.toNat x).flatten) S else .no
 |none=>.no
def zVC:Er->Er->Sto->R Er
 |.val (.int i),.val (.int j),S=>if mulC i j then .ok (.val (.int (i * j))) S else .no
 |.val (.str x),.val (.int k),S=>if 0<=k/\k<1000/\x.length<=1000 then .ok (.val (.str (zSP x k))) S else .no
 |p,.val (.int k),S=>yRI p k S
 |_,_,_=>.no
theorem DenL.rep{K:PySem.W.Frag}{α:List Addr}{H:Hp}{ds:List MV}{vs:List V}(l:DenL K α H ds vs): ∀k:Nat,DenL K α H (List.replicate k ds).flatten (List.replicate k vs).flatten
 |0=>wU
 |k+1=>by rw [replicate_succ,flatten_cons,replicate_succ,flatten_cons];exact l.append (DenL.rep l k)
theorem zTC(ha:PEm X W a f)(hb:PEm X W b g):PEm X W (.BinOp a .Mult b pos) (λρ S=>(f ρ S).bind λp S1=>(g ρ S1).bind λq S2=>zVC p q S2):=by
 refine zSX (yOI.or (yCF.or yTC)) ?_ ha hb
 intro p q x y α S H Q wd dp dq post
 unfold zVC at post
 split at post
 ·split at post
  ·rename_i hc
   exact .inl ⟨_,_,xU dp,xU dq,hc,Post.val post wd (xV _)⟩
  ·exact post.elim
 ·split at post
  ·rename_i hc
   exact .inr (.inl ⟨_,_,jG dp,xU dq,hc.1,hc.2.1,hc.2.2,Post.val post wd (zCW _)⟩)
  ·exact post.elim
 ·unfold yRI at post
  split at post
  ·rename_i ds e1
   split at post
   ·rename_i hc
    obtain⟨a1,vs,rfl,h1,l1⟩:=yCO wd e1 dp
    exact .inr (.inr ⟨a1,_,vs,rfl,xU dq,h1,by omega,by omega,by rw [l1.length];exact hc.2.2,λp hp=>Post.newl post wd hp (l1.rep _)⟩)
   ·exact post.elim
  ·exact post.elim
 ·exact post.elim
def yN:Nat:=40
def eqF(p q:Er)(S:Sto):R Er:=match zPY S yN p q with
 |some k=>.ok (.val (.bl k)) S
 |none=>.no
def neF(p q:Er)(S:Sto):R Er:=match zPY S yN p q with
 |some k=>.ok (.val (.bl !k)) S
 |none=>.no
theorem yJW(hu:X.A.units+64<cLine):OpR X (compareOp .Eq) (λx y H Q=> ∃α S p q k,Wd X.g α S H/\DenX X.K α H p x/\DenX X.K α H q y/\zPY S yN p q=some k/\Q (.bl k) H):=by
 intro pins s σ H x y v u Q I rx ry h
 obtain⟨α,S,p,q,k,wd,dp,dq,e,hq⟩:=h
 exact yTM I wd yN (by unfold yN;omega) dp dq rx ry e X.prog X.w _ _ ⟨.bl k,H,I,rfl,hq⟩
theorem yTP(hu:X.A.units+64<cLine):OpR X (compareOp .NotEq) (λx y H Q=> ∃α S p q k,Wd X.g α S H/\DenX X.K α H p x/\DenX X.K α H q y/\zPY S yN p q=some k/\Q (.bl (!k)) H):=by
 intro pins s σ H x y v u Q I rx ry h
 obtain⟨α,S,p,q,k,wd,dp,dq,e,hq⟩:=h
 exact yTN I wd yN (by unfold yN;omega) dp dq rx ry e X.prog X.w _ _ ⟨.bl (!k),H,I,rfl,hq⟩
theorem yEY:Op2 X W (λx y H Q=> ∃α S p q k,Wd X.g α S H/\DenX X.K α H p x/\DenX X.K α H q y/\zPY S yN p q=some k/\Q (.bl k) H) eqF:=by
 intro p q x y α S H Q wd dp dq post
 unfold eqF at post
 split at post
 ·rename_i k e
  exact⟨α,S,p,q,k,wd,dp,dq,e,Post.val post wd (wT _)⟩
 ·exact post.elim
theorem yOJ:Op2 X W (λx y H Q=> ∃α S p q k,Wd X.g α S H/\DenX X.K α H p x/\DenX X.K α H q y/\zPY S yN p q=some k/\Q (.bl (!k)) H) neF:=by
 intro p q x y α S H Q wd dp dq post
 unfold neF at post
 split at post
 ·rename_i k e
  exact⟨α,S,p,q,k,wd,dp,dq,e,Post.val post wd (wT _)⟩
 ·exact post.elim
theorem zEW(hu:X.A.units+64<cLine)(ha:PEm X W a f)(hb:PEm X W b g):PEm X W (.Compare a [.Eq] [b] pos) (λρ S=>(f ρ S).bind λp S1=>(g ρ S1).bind λq S2=>eqF p q S2):=zXK (yJW hu) yEY ha hb
theorem kF(hu:X.A.units+64<cLine)(ha:PEm X W a f)(hb:PEm X W b g):PTm X W (.Compare a [.Eq] [b] pos) (λρ S=>((f ρ S).bind λp S1=>(g ρ S1).bind λq S2=>eqF p q S2).bind asB):=zMY (yJW hu) yEY ha hb
theorem zKE(hu:X.A.units+64<cLine)(ha:PEm X W a f)(hb:PEm X W b g):PTm X W (.Compare a [.NotEq] [b] pos) (λρ S=>((f ρ S).bind λp S1=>(g ρ S1).bind λq S2=>neF p q S2).bind asB):=zMY (yTP hu) yOJ ha hb
def ltF:Er->Er->Sto->R Er
 |.val d,.val f,S=>match ltv S yN d f with
  |some k=>.ok (.val (.bl k)) S
  |none=>.no
 |_,_,_=>.no
theorem zTD(hu:X.A.units+64<cLine):OpR X (compareOp .Lt) (λx y H Q=> ∃α S d f k,Wd X.g α S H/\Den X.K α H d x/\Den X.K α H f y/\ltv S yN d f=some k/\Q (.bl k) H):=by
 intro pins s σ H x y v u Q I rx ry h
 obtain⟨α,S,d,f,k,wd,dp,dq,e,hq⟩:=h
 exact yJT I wd yN X.A d f x y v u k (by unfold yN;omega) dp dq rx ry e X.prog X.w _ _ ⟨.bl k,H,I,rfl,hq⟩
theorem zOL:Op2 X W (λx y H Q=> ∃α S d f k,Wd X.g α S H/\Den X.K α H d x/\Den X.K α H f y/\ltv S yN d f=some k/\Q (.bl k) H) ltF:=by
 intro p q x y α S H Q wd dp dq post
 unfold ltF at post
 split at post
 ·split at post
  ·rename_i k e
   exact⟨α,S,_,_,k,wd,dp,dq,e,Post.val post wd (wT _)⟩
  ·exact post.elim
 ·exact post.elim
theorem yRJ(hu:X.A.units+64<cLine)(ha:PEm X W a f)(hb:PEm X W b g):PEm X W (.Compare a [.Lt] [b] pos) (λρ S=>(f ρ S).bind λp S1=>(g ρ S1).bind λq S2=>ltF p q S2):=zXK (zTD hu) zOL ha hb
theorem yRK(hu:X.A.units+64<cLine)(ha:PEm X W a f)(hb:PEm X W b g):PTm X W (.Compare a [.Lt] [b] pos) (λρ S=>((f ρ S).bind λp S1=>(g ρ S1).bind λq S2=>ltF p q S2).bind asB):=zMY (zTD hu) zOL ha hb
abbrev gtF:=ibF λi j=>decide (j<i)
theorem yEZ(ha:PEm X W a f)(hb:PEm X W b g):PTm X W (.Compare a [.Gt] [b] pos) (λρ S=>((f ρ S).bind λp S1=>(g ρ S1).bind λq S2=>gtF p q S2).bind asB):=zMY op_gt yTO ha hb
def leF:Er->Er->Sto->R Er
 |.val (.int i),.val (.int j),S=>.ok (.val (.bl (decide (i<=j)))) S
 |.val (.str x),.val (.str y),S=>.ok (.val (.bl (!decide (y<x)))) S
 |_,_,_=>.no
theorem zTE:Op2 X W (λx y H Q=>rI0 (λi j=>.bl (decide (i<=j))) x y H Q\/(∃i j,x=.str i/\y=.str j/\Q (.bl (!decide (j.cps.toList<i.cps.toList))) H)) leF:=by
 intro p q x y α S H Q wd dp dq post
 unfold leF at post
 split at post
 ·exact .inl ⟨_,_,xU dp,xU dq,Post.val post wd (wT _)⟩
 ·refine .inr ⟨_,_,jG dp,jG dq,?_⟩
  rw [zHY,zHY]
  exact Post.val post wd (wT _)
 ·exact post.elim
theorem zXR(ha:PEm X W a f)(hb:PEm X W b g)(hc:PEm X W c h)(hm:lastMarks [.LtE,.LtE] [b,c]=false:=by with_unfolding_all rfl):PEm X W (.Compare a [.LtE,.LtE] [b,c] pos) (λρ S=>(f ρ S).bind λp S1=>(g ρ S1).bind λq S2=>chF leF leF p q S2 λS3=>h ρ S3):=zSY (zZJ.or zGX) (zZJ.or zGX) zTE zTE ha hb hc hm
theorem yOK(ha:PEm X W a f)(hb:PEm X W b g)(hc:PEm X W c h)(hm:lastMarks [.LtE,.LtE] [b,c]=false:=by with_unfolding_all rfl):PTm X W (.Compare a [.LtE,.LtE] [b,c] pos) (λρ S=>((f ρ S).bind λp S1=>(g ρ S1).bind λq S2=>chF leF leF p q S2 λS3=>h ρ S3).bind asB):=yJJ (zZJ.or zGX) (zZJ.or zGX) zTE zTE ha hb hc hm
theorem yFA(hu:X.A.units+64<cLine)(ha:PEm X W a f)(hb:PEm X W b g)(hc:PEm X W c h)(hm:lastMarks [.LtE,.Lt] [b,c]=false:=by with_unfolding_all rfl):PEm X W (.Compare a [.LtE,.Lt] [b,c] pos) (λρ S=>(f ρ S).bind λp S1=>(g ρ S1).bind λq S2=>chF leF ltF p q S2 λS3=>h ρ S3):=zSY (zZJ.or zGX) (zTD hu) zTE zOL ha hb hc hm
def zXS:Er->Er->Sto->R Er
 |.val .non,.val .non,S=>.ok (.val (.bl true)) S
 |_,.val .non,S=>.ok (.val (.bl false)) S
 |_,_,_=>.no
theorem yJX{α:List Addr}{H:Hp}{p:Er}{x:V}(d:DenX X.K α H p x)(n:p≠.val .non):decide (x=.non)=false:=by
 cases p with
 |new ds=>obtain⟨b,vs,rfl,_⟩:=d;rfl
 |val m=>
  cases m with
  |non=>exact absurd rfl n
  |bl b=>cases zJK d;rfl
  |int b=>cases xU d;rfl
  |str b=>cases jG d;rfl
  |typ b=>cases yJI d;rfl
  |tup b=>obtain⟨_,_,rfl,_⟩:=cN d;rfl
  |scr b=>obtain⟨_,_,rfl,_⟩:=zSW d;rfl
  |loc b=>obtain⟨_,rfl,_⟩:=zDF d;rfl
theorem yFB:Op2 X W (λx y H Q=>y=.non/\Q (.bl (decide (x=.non))) H) zXS:=by
 intro p q x y α S H Q wd dp dq post
 unfold zXS at post
 split at post
 ·cases zMW dp;exact⟨zMW dq,Post.val post wd (wT _)⟩
 ·rename_i p' S' hn
  rw [yJX dp (λz=>by first |exact hn z|exact hn z rfl|exact hn _ z|exact hn rfl z)]
  exact⟨zMW dq,Post.val post wd (wT _)⟩
 ·exact post.elim
theorem pm_is(ha:PEm X W a f)(hb:PEm X W b g):PEm X W (.Compare a [.Is] [b] pos) (λρ S=>(f ρ S).bind λp S1=>(g ρ S1).bind λq S2=>zXS p q S2):=zXK yIQ yFB ha hb
theorem tm_is(ha:PEm X W a f)(hb:PEm X W b g):PTm X W (.Compare a [.Is] [b] pos) (λρ S=>((f ρ S).bind λp S1=>(g ρ S1).bind λq S2=>zXS p q S2).bind asB):=zMY yIQ yFB ha hb
def getL(ds:List MV):Er->Sto->R Er
 |.val (.int i),S=>match atI ds i with |some d=>.ok (.val d) S|none=>.no
 |_,_=>.no
def ixF:Er->Er->Sto->R Er
 |.val (.str x),.val (.int i),S=>if x.length<=sizeLine then match atI x i with |some c=>.ok (.val (.str [c])) S|none=>.no else .no
 |.val (.tup ds),q,S=>getL ds q S
 |p,q,S=>match dZ S p with |some ds=>getL ds q S|none=>.no
theorem yOL{K:PySem.W.Frag}{α:List Addr}{H:Hp}{ds:List MV}{vs:List V}{i:Int}{d:MV}(l:DenL K α H ds vs)(e:atI ds i=some d): ∃v,atI vs i=some v/\Den K α H d v:=by
 unfold atI at e ⊢
 rw [l.length]
 cases z:ixN ds.length i with
 |none=>rw [z]at e;cases e
 |some j=>
  rw [z]at e
  obtain⟨v,h1,h2⟩:=l.at (show ds[j]? =some d from e)
  exact⟨v,h1,h2⟩
theorem zO(ha:PEm X W a f)(hb:PEm X W b g)(hs:zXB b:=by exact λ_ _=>rfl):PEm X W (.Subscript a b pos) (λρ S=>(f ρ S).bind λp S1=>(g ρ S1).bind λq S2=>ixF p q S2):=by
 refine pm_ix ySY ?_ ha hb hs
 intro p q x y α S H Q wd dp dq post
 have key: ∀{ds:List MV}{vs:List V}{i:Int}{d:MV},DenL X.K α H ds vs->atI ds i=some d->Post X.g W α H (.ok (Er.val d) S) Q-> ∃v,atI vs i=some v/\Q v H:=λl e post=>by
  obtain⟨v,h1,h2⟩:=yOL l e
  exact⟨v,h1,Post.val post wd h2⟩
 unfold ixF at post
 split at post
 ·split at post
  ·rename_i hz
   split at post
   ·rename_i ch e
    refine .inr (.inr ⟨_,_,ch,jG dp,xU dq,by rw [cB];exact hz,by rw [zHY];exact e,?_⟩)
    exact Post.val post wd (zCW [ch])
   ·exact post.elim
  ·exact post.elim
 ·unfold getL at post
  split at post
  ·split at post
   ·rename_i d e
    obtain⟨a1,vs,rfl,s1,l1⟩:=cN dp
    obtain⟨v,h1,h2⟩:=key l1 e post
    exact .inr (.inl ⟨a1,vs,_,v,rfl,xU dq,s1,h1,h2⟩)
   ·exact post.elim
  ·exact post.elim
 ·split at post
  ·rename_i ds el
   unfold getL at post
   split at post
   ·split at post
    ·rename_i d e
     obtain⟨a1,vs,rfl,s1,l1⟩:=zOI rfl wd el dp
     obtain⟨v,h1,h2⟩:=key l1 e post
     exact .inl ⟨a1,vs,_,v,rfl,xU dq,s1,h1,h2⟩
    ·exact post.elim
   ·exact post.elim
  ·exact post.elim
end
theorem zVD{prog:Program}{w:World}{A:Around}{E:Value->Shared->Prop}{s:Shared}{t sl:Addr}{its:Array Value}{vl vu:Value}{lo hi:Option Int}{Q:Value->Shared->Prop}(ht:IsTup s.heap t its)(hs:s.heap.IsSliceOf sl vl vu .none)(pl:IsPart vl lo)(pu:IsPart vu hi)
  (h0:HT.sIx its.size 0 lo=0) (h1:HT.sIx its.size its.size hi=its.size) (h:Q (.ref t) s):wpAny (model prog w) A (getItem (.ref t) (.ref sl)) Q E s:=by
 have hTs:s.TypeIs (.ref sl) "slice":=by obtain⟨os,hos,hcs,_⟩:=id hs;exact⟨os,hos,hcs⟩
 have hTt:=ht.typeIs
 unfold getItem
 try with_reducible refine wpAny_holding ?_
 first |refine wB0 (wP0 ?_)|skip
 refine wB0 (wpAny_sequenceKey hTt (by decide) ?_)
 refine wB0 (wpAny_callSpecial?_slot (name:=Str.ofString "__getitem__") hTt PyProof.Rows.slot_tuple_getitem (wpAny_call_entry PyProof.Rows.slot_tuple_getitem hTt entry_tuple_getitem ?_ (args_tuple_getitem _ _)))
 show wpAny _ _ (Builtin.Tuple.tupleItemsOf (.ref t) >>= _) _ _ s
 refine wB0 (tupleItemsOf_ ht (wB0 (wpAny_typeOf hTs ?_)))
 rw [iP (by decide)]
 refine wB0 (HT.sliceApplied_gen hs pl pu ?_)
 show wpAny _ _ (if(((HT.sIx its.size 0 lo:Nat):Int)==0&&(1:Int)==1&&(HT.sIx its.size its.size hi - HT.sIx its.size 0 lo)==its.size)=true then _ else _) _ _ s
 rw [iP (by rw [h0,h1];simp)]
 unfold Builtin.Tuple.tupleIsExact
 refine wB0 (wB0 (wpAny_typeOf hTt (wP0 ?_)))
 rw [iP (by decide)]
 refine wB0 (wpAny_rule ?_)
 first
  |exact wP0 ⟨_,rfl,wP0 h⟩
  |exact wB0 (wP0 (wP0 ⟨_,rfl,wP0 h⟩))
  |exact wB0 (wP0 ⟨_,rfl,wP0 h⟩)
section
variable{X:Cx}{W:XW}{a b c e:Expr}{es:List Expr}{f g h:Rho->Sto->R Er}{af:Rho->Sto->R (List Er)}{pos:Pos}
theorem yOM:SlR X (λx lo hi H Q=> ∃a xs,x=.ref a/\SqT X.K H a xs/\HT.sIx xs.length 0 lo=0/\HT.sIx xs.length xs.length hi=xs.length/\Q (.ref a) H):=by
 intro pins s σ H x v vl vu lo hi sl Q I rx hs pl pu h
 obtain⟨a,xs,rfl,hx,h0,h1,q⟩:=h
 cases rx
 obtain⟨its,r,ht,hz⟩:=I.tuple hx
 have hlen:its.toArray.size=xs.length:=by rw [sA];exact r.length.symm
 exact⟨"tuple",_,PyProof.Rows.slot_tuple_getitem.lookup,ht.typeIs,zVD ht hs pl pu (by rw [hlen];exact h0) (by rw [hlen];exact h1) ⟨.ref a,H,I,rfl,q⟩⟩
def kY:Er->Option Int->Option Int->Sto->R Er
 |.val (.str x),lo,hi,S=>if x.length<=sizeLine then .ok (.val (.str (xF x lo hi))) S else .no
 |.val (.tup ds),lo,hi,S=>.ok (.val (.tup (xF ds lo hi))) S
 |p,lo,hi,S=>match dZ S p with |some ds=>.ok (.new (xF ds lo hi)) S|none=>.no
theorem yHI{α:Type}{ds:List α}{lo hi:Option Int}(h0:HT.sIx ds.length 0 lo=0)(h1:HT.sIx ds.length ds.length hi=ds.length):xF ds lo hi=ds:=by
 unfold xF
 rw [h0,h1]
 simp
theorem wX{lo hi:Option Expr}{lf hf:Rho->Sto->R (Option Int)}{p2:Pos}(ha:PEm X W a f)(hl:POm X W lo lf)(hh:POm X W hi hf):PEm X W (.Subscript a (.Slice lo hi none p2) pos) (λρ S=>(f ρ S).bind λp S1=>(lf ρ S1).bind λl S2=>(hf ρ S2).bind λu S3=>kY p l u S3):=by
 refine yJM (yTD.or (yNT.or (ySX.or yOM))) ?_ ha hl hh
 intro p lo hi x α S H Q wd dp post
 unfold kY at post
 split at post
 ·split at post
  ·rename_i hz
   exact .inl ⟨_,jG dp,hz,Post.val post wd (zCW _)⟩
  ·exact post.elim
 ·rename_i _ _ _ ds
  obtain⟨a1,vs,rfl,s1,l1⟩:=cN dp
  by_cases hw:HT.sIx vs.length 0 lo=0/\HT.sIx vs.length vs.length hi=vs.length
  ·have e:xF ds lo hi=ds:=yHI (by rw [<-l1.length];exact hw.1) (by rw [<-l1.length];exact hw.2)
   rw [e]at post
   exact .inr (.inr (.inr ⟨a1,vs,rfl,s1,hw.1,hw.2,Post.val post wd (zBC s1 l1)⟩))
  ·exact .inr (.inr (.inl ⟨a1,vs,rfl,s1,hw,λp hp=>Post.newt post wd hp (l1.cut lo hi)⟩))
 ·split at post
  ·rename_i ds el
   obtain⟨a1,vs,rfl,s1,l1⟩:=zOI rfl wd el dp
   exact .inr (.inl ⟨a1,vs,rfl,s1,λp hp=>Post.newl post wd hp (l1.cut lo hi)⟩)
  ·exact post.elim
end
section
variable{X:Cx}{W:XW}{a b c e:Expr}{es:List Expr}{f g h:Rho->Sto->R Er}{af:Rho->Sto->R (List Er)}{pos:Pos}
def zVE(S:Sto)(n:Nat)(d:MV):List MV->Option (List Bool)
 |[]=>some []
 |y::ys=>(eqv S n y d).bind λk=>(zVE S n d ys).map (k::·)
section
variable{α:List Addr}{S:Sto}{H:Hp}{pins:List (Addr×Obj)}{σ:St}{s:Shared}
noncomputable def yAB(X:Cx)(α:List Addr)(S:Sto)(H:Hp)(n:Nat)(d:MV)(u:Value):Bool:=open Classical in decide (∃y x,Den X.K α H y x/\RelV x u/\eqv S n y d=some true)
open Classical in
theorem yON(I:Inv X pins σ H s)(wd:Wd X.g α S H){n:Nat}{d y:MV}{x:V}{u:Value}{k:Bool}(dy:Den X.K α H y x)(r:RelV x u)(e:eqv S n y d=some k):yAB X α S H n d u=k:=by
 unfold yAB
 cases k with
 |true=>exact dT0 ⟨y,x,dy,r,e⟩
 |false=>
  refine dF0 λ⟨y',x',dy',r',e'⟩=>?_
  have ex:=r.inj r'
  subst ex
  rw [dy.inj I wd dy']at e
  rw [e]at e'
  cases e'
theorem zOM(I:Inv X pins σ H s)(wd:Wd X.g α S H){n:Nat}{A:Around}{d:MV}{x:V}{v:Value}(hu:A.units+n<cLine)(dd:Den X.K α H d x)(rx:RelV x v): ∀{ys:List MV}{vs:List V}{us:List Value}{bs:List Bool},DenL X.K α H ys vs->Vals vs us->zVE S n d ys=some bs->
  us.map (yAB X α S H n d)=bs/\ ∀u∈us,SeqAt.EqAt A s u v (yAB X α S H n d u)
 |[],_,_,bs,l,r,e=>by
  cases l.isnil;cases r;cases e
  exact⟨rfl,λu hu=>by cases hu⟩
 |y::ys,_,_,bs,l,r,e=>by
  obtain⟨v',r',rfl,dy,l'⟩:=l.uncons
  cases r with
  |cons r1 r2=>
   unfold zVE at e
   cases z:eqv S n y d with
   |none=>rw [z]at e;cases e
   |some k=>
    rw [z]at e
    cases z2:zVE S n d ys with
    |none=>simp [z2]at e
    |some cs=>
     simp [z2]at e
     subst e
     obtain⟨h1,h2⟩:=zOM I wd hu dd rx l' r2 z2
     have h3:=yON I wd dy r1 z
     refine⟨by rw [map_cons,h1,h3],λu hu'=>?_⟩
     rcases mC0.mp hu' with rfl|hu'
     ·rw [h3];exact zXQ I wd n A y d _ _ _ _ k hu dy dd r1 rx z
     ·exact h2 u hu'
end
theorem any_map{us:List Value}{f:Value->Bool}{bs:List Bool}(h:us.map f=bs):us.toArray.any f=bs.any id:=by
 subst h
 simp [List.any_map]
def itemsOf(S:Sto):Er->Option (List MV)
 |.val (.tup ds)=>some ds
 |r=>dZ S r
theorem zON{α:List Addr}{S:Sto}{H:Hp}(wd:Wd X.g α S H){r:Er}{ds:List MV}{x:V}(e:itemsOf S r=some ds)(d:DenX X.K α H r x): ∃a vs,x=.ref a/\(SqL X.K H a vs\/SqT X.K H a vs)/\DenL X.K α H ds vs:=by
 unfold itemsOf at e
 split at e
 ·cases e
  obtain⟨a,vs,rfl,s,l⟩:=cN d
  exact⟨a,vs,rfl,.inr s,l⟩
 ·obtain⟨a,vs,rfl,s,l⟩:=zOI rfl wd e d
  exact⟨a,vs,rfl,.inl s,l⟩
def zPZ(neg:Bool)(p q:Er)(S:Sto):R Er:=match p with
 |.val d=>match itemsOf S q with
  |some ys=>match zVE S yN d ys with
   |some bs=>.ok (.val (.bl (if neg=true then !bs.any id else bs.any id))) S
   |none=>.no
  |none=>.no
 |.new _=>.no
def inF(neg:Bool):Er->Er->Sto->R Er
 |.val (.str [c]),.val (.str y),S=>.ok (.val (.bl (if neg=true then !decide (c∈y)else decide (c∈y)))) S
 |p,q,S=>zPZ neg p q S
abbrev yJY(X:Cx)(neg:Bool):R2:=λx y H Q=> ∃α S d q ys bs,Wd X.g α S H/\Den X.K α H d x/\DenX X.K α H q y/\itemsOf S q=some ys/\zVE S yN d ys=some bs/\Q (.bl (if neg=true then !bs.any id else bs.any id)) H
theorem yTQ(hu:X.A.units+64<cLine):OpR X (compareOp .In) (yJY X false):=by
 intro pins s σ H x y v u Q I rx ry h
 obtain⟨α,S,d,q,ys,bs,wd,dd,dq,ei,ea,hq⟩:=h
 obtain⟨a,vs,rfl,sq,l⟩:=zON wd ei dq
 cases ry
 rcases sq with sq|sq
 ·obtain⟨its,r,pl,_⟩:=I.list sq
  obtain⟨h1,h2⟩:=zOM I wd (A:=X.A.in1) (by show X.A.units+1+yN<cLine;unfold yN;omega) dd rx l r ea
  refine SeqAt.in_listAt (yAB X α S H yN d) pl.isList (λw hw=>h2 w (by simpa using hw)) ⟨.bl _,H,I,rfl,?_⟩
  rw [any_map h1]
  exact hq
 ·obtain⟨its,r,pl,_⟩:=I.tuple sq
  obtain⟨h1,h2⟩:=zOM I wd (A:=X.A.in1) (by show X.A.units+1+yN<cLine;unfold yN;omega) dd rx l r ea
  refine SeqAt.in_tupleAt (yAB X α S H yN d) pl (λw hw=>h2 w (by simpa using hw)) ⟨.bl _,H,I,rfl,?_⟩
  rw [any_map h1]
  exact hq
theorem yHJ(hu:X.A.units+64<cLine):OpR X (compareOp .NotIn) (yJY X true):=by
 intro pins s σ H x y v u Q I rx ry h
 obtain⟨α,S,d,q,ys,bs,wd,dd,dq,ei,ea,hq⟩:=h
 obtain⟨a,vs,rfl,sq,l⟩:=zON wd ei dq
 cases ry
 rcases sq with sq|sq
 ·obtain⟨its,r,pl,_⟩:=I.list sq
  obtain⟨h1,h2⟩:=zOM I wd (A:=X.A.in1) (by show X.A.units+1+yN<cLine;unfold yN;omega) dd rx l r ea
  refine SeqAt.notIn_listAt (yAB X α S H yN d) pl.isList (λw hw=>h2 w (by simpa using hw)) ⟨.bl _,H,I,rfl,?_⟩
  rw [any_map h1]
  exact hq
 ·obtain⟨its,r,pl,_⟩:=I.tuple sq
  obtain⟨h1,h2⟩:=zOM I wd (A:=X.A.in1) (by show X.A.units+1+yN<cLine;unfold yN;omega) dd rx l r ea
  refine SeqAt.notIn_tupleAt (yAB X α S H yN d) pl (λw hw=>h2 w (by simpa using hw)) ⟨.bl _,H,I,rfl,?_⟩
  rw [any_map h1]
  exact hq
theorem zXT{neg:Bool}:Op2 X W (λx y H Q=>(∃i j,x=.str i/\y=.str j/\Q (.bl (if neg=true then !(!(Builtin.Str.occurrences j i 0 j.length 1).isEmpty)else !(Builtin.Str.occurrences j i 0 j.length 1).isEmpty)) H)\/yJY X neg x y H Q) (inF neg):=by
 intro p q x y α S H Q wd dp dq post
 unfold inF at post
 split at post
 ·refine .inl ⟨_,_,jG dp,jG dq,?_⟩
  rw [<-yNY,PySem.StrLaws.found_one,zHY]
  exact Post.val post wd (wT _)
 ·unfold zPZ at post
  split at post
  ·rename_i d _
   split at post
   ·rename_i ys ei
    split at post
    ·rename_i bs ea
     exact .inr ⟨α,S,_,q,ys,bs,wd,dp,dq,ei,ea,Post.val post wd (wT _)⟩
    ·exact post.elim
   ·exact post.elim
  ·exact post.elim
theorem OpR.imp{f:Value->Value->Sem Value}{r r':R2}(h:OpR X f r)(i: ∀x y H Q,r' x y H Q->r x y H Q):OpR X f r':=λpins s σ H x y v u Q I rx ry q=>h pins s σ H x y v u Q I rx ry (i x y H Q q)
theorem yJZ(hu:X.A.units+64<cLine):OpR X (compareOp .In) (λx y H Q=>(∃i j,x=.str i/\y=.str j/\Q (.bl (if(false:Bool)=true then !(!(Builtin.Str.occurrences j i 0 j.length 1).isEmpty)else !(Builtin.Str.occurrences j i 0 j.length 1).isEmpty)) H)\/yJY X false x y H Q):=
 OpR.imp (yGT.or (yTQ hu)) λx y H Q q=>q.imp (λq=>q) λq=>q
theorem yHK(hu:X.A.units+64<cLine):OpR X (compareOp .NotIn) (λx y H Q=>(∃i j,x=.str i/\y=.str j/\Q (.bl (if(true:Bool)=true then !(!(Builtin.Str.occurrences j i 0 j.length 1).isEmpty)else !(Builtin.Str.occurrences j i 0 j.length 1).isEmpty)) H)\/yJY X true x y H Q):=
 OpR.imp (zWY.or (yHJ hu)) λx y H Q q=>q.imp (λq=>q) λq=>q
theorem pm_in(hu:X.A.units+64<cLine)(ha:PEm X W a f)(hb:PEm X W b g)(hm:behindInMarks .In b=false:=by with_unfolding_all rfl):PEm X W (.Compare a [.In] [b] pos) (λρ S=>(f ρ S).bind λp S1=>(g ρ S1).bind λq S2=>inF false p q S2):=zXK (yJZ hu) zXT ha hb hm
theorem tm_in(hu:X.A.units+64<cLine)(ha:PEm X W a f)(hb:PEm X W b g)(hm:behindInMarks .In b=false:=by with_unfolding_all rfl):PTm X W (.Compare a [.In] [b] pos) (λρ S=>((f ρ S).bind λp S1=>(g ρ S1).bind λq S2=>inF false p q S2).bind asB):=zMY (yJZ hu) zXT ha hb hm
theorem zTF(hu:X.A.units+64<cLine)(ha:PEm X W a f)(hb:PEm X W b g)(hm:behindInMarks .NotIn b=false:=by with_unfolding_all rfl):PTm X W (.Compare a [.NotIn] [b] pos) (λρ S=>((f ρ S).bind λp S1=>(g ρ S1).bind λq S2=>inF true p q S2).bind asB):=zMY (yHK hu) zXT ha hb hm
theorem zRA{K:PySem.W.Frag}{α:List Addr}{H:Hp}{r:Er}{vs:List V}(d:ArgsX K α H [r] vs): ∃v,vs=[v]/\DenX K α H r v:=by
 cases d with
 |cons a l=>cases l;exact⟨_,rfl,a⟩
theorem yRL{K:PySem.W.Frag}{α:List Addr}{H:Hp}{r r':Er}{vs:List V}(d:ArgsX K α H [r,r'] vs): ∃v u,vs=[v,u]/\DenX K α H r v/\DenX K α H r' u:=by
 cases d with
 |cons a l=>obtain⟨u,rfl,l'⟩:=zRA l;exact⟨_,u,rfl,a,l'⟩
def xB:List Er->Sto->R Er
 |[.val (.str x)],S=>if x.length<=sizeLine then .ok (.val (.int x.length)) S else .no
 |[r],S=>match itemsOf S r with |some ds=>.ok (.val (.int ds.length)) S|none=>.no
 |_,_=>.no
theorem yO:zOG X W (λxs H Q=>(∃z,xs=[.str z]/\z.length<=sizeLine/\Q (.int z.length) H)\/ ∃p ys,xs=[.ref p]/\(SqL X.K H p ys\/SqT X.K H p ys)/\Q (.int ys.length) H) xB:=by
 intro rs vs α S H Q wd d post
 unfold xB at post
 split at post
 ·split at post
  ·rename_i hz
   obtain⟨v,rfl,dv⟩:=zRA d
   cases jG dv
   refine .inl ⟨_,rfl,by rw [cB];exact hz,?_⟩
   rw [cB]
   exact Post.val post wd (xV _)
  ·exact post.elim
 ·split at post
  ·rename_i ds e
   obtain⟨v,rfl,dv⟩:=zRA d
   obtain⟨a,us,rfl,sq,l⟩:=zON wd e dv
   refine .inr ⟨a,us,rfl,sq,?_⟩
   rw [l.length]
   exact Post.val post wd (xV _)
  ·exact post.elim
 ·exact post.elim
theorem zP:CallR X (.builtin "len") (λxs H Q=>(∃z,xs=[.str z]/\z.length<=sizeLine/\Q (.int z.length) H)\/ ∃p ys,xs=[.ref p]/\(SqL X.K H p ys\/SqT X.K H p ys)/\Q (.int ys.length) H):=zXE.or zXD
def yHL:List Er->Sto->R Er
 |[.val (.int i)],S=>.ok (.val (.int (if i<0 then -i else i))) S
 |_,_=>.no
theorem yKA:zOG X W (λxs H Q=> ∃i,xs=[.int i]/\Q (.int (if i<0 then -i else i)) H) yHL:=by
 intro rs vs α S H Q wd d post
 unfold yHL at post
 split at post
 ·obtain⟨v,rfl,dv⟩:=zRA d
  cases xU dv
  exact⟨_,rfl,Post.val post wd (xV _)⟩
 ·exact post.elim
def zHE:List MV->Option (List Bool)
 |[]=>some []
 |.bl b::r=>(zHE r).map (b::·)
 |_::_=>none
theorem zWH{K:PySem.W.Frag}{α:List Addr}{H:Hp}: ∀{ds:List MV}{bs:List Bool}{vs:List V},zHE ds=some bs->DenL K α H ds vs->vs=bs.map V.bl
 |[],_,_,e,l=>by cases e;exact l.isnil
 |d::r,bs,_,e,l=>by
  cases d with
  |bl b=>
   unfold zHE at e
   cases z:zHE r with
   |none=>rw [z]at e;cases e
   |some cs=>
    rw [z]at e
    cases e
    obtain⟨v,us,rfl,dv,l'⟩:=l.uncons
    rw [zHB dv,zWH z l']
    rfl
  |_=>cases e
def zVF:List Er->Sto->R Er
 |[r],S=>match (dZ S r).bind zHE with |some bs=>.ok (.val (.bl (bs.all id))) S|none=>.no
 |_,_=>.no
theorem zTG(hc:X.calm=true):zOG X W (λxs H Q=> ∃(a:Addr)(bs:List Bool),xs=[.ref a]/\SqL X.K H a (bs.map V.bl)/\X.calm=true/\Q (.bl (bs.all id)) H) zVF:=by
 intro rs vs α S H Q wd d post
 unfold zVF at post
 split at post
 ·split at post
  ·rename_i bs e
   obtain⟨v,rfl,dv⟩:=zRA d
   cases z:dZ S _ with
   |none=>rw [z]at e;cases e
   |some ds=>
    rw [z]at e
    obtain⟨a1,us,rfl,s,l⟩:=zOI rfl wd z dv
    refine⟨a1,bs,rfl,?_,hc,Post.val post wd (wT _)⟩
    rw [<-zWH e l]
    exact s
  ·exact post.elim
 ·exact post.elim
def zIE(S:Sto):Er->Option String
 |.val .non=>some "NoneType"
 |.val (.bl _)=>some "bool"
 |.val (.int _)=>some "int"
 |.val (.str _)=>some "str"
 |.val (.tup _)=>some "tuple"
 |.val (.typ _)=>none
 |r=>(dZ S r).map λ_=>"list"
def zVG(t T:String):Bool:=t==T || (t=="bool"&&T=="int")
def known(T:String):Bool:=T=="int" || T=="bool" || T=="str" || T=="tuple" || T=="list"
def jI:List Er->Sto->R Er
 |[r,.val (.typ T)],S=>match zIE S r with
  |some t=>if known T=true then .ok (.val (.bl (zVG t T))) S else .no
  |none=>.no
 |_,_=>.no
theorem zAL(K:PySem.W.Frag){t T:String}(ht:t="NoneType"\/t="bool"\/t="int"\/t="str"\/t="tuple"\/t="list")(hT:known T=true):PySem.W.kitOne K (.type t) (.type T)=some (zVG t T):=by
 have hT':T="int"\/T="bool"\/T="str"\/T="tuple"\/T="list":=by
  unfold known at hT
  simp only [or_eq_true,beq_iff_eq]at hT
  rcases hT with(((h|h)|h)|h)|h
  ·exact .inl h
  ·exact .inr (.inl h)
  ·exact .inr (.inr (.inl h))
  ·exact .inr (.inr (.inr (.inl h)))
  ·exact .inr (.inr (.inr (.inr h)))
 rcases ht with rfl|rfl|rfl|rfl|rfl|rfl<;>rcases hT' with rfl|rfl|rfl|rfl|rfl<;>kernel_rfl
theorem yW:CallR X (.builtin "isinstance") (λxs H Q=> ∃α S r x t T,xs=[x,.ty T]/\Wd X.g α S H/\DenX X.K α H r x/\zIE S r=some t/\known T=true/\Q (.bl (zVG t T)) H):=by
 intro pins s σ H xs us Q I rr h
 obtain⟨α,S,r,x,t,T,rfl,wd,d,et,hk,q⟩:=h
 obtain⟨u,w',rfl,rx,rT⟩:=vals2 rr
 cases rT
 have fin: ∀tk,EP X pins σ Q (.bool (zVG t T)) {s with toks:=tk}:=λtk=>⟨.bl _,H,I.tok _,rfl,q⟩
 unfold zIE at et
 split at et
 ·cases et
  cases zMW d
  cases rx
  exact PySem.W.kia_one PySem.W.kitx_none I.kIn True.intro (zAL X.K (.inl rfl) hk) (λz=>nomatch z) fin
 ·cases et
  cases zJK d
  cases rx
  exact PySem.W.kia_one PySem.W.kitx_bool I.kIn True.intro (zAL X.K (.inr (.inl rfl)) hk) (λz=>nomatch z) fin
 ·cases et
  cases xU d
  obtain⟨t,rfl⟩:=rx
  exact PySem.W.kia_one PySem.W.kitx_int I.kIn True.intro (zAL X.K (.inr (.inr (.inl rfl))) hk) (λz=>nomatch z) fin
 ·cases et
  cases jG d
  obtain⟨t,rfl⟩:=rx
  exact PySem.W.kia_one PySem.W.kitx_str I.kIn True.intro (zAL X.K (.inr (.inr (.inr (.inl rfl)))) hk) (λz=>nomatch z) fin
 ·cases et
  obtain⟨a,vs,rfl,sq,l⟩:=cN d
  cases rx
  obtain⟨its,r1,p1,_⟩:=I.tuple sq
  obtain⟨o,h1,h2,_⟩:=p1
  exact PySem.W.kia_one PySem.W.kitx_tuple I.kIn ⟨o,h1,h2⟩ (zAL X.K (.inr (.inr (.inr (.inr (.inl rfl))))) hk) (λz=>nomatch z) fin
 ·cases et
 ·cases z:dZ S r with
  |none=>rw [z]at et;cases et
  |some ds=>
   rw [z]at et
   cases et
   obtain⟨a,vs,rfl,sq,l⟩:=zOI rfl wd z d
   cases rx
   obtain⟨its,r1,p1,_⟩:=I.list sq
   obtain⟨o,h1,h2,_⟩:=p1.isList
   exact PySem.W.kia_one PySem.W.kitx_list I.kIn ⟨o,h1,h2⟩ (zAL X.K (.inr (.inr (.inr (.inr (.inr rfl))))) hk) (λz=>nomatch z) fin
theorem wY:zOG X W (λxs H Q=> ∃α S r x t T,xs=[x,.ty T]/\Wd X.g α S H/\DenX X.K α H r x/\zIE S r=some t/\known T=true/\Q (.bl (zVG t T)) H) jI:=by
 intro rs vs α S H Q wd d post
 unfold jI at post
 split at post
 ·split at post
  ·rename_i t et
   split at post
   ·rename_i hk
    obtain⟨v,u,rfl,d1,d2⟩:=yRL d
    cases yJI d2
    exact⟨α,S,_,v,t,_,rfl,wd,d1,et,hk,Post.val post wd (wT _)⟩
   ·exact post.elim
  ·exact post.elim
 ·exact post.elim
def zAM:List Er->Sto->R Er
 |[.val (.tup ds)],S=>.ok (.val (.tup ds)) S
 |[r],S=>match dZ S r with |some ds=>.ok (.val (.tup ds)) S|none=>.no
 |_,_=>.no
theorem zBL:zOG X W (λxs H Q=> ∃p ys,xs=[.ref p]/\((SqL X.K H p ys/\ ∀l,H l=none->Q (.ref l) (upd H l (.tup ys)))\/(SqT X.K H p ys/\Q (.ref p) H))) zAM:=by
 intro rs vs α S H Q wd d post
 unfold zAM at post
 split at post
 ·obtain⟨v,rfl,dv⟩:=zRA d
  obtain⟨a,us,rfl,sq,l⟩:=cN dv
  exact⟨a,us,rfl,.inr ⟨sq,Post.val post wd (zBC sq l)⟩⟩
 ·split at post
  ·rename_i ds e
   obtain⟨v,rfl,dv⟩:=zRA d
   obtain⟨a,us,rfl,sq,l⟩:=zOI rfl wd e dv
   exact⟨a,us,rfl,.inl ⟨sq,λp hp=>Post.newt post wd hp l⟩⟩
  ·exact post.elim
 ·exact post.elim
def zWI:List Er->Sto->R Er
 |[r],S=>match itemsOf S r with |some ds=>.ok (.new ds) S|none=>.no
 |_,_=>.no
theorem yFC:zOG X W (λxs H Q=> ∃p ys,xs=[.ref p]/\(SqL X.K H p ys\/SqT X.K H p ys)/\ ∀l,H l=none->Q (.ref l) (upd H l (.lst ys))) zWI:=by
 intro rs vs α S H Q wd d post
 unfold zWI at post
 split at post
 ·split at post
  ·rename_i ds e
   obtain⟨v,rfl,dv⟩:=zRA d
   obtain⟨a,us,rfl,sq,l⟩:=zON wd e dv
   exact⟨a,us,rfl,sq,λp hp=>Post.newl post wd hp l⟩
  ·exact post.elim
 ·exact post.elim
theorem yP:bootBuiltins "len"=some (.builtin "len"):=by decide+kernel
theorem yKB:bootBuiltins "abs"=some (.builtin "abs"):=by decide+kernel
theorem zTH:bootBuiltins "all"=some (.builtin "all"):=by decide+kernel
theorem zQ:bootBuiltins "isinstance"=some (.builtin "isinstance"):=by decide+kernel
theorem zQA:bootBuiltins "int"=some (.type "int"):=by decide+kernel
theorem zOO:bootBuiltins "bool"=some (.type "bool"):=by decide+kernel
theorem zXU:bootBuiltins "str"=some (.type "str"):=by decide+kernel
theorem wE:bootBuiltins "tuple"=some (.type "tuple"):=by decide+kernel
theorem zRS:bootBuiltins "list"=some (.type "list"):=by decide+kernel
end
def digN(n:Nat):List Nat:=(Nat.toDigits 10 n).map Char.toNat
def decL(i:Int):List Nat:=if i<0 then 45::digN i.natAbs else digN i.natAbs
section
variable{X:Cx}{W:XW}{a b c e o i:Expr}{es:List Expr}{f g h:Rho->Sto->R Er}{af:Rho->Sto->R (List Er)}{pos apos:Pos}
def strF:List Er->Sto->R Er
 |[.val (.int i)],S=>if i.natAbs.log2<1920 then .ok (.val (.str (decL i))) S else .no
 |[.val (.str x)],S=>.ok (.val (.str x)) S
 |_,_=>.no
def zTI:Er->Sto->Bool
 |.val (.str _),_=>true
 |_,_=>false
theorem ty_str:TyM X "str" zTI:=by
 intro p x α S H wd d h
 unfold zTI at h
 split at h
 ·cases jG d;rfl
 ·cases h
def zOP(p:Er)(S:Sto):Bool:=(dZ S p).isSome
theorem yTR:TyM X "list" zOP:=by
 intro p x α S H wd d h
 unfold zOP at h
 cases z:dZ S p with
 |none=>rw [z]at h;cases h
 |some ds=>
  obtain⟨a,vs,rfl,s,l⟩:=zOI rfl wd z d
  exact .inl ⟨rfl,vs,s⟩
def swF:Er->List Er->Sto->R Er
 |.val (.str x),[.val (.str y)],S=>.ok (.val (.bl (decide (y.length<=x.length)&&decide (x.take y.length=y)))) S
 |_,_,_=>.no
def strIdx(x y:List Nat):Option Nat:=(Builtin.Str.occurrences (mkS x) (mkS y) 0 (mkS x).length 1).head?
def yAC:Er->List Er->Sto->R Er
 |.val (.str x),[.val (.str y)],S=>match strIdx x y with |some i=>.ok (.val (.int (i:Nat))) S|none=>.no
 |_,_,_=>.no
theorem yOO:MtR X "str.index" (λx xs H Q=> ∃y z i,x=.str (mkS y)/\xs=[.str (mkS z)]/\strIdx y z=some i/\Q (.int (i:Nat)) H):=by
 intro pins s σ H x xs v us Q I rx rs h
 obtain⟨y,z,i,rfl,rfl,hi,q⟩:=h
 obtain⟨t,rfl⟩:=rx
 obtain⟨u,rfl,t',rfl⟩:=vals1 rs
 unfold strIdx at hi
 cases zz:Builtin.Str.occurrences (mkS y) (mkS z) 0 (mkS y).length 1 with
 |nil=>rw [zz]at hi;cases hi
 |cons k r=>
  rw [zz]at hi
  cases hi
  exact PySem.SC.index zz ⟨.int _,H,I.tok _,⟨_,rfl⟩,q⟩
theorem yOP:MtdM X W (λx xs H Q=> ∃y z i,x=.str (mkS y)/\xs=[.str (mkS z)]/\strIdx y z=some i/\Q (.int (i:Nat)) H) yAC:=by
 intro p rs x vs α S H0 H Q α0 wd x0 dp da post
 replace post:=post.shift x0
 unfold yAC at post
 split at post
 ·split at post
  ·rename_i i hi
   obtain⟨v,rfl,dv⟩:=yER da
   exact⟨_,_,i,jG dp,by rw [jG dv],hi,Post.val post wd (xV _)⟩
  ·exact post.elim
 ·exact post.elim
theorem yOQ(ho:PEm X W a f)(ha:PAm X W (e::es) af)
  (hbase:attributeBase a "index" X.env (eval a X.env)=eval a X.env:=by rfl)
  (hfew:((backTo pos (starEach (e::es) X.env)).all (λx=>!x.1)&&(backToKw pos (keywordEach [] X.env)).all (λx=>x.1.isSome)
   &&decide ((e::es).length+([]:List Keyword).length+(if([]:List Keyword).isEmpty then 0 else 1)<30))=true:=by rfl)
  (hline:(apos.endLine==pos.line)=true:=by rfl) (hs:starEach (e::es) X.env=(false,eval e X.env)::starEach es X.env:=by rfl) (hplain:(backTo pos (starEach es X.env)).any (·.1)=false:=by rfl):
  PEm X W (.Call (.Attribute a "index" apos) (e::es) [] pos) (λρ S=>(f ρ S).bind λp S1=>if zTI p S1=true then(af ρ S1).bind λrs S2=>yAC p rs S2 else .no):=
 yEQ PySem.F.plainAttrs_str PySem.F.slot_str_index PySem.F.type_str_index yOO yOP ty_str ho ha hbase hfew hline hs hplain
def yHM(p:Er)(S:Sto)(G:List MV->Option (List MV)):R Er:=match p with
 |.val (.loc l)=>match S[l]? with
  |some (.lst ds)=>match G ds with
   |some es=>.ok (.val .non) (S.set l (.lst es))
   |none=>.no
  |_=>.no
 |_=>.no
theorem yHN{α0 α:List Addr}{H0 H:Hp}{S:Sto}{p:Er}{x:V}{G:List MV->Option (List MV)}{Q:VK}(wd:Wd X.g α S H)(x0:Ext α0 H0 α H)(dp:DenX X.K α H p x)(post:Post X.g W α0 H0 (yHM p S G) Q):
  ∃a vs ds es,x=.ref a/\H a=some (.lst vs)/\DenL X.K α H ds vs/\G ds=some es/\ ∀us,DenL X.K α H es us->Q .non (upd H a (.lst us)):=by
 unfold yHM at post
 split at post
 ·rename_i l
  obtain⟨a,rfl,h⟩:=zDF dp
  obtain⟨ob,h1,h2⟩:=wd.of h
  rw [h1]at post
  cases ob with
  |lst ds=>
   obtain⟨vs,h3,l1⟩:=h2
   have post:Post X.g W α0 H0 (match G ds with |some es=>R.ok (Er.val .non) (S.set l (.lst es))|none=>R.no) Q:=post
   split at post
   ·rename_i es eg
    refine⟨a,vs,ds,es,rfl,h3,l1,eg,λus lu=>?_⟩
    have xw:=wd.writex h (o:=.lst us)
    exact(post.shift (x0.trans xw)).val (wd.write h ⟨us,yD,lu.ext xw⟩) zCV
   ·exact post.elim
  |dic _=>exact post.elim
  |ins _ _=>exact post.elim
 ·exact post.elim
def yCP:Er->List Er->Sto->R Er
 |p,[r],S=>(zIC r S).bind λy S1=>yHM p S1 λds=>if ds.length<sizeLine then some (ds++[y])else none
 |_,_,_=>.no
theorem yHO:MtdM X W yEK yCP:=by
 intro p rs x vs α S H0 H Q α0 wd x0 dp da post
 match rs,da,post with
 |[],_,post=>exact post.elim
 |_::_::_,_,post=>exact post.elim
 |[r],da,post=>
  cases da with
  |cons d n l=>
   cases l
   obtain⟨d',S',α',e',x',y',w',dd⟩:=zHD wd x0 d
   have post:Post X.g W α0 H0 ((zIC r S).bind λy S1=>yHM p S1 λds=>if ds.length<sizeLine then some (ds++[y])else none) Q:=post
   rw [e']at post
   have dp':DenX X.K α' H p x:=by
    cases p with
    |val m=>exact Den.ex0 y' dp
    |new ds=>exact post.elim
   obtain⟨a,us,ds,es,rfl,h1,l1,eg,k⟩:=yHN w' x' dp' post
   split at eg
   ·rename_i hz
    cases eg
    exact⟨a,us,_,rfl,rfl,h1,by rw [l1.length];exact hz,k _ (l1.append (xS dd wU))⟩
   ·cases eg
theorem zQB(ho:PEm X W a f)(ha:PAm X W (e::es) af)
  (hbase:attributeBase a "append" X.env (eval a X.env)=eval a X.env:=by rfl)
  (hfew:((backTo pos (starEach (e::es) X.env)).all (λx=>!x.1)&&(backToKw pos (keywordEach [] X.env)).all (λx=>x.1.isSome)
   &&decide ((e::es).length+([]:List Keyword).length+(if([]:List Keyword).isEmpty then 0 else 1)<30))=true:=by rfl)
  (hline:(apos.endLine==pos.line)=true:=by rfl) (hs:starEach (e::es) X.env=(false,eval e X.env)::starEach es X.env:=by rfl) (hplain:(backTo pos (starEach es X.env)).any (·.1)=false:=by rfl):
  PEm X W (.Call (.Attribute a "append" apos) (e::es) [] pos) (λρ S=>(f ρ S).bind λp S1=>if zOP p S1=true then(af ρ S1).bind λrs S2=>yCP p rs S2 else .no):=
 yEQ PySem.F.plainAttrs_list PySem.F.slot_list_append PySem.F.type_list_append yGV yHO yTR ho ha hbase hfew hline hs hplain
def yAD(p q:Er)(d:MV)(ρ:Rho)(S:Sto):R Rho:=match p,q with
 |.val (.loc l),.val (.int k)=>match S[l]? with
  |some (.lst ds)=>match ixN ds.length k with
   |some j=>.ok ρ (S.set l (.lst (ds.set j d)))
   |none=>.no
  |_=>.no
 |_,_=>.no
theorem yTS(ho:PEm X W o f)(hi:PEm X W i g)
  (ha: ∀v,assign (.Subscript o i pos) X.env v=(do
   let ov <-holding [v] (eval o X.env)
   let iv <-holding [v,ov] (eval i X.env)
   standAt pos
   holding [v,ov,iv] (setItem ov iv v)
   release [v,ov,iv] []):=by intro _;rfl):PGm X W (.Subscript o i pos) (λd ρ S=>(f ρ S).bind λp S1=>(g ρ S1).bind λq S2=>yAD p q d ρ S2):=by
 obtain⟨to,ho,fo⟩:=ho
 obtain⟨ti,hi,fi⟩:=hi
 refine⟨_,ySK ho hi set_list ha,λα ρ S σ H d v Q wd sl de q=>fo α ρ S σ H _ wd sl (q.bind λu p S1 α1 H1 e1 x1 w1 d1 q1=>fi α1 ρ S1 σ H1 _ w1 (sl.ext x1) ((q1.shift x1).bind λu2 p2 S2 α2 H2 e2 x2 w2 d2 q2=>?_))⟩
 replace q2:=q2.shift x2
 have d1':=DenX.ext x2 d1.1
 unfold yAD at q2
 split at q2
 ·rename_i l k
  obtain⟨a,rfl,h⟩:=zDF d1'
  cases xU d2.1
  obtain⟨ob,h1,h2⟩:=w2.of h
  rw [h1]at q2
  cases ob with
  |lst ds=>
   obtain⟨vs,h3,l1⟩:=h2
   have q2:Post X.g W α2 H2 (match ixN ds.length k with |some j=>R.ok ρ (S2.set l (.lst (ds.set j d)))|none=>R.no) Q:=q2
   split at q2
   ·rename_i j ej
    have xw:=w2.writex h (o:=.lst (vs.set j v))
    have sl2:=((sl.ext x1).ext x2).ext xw
    exact⟨a,vs,k,j,rfl,rfl,h3,by rw [l1.length];exact ej,q2 σ α2 _ xw (w2.write h ⟨_,yD,(l1.set ((de.ext x1).ext x2) j).ext xw⟩) sl2⟩
   ·exact q2.elim
  |dic _=>exact q2.elim
  |ins _ _=>exact q2.elim
 ·exact q2.elim
end
theorem _root_.L2.Inv.turnedL{X:Cx}{pins:List (Addr×Obj)}{σ:St}{H:Hp}{s:Shared}{h':Heap}{t':Nat}{fp:List Addr}(I:Inv X pins σ H s)(k: ∀b o,b∉fp->s.heap.get? b=some o->h'.get? b=some o)
  (hf: ∀b∈fp,zOC X pins H b):Inv X pins σ H {s with heap:=h',toks:=t'}:=by
 have nit: ∀b u,H b=some u->b∉fp:=λb u e z=>by rw [(hf b z).1]at e;cases e
 refine I.step (g':=s.gens) (d':=s.drawn) (ch:=fp) (λb hb=>⟨(hf b hb).2.2.2.1,(hf b hb).2.1,(hf b hb).2.2.2.2.1,(hf b hb).2.2.2.2.2⟩) (λb o _ _ hc e _=>k b o hc e) (λb o _ _ hc e _=>⟨o.slots,k b o hc e⟩) (λ_ _ _ _ n=>n)
  (λb o hc e=>⟨o,k b o hc e⟩) (λ_ _ e=>e) (λ_ _ _ e=>e) (λb ps e=>⟨#[],by rw [e];simp⟩) (λm hm=>?_) (λb u e=>?_) I.bare
 ·obtain⟨o,es,ep,ho,r⟩:=hm
  exact⟨o,es,ep,k _ o (λz=>(hf _ z).2.1 rfl) ho,r⟩
 ·refine(I.hok b u e).stay (λc v hc q=>k c v ?_ q) (λ_ q=>q) λ_ _ q=>q
  rcases hc with z|z
  ·rw [z];exact nit b u e
  ·exact nit c _ z
def IsSub(k:Bool)(h:Heap)(it l:Addr)(i:Nat):Prop:=if k=true then h.IsListIter it l i else h.IsTupleIter it l i
def IsSeq(k:Bool)(h:Heap)(l:Addr)(its:Array Value):Prop:=if k=true then h.IsList l its else h.IsTuple l its
def zIF(k:Bool)(l:Addr):Obj:={cls:=.type (if k=true then "list_iterator" else "tuple_iterator"),data:=.fields #[.ref l,.int 0 0]}
theorem IsSub.mk'{k:Bool}{h:Heap}{it l:Addr}(e:h.get? it=some (zIF k l)):IsSub k h it l 0:=by
 cases k with
 |true=>exact⟨_,e,rfl,rfl⟩
 |false=>exact⟨_,e,rfl,rfl⟩
theorem IsSub.there{k:Bool}{h:Heap}{it l:Addr}{i:Nat}(x:IsSub k h it l i): ∃o,h.get? it=some o/\ ∀v,o.data≠.cell v:=by
 cases k with
 |true=>obtain⟨o,e,_,d⟩:=(x:h.IsListIter it l i);exact⟨o,e,λv z=>by rw [d]at z;cases z⟩
 |false=>obtain⟨o,e,_,d⟩:=(x:h.IsTupleIter it l i);exact⟨o,e,λv z=>by rw [d]at z;cases z⟩
theorem IsSub.move{k:Bool}{h h':Heap}{it l:Addr}{i:Nat}(x:IsSub k h it l i)(f: ∀o,h.get? it=some o->h'.get? it=some o):IsSub k h' it l i:=by
 cases k with
 |true=>obtain⟨o,e,r⟩:=(x:h.IsListIter it l i);exact⟨o,f o e,r⟩
 |false=>obtain⟨o,e,r⟩:=(x:h.IsTupleIter it l i);exact⟨o,f o e,r⟩
theorem IsSeq.move{k:Bool}{h h':Heap}{l:Addr}{its:Array Value}(x:IsSeq k h l its)(f: ∀o,h.get? l=some o->h'.get? l=some o):IsSeq k h' l its:=by
 cases k with
 |true=>obtain⟨o,e,r⟩:=(x:h.IsList l its);exact⟨o,f o e,r⟩
 |false=>obtain⟨o,e,r⟩:=(x:h.IsTuple l its);exact⟨o,f o e,r⟩
section
variable{prog:Program}{w:World}{A:Around}{E:Value->Shared->Prop}{s:Shared}
theorem zKF{k:Bool}{l:Addr}{its:Array Value}{Q:Value->Shared->Prop}(hl:IsSeq k s.heap l its)(h:Q (.ref s.heap.objs.size) {s with heap:=s.heap.push (zIF k l)}):wpAny (model prog w) A (pyIter (.ref l)) Q E s:=by
 cases k with
 |true=>exact wpAny_pyIter_list hl h
 |false=>exact wpAny_pyIter_tuple hl h
theorem zOQ{k:Bool}{it l:Addr}{i:Nat}{its:Array Value}{x:Value}{Q:Value->Shared->Prop}(hit:IsSub k s.heap it l i)(hl:IsSeq k s.heap l its)(hx:its[i]? =some x)
  (hQ: ∀h',IsSub k h' it l (i+1)->Heap.SameBut it s.heap h'->Q x {s with heap:=h'}):wpAny (model prog w) A (Builtin.SmallTypes.nextOf (.ref it)) Q E s:=by
 cases k with
 |true=>exact wpAny_nextOf_list_item hit hl hx hQ
 |false=>
  have hit':s.heap.IsTupleIter it l i:=hit
  obtain⟨o,ho,hc,hd⟩:=id hit'
  obtain⟨ol,hol,_,nl,hdl⟩:=(hl:s.heap.IsTuple l its)
  unfold Builtin.SmallTypes.nextOf
  refine wB0 (wpAny_callSpecial?_slot (name:=Str.ofString "__next__") hit'.typeIs F.slot_tuple_iterator_next (wpAny_call_entry F.slot_tuple_iterator_next hit'.typeIs F.entry_tuple_iterator_next ?_ (F.args_tuple_iterator_next_1 _)))
  show wpAny _ _ (field (.ref it) 0 >>= _) _ _ s
  refine wB0 (wpAny_field ho hd (x:=.ref l) rfl ?_)
  show wpAny _ _ (if(Value.ref l==Value.none)=true then _ else _) _ _ s
  rw [iN0 (show¬((Value.ref l==Value.none)=true)from xF0)]
  show wpAny _ _ (field (.ref it) 1 >>= _) _ _ s
  refine wB0 (wpAny_field ho hd (x:=.int i 0) rfl ?_)
  show wpAny _ _ (seqItems? (.ref l) >>= _) _ _ s
  refine wB0 (wpAny_seqItems hol hdl ?_)
  simp only [toNat_natCast,hx]
  refine wB0 (wpAny_setField ho hd (by simp) (wP0 ⟨x,rfl,wP0 (hQ _ ?_ (Heap.SameBut.update ..))⟩))
  exact⟨_,Heap.get?_update_self _ ho (Obj.isFreed_of_fields (Obj.data_mapFields hd _)),(Obj.cls_mapFields ..).trans hc,by rw [Obj.data_mapFields hd];simp [rawInt]⟩
theorem zXV{k:Bool}{it l:Addr}{i:Nat}{its:Array Value}{Q:Value->Shared->Prop}(hh:A.handled=none)(hit:IsSub k s.heap it l i)(hl:IsSeq k s.heap l its)(hx:its[i]? =none)
  (hE: ∀h' e,Heap.ExtBut it s.heap h'->(∃o,h'.get? e=some o/\o.cls=.type "StopIteration")->E (.ref e) {s with heap:=h'}):wpAny (model prog w) A (Builtin.SmallTypes.nextOf (.ref it)) Q E s:=by
 cases k with
 |true=>exact wpAny_nextOf_list_end hh hit hl hx hE
 |false=>
  have hit':s.heap.IsTupleIter it l i:=hit
  obtain⟨o,ho,hc,hd⟩:=id hit'
  obtain⟨ol,hol,_,nl,hdl⟩:=(hl:s.heap.IsTuple l its)
  unfold Builtin.SmallTypes.nextOf
  refine wB0 (wpAny_callSpecial?_slot (name:=Str.ofString "__next__") hit'.typeIs F.slot_tuple_iterator_next (wpAny_call_entry F.slot_tuple_iterator_next hit'.typeIs F.entry_tuple_iterator_next ?_ (F.args_tuple_iterator_next_1 _)))
  show wpAny _ _ (field (.ref it) 0 >>= _) _ _ s
  refine wB0 (wpAny_field ho hd (x:=.ref l) rfl ?_)
  show wpAny _ _ (if(Value.ref l==Value.none)=true then _ else _) _ _ s
  rw [iN0 (show¬((Value.ref l==Value.none)=true)from xF0)]
  show wpAny _ _ (field (.ref it) 1 >>= _) _ _ s
  refine wB0 (wpAny_field ho hd (x:=.int i 0) rfl ?_)
  show wpAny _ _ (seqItems? (.ref l) >>= _) _ _ s
  refine wB0 (wpAny_seqItems hol hdl ?_)
  simp only [toNat_natCast,hx]
  refine wB0 (wpAny_rule (wB0 (wpAny_setField ho hd (by simp) ?_)))
  show wpAny _ _ (newExc (.type "StopIteration") [] >>= _) _ _ _
  refine wB0 ?_
  simp only [newExc,newTuple]
  refine wB0 (wpAny_newObj_type ?_ (by size_fits))
  refine wB0 (m:=firstArgMember _ _) (wpAny_of_eq (a:=Value.none) (by first |rfl|(simp only [firstArgMember];rfl)) ?_)
  refine wpAny_newObj_type ?_ (by size_fits)
  simp only [raiseNew]
  refine wB0 (wpAny_handled ?_)
  first |rw [show A.in1.handled=none from hh]|rw [hh]
  refine wB0 (wP0 (wpAny_throw ?_))
  exact hE _ _ (((Heap.SameBut.update ..).extBut.push _).push _) ⟨_,Heap.get?_push_size _ rfl,rfl⟩
end
structure ZipSt(k1 k2:Bool)(z TI TO i1 i2 l1 l2:Addr)(i:Nat)(h:Heap):Prop where
 z:IsZip h z TI TO .none
 ti:IsPair h TI (.ref i1) (.ref i2)
 to: ∃a b,IsPair h TO a b
 s1:IsSub k1 h i1 l1 i
 s2:IsSub k2 h i2 l2 i
structure Apart5(z TI TO i1 i2:Addr):Prop where
 TIz:TI≠z
 TOz:TO≠z
 i1z:i1≠z
 i2z:i2≠z
 TITO:TI≠TO
 TIi1:TI≠i1
 TIi2:TI≠i2
 TOi1:TO≠i1
 TOi2:TO≠i2
 i12:i1≠i2
section
variable{prog:Program}{w:World}{A:Around}{E:Value->Shared->Prop}{s:Shared}{k1 k2:Bool}{z TI TO i1 i2 l1 l2:Addr}{i:Nat}{xs ys:Array Value}
def Off(l z TO i1 i2:Addr):Prop:=l≠z/\l≠TO/\l≠i1/\l≠i2
theorem yKC{x y:Value}{Q:Value->Shared->Prop}(D:Apart5 z TI TO i1 i2)(o1:Off l1 z TO i1 i2)(o2:Off l2 z TO i1 i2)(st:ZipSt k1 k2 z TI TO i1 i2 l1 l2 i s.heap)(hl1:IsSeq k1 s.heap l1 xs)(hl2:IsSeq k2 s.heap l2 ys)(hx:xs[i]? =some x)(hy:ys[i]? =some y)
  (hQ: ∀h',IsZip h' z TI TO (rawInt s.heap.objs.size)->IsPair h' TO x y->IsSub k1 h' i1 l1 (i+1)->IsSub k2 h' i2 l2 (i+1)->IsPair h' s.heap.objs.size x y->
   (∀c o,c≠z->c≠TO->c≠i1->c≠i2->s.heap.get? c=some o->h'.get? c=some o)->Q (.ref s.heap.objs.size) {s with heap:=h'}):
  wpAny (model prog w) A (Builtin.«zip.__next__» ⟨[.ref z],[]⟩) (λfin s'=> ∃v,fin=.done (.ret v)/\Q v s') E s:=by
 obtain⟨hz,hTI,⟨a,b,hTO⟩,h1,h2⟩:=st
 show wpAny _ _ (field (.ref z) 2 >>= _) _ _ _
 refine wB0 (wpAny_field hz rfl (x:=.bool false) rfl ?_)
 show wpAny _ _ (field (.ref z) 3 >>= _) _ _ _
 refine wB0 (wpAny_field hz rfl (x:=.ref TI) rfl (wB0 (wpAny_seqItems hTI rfl ?_)))
 show wpAny _ _ (Builtin.SmallTypes.ownedTupleIsFree (.ref z) >>= _) _ _ _
 refine wB0 ?_
 unfold Builtin.SmallTypes.ownedTupleIsFree
 refine wB0 (wpAny_field hz rfl (x:=.none) rfl (wP0 ?_))
 simp only [if_true]
 refine wB0 (wpAny_rule (wB0 (wpAny_field hz rfl (x:=.ref TO) rfl (wB0 (wpAny_setField_rec hz (by simp) λha hza hsa=>?_)))))
 replace hza:IsZip ha z TI TO .ellipsis:=hza
 refine wB0 ?_
 simp only [zipIdx_cons,List.zipIdx_nil,forIn_cons,List.forIn_nil]
 refine wB0 (wB0 (wpAny_onRaise ?_))
 show wpAny _ _ (Builtin.SmallTypes.nextOf (.ref i1) >>= _) _ _ _
 refine wB0 (zOQ (h1.move λo e=>hsa.extBut _ _ D.i1z e) (hl1.move λo e=>hsa.extBut _ _ o1.1 e) hx λhb h1b hsb=>wP0 ?_)
 have tob:IsPair hb TO a b:=hsb.extBut _ _ D.TOi1 (hsa.extBut _ _ D.TOz hTO)
 refine wB0 (wpAny_seqItems tob rfl (wB0 (wpAny_updateSeq_pair tob λhc toc hsc=>wB0 (wpAny_letGo (wP0 ?_)))))
 replace toc:IsPair hc TO x b:=toc
 refine wB0 (wB0 (wpAny_onRaise ?_))
 show wpAny _ _ (Builtin.SmallTypes.nextOf (.ref i2) >>= _) _ _ _
 have mv: ∀c o,c≠z->c≠TO->c≠i1->s.heap.get? c=some o->hc.get? c=some o:=λc o n1 n2 n3 e=>hsc.extBut _ _ n2 (hsb.extBut _ _ n3 (hsa.extBut _ _ n1 e))
 refine wB0 (zOQ (h2.move λo e=>mv _ o D.i2z D.TOi2.symm D.i12.symm e) (hl2.move λo e=>mv _ o o2.1 o2.2.1 o2.2.2.1 e) hy λhd h2d hsd=>wP0 ?_)
 have tod:IsPair hd TO x b:=hsd.extBut _ _ D.TOi2 toc
 refine wB0 (wpAny_seqItems tod rfl (wB0 (wpAny_updateSeq_pair tod λhe toe hse=>wB0 (wpAny_letGo (wP0 (wP0 ?_))))))
 replace toe:IsPair he TO x y:=toe
 refine wB0 (wpAny_seqItems toe rfl (wB0 (wpAny_newTuple ?_)))
 have hsz:he.objs.size=s.heap.objs.size:=by rw [hse.1,hsd.1,hsc.1,hsb.1,hsa.1]
 have ze:IsZip he z TI TO .ellipsis:=hse.extBut _ _ D.TOz.symm (hsd.extBut _ _ D.i2z.symm (hsc.extBut _ _ D.TOz.symm (hsb.extBut _ _ D.i1z.symm hza)))
 have mve: ∀c o,c≠z->c≠TO->c≠i1->c≠i2->s.heap.get? c=some o->he.get? c=some o:=λc o n1 n2 n3 n4 e=>hse.extBut _ _ n2 (hsd.extBut _ _ n4 (mv c o n1 n2 n3 e))
 have s1e:IsSub k1 he i1 l1 (i+1):=h1b.move λo e=>hse.extBut _ _ D.TOi1.symm (hsd.extBut _ _ D.i12 (hsc.extBut _ _ D.TOi1.symm e))
 have s2e:IsSub k2 he i2 l2 (i+1):=h2d.move λo e=>hse.extBut _ _ D.TOi2.symm e
 have hzlt:z<he.objs.size:=Heap.lt_size ze
 show wpAny _ _ (Builtin.SmallTypes.ownedTupleHandOut (.ref z) (.ref he.objs.size) >>= _) _ _ _
 refine wB0 ?_
 unfold Builtin.SmallTypes.ownedTupleHandOut
 have zf:IsZip (he.push {cls:=.type "tuple",data:=.seq #[x,y]}) z TI TO .ellipsis:=hP0 _ ze
 refine wB0 (wpAny_setField_rec zf (by simp) λhg' zg hsg=>?_)
 replace zg:IsZip hg' z TI TO (rawInt he.objs.size):=zg
 refine wpAny_setField_rec zg (by simp) λhh' zh hsh=>?_
 replace zh:IsZip hh' z TI TO (rawInt he.objs.size):=zh
 have up: ∀c o,c≠z->he.get? c=some o->hh'.get? c=some o:=λc o c1 e=>hsh.extBut _ _ c1 (hsg.extBut _ _ c1 (hP0 _ e))
 have tT:IsPair hh' he.objs.size x y:=hsh.extBut _ _ (ne_of_gt hzlt) (hsg.extBut _ _ (ne_of_gt hzlt) (Heap.get?_push_size _ rfl))
 rw [hsz]at zh tT
 refine wP0 ⟨_,rfl,?_⟩
 show Q (.ref he.objs.size) _
 rw [hsz]
 exact hQ hh' zh (up _ _ D.TOz toe) (s1e.move λo e=>up _ o D.i1z e) (s2e.move λo e=>up _ o D.i2z e) tT λc o c1 c2 c3 c4 e=>up c o c1 (mve c o c1 c2 c3 c4 e)
theorem yOR{Q:Fin->Shared->Prop}(hh:A.handled=none)(D:Apart5 z TI TO i1 i2)(o1:Off l1 z TO i1 i2)(o2:Off l2 z TO i1 i2)(st:ZipSt k1 k2 z TI TO i1 i2 l1 l2 i s.heap)(hl1:IsSeq k1 s.heap l1 xs)(hl2:IsSeq k2 s.heap l2 ys)(hend:xs[i]? =none\/ys[i]? =none)
  (hE: ∀h' e,(∀c o,c≠z->c≠TO->c≠i1->c≠i2->s.heap.get? c=some o->h'.get? c=some o)->(∃o,h'.get? e=some o/\o.cls=.type "StopIteration")->E (.ref e) {s with heap:=h'}):
  wpAny (model prog w) A (Builtin.«zip.__next__» ⟨[.ref z],[]⟩) Q E s:=by
 obtain⟨hz,hTI,⟨a,b,hTO⟩,h1,h2⟩:=st
 show wpAny _ _ (field (.ref z) 2 >>= _) _ _ _
 refine wB0 (wpAny_field hz rfl (x:=.bool false) rfl ?_)
 show wpAny _ _ (field (.ref z) 3 >>= _) _ _ _
 refine wB0 (wpAny_field hz rfl (x:=.ref TI) rfl (wB0 (wpAny_seqItems hTI rfl ?_)))
 show wpAny _ _ (Builtin.SmallTypes.ownedTupleIsFree (.ref z) >>= _) _ _ _
 refine wB0 ?_
 unfold Builtin.SmallTypes.ownedTupleIsFree
 refine wB0 (wpAny_field hz rfl (x:=.none) rfl (wP0 ?_))
 simp only [if_true]
 refine wB0 (wpAny_rule (wB0 (wpAny_field hz rfl (x:=.ref TO) rfl (wB0 (wpAny_setField_rec hz (by simp) λha hza hsa=>?_)))))
 replace hza:IsZip ha z TI TO .ellipsis:=hza
 refine wB0 ?_
 simp only [zipIdx_cons,List.zipIdx_nil,forIn_cons,List.forIn_nil]
 refine wB0 (wB0 (wpAny_onRaise ?_))
 show wpAny _ _ (Builtin.SmallTypes.nextOf (.ref i1) >>= _) _ _ _
 cases hx:xs[i]? with
 |none=>
  refine wB0 (zXV hh (h1.move λo e=>hsa.extBut _ _ D.i1z e) (hl1.move λo e=>hsa.extBut _ _ o1.1 e) hx λhb e hsb he=>?_)
  obtain⟨oe,hoe,hce⟩:=he
  have hzb:IsZip hb z TI TO .ellipsis:=hsb _ _ D.i1z.symm hza
  have hez:e≠z:=λq=>by subst q;rw [hzb]at hoe;cases hoe;simp at hce
  exact wpAny_setField_rec hzb (by simp) λhc _ hsc=>hE hc e (λc o c1 _ c3 _ q=>hsc.extBut _ _ c1 (hsb _ _ c3 (hsa.extBut _ _ c1 q))) ⟨oe,hsc.extBut _ _ hez hoe,hce⟩
 |some x=>
  have hy:ys[i]? =none:=by rcases hend with h|h;(rw [hx]at h;cases h);exact h
  refine wB0 (zOQ (h1.move λo e=>hsa.extBut _ _ D.i1z e) (hl1.move λo e=>hsa.extBut _ _ o1.1 e) hx λhb h1b hsb=>wP0 ?_)
  have tob:IsPair hb TO a b:=hsb.extBut _ _ D.TOi1 (hsa.extBut _ _ D.TOz hTO)
  refine wB0 (wpAny_seqItems tob rfl (wB0 (wpAny_updateSeq_pair tob λhc toc hsc=>wB0 (wpAny_letGo (wP0 ?_)))))
  refine wB0 (wB0 (wpAny_onRaise ?_))
  show wpAny _ _ (Builtin.SmallTypes.nextOf (.ref i2) >>= _) _ _ _
  have mv: ∀c o,c≠z->c≠TO->c≠i1->s.heap.get? c=some o->hc.get? c=some o:=λc o n1 n2 n3 e=>hsc.extBut _ _ n2 (hsb.extBut _ _ n3 (hsa.extBut _ _ n1 e))
  refine wB0 (zXV hh (h2.move λo e=>mv _ o D.i2z D.TOi2.symm D.i12.symm e) (hl2.move λo e=>mv _ o o2.1 o2.2.1 o2.2.2.1 e) hy λhd e hsd he=>?_)
  obtain⟨oe,hoe,hce⟩:=he
  have hzd:IsZip hd z TI TO .ellipsis:=hsd _ _ D.i2z.symm (hsc.extBut _ _ D.TOz.symm (hsb.extBut _ _ D.i1z.symm hza))
  have hez:e≠z:=λq=>by subst q;rw [hzd]at hoe;cases hoe;simp at hce
  exact wpAny_setField_rec hzd (by simp) λhg' _ hsg=>hE hg' e (λc o c1 c2 c3 c4 q=>hsg.extBut _ _ c1 (hsd _ _ c4 (mv c o c1 c2 c3 q))) ⟨oe,hsg.extBut _ _ hez hoe,hce⟩
theorem yCQ(k1 k2:Bool)(l1 l2:Addr)(xs ys:Array Value):
  Meets (Builtin.«zip.__new__» ⟨[.type "zip",.ref l1,.ref l2],[]⟩) (λ_ R s=>IsSeq k1 s.heap l1 xs/\IsSeq k2 s.heap l2 ys/\
   R (.ok (.ret (.ref (s.heap.objs.size+4)))) {s with heap:=((((s.heap.push (zIF k1 l1)).push (zIF k2 l2)).push {cls:=.type "tuple",data:=.seq #[.ref s.heap.objs.size,.ref (s.heap.objs.size+1)]}).push {cls:=.type "tuple",data:=.seq #[.none,.none]}).push {cls:=.type "zip",data:=.fields #[.none,.bool false,.bool false,.ref (s.heap.objs.size+2),.ref (s.heap.objs.size+3)]}}):=
 .of_wp λprog w A R s h=>by
  obtain⟨hp,g,d,tk,os⟩:=s;obtain⟨hl1,hl2,h⟩:=h
  have hsub:=sub_zip
  have hL1:IsSeq k1 (Shared.heap ⟨hp,g,d,tk,os⟩) l1 xs:=hl1
  have hL2:IsSeq k2 (Shared.heap ⟨hp.push (zIF k1 l1),g,d,tk,os⟩) l2 ys:=hl2.move λo e=>hP0 _ e
  have z1: ∀(h:Heap)(o:Obj),(h.push o).objs.size=h.objs.size+1:=λh o=>Heap.size_push ..
  simp only [z1]at h ⊢
  wp_walk using zKF hL1,zKF hL2
  exact⟨_,rfl,by simp only [z1];exact h⟩
theorem yKD(hl1:IsSeq k1 s.heap l1 xs)(hl2:IsSeq k2 s.heap l2 ys){Q:Value->Shared->Prop}
  (h: ∀h',ZipSt k1 k2 (s.heap.objs.size+4) (s.heap.objs.size+2) (s.heap.objs.size+3) s.heap.objs.size (s.heap.objs.size+1) l1 l2 0 h'->(∀c o,s.heap.get? c=some o->h'.get? c=some o)->Q (.ref (s.heap.objs.size+4)) {s with heap:=h'}):
  wpAny (model prog w) A (call (.type "zip") [.ref l1,.ref l2]) Q E s:=by
 refine callType_new F.called_zip (by decide) (F.typeCall_zip_2 _ _) (F.newCall_zip_2 _ _) (λobj=>F.args_object_init_3 obj _ _) F.entry_zip_new (yCQ k1 k2 l1 l2 xs ys) ⟨hl1,hl2,?_⟩
 have z1: ∀(h:Heap)(o:Obj),(h.push o).objs.size=h.objs.size+1:=λh o=>Heap.size_push ..
 have pg: ∀(h:Heap)(o:Obj)(n:Nat),o.isFreed=false->h.objs.size=n->(h.push o).get? n=some o:=λh o n hf e=>by subst e;exact Heap.get?_push_size _ hf
 have up: ∀(h:Heap)(o u:Obj)(n:Nat),h.get? n=some u->(h.push o).get? n=some u:=λh o u n e=>hP0 _ e
 refine⟨⟨_,pg _ _ _ rfl (by simp only [z1]),rfl⟩,h _ ⟨pg _ _ _ rfl (by simp only [z1]),up _ _ _ _ (up _ _ _ _ (pg _ _ _ rfl (by simp only [z1]))),⟨.none,.none,up _ _ _ _ (pg _ _ _ rfl (by simp only [z1]))⟩,?_,?_⟩ λc o e=>up _ _ _ _ (up _ _ _ _ (up _ _ _ _ (up _ _ _ _ (up _ _ _ _ e))))⟩
 ·exact IsSub.mk' (up _ _ _ _ (up _ _ _ _ (up _ _ _ _ (up _ _ _ _ (pg _ _ _ rfl rfl)))))
 ·exact IsSub.mk' (up _ _ _ _ (up _ _ _ _ (up _ _ _ _ (pg _ _ _ rfl (by simp only [z1])))))
end
theorem apart_new(n:Nat):Apart5 (n+4) (n+2) (n+3) n (n+1):=by
 constructor<;>(show(_:Nat)≠_;omega)
def SqK(k:Bool)(K:PySem.W.Frag)(H:Hp)(a:Addr)(xs:List V):Prop:=if k=true then SqL K H a xs else SqT K H a xs
def Itz(K:PySem.W.Frag)(k1 k2:Bool)(l1 l2:Addr):It:=
 ⟨λi H=> ∃xs ys x y,SqK k1 K H l1 xs/\SqK k2 K H l2 ys/\xs[i]? =some x/\ys[i]? =some y,
   λi H v H'=> ∃p x y,H p=none/\v=.ref p/\H'=upd H p (.tup [x,y])/\(∀xs,SqK k1 K H l1 xs->xs[i]? =some x)/\ ∀ys,SqK k2 K H l2 ys->ys[i]? =some y,
   λi H=> ∃xs ys,SqK k1 K H l1 xs/\SqK k2 K H l2 ys/\(xs.length<=i\/ys.length<=i)⟩
section
variable{X:Cx}{pins:List (Addr×Obj)}{σ:St}{H:Hp}{s:Shared}
theorem _root_.L2.Inv.seqK(I:Inv X pins σ H s){k:Bool}{a:Addr}{xs:List V}(h:SqK k X.K H a xs): ∃its:List Value,Vals xs its/\IsSeq k s.heap a its.toArray/\xs.length<=sizeLine:=by
 cases k with
 |true=>obtain⟨its,r,p,z⟩:=I.list h;exact⟨its,r,p.isList,z⟩
 |false=>obtain⟨its,r,p,z⟩:=I.tuple h;exact⟨its,r,p,z⟩
theorem _root_.L2.Inv.seqK_inj(I:Inv X pins σ H s){k:Bool}{a:Addr}{xs ys:List V}(h:SqK k X.K H a xs)(h':SqK k X.K H a ys):xs=ys:=by
 cases k with
 |true=>exact I.list_inj h h'
 |false=>exact I.tuple_inj h h'
theorem zEX(I:Inv X pins σ H s){k:Bool}{l b:Addr}{xs:List V}(h:SqK k X.K H l xs)(hb:zOC X pins H b):l≠b:=by
 rintro rfl
 have kk: ∀o,X.K.lookup l=some o->False:=λo e=>by
  have e1:=I.mod.kin l o e
  rcases hb.2.2.2.1 with z|z
  ·exact I.ok.noex l o e1 z
  ·exact absurd (lt_of_lt_of_le (Heap.lt_size e1) (le_trans I.ok.bsz z)) (lt_irrefl _)
 cases k with
 |true=>
  rcases (h:SqL X.K H l xs)with(h|⟨o,h⟩)|⟨o,its,n,h,_⟩
  ·rw [hb.1]at h;cases h
  ·rw [hb.1]at h;cases h
  ·exact kk o h
 |false=>
  rcases (h:SqT X.K H l xs)with(h|⟨o,h⟩)|⟨o,its,n,h,_⟩
  ·rw [hb.1]at h;cases h
  ·rw [hb.1]at h;cases h
  ·exact kk o h
end
theorem yKE{P:Program}{w:World}{K:PySem.W.Frag}{elts:List Expr}{kt:Nat}{pt:Pos}{k1 k2:Bool}{z TI TO i1 i2 l1 l2:Addr}(D:Apart5 z TI TO i1 i2):
  Turn P w K (.Tuple elts kt pt) (Itz K k1 k2 l1 l2) [z,TI,TO,i1,i2] z (λi h=>ZipSt k1 k2 z TI TO i1 i2 l1 l2 i h) where
 mem:=by simp
 obj:=λi h st b hb=>by
  obtain⟨hz,hTI,⟨a,b',hTO⟩,h1,h2⟩:=st
  have hb':b=z\/b=TI\/b=TO\/b=i1\/b=i2:=by simpa using hb
  rcases hb' with rfl|rfl|rfl|rfl|rfl
  ·exact⟨_,hz,λv q=>by cases q⟩
  ·exact⟨_,hTI,λv q=>by cases q⟩
  ·exact⟨_,hTO,λv q=>by cases q⟩
  ·exact h1.there
  ·exact h2.there
 keep:=λi h h' st k=>by
  obtain⟨hz,hTI,⟨a,b',hTO⟩,h1,h2⟩:=st
  exact⟨k z (by simp) _ hz,k TI (by simp) _ hTI,⟨a,b',k TO (by simp) _ hTO⟩,h1.move λo e=>k i1 (by simp) o e,h2.move λo e=>k i2 (by simp) o e⟩
 item:=by
  intro X hP hw hK hc i pins s σ H E I hf st hg
  subst hP hw hK
  obtain⟨xs,ys,x,y,q1,q2,hx,hy⟩:=hg
  obtain⟨its,r1,p1,_⟩:=I.seqK q1
  obtain⟨its2,r2,p2,_⟩:=I.seqK q2
  obtain⟨u,hu,ru⟩:=r1.get hx
  obtain⟨v,hv,rv⟩:=r2.get hy
  have off: ∀{k:Bool}{l:Addr}{xs:List V},SqK k X.K H l xs->Off l z TO i1 i2:=λq=>⟨zEX I q (hf z (by simp)),zEX I q (hf TO (by simp)),zEX I q (hf i1 (by simp)),zEX I q (hf i2 (by simp))⟩
  have hT:s.TypeIs (.ref z) "zip":=⟨_,st.z,rfl⟩
  unfold pyNext
  refine wB0 (wpAny_attempt (wpAny_callSpecial?_slot (name:=Str.ofString "__next__") hT F.slot_zip_next (wpAny_call_entry F.slot_zip_next hT F.entry_zip_next
   (yKC D (off q1) (off q2) st p1 p2 (x:=u) (y:=v) (by simpa using hu) (by simpa using hv) λh' a1 a2 a3 a4 a5 a6=>wP0 ⟨_,rfl,?_⟩) (F.args_zip_next_1 _))))
  refine wpAny_letOwnedTupleGo_zip a1 λh2 z2 sb2=>?_
  have hpn:H s.heap.objs.size=none:=I.hok.fresh (le_refl _)
  have I0:Inv X pins σ (upd H s.heap.objs.size (.tup [x,y])) {s with heap:=s.heap.push {cls:=.type "tuple",data:=.seq #[u,v]}}:=
   I.laid (t':=s.toks) (o:=.tup [x,y]) (λb o e=>hP0 _ e) (le_refl _) ⟨by show 2<=sizeLine;decide,[u,v],.cons ru (.cons rv .nil),⟨_,Heap.get?_push_size _ rfl,rfl,_,rfl⟩⟩
  have lt: ∀b∈[z,TI,TO,i1,i2],b<s.heap.objs.size:=λb hb=>by
   have: ∃o,s.heap.get? b=some o:=by
    obtain⟨hz,hTI,⟨a,b',hTO⟩,g1,g2⟩:=st
    have hb':b=z\/b=TI\/b=TO\/b=i1\/b=i2:=by simpa using hb
    rcases hb' with rfl|rfl|rfl|rfl|rfl
    ·exact⟨_,hz⟩
    ·exact⟨_,hTI⟩
    ·exact⟨_,hTO⟩
    ·obtain⟨o,e,_⟩:=g1.there;exact⟨o,e⟩
    ·obtain⟨o,e,_⟩:=g2.there;exact⟨o,e⟩
   obtain⟨o,e⟩:=this
   exact Heap.lt_size e
  have fr: ∀b∈[z,TI,TO,i1,i2],upd H s.heap.objs.size (.tup [x,y]) b=none:=λb hb=>by rw [zV (ne_of_lt (lt b hb))];exact(hf b hb).1
  have zne:s.heap.objs.size≠z:=ne_of_gt (lt z (by simp))
  have mv: ∀b o,b∉[z,TI,TO,i1,i2]->(s.heap.push {cls:=.type "tuple",data:=.seq #[u,v]}).get? b=some o->h2.get? b=some o:=λb o hb e=>by
   simp only [mC0,nM0,or_false,not_or]at hb
   refine sb2.extBut _ _ hb.1 ?_
   by_cases hbs:b=s.heap.objs.size
   ·subst hbs
    rw [Heap.get?_push_size _ rfl]at e
    cases e
    exact a5
   ·rw [Heap.get?_push_ne _ _ _ hbs]at e
    exact a6 b o hb.1 hb.2.2.1 hb.2.2.2.1 hb.2.2.2.2 e
  have I2:=I0.turnedL (h':=h2) (t':=s.toks) mv λb hb=>let ⟨_,c2,c3,c4,c5,c6⟩:=hf b hb;⟨fr b hb,c2,c3,c4,c5,c6⟩
  refine⟨.ref s.heap.objs.size,_,I2,rfl,⟨s.heap.objs.size,x,y,hpn,rfl,rfl,λzs hz=>?_,λzs hz=>?_⟩,⟨z2,?_,⟨u,v,?_⟩,?_,?_⟩,fr⟩
  ·rw [I.seqK_inj hz q1];exact hx
  ·rw [I.seqK_inj hz q2];exact hy
  ·exact sb2.extBut _ _ D.TIz (a6 TI _ D.TIz D.TITO D.TIi1 D.TIi2 st.ti)
  ·exact sb2.extBut _ _ D.TOz a2
  ·exact a3.move λo e=>sb2.extBut _ _ D.i1z e
  ·exact a4.move λo e=>sb2.extBut _ _ D.i2z e
 done:=by
  intro X hP hw hK hc i pins s σ H E I hf st hg
  subst hP hw hK
  obtain⟨xs,ys,q1,q2,hx⟩:=hg
  obtain⟨its,r1,p1,_⟩:=I.seqK q1
  obtain⟨its2,r2,p2,_⟩:=I.seqK q2
  have off: ∀{k:Bool}{l:Addr}{xs:List V},SqK k X.K H l xs->Off l z TO i1 i2:=λq=>⟨zEX I q (hf z (by simp)),zEX I q (hf TO (by simp)),zEX I q (hf i1 (by simp)),zEX I q (hf i2 (by simp))⟩
  have hT:s.TypeIs (.ref z) "zip":=⟨_,st.z,rfl⟩
  have e1:=r1.length
  have e2:=r2.length
  unfold pyNext
  refine wB0 (wpAny_attempt (wpAny_callSpecial?_slot (name:=Str.ofString "__next__") hT F.slot_zip_next (wpAny_call_entry F.slot_zip_next hT F.entry_zip_next
   (yOR (I.ok.hd hc) D (off q1) (off q2) st p1 p2 (by rcases hx with h|h;(exact .inl (by simp;omega));exact .inr (by simp;omega)) λh' e hk he=>?_) (F.args_zip_next_1 _))))
  obtain⟨o,ho,hcl⟩:=he
  refine wB0 (wpAny_isInstance (T:="StopIteration") (b:=true) ⟨o,ho,hcl⟩ isSubtype_stop (wP0 ⟨rfl,?_⟩))
  refine I.turnedL (h':=h') (t':=s.toks) (λb o hb e=>?_) hf
  simp only [mC0,nM0,or_false,not_or]at hb
  exact hk b o hb.1 hb.2.2.1 hb.2.2.2.1 hb.2.2.2.2 e
 self:=λ_ _ _ _ _ st h=>wpAny_pyIter_zip st.z h
structure Sr where
 k:Bool
 ds:List MV
 gs:List (Nat×List MV)
def srcOf(S:Sto):Er->Option Sr
 |.val (.tup ds)=>some ⟨false,ds,[]⟩
 |.new ds=>some ⟨true,ds,[]⟩
 |.val (.scr ds)=>some ⟨true,ds,[]⟩
 |.val (.loc l)=>match S[l]? with
  |some (.lst ds)=>some ⟨true,ds,[(l,ds)]⟩
  |_=>none
 |_=>none
structure SrcD(X:Cx)(q:Sr)(l:Addr)(P:List Addr->Sto->Hp->Prop):Prop where
 get: ∀α S H,P α S H-> ∃vs,SqK q.k X.K H l vs/\DenL X.K α H q.ds vs
 stays: ∀α1 S1 H1 α2 S2 H2,P α1 S1 H1->Ext α1 H1 α2 H2->Wd X.g α2 S2 H2->stay q.gs S2->P α2 S2 H2
 st: ∀α S H,P α S H->stay q.gs S
theorem yCR{X:Cx}{α:List Addr}{S:Sto}{H:Hp}(wd:Wd X.g α S H){r:Er}{x:V}{q:Sr}(e:srcOf S r=some q)(d:DenX X.K α H r x): ∃l P,x=.ref l/\P α S H/\SrcD X q l P:=by
 unfold srcOf at e
 split at e
 ·rename_i ds
  cases e
  obtain⟨a,vs,rfl,s,l⟩:=cN d
  exact⟨a,λα S H=> ∃vs,SqT X.K H a vs/\DenL X.K α H ds vs,rfl,⟨vs,s,l⟩,λα S H h=>h,λα1 S1 H1 α2 S2 H2 ⟨vs,h1,h2⟩ x w _=>⟨vs,x.sqT h1,h2.ext x⟩,λ_ _ _ _=>dW⟩
 ·rename_i ds
  cases e
  obtain⟨b,vs,rfl,h,n,l⟩:=d
  exact⟨b,λα S H=> ∃vs,H b=some (.lst vs)/\b∉α/\DenL X.K α H ds vs,rfl,⟨vs,h,n,l⟩,λα S H ⟨vs,h1,_,h2⟩=>⟨vs,(SqL.of h1:SqL X.K H b vs),h2⟩,
   λα1 S1 H1 α2 S2 H2 ⟨vs,h1,h2,h3⟩ x w _=>⟨vs,x.keep b _ h1 h2,x.out h1 h2,h3.ext x⟩,λ_ _ _ _=>dW⟩
 ·rename_i ds
  cases e
  obtain⟨a,vs,rfl,s,l⟩:=zSW d
  exact⟨a,λα S H=> ∃vs,SqF X.K H a vs/\DenL X.K α H ds vs,rfl,⟨vs,s,l⟩,λα S H ⟨vs,h1,h2⟩=>⟨vs,h1.l,h2⟩,λα1 S1 H1 α2 S2 H2 ⟨vs,h1,h2⟩ x w _=>⟨vs,x.sqF h1,h2.ext x⟩,λ_ _ _ _=>dW⟩
 ·rename_i n
  split at e
  ·rename_i ds hS
   cases e
   obtain⟨a,rfl,h⟩:=zDF d
   obtain⟨vs,h1,h2⟩:=wd.obj n a _ h hS
   refine⟨a,λα S H=> ∃vs,H a=some (.lst vs)/\DenL X.K α H ds vs/\α[n]? =some a/\S[n]? =some (.lst ds),rfl,⟨vs,h1,h2,h,hS⟩,λα S H ⟨vs,h1,h2,_⟩=>⟨vs,(SqL.of h1:SqL X.K H a vs),h2⟩,?_,?_⟩
   ·intro α1 S1 H1 α2 S2 H2 ⟨vs,a1,a2,a3,a4⟩ x w hs
    have hs':=hs (n,ds) (by simp)
    obtain⟨us,b1,b2⟩:=w.obj n a _ (x.at a3) hs'
    exact⟨us,b1,b2,x.at a3,hs'⟩
   ·intro α S H ⟨vs,_,_,_,a4⟩ p hp
    have:p=(n,ds):=by simpa using hp
    subst this
    exact a4
  ·cases e
 ·cases e
def iZip(K:PySem.W.Frag)(ta:TA):TI:=λσ H R=>ta σ H λvs H1=> ∃k1 k2 l1 l2,vs=[.ref l1,.ref l2]/\(∃xs,SqK k1 K H1 l1 xs)/\(∃ys,SqK k2 K H1 l2 ys)/\R (Itz K k1 k2 l1 l2) H1
section
variable{X:Cx}{W:XW}{a b:Expr}{elts:List Expr}{kt:Nat}{pt p pos:Pos}{ta:TA}{af:Rho->Sto->R (List Er)}
theorem yTT:bootBuiltins "zip"=some (.type "zip"):=by decide+kernel
theorem yOS:bootBuiltins "enumerate"=some (.type "enumerate"):=by decide+kernel
theorem yTU(hg:Gl X "zip")(hm:X.mg "zip"=none)(ha:PA X [a,b] ta)(hs:starEach [a,b] X.env=[(false,eval a X.env),(false,eval b X.env)]:=by rfl)(hs2:starEach [b] X.env=[(false,eval b X.env)]:=by rfl):
  PI X (.Tuple elts kt pt) (.Call (.Name "zip" p) [a,b] [] pos) (iZip X.K ta):=by
 intro pins s σ H R I h
 refine Call_ (zPR I hg hm yTT (PyProof.Rows.callWith_type1 (thn (ha pos pins s σ H _ I h) λus s1 ⟨vs,H1,I1,r1,q1⟩=>?_) (by rw [hs,hs2]) (by rw [hs2];rfl)))
 obtain⟨k1,k2,l1,l2,rfl,⟨xs,c1⟩,⟨ys,c2⟩,q⟩:=q1
 cases r1 with
 |cons r rr=>
  cases rr with
  |cons r' rr=>
   cases rr
   cases r
   cases r'
   obtain⟨its,v1,p1,_⟩:=I1.seqK c1
   obtain⟨its2,v2,p2,_⟩:=I1.seqK c2
   refine yKD p1 p2 λh' st hk=>wpAny_pyIter_zip st.z ?_
   have I2:Inv X pins σ H1 {s1 with heap:=h'}:=I1.kept (t':=s1.toks) hk
   refine⟨_,_,_,_,H1,rfl,I2,yKE (apart_new _),st,λb hb=>?_,q⟩
   have hle:s1.heap.objs.size<=b:=by
    have hb':b=s1.heap.objs.size+4\/b=s1.heap.objs.size+2\/b=s1.heap.objs.size+3\/b=s1.heap.objs.size\/b=s1.heap.objs.size+1:=by simpa using hb
    rcases hb' with h|h|h|h|h<;>rw [h]<;>(first |exact le_refl _|exact Nat.le_add_right _ _)
   exact I1.fpOk hle (I1.hok.fresh hle)
def pairs(xs ys:List MV):List MV:=List.zipWith (λx y=>.tup [x,y]) xs ys
def itZ(rs:List Er)(S:Sto):R Wk:=match rs with
 |[p,q]=>match srcOf S p with
  |some a=>match srcOf S q with
   |some b=>.ok ⟨pairs a.ds b.ds,a.gs++b.gs⟩ S
   |none=>.no
  |none=>.no
 |_=>.no
theorem yTV(hg:Gl X "zip")(hm:X.mg "zip"=none)(ha:PAm X W [a,b] af)(hs:starEach [a,b] X.env=[(false,eval a X.env),(false,eval b X.env)]:=by rfl)(hs2:starEach [b] X.env=[(false,eval b X.env)]:=by rfl):
  PIm X W (.Tuple elts kt pt) (.Call (.Name "zip" p) [a,b] [] pos) (λρ S=>(af ρ S).bind itZ):=by
 obtain⟨t,ha,k⟩:=ha
 refine⟨_,yTU hg hm ha hs hs2,λα ρ S σ H Rc wd sl q=>k α ρ S σ H _ wd sl (q.bind λvs rs S1 α1 H1 e x1 w1 d1 q1=>?_)⟩
 replace q1:=q1.shift x1
 unfold itZ at q1
 split at q1
 ·rename_i r1 r2
  split at q1
  ·rename_i s1 e1
   split at q1
   ·rename_i s2 e2
    obtain⟨u,v,rfl,du,dv⟩:=args2 d1
    obtain⟨l1,P1,rfl,p1,D1⟩:=yCR w1 e1 du
    obtain⟨l2,P2,rfl,p2,D2⟩:=yCR w1 e2 dv
    have g1:=D1.get _ _ _ p1
    have g2:=D2.get _ _ _ p2
    refine⟨s1.k,s2.k,l1,l2,rfl,⟨_,g1.choose_spec.1⟩,⟨_,g2.choose_spec.1⟩,q1.here (u:=Itz X.K s1.k s2.k l1 l2) w1 ⟨λα S H=>P1 α S H/\P2 α S H,?_,⟨p1,p2⟩,?_,?_⟩⟩
    ·intro i α2 S2 H2 ⟨b1,b2⟩ w2
     obtain⟨us,c1,c2⟩:=D1.get _ _ _ b1
     obtain⟨ws,c3,c4⟩:=D2.get _ _ _ b2
     have hl:(pairs s1.ds s2.ds).length=min us.length ws.length:=by unfold pairs;rw [List.length_zipWith,c2.length,c4.length]
     refine⟨λhi=>?_,λhi=>?_⟩
     ·have hi:i<(pairs s1.ds s2.ds).length:=hi
      have h1:i<us.length:=by omega
      have h2:i<ws.length:=by omega
      refine⟨⟨us,ws,us[i],ws[i],c1,c3,gE0 h1,gE0 h2⟩,?_⟩
      rintro x H' ⟨pp,xx,yy,hp,rfl,rfl,hx,hy⟩
      obtain⟨d,hd,dd⟩:=c2.get (hx us c1)
      obtain⟨f,hf,df⟩:=c4.get (hy ws c3)
      have xn:=w2.newx (o:=.tup [xx,yy]) hp
      have wn:=w2.new (o:=.tup [xx,yy]) hp
      refine⟨xn,wn,⟨D1.stays _ _ _ _ _ _ b1 xn wn (D1.st _ _ _ b1),D2.stays _ _ _ _ _ _ b2 xn wn (D2.st _ _ _ b2)⟩,.tup [d,f],?_,?_⟩
      ·unfold pairs;rw [List.getElem?_zipWith,hd,hf]
      ·exact zBC (.of yD) (xS (dd.ext xn) (xS (df.ext xn) wU))
     ·have hi:(pairs s1.ds s2.ds).length<=i:=hi
      refine⟨us,ws,c1,c3,?_⟩
      by_cases h1:us.length<=i
      ·exact .inl h1
      ·exact .inr (by omega)
    ·intro α1 S1 H1 α2 S2 H2 ⟨b1,b2⟩ x w hs
     exact⟨D1.stays _ _ _ _ _ _ b1 x w λp hp=>hs p (mem_append_left _ hp),D2.stays _ _ _ _ _ _ b2 x w λp hp=>hs p (mem_append_right _ hp)⟩
    ·intro p hp
     rcases mem_append.mp hp with h|h
     ·exact D1.st _ _ _ p1 p h
     ·exact D2.st _ _ _ p2 p h
   ·exact q1.elim
  ·exact q1.elim
 ·exact q1.elim
end
structure EnSt(k:Bool)(e it l:Addr)(i:Nat)(h:Heap):Prop where
 e: ∃old,IsEnum h e it i old
 s:IsSub k h it l i
section
variable{prog:Program}{w:World}{A:Around}{E:Value->Shared->Prop}{s:Shared}{k:Bool}{e it l:Addr}{i:Nat}{its:Array Value}
theorem yOT{x old:Value}{Q:Value->Shared->Prop}(he:IsEnum s.heap e it i old)(hit:IsSub k s.heap it l i)(hl:IsSeq k s.heap l its)(hx:its[i]? =some x)(hne:e≠it)
  (hQ: ∀h',IsEnumOut h' e it ((i:Int)+1) x s.heap.objs.size->IsSub k h' it l (i+1)->h'.get? s.heap.objs.size=some {cls:=.type "tuple",data:=.seq #[.int i s.toks,x]}->
   (∀b o,b≠e->b≠it->s.heap.get? b=some o->h'.get? b=some o)->Q (.ref s.heap.objs.size) {s with heap:=h',toks:=s.toks+1}):
  wpAny (model prog w) A (Builtin.«enumerate.__next__» ⟨[.ref e],[]⟩) (λfin s'=> ∃v,fin=.done (.ret v)/\Q v s') E s:=by
 obtain⟨hp,g,d,tk,os⟩:=s
 show wpAny _ _ (field (.ref e) 2 >>= _) _ _ _
 refine wB0 (wpAny_field he rfl (x:=.ref it) rfl (wB0 (zOQ hit hl hx λha ita hsa=>?_)))
 replace hsa:Heap.SameBut it hp ha:=hsa
 have ea:IsEnum ha e it i old:=(hsa.2 e hne).trans he
 show wpAny _ _ (field (.ref e) 3 >>= _) _ _ ⟨ha,g,d,tk,os⟩
 refine wB0 (wpAny_field ea rfl (x:=rawInt i) rfl ?_)
 show wpAny _ _ (field (.ref e) 4 >>= _) _ _ ⟨ha,g,d,tk,os⟩
 refine wB0 (wpAny_field ea rfl (x:=.none) rfl ?_)
 show wpAny _ _ (mkInt i >>= _) _ _ ⟨ha,g,d,tk,os⟩
 refine wB0 (wpAny_mkInt ?_)
 show wpAny _ _ (setField (.ref e) 3 (rawInt ((i:Int)+1)) >>= _) _ _ ⟨ha,g,d,tk+1,os⟩
 refine wB0 (wpAny_setField_rec ea (by simp) λhb eb hsb=>?_)
 replace hsb:Heap.SameBut e ha hb:=hsb
 replace eb:IsEnum hb e it ((i:Int)+1) old:=eb
 show wpAny _ _ (setField (.ref e) 4 .none >>= _) _ _ ⟨hb,g,d,tk+1,os⟩
 refine wB0 (wpAny_setField_rec eb (by simp) λhc ec hsc=>?_)
 replace hsc:Heap.SameBut e hb hc:=hsc
 replace ec:IsEnum hc e it ((i:Int)+1) old:=ec
 show wpAny _ _ (newTuple [.int i tk,x] >>= _) _ _ ⟨hc,g,d,tk+1,os⟩
 refine wB0 (wpAny_newTuple ?_)
 have hsz:hc.objs.size=hp.objs.size:=by rw [hsc.1,hsb.1,hsa.1]
 have hel:e<hp.objs.size:=Heap.lt_size he
 have ed:IsEnum (hc.push {cls:=.type "tuple",data:=.seq #[.int i tk,x]}) e it ((i:Int)+1) old:=hP0 _ ec
 have td:(hc.push {cls:=.type "tuple",data:=.seq #[.int i tk,x]}).get? hp.objs.size=some {cls:=.type "tuple",data:=.seq #[.int i tk,x]}:=by rw [<-hsz];exact Heap.get?_push_size _ rfl
 have kd: ∀b o,b≠e->b≠it->hp.get? b=some o->(hc.push {cls:=.type "tuple",data:=.seq #[.int i tk,x]}).get? b=some o:=λb o n1 n2 q=>
  hP0 _ (hsc.extBut b o n1 (hsb.extBut b o n1 (hsa.extBut b o n2 q)))
 have sd:IsSub k (hc.push {cls:=.type "tuple",data:=.seq #[.int i tk,x]}) it l (i+1):=ita.move λo q=>hP0 _ (hsc.extBut _ o (Ne.symm hne) (hsb.extBut _ o (Ne.symm hne) q))
 generalize hc.push {cls:=.type "tuple",data:=.seq #[.int i tk,x]}=hd at ed td kd sd ⊢
 show wpAny _ _ (Builtin.SmallTypes.ownedTupleIsFree (.ref e) >>= _) _ _ ⟨hd,g,d,tk+1,os⟩
 rw [hsz]
 refine wB0 ?_
 unfold Builtin.SmallTypes.ownedTupleIsFree
 refine wB0 (wpAny_field ed rfl (x:=.none) rfl (wP0 ?_))
 simp only [if_true]
 refine wB0 (wpAny_rule (wB0 (wpAny_field ed rfl (x:=old) rfl (wB0 (wpAny_setField_rec ed (by simp) λhf ef hsf=>?_)))))
 replace hsf:Heap.SameBut e hd hf:=hsf
 replace ef:IsEnum hf e it ((i:Int)+1) x:=ef
 show wpAny _ _ (Builtin.SmallTypes.ownedTupleHandOut (.ref e) (.ref hp.objs.size) >>= _) _ _ ⟨hf,g,d,tk+1,os⟩
 refine wB0 ?_
 unfold Builtin.SmallTypes.ownedTupleHandOut
 refine wB0 (wpAny_setField_rec ef (by simp) λhg' eg hsg=>?_)
 replace hsg:Heap.SameBut e hf hg':=hsg
 replace eg:IsEnumOut hg' e it ((i:Int)+1) x hp.objs.size:=eg
 refine wpAny_setField_rec eg (by simp) λhh' eh hsh=>?_
 replace hsh:Heap.SameBut e hg' hh':=hsh
 replace eh:IsEnumOut hh' e it ((i:Int)+1) x hp.objs.size:=eh
 have up: ∀b o,b≠e->hd.get? b=some o->hh'.get? b=some o:=λb o n q=>hsh.extBut b o n (hsg.extBut b o n (hsf.extBut b o n q))
 exact wB0 (wpAny_letGo (wP0 ⟨_,rfl,hQ hh' eh (sd.move λo q=>up _ o (Ne.symm hne) q) (up _ _ (ne_of_gt hel) td) λb o n1 n2 q=>up b o n1 (kd b o n1 n2 q)⟩))
theorem yCS(k:Bool)(l:Addr)(its:Array Value):
  Meets (Builtin.«enumerate.__new__» ⟨[.type "enumerate",.ref l],[]⟩) (λ_ R s=>IsSeq k s.heap l its/\
   R (.ok (.ret (.ref (s.heap.objs.size+1)))) {s with heap:=(s.heap.push (zIF k l)).push {cls:=.type "enumerate",data:=.fields #[.none,.bool false,.ref s.heap.objs.size,rawInt 0,.none,.none]}}):=
 .of_wp λprog w A R s h=>by
  obtain⟨hp,g,d,tk,os⟩:=s;obtain⟨hl,h⟩:=h
  have hsub:=sub_enumerate
  have hL:IsSeq k (Shared.heap ⟨hp,g,d,tk,os⟩) l its:=hl
  have z1: ∀(h:Heap)(o:Obj),(h.push o).objs.size=h.objs.size+1:=λh o=>Heap.size_push ..
  wp_walk
  refine wpAny_stack_any λst=>wP0 ?_
  split
  ·rename_i c _ _ _ _ _
   cases (c==Value.type "enumerate")
   ·wp_walk using zKF hL
    exact⟨_,rfl,by simp only [z1];exact h⟩
   ·wp_walk using zKF hL
    exact⟨_,rfl,by simp only [z1];exact h⟩
  ·wp_walk using zKF hL
   exact⟨_,rfl,by simp only [z1];exact h⟩
end
def zWJ(K:PySem.W.Frag)(F:List MV->Sto->R Er):Sp:=λvs H Q _=> ∃ds,DenL K [] H ds vs/\ds.length=1/\ ∀g:Gm,g.K=K->Post g W0 [] H (F ds []) Q
theorem yKF{g:Gm}{F:List MV->Sto->R Er}: ∀vs H Q E,zWJ g.K F vs H Q E->spM g 1 F vs H Q E:=λvs H Q E ⟨ds,l,hl,q⟩=>⟨[],[],ds,⟨rfl,by simp,λl a o h=>by simp at h⟩,l,hl,q g rfl⟩
theorem yTW{K:PySem.W.Frag}{H:Hp}{a:Addr}{xs:List V}(hO:yIY H)(h:SqL K H a xs):SqF K H a xs:=by
 rcases h with(h|⟨o,h⟩)|h
 ·rcases hO a with z|⟨o,ys,z⟩
  ·rw [z]at h;cases h
  ·rw [z]at h;cases h
 ·exact .inl ⟨o,h⟩
 ·exact .inr h
theorem yKG{K:PySem.W.Frag}{F:List MV->Sto->R Er}{H:Hp}{a:Addr}{ns:List Int}(hO:yIY H)(hS:SqL K H a (ns.map V.int))(h: ∃S,F [.scr (ns.map MV.int)] []=.ok (.val (.bl true)) S):zWJ K F [.ref a] H (λv _=>v=.bl true) λ_ _ _=>False:=by
 obtain⟨S,h⟩:=h
 refine⟨_,xS (yEN (yTW hO hS) (zWF ns)) wU,rfl,λg _=>?_⟩
 rw [h]
 exact λv α' H' x w d=>zJK d.1
theorem bok{β γ:Type}(b:β)(S:Sto)(k:β->Sto->R γ):(R.ok b S).bind k=k b S:=by
 have h:=R.bind_ok b S k
 exact Eq.trans h rfl
theorem yOU(d:MV)(S:Sto):rdSl (some (some d)) S=.ok (.val d) S:=rfl
theorem zTJ{S T:Sto}:yAA S (S++T):=⟨by rw [lA];omega,λl hl=>.inl (getElem?_append_left hl)⟩
theorem cO(n:Nat)(i:Int):lo n (.int i):=by unfold lo;trivial
theorem zIG(n:Nat)(i:List Nat):lo n (.str i):=by unfold lo;trivial
theorem zTK(n:Nat)(i:Bool):lo n (.bl i):=by unfold lo;trivial
theorem yCT(n:Nat):lo n .non:=by unfold lo;trivial
theorem zAN{n:Nat}{ds:List MV}(h:loL n ds):lo n (.tup ds):=by unfold lo;exact h
theorem gL{n:Nat}: ∀{ds:List MV},(∀d∈ds,lo n d)->loL n ds
 |[],_=>by unfold loL;trivial
 |d::ds,h=>by unfold loL;exact⟨h d mF0,gL λe he=>h e (mO _ he)⟩
theorem zTL{S T:Sto}{d:MV}(h:lo S.length d)(hn: ∀l,d≠.loc l):zCR S (.val d) (S++T)=.ok (.val d) S:=by
 unfold zCR
 rw [iP zTJ]
 have e:(S++T).take S.length=S:=by simp
 cases d with
 |loc l=>exact absurd rfl (hn l)
 |_=>dsimp only;rw [iP h,e]
theorem yKH{S T:Sto}{ds:List MV}(h:loL S.length ds):zCR S (.new ds) (S++T)=.ok (.new ds) S:=by
 unfold zCR
 rw [iP zTJ]
 have e:(S++T).take S.length=S:=by simp
 dsimp only
 rw [iP h,e]
theorem yKI{S T:Sto}{l:Nat}{ds:List MV}(hl:S.length<=l)(hS:(S++T)[l]? =some (.lst ds))(h:loL S.length ds):zCR S (.val (.loc l)) (S++T)=.ok (.new ds) S:=by
 unfold zCR
 rw [iP zTJ]
 have e:(S++T).take S.length=S:=by simp
 dsimp only
 rw [iN0 (by omega),hS]
 dsimp only
 rw [iP h,e]
theorem zBM{n:Nat}{F:List MV->Sto->R Er}{rs:List Er}{S T:Sto}{d:MV}(hn:rs.length=n)(hF:F (zY rs S).1 (zY rs S).2=.ok (.val d) (S++T))(h:lo S.length d)(hd: ∀l,d≠.loc l):zX n F rs S=.ok (.val d) S:=by
 unfold zX
 rw [iP hn,hF]
 exact zTL h hd
theorem yKJ{n:Nat}{F:List MV->Sto->R Er}{rs:List Er}{S T:Sto}{ds:List MV}(hn:rs.length=n)(hF:F (zY rs S).1 (zY rs S).2=.ok (.new ds) (S++T))(h:loL S.length ds):zX n F rs S=.ok (.new ds) S:=by
 unfold zX
 rw [iP hn,hF]
 exact yKH h
theorem yKK{n:Nat}{F:List MV->Sto->R Er}{rs:List Er}{S T:Sto}{l:Nat}{ds:List MV}(hn:rs.length=n)(hF:F (zY rs S).1 (zY rs S).2=.ok (.val (.loc l)) (S++T))(hl:S.length<=l)(hS:(S++T)[l]? =some (.lst ds))(h:loL S.length ds):zX n F rs S=.ok (.new ds) S:=by
 unfold zX
 rw [iP hn,hF]
 exact yKI hl hS h
theorem zHF{n:Nat}{F:List MV->Sto->R Er}{rs:List Er}{S:Sto}{d:MV}(hn:rs.length=n)(hF:F (zY rs S).1 (zY rs S).2=.ok (.val d) S)(h:lo S.length d)(hd: ∀l,d≠.loc l):zX n F rs S=.ok (.val d) S:=zBM (T:=[]) hn (by rw [aN];exact hF) h hd
theorem yAE{gf:MV->Rho->Sto->R Rho}{body:Rho->Sto->R Fl}{gs:List (Nat×List MV)}{L:List MV}(I:Nat->Rho->Sto->Prop)
  (st: ∀i d,L[i]? =some d-> ∀ρ S,I i ρ S-> ∃ρ' S',((gf d ρ S).bind λρ0 S0=>body ρ0 S0)=.ok (.next ρ') S'/\stay gs S'/\I (i+1) ρ' S'):
  ∀(n i:Nat){ρ:Rho}{S:Sto},n+i=L.length->I i ρ S-> ∃ρ' S',bS gf body gs (L.drop i) ρ S=.ok (.next ρ') S'/\I L.length ρ' S'
 |0,i,ρ,S,hn,h=>by
  have e:i=L.length:=by omega
  subst e
  rw [drop_length]
  exact⟨ρ,S,rfl,h⟩
 |n+1,i,ρ,S,hn,h=>by
  have hi:i<L.length:=by omega
  obtain⟨ρ1,S1,e,hs,h1⟩:=st i L[i] (gE0 hi) ρ S h
  obtain⟨ρ2,S2,e2,h2⟩:=yAE I st n (i+1) (by omega) h1
  refine⟨ρ2,S2,?_,h2⟩
  rw [List.drop_eq_getElem_cons hi]
  unfold bS
  cases z:gf L[i] ρ S with
  |ok ρ0 S0=>
   rw [z]at e
   have e:body ρ0 S0=.ok (.next ρ1) S1:=e
   rw [bok]
   show(body ρ0 S0).bind _=_
   rw [e,bok]
   dsimp only
   rw [iP hs]
   exact e2
  |exc c fs S0=>rw [z]at e;cases e
  |no=>rw [z]at e;cases e
theorem yCU{gf:MV->Rho->Sto->R Rho}{body:Rho->Sto->R Fl}{gs:List (Nat×List MV)}{L:List MV}(I:Nat->Rho->Sto->Prop)
  (st: ∀i d,L[i]? =some d-> ∀ρ S,I i ρ S-> ∃ρ' S',((gf d ρ S).bind λρ0 S0=>body ρ0 S0)=.ok (.next ρ') S'/\stay gs S'/\I (i+1) ρ' S') {ρ:Rho} {S:Sto} (h:I 0 ρ S):
  ∃ρ' S',bS gf body gs L ρ S=.ok (.next ρ') S'/\I L.length ρ' S':=yAE I st L.length 0 (by omega) h
section
variable{S:Sto}
theorem as_bl(b:Bool)(S:Sto):asB (.val (.bl b)) S=.ok b S:=rfl
theorem as_int(i:Int)(S:Sto):asI (.val (.int i)) S=.ok (some i) S:=rfl
theorem yTX(b:Bool)(S:Sto):gK (.val (.bl b)) S=.ok b S:=rfl
theorem add_int(i j:Int)(S:Sto):xN (.val (.int i)) (.val (.int j)) S=.ok (.val (.int (i+j))) S:=rfl
theorem sub_int(i j:Int)(S:Sto):yCN (.val (.int i)) (.val (.int j)) S=.ok (.val (.int (i - j))) S:=rfl
theorem add_str{x y:List Nat}(h:x.length+y.length<=sizeLine):xN (.val (.str x)) (.val (.str y)) S=.ok (.val (.str (x++y))) S:=iP h
theorem zCY{x y:List MV}(h:x.length+y.length<=sizeLine):xN (.val (.tup x)) (.val (.tup y)) S=.ok (.val (.tup (x++y))) S:=iP h
theorem zTM{p q:Er}{x y:List MV}(h1:lsW S p=some x)(h2:lsW S q=some y)(h:x.length+y.length<=sizeLine):xN p q S=.ok (.new (x++y)) S:=by
 have e:yEW p q S=.ok (.new (x++y)) S:=by
  unfold yEW
  rw [h1,h2]
  exact iP h
 unfold xN
 split
 ·cases h1
 ·cases h1
 ·cases h1
 ·exact e
theorem yTY{g:Int->Int->Bool}(i j:Int)(S:Sto):ibF g (.val (.int i)) (.val (.int j)) S=.ok (.val (.bl (g i j))) S:=rfl
theorem yOV(i j:Int):eqV (.int i) (.int j)=decide (i=j):=by
 show(i==j)=_
 by_cases h:i=j
 ·subst h;simp
 ·rw [dF0 h];simpa using h
theorem yOW(x y:List Nat):eqV (.str (mkS x)) (.str (mkS y))=decide (x=y):=by
 show(mkS x==mkS y)=_
 by_cases h:x=y
 ·subst h;simp
 ·rw [dF0 h]
  have:mkS x≠mkS y:=λz=>h (zXH z)
  simpa using this
theorem zRT(n:Nat)(i j:Int):eqv S (n+1) (.int i) (.int j)=some (decide (i=j)):=by rw [<-yOV];rfl
theorem zOR(n:Nat)(x y:List Nat):eqv S (n+1) (.str x) (.str y)=some (decide (x=y)):=by rw [<-yOW];rfl
theorem yKL(n:Nat)(x:Int)(y:List Nat):eqv S (n+1) (.int x) (.str y)=some false:=rfl
theorem yKM(n:Nat)(x:List Nat)(y:Int):eqv S (n+1) (.str x) (.int y)=some false:=rfl
theorem yTZ(n:Nat)(x y:Bool):eqv S (n+1) (.bl x) (.bl y)=some (x==y):=rfl
theorem yOX(d f:MV):eqF (.val d) (.val f) S=match eqv S (yN+1) d f with |some k=>.ok (.val (.bl k)) S|none=>.no:=rfl
theorem yOY(d f:MV):neF (.val d) (.val f) S=match eqv S (yN+1) d f with |some k=>.ok (.val (.bl !k)) S|none=>.no:=rfl
theorem zTN{d f:MV}{k:Bool}(h:eqv S (yN+1) d f=some k):eqF (.val d) (.val f) S=.ok (.val (.bl k)) S:=by rw [yOX,h]
theorem yKN{d f:MV}{k:Bool}(h:eqv S (yN+1) d f=some k):neF (.val d) (.val f) S=.ok (.val (.bl !k)) S:=by rw [yOY,h]
theorem eq_int(i j:Int)(S:Sto):eqF (.val (.int i)) (.val (.int j)) S=.ok (.val (.bl (decide (i=j)))) S:=zTN (zRT _ i j)
theorem eq_str(x y:List Nat)(S:Sto):eqF (.val (.str x)) (.val (.str y)) S=.ok (.val (.bl (decide (x=y)))) S:=zTN (zOR _ x y)
theorem ne_int(i j:Int)(S:Sto):neF (.val (.int i)) (.val (.int j)) S=.ok (.val (.bl (!decide (i=j)))) S:=yKN (zRT _ i j)
theorem lt_int(i j:Int)(S:Sto):ltF (.val (.int i)) (.val (.int j)) S=.ok (.val (.bl (decide (i<j)))) S:=rfl
theorem lt_str(i j:List Nat)(S:Sto):ltF (.val (.str i)) (.val (.str j)) S=.ok (.val (.bl (decide (i<j)))) S:=rfl
theorem xW{b:Int}(h:0<b)(h2:b<1073741824)(a:Int)(S:Sto):zBK (.val (.int a)) (.val (.int b)) S=.ok (.val (.int (a / b))) S:=by
 refine iP ⟨h,?_⟩
 have h3:b.natAbs<2 ^ 30:=by omega
 have:=(log2_lt (by omega:b.natAbs≠0)).mpr h3
 omega
theorem mod_lit{b:Int}(h:0<b)(a:Int)(S:Sto):gP (.val (.int a)) (.val (.int b)) S=.ok (.val (.int (a % b))) S:=iP h
theorem zRU{b:Int}(h: -(2 ^ 64)<b/\b<2 ^ 64)(a:Int)(S:Sto):zVC (.val (.int a)) (.val (.int b)) S=.ok (.val (.int (a * b))) S:=iP (Or.inr (Or.inl h))
theorem yKO{a:Int}(h: -(2 ^ 64)<a/\a<2 ^ 64)(b:Int)(S:Sto):zVC (.val (.int a)) (.val (.int b)) S=.ok (.val (.int (a * b))) S:=iP (Or.inl h)
theorem yOZ{a b:Int}(h:yHH a b)(S:Sto):zFI (.val (.int a)) (.val (.int b)) S=.ok (.val (.int (a ^ b.toNat))) S:=iP h
theorem yPA(ρ:Rho)(i:Nat)(d:MV)(S:Sto):zXM ρ i (.val d) S=.ok (.next (ρ.set i (some d))) S:=rfl
theorem yPB(ρ:Rho)(i:Nat)(ds:List MV)(S:Sto):zXM ρ i (.new ds) S=.ok (.next (ρ.set i (some (.loc S.length)))) (S++[.lst ds]):=rfl
theorem yPC(S:Sto):zY [] S=([],S):=rfl
theorem yPD(d:MV)(rs:List Er)(S:Sto):zY (.val d::rs) S=(d::(zY rs S).1,(zY rs S).2):=rfl
theorem zE{F G:Rho->Sto->R Fl}{ρ ρ':Rho}{S S':Sto}(h:F ρ S=.ok (.next ρ') S'):zN F G ρ S=G ρ' S':=by unfold zN;rw [h];rfl
theorem zU{F G:Rho->Sto->R Fl}{ρ:Rho}{S S':Sto}{r:Er}(h:F ρ S=.ok (.ret r) S'):zN F G ρ S=.ok (.ret r) S':=by unfold zN;rw [h];rfl
theorem gC(S:Sto):stay [] S:=dW
theorem gD{gf:MV->Rho->Sto->R Rho}{b:Rho->Sto->R Fl}{gs:List (Nat×List MV)}{d:MV}{ds:List MV}{ρ ρ0 ρ':Rho}{S0 S':Sto}(hg:gf d ρ S=.ok ρ0 S0)(h:b ρ0 S0=.ok (.next ρ') S')(hs:stay gs S'):bS gf b gs (d::ds) ρ S=bS gf b gs ds ρ' S':=by
 conv=>lhs;unfold bS
 rw [hg,bok,h,bok]
 dsimp only
 rw [iP hs]
theorem zEY{gf:MV->Rho->Sto->R Rho}{b:Rho->Sto->R Fl}{gs:List (Nat×List MV)}{d:MV}{ds:List MV}{ρ ρ0:Rho}{S0 S':Sto}{r:Er}(hg:gf d ρ S=.ok ρ0 S0)(h:b ρ0 S0=.ok (.ret r) S'):bS gf b gs (d::ds) ρ S=.ok (.ret r) S':=by
 conv=>lhs;unfold bS
 rw [hg,bok,h,bok]
theorem gM{α:Type}{xs:List α}{i:Int}(h0:0<=i)(h1:i<xs.length): ∃c,atI xs i=some c:=by
 refine⟨xs[i.toNat]'(by omega),?_⟩
 unfold atI ixN
 rw [iP h0,iP h1]
 exact gE0 _
theorem gN{α:Type}{P:α->Prop}{xs:List α}{i:Int}{e:α}(h: ∀e∈xs,P e)(z:atI xs i=some e):P e:=by
 unfold atI at z
 cases q:ixN xs.length i with
 |none=>rw [q]at z;cases z
 |some j=>rw [q]at z;exact h e (mem_of_getElem? (show xs[j]? =some e from z))
theorem ix_str{x:List Nat}{i:Int}{c:Nat}(h:x.length<=sizeLine)(hk:atI x i=some c):ixF (.val (.str x)) (.val (.int i)) S=.ok (.val (.str [c])) S:=by
 show(if x.length<=sizeLine then match atI x i with |some c=>R.ok (Er.val (.str [c])) S|none=>.no else .no)=_
 rw [iP h,hk]
theorem ix_tup{ds:List MV}{i:Int}{d:MV}(hk:atI ds i=some d):ixF (.val (.tup ds)) (.val (.int i)) S=.ok (.val d) S:=by
 show(match atI ds i with |some d=>R.ok (Er.val d) S|none=>.no)=_
 rw [hk]
theorem zMZ{ds:List MV}{i:Int}{d:MV}(hk:atI ds i=some d):ixF (.new ds) (.val (.int i)) S=.ok (.val d) S:=by
 show(match atI ds i with |some d=>R.ok (Er.val d) S|none=>.no)=_
 rw [hk]
theorem nA{l:Nat}{ds:List MV}{i:Int}{d:MV}(hS:S[l]? =some (.lst ds))(hk:atI ds i=some d):ixF (.val (.loc l)) (.val (.int i)) S=.ok (.val d) S:=by
 have e:dZ S (.val (.loc l))=some ds:=by unfold dZ;dsimp only;rw [hS]
 show(match dZ S (.val (.loc l))with |some ds=>getL ds (.val (.int i)) S|none=>.no)=_
 rw [e]
 show(match atI ds i with |some d=>R.ok (Er.val d) S|none=>.no)=_
 rw [hk]
theorem yPE{l:Nat}{ds:List MV}(hS:S[l]? =some (.lst ds)):xB [.val (.loc l)] S=.ok (.val (.int ds.length)) S:=by
 have e:dZ S (.val (.loc l))=some ds:=by unfold dZ;dsimp only;rw [hS]
 have e2:itemsOf S (.val (.loc l))=some ds:=by unfold itemsOf;exact e
 show(match itemsOf S (.val (.loc l))with |some ds=>R.ok (Er.val (.int ds.length)) S|none=>.no)=_
 rw [e2]
theorem zHG{l:Nat}{ds:List MV}(hS:S[l]? =some (.lst ds)):dZ S (.val (.loc l))=some ds:=by unfold dZ;dsimp only;rw [hS]
theorem yFD{l:Nat}{ds:List MV}(hS:S[l]? =some (.lst ds)):lsW S (.val (.loc l))=some ds:=by unfold lsW;dsimp only;rw [hS]
theorem yKP{l:Nat}{ds:List MV}(hS:S[l]? =some (.lst ds)):stay [(l,ds)] S:=λp hp=>by
 have:p=(l,ds):=by simpa using hp
 subst this;exact hS
theorem zNA{j:Int}(h: -(2 ^ 62)<=j/\j<2 ^ 62):zMK [.val (.int j)] S=.ok ⟨(List.range j.toNat).map λk=>.int (k:Nat),[]⟩ S:=iP h
theorem cut_str{x:List Nat}(h:x.length<=sizeLine)(lo hi:Option Int):kY (.val (.str x)) lo hi S=.ok (.val (.str (xF x lo hi))) S:=iP h
theorem zHH{α:Type}{x:List α}{lo hi:Option Int}{a:α}(h:a∈xF x lo hi):a∈x:=List.mem_of_mem_drop (List.mem_of_mem_take h)
theorem yPF{α:Type}(x:List α)(k:Int)(h0:0<=k):xF x none (some k)=x.take k.toNat:=by
 unfold xF
 have h1:HT.sIx x.length 0 none=0:=rfl
 rw [h1]
 have h2:HT.sIx x.length x.length (some k)=min k.toNat x.length:=by
  unfold HT.sIx
  simp only
  split<;>omega
 rw [h2,List.drop_zero,Nat.sub_zero]
 by_cases hk:k.toNat<=x.length
 ·rw [Nat.min_eq_left hk]
 ·rw [Nat.min_eq_right (by omega),List.take_length,List.take_of_length_le (by omega)]
theorem fits{n:Nat}(h:n<=1000000):n<=sizeLine:=by rw [sizeLine_eq];exact le_trans h (by decide)
theorem zFJ{rs:List Er}(h:rs.length<=1000000):jP rs S=.ok (.new (zY rs S).1) (zY rs S).2:=iP (fits h)
theorem zNB{rs:List Er}(h:rs.length<=1000000):xE rs S=.ok (.val (.tup (zY rs S).1)) (zY rs S).2:=iP (fits h)
theorem lst0(S:Sto):jP [] S=.ok (.new []) S:=zFJ (by simp)
theorem lst1(a:MV)(S:Sto):jP [.val a] S=.ok (.new [a]) S:=zFJ (by simp)
theorem lst2(a b:MV)(S:Sto):jP [.val a,.val b] S=.ok (.new [a,b]) S:=zFJ (by simp)
theorem lst3(a b c:MV)(S:Sto):jP [.val a,.val b,.val c] S=.ok (.new [a,b,c]) S:=zFJ (by simp)
theorem lst6(a b c d e f:MV)(S:Sto):jP [.val a,.val b,.val c,.val d,.val e,.val f] S=.ok (.new [a,b,c,d,e,f]) S:=zFJ (by simp)
theorem tup2(a b:MV)(S:Sto):xE [.val a,.val b] S=.ok (.val (.tup [a,b])) S:=zNB (by simp)
theorem tup3(a b c:MV)(S:Sto):xE [.val a,.val b,.val c] S=.ok (.val (.tup [a,b,c])) S:=zNB (by simp)
theorem yUA(i:Int)(S:Sto):jI [.val (.int i),.val (.typ "str")] S=.ok (.val (.bl false)) S:=rfl
theorem yUB(i:List Nat)(S:Sto):jI [.val (.str i),.val (.typ "str")] S=.ok (.val (.bl true)) S:=rfl
theorem yUC(i:Int)(S:Sto):jI [.val (.int i),.val (.typ "tuple")] S=.ok (.val (.bl false)) S:=rfl
theorem yUD(i:List Nat)(S:Sto):jI [.val (.str i),.val (.typ "tuple")] S=.ok (.val (.bl false)) S:=rfl
theorem yKQ(i:List MV)(S:Sto):jI [.val (.tup i),.val (.typ "tuple")] S=.ok (.val (.bl true)) S:=rfl
theorem yUE(i:Bool)(S:Sto):jI [.val (.bl i),.val (.typ "bool")] S=.ok (.val (.bl true)) S:=rfl
theorem zBN{gf:MV->Rho->Sto->R Rho}{cf:Rho->Sto->R Bool}{ef:Rho->Sto->R Er}{ρb:Rho}{gs:List (Nat×List MV)}{F:MV->MV}(hs:stay gs S):
  ∀{ds:List MV},(∀d∈ds, ∃ρ1,gf d ρb S=.ok ρ1 S/\cf ρ1 S=.ok true S/\ef ρ1 S=.ok (.val (F d)) S)->jE gf cf ef ρb gs ds S=.ok (ds.map F) S
 |[],_=>rfl
 |d::ds,st=>by
  obtain⟨ρ1,h1,h2,h3⟩:=st d mF0
  have e:=zBN hs (ds:=ds) λd hd=>st d (mO _ hd)
  unfold jE
  rw [h1,dY,bok,h2,dY,bok,iP rfl,h3,dY,bok]
  unfold zIC
  rw [bok,iP hs,e]
  rfl
def Nm(x:List Nat):Prop:=1<=x.length/\x.length<=8/\ ∀c∈x,97<=c/\c<=122
def Vl:MV->Prop
 |.int i=> -(10 ^ 30)<i/\i<10 ^ 30
 |.str x=>Nm x
 |_=>False
theorem Vl.cases{d:MV}(h:Vl d):(∃i,d=.int i/\ -(10 ^ 30)<i/\i<10 ^ 30)\/ ∃x,d=.str x/\Nm x:=by
 cases d with
 |int i=>exact .inl ⟨i,rfl,h⟩
 |str x=>exact .inr ⟨x,rfl,h⟩
 |_=>exact h.elim
theorem Vl.lo{d:MV}(h:Vl d)(n:Nat):lo n d:=by
 rcases h.cases with⟨i,rfl,_⟩|⟨x,rfl,_⟩
 ·exact cO n i
 ·exact zIG n x
end
def Ite(K:PySem.W.Frag)(k:Bool)(l:Addr):It:=
 ⟨λi H=> ∃xs x,SqK k K H l xs/\xs[i]? =some x,
   λi H v H'=> ∃p x,H p=none/\v=.ref p/\H'=upd H p (.tup [.int (i:Nat),x])/\(∀xs,SqK k K H l xs->xs[i]? =some x),
   λi H=> ∃xs,SqK k K H l xs/\xs.length<=i⟩
section
variable{prog:Program}{w:World}{A:Around}{E:Value->Shared->Prop}{s:Shared}{k:Bool}{e it l:Addr}{i:Nat}{its:Array Value}
theorem yHP(hl:IsSeq k s.heap l its){Q:Value->Shared->Prop}
  (h: ∀h',EnSt k (s.heap.objs.size+1) s.heap.objs.size l 0 h'->(∀c o,s.heap.get? c=some o->h'.get? c=some o)->Q (.ref (s.heap.objs.size+1)) {s with heap:=h'}):
  wpAny (model prog w) A (call (.type "enumerate") [.ref l]) Q E s:=by
 refine callType_new F.called_enumerate (by decide) (F.typeCall_enumerate_1 _) (F.newCall_enumerate_1 _) (λobj=>F.args_object_init_2 obj _) F.entry_enumerate_new (yCS k l its) ⟨hl,?_⟩
 have hz:(s.heap.push (zIF k l)).objs.size=s.heap.objs.size+1:=Heap.size_push ..
 show _/\_
 have he:IsEnum ((s.heap.push (zIF k l)).push {cls:=.type "enumerate",data:=.fields #[.none,.bool false,.ref s.heap.objs.size,rawInt 0,.none,.none]}) (s.heap.objs.size+1) s.heap.objs.size 0 .none:=by
  have:=Heap.get?_push_size (s.heap.push (zIF k l)) (o:={cls:=.type "enumerate",data:=.fields #[.none,.bool false,.ref s.heap.objs.size,rawInt 0,.none,.none]}) rfl
  rw [hz]at this;exact this
 refine⟨⟨_,he,rfl⟩,h _ ⟨⟨.none,he⟩,IsSub.mk' (hP0 _ (Heap.get?_push_size _ rfl))⟩ λb o x=>hP0 _ (hP0 _ x)⟩
end
theorem yHQ{P:Program}{w:World}{K:PySem.W.Frag}{elts:List Expr}{kt:Nat}{pt:Pos}{k:Bool}{e it l:Addr}(hne:e≠it):
  Turn P w K (.Tuple elts kt pt) (Ite K k l) [e,it] e (λi h=>EnSt k e it l i h) where
 mem:=by simp
 obj:=λi h st b hb=>by
  obtain⟨⟨old,he⟩,hs⟩:=st
  have hb':b=e\/b=it:=by simpa using hb
  rcases hb' with rfl|rfl
  ·exact⟨_,he,λv q=>by cases q⟩
  ·exact hs.there
 keep:=λi h h' st kk=>by
  obtain⟨⟨old,he⟩,hs⟩:=st
  exact⟨⟨old,kk e (by simp) _ he⟩,hs.move λo q=>kk it (by simp) o q⟩
 item:=by
  intro X hP hw hK hc i pins s σ H E I hf st hg
  subst hP hw hK
  obtain⟨xs,x,q1,hx⟩:=hg
  obtain⟨its,r1,p1,_⟩:=I.seqK q1
  obtain⟨u,hu,ru⟩:=r1.get hx
  obtain⟨⟨old,he⟩,hs⟩:=st
  have hT:s.TypeIs (.ref e) "enumerate":=⟨_,he,rfl⟩
  unfold pyNext
  refine wB0 (wpAny_attempt (wpAny_callSpecial?_slot (name:=Str.ofString "__next__") hT F.slot_enumerate_next (wpAny_call_entry F.slot_enumerate_next hT F.entry_enumerate_next
   (yOT he hs p1 (x:=u) (by simpa using hu) hne λh' a1 a2 a3 a4=>wP0 ⟨_,rfl,?_⟩) (F.args_enumerate_next_1 _))))
  refine wpAny_letOwnedTupleGo_enum a1 λh2 z2 sb2=>?_
  have hpn:H s.heap.objs.size=none:=I.hok.fresh (le_refl _)
  have I0:Inv X pins σ (upd H s.heap.objs.size (.tup [.int (i:Nat),x])) {s with heap:=s.heap.push {cls:=.type "tuple",data:=.seq #[.int i s.toks,u]},toks:=s.toks+1}:=
   I.laid (t':=s.toks+1) (o:=.tup [.int (i:Nat),x]) (λb o e=>hP0 _ e) (le_refl _) ⟨by show 2<=sizeLine;decide,[.int i s.toks,u],.cons ⟨_,rfl⟩ (.cons ru .nil),⟨_,Heap.get?_push_size _ rfl,rfl,_,rfl⟩⟩
  have lt: ∀b∈[e,it],b<s.heap.objs.size:=λb hb=>by
   have hb':b=e\/b=it:=by simpa using hb
   rcases hb' with rfl|rfl
   ·exact Heap.lt_size he
   ·obtain⟨o,eo,_⟩:=hs.there;exact Heap.lt_size eo
  have fr: ∀b∈[e,it],upd H s.heap.objs.size (.tup [.int (i:Nat),x]) b=none:=λb hb=>by rw [zV (ne_of_lt (lt b hb))];exact(hf b hb).1
  have mv: ∀b o,b∉[e,it]->(s.heap.push {cls:=.type "tuple",data:=.seq #[.int i s.toks,u]}).get? b=some o->h2.get? b=some o:=λb o hb eo=>by
   simp only [mC0,nM0,or_false,not_or]at hb
   refine sb2.extBut _ _ hb.1 ?_
   by_cases hbs:b=s.heap.objs.size
   ·subst hbs
    rw [Heap.get?_push_size _ rfl]at eo
    cases eo
    exact a3
   ·rw [Heap.get?_push_ne _ _ _ hbs]at eo
    exact a4 b o hb.1 hb.2 eo
  have I2:=I0.turnedL (h':=h2) (t':=s.toks+1) mv λb hb=>let ⟨_,c2,c3,c4,c5,c6⟩:=hf b hb;⟨fr b hb,c2,c3,c4,c5,c6⟩
  refine⟨.ref s.heap.objs.size,_,I2,rfl,⟨s.heap.objs.size,x,hpn,rfl,rfl,λzs hz=>?_⟩,⟨⟨u,?_⟩,?_⟩,fr⟩
  ·rw [I.seqK_inj hz q1];exact hx
  ·simpa using z2
  ·exact a2.move λo eo=>sb2.extBut _ _ (Ne.symm hne) eo
 done:=by
  intro X hP hw hK hc i pins s σ H E I hf st hg
  subst hP hw hK
  obtain⟨xs,q1,hx⟩:=hg
  obtain⟨its,r1,p1,_⟩:=I.seqK q1
  obtain⟨⟨old,he⟩,hs⟩:=st
  have hT:s.TypeIs (.ref e) "enumerate":=⟨_,he,rfl⟩
  have e1:=r1.length
  unfold pyNext
  refine wB0 (wpAny_attempt (wpAny_callSpecial?_slot (name:=Str.ofString "__next__") hT F.slot_enumerate_next (wpAny_call_entry F.slot_enumerate_next hT F.entry_enumerate_next ?_ (F.args_enumerate_next_1 _))))
  show wpAny _ _ (field (.ref e) 2 >>= _) _ _ _
  refine wB0 (wpAny_field he rfl (x:=.ref it) rfl ?_)
  refine wB0 (zXV (I.ok.hd hc) hs p1 (by simp;omega) λh' x hk hx'=>?_)
  obtain⟨o,ho,hcl⟩:=hx'
  refine wB0 (wpAny_isInstance (T:="StopIteration") (b:=true) ⟨o,ho,hcl⟩ isSubtype_stop (wP0 ⟨rfl,?_⟩))
  refine I.turnedL (h':=h') (t':=s.toks) (λb o hb eo=>?_) hf
  simp only [mC0,nM0,or_false,not_or]at hb
  exact hk b o hb.2 eo
 self:=λ_ _ _ _ _ st h=>let ⟨⟨_,he⟩,_⟩:=st;wpAny_pyIter_enum he h
def iEnum(K:PySem.W.Frag)(ta:TA):TI:=λσ H R=>ta σ H λvs H1=> ∃k l,vs=[.ref l]/\(∃xs,SqK k K H1 l xs)/\R (Ite K k l) H1
section
variable{X:Cx}{W:XW}{a:Expr}{elts:List Expr}{kt:Nat}{pt p pos:Pos}{ta:TA}{af:Rho->Sto->R (List Er)}
theorem yPG(hg:Gl X "enumerate")(hm:X.mg "enumerate"=none)(ha:PA X [a] ta)(hs:starEach [a] X.env=[(false,eval a X.env)]:=by rfl):
  PI X (.Tuple elts kt pt) (.Call (.Name "enumerate" p) [a] [] pos) (iEnum X.K ta):=by
 intro pins s σ H R I h
 refine Call_ (zPR I hg hm yOS (PyProof.Rows.callWith_type1 (thn (ha pos pins s σ H _ I h) λus s1 ⟨vs,H1,I1,r1,q1⟩=>?_) (by rw [hs];rfl) (by rfl)))
 obtain⟨k,l,rfl,⟨xs,c1⟩,q⟩:=q1
 cases r1 with
 |cons r rr=>
  cases rr
  cases r
  obtain⟨its,v1,p1,_⟩:=I1.seqK c1
  refine yHP p1 λh' st hk=>let ⟨⟨_,he⟩,_⟩:=id st;wpAny_pyIter_enum he ?_
  have I2:Inv X pins σ H1 {s1 with heap:=h'}:=I1.kept (t':=s1.toks) hk
  refine⟨_,_,_,_,H1,rfl,I2,yHQ (ne_of_gt (Nat.lt_succ_self _)),st,λb hb=>?_,q⟩
  have hle:s1.heap.objs.size<=b:=by
   have hb':b=s1.heap.objs.size+1\/b=s1.heap.objs.size:=by simpa using hb
   rcases hb' with h|h<;>rw [h]<;>(first |exact le_refl _|exact Nat.le_add_right _ _)
  exact I1.fpOk hle (I1.hok.fresh hle)
def zTO(xs:List MV):List MV:=xs.zipIdx.map λp=>.tup [.int (p.2:Nat),p.1]
def itE(rs:List Er)(S:Sto):R Wk:=match rs with
 |[p]=>match srcOf S p with
  |some a=>.ok ⟨zTO a.ds,a.gs⟩ S
  |none=>.no
 |_=>.no
theorem zRV(hg:Gl X "enumerate")(hm:X.mg "enumerate"=none)(ha:PAm X W [a] af)(hs:starEach [a] X.env=[(false,eval a X.env)]:=by rfl):
  PIm X W (.Tuple elts kt pt) (.Call (.Name "enumerate" p) [a] [] pos) (λρ S=>(af ρ S).bind itE):=by
 obtain⟨t,ha,k⟩:=ha
 refine⟨_,yPG hg hm ha hs,λα ρ S σ H Rc wd sl q=>k α ρ S σ H _ wd sl (q.bind λvs rs S1 α1 H1 e x1 w1 d1 q1=>?_)⟩
 replace q1:=q1.shift x1
 unfold itE at q1
 split at q1
 ·rename_i r1
  split at q1
  ·rename_i s1 e1
   obtain⟨u,rfl,du⟩:=yER d1
   obtain⟨l1,P1,rfl,p1,D1⟩:=yCR w1 e1 du
   have g1:=D1.get _ _ _ p1
   have hlen:(zTO s1.ds).length=s1.ds.length:=by unfold zTO;rw [lM0,List.length_zipIdx]
   refine⟨s1.k,l1,rfl,⟨_,g1.choose_spec.1⟩,q1.here (u:=Ite X.K s1.k l1) w1 ⟨λα S H=>P1 α S H,?_,p1,?_,?_⟩⟩
   ·intro i α2 S2 H2 b1 w2
    obtain⟨us,c1,c2⟩:=D1.get _ _ _ b1
    have hl:=c2.length
    refine⟨λhi=>?_,λhi=>?_⟩
    ·have hi:i<(zTO s1.ds).length:=hi
     have h1:i<us.length:=by omega
     refine⟨⟨us,us[i],c1,gE0 h1⟩,?_⟩
     rintro x H' ⟨pp,xx,hp,rfl,rfl,hx⟩
     obtain⟨d,hd,dd⟩:=c2.get (hx us c1)
     have xn:=w2.newx (o:=.tup [.int (i:Nat),xx]) hp
     have wn:=w2.new (o:=.tup [.int (i:Nat),xx]) hp
     refine⟨xn,wn,D1.stays _ _ _ _ _ _ b1 xn wn (D1.st _ _ _ b1),.tup [.int (i:Nat),d],?_,?_⟩
     ·unfold zTO;rw [getElem?_map,List.getElem?_zipIdx,hd];simp
     ·exact zBC (.of yD) (xS (xV _) (xS (dd.ext xn) wU))
    ·have hi:(zTO s1.ds).length<=i:=hi
     exact⟨us,c1,by omega⟩
   ·intro α1 S1 H1 α2 S2 H2 b1 x w hs
    exact D1.stays _ _ _ _ _ _ b1 x w hs
   ·exact D1.st _ _ _ p1
  ·exact q1.elim
 ·exact q1.elim
end
noncomputable instance:DecidableEq MV:=λ_ _=>Classical.propDecidable _
noncomputable def look(kvs:List (MV×MV))(k:MV):Option MV:=(kvs.find? λp=>decide (p.1=k)).map (·.2)
section
variable{X:Cx}{pins:List (Addr×Obj)}{σ:St}{H:Hp}{s:Shared}{α:List Addr}
theorem yHR(p:MV×MV)(kvs:List (MV×MV))(k:MV):look (p::kvs) k=if p.1=k then some p.2 else look kvs k:=by
 unfold look
 rw [find?_cons]
 by_cases h:p.1=k
 ·rw [dT0 h,iP h];rfl
 ·rw [dF0 h,iN0 h]
theorem DenN.append: ∀{kvs kvs':List (MV×MV)}{xs xs':List (NK×Addr×Value)},DenN X.K α H kvs xs->DenN X.K α H kvs' xs'->DenN X.K α H (kvs++kvs') (xs++xs')
 |_,_,_,_,.nil,h=>h
 |_,_,_,_,.cons hk e a d r l,h=>.cons hk e a d r (DenN.append l h)
end
section
variable{X:Cx}{W:XW}{a b o i:Expr}{f g:Rho->Sto->R Er}{pos:Pos}
theorem yKR{pins:List (Addr×Obj)}{σ:St}{H:Hp}{s:Shared}(I:Inv X pins σ H s):sysModules<s.heap.objs.size:=Nat.lt_trans (by decide) ((I.mod.glob.keeps I.bk).lt)
theorem Wd.put{gg:Gm}{α:List Addr}{S:Sto}{H:Hp}{p:Addr}{ho:HO}{m:MO}(w:Wd gg α S H)(hp:H p=none)(q:ObD gg (α++[p]) (upd H p ho) p m):Ext α H (α++[p]) (upd H p ho)/\Wd gg (α++[p]) (S++[m]) (upd H p ho):=by
 have x:=w.newx (o:=ho) hp
 have nw:=w.new (o:=ho) hp
 have np:=w.fresh hp
 refine⟨⟨⟨⟨[p],rfl⟩,x.tup,x.frz⟩,λb hb=>?_,x.keep,x.has⟩,⟨?_,?_,λl c ob h1 h2=>?_⟩⟩
 ·rcases mem_append.mp hb with h|h
  ·exact .inl h
  ·rw [mS.mp h];exact .inr hp
 ·rw [lA,lA,w.len];rfl
 ·exact List.nodup_append.mpr ⟨w.nd,by simp,λa ha c hc=>by rw [mS.mp hc];rintro rfl;exact np ha⟩
 ·by_cases hl:l<α.length
  ·rw [getElem?_append_left hl]at h1
   rw [getElem?_append_left (by rw [<-w.len];exact hl)]at h2
   exact(nw.obj l c ob h1 h2).move (Ex0.grow α [p] _) rfl
  ·have hl':l=α.length:=by
    have:=(gS0.mp h1).1
    rw [lA,lS]at this
    omega
   subst hl'
   rw [getElem?_append_right (le_refl _),sub_self]at h1
   rw [getElem?_append_right (by rw [w.len];exact le_refl _),w.len,sub_self]at h2
   cases h1;cases h2
   exact q
def yKS(S:Sto):R Er:=.ok (.val (.loc S.length)) (S++[.dic []])
theorem yKT:PEm X W (.Dict [] [] pos) (λ_ S=>yKS S):=by
 refine⟨λσ H Q=> ∀p,H p=none->Q (.ref p) (upd H p (.dK [])),λpins s σ H Q I h=>?_,λα ρ S σ H Q wd sl q p hp=>?_⟩
 ·exact wpAny_Dict_empty ⟨.ref s.heap.objs.size,_,I.laid (a:=s.heap.objs.size) (o:=.dK []) (t':=s.toks) (λ_ _ q=>hP0 _ q) (le_refl _)
   ⟨zero_le _,beq_eq_false_iff_ne.mpr (Ne.symm (ne_of_lt (yKR I))),[],.nil,Heap.DictOf.new s.heap⟩,rfl,h _ (I.hok.fresh (le_refl _))⟩
 ·obtain⟨x,w'⟩:=wd.put (ho:=.dK []) (m:=.dic []) hp (.inl ⟨[],yD,.nil⟩)
  exact q (.ref p) (α++[p]) _ x w' (DenE.val (zLU (by rw [<-wd.len,getElem?_append_right (le_refl _),sub_self];rfl)))
theorem DenN.length{α:List Addr}{H:Hp}: ∀{kvs xs},DenN X.K α H kvs xs->xs.length=kvs.length
 |_,_,.nil=>rfl
 |_,_,.cons _ _ _ _ _ l=>by rw [lC0,lC0,DenN.length l]
end
def yFE:MV->V
 |.non=>.non
 |.bl b=>.bl b
 |.int i=>.int i
 |.str x=>.str (mkS x)
 |.typ n=>.ty n
 |_=>.non
def zXW:MV->Bool
 |.non=>true
 |.bl _=>true
 |.int _=>true
 |.str _=>true
 |_=>false
theorem yKU{K:PySem.W.Frag}{α:List Addr}{H:Hp}{d:MV}(h:zXW d=true):Den K α H d (yFE d):=by
 cases d with
 |non=>exact zCV
 |bl b=>exact wT b
 |int i=>exact xV i
 |str x=>exact zCW x
 |_=>exact absurd h xF0
theorem zWK{K:PySem.W.Frag}{α:List Addr}{H:Hp}: ∀{ds:List MV},ds.all zXW=true->DenL K α H ds (ds.map yFE)
 |[],_=>wU
 |d::ds,h=>by
  rw [all_cons,aE]at h
  exact xS (yKU h.1) (zWK h.2)
structure GTup(K:PySem.W.Frag)(mg:Str->Option Value)(x:Str)(ds:List MV):Prop where
 ex: ∃(a:Addr)(o:Obj)(its:Array Value)(n:Nat),mg x=some (.ref a)/\K.lookup a=some o/\o.cls=.type "tuple"/\o.data=.seq its n/\its.size<=sizeLine/\Vals (ds.map yFE) its.toList
 fl:ds.all zXW=true
theorem yPH{X:Cx}{W:XW}{x:Str}{ds:List MV}{pos:Pos}(hg:Gl X x)(G:GTup X.K X.mg x ds)(hd:(x==("__debug__":Str))=false:=by decide):PEm X W (.Name x pos) (λ_ S=>.ok (.val (.tup ds)) S):=by
 obtain⟨⟨a,o,its,n,hm,lk,hc,hdt,hz,hv⟩,hf⟩:=G
 exact⟨_,zWX (v:=.ref a) hg hm rfl hd,λα ρ S σ H Q wd sl q=>Post.val q wd (zBC (.inr ⟨o,its,n,lk,hc,hdt,hz,hv⟩) (zWK hf))⟩
theorem fn_no{P:Program}{w:World}{K:PySem.W.Frag}{mg:Str->Option Value}{base:Heap}{k m:Nat}{f:Addr}{fd:FuncData}{ps:List Str}{g:Gm}:FnOk P w K mg base CX0 k f fd ps (spM g m λ_ _=>.no):=
 ⟨λvs H Q E ⟨_,_,_,_,_,_,q⟩=>q.elim,λ_ _ _ _ _ _ _ _ _ _ _ _ _ ⟨_,_,_,_,_,_,q⟩=>q.elim⟩
def FsD(g:Gm)(α:List Addr)(H:Hp)(d:Option Addr)(fs:List (Str×MV)):Prop:=fs=[]\/ ∃dx gs od,d=some dx/\H dx=some (.frz od (.xd gs))/\DenF g.K α H fs gs
abbrev WE(g:Gm)(E:XK):XW:=λc fs _ α H=> ∀C d,g.mg c=some (.ref C)->FsD g α H d fs->E (.ref C) d H
def zTP:MV->Bool
 |.non=>true
 |.bl _=>true
 |.int _=>true
 |.str _=>true
 |_=>false
theorem yHS{K:PySem.W.Frag}{α α':List Addr}{H:Hp}: ∀{d:MV}{v:V},zTP d=true->Den K α H d v->Den K α' H d v
 |.non,_,_,q=>by cases zDE q;exact zCV
 |.bl _,_,_,q=>by cases zHB q;exact wT _
 |.int _,_,_,q=>by cases cK q;exact xV _
 |.str _,_,_,q=>by cases cL q;exact zCW _
theorem zTQ{K:PySem.W.Frag}{α α':List Addr}{H:Hp}: ∀{fs gs},fs.all (λp=>zTP p.2)=true->DenF K α H fs gs->DenF K α' H fs gs
 |_,_,_,.nil=>.nil
 |_,_,h,.cons a l=>by
  rw [all_cons,aE]at h
  exact .cons (yHS h.1 a) (zTQ h.2 l)
theorem Post.wmono{β τ:Type}[Dn β τ]{g:Gm}{W W':XW}{α:List Addr}{H:Hp}(f: ∀c fs S α' H',W c fs S α' H'->W' c fs S α' H'): ∀{m:R β}{Q:τ->Hp->Prop},Post g W α H m Q->Post g W' α H m Q
 |.ok b S,Q,q=>q
 |.exc c fs S,_,q=>λα' H' x w=>f _ _ _ _ _ (q α' H' x w)
 |.no,_,q=>q
def XCl(K:PySem.W.Frag)(C:Addr)(bm:List Value)(init:Option Value):Prop:=
 ∃nm q N bs hd sn sub ab col dd k0 k1 k2 k3 k5,K.lookup C=some (excClassObj nm q C N bs bm hd sn sub ab col dd k0 k1 k2 k3 k5 "ValueError.__new__")/\PySem.W.nsOkIn K N=true/\PySem.W.nsIn K N "__init__"=some init/\(∀n∈qn,PySem.W.nsIn K N n=some none)/\hd=true
def XEach(K:PySem.W.Frag)(mg:Str->Option Value)(M:Addr):List (Str×Addr)->Prop
 |[]=>True
 |(c,C)::r=>(mg c=some (.ref C)/\ ∃i,XCl K C (.ref M::bmV) i)/\XEach K mg M r
structure XTab(K:PySem.W.Frag)(mg:Str->Option Value)(M:Addr)(cs:List (Str×Addr)):Prop where
 m:mg "MendError"=some (.ref M)
 mc:XCl K M bmV none
 each:XEach K mg M cs
 nd:(M::cs.map (·.2)).Nodup
theorem XEach.at{K:PySem.W.Frag}{mg:Str->Option Value}{M:Addr}: ∀{cs:List (Str×Addr)},XEach K mg M cs-> ∀{c C},(c,C)∈cs->mg c=some (.ref C)/\ ∃i,XCl K C (.ref M::bmV) i
 |(c,C)::r,h,c',C',z=>by
  rcases mC0.mp z with z|z
  ·cases z;exact h.1
  ·exact XEach.at h.2 z
theorem zOS{K:PySem.W.Frag}{h:Heap}{C M:Addr}{i:Option Value}(X:K.In h)(c:XCl K C (.ref M::bmV) i)(m:XCl K M bmV none):zGZ h C M:=by
 obtain⟨_,_,N,_,_,_,_,_,_,_,_,_,_,_,_,l,o,_,q⟩:=c
 obtain⟨_,_,N',_,_,_,_,_,_,_,_,_,_,_,_,l',o',_,q'⟩:=m
 exact⟨_,_,_,_,_,_,_,_,_,_,_,_,_,_,_,_,_,X _ _ l,.of_isNs (PySem.W.isNs_of_in X o),λn hn=>PySem.W.nsMap_none_of_in X o (q.1 n hn),
  _,_,_,_,_,_,_,_,_,_,_,_,_,_,_,_,_,X _ _ l',.of_isNs (PySem.W.isNs_of_in X o'),λn hn=>PySem.W.nsMap_none_of_in X o' (q'.1 n hn)⟩
section
variable{X:Cx}{W:XW}{a:Expr}{f:Rho->Sto->R Er}{pos p p2:Pos}{M:Addr}{cs:List (Str×Addr)}{c2:Str}{D:Addr}
def zJV(ns:List Str)(c2:Str):Er->Sto->R Er
 |.val (.loc l),S=>match S[l]? with
  |some (.ins c _)=>if c∈ns then .ok (.val (.bl (decide (c=c2)))) S else .no
  |_=>.no
 |_,_=>.no
def yKV(ns:List Str):Er->Sto->R Er
 |.val (.loc l),S=>match S[l]? with
  |some (.ins c _)=>if c∈ns then .ok (.val (.bl true)) S else .no
  |_=>.no
 |_,_=>.no
def IsX(X:Cx)(M:Addr)(H:Hp)(x:V)(C:Addr):Prop:= ∃aa oe,x=.ref aa/\H aa=some (.ext λh=>h.get? aa=some oe)/\oe.cls=.ref C/\(∃i,XCl X.K C (.ref M::bmV) i)/\XCl X.K M bmV none
theorem yKW:CallR X (.builtin "isinstance") (λxs H Q=> ∃x C D,xs=[x,.ref D]/\IsX X M H x C/\(C=D\/(C≠D/\M≠D/\ ∃bm i,XCl X.K D bm i))/\Q (.bl (decide (C=D))) H):=by
 intro pins s σ H xs us Q I r h
 obtain⟨_,C,D,rfl,⟨aa,oe,rfl,hH,hc,⟨i,cC⟩,cM⟩,hD,q⟩:=h
 obtain⟨u1,us,r1,⟨u2,_,r2,r3,rfl⟩,rfl⟩: ∃u1 us',RelV (.ref aa) u1/\(∃u2 us'',RelV (.ref D) u2/\Vals [] us''/\us'=u2::us'')/\us=u1::us':=by
  cases r with
  |cons r1 r=>cases r with
   |cons r2 r=>exact⟨_,_,r1,⟨_,_,r2,r,rfl⟩,rfl⟩
 cases r1;cases r2;cases r3
 have ha:s.heap.get? aa=some oe:=(I.hok aa _ hH).1
 have O:=zOS I.kIn cC cM
 obtain⟨hp,g,d,tk,os⟩:=s
 rcases hD with rfl|⟨n1,n2,bm,i2,cD⟩
 ·refine PyProof.Rows.call_isinstance_of (yHD ha hc ⟨.bl true,H,I,rfl,?_⟩)
  simpa using q
 ·obtain⟨_,_,_,_,_,_,_,_,_,_,_,_,_,_,_,lD,_⟩:=cD
  obtain⟨oC,hC,hCc,hCd⟩:=yJG O
  refine PyProof.Rows.call_isinstance_of (yOB O ha hc (I.kIn _ _ lD) hC hCc hCd ?_ ⟨.bl false,H,I.tok _,rfl,?_⟩)
  ·simp only [contains_cons,List.contains_nil,Bool.or_eq_false_iff,beq_eq_false_iff_ne]
   exact⟨λz=>n1 (by cases z;rfl),λz=>n2 (by cases z;rfl),by simp,by simp,by simp,by simp,trivial⟩
  ·simpa [n1]using q
theorem yKX:CallR X (.builtin "isinstance") (λxs H Q=> ∃x C,xs=[x,.ty "ValueError"]/\IsX X M H x C/\Q (.bl true) H):=by
 intro pins s σ H xs us Q I r h
 obtain⟨_,C,rfl,⟨aa,oe,rfl,hH,hc,⟨i,cC⟩,cM⟩,q⟩:=h
 obtain⟨u1,us,r1,⟨u2,_,r2,r3,rfl⟩,rfl⟩: ∃u1 us',RelV (.ref aa) u1/\(∃u2 us'',RelV (.ty "ValueError") u2/\Vals [] us''/\us'=u2::us'')/\us=u1::us':=by
  cases r with
  |cons r1 r=>cases r with
   |cons r2 r=>exact⟨_,_,r1,⟨_,_,r2,r,rfl⟩,rfl⟩
 cases r1;cases r2;cases r3
 have ha:s.heap.get? aa=some oe:=(I.hok aa _ hH).1
 have O:=zOS I.kIn cC cM
 obtain⟨hp,g,d,tk,os⟩:=s
 exact PyProof.Rows.call_isinstance_of (yOC O ha hc (by kernel_rfl) (by simp [contains_cons]) ⟨.bl true,H,I,rfl,q⟩)
theorem yFF{α:List Addr}{S:Sto}{H:Hp}{r:Er}{x:V}(T:XTab X.K X.mg M cs)(wd:Wd X.g α S H)(d:DenX X.K α H r x){l:Nat}{c:Str}{fs:List (Str×MV)}(e:r=.val (.loc l))(hl:S[l]? =some (.ins c fs))(hc:c∈cs.map (·.1)):
  ∃C,(c,C)∈cs/\IsX X M H x C:=by
 subst e
 obtain⟨aa,rfl,h⟩:=zDF d
 obtain⟨o,h1,C,gs,hm,hf,oe,hH,hcl,_⟩: ∃o,S[l]? =some o/\ObD X.g α H aa (.ins c fs):=⟨_,hl,wd.obj l aa _ h hl⟩
 obtain⟨⟨c',C'⟩,hm',rfl⟩:=mM0.mp hc
 obtain⟨q1,q2⟩:=T.each.at hm'
 have:C=C':=by
  have z:X.mg c'=some (.ref C):=hm
  rw [q1]at z;cases z;rfl
 subst this
 exact⟨C,hm',aa,oe,rfl,hH,hcl,q2,T.mc⟩
theorem XTab.inj{K:PySem.W.Frag}{mg:Str->Option Value}(T:XTab K mg M cs){c c':Str}{C C':Addr}(h:(c,C)∈cs)(h':(c',C')∈cs)(hn:(cs.map (·.1)).Nodup):(C=C'↔c=c'):=by
 constructor
 ·rintro rfl
  have nd:=(nodup_cons.mp T.nd).2
  have: ∀(l:List (Str×Addr)),(l.map (·.2)).Nodup->(c,C)∈l->(c',C)∈l->c=c':=by
   intro l
   induction l with
   |nil=>intro _ z;simp at z
   |cons y r ih=>
    intro nd a b
    rw [map_cons,nodup_cons]at nd
    rcases mC0.mp a with a1|a1<;>rcases mC0.mp b with b1|b1
    ·rw [<-b1]at a1;cases a1;rfl
    ·exact absurd (show y.2∈r.map (·.2)from by rw [<-a1];exact mM0.mpr ⟨(c',C),b1,rfl⟩) nd.1
    ·exact absurd (show y.2∈r.map (·.2)from by rw [<-b1];exact mM0.mpr ⟨(c,C),a1,rfl⟩) nd.1
    ·exact ih nd.2 a1 b1
  exact this cs nd h h'
 ·rintro rfl
  have a:=(T.each.at h).1
  rw [(T.each.at h').1]at a;cases a;rfl
theorem wH{ns:List Str}(T:XTab X.K X.mg M cs)(hn:(cs.map (·.1)).Nodup)(hD:(c2,D)∈cs)(hz:X.mg "isinstance"=none)(hg:Gl X "isinstance")(hg2:Gl X c2)(ha:PEm X W a f)(hns:cs.map (·.1)=ns:=by rfl)(hd:(c2==("__debug__":Str))=false:=by decide)
  (he:starEach [a,.Name c2 p2] X.env=(false,eval a X.env)::starEach [.Name c2 p2] X.env:=by rfl) (hp2:(backTo pos (starEach [.Name c2 p2] X.env)).any (·.1)=false:=by rfl):
  PEm X W (.Call (.Name "isinstance" p) [a,.Name c2 p2] [] pos) (λρ S=>(f ρ S).bind (zJV ns c2)):=by
 subst hns
 obtain⟨ta,ha,fa⟩:=ha
 have mD:=(T.each.at hD).1
 refine⟨_,zSM (yKW (M:=M)) hg hz PyProof.Rows.boot_isinstance (zES ha (zES (zWX (v:=.ref D) hg2 mD rfl hd) zSK) he) (by decide) (by decide) he hp2,λα ρ S σ H Q wd sl q=>fa α ρ S σ H _ wd sl (q.bind λu r S1 α1 H1 e1 x1 w1 d1 q1=>?_)⟩
 replace q1:=q1.shift x1
 unfold zJV at q1
 split at q1
 ·rename_i l
  split at q1
  ·rename_i c fs hl
   split at q1
   ·rename_i hc
    obtain⟨C,hC,ix⟩:=yFF T w1 d1.1 rfl hl hc
    refine⟨u,C,D,rfl,ix,?_,?_⟩
    ·by_cases z:C=D
     ·exact .inl z
     ·exact .inr ⟨z,λy=>(nodup_cons.mp T.nd).1 (by rw [y];exact mM0.mpr ⟨_,hD,rfl⟩),_,(T.each.at hD).2⟩
    ·have e2:decide (C=D)=decide (c=c2):=decide_eq_decide.mpr (T.inj hC hD hn)
     rw [e2]
     exact Post.val q1 w1 (wT _)
   ·exact q1.elim
  ·exact q1.elim
 ·exact q1.elim
theorem yUF{ns:List Str}(T:XTab X.K X.mg M cs)(hz:X.mg "isinstance"=none)(hz2:X.mg "ValueError"=none)(hg:Gl X "isinstance")(hg2:Gl X "ValueError")(ha:PEm X W a f)(hns:cs.map (·.1)=ns:=by rfl)
  (he:starEach [a,.Name "ValueError" p2] X.env=(false,eval a X.env)::starEach [.Name "ValueError" p2] X.env:=by rfl) (hp2:(backTo pos (starEach [.Name "ValueError" p2] X.env)).any (·.1)=false:=by rfl):
  PEm X W (.Call (.Name "isinstance" p) [a,.Name "ValueError" p2] [] pos) (λρ S=>(f ρ S).bind (yKV ns)):=by
 subst hns
 obtain⟨ta,ha,fa⟩:=ha
 refine⟨_,zSM (yKX (M:=M)) hg hz PyProof.Rows.boot_isinstance (zES ha (zES (yED (v:=.ty "ValueError") hg2 hz2 (by decide+kernel) rfl (by decide) (by decide)) zSK) he) (by decide) (by decide) he hp2,λα ρ S σ H Q wd sl q=>fa α ρ S σ H _ wd sl (q.bind λu r S1 α1 H1 e1 x1 w1 d1 q1=>?_)⟩
 replace q1:=q1.shift x1
 unfold yKV at q1
 split at q1
 ·rename_i l
  split at q1
  ·rename_i c fs hl
   split at q1
   ·rename_i hc
    obtain⟨C,hC,ix⟩:=yFF T w1 d1.1 rfl hl hc
    exact⟨u,C,rfl,ix,Post.val q1 w1 (wT _)⟩
   ·exact q1.elim
  ·exact q1.elim
 ·exact q1.elim
end
def spX(g:Gm)(n:Nat)(F:List MV->Sto->R Er):Sp:=λvs H Q E=> ∃α S ds,Wd g α S H/\DenL g.K α H ds vs/\ds.length=n/\Post g (WE g E) α H (F ds S) Q
noncomputable def dN(n:Nat)(F:List MV->Sto->R Er)(rs:List Er)(S:Sto):R Er:=if rs.length=n then(match F (zY rs S).1 (zY rs S).2 with
 |.ok r S2=>zCR S r S2
 |.exc c fs S2=>if fs.all (λp=>zTP p.2)=true then(zCR S (.val .non) S2).bind λ_ S3=>.exc c fs S3 else .no
 |.no=>.no)else .no
section
variable{X:Cx}{E:XK}{e:Expr}{es:List Expr}{af:Rho->Sto->R (List Er)}{pos:Pos}
theorem zTR{n:Nat}{F:List MV->Sto->R Er}{rs:List Er}{vs:List V}{α α1:List Addr}{H H1:Hp}{S1:Sto}{Q:VK}(x1:Ext α H α1 H1)(w1:Wd X.g α1 S1 H1)(d1:ArgsE X.K H α1 H1 rs vs)(q:Post X.g (WE X.g E) α H (dN n F rs S1) Q):
  spX X.g n F vs H1 Q E:=by
 unfold dN at q
 split at q
 ·rename_i hl
  obtain⟨α2,x2,y2,w2,l2⟩:=zHC w1 x1 d1
  refine⟨α2,_,_,w2,l2,by rw [zLW];exact hl,?_⟩
  cases z:F (zY rs S1).1 (zY rs S1).2 with
  |ok r S3=>
   rw [z]at q
   intro v α3 H3 x3 w3 d3
   obtain⟨r',S',α',e',x',w',d'⟩:=zXO x1 w1 y2.pre x2 x3 w3 d3
   have q:Post X.g (WE X.g E) α H (zCR S1 r S3) Q:=q
   rw [e']at q
   exact q v α' H3 x' w' d'
  |exc c fs S3=>
   rw [z]at q
   dsimp only at q
   split at q
   ·rename_i hp
    intro α3 H3 x3 w3 C d hC hf
    obtain⟨r',S',α',e',x',w',d'⟩:=zXO (r:=.val .non) (v:=.non) x1 w1 y2.pre x2 x3 w3 (DenE.val zCV)
    rw [e']at q
    exact q α' H3 x' w' C d hC (hf.imp id λ⟨dx,gs,od,h1,h2,h3⟩=>⟨dx,gs,od,h1,h2,zTQ hp h3⟩)
   ·exact q.elim
  |no=>rw [z]at q;exact q.elim
 ·exact q.elim
theorem yKY{k n:Nat}{fa:Addr}{fd:FuncData}{ps:List Str}{F:List MV->Sto->R Er}{x:Str}{p:Pos}(hx:XOk X E)(G:FnOk X.prog X.w X.K X.mg X.base (CXe X.prog X.w) k fa fd ps (spX X.g n F))(hr:Room k X.A)(hg:Gl X x)(hm:X.mg x=some (.ref fa))
  (hk:PySem.W.keepIn X.K (.ref fa)=true) (hb:Binds X.K fd ps []) (ha:PAm X (WE X.g E) (e::es) af) (hdb:(x==("__debug__":Str))=false:=by decide)
  (he:starEach (e::es) X.env=(false,eval e X.env)::starEach es X.env:=by rfl) (hpl:(backTo pos (starEach es X.env)).any (·.1)=false:=by rfl):
  PEm X (WE X.g E) (.Call (.Name x p) (e::es) [] pos) (λρ S=>(af ρ S).bind λrs S1=>dN n F rs S1):=by
 obtain⟨t,ha,kk⟩:=ha
 refine⟨_,yEH G hr hg hm hk hb .nil hx.pass ha hdb he hpl,λα ρ S σ H Q wd sl q=>kk α ρ S σ H _ wd sl (q.bind λvs rs S1 α1 H1 e1 x1 w1 d1 q1=>?_)⟩
 rw [aN]
 exact zTR x1 w1 d1 q1
end
section
variable{P:Program}{w:World}{K:PySem.W.Frag}{mg:Str->Option Value}{base:Heap}
theorem okX{x qual:Str}{st:Stmt}{f:Addr}{fd:FuncData}{N ps:List Str}{k:Nat}(Fb:Rho->Sto->R Fl)(F:Fun K x qual st f fd)(Sc:FnScope N ps (zH st))
  (hbody: ∀(cdv:Value)(A:Around)(outer:List Env)(s:Shared)(H:Hp)(E:XK),Room k (A.deeper (envOfC qual (zH st) s.heap.objs.size f cdv))->
   zPV (zSL (CXe P w) P w K mg base N qual (zH st) f cdv A outer s H E) (WE ⟨K,mg,P,w⟩ E) (jN st) Fb):
  FnOk P w K mg base (CXe P w) (k+1) f fd ps (spX ⟨K,mg,P,w⟩ ps.length λds S=>yK (Fb (zS N ds) S)):=by
 obtain⟨oc,od,kV,doc,pm,an,cdv,ct,osl,rfl,lk,hcd⟩:=F.ex
 refine yRB lk hcd Sc (λvs H Q E h=>?_) λA outer s H vs Q E hr h=>?_
 ·obtain⟨α,S,ds,_,l,hl,_⟩:=h
  rw [l.length,hl]
 ·obtain⟨α,S,ds,wd,l,hl,q⟩:=h
  obtain⟨t,ht,kk⟩:=hbody cdv A outer s H E hr
  refine⟨t,ht,kk α (zS N ds) S (start N vs) H _ wd (zKD l) ?_⟩
  dsimp only at q
  cases z:Fb (zS N ds) S with
  |ok fl S'=>
   rw [z]at q
   cases fl with
   |next ρ=>exact λσ α' H' x' w' s'=>q .non α' H' x' w' (DenE.val zCV)
   |ret r=>exact λv α' H' x' w' d'=>q v α' H' x' w' d'
   |brk ρ=>exact q.elim
   |cont ρ=>exact q.elim
  |exc c fs S'=>rw [z]at q;exact λα' H' x' w'=>q α' H' x' w'
  |no=>rw [z]at q;exact q
theorem _root_.L2.FnOk.noX{k n:Nat}{f:Addr}{fd:FuncData}{ps:List Str}{g:Gm}{F:List MV->Sto->R Er}(G:FnOk P w K mg base (CXe P w) k f fd ps (spX g n F)):FnOk P w K mg base CX0 k f fd ps (spM g n F):=by
 have up: ∀{vs H Q}, ∀{E},spM g n F vs H Q E->spX g n F vs H Q E0:=λ⟨α,S,ds,h1,h2,h3,h4⟩=>⟨α,S,ds,h1,h2,h3,h4.wmono λ_ _ _ _ _ z=>z.elim⟩
 refine⟨λvs H Q E h=>G.len vs H Q E0 (up h),λA outer s H args us vs Q E hr e0 hb hv h=>codeAny_mono (G.run A outer s H args us vs Q E0 hr e0 hb hv (up h)) λr s' hq=>?_⟩
 cases r with
 |error e=>
  obtain⟨_,_,_,_,_,_,_,_,_,_,_,_,_,_,_,z⟩:=hq
  exact z
 |ok fl=>cases fl<;>exact hq
end
end M
end L2
namespace L2
open PySem PySem.Spec PyProof.Rows
structure Out(X:Cx)(pins:List (Addr×Obj))(H:Hp)(s:Shared)(b:Addr):Prop where
 s0:X.s₀.heap.get? b=none
 h:H b=none
 pin: ∀p∈X.pn++pins,p.1≠b
 fld: ∃o vs,s.heap.get? b=some o/\o.data=.fields vs
section
variable{X:Cx}{pins:List (Addr×Obj)}{σ:St}{H:Hp}{s:Shared}{e T b:Addr}{h':Heap}
theorem Out.ne(o:Out X pins H s b){c:Addr}{oc:Obj}(hc:s.heap.get? c=some oc)(nf: ∀vs,oc.data≠.fields vs):c≠b:=λz=>by
 obtain⟨ob,vs,h1,h2⟩:=o.fld
 rw [z,h1]at hc;cases hc
 exact nf vs h2
theorem Out.loc(o:Out X pins H s b)(I:Inv X pins σ H s):X.env.locals≠b:=by
 obtain⟨m,⟨oL,es,ep,h1,h2,_⟩,_⟩:=I.loc
 exact o.ne h1 λvs z=>by rw [h2]at z;cases z
theorem Out.cell(o:Out X pins H s b)(I:Inv X pins σ H s){x:Str}{c:Addr}(hc:X.env.cells.lookup x=some c):c≠b:=by
 obtain⟨v,oc,h1,h2⟩:=I.cell x c hc
 exact o.ne h1 λvs z=>by rw [h2]at z;cases z
theorem Inv.mvd(J:Inv X pins σ H s)(hex:X.ex=[])(m:Mvd (frs X.stack) e T s.heap h')(oe:Out X pins H s e)(oT:Out X pins H s T):Inv X pins σ H {s with heap:=h'}:=by
 obtain⟨u,hok⟩:=J.moved hex m oe.s0 oT.s0 oe.h oT.h
 have ns: ∀mm,s.heap.Ns X.env.locals mm->h'.Ns X.env.locals mm:=λmm hn=>by
  obtain⟨o,es,ep,ho,r⟩:=hn
  obtain⟨sl,e1⟩:=m.slot _ o (oe.loc J) (oT.loc J) ho
  exact⟨_,es,ep,e1,r⟩
 have cell: ∀x c,X.env.cells.lookup x=some c-> ∀v,s.heap.IsCell c v->h'.IsCell c v:=λx c hc v hv=>by
  obtain⟨o,ho,hd⟩:=hv
  obtain⟨sl,e1⟩:=m.slot c o (oe.cell J hc) (oT.cell J hc) ho
  exact⟨_,e1,hd⟩
 refine⟨J.ok,J.os,J.bare,by rw [hex];exact u,?_,λx c hc=>?_,J.free,J.freeC,λp hp=>?_,hok,J.len⟩
 ·obtain⟨mm,hn,hl⟩:=J.loc
  refine⟨mm,ns mm hn,λi x v e1 e2 e3=>?_⟩
  obtain⟨u,r,l⟩:=hl i x v e1 e2 e3
  exact⟨u,r,l.imp id λ⟨k,c,hc,z⟩=>⟨k,c,hc,cell x c hc _ z⟩⟩
 ·obtain⟨v,z⟩:=J.cell x c hc
  exact⟨v,cell x c hc v z⟩
 ·obtain⟨e1,n,ne,nf,dd⟩:=J.pin p hp
  refine⟨m.keep p.1 p.2 (oe.pin p hp) (oT.pin p hp) (λz=>?_) e1,n,ne,nf,dd⟩
  rcases mC0.mp (J.stkSub _ z)with z|z
  ·exact ne z
  ·exact nf z
theorem Inv.track{ob:Obj}(J:Inv X pins σ H s)(o:Out X pins H s e)(he:s.heap.get? e=some ob):Inv X pins σ (upd H e (.ext λh=>h.get? e=some ob)) s:=by
 refine⟨J.ok,J.os,J.bare,⟨J.base.keep,J.base.slot,λb ob' q n hx=>?_,J.base.there,λb xs q=>?_,λb o' u q=>?_,λb ps q=>?_⟩,J.loc,J.cell,?_,λx c hc=>?_,λp hp=>?_,λb u q=>?_,J.len⟩
 ·rw [zV λz=>by rw [z,o.s0]at q;cases q]
  exact J.base.free b ob' q n hx
 ·rw [zV (yR (J.base.tups b xs q) o.h)];exact J.base.tups b xs q
 ·rw [zV (yR (J.base.frzs b o' u q) o.h)];exact J.base.frzs b o' u q
 ·obtain⟨mo,z⟩:=J.base.tbls b ps q
  exact⟨mo,by rw [zV (yR z o.h)];exact z⟩
 ·rw [zV (o.loc J)];exact J.free
 ·rw [zV (o.cell J hc)];exact J.freeC x c hc
 ·obtain⟨e1,n,ne,nf,dd⟩:=J.pin p hp
  exact⟨e1,by rw [zV (o.pin p hp)];exact n,ne,nf,dd⟩
 ·by_cases z:b=e
  ·subst z
   rw [yD]at q
   cases q
   exact⟨he,⟨ob,he⟩,λh1 h2 p k=>k _ p⟩
  ·rw [zV z]at q
   exact(J.hok b u q).stay (λ_ _ _ r=>r) (λc r=>by rw [zV (yR r o.h)];exact r) λc xs r=>by rw [zV (yR r o.h)];exact r
abbrev Cx.inH(X:Cx)(v:Value):Cx:={X with A:=X.A.mark (some v),calm:=false,xe:=λ_ _=>False}
theorem Cx.Ok.inH(ok:X.Ok)(v:Value):(X.inH v).Ok:=⟨ok.mod,ok.kind,ok.glob,ok.blt,ok.above,ok.inj,ok.has,ok.cab,λz=>(by cases z),ok.frames,ok.stk,ok.exf,ok.bs,ok.bsz,ok.noex,ok.exfs,ok.funs,ok.frf⟩
theorem Inv.inH(I:Inv X pins σ H s)(v:Value):Inv (X.inH v) pins σ H s:=⟨I.ok.inH v,I.os,I.bare,I.base,I.loc,I.cell,I.free,I.freeC,I.pin,I.hok,I.len⟩
theorem Inv.outH{v:Value}(ok:X.Ok)(I:Inv (X.inH v) pins σ H s):Inv X pins σ H s:=⟨ok,I.os,I.bare,I.base,I.loc,I.cell,I.free,I.freeC,I.pin,I.hok,I.len⟩
theorem name_goes{M:Model}{A:Around}{E:Value->Shared->Prop}{i:Nat}{x:Str}{pos:Pos}{Q:Unit->Shared->Prop}(I:Inv X pins σ H s)(hN:X.N.Nodup)(hi:X.N[i]? =some x)(hk:X.env.kindOf x=some .local)
  (h: ∀s',Inv X pins (σ.set i none) H s'->Q () s'):wpAny M A (do bindName X.env x .none;unbindBehindTheSuite X.env x pos) Q E s:=by
 obtain⟨m,hn,hl⟩:=id I.loc
 have hcls:(X.env.scope.kind==.class || (X.env.scope.kind==.module&&X.env.locals !=X.env.globals))=false:=by rw [I.ok.kind];rfl
 refine wpAny_nameGoes_keeps hk hn hcls λh' v hn' hs=>h _ ?_
 have keep: ∀b o,b≠X.env.locals->s.heap.get? b=some o->h'.get? b=some o:=λb o z q=>(hs.2 b z).trans q
 have neL: ∀b o,X.s₀.heap.get? b=some o->b≠X.env.locals:=λb o e=>ne_of_lt (lt_of_lt_of_le (Heap.lt_size e) I.ok.above)
 obtain⟨oL',_,_,hL',_⟩:=id hn'
 have there: ∀b o,s.heap.get? b=some o-> ∃o',h'.get? b=some o':=λb o q=>by
  by_cases z:b=X.env.locals
  ·rw [z];exact⟨_,hL'⟩
  ·exact⟨o,keep b o z q⟩
 refine⟨I.ok,I.os,I.bare,⟨λb o e n hb hx=>keep b o (neL b o e) (I.base.keep b o e n hb hx),λb o e n hb hx=>?_,I.base.free,λb o e hx=>?_,I.base.tups,I.base.frzs,I.base.tbls⟩,⟨_,hn',λj y v' e1 e2 e3=>?_⟩,λy c e=>?_,I.free,I.freeC,λp hp=>?_,λb u q=>?_,by rw [length_set];exact I.len⟩
 ·obtain⟨sl,e1⟩:=I.base.slot b o e n hb hx
  exact⟨sl,keep b _ (neL b o e) e1⟩
 ·obtain⟨o',e1⟩:=I.base.there b o e hx
  exact there b o' e1
 ·have hj:j≠i:=λz=>by
   subst z
   by_cases hl:j<σ.length
   ·rw [getElem?_set_self hl]at e2;cases e2
   ·rw [List.getElem?_eq_none (by rw [length_set];omega)]at e2;cases e2
  rw [getElem?_set_ne (Ne.symm hj)]at e2
  obtain⟨u,r,q⟩:=hl j y v' e1 e2 e3
  refine⟨u,r,?_⟩
  have hy:y≠x:=λz=>hj (zSG hN e1 (z▸hi))
  rcases q with⟨k,q⟩|⟨k,c,e,z⟩
  ·exact .inl ⟨k,by simp [hy,q]⟩
  ·exact .inr ⟨k,c,e,z.sameBut hs (I.cne y c e)⟩
 ·obtain⟨w',z⟩:=I.cell y c e
  exact⟨w',z.sameBut hs (I.cne y c e)⟩
 ·obtain⟨e,n,ne,nf,dd⟩:=I.pin p hp
  exact⟨keep p.1 p.2 ne e,n,ne,nf,dd⟩
 ·refine(I.hok b u q).stay (λc w' hc r=>keep c w' (λz=>?_) r) (λ_ q=>q) λ_ _ q=>q
  have: ∃y,H c=some y:=by
   rcases hc with rfl|hc
   ·exact⟨_,q⟩
   ·exact⟨_,hc⟩
  obtain⟨y,hy⟩:=this
  rw [z,I.free]at hy;cases hy
end
theorem tc_nt:isSubtype (.type "type") (.type "tuple")=pure false:=by rw [isSubtype_type];kernel_rfl
theorem yCV{Mo:Model}{A:Around}{E:Value->Shared->Prop}{h:Heap}{g:Array GenState}{d:Drawn}{t:Nat}{os:OsState}{C M e:Addr}{oe:Obj}{Q:Bool->Shared->Prop}(O:zGZ h C M)(he:h.get? e=some oe)(hc:oe.cls=.ref C)
  (hq:Q true ⟨h,g,d,t,os⟩):wpAny Mo A (excMatches (.ref e) (.ref M)) Q E ⟨h,g,d,t,os⟩:=by
 have hb:(Value.ref C::.ref M::bmV).contains (.ref M)=true:=by simp [contains_cons]
 have f:=tc_nt
 have O':=O
 obtain⟨_,_,_,_,_,_,_,_,_,_,_,_,_,_,_,_,_,_,_,_,_,_,_,_,_,_,_,_,_,_,_,_,_,_,_,_,_,hM,_⟩:=O
 have hm:(Value.ref M::bmV).contains (.type "BaseException")=true:=by simp [contains_cons]
 unfold excMatches
 repeat (first |(with_reducible refine wpAny_loadPart_at he ?_;rw [hc])|with_reducible refine wpAny_loadPart_at hM ?_|(with_reducible refine zHA O' ?_;rw [hb])|(with_reducible refine wpAny_isSubtype_exc hM ?_;rw [hm])|wp_step)
 exact hq
end L2
namespace L2
namespace M
open PySem PySem.Spec PyProof.Rows
theorem Slots.unset{K:PySem.W.Frag}{α:List Addr}{H:Hp}{ρ:Rho}{σ:St}(q:Slots K α H ρ σ)(i:Nat):Slots K α H (ρ.set i none) (σ.set i none):=by
 refine⟨by rw [length_set,length_set];exact q.len,λj d e=>?_⟩
 rcases yEO e with⟨_,z,_⟩|⟨hj,e'⟩
 ·cases z
 ·obtain⟨v,h1,h2⟩:=q.slot j d e'
  exact⟨v,by rw [getElem?_set_ne (Ne.symm hj)];exact h1,h2⟩
def endF(i:Nat):Fl->Sto->R Fl
 |.next ρ,S=>.ok (.next (ρ.set i none)) S
 |.ret r,S=>.ok (.ret r) S
 |.brk ρ,S=>.ok (.brk (ρ.set i none)) S
 |.cont ρ,S=>.ok (.cont (ρ.set i none)) S
def yHT(ns:List Str)(i:Nat)(kn:Er->Sto->R Fl)(Fh:Rho->Sto->R Fl)(ρ:Rho):R Er->R Fl
 |.ok r S=>kn r S
 |.exc c fs S=>if c∈ns then(noX (Fh (ρ.set i (some (.loc S.length))) (S++[.ins c fs]))).bind (endF i)else .no
 |.no=>.no
theorem PostS.exprX{β τ:Type}[Dn β τ]{g:Gm}{W:XW}{α:List Addr}{H:Hp}{D:Ends}{m:R β}{k:β->Sto->R Fl}{Q':τ->Hp->Prop}(q:PostS g W α H D ((noX m).bind k))
  (f: ∀u b S1 α1 H1,m=.ok b S1->Ext α H α1 H1->Wd g α1 S1 H1->Dn.d g H α1 S1 H1 b u->PostS g W α H D (k b S1)->Q' u H1):Post g W0 α H m Q':=by
 cases m with
 |ok b S=>exact λu α1 H1 x w d=>f u b S α1 H1 rfl x w d q
 |exc c fs S=>exact q.elim
 |no=>exact q
def E2(X:Cx)(W:XW)(ns:List Str)(i:Nat)(Fh:Rho->Sto->R Fl)(ρ:Rho)(α:List Addr)(H:Hp)(D:Ends):XK:=λcls d H'=> ∃c fs S2 α' C,cls=.ref C/\X.mg c=some (.ref C)/\Ext α H α' H'/\Wd X.g α' S2 H'/\FsD X.g α' H' d fs/\
 PostS X.g W α H D (if c∈ns then(noX (Fh (ρ.set i (some (.loc S2.length))) (S2++[.ins c fs]))).bind (endF i)else .no)
section
variable{X:Cx}{W:XW}{M:Addr}{cs:List (Str×Addr)}{pins:List (Addr×Obj)}{σ:St}{H H1:Hp}{s s1 s':Shared}{i:Nat}{nm:Str}{Fh:Rho->Sto->R Fl}{ρ:Rho}{α:List Addr}{D:Ends}{b0:Stmt}{suite:List Stmt}{mp hpos:Pos}
theorem caught(T:XTab X.K X.mg M cs)(hgm:Gl X "MendError")(hN:X.N.Nodup)(hi:X.N[i]? =some nm)(hk:X.env.kindOf nm=some .local)(hsuite: ∀v,zPV (X.inH v) W0 (b0::suite) Fh)(hex:X.ex=[])(hstk:X.stack=X.env::X.outer)(hfm:X.env.frame=some X.env.locals)
  (sl:Slots X.K α H ρ σ) (I1:Inv X pins σ H1 s1) {x:Value} (hq:CXe X.prog X.w X.stack H1 s1 (E2 X W (cs.map (·.1)) i Fh ρ α H D) x s'):
  wpAny (model X.prog X.w) X.A (noteFrame x X.env) (λ_ s₂=>wpAny (model X.prog X.w) X.A (setFlight x none) (λ_ s₃=>wpAny (model X.prog X.w) X.A (handleBy x X.env [.ExceptHandler (some (.Name "MendError" mp)) (some nm) (b0::suite) hpos]) (SP X pins D) X.xe s₃) X.xe s₂) X.xe s':=by
 obtain⟨e,Tb,C,d,H',rfl,os,bare,un,hok,fl,ne,nT,he,hT,c,fs,S2,α',C',eC,hmc,xx,w2,hf,q⟩:=hq
 cases eC
 split at q
 ·rename_i hcn
  have J:Inv X pins σ H' s':=I1.call' (ch:=[]) os un hok bare (λ_ z=>nomatch z)
  have hfr:X.A.frames=some (X.env::X.outer):=by rw [<-hstk];exact J.ok.frames
  have hl:s'.heap.FunFrames X.base (X.env::X.outer):=by rw [<-hstk];exact J.stack
  have oe:Out X pins H' s' e:=by
   obtain⟨ob,vs,_,_,h1,_,_,h2,_⟩:=id fl
   exact⟨I1.older hex ne,he,λp hp z=>(by have:=(I1.pin p hp).1;rw [z,ne]at this;cases this),ob,vs,h1,h2⟩
  have oT:Out X pins H' s' Tb:=by
   obtain⟨_,_,ob,ts,_,_,_,_,_,_,h1,h2,_⟩:=id fl
   exact⟨I1.older hex nT,hT,λp hp z=>(by have:=(I1.pin p hp).1;rw [z,nT]at this;cases this),ob,ts,h1,h2⟩
  refine zWD hfr hl hfm fl λh3 T3 n3 m3 f3=>?_
  rw [<-hstk]at m3
  have J3:=J.mvd hex m3 oe oT
  have oe3:Out X pins H' {s' with heap:=h3} e:=by
   obtain⟨ob,vs,_,_,h1,_,_,h2,_⟩:=id f3
   exact⟨oe.s0,oe.h,oe.pin,ob,vs,h1,h2⟩
  have oT3:Out X pins H' {s' with heap:=h3} T3:=by
   obtain⟨_,_,ob,ts,_,_,_,_,_,_,h1,h2,_⟩:=id f3
   exact⟨J.older hex n3,J.hok.none_of n3,λp hp z=>(by have:=(J.pin p hp).1;rw [z,n3]at this;cases this),ob,ts,h1,h2⟩
  refine zEU (env:=X.env) (outer:=X.outer) f3 λh4 m4 f4=>?_
  rw [<-hstk]at m4
  have J4:=J3.mvd hex m4 oe3 oT3
  have oe4:Out X pins H' {s' with heap:=h4} e:=by
   obtain⟨ob,vs,_,_,h1,_,_,h2,_⟩:=id f4
   exact⟨oe.s0,oe.h,oe.pin,ob,vs,h1,h2⟩
  have oT4:Out X pins H' {s' with heap:=h4} T3:=by
   obtain⟨_,_,ob,ts,_,_,_,_,_,_,h1,h2,_⟩:=id f4
   exact⟨oT3.s0,oT3.h,oT3.pin,ob,ts,h1,h2⟩
  have cls: ∃i,XCl X.K C (.ref M::bmV) i:=by
   obtain⟨⟨c',C'⟩,hm',rfl⟩:=mM0.mp hcn
   obtain⟨q1,q2⟩:=T.each.at hm'
   have:C=C':=by rw [hmc]at q1;cases q1;rfl
   rw [this];exact q2
  obtain⟨ini,cC⟩:=cls
  refine wpAny_handleBy_cons (codeAny_handlers_test (zHX (X:=X.inH (.ref e)) (J4.inH (.ref e)) hgm T.m ?_)) (by intro z;cases z)
  obtain⟨ob4,_,_,_,he4,hc4,_⟩:=id f4
  refine yCV (zOS J4.kIn cC T.mc) he4 hc4 ?_
  refine codeAny_handlers_suite_as ?_
  refine zEU (env:=X.env) (outer:=X.outer) (s:={s' with heap:=h4}) f4 λh5 m5 f5=>?_
  rw [<-hstk]at m5
  have J5:=J4.mvd hex m5 oe4 oT4
  obtain⟨ob,vs,_,_,h1,hcl,hdx,h2,_⟩:=id f5
  have oe5:Out X pins H' {s' with heap:=h5} e:=⟨oe.s0,oe.h,oe.pin,ob,vs,h1,h2⟩
  have J6:=J5.track oe5 h1
  have xw:=w2.put (ho:=.ext λh=>h.get? e=some ob) (m:=.ins c fs) oe.h (by
   rcases hf with rfl|⟨dx,gs,od,hd1,hd2,hd3⟩
   ·exact⟨C,[],hmc,.nil,ob,yD,hcl,.inl rfl⟩
   ·have xx0:Ext α' H' α' (upd H' e (.ext λh=>h.get? e=some ob)):=w2.newx oe.h
    exact⟨C,gs,hmc,(hd3.ex0 xx0.toEx0).ex0 (Ex0.grow _ _ _),ob,yD,hcl,.inr ⟨dx,od,hdx.trans hd1,(by rw [zV (yR hd2 oe.h)];exact hd2),vs,h2⟩⟩)
  refine zSH (X:=X.inH (.ref e)) (J6.inH (.ref e)) hN hi (.inl hk) (v:=.ref e) rfl (λs7 J7=>?_) (.inr hk)
  obtain⟨th,hth,kh⟩:=hsuite (.ref e)
  let D':Ends:={nx:=λσ H=>D.nx (σ.set i none) H,rt:=D.rt,bk:=λσ H=>D.bk (σ.set i none) H,ct:=λσ H=>D.ct (σ.set i none) H}
  have q':PostS X.g W (α'++[e]) (upd H' e (.ext λh=>h.get? e=some ob)) D _:=PostS.shift (xx.trans xw.1) q
  have ht:th D' (σ.set i (some (.ref e))) (upd H' e (.ext λh=>h.get? e=some ob)):=by
   refine kh (α'++[e]) (ρ.set i (some (.loc S2.length))) (S2++[.ins c fs]) _ _ D' xw.2 (((sl.ext xx).ext xw.1).set (zLU (by rw [<-w2.len,getElem?_append_right (le_refl _),sub_self];rfl))) ?_
   cases z:Fh (ρ.set i (some (.loc S2.length))) (S2++[.ins c fs])with
   |ok fl S8=>
    rw [z]at q'
    cases fl with
    |next ρ8=>exact λσ8 α8 H8 x8 w8 s8=>q' (σ8.set i none) α8 H8 x8 w8 (s8.unset i)
    |ret r8=>exact λv8 α8 H8 x8 w8 d8=>q' v8 α8 H8 x8 w8 d8
    |brk ρ8=>exact λσ8 α8 H8 x8 w8 s8=>q' (σ8.set i none) α8 H8 x8 w8 (s8.unset i)
    |cont ρ8=>exact λσ8 α8 H8 x8 w8 s8=>q' (σ8.set i none) α8 H8 x8 w8 (s8.unset i)
   |exc c8 fs8 S8=>rw [z]at q';exact q'.elim
   |no=>rw [z]at q';exact q'.elim
  refine wpAny_mono (hth pins s7 _ _ D' J7 ht) (λf s8 hs=>?_) λ_ _ z=>z.elim
  show wpAny _ _ _ _ _ _
  cases f with
  |next=>
   obtain⟨σ8,H8,I8,q8⟩:=hs
   exact name_goes (I8.outH J.ok) hN hi hk λs9 I9=>⟨_,H8,I9,q8⟩
  |brk=>
   obtain⟨σ8,H8,I8,q8⟩:=hs
   exact name_goes (I8.outH J.ok) hN hi hk λs9 I9=>⟨_,H8,I9,q8⟩
  |cont=>
   obtain⟨σ8,H8,I8,q8⟩:=hs
   exact name_goes (I8.outH J.ok) hN hi hk λs9 I9=>⟨_,H8,I9,q8⟩
  |ret u=>
   obtain⟨v8,σ8,H8,I8,r8,q8⟩:=hs
   exact name_goes (I8.outH J.ok) hN hi hk λs9 I9=>⟨v8,_,H8,I9,r8,q8⟩
 ·exact q.elim
end
section
variable{X:Cx}{W:XW}{M:Addr}{cs:List (Str×Addr)}{i:Nat}{nm:Str}{Fh:Rho->Sto->R Fl}{b0:Stmt}{suite:List Stmt}{mp hpos cpos epos pos p:Pos}{e:Expr}{es:List Expr}{af:Rho->Sto->R (List Er)}{k n:Nat}{fa:Addr}{fd:FuncData}{ps:List Str}{F:List MV->Sto->R Er}{x:Str}
theorem yKZ{pins:List (Addr×Obj)}{σ:St}{H:Hp}{s:Shared}{Q:VK}{E:XK}{Ex:Value->Shared->Prop}{ta:TA}(G:FnOk X.prog X.w X.K X.mg X.base (CXe X.prog X.w) k fa fd ps (spX X.g n F))(hr:Room k X.A)(hg:Gl X x)(hm:X.mg x=some (.ref fa))(hk:PySem.W.keepIn X.K (.ref fa)=true)(hb:Binds X.K fd ps [])
  (ha:PA X.nox (e::es) ta) (I:Inv X pins σ H s) (ht:ta σ H λvs H1=>spX X.g n F vs H1 Q E) (hx: ∀H1 s1 x s',Inv X pins σ H1 s1->CXe X.prog X.w X.stack H1 s1 E x s'->Ex x s') (hdb:(x==("__debug__":Str))=false)
  (he:starEach (e::es) X.env=(false,eval e X.env)::starEach es X.env) (hpl:(backTo cpos (starEach es X.env)).any (·.1)=false):
  wpAny (model X.prog X.w) X.A (eval (.Call (.Name x p) (e::es) [] cpos) X.env) (EP X pins σ Q) Ex s:=by
 refine wpAny_Call_Name_kw (zHX I hg hm ?_ hdb)
 refine PySem.W.callWith_K (h₀:=X.base) I.ok.mod.kin hk (wpAny_mono (ha cpos pins s σ H _ (I.wish _) ht) (λus s1 ⟨vs,H1,I1,r,q⟩=>⟨I1.unwish.kIn,?_⟩) λ_ _ z=>z.elim) he hpl
 have I2:=I1.unwish
 have hl:us.length=ps.length:=by rw [<-r.length];exact G.len _ _ _ _ q
 refine wpAny_call (codeAny_mono (G.run X.A X.stack s1 H1 ⟨us,[]⟩ us vs Q E hr I2.env0 ?_ r q) λr s' hq=>?_)
 ·have:=hb s1 us I2.kIn (by rw [aN];exact hl)
  rw [aN]at this
  exact this
 ·cases r with
  |error y=>exact hx H1 s1 y s' I2 hq
  |ok fl=>
   cases fl with
   |ret u=>exact I2.after hq
   |next=>exact False.elim hq
   |brk=>exact False.elim hq
   |cont=>exact False.elim hq
theorem yLA{α:List Addr}{H:Hp}{ρ:Rho}{S:Sto}{σ:St}{D:Ends}{Q:VK}{ta:TA}{kn:Er->Sto->R Fl}{ns:List Str}(kk: ∀α ρ S σ H Q,Wd X.g α S H->Slots X.K α H ρ σ->Post X.g W0 α H (af ρ S) Q->ta σ H Q)(wd:Wd X.g α S H)(sl:Slots X.K α H ρ σ)
  (q:PostS X.g W α H D ((noX (af ρ S)).bind λrs S1=>yHT ns i kn Fh ρ (dN n F rs S1))) (hkn: ∀r S1 u α1 H1,PostS X.g W α H D (kn r S1)->Ext α H α1 H1->Wd X.g α1 S1 H1->DenE X.K H α1 H1 r u->Q u H1):
  ta σ H λvs H1=>spX X.g n F vs H1 Q (E2 X W ns i Fh ρ α H D):=by
 refine kk α ρ S σ H _ wd sl (q.exprX λvs rs S1 α1 H1 e1 x1 w1 d1 q1=>zTR x1 w1 d1 ?_)
 cases z:dN n F rs S1 with
 |ok r S2=>rw [z]at q1;exact λu α2 H2 x2 w2 d2=>hkn r S2 u α2 H2 q1 x2 w2 d2
 |exc c fs S2=>rw [z]at q1;exact λα2 H2 x2 w2 C d hC hf=>⟨c,fs,S2,α2,C,rfl,hC,x2,w2,hf,q1⟩
 |no=>rw [z]at q1;exact q1.elim
theorem yPI{ns:List Str}(T:XTab X.K X.mg M cs)(hgm:Gl X "MendError")(hN:X.N.Nodup)(G:FnOk X.prog X.w X.K X.mg X.base (CXe X.prog X.w) k fa fd ps (spX X.g n F))(hr:Room k X.A)(hg:Gl X x)(hm:X.mg x=some (.ref fa))(hkp:PySem.W.keepIn X.K (.ref fa)=true)(hb:Binds X.K fd ps [])
  (ha:PAm X.nox W0 (e::es) af) (hsuite: ∀v,zPV (X.inH v) W0 (b0::suite) Fh) (hns:cs.map (·.1)=ns:=by rfl) (hi:X.N[i]? =some nm:=by rfl) (hk:X.env.kindOf nm=some .local:=by rfl) (hex:X.ex=[]:=by rfl) (hstk:X.stack=X.env::X.outer:=by rfl) (hfm:X.env.frame=some X.env.locals:=by rfl)
  (hdb:(x==("__debug__":Str))=false:=by decide) (he:starEach (e::es) X.env=(false,eval e X.env)::starEach es X.env:=by rfl) (hpl:(backTo cpos (starEach es X.env)).any (·.1)=false:=by rfl) (hs:swapsWith (.Call (.Name x p) (e::es) [] cpos) none epos.line X.env=pure false:=by rfl):
  PSm X W (.Try [.Expr (.Call (.Name x p) (e::es) [] cpos) epos] [.ExceptHandler (some (.Name "MendError" mp)) (some nm) (b0::suite) hpos] [] [] pos)
   (λρ S=>(noX (af ρ S)).bind λrs S1=>yHT ns i (λ_ S2=>.ok (.next ρ) S2) Fh ρ (dN n F rs S1)):=by
 subst hns
 obtain⟨ta,ha,kk⟩:=ha
 refine⟨λD σ H=> ∀pins s,Inv X pins σ H s->wpAny (model X.prog X.w) X.A (exec (.Try [.Expr (.Call (.Name x p) (e::es) [] cpos) epos] [.ExceptHandler (some (.Name "MendError" mp)) (some nm) (b0::suite) hpos] [] [] pos) X.env) (SP X pins D) X.xe s,
  λpins s σ H D I h=>h pins s I,λα ρ S σ H D wd sl q pins s I=>?_⟩
 rw [arm_exec_Try]
 refine wB0 (wpAny_standAt (wpAny_tryStmt_except (wpAny_execs_cons (wpAny_Expr_any ?_ I.quiet hs))))
 have ht:=yLA (Q:=λ_ H2=>D.nx σ H2) kk wd sl q λr S1 u α1 H1 q1 x1 w1 _=>q1 σ α1 H1 x1 w1 (sl.ext x1)
 refine thn (yKZ G hr hg hm hkp hb ha I ht (λH1 s1 y s' I1 hq=>caught T hgm hN hi hk hsuite hex hstk hfm sl I1 hq) hdb he hpl) λu s' ⟨v,H',I',_,q'⟩=>?_
 exact wpAny_execs_nil (wpAny_execs_nil ⟨σ,H',I',q'⟩)
end
theorem xcl_mk{K:PySem.W.Frag}{C N:Addr}{bm bs sub:List Value}{init:Option Value}{nm q:Str}{hd ab:Bool}{sn:List Str}{col:Option Bool}{dd od:Option Addr}{k0 k1 k2 k3 k5:Option Value}{oc:Value}{es:Array DictEntry}{ep:Nat}{sl:Array (Option Value)}
  (l:K.lookup C=some (excClassObj nm q C N bs bm hd sn sub ab col dd k0 k1 k2 k3 k5 "ValueError.__new__")) (n:K.lookup N=some ⟨oc,od,.dict es ep,sl⟩) (o:(es.toList.all λe=>match e.key with |.str _ _=>true|_=>false)=true)
  (i:PySem.W.nsIn K N "__init__"=some init) (q1:PySem.W.nsIn K N "__class__"=some none) (q2:PySem.W.nsIn K N "__getattribute__"=some none) (q3:PySem.W.nsIn K N "__getattr__"=some none)
  (q4:PySem.W.nsIn K N "__setattr__"=some none) (q5:PySem.W.nsIn K N "place"=some none) (q6:PySem.W.nsIn K N "number"=some none) (hh:hd=true):XCl K C bm init:=by
 refine⟨nm,q,N,bs,hd,sn,sub,ab,col,dd,k0,k1,k2,k3,k5,l,?_,i,λy hy=>?_,hh⟩
 ·unfold PySem.W.nsOkIn
  rw [n]
  rw [Array.all_toList]at o
  exact o
 ·simp only [qn,mC0,nM0,or_false]at hy
  rcases hy with rfl|rfl|rfl|rfl|rfl|rfl<;>assumption
section
variable{X:Cx}{W:XW}{tg iter a:Expr}{f:Rho->Sto->R Er}{af:Rho->Sto->R (List Er)}{e:Expr}{es:List Expr}{pos apos:Pos}
def popF(p:Er)(rs:List Er)(S:Sto):R Er:=match p,rs with
 |.val (.loc l),[.val (.int i)]=>match S[l]? with
  |some (.lst ds)=>if -(2 ^ 63)<=i/\i<2 ^ 63 then match ixN ds.length i with
   |some j=>match ds[j]? with
    |some d=>.ok (.val d) (S.set l (.lst (ds.eraseIdx j)))
    |none=>.no
   |none=>.no
   else .no
  |_=>.no
 |_,_=>.no
def zTS:List MV->Option (List String)
 |[]=>some []
 |.typ n::r=>if known n=true then(zTS r).map (n::·)else none
 |_=>none
def yLB:List Er->Sto->R Er
 |[r,.val (.tup ts)],S=>match zIE S r with
  |some t=>match zTS ts with
   |some ns=>.ok (.val (.bl (ns.any (zVG t)))) S
   |none=>.no
  |none=>.no
 |_,_=>.no
end
section
variable{X:Cx}{W:XW}{a b o i:Expr}{f g:Rho->Sto->R Er}{pos:Pos}{pins:List (Addr×Obj)}{σ:St}{H:Hp}{s:Shared}{α:List Addr}
def Kinds(t:String):Prop:=t="NoneType"\/t="bool"\/t="int"\/t="str"\/t="tuple"\/t="list"
theorem yUG{S:Sto}{r:Er}{x:V}{u:Value}{t:String}(I:Inv X pins σ H s)(wd:Wd X.g α S H)(d:DenX X.K α H r x)(rx:RelV x u)(et:zIE S r=some t):
  ∃Hh:Heap->Prop,PySem.W.KitX X.K u (.type t) Hh/\Hh s.heap/\u≠.builtin "__main__.__loader__#opaque"/\Kinds t:=by
 unfold zIE at et
 split at et
 ·cases et
  cases zMW d
  cases rx
  exact⟨_,PySem.W.kitx_none,True.intro,(λz=>nomatch z),.inl rfl⟩
 ·cases et
  cases zJK d
  cases rx
  exact⟨_,PySem.W.kitx_bool,True.intro,(λz=>nomatch z),.inr (.inl rfl)⟩
 ·cases et
  cases xU d
  obtain⟨t,rfl⟩:=rx
  exact⟨_,PySem.W.kitx_int,True.intro,(λz=>nomatch z),.inr (.inr (.inl rfl))⟩
 ·cases et
  cases jG d
  obtain⟨t,rfl⟩:=rx
  exact⟨_,PySem.W.kitx_str,True.intro,(λz=>nomatch z),.inr (.inr (.inr (.inl rfl)))⟩
 ·cases et
  obtain⟨a,vs,rfl,sq,l⟩:=cN d
  cases rx
  obtain⟨its,r1,p1,_⟩:=I.tuple sq
  obtain⟨o,h1,h2,_⟩:=p1
  exact⟨_,PySem.W.kitx_tuple,⟨o,h1,h2⟩,(λz=>nomatch z),.inr (.inr (.inr (.inr (.inl rfl))))⟩
 ·cases et
 ·cases z:dZ S r with
  |none=>rw [z]at et;cases et
  |some ds=>
   rw [z]at et
   cases et
   obtain⟨a,vs,rfl,sq,l⟩:=zOI rfl wd z d
   cases rx
   obtain⟨its,r1,p1,_⟩:=I.list sq
   obtain⟨o,h1,h2,_⟩:=p1.isList
   exact⟨_,PySem.W.kitx_list,⟨o,h1,h2⟩,(λz=>nomatch z),.inr (.inr (.inr (.inr (.inr rfl))))⟩
theorem yFG{t:String}(ht:Kinds t): ∀{ts:List MV}{ns:List String}{vs:List V}{us:List Value},zTS ts=some ns->DenL X.K α H ts vs->Vals vs us->PySem.W.kitAny X.K (.type t) us=some (ns.any (zVG t))
 |[],ns,vs,us,hn,d,r=>by
  cases hn
  rw [d.isnil]at r
  cases r
  rfl
 |x::ts,ns,vs,us,hn,d,r=>by
  obtain⟨v,vr,rfl,dv,l⟩:=d.uncons
  cases x with
  |typ n=>
   unfold zTS at hn
   split at hn
   ·rename_i hk
    cases z:zTS ts with
    |none=>rw [z]at hn;cases hn
    |some ns'=>
     rw [z]at hn
     cases hn
     cases zCC dv
     cases r with
     |cons r1 r2=>
      cases r1
      rw [PySem.W.kitAny,zAL X.K ht hk,any_cons]
      cases hb:zVG t n with
      |true=>rfl
      |false=>exact yFG ht z l r2
   ·cases hn
  |_=>cases hn
theorem yHU:CallR X (.builtin "isinstance") (λxs H Q=> ∃α S r x y t ts ns,xs=[x,y]/\Wd X.g α S H/\DenX X.K α H r x/\DenX X.K α H (.val (.tup ts)) y/\zIE S r=some t/\zTS ts=some ns/\Q (.bl (ns.any (zVG t))) H):=by
 intro pins s σ H xs us Q I rr h
 obtain⟨α,S,r,x,y,t,ts,ns,rfl,wd,d,dy,et,hn,q⟩:=h
 obtain⟨u,w',rfl,rx,ry⟩:=vals2 rr
 obtain⟨a,vs,rfl,sq,l⟩:=cN dy
 cases ry
 obtain⟨its,r1,p1,_⟩:=I.tuple sq
 obtain⟨Hh,kx,hh,hx,ht⟩:=yUG I wd d rx et
 obtain⟨⟨oc,od,oda,os⟩,h1,h2,n,h3⟩:=p1
 cases h2
 cases h3
 exact PySem.W.kia_tup kx I.kIn hh h1 (yFG ht hn l r1) hx λtk=>⟨.bl _,H,I.tok _,rfl,q⟩
theorem yPJ:zOG X W (λxs H Q=> ∃α S r x y t ts ns,xs=[x,y]/\Wd X.g α S H/\DenX X.K α H r x/\DenX X.K α H (.val (.tup ts)) y/\zIE S r=some t/\zTS ts=some ns/\Q (.bl (ns.any (zVG t))) H) yLB:=by
 intro rs vs α S H Q wd d post
 unfold yLB at post
 split at post
 ·split at post
  ·rename_i t et
   split at post
   ·rename_i ns hn
    obtain⟨v,u,rfl,d1,d2⟩:=yRL d
    exact⟨α,S,_,v,u,t,_,ns,rfl,wd,d1,d2,et,hn,Post.val post wd (wT _)⟩
   ·exact post.elim
  ·exact post.elim
 ·exact post.elim
def yCW:MV->Bool
 |.str _=>true
 |_=>false
theorem yPK{k:MV}{a b:Key}(h:KeyD k a)(h':KeyD k b):a=b:=by
 cases k with
 |int i=>exact Eq.trans (show a=.inl i from h) (show b=.inl i from h').symm
 |str x=>exact Eq.trans (show a=.inr (mkS x)from h) (show b=.inr (mkS x)from h').symm
 |_=>exact False.elim h
theorem yLC{k k':MV}{a:Key}(h:KeyD k a)(h':KeyD k' a):k=k':=by
 cases k with
 |int i=>
  have e:a=.inl i:=h
  subst e
  cases k' with
  |int j=>have e':(Sum.inl i:Key)=.inl j:=h';cases e';rfl
  |str y=>have e':(Sum.inl i:Key)=.inr (mkS y):=h';cases e'
  |_=>exact False.elim h'
 |str x=>
  have e:a=.inr (mkS x):=h
  subst e
  cases k' with
  |int j=>have e':(Sum.inr (mkS x):Key)=.inl j:=h';cases e'
  |str y=>
   have e':(Sum.inr (mkS x):Key)=.inr (mkS y):=h'
   injection e' with e'
   rw [zXH e']
  |_=>exact False.elim h'
 |_=>exact False.elim h
theorem DenK.append: ∀{kvs kvs':List (MV×MV)}{xs xs':List (Key×V)},DenK X.K α H kvs xs->DenK X.K α H kvs' xs'->DenK X.K α H (kvs++kvs') (xs++xs')
 |_,_,_,_,.nil,h=>h
 |_,_,_,_,.cons hk a l,h=>.cons hk a (DenK.append l h)
theorem DenK.length: ∀{kvs:List (MV×MV)}{xs:List (Key×V)},DenK X.K α H kvs xs->xs.length=kvs.length
 |_,_,.nil=>rfl
 |_,_,.cons _ _ l=>by rw [lC0,lC0,DenK.length l]
def DK(X:Cx)(H:Hp)(d:Addr)(ks:List (Key×V)):Prop:=H d=some (.dK ks)\/(ks=[]/\H d=some (DN X.prog X.w d []))
theorem dk_of{kvs:List (MV×MV)}{d:Addr}(ob:ObD X.g α H d (.dic kvs))(hk:kvs.all (λp=>yCW p.1)=true): ∃ks,DK X H d ks/\DenK X.K α H kvs ks:=by
 rcases ob with⟨ks,h,l⟩|⟨xs,h,l⟩
 ·exact⟨ks,.inl h,l⟩
 ·cases l with
  |nil=>exact⟨[],.inr ⟨rfl,h⟩,.nil⟩
  |@cons k nk a d v u fs xs hn e ha hd r l=>
   rw [all_cons,aE]at hk
   cases k with
   |str x=>exact absurd (cL ha) (λz=>nomatch z)
   |_=>exact absurd hk.1 xF0
theorem yFH(I:Inv X pins σ H s){ks:List (Key×V)}{d:Addr}(h:DK X H d ks):ks.length<=sizeLine/\(d==sysModules)=false/\ ∃vs,KV ks vs/\s.heap.DictOf (zEQ X.prog X.w) d vs:=by
 rcases h with h|⟨rfl,h⟩
 ·exact(show ObjOk X.prog X.w H s.heap d (.dK ks)from I.hok d _ h)
 ·obtain⟨⟨hz,hs,o,es,ep,ho,hc,hd,he,hn⟩,_⟩:=(show ObjOk X.prog X.w H s.heap d (DN X.prog X.w d [])from I.hok d _ h)
  have he':es.toList=[]:=he
  refine⟨zero_le _,hs,[],.nil,o,es,ep,ho,hc,hd,λe hm=>?_,by rw [he'];exact .nil,List.nodup_nil⟩
  rw [<-Array.mem_toList_iff,he']at hm
  exact absurd hm (by simp)
noncomputable def zWL(S:Sto):Er->Option (Nat×List (MV×MV))
 |.val (.loc l)=>match S[l]? with
  |some (.dic kvs)=>if kvs.all (λp=>yCW p.1)=true then some (l,kvs)else none
  |_=>none
 |_=>none
theorem yLD{S:Sto}(wd:Wd X.g α S H){r:Er}{x:V}{l:Nat}{kvs:List (MV×MV)}(e:zWL S r=some (l,kvs))(d:DenX X.K α H r x):
  ∃c ks,x=.ref c/\α[l]? =some c/\S[l]? =some (.dic kvs)/\DK X H c ks/\DenK X.K α H kvs ks/\kvs.all (λp=>yCW p.1)=true:=by
 unfold zWL at e
 split at e
 ·rename_i n
  obtain⟨c,rfl,h⟩:=zDF d
  split at e
  ·rename_i ks hS
   split at e
   ·rename_i hk
    obtain⟨rfl,rfl⟩:=Prod.mk.inj (Option.some.inj e)
    obtain⟨xs,dd,l⟩:=dk_of (wd.obj _ c _ h hS) hk
    exact⟨c,xs,rfl,h,hS,dd,l,hk⟩
   ·cases e
  ·cases e
 ·cases e
end
section
variable{X:Cx}{W:XW}{o e:Expr}{es:List Expr}{f:Rho->Sto->R Er}{af:Rho->Sto->R (List Er)}{apos pos:Pos}{to:TE}{t:TA}{T:String}{name:Str}{id:String}{r:V->List V->Hp->VK->Prop}
def zOT(X:Cx)(T:String)(TY:V->Hp->Prop):Prop:= ∀(pins:List (Addr×Obj))(s:Shared)(σ:St)(H:Hp)(x:V)(v:Value),Inv X pins σ H s->RelV x v->TY x H->s.TypeIs v T/\ ∀a,v=.ref a-> ∃ob,s.heap.get? a=some ob/\ob.dict=none
theorem yUH{TY:V->Hp->Prop}(hTY:zOT X T TY)(pa:PlainAttrs T)(slot:Slot T name id)(hty:typeOf (.builtin id)=pure (.type "method_descriptor"))(hm:MtR X id r)(ho:PE X o to)(ha:PA X (e::es) t)
  (hbase:attributeBase o name X.env (eval o X.env)=eval o X.env)
  (hfew:((backTo pos (starEach (e::es) X.env)).all (λx=>!x.1)&&(backToKw pos (keywordEach [] X.env)).all (λx=>x.1.isSome)
   &&decide ((e::es).length+([]:List Keyword).length+(if([]:List Keyword).isEmpty then 0 else 1)<30))=true)
  (hline:(apos.endLine==pos.line)=true) (hs:starEach (e::es) X.env=(false,eval e X.env)::starEach es X.env) (hplain:(backTo pos (starEach es X.env)).any (·.1)=false):
  PE X (.Call (.Attribute o name apos) (e::es) [] pos) (λσ H Q=>to σ H λx H1=>TY x H1/\t σ H1 λvs H2=>r x vs H2 Q):=by
 intro pins s σ H Q I h
 refine wpAny_Call_method_late hbase hfew hline rfl (thn (ho pins s σ H _ I h) λv s1 ⟨x,H1,I1,r1,ty,q1⟩=>?_)
 obtain⟨h1,h2⟩:=hTY pins s1 σ H1 x v I1 r1 ty
 refine⟨T,id,pa,slot,hty,h1,h2,?_⟩
 have hA:=ha pos pins s1 σ H1 _ I1 q1
 rw [hs]at hA ⊢
 refine Calls.callWith_builtin (by show(false || (backTo pos (starEach es X.env)).any (·.1))=false;rw [hplain]<;>rfl) (Calls.evalArgs_plain ?_)
 exact thn hA λus s2 ⟨vs,H2,I2,r2,q2⟩=>hm pins s2 σ H2 x vs v us Q I2 r1 r2 q2
end
def VAt(d:Addr)(us:List Value)(ep:Nat)(h:Heap):Prop:= ∃o es,h.get? d=some o/\o.ExactDict/\o.data=.dict es ep/\es.toList.map (·.val)=us
theorem VAt.at{d:Addr}{us:List Value}{ep:Nat}{h h':Heap}(x:VAt d us ep h)(m: ∀o,h.get? d=some o->h'.get? d=some o):VAt d us ep h':=let ⟨o,es,ho,r⟩:=x;⟨o,es,m o ho,r⟩
theorem VAt.size{d:Addr}{us:List Value}{ep:Nat}{h:Heap}(x:VAt d us ep h): ∃o es,h.get? d=some o/\o.ExactDict/\o.data=.dict es ep/\es.size=us.length/\ ∀i (hi:i<es.size),us[i]? =some es[i].val:=by
 obtain⟨o,es,ho,hc,hd,e⟩:=x
 refine⟨o,es,ho,hc,hd,by rw [<-e,lM0,Array.length_toList],λi hi=>?_⟩
 rw [<-e,getElem?_map,Array.getElem?_toList,Array.getElem?_eq_getElem hi]
 rfl
end M
end L2
namespace L2
open PySem PySem.Spec PyProof.Rows
section
variable{prog:Program}{w:World}{A:Around}{E:Value->Shared->Prop}{h:Heap}{g:Array GenState}{d:Drawn}{t:Nat}{os:OsState}
variable{nm q:Str}{C N:Addr}{bs bm bmB:List Value}{hdct:Bool}{sn:List Str}{sub:List Value}{ab:Bool}{col:Option Bool}{dd:Option Addr}{k0 k1 k2 k3 k5:Option Value}{B newId initId:String}
theorem zRM(F:ExcBaseFacts B newId initId bmB)(T:OwnTail h bmB bm){mN:Str->Option Value}{rest:List Value}{fI:Addr}{oI:Obj}{Q:Fin->Shared->Prop}
  (hC:h.get? C=some (excClassObj nm q C N bs bm hdct sn sub ab col dd k0 k1 k2 k3 k5 newId)) (hn:h.Ns N mN) (hi:mN "__init__"=some (.ref fI)) (hfI:h.get? fI=some oI) (hfc:oI.cls=.type "function")
  (hq: ∀h' e,Heap.MadeExcOf h h' e (.ref C) rest->wpAny (model prog w) A (call (.ref fI) (.ref e::rest)) (λr s'=>r=.none/\Q (.done (.ret (.ref e))) s') E ⟨h',g,d,t,os⟩) (hrest:rest.length<=sizeLine):
  wpAny (model prog w) A (Builtin.«type.__call__» ⟨.ref C::rest,[]⟩) Q E ⟨h,g,d,t,os⟩:=by
 repeat (first |with_reducible refine wpAny_loadPart_at hC ?_|with_reducible refine wpAny_madeBy_exc hC ?_|wp_step)
 refine codeAny_call_builtin_code (Code.quiet_builtin _ F.quiet) (wpAny_check_new_subT F T hC ?_)
 refine codeAny_exc_new_subT F T hC ?_ hrest
 show wpAny _ _ _ _ _ _
 have hC₁:=hP0 {cls:=.ref C,data:=.fields #[.ref h.objs.size,.none,.none,.none,.bool false,.none]} (hP0 {cls:=.type "tuple",data:=.seq rest.toArray} hC)
 have hfI₁:=hP0 {cls:=.ref C,data:=.fields #[.ref h.objs.size,.none,.none,.none,.bool false,.none]} (hP0 {cls:=.type "tuple",data:=.seq rest.toArray} hfI)
 have hn₁:((h.push {cls:=.type "tuple",data:=.seq rest.toArray}).push {cls:=.ref C,data:=.fields #[.ref h.objs.size,.none,.none,.none,.bool false,.none]}).Ns N mN:=
  let ⟨o,es,ep,e,r⟩:=hn;⟨o,es,ep,hP0 _ (hP0 _ e),r⟩
 have hget:((h.push {cls:=.type "tuple",data:=.seq rest.toArray}).push {cls:=.ref C,data:=.fields #[.ref h.objs.size,.none,.none,.none,.bool false,.none]}).get? (h.objs.size+1)=some {cls:=.ref C,data:=.fields #[.ref h.objs.size,.none,.none,.none,.bool false,.none]}:=by heap_get
 have hcC:(Value.ref C::bm).contains (.ref C)=true:=by simp
 have T₁:=T.keeps (h':=(h.push {cls:=.type "tuple",data:=.seq rest.toArray}).push {cls:=.ref C,data:=.fields #[.ref h.objs.size,.none,.none,.none,.bool false,.none]}) λb o e=>hP0 _ (hP0 _ e)
 unfold isInstance
 repeat (first |with_reducible refine wpAny_loadPart_at hget ?_|(with_reducible refine wpAny_isSubtype_exc hC₁ ?_;rw [hcC])|wp_step)
 show wpAny _ _ (typeLookup (.ref C) _) _ _ _
 refine wpAny_typeLookup_tail hC₁ hn₁ T₁ F.mroIs F.init.lookup ?_
 rw [hi]
 refine wpAny_holding (wB0 ?_)
 unfold bindSpecial
 refine wB0 (wpAny_typeOf (T:="function") ⟨_,hfI₁,hfc⟩ ?_)
 rw [iP (by decide)]
 refine wP0 (wB0 (wpAny_mono (hq _ (h.objs.size+1) ⟨λb o hb=>hP0 _ (hP0 _ hb),Heap.get?_none_of_le (Nat.le_succ _),h.objs.size,hget,Heap.get?_none_of_le (le_refl _),?_⟩) (λr s' hr=>?_) λ_ _ x=>x))
 ·exact hP0 _ (Heap.get?_push_at rfl rfl)
 ·obtain⟨rfl,hQ⟩:=hr
  wp_walk
  exact hQ
theorem yCX(F:ExcBaseFacts B newId initId bmB)(T:OwnTail h bmB bm){mN:Str->Option Value}{rest:List Value}{fI:Addr}{oI:Obj}{Q:Value->Shared->Prop}
  (hC:h.get? C=some (excClassObj nm q C N bs bm hdct sn sub ab col dd k0 k1 k2 k3 k5 newId)) (hn:h.Ns N mN) (hi:mN "__init__"=some (.ref fI)) (hfI:h.get? fI=some oI) (hfc:oI.cls=.type "function")
  (hq: ∀h' e,Heap.MadeExcOf h h' e (.ref C) rest->wpAny (model prog w) (A.under (.builtin "type.__call__" ⟨.ref C::rest,[]⟩)) (call (.ref fI) (.ref e::rest)) (λr s'=>r=.none/\Q (.ref e) s') E ⟨h',g,d,t,os⟩) (hrest:rest.length<=sizeLine):
  wpAny (model prog w) A (call (.ref C) rest) Q E ⟨h,g,d,t,os⟩:=by
 have f1:=tc_lookup
 have f2:=tc_bind (.ref C)
 have hT:(⟨h,g,d,t,os⟩:Shared).TypeIs (.ref C) "type":=⟨_,hC,rfl⟩
 refine wpAny_call (codeAny_of_tree ?_)
 show wpAny _ _ (callAny (.ref C) _) _ _ _
 repeat (any_goals (first |assumption|with_reducible refine wpAny_loadPart_at hC ?_|wp_step))
 refine⟨rfl,?_⟩
 refine codeAny_call_builtin_at (Code.quiet_builtin _ (by decide+kernel)) entry_typeCall (wpAny_check_type_call_sub hC (zRM (hrest:=hrest) F T hC hn hi hfI hfc λh' e hm=>?_))
 exact hq h' e hm
end
section
variable{prog:Program}{w:World}{A:Around}{E:Value->Shared->Prop}{s:Shared}{env:Env}
variable{nm q:Str}{C N:Addr}{bs bm bmB:List Value}{hdct:Bool}{sn:List Str}{sub:List Value}{ab:Bool}{col:Option Bool}{dd:Option Addr}{k0 k1 k2 k3 k5:Option Value}{B newId initId:String}
theorem zTT{M:Model}{x:Sem Value}{Q:Flow->Shared->Prop}(hbase:bm.contains (.type "BaseException")=true)(hh:A.handled=none)
  (h:wpAny M A x (λv s₁=> ∃e dX vs,v=.ref e/\s₁.heap.get? C=some (excClassObj nm q C N bs bm hdct sn sub ab col dd k0 k1 k2 k3 k5 newId)/\s₁.heap.get? e=some {cls:=.ref C,dict:=dX,data:=.fields #[.ref vs,.none,.none,.none,.bool false,.none]}/\E (.ref e) s₁) E s):
  wpAny M A (raiseStmt env (some x) none) Q E s:=by
 have hcB:(Value.ref C::bm).contains (.type "BaseException")=true:=by rw [contains_cons,hbase,Bool.or_true]
 unfold raiseStmt
 refine wB0 (wpAny_mono h (λv s₁ h₁=>?_) λ_ _ x=>x)
 obtain⟨e,dX,vs,rfl,hC,he,hE⟩:=h₁
 obtain⟨hp,g,d,tk,os⟩:=s₁
 repeat (first |with_reducible refine wpAny_loadPart_at he ?_|with_reducible refine wpAny_loadPart_at hC ?_|(with_reducible refine wpAny_isSubtype_exc hC ?_;rw [hcB])|wp_step)
 exact wpAny_raiseNew_none hh hE
theorem yAF(F:ExcBaseFacts B newId initId bmB){mN:Str->Option Value}{x:Str}{np cpos pos:Pos}{args:List Expr}{fI:Addr}{oI:Obj}{Q:Flow->Shared->Prop}
  (hbase:bm.contains (.type "BaseException")=true) (hh:A.handled=none) (hplain:(backTo cpos (starEach args env)).any (·.1)=false) (hi:mN "__init__"=some (.ref fI)) (hfc:oI.cls=.type "function")
  (h:wpAny (model prog w) A (eval (.Name x np) env) (λf s₁=>f=.ref C/\wpAny (model prog w) A (evalArgs (.ref C) true (backTo cpos (starEach args env)) [])
   (λa s₂=>a.kw=[]/\a.pos.length<=sizeLine/\s₂.heap.get? C=some (excClassObj nm q C N bs bm hdct sn sub ab col dd k0 k1 k2 k3 k5 newId)/\s₂.heap.Ns N mN/\OwnTail s₂.heap bmB bm/\s₂.heap.get? fI=some oI/\
    ∀h' e,Heap.MadeExcOf s₂.heap h' e (.ref C) a.pos->wpAny (model prog w) (A.under (.builtin "type.__call__" ⟨.ref C::a.pos,[]⟩)) (call (.ref fI) (.ref e::a.pos))
     (λr s'=>r=.none/\ ∃dX vs,s'.heap.get? C=some (excClassObj nm q C N bs bm hdct sn sub ab col dd k0 k1 k2 k3 k5 newId)/\s'.heap.get? e=some {cls:=.ref C,dict:=dX,data:=.fields #[.ref vs,.none,.none,.none,.bool false,.none]}/\E (.ref e) s') E {s₂ with heap:=h'}) E s₁) E s):
  wpAny (model prog w) A (exec (.Raise (some (.Call (.Name x np) args [] cpos)) none pos) env) Q E s:=by
 rw [arm_exec_Raise]
 first
  |refine wB0 (wpAny_standAt (zTT (C:=C) (nm:=nm) (q:=q) (N:=N) (bs:=bs) (bm:=bm) (hdct:=hdct) (sn:=sn) (sub:=sub) (ab:=ab) (col:=col) (dd:=dd) (k0:=k0) (k1:=k1) (k2:=k2) (k3:=k3) (k5:=k5) (newId:=newId) hbase hh (wB0 (wpAny_mono (wpAny_Call_ofName (wpAny_mono h (λf s₁ h₁=>?_) λ_ _ x=>x)) (λv s₃ h₃=>wB0 (wpAny_standAt (wP0 h₃))) λ_ _ x=>x))))
  |(simp only [evalOpt,Option.map];refine wB0 (wpAny_standAt (zTT (C:=C) (nm:=nm) (q:=q) (N:=N) (bs:=bs) (bm:=bm) (hdct:=hdct) (sn:=sn) (sub:=sub) (ab:=ab) (col:=col) (dd:=dd) (k0:=k0) (k1:=k1) (k2:=k2) (k3:=k3) (k5:=k5) (newId:=newId) hbase hh (wB0 (wpAny_mono (wpAny_Call_ofName (wpAny_mono h (λf s₁ h₁=>?_) λ_ _ x=>x)) (λv s₃ h₃=>wB0 (wpAny_standAt (wP0 h₃))) λ_ _ x=>x)))))
 obtain⟨rfl,h₁⟩:=h₁
 unfold callWith
 refine wB0 (wpAny_holding (wpAny_mono h₁ (λa s₂ h₂=>wB0 (wpAny_standAt ?_)) λ_ _ x=>x))
 obtain⟨apos,akw⟩:=a
 obtain⟨hkw,hlen,hC,hn,T,hfI,h₂⟩:=h₂
 obtain rfl:akw=[]:=hkw
 obtain⟨hp,g,d,tk,os⟩:=s₂
 simp only [hplain]
 refine wB0 (wpAny_keeperOf_exc hC ?_)
 refine wB0 (yCX (hrest:=hlen) F T hC hn hi hfI hfc λh' e hm=>wpAny_mono (h₂ h' e hm) (λr s' ⟨hr,dX,vs,a1,a2,a4⟩=>⟨hr,wB0 (wpAny_holding (wpAny_point (wP0 ⟨e,dX,vs,rfl,a1,a2,a4⟩)))⟩) λ_ _ z=>z)
end
open Builtin Builtin.ObjectAttr
section
variable{prog:Program}{w:World}{A:Around}{E:Value->Shared->Prop}{h:Heap}{g:Array GenState}{d:Drawn}{t:Nat}{os:OsState}{C M x:Addr}{o:Obj}{v:Value}{name:Str}
variable{nm q:Str}{N:Addr}{bs bm:List Value}{sn:List Str}{sub:List Value}{ab:Bool}{col:Option Bool}{dd:Option Addr}{k0 k1 k2 k3 k5:Option Value}{newId:String}
theorem yCY{Mo:Model}{nameV:Value}{Q:Unit->Shared->Prop}(O:zGZ h C M)(hx:h.get? x=some o)(hc:o.cls=.ref C)(hq:Q () ⟨h,g,d,t,os⟩):
  wpAny Mo A (checkBuiltinCall "object.__setattr__" ⟨[.ref x,nameV,v],[]⟩) Q E ⟨h,g,d,t,os⟩:=by
 have SF:=F.store_ValueError
 have hcB:(Value.ref C::.ref M::bmV).contains (.type "object")=true:=by simp [contains_cons]
 have ha:=SF.args (.ref x) nameV v
 simp only [checkBuiltinCall,SF.kind,SF.split]
 refine wB0 ?_
 ·unfold isInstance
  repeat (first |(with_reducible refine wpAny_loadPart_at hx ?_;rw [hc])|(with_reducible refine zHA O ?_;rw [hcB])|wp_step)
  exact hq
def yRM(h h':Heap)(x:Addr)(o:Obj)(name:Str)(v:Value)(dx:Addr):Prop:=
 h.get? dx=none/\dx≠x/\h'.get? x=some {cls:=o.cls,dict:=some dx,data:=o.data,slots:=o.slots}/\h'.Ns1 dx (λy=>if y=name then some v else none)/\ ∀b ob,b≠x->h.get? b=some ob->h'.get? b=some ob
theorem yCZ{tk:Tok}{Q:Fin->Shared->Prop}(O:zGZ h C M)(hC:h.get? C=some (excClassObj nm q C N bs (.ref M::bmV) true sn sub ab col dd k0 k1 k2 k3 k5 newId))(hx:h.get? x=some o)(hc:o.cls=.ref C)(hdn:o.dict=none)(hnc: ∀c,o.data≠.cls c)
  (hn:name∈qn) (hB:typeLookup (.type "ValueError") name=pure none) (hq: ∀h' tk' dx,yRM h h' x o name v dx->Q (.done (.ret .none)) ⟨h',g,d,tk',os⟩):
  wpAny (model prog w) A (Builtin.«object.__setattr__» ⟨[.ref x,.str name tk,v],[]⟩) Q E ⟨h,g,d,t,os⟩:=by
 have hpass:=F.store_ValueError.passes (.ref x)
 unfold Builtin.«object.__setattr__»
 repeat (first |rw [refuse_eq]|(rw [refuseLoop_ref,refuseLoop_ref,hpass])|(with_reducible refine wpAny_loadPart_at hx ?_;rw [hc])|with_reducible refine wpAny_mroOf_exc hC ?_|with_reducible refine zEV O hn hB ?_|wp_step)
 rw [hdn,iN0 (by simp [typeHasDict])]
 split
 ·rename_i hcd
  cases hcd
 split
 ·rename_i c hcd
  exact absurd hcd (hnc c)
 ·have hx₁:(h.push {cls:=.type "dict",data:=.dict #[]}).get? x=some o:=hP0 _ hx
  have hxs:x≠h.objs.size:=ne_of_lt (Heap.lt_size hx)
  refine wB0 (wpAny_alloc' ?_)
  refine wB0 (wpAny_update' hx₁ ?_)
  refine wP0 ?_
  have hgd:((h.push {cls:=.type "dict",data:=.dict #[]}).update x λo=>{cls:=o.cls,dict:=some h.objs.size,data:=o.data,slots:=o.slots}).get? h.objs.size=some {cls:=.type "dict",data:=.dict #[]}:=
   (Heap.get?_update_ne _ _ _ _ hxs.symm).trans (Heap.get?_push_at rfl rfl)
  have hnd:((h.push {cls:=.type "dict",data:=.dict #[]}).update x λo=>{cls:=o.cls,dict:=some h.objs.size,data:=o.data,slots:=o.slots}).Ns h.objs.size (λ_=>none):=
   ⟨_,#[],_,hgd,rfl,λe he=>absurd he (by simp),λ_=>rfl⟩
  show wpAny _ _ (storeInDict h.objs.size (.str name tk) name v) _ _ _
  unfold storeInDict newKeyGuard
  refine wB0 (wP0 (wB0 (wpAny_nsSet1 (Heap.Ns1.of_empty hnd) λh' hn' hs=>?_)))
  obtain⟨oD,esD,epD,hoD,hdD,hcD⟩:=hn'.count (Within.cons name v Within.nil)
  refine wB0 (wpAny_lookBehind hoD (by rw [hdD];exact pastItsLine_dict (le_trans hcD (by rw [lC0,length_nil,sizeLine_eq];omega))) ?_)
  wp_walk
  refine hq h' _ h.objs.size ⟨Heap.get?_none_of_le (le_refl _),hxs.symm,?_,hn',λb ob hbx hb=>(hs.2 b (ne_of_lt (Heap.lt_size hb))).trans ((Heap.get?_update_ne _ _ _ _ hbx).trans (hP0 _ hb))⟩
  refine(hs.2 x hxs).trans (Heap.get?_update_self _ hx₁ ?_)
  have hfr:=(Heap.get?_some_iff.mp hx).2
  obtain⟨oc,od,odt,osl⟩:=o
  cases odt<;>first |rfl|exact hfr
theorem yHV{Q:Unit->Shared->Prop}(O:zGZ h C M)(hC:h.get? C=some (excClassObj nm q C N bs (.ref M::bmV) true sn sub ab col dd k0 k1 k2 k3 k5 newId))(hx:h.get? x=some o)(hc:o.cls=.ref C)(hdn:o.dict=none)(hnc: ∀c,o.data≠.cls c)
  (hn:name∈qn) (hB:typeLookup (.type "ValueError") name=pure none) (hq: ∀h' tk' dx,yRM h h' x o name v dx->Q () ⟨h',g,d,tk',os⟩):wpAny (model prog w) A (setAttr (.ref x) name v) Q E ⟨h,g,d,t,os⟩:=by
 have f3:=F.store_ValueError.slot.bind (.ref x)
 have q4:("__setattr__":Str)∈qn:=by decide
 unfold setAttr callSpecial? specialOf
 repeat (any_goals (first |assumption|(with_reducible refine wpAny_loadPart_at hx ?_;rw [hc])|with_reducible refine zEV O q4 F.store_ValueError.slot.lookup ?_|wp_step))
 refine codeAny_call_builtin F.store_ValueError.slot.plain F.store_ValueError.entry (yCY O hx hc (yCZ O hC hx hc hdn hnc hn hB λh' tk' dx hs=>?_))
 repeat (any_goals (first |assumption|wp_step))
 exact hq h' tk' dx hs
theorem yDA{tk:Tok}{dx:Addr}{mA:Str->Option Value}{Q:Fin->Shared->Prop}(O:zGZ h C M)(hC:h.get? C=some (excClassObj nm q C N bs bm true sn sub ab col dd k0 k1 k2 k3 k5 newId))(hx:h.get? x=some o)(hc:o.cls=.ref C)(hdx:o.dict=some dx)(hnc: ∀c,o.data≠.cls c)(hns:h.Ns1 dx mA)(hv:mA name=some v)
  (hn:name∈qn) (hB:typeLookup (.type "ValueError") name=pure none) (hq:Q (.done (.ret v)) ⟨h,g,d,t,os⟩):
  wpAny (model prog w) A (Builtin.«object.__getattribute__» ⟨[.ref x,.str name tk],[]⟩) Q E ⟨h,g,d,t,os⟩:=by
 repeat (any_goals (first |assumption|(with_reducible refine wpAny_loadPart_at hx ?_;rw [hc])|with_reducible refine zEV O hn hB ?_|wp_step))
 split
 ·rename_i c hcd
  exact absurd hcd (hnc c)
 unfold instanceDict
 repeat (first |(with_reducible refine wpAny_loadPart_at hx ?_;rw [hc])|with_reducible refine wpAny_loadPart_at hC ?_|wp_step)
 rw [hdx]
 repeat (first |(with_reducible refine wpAny_nsGet hns.ns ?_;rw [hv])|wp_step)
 exact hq
theorem yHW{tk:Tok}{dx:Addr}{mA:Str->Option Value}{R:Result->Shared->Prop}(O:zGZ h C M)(hC:h.get? C=some (excClassObj nm q C N bs bm true sn sub ab col dd k0 k1 k2 k3 k5 newId))(hx:h.get? x=some o)(hc:o.cls=.ref C)(hdx:o.dict=some dx)(hnc: ∀c,o.data≠.cls c)(hns:h.Ns1 dx mA)(hv:mA name=some v)
  (hn:name∈qn) (hB:typeLookup (.type "ValueError") name=pure none) (hq:R (.ok (.ret v)) ⟨h,g,d,t,os⟩):
  codeAny (model prog w) A (.call (.builtin "BaseException.__getattribute__") ⟨[.ref x,.str name tk],[]⟩) R ⟨h,g,d,t,os⟩:=
 codeAny_call_builtin F.attrBase_ValueError.ga.plain F.entry_bexc_ga (zWE O hx hc (yDA O hC hx hc hdx hnc hns hv hn hB hq))
theorem yPL{tk:Tok}{dx:Addr}{mA:Str->Option Value}{fill expr:Bool}{Q:Value->Shared->Prop}(O:zGZ h C M)(hC:h.get? C=some (excClassObj nm q C N bs bm true sn sub ab col dd k0 k1 k2 k3 k5 newId))(hx:h.get? x=some o)(hc:o.cls=.ref C)(hdx:o.dict=some dx)(hnc: ∀c,o.data≠.cls c)(hns:h.Ns1 dx mA)(hv:mA name=some v)
  (hn:name∈qn) (hB:typeLookup (.type "ValueError") name=pure none) (hh:handedOut v=pure v) (hq:Q v ⟨h,g,d,t,os⟩):
  wpAny (model prog w) A (getAttrBy (.ref x) (.str name tk) fill expr) Q E ⟨h,g,d,t,os⟩:=by
 have f3:=F.attrBase_ValueError.ga.bind (.ref x)
 have hx0:(expr&&onTheHeap (Value.builtin "BaseException.__getattribute__"))=false:=by cases expr<;>rfl
 have hx2:(Value.builtin "BaseException.__getattribute__"==Value.builtin "object.__getattribute__")=false:=by decide+kernel
 have hx1:(onTheHeap (Value.ref C)&&Value.builtin "BaseException.__getattribute__"==Value.builtin "object.__getattribute__")=false:=by rw [hx2];rfl
 repeat (any_goals (first |assumption|(with_reducible refine wpAny_loadPart_at hx ?_;rw [hc])|with_reducible refine zEV O qn2 yRE ?_|with_reducible refine zEV O qn3 zZW ?_|wp_step))
 refine yHW O hC hx hc hdx hnc hns hv hn hB ?_
 repeat (any_goals (first |assumption|rw [hh]|wp_step))
theorem yHX{dx:Addr}{mA:Str->Option Value}{expr:Bool}{Q:Value->Shared->Prop}(O:zGZ h C M)(hC:h.get? C=some (excClassObj nm q C N bs bm true sn sub ab col dd k0 k1 k2 k3 k5 newId))(hx:h.get? x=some o)(hc:o.cls=.ref C)(hdx:o.dict=some dx)(hnc: ∀c,o.data≠.cls c)(hns:h.Ns1 dx mA)(hv:mA name=some v)
  (hn:name∈qn) (hB:typeLookup (.type "ValueError") name=pure none) (hh:handedOut v=pure v) (hq:Q v ⟨h,g,d,t+1,os⟩):wpAny (model prog w) A (getAttr (.ref x) name expr) Q E ⟨h,g,d,t,os⟩:=by
 unfold getAttr
 repeat (any_goals (first |assumption|with_reducible apply yPL O hC hx hc hdx hnc hns hv hn hB hh|wp_step))
end
theorem zTU:typeLookup (.type "ValueError") "place"=pure none:=by rw [typeLookup_type,builtinLookup_eq_fast];kernel_rfl
abbrev exO(C:Addr)(d:Option Addr)(t:Addr):Obj:={cls:=.ref C,dict:=d,data:=.fields #[.ref t,.none,.none,.none,.bool false,.none]}
section
variable{prog:Program}{w:World}{A:Around}{E:Value->Shared->Prop}{h:Heap}{g:Array GenState}{d:Drawn}{t:Nat}{os:OsState}{C M x t0:Addr}{u:Value}
variable{nm q:Str}{N:Addr}{bs bm bmB:List Value}{hdct:Bool}{sn:List Str}{sub:List Value}{ab:Bool}{col:Option Bool}{dd:Option Addr}{k0 k1 k2 k3 k5:Option Value}{B newId initId:String}
theorem yDB(F:ExcBaseFacts B newId initId bmB)(T:OwnTail h bmB bm){Q:Value->Shared->Prop}(hC:h.get? C=some (excClassObj nm q C N bs bm hdct sn sub ab col dd k0 k1 k2 k3 k5 newId))(hx:h.get? x=some (exO C none t0))
  (hq: ∀h' t1,h'.get? x=some (exO C none t1)->(∀b ob,b≠x->h.get? b=some ob->h'.get? b=some ob)->Q .none ⟨h',g,d,t,os⟩):wpAny (model prog w) A (call (.builtin initId) [.ref x,u]) Q E ⟨h,g,d,t,os⟩:=by
 refine wpAny_call (codeAny_call_builtin F.init.plain F.initEntry (wpAny_check_init_subT F T hC hx rfl ?_))
 wp_walk
 refine hq _ (h.objs.size) ?_ λb ob hb hob=>?_
 ·rw [Heap.get?_update_self _ (hP0 _ hx) rfl]
  rfl
 ·rw [Heap.get?_update_other _ _ (Ne.symm hb)]
  exact hP0 _ hob
end
abbrev BIG:Nat:=10 ^ 100
inductive JL(par:Str):List Expr->Prop
 |nil:JL par []
 |txt {y:Str} {k:Nat} {pos:Pos} {es:List Expr}:y.length<=200->JL par es->JL par (.Constant (.str y) k pos::es)
 |fld {p pos:Pos} {es:List Expr}:JL par es->JL par (.FormattedValue (.Name par p) (-1) none pos::es)
section
variable{X:Cx}{par:Str}{i:Nat}{pins:List (Addr×Obj)}{σ:St}{H:Hp}
theorem yLE(hN:X.N[i]? =some par)(hv:Vis X.env.scope par)(hd:(par==("__debug__":Str))=false)(hcd:(par==("__classdict__":Str))=false){n:Int}(hs:σ[i]? =some (some (.int n)))(hb:n.natAbs<BIG){Q:Str->Shared->Prop}(hq: ∀y s,y.length<=100000->Inv X pins σ H s->Q y s)
  {es:List Expr} (hj:JL par es): ∀(acc:Str)(s:Shared),acc.length+200 * es.length<=100000->Inv X pins σ H s->Joins (model X.prog X.w) X.A X.xe (evalEach es X.env) acc Q s:=by
 induction hj with
 |nil=>intro acc s hl I;exact hq acc s (by simpa using hl) I
 |@txt y k pos es hy h ih=>
  intro acc s hl I
  rw [lC0]at hl
  have sl:(acc++y).length=acc.length+y.length:=PySem.strLen_append ..
  refine thn (yIK (X:=X) pins s σ H (λv H'=>v=.str y/\H'=H) I ⟨rfl,rfl⟩) λu s1 ⟨v,H',I',r,e1,e2⟩=>?_
  subst e1 e2
  obtain⟨tk,rfl⟩:=r
  exact⟨y,tk,rfl,by rw [sl,sizeLine_eq];omega,ih (acc++y) s1 (by rw [sl];omega) I'⟩
 |@fld p pos es h ih=>
  intro acc s hl I
  rw [lC0]at hl
  have len:(Str.ofString (toString n)).length<=101:=by rw [PySem.ofString_length];exact int_text_length_le10 (k:=100) (by decide) hb
  have sl:(acc++(toString n:Str)).length<=acc.length+101:=by
   have:=PySem.strLen_append acc (toString n:Str)
   rw [this];exact Nat.add_le_add_left len _
  have hlog:n.natAbs.log2<1920:=by
   by_cases z:n.natAbs=0
   ·rw [z];decide
   ·exact(log2_lt z).mpr (Nat.lt_trans hb (by decide+kernel))
  refine wpAny_FormattedValue_plain (thn (zSI (X:=X) hN hv hd hcd pins s σ H (λv H'=>v=.int n/\H'=H) I ⟨_,hs,rfl,rfl⟩) λu s1 ⟨v,H',I',r,e1,e2⟩=>?_)
  subst e1 e2
  obtain⟨tk,rfl⟩:=r
  exact wpAny_formatField_int hlog ⟨_,_,rfl,by rw [sizeLine_eq];omega,ih _ _ (by omega) (I'.tok _)⟩
def tJ(i:Nat):TE:=λσ H Q=> ∃n,σ[i]? =some (some (.int n))/\n.natAbs<BIG/\ ∀y:Str,Q (.str y) H
theorem yPM{v1 v2:Expr}{vs:List Expr}{pos:Pos}(hN:X.N[i]? =some par)(hv:Vis X.env.scope par)(hd:(par==("__debug__":Str))=false)(hcd:(par==("__classdict__":Str))=false)(h:JL par (v1::v2::vs))(hl:vs.length<=100):PE X (.JoinedStr (v1::v2::vs) pos) (tJ i):=by
 intro pins s σ H Q I ⟨n,hs,hb,q⟩
 refine wpAny_JoinedStr (yLE (pins:=pins) (H:=H) hN hv hd hcd hs hb (λy s1 hy I1=>⟨by rw [sizeLine_eq];omega,.str y,H,I1.tok _,⟨_,rfl⟩,q y⟩) h _ s ?_ I)
 rw [lC0,lC0]
 show 0+_<=_
 omega
end
def drp(H:Hp)(e:Addr):Hp:=λb=>if b=e then none else H b
theorem zNC{H:Hp}{e b:Addr}(h:b≠e):drp H e b=H b:=by unfold drp;rw [iN0 h]
theorem yAG{H:Hp}{e:Addr}:drp H e e=none:=by unfold drp;rw [iP rfl]
theorem Inv.untrack{X:Cx}{pins:List (Addr×Obj)}{σ:St}{H:Hp}{s:Shared}{e:Addr}{φ:Heap->Prop}(J:Inv X pins σ H s)(he:H e=some (.ext φ)):Inv X pins σ (drp H e) s:=by
 have ne: ∀b u,H b=some u->(∀φ,u≠.ext φ)->b≠e:=λb u q z y=>by rw [y,he]at q;cases q;exact z _ rfl
 have nn: ∀b,H b=none->drp H e b=none:=λb q=>by unfold drp;split<;>trivial
 refine⟨J.ok,J.os,J.bare,⟨J.base.keep,J.base.slot,λb ob q n hx=>nn b (J.base.free b ob q n hx),J.base.there,λb xs q=>?_,λb o' u q=>?_,λb ps q=>?_⟩,J.loc,J.cell,nn _ J.free,λx c hc=>nn _ (J.freeC x c hc),λp hp=>?_,λb u q=>?_,J.len⟩
 ·rw [zNC (ne b _ (J.base.tups b xs q) λ_ z=>by cases z)];exact J.base.tups b xs q
 ·rw [zNC (ne b _ (J.base.frzs b o' u q) λ_ z=>by cases z)];exact J.base.frzs b o' u q
 ·obtain⟨mo,z⟩:=J.base.tbls b ps q
  exact⟨mo,by rw [zNC (ne b _ z λ_ z=>by cases z)];exact z⟩
 ·obtain⟨e1,n,r⟩:=J.pin p hp
  exact⟨e1,nn _ n,r⟩
 ·by_cases z:b=e
  ·rw [z,yAG]at q;cases q
  ·rw [zNC z]at q
   exact(J.hok b u q).stay (λ_ _ _ r=>r) (λc r=>by rw [zNC (ne c _ r λ_ z=>by cases z)];exact r) λc xs r=>by rw [zNC (ne c _ r λ_ z=>by cases z)];exact r
namespace M
structure XIn(K:PySem.W.Frag)(M C f:Addr):Prop where
 ex: ∃nm q N bs sn sub ab col dd k0 k1 k2 k3 k5,K.lookup C=some (excClassObj nm q C N bs (.ref M::bmV) true sn sub ab col dd k0 k1 k2 k3 k5 "ValueError.__new__")/\PySem.W.nsOkIn K N=true/\PySem.W.nsIn K N "__init__"=some (some (.ref f))/\ ∀n∈qn,PySem.W.nsIn K N n=some none
 fo: ∃o,K.lookup f=some o/\o.cls=.type "function"
theorem XIn.cl{K:PySem.W.Frag}{M C f:Addr}(x:XIn K M C f):XCl K C (.ref M::bmV) (some (.ref f)):=by
 obtain⟨nm,q,N,bs,sn,sub,ab,col,dd,k0,k1,k2,k3,k5,a,b,c,d⟩:=x.ex
 exact⟨nm,q,N,bs,true,sn,sub,ab,col,dd,k0,k1,k2,k3,k5,a,b,c,d,rfl⟩
structure XMn(K:PySem.W.Frag)(M:Addr):Prop where
 ga:PySem.W.specialIn K (.ref M) "__getattribute__"=some (some (.builtin "type.__getattribute__"))
 rd:PySem.W.readsIn K M (.type "type")=true
 init:PySem.W.findCls K (.ref M) (.type "type") "__init__"=some (.val (.builtin "ValueError.__init__"))
def zWM(C:Addr)(fld:Str):Sp:=λvs H Q _=> ∃e n t0,vs=[.ref e,.int n]/\n.natAbs<BIG/\H e=some (.ext λh=>h.get? e=some (exO C none t0))/\
 ∀dx od t1,H dx=none->dx≠e->Q .non (upd (upd H dx (.frz od (.xd [(fld,.int n)]))) e (.ext λh=>h.get? e=some (exO C (some dx) t1)))
theorem yRN{K:PySem.W.Frag}{h:Heap}{M:Addr}(X:K.In h)(m:XCl K M bmV none):OwnTail h bmV (.ref M::bmV):=by
 obtain⟨_,_,N',_,_,_,_,_,_,_,_,_,_,_,_,lM,oM,iM,_⟩:=m
 exact .own (X _ _ lM) (.of_isNs (PySem.W.isNs_of_in X oM)) (PySem.W.nsMap_none_of_in X oM iM) .base
section
variable{X:Cx}{M C f:Addr}{fld par:Str}{p1 p2 p3 p4 p5 p6 p7 p8 p9 p10:Pos}{v1 v2:Expr}{vs:List Expr}
theorem yLF{pl:Sem Bool}(hM:XCl X.K M bmV none)(XI:XIn X.K M C f)(XM:XMn X.K M)(hmg:X.mg "MendError"=some (.ref M))(hg:Gl X "MendError")(hN0:X.N[0]? =some ("self":Str))(hN1:X.N[1]? =some par)(hv0:Vis X.env.scope "self")(hv1:Vis X.env.scope par)
  (hd:(par==("__debug__":Str))=false) (hcd:(par==("__classdict__":Str))=false) (hj:JL par (v1::v2::vs)) (hl:vs.length<=100) (hf:fld∈qn) (hB:typeLookup (.type "ValueError") fld=pure none) (hcalm:X.calm=true)
  (ht:eval (.Call (.Attribute (.Name "MendError" p1) "__init__" p2) [.Name "self" p3,.JoinedStr (v1::v2::vs) p4] [] p5) X.env=(do
   let ov <-eval (.Name "MendError" p1) X.env
   standAt p2.atName
   let (f,first) <-holding [ov] (getMethod ov "__init__" pl)
   callWith p5 f first (backTo p5 (starEach [.Name "self" p3,.JoinedStr (v1::v2::vs) p4] X.env)) (backToKw p5 (keywordEach [] X.env))))
  (hs1:swapsWith (.Call (.Attribute (.Name "MendError" p1) "__init__" p2) [.Name "self" p3,.JoinedStr (v1::v2::vs) p4] [] p5) none p6.line X.env=pure false) (hs2:swapsWith (.Name par p9) (some (.Attribute (.Name "self" p7) fld p8)) p10.line X.env=pure false)
  (he:starEach [Expr.Name "self" p3,.JoinedStr (v1::v2::vs) p4] X.env=(false,eval (.Name "self" p3) X.env)::starEach [.JoinedStr (v1::v2::vs) p4] X.env:=by rfl) (he2:starEach [Expr.JoinedStr (v1::v2::vs) p4] X.env=(false,eval (.JoinedStr (v1::v2::vs) p4) X.env)::starEach [] X.env:=by rfl)
  (hpl:(backTo p5 (starEach [Expr.JoinedStr (v1::v2::vs) p4] X.env)).any (·.1)=false:=by rfl):
  PSs X [.Expr (.Call (.Attribute (.Name "MendError" p1) "__init__" p2) [.Name "self" p3,.JoinedStr (v1::v2::vs) p4] [] p5) p6,.Assign [.Attribute (.Name "self" p7) fld p8] (.Name par p9) p10]
   (λD σ H=> ∃e n t0,σ[0]? =some (some (.ref e))/\σ[1]? =some (some (.int n))/\n.natAbs<BIG/\H e=some (.ext λh=>h.get? e=some (exO C none t0))/\
    ∀dx od t1,H dx=none->dx≠e->D.nx σ (upd (upd H dx (.frz od (.xd [(fld,.int n)]))) e (.ext λh=>h.get? e=some (exO C (some dx) t1)))):=by
 intro pins s σ H D I ⟨e,n,t0,s0,s1,hb,hH,q⟩
 obtain⟨nm,qq,N,bs,sn,sub,ab,col,dd,k0,k1,k2,k3,k5,lC,oN,iN,qN⟩:=XI.ex
 refine wpAny_execs_cons (wpAny_Expr_any ?_ I.quiet hs1)
 refine PySem.W.methodCall_KW (pl:=pl) (zHX I hg hmg ?_) ht
 refine PySem.W.method_cls I.kIn XM.ga (PySem.W.cls_value I.kIn XM.rd XM.init rfl ?_)
 refine PyProof.Rows.callWith_builtin1 (thn (zES (zSI (X:=X) hN0 hv0) (zES (yPM hN1 hv1 hd hcd hj hl) zSK he2) he p5 pins _ σ H (λvs H1=> ∃y,vs=[.ref e,.str y]/\H1=H) (I.tok _) ⟨_,s0,n,s1,hb,λy=>⟨y,rfl,rfl⟩⟩) ?_) he hpl
 rintro us s2 ⟨vs2,H2,I2,r2,y,e2,e3⟩
 subst e2
 rw [e3]at I2
 obtain⟨u1,rfl⟩: ∃u1,us=[.ref e,u1]:=by
  cases r2 with
  |cons r1 r=>cases r with
   |cons r2 r=>cases r;cases r1;exact⟨_,rfl⟩
 have hx2:s2.heap.get? e=some (exO C none t0):=(I2.hok e _ hH).1
 have mu:Mut (H e):=by rw [hH];trivial
 obtain⟨hp2,g2,d2,tk2,os2⟩:=s2
 refine yDB F.excBase_ValueError (yRN I2.kIn hM) (I2.kIn _ _ lC) hx2 λh3 t1 hx3 k3'=>?_
 have I3:Inv X pins σ (upd H e (.ext λh=>h.get? e=some (exO C none t1))) ⟨h3,g2,d2,tk2,os2⟩:=
  I2.write (t':=tk2) mu (.inl rfl) (λb u hb' hu=>k3' b u hb' hu) ⟨_,hx3⟩ ⟨hx3,⟨_,hx3⟩,λh1 h2 z k=>k _ z⟩
 refine wpAny_execs_cons (plainObj_wpAny_Assign_Attribute ?_ hs2)
 refine thn (zSI (X:=X) hN1 hv1 hd hcd pins _ σ _ (λv H'=>v=.int n/\H'=upd H e (.ext λh=>h.get? e=some (exO C none t1))) I3 ⟨_,s1,rfl,rfl⟩) ?_
 rintro u s4 ⟨v4,H4,I4,r4,e4,e5⟩
 subst e4 e5
 refine thn (zSI (X:=X) hN0 hv0 (by decide) (by decide) pins _ σ _ (λv H'=>v=.ref e/\H'=upd H e (.ext λh=>h.get? e=some (exO C none t1))) I4 ⟨_,s0,rfl,rfl⟩) ?_
 rintro u5 s5 ⟨v5,H5,I5,r5,e6,e7⟩
 subst e6 e7
 cases r5
 have hx5:s5.heap.get? e=some (exO C none t1):=(I5.hok e _ yD).1
 obtain⟨hp5,g5,d5,tk5,os5⟩:=s5
 refine yHV (zOS I5.kIn XI.cl hM) (I5.kIn _ _ lC) hx5 rfl rfl (λc z=>by cases z) hf hB λh6 tk6 dx st=>wpAny_execs_nil ?_
 obtain⟨n6,ne6,hx6,ns6,k6⟩:=st
 obtain⟨od,es6,ep6,hd6,r6⟩:=id ns6
 have hHdx:H dx=none:=by
  have:=I5.hok.none_of n6
  rwa [zV ne6]at this
 refine⟨σ,_,?_,q dx od t1 hHdx ne6⟩
 have hin: ∀b,b≠e->(upd (upd H dx (.frz od (.xd [(fld,.int n)]))) e (.ext λh=>h.get? e=some (exO C (some dx) t1))) b=upd H dx (.frz od (.xd [(fld,.int n)])) b:=λb hb'=>zV hb'
 have hol: ∀b o,H b=some o->b≠dx:=λb o z y=>by rw [y,hHdx]at z;cases z
 have base5: ∀b,b≠e->(upd H e (.ext λh=>h.get? e=some (exO C none t1))) b=H b:=λb hb'=>zV hb'
 refine I5.un (h':=h6) (t':=tk6) ⟨λb o z n' _ _=>k6 b o (λy=>by rw [y,yD]at n';cases n') z,λb o z n' _ _=>⟨o.slots,k6 b o (λy=>by rw [y,yD]at n';cases n') z⟩,λb o z n' _=>?_,λb o z _=>?_,λb xs z=>?_,λb o' u' z=>?_,λb ps z=>?_⟩ λb u' z=>?_
 ·have hbe:b≠e:=λy=>by rw [y,yD]at n';cases n'
  rw [base5 b hbe]at n'
  rw [hin b hbe,zV (λy=>by rw [y]at z;exact absurd (show hp5.get? dx=some o from z) (by rw [n6];simp))]
  exact n'
 ·by_cases hbe:b=e
  ·exact⟨_,by rw [hbe];exact hx6⟩
  ·exact⟨o,k6 b o hbe z⟩
 ·have hbe:b≠e:=λy=>by rw [y,yD]at z;cases z
  rw [base5 b hbe]at z
  rw [hin b hbe,zV (hol b _ z)];exact z
 ·have hbe:b≠e:=λy=>by rw [y,yD]at z;cases z
  rw [base5 b hbe]at z
  rw [hin b hbe,zV (hol b _ z)];exact z
 ·have hbe:b≠e:=λy=>by rw [y,yD]at z;cases z
  rw [base5 b hbe]at z
  exact⟨#[],by rw [hin b hbe,zV (hol b _ z),z];simp⟩
 ·by_cases hbe:b=e
  ·subst hbe
   rw [yD]at z;cases z
   exact⟨hx6,⟨_,hx6⟩,λh1 h2 z k=>k _ z⟩
  ·rw [hin b hbe]at z
   by_cases hbd:b=dx
   ·subst hbd
    rw [yD]at z;cases z
    refine⟨hd6,_,ns6,λy=>?_⟩
    obtain⟨tk,rfl⟩:=r4
    by_cases hy:y=fld
    ·subst hy
     rw [iP rfl,List.lookup_cons_self]
     exact⟨tk,rfl⟩
    ·rw [iN0 hy]
     have:(([(fld,V.int n)]:List (Str×V))).lookup y=none:=by
      rw [lookup_cons]
      rw [show(y==fld)=false from by simpa using hy]
      rfl
     rw [this];trivial
   ·rw [zV hbd]at z
    have z5:(upd H e (.ext λh=>h.get? e=some (exO C none t1))) b=some u':=by rw [base5 b hbe];exact z
    have ntr: ∀c o,(upd H e (.ext λh=>h.get? e=some (exO C none t1))) c=some o->(∀φ,o≠.ext φ)->(upd (upd H dx (.frz od (.xd [(fld,.int n)]))) e (.ext λh=>h.get? e=some (exO C (some dx) t1))) c=some o:=λc o w ne=>by
     have hce:c≠e:=λy=>by rw [y,yD]at w;cases w;exact ne _ rfl
     rw [base5 c hce]at w
     rw [hin c hce,zV (hol c _ w)];exact w
    refine(I5.hok b u' z5).stay (λc v hc r=>k6 c v ?_ r) (λc w=>ntr c _ w λ_ y=>by cases y) λc xs w=>ntr c _ w λ_ y=>by cases y
    rcases hc with rfl|hc
    ·exact hbe
    ·intro y;rw [y,yD]at hc;cases hc
end
section
variable{P:Program}{w:World}{K:PySem.W.Frag}{mg:Str->Option Value}{base:Heap}{qual:Str}{st:Stmt}{f C M:Addr}{fd:FuncData}{fld par:Str}{p1 p2 p3 p4 p5 p6 p7 p8 p9 p10:Pos}{v1 v2:Expr}{vs:List Expr}
theorem yFI{pl:Env->Sem Bool}(Fu:Fun K "__init__" qual st f fd)(Sc:FnScope ["self",par] ["self",par] (zH st))(hM:XCl K M bmV none)(XI:XIn K M C f)(XM:XMn K M)(hmg:mg "MendError"=some (.ref M))
  (hbd:jN st=[.Expr (.Call (.Attribute (.Name "MendError" p1) "__init__" p2) [.Name "self" p3,.JoinedStr (v1::v2::vs) p4] [] p5) p6,.Assign [.Attribute (.Name "self" p7) fld p8] (.Name par p9) p10])
  (ht: ∀env:Env,eval (.Call (.Attribute (.Name "MendError" p1) "__init__" p2) [.Name "self" p3,.JoinedStr (v1::v2::vs) p4] [] p5) env=(do
   let ov <-eval (.Name "MendError" p1) env
   standAt p2.atName
   let (f,first) <-holding [ov] (getMethod ov "__init__" (pl env))
   callWith p5 f first (backTo p5 (starEach [.Name "self" p3,.JoinedStr (v1::v2::vs) p4] env)) (backToKw p5 (keywordEach [] env))))
  (hs1: ∀env:Env,swapsWith (.Call (.Attribute (.Name "MendError" p1) "__init__" p2) [.Name "self" p3,.JoinedStr (v1::v2::vs) p4] [] p5) none p6.line env=pure false) (hs2: ∀env:Env,swapsWith (.Name par p9) (some (.Attribute (.Name "self" p7) fld p8)) p10.line env=pure false)
  (hg:(zH st).names.lookup ("MendError":Str)=some .globalImplicit) (h0:(zH st).names.lookup ("self":Str)=some .local) (h1:(zH st).names.lookup par=some .local)
  (hd:(par==("__debug__":Str))=false) (hcd:(par==("__classdict__":Str))=false) (hj:JL par (v1::v2::vs)) (hl:vs.length<=100) (hf:fld∈qn) (hB:typeLookup (.type "ValueError") fld=pure none):FnOk P w K mg base CX0 1 f fd ["self",par] (zWM C fld):=by
 refine Fu.ok (k:=0) Sc (λvs' H Q E ⟨e,n,t0,z,_⟩=>by rw [z];rfl) λcdv A outer s H vs' Q E hr ⟨e,n,t0,z,hb,hH,q⟩=>?_
 subst z
 rw [hbd]
 exact⟨_,yLF hM XI XM hmg hg rfl rfl (.inl h0) (.inl h1) hd hcd hj hl hf hB rfl (ht _) (hs1 _) (hs2 _),e,n,t0,rfl,rfl,hb,hH,q⟩
end
theorem yDC{K:PySem.W.Frag}{h:Heap}{N:Addr}{mg:Str->Option Value}{n:Str}{v:Value}(X:K.In h)(G:h.Ns N mg)(e:PySem.W.nsIn K N n=some (some v)):mg n=some v:=by
 obtain⟨o,es,ep,ho,hd,_,hf⟩:=G
 unfold PySem.W.nsIn at e
 split at e
 ·rename_i c d es' n' sl q
  have:=X _ _ q
  rw [ho]at this
  cases this
  cases hd
  split at e
  ·rename_i en he
   cases e
   rw [<-hf]
   unfold nsFind findBy
   rw [<-Array.find?_toList,he]
   rfl
  ·split at e<;>cases e
 ·cases e
def raF(x fld:Str):Er->Sto->R Fl
 |.val (.int n),S=>if n.natAbs<BIG then .exc x [(fld,.int n)] S else .no
 |_,_=>.no
section
variable{X:Cx}{E:XK}{e:Expr}{fe:Rho->Sto->R Er}{pos np cpos:Pos}{x fld par:Str}{C M f:Addr}{fd:FuncData}{k:Nat}
theorem zQC(hx:XOk X E)(hg:Gl X x)(hm:X.mg x=some (.ref C))(hM:XCl X.K M bmV none)(XI:XIn X.K M C f)(G:FnOk X.prog X.w X.K X.mg X.base CX0 1 f fd ["self",par] (zWM C fld))(hb:Binds X.K fd ["self",par] [])(hr:Room k X.A)(ha:PEm X (WE X.g E) e fe)
  (hk:2<=k:=by decide) (hex:X.ex=[]:=by rfl) (hcalm:X.calm=true:=by rfl) (hd:(x==("__debug__":Str))=false:=by decide) (he:starEach [e] X.env=(false,eval e X.env)::starEach [] X.env:=by rfl) (hpl:(backTo cpos (starEach [] X.env)).any (·.1)=false:=by rfl):
  PSm X (WE X.g E) (.Raise (some (.Call (.Name x np) [e] [] cpos)) none pos) (λρ S=>(fe ρ S).bind (raF x fld)):=by
 obtain⟨ta,ha,fa⟩:=ha
 refine⟨λD σ H=>ta σ H λv H1=> ∃n,v=.int n/\n.natAbs<BIG/\ ∀dx od,H1 dx=none->E (.ref C) (some dx) (upd H1 dx (.frz od (.xd [(fld,.int n)]))),λpins s σ H D I h=>?_,λα ρ S σ H D wd sl q=>fa α ρ S σ H _ wd sl (q.expr λv r S1 α1 H1 e1 x1 w1 d1 q1=>?_)⟩
 ·obtain⟨nm,q,N,bs,sn,sub,ab,col,dd,k0,k1,k2,k3,k5,lC,oN,iN,qN⟩:=XI.ex
  obtain⟨oI,lI,cI⟩:=XI.fo
  have XB:=I.mod.kin
  have hN:=Heap.Ns.of_isNs (PySem.W.isNs_of_in XB oN)
  have hni:=yDC XB hN iN
  have T:=yRN XB hM
  refine yAF (C:=C) (nm:=nm) (q:=q) (N:=N) (bs:=bs) (bm:=.ref M::bmV) (hdct:=true) (sn:=sn) (sub:=sub) (ab:=ab) (col:=col) (dd:=dd) (k0:=k0) (k1:=k1) (k2:=k2) (k3:=k3) (k5:=k5) (fI:=f) (oI:=oI)
   F.excBase_ValueError (T.hasType F.excBase_ValueError.hasBase) (I.ok.hd hcalm) (by rw [he];exact hpl) hni cI (zHX I hg hm ⟨rfl,?_⟩ hd)
  have hr':=zES ha zSK he cpos pins s σ H (λvs H1=>match vs with |[v]=> ∃n,v=.int n/\n.natAbs<BIG/\ ∀dx od,H1 dx=none->E (.ref C) (some dx) (upd H1 dx (.frz od (.xd [(fld,.int n)])))|_=>False) I h
  rw [he]at hr' ⊢
  refine Calls.evalArgs_plain (thn hr' λus s1 ⟨vs,H1,I1,r1,hv⟩=>?_)
  obtain⟨v0,rfl,n,rfl,hn,hE⟩: ∃v0,vs=[v0]/\ ∃n,v0=.int n/\n.natAbs<BIG/\ ∀dx od,H1 dx=none->E (.ref C) (some dx) (upd H1 dx (.frz od (.xd [(fld,.int n)]))):=by
   match vs,hv with
   |[v],hv=>exact⟨v,rfl,hv⟩
  have hlen:us.length=1:=by rw [<-r1.length];rfl
  refine⟨rfl,by show us.length<=_;rw [hlen];decide,I1.bk _ _ (XB _ _ lC),hN.keeps I1.bk,T.keeps I1.bk,I1.bk _ _ (XB _ _ lI),λh' a mk=>?_⟩
  have J1:Inv X pins σ H1 {s1 with heap:=h'}:=I1.kept (t':=s1.toks) mk.keeps
  obtain⟨t0,ht0,_,_⟩:=mk.there
  have oa:Out X pins H1 {s1 with heap:=h'} a:=⟨I1.older hex mk.new,I1.hok.none_of mk.new,λp hp z=>(by have:=(I1.pin p hp).1;rw [z,mk.new]at this;cases this),_,_,ht0,rfl⟩
  have J2:=J1.track oa ht0
  have rv:Vals [.ref a,.int n] (.ref a::us):=.cons rfl r1
  refine wpAny_call (codeAny_mono (G.run _ X.stack _ _ ⟨.ref a::us,[]⟩ (.ref a::us) [.ref a,.int n] (λv H'=>v=.non/\ ∃dx od t1,H1 dx=none/\dx≠a/\H'=upd (upd (upd H1 a (.ext λh=>h.get? a=some (exO C none t0))) dx (.frz od (.xd [(fld,.int n)]))) a (.ext λh=>h.get? a=some (exO C (some dx) t1))) E0
   ((hr.mono hk).make C us []) (J2.env0.make C us []) ?_ rv ⟨a,n,t0,rfl,hn,yD,λdx od t1 h1 h2=>⟨rfl,dx,od,t1,by rwa [zV h2]at h1,h2,rfl⟩⟩) λr s' hq=>?_)
  ·have hh:=hb _ (.ref a::us) J2.kIn (by simp [hlen])
   rw [aN]at hh
   exact hh
  ·cases r with
   |error y=>exact hq.elim
   |ok fl=>
    cases fl with
    |ret u=>
     obtain⟨v3,H3,I3,r3,e3,dx,od,t1,hdx,hne,e4⟩:=J2.after hq
     subst e3
     have hga:s'.heap.get? a=some (exO C (some dx) t1):=(I3.hok a (.ext λh=>h.get? a=some (exO C (some dx) t1)) (by rw [e4];exact yD)).1
     have I4:=I3.untrack (e:=a) (by rw [e4];exact yD)
     have eH:drp H3 a=upd H1 dx (.frz od (.xd [(fld,.int n)])):=by
      funext b
      rw [e4]
      by_cases hba:b=a
      ·rw [hba,yAG,zV (Ne.symm hne)];exact oa.h.symm
      ·rw [zNC hba,zV hba]
       by_cases hbd:b=dx
       ·rw [hbd,yD,yD]
       ·rw [zV hbd,zV hba,zV hbd]
     rw [eH]at I4
     exact⟨r3,_,_,I3.kIn _ _ lC,hga,hx.born pins σ _ s' a C (some dx) I4 ⟨_,_,hga,rfl,rfl,rfl,rfl⟩ oa.s0 (by rw [zV (Ne.symm hne)];exact oa.h) (hE dx od hdx)⟩
    |next=>exact False.elim hq
    |brk=>exact False.elim hq
    |cont=>exact False.elim hq
 ·unfold raF at q1
  split at q1
  ·rename_i n
   split at q1
   ·rename_i hn
    exact⟨n,xU d1.1,hn,λdx od hdx=>q1 α1 _ (x1.trans (w1.newx hdx)) (w1.new hdx) C (some dx) hm (.inr ⟨dx,_,od,rfl,yD,.cons (xV n) .nil⟩)⟩
   ·exact q1.elim
  ·exact q1.elim
end
def yLG(ns:List Str)(fld:Str):Er->Sto->R Er
 |.val (.loc l),S=>match S[l]? with
  |some (.ins c fs)=>if c∈ns then(match fs.lookup fld with
   |some (.int n)=>.ok (.val (.int n)) S
   |_=>.no)else .no
  |_=>.no
 |_,_=>.no
theorem DenF.get{K:PySem.W.Frag}{α:List Addr}{H:Hp}{y:Str}{d:MV}: ∀{fs gs},DenF K α H fs gs->fs.lookup y=some d-> ∃v,gs.lookup y=some v/\Den K α H d v
 |_,_,.nil,h=>by simp at h
 |_,_,.cons (x:=x) a l,h=>by
  rw [lookup_cons]at h ⊢
  cases q:y==x with
  |true=>rw [q]at h;cases h;exact⟨_,rfl,a⟩
  |false=>rw [q]at h;exact DenF.get l h
section
variable{X:Cx}{W:XW}{a:Expr}{f:Rho->Sto->R Er}{pos:Pos}{M:Addr}{cs:List (Str×Addr)}{fld:Str}
theorem yUI{ns:List Str}(T:XTab X.K X.mg M cs)(hf:fld∈qn)(hB:typeLookup (.type "ValueError") fld=pure none)(ha:PEm X W a f)(hns:cs.map (·.1)=ns:=by rfl)
  (hbase:attributeBase a fld X.env (eval a X.env)=eval a X.env:=by rfl) (hgo: ∀o r,letTemporaryGo a o r=pure ():=by intro _ _;rfl):PEm X W (.Attribute a fld pos) (λρ S=>(f ρ S).bind (yLG ns fld)):=by
 subst hns
 obtain⟨ta,ha,fa⟩:=ha
 refine⟨λσ H Q=>ta σ H λv H1=> ∃aa oe dx od gs n C,v=.ref aa/\H1 aa=some (.ext λh=>h.get? aa=some oe)/\oe.cls=.ref C/\oe.dict=some dx/\H1 dx=some (.frz od (.xd gs))/\gs.lookup fld=some (.int n)/\(∃i,XCl X.K C (.ref M::bmV) i)/\(∀c,oe.data≠.cls c)/\Q (.int n) H1,
  λpins s σ H Q I h=>?_,λα ρ S σ H Q wd sl q=>fa α ρ S σ H _ wd sl (q.bind λu r S1 α1 H1 e1 x1 w1 d1 q1=>?_)⟩
 ·rw [arm_eval_Attribute,hbase]
  refine wB0 (thn (ha pins s σ H _ I h) λu s1 ⟨v,H1,I1,r1,aa,oe,dx,od,gs,n,C,e1,hH,hc,hdx,hHd,hgs,⟨i,cC⟩,hnc,q⟩=>?_)
  subst e1
  cases r1
  refine wB0 (wpAny_standAt (wB0 (wpAny_holding ?_)))
  have hx:s1.heap.get? aa=some oe:=(I1.hok aa _ hH).1
  obtain⟨_,mA,hns,hrel⟩:=I1.hok dx _ hHd
  have hr2:=hrel fld
  rw [hgs]at hr2
  cases hm:mA fld with
  |none=>rw [hm]at hr2;exact hr2.elim
  |some u=>
   rw [hm]at hr2
   obtain⟨tk,rfl⟩:=hr2
   have O:=zOS I1.kIn cC T.mc
   obtain⟨nm,q',N,bs,hdd,sn,sub,ab,col,dd,k0,k1,k2,k3,k5,lC,_,_,_,rfl⟩:=cC
   have hC:=I1.kIn _ _ lC
   obtain⟨hp,g,d,tk2,os⟩:=s1
   refine yHX O hC hx hc hdx hnc hns hm hf hB rfl ?_
   rw [hgo]
   exact wB0 (wP0 (wP0 ⟨.int n,H1,I1.tok _,⟨tk,rfl⟩,q⟩))
 ·replace q1:=q1.shift x1
  unfold yLG at q1
  split at q1
  ·rename_i l
   split at q1
   ·rename_i c fs hl
    split at q1
    ·rename_i hc
     split at q1
     ·rename_i n hlk
      obtain⟨aa,rfl,hα⟩:=zDF d1.1
      obtain⟨C,gs,hm,hden,oe,hH,hcl,hdx⟩:=w1.obj l aa _ hα hl
      obtain⟨⟨c',C'⟩,hm',rfl⟩:=mM0.mp hc
      obtain⟨z1,z2⟩:=T.each.at hm'
      have:C=C':=by
       have z:X.mg c'=some (.ref C):=hm
       rw [z1]at z;cases z;rfl
      subst this
      rcases hdx with rfl|⟨dx,od,h1,h2,vs,h3⟩
      ·simp at hlk
      ·obtain⟨v,hv,hd⟩:=hden.get hlk
       rw [cK hd]at hv
       exact⟨aa,oe,dx,od,gs,n,C,rfl,hH,hcl,h1,h2,hv,z2,(λc z=>by rw [h3]at z;cases z),Post.val q1 w1 (xV n)⟩
     ·exact q1.elim
    ·exact q1.elim
   ·exact q1.elim
  ·exact q1.elim
end
section
variable{X:Cx}{W:XW}{a b c:Expr}{f g h:Rho->Sto->R Er}{pos:Pos}
theorem yPN(hu:X.A.units+64<cLine)(ha:PEm X W a f)(hb:PEm X W b g)(hc:PEm X W c h)(hm:lastMarks [.Lt,.Lt] [b,c]=false:=by with_unfolding_all rfl):PEm X W (.Compare a [.Lt,.Lt] [b,c] pos) (λρ S=>(f ρ S).bind λp S1=>(g ρ S1).bind λq S2=>chF ltF ltF p q S2 λS3=>h ρ S3):=zSY (zTD hu) (zTD hu) zOL zOL ha hb hc hm
end
theorem xin_mk{K:PySem.W.Frag}{C N M f:Addr}{bs sub:List Value}{nm q:Str}{ab:Bool}{sn:List Str}{col:Option Bool}{dd od:Option Addr}{k0 k1 k2 k3 k5:Option Value}{oc:Value}{es:Array DictEntry}{ep:Nat}{sl:Array (Option Value)}{fo:Obj}
  (l:K.lookup C=some (excClassObj nm q C N bs (.ref M::bmV) true sn sub ab col dd k0 k1 k2 k3 k5 "ValueError.__new__")) (n:K.lookup N=some ⟨oc,od,.dict es ep,sl⟩) (o:(es.toList.all λe=>match e.key with |.str _ _=>true|_=>false)=true)
  (i:PySem.W.nsIn K N "__init__"=some (some (.ref f))) (q1:PySem.W.nsIn K N "__class__"=some none) (q2:PySem.W.nsIn K N "__getattribute__"=some none) (q3:PySem.W.nsIn K N "__getattr__"=some none)
  (q4:PySem.W.nsIn K N "__setattr__"=some none) (q5:PySem.W.nsIn K N "place"=some none) (q6:PySem.W.nsIn K N "number"=some none) (lf:K.lookup f=some fo) (cf:fo.cls=.type "function"):XIn K M C f:=by
 refine⟨⟨nm,q,N,bs,sn,sub,ab,col,dd,k0,k1,k2,k3,k5,l,?_,i,λy hy=>?_⟩,fo,lf,cf⟩
 ·unfold PySem.W.nsOkIn
  rw [n]
  rw [Array.all_toList]at o
  exact o
 ·simp only [qn,mC0,nM0,or_false]at hy
  rcases hy with rfl|rfl|rfl|rfl|rfl|rfl<;>assumption
structure DefM(K:PySem.W.Frag)(mg:Str->Option Value)(x:Str)(st:Stmt):Prop where
 ex: ∃f fd,mg x=some (.ref f)/\Fun K x x st f fd
theorem def_mk{K:PySem.W.Frag}{mg:Str->Option Value}{h:Heap}{x:Str}{st:Stmt}{g:Addr}{od an:Option Addr}{sl:Array (Option Value)}{oc kV dc pm cd ct:Value}(a:PySem.W.nsIn K mainGlobals x=some (some (.ref g)))
  (l:K.lookup g=some ⟨oc,od,.func (PySem.W.fnOf x x (zCU st) (jN st) (zH st) .none kV dc pm an cd ct),sl⟩) (c:PySem.W.codeIn K cd x=true) (k:PySem.W.keepIn K (.ref g)=true) (X:K.In h) (GG:h.Ns mainGlobals mg):DefM K mg x st:=⟨_,_,PySem.W.mg_of X GG a,yCC l c k⟩
structure Cal(P:Program)(w:World)(K:PySem.W.Frag)(mg:Str->Option Value)(base:Heap)(CX:CXT)(x:Str)(k:Nat)(ps:List Str)(sp:Sp):Prop where
 ex: ∃fa fd,FnOk P w K mg base CX k fa fd ps sp/\mg x=some (.ref fa)/\PySem.W.keepIn K (.ref fa)=true/\Binds K fd ps []
abbrev CalM(P:Program)(w:World)(K:PySem.W.Frag)(mg:Str->Option Value)(base:Heap)(x:Str)(k n:Nat)(ps:List Str)(F:List MV->Sto->R Er):Prop:=Cal P w K mg base CX0 x k ps (spM ⟨K,mg,P,w⟩ n F)
abbrev yLH(P:Program)(w:World)(K:PySem.W.Frag)(mg:Str->Option Value)(base:Heap)(x:Str)(k n:Nat)(ps:List Str)(F:List MV->Sto->R Er):Prop:=Cal P w K mg base (CXe P w) x k ps (spX ⟨K,mg,P,w⟩ n F)
section
variable{P:Program}{w:World}{K:PySem.W.Frag}{mg:Str->Option Value}{base:Heap}{x:Str}{st:Stmt}{N ps:List Str}{k n:Nat}{F:List MV->Sto->R Er}
abbrev yDD(x:Str)(st:Stmt)(ps:List Str):Prop:= ∀(kV doc pm:Value)(an:Option Addr)(cdv ct:Value)(us:List Value),us.length=ps.length->bindArgs (PySem.W.fnOf x x (zCU st) (jN st) (zH st) .none kV doc pm an cdv ct) ⟨us,[]⟩=pure (ps.zip us)
theorem okC(D:DefM K mg x st)(hb:yDD x st ps)(h: ∀f fd,Fun K x x st f fd->FnOk P w K mg base CX0 k f fd ps (spM ⟨K,mg,P,w⟩ n F)):CalM P w K mg base x k n ps F:=
 let ⟨f,fd,m,Fu⟩:=D.ex;⟨f,fd,h f fd Fu,m,Fu.kp,Fu.binds hb⟩
theorem yLI(D:DefM K mg x st)(hb:yDD x st ps)(h: ∀f fd,Fun K x x st f fd->FnOk P w K mg base (CXe P w) k f fd ps (spX ⟨K,mg,P,w⟩ n F)):yLH P w K mg base x k n ps F:=
 let ⟨f,fd,m,Fu⟩:=D.ex;⟨f,fd,h f fd Fu,m,Fu.kp,Fu.binds hb⟩
theorem Cal.noX(G:yLH P w K mg base x k n ps F):CalM P w K mg base x k n ps F:=let ⟨fa,fd,G,m,kp,b⟩:=G.ex;⟨fa,fd,G.noX,m,kp,b⟩
theorem yUJ{l:PySem.W.OpenLaw}{fa:Addr}{p:Str}(D:DefM K mg x st)(hfa:mg x=some (.ref fa))(hb: ∀(kV doc pm:Value)(an:Option Addr)(cdv ct:Value)(s:Shared)(v:Value),BindsTo s (PySem.W.fnOf x x (zCU st) (jN st) (zH st) .none kV doc pm an cdv ct) ⟨[v],[]⟩ [(p,v)])
  (h: ∀base f fd,Fun K x x st f fd->FnOk l.prog w K mg base CX0 k f fd [p] (spM ⟨K,mg,l.prog,w⟩ 1 F)):
  ∃fd:FuncData,(∀(s:Shared)(v:Value),BindsTo s fd ⟨[v],[]⟩ [(p,v)])/\ ∀base:Heap,K.In base->base.Ns mainGlobals mg->FnOk l.prog w K mg base CX0 k fa fd [p] (zWJ K F):=by
 obtain⟨f,fd,m,Fu⟩:=D.ex
 rw [hfa]at m
 cases m
 refine⟨fd,?_,λbase _ _=>(h base fa fd Fu).imp λvs H Q E=>yKF (g:=⟨K,mg,l.prog,w⟩) vs H Q E⟩
 obtain⟨_,_,_,_,_,_,_,_,_,rfl,_,_⟩:=Fu.ex
 exact hb _ _ _ _ _ _
end
section
variable{X:Cx}{W:XW}{E:XK}{e:Expr}{es:List Expr}{af:Rho->Sto->R (List Er)}{k n:Nat}{ps:List Str}{F:List MV->Sto->R Er}{x:Str}{p pos:Pos}
theorem zK(G:CalM X.prog X.w X.K X.mg X.base x k n ps F)(hr:Room k X.A)(hg:Gl X x)(ha:PAm X W (e::es) af)(hdb:(x==("__debug__":Str))=false:=by decide)
  (he:starEach (e::es) X.env=(false,eval e X.env)::starEach es X.env:=by rfl) (hpl:(backTo pos (starEach es X.env)).any (·.1)=false:=by rfl):PEm X W (.Call (.Name x p) (e::es) [] pos) (λρ S=>(af ρ S).bind λrs S1=>zX n F rs S1):=
 let ⟨_,_,G,m,kp,b⟩:=G.ex;yEV G hr hg m kp b ha hdb he hpl
theorem zLY(hx:XOk X E)(G:yLH X.prog X.w X.K X.mg X.base x k n ps F)(hr:Room k X.A)(hg:Gl X x)(ha:PAm X (WE X.g E) (e::es) af)(hdb:(x==("__debug__":Str))=false:=by decide)
  (he:starEach (e::es) X.env=(false,eval e X.env)::starEach es X.env:=by rfl) (hpl:(backTo pos (starEach es X.env)).any (·.1)=false:=by rfl):PEm X (WE X.g E) (.Call (.Name x p) (e::es) [] pos) (λρ S=>(af ρ S).bind λrs S1=>dN n F rs S1):=
 let ⟨_,_,G,m,kp,b⟩:=G.ex;yKY hx G hr hg m kp b ha hdb he hpl
variable{M:Addr}{cs:List (Str×Addr)}{i j:Nat}{nm y:Str}{Fh:Rho->Sto->R Fl}{b0:Stmt}{suite:List Stmt}{mp hpos cpos epos pos':Pos}{ns:List Str}
theorem yLJ(T:XTab X.K X.mg M cs)(hgm:Gl X "MendError")(hN:X.N.Nodup)(G:yLH X.prog X.w X.K X.mg X.base x k n ps F)(hr:Room k X.A)(hg:Gl X x)(ha:PAm X.nox W0 (e::es) af)(hsuite: ∀v,zPV (X.inH v) W0 (b0::suite) Fh)(hns:cs.map (·.1)=ns:=by rfl)(hi:X.N[i]? =some nm:=by rfl)(hk:X.env.kindOf nm=some .local:=by rfl)(hex:X.ex=[]:=by rfl)(hstk:X.stack=X.env::X.outer:=by rfl)(hfm:X.env.frame=some X.env.locals:=by rfl)
  (hdb:(x==("__debug__":Str))=false:=by decide) (he:starEach (e::es) X.env=(false,eval e X.env)::starEach es X.env:=by rfl) (hpl:(backTo cpos (starEach es X.env)).any (·.1)=false:=by rfl) (hs:swapsWith (.Call (.Name x p) (e::es) [] cpos) none epos.line X.env=pure false:=by rfl):
  PSm X W (.Try [.Expr (.Call (.Name x p) (e::es) [] cpos) epos] [.ExceptHandler (some (.Name "MendError" mp)) (some nm) (b0::suite) hpos] [] [] pos)
   (λρ S=>(noX (af ρ S)).bind λrs S1=>yHT ns i (λ_ S2=>.ok (.next ρ) S2) Fh ρ (dN n F rs S1)):=
 let ⟨_,_,G,m,kp,b⟩:=G.ex;yPI T hgm hN G hr hg m kp b ha hsuite hns hi hk hex hstk hfm hdb he hpl hs
end
end M
end L2
namespace L2
open PySem PySem.Spec PyProof.Rows
structure RoomH(k:Nat)(A:Around):Prop where
 dp:A.depth+3 * k+5<recursionLimit
 un:A.units+16 * k+200<cLine
theorem RoomH.mono{j k:Nat}{A:Around}(r:RoomH k A)(h:j<=k):RoomH j A:=⟨by have:=r.dp;omega,by have:=r.un;omega⟩
theorem RoomH.deeper{k:Nat}{A:Around}(r:RoomH (k+1) A)(env:Env):RoomH k (A.deeper env):=
 ⟨by have:=r.dp;show A.depth+1+3 * k+5<_;omega,by have:=r.un;show A.units+3+16 * k+200<_;omega⟩
theorem RoomH.depth{k:Nat}{A:Around}(r:RoomH k A):A.depth<recursionLimit:=by have:=r.dp;omega
theorem Room.inH{k:Nat}{A:Around}(r:Room k A)(v:Value):RoomH k (A.mark (some v)):=⟨r.dp,r.un⟩
structure FnOkH(P:Program)(w:World)(K:PySem.W.Frag)(mg:Str->Option Value)(base:Heap)(k:Nat)(f:Addr)(fd:FuncData)(ps:List Str)(sp:Sp):Prop where
 len: ∀vs H Q E,sp vs H Q E->vs.length=ps.length
 run: ∀(A:Around)(outer:List Env)(s:Shared)(H:Hp)(args:Args)(us:List Value)(vs:List V)(Q:VK)(E:XK),RoomH k A->Env0 P w K mg base A outer s H->BindsTo s fd args (ps.zip us)->Vals vs us->sp vs H Q E->
  codeAny (model P w) A (.call (.ref f) args) (CR CX0 outer P w H s Q E) s
def cxH(P:Program)(w:World)(K:PySem.W.Frag)(mg:Str->Option Value)(base:Heap)(N:List Str)(qual:Str)(scope:Scope)(f:Addr)(cd:Value)(A:Around)(outer:List Env)(s:Shared)(H:Hp):Cx:={zSL CX0 P w K mg base N qual scope f cd A outer s H E0 with calm:=false,xe:=λ_ _=>False}
section
variable{P:Program}{w:World}{K:PySem.W.Frag}{mg:Str->Option Value}{base:Heap}{k:Nat}{f:Addr}{qual:Str}{scope:Scope}{cdv:Value}{A:Around}{outer:List Env}{s s1:Shared}{H:Hp}{σ:St}{N ps:List Str}{sp:Sp}
theorem inv_H(fr:A.frames=some outer)(I:Inv (zSL CX0 P w K mg base N qual scope f cdv {A with handled:=none} outer s H E0) [] σ H s1):Inv (cxH P w K mg base N qual scope f cdv A outer s H) [] σ H s1:=
 ⟨⟨I.ok.mod,I.ok.kind,I.ok.glob,I.ok.blt,I.ok.above,I.ok.inj,I.ok.has,I.ok.cab,λz=>(by cases z),Around.frames_deeper fr,I.ok.stk,I.ok.exf,I.ok.bs,I.ok.bsz,I.ok.noex,I.ok.exfs,I.ok.funs,I.ok.frf⟩,I.os,I.bare,I.base,I.loc,I.cell,I.free,I.freeC,I.pin,I.hok,I.len⟩
theorem yUK{x:Str}{st:Stmt}{fd:FuncData}(Fu:Fun K x qual st f fd)(S:FnScope N ps (zH st))(len: ∀vs H Q E,sp vs H Q E->vs.length=ps.length)
  (hbody: ∀(cdv:Value)(A:Around)(outer:List Env)(s:Shared)(H:Hp)(vs:List V)(Q:VK)(E:XK),RoomH k (A.deeper (envOfC qual (zH st) s.heap.objs.size f cdv))->sp vs H Q E->
   ∃t,PSs (cxH P w K mg base N qual (zH st) f cdv A outer s H) (jN st) t/\t {nx:=λ_ H'=>Q .non H',rt:=Q} (start N vs) H):FnOkH P w K mg base (k+1) f fd ps sp:=by
 obtain⟨oc,od,kV,doc,pm,an,cdv,ct,osl,rfl,lk,hcd⟩:=Fu.ex
 refine⟨len,λA outer s H args us vs Q E hr e0 hb r hsp=>?_⟩
 have hl:=len _ _ _ _ hsp
 have KX:K.In s.heap:=e0.mod.kin.keeps λb o e=>(e0.bs b o e).1
 have lim:s.heap.NoLimit:=e0.mod.nolimit.keeps λb o e=>(e0.bs b o e).1
 have hkind: ∀y∈ps.zip us,(zH st).names.lookup y.1=some .local\/((zH st).names.lookup y.1=some .cell/\((cellsFrom (s.heap.objs.size+1) (zH st).names []).lookup y.1).isSome=true):=λ⟨n,v⟩ hy=>by
  rcases S.par n (of_mem_zip hy).1 with q|q
  ·exact .inl q
  ·exact .inr ⟨q,PySem.W.cellsFrom_some _ _ _ (.inl q)⟩
 refine codeAny_call_function hr.depth (KX _ _ lk) rfl S.co S.gen rfl (PySem.W.codeRec_of KX hcd) (hb _ _ _ _ ?_)
 refine wpAny_newFunctionEnv_cells S.kind hkind λenv he s1 x=>?_
 subst he
 refine⟨lim.keeps x.toInCall.keep,codeAny_func ?_⟩
 obtain⟨t,ht,hq⟩:=hbody cdv A outer s H vs Q E (hr.deeper _) hsp
 have e1:Env0 P w K mg base {A with handled:=none} outer s H:=⟨e0.frames,e0.mod,e0.bs,e0.bsz,e0.funs,e0.frf,e0.hok,e0.bare⟩
 have I:=inv_H e0.frames (zVZ (CX:=CX0) (E:=E0) S rfl e1 hl r x)
 refine wpAny_mono (ht [] s1 (start N vs) H _ I hq) (λfl s' hs=>?_) λe s' hs=>hs.elim
 have fin: ∀{σ':St}{H':Hp}{v:V}{u:Value},Inv (cxH P w K mg base N qual (zH st) f cdv A outer s H) [] σ' H' s'->RelV v u->Q v H'->CE outer P w H s Q u s':=
  λ{σ' H' v u} J rv q=>⟨v,H',J.os,J.bare,J.base,J.hok,rv,q⟩
 cases fl with
 |ret u=>
  obtain⟨v,σ',H',J,rv,q⟩:=hs
  exact fin J rv q
 |next=>
  obtain⟨σ',H',J,q⟩:=hs
  exact fin (v:=V.non) (u:=Value.none) J rfl q
 |brk=>
  obtain⟨_,_,_,q⟩:=hs
  exact False.elim q
 |cont=>
  obtain⟨_,_,_,q⟩:=hs
  exact False.elim q
end
namespace M
section
variable{P:Program}{w:World}{K:PySem.W.Frag}{mg:Str->Option Value}{base:Heap}{x:Str}{st:Stmt}{N ps:List Str}{k n:Nat}{F:List MV->Sto->R Er}
structure CalH(P:Program)(w:World)(K:PySem.W.Frag)(mg:Str->Option Value)(base:Heap)(x:Str)(k n:Nat)(ps:List Str)(F:List MV->Sto->R Er):Prop where
 ex: ∃fa fd,FnOkH P w K mg base k fa fd ps (spM ⟨K,mg,P,w⟩ n F)/\mg x=some (.ref fa)/\PySem.W.keepIn K (.ref fa)=true/\Binds K fd ps []
theorem okH{f:Addr}{fd:FuncData}(Fb:Rho->Sto->R Fl)(Fu:Fun K x x st f fd)(Sc:FnScope N ps (zH st))
  (hbody: ∀(cdv:Value)(A:Around)(outer:List Env)(s:Shared)(H:Hp),RoomH k (A.deeper (envOfC x (zH st) s.heap.objs.size f cdv))->zPV (cxH P w K mg base N x (zH st) f cdv A outer s H) W0 (jN st) Fb):
  FnOkH P w K mg base (k+1) f fd ps (spM ⟨K,mg,P,w⟩ ps.length λds S=>yK (Fb (zS N ds) S)):=by
 refine yUK Fu Sc (λvs H Q E h=>?_) (λcdv A outer s H vs Q E hr h=>?_)
 ·obtain⟨α,S,ds,_,l,hl,_⟩:=h
  rw [l.length,hl]
 ·obtain⟨α,S,ds,wd,l,hl,q⟩:=h
  obtain⟨t,ht,kk⟩:=hbody cdv A outer s H hr
  refine⟨t,ht,kk α (zS N ds) S (start N vs) H _ wd (zKD l) ?_⟩
  dsimp only at q
  cases z:Fb (zS N ds) S with
  |ok fl S'=>
   rw [z]at q
   cases fl with
   |next ρ=>exact λσ α' H' x' w' s'=>q .non α' H' x' w' (DenE.val zCV)
   |ret r=>exact λv α' H' x' w' d'=>q v α' H' x' w' d'
   |brk ρ=>exact q.elim
   |cont ρ=>exact q.elim
  |exc c fs S'=>rw [z]at q;exact λα' H' x' w'=>(q α' H' x' w').elim
  |no=>rw [z]at q;exact q
theorem okCH(D:DefM K mg x st)(hb:yDD x st ps)(h: ∀f fd,Fun K x x st f fd->FnOkH P w K mg base k f fd ps (spM ⟨K,mg,P,w⟩ n F)):CalH P w K mg base x k n ps F:=
 let ⟨f,fd,m,Fu⟩:=D.ex;⟨f,fd,h f fd Fu,m,Fu.kp,Fu.binds hb⟩
end
section
variable{X:Cx}{W:XW}{e:Expr}{es:List Expr}{af:Rho->Sto->R (List Er)}{k n:Nat}{ps:List Str}{F:List MV->Sto->R Er}{x:Str}{p pos:Pos}
theorem yHY(G:CalH X.prog X.w X.K X.mg X.base x k n ps F)(hr:RoomH k X.A)(hg:Gl X x)(ha:PAm X W (e::es) af)(hdb:(x==("__debug__":Str))=false:=by decide)
  (he:starEach (e::es) X.env=(false,eval e X.env)::starEach es X.env:=by rfl) (hpl:(backTo pos (starEach es X.env)).any (·.1)=false:=by rfl):PEm X W (.Call (.Name x p) (e::es) [] pos) (λρ S=>(af ρ S).bind λrs S1=>zX n F rs S1):=by
 obtain⟨fa,fd,G,m,kp,b⟩:=G.ex
 obtain⟨t,ha,kk⟩:=ha
 refine⟨λσ H Q=>t σ H λvs H1=>spM X.g n F vs H1 Q E0,λpins s σ H Q I h=>?_,λα ρ S σ H Q wd sl q=>kk α ρ S σ H _ wd sl (q.bind λvs rs S1 α1 H1 e1 x1 w1 d1 q1=>zWG x1 w1 d1 q1)⟩
 refine wpAny_Call_Name_kw (zHX I hg m ?_ hdb)
 refine PySem.W.callWith_K (h₀:=X.base) I.ok.mod.kin kp (thn (ha pos pins s σ H _ I h) λus s1 ⟨vs,H1,I1,r,q⟩=>⟨I1.kIn,?_⟩) he hpl
 have hl:us.length=ps.length:=by rw [<-r.length];exact G.len _ _ _ _ q
 have hb:=b s1 us I1.kIn (by rw [aN];exact hl)
 rw [aN]at hb
 refine wpAny_call (codeAny_mono (G.run X.A X.stack s1 H1 ⟨us,[]⟩ us vs Q E0 hr I1.env0 hb r q) λr s' hq=>?_)
 cases r with
 |error y=>exact hq.elim
 |ok fl=>
  cases fl with
  |ret u=>exact I1.after hq
  |next=>exact False.elim hq
  |brk=>exact False.elim hq
  |cont=>exact False.elim hq
end
section
variable{X:Cx}{W:XW}{o e:Expr}{es:List Expr}{f:Rho->Sto->R Er}{af:Rho->Sto->R (List Er)}{apos pos:Pos}
def yLK(kvs:List (MV×MV))(S:Sto):R Er:=.ok (.val (.loc S.length)) (S++[.dic kvs])
theorem yLL{a b c:Str}{i j k:Int}{n1 n2 n3 n4 n5 n6:Nat}{p1 p2 p3 p4 p5 p6:Pos}(xa xb xc:List Nat)(ha:a=mkS xa:=by rfl)(hb:b=mkS xb:=by rfl)(hc:c=mkS xc:=by rfl)
  (hab:a≠b:=by decide) (hac:a≠c:=by decide) (hbc:b≠c:=by decide):
  PEm X W (.Dict [some (.Constant (.str a) n1 p1),some (.Constant (.str b) n2 p2),some (.Constant (.str c) n3 p3)] [.Constant (.int i) n4 p4,.Constant (.int j) n5 p5,.Constant (.int k) n6 p6] pos)
   (λ_ S=>yLK [(.str xa,.int i),(.str xb,.int j),(.str xc,.int k)] S):=by
 refine⟨λσ H Q=> ∀p,H p=none->Q (.ref p) (upd H p (.dK [(.inr a,.int i),(.inr b,.int j),(.inr c,.int k)])),λpins s σ H Q I h=>?_,λα ρ S σ H Q wd sl q p hp=>?_⟩
 ·refine wpAny_Dict_pairs (knd:=zEQ X.prog X.w) (pairs:=[(eval (.Constant (.str a) n1 p1) X.env,do let x <-eval (.Constant (.int i) n4 p4) X.env;standAt pos;pure x),
   (eval (.Constant (.str b) n2 p2) X.env,do let x <-eval (.Constant (.int j) n5 p5) X.env;standAt pos;pure x),(eval (.Constant (.str c) n3 p3) X.env,do let x <-eval (.Constant (.int k) n6 p6) X.env;standAt pos;pure x)]) rfl (by simp) (by simp) ?_
  refine evalPairs_cons (Calls.Constant_str (wB0 (wpAny_Constant_int (wB0 (wpAny_standAt (wP0 ?_))))))
  refine evalPairs_cons (Calls.Constant_str (wB0 (wpAny_Constant_int (wB0 (wpAny_standAt (wP0 ?_))))))
  refine evalPairs_cons (Calls.Constant_str (wB0 (wpAny_Constant_int (wB0 (wpAny_standAt (wP0 ?_))))))
  refine evalPairs_nil ?_
  refine⟨[(.inr a,_),(.inr b,_),(.inr c,_)],⟨zER X.prog X.w a _,rfl,zER X.prog X.w b _,rfl,zER X.prog X.w c _,rfl,trivial⟩,Heap.DictOf.new s.heap,λh' hm hs=>?_⟩
  refine⟨.ref s.heap.objs.size,_,I.laid (a:=s.heap.objs.size) (o:=.dK [(.inr a,.int i),(.inr b,.int j),(.inr c,.int k)]) (λx u q=>?_) (le_refl _) ⟨?_,beq_eq_false_iff_ne.mpr (Ne.symm (ne_of_lt (yKR I))),_,?_,hm⟩,rfl,h _ (I.hok.fresh (le_refl _))⟩
  ·rw [hs.2 x (ne_of_lt (Heap.lt_size q))]
   exact hP0 _ q
  ·exact le_trans (by decide:3<=1000) (by rw [sizeLine_eq];omega)
  ·have h1:(Sum.inr a:Key)≠Sum.inr b:=λz=>hab (Sum.inr.inj z)
   have h2:(Sum.inr a:Key)≠Sum.inr c:=λz=>hac (Sum.inr.inj z)
   have h3:(Sum.inr b:Key)≠Sum.inr c:=λz=>hbc (Sum.inr.inj z)
   simp only [merged,stored,foldl_cons,List.foldl_nil,any_cons,List.any_nil,nil_append,cons_append,h1,h2,h3,decide_false,Bool.or_false,fT,iF,reduceIte]
   exact .cons ⟨rfl,⟨_,rfl⟩⟩ (.cons ⟨rfl,⟨_,rfl⟩⟩ (.cons ⟨rfl,⟨_,rfl⟩⟩ .nil))
 ·obtain⟨x,w'⟩:=wd.put (ho:=.dK [(.inr a,.int i),(.inr b,.int j),(.inr c,.int k)]) (m:=.dic [(.str xa,.int i),(.str xb,.int j),(.str xc,.int k)]) hp
   (.inl ⟨_,yD,.cons (by rw [ha];rfl) (xV i) (.cons (by rw [hb];rfl) (xV j) (.cons (by rw [hc];rfl) (xV k) .nil))⟩)
  exact q (.ref p) (α++[p]) _ x w' (DenE.val (zLU (by rw [<-wd.len,getElem?_append_right (le_refl _),sub_self];rfl)))
end
section
variable{X:Cx}{W:XW}{o e:Expr}{es:List Expr}{f:Rho->Sto->R Er}{af:Rho->Sto->R (List Er)}{apos pos:Pos}
def zRB(ks:List (Key×V))(k:Key):Option V:=(ks.find? λp=>decide (p.1=k)).map (·.2)
theorem yFJ: ∀{ks:List (Key×V)}{vs:List (Key×Value)}(r:KV ks vs)(k:Key),(∀v,zRB ks k=some v-> ∃u,valueAt vs k=some u/\RelV v u)/\(zRB ks k=none->valueAt vs k=none)
 |_,_,.nil,k=>⟨λv h=>(nomatch h),λ_=>rfl⟩
 |(a,x)::ks,(b,u)::vs,.cons ⟨h1,h2⟩ l,k=>by
  cases (show a=b from h1)
  have ih:=yFJ l k
  unfold zRB valueAt
  by_cases c:a=k
  ·simp only [find?_cons,c,decide_true,Option.map_some]
   exact⟨λv h=>⟨u,rfl,by cases h;exact h2⟩,λh=>nomatch h⟩
  ·simp only [find?_cons,c,decide_false]
   exact ih
theorem zWN{α:List Addr}{H:Hp}: ∀{kvs:List (MV×MV)}{ks:List (Key×V)}{k:MV}{k':Key},DenK X.K α H kvs ks->KeyD k k'->(∀d,look kvs k=some d-> ∃v,zRB ks k'=some v/\Den X.K α H d v)/\(look kvs k=none->zRB ks k'=none)
 |_,_,_,_,.nil,_=>⟨λd h=>(nomatch h),λ_=>rfl⟩
 |_,_,k,k',.cons (k:=k0) (k':=k0') (d:=d0) (v:=v0) h1 h2 l,hk=>by
  have ih:=zWN l hk
  rw [yHR]
  unfold zRB
  by_cases c:k0=k
  ·subst c
   have:=yPK h1 hk
   simp only [find?_cons,this,decide_true,Option.map_some,iP rfl]
   exact⟨λd h=>⟨v0,rfl,by cases h;exact h2⟩,λh=>nomatch h⟩
  ·have hn: ¬k0'=k':=λz=>c (yLC h1 (z▸hk))
   simp only [find?_cons,hn,decide_false,iN0 c]
   exact ih
def TyK(X:Cx)(x:V)(H:Hp):Prop:= ∃d ks,x=.ref d/\DK X H d ks
theorem yLM:zOT X "dict" (TyK X):=by
 intro pins s σ H x v I rx ⟨d,ks,e,dd⟩
 subst e
 cases rx
 obtain⟨_,hs,vs,kv,o,es,ep,ho,hc,_⟩:=yFH I dd
 exact⟨⟨o,ho,hc.1⟩,λa e=>by cases e;exact⟨o,ho,hc.2.1⟩⟩
def rGK(X:Cx):V->List V->Hp->VK->Prop:=λx vs H Q=> ∃(ks:List (Key×V))(d:Addr)(t:List Nat)(y:V),x=.ref d/\vs=[.str (mkS t),y]/\DK X H d ks/\Q ((zRB ks (.inr (mkS t))).getD y) H
theorem yPO:MtR X "dict.get" (rGK X):=by
 intro pins s σ H x vs v us Q I rx rv h
 obtain⟨ks,d,t,y,rfl,rfl,dd,q⟩:=h
 obtain⟨u1,u2,rfl,r1,r2⟩:=vals2 rv
 cases rx
 obtain⟨tt,rfl⟩:=r1
 have hT:s.TypeIs (.ref d) "dict":=(yLM pins s σ H (.ref d) (.ref d) I rfl ⟨d,ks,rfl,dd⟩).1
 obtain⟨_,hs,vs,kv,dm⟩:=yFH I dd
 obtain⟨l1,l2⟩:=yFJ kv (.inr (mkS t))
 refine wpAny_call_entry PySem.F.slot_dict_get hT PySem.F.entry_dict_get ?_ (PySem.F.args_dict_get_3 _ _ _)
 show wpAny _ _ (dictGet d (.str (mkS t) tt) >>= _) _ _ s
 refine wB0 (wpAny_dictGet_of (knd:=zEQ X.prog X.w) (zER X.prog X.w (mkS t) tt) dm.mapOf ?_)
 cases hv:zRB ks (.inr (mkS t))with
 |some v=>
  obtain⟨u,e,ru⟩:=l1 v hv
  rw [hv]at q
  rw [e]
  exact wP0 ⟨u,rfl,v,H,I.tok _,ru,q⟩
 |none=>
  rw [hv]at q
  rw [l2 hv]
  show wpAny _ _ (Builtin.Dict.missed d (.str (mkS t) tt) >>= _) _ _ _
  exact wB0 (wpAny_missed_other hs (wP0 ⟨u2,rfl,y,H,I.tok _,r2,q⟩))
noncomputable def zWO(p:Er)(rs:List Er)(S:Sto):R Er:=match rs with
 |[.val (.str t),.val y]=>match zWL S p with
  |some (l,kvs)=>.ok (.val ((look kvs (.str t)).getD y)) S
  |none=>.no
 |_=>.no
theorem yPP:MtdM X W (rGK X) zWO:=by
 intro p rs x vs α S H0 H Q α0 wd x0 dp da post
 unfold zWO at post
 split at post
 ·rename_i t y
  cases da with
  |cons dk n1 l1=>
   cases l1 with
   |cons dy n2 l2=>
    cases l2
    split at post
    ·rename_i l kvs ed
     obtain⟨c,ks,rfl,hc,hS,DDx,dl,_⟩:=yLD wd ed dp
     have hk:KeyD (.str t) (.inr (mkS t)):=rfl
     obtain⟨g1,g2⟩:=zWN dl hk
     have ek:=jG (K:=X.K) (α:=α) (H:=H) dk.1
     subst ek
     refine⟨ks,c,t,_,rfl,rfl,DDx,?_⟩
     cases hl:look kvs (.str t)with
     |some d=>
      obtain⟨v,e1,e2⟩:=g1 d hl
      rw [e1]
      rw [hl]at post
      exact(Post.shift x0 post).val wd e2
     |none=>
      rw [g2 hl]
      rw [hl]at post
      exact(Post.shift x0 post).val wd dy.1
    ·exact post.elim
 ·exact post.elim
noncomputable def yFK(p:Er)(S:Sto):Bool:=(zWL S p).isSome
theorem yPQ(ho:PEm X W o f)(ha:PAm X W (e::es) af)
  (hbase:attributeBase o "get" X.env (eval o X.env)=eval o X.env:=by rfl)
  (hfew:((backTo pos (starEach (e::es) X.env)).all (λx=>!x.1)&&(backToKw pos (keywordEach [] X.env)).all (λx=>x.1.isSome)
   &&decide ((e::es).length+([]:List Keyword).length+(if([]:List Keyword).isEmpty then 0 else 1)<30))=true:=by rfl)
  (hline:(apos.endLine==pos.line)=true:=by rfl) (hs:starEach (e::es) X.env=(false,eval e X.env)::starEach es X.env:=by rfl) (hplain:(backTo pos (starEach es X.env)).any (·.1)=false:=by rfl):
  PEm X W (.Call (.Attribute o "get" apos) (e::es) [] pos) (λρ S=>(f ρ S).bind λp S1=>if yFK p S1=true then(af ρ S1).bind λrs S2=>zWO p rs S2 else .no):=by
 obtain⟨to,ho,fo⟩:=ho
 obtain⟨t,ha,k⟩:=ha
 refine⟨_,yUH yLM PySem.F.plainAttrs_dict PySem.F.slot_dict_get PySem.F.type_dict_get yPO ho ha hbase hfew hline hs hplain,λα ρ S σ H Q wd sl q=>fo α ρ S σ H _ wd sl (q.bind λu p S1 α1 H1 e1 x1 w1 d1 q1=>?_)⟩
 split at q1
 ·rename_i hz
  obtain⟨⟨l,kvs⟩,hz⟩:=Option.isSome_iff_exists.mp hz
  obtain⟨c,xs,rfl,_,_,dd,_⟩:=yLD w1 hz d1.1
  exact⟨⟨c,xs,rfl,dd⟩,k α1 ρ S1 σ H1 _ w1 (sl.ext x1) ((q1.shift x1).bind λvs rs S2 α2 H2 e2 x2 w2 d2 q2=>yPP p rs _ vs α2 S2 H1 H2 Q α1 w2 x2 (d1.1.ext x2) d2 q2)⟩
 ·exact q1.elim
end
theorem zQD:fillsNumberSlot (.type "tuple") "mul"=pure false:=
 PySem.fillsNumberSlot_seq (id:="tuple.__mul__") (r:=some (.builtin "tuple.__rmul__")) PySem.F.slot_tuple_mul.lookup (by decide+kernel) PySem.F.slot_tuple_rmul.lookup (by decide+kernel)
theorem zXX:seqRepeat? (.type "tuple")=pure (some (.builtin "tuple.__mul__")):=by
 unfold seqRepeat?
 rw [PySem.seqSlot_of (T:="tuple") (name:="__mul__") (id:="tuple.__mul__") PySem.F.slot_tuple_mul.lookup (by decide+kernel),PySem.seqSlot_of (T:="tuple") (name:="__rmul__") (id:="tuple.__rmul__") PySem.F.slot_tuple_rmul.lookup (by decide+kernel)]
 rfl
theorem yDE(a:Int)(t:Tok)(l:Addr)(items:Array Value)(n:Nat)(dd:Option Addr)(sl:Array (Option Value)):
  Meets (Builtin.«int.__rmul__» ⟨[.int a t,.ref l],[]⟩) (λ_ R s=>s.heap.get? l=some {cls:=.type "tuple",dict:=dd,data:=.seq items n,slots:=sl}/\R (.ok (.ret Value.notImplemented)) s):=
 .of_wp λprog w A R s h=>by obtain⟨hp,g,d,tk,os⟩:=s;obtain⟨hl,h⟩:=h;wp_walk;exact⟨_,rfl,h⟩
theorem yLN(l:Addr)(items:Array Value)(n:Nat)(dd:Option Addr)(sl:Array (Option Value))(x:Int)(u:Tok)(h1:(decide (x< -(2 ^ 63)) || decide (x>=2 ^ 63))=false)(h2:(items.isEmpty || x==1)=true):
  Meets (Builtin.«tuple.__mul__» ⟨[.ref l,.int x u],[]⟩) (λ_ R s=>s.heap.get? l=some {cls:=.type "tuple",dict:=dd,data:=.seq items n,slots:=sl}/\R (.ok (.ret (.ref l))) s):=
 .of_wp λprog w A R s h=>by obtain⟨hp,g,d,tk,os⟩:=s;obtain⟨hl,h⟩:=h;wp_walk;refine wpAny_ite_false (dF0 (by rw [h1];exact xF0)) ?_;wp_walk;exact⟨_,rfl,h⟩
theorem yLO(l:Addr)(items:Array Value)(n:Nat)(dd:Option Addr)(sl:Array (Option Value))(x:Int)(u:Tok)(h1:(decide (x< -(2 ^ 63)) || decide (x>=2 ^ 63))=false)(h2:(items.isEmpty || x==1)=false)(h3:(decide (x<=0) || items.isEmpty)=true):
  Meets (Builtin.«tuple.__mul__» ⟨[.ref l,.int x u],[]⟩) (λ_ R s=>s.heap.get? l=some {cls:=.type "tuple",dict:=dd,data:=.seq items n,slots:=sl}/\R (.ok (.ret (.ref s.heap.objs.size))) {s with heap:=s.heap.push {cls:=.type "tuple",data:=.seq #[]}}):=
 .of_wp λprog w A R s h=>by obtain⟨hp,g,d,tk,os⟩:=s;obtain⟨hl,h⟩:=h;wp_walk;refine wpAny_ite_false (dF0 (by rw [h1];exact xF0)) ?_;wp_walk;exact⟨_,rfl,h⟩
theorem yLP(l:Addr)(items:Array Value)(n:Nat)(dd:Option Addr)(sl:Array (Option Value))(x:Int)(u:Tok)(h1:(decide (x< -(2 ^ 63)) || decide (x>=2 ^ 63))=false)(h2:(items.isEmpty || x==1)=false)(h3:(decide (x<=0) || items.isEmpty)=false)
  (h4: ¬((items.size:Int) * x>(2 ^ 63 - 1) / 8)) (h5:Builtin.Tuple.tupleTooMany ((items.size:Int) * x)=false) (h6: ¬((List.foldl (λx1 x2=>x1++x2) #[] (List.replicate x.toNat items)).size>sizeLine)):
  Meets (Builtin.«tuple.__mul__» ⟨[.ref l,.int x u],[]⟩) (λ_ R s=>s.heap.get? l=some {cls:=.type "tuple",dict:=dd,data:=.seq items n,slots:=sl}/\R (.ok (.ret (.ref s.heap.objs.size))) {s with heap:=s.heap.push {cls:=.type "tuple",data:=.seq ((List.replicate x.toNat items).foldl (· ++·) #[])}}):=
 .of_wp λprog w A R s h=>by obtain⟨hp,g,d,tk,os⟩:=s;obtain⟨hl,h⟩:=h;wp_walk;refine wpAny_ite_false (dF0 (by rw [h1];exact xF0)) ?_;wp_walk;refine wpAny_ite_false (dF0 h4) ?_;wp_walk;exact⟨_,rfl,h⟩
section
variable{X:Cx}{W:XW}{a b:Expr}{f g:Rho->Sto->R Er}{pos:Pos}
def rRepT(K:PySem.W.Frag):R2:=λx y H Q=> ∃l k xs,x=.ref l/\y=.int k/\SqT K H l xs/\0<=k/\k<100000/\xs.length * k.toNat<=1000000/\
 ((xs=[]\/k=1)->Q (.ref l) H)/\(¬(xs=[]\/k=1)-> ∀p,H p=none->Q (.ref p) (upd H p (.tup (List.replicate k.toNat xs).flatten)))
theorem yPR:OpR X (binaryOp .Mult) (rRepT X.K):=by
 intro pins s σ H x y v u Q I rx ry h
 obtain⟨l,k,xs,rfl,rfl,hT,h0,h1,hz,q1,q2⟩:=h
 cases rx
 obtain⟨t,rfl⟩:=ry
 obtain⟨its,r1,p1,_⟩:=I.tuple hT
 obtain⟨⟨cls,dd,data,sl⟩,ho,hc,n,hd⟩:=id p1
 simp only at hc hd
 subst hc hd
 have hr:(decide (k< -(2 ^ 63)) || decide (k>=2 ^ 63))=false:=by
  rw [dF0 (by omega),dF0 (by omega)]
  rfl
 have hlen:its.length=xs.length:=r1.length.symm
 have hfit:xs.length * k.toNat<=sizeLine:=le_trans hz (by rw [sizeLine_eq];omega)
 have fin:wpAny (model X.prog X.w) X.A (call (.builtin "tuple.__mul__") [.ref l,.int k t]) (EP X pins σ Q) X.xe s:=by
  by_cases hs:xs=[]\/k=1
  ·refine call_meets PySem.F.slot_tuple_mul ⟨_,ho,rfl⟩ PySem.F.entry_tuple_mul (PySem.F.args_tuple_mul_2 _ _) (yLN l its.toArray n dd sl k t hr ?_) ⟨ho,⟨.ref l,H,I,rfl,q1 hs⟩⟩
   rcases hs with z|z
   ·have e0:its=[]:=r1.nil_iff.mpr z
    rw [e0]
    rfl
   ·rw [z]
    simp
  ·have hx:its.toArray.isEmpty=false:=by
    cases its with
    |nil=>exact absurd (.inl (r1.nil_iff.mp rfl)) hs
    |cons a r=>simp
   have hk1:(k==1)=false:=beq_eq_false_iff_ne.mpr λz=>hs (.inr z)
   by_cases hk:k<=0
   ·have hk0:k=0:=by omega
    refine call_meets PySem.F.slot_tuple_mul ⟨_,ho,rfl⟩ PySem.F.entry_tuple_mul (PySem.F.args_tuple_mul_2 _ _) (yLO l its.toArray n dd sl k t hr (by rw [hx,hk1];rfl) (by rw [dT0 hk];rfl)) ⟨ho,?_⟩
    refine⟨.ref s.heap.objs.size,_,I.laid (t':=s.toks) (o:=.tup (List.replicate k.toNat xs).flatten) (λb ob q=>hP0 _ q) (le_refl _) ?_,rfl,q2 hs _ (I.hok.fresh (le_refl _))⟩
    rw [hk0]
    exact⟨zero_le _,[],.nil,IsTup.new _ _⟩
   ·have hm:(its.toArray.size:Int) * k=((xs.length * k.toNat:Nat):Int):=by
     rw [sA,hlen,Int.natCast_mul,Int.toNat_of_nonneg h0]
    refine call_meets PySem.F.slot_tuple_mul ⟨_,ho,rfl⟩ PySem.F.entry_tuple_mul (PySem.F.args_tuple_mul_2 _ _) (yLP l its.toArray n dd sl k t hr (by rw [hx,hk1];rfl) (by rw [dF0 hk,hx];rfl) ?_ ?_ ?_) ⟨ho,?_⟩
    ·rw [hm]
     omega
    ·rw [hm]
     exact dF0 (by omega)
    ·have:=foldl_rep its k.toNat []
     rw [nil_append]at this
     rw [show(#[]:Array Value)=([]:List Value).toArray from rfl,this,sA,len_rep,hlen,mul_comm]
     omega
    ·have:=foldl_rep its k.toNat []
     rw [nil_append]at this
     rw [show List.foldl (λx1 x2=>x1++x2) #[] (List.replicate k.toNat its.toArray)=_ from this]
     refine⟨.ref s.heap.objs.size,_,I.laid (t':=s.toks) (o:=.tup (List.replicate k.toNat xs).flatten) (λb ob q=>hP0 _ q) (le_refl _) ?_,rfl,q2 hs _ (I.hok.fresh (le_refl _))⟩
     exact⟨by rw [len_rep,mul_comm];exact hfit,_,r1.rep k.toNat,IsTup.new _ _⟩
 exact wpAny_binaryOp_repeat_ref (T:="tuple") (U:="int") (by decide) ⟨_,ho,rfl⟩ (λs'=>typeIs_int s' k t) zQD PySem.F.fills_int_mul PySem.F.slot_int_rmul zXX PySem.F.slot_int_index.lookup
  (call_meets PySem.F.slot_int_rmul (typeIs_int s k t) PySem.F.entry_int_rmul (PySem.F.args_int_rmul_2 _ _) (yDE k t l its.toArray n dd sl) ⟨ho,rfl,⟨_,ho,rfl⟩,fin⟩)
def zWP:Er->Er->Sto->R Er
 |.val (.tup x),.val (.int k),S=>if 0<=k/\k<100000/\x.length * k.toNat<=1000000 then .ok (.val (.tup (List.replicate k.toNat x).flatten)) S else .no
 |_,_,_=>.no
theorem zXY(ha:PEm X W a f)(hb:PEm X W b g):PEm X W (.BinOp a .Mult b pos) (λρ S=>(f ρ S).bind λp S1=>(g ρ S1).bind λq S2=>zWP p q S2):=by
 refine zSX yPR ?_ ha hb
 intro p q x y α S H Q wd dp dq post
 unfold zWP at post
 split at post
 ·rename_i xx k
  split at post
  ·rename_i hc
   obtain⟨a1,vs,rfl,s1,l1⟩:=cN dp
   refine⟨a1,k,vs,rfl,xU dq,s1,hc.1,hc.2.1,by rw [l1.length];exact hc.2.2,λh=>?_,λ_ p hp=>Post.newt post wd hp (l1.rep _)⟩
   have e:(List.replicate k.toNat xx).flatten=xx:=by
    rcases h with z|z
    ·have e0:=l1.length
     have:xx=[]:=by cases xx with |nil=>rfl|cons _ _=>rw [z]at e0;simp at e0
     rw [this]
     simp
    ·rw [z]
     simp
   rw [e]at post
   exact Post.val post wd (zBC s1 l1)
  ·exact post.elim
 ·exact post.elim
end
noncomputable section
variable{α β:Type}
def vJ(i:Nat)(ρ:Rho)(S:Sto):R Er:=rdSl (ρ[i]?) S
def kJ(d:MV)(_:Rho)(S:Sto):R Er:=.ok (.val d) S
def bJ(f:Rho->Sto->R α)(F:α->Sto->R β)(ρ:Rho)(S:Sto):R β:=(f ρ S).bind F
def dJ(F:Er->Er->Sto->R Er)(f g:Rho->Sto->R Er)(ρ:Rho)(S:Sto):R Er:=(f ρ S).bind λp S=>(g ρ S).bind λq S=>F p q S
def nJ(f:Rho->Sto->R Er)(ρ:Rho)(S:Sto):R Er:=(f ρ S).bind λp S=>(asB p S).bind λk S=>.ok (.val (.bl !k)) S
def aJ(f g:Rho->Sto->R Er)(ρ:Rho)(S:Sto):R Er:=(f ρ S).bind λp S=>zAI p S λS=>g ρ S
def oJ(f g:Rho->Sto->R Er)(ρ:Rho)(S:Sto):R Er:=(f ρ S).bind λp S=>orF p S λS=>g ρ S
def iJ(c:Rho->Sto->R Bool)(f g:Rho->Sto->R α)(ρ:Rho)(S:Sto):R α:=(c ρ S).bind λk S=>if k=true then f ρ S else g ρ S
def mJ(_:Rho)(S:Sto):R (Option Int):=.ok none S
def tJ(F:Er->Option Int->Option Int->Sto->R Er)(f:Rho->Sto->R Er)(g h:Rho->Sto->R (Option Int))(ρ:Rho)(S:Sto):R Er:=(f ρ S).bind λp S=>(g ρ S).bind λl S=>(h ρ S).bind λu S=>F p l u S
def lJ(k:List (MV×MV))(_:Rho)(S:Sto):R Er:=yLK k S
def zJ(_:Rho)(S:Sto):R Er:=yKS S
def fJ(n:Nat)(F:List MV->Sto->R Er)(a:Rho->Sto->R (List Er))(ρ:Rho)(S:Sto):R Er:=(a ρ S).bind λr S=>zX n F r S
def xJ(n:Nat)(F:List MV->Sto->R Er)(a:Rho->Sto->R (List Er))(ρ:Rho)(S:Sto):R Er:=(a ρ S).bind λr S=>dN n F r S
def hJ(F:List MV->Sto->R Er)(_:Rho)(S:Sto):R Er:=zX 0 F [] S
def eJ(t:Er->Sto->Bool)(F:Er->List Er->Sto->R Er)(f:Rho->Sto->R Er)(a:Rho->Sto->R (List Er))(ρ:Rho)(S:Sto):R Er:=(f ρ S).bind λp S=>if t p S=true then(a ρ S).bind λr S=>F p r S else .no
def gJ(t:Er->Sto->Bool)(F:Er->List Er->Sto->R Er)(f:Rho->Sto->R Er)(ρ:Rho)(S:Sto):R Er:=(f ρ S).bind λp S=>if t p S=true then F p [] S else .no
def uJ(_:Rho)(S:Sto):R Bool:=.ok true S
def pJ(i:Rho->Sto->R Wk)(g:MV->Rho->Sto->R Rho)(c:Rho->Sto->R Bool)(e:Rho->Sto->R Er)(n:Nat)(I:List Nat)(ρ:Rho)(S:Sto):R Er:=(i ρ S).bind λk S=>if k.ds.length<1000000 then(jE g c e (blk n I ρ) k.gs k.ds S).bind λo S=>.ok (.new o) S else .no
def jJ(F G:Er->Er->Sto->R Er)(f g h:Rho->Sto->R Er)(ρ:Rho)(S:Sto):R Er:=(f ρ S).bind λp S=>(g ρ S).bind λq S=>chF F G p q S λS=>h ρ S
def qJ(f:Rho->Sto->R Bool)(ρ:Rho)(S:Sto):R Bool:=(f ρ S).bind λk S=>.ok (!k) S
def rJ(f g:Rho->Sto->R Bool)(ρ:Rho)(S:Sto):R Bool:=(f ρ S).bind λk S=>if k=true then g ρ S else .ok false S
def sJ(f g:Rho->Sto->R Bool)(ρ:Rho)(S:Sto):R Bool:=(f ρ S).bind λk S=>if k=true then .ok true S else g ρ S
def wJ(_:Rho)(S:Sto):R (List Er):=.ok [] S
def yJ(f:Rho->Sto->R Er)(g:Rho->Sto->R (List Er))(ρ:Rho)(S:Sto):R (List Er):=(f ρ S).bind λp S=>(g ρ S).bind λl S=>.ok (p::l) S
def AJ(f:Rho->Sto->R Er)(ρ:Rho)(S:Sto):R Fl:=(f ρ S).bind λr S=>.ok (.ret r) S
def BJ(f:Rho->Sto->R Er)(ρ:Rho)(S:Sto):R Fl:=(f ρ S).bind λ_ S=>.ok (.next ρ) S
def CJ(f:Rho->Sto->R Er)(i:Nat)(ρ:Rho)(S:Sto):R Fl:=(f ρ S).bind (zXM ρ i)
def DJ(F:Er->Er->MV->Rho->Sto->R Rho)(f g:Rho->Sto->R Er)(d:MV)(ρ:Rho)(S:Sto):R Rho:=(f ρ S).bind λp S=>(g ρ S).bind λq S=>F p q d ρ S
def EJ(f:Rho->Sto->R Er)(g:MV->Rho->Sto->R Rho)(ρ:Rho)(S:Sto):R Fl:=(f ρ S).bind (asgF g ρ)
def FJ(i:Rho->Sto->R Wk)(g:MV->Rho->Sto->R Rho)(b:Rho->Sto->R Fl)(ρ:Rho)(S:Sto):R Fl:=(i ρ S).bind λk S=>bS g b k.gs k.ds ρ S
def GJ(a:Rho->Sto->R (List Er))(c:Str)(ρ:Rho)(S:Sto):R Fl:=(a ρ S).bind λr S=>if r.length<=10 then .exc c [] S else .no
def HJ(cs:List Str)(i:Nat)(h:Rho->Sto->R Fl)(n:Nat)(F:List MV->Sto->R Er)(a:Rho->Sto->R (List Er))(ρ:Rho)(S:Sto):R Fl:=(noX (a ρ S)).bind λr S=>yHT cs i (λ_ S=>.ok (.next ρ) S) h ρ (dN n F r S)
def IJ(cs:List Str)(i j:Nat)(h:Rho->Sto->R Fl)(n:Nat)(F:List MV->Sto->R Er)(a:Rho->Sto->R (List Er))(ρ:Rho)(S:Sto):R Fl:=(noX (a ρ S)).bind λr S=>yHT cs i (zXM ρ j) h ρ (dN n F r S)
def JJ(ρ:Rho)(S:Sto):R Fl:=.ok (.next ρ) S
end
end M
end L2
namespace L2
namespace M
namespace My
open PySem PySem.Spec PyProof.Rows
local macro_rules
 | `(tactic|simp? [$xs,*] $[$l:location]?)=>`(tactic|simp only [List.getElem?_cons_zero,List.getElem?_cons_succ,yOU,bok,as_int,as_bl,yTX,add_int,sub_int,eq_int,yTY,lst0,lst1,lst2,lst3,lst6,tup2,tup3,yUA,yUB,yUC,yUD,yKQ,yUE,yPA,yPB,List.set_cons_zero,List.set_cons_succ,if_true,yPD,yPC,vJ,kJ,bJ,dJ,nJ,aJ,oJ,iJ,mJ,tJ,lJ,zJ,fJ,xJ,hJ,eJ,gJ,uJ,pJ,jJ,qJ,rJ,sJ,wJ,yJ,AJ,BJ,CJ,DJ,EJ,FJ,GJ,HJ,IJ,JJ,$xs,*] $[$l:location]?)
abbrev jQ:List Str:=["thing","least","most"]
abbrev yAH:List Str:=["rule","tables","number","columns"]
abbrev xC:List Str:=["tables","rules","rows"]
abbrev zKG:List Str:=["tables","place","table"]
abbrev zML:List Str:=["tables","rules","place","rule"]
abbrev zOU:List Str:=["tables","rows","place","row","seen"]
abbrev zND:List Str:=["_law_cell","_law_prime","_law_number_here"]
abbrev zKH:List Str:=["_law_cell","_law_letters","_law_number_here","_law_name_here","_law_k"]
abbrev zKI:List Str:=["_law_cell","_law_number_here","_law_letters","_law_name_here","_law_at","_law_turned","_law_other","_law_great"]
abbrev zFK:List Str:=["_law_cell","_law_most","_law_number_here","_law_many","_law_tables_here","_law_k","_law_wide"]
abbrev zKJ:List Str:=["_law_state","_law_size","_law_found"]
abbrev zKK:List Str:=["_law_state","_law_there","_law_tables_here","_law_pool_here","_law_k"]
abbrev zIH:List Str:=["_law_state","_law_there","_law_tables_here","_law_pool_here","_law_tests_here","_law_k","_law_word","_law_left"]
abbrev zBO:List Str:=["_law_cell","_law_tables_here","_law_pool_here","_law_state","_law_kind","_law_t","_law_u","_law_many","_law_columns"]
abbrev zOV:List Str:=["_law_e","_law_kinds_here"]
abbrev zDH:List Str:=["_law_parts","_law_which","_law_place","_law_kinds_here","_law_told","_law_e"]
abbrev zHI:List Str:=["_law_cell","_law_many","_law_far"]
abbrev zHJ:List Str:=["_law_side_here","_law_number_here","_law_many","_law_way","_law_none","_law_odd"]
abbrev zEZ:List Str:=["_law_tests_here","_law_number_here","_law_many","_law_way","_law_left","_law_word","_law_right_here"]
abbrev zRC:List Str:=["_law_rule_here","_law_cell","_law_tables_here","_law_number_here","_law_way","_law_columns"]
abbrev kZ:List Str:=["_law_thing","_law_many"]
abbrev cP:List Str:=["_law_thing","_law_small"]
abbrev kL:List Str:=["_law_tables_here","_law_there","_law_side_here"]
abbrev zDI:List Str:=["_law_tables_here","_law_there","_law_tests_here","_law_test","_law_side_here"]
abbrev xI:List Str:=["_law_tables_here","_law_t","_law_columns"]
abbrev zOW:List Str:=["_law_tables_here","_law_rule_here","_law_many","_law_t"]
abbrev yLQ:List Str:=["_law_script","_law_pool_here","_law_tables_here","_law_rules","_law_cell","_law_wrong","_law_parts","_law_again"]
abbrev XNS:List Str:=["TooGreat","NoText","NoPlace","NotPlain","NoTable","NoRule","NoRow","Twice","NoQuestion","Double","TooWide","Ring"]
noncomputable section
abbrev AF:=Rho->Sto->R Fl
abbrev AE:=Rho->Sto->R Er
def zII:AF:=(AJ (aJ (bJ (yJ (vJ 0) (yJ (kJ (.typ "int")) wJ)) jI) (nJ (bJ (yJ (vJ 0) (yJ (kJ (.typ "bool")) wJ)) jI))))
def zDJ:AF:=(zII)
def jA(ds:List MV)(S:Sto):R Er:=yK (zDJ (zS ["thing"] ds) S)
def zBE:Rho->Sto->R Bool:=uJ
def bT:AE:=(jJ leF leF (kJ (.str [97])) (vJ 0) (kJ (.str [122])))
def zKL:AF:=(iJ (sJ (qJ (bJ (bJ (yJ (vJ 0) (yJ (kJ (.typ "str")) wJ)) jI) gK)) (qJ (bJ (jJ leF leF (kJ (.int 1)) (bJ (yJ (vJ 0) wJ) xB) (kJ (.int 8))) asB))) ((AJ (kJ (.bl false)))) (JJ))
def zKM:AF:=(AJ (bJ (yJ (pJ (bJ (vJ 0) itS) (gNm 0) (zBE) (bT) 1 []) wJ) zVF))
def zQE:AF:=zN (zKL) ((zKM))
def zLZ(ds:List MV)(S:Sto):R Er:=yK (zQE (zS ["thing"] ds) S)
def nB:AF:=(iJ (bJ (fJ 1 jA (yJ (vJ 0) wJ)) gK) ((AJ (dJ ltF (bJ (yJ (vJ 0) wJ) yHL) (dJ zFI (kJ (.int 10)) (kJ (.int 30)))))) (JJ))
def zIJ:AF:=(AJ (fJ 1 zLZ (yJ (vJ 0) wJ)))
def zNE:AF:=zN (nB) ((zIJ))
def zIK(ds:List MV)(S:Sto):R Er:=yK (zNE (zS ["thing"] ds) S)
def zOX:AF:=(AJ (aJ (bJ (yJ (vJ 0) (yJ (kJ (.typ "tuple")) wJ)) jI) (jJ leF leF (vJ 1) (bJ (yJ (vJ 0) wJ) xB) (vJ 2))))
def zNF:AF:=(zOX)
def xP(ds:List MV)(S:Sto):R Er:=yK (zNF (zS jQ ds) S)
def bE:AF:=(AJ (aJ (fJ 1 jA (yJ (vJ 0) wJ)) (jJ leF ltF (kJ (.int 0)) (vJ 0) (vJ 1))))
def kM:AF:=(bE)
def zT(ds:List MV)(S:Sto):R Er:=yK (kM (zS ["thing","bound"] ds) S)
def jR:AF:=(iJ (sJ (qJ (bJ (fJ 3 xP (yJ (vJ 0) (yJ (kJ (.int 2)) (yJ (kJ (.int 2)) wJ)))) gK)) (qJ (bJ (fJ 1 jA (yJ (dJ ixF (vJ 0) (kJ (.int 0))) wJ)) gK))) ((AJ (kJ (.bl false)))) (JJ))
def zIL:AF:=(CJ (dJ ixF (vJ 0) (kJ (.int 0))) 1)
def zIM:AF:=(AJ (aJ (jJ leF leF (kJ (.int 1)) (vJ 1) (kJ (.int 4))) (fJ 2 zT (yJ (dJ ixF (vJ 0) (kJ (.int 1))) (yJ (dJ xN (vJ 1) (kJ (.int 1))) wJ)))))
def zNG:AF:=zN (jR) (zN (zIL) ((zIM)))
def zIN(ds:List MV)(S:Sto):R Er:=yK (zNG (zS ["thing","wide"] ds) S)
def gR:AF:=(iJ (bJ (fJ 3 xP (yJ (vJ 0) (yJ (kJ (.int 2)) (yJ (kJ (.int 2)) wJ)))) gK) ((AJ (aJ (dJ eqF (dJ ixF (vJ 0) (kJ (.int 0))) (kJ (.str [105,115]))) (fJ 1 zIK (yJ (dJ ixF (vJ 0) (kJ (.int 1))) wJ))))) (JJ))
def zBP:AF:=(iJ (sJ (qJ (bJ (fJ 3 xP (yJ (vJ 0) (yJ (kJ (.int 3)) (yJ (kJ (.int 3)) wJ)))) gK)) (bJ (dJ neF (dJ ixF (vJ 0) (kJ (.int 0))) (kJ (.str [99,101,108,108]))) asB)) ((AJ (kJ (.bl false)))) (JJ))
def zKN:AF:=(AJ (aJ (fJ 2 zT (yJ (dJ ixF (vJ 0) (kJ (.int 1))) (yJ (bJ (yJ (vJ 1) wJ) xB) wJ))) (fJ 2 zT (yJ (dJ ixF (vJ 0) (kJ (.int 2))) (yJ (dJ ixF (vJ 1) (dJ ixF (vJ 0) (kJ (.int 1)))) wJ)))))
def zDD:AF:=zN (gR) (zN (zBP) ((zKN)))
def zHK(ds:List MV)(S:Sto):R Er:=yK (zDD (zS ["thing","wides"] ds) S)
def zBQ:AF:=(iJ (qJ (bJ (fJ 3 xP (yJ (vJ 0) (yJ (kJ (.int 3)) (yJ (kJ (.int 3)) wJ)))) gK)) ((AJ (kJ (.bl false)))) (JJ))
def zKO:AF:=(AJ (aJ (fJ 2 zHK (yJ (dJ ixF (vJ 0) (kJ (.int 0))) (yJ (vJ 1) wJ))) (aJ (dJ (inF false) (dJ ixF (vJ 0) (kJ (.int 1))) (kJ (.tup [.str [115,97,109,101],.str [117,110,108,105,107,101],.str [108,101,115,115]]))) (fJ 2 zHK (yJ (dJ ixF (vJ 0) (kJ (.int 2))) (yJ (vJ 1) wJ))))))
def zHL:AF:=zN (zBQ) ((zKO))
def zMA(ds:List MV)(S:Sto):R Er:=yK (zHL (zS ["thing","wides"] ds) S)
def zJO:Rho->Sto->R Bool:=uJ
def zCF:AE:=(fJ 2 zMA (yJ (vJ 0) (yJ (vJ 1) wJ)))
def zMM:AF:=(AJ (aJ (fJ 3 xP (yJ (vJ 0) (yJ (kJ (.int 1)) (yJ (kJ (.int 3)) wJ)))) (bJ (yJ (pJ (bJ (vJ 0) itT) (gNm 0) (zJO) (zCF) 1 [1]) wJ) zVF)))
def zKP:AF:=(zMM)
def gS(ds:List MV)(S:Sto):R Er:=yK (zKP (zS ["thing","wides"] ds) S)
def zFA:Rho->Sto->R Bool:=uJ
def nE:AE:=(fJ 2 zT (yJ (vJ 0) (yJ (vJ 1) wJ)))
def zJP:AF:=(AJ (aJ (fJ 3 xP (yJ (vJ 0) (yJ (kJ (.int 1)) (yJ (kJ (.int 3)) wJ)))) (bJ (yJ (pJ (bJ (vJ 0) itT) (gNm 0) (zFA) (nE) 1 [1]) wJ) zVF)))
def zFL:AF:=(zJP)
def zBF(ds:List MV)(S:Sto):R Er:=yK (zFL (zS ["thing","wide"] ds) S)
def nF:AF:=(iJ (sJ (bJ (dJ neF (bJ (yJ (vJ 0) wJ) xB) (kJ (.int 3))) asB) (qJ (bJ (fJ 2 zT (yJ (dJ ixF (vJ 0) (kJ (.int 1))) (yJ (bJ (yJ (vJ 1) wJ) xB) wJ))) gK))) ((AJ (kJ (.bl false)))) (JJ))
def zIO:AF:=(AJ (fJ 2 gS (yJ (dJ ixF (vJ 0) (kJ (.int 2))) (yJ (bJ (yJ (dJ ixF (dJ ixF (vJ 1) (dJ ixF (vJ 0) (kJ (.int 1)))) (kJ (.int 0))) wJ) jP) wJ))))
def zDK:AF:=zN (nF) ((zIO))
def zIP(ds:List MV)(S:Sto):R Er:=yK (zDK (zS ["rule","tables"] ds) S)
def zKQ:Rho->Sto->R Bool:=uJ
def zDL:AE:=(fJ 2 zT (yJ (vJ 0) (yJ (bJ (yJ (vJ 1) wJ) xB) wJ)))
def zKR:Rho->Sto->R Bool:=uJ
def zDM:AE:=(dJ ixF (dJ ixF (vJ 1) (vJ 0)) (kJ (.int 0)))
def nG:AF:=(iJ (sJ (bJ (dJ neF (bJ (yJ (vJ 0) wJ) xB) (kJ (.int 4))) asB) (qJ (bJ (bJ (yJ (pJ (bJ (tJ kY (vJ 0) (bJ (kJ (.int 1)) asI) (bJ (kJ (.int 3)) asI)) itT) (gNm 0) (zKQ) (zDL) 1 [1]) wJ) zVF) gK))) ((AJ (kJ (.bl false)))) (JJ))
def zIQ:AF:=(AJ (fJ 2 gS (yJ (dJ ixF (vJ 0) (kJ (.int 3))) (yJ (pJ (bJ (tJ kY (vJ 0) (bJ (kJ (.int 1)) asI) (bJ (kJ (.int 3)) asI)) itT) (gNm 0) (zKR) (zDM) 1 [1]) wJ))))
def zDN:AF:=zN (nG) ((zIQ))
def zIR(ds:List MV)(S:Sto):R Er:=yK (zDN (zS ["rule","tables"] ds) S)
noncomputable def zOY:Rho->Sto->R Fl:=(iJ (sJ (qJ (bJ (fJ 2 zT (yJ (vJ 2) (yJ (bJ (yJ (vJ 1) wJ) xB) wJ))) gK)) (qJ (bJ (fJ 2 zBF (yJ (vJ 3) (yJ (dJ ixF (dJ ixF (vJ 1) (vJ 2)) (kJ (.int 0))) wJ))) gK))) ((AJ (kJ (.bl false)))) (JJ))
noncomputable def zNH:Rho->Sto->R Fl:=(zOY)
def zDO:AF:=(iJ (bJ (dJ neF (bJ (yJ (vJ 0) wJ) xB) (kJ (.int 5))) asB) ((AJ (kJ (.bl false)))) (JJ))
def cQ:AF:=(FJ (bJ (bJ (yJ (bJ (yJ (dJ ixF (vJ 0) (kJ (.int 1))) (yJ (dJ ixF (vJ 0) (kJ (.int 2))) wJ)) xE) (yJ (bJ (yJ (dJ ixF (vJ 0) (kJ (.int 3))) (yJ (dJ ixF (vJ 0) (kJ (.int 4))) wJ)) xE) wJ)) xE) itT) (gTp 2 (yT (gNm 2) (yT (gNm 3) dU))) (zNH))
def zNI:AF:=(AJ (dJ eqF (bJ (yJ (dJ ixF (vJ 0) (kJ (.int 2))) wJ) xB) (bJ (yJ (dJ ixF (vJ 0) (kJ (.int 4))) wJ) xB)))
def zKS:AF:=zN (zDO) (zN (cQ) ((zNI)))
def zOZ(ds:List MV)(S:Sto):R Er:=yK (zKS (zS yAH ds) S)
def zKT:AF:=(iJ (sJ (qJ (bJ (bJ (yJ (vJ 0) (yJ (kJ (.typ "tuple")) wJ)) jI) gK)) (bJ (dJ eqF (bJ (yJ (vJ 0) wJ) xB) (kJ (.int 0))) asB)) ((AJ (kJ (.bl false)))) (JJ))
def zBR:AF:=(iJ (bJ (dJ eqF (dJ ixF (vJ 0) (kJ (.int 0))) (kJ (.str [110,101,118,101,114]))) asB) ((AJ (fJ 2 zIP (yJ (vJ 0) (yJ (vJ 1) wJ))))) (JJ))
def zBS:AF:=(iJ (bJ (dJ eqF (dJ ixF (vJ 0) (kJ (.int 0))) (kJ (.str [97,112,97,114,116]))) asB) ((AJ (fJ 2 zIR (yJ (vJ 0) (yJ (vJ 1) wJ))))) (JJ))
def zBT:AF:=(AJ (aJ (dJ eqF (dJ ixF (vJ 0) (kJ (.int 0))) (kJ (.str [116,105,101]))) (fJ 2 zOZ (yJ (vJ 0) (yJ (vJ 1) wJ)))))
def zQF:AF:=zN (zKT) (zN (zBR) (zN (zBS) ((zBT))))
def zHM(ds:List MV)(S:Sto):R Er:=yK (zQF (zS ["thing","tables"] ds) S)
def zJQ:AF:=(iJ (sJ (bJ (dJ gtF (bJ (yJ (vJ 0) wJ) xB) (kJ (.int 4))) asB) (sJ (bJ (dJ gtF (bJ (yJ (vJ 1) wJ) xB) (kJ (.int 6))) asB) (bJ (dJ gtF (bJ (yJ (vJ 2) wJ) xB) (kJ (.int 60))) asB))) ((λ_ _=>R.no)) (JJ))
def zFM:AF:=(zJQ)
def zBG(ds:List MV)(S:Sto):R Er:=yK (zFM (zS xC ds) S)
noncomputable def cR:Rho->Sto->R Fl:=(iJ (qJ (bJ (fJ 1 zIN (yJ (vJ 2) wJ)) gK)) ((bJ (vJ 1) (raF "NoTable" "place"))) (JJ))
noncomputable def wR:Rho->Sto->R Fl:=(cR)
def jK:AF:=(iJ (bJ (dJ eqF (bJ (yJ (vJ 0) wJ) xB) (kJ (.int 0))) asB) ((bJ (kJ (.int 0)) (raF "NoTable" "place"))) (JJ))
def zAO:AF:=(FJ (bJ (yJ (vJ 0) wJ) itE) (gTp 2 (yT (gNm 1) (yT (gNm 2) dU))) (wR))
def wZ:AF:=zN (jK) ((zAO))
def nH(ds:List MV)(S:Sto):R Er:=yK (wZ (zS zKG ds) S)
noncomputable def nI:Rho->Sto->R Fl:=(iJ (qJ (bJ (fJ 2 zHM (yJ (vJ 3) (yJ (vJ 0) wJ))) gK)) ((bJ (vJ 2) (raF "NoRule" "place"))) (JJ))
noncomputable def kG:Rho->Sto->R Fl:=(nI)
def zCG:AF:=(FJ (bJ (yJ (vJ 1) wJ) itE) (gTp 2 (yT (gNm 2) (yT (gNm 3) dU))) (kG))
def bU:AF:=(zCG)
def zBH(ds:List MV)(S:Sto):R Er:=yK (bU (zS zML ds) S)
noncomputable def zQG:Rho->Sto->R Fl:=(λ_ _=>R.no)
noncomputable def zTV:Rho->Sto->R Fl:=(zQG)
noncomputable def zQH:Rho->Sto->R Fl:=(λ_ _=>R.no)
noncomputable def zQI:Rho->Sto->R Fl:=(λ_ _=>R.no)
noncomputable def zTW:Rho->Sto->R Fl:=zN (zQH) ((zQI))
def zDP:AF:=(FJ (bJ (yJ (vJ 1) wJ) itE) (gTp 2 (yT (gNm 2) (yT (gNm 3) dU))) (zTV))
def zDQ:AF:=(CJ zJ 4)
def zDR:AF:=(FJ (bJ (yJ (vJ 1) wJ) itE) (gTp 2 (yT (gNm 2) (yT (gNm 3) dU))) (zTW))
def zIS:AF:=zN (zDP) (zN (zDQ) ((zDR)))
def zCZ(ds:List MV)(S:Sto):R Er:=yK (zIS (zS zOU ds) S)
def zKU:AF:=(BJ (xJ 3 zBG (yJ (vJ 0) (yJ (vJ 1) (yJ (vJ 2) wJ)))))
def zKV:AF:=(BJ (xJ 1 nH (yJ (vJ 0) wJ)))
def zBU:AF:=(BJ (xJ 2 zBH (yJ (vJ 0) (yJ (vJ 1) wJ))))
def zKW:AF:=(BJ (xJ 2 zCZ (yJ (vJ 0) (yJ (vJ 2) wJ))))
def zKX:AF:=(AJ (bJ (yJ (bJ (yJ (vJ 0) wJ) zAM) (yJ (bJ (yJ (vJ 1) wJ) zAM) (yJ (bJ (yJ (vJ 2) wJ) zAM) wJ))) xE))
def zQJ:AF:=zN (zKU) (zN (zKV) (zN (zBU) (zN (zKW) ((zKX)))))
def dO(ds:List MV)(S:Sto):R Er:=yK (zQJ (zS xC ds) S)
def zAP:AF:=(iJ (bJ (dJ ltF (vJ 1) (bJ (yJ (vJ 0) wJ) xB)) asB) ((AJ (dJ ixF (vJ 0) (vJ 1)))) (JJ))
def zQK:AF:=(AJ (kJ (.int 0)))
def zDS:AF:=zN (zAP) ((zQK))
def xD(ds:List MV)(S:Sto):R Er:=yK (zDS (zS ["_law_script","_law_k"] ds) S)
def zIT:AF:=(iJ (bJ (dJ eqF (dJ gP (vJ 0) (kJ (.int 2))) (kJ (.int 0))) asB) ((AJ (dJ gP (dJ zBK (vJ 0) (kJ (.int 2))) (dJ zFI (dJ zFI (kJ (.int 10)) (kJ (.int 60))) (kJ (.int 10)))))) (JJ))
def zIU:AF:=(CJ (dJ gP (dJ zVC (dJ xN (dJ gP (vJ 0) (kJ (.int 2147483629))) (kJ (.int 7))) (kJ (.int 48271))) (vJ 1)) 2)
def zIV:AF:=(AJ (dJ xN (dJ zVC (dJ gP (dJ zVC (vJ 2) (vJ 2)) (kJ (.int 2147483579))) (kJ (.int 1000003))) (vJ 2)))
def zNJ:AF:=zN (zIT) (zN (zIU) ((zIV)))
def xQ(ds:List MV)(S:Sto):R Er:=yK (zNJ (zS zND ds) S)
noncomputable def zCH:Rho->Sto->R Fl:=(CJ (dJ xN (vJ 3) (dJ ixF (vJ 1) (dJ gP (vJ 2) (kJ (.int 26))))) 3)
noncomputable def zCI:Rho->Sto->R Fl:=(CJ (dJ zBK (vJ 2) (kJ (.int 26))) 2)
noncomputable def zBI:Rho->Sto->R Fl:=zN (zCH) ((zCI))
def zMN:AF:=(CJ (kJ (.str [97,98,99,100,101,102,103,104,105,106,107,108,109,110,111,112,113,114,115,116,117,118,119,120,121,122])) 1)
def zFN:AF:=(CJ (dJ zBK (vJ 0) (kJ (.int 8))) 2)
def zMO:AF:=(CJ (kJ (.str [])) 3)
def zFO:AF:=(FJ (bJ (yJ (dJ xN (kJ (.int 1)) (dJ gP (vJ 0) (kJ (.int 8)))) wJ) zMK) (gNm 4) (zBI))
def zVH:AF:=(AJ (vJ 3))
def zRD:AF:=zN (zMN) (zN (zFN) (zN (zMO) (zN (zFO) ((zVH)))))
def dP(ds:List MV)(S:Sto):R Er:=yK (zRD (zS zKH ds) S)
def zFP:AF:=(CJ (fJ 2 xQ (yJ (vJ 0) (yJ (kJ (.int 2147483587)) wJ))) 1)
def zMP:AF:=(CJ (kJ (.str [97,98,99,100,101,102,103,104,105,106,107,108,109,110,111,112,113,114,115,116,117,118,119,120,121,122])) 2)
def zFQ:AF:=(CJ (fJ 1 dP (yJ (vJ 1) wJ)) 3)
def zFR:AF:=(CJ (dJ zBK (vJ 1) (dJ zVC (kJ (.int 8)) (dJ zFI (kJ (.int 26)) (kJ (.int 8))))) 1)
def zFS:AF:=(CJ (dJ gP (vJ 1) (bJ (yJ (vJ 3) wJ) xB)) 4)
def zFT:AF:=(CJ (dJ xN (dJ xN (eJ zTI yAC (vJ 2) (yJ (dJ ixF (vJ 3) (vJ 4)) wJ)) (kJ (.int 1))) (dJ gP (dJ zBK (vJ 1) (kJ (.int 8))) (kJ (.int 25)))) 5)
def zFU:AF:=(CJ (dJ xN (dJ xN (tJ kY (vJ 3) mJ (bJ (vJ 4) asI)) (dJ ixF (vJ 2) (dJ gP (vJ 5) (kJ (.int 26))))) (tJ kY (vJ 3) (bJ (dJ xN (vJ 4) (kJ (.int 1))) asI) mJ)) 6)
def zFV:AF:=(CJ (dJ zBK (vJ 1) (kJ (.int 200))) 1)
def zFW:AF:=(CJ (dJ xN (dJ gP (dJ zFI (dJ xN (dJ zVC (dJ gP (vJ 1) (dJ zFI (kJ (.int 10)) (kJ (.int 30)))) (kJ (.int 48271))) (kJ (.int 11))) (kJ (.int 4))) (dJ yCN (dJ zFI (kJ (.int 10)) (kJ (.int 30))) (kJ (.int 3)))) (kJ (.int 1))) 7)
def nK:AF:=(iJ (bJ (dJ eqF (dJ gP (vJ 1) (kJ (.int 2))) (kJ (.int 1))) asB) ((CJ (dJ xN (dJ gP (dJ zBK (vJ 1) (kJ (.int 2))) (dJ yCN (dJ zFI (kJ (.int 10)) (kJ (.int 30))) (kJ (.int 3)))) (kJ (.int 1))) 7)) (JJ))
def zDT:AF:=(AJ (bJ (yJ (dJ gP (dJ zBK (vJ 1) (kJ (.int 64))) (kJ (.int 5))) (yJ (vJ 7) (yJ (vJ 3) (yJ (dJ yCN (kJ (.int 0)) (vJ 7)) (yJ (vJ 6) (yJ (dJ xN (dJ gP (dJ zBK (vJ 1) (kJ (.int 320))) (kJ (.int 5))) (kJ (.int 7))) (yJ (dJ xN (vJ 7) (kJ (.int 1))) wJ))))))) jP))
def zRE:AF:=zN (zFP) (zN (zMP) (zN (zFQ) (zN (zFR) (zN (zFS) (zN (zFT) (zN (zFU) (zN (zFV) (zN (zFW) (zN (nK) ((zDT)))))))))))
def dQ(ds:List MV)(S:Sto):R Er:=yK (zRE (zS zKI ds) S)
def zHN(self:List MV->Sto->R Er):Rho->Sto->R Bool:=uJ
def zAQ(self:List MV->Sto->R Er):AE:=(fJ 2 self (yJ (vJ 0) (yJ (vJ 1) wJ)))
def kA(self:List MV->Sto->R Er):AF:=(iJ (bJ (dJ zXS (vJ 1) (kJ .non)) asB) ((AJ (dJ zXS (vJ 0) (kJ .non)))) (JJ))
def kB(self:List MV->Sto->R Er):AF:=(iJ (bJ (bJ (yJ (vJ 1) (yJ (kJ (.typ "str")) wJ)) jI) gK) ((AJ (aJ (bJ (yJ (vJ 0) (yJ (kJ (.typ "str")) wJ)) jI) (dJ eqF (vJ 0) (vJ 1))))) (JJ))
def gT(self:List MV->Sto->R Er):AF:=(iJ (bJ (bJ (yJ (vJ 1) (yJ (kJ (.typ "int")) wJ)) jI) gK) ((AJ (aJ (bJ (yJ (vJ 0) (yJ (kJ (.typ "int")) wJ)) jI) (aJ (nJ (bJ (yJ (vJ 0) (yJ (kJ (.typ "bool")) wJ)) jI)) (dJ eqF (vJ 0) (vJ 1)))))) (JJ))
def zDU(self:List MV->Sto->R Er):AF:=(iJ (rJ (bJ (bJ (yJ (vJ 1) (yJ (kJ (.typ "list")) wJ)) jI) gK) (qJ (bJ (bJ (yJ (vJ 0) (yJ (kJ (.typ "list")) wJ)) jI) gK))) ((AJ (kJ (.bl false)))) (JJ))
def zDV(self:List MV->Sto->R Er):AF:=(iJ (rJ (bJ (bJ (yJ (vJ 1) (yJ (kJ (.typ "tuple")) wJ)) jI) gK) (qJ (bJ (bJ (yJ (vJ 0) (yJ (kJ (.typ "tuple")) wJ)) jI) gK))) ((AJ (kJ (.bl false)))) (JJ))
def zKY(self:List MV->Sto->R Er):AF:=(AJ (aJ (dJ eqF (bJ (yJ (vJ 0) wJ) xB) (bJ (yJ (vJ 1) wJ) xB)) (bJ (yJ (pJ (bJ (yJ (vJ 0) (yJ (vJ 1) wJ)) itZ) (gTp 2 (yT (gNm 0) (yT (gNm 1) dU))) (zHN self) (zAQ self) 2 []) wJ) zVF)))
def zIW(self:List MV->Sto->R Er):AF:=zN (kA self) (zN (kB self) (zN (gT self) (zN (zDU self) (zN (zDV self) ((zKY self))))))
def yA:Nat->List MV->Sto->R Er
 |0=>λ_ _=>.no
 |n+1=>λds S=>yK (zIW (yA n) (zS ["_law_told","_law_due"] ds) S)
noncomputable def nL:Rho->Sto->R Fl:=(CJ (dJ xN (kJ (.int 1)) (dJ gP (vJ 2) (kJ (.int 4)))) 6)
noncomputable def nM:Rho->Sto->R Fl:=(BJ (eJ zOP yCP (vJ 4) (yJ (bJ (yJ (vJ 6) (yJ (dJ gP (dJ zBK (vJ 2) (kJ (.int 4))) (dJ xN (vJ 6) (kJ (.int 1)))) wJ)) xE) wJ)))
noncomputable def nN:Rho->Sto->R Fl:=(CJ (dJ zBK (vJ 2) (kJ (.int 20))) 2)
noncomputable def cF:Rho->Sto->R Fl:=zN (nL) (zN (nM) ((nN)))
def zCJ:AF:=(CJ (fJ 2 xQ (yJ (vJ 0) (yJ (kJ (.int 2147483629)) wJ))) 2)
def zCK:AF:=(CJ (dJ xN (kJ (.int 1)) (dJ gP (vJ 2) (vJ 1))) 3)
def zCL:AF:=(CJ (dJ zBK (vJ 2) (vJ 1)) 2)
def zCM:AF:=(CJ (bJ wJ jP) 4)
def zCN:AF:=(FJ (bJ (yJ (vJ 3) wJ) zMK) (gNm 5) (cF))
def zCO:AF:=(AJ (bJ (yJ (vJ 4) wJ) zAM))
def zMQ:AF:=zN (zCJ) (zN (zCK) (zN (zCL) (zN (zCM) (zN (zCN) ((zCO))))))
def gG(ds:List MV)(S:Sto):R Er:=yK (zMQ (zS zFK ds) S)
def zFX:AF:=(CJ (dJ gP (dJ ixF (vJ 0) (kJ (.int 0))) (vJ 1)) 2)
def zFY:AF:=(EJ (dJ zBK (dJ ixF (vJ 0) (kJ (.int 0))) (vJ 1)) (DJ yAD (vJ 0) (kJ (.int 0))))
def zVI:AF:=(AJ (vJ 2))
def zRF:AF:=zN (zFX) (zN (zFY) ((zVI)))
def yE(ds:List MV)(S:Sto):R Er:=yK (zRF (zS zKJ ds) S)
def bV:AF:=(iJ (bJ (dJ eqF (fJ 2 yE (yJ (vJ 0) (yJ (kJ (.int 4)) wJ))) (kJ (.int 0))) asB) ((AJ (bJ (yJ (kJ (.str [105,115])) (yJ (dJ ixF (vJ 3) (fJ 2 yE (yJ (vJ 0) (yJ (kJ (.int 7)) wJ)))) wJ)) xE))) (JJ))
def zFZ:AF:=(CJ (fJ 2 yE (yJ (vJ 0) (yJ (bJ (yJ (vJ 1) wJ) xB) wJ))) 4)
def zGA:AF:=(AJ (bJ (yJ (kJ (.str [99,101,108,108])) (yJ (vJ 4) (yJ (fJ 2 yE (yJ (vJ 0) (yJ (dJ ixF (dJ ixF (vJ 2) (dJ ixF (vJ 1) (vJ 4))) (kJ (.int 0))) wJ))) wJ))) xE))
def zKZ:AF:=zN (bV) (zN (zFZ) ((zGA)))
def kN(ds:List MV)(S:Sto):R Er:=yK (zKZ (zS zKK ds) S)
noncomputable def zAR:Rho->Sto->R Fl:=(CJ (dJ ixF (bJ (yJ (kJ (.str [115,97,109,101])) (yJ (kJ (.str [117,110,108,105,107,101])) (yJ (kJ (.str [108,101,115,115])) wJ))) jP) (fJ 2 yE (yJ (vJ 0) (yJ (kJ (.int 3)) wJ)))) 6)
noncomputable def zAS:Rho->Sto->R Fl:=(CJ (fJ 4 kN (yJ (vJ 0) (yJ (vJ 1) (yJ (vJ 2) (yJ (vJ 3) wJ))))) 7)
noncomputable def zAT:Rho->Sto->R Fl:=(BJ (eJ zOP yCP (vJ 4) (yJ (bJ (yJ (vJ 7) (yJ (vJ 6) (yJ (fJ 4 kN (yJ (vJ 0) (yJ (vJ 1) (yJ (vJ 2) (yJ (vJ 3) wJ))))) wJ))) xE) wJ)))
noncomputable def nO:Rho->Sto->R Fl:=zN (zAR) (zN (zAS) ((zAT)))
def zDW:AF:=(CJ (bJ wJ jP) 4)
def zDX:AF:=(FJ (bJ (yJ (dJ ixF (bJ (yJ (kJ (.int 1)) (yJ (kJ (.int 1)) (yJ (kJ (.int 2)) (yJ (kJ (.int 1)) (yJ (kJ (.int 2)) (yJ (kJ (.int 3)) wJ)))))) jP) (fJ 2 yE (yJ (vJ 0) (yJ (kJ (.int 6)) wJ)))) wJ) zMK) (gNm 5) (nO))
def zDY:AF:=(AJ (bJ (yJ (vJ 4) wJ) zAM))
def zPA:AF:=zN (zDW) (zN (zDX) ((zDY)))
def wI(ds:List MV)(S:Sto):R Er:=yK (zPA (zS zIH ds) S)
def zJR:Rho->Sto->R Bool:=uJ
def cG:AE:=(fJ 2 yE (yJ (vJ 2) (yJ (dJ ixF (dJ ixF (vJ 1) (vJ 3)) (kJ (.int 0))) wJ)))
def zJS:Rho->Sto->R Bool:=uJ
def cH:AE:=(fJ 2 yE (yJ (vJ 2) (yJ (dJ ixF (dJ ixF (vJ 1) (vJ 3)) (kJ (.int 0))) wJ)))
def zGB:AF:=(CJ (bJ (yJ (fJ 2 xQ (yJ (vJ 0) (yJ (kJ (.int 2147483543)) wJ))) wJ) jP) 3)
def zGC:AF:=(CJ (fJ 2 yE (yJ (vJ 3) (yJ (kJ (.int 4)) wJ))) 4)
def zGD:AF:=(CJ (fJ 2 yE (yJ (vJ 3) (yJ (bJ (yJ (vJ 1) wJ) xB) wJ))) 5)
def zGE:AF:=(CJ (fJ 2 yE (yJ (vJ 3) (yJ (bJ (yJ (vJ 1) wJ) xB) wJ))) 6)
def bW:AF:=(iJ (bJ (dJ eqF (vJ 4) (kJ (.int 0))) asB) ((AJ (bJ (yJ (kJ (.str [110,101,118,101,114])) (yJ (vJ 5) (yJ (fJ 4 wI (yJ (vJ 3) (yJ (bJ (yJ (vJ 5) wJ) xE) (yJ (vJ 1) (yJ (vJ 2) wJ))))) wJ))) xE))) (JJ))
def bX:AF:=(iJ (bJ (dJ ltF (vJ 4) (kJ (.int 3))) asB) ((AJ (bJ (yJ (kJ (.str [97,112,97,114,116])) (yJ (vJ 5) (yJ (vJ 6) (yJ (fJ 4 wI (yJ (vJ 3) (yJ (bJ (yJ (vJ 5) (yJ (vJ 6) wJ)) xE) (yJ (vJ 1) (yJ (vJ 2) wJ))))) wJ)))) xE))) (JJ))
def zGF:AF:=(CJ (dJ ixF (bJ (yJ (kJ (.int 1)) (yJ (kJ (.int 2)) (yJ (kJ (.int 1)) (yJ (kJ (.int 3)) (yJ (kJ (.int 1)) wJ))))) jP) (fJ 2 yE (yJ (vJ 3) (yJ (kJ (.int 5)) wJ)))) 7)
def zGG:AF:=(CJ (bJ (yJ (pJ (bJ (yJ (vJ 7) wJ) zMK) (gNm 0) (zJR) (cG) 1 [1,3,5]) wJ) zAM) 8)
def zGH:AF:=(AJ (bJ (yJ (kJ (.str [116,105,101])) (yJ (vJ 5) (yJ (vJ 8) (yJ (vJ 6) (yJ (bJ (yJ (pJ (bJ (yJ (vJ 7) wJ) zMK) (gNm 0) (zJS) (cH) 1 [1,3,6]) wJ) zAM) wJ))))) xE))
def zFB:AF:=zN (zGB) (zN (zGC) (zN (zGD) (zN (zGE) (zN (bW) (zN (bX) (zN (zGF) (zN (zGG) ((zGH)))))))))
def kO(ds:List MV)(S:Sto):R Er:=yK (zFB (zS zBO ds) S)
def zDZ:AF:=(CJ (bJ (yJ (bJ (vJ 0) (zJV XNS "TooGreat")) (yJ (bJ (vJ 0) (zJV XNS "NoTable")) (yJ (bJ (vJ 0) (zJV XNS "NoRule")) (yJ (bJ (vJ 0) (zJV XNS "NoRow")) wJ)))) jP) 1)
def zEA:AF:=(CJ (dJ xN (vJ 1) (bJ (yJ (bJ (vJ 0) (zJV XNS "Twice")) (yJ (bJ (vJ 0) (zJV XNS "NoText")) (yJ (bJ (vJ 0) (zJV XNS "NoPlace")) (yJ (bJ (vJ 0) (zJV XNS "NotPlain")) wJ)))) jP)) 1)
def zEB:AF:=(CJ (dJ xN (vJ 1) (bJ (yJ (bJ (vJ 0) (zJV XNS "NoQuestion")) (yJ (bJ (vJ 0) (zJV XNS "Double")) (yJ (bJ (vJ 0) (zJV XNS "TooWide")) (yJ (bJ (vJ 0) (zJV XNS "Ring")) wJ)))) jP)) 1)
def zLA:AF:=(AJ (vJ 1))
def zIX:AF:=zN (zDZ) (zN (zEA) (zN (zEB) ((zLA))))
def nP(ds:List MV)(S:Sto):R Er:=yK (zIX (zS zOV ds) S)
noncomputable def cS:Rho->Sto->R Fl:=(CJ (dJ xN (fJ 1 nP (yJ (vJ 5) wJ)) (bJ (yJ (bJ (vJ 5) (yKV XNS)) wJ) jP)) 3)
noncomputable def cT:Rho->Sto->R Fl:=(iJ (bJ (dJ gtF (vJ 1) (kJ (.int 0))) asB) ((CJ (bJ (vJ 5) (yLG XNS "place")) 4)) (JJ))
noncomputable def zAU:Rho->Sto->R Fl:=zN (cS) ((cT))
def zEC:Rho->Sto->R Bool:=uJ
def cU:AE:=(dJ eqF (vJ 0) (vJ 1))
def zAV:AF:=(CJ (bJ wJ jP) 3)
def zHO:AF:=(CJ (kJ .non) 4)
def zAW:AF:=(HJ XNS 5 zAU 3 dO (yJ (dJ ixF (vJ 0) (kJ (.int 0))) (yJ (dJ ixF (vJ 0) (kJ (.int 1))) (yJ (dJ ixF (vJ 0) (kJ (.int 2))) wJ))))
def zAX:AF:=(iJ (bJ (dJ neF (vJ 3) (dJ xN (pJ (bJ (yJ (kJ (.int 12)) wJ) zMK) (gNm 0) (zEC) (cU) 1 [1]) (bJ (yJ (kJ (.bl true)) wJ) jP))) asB) ((AJ (kJ (.bl false)))) (JJ))
def zAY:AF:=(AJ (oJ (dJ eqF (vJ 1) (kJ (.int 0))) (aJ (nJ (bJ (yJ (vJ 4) (yJ (kJ (.typ "bool")) wJ)) jI)) (dJ eqF (vJ 4) (vJ 2)))))
def zED:AF:=zN (zAV) (zN (zHO) (zN (zAW) (zN (zAX) ((zAY)))))
def gU(ds:List MV)(S:Sto):R Er:=yK (zED (zS zDH ds) S)
def cV:AF:=(CJ (dJ gP (vJ 0) (dJ zFI (kJ (.int 10)) (kJ (.int 30)))) 2)
def cW:AF:=(AJ (dJ ixF (bJ (yJ (vJ 1) (yJ (kJ (.int (-1))) (yJ (kJ (.bl true)) (yJ (kJ .non) (yJ (kJ (.str [48])) (yJ (dJ xN (vJ 1) (vJ 2)) (yJ (dJ yCN (kJ (.int (-1))) (vJ 2)) (yJ (bJ (yJ (kJ (.int 0)) wJ) xE) wJ)))))))) jP) (dJ gP (dJ zBK (vJ 0) (kJ (.int 3))) (kJ (.int 8)))))
def zHP:AF:=zN (cV) ((cW))
def yY(ds:List MV)(S:Sto):R Er:=yK (zHP (zS zHI ds) S)
def cX:AF:=(CJ (dJ gP (vJ 1) (kJ (.int 7))) 3)
def cY:AF:=(iJ (bJ (dJ eqF (vJ 3) (kJ (.int 0))) asB) ((AJ (bJ (yJ (kJ (.str [99,101,108,108])) (yJ (fJ 2 yY (yJ (dJ zBK (vJ 1) (kJ (.int 7))) (yJ (kJ (.int 2)) wJ))) (yJ (kJ (.int 0)) wJ))) xE))) (JJ))
def cZ:AF:=(iJ (bJ (dJ eqF (vJ 3) (kJ (.int 1))) asB) ((AJ (bJ (yJ (kJ (.str [99,101,108,108])) (yJ (kJ (.int 0)) (yJ (fJ 2 yY (yJ (dJ zBK (vJ 1) (kJ (.int 7))) (yJ (vJ 2) wJ))) wJ))) xE))) (JJ))
def dA:AF:=(iJ (bJ (dJ eqF (vJ 3) (kJ (.int 2))) asB) (zN (CJ (bJ (yJ (dJ zFI (kJ (.int 10)) (kJ (.int 30))) (yJ (kJ (.str [65,98,99])) (yJ (kJ (.str [])) (yJ (kJ (.bl true)) (yJ (kJ .non) (yJ (bJ (yJ (kJ (.int 1)) wJ) xE) (yJ (kJ (.str [97,98,99,100,101,102,103,104,105])) (yJ (dJ yCN (kJ (.int 0)) (dJ zFI (kJ (.int 10)) (kJ (.int 30)))) wJ)))))))) jP) 4) ((AJ (bJ (yJ (kJ (.str [105,115])) (yJ (dJ ixF (vJ 4) (dJ gP (dJ zBK (vJ 1) (kJ (.int 7))) (kJ (.int 8)))) wJ)) xE)))) (JJ))
def dB:AF:=(iJ (bJ (dJ eqF (vJ 3) (kJ (.int 3))) asB) (zN (CJ (bJ (yJ (bJ (yJ (kJ (.str [105,115])) wJ) xE) (yJ (bJ (yJ (kJ (.str [105,115])) (yJ (kJ (.int 1)) (yJ (kJ (.int 1)) wJ))) xE) (yJ (bJ (yJ (kJ (.str [99,101,108,108,115])) (yJ (kJ (.int 0)) (yJ (kJ (.int 0)) wJ))) xE) (yJ (bJ wJ xE) (yJ (bJ (yJ (kJ (.str [99,101,108,108])) (yJ (kJ (.int 0)) wJ)) xE) (yJ (kJ (.str [105,115])) (yJ (kJ (.int 7)) wJ))))))) jP) 5) ((AJ (dJ ixF (vJ 5) (dJ gP (dJ zBK (vJ 1) (kJ (.int 7))) (kJ (.int 7))))))) (JJ))
def dC:AF:=(iJ (bJ (dJ eqF (vJ 3) (kJ (.int 4))) asB) ((AJ (tJ kY (vJ 0) mJ (bJ (kJ (.int (-1))) asI)))) (JJ))
def dE:AF:=(iJ (bJ (dJ eqF (vJ 3) (kJ (.int 5))) asB) ((AJ (dJ xN (vJ 0) (bJ (yJ (kJ (.int 0)) wJ) xE)))) (JJ))
def dF:AF:=(AJ (bJ (yJ (kJ (.str [99,101,108,108])) (yJ (kJ (.int 1)) (yJ (kJ (.int 0)) wJ))) xE))
def zHQ:AF:=zN (cX) (zN (cY) (zN (cZ) (zN (dA) (zN (dB) (zN (dC) (zN (dE) ((dF))))))))
def jL(ds:List MV)(S:Sto):R Er:=yK (zHQ (zS zHJ ds) S)
def bF:AF:=(CJ (dJ gP (vJ 1) (kJ (.int 6))) 3)
def bG:AF:=(EJ (dJ ixF (vJ 0) (kJ (.int 0))) (gTp 3 (yT (gNm 4) (yT (gNm 5) (yT (gNm 6) dU)))))
def bH:AF:=(CJ (dJ zBK (vJ 1) (kJ (.int 6))) 1)
def bI:AF:=(iJ (bJ (dJ eqF (vJ 3) (kJ (.int 0))) asB) ((AJ (dJ ixF (bJ (yJ (bJ wJ xE) (yJ (dJ zWP (vJ 0) (kJ (.int 4))) (yJ (dJ ixF (vJ 0) (kJ (.int 0))) (yJ (kJ .non) wJ)))) jP) (dJ gP (vJ 1) (kJ (.int 4)))))) (JJ))
def bK:AF:=(iJ (bJ (dJ eqF (vJ 3) (kJ (.int 1))) asB) ((AJ (dJ xN (bJ (yJ (bJ (yJ (vJ 4) (yJ (dJ ixF (bJ (yJ (kJ (.str [83,97,109,101])) (yJ (kJ (.str [])) (yJ (kJ (.str [109,111,114,101])) (yJ (kJ .non) (yJ (kJ (.int 7)) wJ))))) jP) (dJ gP (vJ 1) (kJ (.int 5)))) (yJ (vJ 6) wJ))) xE) wJ) xE) (tJ kY (vJ 0) (bJ (kJ (.int 1)) asI) mJ)))) (JJ))
def bL:AF:=(iJ (bJ (dJ eqF (vJ 3) (kJ (.int 2))) asB) ((AJ (dJ xN (bJ (yJ (bJ (yJ (fJ 3 jL (yJ (vJ 4) (yJ (vJ 1) (yJ (vJ 2) wJ)))) (yJ (vJ 5) (yJ (vJ 6) wJ))) xE) wJ) xE) (tJ kY (vJ 0) (bJ (kJ (.int 1)) asI) mJ)))) (JJ))
def bM:AF:=(iJ (bJ (dJ eqF (vJ 3) (kJ (.int 3))) asB) ((AJ (dJ xN (tJ kY (vJ 0) (bJ (kJ (.int 1)) asI) mJ) (bJ (yJ (bJ (yJ (vJ 4) (yJ (vJ 5) (yJ (fJ 3 jL (yJ (vJ 6) (yJ (vJ 1) (yJ (vJ 2) wJ)))) wJ))) xE) wJ) xE)))) (JJ))
def bN:AF:=(iJ (bJ (dJ eqF (vJ 3) (kJ (.int 4))) asB) ((AJ (dJ xN (vJ 0) (bJ (yJ (bJ (yJ (vJ 4) (yJ (vJ 5) wJ)) xE) wJ) xE)))) (JJ))
def bO:AF:=(AJ (dJ xN (vJ 0) (bJ (yJ (bJ (yJ (vJ 4) (yJ (vJ 5) (yJ (vJ 6) (yJ (vJ 6) wJ)))) xE) wJ) xE)))
def zFC:AF:=zN (bF) (zN (bG) (zN (bH) (zN (bI) (zN (bK) (zN (bL) (zN (bM) (zN (bN) ((bO)))))))))
def kP(ds:List MV)(S:Sto):R Er:=yK (zFC (zS zEZ ds) S)
def zGI:AF:=(CJ (fJ 2 xQ (yJ (dJ zBK (vJ 1) (kJ (.int 3))) (yJ (kJ (.int 2147483587)) wJ))) 3)
def zGJ:AF:=(iJ (bJ (dJ eqF (dJ gP (vJ 1) (kJ (.int 3))) (kJ (.int 0))) asB) ((AJ (vJ 0))) (JJ))
def zGK:AF:=(CJ (dJ gP (vJ 3) (kJ (.int 8))) 4)
def zGL:AF:=(CJ (dJ zBK (vJ 3) (kJ (.int 8))) 3)
def zGM:AF:=(iJ (bJ (dJ eqF (vJ 4) (kJ (.int 0))) asB) ((AJ (dJ xN (bJ (yJ (dJ ixF (bJ (yJ (kJ (.str [110,101,118,101,114,115])) (yJ (kJ (.str [])) (yJ (kJ (.str [84,105,101])) (yJ (kJ (.str [97,112,97,114,116,115])) (yJ (kJ (.str [110,101,118,101,114])) (yJ (kJ (.str [116,105,101])) wJ)))))) jP) (dJ gP (vJ 3) (kJ (.int 6)))) wJ) xE) (tJ kY (vJ 0) (bJ (kJ (.int 1)) asI) mJ)))) (JJ))
def zGN:AF:=(iJ (bJ (dJ eqF (vJ 4) (kJ (.int 1))) asB) ((AJ (dJ xN (vJ 0) (bJ (yJ (kJ (.int 0)) wJ) xE)))) (JJ))
def zGO:AF:=(iJ (bJ (dJ eqF (vJ 4) (kJ (.int 2))) asB) ((AJ (tJ kY (vJ 0) mJ (bJ (kJ (.int (-1))) asI)))) (JJ))
def zGP:AF:=(iJ (bJ (dJ eqF (vJ 4) (kJ (.int 3))) asB) ((AJ (dJ xN (bJ (yJ (dJ ixF (vJ 0) (kJ (.int 0))) (yJ (fJ 2 yY (yJ (vJ 3) (yJ (bJ (yJ (vJ 2) wJ) xB) wJ))) wJ)) xE) (tJ kY (vJ 0) (bJ (kJ (.int 2)) asI) mJ)))) (JJ))
def gH:AF:=(iJ (bJ (dJ neF (dJ ixF (vJ 0) (kJ (.int 0))) (kJ (.str [116,105,101]))) asB) ((AJ (dJ xN (tJ kY (vJ 0) mJ (bJ (kJ (.int (-1))) asI)) (bJ (yJ (fJ 3 kP (yJ (dJ ixF (vJ 0) (kJ (.int (-1)))) (yJ (vJ 3) (yJ (dJ ixF (dJ ixF (vJ 2) (dJ ixF (vJ 0) (kJ (.int 1)))) (kJ (.int 0))) wJ)))) wJ) xE)))) (JJ))
def nQ:AF:=(iJ (bJ (dJ eqF (vJ 4) (kJ (.int 4))) asB) ((AJ (dJ xN (tJ kY (vJ 0) mJ (bJ (kJ (.int 3)) asI)) (bJ (yJ (fJ 2 yY (yJ (vJ 3) (yJ (bJ (yJ (vJ 2) wJ) xB) wJ))) (yJ (dJ ixF (vJ 0) (kJ (.int 4))) wJ)) xE)))) (JJ))
def nR:AF:=(iJ (bJ (dJ eqF (vJ 4) (kJ (.int 5))) asB) ((AJ (dJ xN (tJ kY (vJ 0) mJ (bJ (kJ (.int 4)) asI)) (bJ (yJ (dJ xN (dJ ixF (vJ 0) (kJ (.int 4))) (bJ (yJ (kJ (.int 0)) wJ) xE)) wJ) xE)))) (JJ))
def nS:AF:=(iJ (bJ (dJ eqF (vJ 4) (kJ (.int 6))) asB) ((AJ (dJ xN (tJ kY (vJ 0) mJ (bJ (kJ (.int 2)) asI)) (bJ (yJ (dJ zWP (bJ (yJ (kJ (.int 0)) wJ) xE) (dJ gP (vJ 3) (kJ (.int 5)))) (yJ (dJ ixF (vJ 0) (kJ (.int 3))) (yJ (dJ zWP (bJ (yJ (kJ (.int 0)) wJ) xE) (dJ gP (vJ 3) (kJ (.int 5)))) wJ))) xE)))) (JJ))
def nU:AF:=(CJ (dJ xN (bJ (yJ (fJ 2 yY (yJ (vJ 3) (yJ (dJ ixF (dJ ixF (vJ 2) (dJ ixF (vJ 0) (kJ (.int 1)))) (kJ (.int 0))) wJ))) wJ) xE) (tJ kY (dJ ixF (vJ 0) (kJ (.int 2))) (bJ (kJ (.int 1)) asI) mJ)) 5)
def nV:AF:=(AJ (dJ xN (dJ xN (tJ kY (vJ 0) mJ (bJ (kJ (.int 2)) asI)) (bJ (yJ (vJ 5) wJ) xE)) (tJ kY (vJ 0) (bJ (kJ (.int 3)) asI) mJ)))
def zRG:AF:=zN (zGI) (zN (zGJ) (zN (zGK) (zN (zGL) (zN (zGM) (zN (zGN) (zN (zGO) (zN (zGP) (zN (gH) (zN (nQ) (zN (nR) (zN (nS) (zN (nU) ((nV))))))))))))))
def jM(ds:List MV)(S:Sto):R Er:=yK (zRG (zS zRC ds) S)
def zJT:AF:=(AJ (aJ (bJ (yJ (vJ 0) (yJ (kJ (.typ "int")) wJ)) jI) (aJ (nJ (bJ (yJ (vJ 0) (yJ (kJ (.typ "bool")) wJ)) jI)) (jJ leF ltF (kJ (.int 0)) (vJ 0) (vJ 1)))))
def zGQ:AF:=(zJT)
def xO(ds:List MV)(S:Sto):R Er:=yK (zGQ (zS kZ ds) S)
def wK:Rho->Sto->R Bool:=(bJ (dJ (inF false) (vJ 0) (kJ (.str [97,98,99,100,101,102,103,104,105,106,107,108,109,110,111,112,113,114,115,116,117,118,119,120,121,122]))) asB)
def wL:AE:=(vJ 0)
def kQ:AF:=(iJ (sJ (bJ (bJ (yJ (vJ 0) (yJ (kJ (.typ "bool")) wJ)) jI) gK) (qJ (bJ (bJ (yJ (vJ 0) (yJ (bJ (yJ (kJ (.typ "int")) (yJ (kJ (.typ "str")) wJ)) xE) wJ)) yLB) gK))) ((AJ (kJ (.bl false)))) (JJ))
def kR:AF:=(iJ (bJ (bJ (yJ (vJ 0) (yJ (kJ (.typ "int")) wJ)) jI) gK) ((AJ (dJ ltF (bJ (yJ (vJ 0) wJ) yHL) (dJ zFI (kJ (.int 10)) (kJ (.int 30)))))) (JJ))
def zBV:AF:=(CJ (pJ (bJ (vJ 0) itS) (gNm 0) (wK) (wL) 1 []) 1)
def gV:AF:=(AJ (aJ (jJ ltF ltF (kJ (.int 0)) (bJ (yJ (vJ 0) wJ) xB) (kJ (.int 9))) (dJ eqF (bJ (yJ (vJ 1) wJ) xB) (bJ (yJ (vJ 0) wJ) xB))))
def xG:AF:=zN (kQ) (zN (kR) (zN (zBV) ((gV))))
def kC(ds:List MV)(S:Sto):R Er:=yK (xG (zS cP ds) S)
def xT:AF:=(iJ (sJ (qJ (bJ (bJ (yJ (vJ 2) (yJ (kJ (.typ "tuple")) wJ)) jI) gK)) (bJ (dJ eqF (vJ 2) (bJ wJ xE)) asB)) ((AJ (kJ (.bl false)))) (JJ))
def wF:AF:=(iJ (bJ (dJ eqF (dJ ixF (vJ 2) (kJ (.int 0))) (kJ (.str [105,115]))) asB) ((AJ (aJ (dJ eqF (bJ (yJ (vJ 2) wJ) xB) (kJ (.int 2))) (fJ 1 kC (yJ (dJ ixF (vJ 2) (kJ (.int 1))) wJ))))) (JJ))
def wG:AF:=(iJ (sJ (bJ (dJ neF (dJ ixF (vJ 2) (kJ (.int 0))) (kJ (.str [99,101,108,108]))) asB) (bJ (dJ neF (bJ (yJ (vJ 2) wJ) xB) (kJ (.int 3))) asB)) ((AJ (kJ (.bl false)))) (JJ))
def bP:AF:=(iJ (qJ (bJ (fJ 2 xO (yJ (dJ ixF (vJ 2) (kJ (.int 1))) (yJ (bJ (yJ (vJ 1) wJ) xB) wJ))) gK)) ((AJ (kJ (.bl false)))) (JJ))
def bQ:AF:=(AJ (fJ 2 xO (yJ (dJ ixF (vJ 2) (kJ (.int 2))) (yJ (dJ ixF (dJ ixF (vJ 0) (dJ ixF (vJ 1) (dJ ixF (vJ 2) (kJ (.int 1))))) (kJ (.int 0))) wJ))))
def kS:AF:=zN (xT) (zN (wF) (zN (wG) (zN (bP) ((bQ)))))
def kT(ds:List MV)(S:Sto):R Er:=yK (kS (zS kL ds) S)
noncomputable def nW:Rho->Sto->R Fl:=(iJ (qJ (bJ (fJ 3 kT (yJ (vJ 0) (yJ (vJ 1) (yJ (vJ 4) wJ)))) gK)) ((AJ (kJ (.bl false)))) (JJ))
noncomputable def kU:Rho->Sto->R Fl:=(nW)
noncomputable def wM:Rho->Sto->R Fl:=(iJ (sJ (qJ (bJ (bJ (yJ (vJ 3) (yJ (kJ (.typ "tuple")) wJ)) jI) gK)) (bJ (dJ neF (bJ (yJ (vJ 3) wJ) xB) (kJ (.int 3))) asB)) ((AJ (kJ (.bl false)))) (JJ))
noncomputable def jS:Rho->Sto->R Fl:=(iJ (bJ (dJ (inF true) (dJ ixF (vJ 3) (kJ (.int 1))) (bJ (yJ (kJ (.str [115,97,109,101])) (yJ (kJ (.str [117,110,108,105,107,101])) (yJ (kJ (.str [108,101,115,115])) wJ))) jP)) asB) ((AJ (kJ (.bl false)))) (JJ))
noncomputable def jT:Rho->Sto->R Fl:=(FJ (bJ (bJ (yJ (dJ ixF (vJ 3) (kJ (.int 0))) (yJ (dJ ixF (vJ 3) (kJ (.int 2))) wJ)) xE) itT) (gNm 4) (kU))
noncomputable def yQ:Rho->Sto->R Fl:=zN (wM) (zN (jS) ((jT)))
def xZ:AF:=(iJ (sJ (qJ (bJ (bJ (yJ (vJ 2) (yJ (kJ (.typ "tuple")) wJ)) jI) gK)) (bJ (dJ (inF true) (bJ (yJ (vJ 2) wJ) xB) (bJ (yJ (kJ (.int 1)) (yJ (kJ (.int 2)) (yJ (kJ (.int 3)) wJ))) xE)) asB)) ((AJ (kJ (.bl false)))) (JJ))
def zBW:AF:=(FJ (bJ (vJ 2) itT) (gNm 3) (yQ))
def zLB:AF:=(AJ (kJ (.bl true)))
def dG:AF:=zN (xZ) (zN (zBW) ((zLB)))
def jU(ds:List MV)(S:Sto):R Er:=yK (dG (zS zDI ds) S)
def jB:Rho->Sto->R Bool:=(qJ (bJ (fJ 2 xO (yJ (vJ 0) (yJ (dJ ixF (dJ ixF (vJ 1) (vJ 2)) (kJ (.int 0))) wJ))) gK))
def bY:AE:=(vJ 0)
def jV:AF:=(iJ (sJ (qJ (bJ (fJ 2 xO (yJ (vJ 1) (yJ (bJ (yJ (vJ 0) wJ) xB) wJ))) gK)) (qJ (bJ (bJ (yJ (vJ 2) (yJ (kJ (.typ "tuple")) wJ)) jI) gK))) ((AJ (kJ (.bl false)))) (JJ))
def jW:AF:=(iJ (bJ (dJ (inF true) (bJ (yJ (vJ 2) wJ) xB) (bJ (yJ (kJ (.int 1)) (yJ (kJ (.int 2)) (yJ (kJ (.int 3)) wJ))) xE)) asB) ((AJ (kJ (.bl false)))) (JJ))
def jX:AF:=(AJ (dJ eqF (pJ (bJ (vJ 2) itT) (gNm 0) (jB) (bY) 1 [0,1]) (bJ wJ jP)))
def gW:AF:=zN (jV) (zN (jW) ((jX)))
def wA(ds:List MV)(S:Sto):R Er:=yK (gW (zS xI ds) S)
noncomputable def zHR:Rho->Sto->R Fl:=(iJ (qJ (bJ (fJ 2 xO (yJ (vJ 3) (yJ (bJ (yJ (vJ 0) wJ) xB) wJ))) gK)) ((AJ (kJ (.bl false)))) (JJ))
noncomputable def gX:Rho->Sto->R Fl:=(zHR)
def zEE:AF:=(CJ (eJ yFK zWO (lJ [(.str [110,101,118,101,114],.int 3),(.str [97,112,97,114,116],.int 4),(.str [116,105,101],.int 5)]) (yJ (dJ ixF (vJ 1) (kJ (.int 0))) (yJ (kJ (.int 0)) wJ))) 2)
def zEF:AF:=(iJ (bJ (dJ neF (bJ (yJ (vJ 1) wJ) xB) (vJ 2)) asB) ((AJ (kJ (.bl false)))) (JJ))
def gY:AF:=(iJ (bJ (dJ eqF (dJ ixF (vJ 1) (kJ (.int 0))) (kJ (.str [116,105,101]))) asB) (zN (iJ (qJ (bJ (fJ 3 wA (yJ (vJ 0) (yJ (dJ ixF (vJ 1) (kJ (.int 1))) (yJ (dJ ixF (vJ 1) (kJ (.int 2))) wJ)))) gK)) ((AJ (kJ (.bl false)))) (JJ)) ((AJ (aJ (fJ 3 wA (yJ (vJ 0) (yJ (dJ ixF (vJ 1) (kJ (.int 3))) (yJ (dJ ixF (vJ 1) (kJ (.int 4))) wJ)))) (dJ eqF (bJ (yJ (dJ ixF (vJ 1) (kJ (.int 2))) wJ) xB) (bJ (yJ (dJ ixF (vJ 1) (kJ (.int 4))) wJ) xB)))))) (JJ))
def zEG:AF:=(FJ (bJ (tJ kY (vJ 1) (bJ (kJ (.int 1)) asI) (bJ (kJ (.int (-1))) asI)) itT) (gNm 3) (gX))
def gZ:AF:=(AJ (fJ 3 jU (yJ (vJ 0) (yJ (tJ kY (vJ 1) (bJ (kJ (.int 1)) asI) (bJ (kJ (.int (-1))) asI)) (yJ (dJ ixF (vJ 1) (kJ (.int (-1)))) wJ)))))
def zDA:AF:=zN (zEE) (zN (zEF) (zN (gY) (zN (zEG) ((gZ)))))
def nX(ds:List MV)(S:Sto):R Er:=yK (zDA (zS zOW ds) S)
noncomputable def zWQ:Rho->Sto->R Fl:=(BJ (eJ zOP yCP (vJ 3) (yJ (fJ 3 jM (yJ (fJ 3 kO (yJ (dJ zBK (vJ 4) (kJ (.int 3))) (yJ (vJ 2) (yJ (vJ 1) wJ)))) (yJ (dJ gP (vJ 4) (dJ zFI (kJ (.int 10)) (kJ (.int 12)))) (yJ (vJ 2) wJ)))) wJ)))
noncomputable def zRW:Rho->Sto->R Fl:=(zWQ)
def zQL:Rho->Sto->R Bool:=(qJ (bJ (fJ 2 nX (yJ (vJ 1) (yJ (dJ ixF (vJ 2) (vJ 0)) wJ))) gK))
def zWR:AE:=(vJ 0)
def zXZ:AF:=(CJ (fJ 1 dQ (yJ (fJ 2 xD (yJ (vJ 0) (yJ (kJ (.int 0)) wJ))) wJ)) 1)
def zYA:AF:=(CJ (fJ 2 gG (yJ (fJ 2 xD (yJ (vJ 0) (yJ (kJ (.int 1)) wJ))) (yJ (kJ (.int 4)) wJ))) 2)
def zYB:AF:=(CJ (bJ wJ jP) 3)
def zYC:AF:=(FJ (bJ (dJ xN (tJ kY (vJ 0) (bJ (kJ (.int 2)) asI) (bJ (kJ (.int 8)) asI)) (tJ kY (bJ (yJ (dJ zBK (fJ 2 xD (yJ (vJ 0) (yJ (kJ (.int 0)) wJ))) (kJ (.int 7))) wJ) jP) (bJ (bJ (yJ (tJ kY (vJ 0) (bJ (kJ (.int 2)) asI) (bJ (kJ (.int 8)) asI)) wJ) xB) asI) mJ)) itL) (gNm 4) (zRW))
def zRX:AF:=(CJ (pJ (bJ (yJ (bJ (yJ (vJ 3) wJ) xB) wJ) zMK) (gNm 0) (zQL) (zWR) 1 [2,3]) 5)
def zRY:AF:=(CJ (bJ (yJ (bJ (yJ (vJ 2) wJ) zWI) (yJ (bJ (yJ (vJ 3) wJ) zWI) (yJ (bJ wJ jP) wJ))) jP) 6)
def zMB:AF:=(iJ (bJ (dJ neF (vJ 5) (bJ wJ jP)) asB) (zN (CJ (fJ 3 gU (yJ (vJ 6) (yJ (kJ (.int 2)) (yJ (dJ ixF (vJ 5) (kJ (.int 0))) wJ)))) 7) ((AJ (aJ (vJ 7) (aJ (fJ 3 gU (yJ (vJ 6) (yJ (kJ (.int 2)) (yJ (dJ ixF (vJ 5) (kJ (.int 0))) wJ)))) (dJ eqF (dJ ixF (vJ 6) (kJ (.int 1))) (vJ 3))))))) (JJ))
def zRZ:AF:=(AJ (fJ 2 (yA 8) (yJ (fJ 3 dO (yJ (dJ ixF (vJ 6) (kJ (.int 0))) (yJ (dJ ixF (vJ 6) (kJ (.int 1))) (yJ (dJ ixF (vJ 6) (kJ (.int 2))) wJ)))) (yJ (bJ (yJ (vJ 2) (yJ (bJ (yJ (vJ 3) wJ) zAM) (yJ (bJ wJ xE) wJ))) xE) wJ))))
def yLR:AF:=zN (zXZ) (zN (zYA) (zN (zYB) (zN (zYC) (zN (zRX) (zN (zRY) (zN (zMB) ((zRZ))))))))
def yAI(ds:List MV)(S:Sto):R Er:=yK (yLR (zS yLQ ds) S)
end
def abc:List Nat:=[97,98,99,100,101,102,103,104,105,106,107,108,109,110,111,112,113,114,115,116,117,118,119,120,121,122]
theorem yHZ(c n:Int)(x:List Nat)(s:Option MV)(S:Sto)(h:x.length<=1000): ∃k,(97<=k/\k<=122)/\zBI [some (.int c),some (.str abc),some (.int n),some (.str x),s] S=
  .ok (.next [some (.int c),some (.str abc),some (.int (n / 26)),some (.str (x++[k])),s]) S:=by
 obtain⟨k,hk⟩:=gM (xs:=abc) (i:=n % 26) (eN _ (by decide)) (by have:=eL n (show(0:Int)<26 by decide);show n % 26<26;exact this)
 refine⟨k,gN (P:=λk=>97<=k/\k<=122) (by decide) hk,?_⟩
 have h1:zCH [some (.int c),some (.str abc),some (.int n),some (.str x),s] S=.ok (.next [some (.int c),some (.str abc),some (.int n),some (.str (x++[k])),s]) S:=by
  unfold zCH
  simp? [mod_lit (show(0:Int)<26 by decide),ix_str (show abc.length<=sizeLine by rw [sizeLine_eq];decide) hk]
  rw [add_str (fits (by rw [lS];omega))]
  rfl
 have h2:zCI [some (.int c),some (.str abc),some (.int n),some (.str (x++[k])),s] S=.ok (.next [some (.int c),some (.str abc),some (.int (n / 26)),some (.str (x++[k])),s]) S:=by
  unfold zCI
  simp? [xW (b:=26) (by decide) (by decide)]
 unfold zBI
 rw [zE h1,h2]
theorem zWS(c:Int)(S:Sto): ∀(ds:List MV)(n:Int)(x:List Nat)(s:Option MV),x.length+ds.length<=1000->(∀c∈x,97<=c/\c<=122)-> ∃n' x' s',bS (gNm 4) zBI [] ds [some (.int c),some (.str abc),some (.int n),some (.str x),s] S=
  .ok (.next [some (.int c),some (.str abc),some (.int n'),some (.str x'),s']) S/\x'.length=x.length+ds.length/\ ∀c∈x',97<=c/\c<=122
 |[],n,x,s,_,hx=>⟨n,x,s,rfl,rfl,hx⟩
 |d::ds,n,x,s,h,hx=>by
  rw [lC0]at h
  obtain⟨k,hl,hk⟩:=yHZ c n x (some d) S (by omega)
  obtain⟨n',x',s',h1,h2,h3⟩:=zWS c S ds (n / 26) (x++[k]) (some d) (by rw [lA,lS];omega) (by
   intro c hc
   rw [mem_append,mS]at hc
   rcases hc with hc|rfl
   ·exact hx c hc
   ·exact hl)
  refine⟨n',x',s',?_,by rw [h2,lA,lS,lC0];omega,h3⟩
  rw [gD rfl hk (gC S)]
  exact h1
theorem yPS(c:Int)(S:Sto): ∃x,dP [.int c] S=.ok (.val (.str x)) S/\Nm x:=by
 have hm0:0<=c % 8:=eN _ (by decide)
 have hm1:c % 8<8:=eL _ (by decide)
 have hn:((List.range (1+c % 8).toNat).map λk=>MV.int (k:Nat)).length=(1+c % 8).toNat:=by rw [lM0,length_range]
 obtain⟨n',x',s',h1,h2,h3⟩:=zWS c S ((List.range (1+c % 8).toNat).map λk=>MV.int (k:Nat)) (c / 8) [] none (by rw [hn];simp only [length_nil];omega) (by simp)
 rw [hn,length_nil]at h2
 refine⟨x',?_,by omega,by omega,h3⟩
 have e1:zMN [some (.int c),none,none,none,none] S=.ok (.next [some (.int c),some (.str abc),none,none,none]) S:=rfl
 have e2:zFN [some (.int c),some (.str abc),none,none,none] S=.ok (.next [some (.int c),some (.str abc),some (.int (c / 8)),none,none]) S:=by
  unfold zFN
  simp? [xW (b:=8) (by decide) (by decide)]
 have e3:zMO [some (.int c),some (.str abc),some (.int (c / 8)),none,none] S=.ok (.next [some (.int c),some (.str abc),some (.int (c / 8)),some (.str []),none]) S:=rfl
 have e4:zFO [some (.int c),some (.str abc),some (.int (c / 8)),some (.str []),none] S=.ok (.next [some (.int c),some (.str abc),some (.int n'),some (.str x'),s']) S:=by
  unfold zFO
  simp? [mod_lit (show(0:Int)<8 by decide)]
  rw [zNA (by omega),bok]
  exact h1
 have hs:zS zKH [.int c]=[some (.int c),none,none,none,none]:=rfl
 unfold dP zRD
 rw [hs,zE e1,zE e2,zE e3,zE e4]
 rfl
theorem p1060(S:Sto):zFI (.val (.int 10)) (.val (.int 60)) S=.ok (.val (.int (10 ^ 60))) S:=rfl
theorem p600(S:Sto):zFI (.val (.int (10 ^ 60))) (.val (.int 10)) S=.ok (.val (.int ((10 ^ 60) ^ 10))) S:=by
 show(if yHH (10 ^ 60) 10 then R.ok (Er.val (.int ((10 ^ 60) ^ (10:Int).toNat))) S else .no)=_
 rw [iP (by decide+kernel)]
 rfl
theorem pp30(S:Sto):zFI (.val (.int 10)) (.val (.int 30)) S=.ok (.val (.int (10 ^ 30))) S:=rfl
theorem pp268(S:Sto):zFI (.val (.int 26)) (.val (.int 8)) S=.ok (.val (.int 208827064576)) S:=rfl
theorem yPT{b:Int}(h:yHG 0 b)(a:Int)(S:Sto):zBK (.val (.int a)) (.val (.int b)) S=.ok (.val (.int (a / b))) S:=iP (show yHG a b from h)
theorem yUL{a:Int}(h:0<=a/\a<4294967296)(S:Sto):zVC (.val (.int a)) (.val (.int a)) S=.ok (.val (.int (a * a))) S:=
 zRU ⟨Int.lt_of_lt_of_le (by decide) h.1,Int.lt_trans h.2 (by decide)⟩ a S
theorem zYD(c p:Int)(hp:0<p/\p<4294967296)(S:Sto): ∃n,zX 2 xQ [.val (.int c),.val (.int p)] S=.ok (.val (.int n)) S:=by
 have hs:zS zND [.int c,.int p]=[some (.int c),some (.int p),none]:=rfl
 have h600:(0:Int)<(10 ^ 60) ^ 10:=Int.pow_pos (Int.pow_pos (by decide))
 have e1:zIT [some (.int c),some (.int p),none] S=if decide (c % 2=0)=true then .ok (.ret (.val (.int (c / 2 % (10 ^ 60) ^ 10)))) S else .ok (.next [some (.int c),some (.int p),none]) S:=by
  unfold zIT
  simp? [mod_lit (show(0:Int)<2 by decide),xW (b:=2) (by decide) (by decide),p1060,p600,mod_lit h600]
 have fin: ∀n,xQ [.int c,.int p] S=.ok (.val (.int n)) S-> ∃n,zX 2 xQ [.val (.int c),.val (.int p)] S=.ok (.val (.int n)) S:=λn h=>⟨n,zHF rfl h (cO _ _) (λl=>by simp)⟩
 cases hb:decide (c % 2=0)with
 |true=>
  refine fin (c / 2 % (10 ^ 60) ^ 10) ?_
  rw [hb,iP rfl]at e1
  unfold xQ zNJ
  rw [hs,zU e1]
  rfl
 |false=>
  rw [hb,iN0 xF0]at e1
  have hn0:0<=(c % 2147483629+7) * 48271 % p:=eN _ (by omega)
  have hn1:(c % 2147483629+7) * 48271 % p<p:=eL _ hp.1
  have e2:zIU [some (.int c),some (.int p),none] S=.ok (.next [some (.int c),some (.int p),some (.int ((c % 2147483629+7) * 48271 % p))]) S:=by
   unfold zIU
   simp? [mod_lit (show(0:Int)<2147483629 by decide),zRU (show -(2 ^ 64)<(48271:Int)/\(48271:Int)<2 ^ 64 by decide),mod_lit hp.1]
  generalize (c % 2147483629+7) * 48271 % p=m at hn0 hn1 e2
  have e3:zIV [some (.int c),some (.int p),some (.int m)] S=.ok (.ret (.val (.int (m * m % 2147483579 * 1000003+m)))) S:=by
   unfold zIV
   simp? [yUL (a:=m) ⟨hn0,by omega⟩,mod_lit (show(0:Int)<2147483579 by decide),zRU (show -(2 ^ 64)<(1000003:Int)/\(1000003:Int)<2 ^ 64 by decide)]
  refine fin (m * m % 2147483579 * 1000003+m) ?_
  unfold xQ zNJ
  rw [hs,zE e1,zE e2,e3]
  rfl
theorem yPU: ∀k,k<26->strIdx abc [97+k]=some k:=by decide+kernel
abbrev P8(c n:Int)(a b x4 x5 x6 x7:Option MV):Rho:=[some (.int c),some (.int n),a,b,x4,x5,x6,x7]
section
variable{c n:Int}{a b x4 x5 x6 x7:Option MV}{S:Sto}{x:List Nat}{at' tn:Int}
theorem po4:zFR (P8 c n a b x4 x5 x6 x7) S=.ok (.next (P8 c (n / 1670616516608) a b x4 x5 x6 x7)) S:=by
 unfold zFR
 simp? [pp268,yKO (show -(2 ^ 64)<(8:Int)/\(8:Int)<2 ^ 64 by decide),yPT (show yHG 0 (8 * 208827064576) by decide+kernel)]
 rfl
theorem po5(hx:Nm x):zFS (P8 c n a (some (.str x)) x4 x5 x6 x7) S=.ok (.next (P8 c n a (some (.str x)) (some (.int (n % x.length))) x5 x6 x7)) S:=by
 have hl:xB [.val (.str x)] S=.ok (.val (.int x.length)) S:=iP (fits (by have:=hx.2.1;omega))
 have hp:(0:Int)<(x.length:Int):=by have:=hx.1;omega
 unfold zFS
 simp? [hl,mod_lit hp]
theorem po6(hx:Nm x)(h0:0<=at')(h1:at'<x.length): ∃tn,zFT (P8 c n (some (.str abc)) (some (.str x)) (some (.int at')) x5 x6 x7) S=.ok (.next (P8 c n (some (.str abc)) (some (.str x)) (some (.int at')) (some (.int tn)) x6 x7)) S:=by
 obtain⟨k,hk⟩:=gM (xs:=x) h0 h1
 obtain⟨k0,k1⟩:=gN (P:=λc=>97<=c/\c<=122) hx.2.2 hk
 have hi:=yPU (k - 97) (by omega)
 rw [show 97+(k - 97)=k by omega]at hi
 have hsi:yAC (.val (.str abc)) [.val (.str [k])] S=.ok (.val (.int ((k - 97:Nat):Int))) S:=by
  show(match strIdx abc [k]with |some i=>R.ok (Er.val (.int (i:Nat))) S|none=>.no)=_
  rw [hi]
 refine⟨((k - 97:Nat):Int)+1+n / 8 % 25,?_⟩
 unfold zFT
 simp? [ix_str (S:=S) (fits (show x.length<=1000000 by have:=hx.2.1;omega)) hk,show zTI (.val (.str abc)) S=true from rfl,hsi,xW (b:=8) (by decide) (by decide),mod_lit (show(0:Int)<25 by decide)]
theorem po7(hx:Nm x)(h0:0<=at')(h1:at'<x.length): ∃y,Nm y/\zFU (P8 c n (some (.str abc)) (some (.str x)) (some (.int at')) (some (.int tn)) x6 x7) S=.ok (.next (P8 c n (some (.str abc)) (some (.str x)) (some (.int at')) (some (.int tn)) (some (.str y)) x7)) S:=by
 obtain⟨k,hk⟩:=gM (xs:=abc) (i:=tn % 26) (eN _ (by decide)) (by have:=eL tn (show(0:Int)<26 by decide);show tn % 26<26;exact this)
 have hkl:=gN (P:=λk=>97<=k/\k<=122) (by decide) hk
 have c1:xF x none (some at')=x.take at'.toNat:=yPF _ _ h0
 have c2:xF x (some (at'+1)) none=x.drop (at'.toNat+1):=by
  unfold xF
  have z1:HT.sIx x.length 0 (some (at'+1))=at'.toNat+1:=by
   unfold HT.sIx
   simp only
   split<;>omega
  have z2:HT.sIx x.length x.length none=x.length:=rfl
  rw [z1,z2]
  rw [List.take_of_length_le (by rw [length_drop];omega)]
 have hlen:=hx.2.1
 refine⟨x.take at'.toNat++[k]++x.drop (at'.toNat+1),⟨?_,?_,?_⟩,?_⟩
 ·simp only [lA,lS];omega
 ·simp only [lA,lS,lT,length_drop];omega
 ·intro z hz
  rw [mem_append,mem_append,mS]at hz
  rcases hz with(hz|rfl)|hz
  ·exact hx.2.2 z (List.mem_of_mem_take hz)
  ·exact hkl
  ·exact hx.2.2 z (List.mem_of_mem_drop hz)
 ·unfold zFU
  simp? [cut_str (S:=S) (fits (show x.length<=1000000 by omega)),c1,mod_lit (show(0:Int)<26 by decide),ix_str (show abc.length<=sizeLine by rw [sizeLine_eq];decide) hk,c2]
  rw [add_str (x:=x.take at'.toNat) (y:=[k]) (fits (by rw [lS,lT];omega)),bok]
  simp? [cut_str (S:=S) (fits (show x.length<=1000000 by omega)),c2]
  rw [add_str (fits (by simp only [lA,lS,lT,length_drop];omega)),bok]
  rfl
theorem po8:zFV (P8 c n a b x4 x5 x6 x7) S=.ok (.next (P8 c (n / 200) a b x4 x5 x6 x7)) S:=by
 unfold zFV
 simp? [xW (b:=200) (by decide) (by decide)]
theorem po9: ∃g,(1<=g/\g<=10 ^ 30 - 3)/\zFW (P8 c n a b x4 x5 x6 x7) S=.ok (.next (P8 c n a b x4 x5 x6 (some (.int g)))) S:=by
 have h0:0<=n % 10 ^ 30:=eN _ (by decide)
 have h1:n % 10 ^ 30<10 ^ 30:=eL _ (by decide)
 have h2:0<=(n % 10 ^ 30 * 48271+11) ^ (4:Int).toNat % (10 ^ 30 - 3):=eN _ (by decide)
 have h3:(n % 10 ^ 30 * 48271+11) ^ (4:Int).toNat % (10 ^ 30 - 3)<10 ^ 30 - 3:=eL _ (by decide)
 have h4:yHH (n % 10 ^ 30 * 48271+11) 4:=by
  refine⟨by decide,?_⟩
  have hb:Builtin.Int.intBits (n % 10 ^ 30 * 48271+11)<=200:=by
   unfold Builtin.Int.intBits
   split
   ·omega
   ·rename_i hn
    have hn':(n % 10 ^ 30 * 48271+11).natAbs≠0:=by omega
    have:=(log2_lt hn').mpr (show(n % 10 ^ 30 * 48271+11).natAbs<2 ^ 199 by omega)
    omega
  omega
 refine⟨(n % 10 ^ 30 * 48271+11) ^ (4:Int).toNat % (10 ^ 30 - 3)+1,⟨by omega,by omega⟩,?_⟩
 unfold zFW
 simp? [pp30,mod_lit (show(0:Int)<10 ^ 30 by decide),zRU (show -(2 ^ 64)<(48271:Int)/\(48271:Int)<2 ^ 64 by decide),yOZ h4,mod_lit (show(0:Int)<10 ^ 30 - 3 by decide)]
theorem po10{g:Int}(hg:1<=g/\g<=10 ^ 30 - 3): ∃g',(1<=g'/\g'<=10 ^ 30 - 3)/\nK (P8 c n a b x4 x5 x6 (some (.int g))) S=.ok (.next (P8 c n a b x4 x5 x6 (some (.int g')))) S:=by
 have h2:0<=n / 2 % (10 ^ 30 - 3):=eN _ (by decide)
 have h3:n / 2 % (10 ^ 30 - 3)<10 ^ 30 - 3:=eL _ (by decide)
 have e:nK (P8 c n a b x4 x5 x6 (some (.int g))) S=if decide (n % 2=1)=true then .ok (.next (P8 c n a b x4 x5 x6 (some (.int (n / 2 % (10 ^ 30 - 3)+1))))) S else .ok (.next (P8 c n a b x4 x5 x6 (some (.int g)))) S:=by
  unfold nK
  simp? [mod_lit (show(0:Int)<2 by decide),xW (b:=2) (by decide) (by decide),pp30,mod_lit (show(0:Int)<10 ^ 30 - 3 by decide)]
 cases hb:decide (n % 2=1)with
 |true=>exact⟨n / 2 % (10 ^ 30 - 3)+1,⟨by omega,by omega⟩,by rw [e,hb,iP rfl]⟩
 |false=>exact⟨g,hg,by rw [e,hb,iN0 xF0]⟩
theorem lst7(a b c d e f g:MV)(S:Sto):jP [.val a,.val b,.val c,.val d,.val e,.val f,.val g] S=.ok (.new [a,b,c,d,e,f,g]) S:=zFJ (by simp)
theorem po11{g:Int}{y:List Nat}(hg:1<=g/\g<=10 ^ 30 - 3)(hx:Nm x)(hy:Nm y): ∃vs,vs.length=7/\(∀d∈vs,Vl d)/\zDT (P8 c n a (some (.str x)) x4 x5 (some (.str y)) (some (.int g))) S=.ok (.ret (.new vs)) S:=by
 have h0:0<=n / 64 % 5:=eN _ (by decide)
 have h1:n / 64 % 5<5:=eL _ (by decide)
 have h2:0<=n / 320 % 5:=eN _ (by decide)
 have h3:n / 320 % 5<5:=eL _ (by decide)
 refine⟨[.int (n / 64 % 5),.int g,.str x,.int (0 - g),.str y,.int (n / 320 % 5+7),.int (g+1)],rfl,?_,?_⟩
 ·intro d hd
  simp only [mC0,nM0,or_false]at hd
  rcases hd with rfl|rfl|rfl|rfl|rfl|rfl|rfl
  ·exact⟨by omega,by omega⟩
  ·exact⟨by omega,by omega⟩
  ·exact hx
  ·exact⟨by omega,by omega⟩
  ·exact hy
  ·exact⟨by omega,by omega⟩
  ·exact⟨by omega,by omega⟩
 ·unfold zDT
  simp? [xW (b:=64) (by decide) (by decide),mod_lit (show(0:Int)<5 by decide),xW (b:=320) (by decide) (by decide),lst7]
end
theorem yPV(c:Int)(S:Sto): ∃vs,vs.length=7/\(∀d∈vs,Vl d)/\zX 1 dQ [.val (.int c)] S=.ok (.new vs) S:=by
 obtain⟨n,hn⟩:=zYD c 2147483587 ⟨by decide,by decide⟩ S
 obtain⟨x,hx,nx⟩:=yPS n S
 have hc:zX 1 dP [.val (.int n)] S=.ok (.val (.str x)) S:=zHF rfl hx (zIG _ x) (λl=>by simp)
 have hs:zS zKI [.int c]=[some (.int c),none,none,none,none,none,none,none]:=rfl
 have e1:zFP [some (.int c),none,none,none,none,none,none,none] S=.ok (.next (P8 c n none none none none none none)) S:=by
  unfold zFP
  simp? [hn]
 have e2:zMP (P8 c n none none none none none none) S=.ok (.next (P8 c n (some (.str abc)) none none none none none)) S:=rfl
 have e3:zFQ (P8 c n (some (.str abc)) none none none none none) S=.ok (.next (P8 c n (some (.str abc)) (some (.str x)) none none none none)) S:=by
  unfold zFQ
  simp? [hc]
 have hp:0<x.length:=by have:=nx.1;omega
 have hm0:0<=n / 1670616516608 % (x.length:Int):=eN _ (by omega)
 have hm1:n / 1670616516608 % (x.length:Int)<x.length:=eL _ (by omega)
 obtain⟨tn,e6⟩:=po6 (c:=c) (n:=n / 1670616516608) (x5:=none) (x6:=none) (x7:=none) (S:=S) nx hm0 hm1
 obtain⟨y,ny,e7⟩:=po7 (c:=c) (n:=n / 1670616516608) (tn:=tn) (x6:=none) (x7:=none) (S:=S) nx hm0 hm1
 obtain⟨g,hg,e9⟩:=po9 (c:=c) (n:=n / 1670616516608 / 200) (a:=some (.str abc)) (b:=some (.str x)) (x4:=some (.int (n / 1670616516608 % (x.length:Int)))) (x5:=some (.int tn)) (x6:=some (.str y)) (x7:=none) (S:=S)
 obtain⟨g',hg',e10⟩:=po10 (c:=c) (n:=n / 1670616516608 / 200) (a:=some (.str abc)) (b:=some (.str x)) (x4:=some (.int (n / 1670616516608 % (x.length:Int)))) (x5:=some (.int tn)) (x6:=some (.str y)) (S:=S) hg
 obtain⟨vs,hl,hv,e11⟩:=po11 (c:=c) (n:=n / 1670616516608 / 200) (a:=some (.str abc)) (x4:=some (.int (n / 1670616516608 % (x.length:Int)))) (x5:=some (.int tn)) (S:=S) hg' nx ny
 refine⟨vs,hl,hv,yKJ (T:=[]) rfl ?_ (gL λd hd=>(hv d hd).lo _)⟩
 rw [aN]
 show dQ [.int c] S=_
 unfold dQ zRE
 rw [hs,zE e1,zE e2,zE e3,zE po4,zE (po5 nx),zE e6,zE e7,zE po8,zE e9,zE e10,e11]
 rfl
theorem zYE{S:Sto}{l:Nat}{ds:List MV}{d:MV}(hS:S[l]? =some (.lst ds))(hz:ds.length<1000000):yCP (.val (.loc l)) [.val d] S=.ok (.val .non) (S.set l (.lst (ds++[d]))):=by
 show yHM (.val (.loc l)) S (λds=>if ds.length<sizeLine then some (ds++[d])else none)=_
 unfold yHM
 dsimp only
 rw [hS]
 dsimp only
 rw [iP (lt_of_lt_of_le hz (fits (le_refl _)))]
theorem zYF{S:Sto}{l:Nat}{ds:List MV}(hS:S[l]? =some (.lst ds)):zOP (.val (.loc l)) S=true:=by
 unfold zOP
 rw [zHG hS];rfl
theorem yLS{S:Sto}{l:Nat}{ds:List MV}{k:Int}{j:Nat}{d:MV}{ρ:Rho}(hS:S[l]? =some (.lst ds))(hj:ixN ds.length k=some j):yAD (.val (.loc l)) (.val (.int k)) d ρ S=.ok ρ (S.set l (.lst (ds.set j d))):=by
 unfold yAD
 dsimp only
 rw [hS]
 dsimp only
 rw [hj]
theorem get_set{S:Sto}{l:Nat}{o o':MO}(h:S[l]? =some o):(S.set l o')[l]? =some o':=getElem?_set_self (gS0.mp h).1
theorem dH{S:Sto}{l m:Nat}{o':MO}(h:l≠m):(S.set l o')[m]? =S[m]? :=getElem?_set_ne h
theorem zMC{S:Sto}{l:Nat}{ds:List MV}(hS:S[l]? =some (.lst ds)):zAM [.val (.loc l)] S=.ok (.val (.tup ds)) S:=by
 show(match dZ S (.val (.loc l))with |some ds=>R.ok (Er.val (.tup ds)) S|none=>.no)=_
 rw [zHG hS]
theorem kE(ds:List MV)(S:Sto):xB [.val (.tup ds)] S=.ok (.val (.int ds.length)) S:=rfl
theorem yFL(gf:MV->Rho->Sto->R Rho)(ρ:Rho)(d:MV)(S:Sto):asgF gf ρ (.val d) S=(gf d ρ S).bind λρ' S2=>.ok (.next ρ') S2:=rfl
theorem zTX{n:Nat}{F:List MV->Sto->R Er}{rs:List Er}{S:Sto}{d:MV}{l:Nat}{x:Int}(hn:rs.length=n)(hF:F (zY rs S).1 (zY rs S).2=.ok (.val d) (S.set l (.lst [.int x])))(h:lo S.length d)(hd: ∀l,d≠.loc l):zX n F rs S=.ok (.val d) (S.set l (.lst [.int x])):=by
 unfold zX
 rw [iP hn,hF,dY,bok]
 have hc:yAA S (S.set l (.lst [.int x])):=by
  refine⟨by rw [length_set];exact le_refl _,λm hm=>?_⟩
  by_cases e:l=m
  ·subst e
   exact .inr ⟨_,getElem?_set_self hm,gL λe he=>by rw [mS.mp he];exact cO _ _⟩
  ·exact .inl (getElem?_set_ne e)
 unfold zCR
 rw [iP hc]
 have e:(S.set l (.lst [.int x])).take S.length=S.set l (.lst [.int x]):=by rw [List.take_of_length_le (by rw [length_set];exact le_refl _)]
 cases d with
 |loc m=>exact absurd rfl (hd m)
 |_=>dsimp only;rw [iP h,e]
theorem zIY{S:Sto}{l:Nat}{x n:Int}(hS:S[l]? =some (.lst [.int x]))(h0:0<n)(h1:n<1073741824):zX 2 yE [.val (.loc l),.val (.int n)] S=.ok (.val (.int (x % n))) (S.set l (.lst [.int (x / n)])):=by
 have hs:zS zKJ [.loc l,.int n]=[some (.loc l),some (.int n),none]:=rfl
 have ha:atI [MV.int x] 0=some (.int x):=rfl
 have e1:zFX [some (.loc l),some (.int n),none] S=.ok (.next [some (.loc l),some (.int n),some (.int (x % n))]) S:=by
  unfold zFX
  simp? [nA hS ha,mod_lit h0]
 have e2:zFY [some (.loc l),some (.int n),some (.int (x % n))] S=.ok (.next [some (.loc l),some (.int n),some (.int (x % n))]) (S.set l (.lst [.int (x / n)])):=by
  unfold zFY
  simp? [nA hS ha,xW h0 h1,yFL,yLS hS (show ixN [MV.int x].length 0=some 0 from rfl)]
 refine zTX rfl ?_ (cO _ _) (λl=>by simp)
 show yE [.loc l,.int n] S=_
 unfold yE zRF
 rw [hs,zE e1,zE e2]
 rfl
def tbl(p:Int×Int):MV:=.tup [.int p.1,.int p.2]
def TOk(ts:List (Int×Int)):Prop:=1<=ts.length/\ts.length<=4/\ ∀p∈ts,1<=p.1/\p.1<=4/\0<=p.2/\p.2<=p.1
abbrev P7(c m n k:MV)(l:Nat)(x5 x6:Option MV):Rho:=[some c,some m,some n,some k,some (.loc l),x5,x6]
theorem yLT{c m k:MV}{n:Int}{l:Nat}{x5 x6:Option MV}{S:Sto}{ts:List (Int×Int)}(hS:S[l]? =some (.lst (ts.map tbl)))(hl:ts.length<1000):
  ∃p n',(1<=p.1/\p.1<=4/\0<=p.2/\p.2<=p.1)/\cF (P7 c m (.int n) k l x5 x6) S=.ok (.next (P7 c m (.int n') k l x5 (some (.int p.1)))) (S.set l (.lst ((ts++[p]).map tbl))):=by
 have h0:0<=n % 4:=eN _ (by decide)
 have h1:n % 4<4:=eL _ (by decide)
 have hp:(0:Int)<1+n % 4+1:=by omega
 have h2:0<=n / 4 % (1+n % 4+1):=eN _ (by omega)
 have h3:n / 4 % (1+n % 4+1)<1+n % 4+1:=eL _ hp
 refine⟨(1+n % 4,n / 4 % (1+n % 4+1)),n / 20,⟨by show 1<=1+n % 4;omega,by show 1+n % 4<=4;omega,h2,by show n / 4 % (1+n % 4+1)<=1+n % 4;omega⟩,?_⟩
 have e1:nL (P7 c m (.int n) k l x5 x6) S=.ok (.next (P7 c m (.int n) k l x5 (some (.int (1+n % 4))))) S:=by
  unfold nL
  simp? [mod_lit (show(0:Int)<4 by decide)]
 have e2:nM (P7 c m (.int n) k l x5 (some (.int (1+n % 4)))) S=.ok (.next (P7 c m (.int n) k l x5 (some (.int (1+n % 4))))) (S.set l (.lst ((ts++[(1+n % 4,n / 4 % (1+n % 4+1))]).map tbl))):=by
  unfold nM
  simp? [zYF hS,xW (b:=4) (by decide) (by decide),mod_lit hp,zYE hS (show(ts.map tbl).length<1000000 by rw [lM0];omega)]
  rw [List.map_append]
  rfl
 have e3:nN (P7 c m (.int n) k l x5 (some (.int (1+n % 4)))) (S.set l (.lst ((ts++[(1+n % 4,n / 4 % (1+n % 4+1))]).map tbl)))=.ok (.next (P7 c m (.int (n / 20)) k l x5 (some (.int (1+n % 4))))) (S.set l (.lst ((ts++[(1+n % 4,n / 4 % (1+n % 4+1))]).map tbl))):=by
  unfold nN
  simp? [xW (b:=20) (by decide) (by decide)]
 unfold cF
 rw [zE e1,zE e2,e3]
theorem yIA(c:Int)(S:Sto): ∃ts,TOk ts/\zX 2 gG [.val (.int c),.val (.int 4)] S=.ok (.val (.tup (ts.map tbl))) S:=by
 obtain⟨n,hn⟩:=zYD c 2147483629 ⟨by decide,by decide⟩ S
 have h0:0<=n % 4:=eN _ (by decide)
 have h1:n % 4<4:=eL _ (by decide)
 have hs:zS zFK [.int c,.int 4]=[some (.int c),some (.int 4),none,none,none,none,none]:=rfl
 have e1:zCJ [some (.int c),some (.int 4),none,none,none,none,none] S=.ok (.next [some (.int c),some (.int 4),some (.int n),none,none,none,none]) S:=by
  unfold zCJ
  simp? [hn]
 have e2:zCK [some (.int c),some (.int 4),some (.int n),none,none,none,none] S=.ok (.next [some (.int c),some (.int 4),some (.int n),some (.int (1+n % 4)),none,none,none]) S:=by
  unfold zCK
  simp? [mod_lit (show(0:Int)<4 by decide)]
 have e3:zCL [some (.int c),some (.int 4),some (.int n),some (.int (1+n % 4)),none,none,none] S=.ok (.next [some (.int c),some (.int 4),some (.int (n / 4)),some (.int (1+n % 4)),none,none,none]) S:=by
  unfold zCL
  simp? [xW (b:=4) (by decide) (by decide)]
 have e4:zCM [some (.int c),some (.int 4),some (.int (n / 4)),some (.int (1+n % 4)),none,none,none] S=.ok (.next (P7 (.int c) (.int 4) (.int (n / 4)) (.int (1+n % 4)) S.length none none)) (S++[.lst []]):=by
  unfold zCM
  simp? [bok]
 have hlen:((List.range (1+n % 4).toNat).map λk=>MV.int (k:Nat)).length=(1+n % 4).toNat:=by rw [lM0,length_range]
 obtain⟨ρ',S',e,x5,x6,n',ts,hρ,hS',hl,hT⟩:=yCU (L:=(List.range (1+n % 4).toNat).map λk=>MV.int (k:Nat)) (gf:=gNm 5) (body:=cF) (gs:=[]) (S:=S++[.lst []]) (ρ:=P7 (.int c) (.int 4) (.int (n / 4)) (.int (1+n % 4)) S.length none none)
  (λi ρ S'=> ∃x5 x6 n' ts,ρ=P7 (.int c) (.int 4) (.int n') (.int (1+n % 4)) S.length x5 x6/\S'=S++[.lst (ts.map tbl)]/\ts.length=i/\ ∀p∈ts,1<=p.1/\p.1<=4/\0<=p.2/\p.2<=p.1) (λi d hi ρ S1 ⟨x5,x6,n',ts,hρ,hS1,hl,hT⟩=>by
   subst hρ hS1
   have hil:i<5:=by have:=(gS0.mp hi).1;omega
   obtain⟨p,n'',hp,hb⟩:=yLT (c:=.int c) (m:=.int 4) (k:=.int (1+n % 4)) (n:=n') (l:=S.length) (x5:=some d) (x6:=x6) (S:=S++[.lst (ts.map tbl)]) (ts:=ts) (by simp) (by omega)
   refine⟨P7 (.int c) (.int 4) (.int n'') (.int (1+n % 4)) S.length (some d) (some (.int p.1)),S++[.lst ((ts++[p]).map tbl)],?_,gC _,some d,some (.int p.1),n'',ts++[p],rfl,rfl,by rw [lA,hl];rfl,?_⟩
   ·rw [show gNm 5 d (P7 (.int c) (.int 4) (.int n') (.int (1+n % 4)) S.length x5 x6) (S++[.lst (ts.map tbl)])=.ok (P7 (.int c) (.int 4) (.int n') (.int (1+n % 4)) S.length (some d) x6) (S++[.lst (ts.map tbl)])from rfl,bok,hb]
    rw [show(S++[MO.lst (ts.map tbl)]).set S.length (.lst ((ts++[p]).map tbl))=S++[.lst ((ts++[p]).map tbl)] by simp]
   ·intro q hq
    rw [mem_append,mS]at hq
    rcases hq with hq|rfl
    ·exact hT q hq
    ·exact hp) ⟨none,none,n / 4,[],rfl,rfl,rfl,λp hp=>by simp at hp⟩
 subst hρ hS'
 rw [hlen]at hl
 have e5:zCN (P7 (.int c) (.int 4) (.int (n / 4)) (.int (1+n % 4)) S.length none none) (S++[.lst []])=.ok (.next (P7 (.int c) (.int 4) (.int n') (.int (1+n % 4)) S.length x5 x6)) (S++[.lst (ts.map tbl)]):=by
  unfold zCN
  simp? [zNA (S:=S++[.lst []]) (show -(2 ^ 62)<=1+n % 4/\1+n % 4<2 ^ 62 by omega)]
  exact e
 have e6:zCO (P7 (.int c) (.int 4) (.int n') (.int (1+n % 4)) S.length x5 x6) (S++[.lst (ts.map tbl)])=.ok (.ret (.val (.tup (ts.map tbl)))) (S++[.lst (ts.map tbl)]):=by
  unfold zCO
  simp? [zMC (S:=S++[.lst (ts.map tbl)]) (l:=S.length) (ds:=ts.map tbl) (by simp)]
 refine⟨ts,⟨by omega,by omega,hT⟩,zBM (T:=[.lst (ts.map tbl)]) rfl ?_ (zAN (gL λd hd=>?_)) (λl=>by simp)⟩
 ·show gG [.int c,.int 4] S=_
  unfold gG zMQ
  rw [hs,zE e1,zE e2,zE e3,zE e4,zE e5,e6]
  rfl
 ·obtain⟨p,_,rfl⟩:=mM0.mp hd
  exact zAN (gL λe he=>by simp at he;rcases he with rfl|rfl<;>exact cO _ _)
mutual
def pd:MV->Bool
 |.int _=>true
 |.str _=>true
 |.tup ds=>pdL ds
 |_=>false
def pdL:List MV->Bool
 |[]=>true
 |d::ds=>pd d&&pdL ds
end
mutual
def dpt:MV->Nat
 |.tup ds=>zVJ ds+1
 |_=>0
def zVJ:List MV->Nat
 |[]=>0
 |d::ds=>max (dpt d) (zVJ ds)
end
theorem yLU(ds:List MV):pd (.tup ds)=pdL ds:=by rw [pd]
theorem yPW:pdL []=true:=by rw [pdL]
theorem yAJ(d:MV)(ds:List MV):pdL (d::ds)=(pd d&&pdL ds):=by rw [pdL]
theorem zMD(ds:List MV):dpt (.tup ds)=zVJ ds+1:=by rw [dpt]
theorem zWT(d:MV)(ds:List MV):zVJ (d::ds)=max (dpt d) (zVJ ds):=by rw [zVJ]
theorem yLV:zVJ []=0:=by rw [zVJ]
theorem yDF(i:Int):pd (.int i)=true:=by rw [pd]
theorem yUM(i:List Nat):pd (.str i)=true:=by rw [pd]
theorem zYG(i:Int):dpt (.int i)=0:=by simp [dpt]
theorem yFM(i:List Nat):dpt (.str i)=0:=by simp [dpt]
theorem yFN: ∀{ds:List MV},(∀d∈ds,pd d=true)->pdL ds=true
 |[],_=>yPW
 |d::ds,h=>by rw [yAJ,h d mF0,yFN λe he=>h e (mO _ he)];rfl
theorem zSA: ∀{ds:List MV},pdL ds=true-> ∀d∈ds,pd d=true
 |[],_,d,h=>by simp at h
 |e::ds,hp,d,h=>by
  rw [yAJ,aE]at hp
  rcases mC0.mp h with rfl|h
  ·exact hp.1
  ·exact zSA hp.2 d h
theorem zYH: ∀{ds:List MV}{n:Nat},(∀d∈ds,dpt d<=n)->zVJ ds<=n
 |[],n,_=>by rw [yLV];exact zero_le _
 |d::ds,n,h=>by
  rw [zWT]
  have h1:=h d mF0
  have h2:=zYH λe he=>h e (mO _ he)
  omega
theorem zLC: ∀{ds:List MV}, ∀d∈ds,dpt d<=zVJ ds
 |[],d,h=>by simp at h
 |e::ds,d,h=>by
  rw [zWT]
  rcases mC0.mp h with rfl|h
  ·exact Nat.le_max_left _ _
  ·exact le_trans (zLC d h) (Nat.le_max_right _ _)
theorem zTY{d:MV}(h:pd d=true):(∃i,d=.int i)\/(∃x,d=.str x)\/ ∃ds,d=.tup ds/\pdL ds=true:=by
 cases d with
 |int i=>exact .inl ⟨i,rfl⟩
 |str x=>exact .inr (.inl ⟨x,rfl⟩)
 |tup ds=>exact .inr (.inr ⟨ds,rfl,by rw [<-yLU];exact h⟩)
 |_=>rw [pd]at h<;>first |cases h|(intros;simp)
theorem dec_is{p:Prop}[Decidable p]{q:Prop}[Decidable q](h:p↔q):decide p=decide q:=by
 by_cases hq:q
 ·rw [dT0 hq,dT0 (h.mpr hq)]
 ·rw [dF0 hq,dF0 λz=>hq (h.mp z)]
theorem yAK{e:MV->MV->Option Bool}: ∀{ds es:List MV},(∀d∈ds, ∀f∈es,e d f=some (decide (d=f)))-> ∃bs,prs e ds es=some bs/\(bs.all id&&ds.length==es.length)=decide (ds=es)
 |[],[],_=>⟨[],rfl,by simp⟩
 |[],_::_,_=>⟨[],rfl,by simp⟩
 |_::_,[],_=>⟨[],rfl,by simp⟩
 |d::ds,f::es,h=>by
  obtain⟨bs,h1,h2⟩:=yAK (e:=e) (ds:=ds) (es:=es) λa ha b hb=>h a (mO _ ha) b (mO _ hb)
  refine⟨decide (d=f)::bs,?_,?_⟩
  ·unfold prs
   rw [h d mF0 f mF0,h1]
   rfl
  ·by_cases hd:d=f
   ·subst hd
    rw [all_cons,dT0 rfl]
    simp only [id,Bool.true_and,lC0]
    rw [show(ds.length+1==es.length+1)=(ds.length==es.length) by simp,h2]
    exact dec_is (by simp)
   ·rw [all_cons,dF0 hd]
    rw [dF0 (show¬(d::ds=f::es)from λz=>hd (List.cons.inj z).1)]
    rfl
theorem yAL{S:Sto}: ∀(n:Nat){d e:MV},pd d=true->pd e=true->dpt d<n->eqv S n d e=some (decide (d=e))
 |0,d,e,_,_,h=>by omega
 |n+1,d,e,hd,he,h=>by
  rcases zTY hd with⟨i,rfl⟩|⟨x,rfl⟩|⟨ds,rfl,pds⟩<;>rcases zTY he with⟨j,rfl⟩|⟨y,rfl⟩|⟨es,rfl,pes⟩
  ·rw [zRT];exact congrArg some (dec_is (by simp))
  ·rw [yKL,dF0 (by simp)]
  ·rw [dF0 (by simp)];rfl
  ·rw [yKM,dF0 (by simp)]
  ·rw [zOR];exact congrArg some (dec_is (by simp))
  ·rw [dF0 (by simp)];rfl
  ·rw [dF0 (by simp)];rfl
  ·rw [dF0 (by simp)];rfl
  ·rw [zMD]at h
   obtain⟨bs,h1,h2⟩:=yAK (e:=eqv S n) (ds:=ds) (es:=es) λa ha b hb=>yAL n (zSA pds a ha) (zSA pes b hb) (by have:=zLC a ha;omega)
   show((prs (eqv S n) ds es).map λbs=>bs.all id&&ds.length==es.length)=_
   rw [h1]
   show some (bs.all id&&ds.length==es.length)=_
   rw [h2]
   exact congrArg some (dec_is (by simp))
theorem yAM{S:Sto}{d:MV}(hd:pd d=true): ∀{ys:List MV},(∀y∈ys,pd y=true/\dpt y<40)->zVE S yN d ys=some (ys.map λy=>decide (y=d))
 |[],_=>rfl
 |y::ys,h=>by
  have h1:=h y mF0
  unfold zVE
  rw [yAL yN h1.1 hd (by unfold yN;exact h1.2),yAM hd λz hz=>h z (mO _ hz)]
  rfl
theorem yDG{ts:List (Int×Int)}{t:Nat}{p:Int×Int}(h:ts[t]? =some p):atI (ts.map tbl) (t:Int)=some (tbl p):=by
 have hl:t<ts.length:=(gS0.mp h).1
 unfold atI ixN
 rw [iP (by omega),iP (by rw [lM0];omega)]
 show(ts.map tbl)[(t:Int).toNat]? =_
 rw [toNat_natCast,getElem?_map,h]
 rfl
inductive Side where
 |isv (v:MV)|cell (k j:Nat)
def sIs:List Nat:=[105,115]
def gE:List Nat:=[99,101,108,108]
def zCS:Side->MV
 |.isv v=>.tup [.str sIs,v]
 |.cell k j=>.tup [.str gE,.int k,.int j]
def yIB(ws:List Int):Side->Prop
 |.isv v=>Vl v
 |.cell k j=> ∃w,ws[k]? =some w/\(j:Int)<w
def wid(ts:List (Int×Int))(t:Nat):Int:=((ts[t]?).map (·.1)).getD 0
theorem zTZ{ts:List (Int×Int)}{t:Nat}{p:Int×Int}(h:ts[t]? =some p):wid ts t=p.1:=by unfold wid;rw [h];rfl
theorem yLW{ts:List (Int×Int)}(hT:TOk ts){t:Nat}(h:t<ts.length):1<=wid ts t/\wid ts t<=4:=by
 have:=hT.2.2 ts[t] (getElem_mem h)
 rw [zTZ (gE0 h)]
 exact⟨this.1,this.2.1⟩
def xK(t:Nat):MV:=.int (t:Nat)
def ThOk(ts:List (Int×Int))(th:List Nat):Prop:=1<=th.length/\th.length<=2/\ ∀t∈th,t<ts.length
theorem yUN{th:List Nat}{k t:Nat}(h:th[k]? =some t):atI (th.map xK) (k:Int)=some (xK t):=by
 have hl:k<th.length:=(gS0.mp h).1
 unfold atI ixN
 rw [iP (by omega),iP (by rw [lM0];omega)]
 show(th.map xK)[(k:Int).toNat]? =_
 rw [toNat_natCast,getElem?_map,h]
 rfl
theorem zSB{ws:List Int}{sd:Side}(h:yIB ws sd)(n:Nat):lo n (zCS sd):=by
 cases sd with
 |isv v=>exact zAN (gL λe he=>by simp at he;rcases he with rfl|rfl;(exact zIG _ _);exact Vl.lo h n)
 |cell k j=>exact zAN (gL λe he=>by simp at he;rcases he with rfl|rfl|rfl<;>first |exact zIG _ _|exact cO _ _)
theorem zUA(sd:Side)(l:Nat):zCS sd≠.loc l:=by cases sd<;>(intro h;cases h)
abbrev D5(l:Nat)(th tb:MV)(lp:Nat)(x4:Option MV):Rho:=[some (.loc l),some th,some tb,some (.loc lp),x4]
theorem yFO{ts:List (Int×Int)}(hT:TOk ts){th:List Nat}(hth:ThOk ts th){l lp:Nat}{x:Int}{vs:List MV}{S:Sto}(hne:l≠lp)(hv:vs.length=7)(hV: ∀d∈vs,Vl d)(hP:S[lp]? =some (.lst vs))(hS:S[l]? =some (.lst [.int x])):
  ∃sd x',yIB (th.map (wid ts)) sd/\zX 4 kN [.val (.loc l),.val (.tup (th.map xK)),.val (.tup (ts.map tbl)),.val (.loc lp)] S=.ok (.val (zCS sd)) (S.set l (.lst [.int x'])):=by
 have hs:zS zKK [.loc l,.tup (th.map xK),.tup (ts.map tbl),.loc lp]=D5 l (.tup (th.map xK)) (.tup (ts.map tbl)) lp none:=rfl
 have t1:=zIY (n:=4) hS (by decide) (by decide)
 have hS1:=get_set (o':=.lst [.int (x / 4)]) hS
 have hP1:(S.set l (.lst [.int (x / 4)]))[lp]? =some (.lst vs):=by rw [dH hne];exact hP
 cases hb:decide (x % 4=0)with
 |true=>
  have t2:=zIY (n:=7) hS1 (by decide) (by decide)
  rw [List.set_set]at t2
  have hP2:(S.set l (.lst [.int (x / 4 / 7)]))[lp]? =some (.lst vs):=by rw [dH hne];exact hP
  obtain⟨v,hvv⟩:=gM (xs:=vs) (i:=x / 4 % 7) (eN _ (by decide)) (by have:=eL (x / 4) (show(0:Int)<7 by decide);rw [hv];exact this)
  have vV:=gN hV hvv
  refine⟨.isv v,x / 4 / 7,vV,zTX rfl ?_ (zSB (ws:=[]) (sd:=.isv v) vV _) (zUA _)⟩
  have e1:bV (D5 l (.tup (th.map xK)) (.tup (ts.map tbl)) lp none) S=.ok (.ret (.val (zCS (.isv v)))) (S.set l (.lst [.int (x / 4 / 7)])):=by
   unfold bV
   simp? [t1,hb,t2,nA hP2 hvv]
   rfl
  show kN [.loc l,.tup (th.map xK),.tup (ts.map tbl),.loc lp] S=_
  unfold kN zKZ
  rw [hs,zU e1]
  rfl
 |false=>
  have e1:bV (D5 l (.tup (th.map xK)) (.tup (ts.map tbl)) lp none) S=.ok (.next (D5 l (.tup (th.map xK)) (.tup (ts.map tbl)) lp none)) (S.set l (.lst [.int (x / 4)])):=by
   unfold bV
   simp? [t1,hb]
   rfl
  have hp:(0:Int)<(th.length:Int):=by have:=hth.1;omega
  have hlen: ∀S,xB [.val (.tup (th.map xK))] S=.ok (.val (.int th.length)) S:=λS=>by rw [kE,lM0]
  have t2:=zIY (n:=(th.length:Int)) hS1 hp (by have:=hth.2.1;omega)
  rw [List.set_set]at t2
  have h0:0<=x / 4 % (th.length:Int):=eN _ (by omega)
  have h1:x / 4 % (th.length:Int)<th.length:=eL _ hp
  obtain⟨k,hk⟩:=Int.eq_ofNat_of_zero_le h0
  have hkl:k<th.length:=by omega
  have e2:zFZ (D5 l (.tup (th.map xK)) (.tup (ts.map tbl)) lp none) (S.set l (.lst [.int (x / 4)]))=.ok (.next (D5 l (.tup (th.map xK)) (.tup (ts.map tbl)) lp (some (.int (k:Nat))))) (S.set l (.lst [.int (x / 4 / th.length)])):=by
   unfold zFZ
   simp? [hlen,t2]
   rw [hk]
  have hgk:th[k]? =some th[k]:=gE0 hkl
  have htl:=hth.2.2 th[k] (getElem_mem hkl)
  generalize th[k]=t at hgk htl
  have hgt:ts[t]? =some ts[t]:=gE0 htl
  have hwd:=yLW hT htl
  rw [zTZ hgt]at hwd
  have hS2:=get_set (o':=.lst [.int (x / 4 / th.length)]) hS
  have t3:=zIY (n:=ts[t].1) hS2 (by omega) (by omega)
  rw [List.set_set]at t3
  have g0:0<=x / 4 / th.length % ts[t].1:=eN _ (by omega)
  have g1:x / 4 / th.length % ts[t].1<ts[t].1:=eL _ (by omega)
  obtain⟨j,hj⟩:=Int.eq_ofNat_of_zero_le g0
  have hOk:yIB (th.map (wid ts)) (.cell k j):=⟨ts[t].1,by rw [getElem?_map,hgk];show some (wid ts t)=_;rw [zTZ hgt],by omega⟩
  refine⟨.cell k j,x / 4 / th.length / ts[t].1,hOk,zTX rfl ?_ (zSB hOk _) (zUA _)⟩
  have e3:zGA (D5 l (.tup (th.map xK)) (.tup (ts.map tbl)) lp (some (.int (k:Nat)))) (S.set l (.lst [.int (x / 4 / th.length)]))=.ok (.ret (.val (zCS (.cell k j)))) (S.set l (.lst [.int (x / 4 / th.length / ts[t].1)])):=by
   unfold zGA
   simp? [ix_tup (S:=S.set l (.lst [.int (x / 4 / th.length)])) (show atI (th.map xK) (k:Int)=some (.int t)from yUN hgk),ix_tup (S:=S.set l (.lst [.int (x / 4 / th.length)])) (yDG hgt)]
   rw [show ixF (.val (tbl ts[t])) (.val (.int 0)) (S.set l (.lst [.int (x / 4 / th.length)]))=.ok (.val (.int ts[t].1)) (S.set l (.lst [.int (x / 4 / th.length)]))from rfl]
   simp? [t3]
   rw [hj]
   rfl
  show kN [.loc l,.tup (th.map xK),.tup (ts.map tbl),.loc lp] S=_
  unfold kN zKZ
  rw [hs,zE e1,zE e2,e3]
  rfl
theorem yIC{n:Nat}{F:List MV->Sto->R Er}{rs:List Er}{S T:Sto}{d:MV}{l:Nat}{x:Int}(hn:rs.length=n)(hF:F (zY rs S).1 (zY rs S).2=.ok (.val d) (S.set l (.lst [.int x])++T))(h:lo S.length d)(hd: ∀l,d≠.loc l):zX n F rs S=.ok (.val d) (S.set l (.lst [.int x])):=by
 unfold zX
 rw [iP hn,hF,dY,bok]
 have hL:(S.set l (.lst [.int x])).length=S.length:=length_set
 have hc:yAA S (S.set l (.lst [.int x])++T):=by
  refine⟨by rw [lA,hL];omega,λm hm=>?_⟩
  rw [getElem?_append_left (by rw [hL];exact hm)]
  by_cases e:l=m
  ·subst e
   exact .inr ⟨_,getElem?_set_self hm,gL λe he=>by rw [mS.mp he];exact cO _ _⟩
  ·exact .inl (getElem?_set_ne e)
 unfold zCR
 rw [iP hc]
 have e:(S.set l (.lst [.int x])++T).take S.length=S.set l (.lst [.int x]):=by rw [<-hL];simp
 cases d with
 |loc m=>exact absurd rfl (hd m)
 |_=>dsimp only;rw [iP h,e]
structure Test where
 l:Side
 w:List Nat
 r:Side
def words3:List (List Nat):=[[115,97,109,101],[117,110,108,105,107,101],[108,101,115,115]]
def testM(t:Test):MV:=.tup [zCS t.l,.str t.w,zCS t.r]
def zYI(ws:List Int)(t:Test):Prop:=yIB ws t.l/\t.w∈words3/\yIB ws t.r
theorem zYJ{ws:List Int}{t:Test}(h:zYI ws t)(n:Nat):lo n (testM t):=zAN (gL λe he=>by
 simp only [mC0,nM0,or_false]at he
 rcases he with rfl|rfl|rfl
 ·exact zSB h.1 n
 ·exact zIG _ _
 ·exact zSB h.2.2 n)
abbrev T8(l:Nat)(th tb:MV)(lp lt:Nat)(x5 x6 x7:Option MV):Rho:=[some (.loc l),some th,some tb,some (.loc lp),some (.loc lt),x5,x6,x7]
theorem yID{ts:List (Int×Int)}(hT:TOk ts){th:List Nat}(hth:ThOk ts th){l lp lt:Nat}{x:Int}{vs:List MV}{S:Sto}{x5 x6 x7:Option MV}{qs:List Test}(hne:l≠lp)(hlt:l≠lt)(hv:vs.length=7)(hV: ∀d∈vs,Vl d)(hP:S[lp]? =some (.lst vs))(hS:S[l]? =some (.lst [.int x]))
  (hQ:S[lt]? =some (.lst (qs.map testM))) (hql:qs.length<1000): ∃(q:Test)(x':Int)(y6 y7:Option MV),zYI (th.map (wid ts)) q/\nO (T8 l (.tup (th.map xK)) (.tup (ts.map tbl)) lp lt x5 x6 x7) S=.ok (.next (T8 l (.tup (th.map xK)) (.tup (ts.map tbl)) lp lt x5 y6 y7)) ((S.set l (.lst [.int x'])).set lt (.lst ((qs++[q]).map testM))):=by
 have t1:=zIY (n:=3) hS (by decide) (by decide)
 have hS1:=get_set (o':=.lst [.int (x / 3)]) hS
 have hP1:(S.set l (.lst [.int (x / 3)]))[lp]? =some (.lst vs):=by rw [dH hne];exact hP
 obtain⟨w,hw⟩:=gM (xs:=words3) (i:=x % 3) (eN _ (by decide)) (by have:=eL x (show(0:Int)<3 by decide);show x % 3<3;exact this)
 have hww:atI [MV.str [115,97,109,101],MV.str [117,110,108,105,107,101],MV.str [108,101,115,115]] (x % 3)=some (.str w):=by
  have e:([MV.str [115,97,109,101],MV.str [117,110,108,105,107,101],MV.str [108,101,115,115]]:List MV)=words3.map MV.str:=rfl
  rw [e]
  unfold atI at hw ⊢
  rw [lM0]
  cases z:ixN words3.length (x % 3)with
  |none=>rw [z]at hw;cases hw
  |some j=>
   rw [z]at hw
   show(words3.map MV.str)[j]? =_
   rw [getElem?_map,show words3[j]? =some w from hw]
   rfl
 have e1:zAR (T8 l (.tup (th.map xK)) (.tup (ts.map tbl)) lp lt x5 x6 x7) S=.ok (.next (T8 l (.tup (th.map xK)) (.tup (ts.map tbl)) lp lt x5 (some (.str w)) x7)) (S.set l (.lst [.int (x / 3)])):=by
  unfold zAR
  simp? [t1,zMZ hww]
 obtain⟨sa,xa,oka,ca⟩:=yFO hT hth hne hv hV hP1 hS1
 rw [List.set_set]at ca
 have e2:zAS (T8 l (.tup (th.map xK)) (.tup (ts.map tbl)) lp lt x5 (some (.str w)) x7) (S.set l (.lst [.int (x / 3)]))=.ok (.next (T8 l (.tup (th.map xK)) (.tup (ts.map tbl)) lp lt x5 (some (.str w)) (some (zCS sa)))) (S.set l (.lst [.int xa])):=by
  unfold zAS
  simp? [ca]
 have hS2:=get_set (o':=.lst [.int xa]) hS
 have hP2:(S.set l (.lst [.int xa]))[lp]? =some (.lst vs):=by rw [dH hne];exact hP
 have hQ2:(S.set l (.lst [.int xa]))[lt]? =some (.lst (qs.map testM)):=by rw [dH hlt];exact hQ
 obtain⟨sb,xb,okb,cb⟩:=yFO hT hth hne hv hV hP2 hS2
 rw [List.set_set]at cb
 have hQ3:(S.set l (.lst [.int xb]))[lt]? =some (.lst (qs.map testM)):=by rw [dH hlt];exact hQ
 have e3:zAT (T8 l (.tup (th.map xK)) (.tup (ts.map tbl)) lp lt x5 (some (.str w)) (some (zCS sa))) (S.set l (.lst [.int xa]))=.ok (.next (T8 l (.tup (th.map xK)) (.tup (ts.map tbl)) lp lt x5 (some (.str w)) (some (zCS sa)))) ((S.set l (.lst [.int xb])).set lt (.lst ((qs++[Test.mk sa w sb]).map testM))):=by
  unfold zAT
  simp? [zYF hQ2,cb,zYE hQ3 (show(qs.map testM).length<1000000 by rw [lM0];omega)]
  rw [List.map_append]
  rfl
 refine⟨⟨sa,w,sb⟩,xb,some (.str w),some (zCS sa),⟨oka,gN (P:=λw=>w∈words3) (λw h=>h) hw,okb⟩,?_⟩
 unfold nO
 rw [zE e1,zE e2,e3]
theorem yAN{ts:List (Int×Int)}(hT:TOk ts){th:List Nat}(hth:ThOk ts th){l lp:Nat}{x:Int}{vs:List MV}{S:Sto}(hne:l≠lp)(hv:vs.length=7)(hV: ∀d∈vs,Vl d)(hP:S[lp]? =some (.lst vs))(hS:S[l]? =some (.lst [.int x])):
  ∃(qs:List Test)(x':Int),1<=qs.length/\qs.length<=3/\(∀q∈qs,zYI (th.map (wid ts)) q)/\zX 4 wI [.val (.loc l),.val (.tup (th.map xK)),.val (.tup (ts.map tbl)),.val (.loc lp)] S=.ok (.val (.tup (qs.map testM))) (S.set l (.lst [.int x'])):=by
 have hl:l<S.length:=(gS0.mp hS).1
 have hlp:lp<S.length:=(gS0.mp hP).1
 have hs:zS zIH [.loc l,.tup (th.map xK),.tup (ts.map tbl),.loc lp]=[some (.loc l),some (.tup (th.map xK)),some (.tup (ts.map tbl)),some (.loc lp),none,none,none,none]:=rfl
 have e1:zDW [some (.loc l),some (.tup (th.map xK)),some (.tup (ts.map tbl)),some (.loc lp),none,none,none,none] S=.ok (.next (T8 l (.tup (th.map xK)) (.tup (ts.map tbl)) lp S.length none none none)) (S++[.lst []]):=by
  unfold zDW
  simp? [bok]
 have hSa:(S++[MO.lst []])[l]? =some (.lst [.int x]):=by rw [getElem?_append_left hl];exact hS
 have t1:=zIY (n:=6) hSa (by decide) (by decide)
 have hset: ∀(y:Int)(zs:List Test),List.set (S++[MO.lst (zs.map testM)]) l (MO.lst [.int y])=S.set l (.lst [.int y])++[.lst (zs.map testM)]:=λy zs=>List.set_append_left _ _ hl
 rw [show S++[MO.lst []]=S++[MO.lst (([]:List Test).map testM)]from rfl,hset]at t1
 obtain⟨m,hm⟩:=gM (xs:=[MV.int 1,MV.int 1,MV.int 2,MV.int 1,MV.int 2,MV.int 3]) (i:=x % 6) (eN _ (by decide)) (by have:=eL x (show(0:Int)<6 by decide);show x % 6<6;exact this)
 obtain⟨mi,rfl,m1,m3⟩: ∃v,m=.int v/\1<=v/\v<=3:=gN (P:=λe=> ∃v,e=.int v/\(1:Int)<=v/\v<=3) (by
  intro e he;simp only [mC0,nM0,or_false]at he
  rcases he with rfl|rfl|rfl|rfl|rfl|rfl<;>exact⟨_,rfl,by decide,by decide⟩) hm
 have hlen:((List.range mi.toNat).map λk=>MV.int (k:Nat)).length=mi.toNat:=by rw [lM0,length_range]
 obtain⟨ρ',S',e,x5,x6,x7,x',qs,hρ,hS',hql,hqk⟩:=yCU (L:=(List.range mi.toNat).map λk=>MV.int (k:Nat)) (gf:=gNm 5) (body:=nO) (gs:=[]) (S:=S.set l (.lst [.int (x / 6)])++[.lst (([]:List Test).map testM)]) (ρ:=T8 l (.tup (th.map xK)) (.tup (ts.map tbl)) lp S.length none none none)
  (λi ρ S'=> ∃(x5 x6 x7:Option MV)(x':Int)(qs:List Test),ρ=T8 l (.tup (th.map xK)) (.tup (ts.map tbl)) lp S.length x5 x6 x7/\S'=S.set l (.lst [.int x'])++[.lst (qs.map testM)]/\qs.length=i/\ ∀q∈qs,zYI (th.map (wid ts)) q) (λi d hi ρ S1 ⟨x5,x6,x7,x',qs,hρ,hS1,hql,hqk⟩=>by
   subst hρ hS1
   have hil:i<4:=by have:=(gS0.mp hi).1;omega
   have hLs:(S.set l (.lst [.int x'])).length=S.length:=length_set
   have a1:(S.set l (.lst [.int x'])++[MO.lst (qs.map testM)])[lp]? =some (.lst vs):=by rw [getElem?_append_left (by rw [hLs];exact hlp),dH hne];exact hP
   have a2:(S.set l (.lst [.int x'])++[MO.lst (qs.map testM)])[l]? =some (.lst [.int x']):=by rw [getElem?_append_left (by rw [hLs];exact hl)];exact get_set hS
   have a3:(S.set l (.lst [.int x'])++[MO.lst (qs.map testM)])[S.length]? =some (.lst (qs.map testM)):=by rw [<-hLs];simp
   obtain⟨q,x'',y6,y7,hq,hb⟩:=yID hT hth (x5:=some d) (x6:=x6) (x7:=x7) (lt:=S.length) (qs:=qs) hne (by omega) hv hV a1 a2 a3 (by omega)
   have hfin:List.set (List.set (S.set l (.lst [.int x'])++[MO.lst (qs.map testM)]) l (MO.lst [.int x''])) S.length (MO.lst ((qs++[q]).map testM))=S.set l (.lst [.int x''])++[.lst ((qs++[q]).map testM)]:=by
    rw [List.set_append_left _ _ (by rw [hLs];exact hl),List.set_set]
    have hL2:(S.set l (.lst [.int x''])).length=S.length:=length_set
    rw [<-hL2]
    simp
   rw [hfin]at hb
   refine⟨T8 l (.tup (th.map xK)) (.tup (ts.map tbl)) lp S.length (some d) y6 y7,_,?_,gC _,some d,y6,y7,x'',qs++[q],rfl,rfl,by rw [lA,hql];rfl,?_⟩
   ·rw [show gNm 5 d (T8 l (.tup (th.map xK)) (.tup (ts.map tbl)) lp S.length x5 x6 x7) (S.set l (.lst [.int x'])++[MO.lst (qs.map testM)])=.ok (T8 l (.tup (th.map xK)) (.tup (ts.map tbl)) lp S.length (some d) x6 x7) (S.set l (.lst [.int x'])++[MO.lst (qs.map testM)])from rfl,bok,hb]
   ·intro z hz
    rw [mem_append,mS]at hz
    rcases hz with hz|rfl
    ·exact hqk z hz
    ·exact hq) ⟨none,none,none,x / 6,[],rfl,rfl,rfl,λp hp=>by simp at hp⟩
 subst hρ hS'
 rw [hlen]at hql
 have e2:zDX (T8 l (.tup (th.map xK)) (.tup (ts.map tbl)) lp S.length none none none) (S++[MO.lst []])=.ok (.next (T8 l (.tup (th.map xK)) (.tup (ts.map tbl)) lp S.length x5 x6 x7)) (S.set l (.lst [.int x'])++[.lst (qs.map testM)]):=by
  unfold zDX
  rw [show S++[MO.lst []]=S++[MO.lst (([]:List Test).map testM)]from rfl]
  simp? [t1,zMZ hm]
  rw [zNA (by omega),bok]
  exact e
 have hLs:(S.set l (.lst [.int x'])).length=S.length:=length_set
 have e3:zDY (T8 l (.tup (th.map xK)) (.tup (ts.map tbl)) lp S.length x5 x6 x7) (S.set l (.lst [.int x'])++[.lst (qs.map testM)])=.ok (.ret (.val (.tup (qs.map testM)))) (S.set l (.lst [.int x'])++[.lst (qs.map testM)]):=by
  unfold zDY
  simp? [zMC (S:=S.set l (.lst [.int x'])++[.lst (qs.map testM)]) (l:=S.length) (ds:=qs.map testM) (by rw [<-hLs];simp)]
 refine⟨qs,x',by omega,by omega,hqk,yIC (T:=[.lst (qs.map testM)]) rfl ?_ (zAN (gL λd hd=>?_)) (λl=>by simp)⟩
 ·show wI [.loc l,.tup (th.map xK),.tup (ts.map tbl),.loc lp] S=_
  unfold wI zPA
  rw [hs,zE e1,zE e2,e3]
  rfl
 ·obtain⟨q,hq,rfl⟩:=mM0.mp hd
  exact zYJ (hqk q hq) _
theorem yFP{gf:MV->Rho->Sto->R Rho}{cf:Rho->Sto->R Bool}{ef:Rho->Sto->R Er}{ρb:Rho}{gs:List (Nat×List MV)}{P:MV->Prop}{I:Sto->Prop}:
  ∀{ds:List MV}{S:Sto},(∀d∈ds, ∀S,I S-> ∃ρ1 y S',gf d ρb S=.ok ρ1 S/\cf ρ1 S=.ok true S/\ef ρ1 S=.ok (.val y) S'/\P y/\I S'/\stay gs S')->I S-> ∃out S',jE gf cf ef ρb gs ds S=.ok out S'/\I S'/\out.length=ds.length/\ ∀o∈out,P o
 |[],S,_,h=>⟨[],S,rfl,h,rfl,λo h=>by simp at h⟩
 |d::ds,S,st,h=>by
  obtain⟨ρ1,y,S1,h1,h2,h3,h4,h5,h6⟩:=st d mF0 S h
  obtain⟨out,S2,e,i2,hl,hp⟩:=yFP (ds:=ds) (S:=S1) (λd hd=>st d (mO _ hd)) h5
  refine⟨y::out,S2,?_,i2,by rw [lC0,lC0,hl],λo ho=>(mC0.mp ho).elim (λz=>z▸h4) (hp o)⟩
  unfold jE
  rw [h1,dY,bok,h2,dY,bok,iP rfl,h3,dY,bok]
  unfold zIC
  rw [bok,iP h6,e]
  rfl
inductive Rule where
 |never (t:Nat) (qs:List Test)|apart (t u:Nat) (qs:List Test)|tie (t:Nat) (cs:List Nat) (u:Nat) (ds:List Nat)
def xH:List Nat:=[110,101,118,101,114]
def yZ:List Nat:=[97,112,97,114,116]
def jY:List Nat:=[116,105,101]
def zJU:Rule->MV
 |.never t qs=>.tup [.str xH,.int (t:Nat),.tup (qs.map testM)]
 |.apart t u qs=>.tup [.str yZ,.int (t:Nat),.int (u:Nat),.tup (qs.map testM)]
 |.tie t cs u ds=>.tup [.str jY,.int (t:Nat),.tup (cs.map xK),.int (u:Nat),.tup (ds.map xK)]
def yAO(ts:List (Int×Int)):Rule->Prop
 |.never t qs=>t<ts.length/\1<=qs.length/\qs.length<=3/\ ∀q∈qs,zYI [wid ts t] q
 |.apart t u qs=>t<ts.length/\u<ts.length/\1<=qs.length/\qs.length<=3/\ ∀q∈qs,zYI [wid ts t,wid ts u] q
 |.tie t cs u ds=>t<ts.length/\u<ts.length/\1<=cs.length/\cs.length<=3/\ds.length=cs.length/\(∀c∈cs,(c:Int)<wid ts t)/\ ∀d∈ds,(d:Int)<wid ts u
theorem yPX{ts:List (Int×Int)}{r:Rule}(h:yAO ts r)(n:Nat):lo n (zJU r):=by
 have nm: ∀(cs:List Nat),lo n (.tup (cs.map xK)):=λcs=>zAN (gL λe he=>by
  obtain⟨c,_,rfl⟩:=mM0.mp he
  exact cO _ _)
 cases r with
 |never t qs=>
  refine zAN (gL λe he=>?_)
  simp only [mC0,nM0,or_false]at he
  rcases he with rfl|rfl|rfl
  ·exact zIG _ _
  ·exact cO _ _
  ·exact zAN (gL λe he=>by obtain⟨q,hq,rfl⟩:=mM0.mp he;exact zYJ (h.2.2.2 q hq) n)
 |apart t u qs=>
  refine zAN (gL λe he=>?_)
  simp only [mC0,nM0,or_false]at he
  rcases he with rfl|rfl|rfl|rfl
  ·exact zIG _ _
  ·exact cO _ _
  ·exact cO _ _
  ·exact zAN (gL λe he=>by obtain⟨q,hq,rfl⟩:=mM0.mp he;exact zYJ (h.2.2.2.2 q hq) n)
 |tie t cs u ds=>
  refine zAN (gL λe he=>?_)
  simp only [mC0,nM0,or_false]at he
  rcases he with rfl|rfl|rfl|rfl|rfl
  ·exact zIG _ _
  ·exact cO _ _
  ·exact nm cs
  ·exact cO _ _
  ·exact nm ds
theorem yDH(r:Rule)(l:Nat):zJU r≠.loc l:=by cases r<;>(intro h;cases h)
abbrev U9(c:MV)(tb:MV)(lp l:Nat)(k t u:Option MV)(x7 x8:Option MV):Rho:=[some c,some tb,some (.loc lp),some (.loc l),k,t,u,x7,x8]
theorem zJW(a:MV)(S:Sto):xE [.val a] S=.ok (.val (.tup [a])) S:=zNB (by simp)
theorem tup4(a b c d:MV)(S:Sto):xE [.val a,.val b,.val c,.val d] S=.ok (.val (.tup [a,b,c,d])) S:=zNB (by simp)
theorem tup5(a b c d e:MV)(S:Sto):xE [.val a,.val b,.val c,.val d,.val e] S=.ok (.val (.tup [a,b,c,d,e])) S:=zNB (by simp)
theorem lst5(a b c d e:MV)(S:Sto):jP [.val a,.val b,.val c,.val d,.val e] S=.ok (.new [a,b,c,d,e]) S:=zFJ (by simp)
abbrev SN(S:Sto)(x:Int):Sto:=S++[MO.lst [.int x]]
theorem yLX(S:Sto)(x:Int):(SN S x)[S.length]? =some (.lst [.int x]):=by simp
theorem yDI(S:Sto)(x y:Int):List.set (SN S x) S.length (MO.lst [.int y])=SN S y:=by simp
theorem zPB(S:Sto)(x:Int){n:Int}(h0:0<n)(h1:n<1073741824):zX 2 yE [.val (.loc S.length),.val (.int n)] (SN S x)=.ok (.val (.int (x % n))) (SN S (x / n)):=by
 have:=zIY (n:=n) (yLX S x) h0 h1
 rw [yDI]at this
 exact this
theorem yAP(x:Int){n:Nat}(h:0<n): ∃t:Nat,x % (n:Int)=t/\t<n:=by
 have h0:0<=x % (n:Int):=eN _ (by omega)
 have h1:x % (n:Int)<n:=eL _ (by omega)
 obtain⟨t,ht⟩:=Int.eq_ofNat_of_zero_le h0
 exact⟨t,ht,by omega⟩
theorem yFQ{ts:List (Int×Int)}(hT:TOk ts){t:Nat}(ht:t<ts.length){ef:Rho->Sto->R Er}{ρb:Rho}{S:Sto}{x:Int}{mi:Int}
  (hef: ∀(d:MV)(y:Int),ef (ρb.set 0 (some d)) (SN S y)=zX 2 yE [.val (.loc S.length),.val (.int (wid ts t))] (SN S y)): ∃(cs:List Nat)(x':Int),jE (gNm 0) (λρ S=>(R.ok true S)) ef ρb [] ((List.range mi.toNat).map λk=>MV.int (k:Nat)) (SN S x)=.ok (cs.map xK) (SN S x')/\cs.length=mi.toNat/\ ∀c∈cs,(c:Int)<wid ts t:=by
 have hw:=yLW hT ht
 obtain⟨out,S',e,⟨x',rfl⟩,hl,hp⟩:=yFP (gf:=gNm 0) (cf:=λρ S=>(R.ok true S)) (ef:=ef) (ρb:=ρb) (gs:=[]) (P:=λy=> ∃c:Nat,y=xK c/\(c:Int)<wid ts t) (I:=λS'=> ∃y,S'=SN S y) (ds:=(List.range mi.toNat).map λk=>MV.int (k:Nat)) (S:=SN S x) (λd hd S1 ⟨y,hy⟩=>by
  subst hy
  have h0:0<=y % wid ts t:=eN _ (by omega)
  have h1:y % wid ts t<wid ts t:=eL _ (by omega)
  obtain⟨c,hc⟩:=Int.eq_ofNat_of_zero_le h0
  refine⟨ρb.set 0 (some d),.int (y % wid ts t),SN S (y / wid ts t),rfl,rfl,?_,⟨c,by rw [hc];rfl,by omega⟩,⟨_,rfl⟩,gC _⟩
  rw [hef,zPB S y (by omega) (by omega)]) ⟨x,rfl⟩
 have: ∀(o:List MV),(∀y∈o, ∃c:Nat,y=xK c/\(c:Int)<wid ts t)-> ∃cs:List Nat,o=cs.map xK/\ ∀c∈cs,(c:Int)<wid ts t:=by
  intro o
  induction o with
  |nil=>exact λ_=>⟨[],rfl,λc hc=>by simp at hc⟩
  |cons a o ih=>
   intro h
   obtain⟨c,rfl,hc⟩:=h a mF0
   obtain⟨cs,rfl,hcs⟩:=ih λy hy=>h y (mO _ hy)
   exact⟨c::cs,rfl,λd hd=>(mC0.mp hd).elim (λe=>e▸hc) (hcs d)⟩
 obtain⟨cs,rfl,hcs⟩:=this out hp
 exact⟨cs,x',e,by rw [lM0,lM0,length_range]at hl;exact hl,hcs⟩
theorem yFR{ts:List (Int×Int)}{t:Nat}(ht:t<ts.length)(S:Sto): ∃e,ixF (.val (.tup (ts.map tbl))) (.val (.int (t:Nat))) S=.ok (.val e) S/\ixF (.val e) (.val (.int 0)) S=.ok (.val (.int (wid ts t))) S:=by
 have hgt:ts[t]? =some ts[t]:=gE0 ht
 exact⟨tbl ts[t],ix_tup (yDG hgt),by rw [zTZ hgt];rfl⟩
theorem yPY{ts:List (Int×Int)}(hT:TOk ts)(c:Int){lp:Nat}{vs:List MV}{S:Sto}(hv:vs.length=7)(hV: ∀d∈vs,Vl d)(hP:S[lp]? =some (.lst vs)):
  ∃r,yAO ts r/\zX 3 kO [.val (.int c),.val (.tup (ts.map tbl)),.val (.loc lp)] S=.ok (.val (zJU r)) S:=by
 obtain⟨n,hn⟩:=zYD c 2147483543 ⟨by decide,by decide⟩ S
 have hlp:lp<S.length:=(gS0.mp hP).1
 have hne:S.length≠lp:=by omega
 have hPn: ∀x,(SN S x)[lp]? =some (.lst vs):=λx=>by rw [getElem?_append_left hlp];exact hP
 have hp:0<ts.length:=hT.1
 have hl4:=hT.2.1
 have hlen: ∀S,xB [.val (.tup (ts.map tbl))] S=.ok (.val (.int ts.length)) S:=λS=>by rw [kE,lM0]
 have fin: ∀(r:Rule)(x:Int),yAO ts r->kO [.int c,.tup (ts.map tbl),.loc lp] S=.ok (.val (zJU r)) (SN S x)-> ∃r,yAO ts r/\zX 3 kO [.val (.int c),.val (.tup (ts.map tbl)),.val (.loc lp)] S=.ok (.val (zJU r)) S:=
  λr x hr h=>⟨r,hr,zBM (T:=[.lst [.int x]]) rfl h (yPX hr _) (yDH r)⟩
 have hs:zS zBO [.int c,.tup (ts.map tbl),.loc lp]=[some (.int c),some (.tup (ts.map tbl)),some (.loc lp),none,none,none,none,none,none]:=rfl
 have e1:zGB [some (.int c),some (.tup (ts.map tbl)),some (.loc lp),none,none,none,none,none,none] S=.ok (.next (U9 (.int c) (.tup (ts.map tbl)) lp S.length none none none none none)) (SN S n):=by
  unfold zGB
  simp? [hn]
 have e2:zGC (U9 (.int c) (.tup (ts.map tbl)) lp S.length none none none none none) (SN S n)=.ok (.next (U9 (.int c) (.tup (ts.map tbl)) lp S.length (some (.int (n % 4))) none none none none)) (SN S (n / 4)):=by
  unfold zGC
  simp? [zPB S n (n:=4) (by decide) (by decide)]
 obtain⟨t,ht,htl⟩:=yAP (n / 4) hp
 have e3:zGD (U9 (.int c) (.tup (ts.map tbl)) lp S.length (some (.int (n % 4))) none none none none) (SN S (n / 4))=.ok (.next (U9 (.int c) (.tup (ts.map tbl)) lp S.length (some (.int (n % 4))) (some (.int (t:Nat))) none none none)) (SN S (n / 4 / ts.length)):=by
  unfold zGD
  simp? [hlen,zPB S (n / 4) (n:=(ts.length:Int)) (by omega) (by omega)]
  rw [ht]
 obtain⟨u,hu,hul⟩:=yAP (n / 4 / ts.length) hp
 have e4:zGE (U9 (.int c) (.tup (ts.map tbl)) lp S.length (some (.int (n % 4))) (some (.int (t:Nat))) none none none) (SN S (n / 4 / ts.length))=.ok (.next (U9 (.int c) (.tup (ts.map tbl)) lp S.length (some (.int (n % 4))) (some (.int (t:Nat))) (some (.int (u:Nat))) none none)) (SN S (n / 4 / ts.length / ts.length)):=by
  unfold zGE
  simp? [hlen,zPB S (n / 4 / ts.length) (n:=(ts.length:Int)) (by omega) (by omega)]
  rw [hu]
 generalize n / 4 / ts.length / ts.length=x4 at e4
 cases hb:decide (n % 4=0)with
 |true=>
  obtain⟨qs,x',q1,q2,q3,hc⟩:=yAN hT (th:=[t]) ⟨by simp,by simp,λz hz=>by rw [mS.mp hz];exact htl⟩ hne hv hV (hPn x4) (yLX S x4)
  rw [yDI]at hc
  have e5:bW (U9 (.int c) (.tup (ts.map tbl)) lp S.length (some (.int (n % 4))) (some (.int (t:Nat))) (some (.int (u:Nat))) none none) (SN S x4)=.ok (.ret (.val (zJU (.never t qs)))) (SN S x'):=by
   unfold bW
   have hc':zX 4 wI [.val (.loc S.length),.val (.tup [.int (t:Nat)]),.val (.tup (ts.map tbl)),.val (.loc lp)] (SN S x4)=.ok (.val (.tup (qs.map testM))) (SN S x'):=hc
   simp? [hb,zJW,hc']
   rfl
  refine fin (.never t qs) x' ⟨htl,q1,q2,q3⟩ ?_
  unfold kO zFB
  rw [hs,zE e1,zE e2,zE e3,zE e4,zU e5]
  rfl
 |false=>
  have e5:bW (U9 (.int c) (.tup (ts.map tbl)) lp S.length (some (.int (n % 4))) (some (.int (t:Nat))) (some (.int (u:Nat))) none none) (SN S x4)=.ok (.next (U9 (.int c) (.tup (ts.map tbl)) lp S.length (some (.int (n % 4))) (some (.int (t:Nat))) (some (.int (u:Nat))) none none)) (SN S x4):=by
   unfold bW
   simp? [hb]
   rfl
  cases hb2:decide (n % 4<3)with
  |true=>
   obtain⟨qs,x',q1,q2,q3,hc⟩:=yAN hT (th:=[t,u]) ⟨by simp,by simp,λz hz=>by simp at hz;rcases hz with rfl|rfl;(exact htl);exact hul⟩ hne hv hV (hPn x4) (yLX S x4)
   rw [yDI]at hc
   have e6:bX (U9 (.int c) (.tup (ts.map tbl)) lp S.length (some (.int (n % 4))) (some (.int (t:Nat))) (some (.int (u:Nat))) none none) (SN S x4)=.ok (.ret (.val (zJU (.apart t u qs)))) (SN S x'):=by
    unfold bX
    have hc':zX 4 wI [.val (.loc S.length),.val (.tup [.int (t:Nat),.int (u:Nat)]),.val (.tup (ts.map tbl)),.val (.loc lp)] (SN S x4)=.ok (.val (.tup (qs.map testM))) (SN S x'):=hc
    simp? [lt_int,hb2,tup4,hc']
    rfl
   refine fin (.apart t u qs) x' ⟨htl,hul,q1,q2,q3⟩ ?_
   unfold kO zFB
   rw [hs,zE e1,zE e2,zE e3,zE e4,zE e5,zU e6]
   rfl
  |false=>
   have e6:bX (U9 (.int c) (.tup (ts.map tbl)) lp S.length (some (.int (n % 4))) (some (.int (t:Nat))) (some (.int (u:Nat))) none none) (SN S x4)=.ok (.next (U9 (.int c) (.tup (ts.map tbl)) lp S.length (some (.int (n % 4))) (some (.int (t:Nat))) (some (.int (u:Nat))) none none)) (SN S x4):=by
    unfold bX
    simp? [lt_int,hb2]
    rfl
   obtain⟨m,hm⟩:=gM (xs:=[MV.int 1,MV.int 2,MV.int 1,MV.int 3,MV.int 1]) (i:=x4 % 5) (eN _ (by decide)) (by have:=eL x4 (show(0:Int)<5 by decide);show x4 % 5<5;exact this)
   obtain⟨mi,rfl,m1,m3⟩: ∃v,m=.int v/\1<=v/\v<=3:=gN (P:=λe=> ∃v,e=.int v/\(1:Int)<=v/\v<=3) (by
    intro e he;simp only [mC0,nM0,or_false]at he
    rcases he with rfl|rfl|rfl|rfl|rfl<;>exact⟨_,rfl,by decide,by decide⟩) hm
   have e7:zGF (U9 (.int c) (.tup (ts.map tbl)) lp S.length (some (.int (n % 4))) (some (.int (t:Nat))) (some (.int (u:Nat))) none none) (SN S x4)=.ok (.next (U9 (.int c) (.tup (ts.map tbl)) lp S.length (some (.int (n % 4))) (some (.int (t:Nat))) (some (.int (u:Nat))) (some (.int mi)) none)) (SN S (x4 / 5)):=by
    unfold zGF
    simp? [lst5,zPB S x4 (n:=5) (by decide) (by decide),zMZ hm]
   obtain⟨cs,x8,hcs,hcl,hcw⟩:=yFQ hT htl (ef:=cG) (ρb:=[none,some (.tup (ts.map tbl)),some (.loc S.length),some (.int (t:Nat))]) (S:=S) (x:=x4 / 5) (mi:=mi) (λd y=>by
    obtain⟨e,i1,i2⟩:=yFR htl (SN S y)
    show cG [some d,some (.tup (ts.map tbl)),some (.loc S.length),some (.int (t:Nat))] (SN S y)=_
    unfold cG
    simp? [i1,i2])
   have hll:((List.range mi.toNat).map λk=>MV.int (k:Nat)).length<1000000:=by rw [lM0,length_range];omega
   have e8:zGG (U9 (.int c) (.tup (ts.map tbl)) lp S.length (some (.int (n % 4))) (some (.int (t:Nat))) (some (.int (u:Nat))) (some (.int mi)) none) (SN S (x4 / 5))=.ok (.next (U9 (.int c) (.tup (ts.map tbl)) lp S.length (some (.int (n % 4))) (some (.int (t:Nat))) (some (.int (u:Nat))) (some (.int mi)) (some (.tup (cs.map xK))))) (SN S x8):=by
    unfold zGG
    simp? [zNA (S:=SN S (x4 / 5)) (show -(2 ^ 62)<=mi/\mi<2 ^ 62 by omega)]
    rw [iP hll]
    rw [show blk 1 [1,3,5] (U9 (.int c) (.tup (ts.map tbl)) lp S.length (some (.int (n % 4))) (some (.int (t:Nat))) (some (.int (u:Nat))) (some (.int mi)) none)=[none,some (.tup (ts.map tbl)),some (.loc S.length),some (.int (t:Nat))]from rfl]
    rw [show zJR=(λρ S=>(R.ok true S))from rfl,hcs]
    rfl
   obtain⟨ds,x9,hds,hdl,hdw⟩:=yFQ hT hul (ef:=cH) (ρb:=[none,some (.tup (ts.map tbl)),some (.loc S.length),some (.int (u:Nat))]) (S:=S) (x:=x8) (mi:=mi) (λd y=>by
    obtain⟨e,i1,i2⟩:=yFR hul (SN S y)
    show cH [some d,some (.tup (ts.map tbl)),some (.loc S.length),some (.int (u:Nat))] (SN S y)=_
    unfold cH
    simp? [i1,i2])
   have e9:zGH (U9 (.int c) (.tup (ts.map tbl)) lp S.length (some (.int (n % 4))) (some (.int (t:Nat))) (some (.int (u:Nat))) (some (.int mi)) (some (.tup (cs.map xK)))) (SN S x8)=.ok (.ret (.val (zJU (.tie t cs u ds)))) (SN S x9):=by
    unfold zGH
    simp? [zNA (S:=SN S x8) (show -(2 ^ 62)<=mi/\mi<2 ^ 62 by omega)]
    rw [iP hll]
    rw [show blk 1 [1,3,6] (U9 (.int c) (.tup (ts.map tbl)) lp S.length (some (.int (n % 4))) (some (.int (t:Nat))) (some (.int (u:Nat))) (some (.int mi)) (some (.tup (cs.map xK))))=[none,some (.tup (ts.map tbl)),some (.loc S.length),some (.int (u:Nat))]from rfl]
    rw [show zJS=(λρ S=>(R.ok true S))from rfl,hds]
    simp? [show zAM [.new (ds.map xK)] (SN S x9)=.ok (.val (.tup (ds.map xK))) (SN S x9)from rfl,tup5]
    rfl
   refine fin (.tie t cs u ds) x9 ⟨htl,hul,by omega,by omega,by omega,hcw,hdw⟩ ?_
   unfold kO zFB
   rw [hs,zE e1,zE e2,zE e3,zE e4,zE e5,zE e6,zE e7,zE e8,e9]
   rfl
theorem yFS(S:Sto):zFI (.val (.int 10)) (.val (.int 30)) S=.ok (.val (.int (10 ^ 30))) S:=rfl
theorem le_int(i j:Int)(S:Sto):leF (.val (.int i)) (.val (.int j)) S=.ok (.val (.bl (decide (i<=j)))) S:=rfl
theorem le_str(i j:List Nat)(S:Sto):leF (.val (.str i)) (.val (.str j)) S=.ok (.val (.bl (!decide (j<i)))) S:=rfl
theorem zYK(i:Int)(S:Sto):jI [.val (.int i),.val (.typ "int")] S=.ok (.val (.bl true)) S:=rfl
theorem zYL(i:Int)(S:Sto):jI [.val (.int i),.val (.typ "bool")] S=.ok (.val (.bl false)) S:=rfl
theorem yUO(i:List Nat)(S:Sto):jI [.val (.str i),.val (.typ "int")] S=.ok (.val (.bl false)) S:=rfl
theorem yM{n:Nat}{F:List MV->Sto->R Er}{rs:List Er}{S:Sto}{b:Bool}(hn:rs.length=n)(hF:F (zY rs S).1 (zY rs S).2=.ok (.val (.bl b)) S):zX n F rs S=.ok (.val (.bl b)) S:=zHF hn hF (zTK _ _) (λl=>by simp)
theorem zLD(i:Int)(S:Sto):zX 1 jA [.val (.int i)] S=.ok (.val (.bl true)) S:=yM rfl (by
 show yK (zDJ [some (.int i)] S)=_
 unfold zDJ zII
 simp? [zYK,zYL,zAI]
 rfl)
theorem yAQ(i:List Nat)(S:Sto):zX 1 jA [.val (.str i)] S=.ok (.val (.bl false)) S:=yM rfl (by
 show yK (zDJ [some (.str i)] S)=_
 unfold zDJ zII
 simp? [yUO,zAI]
 rfl)
theorem yLY: ∀{n:Nat}{S:Sto},zVF [.new (List.replicate n (.bl true))] S=.ok (.val (.bl true)) S:=by
 intro n S
 have h: ∀n:Nat,zHE (List.replicate n (.bl true))=some (List.replicate n true):=by
  intro n
  induction n with
  |zero=>rfl
  |succ n ih=>rw [replicate_succ,replicate_succ];unfold zHE;rw [ih];rfl
 show(match (some (List.replicate n (MV.bl true))).bind zHE with |some bs=>R.ok (Er.val (.bl (bs.all id))) S|none=>.no)=_
 rw [show(some (List.replicate n (MV.bl true))).bind zHE=some (List.replicate n true)from h n]
 show R.ok (Er.val (.bl ((List.replicate n true).all id))) S=_
 rw [show(List.replicate n true).all id=true by simp]
theorem yLZ{ds:List MV}:ds.map (λ_=>MV.bl true)=List.replicate ds.length (.bl true):=by
 induction ds with
 |nil=>rfl
 |cons d ds ih=>rw [map_cons,lC0,replicate_succ,ih]
theorem yPZ(ds:List MV)(a b:Int)(S:Sto):zX 3 xP [.val (.tup ds),.val (.int a),.val (.int b)] S=.ok (.val (.bl (decide (a<=ds.length)&&decide ((ds.length:Int)<=b)))) S:=yM rfl (by
 show yK (zNF [some (.tup ds),some (.int a),some (.int b)] S)=_
 unfold zNF zOX
 simp? [zAI,kE,chF,le_int]
 cases decide (a<=(ds.length:Int))<;>rfl)
theorem yQA(i b:Int)(S:Sto):zX 2 zT [.val (.int i),.val (.int b)] S=.ok (.val (.bl (decide (0<=i)&&decide (i<b)))) S:=yM rfl (by
 show yK (kM [some (.int i),some (.int b)] S)=_
 unfold kM bE
 simp? [zLD,zAI,chF,le_int,lt_int]
 cases decide (0<=i)<;>rfl)
def SqM(S:Sto)(m:MV)(ds:List MV):Prop:=m=.tup ds\/ ∃l,m=.loc l/\S[l]? =some (.lst ds)
theorem SqM.ix{S:Sto}{m:MV}{ds:List MV}{i:Int}{d:MV}(h:SqM S m ds)(hk:atI ds i=some d):ixF (.val m) (.val (.int i)) S=.ok (.val d) S:=by
 rcases h with rfl|⟨l,rfl,hS⟩
 ·exact ix_tup hk
 ·exact nA hS hk
theorem SqM.len{S:Sto}{m:MV}{ds:List MV}(h:SqM S m ds):xB [.val m] S=.ok (.val (.int ds.length)) S:=by
 rcases h with rfl|⟨l,rfl,hS⟩
 ·rfl
 ·exact yPE hS
theorem SqM.app{S T:Sto}{m:MV}{ds:List MV}(h:SqM S m ds):SqM (S++T) m ds:=by
 rcases h with h|⟨l,h,hS⟩
 ·exact .inl h
 ·exact .inr ⟨l,h,by rw [getElem?_append_left (gS0.mp hS).1];exact hS⟩
theorem SqM.tuple{m:MV}{ds:List MV}(h:SqM S m ds):zAM [.val m] S=.ok (.val (.tup ds)) S:=by
 rcases h with rfl|⟨l,rfl,hS⟩
 ·rfl
 ·exact zMC hS
theorem p1012(S:Sto):zFI (.val (.int 10)) (.val (.int 12)) S=.ok (.val (.int 1000000000000)) S:=rfl
theorem yUP(S:Sto)(a b:MO):(S++[a,b])[S.length+1]? =some b:=by
 rw [getElem?_append_right (by omega),show S.length+1 - S.length=1 by omega]
 rfl
theorem gt_int(i j:Int)(S:Sto):gtF (.val (.int i)) (.val (.int j)) S=.ok (.val (.bl (decide (j<i)))) S:=rfl
mutual
def pq:MV->Bool
 |.int _=>true
 |.str x=>decide (x.length<=1000)
 |.bl _=>true
 |.non=>true
 |.tup ds=>pqL ds&&decide (ds.length<=1000)
 |_=>false
def pqL:List MV->Bool
 |[]=>true
 |d::ds=>pq d&&pqL ds
end
theorem yMA(i:Int):pq (.int i)=true:=by rw [pq]
theorem yRO(i:Bool):pq (.bl i)=true:=by rw [pq]
theorem yUQ:pq .non=true:=by rw [pq]
theorem yUR{x:List Nat}(h:x.length<=1000):pq (.str x)=true:=by rw [pq];exact dT0 h
theorem zYM(ds:List MV):pq (.tup ds)=(pqL ds&&decide (ds.length<=1000)):=by rw [pq]
theorem yQB:pqL []=true:=by rw [pqL]
theorem zPC(d:MV)(ds:List MV):pqL (d::ds)=(pq d&&pqL ds):=by rw [pqL]
theorem yFT: ∀{ds:List MV},(∀d∈ds,pq d=true)->pqL ds=true
 |[],_=>yQB
 |d::ds,h=>by rw [zPC,h d mF0,yFT λe he=>h e (mO _ he)];rfl
theorem yFU: ∀{ds:List MV},pqL ds=true-> ∀d∈ds,pq d=true
 |[],_,d,h=>by simp at h
 |e::ds,hp,d,h=>by
  rw [zPC,aE]at hp
  rcases mC0.mp h with rfl|h
  ·exact hp.1
  ·exact yFU hp.2 d h
theorem yMB{ds:List MV}(h: ∀d∈ds,pq d=true)(hl:ds.length<=1000):pq (.tup ds)=true:=by rw [zYM,yFT h,dT0 hl];rfl
theorem kW{d:MV}(h:pq d=true):(∃i,d=.int i)\/(∃x,d=.str x/\x.length<=1000)\/(∃b,d=.bl b)\/d=.non\/ ∃ds,d=.tup ds/\(∀e∈ds,pq e=true)/\ds.length<=1000:=by
 cases d with
 |int i=>exact .inl ⟨i,rfl⟩
 |str x=>rw [pq]at h;exact .inr (.inl ⟨x,rfl,of_decide_eq_true h⟩)
 |bl b=>exact .inr (.inr (.inl ⟨b,rfl⟩))
 |non=>exact .inr (.inr (.inr (.inl rfl)))
 |tup ds=>
  rw [zYM,aE]at h
  exact .inr (.inr (.inr (.inr ⟨ds,rfl,yFU h.1,of_decide_eq_true h.2⟩)))
 |_=>rw [pq]at h<;>first |cases h|(intros;simp)
theorem yRP{n:Nat}: ∀(k:Nat){d:MV},dpt d<k->pq d=true->lo n d
 |0,d,h,_=>by omega
 |k+1,d,hk,h=>by
  rcases kW h with⟨i,rfl⟩|⟨x,rfl,_⟩|⟨b,rfl⟩|rfl|⟨ds,rfl,hp,_⟩
  ·exact cO _ _
  ·exact zIG _ _
  ·exact zTK _ _
  ·exact yCT _
  ·rw [zMD]at hk
   exact zAN (gL λe he=>yRP k (by have:=zLC e he;omega) (hp e he))
theorem zUB{d:MV}(h:pq d=true)(l:Nat):d≠.loc l:=by
 rintro rfl
 rw [pq]at h<;>first |cases h|(intros;simp)
theorem zPD{e:MV->MV->Option Bool}: ∀{ds:List MV},(∀d∈ds,e d d=some true)->prs e ds ds=some (ds.map λ_=>true)
 |[],_=>rfl
 |d::ds,h=>by
  unfold prs
  rw [h d mF0,zPD λa ha=>h a (mO _ ha)]
  rfl
theorem zQM(ds:List MV):(ds.map λ_=>true).all id=true:=by
 rw [all_eq_true]
 intro b hb
 obtain⟨_,_,rfl⟩:=mM0.mp hb
 rfl
theorem eqv_refl{S:Sto}: ∀(n:Nat){d:MV},pq d=true->dpt d<n->eqv S n d d=some true
 |0,d,_,h=>by omega
 |n+1,d,hd,h=>by
  rcases kW hd with⟨i,rfl⟩|⟨x,rfl,_⟩|⟨b,rfl⟩|rfl|⟨ds,rfl,hp,_⟩
  ·rw [zRT,dT0 rfl]
  ·rw [zOR,dT0 rfl]
  ·rw [yTZ,beq_self_eq_true]
  ·rfl
  ·rw [zMD]at h
   show((prs (eqv S n) ds ds).map λbs=>bs.all id&&ds.length==ds.length)=_
   rw [zPD λd hd=>eqv_refl n (hp d hd) (by have:=zLC d hd;omega)]
   show some ((ds.map λ_=>true).all id&&ds.length==ds.length)=_
   rw [zQM,beq_self_eq_true]
   rfl
theorem yMC{S:Sto}(n:Nat){d:MV}(y:List Nat)(h:pq d=true):eqv S (n+1) d (.str y)=some (decide (d=.str y)):=by
 rcases kW h with⟨i,rfl⟩|⟨x,rfl,_⟩|⟨b,rfl⟩|rfl|⟨ds,rfl,_⟩
 ·rw [yKL,dF0 (by simp)]
 ·rw [zOR];exact congrArg some (dec_is (by simp))
 ·rw [dF0 (by simp)];rfl
 ·rw [dF0 (by simp)];rfl
 ·rw [dF0 (by simp)];rfl
theorem yUS{S:Sto}(n:Nat){d:MV}(y:List Nat)(h:pq d=true):eqv S (n+1) (.str y) d=some (decide (MV.str y=d)):=by
 rcases kW h with⟨i,rfl⟩|⟨x,rfl,_⟩|⟨b,rfl⟩|rfl|⟨ds,rfl,_⟩
 ·rw [yKM,dF0 (by simp)]
 ·rw [zOR];exact congrArg some (dec_is (by simp))
 ·rw [dF0 (by simp)];rfl
 ·rw [dF0 (by simp)];rfl
 ·rw [dF0 (by simp)];rfl
theorem yMD{d:MV}(y:List Nat)(h:pq d=true)(S:Sto):eqF (.val d) (.val (.str y)) S=.ok (.val (.bl (decide (d=.str y)))) S:=zTN (yMC _ y h)
theorem yME{S:Sto}{d:MV}(h:pq d=true): ∀(ys:List (List Nat)),zVE S yN d (ys.map MV.str)=some (ys.map λy=>decide (MV.str y=d))
 |[]=>rfl
 |y::ys=>by
  rw [map_cons]
  unfold zVE
  rw [show yN=39+1 from rfl,yUS 39 y h, <-show yN=39+1 from rfl,yME h ys]
  rfl
theorem yUT(ys:List (List Nat))(d:MV):(ys.map λy=>decide (MV.str y=d)).any id=decide (d∈ys.map MV.str):=by
 rw [List.any_map]
 by_cases h:d∈ys.map MV.str
 ·rw [dT0 h,List.any_eq_true]
  obtain⟨y,hy,e⟩:=mM0.mp h
  exact⟨y,hy,by simp [e]⟩
 ·rw [dF0 h,List.any_eq_false]
  intro y hy
  simp only [Function.comp,id,decide_eq_true_eq]
  exact λe=>h (mM0.mpr ⟨y,hy,e⟩)
theorem yUU{S:Sto}{d:MV}{q:Er}{ys:List (List Nat)}(neg:Bool)(h:pq d=true)(hq:itemsOf S q=some (ys.map MV.str)):zPZ neg (.val d) q S=.ok (.val (.bl (if neg=true then !decide (d∈ys.map MV.str)else decide (d∈ys.map MV.str)))) S:=by
 unfold zPZ
 dsimp only
 rw [hq]
 dsimp only
 rw [yME h]
 dsimp only
 rw [yUT]
theorem yRQ{S:Sto}{d:MV}{q:Er}{ys:List (List Nat)}(neg:Bool)(h:pq d=true)(hq:itemsOf S q=some (ys.map MV.str))(hn: ∀y,q≠.val (.str y)):inF neg (.val d) q S=.ok (.val (.bl (if neg=true then !decide (d∈ys.map MV.str)else decide (d∈ys.map MV.str)))) S:=by
 rw [<-yUU neg h hq]
 unfold inF
 split
 ·exact absurd rfl (hn _)
 ·rfl
def isI:MV->Bool
 |.int _=>true
 |_=>false
theorem zSC{d:MV}(h:pq d=true)(S:Sto):zX 1 jA [.val d] S=.ok (.val (.bl (isI d))) S:=by
 rcases kW h with⟨i,rfl⟩|⟨x,rfl,_⟩|⟨b,rfl⟩|rfl|⟨ds,rfl,_⟩
 ·exact zLD i S
 ·exact yAQ x S
 ·exact yM rfl rfl
 ·exact yM rfl rfl
 ·exact yM rfl rfl
def oKc(c:Nat):Bool:=decide (97<=c)&&decide (c<=122)
def nmB(x:List Nat):Bool:=decide (1<=x.length)&&decide (x.length<=8)&&x.all oKc
def nmD:MV->Bool
 |.str x=>nmB x
 |_=>false
theorem le_a(c:Nat):(!decide ([c]<[97]))=decide (97<=c):=by
 rw [<-decide_not]
 refine decide_eq_decide.mpr ?_
 rw [List.cons_lt_cons_iff]
 simp
theorem le_z(c:Nat):(!decide ([122]<[c]))=decide (c<=122):=by
 rw [<-decide_not]
 refine decide_eq_decide.mpr ?_
 rw [List.cons_lt_cons_iff]
 simp
theorem zSD{α:Type}(f:α->Bool)(xs:List α)(S:Sto):zVF [.new (xs.map λx=>.bl (f x))] S=.ok (.val (.bl (xs.all f))) S:=by
 have h: ∀xs:List α,zHE (xs.map λx=>.bl (f x))=some (xs.map f):=by
  intro xs
  induction xs with
  |nil=>rfl
  |cons x xs ih=>rw [map_cons,map_cons];unfold zHE;rw [ih];rfl
 show(match (some (xs.map λx=>MV.bl (f x))).bind zHE with |some bs=>R.ok (Er.val (.bl (bs.all id))) S|none=>.no)=_
 rw [show(some (xs.map λx=>MV.bl (f x))).bind zHE=some (xs.map f)from h xs]
 show R.ok (Er.val (.bl ((xs.map f).all id))) S=_
 rw [List.all_map]
 rfl
theorem yUV{d:MV}(h:pq d=true)(S:Sto):zX 1 zLZ [.val d] S=.ok (.val (.bl (nmD d))) S:=by
 rcases kW h with⟨i,rfl⟩|⟨x,rfl,hx⟩|⟨b,rfl⟩|rfl|⟨ds,rfl,_⟩
 ·exact yM rfl rfl
 ·refine yM rfl ?_
  have hl: ∀S,xB [.val (.str x)] S=.ok (.val (.int x.length)) S:=λS=>iP (fits (by omega))
  have e1:zKL [some (.str x)] S=if(decide (1<=x.length)&&decide (x.length<=8))=true then .ok (.next [some (.str x)]) S else .ok (.ret (.val (.bl false))) S:=by
   unfold zKL
   simp? [hl,chF,le_int]
   by_cases h1:1<=x.length
   ·by_cases h2:x.length<=8
    ·simp only [dT0 h1,dT0 h2,dT0 (show(1:Int)<=(x.length:Int) by omega),dT0 (show(x.length:Int)<=8 by omega)];rfl
    ·simp only [dT0 h1,dF0 h2,dT0 (show(1:Int)<=(x.length:Int) by omega),dF0 (show¬(x.length:Int)<=8 by omega)];rfl
   ·simp only [dF0 h1,dF0 (show¬(1:Int)<=(x.length:Int) by omega)];rfl
  have hc:jE (gNm 0) zBE bT (blk 1 [] [some (.str x)]) [] (x.map λc=>.str [c]) S=.ok (x.map λc=>MV.bl (oKc c)) S:=by
   have:=zBN (gf:=gNm 0) (cf:=zBE) (ef:=bT) (ρb:=blk 1 [] [some (.str x)]) (gs:=[]) (ds:=x.map λc=>MV.str [c]) (F:=λd=>match d with |.str [c]=>.bl (oKc c)|_=>.non) (gC S) λd hd=>by
    obtain⟨c,hc,rfl⟩:=mM0.mp hd
    refine⟨[some (.str [c])],rfl,rfl,?_⟩
    unfold bT oKc
    simp? [chF,le_str,le_a,le_z]
    cases decide (97<=c)<;>rfl
   rw [this,map_map]
   rfl
  have e2:zKM [some (.str x)] S=.ok (.ret (.val (.bl (x.all oKc)))) S:=by
   unfold zKM
   simp? [bok]
   show(((((if(x.map λc=>MV.str [c]).length<1000000 then(jE (gNm 0) zBE bT (blk 1 [] [some (.str x)]) [] (x.map λc=>.str [c]) S).bind λo S=>R.ok (Er.new o) S else .no).bind λp S1=>R.ok [p] S1).bind zVF).bind λr S1=>R.ok (Fl.ret r) S1))=_
   rw [iP (by rw [lM0];omega),hc,bok,bok,bok,zSD]
   rfl
  show yK (zQE [some (.str x)] S)=.ok (.val (.bl (nmB x))) S
  unfold zQE nmB
  cases h8:decide (1<=x.length)&&decide (x.length<=8)with
  |true=>
   rw [h8,iP rfl]at e1
   rw [zE e1,e2]
   rfl
  |false=>
   rw [h8,iN0 xF0]at e1
   rw [zU e1]
   rfl
 ·exact yM rfl rfl
 ·exact yM rfl rfl
 ·exact yM rfl rfl
def vlD:MV->Bool
 |.int i=>decide (-(10 ^ 30)<i)&&decide (i<10 ^ 30)
 |.str x=>nmB x
 |_=>false
theorem yQC{d:MV}(h:pq d=true)(S:Sto):zX 1 zIK [.val d] S=.ok (.val (.bl (vlD d))) S:=by
 refine yM rfl ?_
 have e2:zIJ [some d] S=.ok (.ret (.val (.bl (nmD d)))) S:=by
  unfold zIJ
  simp? [yUV h]
 show yK (zNE [some d] S)=_
 unfold zNE
 cases hi:isI d with
 |false=>
  have e1:nB [some d] S=.ok (.next [some d]) S:=by
   unfold nB
   simp? [zSC h,hi,fT,iF]
  rw [zE e1,e2]
  cases d<;>first |rfl|cases hi
 |true=>
  obtain⟨i,rfl⟩: ∃i,d=.int i:=by cases d<;>first |exact⟨_,rfl⟩|cases hi
  have habs:yHL [.val (.int i)] S=.ok (.val (.int (if i<0 then -i else i))) S:=rfl
  have hlt:decide ((if i<0 then -i else i)<(10:Int) ^ 30)=vlD (.int i):=by
   show _=(decide (-(10 ^ 30)<i)&&decide (i<10 ^ 30))
   rw [<-decide_and]
   exact decide_eq_decide.mpr (by split<;>omega)
  rw [zU (show nB [some (.int i)] S=.ok (.ret (.val (.bl (vlD (.int i))))) S by
   unfold nB
   simp? [zLD,habs,yFS,lt_int,hlt])]
  rfl
def inT(a b:Int):MV->Bool
 |.tup ds=>decide (a<=ds.length)&&decide ((ds.length:Int)<=b)
 |_=>false
theorem cJ{d:MV}(h:pq d=true)(a b:Int)(S:Sto):zX 3 xP [.val d,.val (.int a),.val (.int b)] S=.ok (.val (.bl (inT a b d))) S:=by
 rcases kW h with⟨i,rfl⟩|⟨x,rfl,_⟩|⟨k,rfl⟩|rfl|⟨ds,rfl,_⟩
 ·exact yM rfl rfl
 ·exact yM rfl rfl
 ·exact yM rfl rfl
 ·exact yM rfl rfl
 ·exact yPZ ds a b S
def inB(b:Int):MV->Bool
 |.int i=>decide (0<=i)&&decide (i<b)
 |_=>false
theorem zIZ{d:MV}(h:pq d=true)(b:Int)(S:Sto):zX 2 zT [.val d,.val (.int b)] S=.ok (.val (.bl (inB b d))) S:=by
 cases hi:isI d with
 |false=>
  have e:inB b d=false:=by cases d<;>first |rfl|cases hi
  rw [e]
  refine yM rfl ?_
  show yK (kM [some d,some (.int b)] S)=_
  unfold kM bE
  simp? [zSC h,hi,zAI]
  rfl
 |true=>
  obtain⟨i,rfl⟩: ∃i,d=.int i:=by cases d<;>first |exact⟨_,rfl⟩|cases hi
  exact yQA i b S
def pr:MV->Option (MV×MV)
 |.tup [a,b]=>some (a,b)
 |_=>none
theorem yRR{d a b:MV}(h:pr d=some (a,b)):d=.tup [a,b]:=by
 unfold pr at h
 split at h
 ·cases h;rfl
 ·cases h
theorem pr_in{d:MV}:inT 2 2 d=(pr d).isSome:=by
 cases d with
 |tup ds=>
  match ds with
  |[]=>rfl
  |[_]=>rfl
  |[_,_]=>rfl
  |_::_::_::r=>
   show(decide ((2:Int)<=((r.length+3:Nat):Int))&&decide (((r.length+3:Nat):Int)<=2))=false
   rw [dF0 (show¬(((r.length+3:Nat):Int)<=2) by omega),Bool.and_false]
 |_=>rfl
theorem pr_pq{d a b:MV}(h:pq d=true)(e:pr d=some (a,b)):pq a=true/\pq b=true:=by
 rw [yRR e,zYM,zPC,zPC,aE,aE,aE]at h
 exact⟨h.1.1,h.1.2.1⟩
def zNK:MV->Option (List MV)
 |.tup ds=>some ds
 |_=>none
theorem i2_0(a b:MV)(S:Sto):ixF (.val (.tup [a,b])) (.val (.int 0)) S=.ok (.val a) S:=rfl
theorem i2_1(a b:MV)(S:Sto):ixF (.val (.tup [a,b])) (.val (.int 1)) S=.ok (.val b) S:=rfl
theorem yQD(S:Sto)(o:MO):(S++[o])[S.length]? =some o:=by simp
theorem zPE(ds:List MV)(S:Sto):itT (.val (.tup ds)) S=.ok ⟨ds,[]⟩ S:=rfl
theorem zJA{b:MV}{ds:List MV}(h:zNK b=some ds):b=.tup ds:=by
 cases b<;>first |(cases h;rfl)|cases h
theorem zPF{a b:Int}{d:MV}(h:zNK d=none):inT a b d=false:=by
 cases d<;>first |rfl|cases h
theorem zFD{S:Sto}{gf:MV->Rho->Sto->R Rho}{cf:Rho->Sto->R Bool}{ef:Rho->Sto->R Er}{ρb:Rho}{gs:List (Nat×List MV)}{p:MV->Bool}(hs:stay gs S):
  ∀{ds:List MV},(∀d∈ds, ∃ρ1,gf d ρb S=.ok ρ1 S/\cf ρ1 S=.ok (p d) S/\ef ρ1 S=.ok (.val d) S)->jE gf cf ef ρb gs ds S=.ok (ds.filter p) S
 |[],_=>rfl
 |d::ds,st=>by
  obtain⟨ρ1,h1,h2,h3⟩:=st d mF0
  have e:=zFD hs (p:=p) (ds:=ds) λd hd=>st d (mO _ hd)
  unfold jE
  cases hp:p d with
  |true=>
   rw [h1,dY,bok,h2,dY,bok,hp,iP rfl,h3,dY,bok]
   unfold zIC
   rw [bok,iP hs,e,List.filter_cons_of_pos hp]
   rfl
  |false=>
   rw [h1,dY,bok,h2,dY,bok,hp,iN0 xF0,iP hs,e,List.filter_cons_of_neg (by rw [hp];exact xF0)]
theorem yQE(ds:List MV)(S:Sto):eqF (.new ds) (.new []) S=.ok (.val (.bl ds.isEmpty)) S:=by
 cases ds<;>rfl
theorem yMF{α:Type}(p:α->Bool)(xs:List α):(xs.filter λx=>!p x).isEmpty=xs.all p:=by
 induction xs with
 |nil=>rfl
 |cons x xs ih=>
  rw [all_cons]
  cases h:p x with
  |true=>rw [List.filter_cons_of_neg (by rw [h];simp),ih];rfl
  |false=>rw [List.filter_cons_of_pos (by rw [h];rfl)];rfl
theorem yQF(c:Nat):decide (c∈abc)=oKc c:=by
 unfold oKc
 rw [<-decide_and]
 refine decide_eq_decide.mpr ?_
 rw [show abc=List.range' 97 26 from rfl,List.mem_range'_1]
 omega
theorem yQG{d:MV}(h:pq d=true)(S:Sto): ∃k1 k2,jI [.val d,.val (.typ "int")] S=.ok (.val (.bl k1)) S/\jI [.val d,.val (.typ "bool")] S=.ok (.val (.bl k2)) S/\(k1&& !k2)=isI d:=by
 rcases kW h with⟨i,rfl⟩|⟨x,rfl,_⟩|⟨b,rfl⟩|rfl|⟨ds,rfl,_⟩
 ·exact⟨true,false,rfl,rfl,rfl⟩
 ·exact⟨false,false,rfl,rfl,rfl⟩
 ·exact⟨true,true,rfl,rfl,rfl⟩
 ·exact⟨false,false,rfl,rfl,rfl⟩
 ·exact⟨false,false,rfl,rfl,rfl⟩
theorem yFV{d:MV}(h:pq d=true)(S:Sto):jI [.val d,.val (.typ "tuple")] S=.ok (.val (.bl (zNK d).isSome)) S:=by
 rcases kW h with⟨i,rfl⟩|⟨x,rfl,_⟩|⟨b,rfl⟩|rfl|⟨ds,rfl,_⟩<;>rfl
theorem SqM.itE{S:Sto}{m:MV}{ds:List MV}(h:SqM S m ds): ∃gs,stay gs S/\itE [.val m] S=.ok ⟨zTO ds,gs⟩ S:=by
 rcases h with rfl|⟨l,rfl,hS⟩
 ·exact⟨[],gC _,rfl⟩
 ·refine⟨[(l,ds)],yKP hS,?_⟩
  have e:srcOf S (.val (.loc l))=some ⟨true,ds,[(l,ds)]⟩:=by
   unfold srcOf
   dsimp only
   rw [hS]
  unfold L2.M.itE
  dsimp only
  rw [e]
theorem yFW{gf:MV->Rho->Sto->R Rho}{b:Rho->Sto->R Fl}{gs:List (Nat×List MV)}{d:MV}{ds:List MV}{ρ ρ0:Rho}{S S0 S':Sto}{c:Str}{fs:List (Str×MV)}(hg:gf d ρ S=.ok ρ0 S0)(h:b ρ0 S0=.exc c fs S'):bS gf b gs (d::ds) ρ S=.exc c fs S':=by
 unfold bS
 rw [hg,bok,h]
 rfl
theorem yFX{F G:Rho->Sto->R Fl}{ρ:Rho}{S S':Sto}{c:Str}{fs:List (Str×MV)}(h:F ρ S=.exc c fs S'):zN F G ρ S=.exc c fs S':=by
 unfold zN
 rw [h]
 rfl
theorem lst4(a b c d:MV)(S:Sto):jP [.val a,.val b,.val c,.val d] S=.ok (.new [a,b,c,d]) S:=zFJ (by simp)
theorem tup0(S:Sto):xE [] S=.ok (.val (.tup [])) S:=zNB (by simp)
theorem lst8(a b c d e f g h:MV)(S:Sto):jP [.val a,.val b,.val c,.val d,.val e,.val f,.val g,.val h] S=.ok (.new [a,b,c,d,e,f,g,h]) S:=zFJ (by simp)
def Td(n:Nat)(d:MV):Prop:=pq d=true/\dpt d<=n
theorem Td.up{n m:Nat}{d:MV}(h:Td n d)(hn:n<=m):Td m d:=⟨h.1,le_trans h.2 hn⟩
theorem yI(n:Nat)(i:Int):Td n (.int i):=⟨yMA i,by rw [zYG];exact zero_le _⟩
theorem yRS(n:Nat)(i:Bool):Td n (.bl i):=⟨yRO i,by simp [dpt]⟩
theorem zYN(n:Nat):Td n .non:=⟨yUQ,by simp [dpt]⟩
theorem kD(n:Nat){x:List Nat}(h:x.length<=1000):Td n (.str x):=⟨yUR h,by rw [yFM];exact zero_le _⟩
theorem jZ{n:Nat}{ds:List MV}(h: ∀d∈ds,Td n d)(hl:ds.length<=1000):Td (n+1) (.tup ds):=⟨yMB (λd hd=>(h d hd).1) hl,by rw [zMD];exact Nat.succ_le_succ (zYH λd hd=>(h d hd).2)⟩
theorem Td.lo{n:Nat}{d:MV}(h:Td n d)(k:Nat):lo k d:=yRP (n+1) (Nat.lt_succ_of_le h.2) h.1
theorem at0{α:Type}(d:α)(r:List α):atI (d::r) 0=some d:=by
 unfold atI ixN
 rw [iP (Int.le_refl 0),iP (by rw [lC0];omega)]
 rfl
theorem yQH(ds:List MV)(l h:Option Int)(S:Sto):kY (.val (.tup ds)) l h S=.ok (.val (.tup (xF ds l h))) S:=rfl
theorem zYO(ns:List Int)(k:Int)(hk:0<=k)(S:Sto): ∃c,zX 2 xD [.val (.scr (ns.map MV.int)),.val (.int k)] S=.ok (.val (.int c)) S:=by
 have hlen:xB [.val (.scr (ns.map MV.int))] S=.ok (.val (.int ns.length)) S:=by
  show R.ok (Er.val (.int (((ns.map MV.int).length:Nat):Int))) S=_
  rw [lM0]
 have e1:zAP [some (.scr (ns.map MV.int)),some (.int k)] S=if decide (k<ns.length)=true then(ixF (.val (.scr (ns.map MV.int))) (.val (.int k)) S).bind λr S1=>.ok (.ret r) S1 else .ok (.next [some (.scr (ns.map MV.int)),some (.int k)]) S:=by
  unfold zAP
  simp? [hlen,lt_int]
 have fin: ∀c,xD [.scr (ns.map MV.int),.int k] S=.ok (.val (.int c)) S-> ∃c,zX 2 xD [.val (.scr (ns.map MV.int)),.val (.int k)] S=.ok (.val (.int c)) S:=λc h=>⟨c,zHF rfl h (cO _ _) (λl=>by simp)⟩
 have hs:zS ["_law_script","_law_k"] [.scr (ns.map MV.int),.int k]=[some (.scr (ns.map MV.int)),some (.int k)]:=rfl
 by_cases hlt:k<ns.length
 ·obtain⟨d,hd⟩:=gM (xs:=ns.map MV.int) (i:=k) hk (by rw [lM0];exact hlt)
  obtain⟨c,rfl⟩: ∃c,d=.int c:=gN (P:=λd=> ∃c,d=.int c) (λe he=>by obtain⟨c,_,rfl⟩:=mM0.mp he;exact⟨c,rfl⟩) hd
  have hix:ixF (.val (.scr (ns.map MV.int))) (.val (.int k)) S=.ok (.val (.int c)) S:=by
   show(match atI (ns.map MV.int) k with |some d=>R.ok (Er.val d) S|none=>.no)=_
   rw [hd]
  refine fin c ?_
  rw [dT0 hlt,iP rfl,hix,bok]at e1
  unfold xD zDS
  rw [hs,zU e1]
  rfl
 ·refine fin 0 ?_
  rw [dF0 hlt,iN0 xF0]at e1
  unfold xD zDS
  rw [hs,zE e1]
  rfl
theorem zYP{B L:Sto}{n i:Nat}(h:B.length=n):(B++L)[n+i]? =L[i]? :=by
 rw [getElem?_append_right (by omega),h,Nat.add_sub_cancel_left]
theorem zNL{B L:Sto}{m:Nat}{o:MO}(h:B[m]? =some o):(B++L)[m]? =some o:=by
 rw [getElem?_append_left (gS0.mp h).1];exact h
theorem yMG{S:Sto}{l:Nat}{ds:List MV}(hS:S[l]? =some (.lst ds)):zWI [.val (.loc l)] S=.ok (.new ds) S:=by
 show(match dZ S (.val (.loc l))with |some ds=>R.ok (Er.new ds) S|none=>.no)=_
 rw [zHG hS]
theorem yUW{S:Sto}{u n k:Nat}{ds:List MV}(hu:S[u]? =some (.lst ds))(hn:S[n]? =some (.lst ds))(hp: ∀d∈ds,pq d=true/\dpt d<k):eqv S (k+1) (.loc u) (.loc n)=some true:=by
 have e: ∀l,S[l]? =some (.lst ds)->vwE S (.val (.loc l))=some (.ls ds):=λl h=>by
  show(dZ S (.val (.loc l))).map Vw.ls=_
  rw [zHG h];rfl
 unfold eqv
 rw [e u hu,e n hn]
 show(if ds.length=ds.length then(prs (eqv S k) ds ds).map λbs=>bs.all id else some false)=_
 rw [iP rfl,zPD λd hd=>eqv_refl k (hp d hd).1 (hp d hd).2]
 show some ((ds.map λ_=>true).all id)=_
 rw [zQM]
theorem yUX{S:Sto}(n:Nat)(ds:List MV):eqv S (n+1) (.tup ds) (.tup [])=some (decide (ds=[])):=by
 cases ds with
 |nil=>rfl
 |cons d r=>rfl
theorem yRT(ds:List MV)(S:Sto):eqF (.val (.tup ds)) (.val (.tup [])) S=.ok (.val (.bl (decide (ds=[])))) S:=zTN (yUX _ ds)
theorem yMH{d:MV}(y:List Nat)(h:pq d=true)(S:Sto):neF (.val d) (.val (.str y)) S=.ok (.val (.bl (!decide (d=.str y)))) S:=yKN (yMC _ y h)
theorem zRN{ds:List MV}(h:pq (.tup ds)=true): ∀e∈ds,pq e=true:=by
 rcases kW h with⟨_,z⟩|⟨_,z,_⟩|⟨_,z⟩|z|⟨es,z,htm,_⟩
 ·cases z
 ·cases z
 ·cases z
 ·cases z
 ·cases z
  exact htm
theorem yMI{ds:List MV}(h:pq (.tup ds)=true):ds.length<=1000:=by
 rcases kW h with⟨_,z⟩|⟨_,z,_⟩|⟨_,z⟩|z|⟨es,z,_,hl⟩
 ·cases z
 ·cases z
 ·cases z
 ·cases z
 ·cases z
  exact hl
theorem i3_0(a b c:MV)(S:Sto):ixF (.val (.tup [a,b,c])) (.val (.int 0)) S=.ok (.val a) S:=rfl
theorem yDJ(a b c:MV)(S:Sto):ixF (.val (.tup [a,b,c])) (.val (.int 1)) S=.ok (.val b) S:=rfl
theorem yMJ(a b c:MV)(S:Sto):ixF (.val (.tup [a,b,c])) (.val (.int 2)) S=.ok (.val c) S:=rfl
theorem zYQ{b:Int}{d:MV}(h:inB b d=true): ∃k:Nat,d=.int (k:Nat)/\(k:Int)<b:=by
 cases d with
 |int i=>
  have h':0<=i/\i<b:=by simpa [inB]using h
  exact⟨i.toNat,by rw [Int.toNat_of_nonneg h'.1],by rw [Int.toNat_of_nonneg h'.1];exact h'.2⟩
 |_=>cases h
def wAt(ws:List Int):MV->Int
 |.int k=>(ws[k.toNat]?).getD 0
 |_=>0
noncomputable def sdD(ws:List Int):MV->Bool
 |.tup [a,b]=>decide (a=.str sIs)&&vlD b
 |.tup [a,b,c]=>decide (a=.str gE)&&(inB ws.length b&&inB (wAt ws b) c)
 |_=>false
theorem yQI{ws:List Int}{k:Nat}(h:k<ws.length):atI (ws.map MV.int) (k:Int)=some (.int (wAt ws (.int (k:Nat)))):=by
 unfold atI ixN
 rw [iP (by omega),iP (by rw [lM0];omega)]
 show(ws.map MV.int)[(k:Int).toNat]? =some (.int (((ws[(k:Int).toNat]?)).getD 0))
 rw [toNat_natCast,getElem?_map,gE0 h]
 rfl
theorem zPG{a b:Int}(ds:List MV):inT a b (.tup ds)=(decide (a<=(ds.length:Int))&&decide ((ds.length:Int)<=b)):=rfl
section
variable{ws:List Int}{m d:MV}{S:Sto}
theorem zJB(h:pq d=true)(h2:inT 2 2 d=false)(h3:inT 3 3 d=false):zDD [some d,some m] S=.ok (.ret (.val (.bl false))) S:=by
 have e1:gR [some d,some m] S=.ok (.next [some d,some m]) S:=by
  unfold gR
  simp? [cJ h,h2,fT,iF]
 have e2:zBP [some d,some m] S=.ok (.ret (.val (.bl false))) S:=by
  unfold zBP
  simp? [cJ h,h3,Bool.not_false]
 unfold zDD
 rw [zE e1,zU e2]
theorem yMK(hm:SqM S m (ws.map MV.int))(h:pq d=true):zX 2 zHK [.val d,.val m] S=.ok (.val (.bl (sdD ws d))) S:=by
 refine yM rfl ?_
 show yK (zDD [some d,some m] S)=_
 match d,h with
 |.int i,h=>rw [zJB h rfl rfl];rfl
 |.str i,h=>rw [zJB h rfl rfl];rfl
 |.bl i,h=>rw [zJB h rfl rfl];rfl
 |.non,h=>rw [zJB h rfl rfl];rfl
 |.loc i,h=>exact absurd rfl (zUB h i)
 |.typ i,h=>simp [pq]at h
 |.scr i,h=>simp [pq]at h
 |.tup [],h=>rw [zJB h rfl rfl];rfl
 |.tup [a],h=>rw [zJB h rfl rfl];rfl
 |.tup [a,b],h=>
  have ha:=zRN h a (by simp)
  have hb:=zRN h b (by simp)
  have e1:gR [some (.tup [a,b]),some m] S=.ok (.ret (.val (.bl (sdD ws (.tup [a,b]))))) S:=by
   unfold gR
   simp? [cJ h,show inT 2 2 (.tup [a,b])=true from rfl,i2_0,i2_1,yMD _ ha,zAI,yQC hb]
   show _=R.ok (Fl.ret (.val (.bl (decide (a=.str [105,115])&&vlD b)))) S
   cases decide (a=MV.str [105,115])<;>rfl
  unfold zDD
  rw [zU e1]
  rfl
 |.tup [a,b,c],h=>
  have ha:=zRN h a (by simp)
  have hb:=zRN h b (by simp)
  have hc:=zRN h c (by simp)
  have e1:gR [some (.tup [a,b,c]),some m] S=.ok (.next [some (.tup [a,b,c]),some m]) S:=by
   unfold gR
   simp? [cJ h,show inT 2 2 (.tup [a,b,c])=false from rfl,fT,iF]
  have e2:zBP [some (.tup [a,b,c]),some m] S=if decide (a=.str gE)=true then .ok (.next [some (.tup [a,b,c]),some m]) S else .ok (.ret (.val (.bl false))) S:=by
   unfold zBP
   simp? [cJ h,show inT 3 3 (.tup [a,b,c])=true from rfl,Bool.not_true,fT,iF,i3_0,yMH _ ha]
   show _=if decide (a=.str [99,101,108,108])=true then _ else _
   cases decide (a=MV.str [99,101,108,108])<;>rfl
  unfold zDD
  rw [zE e1]
  cases hk:decide (a=MV.str gE)with
  |false=>
   rw [hk,iN0 xF0]at e2
   rw [zU e2]
   show R.ok (Er.val (.bl false)) S=R.ok (Er.val (.bl (decide (a=.str gE)&&(inB ws.length b&&inB (wAt ws b) c)))) S
   rw [hk]
   rfl
  |true=>
   rw [hk,iP rfl]at e2
   rw [zE e2]
   have e3:zKN [some (.tup [a,b,c]),some m] S=.ok (.ret (.val (.bl (inB ws.length b&&inB (wAt ws b) c)))) S:=by
    unfold zKN
    have hl:xB [.val m] S=.ok (.val (.int ws.length)) S:=by have:=hm.len;rwa [lM0]at this
    simp? [yDJ,yMJ,hl,zIZ hb,zAI]
    cases hB:inB ws.length b with
    |false=>rfl
    |true=>
     obtain⟨k,rfl,hk2⟩:=zYQ hB
     simp? [hm.ix (yQI (ofNat_lt.mp hk2)),zIZ hc]
     rfl
   rw [e3]
   show R.ok (Er.val (.bl _)) S=R.ok (Er.val (.bl (decide (a=.str gE)&&(inB ws.length b&&inB (wAt ws b) c)))) S
   rw [hk]
   rfl
 |.tup (a::b::c::e::r),h=>
  rw [zJB h (by rw [zPG];simp;omega) (by rw [zPG];simp;omega)]
  rfl
end
noncomputable def tsD(ws:List Int):MV->Bool
 |.tup [a,b,c]=>sdD ws a&&(decide (b∈words3.map MV.str)&&sdD ws c)
 |_=>false
noncomputable def zJC(ws:List Int)(d:MV):Bool:=inT 1 3 d&&(match zNK d with |some qs=>qs.all (tsD ws)|none=>false)
def clD(w:Int)(d:MV):Bool:=inT 1 3 d&&(match zNK d with |some cs=>cs.all (inB w)|none=>false)
section
variable{ws:List Int}{m d:MV}{S:Sto}{ts:List (Int×Int)}
theorem zFE(h:pq d=true)(h3:inT 3 3 d=false):zHL [some d,some m] S=.ok (.ret (.val (.bl false))) S:=by
 have e1:zBQ [some d,some m] S=.ok (.ret (.val (.bl false))) S:=by
  unfold zBQ
  simp? [cJ h,h3,Bool.not_false]
 unfold zHL
 rw [zU e1]
theorem yUY(hm:SqM S m (ws.map MV.int))(h:pq d=true):zX 2 zMA [.val d,.val m] S=.ok (.val (.bl (tsD ws d))) S:=by
 refine yM rfl ?_
 show yK (zHL [some d,some m] S)=_
 match d,h with
 |.int i,h=>rw [zFE h rfl];rfl
 |.str i,h=>rw [zFE h rfl];rfl
 |.bl i,h=>rw [zFE h rfl];rfl
 |.non,h=>rw [zFE h rfl];rfl
 |.loc i,h=>exact absurd rfl (zUB h i)
 |.typ i,h=>simp [pq]at h
 |.scr i,h=>simp [pq]at h
 |.tup [],h=>rw [zFE h rfl];rfl
 |.tup [a],h=>rw [zFE h rfl];rfl
 |.tup [a,b],h=>rw [zFE h rfl];rfl
 |.tup (a::b::c::e::r),h=>
  rw [zFE h (by rw [zPG];simp;omega)]
  rfl
 |.tup [a,b,c],h=>
  have ha:=zRN h a (by simp)
  have hb:=zRN h b (by simp)
  have hc:=zRN h c (by simp)
  have e1:zBQ [some (.tup [a,b,c]),some m] S=.ok (.next [some (.tup [a,b,c]),some m]) S:=by
   unfold zBQ
   simp? [cJ h,show inT 3 3 (.tup [a,b,c])=true from rfl,Bool.not_true,fT,iF]
  have hw:inF false (.val b) (.val (.tup [.str [115,97,109,101],.str [117,110,108,105,107,101],.str [108,101,115,115]])) S=.ok (.val (.bl (decide (b∈words3.map MV.str)))) S:=by
   have:=yRQ (S:=S) (q:=.val (.tup (words3.map MV.str))) (ys:=words3) false hb rfl (λy hy=>by cases hy)
   rw [iN0 xF0]at this
   exact this
  have e2:zKO [some (.tup [a,b,c]),some m] S=.ok (.ret (.val (.bl (sdD ws a&&(decide (b∈words3.map MV.str)&&sdD ws c))))) S:=by
   unfold zKO
   simp? [i3_0,yDJ,yMJ,yMK hm ha,zAI]
   cases sdD ws a with
   |false=>rfl
   |true=>
    simp? [hw]
    cases decide (b∈words3.map MV.str)with
    |false=>rfl
    |true=>
     simp? [yMK hm hc]
     rfl
  unfold zHL
  rw [zE e1,e2]
  rfl
theorem f_tss(hm:SqM S m (ws.map MV.int))(h:pq d=true):gS [d,m] S=.ok (.val (.bl (zJC ws d))) S:=by
 show yK (zKP [some d,some m] S)=_
 unfold zKP zMM zJC
 cases ht:zNK d with
 |none=>
  simp? [cJ h,zPF ht,zAI]
  rfl
 |some qs=>
  have hd:=zJA ht
  subst hd
  have hp:=zRN h
  have hlen:=yMI h
  have hc:jE (gNm 0) zJO zCF [none,some m] [] qs S=.ok (qs.map λq=>MV.bl (tsD ws q)) S:=zBN (F:=λq=>.bl (tsD ws q)) (gC S) λq hq=>⟨[some q,some m],rfl,rfl,by
   unfold zCF
   simp? [yUY hm (hp q hq)]⟩
  have hlt:qs.length<1000000:=by omega
  simp? [cJ h,zAI]
  cases inT 1 3 (.tup qs)with
  |false=>rfl
  |true=>
   simp? [zPE,hlt,show blk 1 [1] [some (.tup qs),some m]=[none,some m]from rfl,hc,zSD,Bool.true_and]
   rfl
theorem yML(h:pq d=true)(S:Sto):zX 2 gS [.val d,.new (ws.map MV.int)] S=.ok (.val (.bl (zJC ws d))) S:=by
 have hf:=f_tss (ws:=ws) (m:=.loc S.length) (S:=S++[.lst (ws.map MV.int)]) (.inr ⟨S.length,rfl,by simp⟩) h
 refine zBM (T:=[.lst (ws.map MV.int)]) rfl ?_ (zTK _ _) (λl=>by simp)
 rw [show zY [.val d,.new (ws.map MV.int)] S=([d,.loc S.length],S++[.lst (ws.map MV.int)])from rfl]
 exact hf
theorem yUZ(h:pq d=true)(w:Int)(S:Sto):zX 2 zBF [.val d,.val (.int w)] S=.ok (.val (.bl (clD w d))) S:=by
 refine yM rfl ?_
 show yK (zFL [some d,some (.int w)] S)=_
 unfold zFL zJP clD
 cases ht:zNK d with
 |none=>
  simp? [cJ h,zPF ht,zAI]
  rfl
 |some qs=>
  have hd:=zJA ht
  subst hd
  have hp:=zRN h
  have hlen:=yMI h
  have hc:jE (gNm 0) zFA nE [none,some (.int w)] [] qs S=.ok (qs.map λq=>MV.bl (inB w q)) S:=zBN (F:=λq=>.bl (inB w q)) (gC S) λq hq=>⟨[some q,some (.int w)],rfl,rfl,by
   unfold nE
   simp? [zIZ (hp q hq)]⟩
  have hlt:qs.length<1000000:=by omega
  simp? [cJ h,zAI]
  cases inT 1 3 (.tup qs)with
  |false=>rfl
  |true=>
   simp? [zPE,hlt,show blk 1 [1] [some (.tup qs),some (.int w)]=[none,some (.int w)]from rfl,hc,zSD,Bool.true_and]
   rfl
end
def tW(ts:List (Int×Int)):MV->Int
 |.int t=>wid ts t.toNat
 |_=>0
def lnT(d:MV):Int:=match zNK d with |some cs=>(cs.length:Int)|none=>0
noncomputable def nvD(ts:List (Int×Int)):List MV->Bool
 |[a,b]=>inB ts.length a&&zJC [tW ts a] b
 |_=>false
noncomputable def apD(ts:List (Int×Int)):List MV->Bool
 |[a,b,c]=>(inB ts.length a&&inB ts.length b)&&zJC [tW ts a,tW ts b] c
 |_=>false
def tiD(ts:List (Int×Int)):List MV->Bool
 |[a,b,c,e]=>(inB ts.length a&&clD (tW ts a) b)&&((inB ts.length c&&clD (tW ts c) e)&&decide (lnT b=lnT e))
 |_=>false
noncomputable def rlD(ts:List (Int×Int))(w:List Nat)(ds:List MV):Bool:=if w=xH then nvD ts ds else if w=yZ then apD ts ds else if w=jY then tiD ts ds else false
section
variable{ts:List (Int×Int)}{m:MV}{S:Sto}{w:List Nat}{ds:List MV}
theorem yFY(hm:SqM S m (ts.map tbl)){t:Nat}(ht:t<ts.length): ∃e,ixF (.val m) (.val (.int (t:Nat))) S=.ok (.val e) S/\ixF (.val e) (.val (.int 0)) S=.ok (.val (.int (wid ts t))) S:=by
 have hgt:ts[t]? =some ts[t]:=gE0 ht
 exact⟨tbl ts[t],hm.ix (yDG hgt),by rw [zTZ hgt];rfl⟩
theorem zUC(hm:SqM S m (ts.map tbl)):xB [.val m] S=.ok (.val (.int ts.length)) S:=by rw [hm.len,lM0]
theorem yVA(t:Nat):tW ts (.int (t:Nat))=wid ts t:=by
 show wid ts ((t:Int).toNat)=wid ts t
 rw [toNat_natCast]
theorem yAR(hm:SqM S m (ts.map tbl)){a:MV}(h:inB ts.length a=true): ∃e,ixF (.val m) (.val a) S=.ok (.val e) S/\ixF (.val e) (.val (.int 0)) S=.ok (.val (.int (tW ts a))) S:=by
 obtain⟨k,rfl,hk⟩:=zYQ h
 rw [yVA]
 exact yFY hm (ofNat_lt.mp hk)
theorem zSE{w:Int}{d:MV}(h:clD w d=true): ∃cs,d=.tup cs:=by
 unfold clD at h
 cases ht:zNK d with
 |none=>rw [ht,Bool.and_false]at h;cases h
 |some cs=>exact⟨cs,zJA ht⟩
theorem zUD(hl:ds.length≠2):zDK [some (.tup (.str w::ds)),some m] S=.ok (.ret (.val (.bl false))) S:=by
 have e1:nF [some (.tup (.str w::ds)),some m] S=.ok (.ret (.val (.bl false))) S:=by
  unfold nF
  simp? [kE,ne_int,dF0 (show¬(((MV.str w::ds).length:Nat):Int)=3 by rw [lC0];omega),Bool.not_false]
 unfold zDK
 rw [zU e1]
theorem yQJ(hm:SqM S m (ts.map tbl))(h: ∀d∈ds,pq d=true):zX 2 zIP [.val (.tup (.str w::ds)),.val m] S=.ok (.val (.bl (nvD ts ds))) S:=by
 refine yM rfl ?_
 show yK (zDK [some (.tup (.str w::ds)),some m] S)=_
 match ds,h with
 |[],h=>rw [zUD (by decide)];rfl
 |[a],h=>rw [zUD (by simp)];rfl
 |a::b::c::r,h=>rw [zUD (by simp)];rfl
 |[a,b],h=>
  have ha:=h a (by simp)
  have hb:=h b (by simp)
  have e1:nF [some (.tup [.str w,a,b]),some m] S=if inB ts.length a=true then .ok (.next [some (.tup [.str w,a,b]),some m]) S else .ok (.ret (.val (.bl false))) S:=by
   unfold nF
   simp? [show xB [.val (.tup [.str w,a,b])] S=.ok (.val (.int 3)) S from rfl,ne_int,show decide ((3:Int)=3)=true from rfl,Bool.not_true,fT,iF,yDJ,zUC hm,zIZ ha]
   cases inB ts.length a<;>rfl
  unfold zDK
  show yK _=R.ok (Er.val (.bl (inB ts.length a&&zJC [tW ts a] b))) S
  cases hB:inB ts.length a with
  |false=>
   rw [hB,iN0 xF0]at e1
   rw [zU e1]
   rfl
  |true=>
   rw [hB,iP rfl]at e1
   rw [zE e1]
   obtain⟨e,ix1,ix2⟩:=yAR hm hB
   have hc:=yML (ws:=[tW ts a]) hb S
   rw [show([tW ts a]:List Int).map MV.int=[.int (tW ts a)]from rfl]at hc
   have e2:zIO [some (.tup [.str w,a,b]),some m] S=.ok (.ret (.val (.bl (zJC [tW ts a] b)))) S:=by
    unfold zIO
    simp? [yMJ,yDJ,ix1,ix2]
    rw [hc]
    rfl
   rw [e2]
   rfl
theorem zPH(hl:ds.length≠3):zDN [some (.tup (.str w::ds)),some m] S=.ok (.ret (.val (.bl false))) S:=by
 have e1:nG [some (.tup (.str w::ds)),some m] S=.ok (.ret (.val (.bl false))) S:=by
  unfold nG
  simp? [kE,ne_int,dF0 (show¬(((MV.str w::ds).length:Nat):Int)=4 by rw [lC0];omega),Bool.not_false]
 unfold zDN
 rw [zU e1]
theorem yQK(hm:SqM S m (ts.map tbl))(h: ∀d∈ds,pq d=true):zX 2 zIR [.val (.tup (.str w::ds)),.val m] S=.ok (.val (.bl (apD ts ds))) S:=by
 refine yM rfl ?_
 show yK (zDN [some (.tup (.str w::ds)),some m] S)=_
 match ds,h with
 |[],h=>rw [zPH (by decide)];rfl
 |[a],h=>rw [zPH (by simp)];rfl
 |[a,b],h=>rw [zPH (by simp)];rfl
 |a::b::c::e::r,h=>rw [zPH (by simp)];rfl
 |[a,b,c],h=>
  have ha:=h a (by simp)
  have hb:=h b (by simp)
  have hc:=h c (by simp)
  generalize hR:MV.tup [.str w,a,b,c]=Rr
  have hl: ∀S,xB [.val Rr] S=.ok (.val (.int 4)) S:=λS=>by rw [<-hR];rfl
  have i3: ∀S,ixF (.val Rr) (.val (.int 3)) S=.ok (.val c) S:=λS=>by rw [<-hR];rfl
  have hcut: ∀S,kY (.val Rr) (some 1) (some 3) S=.ok (.val (.tup [a,b])) S:=λS=>by rw [<-hR];rfl
  have hc1:jE (gNm 0) zKQ zDL [none,some m] [] [a,b] S=.ok ([a,b].map λq=>MV.bl (inB ts.length q)) S:=zBN (F:=λq=>.bl (inB ts.length q)) (gC S) λq hq=>⟨[some q,some m],rfl,rfl,by
   unfold zDL
   have:pq q=true:=by
    rcases mC0.mp hq with rfl|hq
    ·exact ha
    ·rw [mS.mp hq];exact hb
   simp? [zUC hm,zIZ this]⟩
  have e1:nG [some Rr,some m] S=if(inB ts.length a&&inB ts.length b)=true then .ok (.next [some Rr,some m]) S else .ok (.ret (.val (.bl false))) S:=by
   unfold nG
   simp? [hl,ne_int,show decide ((4:Int)=4)=true from rfl,Bool.not_true,fT,iF,hcut,zPE,show([a,b]:List MV).length<1000000 from(by decide:2<1000000),show blk 1 [1] [some Rr,some m]=[none,some m]from rfl,hc1,zSD,show [a,b].all (λq=>inB ts.length q)=(inB ts.length a&&inB ts.length b) by simp]
   cases (inB ts.length a&&inB ts.length b)<;>rfl
  unfold zDN
  show yK _=R.ok (Er.val (.bl ((inB ts.length a&&inB ts.length b)&&zJC [tW ts a,tW ts b] c))) S
  cases hB:(inB ts.length a&&inB ts.length b)with
  |false=>
   rw [hB,iN0 xF0]at e1
   rw [zU e1]
   rfl
  |true=>
   rw [hB,iP rfl]at e1
   rw [zE e1]
   obtain⟨ba,bb⟩:=(aE _ _▸hB:_/\_)
   have hc2:jE (gNm 0) zKR zDM [none,some m] [] [a,b] S=.ok ([a,b].map λq=>MV.int (tW ts q)) S:=zBN (F:=λq=>.int (tW ts q)) (gC S) λq hq=>⟨[some q,some m],rfl,rfl,by
    unfold zDM
    have:inB ts.length q=true:=by
     rcases mC0.mp hq with rfl|hq
     ·exact ba
     ·rw [mS.mp hq];exact bb
    obtain⟨e,ix1,ix2⟩:=yAR hm this
    simp? [ix1,ix2]⟩
   have hcc:=yML (ws:=[tW ts a,tW ts b]) hc S
   rw [show([tW ts a,tW ts b]:List Int).map MV.int=[a,b].map λq=>MV.int (tW ts q)from rfl]at hcc
   have e2:zIQ [some Rr,some m] S=.ok (.ret (.val (.bl (zJC [tW ts a,tW ts b] c)))) S:=by
    unfold zIQ
    simp? [i3,hcut,zPE,show([a,b]:List MV).length<1000000 from(by decide:2<1000000),show blk 1 [1] [some Rr,some m]=[none,some m]from rfl,hc2]
    rw [hcc]
    rfl
   rw [e2]
   rfl
end
section
variable{ts:List (Int×Int)}{m:MV}{S:Sto}{w:List Nat}{ds:List MV}
theorem zUE(hl:ds.length≠4):zKS [some (.tup (.str w::ds)),some m,none,none] S=.ok (.ret (.val (.bl false))) S:=by
 have e1:zDO [some (.tup (.str w::ds)),some m,none,none] S=.ok (.ret (.val (.bl false))) S:=by
  unfold zDO
  simp? [kE,ne_int,dF0 (show¬(((MV.str w::ds).length:Nat):Int)=5 by rw [lC0];omega),Bool.not_false]
 unfold zKS
 rw [zU e1]
theorem j_tie(hm:SqM S m (ts.map tbl))(h: ∀d∈ds,pq d=true):zX 2 zOZ [.val (.tup (.str w::ds)),.val m] S=.ok (.val (.bl (tiD ts ds))) S:=by
 refine yM rfl ?_
 show yK (zKS [some (.tup (.str w::ds)),some m,none,none] S)=_
 match ds,h with
 |[],h=>rw [zUE (by decide)];rfl
 |[a],h=>rw [zUE (by simp)];rfl
 |[a,b],h=>rw [zUE (by simp)];rfl
 |[a,b,c],h=>rw [zUE (by simp)];rfl
 |a::b::c::e::f::r,h=>rw [zUE (by simp)];rfl
 |[a,b,c,e],h=>
  have ha:=h a (by simp)
  have hb:=h b (by simp)
  have hc:=h c (by simp)
  have he:=h e (by simp)
  generalize hR:MV.tup [.str w,a,b,c,e]=Rr
  have hl: ∀S,xB [.val Rr] S=.ok (.val (.int 5)) S:=λS=>by rw [<-hR];rfl
  have i1: ∀S,ixF (.val Rr) (.val (.int 1)) S=.ok (.val a) S:=λS=>by rw [<-hR];rfl
  have i2: ∀S,ixF (.val Rr) (.val (.int 2)) S=.ok (.val b) S:=λS=>by rw [<-hR];rfl
  have i3: ∀S,ixF (.val Rr) (.val (.int 3)) S=.ok (.val c) S:=λS=>by rw [<-hR];rfl
  have i4: ∀S,ixF (.val Rr) (.val (.int 4)) S=.ok (.val e) S:=λS=>by rw [<-hR];rfl
  have e1:zDO [some Rr,some m,none,none] S=.ok (.next [some Rr,some m,none,none]) S:=by
   unfold zDO
   simp? [hl,ne_int,show decide ((5:Int)=5)=true from rfl]
   rfl
  have turn: ∀{x y:MV},pq x=true->pq y=true->zNH [some Rr,some m,some x,some y] S=if(inB ts.length x&&clD (tW ts x) y)=true then .ok (.next [some Rr,some m,some x,some y]) S else .ok (.ret (.val (.bl false))) S:=λ{x y} hx hy=>by
   unfold zNH zOY
   simp? [zUC hm,zIZ hx]
   cases hB:inB ts.length x with
   |false=>rfl
   |true=>
    obtain⟨z,ix1,ix2⟩:=yAR hm hB
    simp? [Bool.not_true,fT,iF,ix1,ix2,yUZ hy]
    cases clD (tW ts x) y<;>rfl
  have hit: ∀S,itT (.val (.tup [.tup [a,b],.tup [c,e]])) S=.ok ⟨[.tup [a,b],.tup [c,e]],[]⟩ S:=λS=>rfl
  have g1: ∀(x y:MV)(p q:Option MV),gTp 2 (yT (gNm 2) (yT (gNm 3) dU)) (.tup [x,y]) [some Rr,some m,p,q] S=.ok [some Rr,some m,some x,some y] S:=λx y p q=>rfl
  unfold zKS
  rw [zE e1]
  show yK _=R.ok (Er.val (.bl ((inB ts.length a&&clD (tW ts a) b)&&((inB ts.length c&&clD (tW ts c) e)&&decide (lnT b=lnT e))))) S
  have t1:=turn ha hb
  have t2:=turn hc he
  cases h1:(inB ts.length a&&clD (tW ts a) b)with
  |false=>
   rw [h1,iN0 xF0]at t1
   have e2:cQ [some Rr,some m,none,none] S=.ok (.ret (.val (.bl false))) S:=by
    unfold cQ
    simp? [i1,i2,i3,i4,hit]
    exact zEY (g1 a b none none) t1
   rw [zU e2]
   rfl
  |true=>
   rw [h1,iP rfl]at t1
   cases h2:(inB ts.length c&&clD (tW ts c) e)with
   |false=>
    rw [h2,iN0 xF0]at t2
    have e2:cQ [some Rr,some m,none,none] S=.ok (.ret (.val (.bl false))) S:=by
     unfold cQ
     simp? [i1,i2,i3,i4,hit]
     rw [gD (g1 a b none none) t1 (gC S)]
     exact zEY (g1 c e _ _) t2
    rw [zU e2]
    rfl
   |true=>
    rw [h2,iP rfl]at t2
    have e2:cQ [some Rr,some m,none,none] S=.ok (.next [some Rr,some m,some c,some e]) S:=by
     unfold cQ
     simp? [i1,i2,i3,i4,hit]
     rw [gD (g1 a b none none) t1 (gC S),gD (g1 c e _ _) t2 (gC S)]
     rfl
    rw [zE e2]
    obtain⟨_,c1⟩:=(aE _ _▸h1:_/\_)
    obtain⟨_,c2⟩:=(aE _ _▸h2:_/\_)
    obtain⟨bs,rfl⟩:=zSE c1
    obtain⟨es,rfl⟩:=zSE c2
    have e3:zNI [some Rr,some m,some c,some (.tup es)] S=.ok (.ret (.val (.bl (decide (lnT (.tup bs)=lnT (.tup es)))))) S:=by
     unfold zNI
     simp? [i2,i4,kE]
     rfl
    rw [e3]
    rfl
theorem yVB(hm:SqM S m (ts.map tbl))(hw:w.length<=1000)(h: ∀d∈ds,pq d=true):zX 2 zHM [.val (.tup (.str w::ds)),.val m] S=.ok (.val (.bl (rlD ts w ds))) S:=by
 refine yM rfl ?_
 show yK (zQF [some (.tup (.str w::ds)),some m] S)=_
 have hn:=yQJ (w:=w) hm h
 have ha:=yQK (w:=w) hm h
 have ht:=j_tie (w:=w) hm h
 have hl: ∀S,xB [.val (.tup (.str w::ds))] S=.ok (.val (.int ((ds.length:Int)+1))) S:=λS=>by rw [kE,lC0];rfl
 have i0: ∀S,ixF (.val (.tup (.str w::ds))) (.val (.int 0)) S=.ok (.val (.str w)) S:=λS=>ix_tup (by unfold atI ixN;rw [iP (by decide),iP (by rw [lC0];omega)];rfl)
 have it: ∀S,jI [.val (.tup (.str w::ds)),.val (.typ "tuple")] S=.ok (.val (.bl true)) S:=λS=>rfl
 generalize MV.tup (.str w::ds)=Rr at *
 have e1:zKT [some Rr,some m] S=.ok (.next [some Rr,some m]) S:=by
  unfold zKT
  simp? [it,hl,dF0 (show¬((ds.length:Int)+1=0) by omega)]
  rfl
 unfold zQF rlD
 rw [zE e1]
 by_cases c1:w=xH
 ·have e2:zBR [some Rr,some m] S=.ok (.ret (.val (.bl (nvD ts ds)))) S:=by
   unfold zBR
   simp? [i0,eq_str,dT0 (show w=[110,101,118,101,114]from c1),hn]
  rw [zU e2,iP c1]
  rfl
 ·have e2:zBR [some Rr,some m] S=.ok (.next [some Rr,some m]) S:=by
   unfold zBR
   simp? [i0,eq_str,dF0 (show¬w=[110,101,118,101,114]from c1),fT,iF]
  rw [zE e2,iN0 c1]
  by_cases c2:w=yZ
  ·have e3:zBS [some Rr,some m] S=.ok (.ret (.val (.bl (apD ts ds)))) S:=by
    unfold zBS
    simp? [i0,eq_str,dT0 (show w=[97,112,97,114,116]from c2),ha]
   rw [zU e3,iP c2]
   rfl
  ·have e3:zBS [some Rr,some m] S=.ok (.next [some Rr,some m]) S:=by
    unfold zBS
    simp? [i0,eq_str,dF0 (show¬w=[97,112,97,114,116]from c2),fT,iF]
   rw [zE e3,iN0 c2]
   by_cases c3:w=jY
   ·have e4:zBT [some Rr,some m] S=.ok (.ret (.val (.bl (tiD ts ds)))) S:=by
     unfold zBT
     simp? [i0,eq_str,dT0 (show w=[116,105,101]from c3),ht,zAI]
    rw [e4,iP c3]
    rfl
   ·have e4:zBT [some Rr,some m] S=.ok (.ret (.val (.bl false))) S:=by
     unfold zBT
     simp? [i0,eq_str,dF0 (show¬w=[116,105,101]from c3),zAI]
     rfl
    rw [e4,iN0 c3]
    rfl
end
theorem zLE{d:MV}(h:pq d=true)(b:Int)(S:Sto):zX 2 xO [.val d,.val (.int b)] S=.ok (.val (.bl (inB b d))) S:=by
 refine yM rfl ?_
 show yK (zGQ [some d,some (.int b)] S)=_
 unfold zGQ zJT
 obtain⟨k1,k2,h1,h2,h3⟩:=yQG h S
 cases hi:isI d with
 |false=>
  have hb:inB b d=false:=by cases d<;>first |rfl|cases hi
  rw [hi]at h3
  rw [hb]
  simp? [h1,h2,zAI]
  cases k1 with
  |false=>rfl
  |true=>
   cases k2 with
   |false=>cases h3
   |true=>rfl
 |true=>
  obtain⟨i,rfl⟩: ∃i,d=.int i:=by cases d<;>first |exact⟨_,rfl⟩|cases hi
  show _=R.ok (Er.val (.bl (decide (0<=i)&&decide (i<b)))) S
  simp? [zYK,zYL,zAI,chF,le_int,lt_int]
  cases decide (0<=i)<;>rfl
theorem yMM{d:MV}(S:Sto)(h1:kQ [some d,none] S=.ok (.ret (.val (.bl false))) S)(h3:vlD d=false):zX 1 kC [.val d] S=.ok (.val (.bl (vlD d))) S:=by
 refine yM rfl ?_
 show yK (xG [some d,none] S)=_
 unfold xG
 rw [zU h1,h3]
 rfl
theorem yMN{α:Type}(p:α->Bool)(xs:List α):decide ((xs.filter p).length=xs.length)=xs.all p:=by
 rw [Bool.eq_iff_iff,decide_eq_true_eq,all_eq_true]
 exact List.length_filter_eq_length_iff
theorem yMO{d:MV}(h:pq d=true)(S:Sto):zX 1 kC [.val d] S=.ok (.val (.bl (vlD d))) S:=by
 rcases kW h with⟨i,rfl⟩|⟨x,rfl,hx⟩|⟨b,rfl⟩|rfl|⟨ds,rfl,_⟩
 ·refine yM rfl ?_
  have e1:kQ [some (.int i),none] S=.ok (.next [some (.int i),none]) S:=rfl
  have habs:yHL [.val (.int i)] S=.ok (.val (.int (if i<0 then -i else i))) S:=rfl
  have hlt:decide ((if i<0 then -i else i)<(10:Int) ^ 30)=vlD (.int i):=by
   show _=(decide (-(10 ^ 30)<i)&&decide (i<10 ^ 30))
   rw [<-decide_and]
   exact decide_eq_decide.mpr (by split<;>omega)
  have e2:kR [some (.int i),none] S=.ok (.ret (.val (.bl (vlD (.int i))))) S:=by
   unfold kR
   simp? [zYK,habs,yFS,lt_int,hlt]
  show yK (xG [some (.int i),none] S)=_
  unfold xG
  rw [zE e1,zU e2]
  rfl
 ·have hl: ∀S,xB [.val (.str x)] S=.ok (.val (.int x.length)) S:=λS=>iP (fits (by omega))
  have hc:jE (gNm 0) wK wL (blk 1 [] [some (.str x),none]) [] (x.map λc=>.str [c]) S=.ok ((x.filter oKc).map λc=>MV.str [c]) S:=by
   have:=zFD (gf:=gNm 0) (cf:=wK) (ef:=wL) (ρb:=blk 1 [] [some (.str x),none]) (gs:=[]) (ds:=x.map λc=>MV.str [c]) (p:=λd=>match d with |.str [c]=>oKc c|_=>false) (gC S) λd hd=>by
    obtain⟨c,hc,rfl⟩:=mM0.mp hd
    refine⟨[some (.str [c])],rfl,?_,rfl⟩
    show(inF false (.val (.str [c])) (.val (.str abc)) S).bind asB=_
    rw [show inF false (.val (.str [c])) (.val (.str abc)) S=.ok (.val (.bl (decide (c∈abc)))) S from rfl,yQF]
    rfl
   rw [this,List.filter_map]
   rfl
  have e1:kQ [some (.str x),none] S=.ok (.next [some (.str x),none]) S:=rfl
  have e2:kR [some (.str x),none] S=.ok (.next [some (.str x),none]) S:=rfl
  generalize hf:(x.filter oKc).map (λc=>MV.str [c])=fs at hc
  have hfl:fs.length=(x.filter oKc).length:=by rw [<-hf,lM0]
  have hfx:fs.length<=x.length:=by rw [hfl];exact List.length_filter_le _ _
  have e3:zBV [some (.str x),none] S=.ok (.next [some (.str x),some (.loc S.length)]) (S++[.lst fs]):=by
   show(if(x.map λc=>MV.str [c]).length<1000000 then(jE (gNm 0) wK wL (blk 1 [] [some (.str x),none]) [] (x.map λc=>.str [c]) S).bind λo S=>R.ok (Er.new o) S else .no).bind (zXM [some (.str x),none] 1)=_
   rw [iP (by rw [lM0];omega),hc,bok,bok]
   rfl
  have hll:xB [.val (.loc S.length)] (S++[.lst fs])=.ok (.val (.int fs.length)) (S++[.lst fs]):=SqM.len (.inr ⟨_,rfl,by simp⟩)
  have e4:gV [some (.str x),some (.loc S.length)] (S++[.lst fs])=.ok (.ret (.val (.bl (nmB x)))) (S++[.lst fs]):=by
   have z1:decide (0<(x.length:Int))=decide (1<=x.length):=dec_is (by omega)
   have z2:decide ((x.length:Int)<9)=decide (x.length<=8):=dec_is (by omega)
   have z3:decide ((fs.length:Int)=(x.length:Int))=x.all oKc:=by
    rw [<-yMN,hfl]
    exact dec_is (by omega)
   unfold gV nmB
   simp? [hl,hll,chF,lt_int,z1,z2,z3,zAI]
   cases decide (1<=x.length)with
   |false=>rfl
   |true=>
    cases decide (x.length<=8)with
    |false=>rfl
    |true=>simp? [hll,z3,Bool.true_and]
  refine zBM (T:=[.lst fs]) rfl ?_ (zTK _ _) (λl=>by simp)
  show yK (xG [some (.str x),none] S)=_
  unfold xG
  rw [zE e1,zE e2,zE e3,e4]
  rfl
 ·exact yMM S rfl rfl
 ·exact yMM S rfl rfl
 ·exact yMM S rfl rfl
theorem yMP(S:Sto):xE [] S=.ok (.val (.tup [])) S:=zNB (by simp)
def ThI(ts:List (Int×Int))(th:List MV):Prop:=(∀d∈th,pq d=true)/\ ∀d∈th,inB ts.length d=true
theorem th_at{th:List MV}{k:Nat}(h:k<th.length): ∃d,th[k]? =some d/\d∈th:=⟨th[k],gE0 h,getElem_mem h⟩
theorem yRU{α:Type}{th:List α}{k:Nat}{d:α}(h:th[k]? =some d):atI th (k:Int)=some d:=by
 have hl:=(gS0.mp h).1
 unfold atI ixN
 rw [iP (by omega),iP (by omega)]
 show th[(k:Int).toNat]? =_
 rw [toNat_natCast,h]
section
variable{ts:List (Int×Int)}{m d:MV}{S:Sto}{th:List MV}
theorem zLF(h:xT [some m,some (.tup th),some d] S=.ok (.ret (.val (.bl false))) S)(hs:sdD (th.map (tW ts)) d=false):zX 3 kT [.val m,.val (.tup th),.val d] S=.ok (.val (.bl (sdD (th.map (tW ts)) d))) S:=by
 refine yM rfl ?_
 show yK (kS [some m,some (.tup th),some d] S)=_
 unfold kS
 rw [zU h,hs]
 rfl
def is2:List MV->Bool
 |[b]=>vlD b
 |_=>false
theorem yVC{ws:List Int}{a:MV}{r:List MV}(h:a=.str sIs):sdD ws (.tup (a::r))=is2 r:=by
 subst h
 match r with
 |[]=>rfl
 |[b]=>show(decide (MV.str sIs=MV.str sIs)&&vlD b)=_;rw [dT0 rfl];rfl
 |[b,c]=>show(decide (MV.str sIs=MV.str gE)&&_)=_;rw [dF0 (by intro z;cases z)];rfl
 |b::c::e::r=>rfl
theorem yVD{ws:List Int}{a:MV}{r:List MV}(h1: ¬a=.str sIs)(h2: ¬a=.str gE):sdD ws (.tup (a::r))=false:=by
 match r with
 |[]=>rfl
 |[b]=>show(decide (a=MV.str sIs)&&vlD b)=_;rw [dF0 h1];rfl
 |[b,c]=>show(decide (a=MV.str gE)&&_)=_;rw [dF0 h2];rfl
 |b::c::e::r=>rfl
theorem yQL{ws:List Int}{r:List MV}:sdD ws (.tup (.str gE::r))=(match r with |[b,c]=>inB ws.length b&&inB (wAt ws b) c|_=>false):=by
 match r with
 |[]=>rfl
 |[b]=>show(decide (MV.str gE=MV.str sIs)&&vlD b)=_;rw [dF0 (by intro z;cases z)];rfl
 |[b,c]=>show(decide (MV.str gE=MV.str gE)&&_)=_;rw [dT0 rfl];rfl
 |b::c::e::r=>rfl
theorem i_0(a:MV)(r:List MV)(S:Sto):ixF (.val (.tup (a::r))) (.val (.int 0)) S=.ok (.val a) S:=ix_tup (by unfold atI ixN;rw [iP (by decide),iP (by rw [lC0];omega)];rfl)
theorem yQM(hm:SqM S m (ts.map tbl))(hT:ThI ts th)(h:pq d=true):zX 3 kT [.val m,.val (.tup th),.val d] S=.ok (.val (.bl (sdD (th.map (tW ts)) d))) S:=by
 rcases kW h with⟨i,rfl⟩|⟨x,rfl,hx⟩|⟨b,rfl⟩|rfl|⟨ds,rfl,hp,hlen⟩
 ·exact zLF rfl rfl
 ·exact zLF rfl rfl
 ·exact zLF rfl rfl
 ·exact zLF rfl rfl
 cases ds with
 |nil=>
  have e0:xT [some m,some (.tup th),some (.tup [])] S=.ok (.ret (.val (.bl false))) S:=by
   unfold xT
   simp? [yMP,yRT]
   rfl
  exact zLF e0 rfl
 |cons a r=>
  refine yM rfl ?_
  show yK (kS [some m,some (.tup th),some (.tup (a::r))] S)=_
  have ha:=hp a mF0
  have e1:xT [some m,some (.tup th),some (.tup (a::r))] S=.ok (.next [some m,some (.tup th),some (.tup (a::r))]) S:=by
   unfold xT
   simp? [yMP,yRT,dF0 (show¬a::r=[] by simp)]
   rfl
  have hl: ∀S,xB [.val (.tup (a::r))] S=.ok (.val (.int ((r.length:Int)+1))) S:=λS=>by rw [kE,lC0];rfl
  unfold kS
  rw [zE e1]
  by_cases c1:a=.str sIs
  ·rw [yVC c1]
   have e2:wF [some m,some (.tup th),some (.tup (a::r))] S=.ok (.ret (.val (.bl (is2 r)))) S:=by
    unfold wF
    simp? [i_0,yMD _ ha,dT0 (show a=.str [105,115]from c1),hl,zAI]
    match r,hp with
    |[],hp=>rfl
    |b::c::r,hp=>
     rw [dF0 (show¬(((b::c::r).length:Nat):Int)+1=2 by simp only [lC0];omega)]
     rfl
    |[b],hp=>
     simp? [show decide ((([b]:List MV).length:Int)+1=2)=true from rfl,i2_1,yMO (hp b (by simp))]
     try rfl
   rw [zU e2]
   rfl
  ·have e2:wF [some m,some (.tup th),some (.tup (a::r))] S=.ok (.next [some m,some (.tup th),some (.tup (a::r))]) S:=by
    unfold wF
    simp? [i_0,yMD _ ha,dF0 (show¬a=.str [105,115]from c1),fT,iF]
   rw [zE e2]
   by_cases c2:a=.str gE
   ·subst c2
    rw [yQL]
    have e3:wG [some m,some (.tup th),some (.tup (.str gE::r))] S=if decide ((r.length:Int)+1=3)=true then .ok (.next [some m,some (.tup th),some (.tup (.str gE::r))]) S else .ok (.ret (.val (.bl false))) S:=by
     unfold wG
     simp? [i_0,yMH _ ha,dT0 (show MV.str gE=.str [99,101,108,108]from rfl),Bool.not_true,fT,iF,hl,ne_int]
     cases decide ((r.length:Int)+1=3)<;>rfl
    match r,hp,e3 with
    |[],hp,e3=>rw [zU e3];rfl
    |[b],hp,e3=>rw [zU e3];rfl
    |b::c::e::r,hp,e3=>
     rw [dF0 (show¬(((b::c::e::r).length:Nat):Int)+1=3 by simp only [lC0];omega),iN0 xF0]at e3
     rw [zU e3]
     rfl
    |[b,c],hp,e3=>
     have hb:=hp b (by simp)
     have hc:=hp c (by simp)
     rw [show decide ((([b,c]:List MV).length:Int)+1=3)=true from rfl,iP rfl]at e3
     rw [zE e3]
     have ell:((th.map (tW ts)).length:Int)=(th.length:Int):=by rw [lM0]
     show yK _=R.ok (Er.val (.bl (inB ((th.map (tW ts)).length:Int) b&&inB (wAt (th.map (tW ts)) b) c))) S
     rw [ell]
     have e4:bP [some m,some (.tup th),some (.tup [.str gE,b,c])] S=if inB th.length b=true then .ok (.next [some m,some (.tup th),some (.tup [.str gE,b,c])]) S else .ok (.ret (.val (.bl false))) S:=by
      unfold bP
      simp? [yDJ,kE,zLE hb]
      cases inB th.length b<;>rfl
     cases hB:inB th.length b with
     |false=>
      rw [hB,iN0 xF0]at e4
      rw [zU e4]
      rfl
     |true=>
      rw [hB,iP rfl]at e4
      rw [zE e4]
      obtain⟨k,rfl,hk⟩:=zYQ hB
      obtain⟨t,g1,g2⟩:=th_at (ofNat_lt.mp hk)
      have hix: ∀S,ixF (.val (.tup th)) (.val (.int (k:Nat))) S=.ok (.val t) S:=λS=>ix_tup (yRU g1)
      obtain⟨z,ix1,ix2⟩:=yAR hm (hT.2 t g2)
      have hwA:wAt (th.map (tW ts)) (.int (k:Nat))=tW ts t:=by
       show(((th.map (tW ts))[(k:Int).toNat]?)).getD 0=_
       rw [toNat_natCast,getElem?_map,g1]
       rfl
      have e5:bQ [some m,some (.tup th),some (.tup [.str gE,.int (k:Nat),c])] S=.ok (.ret (.val (.bl (inB (tW ts t) c)))) S:=by
       unfold bQ
       simp? [yDJ,yMJ,hix,ix1,ix2,zLE hc]
      rw [e5,hwA]
      rfl
   ·have e3:wG [some m,some (.tup th),some (.tup (a::r))] S=.ok (.ret (.val (.bl false))) S:=by
     unfold wG
     simp? [i_0,yMH _ ha,dF0 (show¬a=.str [99,101,108,108]from c2),Bool.not_false]
    rw [zU e3,yVD c1 c2]
    rfl
end
theorem yQN(ys:List MV)(d:MV):(ys.map λy=>decide (y=d)).any id=decide (d∈ys):=by
 rw [Bool.eq_iff_iff]
 simp
theorem yRV(n:Int)(S:Sto):inF true (.val (.int n)) (.val (.tup [.int 1,.int 2,.int 3])) S=.ok (.val (.bl (!(decide (1<=n)&&decide (n<=3))))) S:=by
 have h: ∀y∈([.int 1,.int 2,.int 3]:List MV),pd y=true/\dpt y<40:=λy hy=>by
  simp only [mC0,nM0,or_false]at hy
  rcases hy with rfl|rfl|rfl<;>exact⟨yDF _,by rw [zYG];decide⟩
 have e:inF true (.val (.int n)) (.val (.tup [.int 1,.int 2,.int 3])) S=zPZ true (.val (.int n)) (.val (.tup [.int 1,.int 2,.int 3])) S:=by
  unfold inF
  split
  ·rename_i h;cases h
  ·rfl
 rw [e]
 unfold zPZ
 dsimp only
 rw [show itemsOf S (.val (.tup [.int 1,.int 2,.int 3]))=some [.int 1,.int 2,.int 3]from rfl]
 dsimp only
 rw [yAM (yDF n) h]
 dsimp only
 rw [iP rfl,yQN, <-decide_and]
 congr 4
 apply dec_is
 simp only [mC0,nM0,or_false,MV.int.injEq]
 omega
section
variable{ts:List (Int×Int)}{m d:MV}{S:Sto}{th:List MV}
abbrev L5(m:MV)(th:List MV)(d:MV)(q s:Option MV):Rho:=[some m,some (.tup th),some d,q,s]
theorem yQO(hm:SqM S m (ts.map tbl))(hT:ThI ts th){q:MV}(h:pq q=true)(s:Option MV): ∃s',yQ (L5 m th d (some q) s) S=if tsD (th.map (tW ts)) q=true then .ok (.next (L5 m th d (some q) s')) S else .ok (.ret (.val (.bl false))) S:=by
 have no:(∀s,wM (L5 m th d (some q) s) S=.ok (.ret (.val (.bl false))) S)->tsD (th.map (tW ts)) q=false-> ∃s',yQ (L5 m th d (some q) s) S=if tsD (th.map (tW ts)) q=true then .ok (.next (L5 m th d (some q) s')) S else .ok (.ret (.val (.bl false))) S:=λe1 e2=>⟨s,by
  unfold yQ
  rw [zU (e1 s),e2,iN0 xF0]⟩
 rcases kW h with⟨i,rfl⟩|⟨x,rfl,hx⟩|⟨b,rfl⟩|rfl|⟨ds,rfl,hp,hlen⟩
 ·exact no (λs=>rfl) rfl
 ·exact no (λs=>rfl) rfl
 ·exact no (λs=>rfl) rfl
 ·exact no (λs=>rfl) rfl
 match ds,hp,no with
 |[],hp,no=>exact no (λs=>rfl) rfl
 |[a],hp,no=>exact no (λs=>rfl) rfl
 |[a,b],hp,no=>exact no (λs=>rfl) rfl
 |a::b::c::e::r,hp,no=>
  refine no (λs=>?_) rfl
  unfold wM
  simp? [kE,ne_int,dF0 (show¬(((a::b::c::e::r).length:Nat):Int)=3 by simp only [lC0];omega)]
  rfl
 |[a,b,c],hp,_=>
  have ha:=hp a (by simp)
  have hb:=hp b (by simp)
  have hc:=hp c (by simp)
  have e1:wM (L5 m th d (some (.tup [a,b,c])) s) S=.ok (.next (L5 m th d (some (.tup [a,b,c])) s)) S:=rfl
  have hw:inF true (.val b) (.new [.str [115,97,109,101],.str [117,110,108,105,107,101],.str [108,101,115,115]]) S=.ok (.val (.bl (!decide (b∈words3.map MV.str)))) S:=by
   have:=yRQ (S:=S) (q:=.new (words3.map MV.str)) (ys:=words3) true hb rfl (λy hy=>by cases hy)
   rw [iP rfl]at this
   exact this
  have e2:jS (L5 m th d (some (.tup [a,b,c])) s) S=if decide (b∈words3.map MV.str)=true then .ok (.next (L5 m th d (some (.tup [a,b,c])) s)) S else .ok (.ret (.val (.bl false))) S:=by
   unfold jS
   simp? [yDJ,hw]
   cases decide (b∈words3.map MV.str)<;>rfl
  have turn: ∀{x:MV},pq x=true->kU (L5 m th d (some (.tup [a,b,c])) (some x)) S=if sdD (th.map (tW ts)) x=true then .ok (.next (L5 m th d (some (.tup [a,b,c])) (some x))) S else .ok (.ret (.val (.bl false))) S:=λ{x} hx=>by
   unfold kU nW
   simp? [yQM hm hT hx]
   cases sdD (th.map (tW ts)) x<;>rfl
  have g1: ∀(x:MV)(s:Option MV),gNm 4 x (L5 m th d (some (.tup [a,b,c])) s) S=.ok (L5 m th d (some (.tup [a,b,c])) (some x)) S:=λx s=>rfl
  have hit: ∀S,itT (.val (.tup [a,c])) S=.ok ⟨[a,c],[]⟩ S:=λS=>rfl
  have t1:=turn ha
  have t2:=turn hc
  show∃s',yQ (L5 m th d (some (.tup [a,b,c])) s) S=if(sdD (th.map (tW ts)) a&&(decide (b∈words3.map MV.str)&&sdD (th.map (tW ts)) c))=true then .ok (.next (L5 m th d (some (.tup [a,b,c])) s')) S else .ok (.ret (.val (.bl false))) S
  unfold yQ
  rw [zE e1]
  cases hk:decide (b∈words3.map MV.str)with
  |false=>
   rw [hk,iN0 xF0]at e2
   rw [zU e2,Bool.false_and,Bool.and_false]
   exact⟨s,rfl⟩
  |true=>
   rw [hk,iP rfl]at e2
   rw [zE e2]
   have e3:jT (L5 m th d (some (.tup [a,b,c])) s) S=bS (gNm 4) kU [] [a,c] (L5 m th d (some (.tup [a,b,c])) s) S:=by
    unfold jT
    simp? [i3_0,yMJ,hit]
   rw [e3]
   cases h1:sdD (th.map (tW ts)) a with
   |false=>
    rw [h1,iN0 xF0]at t1
    rw [zEY (g1 a s) t1,Bool.false_and]
    exact⟨s,rfl⟩
   |true=>
    rw [h1,iP rfl]at t1
    rw [gD (g1 a s) t1 (gC S)]
    cases h2:sdD (th.map (tW ts)) c with
    |false=>
     rw [h2,iN0 xF0]at t2
     rw [zEY (g1 c _) t2,Bool.and_false,Bool.and_false]
     exact⟨s,rfl⟩
    |true=>
     rw [h2,iP rfl]at t2
     rw [gD (g1 c _) t2 (gC S)]
     exact⟨some c,rfl⟩
theorem yFZ(hm:SqM S m (ts.map tbl))(hT:ThI ts th): ∀(qs:List MV),(∀q∈qs,pq q=true)-> ∀(q s:Option MV), ∃q' s',bS (gNm 3) yQ [] qs (L5 m th d q s) S=if qs.all (tsD (th.map (tW ts)))=true then .ok (.next (L5 m th d q' s')) S else .ok (.ret (.val (.bl false))) S
 |[],_,q,s=>⟨q,s,rfl⟩
 |x::qs,hp,q,s=>by
  obtain⟨s',e⟩:=yQO (d:=d) hm hT (hp x mF0) s
  have g:gNm 3 x (L5 m th d q s) S=.ok (L5 m th d (some x) s) S:=rfl
  rw [all_cons]
  cases hk:tsD (th.map (tW ts)) x with
  |false=>
   rw [hk,iN0 xF0]at e
   rw [zEY g e,Bool.false_and]
   exact⟨q,s,rfl⟩
  |true=>
   rw [hk,iP rfl]at e
   rw [gD g e (gC S),Bool.true_and]
   exact yFZ hm hT qs (λz hz=>hp z (mO _ hz)) (some x) s'
theorem yAS(hm:SqM S m (ts.map tbl))(hT:ThI ts th)(h:pq d=true):zX 3 jU [.val m,.val (.tup th),.val d] S=.ok (.val (.bl (zJC (th.map (tW ts)) d))) S:=by
 refine yM rfl ?_
 show yK (dG (L5 m th d none none) S)=_
 unfold dG zJC
 cases ht:zNK d with
 |none=>
  have e1:xZ (L5 m th d none none) S=.ok (.ret (.val (.bl false))) S:=by
   unfold xZ
   simp? [yFV h,ht,Option.isSome_none,Bool.not_false]
  rw [zU e1,zPF ht]
  rfl
 |some qs=>
  have hd:=zJA ht
  subst hd
  have e1:xZ (L5 m th (.tup qs) none none) S=if inT 1 3 (.tup qs)=true then .ok (.next (L5 m th (.tup qs) none none)) S else .ok (.ret (.val (.bl false))) S:=by
   unfold xZ
   simp? [yKQ,Bool.not_true,fT,iF,kE,yRV]
   rw [zPG]
   cases (decide ((1:Int)<=(qs.length:Int))&&decide ((qs.length:Int)<=3))<;>rfl
  cases hk:inT 1 3 (.tup qs)with
  |false=>
   rw [hk,iN0 xF0]at e1
   rw [zU e1]
   rfl
  |true=>
   rw [hk,iP rfl]at e1
   rw [zE e1]
   obtain⟨q',s',e2⟩:=yFZ (d:=.tup qs) hm hT qs (zRN h) none none
   have e2':zBW (L5 m th (.tup qs) none none) S=bS (gNm 3) yQ [] qs (L5 m th (.tup qs) none none) S:=rfl
   rw [e2]at e2'
   cases ha:qs.all (tsD (th.map (tW ts)))with
   |false=>
    rw [ha,iN0 xF0]at e2'
    rw [zU e2']
    dsimp only
    rw [ha]
    rfl
   |true=>
    rw [ha,iP rfl]at e2'
    rw [zE e2']
    dsimp only
    rw [ha]
    rfl
theorem yGA{a:MV}(hm:SqM S m (ts.map tbl))(ha:pq a=true)(h:pq d=true):zX 3 wA [.val m,.val a,.val d] S=.ok (.val (.bl (inB ts.length a&&clD (tW ts a) d))) S:=by
 refine yM rfl ?_
 show yK (gW [some m,some a,some d] S)=_
 unfold gW clD
 have e1:jV [some m,some a,some d] S=if(inB ts.length a&&(zNK d).isSome)=true then .ok (.next [some m,some a,some d]) S else .ok (.ret (.val (.bl false))) S:=by
  unfold jV
  simp? [zUC hm,zLE ha,yFV h]
  cases inB ts.length a<;>cases (zNK d).isSome<;>rfl
 cases hB:inB ts.length a with
 |false=>
  rw [hB,Bool.false_and,iN0 xF0]at e1
  rw [zU e1]
  rfl
 |true=>
  cases ht:zNK d with
  |none=>
   rw [hB,ht,Option.isSome_none,Bool.and_false,iN0 xF0]at e1
   rw [zU e1,zPF ht]
   rfl
  |some cs=>
   rw [hB,ht,Option.isSome_some,Bool.and_true,iP rfl]at e1
   rw [zE e1]
   have hd:=zJA ht
   subst hd
   have hp:=zRN h
   have hlen:=yMI h
   have e2:jW [some m,some a,some (.tup cs)] S=if inT 1 3 (.tup cs)=true then .ok (.next [some m,some a,some (.tup cs)]) S else .ok (.ret (.val (.bl false))) S:=by
    unfold jW
    simp? [kE,yRV]
    rw [zPG]
    cases (decide ((1:Int)<=(cs.length:Int))&&decide ((cs.length:Int)<=3))<;>rfl
   cases hk:inT 1 3 (.tup cs)with
   |false=>
    rw [hk,iN0 xF0]at e2
    rw [zU e2]
    rfl
   |true=>
    rw [hk,iP rfl]at e2
    rw [zE e2]
    obtain⟨z,ix1,ix2⟩:=yAR hm hB
    have hc:jE (gNm 0) jB bY [none,some m,some a] [] cs S=.ok (cs.filter λc=>!inB (tW ts a) c) S:=zFD (p:=λc=>!inB (tW ts a) c) (gC S) λc hc=>⟨[some c,some m,some a],rfl,by
     unfold jB
     simp? [ix1,ix2,zLE (hp c hc)],rfl⟩
    have hlt:cs.length<1000000:=by omega
    have e3:jX [some m,some a,some (.tup cs)] S=.ok (.ret (.val (.bl (cs.all (inB (tW ts a)))))) S:=by
     unfold jX
     simp? [zPE,hlt,show blk 1 [0,1] [some m,some a,some (.tup cs)]=[none,some m,some a]from rfl,hc,yQE,yMF]
    rw [e3]
    rfl
end
def mny(w:List Nat):Int:=if w=xH then 3 else if w=yZ then 4 else if w=jY then 5 else 0
abbrev D3:List (MV×MV):=[(.str [110,101,118,101,114],.int 3),(.str [97,112,97,114,116],.int 4),(.str [116,105,101],.int 5)]
theorem look3(w:List Nat):(look D3 (.str w)).getD (.int 0)=.int (mny w):=by
 unfold look mny
 by_cases c1:w=xH
 ·subst c1
  rw [iP rfl,List.find?_cons_of_pos (by rw [decide_eq_true_eq];rfl)]
  rfl
 ·rw [iN0 c1,List.find?_cons_of_neg (by rw [decide_eq_true_eq];intro z;exact c1 (MV.str.inj z).symm)]
  by_cases c2:w=yZ
  ·subst c2
   rw [iP rfl,List.find?_cons_of_pos (by rw [decide_eq_true_eq];rfl)]
   rfl
  ·rw [iN0 c2,List.find?_cons_of_neg (by rw [decide_eq_true_eq];intro z;exact c2 (MV.str.inj z).symm)]
   by_cases c3:w=jY
   ·subst c3
    rw [iP rfl,List.find?_cons_of_pos (by rw [decide_eq_true_eq];rfl)]
    rfl
   ·rw [iN0 c3,List.find?_cons_of_neg (by rw [decide_eq_true_eq];intro z;exact c3 (MV.str.inj z).symm)]
    rfl
theorem dik3(S:Sto):zWL (S++[.dic D3]) (.val (.loc S.length))=some (S.length,D3):=by
 unfold zWL
 dsimp only
 rw [getElem?_append_right (le_refl _),sub_self]
 rfl
theorem yVE{ts:List (Int×Int)}{w:List Nat}{ds:List MV}(h: ¬((ds.length:Int)+1=mny w)):rlD ts w ds=false:=by
 unfold mny at h
 unfold rlD
 by_cases c1:w=xH
 ·rw [iP c1]at h ⊢
  match ds,h with
  |[],h=>rfl
  |[a],h=>rfl
  |[a,b],h=>exact absurd rfl h
  |a::b::c::r,h=>rfl
 ·rw [iN0 c1]at h ⊢
  by_cases c2:w=yZ
  ·rw [iP c2]at h ⊢
   match ds,h with
   |[],h=>rfl
   |[a],h=>rfl
   |[a,b],h=>rfl
   |[a,b,c],h=>exact absurd rfl h
   |a::b::c::e::r,h=>rfl
  ·rw [iN0 c2]at h ⊢
   by_cases c3:w=jY
   ·rw [iP c3]at h ⊢
    match ds,h with
    |[],h=>rfl
    |[a],h=>rfl
    |[a,b],h=>rfl
    |[a,b,c],h=>rfl
    |[a,b,c,e],h=>exact absurd rfl h
    |a::b::c::e::f::r,h=>rfl
   ·rw [iN0 c3]
section
variable{ts:List (Int×Int)}{m:MV}{S:Sto}{w:List Nat}{ds:List MV}
abbrev L4(m r:MV)(k t:Option MV):Rho:=[some m,some r,k,t]
theorem zYR(hm:SqM S m (ts.map tbl)){Rr:MV}{k:Option MV}{t:MV}(h:pq t=true):gX (L4 m Rr k (some t)) S=if inB ts.length t=true then .ok (.next (L4 m Rr k (some t))) S else .ok (.ret (.val (.bl false))) S:=by
 unfold gX zHR
 simp? [zUC hm,zLE h]
 cases inB ts.length t<;>rfl
theorem f_lr(hm:SqM S m (ts.map tbl))(h: ∀d∈ds,pq d=true):zDA (L4 m (.tup (.str w::ds)) none none) S=.ok (.ret (.val (.bl (rlD ts w ds)))) (S++[.dic D3]):=by
 have hm':SqM (S++[.dic D3]) m (ts.map tbl):=hm.app
 have hl: ∀S,xB [.val (.tup (.str w::ds))] S=.ok (.val (.int ((ds.length:Int)+1))) S:=λS=>by rw [kE,lC0];rfl
 have e1:zEE (L4 m (.tup (.str w::ds)) none none) S=.ok (.next (L4 m (.tup (.str w::ds)) (some (.int (mny w))) none)) (S++[.dic D3]):=by
  unfold zEE
  have hd:yFK (.val (.loc S.length)) (S++[.dic D3])=true:=by unfold yFK;rw [dik3];rfl
  have hg:zWO (.val (.loc S.length)) [.val (.str w),.val (.int 0)] (S++[.dic D3])=.ok (.val (.int (mny w))) (S++[.dic D3]):=by
   unfold zWO
   dsimp only
   rw [dik3]
   dsimp only
   rw [look3]
  simp? [yLK,hd,i_0,hg]
 generalize S++[MO.dic D3]=T at *
 have e2:zEF (L4 m (.tup (.str w::ds)) (some (.int (mny w))) none) T=if decide ((ds.length:Int)+1=mny w)=true then .ok (.next (L4 m (.tup (.str w::ds)) (some (.int (mny w))) none)) T else .ok (.ret (.val (.bl false))) T:=by
  unfold zEF
  simp? [hl,ne_int]
  cases decide ((ds.length:Int)+1=mny w)<;>rfl
 unfold zDA
 rw [zE e1]
 by_cases hk:(ds.length:Int)+1=mny w
 case neg=>
  rw [dF0 hk,iN0 xF0]at e2
  rw [zU e2,yVE hk]
 rw [dT0 hk,iP rfl]at e2
 rw [zE e2]
 by_cases c3:w=jY
 ·subst c3
  have hk4:ds.length=4:=by
   rw [show mny jY=5 from rfl]at hk
   omega
  match ds,hk4,h with
  |[a,b,c,e],_,h=>
   have ha:=h a (by simp)
   have hb:=h b (by simp)
   have hc:=h c (by simp)
   have he:=h e (by simp)
   have e3:gY (L4 m (.tup [.str jY,a,b,c,e]) (some (.int (mny jY))) none) T=.ok (.ret (.val (.bl (tiD ts [a,b,c,e])))) T:=by
    generalize hR:MV.tup [.str jY,a,b,c,e]=Rr
    have i0: ∀S,ixF (.val Rr) (.val (.int 0)) S=.ok (.val (.str jY)) S:=λS=>by rw [<-hR];rfl
    have i1: ∀S,ixF (.val Rr) (.val (.int 1)) S=.ok (.val a) S:=λS=>by rw [<-hR];rfl
    have i2: ∀S,ixF (.val Rr) (.val (.int 2)) S=.ok (.val b) S:=λS=>by rw [<-hR];rfl
    have i3: ∀S,ixF (.val Rr) (.val (.int 3)) S=.ok (.val c) S:=λS=>by rw [<-hR];rfl
    have i4: ∀S,ixF (.val Rr) (.val (.int 4)) S=.ok (.val e) S:=λS=>by rw [<-hR];rfl
    show _=R.ok (Fl.ret (.val (.bl ((inB ts.length a&&clD (tW ts a) b)&&((inB ts.length c&&clD (tW ts c) e)&&decide (lnT b=lnT e)))))) T
    unfold gY
    simp? [i0,eq_str,dT0 (show jY=[116,105,101]from rfl),zN,i1,i2,yGA hm' ha hb]
    cases h1:(inB ts.length a&&clD (tW ts a) b)with
    |false=>rfl
    |true=>
     simp? [Bool.not_true,fT,iF,i3,i4,yGA hm' hc he,zAI,i2]
     cases h2:(inB ts.length c&&clD (tW ts c) e)with
     |false=>rfl
     |true=>
      obtain⟨_,c1⟩:=(aE _ _▸h1:_/\_)
      obtain⟨_,c2⟩:=(aE _ _▸h2:_/\_)
      obtain⟨bs,rfl⟩:=zSE c1
      obtain⟨es,rfl⟩:=zSE c2
      simp? [kE]
      rfl
   rw [zU e3]
   rfl
 ·have e3:gY (L4 m (.tup (.str w::ds)) (some (.int (mny w))) none) T=.ok (.next (L4 m (.tup (.str w::ds)) (some (.int (mny w))) none)) T:=by
   unfold gY
   simp? [i_0,eq_str,dF0 (show¬w=[116,105,101]from c3),fT,iF]
  rw [zE e3]
  by_cases c1:w=xH
  ·subst c1
   have hk2:ds.length=2:=by
    rw [show mny xH=3 from rfl]at hk
    omega
   match ds,hk2,h with
   |[a,b],_,h=>
    have ha:=h a (by simp)
    have hb:=h b (by simp)
    have t1:=zYR (Rr:=.tup [.str xH,a,b]) (k:=some (.int (mny xH))) hm' ha
    have e4:zEG (L4 m (.tup [.str xH,a,b]) (some (.int (mny xH))) none) T=bS (gNm 3) gX [] [a] (L4 m (.tup [.str xH,a,b]) (some (.int (mny xH))) none) T:=rfl
    show _=R.ok (Fl.ret (.val (.bl (inB ts.length a&&zJC [tW ts a] b)))) T
    cases h1:inB ts.length a with
    |false=>
     rw [h1,iN0 xF0]at t1
     rw [zEY rfl t1]at e4
     rw [zU e4]
     rfl
    |true=>
     rw [h1,iP rfl]at t1
     rw [gD rfl t1 (gC T)]at e4
     rw [zE (show _=R.ok (Fl.next (L4 m (.tup [.str xH,a,b]) (some (.int (mny xH))) (some a))) T from e4)]
     have hth:ThI ts [a]:=⟨λd hd=>by rw [mS.mp hd];exact ha,λd hd=>by rw [mS.mp hd];exact h1⟩
     have hj:=yAS (th:=[a]) hm' hth hb
     have e5:gZ (L4 m (.tup [.str xH,a,b]) (some (.int (mny xH))) (some a)) T=.ok (.ret (.val (.bl (zJC [tW ts a] b)))) T:=by
      unfold gZ
      simp? [show∀S,kY (.val (.tup [.str xH,a,b])) (some 1) (some (-1)) S=.ok (.val (.tup [a])) S from λS=>rfl,show∀S,ixF (.val (.tup [.str xH,a,b])) (.val (.int (-1))) S=.ok (.val b) S from λS=>rfl,hj]
      rfl
     rw [e5]
     rfl
  ·by_cases c2:w=yZ
   ·subst c2
    have hk3:ds.length=3:=by
     rw [show mny yZ=4 from rfl]at hk
     omega
    match ds,hk3,h with
    |[a,b,c],_,h=>
     have ha:=h a (by simp)
     have hb:=h b (by simp)
     have hc:=h c (by simp)
     have t1:=zYR (Rr:=.tup [.str yZ,a,b,c]) (k:=some (.int (mny yZ))) hm' ha
     have t2:=zYR (Rr:=.tup [.str yZ,a,b,c]) (k:=some (.int (mny yZ))) hm' hb
     have e4:zEG (L4 m (.tup [.str yZ,a,b,c]) (some (.int (mny yZ))) none) T=bS (gNm 3) gX [] [a,b] (L4 m (.tup [.str yZ,a,b,c]) (some (.int (mny yZ))) none) T:=rfl
     show _=R.ok (Fl.ret (.val (.bl ((inB ts.length a&&inB ts.length b)&&zJC [tW ts a,tW ts b] c)))) T
     cases h1:inB ts.length a with
     |false=>
      rw [h1,iN0 xF0]at t1
      rw [zEY rfl t1]at e4
      rw [zU e4]
      rfl
     |true=>
      rw [h1,iP rfl]at t1
      rw [gD rfl t1 (gC T)]at e4
      cases h2:inB ts.length b with
      |false=>
       rw [h2,iN0 xF0]at t2
       rw [zEY rfl t2]at e4
       rw [zU e4]
       rfl
      |true=>
       rw [h2,iP rfl]at t2
       rw [gD rfl t2 (gC T)]at e4
       rw [zE (show _=R.ok (Fl.next (L4 m (.tup [.str yZ,a,b,c]) (some (.int (mny yZ))) (some b))) T from e4)]
       have hth:ThI ts [a,b]:=⟨λd hd=>by
        rcases mC0.mp hd with rfl|hd
        ·exact ha
        ·rw [mS.mp hd];exact hb,λd hd=>by
        rcases mC0.mp hd with rfl|hd
        ·exact h1
        ·rw [mS.mp hd];exact h2⟩
       have hj:=yAS (th:=[a,b]) hm' hth hc
       have e5:gZ (L4 m (.tup [.str yZ,a,b,c]) (some (.int (mny yZ))) (some b)) T=.ok (.ret (.val (.bl (zJC [tW ts a,tW ts b] c)))) T:=by
        unfold gZ
        simp? [show∀S,kY (.val (.tup [.str yZ,a,b,c])) (some 1) (some (-1)) S=.ok (.val (.tup [a,b])) S from λS=>rfl,show∀S,ixF (.val (.tup [.str yZ,a,b,c])) (.val (.int (-1))) S=.ok (.val c) S from λS=>rfl,hj]
        rfl
       rw [e5]
       rfl
   ·exact absurd hk (by unfold mny;rw [iN0 c1,iN0 c2,iN0 c3];omega)
theorem yQP(hm:SqM S m (ts.map tbl))(h: ∀d∈ds,pq d=true):zX 2 nX [.val m,.val (.tup (.str w::ds))] S=.ok (.val (.bl (rlD ts w ds))) S:=by
 refine zBM (T:=[.dic D3]) rfl ?_ (zTK _ _) (λl=>by simp)
 show yK (zDA (L4 m (.tup (.str w::ds)) none none) S)=_
 rw [f_lr hm h]
 rfl
end
theorem td_1{n:Nat}{a:MV}(h1:Td n a):Td (n+1) (.tup [a]):=jZ (λe he=>by
 rw [mS.mp he]
 exact h1) (by simp)
theorem td_2{n:Nat}{a b:MV}(h1:Td n a)(h2:Td n b):Td (n+1) (.tup [a,b]):=jZ (λe he=>by
 rcases mC0.mp he with rfl|he
 ·exact h1
 ·rw [mS.mp he];exact h2) (by simp)
theorem zUF{n:Nat}{a b c:MV}(h1:Td n a)(h2:Td n b)(h3:Td n c):Td (n+1) (.tup [a,b,c]):=jZ (λe he=>by
 rcases mC0.mp he with rfl|he
 ·exact h1
 rcases mC0.mp he with rfl|he
 ·exact h2
 ·rw [mS.mp he];exact h3) (by simp)
theorem Td.noloc{n:Nat}{d:MV}(h:Td n d)(l:Nat):d≠.loc l:=zUB h.1 l
def Rt(P:MV->Prop)(F:Rho->Sto->R Fl)(ρ:Rho)(S:Sto)(b:Bool):Prop:= ∃d T,P d/\F ρ S=if b=true then .ok (.ret (.val d)) (S++T)else .ok (.next ρ) S
def Rd(P:MV->Prop)(F:Rho->Sto->R Fl)(ρ:Rho)(S:Sto):Prop:= ∃d T,P d/\F ρ S=.ok (.ret (.val d)) (S++T)
theorem Rt.mk0{P:MV->Prop}{F:Rho->Sto->R Fl}{ρ:Rho}{S:Sto}{b:Bool}{d:MV}(h:P d)(e:F ρ S=if b=true then .ok (.ret (.val d)) S else .ok (.next ρ) S):Rt P F ρ S b:=⟨d,[],h,by rw [aN];exact e⟩
theorem Rd.mk0{P:MV->Prop}{F:Rho->Sto->R Fl}{ρ:Rho}{S:Sto}{d:MV}(h:P d)(e:F ρ S=.ok (.ret (.val d)) S):Rd P F ρ S:=⟨d,[],h,by rw [aN];exact e⟩
theorem Rt.or{P:MV->Prop}{F G:Rho->Sto->R Fl}{ρ:Rho}{S:Sto}{b:Bool}(h:Rt P F ρ S b)(k:Rd P G ρ S):Rd P (zN F G) ρ S:=by
 obtain⟨d,T,h1,h2⟩:=h
 cases b with
 |true=>
  rw [iP rfl]at h2
  exact⟨d,T,h1,zU h2⟩
 |false=>
  rw [iN0 xF0]at h2
  obtain⟨d',T',k1,k2⟩:=k
  exact⟨d',T',k1,by rw [zE h2];exact k2⟩
theorem Rd.next{P:MV->Prop}{F G:Rho->Sto->R Fl}{ρ ρ':Rho}{S:Sto}(h:F ρ S=.ok (.next ρ') S)(k:Rd P G ρ' S):Rd P (zN F G) ρ S:=by
 obtain⟨d',T',k1,k2⟩:=k
 exact⟨d',T',k1,by rw [zE h];exact k2⟩
theorem Rd.call{n:Nat}{F:List MV->Sto->R Er}{G:Rho->Sto->R Fl}{rs:List Er}{as:List MV}{ρ:Rho}{S:Sto}{k:Nat}{P:MV->Prop}(h:Rd P G ρ S)(hP: ∀d,P d->Td k d)(hn:rs.length=n)(hE:zY rs S=(as,S))(hF:F as S=yK (G ρ S)): ∃d,P d/\zX n F rs S=.ok (.val d) S:=by
 obtain⟨d,T,h1,h2⟩:=h
 refine⟨d,h1,zBM (T:=T) hn ?_ ((hP d h1).lo _) (hP d h1).noloc⟩
 rw [hE]
 show F as S=_
 rw [hF,h2]
 rfl
abbrev N8(m f:Int):List MV:=[.int m,.int (-1),.bl true,.non,.str [48],.int (m+f),.int (-1 - f),.tup [.int 0]]
theorem td_n8(m f:Int): ∀d∈N8 m f,Td 1 d:=by
 intro d hd
 simp only [N8,mC0,nM0,or_false]at hd
 rcases hd with rfl|rfl|rfl|rfl|rfl|rfl|rfl|rfl
 ·exact yI 1 _
 ·exact yI 1 _
 ·exact yRS 1 _
 ·exact zYN 1
 ·exact kD 1 (by simp)
 ·exact yI 1 _
 ·exact yI 1 _
 ·exact td_1 (yI 0 _)
theorem yAT(c m:Int)(S:Sto): ∃d,Td 1 d/\zX 2 yY [.val (.int c),.val (.int m)] S=.ok (.val d) S:=by
 obtain⟨d,hd⟩:=gM (xs:=N8 m (c % 10 ^ 30)) (i:=c / 3 % 8) (by omega) (by show c / 3 % 8<((8:Nat):Int);omega)
 have e1:cV [some (.int c),some (.int m),none] S=.ok (.next [some (.int c),some (.int m),some (.int (c % 10 ^ 30))]) S:=by
  unfold cV
  simp? [yFS,mod_lit (show(0:Int)<10 ^ 30 by decide)]
 have e2:cW [some (.int c),some (.int m),some (.int (c % 10 ^ 30))] S=.ok (.ret (.val d)) S:=by
  unfold cW
  simp? [zJW,lst8,xW (b:=3) (by decide) (by decide),mod_lit (show(0:Int)<8 by decide),zMZ hd]
 refine Rd.call (G:=zHP) (ρ:=[some (.int c),some (.int m),none]) (Rd.next e1 (Rd.mk0 (gN (td_n8 m _) hd) e2)) (λd h=>h) rfl rfl rfl
abbrev W8:List MV:=[.int (10 ^ 30),.str [65,98,99],.str [],.bl true,.non,.tup [.int 1],.str [97,98,99,100,101,102,103,104,105],.int (0 - 10 ^ 30)]
theorem td_w8: ∀d∈W8,Td 1 d:=by
 intro d hd
 simp only [W8,mC0,nM0,or_false]at hd
 rcases hd with rfl|rfl|rfl|rfl|rfl|rfl|rfl|rfl
 ·exact yI 1 _
 ·exact kD 1 (by simp)
 ·exact kD 1 (by simp)
 ·exact yRS 1 _
 ·exact zYN 1
 ·exact td_1 (yI 0 _)
 ·exact kD 1 (by simp)
 ·exact yI 1 _
abbrev O7:List MV:=[.tup [.str [105,115]],.tup [.str [105,115],.int 1,.int 1],.tup [.str [99,101,108,108,115],.int 0,.int 0],.tup [],.tup [.str [99,101,108,108],.int 0],.str [105,115],.int 7]
theorem td_o7: ∀d∈O7,Td 1 d:=by
 intro d hd
 simp only [O7,mC0,nM0,or_false]at hd
 rcases hd with rfl|rfl|rfl|rfl|rfl|rfl|rfl
 ·exact td_1 (kD 0 (by simp))
 ·exact zUF (kD 0 (by simp)) (yI 0 _) (yI 0 _)
 ·exact zUF (kD 0 (by simp)) (yI 0 _) (yI 0 _)
 ·exact jZ (n:=0) (λd hd=>absurd hd nM0) (by simp)
 ·exact td_2 (kD 0 (by simp)) (yI 0 _)
 ·exact kD 1 (by simp)
 ·exact yI 1 _
theorem yVF{n:Nat}{ds:List MV}{l h:Option Int}(hd: ∀d∈ds,Td n d)(hl:ds.length<=900):Td (n+1) (.tup (xF ds l h)):=jZ (λd hh=>hd d (zHH hh)) (le_trans (show(xF ds l h).length<=ds.length by unfold xF;rw [lT,length_drop];omega) (le_trans hl (by decide)))
theorem zUG{n:Nat}{ds es:List MV}(hd: ∀d∈ds,Td n d)(he: ∀d∈es,Td n d)(hl:ds.length+es.length<=1000):Td (n+1) (.tup (ds++es)):=jZ (λd hh=>by
 rcases mem_append.mp hh with h|h
 ·exact hd d h
 ·exact he d h) (by rw [lA];exact hl)
abbrev S6(s:MV)(n m:Int)(w:Option MV):Rho:=[some s,some (.int n),some (.int m),w,none,none]
theorem yRW{ds:List MV}(hd: ∀d∈ds,Td 2 d)(hl:ds.length<=100)(n m:Int)(S:Sto): ∃d,Td 3 d/\zX 3 jL [.val (.tup ds),.val (.int n),.val (.int m)] S=.ok (.val d) S:=by
 obtain⟨d1,t1,q1⟩:=yAT (n / 7) 2 S
 obtain⟨d2,t2,q2⟩:=yAT (n / 7) m S
 obtain⟨d3,g3⟩:=gM (xs:=W8) (i:=n / 7 % 8) (by omega) (by show n / 7 % 8<((8:Nat):Int);omega)
 obtain⟨d4,g4⟩:=gM (xs:=O7) (i:=n / 7 % 7) (by omega) (by show n / 7 % 7<((7:Nat):Int);omega)
 have t3:=gN td_w8 g3
 have t4:=gN td_o7 g4
 have hs: ∀(S:Sto)(o:MO),(S++[o])[S.length]? =some o:=λS o=>by simp
 have e1:cX (S6 (.tup ds) n m none) S=.ok (.next (S6 (.tup ds) n m (some (.int (n % 7))))) S:=by
  unfold cX
  simp? [mod_lit (show(0:Int)<7 by decide)]
 have e2:Rt (Td 3) cY (S6 (.tup ds) n m (some (.int (n % 7)))) S (decide (n % 7=0)):=Rt.mk0 (d:=.tup [.str gE,d1,.int 0]) (zUF (kD 2 (by decide)) (t1.up (by decide)) (yI 2 _)) (by
  unfold cY
  simp? [xW (b:=7) (by decide) (by decide),q1]
  rfl)
 have e3:Rt (Td 3) cZ (S6 (.tup ds) n m (some (.int (n % 7)))) S (decide (n % 7=1)):=Rt.mk0 (d:=.tup [.str gE,.int 0,d2]) (zUF (kD 2 (by decide)) (yI 2 _) (t2.up (by decide))) (by
  unfold cZ
  simp? [xW (b:=7) (by decide) (by decide),q2]
  rfl)
 have e4:Rt (Td 3) dA (S6 (.tup ds) n m (some (.int (n % 7)))) S (decide (n % 7=2)):=⟨.tup [.str sIs,d3],[.lst W8],td_2 (kD 2 (by decide)) (t3.up (by decide)),by
  unfold dA
  simp? [yFS,zJW,lst8,zN,xW (b:=7) (by decide) (by decide),mod_lit (show(0:Int)<8 by decide),nA (hs S (.lst W8)) g3]
  cases decide (n % 7=2)<;>rfl⟩
 have e5:Rt (Td 3) dB (S6 (.tup ds) n m (some (.int (n % 7)))) S (decide (n % 7=3)):=⟨d4,[.lst O7],t4.up (by decide),by
  unfold dB
  simp? [zJW,tup0,lst7,zN,xW (b:=7) (by decide) (by decide),mod_lit (show(0:Int)<7 by decide),nA (hs S (.lst O7)) g4]⟩
 have e6:Rt (Td 3) dC (S6 (.tup ds) n m (some (.int (n % 7)))) S (decide (n % 7=4)):=Rt.mk0 (d:=.tup (xF ds none (some (-1)))) (yVF hd (by omega)) (by
  unfold dC
  simp? [yQH])
 have e7:Rt (Td 3) dE (S6 (.tup ds) n m (some (.int (n % 7)))) S (decide (n % 7=5)):=Rt.mk0 (d:=.tup (ds++[.int 0])) (zUG hd (λd hh=>by rw [mS.mp hh];exact yI 2 _) (by simp;omega)) (by
  unfold dE
  simp? [zJW,zCY (show ds.length+[MV.int 0].length<=sizeLine from fits (by simp;omega))])
 have e8:Rd (Td 3) dF (S6 (.tup ds) n m (some (.int (n % 7)))) S:=Rd.mk0 (d:=.tup [.str gE,.int 1,.int 0]) (zUF (kD 2 (by decide)) (yI 2 _) (yI 2 _)) (by
  unfold dF
  simp? [bok]
  rfl)
 exact Rd.call (G:=zHQ) (ρ:=S6 (.tup ds) n m none) (Rd.next e1 (e2.or (e3.or (e4.or (e5.or (e6.or (e7.or e8))))))) (λd h=>h) rfl rfl rfl
abbrev Pz7(q:MV)(n m:Int)(w l o r:Option MV):Rho:=[some q,some (.int n),some (.int m),w,l,o,r]
theorem yMQ{n:Nat}{ds:List MV}(k:Nat)(hd: ∀d∈ds,Td n d)(hl:ds.length * k<=1000):Td (n+1) (.tup (List.replicate k ds).flatten):=jZ (λd hh=>by
 obtain⟨l,h1,h2⟩:=List.mem_flatten.mp hh
 rw [List.eq_of_mem_replicate h1]at h2
 exact hd d h2) (by rw [len_rep,mul_comm];exact hl)
theorem yGB{ds:List MV}{k:Int}(h0:0<=k)(h1:k<1000)(hl:ds.length<=100)(S:Sto):zWP (.val (.tup ds)) (.val (.int k)) S=.ok (.val (.tup (List.replicate k.toNat ds).flatten)) S:=
 iP ⟨h0,by omega,le_trans (Nat.mul_le_mul hl (show k.toNat<=1000 by omega)) (by decide)⟩
theorem bt_ok{a b c:MV}{qs:List MV}(ha: ∃as,a=.tup as/\(∀d∈as,Td 2 d)/\as.length<=100)(hb:Td 3 b)(hc: ∃as,c=.tup as/\(∀d∈as,Td 2 d)/\as.length<=100)(hq: ∀d∈qs,Td 4 d)(hl:qs.length<=10)(n m:Int)(S:Sto):
  ∃d,Td 5 d/\zX 3 kP [.val (.tup (.tup [a,b,c]::qs)),.val (.int n),.val (.int m)] S=.ok (.val d) S:=by
 obtain⟨as,rfl,ha1,ha2⟩:=ha
 obtain⟨cs,rfl,hc1,hc2⟩:=hc
 obtain⟨dl,tl,ql⟩:=yRW ha1 ha2 (n / 6) m S
 obtain⟨dr,tr,qr⟩:=yRW hc1 hc2 (n / 6) m S
 have hA:Td 3 (.tup as):=jZ ha1 (by omega)
 have hC:Td 3 (.tup cs):=jZ hc1 (by omega)
 generalize hAe:MV.tup as=a at *
 generalize hCe:MV.tup cs=c at *
 have hT:Td 4 (.tup [a,b,c]):=zUF hA hb hC
 have hAll: ∀d∈.tup [a,b,c]::qs,Td 4 d:=λd hd=>by
  rcases mC0.mp hd with rfl|hd
  ·exact hT
  ·exact hq d hd
 have hlen:(.tup [a,b,c]::qs).length<=11:=by rw [lC0];omega
 have hcut: ∀S,kY (.val (.tup (.tup [a,b,c]::qs))) (some 1) none S=.ok (.val (.tup (xF (.tup [a,b,c]::qs) (some 1) none))) S:=λS=>rfl
 have hcm: ∀d∈xF (.tup [a,b,c]::qs) (some 1) none,Td 4 d:=λd hd=>hAll d (zHH hd)
 have hcl:(xF (.tup [a,b,c]::qs) (some 1) none).length<=11:=by unfold xF;rw [lT,length_drop];omega
 generalize xF (MV.tup [a,b,c]::qs) (some 1) none=ct at *
 have i0: ∀S,ixF (.val (.tup (.tup [a,b,c]::qs))) (.val (.int 0)) S=.ok (.val (.tup [a,b,c])) S:=λS=>i_0 _ _ S
 generalize hQ:MV.tup [a,b,c]::qs=Q at *
 have m4:=yGB (ds:=Q) (k:=4) (by decide) (by decide) (by omega)
 have tm4:Td 5 (.tup (List.replicate (4:Int).toNat Q).flatten):=yMQ _ hAll (by show Q.length * 4<=1000;omega)
 generalize (List.replicate (4:Int).toNat Q).flatten=Q4 at *
 have t5: ∀d∈([.tup [],.tup Q4,.tup [a,b,c],.non]:List MV),Td 5 d:=λd hd=>by
  simp only [mC0,nM0,or_false]at hd
  rcases hd with rfl|rfl|rfl|rfl
  ·exact jZ (n:=4) (λd hd=>absurd hd nM0) (by simp)
  ·exact tm4
  ·exact hT.up (by decide)
  ·exact zYN 5
 obtain⟨d4,g4⟩:=gM (xs:=([.tup [],.tup Q4,.tup [a,b,c],.non]:List MV)) (i:=n / 6 % 4) (by omega) (by show n / 6 % 4<((4:Nat):Int);omega)
 have t6: ∀d∈([.str [83,97,109,101],.str [],.str [109,111,114,101],.non,.int 7]:List MV),Td 3 d:=λd hd=>by
  simp only [mC0,nM0,or_false]at hd
  rcases hd with rfl|rfl|rfl|rfl|rfl
  ·exact kD 3 (by simp)
  ·exact kD 3 (by simp)
  ·exact kD 3 (by simp)
  ·exact zYN 3
  ·exact yI 3 _
 obtain⟨d5,g5⟩:=gM (xs:=([.str [83,97,109,101],.str [],.str [109,111,114,101],.non,.int 7]:List MV)) (i:=n / 6 % 5) (by omega) (by show n / 6 % 5<((5:Nat):Int);omega)
 have td5:=gN t6 g5
 have one: ∀{x:MV}(ds:List MV),Td 4 x->(∀d∈ds,Td 4 d)->ds.length<=11->Td 5 (.tup ([x]++ds)):=λ{x} ds hx hds hl=>zUG (λd hd=>by rw [mS.mp hd];exact hx) hds (by rw [lS];omega)
 have two: ∀{x:MV}(ds:List MV),Td 4 x->(∀d∈ds,Td 4 d)->ds.length<=11->Td 5 (.tup (ds++[x])):=λ{x} ds hx hds hl=>zUG hds (λd hd=>by rw [mS.mp hd];exact hx) (by rw [lS];omega)
 have a1: ∀(x:MV)(ds:List MV)(S:Sto),ds.length<=11->xN (.val (.tup [x])) (.val (.tup ds)) S=.ok (.val (.tup ([x]++ds))) S:=λx ds S h=>zCY (fits (by rw [lS];omega))
 have a2: ∀(x:MV)(ds:List MV)(S:Sto),ds.length<=11->xN (.val (.tup ds)) (.val (.tup [x])) S=.ok (.val (.tup (ds++[x]))) S:=λx ds S h=>zCY (fits (by rw [lS];omega))
 have e1:bF (Pz7 (.tup Q) n m none none none none) S=.ok (.next (Pz7 (.tup Q) n m (some (.int (n % 6))) none none none)) S:=by
  unfold bF
  simp? [mod_lit (show(0:Int)<6 by decide)]
 have e2:bG (Pz7 (.tup Q) n m (some (.int (n % 6))) none none none) S=.ok (.next (Pz7 (.tup Q) n m (some (.int (n % 6))) (some a) (some b) (some c))) S:=by
  unfold bG
  simp? [i0,yFL]
  rfl
 have e3:bH (Pz7 (.tup Q) n m (some (.int (n % 6))) (some a) (some b) (some c)) S=.ok (.next (Pz7 (.tup Q) (n / 6) m (some (.int (n % 6))) (some a) (some b) (some c))) S:=by
  unfold bH
  simp? [xW (b:=6) (by decide) (by decide)]
 have e4:Rt (Td 5) bI (Pz7 (.tup Q) (n / 6) m (some (.int (n % 6))) (some a) (some b) (some c)) S (decide (n % 6=0)):=Rt.mk0 (d:=d4) (gN t5 g4) (by
  unfold bI
  simp? [tup0,m4,i0,lst4,mod_lit (show(0:Int)<4 by decide),zMZ g4])
 have e5:Rt (Td 5) bK (Pz7 (.tup Q) (n / 6) m (some (.int (n % 6))) (some a) (some b) (some c)) S (decide (n % 6=1)):=Rt.mk0 (d:=.tup ([.tup [a,d5,c]]++ct)) (one ct (zUF hA td5 hC) hcm hcl) (by
  unfold bK
  simp? [lst5,mod_lit (show(0:Int)<5 by decide),zMZ g5,zJW,hcut,a1 _ ct _ hcl])
 have e6:Rt (Td 5) bL (Pz7 (.tup Q) (n / 6) m (some (.int (n % 6))) (some a) (some b) (some c)) S (decide (n % 6=2)):=Rt.mk0 (d:=.tup ([.tup [dl,b,c]]++ct)) (one ct (zUF tl hb hC) hcm hcl) (by
  unfold bL
  simp? [ql,zJW,hcut,a1 _ ct _ hcl])
 have e7:Rt (Td 5) bM (Pz7 (.tup Q) (n / 6) m (some (.int (n % 6))) (some a) (some b) (some c)) S (decide (n % 6=3)):=Rt.mk0 (d:=.tup (ct++[.tup [a,b,dr]])) (two ct (zUF hA hb tr) hcm hcl) (by
  unfold bM
  simp? [qr,zJW,hcut,a2 _ ct _ hcl])
 have e8:Rt (Td 5) bN (Pz7 (.tup Q) (n / 6) m (some (.int (n % 6))) (some a) (some b) (some c)) S (decide (n % 6=4)):=Rt.mk0 (d:=.tup (Q++[.tup [a,b]])) (two Q (td_2 hA hb) hAll hlen) (by
  unfold bN
  simp? [zJW,a2 _ Q _ hlen])
 have e9:Rd (Td 5) bO (Pz7 (.tup Q) (n / 6) m (some (.int (n % 6))) (some a) (some b) (some c)) S:=Rd.mk0 (d:=.tup (Q++[.tup [a,b,c,c]])) (two Q (jZ (n:=3) (λe he=>by
   simp only [mC0,nM0,or_false]at he
   rcases he with rfl|rfl|rfl|rfl
   ·exact hA
   ·exact hb
   ·exact hC
   ·exact hC) (by simp)) hAll hlen) (by
  unfold bO
  simp? [zJW,tup4,a2 _ Q _ hlen])
 exact Rd.call (G:=zFC) (ρ:=Pz7 (.tup Q) n m none none none none) (Rd.next e1 (Rd.next e2 (Rd.next e3 (e4.or (e5.or (e6.or (e7.or (e8.or e9)))))))) (λd h=>h) rfl rfl rfl
def Bn(d:MV):Prop:= ∃w ds,d=.tup (.str w::ds)/\w.length<=900/\(∀x∈ds,Td 6 x)/\ds.length<=900
theorem Bn.td{d:MV}(h:Bn d):Td 7 d:=by
 obtain⟨w,ds,rfl,h1,h2,h3⟩:=h
 exact jZ (λx hx=>by
  rcases mC0.mp hx with rfl|hx
  ·exact kD 6 (by omega)
  ·exact h2 x hx) (by rw [lC0];omega)
theorem zLG{w:List Nat}{ds:List MV}(h1:w.length<=900)(h2: ∀x∈ds,Td 6 x)(h3:ds.length<=900):Bn (.tup (.str w::ds)):=⟨w,ds,rfl,h1,h2,h3⟩
abbrev G6(r:MV)(c:Int)(m:MV)(n w k:Option MV):Rho:=[some r,some (.int c),some m,n,w,k]
section
variable{ts:List (Int×Int)}{S:Sto}{w:List Nat}{rs:List MV}
abbrev wd6:List (List Nat):=[[110,101,118,101,114,115],[],[84,105,101],[97,112,97,114,116,115],[110,101,118,101,114],[116,105,101]]
theorem wd_at(n:Int): ∃x:List Nat,x.length<=900/\atI (wd6.map MV.str) (n % 6)=some (.str x):=by
 obtain⟨d,h⟩:=gM (xs:=wd6.map MV.str) (i:=n % 6) (by omega) (by show n % 6<((6:Nat):Int);omega)
 have: ∀d∈wd6.map MV.str, ∃x:List Nat,x.length<=900/\d=.str x:=λd hd=>by
  obtain⟨x,hx,rfl⟩:=mM0.mp hd
  refine⟨x,?_,rfl⟩
  have: ∀x∈wd6,x.length<=900:=by decide
  exact this x hx
 obtain⟨x,h1,h2⟩:=gN this h
 exact⟨x,h1,by rw [h,h2]⟩
theorem zUH(hw:w.length<=900)(hr: ∀x∈rs,Td 6 x)(hl:rs.length<=10)(h7: ∃z,xF (.str w::rs) none (some (-1))=.str w::z)(c:Int)
  (k: ∀n,Rd Bn (zN gH (zN nQ (zN nR (zN nS (zN nU nV))))) (G6 (.tup (.str w::rs)) c (.tup (ts.map tbl)) (some (.int (n / 8))) (some (.int (n % 8))) none) S):
  ∃d,Bn d/\zX 3 jM [.val (.tup (.str w::rs)),.val (.int c),.val (.tup (ts.map tbl))] S=.ok (.val d) S:=by
 obtain⟨n,hn⟩:=zYD (c / 3) 2147483587 ⟨by decide,by decide⟩ S
 obtain⟨z,h7⟩:=h7
 obtain⟨x,hx1,hx2⟩:=wd_at (n / 8)
 obtain⟨d1,t1,q1⟩:=yAT (n / 8) ts.length S
 have hAll: ∀d∈MV.str w::rs,Td 6 d:=λd hd=>by
  rcases mC0.mp hd with rfl|hd
  ·exact kD 6 (by omega)
  ·exact hr d hd
 have hlen:(MV.str w::rs).length<=11:=by rw [lC0];omega
 have cl: ∀l h,(xF (MV.str w::rs) l h).length<=11:=λl h=>by unfold xF;rw [lT,length_drop];omega
 have cm: ∀l h, ∀d∈xF (MV.str w::rs) l h,Td 6 d:=λl h d hd=>hAll d (zHH hd)
 have lt: ∀S,xB [.val (.tup (ts.map tbl))] S=.ok (.val (.int ts.length)) S:=λS=>by rw [kE,lM0]
 have i0: ∀S,ixF (.val (.tup (.str w::rs))) (.val (.int 0)) S=.ok (.val (.str w)) S:=λS=>i_0 _ _ S
 have a5: ∀S,xN (.val (.tup [.str x])) (.val (.tup (xF (.str w::rs) (some 1) none))) S=.ok (.val (.tup ([.str x]++xF (.str w::rs) (some 1) none))) S:=λS=>zCY (fits (by have:=cl (some 1) none;simp only [lS];omega))
 have a6: ∀S,xN (.val (.tup (.str w::rs))) (.val (.tup [.int 0])) S=.ok (.val (.tup ((.str w::rs)++[.int 0]))) S:=λS=>zCY (fits (by simp only [lS];omega))
 have a8: ∀S,xN (.val (.tup [.str w,d1])) (.val (.tup (xF (.str w::rs) (some 2) none))) S=.ok (.val (.tup ([.str w,d1]++xF (.str w::rs) (some 2) none))) S:=λS=>zCY (fits (by have:=cl (some 2) none;simp only [lC0,length_nil];omega))
 have b5:Bn (.tup ([.str x]++xF (.str w::rs) (some 1) none)):=zLG (ds:=xF (.str w::rs) (some 1) none) hx1 (cm _ _) (by have:=cl (some 1) none;omega)
 have b6:Bn (.tup ((.str w::rs)++[.int 0])):=show Bn (.tup (.str w::(rs++[.int 0])))from zLG (ds:=rs++[.int 0]) hw (λy hy=>by
  rcases mem_append.mp hy with h|h
  ·exact hr y h
  ·rw [mS.mp h];exact yI 6 _) (by rw [lA,lS];omega)
 have b7:Bn (.tup (xF (.str w::rs) none (some (-1)))):=by
  have h:=cm none (some (-1))
  have h':=cl none (some (-1))
  rw [h7]at h h' ⊢
  exact zLG hw (λy hy=>h y (mO _ hy)) (by rw [lC0]at h';omega)
 have b8:Bn (.tup ([.str w,d1]++xF (.str w::rs) (some 2) none)):=zLG (ds:=d1::xF (.str w::rs) (some 2) none) hw (λy hy=>by
  rcases mC0.mp hy with rfl|hy
  ·exact t1.up (by decide)
  ·exact cm _ _ y hy) (by have:=cl (some 2) none;rw [lC0];omega)
 have hc1: ∀S,kY (.val (.tup (.str w::rs))) (some 1) none S=.ok (.val (.tup (xF (.str w::rs) (some 1) none))) S:=λS=>rfl
 have hc7: ∀S,kY (.val (.tup (.str w::rs))) none (some (-1)) S=.ok (.val (.tup (xF (.str w::rs) none (some (-1))))) S:=λS=>rfl
 have hc2: ∀S,kY (.val (.tup (.str w::rs))) (some 2) none S=.ok (.val (.tup (xF (.str w::rs) (some 2) none))) S:=λS=>rfl
 have b0:Bn (.tup (.str w::rs)):=zLG hw hr (by omega)
 generalize xF (MV.str w::rs) (some 1) none=c1 at *
 generalize xF (MV.str w::rs) none (some (-1))=c7 at *
 generalize xF (MV.str w::rs) (some 2) none=c2 at *
 have k':=k n
 generalize MV.tup ((MV.str w::rs)++[MV.int 0])=r6 at *
 generalize MV.tup (MV.str w::rs)=Rr at *
 generalize hm:MV.tup (ts.map tbl)=m at *
 have e1:zGI (G6 Rr c m none none none) S=.ok (.next (G6 Rr c m (some (.int n)) none none)) S:=by
  unfold zGI
  simp? [xW (b:=3) (by decide) (by decide),hn]
 have e2:Rt Bn zGJ (G6 Rr c m (some (.int n)) none none) S (decide (c % 3=0)):=Rt.mk0 (d:=Rr) b0 (by
  unfold zGJ
  simp? [mod_lit (show(0:Int)<3 by decide)])
 have e3:zGK (G6 Rr c m (some (.int n)) none none) S=.ok (.next (G6 Rr c m (some (.int n)) (some (.int (n % 8))) none)) S:=by
  unfold zGK
  simp? [mod_lit (show(0:Int)<8 by decide)]
 have e4:zGL (G6 Rr c m (some (.int n)) (some (.int (n % 8))) none) S=.ok (.next (G6 Rr c m (some (.int (n / 8))) (some (.int (n % 8))) none)) S:=by
  unfold zGL
  simp? [xW (b:=8) (by decide) (by decide)]
 have e5:Rt Bn zGM (G6 Rr c m (some (.int (n / 8))) (some (.int (n % 8))) none) S (decide (n % 8=0)):=Rt.mk0 b5 (by
  unfold zGM
  simp? [mod_lit (show(0:Int)<6 by decide),zMZ (show atI [MV.str [110,101,118,101,114,115],.str [],.str [84,105,101],.str [97,112,97,114,116,115],.str [110,101,118,101,114],.str [116,105,101]] (n / 8 % 6)=some (.str x)from hx2),zJW,hc1,a5])
 have e6:Rt Bn zGN (G6 Rr c m (some (.int (n / 8))) (some (.int (n % 8))) none) S (decide (n % 8=1)):=Rt.mk0 b6 (by
  unfold zGN
  simp? [zJW,a6])
 have e7:Rt Bn zGO (G6 Rr c m (some (.int (n / 8))) (some (.int (n % 8))) none) S (decide (n % 8=2)):=Rt.mk0 b7 (by
  unfold zGO
  simp? [hc7])
 have e8:Rt Bn zGP (G6 Rr c m (some (.int (n / 8))) (some (.int (n % 8))) none) S (decide (n % 8=3)):=Rt.mk0 b8 (by
  unfold zGP
  simp? [i0,lt,q1,hc2,a8])
 exact Rd.call (G:=zRG) (ρ:=G6 Rr c m none none none) (Rd.next e1 (e2.or (Rd.next e3 (Rd.next e4 (e5.or (e6.or (e7.or (e8.or k')))))))) (λd h=>h.td) rfl rfl rfl
end
theorem zSF{ws:List Int}{sd:Side}(h:yIB ws sd): ∃as,zCS sd=.tup as/\(∀d∈as,Td 2 d)/\as.length<=100:=by
 cases sd with
 |isv v=>
  refine⟨[.str sIs,v],rfl,λd hd=>?_,by simp⟩
  rcases mC0.mp hd with rfl|hd
  ·exact kD 2 (by decide)
  ·rw [mS.mp hd]
   have hv:Vl v:=h
   cases v with
   |int i=>exact yI 2 _
   |str x=>exact kD 2 (le_trans hv.2.1 (by decide))
   |_=>exact False.elim hv
 |cell k j=>
  refine⟨[.str gE,.int k,.int j],rfl,λd hd=>?_,by simp⟩
  simp only [mC0,nM0,or_false]at hd
  rcases hd with rfl|rfl|rfl
  ·exact kD 2 (by decide)
  ·exact yI 2 _
  ·exact yI 2 _
theorem yMR: ∀x∈words3,x.length<=1000:=by decide
theorem yGC{ws:List Int}{q:Test}(h:zYI ws q):Td 4 (testM q):=by
 obtain⟨h1,h2,h3⟩:=h
 obtain⟨as,e1,a1,a2⟩:=zSF h1
 obtain⟨cs,e2,c1,c2⟩:=zSF h3
 show Td 4 (.tup [zCS q.l,.str q.w,zCS q.r])
 rw [e1,e2]
 exact zUF (jZ a1 (by omega)) (kD 3 (yMR _ h2)) (jZ c1 (by omega))
theorem yAU{ws:List Int}{qs:List Test}(h: ∀q∈qs,zYI ws q)(hl:qs.length<=3):Td 5 (.tup (qs.map testM)):=jZ (λd hd=>by
 obtain⟨q,hq,rfl⟩:=mM0.mp hd
 exact yGC (h q hq)) (by rw [lM0];omega)
theorem yGD{cs:List Nat}(hl:cs.length<=3):Td 5 (.tup (cs.map xK)):=(jZ (n:=0) (λd hd=>by
 obtain⟨q,hq,rfl⟩:=mM0.mp hd
 exact yI 0 _) (by rw [lM0];omega)).up (by decide)
theorem yGE{ws:List Int}{qs:List Test}(h: ∀q∈qs,zYI ws q)(h1:1<=qs.length)(h3:qs.length<=3)(n m:Int)(S:Sto): ∃d,Td 5 d/\zX 3 kP [.val (.tup (qs.map testM)),.val (.int n),.val (.int m)] S=.ok (.val d) S:=by
 cases qs with
 |nil=>cases h1
 |cons q qs=>
  have hq:=h q mF0
  exact bt_ok (a:=zCS q.l) (b:=.str q.w) (c:=zCS q.r) (qs:=qs.map testM) (zSF hq.1) (kD 3 (yMR _ hq.2.1)) (zSF hq.2.2) (λd hd=>by
   obtain⟨q',hq',rfl⟩:=mM0.mp hd
   exact yGC (h q' (mO _ hq'))) (by rw [lM0];rw [lC0]at h3;omega) n m S
theorem Rt.fin{P:MV->Prop}{F G:Rho->Sto->R Fl}{ρ:Rho}{S:Sto}{d:MV}(h:P d)(e:F ρ S=.ok (.ret (.val d)) S):Rd P (zN F G) ρ S:=⟨d,[],h,by rw [aN];exact zU e⟩
section
variable{ts:List (Int×Int)}{S:Sto}
theorem yDK{t:Nat}{qs:List Test}(h:yAO ts (.never t qs))(c:Int): ∃d,Bn d/\zX 3 jM [.val (zJU (.never t qs)),.val (.int c),.val (.tup (ts.map tbl))] S=.ok (.val d) S:=by
 obtain⟨ht,q1,q2,q3⟩:=h
 have tT:=yAU q3 q2
 refine zUH (rs:=[.int (t:Nat),.tup (qs.map testM)]) (by decide) (λx hx=>?_) (by simp) ⟨[.int (t:Nat)],rfl⟩ c λn=>?_
 ·simp only [mC0,nM0,or_false]at hx
  rcases hx with rfl|rfl
  ·exact yI 6 _
  ·exact tT.up (by decide)
 ·obtain⟨e,ix1,ix2⟩:=yFY (S:=S) (m:=.tup (ts.map tbl)) (.inl rfl) ht
  obtain⟨d,td,hd⟩:=yGE q3 q1 q2 (n / 8) (wid ts t) S
  have i0: ∀S,ixF (.val (.tup [.str xH,.int (t:Nat),.tup (qs.map testM)])) (.val (.int 0)) S=.ok (.val (.str xH)) S:=λS=>rfl
  have i1: ∀S,ixF (.val (.tup [.str xH,.int (t:Nat),.tup (qs.map testM)])) (.val (.int 1)) S=.ok (.val (.int (t:Nat))) S:=λS=>rfl
  have i2: ∀S,ixF (.val (.tup [.str xH,.int (t:Nat),.tup (qs.map testM)])) (.val (.int (-1))) S=.ok (.val (.tup (qs.map testM))) S:=λS=>rfl
  have hc: ∀S,kY (.val (.tup [.str xH,.int (t:Nat),.tup (qs.map testM)])) none (some (-1)) S=.ok (.val (.tup [.str xH,.int (t:Nat)])) S:=λS=>rfl
  have ha: ∀S,xN (.val (.tup [.str xH,.int (t:Nat)])) (.val (.tup [d])) S=.ok (.val (.tup [.str xH,.int (t:Nat),d])) S:=λS=>zCY (fits (by simp))
  have hne: ∀S,neF (.val (.str xH)) (.val (.str [116,105,101])) S=.ok (.val (.bl true)) S:=λS=>rfl
  refine Rt.fin (d:=.tup [.str xH,.int (t:Nat),d]) (zLG (ds:=[.int (t:Nat),d]) (by decide) (λx hx=>?_) (by simp)) ?_
  ·simp only [mC0,nM0,or_false]at hx
   rcases hx with rfl|rfl
   ·exact yI 6 _
   ·exact td.up (by decide)
  ·generalize MV.tup [.str xH,.int (t:Nat),.tup (qs.map testM)]=Rr at *
   unfold gH
   simp? [i0,hne,hc,i1,i2,ix1,ix2,hd,zJW,ha]
theorem yDL{t u:Nat}{qs:List Test}(h:yAO ts (.apart t u qs))(c:Int): ∃d,Bn d/\zX 3 jM [.val (zJU (.apart t u qs)),.val (.int c),.val (.tup (ts.map tbl))] S=.ok (.val d) S:=by
 obtain⟨ht,hu,q1,q2,q3⟩:=h
 have tT:=yAU q3 q2
 refine zUH (rs:=[.int (t:Nat),.int (u:Nat),.tup (qs.map testM)]) (by decide) (λx hx=>?_) (by simp) ⟨[.int (t:Nat),.int (u:Nat)],rfl⟩ c λn=>?_
 ·simp only [mC0,nM0,or_false]at hx
  rcases hx with rfl|rfl|rfl
  ·exact yI 6 _
  ·exact yI 6 _
  ·exact tT.up (by decide)
 ·obtain⟨e,ix1,ix2⟩:=yFY (S:=S) (m:=.tup (ts.map tbl)) (.inl rfl) ht
  obtain⟨d,td,hd⟩:=yGE q3 q1 q2 (n / 8) (wid ts t) S
  have i0: ∀S,ixF (.val (.tup [.str yZ,.int (t:Nat),.int (u:Nat),.tup (qs.map testM)])) (.val (.int 0)) S=.ok (.val (.str yZ)) S:=λS=>rfl
  have i1: ∀S,ixF (.val (.tup [.str yZ,.int (t:Nat),.int (u:Nat),.tup (qs.map testM)])) (.val (.int 1)) S=.ok (.val (.int (t:Nat))) S:=λS=>rfl
  have i2: ∀S,ixF (.val (.tup [.str yZ,.int (t:Nat),.int (u:Nat),.tup (qs.map testM)])) (.val (.int (-1))) S=.ok (.val (.tup (qs.map testM))) S:=λS=>rfl
  have hc: ∀S,kY (.val (.tup [.str yZ,.int (t:Nat),.int (u:Nat),.tup (qs.map testM)])) none (some (-1)) S=.ok (.val (.tup [.str yZ,.int (t:Nat),.int (u:Nat)])) S:=λS=>rfl
  have ha: ∀S,xN (.val (.tup [.str yZ,.int (t:Nat),.int (u:Nat)])) (.val (.tup [d])) S=.ok (.val (.tup [.str yZ,.int (t:Nat),.int (u:Nat),d])) S:=λS=>zCY (fits (by simp))
  have hne: ∀S,neF (.val (.str yZ)) (.val (.str [116,105,101])) S=.ok (.val (.bl true)) S:=λS=>rfl
  refine Rt.fin (d:=.tup [.str yZ,.int (t:Nat),.int (u:Nat),d]) (zLG (ds:=[.int (t:Nat),.int (u:Nat),d]) (by decide) (λx hx=>?_) (by simp)) ?_
  ·simp only [mC0,nM0,or_false]at hx
   rcases hx with rfl|rfl|rfl
   ·exact yI 6 _
   ·exact yI 6 _
   ·exact td.up (by decide)
  ·generalize MV.tup [.str yZ,.int (t:Nat),.int (u:Nat),.tup (qs.map testM)]=Rr at *
   unfold gH
   simp? [i0,hne,hc,i1,i2,ix1,ix2,hd,zJW,ha]
theorem yMS{t u:Nat}{cs ds:List Nat}(h:yAO ts (.tie t cs u ds))(c:Int): ∃d,Bn d/\zX 3 jM [.val (zJU (.tie t cs u ds)),.val (.int c),.val (.tup (ts.map tbl))] S=.ok (.val d) S:=by
 obtain⟨ht,hu,q1,q2,q3,q4,q5⟩:=h
 have tC:Td 5 (.tup (cs.map xK)):=yGD q2
 have tD:Td 5 (.tup (ds.map xK)):=yGD (by omega)
 refine zUH (rs:=[.int (t:Nat),.tup (cs.map xK),.int (u:Nat),.tup (ds.map xK)]) (by decide) (λx hx=>?_) (by simp) ⟨[.int (t:Nat),.tup (cs.map xK),.int (u:Nat)],rfl⟩ c λn=>?_
 ·simp only [mC0,nM0,or_false]at hx
  rcases hx with rfl|rfl|rfl|rfl
  ·exact yI 6 _
  ·exact tC.up (by decide)
  ·exact yI 6 _
  ·exact tD.up (by decide)
 ·obtain⟨e,ix1,ix2⟩:=yFY (S:=S) (m:=.tup (ts.map tbl)) (.inl rfl) ht
  obtain⟨d1,t1,p1⟩:=yAT (n / 8) ts.length S
  obtain⟨d2,t2,p2⟩:=yAT (n / 8) (wid ts t) S
  have lt: ∀S,xB [.val (.tup (ts.map tbl))] S=.ok (.val (.int ts.length)) S:=λS=>by rw [kE,lM0]
  have hD:(ds.map xK).length<=3:=by rw [lM0];omega
  have hC:(cs.map xK).length<=3:=by rw [lM0];omega
  have nD: ∀x∈ds.map xK,Td 4 x:=λx hx=>by
   obtain⟨q,hq,rfl⟩:=mM0.mp hx
   exact yI 4 _
  have nC: ∀x∈cs.map xK,Td 4 x:=λx hx=>by
   obtain⟨q,hq,rfl⟩:=mM0.mp hx
   exact yI 4 _
  generalize ds.map xK=D at *
  generalize cs.map xK=C at *
  have i0: ∀S,ixF (.val (.tup [.str jY,.int (t:Nat),.tup C,.int (u:Nat),.tup D])) (.val (.int 0)) S=.ok (.val (.str jY)) S:=λS=>rfl
  have i1: ∀S,ixF (.val (.tup [.str jY,.int (t:Nat),.tup C,.int (u:Nat),.tup D])) (.val (.int 1)) S=.ok (.val (.int (t:Nat))) S:=λS=>rfl
  have i2: ∀S,ixF (.val (.tup [.str jY,.int (t:Nat),.tup C,.int (u:Nat),.tup D])) (.val (.int 2)) S=.ok (.val (.tup C)) S:=λS=>rfl
  have i3: ∀S,ixF (.val (.tup [.str jY,.int (t:Nat),.tup C,.int (u:Nat),.tup D])) (.val (.int 3)) S=.ok (.val (.int (u:Nat))) S:=λS=>rfl
  have i4: ∀S,ixF (.val (.tup [.str jY,.int (t:Nat),.tup C,.int (u:Nat),.tup D])) (.val (.int 4)) S=.ok (.val (.tup D)) S:=λS=>rfl
  have c2: ∀S,kY (.val (.tup [.str jY,.int (t:Nat),.tup C,.int (u:Nat),.tup D])) none (some 2) S=.ok (.val (.tup [.str jY,.int (t:Nat)])) S:=λS=>rfl
  have c3: ∀S,kY (.val (.tup [.str jY,.int (t:Nat),.tup C,.int (u:Nat),.tup D])) none (some 3) S=.ok (.val (.tup [.str jY,.int (t:Nat),.tup C])) S:=λS=>rfl
  have c4: ∀S,kY (.val (.tup [.str jY,.int (t:Nat),.tup C,.int (u:Nat),.tup D])) none (some 4) S=.ok (.val (.tup [.str jY,.int (t:Nat),.tup C,.int (u:Nat)])) S:=λS=>rfl
  have c3': ∀S,kY (.val (.tup [.str jY,.int (t:Nat),.tup C,.int (u:Nat),.tup D])) (some 3) none S=.ok (.val (.tup [.int (u:Nat),.tup D])) S:=λS=>rfl
  have hne: ∀S,neF (.val (.str jY)) (.val (.str [116,105,101])) S=.ok (.val (.bl false)) S:=λS=>rfl
  have ap: ∀(x y:List MV)(S:Sto),x.length<=100->y.length<=100->xN (.val (.tup x)) (.val (.tup y)) S=.ok (.val (.tup (x++y))) S:=λx y S h1 h2=>zCY (fits (by omega))
  have rp:=yGB (ds:=[MV.int 0]) (k:=n / 8 % 5) (by omega) (by omega) (by simp)
  have tR:Td 5 (.tup (List.replicate (n / 8 % 5).toNat [MV.int 0]).flatten):=yMQ _ (λx hx=>by rw [mS.mp hx];exact yI 4 _) (by simp only [lS];omega)
  generalize (List.replicate (n / 8 % 5).toNat [MV.int 0]).flatten=Rp at *
  have cC: ∀S,kY (.val (.tup C)) (some 1) none S=.ok (.val (.tup (xF C (some 1) none))) S:=λS=>rfl
  have lC:(xF C (some 1) none).length<=3:=by unfold xF;rw [lT,length_drop];omega
  have mC: ∀x∈xF C (some 1) none,Td 4 x:=λx hx=>nC x (zHH hx)
  generalize xF C (some 1) none=C1 at *
  have b10:Bn (.tup ([.str jY,.int (t:Nat),.tup C]++[d1,.tup D])):=zLG (ds:=[.int (t:Nat),.tup C,d1,.tup D]) (by decide) (λx hx=>by
   simp only [mC0,nM0,or_false]at hx
   rcases hx with rfl|rfl|rfl|rfl
   ·exact yI 6 _
   ·exact tC.up (by decide)
   ·exact t1.up (by decide)
   ·exact tD.up (by decide)) (by simp)
  have b11:Bn (.tup ([.str jY,.int (t:Nat),.tup C,.int (u:Nat)]++[.tup (D++[.int 0])])):=zLG (w:=jY) (ds:=[.int (t:Nat),.tup C,.int (u:Nat),.tup (D++[MV.int 0])]) (by decide) (λx hx=>by
   simp only [mC0,nM0,or_false]at hx
   rcases hx with rfl|rfl|rfl|rfl
   ·exact yI 6 _
   ·exact tC.up (by decide)
   ·exact yI 6 _
   ·exact(zUG nD (λy hy=>by rw [mS.mp hy];exact yI 4 _) (by simp only [lS];omega)).up (by decide)) (by simp)
  have b12:Bn (.tup ([.str jY,.int (t:Nat)]++[.tup Rp,.int (u:Nat),.tup Rp])):=zLG (ds:=[.int (t:Nat),.tup Rp,.int (u:Nat),.tup Rp]) (by decide) (λx hx=>by
   simp only [mC0,nM0,or_false]at hx
   rcases hx with rfl|rfl|rfl|rfl
   ·exact yI 6 _
   ·exact tR.up (by decide)
   ·exact yI 6 _
   ·exact tR.up (by decide)) (by simp)
  have b14:Bn (.tup (([.str jY,.int (t:Nat)]++[.tup ([d2]++C1)])++[.int (u:Nat),.tup D])):=zLG (ds:=[.int (t:Nat),.tup ([d2]++C1),.int (u:Nat),.tup D]) (by decide) (λx hx=>by
   simp only [mC0,nM0,or_false]at hx
   rcases hx with rfl|rfl|rfl|rfl
   ·exact yI 6 _
   ·exact(zUG (n:=4) (λy hy=>by rw [mS.mp hy];exact t2.up (by decide)) mC (by simp only [lS];omega)).up (by decide)
   ·exact yI 6 _
   ·exact tD.up (by decide)) (by simp)
  show Rd Bn _ (G6 (.tup [.str jY,.int (t:Nat),.tup C,.int (u:Nat),.tup D]) c (.tup (ts.map tbl)) (some (.int (n / 8))) (some (.int (n % 8))) none) S
  generalize MV.tup [.str jY,.int (t:Nat),.tup C,.int (u:Nat),.tup D]=Rr at *
  generalize hm:MV.tup (ts.map tbl)=m at *
  have e9:gH (G6 Rr c m (some (.int (n / 8))) (some (.int (n % 8))) none) S=.ok (.next (G6 Rr c m (some (.int (n / 8))) (some (.int (n % 8))) none)) S:=by
   unfold gH
   simp? [i0,hne,fT,iF]
  have e10:Rt Bn nQ (G6 Rr c m (some (.int (n / 8))) (some (.int (n % 8))) none) S (decide (n % 8=4)):=Rt.mk0 b10 (by
   unfold nQ
   simp? [c3,lt,p1,i4,ap [.str jY,.int (t:Nat),.tup C] [d1,.tup D] _ (by simp) (by simp)])
  have e11:Rt Bn nR (G6 Rr c m (some (.int (n / 8))) (some (.int (n % 8))) none) S (decide (n % 8=5)):=Rt.mk0 b11 (by
   unfold nR
   simp? [c4,i4,zJW,ap D [.int 0] _ (by omega) (by simp),ap [.str jY,.int (t:Nat),.tup C,.int (u:Nat)] [.tup (D++[.int 0])] _ (by simp) (by simp)])
  have e12:Rt Bn nS (G6 Rr c m (some (.int (n / 8))) (some (.int (n % 8))) none) S (decide (n % 8=6)):=Rt.mk0 b12 (by
   unfold nS
   simp? [c2,zJW,mod_lit (show(0:Int)<5 by decide),rp,i3,ap [.str jY,.int (t:Nat)] [.tup Rp,.int (u:Nat),.tup Rp] _ (by simp) (by simp)])
  have e13:nU (G6 Rr c m (some (.int (n / 8))) (some (.int (n % 8))) none) S=.ok (.next (G6 Rr c m (some (.int (n / 8))) (some (.int (n % 8))) (some (.tup ([d2]++C1))))) S:=by
   unfold nU
   simp? [i1,ix1,ix2,p2,zJW,i2,cC,ap [d2] C1 _ (by simp) (by omega)]
  have e14:Rd Bn nV (G6 Rr c m (some (.int (n / 8))) (some (.int (n % 8))) (some (.tup ([d2]++C1)))) S:=Rd.mk0 b14 (by
   unfold nV
   simp? [c2,zJW,c3',ap [.str jY,.int (t:Nat)] [.tup ([d2]++C1)] _ (by simp) (by simp),ap ([.str jY,.int (t:Nat)]++[.tup ([d2]++C1)]) [.int (u:Nat),.tup D] _ (by simp) (by simp)])
  exact Rd.next e9 (e10.or (e11.or (e12.or (Rd.next e13 e14))))
theorem yQQ{r:Rule}(h:yAO ts r)(c:Int): ∃d,Bn d/\zX 3 jM [.val (zJU r),.val (.int c),.val (.tup (ts.map tbl))] S=.ok (.val d) S:=by
 cases r with
 |never t qs=>exact yDK h c
 |apart t u qs=>exact yDL h c
 |tie t cs u ds=>exact yMS h c
end
def tbQ:MV->MV->Bool
 |.int w,b=>decide (1<=w)&&decide (w<=4)&&inB (w+1) b
 |_,_=>false
def tbD(d:MV):Bool:=match pr d with
 |some (a,b)=>tbQ a b
 |none=>false
theorem yQR{d:MV}(h:pq d=true)(S:Sto):zX 1 zIN [.val d] S=.ok (.val (.bl (tbD d))) S:=by
 refine yM rfl ?_
 show yK (zNG [some d,none] S)=_
 unfold zNG tbD
 have jt:=cJ h 2 2 S
 rw [pr_in]at jt
 cases hp:pr d with
 |none=>
  rw [hp]at jt
  have e1:jR [some d,none] S=.ok (.ret (.val (.bl false))) S:=by
   unfold jR
   simp? [jt,Option.isSome_none,Bool.not_false]
  rw [zU e1]
  rfl
 |some ab=>
  obtain⟨a,b⟩:=ab
  rw [hp]at jt
  obtain⟨ha,hb⟩:=pr_pq h hp
  have hd:=yRR hp
  subst hd
  dsimp only
  cases hi:isI a with
  |false=>
   have e1:jR [some (.tup [a,b]),none] S=.ok (.ret (.val (.bl false))) S:=by
    unfold jR
    simp? [jt,Option.isSome_some,Bool.not_true,fT,iF,i2_0,zSC ha,hi,Bool.not_false]
   rw [zU e1,show tbQ a b=false by cases a<;>first |rfl|cases hi]
   rfl
  |true=>
   obtain⟨w,rfl⟩: ∃w,a=.int w:=by cases a<;>first |exact⟨_,rfl⟩|cases hi
   have e1:jR [some (.tup [.int w,b]),none] S=.ok (.next [some (.tup [.int w,b]),none]) S:=by
    unfold jR
    simp? [jt,Option.isSome_some,Bool.not_true,fT,iF,i2_0,zSC ha,hi]
   have e2:zIL [some (.tup [.int w,b]),none] S=.ok (.next [some (.tup [.int w,b]),some (.int w)]) S:=by
    unfold zIL
    simp? [i2_0]
   have e3:zIM [some (.tup [.int w,b]),some (.int w)] S=.ok (.ret (.val (.bl (tbQ (.int w) b)))) S:=by
    show _=R.ok (Fl.ret (.val (.bl (decide (1<=w)&&decide (w<=4)&&inB (w+1) b)))) S
    unfold zIM
    simp? [i2_1,chF,le_int,zIZ hb,zAI]
    cases decide (1<=w)with
    |false=>rfl
    |true=>cases decide (w<=4)<;>rfl
   rw [zE e1,zE e2,e3]
   rfl
def zHS(p:MV->Bool):List MV->Nat->Option Nat
 |[],_=>none
 |d::ds,n=>if p d=true then zHS p ds (n+1)else some n
theorem zWU{p:MV->Bool}: ∀{ds:List MV}{n:Nat},zHS p ds n=none-> ∀d∈ds,p d=true
 |[],_,_,d,hd=>by simp at hd
 |e::ds,n,h,d,hd=>by
  unfold zHS at h
  split at h
  ·rename_i he
   rcases mC0.mp hd with rfl|hd
   ·exact he
   ·exact zWU h d hd
  ·cases h
abbrev NQ(k:Nat):List (Str×MV):=[("place",.int (k:Nat))]
theorem yMT{c:Str}{k:Nat}(h:k<=1000000)(S:Sto):raF c "place" (.val (.int (k:Nat))) S=.exc c (NQ k) S:=iP (show(k:Int).natAbs<BIG from Nat.lt_of_le_of_lt (by omega:(k:Int).natAbs<=1000000) (by decide+kernel))
theorem yGF{n:Nat}{F:List MV->Sto->R Er}{rs:List Er}{S T:Sto}(hn:rs.length=n)(hF:F (zY rs S).1 (zY rs S).2=.ok (.val .non) (S++T)):dN n F rs S=.ok (.val .non) S:=by
 unfold dN
 rw [iP hn,hF]
 exact zTL (yCT _) (λl=>by simp)
theorem zYS{n:Nat}{F:List MV->Sto->R Er}{rs:List Er}{S T:Sto}{c:Str}{k:Nat}(hn:rs.length=n)(hF:F (zY rs S).1 (zY rs S).2=.exc c (NQ k) (S++T)):dN n F rs S=.exc c (NQ k) S:=by
 unfold dN
 rw [iP hn,hF]
 show(if(NQ k).all (λp=>zTP p.2)=true then(zCR S (.val .non) (S++T)).bind λ_ S3=>R.exc c (NQ k) S3 else .no)=_
 rw [iP (show(NQ k).all (λp=>zTP p.2)=true from rfl),zTL (yCT _) (λl=>by simp)]
 rfl
section
variable{ts rs:List MV}{a b m:MV}{S:Sto}
theorem yQS{c:MV}{as bs cs:List MV}(ha:SqM S a as)(hb:SqM S b bs)(hc:SqM S c cs)(h1:as.length<=4)(h2:bs.length<=6)(h3:cs.length<=60):dN 3 zBG [.val a,.val b,.val c] S=.ok (.val .non) S:=yGF (T:=[]) rfl (by
 show yK (zFM [some a,some b,some c] S)=_
 unfold zFM zJQ
 simp? [ha.len,hb.len,hc.len,gt_int,dF0 (show¬(4:Int)<as.length by omega),dF0 (show¬(6:Int)<bs.length by omega),dF0 (show¬(60:Int)<cs.length by omega),fT,iF,aN]
 rfl)
end
section
variable{ts rs:List MV}{a b m:MV}{S:Sto}
theorem yMU{gs:List (Nat×List MV)}(hg:stay gs S): ∀(L:List MV)(n:Nat),(∀d∈L,pq d=true)->n+L.length<=1000000-> ∀(p q:Option MV), ∃p' q',bS (gTp 2 (yT (gNm 1) (yT (gNm 2) dU))) wR gs ((L.zipIdx n).map λp=>.tup [.int (p.2:Nat),p.1]) [some m,p,q] S=
   match zHS tbD L n with
   |none=>.ok (.next [some m,p',q']) S
   |some k=>.exc "NoTable" (NQ k) S
 |[],n,_,_,p,q=>⟨p,q,rfl⟩
 |d::L,n,hL,hn,p,q=>by
  rw [lC0]at hn
  obtain⟨p',q',ih⟩:=yMU hg L (n+1) (λe he=>hL e (mO _ he)) (by omega) (some (.int (n:Nat))) (some d)
  refine⟨p',q',?_⟩
  have ja:=yQR (hL d mF0) S
  have g:gTp 2 (yT (gNm 1) (yT (gNm 2) dU)) (.tup [.int (n:Nat),d]) [some m,p,q] S=.ok [some m,some (.int (n:Nat)),some d] S:=rfl
  rw [zipIdx_cons,map_cons]
  unfold zHS
  cases hd:tbD d with
  |true=>
   rw [hd]at ja
   rw [iP rfl,gD g (ρ':=[some m,some (.int (n:Nat)),some d]) (S':=S) ?_ hg]
   ·exact ih
   ·unfold wR cR
    simp? [ja,Bool.not_true,fT,iF]
  |false=>
   rw [hd]at ja
   rw [iN0 xF0]
   refine yFW g ?_
   unfold wR cR
   simp? [ja,Bool.not_false,yMT (show n<=1000000 by omega)]
end
def yGG(ts:List MV):Option Nat:=if ts.length=0 then some 0 else zHS tbD ts 0
section
variable{ts rs:List MV}{a b m:MV}{S:Sto}
theorem yMV(hm:SqM S m ts)(hA: ∀d∈ts,pq d=true)(hl:ts.length<=1000):dN 1 nH [.val m] S=match yGG ts with
   |none=>.ok (.val .non) S
   |some k=>.exc "NoTable" (NQ k) S:=by
 obtain⟨gs,hg,hit⟩:=hm.itE
 obtain⟨p',q',hlp⟩:=yMU (m:=m) hg ts 0 hA (by omega) none none
 unfold yGG
 by_cases h0:ts.length=0
 ·rw [iP h0]
  refine zYS (T:=[]) rfl ?_
  show yK (wZ [some m,none,none] S)=_
  unfold wZ
  rw [yFX (show jK [some m,none,none] S=.exc "NoTable" (NQ 0) S by
   unfold jK
   simp? [hm.len,dT0 (show(ts.length:Int)=0 by omega)]
   exact yMT (k:=0) (by omega) S),aN]
  rfl
 ·rw [iN0 h0]
  have e1:jK [some m,none,none] S=.ok (.next [some m,none,none]) S:=by
   unfold jK
   simp? [hm.len,dF0 (show¬(ts.length:Int)=0 by omega),fT,iF]
  have e2:zAO [some m,none,none] S=bS (gTp 2 (yT (gNm 1) (yT (gNm 2) dU))) wR gs (zTO ts) [some m,none,none] S:=by
   unfold zAO
   simp? [hit]
  rw [show bS (gTp 2 (yT (gNm 1) (yT (gNm 2) dU))) wR gs (zTO ts) [some m,none,none] S=_ from hlp]at e2
  cases hb:zHS tbD ts 0 with
  |none=>
   rw [hb]at e2
   refine yGF (T:=[]) rfl ?_
   show yK (wZ [some m,none,none] S)=_
   unfold wZ
   rw [zE e1,e2,aN]
   rfl
  |some k=>
   rw [hb]at e2
   refine zYS (T:=[]) rfl ?_
   show yK (wZ [some m,none,none] S)=_
   unfold wZ
   rw [zE e1,e2,aN]
   rfl
end
theorem yQT(i:Int)(S:Sto):zXS (.val (.int i)) (.val .non) S=.ok (.val (.bl false)) S:=rfl
theorem yQU(i:List Nat)(S:Sto):zXS (.val (.str i)) (.val .non) S=.ok (.val (.bl false)) S:=rfl
theorem yMW(i:List MV)(S:Sto):zXS (.val (.tup i)) (.val .non) S=.ok (.val (.bl false)) S:=rfl
theorem yVG(i:List MV)(S:Sto):jI [.val (.tup i),.val (.typ "str")] S=.ok (.val (.bl false)) S:=rfl
theorem yVH(i:List MV)(S:Sto):jI [.val (.tup i),.val (.typ "int")] S=.ok (.val (.bl false)) S:=rfl
theorem yVI(i:List MV)(S:Sto):jI [.val (.tup i),.val (.typ "list")] S=.ok (.val (.bl false)) S:=rfl
theorem zUI(ds:List MV):pairs ds ds=ds.map λd=>.tup [d,d]:=by
 induction ds with
 |nil=>rfl
 |cons d ds ih=>show MV.tup [d,d]::pairs ds ds=_;rw [ih];rfl
mutual
def sm:MV->Bool
 |.tup ds=>decide (ds.length<1000)&&smL ds
 |_=>true
def smL:List MV->Bool
 |[]=>true
 |d::ds=>sm d&&smL ds
end
theorem yMX(ds:List MV):sm (.tup ds)=(decide (ds.length<1000)&&smL ds):=by rw [sm]
theorem yAV(d:MV)(ds:List MV):smL (d::ds)=(sm d&&smL ds):=by rw [smL]
theorem yGH: ∀{ds:List MV},smL ds=true-> ∀d∈ds,sm d=true
 |[],_,d,h=>by simp at h
 |e::ds,hp,d,h=>by
  rw [yAV,aE]at hp
  rcases mC0.mp h with rfl|h
  ·exact hp.1
  ·exact yGH hp.2 d h
theorem yGI: ∀{ds:List MV},(∀d∈ds,sm d=true)->smL ds=true
 |[],_=>by rw [smL]
 |d::ds,h=>by rw [yAV,h d mF0,yGI λe he=>h e (mO _ he)];rfl
theorem yAW: ∀(n:Nat){d:MV}(S:Sto),pd d=true->sm d=true->dpt d<n->zX 2 (yA n) [.val d,.val d] S=.ok (.val (.bl true)) S
 |0,d,S,_,_,h=>by omega
 |n+1,d,S,hp,hsm,h=>yM rfl (by
  show yK (zIW (yA n) [some d,some d] S)=_
  unfold zIW
  rcases zTY hp with⟨i,rfl⟩|⟨x,rfl⟩|⟨ds,rfl,pds⟩
  ·rw [zE (show kA (yA n) [some (.int i),some (.int i)] S=.ok (.next [some (.int i),some (.int i)]) S by unfold kA;simp? [yQT];rfl)]
   rw [zE (show kB (yA n) [some (.int i),some (.int i)] S=.ok (.next [some (.int i),some (.int i)]) S by unfold kB;simp? [bok];rfl)]
   rw [zU (show gT (yA n) [some (.int i),some (.int i)] S=.ok (.ret (.val (.bl true))) S by unfold gT;simp? [zYK,zYL,zAI];first |rfl|simp [bok])]
   rfl
  ·rw [zE (show kA (yA n) [some (.str x),some (.str x)] S=.ok (.next [some (.str x),some (.str x)]) S by unfold kA;simp? [yQU];rfl)]
   rw [zU (show kB (yA n) [some (.str x),some (.str x)] S=.ok (.ret (.val (.bl true))) S by unfold kB;simp? [zAI,eq_str];first |rfl|simp [bok])]
   rfl
  ·rw [zMD]at h
   rw [yMX,aE,decide_eq_true_eq]at hsm
   have hlen:ds.length<1000000:=by omega
   have hc:jE (gTp 2 (yT (gNm 0) (yT (gNm 1) dU))) (zHN (yA n)) (zAQ (yA n)) [none,none] [] (pairs ds ds) S=.ok ((pairs ds ds).map λ_=>.bl true) S:=zBN (gC S) λe he=>by
    rw [zUI]at he
    obtain⟨x,hx,rfl⟩:=mM0.mp he
    refine⟨[some x,some x],rfl,rfl,?_⟩
    unfold zAQ
    simp? [yAW n S (zSA pds x hx) (yGH hsm.2 x hx) (by have:=zLC x hx;omega)]
   rw [zE (show kA (yA n) [some (.tup ds),some (.tup ds)] S=.ok (.next [some (.tup ds),some (.tup ds)]) S by unfold kA;simp? [yMW];rfl)]
   rw [zE (show kB (yA n) [some (.tup ds),some (.tup ds)] S=.ok (.next [some (.tup ds),some (.tup ds)]) S by unfold kB;simp? [yVG];rfl)]
   rw [zE (show gT (yA n) [some (.tup ds),some (.tup ds)] S=.ok (.next [some (.tup ds),some (.tup ds)]) S by unfold gT;simp? [yVH];rfl)]
   rw [zE (show zDU (yA n) [some (.tup ds),some (.tup ds)] S=.ok (.next [some (.tup ds),some (.tup ds)]) S by unfold zDU;simp? [yVI];rfl)]
   rw [zE (show zDV (yA n) [some (.tup ds),some (.tup ds)] S=.ok (.next [some (.tup ds),some (.tup ds)]) S by unfold zDV;simp? [bok];rfl)]
   unfold zKY
   simp? [kE,zAI,show itZ [.val (.tup ds),.val (.tup ds)] S=.ok ⟨pairs ds ds,[]⟩ S from rfl]
   rw [iP (show(pairs ds ds).length<1000000 by rw [zUI,lM0];exact hlen)]
   rw [show blk 2 [] [some (.tup ds),some (.tup ds)]=[none,none]from rfl,hc,yLZ]
   simp [bok,yLY]
   rfl)
theorem yMY{S:Sto}{n:Nat}{c:Str}{fs:List (Str×MV)}(h:S[n]? =some (.ins c fs))(hc:c∈XNS)(c2:Str):zJV XNS c2 (.val (.loc n)) S=.ok (.val (.bl (decide (c=c2)))) S:=by
 unfold zJV
 dsimp only
 rw [h]
 dsimp only
 rw [iP hc]
theorem yVJ{S:Sto}{n:Nat}{c:Str}{fs:List (Str×MV)}(h:S[n]? =some (.ins c fs))(hc:c∈XNS):yKV XNS (.val (.loc n)) S=.ok (.val (.bl true)) S:=by
 unfold yKV
 dsimp only
 rw [h]
 dsimp only
 rw [iP hc]
theorem yVK{S:Sto}{n k:Nat}{c:Str}(h:S[n]? =some (.ins c (NQ k)))(hc:c∈XNS):yLG XNS "place" (.val (.loc n)) S=.ok (.val (.int (k:Nat))) S:=by
 unfold yLG
 dsimp only
 rw [h]
 dsimp only
 rw [iP hc]
 rfl
theorem yMZ{n:Nat}{F:List MV->Sto->R Er}{rs:List Er}{S T:Sto}{l:Nat}{ds:List MV}{as:List MV}(hn:rs.length=n)(hE:zY rs S=(as,S))(hF:F as S=.ok (.val (.loc l)) (S++T))(h1:S.length<=l)(h2:(S++T)[l]? =some (.lst ds))(h:loL S.length ds):zX n F rs S=.ok (.new ds) S:=by
 have hF':F (zY rs S).1 (zY rs S).2=.ok (.val (.loc l)) (S++T):=by rw [hE];exact hF
 exact yKK hn hF' h1 h2 h
abbrev bq(c x:Str):MV:=.bl (decide (c=x))
abbrev K4(c:Str):List MV:=[bq c "TooGreat",bq c "NoTable",bq c "NoRule",bq c "NoRow"]
abbrev K8(c:Str):List MV:=[bq c "Twice",bq c "NoText",bq c "NoPlace",bq c "NotPlain"]
abbrev K12(c:Str):List MV:=[bq c "NoQuestion",bq c "Double",bq c "TooWide",bq c "Ring"]
abbrev KL(c:Str):List MV:=K4 c++K8 c++K12 c
theorem yNA{S:Sto}{n:Nat}{c:Str}{fs:List (Str×MV)}(h:S[n]? =some (.ins c fs))(hc:c∈XNS):zX 1 nP [.val (.loc n)] S=.ok (.new (KL c)) S:=by
 have H: ∀(L:Sto)(c2:Str),zJV XNS c2 (.val (.loc n)) (S++L)=.ok (.val (.bl (decide (c=c2)))) (S++L):=λL c2=>yMY (zNL h) hc c2
 have H0: ∀c2:Str,zJV XNS c2 (.val (.loc n)) S=.ok (.val (.bl (decide (c=c2)))) S:=λc2=>yMY h hc c2
 have l1: ∀a,(S++[a]).length=S.length+1:=λa=>by rw [lA];rfl
 have l2: ∀a b,(S++[a,b]).length=S.length+2:=λa b=>by rw [lA];rfl
 have e1:zDZ [some (.loc n),none] S=.ok (.next [some (.loc n),some (.loc S.length)]) (S++[.lst (K4 c)]):=by
  unfold zDZ
  simp? [H0,lst4]
 have a2:xN (.val (.loc S.length)) (.new (K8 c)) (S++[.lst (K4 c)])=.ok (.new (K4 c++K8 c)) (S++[.lst (K4 c)]):=zTM (yFD (yQD _ _)) rfl (fits (show 4+4<=1000000 by decide))
 have e2:zEA [some (.loc n),some (.loc S.length)] (S++[.lst (K4 c)])=.ok (.next [some (.loc n),some (.loc (S.length+1))]) (S++[.lst (K4 c),.lst (K4 c++K8 c)]):=by
  unfold zEA
  simp? [H,lst4,a2,l1,aA]
  rfl
 have a3:xN (.val (.loc (S.length+1))) (.new (K12 c)) (S++[.lst (K4 c),.lst (K4 c++K8 c)])=.ok (.new (KL c)) (S++[.lst (K4 c),.lst (K4 c++K8 c)]):=zTM (yFD (yUP _ _ _)) rfl (fits (show 8+4<=1000000 by decide))
 have e3:zEB [some (.loc n),some (.loc (S.length+1))] (S++[.lst (K4 c),.lst (K4 c++K8 c)])=.ok (.next [some (.loc n),some (.loc (S.length+2))]) (S++[.lst (K4 c),.lst (K4 c++K8 c),.lst (KL c)]):=by
  unfold zEB
  simp? [H,lst4,a3,l2]
  rw [aA]
  rfl
 have e4: ∀T,zLA [some (.loc n),some (.loc (S.length+2))] T=.ok (.ret (.val (.loc (S.length+2)))) T:=λT=>rfl
 refine yMZ (T:=[.lst (K4 c),.lst (K4 c++K8 c),.lst (KL c)]) (l:=S.length+2) (as:=[.loc n]) rfl rfl ?_ (by omega) (zYP (i:=2) rfl) (gL λe he=>?_)
 ·show yK (zIX [some (.loc n),none] S)=_
  unfold zIX
  rw [zE e1,zE e2,zE e3,e4]
  rfl
 ·simp only [KL,K4,K8,K12,cons_append,nil_append,mC0,nM0,or_false]at he
  rcases he with rfl|rfl|rfl|rfl|rfl|rfl|rfl|rfl|rfl|rfl|rfl|rfl<;>exact zTK _ _
theorem ne_ln{S:Sto}{l:Nat}{ds:List MV}(hl:S[l]? =some (.lst ds))(hd: ∀d∈ds,pq d=true/\dpt d<40):neF (.val (.loc l)) (.new ds) S=.ok (.val (.bl false)) S:=by
 have e:vwE S (.val (.loc l))=some (.ls ds):=by
  show(dZ S (.val (.loc l))).map Vw.ls=_
  rw [zHG hl];rfl
 have q:zPY S yN (.val (.loc l)) (.new ds)=some true:=by
  unfold zPY
  rw [e]
  show(if ds.length=ds.length then(prs (eqv S 40) ds ds).map λbs=>bs.all id else some false)=_
  rw [iP rfl,zPD λd hd'=>eqv_refl 40 (hd d hd').1 (hd d hd').2]
  show some ((ds.map λ_=>true).all id)=_
  rw [zQM]
 unfold neF
 rw [q]
 rfl
abbrev WL(w:Int):List MV:=(List.range 12).map λk=>.bl (decide (((k:Nat):Int)=w))
noncomputable def rbD(ts:List (Int×Int)):MV->Bool
 |.tup (.str w::ds)=>rlD ts w ds
 |_=>false
section
variable{ts:List (Int×Int)}{m a b c:MV}{S:Sto}{L:List MV}
theorem j_rb{d:MV}(hm:SqM S m (ts.map tbl))(h:Bn d):zX 2 zHM [.val d,.val m] S=.ok (.val (.bl (rbD ts d))) S:=by
 obtain⟨w,ds,rfl,h1,h2,h3⟩:=h
 exact yVB hm (by omega) λx hx=>(h2 x hx).1
theorem lj_rb{d:MV}(hm:SqM S m (ts.map tbl))(h:Bn d):zX 2 nX [.val m,.val d] S=.ok (.val (.bl (rbD ts d))) S:=by
 obtain⟨w,ds,rfl,h1,h2,h3⟩:=h
 exact yQP hm λx hx=>(h2 x hx).1
theorem yNB{gs:List (Nat×List MV)}(hm:SqM S m (ts.map tbl))(hg:stay gs S): ∀(L:List MV)(n:Nat),(∀d∈L,Bn d)->n+L.length<=1000000-> ∀(p q:Option MV), ∃p' q',bS (gTp 2 (yT (gNm 2) (yT (gNm 3) dU))) kG gs ((L.zipIdx n).map λp=>.tup [.int (p.2:Nat),p.1]) [some m,some b,p,q] S=
   match zHS (rbD ts) L n with
   |none=>.ok (.next [some m,some b,p',q']) S
   |some k=>.exc "NoRule" (NQ k) S
 |[],n,_,_,p,q=>⟨p,q,rfl⟩
 |d::L,n,hL,hn,p,q=>by
  rw [lC0]at hn
  obtain⟨p',q',ih⟩:=yNB hm hg L (n+1) (λe he=>hL e (mO _ he)) (by omega) (some (.int (n:Nat))) (some d)
  refine⟨p',q',?_⟩
  have ja:=j_rb hm (hL d mF0)
  have g:gTp 2 (yT (gNm 2) (yT (gNm 3) dU)) (.tup [.int (n:Nat),d]) [some m,some b,p,q] S=.ok [some m,some b,some (.int (n:Nat)),some d] S:=rfl
  rw [zipIdx_cons,map_cons]
  unfold zHS
  cases hd:rbD ts d with
  |true=>
   rw [hd]at ja
   rw [iP rfl,gD g (ρ':=[some m,some b,some (.int (n:Nat)),some d]) (S':=S) ?_ hg]
   ·exact ih
   ·unfold kG nI
    simp? [ja,Bool.not_true,fT,iF]
  |false=>
   rw [hd]at ja
   rw [iN0 xF0]
   refine yFW g ?_
   unfold kG nI
   simp? [ja,Bool.not_false,yMT (show n<=1000000 by omega)]
theorem yQV(hm:SqM S m (ts.map tbl))(hb:SqM S b L)(hL: ∀d∈L,Bn d)(hl:L.length<=1000):dN 2 zBH [.val m,.val b] S=match zHS (rbD ts) L 0 with
   |none=>.ok (.val .non) S
   |some k=>.exc "NoRule" (NQ k) S:=by
 obtain⟨gs,hg,hit⟩:=hb.itE
 obtain⟨p',q',hlp⟩:=yNB (b:=b) hm hg L 0 hL (by omega) none none
 have e1:zCG [some m,some b,none,none] S=bS (gTp 2 (yT (gNm 2) (yT (gNm 3) dU))) kG gs (zTO L) [some m,some b,none,none] S:=by
  unfold zCG
  simp? [hit]
 rw [show bS (gTp 2 (yT (gNm 2) (yT (gNm 3) dU))) kG gs (zTO L) [some m,some b,none,none] S=_ from hlp]at e1
 cases hb1:zHS (rbD ts) L 0 with
 |some k=>
  rw [hb1]at e1
  refine zYS (T:=[]) rfl ?_
  show yK (bU [some m,some b,none,none] S)=_
  unfold bU
  rw [e1,aN]
  rfl
 |none=>
  rw [hb1]at e1
  refine yGF (T:=[]) rfl ?_
  show yK (bU [some m,some b,none,none] S)=_
  unfold bU
  rw [e1,aN]
  rfl
theorem yQW(hb:SqM S b []):dN 2 zCZ [.val m,.val b] S=.ok (.val .non) S:=by
 obtain⟨gs,hg,hit⟩:=hb.itE
 obtain⟨gs2,hg2,hit2⟩:=(hb.app (T:=[.dic []])).itE
 refine yGF (T:=[.dic []]) rfl ?_
 show yK (zIS [some m,some b,none,none,none] S)=_
 have e1:zDP [some m,some b,none,none,none] S=.ok (.next [some m,some b,none,none,none]) S:=by
  unfold zDP
  simp? [hit]
  rfl
 have e2:zDQ [some m,some b,none,none,none] S=.ok (.next [some m,some b,none,none,some (.loc S.length)]) (S++[.dic []]):=by
  unfold zDQ
  simp? [show yKS S=.ok (.val (.loc S.length)) (S++[.dic []])from rfl]
 have e3:zDR [some m,some b,none,none,some (.loc S.length)] (S++[.dic []])=.ok (.next [some m,some b,none,none,some (.loc S.length)]) (S++[.dic []]):=by
  unfold zDR
  simp? [hit2]
  rfl
 unfold zIS
 rw [zE e1,zE e2,e3]
 rfl
theorem yVL(hT:TOk ts):yGG (ts.map tbl)=none/\ ∀d∈ts.map tbl,pq d=true:=by
 have h: ∀d∈ts.map tbl,tbD d=true/\pq d=true:=λd hd=>by
  obtain⟨p,hp,rfl⟩:=mM0.mp hd
  obtain⟨h1,h2,h3,h4⟩:=hT.2.2 p hp
  refine⟨?_,yMB (λe he=>?_) (by simp)⟩
  ·show(decide (1<=p.1)&&decide (p.1<=4)&&(decide (0<=p.2)&&decide (p.2<p.1+1)))=true
   rw [dT0 h1,dT0 h2,dT0 h3,dT0 (show p.2<p.1+1 by omega)]
   rfl
  ·simp only [mC0,nM0,or_false]at he
   rcases he with rfl|rfl<;>exact yMA _
 refine⟨?_,λd hd=>(h d hd).2⟩
 have key: ∀(L:List MV)(n:Nat),(∀d∈L,tbD d=true)->zHS tbD L n=none:=λL=>by
  induction L with
  |nil=>intro n _;rfl
  |cons d L ih=>
   intro n hL
   unfold zHS
   rw [iP (hL d mF0)]
   exact ih (n+1) λe he=>hL e (mO _ he)
 unfold yGG
 rw [iN0 (by rw [lM0];have:=hT.1;omega)]
 exact key _ 0 λd hd=>(h d hd).1
theorem yAX(hT:TOk ts)(ha:SqM S a (ts.map tbl))(hb:SqM S b L)(hc:SqM S c [])(hL: ∀d∈L,Bn d)(h6:L.length<=6):dO [a,b,c] S=match zHS (rbD ts) L 0 with
   |none=>.ok (.val (.tup [.tup (ts.map tbl),.tup L,.tup []])) S
   |some k=>.exc "NoRule" (NQ k) S:=by
 have e1:zKU [some a,some b,some c] S=.ok (.next [some a,some b,some c]) S:=by
  unfold zKU
  simp? [yQS ha hb hc (by rw [lM0];exact hT.2.1) h6 (zero_le _)]
 obtain⟨h0,hA⟩:=yVL hT
 have x2:=yMV ha hA (by rw [lM0];have:=hT.2.1;omega)
 rw [h0]at x2
 have e2:zKV [some a,some b,some c] S=.ok (.next [some a,some b,some c]) S:=by
  unfold zKV
  simp? [x2]
 have x3:=yQV (b:=b) ha hb hL (by omega)
 show yK (zQJ [some a,some b,some c] S)=_
 unfold zQJ
 rw [zE e1,zE e2]
 cases hr:zHS (rbD ts) L 0 with
 |some k=>
  rw [hr]at x3
  rw [yFX (show zBU [some a,some b,some c] S=.exc "NoRule" (NQ k) S by
   unfold zBU
   simp? [x3]
   rfl)]
  rfl
 |none=>
  rw [hr]at x3
  have e3:zBU [some a,some b,some c] S=.ok (.next [some a,some b,some c]) S:=by
   unfold zBU
   simp? [x3]
  have e4:zKW [some a,some b,some c] S=.ok (.next [some a,some b,some c]) S:=by
   unfold zKW
   simp? [yQW (m:=a) hc]
  have e5:zKX [some a,some b,some c] S=.ok (.ret (.val (.tup [.tup (ts.map tbl),.tup L,.tup []]))) S:=by
   unfold zKX
   simp? [ha.tuple,hb.tuple,hc.tuple]
  rw [zE e3,zE e4,e5]
  rfl
end
abbrev NR:Str:="NoRule"
section
variable{ts:List (Int×Int)}{L:List MV}{p u v x k:Nat}{S:Sto}
theorem yVM(hT:TOk ts)(hp:S[p]? =some (.lst [.loc u,.loc v,.loc x]))(hu:S[u]? =some (.lst (ts.map tbl)))(hv:S[v]? =some (.lst L))(hx:S[x]? =some (.lst []))(hL: ∀d∈L,Bn d)(h6:L.length<=6)(hb:zHS (rbD ts) L 0=some k):
  zX 3 gU [.val (.loc p),.val (.int 2),.val (.int (k:Nat))] S=.ok (.val (.bl true)) S:=by
 have hc:NR∈XNS:=by decide
 have hkl:KL NR=WL 2:=rfl
 have w0:decide ((0:Int)<2)=true:=rfl
 have w1:decide ((2:Int)=0)=false:=rfl
 have l1:(S++[MO.lst []]).length=S.length+1:=by rw [lA];rfl
 have l2: ∀a,(S++[MO.lst [],a]).length=S.length+2:=λa=>by rw [lA];rfl
 have bk:dN 3 dO [.val (.loc u),.val (.loc v),.val (.loc x)] (S++[.lst []])=.exc NR (NQ k) (S++[.lst []]):=by
  have:=yAX (S:=S++[.lst []]) (a:=.loc u) (b:=.loc v) (c:=.loc x) hT (.inr ⟨_,rfl,zNL hu⟩) (.inr ⟨_,rfl,zNL hv⟩) (.inr ⟨_,rfl,zNL hx⟩) hL h6
  rw [hb]at this
  exact zYS (T:=[]) rfl (by rw [aN];exact this)
 have e1:zAV [some (.loc p),some (.int 2),some (.int (k:Nat)),none,none,none] S=.ok (.next [some (.loc p),some (.int 2),some (.int (k:Nat)),some (.loc S.length),none,none]) (S++[.lst []]):=by
  unfold zAV
  simp? [bok]
 have e2:zHO [some (.loc p),some (.int 2),some (.int (k:Nat)),some (.loc S.length),none,none] (S++[.lst []])=.ok (.next [some (.loc p),some (.int 2),some (.int (k:Nat)),some (.loc S.length),some .non,none]) (S++[.lst []]):=rfl
 have gi:(S++[MO.lst [],.ins NR (NQ k)])[S.length+1]? =some (.ins NR (NQ k)):=zYP (i:=1) rfl
 have ad:xN (.new (KL NR)) (.new [.bl true]) (S++[.lst [],.ins NR (NQ k)])=.ok (.new (KL NR++[.bl true])) (S++[.lst [],.ins NR (NQ k)]):=zTM rfl rfl (fits (show 12+1<=1000000 by decide))
 have h1:cS [some (.loc p),some (.int 2),some (.int (k:Nat)),some (.loc S.length),some .non,some (.loc (S.length+1))] (S++[.lst [],.ins NR (NQ k)])=.ok (.next [some (.loc p),some (.int 2),some (.int (k:Nat)),some (.loc (S.length+2)),some .non,some (.loc (S.length+1))]) (S++[.lst [],.ins NR (NQ k),.lst (KL NR++[.bl true])]):=by
  unfold cS
  simp? [yNA gi hc,yVJ gi hc,ad,l2]
  rw [aA]
  rfl
 generalize hS:S++[.lst [],.ins NR (NQ k),.lst (KL NR++[.bl true])]=S3 at h1
 have gi3:S3[S.length+1]? =some (.ins NR (NQ k)):=by rw [<-hS];exact zYP (i:=1) rfl
 have gl3:S3[S.length+2]? =some (.lst (KL NR++[.bl true])):=by rw [<-hS];exact zYP (i:=2) rfl
 have h2:cT [some (.loc p),some (.int 2),some (.int (k:Nat)),some (.loc (S.length+2)),some .non,some (.loc (S.length+1))] S3=.ok (.next [some (.loc p),some (.int 2),some (.int (k:Nat)),some (.loc (S.length+2)),some (.int (k:Nat)),some (.loc (S.length+1))]) S3:=by
  unfold cT
  simp? [gt_int,w0,yVK gi3 hc]
 have hh:zAU [some (.loc p),some (.int 2),some (.int (k:Nat)),some (.loc S.length),some .non,some (.loc (S.length+1))] (S++[.lst [],.ins NR (NQ k)])=.ok (.next [some (.loc p),some (.int 2),some (.int (k:Nat)),some (.loc (S.length+2)),some (.int (k:Nat)),some (.loc (S.length+1))]) S3:=by
  unfold zAU
  rw [zE h1,h2]
 have e3:zAW [some (.loc p),some (.int 2),some (.int (k:Nat)),some (.loc S.length),some .non,none] (S++[.lst []])=.ok (.next [some (.loc p),some (.int 2),some (.int (k:Nat)),some (.loc (S.length+2)),some (.int (k:Nat)),none]) S3:=by
  unfold zAW
  have j0:ixF (.val (.loc p)) (.val (.int 0)) (S++[.lst []])=.ok (.val (.loc u)) (S++[.lst []]):=nA (zNL hp) rfl
  have j1:ixF (.val (.loc p)) (.val (.int 1)) (S++[.lst []])=.ok (.val (.loc v)) (S++[.lst []]):=nA (zNL hp) rfl
  have j2:ixF (.val (.loc p)) (.val (.int 2)) (S++[.lst []])=.ok (.val (.loc x)) (S++[.lst []]):=nA (zNL hp) rfl
  simp? [j0,j1,j2,dY,bk]
  unfold yHT
  dsimp only
  rw [iP hc,l1,aA]
  rw [show [MO.lst []]++[MO.ins NR (NQ k)]=[.lst [],.ins NR (NQ k)]from rfl]
  simp only [List.set_cons_zero,List.set_cons_succ]
  rw [hh]
  rfl
 have hcm:jE (gNm 0) zEC cU [none,some (.int 2)] [] ((List.range 12).map λk=>MV.int (k:Nat)) S3=.ok (WL 2) S3:=by
  rw [zBN (F:=λd=>match d with |.int i=>.bl (decide (i=2))|_=>.non) (gC _) λd hd=>by
   obtain⟨i,_,rfl⟩:=mM0.mp hd
   refine⟨[some (.int (i:Nat)),some (.int 2)],rfl,rfl,?_⟩
   unfold cU
   simp? [bok],map_map]
  rfl
 have ad2:xN (.new (WL 2)) (.new [.bl true]) S3=.ok (.new (WL 2++[.bl true])) S3:=zTM rfl rfl (fits (show 12+1<=1000000 by decide))
 rw [hkl]at gl3
 have nn:=ne_ln gl3 λd hd=>by
  have: ∃b,d=.bl b:=by
   rcases mem_append.mp hd with hd|hd
   ·obtain⟨i,_,rfl⟩:=mM0.mp hd;exact⟨_,rfl⟩
   ·rw [mS.mp hd];exact⟨_,rfl⟩
  obtain⟨b,rfl⟩:=this
  exact⟨yRO b,by simp [dpt]⟩
 have e4:zAX [some (.loc p),some (.int 2),some (.int (k:Nat)),some (.loc (S.length+2)),some (.int (k:Nat)),none] S3=.ok (.next [some (.loc p),some (.int 2),some (.int (k:Nat)),some (.loc (S.length+2)),some (.int (k:Nat)),none]) S3:=by
  unfold zAX
  simp? [zNA (S:=S3) (j:=12) (by omega),show(12:Int).toNat=12 from rfl,lM0,length_range,show((12:Nat)<1000000)=True from by simp,show blk 1 [1] [some (.loc p),some (.int 2),some (.int (k:Nat)),some (.loc (S.length+2)),some (.int (k:Nat)),none]=[none,some (.int 2)]from rfl,hcm,ad2,nn,fT,iF]
 have e5:zAY [some (.loc p),some (.int 2),some (.int (k:Nat)),some (.loc (S.length+2)),some (.int (k:Nat)),none] S3=.ok (.ret (.val (.bl true))) S3:=by
  unfold zAY
  simp? [w1,orF,fT,iF,zYL,zAI,Bool.not_false,decide_true]
 refine zBM (T:=[.lst [],.ins NR (NQ k),.lst (KL NR++[.bl true])]) rfl ?_ (zTK _ _) (λl=>by simp)
 show yK (zED [some (.loc p),some (.int 2),some (.int (k:Nat)),none,none,none] S)=_
 unfold zED
 rw [zE e1,zE e2,zE e3,zE e4,e5,hS]
 rfl
end
def Pl(n:Nat)(d:MV):Prop:=pd d=true/\sm d=true/\dpt d<=n
theorem yDM(n:Nat)(i:Int):Pl n (.int i):=⟨yDF i,by simp [sm],by rw [zYG];exact zero_le _⟩
theorem zUJ(n:Nat)(x:List Nat):Pl n (.str x):=⟨yUM x,by simp [sm],by rw [yFM];exact zero_le _⟩
theorem Pl.up{n m:Nat}{d:MV}(h:Pl n d)(hn:n<=m):Pl m d:=⟨h.1,h.2.1,le_trans h.2.2 hn⟩
theorem zEH{n:Nat}{ds:List MV}(h: ∀d∈ds,Pl n d)(hl:ds.length<1000):Pl (n+1) (.tup ds):=⟨by rw [yLU];exact yFN λd hd=>(h d hd).1,by rw [yMX,dT0 hl,yGI λd hd=>(h d hd).2.1];rfl,by rw [zMD];exact Nat.succ_le_succ (zYH λd hd=>(h d hd).2.2)⟩
theorem zLH{b:Int}{d:MV}(n:Nat)(h:inB b d=true):Pl n d:=by
 obtain⟨k,rfl,_⟩:=zYQ h
 exact yDM n _
theorem yVN{d:MV}(n:Nat)(h:vlD d=true):Pl n d:=by
 cases d with
 |int i=>exact yDM n _
 |str x=>exact zUJ n _
 |_=>cases h
theorem zNM{a b:Bool}(h:(a&&b)=true):a=true/\b=true:=by rwa [aE]at h
theorem yGJ{ws:List Int}: ∀{d:MV},sdD ws d=true->Pl 1 d
 |.tup [a,b],h=>by
  obtain⟨h1,h2⟩:=zNM (show(decide (a=.str sIs)&&vlD b)=true from h)
  refine zEH (n:=0) (λe he=>?_) (by simp)
  rcases mC0.mp he with rfl|he
  ·rw [of_decide_eq_true h1];exact zUJ 0 _
  ·rw [mS.mp he];exact yVN 0 h2
 |.tup [a,b,c],h=>by
  obtain⟨h1,h2⟩:=zNM (show(decide (a=.str gE)&&(inB ws.length b&&inB (wAt ws b) c))=true from h)
  obtain⟨h2,h3⟩:=zNM h2
  refine zEH (n:=0) (λe he=>?_) (by simp)
  simp only [mC0,nM0,or_false]at he
  rcases he with rfl|rfl|rfl
  ·rw [of_decide_eq_true h1];exact zUJ 0 _
  ·exact zLH 0 h2
  ·exact zLH 0 h3
 |.tup [],h=>by cases h
 |.tup [_],h=>by cases h
 |.tup (_::_::_::_::_),h=>by cases h
 |.int _,h=>by cases h
 |.str _,h=>by cases h
 |.bl _,h=>by cases h
 |.non,h=>by cases h
 |.loc _,h=>by cases h
 |.typ _,h=>by cases h
 |.scr _,h=>by cases h
theorem yQX{ws:List Int}: ∀{d:MV},tsD ws d=true->Pl 2 d
 |.tup [a,b,c],h=>by
  obtain⟨h1,h2⟩:=zNM (show(sdD ws a&&(decide (b∈words3.map MV.str)&&sdD ws c))=true from h)
  obtain⟨h2,h3⟩:=zNM h2
  refine zEH (n:=1) (λe he=>?_) (by simp)
  simp only [mC0,nM0,or_false]at he
  rcases he with rfl|rfl|rfl
  ·exact yGJ h1
  ·obtain⟨y,_,rfl⟩:=mM0.mp (of_decide_eq_true h2)
   exact zUJ 1 _
  ·exact yGJ h3
 |.tup [],h=>by cases h
 |.tup [_],h=>by cases h
 |.tup [_,_],h=>by cases h
 |.tup (_::_::_::_::_),h=>by cases h
 |.int _,h=>by cases h
 |.str _,h=>by cases h
 |.bl _,h=>by cases h
 |.non,h=>by cases h
 |.loc _,h=>by cases h
 |.typ _,h=>by cases h
 |.scr _,h=>by cases h
theorem inT3{ds:List MV}(h:inT 1 3 (.tup ds)=true):ds.length<=3:=by
 obtain⟨_,h2⟩:=zNM (show(decide ((1:Int)<=ds.length)&&decide ((ds.length:Int)<=3))=true from h)
 have:=of_decide_eq_true h2
 omega
theorem yAY{ws:List Int}{d:MV}(h:zJC ws d=true):Pl 3 d:=by
 unfold zJC at h
 obtain⟨h1,h2⟩:=zNM h
 cases ht:zNK d with
 |none=>rw [ht]at h2;cases h2
 |some qs=>
  rw [ht]at h2
  have hd:=zJA ht
  subst hd
  exact zEH (n:=2) (λe he=>yQX (all_eq_true.mp h2 e he)) (by have:=inT3 h1;omega)
theorem yGK{w:Int}{d:MV}(h:clD w d=true):Pl 1 d:=by
 unfold clD at h
 obtain⟨h1,h2⟩:=zNM h
 cases ht:zNK d with
 |none=>rw [ht]at h2;cases h2
 |some qs=>
  rw [ht]at h2
  have hd:=zJA ht
  subst hd
  exact zEH (n:=0) (λe he=>zLH 0 (all_eq_true.mp h2 e he)) (by have:=inT3 h1;omega)
section
variable{ts:List (Int×Int)}
theorem pl_nv: ∀{ds:List MV},nvD ts ds=true->(∀d∈ds,Pl 3 d)/\ds.length<=4
 |[a,b],h=>by
  obtain⟨h1,h2⟩:=zNM (show(inB ts.length a&&zJC [tW ts a] b)=true from h)
  refine⟨λe he=>?_,by simp⟩
  rcases mC0.mp he with rfl|he
  ·exact zLH 3 h1
  ·rw [mS.mp he];exact yAY h2
 |[],h=>by cases h
 |[_],h=>by cases h
 |_::_::_::_,h=>by cases h
theorem pl_ap: ∀{ds:List MV},apD ts ds=true->(∀d∈ds,Pl 3 d)/\ds.length<=4
 |[a,b,c],h=>by
  obtain⟨h1,h2⟩:=zNM (show((inB ts.length a&&inB ts.length b)&&zJC [tW ts a,tW ts b] c)=true from h)
  obtain⟨h1,h3⟩:=zNM h1
  refine⟨λe he=>?_,by simp⟩
  simp only [mC0,nM0,or_false]at he
  rcases he with rfl|rfl|rfl
  ·exact zLH 3 h1
  ·exact zLH 3 h3
  ·exact yAY h2
 |[],h=>by cases h
 |[_],h=>by cases h
 |[_,_],h=>by cases h
 |_::_::_::_::_,h=>by cases h
theorem pl_ti: ∀{ds:List MV},tiD ts ds=true->(∀d∈ds,Pl 3 d)/\ds.length<=4
 |[a,b,c,e],h=>by
  obtain⟨h1,h2⟩:=zNM (show((inB ts.length a&&clD (tW ts a) b)&&((inB ts.length c&&clD (tW ts c) e)&&decide (lnT b=lnT e)))=true from h)
  obtain⟨h1,h3⟩:=zNM h1
  obtain⟨h2,_⟩:=zNM h2
  obtain⟨h2,h4⟩:=zNM h2
  refine⟨λx hx=>?_,by simp⟩
  simp only [mC0,nM0,or_false]at hx
  rcases hx with rfl|rfl|rfl|rfl
  ·exact zLH 3 h1
  ·exact(yGK h3).up (by decide)
  ·exact zLH 3 h2
  ·exact(yGK h4).up (by decide)
 |[],h=>by cases h
 |[_],h=>by cases h
 |[_,_],h=>by cases h
 |[_,_,_],h=>by cases h
 |_::_::_::_::_::_,h=>by cases h
theorem yQY{d:MV}(hb:Bn d)(h:rbD ts d=true):Pl 4 d:=by
 obtain⟨w,ds,rfl,h1,h2,h3⟩:=hb
 have key:(∀d∈ds,Pl 3 d)/\ds.length<=4:=by
  have h:rlD ts w ds=true:=h
  unfold rlD at h
  split at h
  ·exact pl_nv h
  ·split at h
   ·exact pl_ap h
   ·split at h
    ·exact pl_ti h
    ·cases h
 refine zEH (n:=3) (λx hx=>?_) (by rw [lC0];omega)
 rcases mC0.mp hx with rfl|hx
 ·exact zUJ 3 _
 ·exact key.1 x hx
end
theorem yNC{S:Sto}{l:Nat}{ds:List MV}(hS:S[l]? =some (.lst ds)):neF (.val (.loc l)) (.new []) S=.ok (.val (.bl (!ds.isEmpty))) S:=by
 have e:vwE S (.val (.loc l))=some (.ls ds):=by
  show(dZ S (.val (.loc l))).map Vw.ls=_
  rw [zHG hS];rfl
 unfold neF zPY
 rw [e]
 cases ds with
 |nil=>rfl
 |cons d ds=>rfl
def qAt(p:MV->Bool)(L:List MV)(j:Nat):Bool:=match L[j]? with
 |some d=>p d
 |none=>false
def wq(p:MV->Bool)(L:List MV):MV->Bool
 |.int k=>!qAt p L k.toNat
 |_=>false
theorem yGL{p:MV->Bool}{L:List MV}: ∀(R' P:List MV),L=P++R'->(zHS p R' P.length=none->((List.range' P.length R'.length).map λk=>MV.int (k:Nat)).filter (wq p L)=[])/\ ∀k,zHS p R' P.length=some k-> ∃r,((List.range' P.length R'.length).map λk=>MV.int (k:Nat)).filter (wq p L)=.int (k:Nat)::r
 |[],P,_=>⟨λ_=>rfl,λk h=>nomatch h⟩
 |d::R',P,e=>by
  have hat:L[P.length]? =some d:=by rw [e,getElem?_append_right (le_refl _),sub_self];rfl
  have hw:wq p L (.int (P.length:Nat))= !p d:=by
   show(!qAt p L ((P.length:Int).toNat))=_
   rw [toNat_natCast]
   unfold qAt
   rw [hat]
  have ih:=yGL (p:=p) (L:=L) R' (P++[d]) (by rw [e,aA];rfl)
  have hlen:(P++[d]).length=P.length+1:=by rw [lA];rfl
  rw [hlen]at ih
  rw [lC0,List.range'_succ,map_cons]
  unfold zHS
  cases hp:p d with
  |true=>
   rw [hp]at hw
   rw [List.filter_cons_of_neg (by rw [hw];exact xF0),iP rfl]
   exact ih
  |false=>
   rw [hp]at hw
   rw [List.filter_cons_of_pos (by rw [hw];rfl),iN0 xF0]
   exact⟨λh=>(nomatch h),λk h=>by cases h;exact⟨_,rfl⟩⟩
theorem cut28{x:List MV}:(xF x (some 2) (some 8)).length<=6:=by
 unfold xF
 rw [lT,length_drop]
 rw [show HT.sIx x.length x.length (some 8)=min 8 x.length from HT.sIx_nat _ _ 8,show HT.sIx x.length 0 (some 2)=min 2 x.length from HT.sIx_nat _ _ 2]
 omega
theorem cut1(y:MV)(n:Nat):(xF [y] (some (n:Int)) none).length+n<=max 1 n:=by
 unfold xF
 rw [lT,length_drop,HT.sIx_nat,HT.sIx_none]
 show min (1 - min n 1) (1 - min n 1)+n<=max 1 n
 omega
section
variable{ts:List (Int×Int)}{ns:List Int}{vs:List MV}
abbrev V8(ns:List Int)(m:MV)(c w p a:Option MV):Rho:=[some (.scr (ns.map MV.int)),some (.loc 0),some m,some (.loc 1),c,w,p,a]
theorem law4(hT:TOk ts)(hv:vs.length=7)(hV: ∀d∈vs,Vl d): ∃L e,(∀d∈L,Bn d)/\L.length<=6/\zYC (V8 ns (.tup (ts.map tbl)) none none none none) [.lst vs,.lst []]=.ok (.next (V8 ns (.tup (ts.map tbl)) e none none none)) [.lst vs,.lst L]:=by
 obtain⟨c0,hc0⟩:=zYO ns 0 (by decide) [.lst vs,.lst []]
 have hn:=cut28 (x:=ns.map MV.int)
 have hmem: ∀d∈xF (ns.map MV.int) (some 2) (some 8), ∃i:Int,d=.int i:=λd hd=>by
  obtain⟨i,_,rfl⟩:=mM0.mp (zHH hd)
  exact⟨i,rfl⟩
 have hcut: ∀S,kY (.val (.scr (ns.map MV.int))) (some 2) (some 8) S=.ok (.new (xF (ns.map MV.int) (some 2) (some 8))) S:=λS=>rfl
 generalize xF (ns.map MV.int) (some 2) (some 8)=A at *
 have hlA: ∀S,xB [.new A] S=.ok (.val (.int (A.length:Nat))) S:=λS=>rfl
 have h1:=cut1 (.int (c0 / 7)) A.length
 have hm1: ∀d∈xF [MV.int (c0 / 7)] (some (A.length:Int)) none, ∃i:Int,d=.int i:=λd hd=>⟨_,mS.mp (zHH hd)⟩
 have hcut1: ∀S,kY (.new [.int (c0 / 7)]) (some (A.length:Int)) none S=.ok (.new (xF [MV.int (c0 / 7)] (some (A.length:Int)) none)) S:=λS=>rfl
 generalize xF [MV.int (c0 / 7)] (some (A.length:Int)) none=C at *
 have hlen:(A++C).length<=6:=by rw [lA];omega
 have had:xN (.new A) (.new C) [.lst vs,.lst []]=.ok (.new (A++C)) [.lst vs,.lst []]:=zTM rfl rfl (fits (by rw [lA]at hlen;omega))
 have hAC: ∀d∈A++C, ∃i:Int,d=.int i:=λd hd=>by
  rcases mem_append.mp hd with h|h
  ·exact hmem d h
  ·exact hm1 d h
 obtain⟨ρ',S',hloop,L,e',hρ,hS,hL,hl⟩:=yCU (gf:=gNm 4) (body:=zRW) (gs:=[]) (L:=A++C) (λi ρ S=> ∃L e,ρ=V8 ns (.tup (ts.map tbl)) e none none none/\S=[.lst vs,.lst L]/\(∀d∈L,Bn d)/\L.length<=i) (λi d hd ρ S ⟨L,e,hρ,hS,hL,hl⟩=>by
  subst hρ hS
  obtain⟨k,rfl⟩:=hAC d (mem_of_getElem? hd)
  have hi:i<6:=lt_of_lt_of_le (gS0.mp hd).1 hlen
  obtain⟨r,hr,hrule⟩:=yPY (S:=[.lst vs,.lst L]) (lp:=0) hT (k / 3) hv hV rfl
  obtain⟨b,hb,hbent⟩:=yQQ (S:=[.lst vs,.lst L]) hr (k % 1000000000000)
  have a1:yCP (.val (.loc 1)) [.val b] [.lst vs,.lst L]=.ok (.val .non) [.lst vs,.lst (L++[b])]:=zYE rfl (by omega)
  have il:zOP (.val (.loc 1)) [.lst vs,.lst L]=true:=zYF rfl
  have g:gNm 4 (.int k) (V8 ns (.tup (ts.map tbl)) e none none none) [.lst vs,.lst L]=.ok (V8 ns (.tup (ts.map tbl)) (some (.int k)) none none none) [.lst vs,.lst L]:=rfl
  refine⟨V8 ns (.tup (ts.map tbl)) (some (.int k)) none none none,[.lst vs,.lst (L++[b])],?_,gC _,L++[b],some (.int k),rfl,rfl,λd hd=>?_,by rw [lA];show L.length+1<=i+1;omega⟩
  ·rw [g,bok]
   unfold zRW zWQ
   simp? [il,xW (b:=3) (by decide) (by decide),hrule,p1012,mod_lit (show(0:Int)<1000000000000 by decide),hbent,a1]
  ·rcases mem_append.mp hd with z|z
   ·exact hL d z
   ·rw [mS.mp z];exact hb) ⟨[],none,rfl,rfl,by simp,by simp⟩
 refine⟨L,e',hL,by omega,?_⟩
 unfold zYC
 simp? [hcut,hc0,xW (b:=7) (by decide) (by decide),hlA,hcut1,had]
 show bS (gNm 4) zRW [] (A++C) _ _=_
 rw [<-hρ, <-hS]
 exact hloop
end
theorem yQZ{ts:List (Int×Int)}{ns:List Int}{vs L:List MV}{e:Option MV}(hT:TOk ts)(hL: ∀d∈L,Bn d)(h6:L.length<=6):
  ∃S,zN zRX (zN zRY (zN zMB zRZ)) (V8 ns (.tup (ts.map tbl)) e none none none) [.lst vs,.lst L]=.ok (.ret (.val (.bl true))) S:=by
 generalize hW:((List.range L.length).map λk=>MV.int (k:Nat)).filter (wq (rbD ts) L)=W
 have hlL:xB [.val (.loc 1)] [.lst vs,.lst L]=.ok (.val (.int (L.length:Nat))) [.lst vs,.lst L]:=SqM.len (.inr ⟨_,rfl,rfl⟩)
 have hcm:jE (gNm 0) zQL zWR [none,some (.tup (ts.map tbl)),some (.loc 1)] [] ((List.range L.length).map λk=>MV.int (k:Nat)) [.lst vs,.lst L]=.ok W [.lst vs,.lst L]:=by
  rw [<-hW]
  refine zFD (gC _) λd hd=>?_
  obtain⟨k,hk,rfl⟩:=mM0.mp hd
  have hk':k<L.length:=mem_range.mp hk
  have g1:L[k]? =some L[k]:=gE0 hk'
  have ix:ixF (.val (.loc 1)) (.val (.int (k:Nat))) [.lst vs,.lst L]=.ok (.val L[k]) [.lst vs,.lst L]:=nA rfl (yRU g1)
  have hr:=lj_rb (S:=[.lst vs,.lst L]) (m:=.tup (ts.map tbl)) (.inl rfl) (hL _ (getElem_mem hk'))
  refine⟨[some (.int (k:Nat)),some (.tup (ts.map tbl)),some (.loc 1)],rfl,?_,rfl⟩
  have hwq:wq (rbD ts) L (.int (k:Nat))= !rbD ts L[k]:=by
   show(!qAt (rbD ts) L ((k:Int).toNat))=_
   rw [toNat_natCast]
   unfold qAt
   rw [g1]
  rw [hwq]
  unfold zQL
  simp? [ix,hr]
 have e5:zRX (V8 ns (.tup (ts.map tbl)) e none none none) [.lst vs,.lst L]=.ok (.next (V8 ns (.tup (ts.map tbl)) e (some (.loc 2)) none none)) [.lst vs,.lst L,.lst W]:=by
  unfold zRX
  simp? [hlL,zNA (S:=[.lst vs,.lst L]) (j:=(L.length:Nat)) (by omega),toNat_natCast,lM0,length_range,show(L.length<1000000)=True from eq_true (by omega),show blk 1 [2,3] (V8 ns (.tup (ts.map tbl)) e none none none)=[none,some (.tup (ts.map tbl)),some (.loc 1)]from rfl,hcm]
  rfl
 have three:jP [.new (ts.map tbl),.new L,.new []] [.lst vs,.lst L,.lst W]=.ok (.new [.loc 3,.loc 4,.loc 5]) [.lst vs,.lst L,.lst W,.lst (ts.map tbl),.lst L,.lst []]:=by
  rw [zFJ (by simp)]
  rfl
 have e6:zRY (V8 ns (.tup (ts.map tbl)) e (some (.loc 2)) none none) [.lst vs,.lst L,.lst W]=.ok (.next (V8 ns (.tup (ts.map tbl)) e (some (.loc 2)) (some (.loc 6)) none)) [.lst vs,.lst L,.lst W,.lst (ts.map tbl),.lst L,.lst [],.lst [.loc 3,.loc 4,.loc 5]]:=by
  unfold zRY
  simp? [show∀S,zWI [.val (.tup (ts.map tbl))] S=.ok (.new (ts.map tbl)) S from λS=>rfl,yMG (S:=[.lst vs,.lst L,.lst W]) (l:=1) rfl,three]
  rfl
 generalize hS:([.lst vs,.lst L,.lst W,.lst (ts.map tbl),.lst L,.lst [],.lst [.loc 3,.loc 4,.loc 5]]:Sto)=S at e6
 have g1:S[1]? =some (.lst L):=by rw [<-hS];rfl
 have g2:S[2]? =some (.lst W):=by rw [<-hS];rfl
 have g3:S[3]? =some (.lst (ts.map tbl)):=by rw [<-hS];rfl
 have g4:S[4]? =some (.lst L):=by rw [<-hS];rfl
 have g5:S[5]? =some (.lst []):=by rw [<-hS];rfl
 have g6:S[6]? =some (.lst [.loc 3,.loc 4,.loc 5]):=by rw [<-hS];rfl
 have j0:ixF (.val (.loc 6)) (.val (.int 0)) S=.ok (.val (.loc 3)) S:=nA g6 rfl
 have j1:ixF (.val (.loc 6)) (.val (.int 1)) S=.ok (.val (.loc 4)) S:=nA g6 rfl
 have j2:ixF (.val (.loc 6)) (.val (.int 2)) S=.ok (.val (.loc 5)) S:=nA g6 rfl
 rw [zE e5,zE e6]
 obtain⟨f1,f2⟩:=yGL (p:=rbD ts) (L:=L) L [] rfl
 rw [show(List.range' ([]:List MV).length L.length)=List.range L.length from(List.range_eq_range').symm,hW]at f1 f2
 cases hb:zHS (rbD ts) L 0 with
 |some k=>
  obtain⟨r,hr⟩:=f2 k hb
  have w0:ixF (.val (.loc 2)) (.val (.int 0)) S=.ok (.val (.int (k:Nat))) S:=nA g2 (by rw [hr];exact at0 _ _)
  have rf:=yVM hT g6 g3 g4 g5 hL h6 hb
  have eqq:eqF (.val (.loc 4)) (.val (.loc 1)) S=.ok (.val (.bl true)) S:=zTN (yUW (k:=yN) g4 g1 λd hd=>⟨(hL d hd).td.1,Nat.lt_of_le_of_lt (hL d hd).td.2 (by decide)⟩)
  have nn:neF (.val (.loc 2)) (.new []) S=.ok (.val (.bl true)) S:=by
   rw [yNC g2,hr]
   rfl
  have e7:zMB (V8 ns (.tup (ts.map tbl)) e (some (.loc 2)) (some (.loc 6)) none) S=.ok (.ret (.val (.bl true))) S:=by
   unfold zMB
   simp? [nn,zN,w0,rf,zAI,j1,eqq]
  exact⟨S,by rw [zU e7]⟩
 |none=>
  have hr:=f1 hb
  have nn:neF (.val (.loc 2)) (.new []) S=.ok (.val (.bl false)) S:=by
   rw [yNC g2,hr]
   rfl
  have e7:zMB (V8 ns (.tup (ts.map tbl)) e (some (.loc 2)) (some (.loc 6)) none) S=.ok (.next (V8 ns (.tup (ts.map tbl)) e (some (.loc 2)) (some (.loc 6)) none)) S:=by
   unfold zMB
   simp? [nn,fT,iF]
  have pT:Pl 2 (.tup (ts.map tbl)):=zEH (n:=1) (λd hd=>by
   obtain⟨p,hp,rfl⟩:=mM0.mp hd
   exact zEH (n:=0) (λx hx=>by
    simp only [mC0,nM0,or_false]at hx
    rcases hx with rfl|rfl<;>exact yDM 0 _) (by simp)) (by rw [lM0];have:=hT.2.1;omega)
  have pL:Pl 5 (.tup L):=zEH (n:=4) (λd hd=>yQY (hL d hd) (zWU hb d hd)) (by omega)
  have p0:Pl 5 (.tup []):=zEH (n:=4) (λd hd=>absurd hd nM0) (by simp)
  have pW:Pl 6 (.tup [.tup (ts.map tbl),.tup L,.tup []]):=zEH (n:=5) (λd hd=>by
   simp only [mC0,nM0,or_false]at hd
   rcases hd with rfl|rfl|rfl
   ·exact pT.up (by decide)
   ·exact pL
   ·exact p0) (by simp)
  have al:zX 2 (yA 8) [.val (.tup [.tup (ts.map tbl),.tup L,.tup []]),.val (.tup [.tup (ts.map tbl),.tup L,.tup []])] S=.ok (.val (.bl true)) S:=yAW 8 S pW.1 pW.2.1 (Nat.lt_of_le_of_lt pW.2.2 (by decide))
  have tT:Td 8 (.tup (ts.map tbl)):=(jZ (n:=1) (λd hd=>by
   obtain⟨p,hp,rfl⟩:=mM0.mp hd
   exact td_2 (yI 0 _) (yI 0 _)) (by rw [lM0];have:=hT.2.1;omega)).up (by decide)
  have tL:Td 8 (.tup L):=jZ (n:=7) (λd hd=>(hL d hd).td) (by omega)
  have t3:Td 9 (.tup [.tup (ts.map tbl),.tup L,.tup []]):=zUF tT tL (jZ (n:=7) (by simp) (by simp))
  have bk:zX 3 dO [.val (.loc 3),.val (.loc 4),.val (.loc 5)] S=.ok (.val (.tup [.tup (ts.map tbl),.tup L,.tup []])) S:=by
   have:=yAX (S:=S) (a:=.loc 3) (b:=.loc 4) (c:=.loc 5) hT (.inr ⟨_,rfl,g3⟩) (.inr ⟨_,rfl,g4⟩) (.inr ⟨_,rfl,g5⟩) hL h6
   rw [hb]at this
   exact zHF rfl this (t3.lo _) t3.noloc
  have e8:zRZ (V8 ns (.tup (ts.map tbl)) e (some (.loc 2)) (some (.loc 6)) none) S=.ok (.ret (.val (.bl true))) S:=by
   unfold zRZ
   simp? [j0,j1,j2,bk,zMC g1,tup0,al]
  exact⟨S,by rw [zE e7,e8]⟩
theorem yND(ns:List Int)(h:ns.length<=63): ∃S,yAI [.scr (ns.map MV.int)] []=.ok (.val (.bl true)) S:=by
 obtain⟨c0,hc0⟩:=zYO ns 0 (by decide) []
 obtain⟨vs,hv,hV,hp⟩:=yPV c0 []
 obtain⟨c1,hc1⟩:=zYO ns 1 (by decide) [.lst vs]
 obtain⟨ts,hT,ht⟩:=yIA c1 [.lst vs]
 obtain⟨L,e,hL,h6,e4⟩:=law4 (ns:=ns) hT hv hV
 obtain⟨S,eE⟩:=yQZ (ns:=ns) (vs:=vs) (e:=e) hT hL h6
 have e1:zXZ [some (.scr (ns.map MV.int)),none,none,none,none,none,none,none] []=.ok (.next [some (.scr (ns.map MV.int)),some (.loc 0),none,none,none,none,none,none]) [.lst vs]:=by
  unfold zXZ
  simp? [hc0,hp]
  rfl
 have e2:zYA [some (.scr (ns.map MV.int)),some (.loc 0),none,none,none,none,none,none] [.lst vs]=.ok (.next [some (.scr (ns.map MV.int)),some (.loc 0),some (.tup (ts.map tbl)),none,none,none,none,none]) [.lst vs]:=by
  unfold zYA
  simp? [hc1,ht]
 have e3:zYB [some (.scr (ns.map MV.int)),some (.loc 0),some (.tup (ts.map tbl)),none,none,none,none,none] [.lst vs]=.ok (.next (V8 ns (.tup (ts.map tbl)) none none none none)) [.lst vs,.lst []]:=by
  unfold zYB
  simp? [bok]
  rfl
 refine⟨S,?_⟩
 show yK (yLR [some (.scr (ns.map MV.int)),none,none,none,none,none,none,none] [])=_
 unfold yLR
 rw [zE e1,zE e2,zE e3,zE e4,eE]
 rfl
section
variable{P:Program}{w:World}{K:PySem.W.Frag}{mg:Str->Option Value}{base:Heap}
abbrev XCS(xl:Nat->Addr):List (Str×Addr):=[("TooGreat",xl 0),("NoText",xl 1),("NoPlace",xl 2),("NotPlain",xl 3),("NoTable",xl 4),("NoRule",xl 5),("NoRow",xl 6),("Twice",xl 7),("NoQuestion",xl 8),("Double",xl 9),("TooWide",xl 10),("Ring",xl 11)]
theorem xnd{xl:Nat->Addr}:((XCS xl).map (·.1)).Nodup:=show XNS.Nodup from by decide
def top(i:Nat):Stmt:=PySem.Challenge.pw_mendsure_k08_rules_judged.main.body.getD i (.Pass ⟨0,0,0,0⟩)
abbrev zHT:Stmt:=inClass (top 7) 0
theorem yDN:FnScope ["self","place"] ["self","place"] (zH zHT):=fsK (by decide+kernel)
abbrev zEI:Stmt:=inClass (top 6) 0
theorem yAZ:FnScope ["self","place"] ["self","place"] (zH zEI):=fsK (by decide+kernel)
abbrev zNN:Stmt:=top 16
theorem yBA:FnScope ["thing"] ["thing"] (zH zNN):=fsK (by decide+kernel)
theorem yBB(D:DefM K mg "is_whole" zNN)(zHW:mg "int"=none)(zG:mg "isinstance"=none)(zBB:mg "bool"=none):(CalM P w K mg base) "is_whole" 1 1 ["thing"] jA:=
 by have h:=okC (P:=P) (w:=w) (base:=base) D (λ_ _ _ _ _ _ us hl=>match us,hl with |[_],_=>rfl) λf fd F=>okM (k:=0) _ F yBA λcdv A outer s H E hr=>(zI (zM (wV (zL yW wY rfl zG zQ (zA (zB 0) (zA (gB rfl zHW zQA) zD))) (jH (zXL (zL yW wY rfl zG zQ (zA (zB 0) (zA (gB rfl zBB zOO) zD))))))))
    exact h
abbrev zME:Stmt:=top 17
theorem yDO:FnScope ["thing"] ["thing"] (zH zME):=fsK (by decide+kernel)
theorem yDP(D:DefM K mg "is_name" zME)(zMR:mg "str"=none)(zG:mg "isinstance"=none)(yF:mg "len"=none){zEP:Tok}(bA:mg "MOST_LETTERS"=some (.int 8 zEP))(zHU:mg "all"=none):(CalM P w K mg base) "is_name" 1 1 ["thing"] zLZ:=
 by have h:=okC (P:=P) (w:=w) (base:=base) D (λ_ _ _ _ _ _ us hl=>match us,hl with |[_],_=>rfl) λf fd F=>okM (k:=0) _ F yDO λcdv A outer s H E hr=>(zF (yC (zCQ (zDG (xX (yB (zL yW wY rfl zG zQ (zA (zB 0) (zA (gB rfl zMR zXU) zD))))) (dS (xX (yOK zC (zL zP yO rfl yF yP (zA (zB 0) zD)) (zHZ rfl bA)))))) (zI (zM kI)) zR) (zI (zM (zL dR (zTG rfl) rfl zHU zTH (zA (zBD (zH zME) ["thing"] ["sign"] [] (yJO (zB 0)) rfl (λ_ _ _ _ hN=>(bC 0 hN)) (λ_ _ _ _=>zCX) (λ_ _ _ _=>(zXR (yG [97]) (zB 0) (yG [122])))) zD)))))
    exact h
abbrev zNO:Stmt:=top 18
theorem yBC:FnScope ["thing"] ["thing"] (zH zNO):=fsK (by decide+kernel)
theorem yBD(D:DefM K mg "is_value" zNO)(zEO:(CalM P w K mg base) "is_whole" 1 1 ["thing"] jA)(zUU:mg "abs"=none)(yIF:(CalM P w K mg base) "is_name" 1 1 ["thing"] zLZ):(CalM P w K mg base) "is_value" 2 1 ["thing"] zIK:=
 by have h:=okC (P:=P) (w:=w) (base:=base) D (λ_ _ _ _ _ _ us hl=>match us,hl with |[_],_=>rfl) λf fd F=>okM (k:=1) _ F yBC λcdv A outer s H E hr=>(zF (yC (yB (zK zEO (hr.mono (by decide)) rfl (zA (zB 0) zD))) (zI (zM (yRJ hr.units (zL zZK yKA rfl zUU yKB (zA (zB 0) zD)) (zAK zC zC)))) zR) (zI (zM (zK yIF (hr.mono (by decide)) rfl (zA (zB 0) zD)))))
    exact h
abbrev zNP:Stmt:=top 27
theorem yBE:FnScope jQ jQ (zH zNP):=fsK (by decide+kernel)
theorem yBF(D:DefM K mg "is_tuple" zNP)(yS:mg "tuple"=none)(zG:mg "isinstance"=none)(yF:mg "len"=none):(CalM P w K mg base) "is_tuple" 1 3 jQ xP:=
 by have h:=okC (P:=P) (w:=w) (base:=base) D (λ_ _ _ _ _ _ us hl=>match us,hl with |[_,_,_],_=>rfl) λf fd F=>okM (k:=0) _ F yBE λcdv A outer s H E hr=>(zI (zM (wV (zL yW wY rfl zG zQ (zA (zB 0) (zA (gB rfl yS wE) zD))) (jH (zXR (zB 1) (zL zP yO rfl yF yP (zA (zB 0) zD)) (zB 2))))))
    exact h
abbrev nY:Stmt:=top 28
theorem zNQ:FnScope ["thing","bound"] ["thing","bound"] (zH nY):=fsK (by decide+kernel)
theorem zNR(D:DefM K mg "is_number_below" nY)(zEO:(CalM P w K mg base) "is_whole" 1 1 ["thing"] jA):(CalM P w K mg base) "is_number_below" 2 2 ["thing","bound"] zT:=
 by have h:=okC (P:=P) (w:=w) (base:=base) D (λ_ _ _ _ _ _ us hl=>match us,hl with |[_,_],_=>rfl) λf fd F=>okM (k:=1) _ F zNQ λcdv A outer s H E hr=>(zI (zM (wV (zK zEO (hr.mono (by decide)) rfl (zA (zB 0) zD)) (jH (yFA hr.units zC (zB 0) (zB 1))))))
    exact h
abbrev zNS:Stmt:=top 29
theorem zRH:FnScope ["thing","wide"] ["thing"] (zH zNS):=fsK (by decide+kernel)
theorem yBG(D:DefM K mg "is_table" zNS)(jC:(CalM P w K mg base) "is_tuple" 1 3 jQ xP)(zEO:(CalM P w K mg base) "is_whole" 1 1 ["thing"] jA){zLT:Tok}(zBY:mg "MOST_WIDE"=some (.int 4 zLT))(yH:(CalM P w K mg base) "is_number_below" 2 2 ["thing","bound"] zT):(CalM P w K mg base) "is_table" 3 1 ["thing"] zIN:=
 by have h:=okC (P:=P) (w:=w) (base:=base) D (λ_ _ _ _ _ _ us hl=>match us,hl with |[_],_=>rfl) λf fd F=>okM (k:=2) _ F zRH λcdv A outer s H E hr=>(zF (yC (zCQ (zDG (xX (yB (zK jC (hr.mono (by decide)) rfl (zA (zB 0) (zA zC (zA zC zD)))))) (dS (xX (yB (zK zEO (hr.mono (by decide)) rfl (zA (zO (zB 0) zC) zD))))))) (zI (zM kI)) zR) (zF (zW 1 zRH.nd (zO (zB 0) zC)) (zI (zM (wV (zXR zC (zB 1) (zHZ rfl zBY)) (jH (zK yH (hr.mono (by decide)) rfl (zA (zO (zB 0) zC) (zA (yL (zB 1) zC) zD)))))))))
    exact h
abbrev zQN:Stmt:=top 30
theorem yDQ:FnScope ["thing","wides"] ["thing","wides"] (zH zQN):=fsK (by decide+kernel)
theorem yDR(D:DefM K mg "is_side" zQN)(jC:(CalM P w K mg base) "is_tuple" 1 3 jQ xP)(yEC:(CalM P w K mg base) "is_value" 2 1 ["thing"] zIK)(yH:(CalM P w K mg base) "is_number_below" 2 2 ["thing","bound"] zT)(yF:mg "len"=none):(CalM P w K mg base) "is_side" 3 2 ["thing","wides"] zHK:=
 by have h:=okC (P:=P) (w:=w) (base:=base) D (λ_ _ _ _ _ _ us hl=>match us,hl with |[_,_],_=>rfl) λf fd F=>okM (k:=2) _ F yDQ λcdv A outer s H E hr=>(zF (yC (yB (zK jC (hr.mono (by decide)) rfl (zA (zB 0) (zA zC (zA zC zD))))) (zI (zM (wV (zEW hr.units (zO (zB 0) zC) (yG [105,115])) (jH (zK yEC (hr.mono (by decide)) rfl (zA (zO (zB 0) zC) zD)))))) zR) (zF (yC (zCQ (zDG (xX (yB (zK jC (hr.mono (by decide)) rfl (zA (zB 0) (zA zC (zA zC zD)))))) (dS (zKE hr.units (zO (zB 0) zC) (yG [99,101,108,108]))))) (zI (zM kI)) zR) (zI (zM (wV (zK yH (hr.mono (by decide)) rfl (zA (zO (zB 0) zC) (zA (zL zP yO rfl yF yP (zA (zB 1) zD)) zD))) (jH (zK yH (hr.mono (by decide)) rfl (zA (zO (zB 0) zC) (zA (zO (zB 1) (zO (zB 0) zC)) zD)))))))))
    exact h
abbrev zQO:Stmt:=top 31
theorem yDS:FnScope ["thing","wides"] ["thing","wides"] (zH zQO):=fsK (by decide+kernel)
theorem yDT(D:DefM K mg "is_test" zQO)(jC:(CalM P w K mg base) "is_tuple" 1 3 jQ xP)(zWV:(CalM P w K mg base) "is_side" 3 2 ["thing","wides"] zHK)(zPN:GTup K mg "WORDS" [.str [115,97,109,101],.str [117,110,108,105,107,101],.str [108,101,115,115]]):(CalM P w K mg base) "is_test" 4 2 ["thing","wides"] zMA:=
 by have h:=okC (P:=P) (w:=w) (base:=base) D (λ_ _ _ _ _ _ us hl=>match us,hl with |[_,_],_=>rfl) λf fd F=>okM (k:=3) _ F yDS λcdv A outer s H E hr=>(zF (yC (xX (yB (zK jC (hr.mono (by decide)) rfl (zA (zB 0) (zA zC (zA zC zD)))))) (zI (zM kI)) zR) (zI (zM (wV (zK zWV (hr.mono (by decide)) rfl (zA (zO (zB 0) zC) (zA (zB 1) zD))) (wV (pm_in hr.units (zO (zB 0) zC) (yPH (ds:=[.str [115,97,109,101],.str [117,110,108,105,107,101],.str [108,101,115,115]]) rfl zPN)) (jH (zK zWV (hr.mono (by decide)) rfl (zA (zO (zB 0) zC) (zA (zB 1) zD)))))))))
    exact h
abbrev zFF:Stmt:=top 32
theorem zYT:FnScope ["thing","wides"] ["thing","wides"] (zH zFF):=fsK (by decide+kernel)
theorem zYU(D:DefM K mg "are_tests" zFF)(jC:(CalM P w K mg base) "is_tuple" 1 3 jQ xP){zJJ:Tok}(zAF:mg "MOST_TESTS"=some (.int 3 zJJ))(yIH:(CalM P w K mg base) "is_test" 4 2 ["thing","wides"] zMA)(zHU:mg "all"=none):(CalM P w K mg base) "are_tests" 5 2 ["thing","wides"] gS:=
 by have h:=okC (P:=P) (w:=w) (base:=base) D (λ_ _ _ _ _ _ us hl=>match us,hl with |[_,_],_=>rfl) λf fd F=>okM (k:=4) _ F zYT λcdv A outer s H E hr=>(zI (zM (wV (zK jC (hr.mono (by decide)) rfl (zA (zB 0) (zA zC (zA (zHZ rfl zAF) zD)))) (jH (zL dR (zTG rfl) rfl zHU zTH (zA (zBD (zH zFF) ["thing","wides"] ["part"] [1] (zID (zB 0)) rfl (λ_ _ _ _ hN=>(bC 0 hN)) (λ_ _ _ _=>zCX) (λ_ _ _ _=>(zK yIH (hr.mono (by decide)) rfl (zA (zB 0) (zA (zB 1) zD))))) zD))))))
    exact h
abbrev zBJ:Stmt:=top 33
theorem zUK:FnScope ["thing","wide"] ["thing","wide"] (zH zBJ):=fsK (by decide+kernel)
theorem zUL(D:DefM K mg "are_columns" zBJ)(jC:(CalM P w K mg base) "is_tuple" 1 3 jQ xP){zLR:Tok}(zCB:mg "MOST_TIED"=some (.int 3 zLR))(yH:(CalM P w K mg base) "is_number_below" 2 2 ["thing","bound"] zT)(zHU:mg "all"=none):(CalM P w K mg base) "are_columns" 3 2 ["thing","wide"] zBF:=
 by have h:=okC (P:=P) (w:=w) (base:=base) D (λ_ _ _ _ _ _ us hl=>match us,hl with |[_,_],_=>rfl) λf fd F=>okM (k:=2) _ F zUK λcdv A outer s H E hr=>(zI (zM (wV (zK jC (hr.mono (by decide)) rfl (zA (zB 0) (zA zC (zA (zHZ rfl zCB) zD)))) (jH (zL dR (zTG rfl) rfl zHU zTH (zA (zBD (zH zBJ) ["thing","wide"] ["part"] [1] (zID (zB 0)) rfl (λ_ _ _ _ hN=>(bC 0 hN)) (λ_ _ _ _=>zCX) (λ_ _ _ _=>(zK yH (hr.mono (by decide)) rfl (zA (zB 0) (zA (zB 1) zD))))) zD))))))
    exact h
abbrev zNT:Stmt:=top 34
theorem yBH:FnScope ["rule","tables"] ["rule","tables"] (zH zNT):=fsK (by decide+kernel)
theorem yBI(D:DefM K mg "is_never" zNT)(yF:mg "len"=none)(yH:(CalM P w K mg base) "is_number_below" 2 2 ["thing","bound"] zT)(zLO:(CalM P w K mg base) "are_tests" 5 2 ["thing","wides"] gS):(CalM P w K mg base) "is_never" 6 2 ["rule","tables"] zIP:=
 by have h:=okC (P:=P) (w:=w) (base:=base) D (λ_ _ _ _ _ _ us hl=>match us,hl with |[_,_],_=>rfl) λf fd F=>okM (k:=5) _ F yBH λcdv A outer s H E hr=>(zF (yC (zCQ (zDG (zKE hr.units (zL zP yO rfl yF yP (zA (zB 0) zD)) zC) (dS (xX (yB (zK yH (hr.mono (by decide)) rfl (zA (zO (zB 0) zC) (zA (zL zP yO rfl yF yP (zA (zB 1) zD)) zD)))))))) (zI (zM kI)) zR) (zI (zM (zK zLO (hr.mono (by decide)) rfl (zA (zO (zB 0) zC) (zA (xL (zA (zO (zO (zB 1) (zO (zB 0) zC)) zC) zD)) zD))))))
    exact h
abbrev zEJ:Stmt:=top 35
theorem yBJ:FnScope ["rule","tables"] ["rule","tables"] (zH zEJ):=fsK (by decide+kernel)
theorem yBK(D:DefM K mg "is_apart" zEJ)(yF:mg "len"=none)(yH:(CalM P w K mg base) "is_number_below" 2 2 ["thing","bound"] zT)(zHU:mg "all"=none)(zLO:(CalM P w K mg base) "are_tests" 5 2 ["thing","wides"] gS):(CalM P w K mg base) "is_apart" 6 2 ["rule","tables"] zIR:=
 by have h:=okC (P:=P) (w:=w) (base:=base) D (λ_ _ _ _ _ _ us hl=>match us,hl with |[_,_],_=>rfl) λf fd F=>okM (k:=5) _ F yBJ λcdv A outer s H E hr=>(zF (yC (zCQ (zDG (zKE hr.units (zL zP yO rfl yF yP (zA (zB 0) zD)) zC) (dS (xX (yB (zL dR (zTG rfl) rfl zHU zTH (zA (zBD (zH zEJ) ["rule","tables"] ["part"] [1] (zID (wX (zB 0) (yU zC) (yU zC))) rfl (λ_ _ _ _ hN=>(bC 0 hN)) (λ_ _ _ _=>zCX) (λ_ _ _ _=>(zK yH (hr.mono (by decide)) rfl (zA (zB 0) (zA (zL zP yO rfl yF yP (zA (zB 1) zD)) zD))))) zD))))))) (zI (zM kI)) zR) (zI (zM (zK zLO (hr.mono (by decide)) rfl (zA (zO (zB 0) zC) (zA (zBD (zH zEJ) ["rule","tables"] ["part"] [1] (zID (wX (zB 0) (yU zC) (yU zC))) rfl (λ_ _ _ _ hN=>(bC 0 hN)) (λ_ _ _ _=>zCX) (λ_ _ _ _=>(zO (zO (zB 1) (zB 0)) zC))) zD))))))
    exact h
abbrev zUM:Stmt:=top 36
theorem zQP:FnScope yAH ["rule","tables"] (zH zUM):=fsK (by decide+kernel)
theorem yIE(D:DefM K mg "is_tie" zUM)(yF:mg "len"=none)(yH:(CalM P w K mg base) "is_number_below" 2 2 ["thing","bound"] zT)(zVT:(CalM P w K mg base) "are_columns" 3 2 ["thing","wide"] zBF):(CalM P w K mg base) "is_tie" 4 2 ["rule","tables"] zOZ:=
 by have h:=okC (P:=P) (w:=w) (base:=base) D (λ_ _ _ _ _ _ us hl=>match us,hl with |[_,_],_=>rfl) λf fd F=>okM (k:=3) _ F zQP λcdv A outer s H E hr=>(zF (yC (zKE hr.units (zL zP yO rfl yF yP (zA (zB 0) zD)) zC) (zI (zM kI)) zR) (zF (zCE PassesOwn.never rfl (zID (zZ (zA (zZ (zA (zO (zB 0) zC) (zA (zO (zB 0) zC) zD))) (zA (zZ (zA (zO (zB 0) zC) (zA (zO (zB 0) zC) zD))) zD)))) (zPX (n:=2) rfl (bB (wD 2 zQP.nd) (bB (wD 3 zQP.nd) zPW))) (zI (yC (zCQ (zDG (xX (yB (zK yH (hr.mono (by decide)) rfl (zA (zB 2) (zA (zL zP yO rfl yF yP (zA (zB 1) zD)) zD))))) (dS (xX (yB (zK zVT (hr.mono (by decide)) rfl (zA (zB 3) (zA (zO (zO (zB 1) (zB 2)) zC) zD)))))))) (zI (zM kI)) zR))) (zI (zM (zEW hr.units (zL zP yO rfl yF yP (zA (zO (zB 0) zC) zD)) (zL zP yO rfl yF yP (zA (zO (zB 0) zC) zD)))))))
    exact h
abbrev zQQ:Stmt:=top 37
theorem yDU:FnScope ["thing","tables"] ["thing","tables"] (zH zQQ):=fsK (by decide+kernel)
theorem yDV(D:DefM K mg "is_rule" zQQ)(yS:mg "tuple"=none)(zG:mg "isinstance"=none)(yF:mg "len"=none)(yDZ:(CalM P w K mg base) "is_never" 6 2 ["rule","tables"] zIP)(yDY:(CalM P w K mg base) "is_apart" 6 2 ["rule","tables"] zIR)(yNE:(CalM P w K mg base) "is_tie" 4 2 ["rule","tables"] zOZ):(CalM P w K mg base) "is_rule" 7 2 ["thing","tables"] zHM:=
 by have h:=okC (P:=P) (w:=w) (base:=base) D (λ_ _ _ _ _ _ us hl=>match us,hl with |[_,_],_=>rfl) λf fd F=>okM (k:=6) _ F yDU λcdv A outer s H E hr=>(zF (yC (zCQ (zDG (xX (yB (zL yW wY rfl zG zQ (zA (zB 0) (zA (gB rfl yS wE) zD))))) (dS (kF hr.units (zL zP yO rfl yF yP (zA (zB 0) zD)) zC)))) (zI (zM kI)) zR) (zF (yC (kF hr.units (zO (zB 0) zC) (yG [110,101,118,101,114])) (zI (zM (zK yDZ (hr.mono (by decide)) rfl (zA (zB 0) (zA (zB 1) zD))))) zR) (zF (yC (kF hr.units (zO (zB 0) zC) (yG [97,112,97,114,116])) (zI (zM (zK yDY (hr.mono (by decide)) rfl (zA (zB 0) (zA (zB 1) zD))))) zR) (zI (zM (wV (zEW hr.units (zO (zB 0) zC) (yG [116,105,101])) (jH (zK yNE (hr.mono (by decide)) rfl (zA (zB 0) (zA (zB 1) zD))))))))))
    exact h
abbrev zGR:Stmt:=top 39
theorem zUN:FnScope xC xC (zH zGR):=fsK (by decide+kernel)
theorem zUO(D:DefM K mg "check_sizes" zGR)(yF:mg "len"=none){zGW:Tok}(cA:mg "MOST_TABLES"=some (.int 4 zGW)){zJG:Tok}(zAD:mg "MOST_RULES"=some (.int 6 zJG)){zLP:Tok}(zBZ:mg "MOST_ROWS"=some (.int 60 zLP)):(yLH P w K mg base) "check_sizes" 1 3 xC zBG:=
 by have h:=yLI (P:=P) (w:=w) (base:=base) D (λ_ _ _ _ _ _ us hl=>match us,hl with |[_,_,_],_=>rfl) λf fd F=>okX (k:=0) _ F zUN λcdv A outer s H E hr=>(zI (yC (zCQ (zDG (yEZ (zL zP yO rfl yF yP (zA (zB 0) zD)) (zHZ rfl cA)) (zDG (yEZ (zL zP yO rfl yF yP (zA (zB 1) zD)) (zHZ rfl zAD)) (dS (yEZ (zL zP yO rfl yF yP (zA (zB 2) zD)) (zHZ rfl zBZ)))))) (zI zOH) zR))
    exact h
abbrev zEK:Stmt:=top 40
theorem zCP:FnScope zKG ["tables"] (zH zEK):=fsK (by decide+kernel)
theorem zRO(D:DefM K mg "check_tables" zEK){xM:Addr}{xl:Nat->Addr}(XT:XTab K mg xM (XCS xl))(yF:mg "len"=none){f_NoTable:Addr}{fdI_NoTable:FuncData}(y_NoTable:XIn K xM (xl 4) f_NoTable)(GI_NoTable:FnOk P w K mg base CX0 1 f_NoTable fdI_NoTable ["self","place"] (zWM (xl 4) "place"))(bI_NoTable:Binds K fdI_NoTable ["self","place"] [])(wQ:mg "enumerate"=none)(yEB:(CalM P w K mg base) "is_table" 3 1 ["thing"] zIN):(yLH P w K mg base) "check_tables" 4 1 ["tables"] nH:=
 by have h:=yLI (P:=P) (w:=w) (base:=base) D (λ_ _ _ _ _ _ us hl=>match us,hl with |[_],_=>rfl) λf fd F=>okX (k:=3) _ F zCP λcdv A outer s H E hr=>(zF (yC (kF hr.units (zL zP yO rfl yF yP (zA (zB 0) zD)) zC) (zI (zQC zMV rfl (XT.each.at t4M).1 XT.mc y_NoTable GI_NoTable bI_NoTable hr zC)) zR) (zI (zCE PassesOwn.leaving rfl (zRV rfl wQ (zA (zB 0) zD)) (zPX (n:=2) rfl (bB (wD 1 zCP.nd) (bB (wD 2 zCP.nd) zPW))) (zI (yC (xX (yB (zK yEB (hr.mono (by decide)) rfl (zA (zB 2) zD)))) (zI (zQC zMV rfl (XT.each.at t4M).1 XT.mc y_NoTable GI_NoTable bI_NoTable hr (zB 1))) zR)))))
    exact h
abbrev zGS:Stmt:=top 41
theorem zEL:FnScope zML ["tables","rules"] (zH zGS):=fsK (by decide+kernel)
theorem zUP(D:DefM K mg "check_rules" zGS){xM:Addr}{xl:Nat->Addr}(XT:XTab K mg xM (XCS xl))(wQ:mg "enumerate"=none)(yIG:(CalM P w K mg base) "is_rule" 7 2 ["thing","tables"] zHM){f_NoRule:Addr}{fdI_NoRule:FuncData}(y_NoRule:XIn K xM (xl 5) f_NoRule)(GI_NoRule:FnOk P w K mg base CX0 1 f_NoRule fdI_NoRule ["self","place"] (zWM (xl 5) "place"))(bI_NoRule:Binds K fdI_NoRule ["self","place"] []):(yLH P w K mg base) "check_rules" 8 2 ["tables","rules"] zBH:=
 by have h:=yLI (P:=P) (w:=w) (base:=base) D (λ_ _ _ _ _ _ us hl=>match us,hl with |[_,_],_=>rfl) λf fd F=>okX (k:=7) _ F zEL λcdv A outer s H E hr=>(zI (zCE PassesOwn.leaving rfl (zRV rfl wQ (zA (zB 1) zD)) (zPX (n:=2) rfl (bB (wD 2 zEL.nd) (bB (wD 3 zEL.nd) zPW))) (zI (yC (xX (yB (zK yIG (hr.mono (by decide)) rfl (zA (zB 3) (zA (zB 0) zD))))) (zI (zQC zMV rfl (XT.each.at t5M).1 XT.mc y_NoRule GI_NoRule bI_NoRule hr (zB 2))) zR))))
    exact h
abbrev zJD:Stmt:=top 42
theorem gI:FnScope zOU ["tables","rows"] (zH zJD):=fsK (by decide+kernel)
theorem zVK(D:DefM K mg "check_rows" zJD)(wQ:mg "enumerate"=none):(yLH P w K mg base) "check_rows" 1 2 ["tables","rows"] zCZ:=
 by have h:=yLI (P:=P) (w:=w) (base:=base) D (λ_ _ _ _ _ _ us hl=>match us,hl with |[_,_],_=>rfl) λf fd F=>okX (k:=0) _ F gI λcdv A outer s H E hr=>(zF (zCE PassesOwn.leaving rfl (zRV rfl wQ (zA (zB 1) zD)) (zPX (n:=2) rfl (bB (wD 2 gI.nd) (bB (wD 3 gI.nd) zPW))) (zI zOH)) (zF (zW 4 gI.nd yKT) (zI (zCE PassesOwn.leaving rfl (zRV rfl wQ (zA (zB 1) zD)) (zPX (n:=2) rfl (bB (wD 2 gI.nd) (bB (wD 3 gI.nd) zPW))) (zF zOH (zI zOH))))))
    exact h
abbrev zQR:Stmt:=top 43
theorem yDW:FnScope xC xC (zH zQR):=fsK (by decide+kernel)
theorem yDX(D:DefM K mg "book_of" zQR)(zVS:(yLH P w K mg base) "check_sizes" 1 3 xC zBG)(zUV:(yLH P w K mg base) "check_tables" 4 1 ["tables"] nH)(zVR:(yLH P w K mg base) "check_rules" 8 2 ["tables","rules"] zBH)(zZB:(yLH P w K mg base) "check_rows" 1 2 ["tables","rows"] zCZ)(yS:mg "tuple"=none):(yLH P w K mg base) "book_of" 9 3 xC dO:=
 by have h:=yLI (P:=P) (w:=w) (base:=base) D (λ_ _ _ _ _ _ us hl=>match us,hl with |[_,_,_],_=>rfl) λf fd F=>okX (k:=8) _ F yDW λcdv A outer s H E hr=>(zF (zIB (zLY zMV zVS (hr.mono (by decide)) rfl (zA (zB 0) (zA (zB 1) (zA (zB 2) zD))))) (zF (zIB (zLY zMV zUV (hr.mono (by decide)) rfl (zA (zB 0) zD))) (zF (zIB (zLY zMV zVR (hr.mono (by decide)) rfl (zA (zB 0) (zA (zB 1) zD)))) (zF (zIB (zLY zMV zZB (hr.mono (by decide)) rfl (zA (zB 0) (zA (zB 2) zD)))) (zI (zM (zZ (zA (gF wO zBL rfl yS wE (zA (zB 0) zD)) (zA (gF wO zBL rfl yS wE (zA (zB 1) zD)) (zA (gF wO zBL rfl yS wE (zA (zB 2) zD)) zD))))))))))
    exact h
abbrev zEM:Stmt:=top 45
theorem zRP:FnScope ["_law_script","_law_k"] ["_law_script","_law_k"] (zH zEM):=fsK (by decide+kernel)
theorem zRQ(D:DefM K mg "_law_cell_at" zEM)(yF:mg "len"=none):(CalM P w K mg base) "_law_cell_at" 1 2 ["_law_script","_law_k"] xD:=
 by have h:=okC (P:=P) (w:=w) (base:=base) D (λ_ _ _ _ _ _ us hl=>match us,hl with |[_,_],_=>rfl) λf fd F=>okM (k:=0) _ F zRP λcdv A outer s H E hr=>(zF (yC (yRK hr.units (zB 1) (zL zP yO rfl yF yP (zA (zB 0) zD))) (zI (zM (zO (zB 0) (zB 1)))) zR) (zI (zM zC)))
    exact h
abbrev zNU:Stmt:=top 46
theorem zRI:FnScope zND ["_law_cell","_law_prime"] (zH zNU):=fsK (by decide+kernel)
theorem yBL(D:DefM K mg "_law_mix" zNU):(CalM P w K mg base) "_law_mix" 1 2 ["_law_cell","_law_prime"] xQ:=
 by have h:=okC (P:=P) (w:=w) (base:=base) D (λ_ _ _ _ _ _ us hl=>match us,hl with |[_,_],_=>rfl) λf fd F=>okM (k:=0) _ F zRI λcdv A outer s H E hr=>(zF (yC (kF hr.units (yX (zB 0) zC) zC) (zI (zM (yX (wW (zB 0) zC) (zAK (zAK zC zC) zC)))) zR) (zF (zW 2 zRI.nd (yX (zTC (yL (yX (zB 0) zC) zC) zC) (zB 1))) (zI (zM (yL (zTC (yX (zTC (zB 2) (zB 2)) zC) zC) (zB 2))))))
    exact h
abbrev zLI:Stmt:=top 47
theorem hU:FnScope zKH ["_law_cell"] (zH zLI):=fsK (by decide+kernel)
theorem zYV(D:DefM K mg "_law_name" zLI)(jF:mg "range"=none):(CalM P w K mg base) "_law_name" 1 1 ["_law_cell"] dP:=
 by have h:=okC (P:=P) (w:=w) (base:=base) D (λ_ _ _ _ _ _ us hl=>match us,hl with |[_],_=>rfl) λf fd F=>okM (k:=0) _ F hU λcdv A outer s H E hr=>(zF (zW 1 hU.nd (yG [97,98,99,100,101,102,103,104,105,106,107,108,109,110,111,112,113,114,115,116,117,118,119,120,121,122])) (zF (zW 2 hU.nd (wW (zB 0) zC)) (zF (zW 3 hU.nd (yG [])) (zF (zCE PassesOwn.never rfl (zAJ rfl jF (zA (yL zC (yX (zB 0) zC)) zD)) (wD 4 hU.nd) (zF (zW 3 hU.nd (yL (zB 3) (zO (zB 1) (yX (zB 2) zC)))) (zI (zW 2 hU.nd (wW (zB 2) zC))))) (zI (zM (zB 3)))))))
    exact h
abbrev zLJ:Stmt:=top 48
theorem xR:FnScope zKI ["_law_cell"] (zH zLJ):=fsK (by decide+kernel)
theorem zYW(D:DefM K mg "_law_pool" zLJ)(dL:(CalM P w K mg base) "_law_mix" 1 2 ["_law_cell","_law_prime"] xQ)(yBM:(CalM P w K mg base) "_law_name" 1 1 ["_law_cell"] dP)(yF:mg "len"=none):(CalM P w K mg base) "_law_pool" 2 1 ["_law_cell"] dQ:=
 by have h:=okC (P:=P) (w:=w) (base:=base) D (λ_ _ _ _ _ _ us hl=>match us,hl with |[_],_=>rfl) λf fd F=>okM (k:=1) _ F xR λcdv A outer s H E hr=>(zF (zW 1 xR.nd (zK dL (hr.mono (by decide)) rfl (zA (zB 0) (zA zC zD)))) (zF (zW 2 xR.nd (yG [97,98,99,100,101,102,103,104,105,106,107,108,109,110,111,112,113,114,115,116,117,118,119,120,121,122])) (zF (zW 3 xR.nd (zK yBM (hr.mono (by decide)) rfl (zA (zB 1) zD))) (zF (zW 1 xR.nd (wW (zB 1) (zTC zC (zAK zC zC)))) (zF (zW 4 xR.nd (yX (zB 1) (zL zP yO rfl yF yP (zA (zB 3) zD)))) (zF (zW 5 xR.nd (yL (yL (yOQ (zB 2) (zA (zO (zB 3) (zB 4)) zD)) zC) (yX (wW (zB 1) zC) zC))) (zF (zW 6 xR.nd (yL (yL (wX (zB 3) kK (yU (zB 4))) (zO (zB 2) (yX (zB 5) zC))) (wX (zB 3) (yU (yL (zB 4) zC)) kK))) (zF (zW 1 xR.nd (wW (zB 1) zC)) (zF (zW 7 xR.nd (yL (yX (zAK (yL (zTC (yX (zB 1) (zAK zC zC)) zC) zC) zC) (zTB (zAK zC zC) zC)) zC)) (zF (yC (kF hr.units (yX (zB 1) zC) zC) (zI (zW 7 xR.nd (yL (yX (wW (zB 1) zC) (zTB (zAK zC zC) zC)) zC))) zR) (zI (zM (xL (zA (yX (wW (zB 1) zC) zC) (zA (zB 7) (zA (zB 3) (zA (zTB zC (zB 7)) (zA (zB 6) (zA (yL (yX (wW (zB 1) zC) zC) zC) (zA (yL (zB 7) zC) zD))))))))))))))))))))
    exact h
abbrev zDB:Stmt:=top 49
theorem zVL:FnScope ["_law_told","_law_due"] ["_law_told","_law_due"] (zH zDB):=fsK (by decide+kernel)
theorem zVM(D:DefM K mg "_law_alike" zDB)(zMR:mg "str"=none)(zG:mg "isinstance"=none)(zHW:mg "int"=none)(zBB:mg "bool"=none)(zJI:mg "list"=none)(yS:mg "tuple"=none)(yF:mg "len"=none)(yBO:mg "zip"=none)(zHU:mg "all"=none):(CalM P w K mg base) "_law_alike" 8 2 ["_law_told","_law_due"] (yA 8):=by
 obtain⟨f,fd,hself,F⟩:=D.ex
 have kself:=F.kp
 have bself:=F.binds (ps:=["_law_told","_law_due"]) (λ_ _ _ _ _ _ us hl=>match us,hl with |[_,_],_=>rfl)
 have all: ∀n,FnOk P w K mg base CX0 (0+n) f fd ["_law_told","_law_due"] (spM ⟨K,mg,P,w⟩ 2 (yA n)):=by
  intro n
  induction n with
  |zero=>exact fn_no
  |succ n ih0=>
   have ih: ∀m,m=n->FnOk P w K mg base CX0 (0+m) f fd ["_law_told","_law_due"] (spM ⟨K,mg,P,w⟩ 2 (yA m)):=λm e=>e▸ih0
   have h:=okM (P:=P) (w:=w) (mg:=mg) (base:=base) (k:=0+n) _ F zVL λcdv A outer s H E hr=>(zF (yC (tm_is (zB 1) zMX) (zI (zM (pm_is (zB 0) zMX))) zR) (zF (yC (yB (zL yW wY rfl zG zQ (zA (zB 1) (zA (gB rfl zMR zXU) zD)))) (zI (zM (wV (zL yW wY rfl zG zQ (zA (zB 0) (zA (gB rfl zMR zXU) zD))) (jH (zEW hr.units (zB 0) (zB 1)))))) zR) (zF (yC (yB (zL yW wY rfl zG zQ (zA (zB 1) (zA (gB rfl zHW zQA) zD)))) (zI (zM (wV (zL yW wY rfl zG zQ (zA (zB 0) (zA (gB rfl zHW zQA) zD))) (wV (zXL (zL yW wY rfl zG zQ (zA (zB 0) (zA (gB rfl zBB zOO) zD)))) (jH (zEW hr.units (zB 0) (zB 1))))))) zR) (zF (yC (zCQ (yJL (yB (zL yW wY rfl zG zQ (zA (zB 1) (zA (gB rfl zJI zRS) zD)))) (yEP (xX (yB (zL yW wY rfl zG zQ (zA (zB 0) (zA (gB rfl zJI zRS) zD)))))))) (zI (zM kI)) zR) (zF (yC (zCQ (yJL (yB (zL yW wY rfl zG zQ (zA (zB 1) (zA (gB rfl yS wE) zD)))) (yEP (xX (yB (zL yW wY rfl zG zQ (zA (zB 0) (zA (gB rfl yS wE) zD)))))))) (zI (zM kI)) zR) (zI (zM (wV (zEW hr.units (zL zP yO rfl yF yP (zA (zB 0) zD)) (zL zP yO rfl yF yP (zA (zB 1) zD))) (jH (zL dR (zTG rfl) rfl zHU zTH (zA (zBD (zH zDB) ["_law_told","_law_due"] ["_law_one","_law_other"] [] (yTV rfl yBO (zA (zB 0) (zA (zB 1) zD))) rfl (λ_ _ _ _ hN=>(yTL (n:=2) rfl (yES (bC 0 hN) (yES (bC 1 hN) yTK)))) (λ_ _ _ _=>zCX) (λ_ _ _ _=>(yEV (ih n rfl) (hr.mono (by omega)) rfl hself kself bself (zA (zB 0) (zA (zB 1) zD))))) zD)))))))))))
   exact h
 exact⟨f,fd,all 8,hself,kself,bself⟩
abbrev zGT:Stmt:=top 50
theorem wB:FnScope zFK ["_law_cell","_law_most"] (zH zGT):=fsK (by decide+kernel)
theorem zUQ(D:DefM K mg "_law_tables" zGT)(dL:(CalM P w K mg base) "_law_mix" 1 2 ["_law_cell","_law_prime"] xQ)(jF:mg "range"=none)(yS:mg "tuple"=none):(CalM P w K mg base) "_law_tables" 2 2 ["_law_cell","_law_most"] gG:=
 by have h:=okC (P:=P) (w:=w) (base:=base) D (λ_ _ _ _ _ _ us hl=>match us,hl with |[_,_],_=>rfl) λf fd F=>okM (k:=1) _ F wB λcdv A outer s H E hr=>(zF (zW 2 wB.nd (zK dL (hr.mono (by decide)) rfl (zA (zB 0) (zA zC zD)))) (zF (zW 3 wB.nd (yL zC (yX (zB 2) (zB 1)))) (zF (zW 2 wB.nd (wW (zB 2) (zB 1))) (zF (zW 4 wB.nd (xL zD)) (zF (zCE PassesOwn.never rfl (zAJ rfl jF (zA (zB 3) zD)) (wD 5 wB.nd) (zF (zW 6 wB.nd (yL zC (yX (zB 2) zC))) (zF (zIB (zQB (zB 4) (zA (zZ (zA (zB 6) (zA (yX (wW (zB 2) zC) (yL (zB 6) zC)) zD))) zD))) (zI (zW 2 wB.nd (wW (zB 2) zC)))))) (zI (zM (gF wO zBL rfl yS wE (zA (zB 4) zD)))))))))
    exact h
abbrev zLK:Stmt:=top 51
theorem zPI:FnScope zKJ ["_law_state","_law_size"] (zH zLK):=fsK (by decide+kernel)
theorem zYX(D:DefM K mg "_law_take" zLK):(CalM P w K mg base) "_law_take" 1 2 ["_law_state","_law_size"] yE:=
 by have h:=okC (P:=P) (w:=w) (base:=base) D (λ_ _ _ _ _ _ us hl=>match us,hl with |[_,_],_=>rfl) λf fd F=>okM (k:=0) _ F zPI λcdv A outer s H E hr=>(zF (zW 2 zPI.nd (yX (zO (zB 0) zC) (zB 1))) (zF (yJN (wW (zO (zB 0) zC) (zB 1)) (yTS (zB 0) zC)) (zI (zM (zB 2)))))
    exact h
abbrev zLL:Stmt:=top 52
theorem zPJ:FnScope zKK ["_law_state","_law_there","_law_tables_here","_law_pool_here"] (zH zLL):=fsK (by decide+kernel)
theorem zYY(D:DefM K mg "_law_side" zLL)(xA:(CalM P w K mg base) "_law_take" 1 2 ["_law_state","_law_size"] yE)(yF:mg "len"=none):(CalM P w K mg base) "_law_side" 2 4 ["_law_state","_law_there","_law_tables_here","_law_pool_here"] kN:=
 by have h:=okC (P:=P) (w:=w) (base:=base) D (λ_ _ _ _ _ _ us hl=>match us,hl with |[_,_,_,_],_=>rfl) λf fd F=>okM (k:=1) _ F zPJ λcdv A outer s H E hr=>(zF (yC (kF hr.units (zK xA (hr.mono (by decide)) rfl (zA (zB 0) (zA zC zD))) zC) (zI (zM (zZ (zA (yG [105,115]) (zA (zO (zB 3) (zK xA (hr.mono (by decide)) rfl (zA (zB 0) (zA zC zD)))) zD))))) zR) (zF (zW 4 zPJ.nd (zK xA (hr.mono (by decide)) rfl (zA (zB 0) (zA (zL zP yO rfl yF yP (zA (zB 1) zD)) zD)))) (zI (zM (zZ (zA (yG [99,101,108,108]) (zA (zB 4) (zA (zK xA (hr.mono (by decide)) rfl (zA (zB 0) (zA (zO (zO (zB 2) (zO (zB 1) (zB 4))) zC) zD))) zD))))))))
    exact h
abbrev zJE:Stmt:=top 53
theorem bZ:FnScope zIH ["_law_state","_law_there","_law_tables_here","_law_pool_here"] (zH zJE):=fsK (by decide+kernel)
theorem zVN(D:DefM K mg "_law_tests" zJE)(jF:mg "range"=none)(xA:(CalM P w K mg base) "_law_take" 1 2 ["_law_state","_law_size"] yE)(zRJ:(CalM P w K mg base) "_law_side" 2 4 ["_law_state","_law_there","_law_tables_here","_law_pool_here"] kN)(yS:mg "tuple"=none):(CalM P w K mg base) "_law_tests" 3 4 ["_law_state","_law_there","_law_tables_here","_law_pool_here"] wI:=
 by have h:=okC (P:=P) (w:=w) (base:=base) D (λ_ _ _ _ _ _ us hl=>match us,hl with |[_,_,_,_],_=>rfl) λf fd F=>okM (k:=2) _ F bZ λcdv A outer s H E hr=>(zF (zW 4 bZ.nd (xL zD)) (zF (zCE PassesOwn.never rfl (zAJ rfl jF (zA (zO (xL (zA zC (zA zC (zA zC (zA zC (zA zC (zA zC zD))))))) (zK xA (hr.mono (by decide)) rfl (zA (zB 0) (zA zC zD)))) zD)) (wD 5 bZ.nd) (zF (zW 6 bZ.nd (zO (xL (zA (yG [115,97,109,101]) (zA (yG [117,110,108,105,107,101]) (zA (yG [108,101,115,115]) zD)))) (zK xA (hr.mono (by decide)) rfl (zA (zB 0) (zA zC zD))))) (zF (zW 7 bZ.nd (zK zRJ (hr.mono (by decide)) rfl (zA (zB 0) (zA (zB 1) (zA (zB 2) (zA (zB 3) zD)))))) (zI (zIB (zQB (zB 4) (zA (zZ (zA (zB 7) (zA (zB 6) (zA (zK zRJ (hr.mono (by decide)) rfl (zA (zB 0) (zA (zB 1) (zA (zB 2) (zA (zB 3) zD))))) zD)))) zD))))))) (zI (zM (gF wO zBL rfl yS wE (zA (zB 4) zD))))))
    exact h
abbrev zBX:Stmt:=top 54
theorem hX:FnScope zBO ["_law_cell","_law_tables_here","_law_pool_here"] (zH zBX):=fsK (by decide+kernel)
theorem zYZ(D:DefM K mg "_law_rule" zBX)(dL:(CalM P w K mg base) "_law_mix" 1 2 ["_law_cell","_law_prime"] xQ)(xA:(CalM P w K mg base) "_law_take" 1 2 ["_law_state","_law_size"] yE)(yF:mg "len"=none)(zPO:(CalM P w K mg base) "_law_tests" 3 4 ["_law_state","_law_there","_law_tables_here","_law_pool_here"] wI)(jF:mg "range"=none)(yS:mg "tuple"=none):(CalM P w K mg base) "_law_rule" 4 3 ["_law_cell","_law_tables_here","_law_pool_here"] kO:=
 by have h:=okC (P:=P) (w:=w) (base:=base) D (λ_ _ _ _ _ _ us hl=>match us,hl with |[_,_,_],_=>rfl) λf fd F=>okM (k:=3) _ F hX λcdv A outer s H E hr=>(zF (zW 3 hX.nd (xL (zA (zK dL (hr.mono (by decide)) rfl (zA (zB 0) (zA zC zD))) zD))) (zF (zW 4 hX.nd (zK xA (hr.mono (by decide)) rfl (zA (zB 3) (zA zC zD)))) (zF (zW 5 hX.nd (zK xA (hr.mono (by decide)) rfl (zA (zB 3) (zA (zL zP yO rfl yF yP (zA (zB 1) zD)) zD)))) (zF (zW 6 hX.nd (zK xA (hr.mono (by decide)) rfl (zA (zB 3) (zA (zL zP yO rfl yF yP (zA (zB 1) zD)) zD)))) (zF (yC (kF hr.units (zB 4) zC) (zI (zM (zZ (zA (yG [110,101,118,101,114]) (zA (zB 5) (zA (zK zPO (hr.mono (by decide)) rfl (zA (zB 3) (zA (zZ (zA (zB 5) zD)) (zA (zB 1) (zA (zB 2) zD))))) zD)))))) zR) (zF (yC (yRK hr.units (zB 4) zC) (zI (zM (zZ (zA (yG [97,112,97,114,116]) (zA (zB 5) (zA (zB 6) (zA (zK zPO (hr.mono (by decide)) rfl (zA (zB 3) (zA (zZ (zA (zB 5) (zA (zB 6) zD))) (zA (zB 1) (zA (zB 2) zD))))) zD))))))) zR) (zF (zW 7 hX.nd (zO (xL (zA zC (zA zC (zA zC (zA zC (zA zC zD)))))) (zK xA (hr.mono (by decide)) rfl (zA (zB 3) (zA zC zD))))) (zF (zW 8 hX.nd (gF wO zBL rfl yS wE (zA (zBD (zH zBX) zBO ["_law_k"] [1,3,5] (zAJ rfl jF (zA (zB 7) zD)) rfl (λ_ _ _ _ hN=>(bC 0 hN)) (λ_ _ _ _=>zCX) (λ_ _ _ _=>(zK xA (hr.mono (by decide)) rfl (zA (zB 2) (zA (zO (zO (zB 1) (zB 3)) zC) zD))))) zD))) (zI (zM (zZ (zA (yG [116,105,101]) (zA (zB 5) (zA (zB 8) (zA (zB 6) (zA (gF wO zBL rfl yS wE (zA (zBD (zH zBX) zBO ["_law_k"] [1,3,6] (zAJ rfl jF (zA (zB 7) zD)) rfl (λ_ _ _ _ hN=>(bC 0 hN)) (λ_ _ _ _=>zCX) (λ_ _ _ _=>(zK xA (hr.mono (by decide)) rfl (zA (zB 2) (zA (zO (zO (zB 1) (zB 3)) zC) zD))))) zD)) zD))))))))))))))))
    exact h
abbrev zDC:Stmt:=top 55
theorem wP:FnScope zOV ["_law_e"] (zH zDC):=fsK (by decide+kernel)
theorem zUR(D:DefM K mg "_law_kinds" zDC){xM:Addr}{xl:Nat->Addr}(XT:XTab K mg xM (XCS xl))(zG:mg "isinstance"=none):(CalH P w K mg base) "_law_kinds" 1 1 ["_law_e"] nP:=
 by have h:=okCH (P:=P) (w:=w) (base:=base) D (λ_ _ _ _ _ _ us hl=>match us,hl with |[_],_=>rfl) λf fd F=>okH (k:=0) _ F wP λcdv A outer s H hr=>(zF (zW 1 wP.nd (xL (zA (wH XT xnd (.head _) zG rfl rfl (zB 0)) (zA (wH XT xnd t4M zG rfl rfl (zB 0)) (zA (wH XT xnd t5M zG rfl rfl (zB 0)) (zA (wH XT xnd t6M zG rfl rfl (zB 0)) zD)))))) (zF (zW 1 wP.nd (yL (zB 1) (xL (zA (wH XT xnd t7M zG rfl rfl (zB 0)) (zA (wH XT xnd t1M zG rfl rfl (zB 0)) (zA (wH XT xnd t2M zG rfl rfl (zB 0)) (zA (wH XT xnd t3M zG rfl rfl (zB 0)) zD))))))) (zF (zW 1 wP.nd (yL (zB 1) (xL (zA (wH XT xnd t8M zG rfl rfl (zB 0)) (zA (wH XT xnd t9M zG rfl rfl (zB 0)) (zA (wH XT xnd t10M zG rfl rfl (zB 0)) (zA (wH XT xnd t11M zG rfl rfl (zB 0)) zD))))))) (zI (zM (zB 1))))))
    exact h
theorem zVO(D:DefM K mg "_law_kinds" zDC){xM:Addr}{xl:Nat->Addr}(XT:XTab K mg xM (XCS xl))(zG:mg "isinstance"=none):(CalM P w K mg base) "_law_kinds" 1 1 ["_law_e"] nP:=
 by have h:=okC (P:=P) (w:=w) (base:=base) D (λ_ _ _ _ _ _ us hl=>match us,hl with |[_],_=>rfl) λf fd F=>okM (k:=0) _ F wP λcdv A outer s H E hr=>(zF (zW 1 wP.nd (xL (zA (wH XT xnd (.head _) zG rfl rfl (zB 0)) (zA (wH XT xnd t4M zG rfl rfl (zB 0)) (zA (wH XT xnd t5M zG rfl rfl (zB 0)) (zA (wH XT xnd t6M zG rfl rfl (zB 0)) zD)))))) (zF (zW 1 wP.nd (yL (zB 1) (xL (zA (wH XT xnd t7M zG rfl rfl (zB 0)) (zA (wH XT xnd t1M zG rfl rfl (zB 0)) (zA (wH XT xnd t2M zG rfl rfl (zB 0)) (zA (wH XT xnd t3M zG rfl rfl (zB 0)) zD))))))) (zF (zW 1 wP.nd (yL (zB 1) (xL (zA (wH XT xnd t8M zG rfl rfl (zB 0)) (zA (wH XT xnd t9M zG rfl rfl (zB 0)) (zA (wH XT xnd t10M zG rfl rfl (zB 0)) (zA (wH XT xnd t11M zG rfl rfl (zB 0)) zD))))))) (zI (zM (zB 1))))))
    exact h
abbrev nZ:Stmt:=top 56
theorem kH:FnScope zDH ["_law_parts","_law_which","_law_place"] (zH nZ):=fsK (by decide+kernel)
theorem zRR(D:DefM K mg "_law_refused" nZ){xM:Addr}{xl:Nat->Addr}(XT:XTab K mg xM (XCS xl))(GH__law_kinds:(CalH P w K mg base) "_law_kinds" 1 1 ["_law_e"] nP)(zG:mg "isinstance"=none)(zAE:mg "ValueError"=none)(zQS:(yLH P w K mg base) "book_of" 9 3 xC dO)(jF:mg "range"=none)(zBB:mg "bool"=none):(CalM P w K mg base) "_law_refused" 10 3 ["_law_parts","_law_which","_law_place"] gU:=
 by have h:=okC (P:=P) (w:=w) (base:=base) D (λ_ _ _ _ _ _ us hl=>match us,hl with |[_,_,_],_=>rfl) λf fd F=>okM (k:=9) _ F kH λcdv A outer s H E hr=>(zF (zW 3 kH.nd (xL zD)) (zF (zW 4 kH.nd zMX) (zF (yLJ (i:=5) XT rfl kH.nd zQS (hr.mono (by decide)) rfl (zA (zO (zB 0) zC) (zA (zO (zB 0) zC) (zA (zO (zB 0) zC) zD))) (λv=>(zF (zW 3 kH.nd (yL (yHY GH__law_kinds ((hr.inH v).mono (by decide)) rfl (zA (zB 5) zD)) (xL (zA (yUF XT zG zAE rfl rfl (zB 5)) zD)))) (zI (yC (yEZ (zB 1) zC) (zI (zW 4 kH.nd (yUI XT (by decide) zTU (zB 5)))) zR))))) (zF (yC (zKE hr.units (zB 3) (yL (zBD (zH nZ) zDH ["_law_k"] [1] (zAJ rfl jF (zA zC zD)) rfl (λ_ _ _ _ hN=>(bC 0 hN)) (λ_ _ _ _=>zCX) (λ_ _ _ _=>(zEW hr.units (zB 0) (zB 1)))) (xL (zA kI zD)))) (zI (zM kI)) zR) (zI (zM (pm_or (zEW hr.units (zB 1) zC) (jH (wV (zXL (zL yW wY rfl zG zQ (zA (zB 4) (zA (gB rfl zBB zOO) zD)))) (jH (zEW hr.units (zB 4) (zB 2))))))))))))
    exact h
abbrev zAZ:Stmt:=top 57
theorem zFG:FnScope zHI ["_law_cell","_law_many"] (zH zAZ):=fsK (by decide+kernel)
theorem zPK(D:DefM K mg "_law_no_number" zAZ):(CalM P w K mg base) "_law_no_number" 1 2 ["_law_cell","_law_many"] yY:=
 by have h:=okC (P:=P) (w:=w) (base:=base) D (λ_ _ _ _ _ _ us hl=>match us,hl with |[_,_],_=>rfl) λf fd F=>okM (k:=0) _ F zFG λcdv A outer s H E hr=>(zF (zW 2 zFG.nd (yX (zB 0) (zAK zC zC))) (zI (zM (zO (xL (zA (zB 1) (zA zIA (zA kI (zA zMX (zA (yG [48]) (zA (yL (zB 1) (zB 2)) (zA (zTB zIA (zB 2)) (zA (zZ (zA zC zD)) zD))))))))) (yX (wW (zB 0) zC) zC)))))
    exact h
abbrev zBA:Stmt:=top 58
theorem gO:FnScope zHJ ["_law_side_here","_law_number_here","_law_many"] (zH zBA):=fsK (by decide+kernel)
theorem zPL(D:DefM K mg "_law_bent_side" zBA)(wS:(CalM P w K mg base) "_law_no_number" 1 2 ["_law_cell","_law_many"] yY):(CalM P w K mg base) "_law_bent_side" 2 3 ["_law_side_here","_law_number_here","_law_many"] jL:=
 by have h:=okC (P:=P) (w:=w) (base:=base) D (λ_ _ _ _ _ _ us hl=>match us,hl with |[_,_,_],_=>rfl) λf fd F=>okM (k:=1) _ F gO λcdv A outer s H E hr=>(zF (zW 3 gO.nd (yX (zB 1) zC)) (zF (yC (kF hr.units (zB 3) zC) (zI (zM (zZ (zA (yG [99,101,108,108]) (zA (zK wS (hr.mono (by decide)) rfl (zA (wW (zB 1) zC) (zA zC zD))) (zA zC zD)))))) zR) (zF (yC (kF hr.units (zB 3) zC) (zI (zM (zZ (zA (yG [99,101,108,108]) (zA zC (zA (zK wS (hr.mono (by decide)) rfl (zA (wW (zB 1) zC) (zA (zB 2) zD))) zD)))))) zR) (zF (yC (kF hr.units (zB 3) zC) (zF (zW 4 gO.nd (xL (zA (zAK zC zC) (zA (yG [65,98,99]) (zA (yG []) (zA kI (zA zMX (zA (zZ (zA zC zD)) (zA (yG [97,98,99,100,101,102,103,104,105]) (zA (zTB zC (zAK zC zC)) zD)))))))))) (zI (zM (zZ (zA (yG [105,115]) (zA (zO (zB 4) (yX (wW (zB 1) zC) zC)) zD)))))) zR) (zF (yC (kF hr.units (zB 3) zC) (zF (zW 5 gO.nd (xL (zA (zZ (zA (yG [105,115]) zD)) (zA (zZ (zA (yG [105,115]) (zA zC (zA zC zD)))) (zA (zZ (zA (yG [99,101,108,108,115]) (zA zC (zA zC zD)))) (zA (zZ zD) (zA (zZ (zA (yG [99,101,108,108]) (zA zC zD))) (zA (yG [105,115]) (zA zC zD))))))))) (zI (zM (zO (zB 5) (yX (wW (zB 1) zC) zC))))) zR) (zF (yC (kF hr.units (zB 3) zC) (zI (zM (wX (zB 0) kK (yU zIA)))) zR) (zF (yC (kF hr.units (zB 3) zC) (zI (zM (yL (zB 0) (zZ (zA zC zD))))) zR) (zI (zM (zZ (zA (yG [99,101,108,108]) (zA zC (zA zC zD)))))))))))))
    exact h
abbrev zAA:Stmt:=top 59
theorem xY:FnScope zEZ ["_law_tests_here","_law_number_here","_law_many"] (zH zAA):=fsK (by decide+kernel)
theorem zNV(D:DefM K mg "_law_bent_tests" zAA)(zHV:(CalM P w K mg base) "_law_bent_side" 2 3 ["_law_side_here","_law_number_here","_law_many"] jL):(CalM P w K mg base) "_law_bent_tests" 3 3 ["_law_tests_here","_law_number_here","_law_many"] kP:=
 by have h:=okC (P:=P) (w:=w) (base:=base) D (λ_ _ _ _ _ _ us hl=>match us,hl with |[_,_,_],_=>rfl) λf fd F=>okM (k:=2) _ F xY λcdv A outer s H E hr=>(zF (zW 3 xY.nd (yX (zB 1) zC)) (zF (yJN (zO (zB 0) zC) (zPX (n:=3) rfl (bB (wD 4 xY.nd) (bB (wD 5 xY.nd) (bB (wD 6 xY.nd) zPW))))) (zF (zW 1 xY.nd (wW (zB 1) zC)) (zF (yC (kF hr.units (zB 3) zC) (zI (zM (zO (xL (zA (zZ zD) (zA (zXY (zB 0) zC) (zA (zO (zB 0) zC) (zA zMX zD))))) (yX (zB 1) zC)))) zR) (zF (yC (kF hr.units (zB 3) zC) (zI (zM (yL (zZ (zA (zZ (zA (zB 4) (zA (zO (xL (zA (yG [83,97,109,101]) (zA (yG []) (zA (yG [109,111,114,101]) (zA zMX (zA zC zD)))))) (yX (zB 1) zC)) (zA (zB 6) zD)))) zD)) (wX (zB 0) (yU zC) kK)))) zR) (zF (yC (kF hr.units (zB 3) zC) (zI (zM (yL (zZ (zA (zZ (zA (zK zHV (hr.mono (by decide)) rfl (zA (zB 4) (zA (zB 1) (zA (zB 2) zD)))) (zA (zB 5) (zA (zB 6) zD)))) zD)) (wX (zB 0) (yU zC) kK)))) zR) (zF (yC (kF hr.units (zB 3) zC) (zI (zM (yL (wX (zB 0) (yU zC) kK) (zZ (zA (zZ (zA (zB 4) (zA (zB 5) (zA (zK zHV (hr.mono (by decide)) rfl (zA (zB 6) (zA (zB 1) (zA (zB 2) zD)))) zD)))) zD))))) zR) (zF (yC (kF hr.units (zB 3) zC) (zI (zM (yL (zB 0) (zZ (zA (zZ (zA (zB 4) (zA (zB 5) zD))) zD))))) zR) (zI (zM (yL (zB 0) (zZ (zA (zZ (zA (zB 4) (zA (zB 5) (zA (zB 6) (zA (zB 6) zD))))) zD)))))))))))))
    exact h
abbrev zLM:Stmt:=top 60
theorem zAB:FnScope zRC ["_law_rule_here","_law_cell","_law_tables_here"] (zH zLM):=fsK (by decide+kernel)
theorem zZA(D:DefM K mg "_law_bent" zLM)(dL:(CalM P w K mg base) "_law_mix" 1 2 ["_law_cell","_law_prime"] xQ)(wS:(CalM P w K mg base) "_law_no_number" 1 2 ["_law_cell","_law_many"] yY)(yF:mg "len"=none)(zPQ:(CalM P w K mg base) "_law_bent_tests" 3 3 ["_law_tests_here","_law_number_here","_law_many"] kP):(CalM P w K mg base) "_law_bent" 4 3 ["_law_rule_here","_law_cell","_law_tables_here"] jM:=
 by have h:=okC (P:=P) (w:=w) (base:=base) D (λ_ _ _ _ _ _ us hl=>match us,hl with |[_,_,_],_=>rfl) λf fd F=>okM (k:=3) _ F zAB λcdv A outer s H E hr=>(zF (zW 3 zAB.nd (zK dL (hr.mono (by decide)) rfl (zA (wW (zB 1) zC) (zA zC zD)))) (zF (yC (kF hr.units (yX (zB 1) zC) zC) (zI (zM (zB 0))) zR) (zF (zW 4 zAB.nd (yX (zB 3) zC)) (zF (zW 3 zAB.nd (wW (zB 3) zC)) (zF (yC (kF hr.units (zB 4) zC) (zI (zM (yL (zZ (zA (zO (xL (zA (yG [110,101,118,101,114,115]) (zA (yG []) (zA (yG [84,105,101]) (zA (yG [97,112,97,114,116,115]) (zA (yG [110,101,118,101,114]) (zA (yG [116,105,101]) zD))))))) (yX (zB 3) zC)) zD)) (wX (zB 0) (yU zC) kK)))) zR) (zF (yC (kF hr.units (zB 4) zC) (zI (zM (yL (zB 0) (zZ (zA zC zD))))) zR) (zF (yC (kF hr.units (zB 4) zC) (zI (zM (wX (zB 0) kK (yU zIA)))) zR) (zF (yC (kF hr.units (zB 4) zC) (zI (zM (yL (zZ (zA (zO (zB 0) zC) (zA (zK wS (hr.mono (by decide)) rfl (zA (zB 3) (zA (zL zP yO rfl yF yP (zA (zB 2) zD)) zD))) zD))) (wX (zB 0) (yU zC) kK)))) zR) (zF (yC (zKE hr.units (zO (zB 0) zC) (yG [116,105,101])) (zI (zM (yL (wX (zB 0) kK (yU zIA)) (zZ (zA (zK zPQ (hr.mono (by decide)) rfl (zA (zO (zB 0) zIA) (zA (zB 3) (zA (zO (zO (zB 2) (zO (zB 0) zC)) zC) zD)))) zD))))) zR) (zF (yC (kF hr.units (zB 4) zC) (zI (zM (yL (wX (zB 0) kK (yU zC)) (zZ (zA (zK wS (hr.mono (by decide)) rfl (zA (zB 3) (zA (zL zP yO rfl yF yP (zA (zB 2) zD)) zD))) (zA (zO (zB 0) zC) zD)))))) zR) (zF (yC (kF hr.units (zB 4) zC) (zI (zM (yL (wX (zB 0) kK (yU zC)) (zZ (zA (yL (zO (zB 0) zC) (zZ (zA zC zD))) zD))))) zR) (zF (yC (kF hr.units (zB 4) zC) (zI (zM (yL (wX (zB 0) kK (yU zC)) (zZ (zA (zXY (zZ (zA zC zD)) (yX (zB 3) zC)) (zA (zO (zB 0) zC) (zA (zXY (zZ (zA zC zD)) (yX (zB 3) zC)) zD))))))) zR) (zF (zW 5 zAB.nd (yL (zZ (zA (zK wS (hr.mono (by decide)) rfl (zA (zB 3) (zA (zO (zO (zB 2) (zO (zB 0) zC)) zC) zD))) zD)) (wX (zO (zB 0) zC) (yU zC) kK))) (zI (zM (yL (yL (wX (zB 0) kK (yU zC)) (zZ (zA (zB 5) zD))) (wX (zB 0) (yU zC) kK)))))))))))))))))
    exact h
abbrev zGU:Stmt:=top 61
theorem zUS:FnScope kZ kZ (zH zGU):=fsK (by decide+kernel)
theorem zUT(D:DefM K mg "_law_number" zGU)(zHW:mg "int"=none)(zG:mg "isinstance"=none)(zBB:mg "bool"=none):(CalM P w K mg base) "_law_number" 1 2 kZ xO:=
 by have h:=okC (P:=P) (w:=w) (base:=base) D (λ_ _ _ _ _ _ us hl=>match us,hl with |[_,_],_=>rfl) λf fd F=>okM (k:=0) _ F zUS λcdv A outer s H E hr=>(zI (zM (wV (zL yW wY rfl zG zQ (zA (zB 0) (zA (gB rfl zHW zQA) zD))) (wV (zXL (zL yW wY rfl zG zQ (zA (zB 0) (zA (gB rfl zBB zOO) zD)))) (jH (yFA hr.units zC (zB 0) (zB 1)))))))
    exact h
abbrev hZ:Stmt:=top 62
theorem zCT:FnScope cP ["_law_thing"] (zH hZ):=fsK (by decide+kernel)
theorem zMG(D:DefM K mg "_law_value_right" hZ)(zBB:mg "bool"=none)(zG:mg "isinstance"=none)(zHW:mg "int"=none)(zMR:mg "str"=none)(zUU:mg "abs"=none)(yF:mg "len"=none):(CalM P w K mg base) "_law_value_right" 1 1 ["_law_thing"] kC:=
 by have h:=okC (P:=P) (w:=w) (base:=base) D (λ_ _ _ _ _ _ us hl=>match us,hl with |[_],_=>rfl) λf fd F=>okM (k:=0) _ F zCT λcdv A outer s H E hr=>(zF (yC (zCQ (zDG (yB (zL yW wY rfl zG zQ (zA (zB 0) (zA (gB rfl zBB zOO) zD)))) (dS (xX (yB (zL yHU yPJ rfl zG zQ (zA (zB 0) (zA (zZ (zA (gB rfl zHW zQA) (zA (gB rfl zMR zXU) zD))) zD)))))))) (zI (zM kI)) zR) (zF (yC (yB (zL yW wY rfl zG zQ (zA (zB 0) (zA (gB rfl zHW zQA) zD)))) (zI (zM (yRJ hr.units (zL zZK yKA rfl zUU yKB (zA (zB 0) zD)) (zAK zC zC)))) zR) (zF (yEU 1 zCT.nd (zH hZ) cP ["_law_sign"] [] (yJO (zB 0)) rfl (λ_ _ _ _ hN=>(bC 0 hN)) (λ_ _ _ _=>(zXN (tm_in hr.units (zB 0) (yG [97,98,99,100,101,102,103,104,105,106,107,108,109,110,111,112,113,114,115,116,117,118,119,120,121,122])))) (λ_ _ _ _=>(zB 0))) (zI (zM (wV (yPN hr.units zC (zL zP yO rfl yF yP (zA (zB 0) zD)) zC) (jH (zEW hr.units (zL zP yO rfl yF yP (zA (zB 1) zD)) (zL zP yO rfl yF yP (zA (zB 0) zD))))))))))
    exact h
abbrev zAC:Stmt:=top 63
theorem zNW:FnScope kL kL (zH zAC):=fsK (by decide+kernel)
theorem zNX(D:DefM K mg "_law_side_right" zAC)(yS:mg "tuple"=none)(zG:mg "isinstance"=none)(yF:mg "len"=none)(zNY:(CalM P w K mg base) "_law_value_right" 1 1 ["_law_thing"] kC)(jD:(CalM P w K mg base) "_law_number" 1 2 kZ xO):(CalM P w K mg base) "_law_side_right" 2 3 kL kT:=
 by have h:=okC (P:=P) (w:=w) (base:=base) D (λ_ _ _ _ _ _ us hl=>match us,hl with |[_,_,_],_=>rfl) λf fd F=>okM (k:=1) _ F zNW λcdv A outer s H E hr=>(zF (yC (zCQ (zDG (xX (yB (zL yW wY rfl zG zQ (zA (zB 2) (zA (gB rfl yS wE) zD))))) (dS (kF hr.units (zB 2) (zZ zD))))) (zI (zM kI)) zR) (zF (yC (kF hr.units (zO (zB 2) zC) (yG [105,115])) (zI (zM (wV (zEW hr.units (zL zP yO rfl yF yP (zA (zB 2) zD)) zC) (jH (zK zNY (hr.mono (by decide)) rfl (zA (zO (zB 2) zC) zD)))))) zR) (zF (yC (zCQ (zDG (zKE hr.units (zO (zB 2) zC) (yG [99,101,108,108])) (dS (zKE hr.units (zL zP yO rfl yF yP (zA (zB 2) zD)) zC)))) (zI (zM kI)) zR) (zF (yC (xX (yB (zK jD (hr.mono (by decide)) rfl (zA (zO (zB 2) zC) (zA (zL zP yO rfl yF yP (zA (zB 1) zD)) zD))))) (zI (zM kI)) zR) (zI (zM (zK jD (hr.mono (by decide)) rfl (zA (zO (zB 2) zC) (zA (zO (zO (zB 0) (zO (zB 1) (zO (zB 2) zC))) zC) zD)))))))))
    exact h
abbrev dI:Stmt:=top 64
theorem bR:FnScope zDI ["_law_tables_here","_law_there","_law_tests_here"] (zH dI):=fsK (by decide+kernel)
theorem zMH(D:DefM K mg "_law_tests_right" dI)(yS:mg "tuple"=none)(zG:mg "isinstance"=none)(yF:mg "len"=none)(zPP:(CalM P w K mg base) "_law_side_right" 2 3 kL kT):(CalM P w K mg base) "_law_tests_right" 3 3 ["_law_tables_here","_law_there","_law_tests_here"] jU:=
 by have h:=okC (P:=P) (w:=w) (base:=base) D (λ_ _ _ _ _ _ us hl=>match us,hl with |[_,_,_],_=>rfl) λf fd F=>okM (k:=2) _ F bR λcdv A outer s H E hr=>(zF (yC (zCQ (zDG (xX (yB (zL yW wY rfl zG zQ (zA (zB 2) (zA (gB rfl yS wE) zD))))) (dS (zTF hr.units (zL zP yO rfl yF yP (zA (zB 2) zD)) (zZ (zA zC (zA zC (zA zC zD)))))))) (zI (zM kI)) zR) (zF (zCE PassesOwn.never rfl (zID (zB 2)) (wD 3 bR.nd) (zF (yC (zCQ (zDG (xX (yB (zL yW wY rfl zG zQ (zA (zB 3) (zA (gB rfl yS wE) zD))))) (dS (zKE hr.units (zL zP yO rfl yF yP (zA (zB 3) zD)) zC)))) (zI (zM kI)) zR) (zF (yC (zTF hr.units (zO (zB 3) zC) (xL (zA (yG [115,97,109,101]) (zA (yG [117,110,108,105,107,101]) (zA (yG [108,101,115,115]) zD))))) (zI (zM kI)) zR) (zI (zCE PassesOwn.never rfl (zID (zZ (zA (zO (zB 3) zC) (zA (zO (zB 3) zC) zD)))) (wD 4 bR.nd) (zI (yC (xX (yB (zK zPP (hr.mono (by decide)) rfl (zA (zB 0) (zA (zB 1) (zA (zB 4) zD)))))) (zI (zM kI)) zR))))))) (zI (zM kI))))
    exact h
abbrev kX:Stmt:=top 65
theorem zJX:FnScope xI xI (zH kX):=fsK (by decide+kernel)
theorem zJY(D:DefM K mg "_law_columns_right" kX)(jD:(CalM P w K mg base) "_law_number" 1 2 kZ xO)(yF:mg "len"=none)(yS:mg "tuple"=none)(zG:mg "isinstance"=none):(CalM P w K mg base) "_law_columns_right" 2 3 xI wA:=
 by have h:=okC (P:=P) (w:=w) (base:=base) D (λ_ _ _ _ _ _ us hl=>match us,hl with |[_,_,_],_=>rfl) λf fd F=>okM (k:=1) _ F zJX λcdv A outer s H E hr=>(zF (yC (zCQ (zDG (xX (yB (zK jD (hr.mono (by decide)) rfl (zA (zB 1) (zA (zL zP yO rfl yF yP (zA (zB 0) zD)) zD))))) (dS (xX (yB (zL yW wY rfl zG zQ (zA (zB 2) (zA (gB rfl yS wE) zD)))))))) (zI (zM kI)) zR) (zF (yC (zTF hr.units (zL zP yO rfl yF yP (zA (zB 2) zD)) (zZ (zA zC (zA zC (zA zC zD))))) (zI (zM kI)) zR) (zI (zM (zEW hr.units (zBD (zH kX) xI ["_law_c"] [0,1] (zID (zB 2)) rfl (λ_ _ _ _ hN=>(bC 0 hN)) (λ_ _ _ _=>(zXN (xX (yB (zK jD (hr.mono (by decide)) rfl (zA (zB 0) (zA (zO (zO (zB 1) (zB 2)) zC) zD))))))) (λ_ _ _ _=>(zB 0))) (xL zD))))))
    exact h
abbrev zJF:Stmt:=top 66
theorem zGV:FnScope zOW ["_law_tables_here","_law_rule_here"] (zH zJF):=fsK (by decide+kernel)
theorem zVP(D:DefM K mg "_law_right" zJF)(yF:mg "len"=none)(zCA:(CalM P w K mg base) "_law_columns_right" 2 3 xI wA)(jD:(CalM P w K mg base) "_law_number" 1 2 kZ xO)(zOB:(CalM P w K mg base) "_law_tests_right" 3 3 ["_law_tables_here","_law_there","_law_tests_here"] jU):(CalM P w K mg base) "_law_right" 4 2 ["_law_tables_here","_law_rule_here"] nX:=
 by have h:=okC (P:=P) (w:=w) (base:=base) D (λ_ _ _ _ _ _ us hl=>match us,hl with |[_,_],_=>rfl) λf fd F=>okM (k:=3) _ F zGV λcdv A outer s H E hr=>(zF (zW 2 zGV.nd (yPQ (yLL [110,101,118,101,114] [97,112,97,114,116] [116,105,101]) (zA (zO (zB 1) zC) (zA zC zD)))) (zF (yC (zKE hr.units (zL zP yO rfl yF yP (zA (zB 1) zD)) (zB 2)) (zI (zM kI)) zR) (zF (yC (kF hr.units (zO (zB 1) zC) (yG [116,105,101])) (zF (yC (xX (yB (zK zCA (hr.mono (by decide)) rfl (zA (zB 0) (zA (zO (zB 1) zC) (zA (zO (zB 1) zC) zD)))))) (zI (zM kI)) zR) (zI (zM (wV (zK zCA (hr.mono (by decide)) rfl (zA (zB 0) (zA (zO (zB 1) zC) (zA (zO (zB 1) zC) zD)))) (jH (zEW hr.units (zL zP yO rfl yF yP (zA (zO (zB 1) zC) zD)) (zL zP yO rfl yF yP (zA (zO (zB 1) zC) zD)))))))) zR) (zF (zCE PassesOwn.never rfl (zID (wX (zB 1) (yU zC) (yU zIA))) (wD 3 zGV.nd) (zI (yC (xX (yB (zK jD (hr.mono (by decide)) rfl (zA (zB 3) (zA (zL zP yO rfl yF yP (zA (zB 0) zD)) zD))))) (zI (zM kI)) zR))) (zI (zM (zK zOB (hr.mono (by decide)) rfl (zA (zB 0) (zA (wX (zB 1) (yU zC) (yU zIA)) (zA (zO (zB 1) zIA) zD))))))))))
    exact h
abbrev yGM:Stmt:=top 67
theorem zLN:FnScope yLQ ["_law_script"] (zH yGM):=fsK (by decide+kernel)
theorem yVO{f:Addr}{fd:FuncData}(F:Fun K "law" "law" yGM f fd)(yBQ:(CalM P w K mg base) "_law_pool" 2 1 ["_law_cell"] dQ)(zEN:(CalM P w K mg base) "_law_cell_at" 1 2 ["_law_script","_law_k"] xD)(zVQ:(CalM P w K mg base) "_law_tables" 2 2 ["_law_cell","_law_most"] gG)(yF:mg "len"=none)(yBN:(CalM P w K mg base) "_law_bent" 4 3 ["_law_rule_here","_law_cell","_law_tables_here"] jM)(yBP:(CalM P w K mg base) "_law_rule" 4 3 ["_law_cell","_law_tables_here","_law_pool_here"] kO)(jF:mg "range"=none)(zZE:(CalM P w K mg base) "_law_right" 4 2 ["_law_tables_here","_law_rule_here"] nX)(zJI:mg "list"=none)(zLS:(CalM P w K mg base) "_law_refused" 10 3 ["_law_parts","_law_which","_law_place"] gU)(zZD:(CalM P w K mg base) "_law_alike" 8 2 ["_law_told","_law_due"] (yA 8))(zQS:(yLH P w K mg base) "book_of" 9 3 xC dO)(yS:mg "tuple"=none):FnOk P w K mg base CX0 11 f fd ["_law_script"] (spM ⟨K,mg,P,w⟩ 1 yAI):=
 by have h:=okM (P:=P) (w:=w) (mg:=mg) (base:=base) (k:=10) _ F zLN λcdv A outer s H E hr=>(zF (zW 1 zLN.nd (zK yBQ (hr.mono (by decide)) rfl (zA (zK zEN (hr.mono (by decide)) rfl (zA (zB 0) (zA zC zD))) zD))) (zF (zW 2 zLN.nd (zK zVQ (hr.mono (by decide)) rfl (zA (zK zEN (hr.mono (by decide)) rfl (zA (zB 0) (zA zC zD))) (zA zC zD)))) (zF (zW 3 zLN.nd (xL zD)) (zF (zCE PassesOwn.never rfl (yOF (yL (wX (zB 0) (yU zC) (yU zC)) (wX (xL (zA (wW (zK zEN (hr.mono (by decide)) rfl (zA (zB 0) (zA zC zD))) zC) zD)) (yU (zL zP yO rfl yF yP (zA (wX (zB 0) (yU zC) (yU zC)) zD))) kK))) (wD 4 zLN.nd) (zI (zIB (zQB (zB 3) (zA (zK yBN (hr.mono (by decide)) rfl (zA (zK yBP (hr.mono (by decide)) rfl (zA (wW (zB 4) zC) (zA (zB 2) (zA (zB 1) zD)))) (zA (yX (zB 4) (zAK zC zC)) (zA (zB 2) zD)))) zD))))) (zF (yEU 5 zLN.nd (zH yGM) yLQ ["_law_k"] [2,3] (zAJ rfl jF (zA (zL zP yO rfl yF yP (zA (zB 3) zD)) zD)) rfl (λ_ _ _ _ hN=>(bC 0 hN)) (λ_ _ _ _=>(zXN (xX (yB (zK zZE (hr.mono (by decide)) rfl (zA (zB 1) (zA (zO (zB 2) (zB 0)) zD))))))) (λ_ _ _ _=>(zB 0))) (zF (zW 6 zLN.nd (xL (zA (gF zOD yFC rfl zJI zRS (zA (zB 2) zD)) (zA (gF zOD yFC rfl zJI zRS (zA (zB 3) zD)) (zA (xL zD) zD))))) (zF (yC (zKE hr.units (zB 5) (xL zD)) (zF (zW 7 zLN.nd (zK zLS (hr.mono (by decide)) rfl (zA (zB 6) (zA zC (zA (zO (zB 5) zC) zD))))) (zI (zM (wV (zB 7) (wV (zK zLS (hr.mono (by decide)) rfl (zA (zB 6) (zA zC (zA (zO (zB 5) zC) zD)))) (jH (zEW hr.units (zO (zB 6) zC) (zB 3)))))))) zR) (zI (zM (zK zZD (hr.mono (by decide)) rfl (zA (zK zQS.noX (hr.mono (by decide)) rfl (zA (zO (zB 6) zC) (zA (zO (zB 6) zC) (zA (zO (zB 6) zC) zD)))) (zA (zZ (zA (zB 2) (zA (gF wO zBL rfl yS wE (zA (zB 3) zD)) (zA (zZ zD) zD)))) zD))))))))))))
    exact h
end
theorem all_mk{l:PySem.W.OpenLaw}{w:World}{K:PySem.W.Frag}{h:Heap}{mg:Str->Option Value}{fa:Addr}(X:K.In h)(GG:h.Ns mainGlobals mg)(hfa:mg "law"=some (.ref fa))
  (D0:DefM K mg "is_whole" zNN)
  (D1:DefM K mg "is_name" zME)
  (D2:DefM K mg "is_value" zNO)
  (D3:DefM K mg "is_tuple" zNP)
  (D4:DefM K mg "is_number_below" nY)
  (D5:DefM K mg "is_table" zNS)
  (D6:DefM K mg "is_side" zQN)
  (D7:DefM K mg "is_test" zQO)
  (D8:DefM K mg "are_tests" zFF)
  (D9:DefM K mg "are_columns" zBJ)
  (D10:DefM K mg "is_never" zNT)
  (D11:DefM K mg "is_apart" zEJ)
  (D12:DefM K mg "is_tie" zUM)
  (D13:DefM K mg "is_rule" zQQ)
  (D14:DefM K mg "check_sizes" zGR)
  (D15:DefM K mg "check_tables" zEK)
  (D16:DefM K mg "check_rules" zGS)
  (D17:DefM K mg "check_rows" zJD)
  (D18:DefM K mg "book_of" zQR)
  (D19:DefM K mg "_law_cell_at" zEM)
  (D20:DefM K mg "_law_mix" zNU)
  (D21:DefM K mg "_law_name" zLI)
  (D22:DefM K mg "_law_pool" zLJ)
  (D23:DefM K mg "_law_alike" zDB)
  (D24:DefM K mg "_law_tables" zGT)
  (D25:DefM K mg "_law_take" zLK)
  (D26:DefM K mg "_law_side" zLL)
  (D27:DefM K mg "_law_tests" zJE)
  (D28:DefM K mg "_law_rule" zBX)
  (D29:DefM K mg "_law_kinds" zDC)
  (D30:DefM K mg "_law_refused" nZ)
  (D31:DefM K mg "_law_no_number" zAZ)
  (D32:DefM K mg "_law_bent_side" zBA)
  (D33:DefM K mg "_law_bent_tests" zAA)
  (D34:DefM K mg "_law_bent" zLM)
  (D35:DefM K mg "_law_number" zGU)
  (D36:DefM K mg "_law_value_right" hZ)
  (D37:DefM K mg "_law_side_right" zAC)
  (D38:DefM K mg "_law_tests_right" dI)
  (D39:DefM K mg "_law_columns_right" kX)
  (D40:DefM K mg "_law_right" zJF)
  (D41:DefM K mg "law" yGM)
  {zEP:Tok} (bA:PySem.W.nsIn K mainGlobals "MOST_LETTERS"=some (some (.int 8 zEP)))
  {zLP:Tok} (zBZ:PySem.W.nsIn K mainGlobals "MOST_ROWS"=some (some (.int 60 zLP)))
  {zJG:Tok} (zAD:PySem.W.nsIn K mainGlobals "MOST_RULES"=some (some (.int 6 zJG)))
  {zGW:Tok} (cA:PySem.W.nsIn K mainGlobals "MOST_TABLES"=some (some (.int 4 zGW)))
  {zJJ:Tok} (zAF:PySem.W.nsIn K mainGlobals "MOST_TESTS"=some (some (.int 3 zJJ)))
  {zLR:Tok} (zCB:PySem.W.nsIn K mainGlobals "MOST_TIED"=some (some (.int 3 zLR)))
  {zLT:Tok} (zBY:PySem.W.nsIn K mainGlobals "MOST_WIDE"=some (some (.int 4 zLT)))
  {yGN:Addr} {oc_WORDS:Value} {od_WORDS:Option Addr} {its_WORDS:Array Value} {n_WORDS:Nat} {sl_WORDS:Array (Option Value)} (zPN:PySem.W.nsIn K mainGlobals "WORDS"=some (some (.ref yGN))) (zZG:K.lookup yGN=some ⟨oc_WORDS,od_WORDS,.seq its_WORDS n_WORDS,sl_WORDS⟩) (zPM:oc_WORDS=.type "tuple"/\its_WORDS.size<=sizeLine/\Vals ([.str [115,97,109,101],.str [117,110,108,105,107,101],.str [108,101,115,115]].map yFE) its_WORDS.toList)
  {C_MendError:Addr} {i_MendError:Option Value} (zLQ:PySem.W.nsIn K mainGlobals "MendError"=some (some (.ref C_MendError))) (x_MendError:XCl K C_MendError bmV i_MendError)
  {C_TooGreat:Addr} {i_TooGreat:Option Value} (zNZ:PySem.W.nsIn K mainGlobals "TooGreat"=some (some (.ref C_TooGreat))) (x_TooGreat:XCl K C_TooGreat (.ref C_MendError::bmV) i_TooGreat)
  {C_NoText:Addr} {i_NoText:Option Value} (zUW:PySem.W.nsIn K mainGlobals "NoText"=some (some (.ref C_NoText))) (x_NoText:XCl K C_NoText (.ref C_MendError::bmV) i_NoText)
  {C_NoPlace:Addr} {i_NoPlace:Option Value} (zQV:PySem.W.nsIn K mainGlobals "NoPlace"=some (some (.ref C_NoPlace))) (x_NoPlace:XCl K C_NoPlace (.ref C_MendError::bmV) i_NoPlace)
  {C_NotPlain:Addr} {i_NotPlain:Option Value} (zOA:PySem.W.nsIn K mainGlobals "NotPlain"=some (some (.ref C_NotPlain))) (x_NotPlain:XCl K C_NotPlain (.ref C_MendError::bmV) i_NotPlain)
  {C_NoTable:Addr} {i_NoTable:Option Value} (zQT:PySem.W.nsIn K mainGlobals "NoTable"=some (some (.ref C_NoTable))) (x_NoTable:XCl K C_NoTable (.ref C_MendError::bmV) i_NoTable)
  {C_NoRule:Addr} {i_NoRule:Option Value} (zUX:PySem.W.nsIn K mainGlobals "NoRule"=some (some (.ref C_NoRule))) (x_NoRule:XCl K C_NoRule (.ref C_MendError::bmV) i_NoRule)
  {C_NoRow:Addr} {i_NoRow:Option Value} (zZC:PySem.W.nsIn K mainGlobals "NoRow"=some (some (.ref C_NoRow))) (x_NoRow:XCl K C_NoRow (.ref C_MendError::bmV) i_NoRow)
  {C_Twice:Addr} {i_Twice:Option Value} (zZF:PySem.W.nsIn K mainGlobals "Twice"=some (some (.ref C_Twice))) (x_Twice:XCl K C_Twice (.ref C_MendError::bmV) i_Twice)
  {C_NoQuestion:Addr} {i_NoQuestion:Option Value} (zJH:PySem.W.nsIn K mainGlobals "NoQuestion"=some (some (.ref C_NoQuestion))) (x_NoQuestion:XCl K C_NoQuestion (.ref C_MendError::bmV) i_NoQuestion)
  {C_Double:Addr} {i_Double:Option Value} (zUY:PySem.W.nsIn K mainGlobals "Double"=some (some (.ref C_Double))) (x_Double:XCl K C_Double (.ref C_MendError::bmV) i_Double)
  {C_TooWide:Addr} {i_TooWide:Option Value} (zQU:PySem.W.nsIn K mainGlobals "TooWide"=some (some (.ref C_TooWide))) (x_TooWide:XCl K C_TooWide (.ref C_MendError::bmV) i_TooWide)
  {C_Ring:Addr} {i_Ring:Option Value} (yEA:PySem.W.nsIn K mainGlobals "Ring"=some (some (.ref C_Ring))) (x_Ring:XCl K C_Ring (.ref C_MendError::bmV) i_Ring)
  (j_MendError:i_MendError=none)
  (j_TooGreat:i_TooGreat=none)
  (j_NoText:i_NoText=none)
  (j_NoPlace:i_NoPlace=none)
  (j_NotPlain:i_NotPlain=none)
  {I_NoTable:Addr} {odI_NoTable anI_NoTable:Option Addr} {slI_NoTable:Array (Option Value)} {ocI_NoTable kVI_NoTable dcI_NoTable pmI_NoTable cdI_NoTable ctI_NoTable:Value} (y_NoTable:XIn K C_MendError C_NoTable I_NoTable) (lI_NoTable:K.lookup I_NoTable=some ⟨ocI_NoTable,odI_NoTable,.func (PySem.W.fnOf "__init__" "NoTable.__init__" (zCU zEI) (jN zEI) (zH zEI) .none kVI_NoTable dcI_NoTable pmI_NoTable anI_NoTable cdI_NoTable ctI_NoTable),slI_NoTable⟩) (cI_NoTable:PySem.W.codeIn K cdI_NoTable "NoTable.__init__"=true) (kI_NoTable:PySem.W.keepIn K (.ref I_NoTable)=true)
  {I_NoRule:Addr} {odI_NoRule anI_NoRule:Option Addr} {slI_NoRule:Array (Option Value)} {ocI_NoRule kVI_NoRule dcI_NoRule pmI_NoRule cdI_NoRule ctI_NoRule:Value} (y_NoRule:XIn K C_MendError C_NoRule I_NoRule) (lI_NoRule:K.lookup I_NoRule=some ⟨ocI_NoRule,odI_NoRule,.func (PySem.W.fnOf "__init__" "NoRule.__init__" (zCU zHT) (jN zHT) (zH zHT) .none kVI_NoRule dcI_NoRule pmI_NoRule anI_NoRule cdI_NoRule ctI_NoRule),slI_NoRule⟩) (cI_NoRule:PySem.W.codeIn K cdI_NoRule "NoRule.__init__"=true) (kI_NoRule:PySem.W.keepIn K (.ref I_NoRule)=true)
  (xm:XMn K C_MendError)
  (xd:[C_MendError,C_TooGreat,C_NoText,C_NoPlace,C_NotPlain,C_NoTable,C_NoRule,C_NoRow,C_Twice,C_NoQuestion,C_Double,C_TooWide,C_Ring].Nodup)
  (zAE:PySem.W.nsIn K mainGlobals "ValueError"=some none)
  (zUU:PySem.W.nsIn K mainGlobals "abs"=some none)
  (zHU:PySem.W.nsIn K mainGlobals "all"=some none)
  (zBB:PySem.W.nsIn K mainGlobals "bool"=some none)
  (wQ:PySem.W.nsIn K mainGlobals "enumerate"=some none)
  (zHW:PySem.W.nsIn K mainGlobals "int"=some none)
  (zG:PySem.W.nsIn K mainGlobals "isinstance"=some none)
  (yF:PySem.W.nsIn K mainGlobals "len"=some none)
  (zJI:PySem.W.nsIn K mainGlobals "list"=some none)
  (jF:PySem.W.nsIn K mainGlobals "range"=some none)
  (zMR:PySem.W.nsIn K mainGlobals "str"=some none)
  (yS:PySem.W.nsIn K mainGlobals "tuple"=some none)
  (yBO:PySem.W.nsIn K mainGlobals "zip"=some none)
  : ∃fd:FuncData,(∀(s:Shared)(v:Value),BindsTo s fd ⟨[v],[]⟩ [("_law_script",v)])/\ ∀base:Heap,K.In base->base.Ns mainGlobals mg->FnOk l.prog w K mg base CX0 11 fa fd ["_law_script"] (zWJ K yAI):=by
 have Z_ValueError:=PySem.W.mg_none_of X GG zAE
 have Z_abs:=PySem.W.mg_none_of X GG zUU
 have Z_all:=PySem.W.mg_none_of X GG zHU
 have Z_bool:=PySem.W.mg_none_of X GG zBB
 have Z_enumerate:=PySem.W.mg_none_of X GG wQ
 have Z_int:=PySem.W.mg_none_of X GG zHW
 have Z_isinstance:=PySem.W.mg_none_of X GG zG
 have Z_len:=PySem.W.mg_none_of X GG yF
 have Z_list:=PySem.W.mg_none_of X GG zJI
 have Z_range:=PySem.W.mg_none_of X GG jF
 have Z_str:=PySem.W.mg_none_of X GG zMR
 have Z_tuple:=PySem.W.mg_none_of X GG yS
 have Z_zip:=PySem.W.mg_none_of X GG yBO
 have M_MOST_LETTERS:=PySem.W.mg_of X GG bA
 have M_MOST_ROWS:=PySem.W.mg_of X GG zBZ
 have M_MOST_RULES:=PySem.W.mg_of X GG zAD
 have M_MOST_TABLES:=PySem.W.mg_of X GG cA
 have M_MOST_TESTS:=PySem.W.mg_of X GG zAF
 have M_MOST_TIED:=PySem.W.mg_of X GG zCB
 have M_MOST_WIDE:=PySem.W.mg_of X GG zBY
 have M_WORDS:GTup K mg "WORDS" [.str [115,97,109,101],.str [117,110,108,105,107,101],.str [108,101,115,115]]:=⟨⟨_,_,_,_,PySem.W.mg_of X GG zPN,zZG,zPM.1,rfl,zPM.2.1,zPM.2.2⟩,rfl⟩
 subst j_MendError
 subst j_TooGreat
 subst j_NoText
 subst j_NoPlace
 subst j_NotPlain
 let xl:Nat->Addr:=λn=>[C_TooGreat,C_NoText,C_NoPlace,C_NotPlain,C_NoTable,C_NoRule,C_NoRow,C_Twice,C_NoQuestion,C_Double,C_TooWide,C_Ring].getD n 0
 have XT:XTab K mg C_MendError (XCS xl):=⟨PySem.W.mg_of X GG zLQ,x_MendError,⟨⟨PySem.W.mg_of X GG zNZ,_,x_TooGreat⟩,⟨PySem.W.mg_of X GG zUW,_,x_NoText⟩,⟨PySem.W.mg_of X GG zQV,_,x_NoPlace⟩,⟨PySem.W.mg_of X GG zOA,_,x_NotPlain⟩,⟨PySem.W.mg_of X GG zQT,_,x_NoTable⟩,⟨PySem.W.mg_of X GG zUX,_,x_NoRule⟩,⟨PySem.W.mg_of X GG zZC,_,x_NoRow⟩,⟨PySem.W.mg_of X GG zZF,_,x_Twice⟩,⟨PySem.W.mg_of X GG zJH,_,x_NoQuestion⟩,⟨PySem.W.mg_of X GG zUY,_,x_Double⟩,⟨PySem.W.mg_of X GG zQU,_,x_TooWide⟩,⟨PySem.W.mg_of X GG yEA,_,x_Ring⟩,trivial⟩,xd⟩
 have FI_NoTable:=yCC (st:=zEI) lI_NoTable cI_NoTable kI_NoTable
 have bI_NoTable:=FI_NoTable.binds (ps:=["self","place"]) λ_ _ _ _ _ _ us hl=>match us,hl with |[_,_],_=>rfl
 have FI_NoRule:=yCC (st:=zHT) lI_NoRule cI_NoRule kI_NoRule
 have bI_NoRule:=FI_NoRule.binds (ps:=["self","place"]) λ_ _ _ _ _ _ us hl=>match us,hl with |[_,_],_=>rfl
 refine yUJ D41 hfa (λ_ _ _ _ _ _ s v=>.of_eq rfl) λbase f fd F=>?_
 have GI_NoTable:FnOk l.prog w K mg base CX0 1 I_NoTable _ ["self","place"] (zWM C_NoTable "place"):=yFI FI_NoTable yAZ x_MendError y_NoTable xm XT.m rfl (λ_=>rfl) (λ_=>rfl) (λ_=>rfl) rfl rfl rfl (by decide) (by decide) (.txt (by decide) (.fld (.nil))) (by decide) (by decide) zTU
 have GI_NoRule:FnOk l.prog w K mg base CX0 1 I_NoRule _ ["self","place"] (zWM C_NoRule "place"):=yFI FI_NoRule yDN x_MendError y_NoRule xm XT.m rfl (λ_=>rfl) (λ_=>rfl) (λ_=>rfl) rfl rfl rfl (by decide) (by decide) (.txt (by decide) (.fld (.nil))) (by decide) (by decide) zTU
 have G0:=yBB (P:=l.prog) (w:=w) (base:=base) D0 Z_int Z_isinstance Z_bool
 have G1:=yDP (P:=l.prog) (w:=w) (base:=base) D1 Z_str Z_isinstance Z_len M_MOST_LETTERS Z_all
 have G2:=yBD (P:=l.prog) (w:=w) (base:=base) D2 G0 Z_abs G1
 have G3:=yBF (P:=l.prog) (w:=w) (base:=base) D3 Z_tuple Z_isinstance Z_len
 have G4:=zNR (P:=l.prog) (w:=w) (base:=base) D4 G0
 have G5:=yBG (P:=l.prog) (w:=w) (base:=base) D5 G3 G0 M_MOST_WIDE G4
 have G6:=yDR (P:=l.prog) (w:=w) (base:=base) D6 G3 G2 G4 Z_len
 have G7:=yDT (P:=l.prog) (w:=w) (base:=base) D7 G3 G6 M_WORDS
 have G8:=zYU (P:=l.prog) (w:=w) (base:=base) D8 G3 M_MOST_TESTS G7 Z_all
 have G9:=zUL (P:=l.prog) (w:=w) (base:=base) D9 G3 M_MOST_TIED G4 Z_all
 have G10:=yBI (P:=l.prog) (w:=w) (base:=base) D10 Z_len G4 G8
 have G11:=yBK (P:=l.prog) (w:=w) (base:=base) D11 Z_len G4 Z_all G8
 have G12:=yIE (P:=l.prog) (w:=w) (base:=base) D12 Z_len G4 G9
 have G13:=yDV (P:=l.prog) (w:=w) (base:=base) D13 Z_tuple Z_isinstance Z_len G10 G11 G12
 have G14:=zUO (P:=l.prog) (w:=w) (base:=base) D14 Z_len M_MOST_TABLES M_MOST_RULES M_MOST_ROWS
 have G15:=zRO (P:=l.prog) (w:=w) (base:=base) D15 XT Z_len y_NoTable GI_NoTable bI_NoTable Z_enumerate G5
 have G16:=zUP (P:=l.prog) (w:=w) (base:=base) D16 XT Z_enumerate G13 y_NoRule GI_NoRule bI_NoRule
 have G17:=zVK (P:=l.prog) (w:=w) (base:=base) D17 Z_enumerate
 have G18:=yDX (P:=l.prog) (w:=w) (base:=base) D18 G14 G15 G16 G17 Z_tuple
 have G19:=zRQ (P:=l.prog) (w:=w) (base:=base) D19 Z_len
 have G20:=yBL (P:=l.prog) (w:=w) (base:=base) D20
 have G21:=zYV (P:=l.prog) (w:=w) (base:=base) D21 Z_range
 have G22:=zYW (P:=l.prog) (w:=w) (base:=base) D22 G20 G21 Z_len
 have G23:=zVM (P:=l.prog) (w:=w) (base:=base) D23 Z_str Z_isinstance Z_int Z_bool Z_list Z_tuple Z_len Z_zip Z_all
 have G24:=zUQ (P:=l.prog) (w:=w) (base:=base) D24 G20 Z_range Z_tuple
 have G25:=zYX (P:=l.prog) (w:=w) (base:=base) D25
 have G26:=zYY (P:=l.prog) (w:=w) (base:=base) D26 G25 Z_len
 have G27:=zVN (P:=l.prog) (w:=w) (base:=base) D27 Z_range G25 G26 Z_tuple
 have G28:=zYZ (P:=l.prog) (w:=w) (base:=base) D28 G20 G25 Z_len G27 Z_range Z_tuple
 have GH29:=zUR (P:=l.prog) (w:=w) (base:=base) D29 XT Z_isinstance
 have G29:=zVO (P:=l.prog) (w:=w) (base:=base) D29 XT Z_isinstance
 have G30:=zRR (P:=l.prog) (w:=w) (base:=base) D30 XT GH29 Z_isinstance Z_ValueError G18 Z_range Z_bool
 have G31:=zPK (P:=l.prog) (w:=w) (base:=base) D31
 have G32:=zPL (P:=l.prog) (w:=w) (base:=base) D32 G31
 have G33:=zNV (P:=l.prog) (w:=w) (base:=base) D33 G32
 have G34:=zZA (P:=l.prog) (w:=w) (base:=base) D34 G20 G31 Z_len G33
 have G35:=zUT (P:=l.prog) (w:=w) (base:=base) D35 Z_int Z_isinstance Z_bool
 have G36:=zMG (P:=l.prog) (w:=w) (base:=base) D36 Z_bool Z_isinstance Z_int Z_str Z_abs Z_len
 have G37:=zNX (P:=l.prog) (w:=w) (base:=base) D37 Z_tuple Z_isinstance Z_len G36 G35
 have G38:=zMH (P:=l.prog) (w:=w) (base:=base) D38 Z_tuple Z_isinstance Z_len G37
 have G39:=zJY (P:=l.prog) (w:=w) (base:=base) D39 G35 Z_len Z_tuple Z_isinstance
 have G40:=zVP (P:=l.prog) (w:=w) (base:=base) D40 Z_len G39 G35 G38
 exact yVO (P:=l.prog) (w:=w) (base:=base) F G22 G19 G24 Z_len G34 G28 Z_range G40 Z_list G30 G23 G18 Z_tuple
theorem walk{l:PySem.W.OpenLaw}{q:Program}{loose:List Str}{XP:(Str->Option Value)->Heap->Prop}{YP:World->Heap->Prop}{d:DefRec}{K:Params->PySem.W.Frag}(hn:l.most=some 63)(hdf:d.params.defaults=[])
  (hY: ∀(w:World)(h:Heap),YP w h->(K w.params).In h)
  (F: ∀(w:World)(mg:Str->Option Value)(fa:Addr)(h:Heap),(K w.params).In h->h.Ns mainGlobals mg->mg d.name=some (.ref fa)->
   ∃fd:FuncData,(∀(s:Shared)(u:Value),BindsTo s fd ⟨[u],[]⟩ [("_law_script",u)])/\ ∀base:Heap,(K w.params).In base->base.Ns mainGlobals mg->FnOk l.prog w (K w.params) mg base CX0 11 fa fd ["_law_script"] (zWJ (K w.params) yAI)):
  PySem.W.WalkO q loose XP YP l.row.toRowW d [] (λf vs=>PySem.call f vs):=
 L2.walk_of (n:=63) (k:=11) (x:="_law_script") (CX:=λ_=>CX0) (sp:=λw=>zWJ (K w.params) yAI) hn (by decide) hdf ⟨rfl,by decide,by decide⟩ hY F
  (λw H a ns hl hO hS=>yKG hO hS (yND ns hl)) λ_ _ _ _ _ z=>z
end My
end M
end L2
noncomputable def zTw : PySem.Params → PySem.Heap := fun P => { PySem.W.boot_heap P with objs := #[] }
noncomputable def PySem.W.Fast.tw18442290614177070667 := zTw
theorem PySem.W.Fast.te18442290614177070667 : PySem.W.Fast.tw18442290614177070667 = zTw := rfl
noncomputable def PySem.W.Fast.tw13761044203191061546 := zTw
theorem PySem.W.Fast.te13761044203191061546 : PySem.W.Fast.tw13761044203191061546 = zTw := rfl
noncomputable def PySem.W.Fast.tw9414067979664188751 := zTw
theorem PySem.W.Fast.te9414067979664188751 : PySem.W.Fast.tw9414067979664188751 = zTw := rfl
noncomputable def PySem.W.Fast.tw8461313912573299030 := zTw
theorem PySem.W.Fast.te8461313912573299030 : PySem.W.Fast.tw8461313912573299030 = zTw := rfl
noncomputable def PySem.W.Fast.tw16201807077656873316 := zTw
theorem PySem.W.Fast.te16201807077656873316 : PySem.W.Fast.tw16201807077656873316 = zTw := rfl
noncomputable def PySem.W.Fast.tw4569634960400573103 := zTw
theorem PySem.W.Fast.te4569634960400573103 : PySem.W.Fast.tw4569634960400573103 = zTw := rfl
noncomputable def PySem.W.Fast.tw9188790848442763595 := zTw
theorem PySem.W.Fast.te9188790848442763595 : PySem.W.Fast.tw9188790848442763595 = zTw := rfl
noncomputable def PySem.W.Fast.tw6584009280156331710 := zTw
theorem PySem.W.Fast.te6584009280156331710 : PySem.W.Fast.tw6584009280156331710 = zTw := rfl
noncomputable def PySem.W.Fast.tw17426618214775877555 := zTw
theorem PySem.W.Fast.te17426618214775877555 : PySem.W.Fast.tw17426618214775877555 = zTw := rfl
noncomputable def PySem.W.Fast.tw8782843473637490404 := zTw
theorem PySem.W.Fast.te8782843473637490404 : PySem.W.Fast.tw8782843473637490404 = zTw := rfl
noncomputable def PySem.W.Fast.tw17991917081632344862 := zTw
theorem PySem.W.Fast.te17991917081632344862 : PySem.W.Fast.tw17991917081632344862 = zTw := rfl
noncomputable def PySem.W.Fast.tw11546753180510006011 := zTw
theorem PySem.W.Fast.te11546753180510006011 : PySem.W.Fast.tw11546753180510006011 = zTw := rfl
noncomputable def PySem.W.Fast.tw13177794089425755021 := zTw
theorem PySem.W.Fast.te13177794089425755021 : PySem.W.Fast.tw13177794089425755021 = zTw := rfl
noncomputable def PySem.W.Fast.tw9650658488119905425 := zTw
theorem PySem.W.Fast.te9650658488119905425 : PySem.W.Fast.tw9650658488119905425 = zTw := rfl
noncomputable def PySem.W.Fast.tw6147552746735721197 := zTw
theorem PySem.W.Fast.te6147552746735721197 : PySem.W.Fast.tw6147552746735721197 = zTw := rfl
noncomputable def PySem.W.Fast.tw13146205152891311432 := zTw
theorem PySem.W.Fast.te13146205152891311432 : PySem.W.Fast.tw13146205152891311432 = zTw := rfl
noncomputable def PySem.W.Fast.tw15960685657138719824 := zTw
theorem PySem.W.Fast.te15960685657138719824 : PySem.W.Fast.tw15960685657138719824 = zTw := rfl
noncomputable def PySem.W.Fast.tw15670708527648650683 := zTw
theorem PySem.W.Fast.te15670708527648650683 : PySem.W.Fast.tw15670708527648650683 = zTw := rfl
noncomputable def PySem.W.Fast.tw1535343184810966271 := zTw
theorem PySem.W.Fast.te1535343184810966271 : PySem.W.Fast.tw1535343184810966271 = zTw := rfl
noncomputable def PySem.W.Fast.tw5050102188661125778 := zTw
theorem PySem.W.Fast.te5050102188661125778 : PySem.W.Fast.tw5050102188661125778 = zTw := rfl
noncomputable def PySem.W.Fast.tw16204008571688860581 := zTw
theorem PySem.W.Fast.te16204008571688860581 : PySem.W.Fast.tw16204008571688860581 = zTw := rfl
noncomputable def PySem.W.Fast.tw7646041687696512010 := zTw
theorem PySem.W.Fast.te7646041687696512010 : PySem.W.Fast.tw7646041687696512010 = zTw := rfl
noncomputable def PySem.W.Fast.tw4425599708224905171 := zTw
theorem PySem.W.Fast.te4425599708224905171 : PySem.W.Fast.tw4425599708224905171 = zTw := rfl
noncomputable def PySem.W.Fast.tw17312077312457745046 := zTw
theorem PySem.W.Fast.te17312077312457745046 : PySem.W.Fast.tw17312077312457745046 = zTw := rfl
noncomputable def PySem.W.Fast.tw15746957793191478790 := zTw
theorem PySem.W.Fast.te15746957793191478790 : PySem.W.Fast.tw15746957793191478790 = zTw := rfl
noncomputable def PySem.W.Fast.tw2400631239581124367 := zTw
theorem PySem.W.Fast.te2400631239581124367 : PySem.W.Fast.tw2400631239581124367 = zTw := rfl
noncomputable def PySem.W.Fast.tw17935151695408152923 := zTw
theorem PySem.W.Fast.te17935151695408152923 : PySem.W.Fast.tw17935151695408152923 = zTw := rfl
noncomputable def PySem.W.Fast.tw1347120747238584519 := zTw
theorem PySem.W.Fast.te1347120747238584519 : PySem.W.Fast.tw1347120747238584519 = zTw := rfl
noncomputable def PySem.W.Fast.tw6455651434908865863 := zTw
theorem PySem.W.Fast.te6455651434908865863 : PySem.W.Fast.tw6455651434908865863 = zTw := rfl
noncomputable def PySem.W.Fast.tw906115501356510433 := zTw
theorem PySem.W.Fast.te906115501356510433 : PySem.W.Fast.tw906115501356510433 = zTw := rfl
noncomputable def PySem.W.Fast.tw17226176522700396194 := zTw
theorem PySem.W.Fast.te17226176522700396194 : PySem.W.Fast.tw17226176522700396194 = zTw := rfl
open PySem PySem.W PyProof.Rows
set_option maxRecDepth 100000 in
set_option maxHeartbeats 0 in
theorem PySem.Challenge.cw_mendsure_k08_rules_judged_holds : PySem.Challenge.rw_mendsure_k08_rules_judged.Holds := by
  w_on; o_law; k_head; (case hw => w_witness2)
  k_fill
  refine L2.M.My.walk (l := PySem.Challenge.rw_mendsure_k08_rules_judged) rfl rfl (fun w h Y => PySem.W.kIn_of Y) ?F
  case F =>
    intro w mg fa h KX G hmg
    refine' L2.M.My.all_mk KX G hmg ?D0 ?D1 ?D2 ?D3 ?D4 ?D5 ?D6 ?D7 ?D8 ?D9 ?D10 ?D11 ?D12 ?D13 ?D14 ?D15 ?D16 ?D17 ?D18 ?D19 ?D20 ?D21 ?D22 ?D23 ?D24 ?D25 ?D26 ?D27 ?D28 ?D29 ?D30 ?D31 ?D32 ?D33 ?D34 ?D35 ?D36 ?D37 ?D38 ?D39 ?D40 ?D41 ?bA ?zBZ ?zAD ?cA ?zAF ?zCB ?zBY ?zPN ?zZG ?zPM ?zLQ ?x_MendError ?zNZ ?x_TooGreat ?zUW ?x_NoText ?zQV ?x_NoPlace ?zOA ?x_NotPlain ?zQT ?x_NoTable ?zUX ?x_NoRule ?zZC ?x_NoRow ?zZF ?x_Twice ?zJH ?x_NoQuestion ?zUY ?x_Double ?zQU ?x_TooWide ?yEA ?x_Ring ?j_MendError ?j_TooGreat ?j_NoText ?j_NoPlace ?j_NotPlain ?y_NoTable ?lI_NoTable ?cI_NoTable ?kI_NoTable ?y_NoRule ?lI_NoRule ?cI_NoRule ?kI_NoRule ?xm ?xd ?zAE ?zUU ?zHU ?zBB ?wQ ?zHW ?zG ?yF ?zJI ?jF ?zMR ?yS ?yBO
    (case D0 => exact L2.M.def_mk (by k_is) (by k_is) (by k_is) (by k_is) KX G)
    (case D1 => exact L2.M.def_mk (by k_is) (by k_is) (by k_is) (by k_is) KX G)
    (case D2 => exact L2.M.def_mk (by k_is) (by k_is) (by k_is) (by k_is) KX G)
    (case D3 => exact L2.M.def_mk (by k_is) (by k_is) (by k_is) (by k_is) KX G)
    (case D4 => exact L2.M.def_mk (by k_is) (by k_is) (by k_is) (by k_is) KX G)
    (case D5 => exact L2.M.def_mk (by k_is) (by k_is) (by k_is) (by k_is) KX G)
    (case D6 => exact L2.M.def_mk (by k_is) (by k_is) (by k_is) (by k_is) KX G)
    (case D7 => exact L2.M.def_mk (by k_is) (by k_is) (by k_is) (by k_is) KX G)
    (case D8 => exact L2.M.def_mk (by k_is) (by k_is) (by k_is) (by k_is) KX G)
    (case D9 => exact L2.M.def_mk (by k_is) (by k_is) (by k_is) (by k_is) KX G)
    (case D10 => exact L2.M.def_mk (by k_is) (by k_is) (by k_is) (by k_is) KX G)
    (case D11 => exact L2.M.def_mk (by k_is) (by k_is) (by k_is) (by k_is) KX G)
    (case D12 => exact L2.M.def_mk (by k_is) (by k_is) (by k_is) (by k_is) KX G)
    (case D13 => exact L2.M.def_mk (by k_is) (by k_is) (by k_is) (by k_is) KX G)
    (case D14 => exact L2.M.def_mk (by k_is) (by k_is) (by k_is) (by k_is) KX G)
    (case D15 => exact L2.M.def_mk (by k_is) (by k_is) (by k_is) (by k_is) KX G)
    (case D16 => exact L2.M.def_mk (by k_is) (by k_is) (by k_is) (by k_is) KX G)
    (case D17 => exact L2.M.def_mk (by k_is) (by k_is) (by k_is) (by k_is) KX G)
    (case D18 => exact L2.M.def_mk (by k_is) (by k_is) (by k_is) (by k_is) KX G)
    (case D19 => exact L2.M.def_mk (by k_is) (by k_is) (by k_is) (by k_is) KX G)
    (case D20 => exact L2.M.def_mk (by k_is) (by k_is) (by k_is) (by k_is) KX G)
    (case D21 => exact L2.M.def_mk (by k_is) (by k_is) (by k_is) (by k_is) KX G)
    (case D22 => exact L2.M.def_mk (by k_is) (by k_is) (by k_is) (by k_is) KX G)
    (case D23 => exact L2.M.def_mk (by k_is) (by k_is) (by k_is) (by k_is) KX G)
    (case D24 => exact L2.M.def_mk (by k_is) (by k_is) (by k_is) (by k_is) KX G)
    (case D25 => exact L2.M.def_mk (by k_is) (by k_is) (by k_is) (by k_is) KX G)
    (case D26 => exact L2.M.def_mk (by k_is) (by k_is) (by k_is) (by k_is) KX G)
    (case D27 => exact L2.M.def_mk (by k_is) (by k_is) (by k_is) (by k_is) KX G)
    (case D28 => exact L2.M.def_mk (by k_is) (by k_is) (by k_is) (by k_is) KX G)
    (case D29 => exact L2.M.def_mk (by k_is) (by k_is) (by k_is) (by k_is) KX G)
    (case D30 => exact L2.M.def_mk (by k_is) (by k_is) (by k_is) (by k_is) KX G)
    (case D31 => exact L2.M.def_mk (by k_is) (by k_is) (by k_is) (by k_is) KX G)
    (case D32 => exact L2.M.def_mk (by k_is) (by k_is) (by k_is) (by k_is) KX G)
    (case D33 => exact L2.M.def_mk (by k_is) (by k_is) (by k_is) (by k_is) KX G)
    (case D34 => exact L2.M.def_mk (by k_is) (by k_is) (by k_is) (by k_is) KX G)
    (case D35 => exact L2.M.def_mk (by k_is) (by k_is) (by k_is) (by k_is) KX G)
    (case D36 => exact L2.M.def_mk (by k_is) (by k_is) (by k_is) (by k_is) KX G)
    (case D37 => exact L2.M.def_mk (by k_is) (by k_is) (by k_is) (by k_is) KX G)
    (case D38 => exact L2.M.def_mk (by k_is) (by k_is) (by k_is) (by k_is) KX G)
    (case D39 => exact L2.M.def_mk (by k_is) (by k_is) (by k_is) (by k_is) KX G)
    (case D40 => exact L2.M.def_mk (by k_is) (by k_is) (by k_is) (by k_is) KX G)
    (case D41 => exact L2.M.def_mk (by k_is) (by k_is) (by k_is) (by k_is) KX G)
    (case bA => k_is)
    (case zBZ => k_is)
    (case zAD => k_is)
    (case cA => k_is)
    (case zAF => k_is)
    (case zCB => k_is)
    (case zBY => k_is)
    (case zPN => k_is)
    (case zZG => k_is)
    (case zPM => exact ⟨rfl, by decide, .cons ⟨_, rfl⟩ (.cons ⟨_, rfl⟩ (.cons ⟨_, rfl⟩ (.nil)))⟩)
    (case zLQ => k_is)
    (case x_MendError => exact L2.M.xcl_mk (by k_is) (by k_is) rfl (by k_is) (by k_is) (by k_is) (by k_is) (by k_is) (by k_is) (by k_is) rfl)
    (case zNZ => k_is)
    (case x_TooGreat => exact L2.M.xcl_mk (by k_is) (by k_is) rfl (by k_is) (by k_is) (by k_is) (by k_is) (by k_is) (by k_is) (by k_is) rfl)
    (case zUW => k_is)
    (case x_NoText => exact L2.M.xcl_mk (by k_is) (by k_is) rfl (by k_is) (by k_is) (by k_is) (by k_is) (by k_is) (by k_is) (by k_is) rfl)
    (case zQV => k_is)
    (case x_NoPlace => exact L2.M.xcl_mk (by k_is) (by k_is) rfl (by k_is) (by k_is) (by k_is) (by k_is) (by k_is) (by k_is) (by k_is) rfl)
    (case zOA => k_is)
    (case x_NotPlain => exact L2.M.xcl_mk (by k_is) (by k_is) rfl (by k_is) (by k_is) (by k_is) (by k_is) (by k_is) (by k_is) (by k_is) rfl)
    (case zQT => k_is)
    (case x_NoTable => exact L2.M.xcl_mk (by k_is) (by k_is) rfl (by k_is) (by k_is) (by k_is) (by k_is) (by k_is) (by k_is) (by k_is) rfl)
    (case zUX => k_is)
    (case x_NoRule => exact L2.M.xcl_mk (by k_is) (by k_is) rfl (by k_is) (by k_is) (by k_is) (by k_is) (by k_is) (by k_is) (by k_is) rfl)
    (case zZC => k_is)
    (case x_NoRow => exact L2.M.xcl_mk (by k_is) (by k_is) rfl (by k_is) (by k_is) (by k_is) (by k_is) (by k_is) (by k_is) (by k_is) rfl)
    (case zZF => k_is)
    (case x_Twice => exact L2.M.xcl_mk (by k_is) (by k_is) rfl (by k_is) (by k_is) (by k_is) (by k_is) (by k_is) (by k_is) (by k_is) rfl)
    (case zJH => k_is)
    (case x_NoQuestion => exact L2.M.xcl_mk (by k_is) (by k_is) rfl (by k_is) (by k_is) (by k_is) (by k_is) (by k_is) (by k_is) (by k_is) rfl)
    (case zUY => k_is)
    (case x_Double => exact L2.M.xcl_mk (by k_is) (by k_is) rfl (by k_is) (by k_is) (by k_is) (by k_is) (by k_is) (by k_is) (by k_is) rfl)
    (case zQU => k_is)
    (case x_TooWide => exact L2.M.xcl_mk (by k_is) (by k_is) rfl (by k_is) (by k_is) (by k_is) (by k_is) (by k_is) (by k_is) (by k_is) rfl)
    (case yEA => k_is)
    (case x_Ring => exact L2.M.xcl_mk (by k_is) (by k_is) rfl (by k_is) (by k_is) (by k_is) (by k_is) (by k_is) (by k_is) (by k_is) rfl)
    (case j_MendError => rfl)
    (case j_TooGreat => rfl)
    (case j_NoText => rfl)
    (case j_NoPlace => rfl)
    (case j_NotPlain => rfl)
    (case y_NoTable => exact L2.M.xin_mk (by k_is) (by k_is) rfl (by k_is) (by k_is) (by k_is) (by k_is) (by k_is) (by k_is) (by k_is) (by k_is) rfl)
    (case lI_NoTable => k_is)
    (case cI_NoTable => k_is)
    (case kI_NoTable => k_is)
    (case y_NoRule => exact L2.M.xin_mk (by k_is) (by k_is) rfl (by k_is) (by k_is) (by k_is) (by k_is) (by k_is) (by k_is) (by k_is) (by k_is) rfl)
    (case lI_NoRule => k_is)
    (case cI_NoRule => k_is)
    (case kI_NoRule => k_is)
    (case xm => exact ⟨by k_is, by k_is, by k_is⟩)
    (case xd => decide)
    (case zAE => k_is)
    (case zUU => k_is)
    (case zHU => k_is)
    (case zBB => k_is)
    (case wQ => k_is)
    (case zHW => k_is)
    (case zG => k_is)
    (case yF => k_is)
    (case zJI => k_is)
    (case jF => k_is)
    (case zMR => k_is)
    (case yS => k_is)
    (case yBO => k_is)
