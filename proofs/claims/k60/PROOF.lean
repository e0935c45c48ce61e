
import PyProof.Rows.All
import Wide.All
import OpenK.AllK
import Wide.FinOn
import Lean
import PyProof.EqAt
import PyProof.EqKinds
import PyProof.TupleCall
import PySem.Challenge.RW_mendsure_k60_a_table_twice
set_option Elab.async false
set_option linter.all false
set_option maxRecDepth 100000
noncomputable section
open List (all_cons all_eq_true all_map any_cons any_eq_true contains_cons drop_zero filterMap_cons filterMap_cons_some find?_cons flatten_cons foldl_cons forIn_cons forIn_nil getD_eq_getElem?_getD getElem?_append_left getElem?_append_right getElem?_eq_none getElem?_map getElem?_of_mem getElem?_set_ne getElem?_set_self getElem_inj getElem_mem getElem_of_mem le_trans length_drop length_filter_le length_nil length_pos_iff length_range length_replicate length_set length_zip lookup_cons map_append map_cons map_drop map_id map_map map_nil map_take mem_append mem_append_left mem_append_right mem_filter mem_filterMap mem_of_getElem? mem_of_mem_take mem_range nil_append nodup_append nodup_cons nodup_nil not_lt of_mem_zip pairwise_cons pairwise_map range'_succ replicate_succ reverse_cons take_of_length_le zipIdx_cons zipIdx_nil zip_cons_cons zip_nil_left)
open Bool (or_eq_true)
open Nat (le_of_lt le_refl le_succ le_trans lt_irrefl lt_of_lt_of_le lt_trans min_eq_left ne_of_gt ne_of_lt not_lt sub_self sub_zero zero_add zero_le)
open Int (toNat_natCast)
def xF0:¬(false=true):=Bool.false_ne_true
def t1M{A:Type}{x0 x1:A}{l:List A}:x1∈x0::x1::l:=.tail _ (.head _)
def t2M{A:Type}{x0 x1 x2:A}{l:List A}:x2∈x0::x1::x2::l:=(.tail _ (.tail _ (.head _)))
def t3M{A:Type}{x0 x1 x2 x3:A}{l:List A}:x3∈x0::x1::x2::x3::l:=(.tail _ (.tail _ (.tail _ (.head _))))
def t4M{A:Type}{x0 x1 x2 x3 x4:A}{l:List A}:x4∈x0::x1::x2::x3::x4::l:=(.tail _ (.tail _ (.tail _ (.tail _ (.head _)))))
def t5M{A:Type}{x0 x1 x2 x3 x4 x5:A}{l:List A}:x5∈x0::x1::x2::x3::x4::x5::l:=(.tail _ (.tail _ (.tail _ (.tail _ (.tail _ (.head _))))))
def t6M{A:Type}{x0 x1 x2 x3 x4 x5 x6:A}{l:List A}:x6∈x0::x1::x2::x3::x4::x5::x6::l:=(.tail _ (.tail _ (.tail _ (.tail _ (.tail _ (.tail _ (.head _)))))))
def t7M{A:Type}{x0 x1 x2 x3 x4 x5 x6 x7:A}{l:List A}:x7∈x0::x1::x2::x3::x4::x5::x6::x7::l:=(.tail _ (.tail _ (.tail _ (.tail _ (.tail _ (.tail _ (.tail _ (.head _))))))))
def t8M{A:Type}{x0 x1 x2 x3 x4 x5 x6 x7 x8:A}{l:List A}:x8∈x0::x1::x2::x3::x4::x5::x6::x7::x8::l:=(.tail _ (.tail _ (.tail _ (.tail _ (.tail _ (.tail _ (.tail _ (.tail _ (.head _)))))))))
def t9M{A:Type}{x0 x1 x2 x3 x4 x5 x6 x7 x8 x9:A}{l:List A}:x9∈x0::x1::x2::x3::x4::x5::x6::x7::x8::x9::l:=(.tail _ (.tail _ (.tail _ (.tail _ (.tail _ (.tail _ (.tail _ (.tail _ (.tail _ (.head _))))))))))
def t10M{A:Type}{x0 x1 x2 x3 x4 x5 x6 x7 x8 x9 x10:A}{l:List A}:x10∈x0::x1::x2::x3::x4::x5::x6::x7::x8::x9::x10::l:=(.tail _ (.tail _ (.tail _ (.tail _ (.tail _ (.tail _ (.tail _ (.tail _ (.tail _ (.tail _ (.head _)))))))))))
def t11M{A:Type}{x0 x1 x2 x3 x4 x5 x6 x7 x8 x9 x10 x11:A}{l:List A}:x11∈x0::x1::x2::x3::x4::x5::x6::x7::x8::x9::x10::x11::l:=(.tail _ (.tail _ (.tail _ (.tail _ (.tail _ (.tail _ (.tail _ (.tail _ (.tail _ (.tail _ (.tail _ (.head _))))))))))))
abbrev dF0:=@decide_eq_false
abbrev dT0:=@decide_eq_true
abbrev iP:=@if_pos
abbrev iN0:=@if_neg
abbrev mC:=@List.mem_cons
abbrev lC0:=@List.length_cons
abbrev mO:=@List.mem_cons_of_mem
abbrev lM0:=@List.length_map
abbrev nM:=@List.not_mem_nil
abbrev mS:=@List.mem_singleton
abbrev mF0:=@List.mem_cons_self
abbrev fT:=@Bool.false_eq_true
abbrev sA:=@List.size_toArray
abbrev lS:=@List.length_singleton
abbrev eL:=@Int.emod_lt_of_pos
abbrev eN0:=@Int.emod_nonneg
abbrev aE:=@Bool.and_eq_true
abbrev iF:=@if_false
abbrev aN:=@List.append_nil
abbrev lA:=@List.length_append
abbrev gS:=@List.getElem?_eq_some_iff
abbrev gE:=@List.getElem?_eq_getElem
abbrev wB:=@PySem.wpAny_bind
abbrev wP:=@PySem.wpAny_pure
abbrev hP0:=@PySem.Heap.get?_push_of_some
abbrev mM0:=@List.mem_map
abbrev lT:=@List.length_take
abbrev aA:=@List.append_assoc
abbrev VP:=PySem.Value->PySem.Shared->Prop
abbrev Zb:=PySem.W.Frag
abbrev Za:=List PySem.Expr
abbrev Yk:=Option Int
abbrev Yj:=List Bool
abbrev Yi:=List (PySem.Addr×PySem.Obj)
abbrev Yg:=PySem.Str->Option PySem.Value
abbrev Ye:=List PySem.Str
abbrev Yd:=List PySem.Addr
abbrev Yc:=Array PySem.Value
abbrev Yb:=List PySem.Value
abbrev Ya:=List Int
abbrev Tk:=List (Int×Int)
abbrev Db:=List Nat
abbrev Ch:=List (List Nat)
namespace L2
open PySem PySem.Spec PyProof.Rows
abbrev Key:=Sum Int Str
def IU:Key->Value->Bool
 |.inl k,v=>Value.isInt k v
 |.inr x,v=>Value.isStrOf x v
def keyH(w:World):Key->Int
 |.inl k=>hashInt k
 |.inr x=>hashStr w x
def xE: ∀{k:Key}{v:Value},IU k v=true->(∃i t,k=Sum.inl i/\v=Value.int i t)\/(∃x t,k=Sum.inr x/\v=Value.str x t)
 |.inl i,v,h=>by obtain⟨t,e⟩:=Value.isInt_shape (k:=i) (v:=v) h;exact .inl ⟨i,t,rfl,e⟩
 |.inr x,v,h=>by obtain⟨t,e⟩:=Value.isStrOf_shape (x:=x) (v:=v) h;exact .inr ⟨x,t,rfl,e⟩
def YQ(i:Int)(t:Tok):IU (.inl i) (.int i t)=true:=by simp[IU,Value.isInt]
def YR(x:Str)(t:Tok):IU (.inr x) (.str x t)=true:=by simp[IU,Value.isStrOf]
def Pa(a b:Int):decide ((Sum.inl a:Key)=Sum.inl b)=(a==b):=by
 by_cases e:a=b
 .subst e;simp
 .have h: ¬(Sum.inl a:Key)=Sum.inl b:=λq=>e (Sum.inl.inj q);rw[dF0 h];exact(beq_eq_false_iff_ne.mpr e).symm
def Pb(a b:Str):decide ((Sum.inr a:Key)=Sum.inr b)=decide (a=b):=by
 by_cases e:a=b
 .subst e;simp
 .have h: ¬(Sum.inr a:Key)=Sum.inr b:=λq=>e (Sum.inr.inj q);rw[dF0 h,dF0 e]
def Pc(a:Int)(b:Str):decide ((Sum.inl a:Key)=Sum.inr b)=false:=dF0 (λq=>nomatch q)
def Pd(a:Str)(b:Int):decide ((Sum.inr a:Key)=Sum.inl b)=false:=dF0 (λq=>nomatch q)
def yZ(prog:Program)(w:World):PySem.KeyKind prog w Key where
 is:=IU
 hash:=keyH w
 inj:=λv a b ha hb=>by
  rcases xE ha with⟨i,t,rfl,rfl⟩|⟨x,t,rfl,rfl⟩
  .rcases xE hb with⟨j,u,rfl,e⟩|⟨y,u,rfl,e⟩
   .injection e with e1 _;rw[e1]
   .exact nomatch e
  .rcases xE hb with⟨j,u,rfl,e⟩|⟨y,u,rfl,e⟩
   .exact nomatch e
   .injection e with e1 _;rw[e1]
 byValue:=λk v h=>by rcases xE h with⟨i,t,rfl,rfl⟩|⟨x,t,rfl,rfl⟩<;>rfl
 pyHash:=λhv h=>by
  rcases xE hv with⟨i,t,rfl,rfl⟩|⟨x,t,rfl,rfl⟩
  .exact wpAny_pyHash_int h
  .exact wpAny_pyHash_str h
 eqBool:=λhu hv h=>by
  rcases xE hu with⟨i,t,rfl,rfl⟩|⟨x,t,rfl,rfl⟩
  .rcases xE hv with⟨j,u,rfl,rfl⟩|⟨y,u,rfl,rfl⟩
   .rw[Pa]at h;exact wpAny_eqBool_int h
   .rw[Pc]at h;exact SeqAt.EqAt.int_str i t y u _ _ _ _ h
  .rcases xE hv with⟨j,u,rfl,rfl⟩|⟨y,u,rfl,rfl⟩
   .rw[Pd]at h;exact SeqAt.EqAt.str_int x t j u _ _ _ _ h
   .rw[Pb]at h;exact wpAny_eqBool_str h
 «strs»:=λk x t v h=>by
  rcases xE h with⟨i,u,rfl,e⟩|⟨y,u,rfl,e⟩
  .exact nomatch e
  .injection e with e1 _
   subst e1;cases v<;>rfl
def DC(prog:Program)(w:World)(i:Int)(t:Tok):(yZ prog w).is (.inl i) (.int i t)=true:=YQ i t
def sC(prog:Program)(w:World)(x:Str)(t:Tok):(yZ prog w).is (.inr x) (.str x t)=true:=YR x t
inductive V where
 |non|bl (b:Bool)|int (i:Int)|str (x:Str)|byt (b:Array UInt8)|flt (b:UInt64)|ref (a:Addr)|ty (n:String)
 deriving DecidableEq
def RelV:V->Value->Prop
 |.non,u=>u=Value.none
 |.bl b,u=>u=Value.bool b
 |.int i,u=> ∃t,u=Value.int i t
 |.str x,u=> ∃t,u=Value.str x t
 |.byt b,u=> ∃t,u=Value.bytes b t
 |.flt b,u=> ∃t,u=Value.float b t
 |.ref a,u=>u=Value.ref a
 |.ty n,u=>u=Value.type n
abbrev Vals:List V->List Value->Prop:=Paired RelV
def Vals.length{xs:List V}{us:Yb}(r:Vals xs us):xs.length=us.length:=Paired.length r
theorem Vals.get: ∀{xs:List V}{us:Yb}{i:Nat}{x:V},Vals xs us->xs[i]? =some x-> ∃u,us[i]? =some u/\RelV x u
 |_,_,_,_,.nil,e=>by simp at e
 |_,_,0,_,.cons r _,e=>by simp at e;subst e;exact⟨_,rfl,r⟩
 |_,_,i+1,x,.cons _ t,e=>by obtain⟨u,h1,h2⟩:=Vals.get (i:=i) (x:=x) t (by simpa using e);exact⟨u,by simpa using h1,h2⟩
theorem Vals.set{x:V}{u:Value}(r:RelV x u): ∀{xs:List V}{us:Yb}(i:Nat),Vals xs us->Vals (xs.set i x) (us.set i u)
 |_,_,_,.nil=>.nil
 |_,_,0,.cons _ t=>.cons r t
 |_,_,i+1,.cons q t=>.cons q (Vals.set r i t)
theorem Vals.append: ∀{xs ys:List V}{us ws:Yb},Vals xs us->Vals ys ws->Vals (xs++ys) (us++ws)
 |_,_,_,_,.nil,s=>s
 |_,_,_,_,.cons r t,s=>.cons r (Vals.append t s)
theorem Vals.take: ∀{xs:List V}{us:Yb}(n:Nat),Vals xs us->Vals (xs.take n) (us.take n)
 |_,_,0,_=>.nil
 |_,_,_+1,.nil=>.nil
 |_,_,n+1,.cons r t=>.cons r (Vals.take n t)
theorem Vals.drop: ∀{xs:List V}{us:Yb}(n:Nat),Vals xs us->Vals (xs.drop n) (us.drop n)
 |_,_,0,r=>r
 |_,_,_+1,.nil=>.nil
 |_,_,n+1,.cons _ t=>Vals.drop n t
def Vals.none_of: ∀{xs:List V}{us:Yb}{i:Nat},Vals xs us->xs[i]? =none->us[i]? =none:=λ{xs us i} r e=>by have h1:=r.length;have h2:xs.length<=i:=List.getElem?_eq_none_iff.mp e;exact List.getElem?_eq_none_iff.mpr (by omega)
def Uh:Option V->Option Value->Prop
 |some v,some u=>RelV v u
 |none,none=>True
 |_,_=>False
def KV{κ:Type}:List (κ×V)->List (κ×Value)->Prop:=Paired λ(p:κ×V) (q:κ×Value)=>p.1=q.1/\RelV p.2 q.2
def kV:Key->V
 |.inl i=>.int i
 |.inr x=>.str x
inductive HO where
 |lst (xs:List V)
 |tup (xs:List V)
 |dK (kvs:List (Key×V))|dT (kvs:List (List Key×V))
 |set (S:Int->Bool) (n:Nat)
 |ins (C dx:Addr) (fs:List (Str×V))
 |own (x:Addr)
 |xd (fs:List (Str×V))
 |met (f x:Addr)
 |rng (lo hi:Int)
 |frz (o:Obj) (u:HO)
 |tbl (ps:Yc)
 |ext (φ:Heap->Prop)
abbrev Hp:=Addr->Option HO
def xI(H:Hp)(a:Addr)(o:HO):Hp:=λb=>if b=a then some o else H b
def zR{H:Hp}{a:Addr}{o:HO}:xI H a o a=some o:=by unfold xI;rw[iP rfl]
def zO{H:Hp}{a b:Addr}{o:HO}(h:b≠a):xI H a o b=H b:=by unfold xI;rw[iN0 h]
def zV{H:Hp}{a b:Addr}{o:HO}(h:H a=some o)(h':H b=none):a≠b:=by intro e;subst e;rw[h]at h';cases h'
section
variable(P:Program)(w:World)
def ObjOk(H:Hp)(h:Heap)(a:Addr):HO->Prop
 |.lst xs=>xs.length<=sizeLine/\ ∃(its:Yb)(n:Nat),Vals xs its/\h.get? a=some {cls:=.type "list",data:=.seq its.toArray n}
 |.tup xs=>xs.length<=sizeLine/\ ∃its:List Value,Vals xs its/\IsTup h a its.toArray
 |.dK kvs=>kvs.length<=sizeLine/\(a==sysModules)=false/\ ∃vs,KV kvs vs/\h.DictOf (yZ P w) a vs
 |.dT kvs=>kvs.length<=sizeLine/\(a==sysModules)=false/\ ∃xs:List (List Key×Addr×Value),
   Paired (λ(p:List Key×V) (q:List Key×Addr×Value)=>p.1=q.1/\H q.2.1=some (.tup (p.1.map kV))/\RelV p.2 q.2.2) kvs xs/\
   ∃o es ep,h.get? a=some o/\o.ExactDict/\o.data=.dict es ep/\es.toList=xs.map (entryOfKey (tupleKind (yZ P w)))/\(xs.map (·.1)).Nodup
 |.set S n=>h.SetOf (intKind P w) a S n
 |.ins C dx fs=>H dx=some (.own a)/\fs.length<=1000/\dx≠a/\h.get? a=some (PySem.W.instObj C dx)/\
   ∃mA,h.Ns1 dx mA/\(∀f,Uh (fs.lookup f) (mA f))/\PySem.Within mA (fs.map (·.1))
 |.own _=> ∃o,h.get? a=some o
 |.xd fs=> ∃mA,h.Ns1 a mA/\ ∀f,Uh (fs.lookup f) (mA f)
 |.rng lo hi=> ∃t u v,h.get? a=some {cls:=.type "range",data:=.fields #[.int lo t,.int hi u,.int 1 v]}
 |.frz o u=>h.get? a=some o/\ObjOk H h a u
 |.tbl ps=>h.get? a=some {cls:=.none,data:=.fields ps}
 |.met f x=>h.get? a=some (PySem.W.methodObj (.ref f) (.ref x))
 |.ext φ=>φ h/\(∃o,h.get? a=some o)/\ ∀h1 h2:Heap,φ h1->(∀o,h1.get? a=some o->h2.get? a=some o)->φ h2
def HOk(H:Hp)(h:Heap):Prop:= ∀a o,H a=some o->ObjOk P w H h a o
end
section
variable{P:Program}{w:World}{H H':Hp}{h h':Heap}{a:Addr}{o:HO}
def ObjOk.lt(x:ObjOk P w H h a o):a<h.objs.size:=by
 cases o with
 |lst xs=>obtain⟨_,_,_,_,e⟩:=x;exact Heap.lt_size e
 |tup xs=>obtain⟨_,_,_,p⟩:=x;exact p.lt
 |dK kvs=>obtain⟨_,_,_,_,o,_,_,e,_⟩:=x;exact Heap.lt_size e
 |dT kvs=>obtain⟨_,_,_,_,o,_,_,e,_⟩:=x;exact Heap.lt_size e
 |set S n=>obtain⟨o,_,_,_,e,_⟩:=x;exact Heap.lt_size e
 |ins C dx fs=>obtain⟨_,_,_,e,_⟩:=x;exact Heap.lt_size e
 |own y=>obtain⟨_,e⟩:=x;exact Heap.lt_size e
 |xd fs=>obtain⟨_,⟨_,_,_,e,_⟩,_⟩:=x;exact Heap.lt_size e
 |rng lo hi=>obtain⟨_,_,_,e⟩:=x;exact Heap.lt_size e
 |frz ob u=>obtain⟨e,_⟩:=x;exact Heap.lt_size e
 |tbl ps=>exact Heap.lt_size (show h.get? a=some _ from x)
 |met f y=>exact Heap.lt_size (show h.get? a=some _ from x)
 |ext φ=>obtain⟨_,⟨_,e⟩,_⟩:=x;exact Heap.lt_size e
theorem Paired.mapP{α β:Type}{F G:α->β->Prop}: ∀{l₁:List α}{l₂:List β},Paired F l₁ l₂->(∀a b,F a b->G a b)->Paired G l₁ l₂
 |_,_,.nil,_=>.nil
 |_,_,.cons r t,f=>.cons (f _ _ r) (Paired.mapP t f)
def ObjOk.stay(x:ObjOk P w H h a o)(k: ∀b u,(b=a\/H b=some (.own a))->h.get? b=some u->h'.get? b=some u)
  (ho: ∀b,H b=some (.own a)->H' b=some (.own a)) (ht: ∀b xs,H b=some (.tup xs)->H' b=some (.tup xs)):ObjOk P w H' h' a o:=by
 induction o with
 |lst xs=>obtain⟨z,its,n,r,e⟩:=x;exact⟨z,its,n,r,k _ _ (.inl rfl) e⟩
 |tup xs=>obtain⟨z,its,r,ob,e,c⟩:=x;exact⟨z,its,r,ob,k _ _ (.inl rfl) e,c⟩
 |dK kvs=>obtain⟨z,y,vs,r,ob,es,ep,e,c⟩:=x;exact⟨z,y,vs,r,ob,es,ep,k _ _ (.inl rfl) e,c⟩
 |dT kvs=>
  obtain⟨z,y,xs,r,ob,es,ep,e,c⟩:=x;exact⟨z,y,xs,Paired.mapP r λp q z=>⟨z.1,ht _ _ z.2.1,z.2.2⟩,ob,es,ep,k _ _ (.inl rfl) e,c⟩
 |set S n=>obtain⟨ob,es,ep,t,e,c⟩:=x;exact⟨ob,es,ep,t,k _ _ (.inl rfl) e,c⟩
 |ins C dx fs=>
  obtain⟨d,z,ne,e,mA,⟨od,es,ep,e2,c⟩,r⟩:=x;exact⟨ho _ d,z,ne,k _ _ (.inl rfl) e,mA,⟨od,es,ep,k _ _ (.inr d) e2,c⟩,r⟩
 |own y=>obtain⟨ob,e⟩:=x;exact⟨ob,k _ _ (.inl rfl) e⟩
 |xd fs=>obtain⟨mA,⟨od,es,ep,e,c⟩,r⟩:=x;exact⟨mA,⟨od,es,ep,k _ _ (.inl rfl) e,c⟩,r⟩
 |rng lo hi=>obtain⟨t,u,v,e⟩:=x;exact⟨t,u,v,k _ _ (.inl rfl) e⟩
 |frz ob u ih=>obtain⟨e,q⟩:=x;exact⟨k _ _ (.inl rfl) e,ih q⟩
 |tbl ps=>
  have e:h.get? a=some {cls:=.none,data:=.fields ps}:=x;show h'.get? a=some {cls:=.none,data:=.fields ps};exact k a _ (.inl rfl) e
 |met f y=>
  have e:h.get? a=some (PySem.W.methodObj (.ref f) (.ref y)):=x;show h'.get? a=some (PySem.W.methodObj (.ref f) (.ref y));exact k a _ (.inl rfl) e
 |ext φ=>obtain⟨p,⟨o,e⟩,st⟩:=x;exact⟨st _ _ p λo q=>k _ _ (.inl rfl) q,⟨o,k _ _ (.inl rfl) e⟩,st⟩
def HOk.lt(x:HOk P w H h)(e:H a=some o):a<h.objs.size:=(x a o e).lt
def HOk.fresh(x:HOk P w H h)(e:h.objs.size<=a):H a=none:=by
 cases q:H a with
 |none=>rfl
 |some u=>exact absurd (lt_of_lt_of_le (x.lt q) e) (lt_irrefl _)
def HOk.kept(x:HOk P w H h)(k: ∀b u,h.get? b=some u->h'.get? b=some u):HOk P w H h':=λa o e=>
 (x a o e).stay (λb u _ q=>k b u q) (λ_ q=>q) λ_ _ q=>q
def HOk.laid(x:HOk P w H h)(k: ∀b u,h.get? b=some u->h'.get? b=some u)(hp:h.objs.size<=a)(new:ObjOk P w (xI H a o) h' a o):HOk P w (xI H a o) h':=λb u e=>by
 have hn:=x.fresh hp;by_cases hb:b=a
 .subst hb;rw[zR]at e;cases e;exact new
 .rw[zO hb]at e;exact(x b u e).stay (λc v _ q=>k c v q) (λc q=>by rw[zO (zV q hn)];exact q) λc xs q=>by rw[zO (zV q hn)];exact q
end
def Rd(H:Hp)(a:Addr)(u:HO):Prop:=H a=some u\/ ∃o,H a=some (.frz o u)
def Rd.ok{P:Program}{w:World}{H:Hp}{h:Heap}{a:Addr}{u:HO}(r:Rd H a u)(x:HOk P w H h):ObjOk P w H h a u:=by
 rcases r with r|⟨o,r⟩
 .exact x a u r
 .obtain⟨_,q⟩:=x a _ r;exact q
def Ub:Option HO->Prop
 |some (.lst _)=>True
 |some (.dK _)=>True
 |some (.dT _)=>True
 |some (.set _ _)=>True
 |some (.ins _ _ _)=>True
 |some (.ext _)=>True
 |_=>False
section
variable{P:Program}{w:World}{H:Hp}{h h':Heap}{x e:Addr}{o':HO}
theorem HOk.write(ok:HOk P w H h)(mu:Ub (H x))(he:e=x\/H e=some (.own x))(k: ∀b u,b≠e->h.get? b=some u->h'.get? b=some u)(heo: ∃u,h'.get? e=some u)
  (new:ObjOk P w (xI H x o') h' x o'):HOk P w (xI H x o') h':=λb u q=>by
 have nown: ∀c y,H c=some (.own y)->c≠x:=λc y r z=>by subst z;rw[r]at mu;exact mu
 have ntup: ∀c xs,H c=some (.tup xs)->c≠x:=λc xs r z=>by subst z;rw[r]at mu;exact mu
 by_cases hb:b=x
 .subst hb;rw[zR]at q;cases q;exact new
 .rw[zO hb]at q;by_cases hbe:b=e
  .have q':H b=some (.own x):=by
    rcases he with z|z
    .exact absurd (hbe.trans z) hb
    .rw[hbe];exact z
   rw[q]at q';cases q';obtain⟨v,hv⟩:=heo;exact⟨v,by rw[hbe];exact hv⟩
  .refine(ok b u q).stay (λc v hc r=>k c v ?_ r) (λc r=>by rw[zO (nown c b r)];exact r) λc xs r=>by rw[zO (ntup c xs r)];exact r
   rcases hc with rfl|hc
   .exact hbe
   .rintro rfl;rcases he with z|z
    .exact nown c b hc z
    .rw[hc]at z;cases z;exact hb rfl
end
structure Un(fs ex:Yd)(H H':Hp)(h h':Heap):Prop where
 keep: ∀b o,h.get? b=some o->H b=none->b∉fs->b∉ex->h'.get? b=some o
 slot: ∀b o,h.get? b=some o->H b=none->b∈fs->b∉ex-> ∃sl,h'.get? b=some {o with slots:=sl}
 free: ∀b o,h.get? b=some o->H b=none->b∉ex->H' b=none
 there: ∀b o,h.get? b=some o->b∉ex-> ∃o',h'.get? b=some o'
 tups: ∀b xs,H b=some (.tup xs)->H' b=some (.tup xs)
 frzs: ∀b o u,H b=some (.frz o u)->H' b=some (.frz o u)
 tbls: ∀b ps,H b=some (.tbl ps)-> ∃more,H' b=some (.tbl (ps++more))
section
variable{fs ex:Yd}{H H1:Hp}{h h1 h':Heap}{a x e:Addr}{o:HO}
def Un.any(u:Un fs ex H H1 h h1){b:Addr}{ob:Obj}(q:h.get? b=some ob)(n:H b=none)(hx:b∉ex): ∃sl,h1.get? b=some {ob with slots:=sl}:=by
 by_cases hb:b∈fs
 .exact u.slot b ob q n hb hx
 .exact⟨ob.slots,u.keep b ob q n hb hx⟩
def Un.kept(k: ∀b u,h.get? b=some u->h'.get? b=some u):Un fs ex H H h h':=
 ⟨λb ob q _ _ _=>k b ob q,λb ob q _ _ _=>⟨ob.slots,k b ob q⟩,λ_ _ _ n _=>n,λb ob q _=>⟨ob,k b ob q⟩,λ_ _ q=>q,λ_ _ _ q=>q,λ_ ps q=>⟨#[],by rw[q];simp⟩⟩
def Un.refl:Un fs ex H H h h:=Un.kept λ_ _ q=>q
def Un.laid(k: ∀b u,h.get? b=some u->h'.get? b=some u)(hp:h.objs.size<=a)(hn:H a=none):Un fs ex H (xI H a o) h h' where
 keep:=λb u q _ _ _=>k b u q
 slot:=λb u q _ _ _=>⟨u.slots,k b u q⟩
 free:=λb u q n _=>by rw[zO (ne_of_lt (lt_of_lt_of_le (Heap.lt_size q) hp))];exact n
 there:=λb u q _=>⟨u,k b u q⟩
 tups:=λb xs q=>by rw[zO (zV q hn)];exact q
 frzs:=λb u xs q=>by rw[zO (zV q hn)];exact q
 tbls:=λb ps q=>⟨#[],by rw[zO (zV q hn),q];simp⟩
def Un.write(mu:Ub (H x))(he:e=x\/H e=some (.own x))(k: ∀b u,b≠e->h.get? b=some u->h'.get? b=some u)(heo: ∃u,h'.get? e=some u):Un fs ex H (xI H x o) h h':=by
 have hx: ∀b,H b=none->b≠x:=λb n z=>by subst z;rw[n]at mu;exact mu
 have hb: ∀b,H b=none->b≠e:=λb n z=>by
  subst z;rcases he with r|r
  .exact hx b n r
  .rw[n]at r;cases r
 have hm: ∀b u,H b=some u-> ¬Ub (some u)->b≠x:=λb u q nm z=>by subst z;rw[q]at mu;exact nm mu
 refine⟨λb u q n _ _=>k b u (hb b n) q,λb u q n _ _=>⟨u.slots,k b u (hb b n) q⟩,λb u q n _=>by rw[zO (hx b n)];exact n,λb u q _=>?_,
  λb xs q=>by rw[zO (hm b _ q λz=>z)];exact q,λb u xs q=>by rw[zO (hm b _ q λz=>z)];exact q,λb ps q=>⟨#[],by rw[zO (hm b _ q λz=>z),q];simp⟩⟩
 by_cases hbe:b=e
 .subst hbe;exact heo
 .exact⟨u,k b u hbe q⟩
end
def Xn(h:Heap)(H:Hp):List Addr:=(List.range h.objs.size).filter λa=>(H a).isSome
def KY(h:Heap)(H:Hp):Heap:=PySem.W.hideAll h (Xn h H)
def YS(h:Heap)(H:Hp):(KY h H).objs.size=h.objs.size:=PySem.W.hideAll_size _ _
def Bg{h:Heap}{H:Hp}{b:Addr}{o:Obj}(e:h.get? b=some o)(n:H b=none):(KY h H).get? b=some o:=
 PySem.W.hideAll_get _ e λhm=>by have q:(H b).isSome=true:=(mem_filter.mp hm).2;rw[n]at q;simp at q
def Hx{h:Heap}{H:Hp}{b:Addr}{o:Obj}(e:(KY h H).get? b=some o):h.get? b=some o/\H b=none:=by
 have e':h.get? b=some o:=PySem.W.of_hideAll (Xn h H) e;refine⟨e',?_⟩
 cases q:H b with
 |none=>rfl
 |some x=>
  have hm:b∈Xn h H:=mem_filter.mpr ⟨mem_range.mpr (Heap.lt_size e'),by simp[q]⟩;have z:(KY h H).get? b=none:=PySem.W.hideAll_none (Xn h H) hm;rw[z]at e;cases e
def Hy(g h:Heap)(L:Addr):List (Addr×Obj):=(List.range h.objs.size).filterMap λa=>if a=L\/(g.get? a).isSome=true then none else(h.get? a).map λo=>(a,o)
def rest(g h:Heap)(L d:Addr):List (Addr×Obj):=(Hy g h L).filter λp=>decide (p.1≠d)
structure Mod(K:Zb)(mg:Yg)(base:Heap):Prop where
 kin:K.In base
 glob:base.Ns mainGlobals mg
 blt: ∃mb,base.Ns builtinsNs mb/\ ∀x:Str,x≠"__name__"->mb x=bootBuiltins x
 nolimit:base.NoLimit
structure Cx where
 prog:Program
 w:World
 K:PySem.W.Frag
 mg:Str->Option Value
 base:Heap
 A:Around
 N:List Str
 s₀:Shared
 H₀:Hp
 env:Env
 outer:List Env
 stack:List Env
 ex:List Addr
 fn:Str->Bool
 calm:Bool
 pn:List (Addr×Obj)
 xe:VP
def EI(l:List Env):List Addr:=l.filterMap (·.frame)
abbrev Cx.fs(X:Cx):List Addr:=EI X.outer
def Hz(sc:Scope)(x:Str):Prop:=sc.names.lookup x=some .local\/sc.names.lookup x=some .cell\/sc.names.lookup x=some .free
def Loc(sc:Scope)(x:Str):Prop:=sc.names.lookup x=some .local\/sc.names.lookup x=some .cell
def Look(env:Env)(h:Heap)(m:Yg)(x:Str)(u:Value):Prop:=
 (env.kindOf x=some .local/\m x=some u)\/((env.kindOf x=some .cell\/env.kindOf x=some .free)/\ ∃c,env.cells.lookup x=some c/\h.IsCell c (some u))
structure Cx.Ok(X:Cx):Prop where
 mod:Mod X.K X.mg X.base
 kind:X.env.scope.kind=.function
 glob:X.env.globals=mainGlobals
 blt:X.env.builtins=builtinsNs
 above:X.s₀.heap.objs.size<=X.env.locals
 inj: ∀x y c,X.env.cells.lookup x=some c->X.env.cells.lookup y=some c->x=y
 has: ∀x,(X.env.kindOf x=some .cell\/X.env.kindOf x=some .free)-> ∃c,X.env.cells.lookup x=some c
 cab: ∀x c,X.fn x=true->X.env.cells.lookup x=some c->X.s₀.heap.objs.size<=c
 hd:X.calm=true->X.A.handled=none
 frames:X.A.frames=some X.stack
 stk:X.stack=X.outer\/(X.stack=X.env::X.outer/\X.env.frame=some X.env.locals)
 exf: ∀b∈X.ex,b≠X.env.locals/\ ∀x c,X.env.cells.lookup x=some c->c≠b
 bs: ∀b o,X.base.get? b=some o->X.s₀.heap.get? b=some o/\X.H₀ b=none
 bsz:X.base.objs.size<=X.s₀.heap.objs.size
 noex: ∀b o,X.base.get? b=some o->b∉X.ex
 exfs: ∀b∈X.ex,b∉X.fs
 funs:X.s₀.heap.FunFrames X.base X.outer
 frf: ∀b∈X.fs,X.H₀ b=none
structure Inv(X:Cx)(pins:Yi)(σ:List (Option V))(H:Hp)(s:Shared):Prop where
 ok:X.Ok
 os:s.os=X.s₀.os
 bare:AllBare s.gens
 base:Un X.fs X.ex X.H₀ H X.s₀.heap s.heap
 loc: ∃m,s.heap.Ns X.env.locals m/\ ∀(i:Nat)(x:Str)(v:V),X.N[i]? =some x->σ[i]? =some (some v)->Hz X.env.scope x-> ∃u,RelV v u/\Look X.env s.heap m x u
 cell: ∀x c,X.env.cells.lookup x=some c-> ∃v,s.heap.IsCell c v
 free:H X.env.locals=none
 freeC: ∀x c,X.env.cells.lookup x=some c->H c=none
 pin: ∀p∈X.pn++pins,s.heap.get? p.1=some p.2/\H p.1=none/\p.1≠X.env.locals/\p.1∉X.fs/\ ∀v,p.2.data≠.cell v
 hok:HOk X.prog X.w H s.heap
 len:σ.length=X.N.length
section
variable{X:Cx}{pins:Yi}{σ:List (Option V)}{H H':Hp}{s:Shared}{h':Heap}
def Cx.Ok.nofr(ok:X.Ok){b:Addr}{o:Obj}(e:X.base.get? b=some o):b∉X.fs:=λhb=>by have:=(ok.funs.mem hb).1;rw[e]at this;cases this
def Inv.bs(I:Inv X pins σ H s): ∀b o,X.base.get? b=some o->s.heap.get? b=some o/\H b=none:=λb o e=>
 ⟨I.base.keep b o (I.ok.bs b o e).1 (I.ok.bs b o e).2 (I.ok.nofr e) (I.ok.noex b o e),I.base.free b o (I.ok.bs b o e).1 (I.ok.bs b o e).2 (I.ok.noex b o e)⟩
def Inv.bk(I:Inv X pins σ H s): ∀b o,X.base.get? b=some o->s.heap.get? b=some o:=λb o e=>(I.bs b o e).1
def Inv.mod(I:Inv X pins σ H s):Mod X.K X.mg X.base:=I.ok.mod
def Inv.kIn(I:Inv X pins σ H s):X.K.In s.heap:=I.ok.mod.kin.keeps I.bk
def Inv.lt(I:Inv X pins σ H s):X.env.locals<s.heap.objs.size:=let ⟨_,hn,_⟩:=I.loc;hn.lt
def Inv.sz(I:Inv X pins σ H s):X.s₀.heap.objs.size<=s.heap.objs.size:=le_trans I.ok.above (le_of_lt I.lt)
def Inv.nofs(I:Inv X pins σ H s){a:Addr}(h:s.heap.objs.size<=a):a∉X.fs:=λhb=>by obtain⟨_,o,ho,_⟩:=I.ok.funs.mem hb;exact absurd (lt_of_lt_of_le (Heap.lt_size ho) (le_trans I.sz h)) (lt_irrefl _)
def Inv.cne(I:Inv X pins σ H s): ∀x c,X.env.cells.lookup x=some c->c≠X.env.locals:=λx c e z=>by obtain⟨v,o,ho,hd⟩:=I.cell x c e;obtain⟨m,⟨o',es,ep,ho',hd',_⟩,_⟩:=I.loc;rw[z,ho']at ho;cases ho;rw[hd']at hd;cases hd
def Inv.funs(I:Inv X pins σ H s):s.heap.FunFrames X.base X.outer:=by
 have all: ∀(l:List Env),(∀b∈EI l,b∈X.fs)->X.s₀.heap.FunFrames X.base l->s.heap.FunFrames X.base l:=by
  intro l
  induction l with
  |nil=>intro _ _;trivial
  |cons env r ih=>
   intro hs hl;obtain⟨hk,⟨L,o,hf,hn,ho,hd⟩,hr⟩:=hl;have hL:L∈X.fs:=hs L (by unfold EI;rw[filterMap_cons,hf];exact mF0);obtain⟨sl,e⟩:=I.base.slot L o ho (I.ok.frf L hL) hL λz=>I.ok.exfs L z hL;exact⟨hk,⟨L,_,hf,hn,e,hd⟩,ih (λb hb=>hs b (by unfold EI;rw[filterMap_cons,hf];exact mO _ hb)) hr⟩
 exact all X.outer (λ_ hb=>hb) I.ok.funs
def Inv.stack(I:Inv X pins σ H s):s.heap.FunFrames X.base X.stack:=by
 rcases I.ok.stk with e|⟨e,hf⟩
 .rw[e];exact I.funs
 .rw[e];obtain⟨m,hn,_⟩:=I.loc;refine .cons (by rw[I.ok.kind];decide) hf hn ?_ I.funs;exact Heap.get?_none_of_le (le_trans I.ok.bsz I.ok.above)
def Inv.stkSub(I:Inv X pins σ H s): ∀b∈EI X.stack,b∈X.env.locals::X.fs:=λb hb=>by
 rcases I.ok.stk with e|⟨e,hf⟩
 .rw[e]at hb;exact mO _ hb
 .rw[e]at hb;unfold EI at hb;rw[filterMap_cons,hf]at hb;exact hb
def Inv.stkFree(I:Inv X pins σ H s): ∀b∈EI X.stack,H b=none:=λb hb=>by
 rcases mC.mp (I.stkSub b hb)with e|hb
 .rw[e];exact I.free
 .obtain⟨_,o,ho,_⟩:=I.ok.funs.mem hb;exact I.base.free b o ho (I.ok.frf b hb) λz=>I.ok.exfs b z hb
def Inv.step{g':Array GenState}{t':Nat}{d':Drawn}{ch:Yd}(I:Inv X pins σ H s)
  (hch: ∀b∈ch,(b∈X.ex\/X.s₀.heap.objs.size<=b)/\b≠X.env.locals/\(∀x c,X.env.cells.lookup x=some c->c≠b)/\ ∀p∈X.pn++pins,p.1≠b)
  (keep: ∀b o,b≠X.env.locals->b∉X.fs->b∉ch->s.heap.get? b=some o->H b=none->h'.get? b=some o)
  (slot: ∀b o,b≠X.env.locals->b∈X.fs->b∉ch->s.heap.get? b=some o->H b=none-> ∃sl,h'.get? b=some {o with slots:=sl}) (free: ∀b o,b∉ch->s.heap.get? b=some o->H b=none->H' b=none)
  (there: ∀b o,b∉ch->s.heap.get? b=some o-> ∃o',h'.get? b=some o')
  (tups: ∀b xs,H b=some (.tup xs)->H' b=some (.tup xs)) (frzs: ∀b o u,H b=some (.frz o u)->H' b=some (.frz o u)) (tbls: ∀b ps,H b=some (.tbl ps)-> ∃more,H' b=some (.tbl (ps++more)))
  (ns: ∀m,s.heap.Ns X.env.locals m->h'.Ns X.env.locals m) (hok:HOk X.prog X.w H' h') (hg:AllBare g'):
  Inv X pins σ H' {s with heap:=h',gens:=g',drawn:=d',toks:=t'}:=by
 have neL: ∀b o,X.s₀.heap.get? b=some o->b≠X.env.locals:=λb o e=>ne_of_lt (lt_of_lt_of_le (Heap.lt_size e) I.ok.above)
 have neC: ∀b o,X.s₀.heap.get? b=some o->b∉X.ex->b∉ch:=λb o e hx hb=>by
  rcases (hch b hb).1 with z|z
  .exact hx z
  .exact absurd (lt_of_lt_of_le (Heap.lt_size e) z) (lt_irrefl _)
 have cellK: ∀x c,X.env.cells.lookup x=some c-> ∀v,s.heap.IsCell c v->h'.IsCell c v:=λx c e v ⟨o,ho,hd⟩=>by
  have nch:c∉ch:=λz=>(hch c z).2.2.1 x c e rfl;by_cases hc:c∈X.fs
  .obtain⟨sl,q⟩:=slot c o (I.cne x c e) hc nch ho (I.freeC x c e);exact⟨_,q,hd⟩
  .exact⟨o,keep c o (I.cne x c e) hc nch ho (I.freeC x c e),hd⟩
 refine⟨I.ok,I.os,hg,⟨λb o e n hb hx=>?_,λb o e n hb hx=>?_,λb o e n hx=>?_,λb o e hx=>?_,λb xs e=>tups b xs (I.base.tups b xs e),λb o xs e=>frzs b o xs (I.base.frzs b o xs e),λb ps e=>?_⟩,?_,λx c e=>?_,?_,λx c e=>?_,λp hp=>?_,hok,I.len⟩
 .exact keep b o (neL b o e) hb (neC b o e hx) (I.base.keep b o e n hb hx) (I.base.free b o e n hx)
 .obtain⟨sl,e1⟩:=I.base.slot b o e n hb hx;obtain⟨sl',e2⟩:=slot b _ (neL b o e) hb (neC b o e hx) e1 (I.base.free b o e n hx);exact⟨sl',e2⟩
 .obtain⟨o',e1⟩:=I.base.there b o e hx;exact free b o' (neC b o e hx) e1 (I.base.free b o e n hx)
 .obtain⟨o',e1⟩:=I.base.there b o e hx;exact there b o' (neC b o e hx) e1
 .obtain⟨m1,e1⟩:=I.base.tbls b ps e;obtain⟨m2,e2⟩:=tbls b _ e1;exact⟨m1++m2,by rw[e2,Array.append_assoc]⟩
 .obtain⟨m,hn,hl⟩:=I.loc;refine⟨m,ns m hn,λi x v e1 e2 e3=>?_⟩;obtain⟨u,r,l⟩:=hl i x v e1 e2 e3;refine⟨u,r,?_⟩;rcases l with l|⟨k,c,e,z⟩
  .exact .inl l
  .exact .inr ⟨k,c,e,cellK x c e _ z⟩
 .obtain⟨v,z⟩:=I.cell x c e;exact⟨v,cellK x c e v z⟩
 .obtain⟨m,⟨o,_,_,ho,_⟩,_⟩:=I.loc;exact free _ o (λz=>(hch _ z).2.1 rfl) ho I.free
 .obtain⟨v,o,ho,hd⟩:=I.cell x c e;exact free c o (λz=>(hch c z).2.2.1 x c e rfl) ho (I.freeC x c e)
 .obtain⟨e,n,ne,nf,d⟩:=I.pin p hp;have nch:p.1∉ch:=λz=>(hch p.1 z).2.2.2 p hp rfl;exact⟨keep p.1 p.2 ne nf nch e n,free p.1 p.2 nch e n,ne,nf,d⟩
def Inv.un{t':Nat}(I:Inv X pins σ H s)(u:Un X.fs [] H H' s.heap h')(hok:HOk X.prog X.w H' h'):Inv X pins σ H' {s with heap:=h',toks:=t'}:=by obtain⟨m,⟨o,es,ep,ho,r⟩,_⟩:=id I.loc;obtain⟨sl,hL⟩:=u.any ho I.free (by simp);exact I.step (g':=s.gens) (d':=s.drawn) (ch:=[]) (λ_ z=>nomatch z) (λb o _ hb _ e n=>u.keep b o e n hb (by simp)) (λb o _ hb _ e n=>u.slot b o e n hb (by simp)) (λb o _ e n=>u.free b o e n (by simp)) (λb o _ e=>u.there b o e (by simp)) u.tups u.frzs u.tbls (λm' hm=>by obtain⟨o',es',ep',ho',r'⟩:=hm;rw[ho]at ho';cases ho';exact⟨_,es',ep',hL,r'⟩) hok I.bare
def Inv.call{g':Array GenState}{t':Nat}{d':Drawn}{ch:Yd}(I:Inv X pins σ H s)(u:Un (EI X.stack) ch H H' s.heap h')(hok:HOk X.prog X.w H' h')(hg:AllBare g')
  (hch: ∀b∈ch,(b∈X.ex\/X.s₀.heap.objs.size<=b)/\b≠X.env.locals/\(∀x c,X.env.cells.lookup x=some c->c≠b)/\ ∀p∈X.pn++pins,p.1≠b):
  Inv X pins σ H' {s with heap:=h',gens:=g',drawn:=d',toks:=t'}:=by
 obtain⟨m,⟨o,es,ep,ho,r⟩,_⟩:=id I.loc;obtain⟨sl,hL⟩:=u.any ho I.free λz=>(hch _ z).2.1 rfl;exact I.step (ch:=ch) hch (λb o hL hb hc e n=>u.keep b o e n (λz=>(mC.mp (I.stkSub b z)).elim hL hb) hc) (λb o _ _ hc e n=>u.any e n hc) (λb o hc e n=>u.free b o e n hc) (λb o hc e=>u.there b o e hc) u.tups u.frzs u.tbls (λm' hm=>by obtain⟨o',es',ep',ho',r'⟩:=hm;rw[ho]at ho';cases ho';exact⟨_,es',ep',hL,r'⟩) hok hg
def Inv.turned{t':Nat}{it:Addr}(I:Inv X pins σ H s)(k: ∀b o,b≠it->s.heap.get? b=some o->h'.get? b=some o)(hn:H it=none)(hL:it≠X.env.locals)
  (h1:it∈X.ex\/X.s₀.heap.objs.size<=it) (h2: ∀x c,X.env.cells.lookup x=some c->c≠it) (h3: ∀p∈X.pn++pins,p.1≠it):Inv X pins σ H {s with heap:=h',toks:=t'}:=by
 have nit: ∀b u,H b=some u->b≠it:=λb u e z=>by rw[z,hn]at e;cases e
 refine I.step (g':=s.gens) (d':=s.drawn) (ch:=[it]) (λb hb=>?_) (λb o _ _ hc e _=>k b o (λz=>hc (by simp[z])) e) (λb o _ _ hc e _=>⟨o.slots,k b o (λz=>hc (by simp[z])) e⟩) (λ_ _ _ _ n=>n)
  (λb o hc e=>⟨o,k b o (λz=>hc (by simp[z])) e⟩) (λ_ _ e=>e) (λ_ _ _ e=>e) (λb ps e=>⟨#[],by rw[e];simp⟩) (λm hm=>?_) (λb u e=>?_) I.bare
 .have e:b=it:=by simpa using hb
  subst e;exact⟨h1,hL,h2,h3⟩
 .obtain⟨o,es,ep,ho,r⟩:=hm;exact⟨o,es,ep,k _ o (Ne.symm hL) ho,r⟩
 .refine(I.hok b u e).stay (λc v hc q=>k c v ?_ q) (λ_ q=>q) λ_ _ q=>q;rcases hc with z|z
  .rw[z];exact nit b u e
  .exact nit c _ z
def Inv.tok(I:Inv X pins σ H s)(t:Nat):Inv X pins σ H {s with toks:=t}:=I.un (h':=s.heap) (t':=t) Un.refl I.hok
def Inv.kept{t':Nat}(I:Inv X pins σ H s)(k: ∀b u,s.heap.get? b=some u->h'.get? b=some u):Inv X pins σ H {s with heap:=h',toks:=t'}:=I.un (Un.kept k) (I.hok.kept k)
def Inv.laid{a:Addr}{o:HO}{t':Nat}(I:Inv X pins σ H s)(k: ∀b u,s.heap.get? b=some u->h'.get? b=some u)(hp:s.heap.objs.size<=a)(new:ObjOk X.prog X.w (xI H a o) h' a o):
  Inv X pins σ (xI H a o) {s with heap:=h',toks:=t'}:=I.un (Un.laid k hp (I.hok.fresh hp)) (I.hok.laid k hp new)
def Inv.write{x e:Addr}{o:HO}{t':Nat}(I:Inv X pins σ H s)(mu:Ub (H x))(he:e=x\/H e=some (.own x))(k: ∀b u,b≠e->s.heap.get? b=some u->h'.get? b=some u)(heo: ∃u,h'.get? e=some u)
  (new:ObjOk X.prog X.w (xI H x o) h' x o):Inv X pins σ (xI H x o) {s with heap:=h',toks:=t'}:=I.un (Un.write mu he k heo) (I.hok.write mu he k heo new)
def Inv.pins_of{pins':Yi}(I:Inv X pins σ H s)(h: ∀p∈pins',s.heap.get? p.1=some p.2/\H p.1=none/\p.1≠X.env.locals/\p.1∉X.fs/\ ∀v,p.2.data≠.cell v):Inv X pins' σ H s:=
 ⟨I.ok,I.os,I.bare,I.base,I.loc,I.cell,I.free,I.freeC,λp hp=>(mem_append.mp hp).elim (λz=>I.pin p (mem_append_left _ z)) (h p),I.hok,I.len⟩
def ET{N:Ye}(hN:N.Nodup){i j:Nat}{x:Str}(a:N[i]? =some x)(b:N[j]? =some x):i=j:=by obtain⟨h1,e1⟩:=gS.mp a;obtain⟨h2,e2⟩:=gS.mp b;exact(getElem_inj hN).mp (e1.trans e2.symm)
def IV{M:Model}{A:Around}{E:VP}{i:Nat}{x:Str}{v:V}{u:Value}{Q:Unit->Shared->Prop}(I:Inv X pins σ H s)(hN:X.N.Nodup)(hi:X.N[i]? =some x)(hx:Loc X.env.scope x)(r:RelV v u)
  (h: ∀s',Inv X pins (σ.set i (some v)) H s'->(∃a,Heap.SameBut a s.heap s'.heap/\(a=X.env.locals\/X.env.cells.lookup x=some a))->Q () s') (hf:X.fn x=true\/X.env.scope.names.lookup x=some .local:=by first |exact .inl rfl|exact .inr rfl|assumption):wpAny M A (storeName X.env x u) Q E s:=by
 obtain⟨m,hn,hl⟩:=id I.loc;have hcls:(X.env.scope.kind==.class || (X.env.scope.kind==.module&&X.env.locals !=X.env.globals))=false:=by rw[I.ok.kind];rfl
 have hiσ:i<σ.length:=by rw[I.len];exact(gS.mp hi).1
 have cne:=I.cne
 have tracked: ∀{a:Addr}{h':Heap},(∃o,s.heap.get? a=some o/\H a=none)->Heap.SameBut a s.heap h'->HOk X.prog X.w H h':=λ{a h'} ha hs b ob e=>by
  obtain⟨_,_,hfree⟩:=ha;refine(I.hok b ob e).stay (λc w' hc q=>(hs.2 c ?_).trans q) (λ_ q=>q) λ_ _ q=>q;rintro rfl;rcases hc with rfl|hc
  .rw[hfree]at e;cases e
  .rw[hfree]at hc;cases hc
 rcases hx with hk|hk
 .refine wpAny_storeName_local hk hn (λh' hn' hs=>?_) hcls;obtain⟨oL,_,_,hoL,_⟩:=id hn;refine h _ ⟨I.ok,I.os,I.bare,⟨λb o e n hb hx=>?_,λb o e n hb hx=>?_,I.base.free,λb o e hx=>?_,I.base.tups,I.base.frzs,I.base.tbls⟩,⟨_,hn',λj y v' e1 e2 e3=>?_⟩,λy c e=>?_,I.free,I.freeC,λp hp=>?_,tracked ⟨oL,hoL,I.free⟩ hs,by simpa using I.len⟩ ⟨_,hs,.inl rfl⟩
  .exact(hs.2 b (ne_of_lt (lt_of_lt_of_le (Heap.lt_size e) I.ok.above))).trans (I.base.keep b o e n hb hx)
  .obtain⟨sl,e1⟩:=I.base.slot b o e n hb hx;exact⟨sl,(hs.2 b (ne_of_lt (lt_of_lt_of_le (Heap.lt_size e) I.ok.above))).trans e1⟩
  .obtain⟨o',e1⟩:=I.base.there b o e hx;exact⟨o',(hs.2 b (ne_of_lt (lt_of_lt_of_le (Heap.lt_size e) I.ok.above))).trans e1⟩
  .by_cases hj:j=i
   .subst hj;rw[hi]at e1;cases e1;rw[getElem?_set_self hiσ]at e2;cases e2;exact⟨u,r,.inl ⟨hk,by simp⟩⟩
   .rw[getElem?_set_ne (Ne.symm hj)]at e2;obtain⟨u',r',q⟩:=hl j y v' e1 e2 e3;refine⟨u',r',?_⟩;rcases q with⟨k,e⟩|⟨k,c,e,z⟩
    .refine .inl ⟨k,?_⟩;have:y≠x:=λe=>hj (ET hN e1 (e▸hi));simp[this,e]
    .exact .inr ⟨k,c,e,z.sameBut hs (cne y c e)⟩
  .obtain⟨w',z⟩:=I.cell y c e;exact⟨w',z.sameBut hs (cne y c e)⟩
  .obtain⟨e,n,ne,nf,d⟩:=I.pin p hp;exact⟨(hs.2 p.1 ne).trans e,n,ne,nf,d⟩
 .have hfn:X.fn x=true:=by
   rcases hf with z|z
   .exact z
   .rw[z]at hk;cases hk
  obtain⟨c,hc⟩:=I.ok.has x (.inl hk);obtain⟨w',z⟩:=I.cell x c hc;refine wpAny_storeName_cell I.ok.kind hk hc z (λh' hc' hs=>?_);obtain⟨oc,hoc,hocd⟩:=id z;refine h {s with heap:=h'} ⟨I.ok,I.os,I.bare,⟨λb o e n hb hx=>?_,λb o e n hb hx=>?_,I.base.free,λb o e hx=>?_,I.base.tups,I.base.frzs,I.base.tbls⟩,⟨m,hn.sameBut hs (Ne.symm (cne x c hc)),λj y v' e1 e2 e3=>?_⟩,λy c' e=>?_,I.free,I.freeC,λp hp=>?_,tracked ⟨oc,hoc,I.freeC x c hc⟩ hs,by simpa using I.len⟩ ⟨c,hs,.inr hc⟩
  .exact(hs.2 b (ne_of_lt (lt_of_lt_of_le (Heap.lt_size e) (I.ok.cab x c hfn hc)))).trans (I.base.keep b o e n hb hx)
  .obtain⟨sl,e1⟩:=I.base.slot b o e n hb hx;exact⟨sl,(hs.2 b (ne_of_lt (lt_of_lt_of_le (Heap.lt_size e) (I.ok.cab x c hfn hc)))).trans e1⟩
  .obtain⟨o',e1⟩:=I.base.there b o e hx;exact⟨o',(hs.2 b (ne_of_lt (lt_of_lt_of_le (Heap.lt_size e) (I.ok.cab x c hfn hc)))).trans e1⟩
  .by_cases hj:j=i
   .subst hj;rw[hi]at e1;cases e1;rw[getElem?_set_self hiσ]at e2;cases e2;exact⟨u,r,.inr ⟨.inl hk,c,hc,hc'⟩⟩
   .rw[getElem?_set_ne (Ne.symm hj)]at e2;obtain⟨u',r',q⟩:=hl j y v' e1 e2 e3;refine⟨u',r',?_⟩;rcases q with q|⟨k,c',e,z'⟩
    .exact .inl q
    .refine .inr ⟨k,c',e,z'.sameBut hs ?_⟩;rintro rfl;exact hj (ET hN e1 (I.ok.inj _ _ _ e hc▸hi))
  .by_cases hcc:c'=c
   .subst hcc;exact⟨_,hc'⟩
   .obtain⟨w2,z2⟩:=I.cell y c' e;exact⟨w2,z2.sameBut hs hcc⟩
  .obtain⟨e,n,ne,nf,d⟩:=I.pin p hp;refine⟨(hs.2 p.1 ?_).trans e,n,ne,nf,d⟩;intro q;rw[q,hoc]at e;have q':oc=p.2:=Option.some.inj e;exact d w' (by rw[<-q'];exact hocd)
def EU{M:Model}{A:Around}{E:VP}{i:Nat}{x:Str}{v:V}{u:Value}{Q:Unit->Shared->Prop}(I:Inv X pins σ H s)(hN:X.N.Nodup)(hi:X.N[i]? =some x)(hx:Loc X.env.scope x)(r:RelV v u)
  (h: ∀s',Inv X pins (σ.set i (some v)) H s'->Q () s') (hf:X.fn x=true\/X.env.scope.names.lookup x=some .local:=by first |exact .inl rfl|exact .inr rfl|assumption):wpAny M A (storeName X.env x u) Q E s:=
 IV I hN hi hx r (λs' I' _=>h s' I') hf
def Inv.call'{s':Shared}{ch:Yd}(I:Inv X pins σ H s)(ho:s'.os=s.os)(u:Un (EI X.stack) ch H H' s.heap s'.heap)(hok:HOk X.prog X.w H' s'.heap)(hg:AllBare s'.gens)
  (hch: ∀b∈ch,(b∈X.ex\/X.s₀.heap.objs.size<=b)/\b≠X.env.locals/\(∀x c,X.env.cells.lookup x=some c->c≠b)/\ ∀p∈X.pn++pins,p.1≠b):Inv X pins σ H' s':=by
 obtain⟨h',g',d',t',o'⟩:=s';have e:o'=s.os:=ho;subst e;exact I.call (g':=g') (t':=t') (d':=d') u hok hg hch
end
abbrev XK:=Value->Option Addr->Hp->Prop
abbrev St:=List (Option V)
abbrev VK:=V->Hp->Prop
abbrev TE:=St->Hp->VK->Prop
abbrev TT:=St->Hp->(Bool->Hp->Prop)->Prop
abbrev TA:=St->Hp->(List V->Hp->Prop)->Prop
structure Ends where
 nx:St->Hp->Prop
 rt:VK
 bk:St->Hp->Prop:=λ_ _=>False
 ct:St->Hp->Prop:=λ_ _=>False
abbrev TS:=Ends->St->Hp->Prop
def EP(X:Cx)(pins:Yi)(σ:St)(Q:VK)(u:Value)(s':Shared):Prop:= ∃v H',Inv X pins σ H' s'/\RelV v u/\Q v H'
def TP(X:Cx)(pins:Yi)(σ:St)(Q:Bool->Hp->Prop)(b:Bool)(s':Shared):Prop:= ∃H',Inv X pins σ H' s'/\Q b H'
def AP(X:Cx)(pins:Yi)(σ:St)(Q:List V->Hp->Prop)(us:Yb)(s':Shared):Prop:= ∃vs H',Inv X pins σ H' s'/\Vals vs us/\Q vs H'
def SP(X:Cx)(pins:Yi)(D:Ends)(f:Flow)(s':Shared):Prop:=
 match f with
 |.next=> ∃σ' H',Inv X pins σ' H' s'/\D.nx σ' H'
 |.brk=> ∃σ' H',Inv X pins σ' H' s'/\D.bk σ' H'
 |.cont=> ∃σ' H',Inv X pins σ' H' s'/\D.ct σ' H'
 |.ret u=> ∃v σ' H',Inv X pins σ' H' s'/\RelV v u/\D.rt v H'
def PE(X:Cx)(e:Expr)(t:TE):Prop:=
 ∀(pins:Yi)(s:Shared)(σ:St)(H:Hp)(Q:VK),Inv X pins σ H s->t σ H Q->wpAny (model X.prog X.w) X.A (eval e X.env) (EP X pins σ Q) X.xe s
def PT(X:Cx)(e:Expr)(t:TT):Prop:=
 ∀(pins:Yi)(s:Shared)(σ:St)(H:Hp)(Q:Bool->Hp->Prop),Inv X pins σ H s->t σ H Q->wpAny (model X.prog X.w) X.A (isTrue e X.env (eval e X.env)) (TP X pins σ Q) X.xe s
def PW(X:Cx)(e:Expr)(t:TT):Prop:=
 ∀(whole:Sem Value)(pins:Yi)(s:Shared)(σ:St)(H:Hp)(Q:Bool->Hp->Prop),Inv X pins σ H s->t σ H Q->wpAny (model X.prog X.w) X.A (isTrue e X.env whole) (TP X pins σ Q) X.xe s
def PW.pt{X:Cx}{e:Expr}{t:TT}(h:PW X e t):PT X e t:=h _
def PA(X:Cx)(es:Za)(t:TA):Prop:=
 ∀(pos:Pos)(pins:Yi)(s:Shared)(σ:St)(H:Hp)(Q:List V->Hp->Prop),Inv X pins σ H s->t σ H Q->wpAny (model X.prog X.w) X.A (spliced (backTo pos (starEach es X.env))) (AP X pins σ Q) X.xe s
def PS(X:Cx)(st:Stmt)(t:TS):Prop:=
 ∀(pins:Yi)(s:Shared)(σ:St)(H:Hp)(D:Ends),Inv X pins σ H s->t D σ H->wpAny (model X.prog X.w) X.A (exec st X.env) (SP X pins D) X.xe s
def PSs(X:Cx)(st:List Stmt)(t:TS):Prop:=
 ∀(pins:Yi)(s:Shared)(σ:St)(H:Hp)(D:Ends),Inv X pins σ H s->t D σ H->wpAny (model X.prog X.w) X.A (execs st X.env) (SP X pins D) X.xe s
def jX{α:Type}{t:Sem α}{Q Q':α->Shared->Prop}{M:Model}{A:Around}{E:VP}{s:Shared}(h:wpAny M A t Q E s)(hQ: ∀a s,Q a s->Q' a s):wpAny M A t Q' E s:=wpAny_mono h hQ λ_ _ x=>x
section
variable{X:Cx}
def Ui(i:Nat):TE:=λσ H Q=> ∃v,σ[i]? =some (some v)/\Q v H
def tC(v:V):TE:=λ_ H Q=>Q v H
def EV{i:Nat}{x:Str}{pos:Pos}(hN:X.N[i]? =some x)(hv:Hz X.env.scope x)(hd:(x==("__debug__":Str))=false:=by decide)(hcd:(x==("__classdict__":Str))=false:=by decide):PE X (.Name x pos) (Ui i):=by
 intro pins s σ H Q I h;obtain⟨v,e,h⟩:=h;obtain⟨m,hn,hl⟩:=I.loc;obtain⟨u,r,l⟩:=hl i x v hN e hv;have fin:EP X pins σ Q u s:=⟨v,H,I,r,h⟩
 rcases l with⟨hk,hm⟩|⟨hk,c,hc,hcell⟩
 .exact wpAny_Name (wpAny_loadName_local I.ok.kind hk hn hm fin) hd
 .rcases hk with hk|hk
  .exact wpAny_Name (wpAny_loadName_cell I.ok.kind hk hc hcell fin) hd
  .exact wpAny_Name (wpAny_loadName_free I.ok.kind hk hc hcell fin hcd) hd
def Bh{i j pos}:PE X (.Constant (.int i) j pos) (tC (.int i)):=λ_ _ _ H _ I h=>wpAny_Constant_int ⟨.int i,H,I.tok _,⟨_,rfl⟩,h⟩
def Uj{b j pos}:PE X (.Constant (.bool b) j pos) (tC (.bl b)):=λ_ _ _ H _ I h=>Constant_bool ⟨.bl b,H,I,rfl,h⟩
def Pe{j pos}:PE X (.Constant .none j pos) (tC .non):=λ_ _ _ H _ I h=>Constant_none ⟨.non,H,I,rfl,h⟩
def Bi{x j pos}:PE X (.Constant (.str x) j pos) (tC (.str x)):=λ_ _ _ H _ I h=>Calls.Constant_str ⟨.str x,H,I.tok _,⟨_,rfl⟩,h⟩
def Gl(X:Cx)(x:Str):Prop:=X.env.kindOf x=some .globalImplicit
def qA{E:VP}{pins:Yi}{s:Shared}{σ:St}{H:Hp}{x:Str}{u:Value}{pos:Pos}{Q:VP}(I:Inv X pins σ H s)(hg:Gl X x)(hm:X.mg x=some u)(h:Q u s)
  (hd:(x==("__debug__":Str))=false:=by decide):wpAny (model X.prog X.w) X.A (eval (.Name x pos) X.env) Q E s:=
 Calls.Name_function_global I.ok.kind hg (Calls.loadGlobal_global (by rw[I.ok.glob];exact I.mod.glob.keeps I.bk) hm h) hd
def EW{E:VP}{pins:Yi}{s:Shared}{σ:St}{H:Hp}{x:Str}{u:Value}{pos:Pos}{Q:VP}(I:Inv X pins σ H s)(hg:Gl X x)(hm:X.mg x=none)(hv:bootBuiltins x=some u)(h:Q u s)
  (hn:x≠"__name__":=by decide) (hd:(x==("__debug__":Str))=false:=by decide):wpAny (model X.prog X.w) X.A (eval (.Name x pos) X.env) Q E s:=by
 obtain⟨mb,h1,h2⟩:=I.mod.blt;exact Calls.Name_function_global I.ok.kind hg (Calls.loadGlobal_builtin (by rw[I.ok.glob];exact I.mod.glob.keeps I.bk) hm (by rw[I.ok.blt];exact h1.keeps I.bk) ((h2 x hn).trans hv) h) hd
def Ia{x:Str}{v:V}{u:Value}{pos:Pos}(hg:Gl X x)(hm:X.mg x=some u)(r:RelV v u)(hd:(x==("__debug__":Str))=false:=by decide):PE X (.Name x pos) (tC v):=
 λ_ _ _ H _ I h=>qA I hg hm ⟨v,H,I,r,h⟩ hd
def UZ{x:Str}{v:V}{u:Value}{pos:Pos}(hg:Gl X x)(hm:X.mg x=none)(hv:bootBuiltins x=some u)(r:RelV v u)(hn:x≠"__name__":=by decide)(hd:(x==("__debug__":Str))=false:=by decide):PE X (.Name x pos) (tC v):=
 λ_ _ _ H _ I h=>EW I hg hm hv ⟨v,H,I,r,h⟩ hn hd
variable{a b:Expr}{pos:Pos}
variable{tA tB':TT}{rest:Za}
def tAnd(t u:TT):TT:=λσ H Q=>t σ H λc H1=>if c=true then u σ H1 Q else Q false H1
def Ib(ha:PT X a tA):PW X (.BoolOp .And [a] pos) tA:=by
 intro wh pins s σ H Q I h;refine isTrue_and (jX (ha pins s σ H Q I h) λc s1 e=>?_)
 cases c with
 |true=>exact isTrue_and_nil e
 |false=>exact e
def Pf(ha:PT X a tA)(hb:PW X (.BoolOp .And (b::rest) pos) tB'):PW X (.BoolOp .And (a::b::rest) pos) (tAnd tA tB'):=by
 intro wh pins s σ H Q I h;refine isTrue_and (jX (ha pins s σ H _ I h) λc s1 ⟨H1,I1,q1⟩=>?_)
 cases c with
 |true=>exact hb wh pins s1 σ H1 Q I1 q1
 |false=>exact⟨H1,I1,q1⟩
end
def SqL(K:Zb)(H:Hp)(a:Addr)(xs:List V):Prop:=
 Rd H a (.lst xs)\/
  ∃(o:Obj)(its:Yc)(n:Nat),K.lookup a=some o/\o.cls=.type "list"/\o.dict=none/\o.data=.seq its n/\its.size<=sizeLine/\Vals xs its.toList
def SqT(K:Zb)(H:Hp)(a:Addr)(xs:List V):Prop:=
 Rd H a (.tup xs)\/
  ∃(o:Obj)(its:Yc)(n:Nat),K.lookup a=some o/\o.cls=.type "tuple"/\o.data=.seq its n/\its.size<=sizeLine/\Vals xs its.toList
def absV:Value->Option V
 |.none=>some .non
 |.bool b=>some (.bl b)
 |.int i _=>some (.int i)
 |.str x _=>some (.str x)
 |.bytes b _=>some (.byt b)
 |.float b _=>some (.flt b)
 |.ref a=>some (.ref a)
 |.type n=>some (.ty n)
 |_=>none
theorem RelV.abs{x:V}{u:Value}(r:RelV x u):absV u=some x:=by
 cases x with
 |non=>cases r;rfl
 |bl _=>cases r;rfl
 |int _=>obtain⟨t,rfl⟩:=r;rfl
 |str _=>obtain⟨t,rfl⟩:=r;rfl
 |byt _=>obtain⟨t,rfl⟩:=r;rfl
 |flt _=>obtain⟨t,rfl⟩:=r;rfl
 |ref _=>cases r;rfl
 |ty _=>cases r;rfl
def RelV.inj{x y:V}{u:Value}(r:RelV x u)(q:RelV y u):x=y:=Option.some.inj (r.abs.symm.trans q.abs)
theorem Vals.inj: ∀{xs ys:List V}{us:Yb},Vals xs us->Vals ys us->xs=ys
 |_,_,_,.nil,.nil=>rfl
 |_,_,_,.cons r t,.cons r' t'=>by rw[r.inj r',Vals.inj t t']
section
variable{X:Cx}{pins:Yi}{σ:St}{H:Hp}{s:Shared}{a:Addr}{xs ys:List V}
def SqL.of{K:Zb}(h:H a=some (.lst xs)):SqL K H a xs:=.inl (.inl h)
def SqT.of{K:Zb}(h:H a=some (.tup xs)):SqT K H a xs:=.inl (.inl h)
def Inv.list(I:Inv X pins σ H s)(h:SqL X.K H a xs): ∃its:List Value,Vals xs its/\PlainL s.heap a its.toArray/\xs.length<=sizeLine:=by
 rcases h with h|⟨o,its,n,hk,hc,hd,hs,hz,r⟩
 .obtain⟨z,its,n,r,e⟩:=h.ok I.hok;exact⟨its,r,⟨_,n,e,rfl,rfl,rfl⟩,z⟩
 .refine⟨its.toList,r,⟨o,n,I.kIn a o hk,hc,hd,by simpa using hs⟩,?_⟩;have e:=r.length;simp only[Array.length_toList]at e;omega
def Inv.tuple(I:Inv X pins σ H s)(h:SqT X.K H a xs): ∃its:List Value,Vals xs its/\IsTup s.heap a its.toArray/\xs.length<=sizeLine:=by
 rcases h with h|⟨o,its,n,hk,hc,hs,hz,r⟩
 .obtain⟨z,its,r,p⟩:=h.ok I.hok;exact⟨its,r,p,z⟩
 .refine⟨its.toList,r,⟨o,I.kIn a o hk,hc,n,by simpa using hs⟩,?_⟩;have e:=r.length;simp only[Array.length_toList]at e;omega
def Inv.list_inj(I:Inv X pins σ H s)(h:SqL X.K H a xs)(h':SqL X.K H a ys):xs=ys:=by
 obtain⟨its,r,⟨o,n,e,_,_,d⟩,_⟩:=I.list h;obtain⟨its',r',⟨o',n',e',_,_,d'⟩,_⟩:=I.list h';rw[e]at e';cases e';rw[d]at d';injection d' with d1 _
 have:its=its':=by simpa using congrArg Array.toList d1
 subst this;exact r.inj r'
def Inv.tuple_inj(I:Inv X pins σ H s)(h:SqT X.K H a xs)(h':SqT X.K H a ys):xs=ys:=by
 obtain⟨its,r,⟨o,e,_,n,d⟩,_⟩:=I.tuple h;obtain⟨its',r',⟨o',e',_,n',d'⟩,_⟩:=I.tuple h';rw[e]at e';cases e';rw[d]at d';injection d' with d1 _
 have:its=its':=by simpa using congrArg Array.toList d1
 subst this;exact r.inj r'
end
abbrev Cx.wish(X:Cx)(E:VP):Cx:={X with xe:=E}
abbrev Cx.nox(X:Cx):Cx:=X.wish λ_ _=>False
def Cx.Ok.wish{X:Cx}(ok:X.Ok)(E:VP):(X.wish E).Ok:=
 ⟨ok.mod,ok.kind,ok.glob,ok.blt,ok.above,ok.inj,ok.has,ok.cab,ok.hd,ok.frames,ok.stk,ok.exf,ok.bs,ok.bsz,ok.noex,ok.exfs,ok.funs,ok.frf⟩
def Cx.Ok.unwish{X:Cx}{E:VP}(ok:(X.wish E).Ok):X.Ok:=
 ⟨ok.mod,ok.kind,ok.glob,ok.blt,ok.above,ok.inj,ok.has,ok.cab,ok.hd,ok.frames,ok.stk,ok.exf,ok.bs,ok.bsz,ok.noex,ok.exfs,ok.funs,ok.frf⟩
section
variable{X:Cx}{pins:Yi}{σ:St}{H:Hp}{s:Shared}{E:VP}
def Inv.wish(I:Inv X pins σ H s)(E:VP):Inv (X.wish E) pins σ H s:=⟨I.ok.wish E,I.os,I.bare,I.base,I.loc,I.cell,I.free,I.freeC,I.pin,I.hok,I.len⟩
def Inv.unwish(I:Inv (X.wish E) pins σ H s):Inv X pins σ H s:=⟨I.ok.unwish,I.os,I.bare,I.base,I.loc,I.cell,I.free,I.freeC,I.pin,I.hok,I.len⟩
def SP.unwish{D:Ends}{f:Flow}{s':Shared}(h:SP (X.wish E) pins D f s'):SP X pins D f s':=by
 cases f with
 |next=>obtain⟨σ',H',I,q⟩:=h;exact⟨σ',H',I.unwish,q⟩
 |brk=>obtain⟨σ',H',I,q⟩:=h;exact⟨σ',H',I.unwish,q⟩
 |cont=>obtain⟨σ',H',I,q⟩:=h;exact⟨σ',H',I.unwish,q⟩
 |ret u=>obtain⟨v,σ',H',I,r,q⟩:=h;exact⟨v,σ',H',I.unwish,r,q⟩
def PSs.nox{st:List Stmt}{t:TS}(h:PSs X.nox st t):PSs X st t:=λpins s σ H D I hw=>
 wpAny_mono (h pins s σ H D (I.wish _) hw) (λ_ _ q=>q.unwish) λ_ _ z=>False.elim z
end
section
variable{X:Cx}{st:Stmt}{rest:List Stmt}{t u:TS}{e:Expr}{te:TE}{pos:Pos}
def Uk:TS:=λD σ H=>D.nx σ H
def tSeq(t u:TS):TS:=λD σ H=>t {D with nx:=u D} σ H
def Ic:PSs X [] Uk:=λ_ _ σ H _ I h=>wpAny_execs_nil ⟨σ,H,I,h⟩
def Bj(h1:PS X st t)(h2:PSs X rest u):PSs X (st::rest) (tSeq t u):=by
 intro pins s σ H D I h;refine wpAny_execs_cons (jX (h1 pins s σ H {D with nx:=u D} I h) λf s1 q=>?_)
 cases f with
 |next=>
  obtain⟨σ',H',I',q⟩:=q;exact h2 pins s1 σ' H' D I' q
 |ret v=>exact q
 |brk=>exact q
 |cont=>exact q
def Id(h1:PS X st t):PSs X [st] t:=by
 intro pins s σ H D I h;refine wpAny_execs_cons (jX (h1 pins s σ H D I h) λf s1 q=>?_)
 cases f with
 |next=>exact wpAny_execs_nil q
 |ret v=>exact q
 |brk=>exact q
 |cont=>exact q
def Inv.quiet{pins:Yi}{σ:St}{H:Hp}{s:Shared}(I:Inv X pins σ H s):interactive X.env=false:=by simp[interactive,I.ok.kind]
def Ul(te:TE):TS:=λD σ H=>te σ H λ_ H1=>D.nx σ H1
def Ie(he:PE X e te)(hs:swapsWith e none pos.line X.env=pure false:=by rfl):PS X (.Expr e pos) (Ul te):=by intro pins s σ H D I h;exact wpAny_Expr_any (jX (he pins s σ H _ I h) λv s1 ⟨x,H1,I1,r1,q1⟩=>⟨σ,H1,I1,q1⟩) I.quiet hs
def tRet(te:TE):TS:=λD σ H=>te σ H D.rt
def Pg(he:PE X e te):PS X (.Return (some e) pos) (tRet te):=by intro pins s σ H D I h;exact wpAny_Return_some (jX (he pins s σ H _ I h) λv s1 ⟨x,H1,I1,r1,q1⟩=>⟨x,σ,H1,I1,r1,q1⟩)
def tIfS(c:TT)(t u:TS):TS:=λD σ H=>c σ H λb H1=>if b=true then t D σ H1 else u D σ H1
def Um{c:Expr}{a b:List Stmt}{tc:TT}(hc:PT X c tc)(ha:PSs X a t)(hb:PSs X b u):PS X (.If c a b pos) (tIfS tc t u):=by
 intro pins s σ H D I h;refine wpAny_If (jX (hc pins s σ H _ I h) λd s1 ⟨H1,I1,q1⟩=>?_)
 cases d with
 |true=>exact ha pins s1 σ H1 D I1 q1
 |false=>exact hb pins s1 σ H1 D I1 q1
end
abbrev TG:=V->St->Hp->(St->Hp->Prop)->Prop
abbrev Ph:=List V->St->Hp->(St->Hp->Prop)->Prop
def PG(X:Cx)(target:Expr)(t:TG):Prop:=
 ∀(pins:Yi)(s:Shared)(σ:St)(H:Hp)(v:V)(u:Value)(Q:St->Hp->Prop),Inv X pins σ H s->RelV v u->t v σ H Q->
  wpAny (model X.prog X.w) X.A (assign target X.env u) (λ_ s'=> ∃σ' H',Inv X pins σ' H' s'/\Q σ' H') X.xe s
def Uo(X:Cx)(ts:Za)(t:Ph):Prop:=
 ∀(pins:Yi)(s:Shared)(σ:St)(H:Hp)(vs:List V)(us:Yb)(Q:St->Hp->Prop),Inv X pins σ H s->Vals vs us->t vs σ H Q->
  wpAny (model X.prog X.w) X.A (assignInOrder ((assignEach ts X.env).map (·.2)) us) (λ_ s'=> ∃σ' H',Inv X pins σ' H' s'/\Q σ' H') X.xe s
abbrev TSet:=V->V->V->Hp->(Hp->Prop)->Prop
def Pi(X:Cx)(t:TSet):Prop:=
 ∀(pins:Yi)(s:Shared)(σ:St)(H:Hp)(o i v:V)(ov iv u:Value)(Q:Hp->Prop),Inv X pins σ H s->RelV o ov->RelV i iv->RelV v u->t o i v H Q->
  wpAny (model X.prog X.w) X.A (setItem ov iv u) (λ_ s'=> ∃H',Inv X pins σ H' s'/\Q H') X.xe s
section
variable{X:Cx}{pos:Pos}
def Bk(i:Nat):TG:=λv σ H Q=>Q (σ.set i (some v)) H
def VA{i:Nat}{x:Str}(hN:X.N.Nodup)(hi:X.N[i]? =some x)(hx:Loc X.env.scope x)(hf:X.fn x=true\/X.env.scope.names.lookup x=some .local:=by first |exact .inl rfl|exact .inr rfl|assumption):PG X (.Name x pos) (Bk i):=by intro pins s σ H v u Q I r h;exact wpAny_assign_Name (EU I hN hi hx r (λs' I'=>⟨_,H,I',h⟩) hf)
def gNil:Ph:=λvs σ H Q=>vs=[]/\Q σ H
def Uq(t:TG)(u:Ph):Ph:=λvs σ H Q=> ∃v r,vs=v::r/\t v σ H λσ' H'=>u r σ' H' Q
def Ig:Uo X [] gNil:=by intro pins s σ H vs us Q I r h;obtain⟨e,h⟩:=h;subst e;cases r;exact assignInOrder_nil ⟨σ,H,I,h⟩
def Bl{e:Expr}{es:Za}{t:TG}{u:Ph}(h1:PG X e t)(h2:Uo X es u)
  (hs:(assignEach (e::es) X.env).map (·.2)=assign e X.env::(assignEach es X.env).map (·.2):=by rfl):Uo X (e::es) (Uq t u):=by
 intro pins s σ H vs us Q I r h;obtain⟨v,vr,e1,h⟩:=h;subst e1
 cases r with
 |cons r rr=>
  rw[hs];refine assignInOrder_cons (jX (h1 pins s σ H _ _ _ I r h) λ_ s1 ⟨σ1,H1,I1,q1⟩=>?_);exact h2 pins s1 σ1 H1 _ _ Q I1 rr q1
def gTup(K:Zb)(n:Nat)(t:Ph):TG:=λv σ H Q=> ∃a xs,v=.ref a/\SqT K H a xs/\xs.length=n/\t xs σ H Q
def Pj{es:Za}{k:Nat}{t:Ph}{n:Nat}(hc:X.calm=true)(h:Uo X es t)
  (hn:(assignEach es X.env).length=n:=by rfl) (hst:(assignEach es X.env).findIdx? (·.1)=none:=by rfl):PG X (.Tuple es k pos) (gTup X.K n t):=by
 intro pins s σ H v u Q I r hw;obtain⟨a,xs,e1,hq,hl,hw⟩:=hw;subst e1;cases r;obtain⟨its,rv,ht,hz⟩:=I.tuple hq;refine assign_Tuple_tuple (I.ok.hd hc) ht (by simp[hn, <-hl,rv.length]) hst λh' hx=>?_;have I1:Inv X pins σ H {s with heap:=h'}:=I.kept (t':=s.toks) λb o e=>hx b o (ne_of_lt (Heap.lt_size e)) e;exact h pins _ σ H xs _ Q I1 (by simpa using rv) hw
def gSub(to ti:TE)(t:TSet):TG:=λv σ H Q=>to σ H λo H1=>ti σ H1 λi H2=>t o i v H2 λH3=>Q σ H3
def Bm{o i:Expr}{to ti:TE}{t:TSet}(ho:PE X o to)(hi:PE X i ti)(hs:Pi X t)
  (ha: ∀v,assign (.Subscript o i pos) X.env v=(do
   let ov <-holding [v] (eval o X.env);let iv <-holding [v,ov] (eval i X.env)
   standAt pos
   holding [v,ov,iv] (setItem ov iv v)
   release [v,ov,iv] []):=by intro _;rfl):PG X (.Subscript o i pos) (gSub to ti t):=by
 intro pins s σ H v u Q I r h;rw[ha];refine wB (wpAny_holding (jX (ho pins s σ H _ I h) λov s1 ⟨x,H1,I1,r1,q1⟩=>?_));refine wB (wpAny_holding (jX (hi pins s1 σ H1 _ I1 q1) λiv s2 ⟨y,H2,I2,r2,q2⟩=>?_));refine wB (wpAny_standAt (wB (wpAny_holding (jX (hs pins s2 σ H2 x y v ov iv u _ I2 r1 r2 r q2) λ_ s3 ⟨H3,I3,q3⟩=>?_))));exact wpAny_release ⟨σ,H3,I3,q3⟩
def Pk(te:TE)(g:TG):TS:=λD σ H=>te σ H λx H1=>g x σ H1 D.nx
def Pl{tg e:Expr}{te:TE}{g:TG}(he:PE X e te)(hg:PG X tg g)(hs:swapsWithSole [tg] e pos.line X.env=pure false:=by rfl)(hw:swappedStores [tg] e X.env=pure none:=by rfl)
  (h1:(assignEach [tg] X.env).map (·.2)=[assign tg X.env]:=by rfl):PS X (.Assign [tg] e pos) (Pk te g):=by
 intro pins s σ H D I h;refine wpAny_Assign_stores (jX (he pins s σ H _ I h) λv s1 ⟨x,H1,I1,r1,q1⟩=>?_) hs hw;rw[h1];exact jX (hg pins s1 σ H1 x v _ I1 r1 q1) λ_ s2 q=>q
def Pm{i:Nat}{x:Str}{e:Expr}{te:TE}{pos':Pos}(hN:X.N.Nodup)(hi:X.N[i]? =some x)(hx:Loc X.env.scope x)(he:PE X e te)(hs:swapsWith e (some (.Name x pos')) pos.line X.env=pure false:=by rfl)(hf:X.fn x=true\/X.env.scope.names.lookup x=some .local:=by first |exact .inl rfl|exact .inr rfl|assumption):
  PS X (.Assign [.Name x pos'] e pos) (Pk te (Bk i)):=by
 intro pins s σ H D I h;refine wpAny_Assign_Name (jX (he pins s σ H _ I h) λv s1 ⟨y,H1,I1,r1,q1⟩=>?_) hs;exact EU I1 hN hi hx r1 (λs2 I2=>⟨_,H1,I2,q1⟩) hf
end
section
variable{X:Cx}{pos:Pos}
def Pn(c:TT)(tb:TS):TS:=λD σ H=> ∃W:Nat->St->Hp->Prop,(∃m,W m σ H)/\ ∀m σ H,W m σ H->
 c σ H λb H1=>if b=true then∃N:St->Hp->Prop,(∀σ' H',N σ' H'-> ∃m',m'<m/\W m' σ' H')/\tb {D with nx:=N,ct:=N,bk:=D.nx} σ H1 else D.nx σ H1
def Bn{c:Expr}{body:List Stmt}{tc:TT}{tb:TS}(hp:PassesOwn (model X.prog X.w) X.A X.env X.xe)(hc:PT X c tc)(hb:PSs X body tb):PS X (.While c body [] pos) (Pn tc tb):=by
 intro pins s σ H D I h;obtain⟨W,⟨m0,w0⟩,turn⟩:=h;refine wpAny_While (codeAny_whileLoop (λn s'=> ∃σ' H',Inv X pins σ' H' s'/\W n σ' H') ?_ m0 ⟨σ,H,I,w0⟩);rintro n s1 ⟨σ1,H1,I1,w1⟩;refine wpAny_passesOwn hp (jX (hc pins s1 σ1 H1 _ I1 (turn n σ1 H1 w1)) λb s2 ⟨H2,I2,q2⟩=>?_)
 cases b with
 |true=>
  obtain⟨N,hN,q2⟩:=q2;rw[iP rfl];refine wpAny_passesOwn hp (jX (hb pins s2 σ1 H2 _ I2 q2) λf s3 q3=>?_)
  cases f with
  |next=>
   obtain⟨σ3,H3,I3,n3⟩:=q3;obtain⟨m',hm,w3⟩:=hN σ3 H3 n3;exact⟨m',hm,σ3,H3,I3,w3⟩
  |cont=>
   obtain⟨σ3,H3,I3,n3⟩:=q3;obtain⟨m',hm,w3⟩:=hN σ3 H3 n3;exact⟨m',hm,σ3,H3,I3,w3⟩
  |brk=>exact q3
  |ret v=>exact q3
 |false=>
  rw[iN0 xF0];exact wpAny_execs_nil ⟨σ1,H2,I2,q2⟩
end
structure It where
 go:Nat->Hp->Prop
 yld:Nat->Hp->V->Hp->Prop
 stop:Nat->Hp->Prop
def uQ(X:Cx)(pins:Yi)(H:Hp)(b:Addr):Prop:=
 H b=none/\b≠X.env.locals/\b∉X.fs/\(b∈X.ex\/X.s₀.heap.objs.size<=b)/\(∀x c,X.env.cells.lookup x=some c->c≠b)/\ ∀p∈X.pn++pins,p.1≠b
def Inv.fpOk{X:Cx}{pins:Yi}{σ:St}{H H':Hp}{s:Shared}{b:Addr}(I:Inv X pins σ H s)(hb:s.heap.objs.size<=b)(hn:H' b=none):uQ X pins H' b:=by
 refine⟨hn,ne_of_gt (lt_of_lt_of_le I.lt hb),I.nofs hb,.inr (le_trans I.sz hb),λx c e z=>?_,λp hp z=>?_⟩
 .obtain⟨v,q⟩:=I.cell x c e;exact absurd (lt_of_lt_of_le q.lt (by rw[z];exact hb)) (lt_irrefl _)
 .exact absurd (lt_of_lt_of_le (Heap.lt_size (I.pin p hp).1) (by rw[z];exact hb)) (lt_irrefl _)
abbrev Po(X:Cx):Prop:=X.calm=true
structure TurnC(C:Cx->Prop)(P:Program)(w:World)(K:Zb)(tg:Expr)(J:It)(fp:Yd)(it:Addr)(tn:Nat->Heap->Prop):Prop where
 mem:it∈fp
 obj: ∀i h,tn i h-> ∀b∈fp, ∃o,h.get? b=some o/\ ∀v,o.data≠.cell v
 keep: ∀i h h',tn i h->(∀b∈fp, ∀o,h.get? b=some o->h'.get? b=some o)->tn i h'
 item: ∀(X:Cx),X.prog=P->X.w=w->X.K=K->C X-> ∀(i:Nat)(pins:Yi)(s:Shared)(σ:St)(H:Hp)(E:VP),Inv X pins σ H s->(∀b∈fp,uQ X pins H b)->tn i s.heap->J.go i H->
  wpAny (model P w) X.A (pyNext (.ref it)) (λr s1=> ∃u,r=some u/\
   wpAny (model P w) X.A (letOwnedTupleGo tg (.ref it) u) (λ_ s2=> ∃x H',Inv X pins σ H' s2/\RelV x u/\J.yld i H x H'/\tn (i+1) s2.heap/\ ∀b∈fp,H' b=none) E s1) E s
 done: ∀(X:Cx),X.prog=P->X.w=w->X.K=K->C X-> ∀(i:Nat)(pins:Yi)(s:Shared)(σ:St)(H:Hp)(E:VP),Inv X pins σ H s->(∀b∈fp,uQ X pins H b)->tn i s.heap->J.stop i H->
  wpAny (model P w) X.A (pyNext (.ref it)) (λr s1=>r=none/\Inv X pins σ H s1) E s
 self: ∀(A:Around)(i:Nat)(s:Shared)(Q:VP)(E:VP),tn i s.heap->Q (.ref it) s->wpAny (model P w) A (pyIter (.ref it)) Q E s
abbrev Turn:=TurnC Po
abbrev TI:=St->Hp->(It->Hp->Prop)->Prop
def Pp(C:Cx->Prop)(X:Cx)(pins:Yi)(σ:St)(tg:Expr)(R:It->Hp->Prop)(itv:Value)(s2:Shared):Prop:=
 ∃(it:Addr)(fp:Yd)(tn:Nat->Heap->Prop)(J:It)(H':Hp),itv=.ref it/\Inv X pins σ H' s2/\TurnC C X.prog X.w X.K tg J fp it tn/\tn 0 s2.heap/\(∀b∈fp,uQ X pins H' b)/\R J H'
abbrev PIE:=Pp Po
def Ih(C:Cx->Prop)(X:Cx)(tg iter:Expr)(wi:TI):Prop:=
 ∀(pins:Yi)(s:Shared)(σ:St)(H:Hp)(R:It->Hp->Prop),Inv X pins σ H s->wi σ H R->
  wpAny (model X.prog X.w) X.A (eval iter X.env) (λv s1=>wpAny (model X.prog X.w) X.A (pyIter v) (Pp C X pins σ tg R) X.xe s1) X.xe s
abbrev PI:=Ih Po
def OE{M:Model}{A:Around}{E:VP}{s:Shared}{tg:Expr}{it:Addr}{u:Value}{o:Obj}{n:String}{vs:Yc}{Q:Unit->Shared->Prop}(ho:s.heap.get? it=some o)(hc:o.cls=.type n)(hd:o.data=.fields vs)
  (hn:["enumerate","zip","dict_itemiterator","dict_reverseitemiterator","odict_iterator","itertools.zip_longest","itertools.pairwise"].contains n=false) (hQ:Q () s):wpAny M A (letOwnedTupleGo tg (.ref it) u) Q E s:=by
 unfold letOwnedTupleGo
 cases tg<;>first
  |exact wP hQ
  |(cases u<;>first
    |exact wP hQ
    |(refine wB (wpAny_load ho ?_)
      rw[hc,hd];show wpAny M A (if(["enumerate","zip","dict_itemiterator","dict_reverseitemiterator","odict_iterator","itertools.zip_longest","itertools.pairwise"].contains n&&vs[0]? ==some (rawInt _))=true then _ else _) Q E s;rw[iN0 (by intro h;rw[hn,Bool.false_and]at h;cases h)];exact wP hQ))
def Pq(K:Zb)(a:Addr):It:=
 ⟨λi H=> ∃xs x,SqL K H a xs/\xs[i]? =some x,λi H x H'=>H'=H/\ ∀xs,SqL K H a xs->xs[i]? =some x,λi H=> ∃xs,SqL K H a xs/\xs.length<=i⟩
def Ur(K:Zb)(a:Addr):It:=
 ⟨λi H=> ∃xs x,SqT K H a xs/\xs[i]? =some x,λi H x H'=>H'=H/\ ∀xs,SqT K H a xs->xs[i]? =some x,λi H=> ∃xs,SqT K H a xs/\xs.length<=i⟩
def Ii(lo:Int)(n:Nat):It:=⟨λi _=>i<n,λi H x H'=>H'=H/\x=.int (lo+i),λi _=>n<=i⟩
def IW{P:Program}{w:World}{K:Zb}{tg:Expr}(a it:Addr):Turn P w K tg (Pq K a) [it] it (λi h=>h.IsListIter it a i) where
 mem:=by simp
 obj:=λi h st b hb=>by
  have e:b=it:=by simpa using hb
  subst e;obtain⟨o,e,c,d⟩:=st;exact⟨o,e,λv z=>by rw[d]at z;cases z⟩
 keep:=λi h h' st k=>st.at λo e=>k it (by simp) o e
 item:=by intro X hP hw hK hc i pins s σ H E I hf st hg;subst hP hw hK;obtain⟨xs,x,hq,hx⟩:=hg;obtain⟨its,rv,p,hz⟩:=I.list hq;obtain⟨u,hu,ru⟩:=rv.get hx;obtain⟨f0,f1,f2,f3,f4,f5⟩:=hf it (by simp);refine wpAny_pyNext_list_item st p.isList (x:=u) (by simpa using hu) λh' st' sb=>?_;have I1:Inv X pins σ H {s with heap:=h'}:=I.turned (t':=s.toks) (λb o hb e=>(sb.2 b hb).trans e) f0 f1 f3 f4 f5;obtain⟨o,e,c,d⟩:=id st';exact⟨u,rfl,OE (s:={s with heap:=h'}) e c d (by decide) ⟨x,H,I1,ru,⟨rfl,λys hy=>by rw[I.list_inj hy hq];exact hx⟩,st',λb hb=>(hf b hb).1⟩⟩
 done:=by intro X hP hw hK hc i pins s σ H E I hf st hg;subst hP hw hK;obtain⟨xs,hq,hx⟩:=hg;obtain⟨its,rv,p,hz⟩:=I.list hq;obtain⟨f0,f1,f2,f3,f4,f5⟩:=hf it (by simp);have hl:=rv.length;exact wpAny_pyNext_list_end (I.ok.hd hc) st p.isList (by simp;omega) λh' eb=>⟨rfl,I.turned (t':=s.toks) (λb o hb e=>eb b o hb e) f0 f1 f3 f4 f5⟩
 self:=λ_ _ _ _ _ st h=>wpAny_pyIter_listiter st h
def EX{P:Program}{w:World}{K:Zb}{tg:Expr}(a it:Addr):Turn P w K tg (Ur K a) [it] it (λi h=>h.IsTupleIter it a i) where
 mem:=by simp
 obj:=λi h st b hb=>by
  have e:b=it:=by simpa using hb
  subst e;obtain⟨o,e,c,d⟩:=st;exact⟨o,e,λv z=>by rw[d]at z;cases z⟩
 keep:=λi h h' st k=>st.at λo e=>k it (by simp) o e
 item:=by intro X hP hw hK hc i pins s σ H E I hf st hg;subst hP hw hK;obtain⟨xs,x,hq,hx⟩:=hg;obtain⟨its,rv,p,hz⟩:=I.tuple hq;obtain⟨u,hu,ru⟩:=rv.get hx;obtain⟨f0,f1,f2,f3,f4,f5⟩:=hf it (by simp);refine wpAny_pyNext_tuple_item st (show s.heap.IsTuple a its.toArray from p) (x:=u) (by simpa using hu) λh' st' sb=>?_;have I1:Inv X pins σ H {s with heap:=h'}:=I.turned (t':=s.toks) (λb o hb e=>(sb.2 b hb).trans e) f0 f1 f3 f4 f5;obtain⟨o,e,c,d⟩:=id st';exact⟨u,rfl,OE (s:={s with heap:=h'}) e c d (by decide) ⟨x,H,I1,ru,⟨rfl,λys hy=>by rw[I.tuple_inj hy hq];exact hx⟩,st',λb hb=>(hf b hb).1⟩⟩
 done:=by intro X hP hw hK hc i pins s σ H E I hf st hg;subst hP hw hK;obtain⟨xs,hq,hx⟩:=hg;obtain⟨its,rv,p,hz⟩:=I.tuple hq;obtain⟨f0,f1,f2,f3,f4,f5⟩:=hf it (by simp);have hl:=rv.length;exact wpAny_pyNext_tuple_end (I.ok.hd hc) st (show s.heap.IsTuple a its.toArray from p) (by simp;omega) λh' eb=>⟨rfl,I.turned (t':=s.toks) (λb o hb e=>eb b o hb e) f0 f1 f3 f4 f5⟩
 self:=λ_ _ _ _ _ st h=>wpAny_pyIter_tupleiter st h
def EY{P:Program}{w:World}{K:Zb}{tg:Expr}(it:Addr)(lo:Int)(n:Nat):Turn P w K tg (Ii lo n) [it] it (λi h=>IsRangeIter h it (lo+(i:Nat) * 1) ((n:Int) - (i:Nat)) 1) where
 mem:=by simp
 obj:=λi h st b hb=>by
  have e:b=it:=by simpa using hb
  subst e;exact⟨_,st,λv z=>by have z':Data.fields _=Data.cell v:=z;cases z'⟩
 keep:=λi h h' st k=>k it (by simp) _ st
 item:=by intro X hP hw hK hc i pins s σ H E I hf st hg;subst hP hw hK;obtain⟨f0,f1,f2,f3,f4,f5⟩:=hf it (by simp);have W:=Walks.range (prog:=X.prog) (w:=X.w) (I.ok.hd hc) it lo 1 n;refine W.item i s _ _ hg st λv h' tk hv st' kk=>?_;obtain⟨t,rfl⟩:=hv;have I1:Inv X pins σ H {s with heap:=h',toks:=tk}:=I.turned (λb o hb e=>kk b o (by simpa using hb) e) f0 f1 f3 f4 f5;refine⟨_,rfl,OE (s:={s with heap:=h',toks:=tk}) (n:="range_iterator") st' rfl rfl (by decide) ⟨.int (lo+i),H,I1,⟨t,?_⟩,⟨rfl,rfl⟩,st',λb hb=>(hf b hb).1⟩⟩;rw[Int.mul_one]
 done:=by intro X hP hw hK hc i pins s σ H E I hf st hg;subst hP hw hK;obtain⟨f0,f1,f2,f3,f4,f5⟩:=hf it (by simp);exact wpAny_pyNext_range_end (I.ok.hd hc) st (by have:n<=i:=hg;omega) λh' eb=>⟨rfl,I.turned (t':=s.toks) (λb o hb e=>eb b o hb e) f0 f1 f3 f4 f5⟩
 self:=λ_ _ _ _ _ st h=>wpAny_pyIter_rangeiter st h
section
variable{X:Cx}{tg:Expr}
def Us(K:Zb)(tl:TE):TI:=λσ H R=>tl σ H λx H1=> ∃a,x=.ref a/\(∃xs,SqL K H1 a xs)/\R (Pq K a) H1
def iTup(K:Zb)(tl:TE):TI:=λσ H R=>tl σ H λx H1=> ∃a,x=.ref a/\(∃xs,SqT K H1 a xs)/\R (Ur K a) H1
def Ij{l:Expr}{tl:TE}(hl:PE X l tl):PI X tg l (Us X.K tl):=by
 intro pins s σ H R I h;refine jX (hl pins s σ H _ I h) λv s1 ⟨x,H1,I1,r1,q1⟩=>?_;obtain⟨a,e,⟨xs,hq⟩,q⟩:=q1;subst e;cases r1;obtain⟨its,rv,p,hz⟩:=I1.list hq;refine wpAny_pyIter_list p.isList ?_;refine⟨s1.heap.objs.size,[s1.heap.objs.size],_,_,H1,rfl,I1.kept (t':=s1.toks) λb o e=>hP0 _ e,IW a _,⟨_,Heap.get?_push_size _ rfl,rfl,rfl⟩,λb hb=>?_,q⟩;have e:b=s1.heap.objs.size:=by simpa using hb
 subst e;exact I1.fpOk (le_refl _) (I1.hok.fresh (le_refl _))
def Ps{l:Expr}{tl:TE}(hl:PE X l tl):PI X tg l (iTup X.K tl):=by
 intro pins s σ H R I h;refine jX (hl pins s σ H _ I h) λv s1 ⟨x,H1,I1,r1,q1⟩=>?_;obtain⟨a,e,⟨xs,hq⟩,q⟩:=q1;subst e;cases r1;obtain⟨its,rv,p,hz⟩:=I1.tuple hq;refine wpAny_pyIter_tuple (show s1.heap.IsTuple a its.toArray from p) ?_;refine⟨s1.heap.objs.size,[s1.heap.objs.size],_,_,H1,rfl,I1.kept (t':=s1.toks) λb o e=>hP0 _ e,EX a _,⟨_,Heap.get?_push_size _ rfl,rfl,rfl⟩,λb hb=>?_,q⟩;have e:b=s1.heap.objs.size:=by simpa using hb
 subst e;exact I1.fpOk (le_refl _) (I1.hok.fresh (le_refl _))
def Bo{C:Cx->Prop}{pins:Yi}{σ:St}{H:Hp}{s:Shared}{R:It->Hp->Prop}{E:VP}{lo hi:Int}{t u v:Tok}{tk:Nat}(ht: ∀it:Addr,TurnC C X.prog X.w X.K tg (Ii lo (hi - lo).toNat) [it] it (λi h=>IsRangeIter h it (lo+(i:Nat) * 1) ((((hi - lo).toNat:Nat):Int) - (i:Nat)) 1))(I:Inv X pins σ H s)(h1: -(2 ^ 62)<=lo)(h2:lo<2 ^ 62)(h3: -(2 ^ 62)<=hi)(h4:hi<2 ^ 62)
  (q:R (Ii lo (hi - lo).toNat) H):wpAny (model X.prog X.w) X.A (pyIter (.ref s.heap.objs.size)) (Pp C X pins σ tg R) E {s with heap:=s.heap.push {cls:=.type "range",data:=.fields #[.int lo t,.int hi u,.int 1 v]},toks:=tk}:=by
 refine wpAny_pyIter_range (IsRange.new ..) (small_one h1 h2 h3 h4) ?_;have I1:Inv X pins σ H {s with heap:=s.heap.push {cls:=.type "range",data:=.fields #[.int lo t,.int hi u,.int 1 v]},toks:=tk}:=I.kept λb o e=>hP0 _ e
 refine⟨(s.heap.push {cls:=.type "range",data:=.fields #[.int lo t,.int hi u,.int 1 v]}).objs.size,[(s.heap.push {cls:=.type "range",data:=.fields #[.int lo t,.int hi u,.int 1 v]}).objs.size],_,_,H,rfl,
  I1.kept (t':=tk) λb o e=>hP0 _ e,ht _,?_,λb hb=>?_,q⟩
 .have e1:lo+((0:Nat):Int) * 1=lo:=by simp
  have e2:(((hi - lo).toNat:Nat):Int) - ((0:Nat):Int)=Builtin.Range.rangeSize lo hi 1:=by rw[rangeSize_one];split<;>omega
  show IsRangeIter _ _ (lo+((0:Nat):Int) * 1) ((((hi - lo).toNat:Nat):Int) - ((0:Nat):Int)) 1;rw[e1,e2];exact Heap.get?_push_size _ rfl
 .have e:b=(s.heap.push {cls:=.type "range",data:=.fields #[.int lo t,.int hi u,.int 1 v]}).objs.size:=by simpa using hb
  subst e;exact I1.fpOk (le_refl _) (I1.hok.fresh (le_refl _))
def Ut(ta:TA):TI:=λσ H R=>ta σ H λvs H1=> ∃j:Int,vs=[.int j]/\ -(2 ^ 62)<=j/\j<2 ^ 62/\R (Ii 0 j.toNat) H1
def YT{C:Cx->Prop}{a:Expr}{ta:TA}{p pos:Pos}(ht: ∀(it:Addr)(n:Nat),TurnC C X.prog X.w X.K tg (Ii 0 n) [it] it (λi h=>IsRangeIter h it (0+(i:Nat) * 1) ((n:Int) - (i:Nat)) 1))(hg:Gl X "range")(hm:X.mg "range"=none)(ha:PA X [a] ta)(hs:starEach [a] X.env=[(false,eval a X.env)]):Ih C X tg (.Call (.Name "range" p) [a] [] pos) (Ut ta):=by
 intro pins s σ H R I h;refine Call_ (EW I hg hm boot_range (PyProof.Rows.callWith_type1 (jX (ha pos pins s σ H _ I h) λus s1 ⟨vs,H1,I1,r1,q1⟩=>?_) hs rfl));obtain⟨j,e,q1,q2,q⟩:=q1;subst e
 cases r1 with
 |cons r rr=>
  cases rr;obtain⟨t,rfl⟩:=r;exact call_range_1 (Bo (λit=>ht it _) I1 (by omega) (by omega) q1 q2 (by simpa using q))
def tFor(wi:TI)(g:TG)(tb:TS):TS:=λD σ H=>wi σ H λJ H1=> ∃W:Nat->Nat->St->Hp->Prop,(∃m,W 0 m σ H1)/\ ∀i m σ H,W i m σ H->
 (J.stop i H/\D.nx σ H)\/(J.go i H/\ ∃N:St->Hp->Prop,(∀σ' H',N σ' H'-> ∃m',m'<m/\W (i+1) m' σ' H')/\ ∀x H',J.yld i H x H'->g x σ H' λσ2 H2=>tb {D with nx:=N,ct:=N,bk:=D.nx} σ2 H2)
def AW(fp:Yd)(h:Heap):List (Addr×Obj):=fp.filterMap λb=>(h.get? b).map λo=>(b,o)
def uR{fp:Yd}{h:Heap}{b:Addr}{o:Obj}(hb:b∈fp)(e:h.get? b=some o):(b,o)∈AW fp h:=mem_filterMap.mpr ⟨b,hb,by rw[e];rfl⟩
def YU{fp:Yd}{h:Heap}{p:Addr×Obj}(hp:p∈AW fp h):p.1∈fp/\h.get? p.1=some p.2:=by
 obtain⟨b,hb,e⟩:=mem_filterMap.mp hp
 cases q:h.get? b with
 |none=>rw[q]at e;cases e
 |some o=>
  rw[q]at e;have e':(b,o)=p:=Option.some.inj e;subst e';exact⟨hb,q⟩
def Inv.pinned{pins:Yi}{σ:St}{H:Hp}{s:Shared}{fp:Yd}(I:Inv X pins σ H s)(hf: ∀b∈fp,uQ X pins H b)(ho: ∀b∈fp, ∃o,s.heap.get? b=some o/\ ∀v,o.data≠.cell v):Inv X (pins++AW fp s.heap) σ H s:=
 I.pins_of λp hp=>(mem_append.mp hp).elim (λz=>I.pin p (mem_append_right _ z)) λz=>by obtain⟨hb,e⟩:=YU z;obtain⟨f0,f1,f2,_⟩:=hf p.1 hb;obtain⟨o,e',d⟩:=ho p.1 hb;rw[e]at e';cases e';exact⟨e,f0,f1,f2,d⟩
def Inv.unpinned{pins pl:Yi}{σ:St}{H:Hp}{s:Shared}(I:Inv X (pins++pl) σ H s):Inv X pins σ H s:=I.pins_of λp hp=>I.pin p (mem_append_right _ (mem_append_left _ hp))
def Pt{iter:Expr}{body:List Stmt}{wi:TI}{g:TG}{tb:TS}{pos:Pos}(hp:PassesOwn (model X.prog X.w) X.A X.env X.xe)(hc:X.calm=true)(hi:PI X tg iter wi)(hg:PG X tg g)(hb:PSs X body tb)
  (hs: ∀x,foldedSetIterable iter X.env x=pure x:=by intro _;rfl):PS X (.For tg iter body [] pos) (tFor wi g tb):=by
 intro pins s σ H D I h;refine wpAny_For (jX (hi pins s σ H _ I h) λv s1 h1=>jX h1 λitv s2 h2=>?_) hs;obtain⟨it,fp,tn,J,H2,e,I2,T,st2,f2,W,⟨m0,w0⟩,turn⟩:=h2;subst e;have stat: ∀{H':Hp},(∀b∈fp,H' b=none)-> ∀b∈fp,uQ X pins H' b:=λhn b hb=>⟨hn b hb,(f2 b hb).2⟩
 refine codeAny_forLoop_any (λn s'=> ∃i σ' H',Inv X pins σ' H' s'/\tn i s'.heap/\(∀b∈fp,H' b=none)/\W i n σ' H') ?_ m0 ⟨0,σ,H2,I2,st2,λb hb=>(f2 b hb).1,w0⟩;rintro n s3 ⟨i,σ3,H3,I3,st3,fr3,w3⟩;rcases turn i n σ3 H3 w3 with⟨stop,qn⟩|⟨go,N,hN,step⟩
 .refine wpAny_passesOwn hp (jX (T.done X rfl rfl rfl hc i pins s3 σ3 H3 X.xe I3 (stat fr3) st3 stop) λr s4 ⟨hr,I4⟩=>?_);subst hr;exact wpAny_execs_nil ⟨σ3,H3,I4,qn⟩
 .refine wpAny_passesOwn hp (jX (T.item X rfl rfl rfl hc i pins s3 σ3 H3 X.xe I3 (stat fr3) st3 go) λr s4 ⟨u,hr,h4⟩=>?_);subst hr;refine wpAny_passesOwn hp (jX h4 λ_ s5 ⟨x,H5,I5,r5,y5,st5,fr5⟩=>?_);have I5':=I5.pinned (stat fr5) (T.obj _ _ st5);refine wpAny_passesOwn hp (jX (hg _ s5 σ3 H5 x u _ I5' r5 (step x H5 y5)) λ_ s6 ⟨σ6,H6,I6,q6⟩=>?_);refine wpAny_passesOwn hp (jX (hb _ s6 σ6 H6 _ I6 q6) λf s7 q7=>?_);have again: ∀{σ7:St}{H7:Hp},Inv X (pins++AW fp s5.heap) σ7 H7 s7->N σ7 H7-> ∃m,m<n/\ ∃i σ' H',Inv X pins σ' H' s7/\tn i s7.heap/\(∀b∈fp,H' b=none)/\W i m σ' H':=λ{σ7 H7} I7 n7=>by obtain⟨m',hm,w7⟩:=hN σ7 H7 n7;refine⟨m',hm,i+1,σ7,H7,I7.unpinned,T.keep _ _ _ st5 λb hb o e=>(I7.pin (b,o) (mem_append_right _ (mem_append_right _ (uR hb e)))).1,λb hb=>?_,w7⟩;obtain⟨o,e,d⟩:=T.obj _ _ st5 b hb;exact(I7.pin (b,o) (mem_append_right _ (mem_append_right _ (uR hb e)))).2.1
  cases f with
  |next=>obtain⟨σ7,H7,I7,n7⟩:=q7;exact again I7 n7
  |cont=>obtain⟨σ7,H7,I7,n7⟩:=q7;exact again I7 n7
  |brk=>obtain⟨σ7,H7,I7,q7⟩:=q7;exact⟨σ7,H7,I7.unpinned,q7⟩
  |ret v=>obtain⟨x7,σ7,H7,I7,r7,q7⟩:=q7;exact⟨x7,σ7,H7,I7.unpinned,r7,q7⟩
end
abbrev R2:=V->V->Hp->VK->Prop
def OpR(X:Cx)(f:Value->Value->Sem Value)(r:R2):Prop:=
 ∀(pins:Yi)(s:Shared)(σ:St)(H:Hp)(x y:V)(v u:Value)(Q:VK),Inv X pins σ H s->RelV x v->RelV y u->r x y H Q->
  wpAny (model X.prog X.w) X.A (f v u) (EP X pins σ Q) X.xe s
def UnR(X:Cx)(f:Value->Sem Value)(r:V->Hp->VK->Prop):Prop:=
 ∀(pins:Yi)(s:Shared)(σ:St)(H:Hp)(x:V)(v:Value)(Q:VK),Inv X pins σ H s->RelV x v->r x H Q->
  wpAny (model X.prog X.w) X.A (f v) (EP X pins σ Q) X.xe s
def CallR(X:Cx)(f:Value)(r:List V->Hp->VK->Prop):Prop:=
 ∀(pins:Yi)(s:Shared)(σ:St)(H:Hp)(xs:List V)(us:Yb)(Q:VK),Inv X pins σ H s->Vals xs us->r xs H Q->
  wpAny (model X.prog X.w) X.A (call f us) (EP X pins σ Q) X.xe s
def TruR(X:Cx)(r:V->Hp->(Bool->Hp->Prop)->Prop):Prop:=
 ∀(pins:Yi)(s:Shared)(σ:St)(H:Hp)(x:V)(v:Value)(Q:Bool->Hp->Prop),Inv X pins σ H s->RelV x v->r x H Q->
  wpAny (model X.prog X.w) X.A (truthy v) (TP X pins σ Q) X.xe s
def Xo(r:R2)(ta tb:TE):TE:=λσ H Q=>ta σ H λx H1=>tb σ H1 λy H2=>r x y H2 Q
def tUn(r:V->Hp->VK->Prop)(ta:TE):TE:=λσ H Q=>ta σ H λx H1=>r x H1 Q
def rI(C:Int->Int->Prop)(g:Int->Int->V):R2:=λx y H Q=> ∃i j,x=.int i/\y=.int j/\C i j/\Q (g i j) H
def Xp(g:Int->Int->V):R2:=λx y H Q=> ∃i j,x=.int i/\y=.int j/\Q (g i j) H
def rU(g:Int->V):V->Hp->VK->Prop:=λx H Q=> ∃i,x=.int i/\Q (g i) H
section
variable{X:Cx}{a b:Expr}{ta tb:TE}{pos:Pos}
def Pu(ha:PE X a ta)(hb:PE X b tb){pins:Yi}{s:Shared}{σ:St}{H:Hp}{R:V->V->Hp->Prop}(I:Inv X pins σ H s)
  (h:ta σ H λx H1=>tb σ H1 λy H2=>R x y H2) {Q:VP} {f:Value->Value->Sem Value}
  (hf: ∀v u s2 x y H2,Inv X pins σ H2 s2->RelV x v->RelV y u->R x y H2->wpAny (model X.prog X.w) X.A (f v u) Q X.xe s2):
  wpAny (model X.prog X.w) X.A (eval a X.env) (λv s₁=>wpAny (model X.prog X.w) X.A (eval b X.env) (λu s₂=>wpAny (model X.prog X.w) X.A (f v u) Q X.xe s₂) X.xe s₁) X.xe s:=by
 refine jX (ha pins s σ H _ I h) λv s1 ⟨x,H1,I1,r1,q1⟩=>?_;refine jX (hb pins s1 σ H1 _ I1 q1) λu s2 ⟨y,H2,I2,r2,q2⟩=>?_;exact hf v u s2 x y H2 I2 r1 r2 q2
def Uu{op:Operator}{r:R2}(ho:OpR X (binaryOp op) r)(ha:PE X a ta)(hb:PE X b tb):PE X (.BinOp a op b pos) (Xo r ta tb):=by intro pins s σ H Q I h;exact wpAny_BinOp (Pu ha hb I h λv u s2 x y H2 I2 rx ry q=>ho pins s2 σ H2 x y v u Q I2 rx ry q)
def Uv{op:UnaryOp}{r:V->Hp->VK->Prop}(ho:UnR X (unaryOp op) r)(ha:PE X a ta):PE X (.UnaryOp op a pos) (tUn r ta):=by intro pins s σ H Q I h;exact UnaryOp_ (jX (ha pins s σ H _ I h) λv s1 ⟨x,H1,I1,r1,q1⟩=>ho pins s1 σ H1 x v Q I1 r1 q1)
def Xq{f:Value->Value->Sem Value}{C:Int->Int->Prop}{g:Int->Int->Int}
  (rule: ∀(i j:Int)(t u:Tok)(s:Shared)(Q:VP)(E:VP),C i j->Q (.int (g i j) s.toks) {s with toks:=s.toks+1}->wpAny (model X.prog X.w) X.A (f (.int i t) (.int j u)) Q E s):
  OpR X f (rI C λi j=>.int (g i j)):=by
 intro pins s σ H x y v u Q I rx ry h;obtain⟨i,j,rfl,rfl,hc,q⟩:=h;obtain⟨t,rfl⟩:=rx;obtain⟨t',rfl⟩:=ry;exact rule i j t t' s _ _ hc ⟨.int (g i j),H,I.tok _,⟨_,rfl⟩,q⟩
def Uw{f:Value->Value->Sem Value}{g:Int->Int->Int}
  (rule: ∀(i j:Int)(t u:Tok)(s:Shared)(Q:VP)(E:VP),Q (.int (g i j) s.toks) {s with toks:=s.toks+1}->wpAny (model X.prog X.w) X.A (f (.int i t) (.int j u)) Q E s):
  OpR X f (Xp λi j=>.int (g i j)):=by
 intro pins s σ H x y v u Q I rx ry h;obtain⟨i,j,rfl,rfl,q⟩:=h;obtain⟨t,rfl⟩:=rx;obtain⟨t',rfl⟩:=ry;exact rule i j t t' s _ _ ⟨.int (g i j),H,I.tok _,⟨_,rfl⟩,q⟩
def CMul(i j:Int):Prop:=(-(2 ^ 64)<i/\i<2 ^ 64)\/(-(2 ^ 64)<j/\j<2 ^ 64)
def CMul.ok{i j:Int}(h:CMul i j):IntMulOk i j:=by
 rcases h with⟨h1,h2⟩|⟨h1,h2⟩
 .exact .of_left (intBits_le_64 h1 h2)
 .exact .of_right (intBits_le_64 h1 h2)
def Pv:OpR X (binaryOp .Add) (Xp λi j=>.int (i+j)):=Uw λ_ _ _ _ _ _ _ q=>add_int q
def Pw:OpR X (binaryOp .Sub) (Xp λi j=>.int (i - j)):=Uw λ_ _ _ _ _ _ _ q=>sub_int q
def Px:OpR X (binaryOp .Mod) (rI (λ_ j=>0<j) λi j=>.int (i % j)):=Xq λi j _ _ _ _ _ hc q=>by have h1:(0:Int)<j:=hc;exact mod_int' (by omega) (by rw[Int.fmod_eq_emod_of_nonneg i (by omega)];exact q)
def unI{f:Value->Sem Value}{g:Int->Int}
  (rule: ∀(i:Int)(t:Tok)(s:Shared)(Q:VP)(E:VP),Q (.int (g i) s.toks) {s with toks:=s.toks+1}->wpAny (model X.prog X.w) X.A (f (.int i t)) Q E s):
  UnR X f (rU λi=>.int (g i)):=by
 intro pins s σ H x v Q I rx h;obtain⟨i,rfl,q⟩:=h;obtain⟨t,rfl⟩:=rx;exact rule i t s _ _ ⟨.int (g i),H,I.tok _,⟨_,rfl⟩,q⟩
def Py:UnR X (unaryOp .USub) (rU λi=>.int (-i)):=unI λ_ _ _ _ _ q=>neg_int q
end
section
variable{X:Cx}{a b:Expr}{ta tb:TE}{pos:Pos}
def RV{pins:Yi}{σ:St}{H:Hp}{s:Shared}{Q:VK}{k k':Bool}(I:Inv X pins σ H s)(q:Q (.bl k) H)(e:k=k'):EP X pins σ Q (.bool k') s:=by subst e;exact⟨.bl k,H,I,rfl,q⟩
def YV:OpR X (compareOp .In) (λx y H Q=> ∃i j,x=.str i/\y=.str j/\Q (.bl (!(Builtin.Str.occurrences j i 0 j.length 1).isEmpty)) H):=by intro pins s σ H x y v u Q I rx ry h;obtain⟨i,j,rfl,rfl,q⟩:=h;obtain⟨t,rfl⟩:=rx;obtain⟨t',rfl⟩:=ry;exact in_str (RV I q rfl)
def Ik:OpR X (compareOp .IsNot) (λx y H Q=>y=.non/\Q (.bl (!decide (x=.non))) H):=by
 intro pins s σ H x y v u Q I rx ry h;obtain⟨rfl,q⟩:=h;cases ry;refine isnot_none_gen (RV I q ?_)
 cases x<;>first
  |(cases rx;rfl)
  |(obtain⟨t,rfl⟩:=rx;rfl)
def KZ:OpR X (compareOp .NotIn) (λx y H Q=> ∃i j,x=.str i/\y=.str j/\Q (.bl (!(!(Builtin.Str.occurrences j i 0 j.length 1).isEmpty))) H):=by intro pins s σ H x y v u Q I rx ry h;obtain⟨i,j,rfl,rfl,q⟩:=h;obtain⟨t,rfl⟩:=rx;obtain⟨t',rfl⟩:=ry;exact notIn_str (RV I q rfl)
def OpR.or{f:Value->Value->Sem Value}{r r':R2}(h:OpR X f r)(h':OpR X f r'):OpR X f (λx y H Q=>r x y H Q\/r' x y H Q):=by
 intro pins s σ H x y v u Q I rx ry q;rcases q with q|q
 .exact h pins s σ H x y v u Q I rx ry q
 .exact h' pins s σ H x y v u Q I rx ry q
def Bp(b:Expr){op:CmpOp}(h:op≠.In:=by decide)(h2:op≠.NotIn:=by decide):behindInMarks op b=false:=by
 have e1:(op==CmpOp.In)=false:=by cases op<;>first |rfl|exact absurd rfl h
 have e2:(op==CmpOp.NotIn)=false:=by cases op<;>first |rfl|exact absurd rfl h2
 cases b<;>simp[behindInMarks,e1,e2]
def Il{op:CmpOp}{r:R2}(ho:OpR X (compareOp op) r)(ha:PE X a ta)(hb:PE X b tb)(hm:behindInMarks op b=false):PE X (.Compare a [op] [b] pos) (Xo r ta tb):=by intro pins s σ H Q I h;exact wpAny_Compare1 (Pu ha hb I h λv u s2 x y H2 I2 rx ry q=>ho pins s2 σ H2 x y v u Q I2 rx ry q) hm
def Ux(t:TE):TT:=λσ H Q=>t σ H λx H'=> ∃k,x=.bl k/\Q k H'
def Im{op:CmpOp}{r:R2}(ho:OpR X (compareOp op) r)(ha:PE X a ta)(hb:PE X b tb)(hm:behindInMarks op b=false):PT X (.Compare a [op] [b] pos) (Ux (Xo r ta tb)):=by
 intro pins s σ H Q I h
 refine wpAny_isTrue_Compare1 (jX (ha pins s σ H _ I h) λv s1 ⟨x,H1,I1,r1,q1⟩=>jX (hb pins s1 σ H1 _ I1 q1) λu s2 ⟨y,H2,I2,r2,q2⟩=>
  jX (ho pins s2 σ H2 x y v u _ I2 r1 r2 q2) λc s3 ⟨z,H3,I3,r3,k,e,q3⟩=>?_) hm
 subst e;cases r3;exact wpAny_truthy_bool ⟨H3,I3,q3⟩
def Pz(K:Zb)(x:V)(H:Hp)(k:Bool):Prop:=
 match x with
 |.non=>k=false
 |.bl b=>k=b
 |.int i=>k=(i !=0)
 |.str y=>y.length<=sizeLine/\k=((y.length:Int) !=0)
 |.byt y=>y.size<=sizeLine/\k=((y.size:Int) !=0)
 |.ref p=>(∃xs,SqL K H p xs/\k= !xs.isEmpty)\/(∃xs,SqT K H p xs/\k= !xs.isEmpty)\/ ∃kvs,H p=some (.dK kvs)/\k= !kvs.isEmpty
 |_=>False
theorem RW{κ:Type}{kvs:List (κ×V)}{vs:List (κ×Value)}(r:KV kvs vs):(!vs.isEmpty)= !kvs.isEmpty:=by cases r<;>rfl
def EZ{xs:List V}{its:Yb}(r:Vals xs its):(!its.toArray.isEmpty)= !xs.isEmpty:=by cases r<;>simp
def uS:(sizeLine:Nat)<2 ^ 63:=by rw[sizeLine_eq];decide
def Qa:TruR X (λx H Q=> ∃k,Pz X.K x H k/\Q k H):=by
 intro pins s σ H x v Q I rx h;obtain⟨k,e,q⟩:=h;have hl:=uS;have hs:sizeLine=16777216:=sizeLine_eq
 cases x with
 |non=>
  cases rx;have e':k=false:=e;subst e';exact truthy_none ⟨H,I,q⟩
 |bl b=>
  cases rx;have e':k=b:=e;subst e';exact wpAny_truthy_bool ⟨H,I,q⟩
 |int i=>
  obtain⟨t,rfl⟩:=rx;have e':k=(i !=0):=e;subst e';exact PySem.P.truthy_int ⟨H,I,q⟩
 |str y=>
  obtain⟨t,rfl⟩:=rx;obtain⟨hy,e'⟩:y.length<=sizeLine/\k=((y.length:Int) !=0):=e;subst e';exact PySem.P.truthy_str (by omega) ⟨H,I.tok _,q⟩
 |byt y=>
  obtain⟨t,rfl⟩:=rx;obtain⟨hy,e'⟩:y.size<=sizeLine/\k=((y.size:Int) !=0):=e;subst e';exact PySem.W.truthy_bytes (by omega) ⟨H,I.tok _,q⟩
 |ref p=>
  cases rx;have e':(∃xs,SqL X.K H p xs/\k= !xs.isEmpty)\/(∃xs,SqT X.K H p xs/\k= !xs.isEmpty)\/ ∃kvs,H p=some (.dK kvs)/\k= !kvs.isEmpty:=e;rcases e' with⟨xs,hx,e'⟩|⟨xs,hx,e'⟩|⟨kvs,hx,e'⟩
  .subst e';obtain⟨its,r,pl,hz⟩:=I.list hx;have hlen:=r.length;exact wpAny_truthy_list pl.isList (by simp only[sA];omega) ⟨H,I.tok _,by rw[EZ r];exact q⟩
  .subst e';obtain⟨its,r,pl,hz⟩:=I.tuple hx;have hlen:=r.length;exact truthy_tuple pl (by simp only[sA];omega) ⟨H,I.tok _,by rw[EZ r];exact q⟩
  .subst e';obtain⟨hz,hS,vs,r,m⟩:kvs.length<=sizeLine/\(p==sysModules)=false/\ ∃vs,KV kvs vs/\s.heap.DictOf (yZ X.prog X.w) p vs:=I.hok p _ hx;have hlen:kvs.length=vs.length:=Paired.length r;exact wpAny_truthy_dict hS m (by omega) ⟨H,I.tok _,by rw[RW r];exact q⟩
 |_=>exact(show False from e).elim
def Bq(ha:PE X a ta)(he: ∀whole,isTrue a X.env whole=(do let v <-whole;standAt a.pos;holding [v] (truthy v))):
  PT X a (λσ H Q=>ta σ H λx H'=> ∃k,Pz X.K x H' k/\Q k H'):=by
 intro pins s σ H Q I h;exact isTrue_plain (jX (ha pins s σ H _ I h) λv s1 ⟨x,H1,I1,r1,q1⟩=>Qa pins s1 σ H1 x v Q I1 r1 q1) (he _)
def RX:OpR X (binaryOp .Add) (λx y H Q=> ∃i j,x=.str i/\y=.str j/\i.length+j.length<=sizeLine/\Q (.str (i++j)) H):=by intro pins s σ H x y v u Q I rx ry h;obtain⟨i,j,rfl,rfl,hz,q⟩:=h;obtain⟨t,rfl⟩:=rx;obtain⟨t',rfl⟩:=ry;exact add_str (λt' tk=>⟨.str (i++j),H,I.tok _,⟨_,rfl⟩,q⟩) hz
def vals1{x:V}{us:Yb}(r:Vals [x] us): ∃u,us=[u]/\RelV x u:=by
 cases r with
 |cons r1 r2=>cases r2;exact⟨_,rfl,r1⟩
def vals2{x y:V}{us:Yb}(r:Vals [x,y] us): ∃u w',us=[u,w']/\RelV x u/\RelV y w':=by
 cases r with
 |cons r1 r2=>
  cases r2 with
  |cons r3 r4=>cases r4;exact⟨_,_,rfl,r1,r3⟩
def IX(hc:X.calm=true):CallR X (.builtin "min") (λxs H Q=> ∃i j,xs=[.int i,.int j]/\Q (.int (if j<i then j else i)) H):=by
 intro pins s σ H xs us Q I r h;obtain⟨i,j,rfl,q⟩:=h;obtain⟨u,w',rfl,⟨t,rfl⟩,⟨t',rfl⟩⟩:=vals2 r;refine min_two_ints (I.ok.hd hc) λh' tk k=>⟨_,H,I.kept k,?_,q⟩
 by_cases hj:j<i
 .rw[iP hj,iP hj];exact⟨_,rfl⟩
 .rw[iN0 hj,iN0 hj];exact⟨_,rfl⟩
def YW:CallR X (.type "int") (λxs H Q=>(∃i,xs=[.int i]/\Q (.int i) H)\/ ∃k,xs=[.bl k]/\Q (.int (if k then 1 else 0)) H):=by
 intro pins s σ H xs us Q I r h;rcases h with⟨i,rfl,q⟩|⟨k,rfl,q⟩
 .obtain⟨u,rfl,t,rfl⟩:=vals1 r;exact call_int_int ⟨.int i,H,I,⟨_,rfl⟩,q⟩
 .obtain⟨u,rfl,r1⟩:=vals1 r;cases r1;exact call_int_bool ⟨.int (if k then 1 else 0),H,I.tok _,⟨_,rfl⟩,q⟩
end
structure Cls(K:Zb)(C:Addr):Prop where
 pg:PySem.W.plainGet K C Str.empty=true
 hd:PySem.W.hasDictIn K C=true
 po:PySem.W.plainOver K C=true
 sa:PySem.W.findIn K (.ref C) "__setattr__"=some (some (.builtin "object.__setattr__"))
section
variable{H:Hp}
inductive vX(K:Zb)(H:Hp):V->Value->Prop where
 |non:vX K H .non (.type "NoneType")
 |bl (x:Bool):vX K H (.bl x) (.type "bool")
 |int (i:Int):vX K H (.int i) (.type "int")
 |str (x:Str):vX K H (.str x) (.type "str")
 |flt (x:UInt64):vX K H (.flt x) (.type "float")
 |lst {a:Addr} {xs:List V} (e:H a=some (.lst xs)):vX K H (.ref a) (.type "list")
 |frz {a:Addr} {o:Obj} {xs:List V} (e:H a=some (.frz o (.lst xs))):vX K H (.ref a) (.type "list")
 |tup {a:Addr} {xs:List V} (e:H a=some (.tup xs)):vX K H (.ref a) (.type "tuple")
 |dK {a:Addr} {kvs:List (Key×V)} (e:H a=some (.dK kvs)):vX K H (.ref a) (.type "dict")
 |dT {a:Addr} {kvs:List (List Key×V)} (e:H a=some (.dT kvs)):vX K H (.ref a) (.type "dict")
 |ins {a C dx:Addr} {fs:List (Str×V)} (e:H a=some (.ins C dx fs)) (cl:Cls K C) (ha:PySem.W.findIn K (.ref C) "__class__"=some (some (.builtin "object.__class__")))
   (hn:PySem.W.specialIn K (.builtin "object.__class__") "__get__"=some (some (.builtin "getset_descriptor.__get__"))) (htk:PySem.W.takesIn K (.builtin "object.__class__")=some true)
   (hm:PySem.W.mroIn K C (.type "object")=some true):vX K H (.ref a) (.ref C)
end
structure Room(k:Nat)(A:Around):Prop where
 hd:A.handled=none
 dp:A.depth+3 * k+5<recursionLimit
 un:A.units+16 * k+200<cLine
def Room.mono{j k:Nat}{A:Around}(r:Room k A)(h:j<=k):Room j A:=⟨r.hd,by have:=r.dp;omega,by have:=r.un;omega⟩
def Room.deeper{k:Nat}{A:Around}(r:Room (k+1) A)(env:Env):Room k (A.deeper env):=
 ⟨r.hd,by have:=r.dp;show A.depth+1+3 * k+5<_;omega,by have:=r.un;show A.units+3+16 * k+200<_;omega⟩
def Room.in1{k:Nat}{A:Around}(r:Room (k+1) A):Room k A.in1:=
 ⟨r.hd,by have:=r.dp;show A.depth+3 * k+5<_;omega,by have:=r.un;show A.units+1+16 * k+200<_;omega⟩
def RY{A:Around}{C:Addr}{us:Yb}{kw:List (Str×Value)}:(A.under (.builtin "type.__call__" ⟨.ref C::us,kw⟩)).depth=A.depth+1:=by
 first |rfl|simp[Around.under,Code.weight,Code.isCreation,Code.isGuard,Code.isCaller,Code.frames,Code.isFrame,guardIds]
def RZ{A:Around}{C:Addr}{us:Yb}{kw:List (Str×Value)}:(A.under (.builtin "type.__call__" ⟨.ref C::us,kw⟩)).units=A.units+1:=by
 first |rfl|simp[Around.under,Code.cUnits,Code.frames,Code.isFrame]
def Room.make{k:Nat}{A:Around}(r:Room (k+1) A)(C:Addr)(us:Yb)(kw:List (Str×Value)):Room k (A.under (.builtin "type.__call__" ⟨.ref C::us,kw⟩)):=
 ⟨r.hd,by have:=r.dp;rw[RY];omega,by have:=r.un;rw[RZ];omega⟩
def Room.depth{k:Nat}{A:Around}(r:Room k A):A.depth<recursionLimit:=by have:=r.dp;omega
def Room.units{k:Nat}{A:Around}(r:Room k A):A.units+64<cLine:=by have:=r.un;omega
def tNil:TA:=λ_ H Q=>Q [] H
def Uy(ta:TE)(tr:TA):TA:=λσ H Q=>ta σ H λx H1=>tr σ H1 λxs H2=>Q (x::xs) H2
section
variable{X:Cx}{e:Expr}{es:Za}{te:TE}{t:TA}{pos:Pos}
def FA:PA X [] tNil:=λ_ _ _ _ H Q I h=>Calls.spliced_nil ⟨[],H,I,.nil,h⟩
def mH(ha:PE X e te)(hr:PA X es t)(hs:starEach (e::es) X.env=(false,eval e X.env)::starEach es X.env:=by rfl):PA X (e::es) (Uy te t):=by intro pos pins s σ H Q I h;rw[hs];show wpAny _ _ (spliced ((false,eval e X.env)::backTo pos (starEach es X.env))) _ _ s;refine Calls.spliced_cons (jX (ha pins s σ H _ I h) λu s1 ⟨x,H1,I1,r1,q1⟩=>?_);exact jX (hr pos pins s1 σ H1 _ I1 q1) λus s2 ⟨xs,H2,I2,r2,q2⟩=>⟨x::xs,H2,I2,.cons r1 r2,q2⟩
def tTup(t:TA):TE:=λσ H Q=>t σ H λxs H1=>xs.length<=sizeLine/\ ∀p,H1 p=none->Q (.ref p) (xI H1 p (.tup xs))
def tLst(t:TA):TE:=λσ H Q=>t σ H λxs H1=>xs.length<=sizeLine/\ ∀p,H1 p=none->Q (.ref p) (xI H1 p (.lst xs))
def Qc{x1}(h:PA X es t):PE X (.Tuple es x1 pos) (tTup t):=by intro pins s σ H Q I hq;refine wpAny_Tuple_spliced (jX (h pos pins s σ H _ I hq) λus s1 ⟨xs,H1,I1,r,z,q⟩=>⟨by rw[<-r.length];exact z,?_⟩);have hf:H1 s1.heap.objs.size=none:=I1.hok.fresh (le_refl _);refine⟨.ref s1.heap.objs.size,xI H1 s1.heap.objs.size (.tup xs),I1.laid (t':=s1.toks) (λb u e=>hP0 _ e) (le_refl _) ?_,rfl,q _ hf⟩;exact⟨z,us,r,⟨_,Heap.get?_push_size _ rfl,rfl,_,rfl⟩⟩
def Qd(h:PA X es t):PE X (.List es pos) (tLst t):=by intro pins s σ H Q I hq;refine wpAny_List_spliced (jX (h pos pins s σ H _ I hq) λus s1 ⟨xs,H1,I1,r,z,q⟩=>⟨by rw[<-r.length];exact z,?_⟩);have hf:H1 s1.heap.objs.size=none:=I1.hok.fresh (le_refl _);refine⟨.ref s1.heap.objs.size,xI H1 s1.heap.objs.size (.lst xs),I1.laid (t':=s1.toks) (λb u e=>hP0 _ e) (le_refl _) ?_,rfl,q _ hf⟩;exact⟨z,us,0,r,Heap.get?_push_size _ rfl⟩
end
abbrev Sp:=List V->Hp->VK->XK->Prop
abbrev YX:=List Env->Hp->Shared->XK->VP
structure Env0(P:Program)(w:World)(K:Zb)(mg:Yg)(base:Heap)(A:Around)(outer:List Env)(s:Shared)(H:Hp):Prop where
 frames:A.frames=some outer
 mod:Mod K mg base
 bs: ∀b o,base.get? b=some o->s.heap.get? b=some o/\H b=none
 bsz:base.objs.size<=s.heap.objs.size
 funs:s.heap.FunFrames base outer
 frf: ∀b∈EI outer,H b=none
 hok:HOk P w H s.heap
 bare:AllBare s.gens
def CE(outer:List Env)(P:Program)(w:World)(H:Hp)(s:Shared)(Q:VK)(u:Value)(s':Shared):Prop:=
 ∃v H',s'.os=s.os/\AllBare s'.gens/\Un (EI outer) [] H H' s.heap s'.heap/\HOk P w H' s'.heap/\RelV v u/\Q v H'
def CR(CX:YX)(outer:List Env)(P:Program)(w:World)(H:Hp)(s:Shared)(Q:VK)(E:XK)(r:Result)(s':Shared):Prop:=
 match r with
 |.ok (.ret u)=>CE outer P w H s Q u s'
 |.ok _=>False
 |.error e=>CX outer H s E e s'
structure FnOk(P:Program)(w:World)(K:Zb)(mg:Yg)(base:Heap)(CX:YX)(k:Nat)(f:Addr)(fd:FuncData)(ps:Ye)(sp:Sp):Prop where
 len: ∀vs H Q E,sp vs H Q E->vs.length=ps.length
 run: ∀(A:Around)(outer:List Env)(s:Shared)(H:Hp)(args:Args)(us:Yb)(vs:List V)(Q:VK)(E:XK),Room k A->Env0 P w K mg base A outer s H->BindsTo s fd args (ps.zip us)->Vals vs us->sp vs H Q E->
  codeAny (model P w) A (.call (.ref f) args) (CR CX outer P w H s Q E) s
def FnOk.imp{P:Program}{w:World}{K:Zb}{mg:Yg}{base:Heap}{CX:YX}{k:Nat}{f:Addr}{fd:FuncData}{ps:Ye}{sp sp':Sp}(F:FnOk P w K mg base CX k f fd ps sp)
  (h: ∀vs H Q E,sp' vs H Q E->sp vs H Q E):FnOk P w K mg base CX k f fd ps sp':=
 ⟨λvs H Q E q=>F.len vs H Q E (h _ _ _ _ q),λA outer s H args us vs Q E hr he hb hv hs=>F.run A outer s H args us vs Q E hr he hb hv (h _ _ _ _ hs)⟩
def Env0.make{P:Program}{w:World}{K:Zb}{mg:Yg}{base:Heap}{A:Around}{outer:List Env}{s:Shared}{H:Hp}(e:Env0 P w K mg base A outer s H)(C:Addr)(us:Yb)(kw:List (Str×Value)):
  Env0 P w K mg base (A.under (.builtin "type.__call__" ⟨.ref C::us,kw⟩)) outer s H:=⟨by first |exact e.frames|(simpa [Around.under,Code.envs,Code.isFrame,pushEnvs]using e.frames),e.mod,e.bs,e.bsz,e.funs,e.frf,e.hok,e.bare⟩
def Env0.in1{P:Program}{w:World}{K:Zb}{mg:Yg}{base:Heap}{A:Around}{outer:List Env}{s:Shared}{H:Hp}(e:Env0 P w K mg base A outer s H):
  Env0 P w K mg base A.in1 outer s H:=⟨e.frames,e.mod,e.bs,e.bsz,e.funs,e.frf,e.hok,e.bare⟩
section
variable{X:Cx}{pins:Yi}{σ:St}{H:Hp}{s s':Shared}
def Inv.env0(I:Inv X pins σ H s):Env0 X.prog X.w X.K X.mg X.base X.A X.stack s H:=
 ⟨I.ok.frames,I.ok.mod,I.bs,le_trans I.ok.bsz I.sz,I.stack,I.stkFree,I.hok,I.bare⟩
def Inv.after{Q:VK}{u:Value}(I:Inv X pins σ H s)(h:CE X.stack X.prog X.w H s Q u s'):EP X pins σ Q u s':=by obtain⟨v,H',os,bare,un,hok,r,q⟩:=h;obtain⟨hh,g,d,t,os'⟩:=s';obtain rfl:os'=s.os:=os;exact⟨v,H',I.call (h':=hh) (g':=g) (d':=d) (t':=t) (ch:=[]) un hok bare (λb z=>absurd z (by simp)),r,q⟩
end
def Uz(sp:Sp)(dvs:List V)(E:XK)(t:TA):TE:=λσ H Q=>t σ H λvs H1=>sp (vs++dvs) H1 Q E
def Binds(K:Zb)(fd:FuncData)(ps:Ye)(ds:Yb):Prop:=
 ∀(s:Shared)(us:Yb),K.In s.heap->(us++ds).length=ps.length->BindsTo s fd ⟨us,[]⟩ (ps.zip (us++ds))
def Binds.all{K:Zb}{fd:FuncData}{ps:Ye}(h: ∀us:List Value,us.length=ps.length->bindArgs fd ⟨us,[]⟩=pure (ps.zip us)):Binds K fd ps []:=λs us _ hl=>by rw[aN]at hl ⊢;exact .of_eq (h us hl)
def LA(CX:YX)(X:Cx)(E:XK):Prop:= ∀(pins:Yi)(σ:St)(H:Hp)(s:Shared)(e:Value)(s':Shared),Inv X pins σ H s->CX X.stack H s E e s'->X.xe e s'
section
variable{X:Cx}{CX:YX}{k:Nat}{f:Addr}{fd:FuncData}{ps:Ye}{sp:Sp}{dvs:List V}{ds:Yb}{E:XK}{x:Str}{p pos:Pos}{e:Expr}{es:Za}{t:TA}
def Qe{pins:Yi}{σ:St}{H:Hp}{s:Shared}{Q:VK}{us:Yb}{vs:List V}(F:FnOk X.prog X.w X.K X.mg X.base CX k f fd ps sp)(hr:Room k X.A)(hb:Binds X.K fd ps ds)(hd:Vals dvs ds)(hx:LA CX X E)
  (I:Inv X pins σ H s) (r:Vals vs us) (h:sp (vs++dvs) H Q E):wpAny (model X.prog X.w) X.A (call (.ref f) us) (EP X pins σ Q) X.xe s:=by
 have r2:Vals (vs++dvs) (us++ds):=r.append hd;have hl:(us++ds).length=ps.length:=by rw[<-r2.length];exact F.len _ _ _ _ h
 refine wpAny_call (codeAny_mono (F.run X.A X.stack s H ⟨us,[]⟩ (us++ds) (vs++dvs) Q E hr I.env0 (hb s us I.kIn hl) r2 h) λr s' hq=>?_)
 cases r with
 |error e=>exact hx pins σ H s e s' I hq
 |ok fl=>
  cases fl with
  |ret u=>exact I.after hq
  |next=>exact False.elim hq
  |brk=>exact False.elim hq
  |cont=>exact False.elim hq
def VB(F:FnOk X.prog X.w X.K X.mg X.base CX k f fd ps sp)(hr:Room k X.A)(hg:Gl X x)(hm:X.mg x=some (.ref f))(hk:PySem.W.keepIn X.K (.ref f)=true)(hb:Binds X.K fd ps ds)(hd:Vals dvs ds)(hx:LA CX X E)
  (ha:PA X (e::es) t) (hdb:(x==("__debug__":Str))=false:=by decide) (he:starEach (e::es) X.env=(false,eval e X.env)::starEach es X.env:=by rfl) (hpl:(backTo pos (starEach es X.env)).any (·.1)=false:=by rfl):
  PE X (.Call (.Name x p) (e::es) [] pos) (Uz sp dvs E t):=by
 intro pins s σ H Q I h;refine wpAny_Call_Name_kw (qA I hg hm ?_ hdb);refine PySem.W.callWith_K (h₀:=X.base) I.ok.mod.kin hk (jX (ha pos pins s σ H _ I h) λus s1 ⟨vs,H1,I1,r,q⟩=>⟨I1.kIn,?_⟩) he hpl;exact Qe F hr hb hd hx I1 r q
end
structure FnScope(N P:Ye)(sc:Scope):Prop where
 kind:sc.kind=.function
 co:sc.isCoroutine=false
 gen:sc.isGenerator=false
 nd:N.Nodup
 pre:N.take P.length=P
 par: ∀x∈P,sc.names.lookup x=some .local\/sc.names.lookup x=some .cell
 nofree: ∀y∈sc.names,y.2≠.free
def fsK{N P:Ye}{sc:Scope}(h:N.Nodup/\N.take P.length=P/\(∀x∈P,sc.names.lookup x=some .local\/sc.names.lookup x=some .cell)/\∀y∈sc.names,y.2≠.free)(a:sc.kind=.function:=by rfl)(b:sc.isCoroutine=false:=by rfl)(c:sc.isGenerator=false:=by rfl):FnScope N P sc:=⟨a,b,c,h.1,h.2.1,h.2.2.1,h.2.2.2⟩
theorem IY{kindOf:Str->Option NameKind}{x:Str}: ∀{binds:List (Str×Value)}{m:Yg},(∀v,(x,v)∉binds)->bindL kindOf binds m x=m x
 |[],_,_=>rfl
 |(n,v)::r,m,h=>by
  unfold bindL;rw[IY λw hw=>h w (mO _ hw)];split
  .have:x≠n:=by rintro rfl;exact h v mF0
   simp[this]
  .rfl
theorem IZ{kindOf:Str->Option NameKind}{x:Str}: ∀{binds:List (Str×Value)}{m:Yg},(∀v,(x,v)∉binds)->bindC kindOf binds m x=m x
 |[],_,_=>rfl
 |(n,v)::r,m,h=>by
  unfold bindC;rw[IZ λw hw=>h w (mO _ hw)];split
  .rfl
  .have:x≠n:=by rintro rfl;exact h v mF0
   simp[this]
theorem JA{kindOf:Str->Option NameKind}{x:Str}{v:Value}: ∀{P:Ye}{vs:Yb}{i:Nat}{m:Yg},P.Nodup->P[i]? =some x->vs[i]? =some v->kindOf x=some .local->
  bindL kindOf (P.zip vs) m x=some v
 |[],_,_,_,_,h,_,_=>by simp at h
 |_::_,[],_,_,_,_,h,_=>by simp at h
 |p::P,w::vs,0,m,nd,h1,h2,hk=>by simp at h1 h2;subst h1;subst h2;show bindL kindOf ((p,w)::P.zip vs) m p=_;unfold bindL;rw[IY λv hv=>(nodup_cons.mp nd).1 (of_mem_zip hv).1,iP hk];simp
 |p::P,w::vs,i+1,m,nd,h1,h2,hk=>by show bindL kindOf ((p,w)::P.zip vs) m x=_;unfold bindL;exact JA (i:=i) (nodup_cons.mp nd).2 (by simpa using h1) (by simpa using h2) hk
theorem JB{kindOf:Str->Option NameKind}{x:Str}{v:Value}: ∀{P:Ye}{vs:Yb}{i:Nat}{m:Yg},P.Nodup->P[i]? =some x->vs[i]? =some v->kindOf x≠some .local->
  bindC kindOf (P.zip vs) m x=some v
 |[],_,_,_,_,h,_,_=>by simp at h
 |_::_,[],_,_,_,_,h,_=>by simp at h
 |p::P,w::vs,0,m,nd,h1,h2,hk=>by simp at h1 h2;subst h1;subst h2;show bindC kindOf ((p,w)::P.zip vs) m p=_;unfold bindC;rw[IZ λv hv=>(nodup_cons.mp nd).1 (of_mem_zip hv).1,iN0 hk];simp
 |p::P,w::vs,i+1,m,nd,h1,h2,hk=>by show bindC kindOf ((p,w)::P.zip vs) m x=_;unfold bindC;exact JB (i:=i) (nodup_cons.mp nd).2 (by simpa using h1) (by simpa using h2) hk
def start(N:Ye)(vs:List V):St:=vs.map some++List.replicate (N.length - vs.length) none
def FB(CX:YX)(P:Program)(w:World)(K:Zb)(mg:Yg)(base:Heap)(N:Ye)(qual:Str)(scope:Scope)(f:Addr)(cd:Value)(A:Around)(outer:List Env)(s:Shared)(H:Hp)(E:XK):Cx where
 prog:=P
 w:=w
 K:=K
 mg:=mg
 base:=base
 A:=A.deeper (envOfC qual scope s.heap.objs.size f cd)
 N:=N
 s₀:=s
 H₀:=H
 env:=envOfC qual scope s.heap.objs.size f cd
 outer:=outer
 stack:=envOfC qual scope s.heap.objs.size f cd::outer
 ex:=[]
 calm:=true
 fn:=λ_=>true
 pn:=[]
 xe:=λe s'=>wpAny (model P w) (A.deeper (envOfC qual scope s.heap.objs.size f cd)) (leaving (envOfC qual scope s.heap.objs.size f cd) e) (λ_ s''=>CX outer H s E e s'') (λe' s''=>CX outer H s E e' s'') s'
def OG{sc:Scope}{n:Nat}{x:Str}(h:sc.names.lookup x=some .cell): ∃c,(cellsFrom n sc.names []).lookup x=some c:=by have q:=PySem.W.cellsFrom_some sc.names n [] (.inl h);exact Option.isSome_iff_exists.mp q
def JC{CX:YX}{P:Program}{w:World}{K:Zb}{mg:Yg}{base:Heap}{N ps:Ye}{qual:Str}{scope:Scope}{f:Addr}{cd:Value}{A:Around}{outer:List Env}{s s1:Shared}{H:Hp}{E:XK}{us:Yb}{vs:List V}
  (S:FnScope N ps scope) (hd:A.handled=none) (e0:Env0 P w K mg base A outer s H) (hl:vs.length=ps.length) (r:Vals vs us)
  (x:InCallC s s.heap.objs.size (bindL (envOfC qual scope s.heap.objs.size f cd).kindOf (ps.zip us) λ_=>none) (cellsFrom (s.heap.objs.size+1) scope.names []) (bindC (envOfC qual scope s.heap.objs.size f cd).kindOf (ps.zip us) λ_=>none) s1):
  Inv (FB CX P w K mg base N qual scope f cd A outer s H E) [] (start N vs) H s1:=by
 have hpl:ps.length<=N.length:=by have:=congrArg List.length S.pre;rw[lT]at this;omega
 obtain⟨h1,tk,rfl,hk⟩:=x.done;have noA: ∀b:Addr,b∉(FB CX P w K mg base N qual scope f cd A outer s H E).ex:=λb z=>absurd (show b∈([]:Yd)from z) (by simp)
 refine⟨⟨e0.mod,S.kind,rfl,rfl,le_refl _,λy z c h1 h2=>?_,λy hy=>?_,λy c _ h=>?_,λ_=>hd,Around.frames_deeper e0.frames,.inr ⟨rfl,rfl⟩,λb z=>absurd z (noA b),e0.bs,e0.bsz,λb _ _=>noA b,λb z=>absurd z (noA b),e0.funs,e0.frf⟩,
  rfl,e0.bare,Un.kept hk,⟨_,x.toInCall.ns,λi y v h1 h2 h3=>?_⟩,λy c h=>⟨_,x.cell y c h⟩,e0.hok.fresh (le_refl _),λy c h=>?_,λp hp=>absurd (show p∈([]:Yi)from hp) (by simp),e0.hok.kept hk,?_⟩
 .exact name_of_addr x.apart (PySem.mem_of_lookup h1) (PySem.mem_of_lookup h2)
 .have hy:scope.names.lookup y=some .cell\/scope.names.lookup y=some .free:=hy;rcases hy with hy|hy
  .exact OG hy
  .exact absurd rfl (S.nofree _ (PySem.mem_of_lookup hy))
 .exact le_of_lt (x.above y c (PySem.mem_of_lookup h))
 .have hi:i<vs.length:=by
   unfold start at h2;by_cases hi:i<vs.length
   .exact hi
   .rw[getElem?_append_right (by simpa using hi)]at h2;rw[List.getElem?_replicate]at h2;split at h2<;>cases h2
  have ha:vs[i]? =some v:=by
   unfold start at h2;rw[getElem?_append_left (by simpa using hi),getElem?_map]at h2
   cases e:vs[i]? with
   |none=>rw[e]at h2;cases h2
   |some a=>rw[e]at h2;cases h2;rfl
  obtain⟨u,hu,rv⟩:=r.get ha;have hp:ps[i]? =some y:=by rw[<-S.pre,List.getElem?_take_of_lt (by omega)];exact h1
  have ndP:ps.Nodup:=by rw[<-S.pre];exact S.nd.sublist (List.take_sublist _ _)
  refine⟨u,rv,?_⟩;rcases S.par y (mem_of_getElem? hp)with k|k
  .exact .inl ⟨k,JA ndP hp hu k⟩
  .obtain⟨c,e⟩:=OG (n:=s.heap.objs.size+1) k;refine .inr ⟨.inl k,c,e,?_⟩;have q:=x.cell y c e;rw[JB ndP hp hu (by show scope.names.lookup y≠_;rw[k];decide)]at q;exact q
 .exact e0.hok.fresh (le_of_lt (x.above y c (PySem.mem_of_lookup h)))
 .unfold start;show _=N.length;rw[lA,lM0,length_replicate];omega
def Nu{CX:YX}{P:Program}{w:World}{K:Zb}{mg:Yg}{base:Heap}{k:Nat}{f:Addr}{name qual:Str}{params:Arguments}{body:List Stmt}{scope:Scope}{dV kV doc pm cdv ct oc:Value}{an od:Option Addr}
  {osl:Array (Option Value)} {N ps:Ye} {sp:Sp} (lk:K.lookup f=some ⟨oc,od,.func (PySem.W.fnOf name qual params body scope dV kV doc pm an cdv ct),osl⟩) (hcd:PySem.W.codeIn K cdv qual=true) (S:FnScope N ps scope)
  (len: ∀vs H Q E,sp vs H Q E->vs.length=ps.length)
  (hbody: ∀(A:Around)(outer:List Env)(s:Shared)(H:Hp)(vs:List V)(Q:VK)(E:XK),Room k (A.deeper (envOfC qual scope s.heap.objs.size f cdv))->sp vs H Q E->
   ∃t,PSs (FB CX P w K mg base N qual scope f cdv A outer s H E) body t/\t {nx:=λ_ H'=>Q .non H',rt:=Q} (start N vs) H):
  FnOk P w K mg base CX (k+1) f (PySem.W.fnOf name qual params body scope dV kV doc pm an cdv ct) ps sp:=by
 refine⟨len,λA outer s H args us vs Q E hr e0 hb r hsp=>?_⟩;have hl:=len _ _ _ _ hsp;have KX:K.In s.heap:=e0.mod.kin.keeps λb o e=>(e0.bs b o e).1;have lim:s.heap.NoLimit:=e0.mod.nolimit.keeps λb o e=>(e0.bs b o e).1
 have hkind: ∀y∈ps.zip us,scope.names.lookup y.1=some .local\/(scope.names.lookup y.1=some .cell/\((cellsFrom (s.heap.objs.size+1) scope.names []).lookup y.1).isSome=true):=λ⟨n,v⟩ hy=>by
  rcases S.par n (of_mem_zip hy).1 with q|q
  .exact .inl q
  .exact .inr ⟨q,PySem.W.cellsFrom_some _ _ _ (.inl q)⟩
 refine codeAny_call_function hr.depth (KX _ _ lk) rfl S.co S.gen rfl (PySem.W.codeRec_of KX hcd) (hb _ _ _ _ ?_);refine wpAny_newFunctionEnv_cells S.kind hkind λenv he s1 x=>?_;subst he;refine⟨lim.keeps x.toInCall.keep,codeAny_func ?_⟩;obtain⟨t,ht,hq⟩:=hbody A outer s H vs Q E (hr.deeper _) hsp;have I:Inv (FB CX P w K mg base N qual scope f cdv A outer s H E) [] (start N vs) H s1:=JC S hr.hd e0 hl r x;refine wpAny_mono (ht [] s1 (start N vs) H _ I hq) (λfl s' hs=>?_) λe s' hs=>hs
 have fin: ∀{σ':St}{H':Hp}{v:V}{u:Value},Inv (FB CX P w K mg base N qual scope f cdv A outer s H E) [] σ' H' s'->RelV v u->Q v H'->CE outer P w H s Q u s':=
  λ{σ' H' v u} J rv q=>⟨v,H',J.os,J.bare,J.base,J.hok,rv,q⟩
 cases fl with
 |ret u=>
  obtain⟨v,σ',H',J,rv,q⟩:=hs;exact fin J rv q
 |next=>
  obtain⟨σ',H',J,q⟩:=hs;exact fin (v:=V.non) (u:=Value.none) J rfl q
 |brk=>
  obtain⟨_,_,_,q⟩:=hs;exact False.elim q
 |cont=>
  obtain⟨_,_,_,q⟩:=hs;exact False.elim q
section
variable{X:Cx}{x:Str}{p pos:Pos}{e:Expr}{es:Za}{t:TA}{id T:String}{r:List V->Hp->VK->Prop}
def tCB(r:List V->Hp->VK->Prop)(t:TA):TE:=λσ H Q=>t σ H λvs H1=>r vs H1 Q
def FC(hc:CallR X (.builtin id) r)(hg:Gl X x)(hm:X.mg x=none)(hv:bootBuiltins x=some (.builtin id))(ha:PA X (e::es) t)(hn:x≠"__name__":=by decide)(hdb:(x==("__debug__":Str))=false:=by decide)
  (he:starEach (e::es) X.env=(false,eval e X.env)::starEach es X.env:=by rfl) (hpl:(backTo pos (starEach es X.env)).any (·.1)=false:=by rfl):PE X (.Call (.Name x p) (e::es) [] pos) (tCB r t):=by
 intro pins s σ H Q I h;refine wpAny_Call_Name_kw (EW I hg hm hv ?_ hn hdb);exact PyProof.Rows.callWith_builtin1 (jX (ha pos pins s σ H _ I h) λus s1 ⟨vs,H1,I1,r1,q1⟩=>hc pins s1 σ H1 vs us Q I1 r1 q1) he hpl
def YY(hc:CallR X (.type T) r)(hg:Gl X x)(hm:X.mg x=none)(hv:bootBuiltins x=some (.type T))(ha:PA X (e::es) t)(hn:x≠"__name__":=by decide)(hdb:(x==("__debug__":Str))=false:=by decide)
  (he:starEach (e::es) X.env=(false,eval e X.env)::starEach es X.env:=by rfl) (hpl:(backTo pos (starEach es X.env)).any (·.1)=false:=by rfl):PE X (.Call (.Name x p) (e::es) [] pos) (tCB r t):=by
 intro pins s σ H Q I h;refine wpAny_Call_Name_kw (EW I hg hm hv ?_ hn hdb);exact PyProof.Rows.callWith_type1 (jX (ha pos pins s σ H _ I h) λus s1 ⟨vs,H1,I1,r1,q1⟩=>hc pins s1 σ H1 vs us Q I1 r1 q1) he hpl
end
end L2
namespace HT
open PySem PyProof.Rows
section
variable{prog:Program}{w:World}{A:Around}{E:VP}{s:Shared}
def cat_tup{t b:Addr}{vs ws:Yb}{Q:VP}(ht:IsTup s.heap t vs.toArray)(hb:IsTup s.heap b ws.toArray)(hv:vs≠[])
  (h1:ws=[]->Q (.ref t) s) (h2:ws≠[]->Q (.ref s.heap.objs.size) {s with heap:=s.heap.push {cls:=.type "tuple",data:=.seq (vs++ws).toArray}})
  (hsz:vs.length+ws.length<=sizeLine):wpAny (model prog w) A (binaryOp .Add (.ref t) (.ref b)) Q E s:=by
 obtain⟨⟨cls,dd,data,sl⟩,ho,hc,n,hd⟩:=id ht;obtain⟨⟨cls2,dd2,data2,sl2⟩,ho2,hc2,n2,hd2⟩:=id hb;simp only at hc hd hc2 hd2;subst hc hd hc2 hd2;have e:vs.toArray++ws.toArray=(vs++ws).toArray:=by simp
 by_cases hw:ws=[]
 .exact concat_meets ⟨_,ho,rfl⟩ ⟨_,ho2,rfl⟩ noFill_tuple_add seq_tuple_add PySem.F.slot_tuple_add PySem.F.entry_tuple_add (PySem.F.args_tuple_add_2 _ _)
   (tuple_addW1 t b vs.toArray ws.toArray n n2 dd dd2 sl sl2 (by simpa using hv) (by simp[hw])) ⟨ho,ho2,h1 hw⟩
 .refine concat_meets ⟨_,ho,rfl⟩ ⟨_,ho2,rfl⟩ noFill_tuple_add seq_tuple_add PySem.F.slot_tuple_add PySem.F.entry_tuple_add (PySem.F.args_tuple_add_2 _ _)
   (tuple_addW2 t b vs.toArray ws.toArray n n2 dd dd2 sl sl2 (by simpa using hv) (by simpa using hw) (by rw[sA,sA];exact hsz)) ⟨ho,ho2,?_⟩
  rw[e];exact h2 hw
def sIx(n d:Nat):Option Int->Nat
 |none=>d
 |some v=>if v<0 then(v+(n:Int)).toNat else min v.toNat n
def sIx_nat(n d k:Nat):sIx n d (some (k:Int))=min k n:=by show(if(k:Int)<0 then((k:Int)+(n:Int)).toNat else min (k:Int).toNat n)=min k n;rw[iN0 (by omega),toNat_natCast]
def sIx_le(n d:Nat)(hd:d<=n)(o:Yk):sIx n d o<=n:=by
 cases o with
 |none=>exact hd
 |some v=>
  show(if v<0 then(v+(n:Int)).toNat else min v.toNat n)<=n;by_cases hv:v<0
  .rw[iP hv];omega
  .rw[iN0 hv];exact Nat.min_le_right _ _
def VC(v:Int)(n d:Nat):(if v<0 then max (v+(n:Int)) 0 else min v (n:Int))=((sIx n d (some v):Nat):Int):=by
 show(if v<0 then max (v+(n:Int)) 0 else min v (n:Int))=(((if v<0 then(v+(n:Int)).toNat else min v.toNat n):Nat):Int)
 by_cases hv:v<0
 .simp only[iP hv];omega
 .simp only[iN0 hv];omega
def SC(lo hi:Yk)(n:Nat):Builtin.Slice.sliceAdjust lo hi 1 (n:Int)=(((sIx n 0 lo:Nat):Int),((sIx n n hi:Nat):Int)):=by
 have h1: ¬((1:Int)<0):=by omega
 unfold Builtin.Slice.sliceAdjust;simp only[h1,iF];refine Prod.ext ?_ ?_
 .cases lo with
  |none=>rfl
  |some v=>exact VC v n 0
 .cases hi with
  |none=>rfl
  |some v=>exact VC v n n
def SD(i j:Nat):Builtin.Slice.slicePlaces (i:Int) (j:Int) 1=j - i:=by
 unfold Builtin.Slice.slicePlaces;have h1:(1:Int)>0:=by omega
 simp only[h1,if_true,Int.ediv_one];split<;>omega
def FD{v:Value}{o:Yk}{Q:Option Int->Shared->Prop}(p:IsPart v o)(h:Q o s):wpAny (model prog w) A (Builtin.Slice.slicePartIndex v) Q E s:=by
 cases p with
 |none=>exact slicePart_none h
 |int i t=>exact slicePart_int h
def sliceApplied_gen{sl:Addr}{vl vu:Value}{lo hi:Yk}{n:Nat}{Q:Int×Int×Nat->Shared->Prop}(hs:s.heap.IsSliceOf sl vl vu .none)(pl:IsPart vl lo)(pu:IsPart vu hi)
  (h:Q (((sIx n 0 lo:Nat):Int),1,sIx n n hi - sIx n 0 lo) s):wpAny (model prog w) A (Builtin.Slice.sliceApplied (.ref sl) (pure (n:Int))) Q E s:=by
 obtain⟨os,hos,hcs,hds⟩:=id hs;unfold Builtin.Slice.sliceApplied Builtin.Slice.sliceFields;refine wB (wB (wpAny_field hos hds (x:=vl) rfl (wB (wpAny_field hos hds (x:=vu) rfl (wB (wpAny_field hos hds (x:=.none) rfl (wP ?_)))))));refine wB (slicePart_none ?_);show wpAny _ _ (if((1:Int)==0)=true then _ else _) _ _ s;rw[iN0 (by decide)];refine wB (FD pl (wB (FD pu (wB (wP ?_)))));show wpAny _ _ (match Builtin.Slice.sliceAdjust lo hi 1 (n:Int)with |(lo,hi)=>pure (lo,(1:Int),Builtin.Slice.slicePlaces lo hi 1)) _ _ s;rw[SC lo hi n];show wpAny _ _ (pure (((sIx n 0 lo:Nat):Int),(1:Int),Builtin.Slice.slicePlaces ((sIx n 0 lo:Nat):Int) ((sIx n n hi:Nat):Int) 1)) _ _ s;rw[SD];exact wP h
def Br(xs:Yc)(i k:Nat):((List.range k).filterMap λ(m:Nat)=>xs[((i:Int)+(m:Int) * 1).toNat]?).toArray=((xs.toList.drop i).take k).toArray:=by
 have e:(λ(m:Nat)=>xs[((i:Int)+(m:Int) * 1).toNat]?)=λm=>xs[i+m]? :=by
  funext m;have:((i:Int)+(m:Int) * 1).toNat=i+m:=by omega
  rw[this]
 rw[e];have:=pick_run xs i k;rw[List.filterMap_map]at this;have e2:((λx=>xs[x]?)∘λx=>i+x)=λm=>xs[i+m]? :=rfl;rw[e2]at this;rw[this]
def getItem_tuple_cut{t sl:Addr}{items:Yc}{vl vu:Value}{lo hi:Yk}{Q:VP}(ht:IsTup s.heap t items)(hs:s.heap.IsSliceOf sl vl vu .none)(pl:IsPart vl lo)(pu:IsPart vu hi)
  (hw: ¬(sIx items.size 0 lo=0/\sIx items.size items.size hi=items.size))
  (h:Q (.ref s.heap.objs.size) {s with heap:=s.heap.push {cls:=.type "tuple",data:=.seq ((items.toList.drop (sIx items.size 0 lo)).take (sIx items.size items.size hi - sIx items.size 0 lo)).toArray}})
  (hsz:items.size<=sizeLine):wpAny (model prog w) A (getItem (.ref t) (.ref sl)) Q E s:=by
 have htake:sizeOk (.seq ((items.toList.drop (sIx items.size 0 lo)).take (sIx items.size items.size hi - sIx items.size 0 lo)).toArray):=by show((items.toList.drop (sIx items.size 0 lo)).take (sIx items.size items.size hi - sIx items.size 0 lo)).toArray.size<=sizeLine;rw[sA,lT,length_drop,Array.length_toList];omega
 have hj:sIx items.size items.size hi<=items.size:=sIx_le _ _ (le_refl _) hi;obtain⟨os,hos,hcs,hds⟩:=id hs;have hTs:s.TypeIs (.ref sl) "slice":=⟨os,hos,hcs⟩
 unfold getItem
 try with_reducible refine wpAny_holding ?_
 first |refine wB (wP ?_)|skip
 refine wB (wpAny_sequenceKey ht.typeIs (by decide) ?_)
 refine wB (wpAny_callSpecial?_slot (name:=Str.ofString "__getitem__") ht.typeIs PyProof.Rows.slot_tuple_getitem
  (wpAny_call_entry PyProof.Rows.slot_tuple_getitem ht.typeIs entry_tuple_getitem ?_ (args_tuple_getitem _ _)))
 show wpAny _ _ (Builtin.Tuple.tupleItemsOf (.ref t) >>= _) _ _ s;refine wB (tupleItemsOf_ ht ?_);refine wB (wpAny_typeOf hTs ?_);rw[iP (by decide)];refine wB (sliceApplied_gen hs pl pu ?_);have hno: ¬((((sIx items.size 0 lo:Nat):Int)==0&&(1:Int)==1&&(sIx items.size items.size hi - sIx items.size 0 lo)==items.size)=true):=by intro q;rw[aE,aE]at q;have q1:((sIx items.size 0 lo:Nat):Int)=0:=eq_of_beq q.1.1;have q2:sIx items.size items.size hi - sIx items.size 0 lo=items.size:=eq_of_beq q.2;exact hw ⟨by omega,by omega⟩
 show wpAny _ _ (if(((sIx items.size 0 lo:Nat):Int)==0&&(1:Int)==1&&(sIx items.size items.size hi - sIx items.size 0 lo)==items.size)=true then _ else _) _ _ s;rw[iN0 hno,Br]
 first
  |exact wB (m:=Builtin.Tuple.tupleExact _) (wpAny_newObj_type (wP ⟨_,rfl,wP h⟩) htake)
  |exact wB (m:=Builtin.Tuple.tupleExact _) (wpAny_newObj_type (wB (wP (wP ⟨_,rfl,wP h⟩))) htake)
  |exact wB (wB (m:=Builtin.Tuple.tupleExact _) (wpAny_newObj_type (wP (wP ⟨_,rfl,wP h⟩)) htake))
  |exact wB (wB (m:=Builtin.Tuple.tupleExact _) (wpAny_newObj_type (wP ⟨_,rfl,wP h⟩) htake))
end
end HT
namespace L2
open PySem PySem.Spec PyProof.Rows
abbrev TO:=St->Hp->(Option Int->Hp->Prop)->Prop
def PO(X:Cx)(e:Option Expr)(t:TO):Prop:=
 ∀(pins:Yi)(s:Shared)(σ:St)(H:Hp)(Q:Option Int->Hp->Prop),Inv X pins σ H s->t σ H Q->
  wpAny (model X.prog X.w) X.A (evalPart e X.env) (λu s'=> ∃o H',Inv X pins σ H' s'/\IsPart u o/\Q o H') X.xe s
def Io:TO:=λ_ H Q=>Q none H
def Va(t:TE):TO:=λσ H Q=>t σ H λx H1=> ∃i,x=.int i/\Q (some i) H1
section
variable{X:Cx}{e:Expr}{te:TE}{lo hi:Option Expr}{tl th:TO}{pos p2:Pos}
def Ip:PO X none Io:=by intro pins s σ H Q I h;rw[evalPart_none];exact wP ⟨none,H,I,.none,h⟩
def Iq(h:PE X e te):PO X (some e) (Va te):=by intro pins s σ H Q I hw;rw[evalPart_some];refine jX (h pins s σ H _ I hw) λu s1 ⟨x,H1,I1,r1,q1⟩=>?_;obtain⟨i,rfl,q⟩:=q1;obtain⟨t,rfl⟩:=r1;exact⟨some i,H1,I1,.int i t,q⟩
def SlR(X:Cx)(r:V->Option Int->Option Int->Hp->VK->Prop):Prop:=
 ∀(pins:Yi)(s:Shared)(σ:St)(H:Hp)(x:V)(v vl vu:Value)(lo hi:Yk)(sl:Addr)(Q:VK),Inv X pins σ H s->RelV x v->s.heap.IsSliceOf sl vl vu .none->IsPart vl lo->IsPart vu hi->r x lo hi H Q->
  ∃T id,typeLookup (.type T) "__getitem__"=pure (some (.builtin id))/\s.TypeIs v T/\wpAny (model X.prog X.w) X.A (getItem v (.ref sl)) (EP X pins σ Q) X.xe s
def SlR.or{r r':V->Option Int->Option Int->Hp->VK->Prop}(h:SlR X r)(h':SlR X r'):SlR X (λx lo hi H Q=>r x lo hi H Q\/r' x lo hi H Q):=by
 intro pins s σ H x v vl vu lo hi sl Q I rx hs pl pu q;rcases q with q|q
 .exact h pins s σ H x v vl vu lo hi sl Q I rx hs pl pu q
 .exact h' pins s σ H x v vl vu lo hi sl Q I rx hs pl pu q
def tSl(r:V->Option Int->Option Int->Hp->VK->Prop)(te:TE)(tl th:TO):TE:=λσ H Q=>te σ H λx H1=>tl σ H1 λl H2=>th σ H2 λu H3=>r x l u H3 Q
def Bs{r:V->Option Int->Option Int->Hp->VK->Prop}(hr:SlR X r)(he:PE X e te)(hl:PO X lo tl)(hu:PO X hi th):PE X (.Subscript e (.Slice lo hi none p2) pos) (tSl r te tl th):=by intro pins s σ H Q I h;refine Subscript_ (jX (he pins s σ H _ I h) λv s1 ⟨x,H1,I1,r1,q1⟩=>?_);refine wpAny_Slice (jX (hl pins s1 σ H1 _ I1 q1) λvl s2 ⟨l,H2,I2,pl,q2⟩=>jX (hu pins s2 σ H2 _ I2 q2) λvu s3 ⟨u,H3,I3,pu,q3⟩=>?_);rw[evalPart_none];refine wP ?_;have I4:Inv X pins σ H3 {s3 with heap:=s3.heap.push {cls:=.type "slice",data:=.fields #[vl,vu,.none]}}:=I3.kept (t':=s3.toks) λb ob q=>hP0 _ q;obtain⟨T,id,hT,ht,hg⟩:=hr pins {s3 with heap:=s3.heap.push {cls:=.type "slice",data:=.fields #[vl,vu,.none]}} σ H3 x v vl vu l u s3.heap.objs.size Q I4 r1 (Heap.IsSliceOf.new ..) pl pu q3;show wpAny (model X.prog X.w) X.A (subscriptTail e (.Slice lo hi none p2) v (.ref s3.heap.objs.size)) (EP X pins σ Q) X.xe {s3 with heap:=s3.heap.push {cls:=.type "slice",data:=.fields #[vl,vu,.none]}};exact tail_any (ops:=[.ref s3.heap.objs.size,v]) ht hT hg (by with_unfolding_all rfl)
def OH(xs:List V)(lo hi:Yk):List V:=(xs.drop (HT.sIx xs.length 0 lo)).take (HT.sIx xs.length xs.length hi - HT.sIx xs.length 0 lo)
def DD(xs:List V)(lo hi:Yk):(OH xs lo hi).length<=xs.length:=by unfold OH;rw[lT,length_drop];omega
def rSlT(K:Zb):V->Option Int->Option Int->Hp->VK->Prop:=λx lo hi H Q=> ∃a xs,x=.ref a/\SqT K H a xs/\
 ¬(HT.sIx xs.length 0 lo=0/\HT.sIx xs.length xs.length hi=xs.length)/\ ∀p,H p=none->Q (.ref p) (xI H p (.tup (OH xs lo hi)))
def Qf:SlR X (rSlT X.K):=by
 intro pins s σ H x v vl vu lo hi sl Q I rx hs pl pu h;obtain⟨a,xs,rfl,hx,hw,q⟩:=h;cases rx;obtain⟨its,r,ht,hz⟩:=I.tuple hx;have hlen:its.toArray.size=xs.length:=by rw[sA];exact r.length.symm
 refine⟨"tuple",_,PyProof.Rows.slot_tuple_getitem.lookup,ht.typeIs,?_⟩;refine HT.getItem_tuple_cut ht hs pl pu (by rw[hlen];exact hw) ?_ (by rw[hlen];exact hz);rw[hlen];refine⟨.ref s.heap.objs.size,_,I.laid (t':=s.toks) (o:=.tup (OH xs lo hi)) (λb ob q=>hP0 _ q) (le_refl _) ?_,rfl,q _ (I.hok.fresh (le_refl _))⟩;exact⟨le_trans (DD xs lo hi) hz,_,(r.drop (HT.sIx xs.length 0 lo)).take (HT.sIx xs.length xs.length hi - HT.sIx xs.length 0 lo),IsTup.new _ _⟩
def Vb(K:Zb):R2:=λx y H Q=> ∃a b xs ys,x=.ref a/\y=.ref b/\SqT K H a xs/\SqT K H b ys/\xs≠[]/\xs.length+ys.length<=sizeLine/\
 (ys=[]->Q (.ref a) H)/\(ys≠[]-> ∀p,H p=none->Q (.ref p) (xI H p (.tup (xs++ys))))
def Vals.nil_iff{xs:List V}{us:Yb}(r:Vals xs us):us=[]↔xs=[]:=by
 cases r with
 |nil=>simp
 |cons _ _=>simp
def Ir:OpR X (binaryOp .Add) (Vb X.K):=by intro pins s σ H x y v u Q I rx ry h;obtain⟨a,b,xs,ys,rfl,rfl,ha,hb,hx,hz,q1,q2⟩:=h;cases rx;cases ry;obtain⟨its,r1,p1,_⟩:=I.tuple ha;obtain⟨its2,r2,p2,_⟩:=I.tuple hb;refine HT.cat_tup p1 p2 (λz=>hx (r1.nil_iff.mp z)) (λz=>⟨.ref a,H,I,rfl,q1 (r2.nil_iff.mp z)⟩) (λz=>?_) (by rw[<-r1.length, <-r2.length];exact hz);refine⟨.ref s.heap.objs.size,_,I.laid (t':=s.toks) (o:=.tup (xs++ys)) (λb ob q=>hP0 _ q) (le_refl _) ?_,rfl,q2 (λw=>z (r2.nil_iff.mpr w)) _ (I.hok.fresh (le_refl _))⟩;exact⟨by rw[lA];exact hz,_,r1.append r2,IsTup.new _ _⟩
end
def SE(n:Nat)(i:Int):Option Nat:=if 0<=i then(if i<n then some i.toNat else none)else if -(n:Int)<=i then some (i+n).toNat else none
def tY{α:Type}(xs:List α)(i:Int):Option α:=(SE xs.length i).bind λj=>xs[j]?
def VD{n:Nat}{i:Int}{j:Nat}(h:SE n i=some j):seqIndex? i n=some j/\j<n/\ -(n:Int)<=i/\i<n:=by
 unfold SE at h;by_cases h0:0<=i
 .rw[iP h0]at h;by_cases h1:i<n
  .rw[iP h1]at h;have e:i.toNat=j:=Option.some.inj h;exact⟨by rw[seqIndex_of h0 h1,e],by omega,by omega,h1⟩
  .rw[iN0 h1]at h;cases h
 .rw[iN0 h0]at h;by_cases h1: -(n:Int)<=i
  .rw[iP h1]at h;have e:(i+n).toNat=j:=Option.some.inj h;exact⟨by rw[seqIndex_neg (by omega) h1,e],by omega,h1,by omega⟩
  .rw[iN0 h1]at h;cases h
def LB{α:Type}{xs:List α}{i:Int}{v:α}(h:tY xs i=some v): ∃j,seqIndex? i xs.length=some j/\xs[j]? =some v/\j<xs.length/\ -(xs.length:Int)<=i/\i<xs.length:=by
 unfold tY at h
 cases e:SE xs.length i with
 |none=>rw[e]at h;cases h
 |some j=>
  rw[e]at h;obtain⟨h1,h2,h3,h4⟩:=VD e;exact⟨j,h1,h,h2,h3,h4⟩
def atI_nat{α:Type}{xs:List α}{j:Nat}{v:α}(h:xs[j]? =some v):tY xs (j:Int)=some v:=by
 have hj:j<xs.length:=(gS.mp h).1;have e:SE xs.length (j:Int)=some j:=by unfold SE;rw[iP (by omega),iP (by omega)];simp
 unfold tY;rw[e];exact h
def LC(b:Expr):Prop:= ∀o i,subscripted b false o i=operate [o,i] (getItem o i)
def IxR(X:Cx)(r:R2):Prop:=
 ∀(value slice:Expr)(pins:Yi)(s:Shared)(σ:St)(H:Hp)(x y:V)(v u:Value)(Q:VK),Inv X pins σ H s->RelV x v->RelV y u->r x y H Q->
  subscripted slice false v u=operate [v,u] (getItem v u)->wpAny (model X.prog X.w) X.A (subscriptTail value slice v u) (EP X pins σ Q) X.xe s
def Nv(X:Cx)(id:String)(r:V->List V->Hp->VK->Prop):Prop:=
 ∀(pins:Yi)(s:Shared)(σ:St)(H:Hp)(x:V)(xs:List V)(v:Value)(us:Yb)(Q:VK),Inv X pins σ H s->RelV x v->Vals xs us->r x xs H Q->
  wpAny (model X.prog X.w) X.A (call (.builtin id) (v::us)) (EP X pins σ Q) X.xe s
section
variable{X:Cx}{a b:Expr}{ta tb:TE}{pos:Pos}
def IxR.or{r r':R2}(h:IxR X r)(h':IxR X r'):IxR X (λx y H Q=>r x y H Q\/r' x y H Q):=by
 intro value slice pins s σ H x y v u Q I rx ry q hs;rcases q with q|q
 .exact h value slice pins s σ H x y v u Q I rx ry q hs
 .exact h' value slice pins s σ H x y v u Q I rx ry q hs
def Vc{r:R2}(hr:IxR X r)(ha:PE X a ta)(hb:PE X b tb)(hs:LC b):PE X (.Subscript a b pos) (Xo r ta tb):=by intro pins s σ H Q I h;exact Subscript_ (Pu ha hb I h λv u s2 x y H2 I2 rx ry q=>hr a b pins s2 σ H2 x y v u Q I2 rx ry q (hs _ _))
def Vd(K:Zb):R2:=λx y H Q=> ∃p xs i v,x=.ref p/\y=.int i/\SqL K H p xs/\tY xs i=some v/\Q v H
def Ve(K:Zb):R2:=λx y H Q=> ∃p xs i v,x=.ref p/\y=.int i/\SqT K H p xs/\tY xs i=some v/\Q v H
def Vf:R2:=λx y H Q=> ∃z i c,x=.str z/\y=.int i/\z.length<=sizeLine/\tY z.cps.toList i=some c/\Q (.str ⟨#[c]⟩) H
def Iu:IxR X (Vd X.K):=by
 intro value slice pins s σ H x y v u Q I rx ry h hs;obtain⟨p,xs,i,z,rfl,rfl,hq,he,q⟩:=h;cases rx;obtain⟨t,rfl⟩:=ry;obtain⟨its,r,pl,hz⟩:=I.list hq;obtain⟨j,h1,h2,h3,h4,h5⟩:=LB he;obtain⟨w,ew,rw'⟩:=r.get h2;have hl:=r.length;have hn:=uS;have fin:EP X pins σ Q w s:=⟨z,H,I,rw',q⟩
 by_cases h0:0<=i
 .have hj:i.toNat=j:=by rw[seqIndex_of h0 h5]at h1;exact Option.some.inj h1
  exact item_listR pl.isList h0 (by omega) (by rw[hj];simpa using ew) fin hs
 .have hj:(i+(its.toArray.size:Int)).toNat=j:=by rw[seqIndex_neg (by omega) h4]at h1;rw[sA, <-hl];exact Option.some.inj h1
  exact subscriptTail_builtinR (x:=w) pl.isList.typeIs slot_list_getitem.lookup
   (wpAny_getItem_list_neg (Q:=λr s'=>r=w/\EP X pins σ Q r s') pl.isList (by omega) (by rw[sA]<;>omega) (by omega) (by rw[hj];simpa using ew) ⟨rfl,fin⟩) hs
def ix_tup:IxR X (Ve X.K):=by
 intro value slice pins s σ H x y v u Q I rx ry h hs;obtain⟨p,xs,i,z,rfl,rfl,hq,he,q⟩:=h;cases rx;obtain⟨t,rfl⟩:=ry;obtain⟨its,r,pl,hz⟩:=I.tuple hq;obtain⟨j,h1,h2,h3,h4,h5⟩:=LB he;obtain⟨w,ew,rw'⟩:=r.get h2;have hl:=r.length;have hn:=uS;have fin:EP X pins σ Q w s:=⟨z,H,I,rw',q⟩
 exact subscriptTail_builtinR (x:=w) pl.typeIs slot_tuple_getitem.lookup
  (getItem_tuple (j:=j) (Q:=λr s'=>r=w/\EP X pins σ Q r s') pl (by omega) (by omega) (by rw[sA, <-hl];exact h1) (by simpa using ew) ⟨rfl,fin⟩) hs
def ix_str:IxR X Vf:=by
 intro value slice pins s σ H x y v u Q I rx ry h hs;obtain⟨z,i,c,rfl,rfl,hz,he,q⟩:=h;obtain⟨t,rfl⟩:=rx;obtain⟨t',rfl⟩:=ry;obtain⟨j,h1,h2,h3,h4,h5⟩:=LB he;have hl:z.cps.toList.length=z.length:=by simp[Str.length]
 rw[hl]at h1 h4 h5;have hn:=uS;exact tail_any (typeIs_str s z t) slot_str_getitem.lookup (getItem_str (c:=c) (by have e1:decide (i< -(2 ^ 63:Int))=false:=dF0 (by omega);have e2:decide (i>=2 ^ 63)=false:=dF0 (by omega);rw[e1,e2,Bool.or_false]) (by rw[h1];simpa using h2) ⟨.str ⟨#[c]⟩,H,I.tok _,⟨_,rfl⟩,q⟩) hs
def rIx(K:Zb):R2:=λx y H Q=>Vd K x y H Q\/Ve K x y H Q\/Vf x y H Q
def Qg:IxR X (rIx X.K):=Iu.or (ix_tup.or ix_str)
def SH(its:Yb)(n j:Nat)(u:Value):Obj.mapSeq (·.setIfInBounds j u) {cls:=.type "list",data:=.seq its.toArray n}={cls:=.type "list",data:=.seq (its.set j u).toArray n}:=by simp[Obj.mapSeq]
def Inv.lst{pins:Yi}{σ:St}{H:Hp}{s:Shared}{p:Addr}{xs:List V}(I:Inv X pins σ H s)(h:H p=some (.lst xs)):
  ∃(its:Yb)(n:Nat),Vals xs its/\s.heap.get? p=some {cls:=.type "list",data:=.seq its.toArray n}/\xs.length<=sizeLine:=by
 obtain⟨z,its,n,r,e⟩:=I.hok p _ h;exact⟨its,n,r,e,z⟩
def Inv.lstUpd{pins:Yi}{σ:St}{H:Hp}{s:Shared}{p:Addr}{xs ys:List V}{its its':Yb}{n n':Nat}{f:Obj->Obj}(I:Inv X pins σ H s)(h:H p=some (.lst xs))
  (ho:s.heap.get? p=some {cls:=.type "list",data:=.seq its.toArray n}) (hf:f {cls:=.type "list",data:=.seq its.toArray n}={cls:=.type "list",data:=.seq its'.toArray n'}) (r:Vals ys its') (hz:ys.length<=sizeLine) (t:Nat):
  Inv X pins σ (xI H p (.lst ys)) {s with heap:=s.heap.update p f,toks:=t}:=by
 have e:(s.heap.update p f).get? p=some {cls:=.type "list",data:=.seq its'.toArray n'}:=by rw[Heap.get?_update_self f ho (by rw[hf]<;>rfl),hf]
 refine I.write (x:=p) (e:=p) (by rw[h];trivial) (.inl rfl) (λb u hb q=>(Heap.get?_update_other _ _ (Ne.symm hb)).trans q) ⟨_,e⟩ ?_;exact⟨hz,its',n',r,e⟩
def Vg:V->V->V->Hp->(Hp->Prop)->Prop:=λo i v H Q=> ∃p xs k j,o=.ref p/\i=.int k/\H p=some (.lst xs)/\SE xs.length k=some j/\Q (xI H p (.lst (xs.set j v)))
def set_list:Pi X Vg:=by
 intro pins s σ H o i v ov iv u Q I ro ri rv h;obtain⟨p,xs,k,j,rfl,rfl,hp,hj,q⟩:=h;cases ro;obtain⟨t,rfl⟩:=ri;obtain⟨its,n,r,ho,hz⟩:=I.lst hp;obtain⟨h1,h2,h3,h4⟩:=VD hj;have hl:=r.length;have hn:=uS
 have I':Inv X pins σ (xI H p (.lst (xs.set j v))) {s with heap:=s.heap.update p (Obj.mapSeq (·.setIfInBounds j u))}:=
  I.lstUpd hp ho (SH its n j u) (r.set rv j) (by rw[length_set];exact hz) s.toks
 by_cases h0:0<=k
 .have hk:k.toNat=j:=by rw[seqIndex_of h0 h4]at h1;exact Option.some.inj h1
  exact PySem.W.ki_setAt ho h0 (by omega) (by rw[sA, <-hl];exact h4) (by rw[hk];exact⟨_,I',q⟩)
 .have hk:(k+(its.toArray.size:Int)).toNat=j:=by rw[seqIndex_neg (by omega) h3]at h1;rw[sA, <-hl];exact Option.some.inj h1
  exact PySem.W.ki_setBack ho (by omega) (by rw[sA, <-hl];exact h3) (by omega) (by rw[hk];exact⟨_,I',q⟩)
def LD(lo hi:Yk)(n:Nat):(sliceBounds lo hi none n).1=((HT.sIx n 0 lo:Nat):Int)/\(sliceBounds lo hi none n).2.1=((HT.sIx n n hi:Nat):Int)/\(sliceBounds lo hi none n).2.2=1:=by
 refine⟨?_,?_,rfl⟩
 .cases lo with
  |none=>simp[sliceBounds,HT.sIx]
  |some i=>
   simp only[sliceBounds,HT.sIx,Option.getD_none,show(1:Int)>0 by decide,if_true];by_cases h:i<0
   .simp only[h,if_true]<;>omega
   .simp only[h,iF]<;>omega
 .cases hi with
  |none=>simp[sliceBounds,HT.sIx]
  |some i=>
   simp only[sliceBounds,HT.sIx,Option.getD_none,show(1:Int)>0 by decide,if_true];by_cases h:i<0
   .simp only[h,if_true]<;>omega
   .simp only[h,iF]<;>omega
theorem HS(its:Yb)(lo hi:Yk):slicePick its.toArray lo hi none=((its.drop (HT.sIx its.length 0 lo)).take (HT.sIx its.length its.length hi - HT.sIx its.length 0 lo)).toArray:=by obtain⟨h1,h2,h3⟩:=LD lo hi its.toArray.size;unfold slicePick;rw[h1,h2,h3];simp only[sliceRange_one,pick_run,sA]<;>rfl
def rSlL(K:Zb):V->Option Int->Option Int->Hp->VK->Prop:=λx lo hi H Q=> ∃a xs,x=.ref a/\SqL K H a xs/\ ∀p,H p=none->Q (.ref p) (xI H p (.lst (OH xs lo hi)))
def Iv:SlR X (rSlL X.K):=by intro pins s σ H x v vl vu lo hi sl Q I rx hs pl pu h;obtain⟨a,xs,rfl,hx,q⟩:=h;cases rx;obtain⟨its,r,ht,hz⟩:=I.list hx;have hlen:=r.length;refine⟨"list",_,slot_list_getitem.lookup,ht.isList.typeIs,?_⟩;refine wpAny_getItem_list_slice ht.isList hs pl pu .none (by simp) ?_ (by rw[sA]<;>omega);rw[HS, <-hlen];refine⟨.ref s.heap.objs.size,_,I.laid (t':=s.toks) (o:=.lst (OH xs lo hi)) (λb ob q=>hP0 _ q) (le_refl _) ?_,rfl,q _ (I.hok.fresh (le_refl _))⟩;exact⟨le_trans (DD xs lo hi) hz,_,0,(r.drop (HT.sIx xs.length 0 lo)).take (HT.sIx xs.length xs.length hi - HT.sIx xs.length 0 lo),Heap.get?_push_size _ rfl⟩
def jG:V->Bool
 |.non=>true
 |.bl _=>true
 |.int _=>true
 |.str _=>true
 |_=>false
def Iw:V->V->Bool
 |.non,.non=>true
 |.bl a,.bl b=>a==b
 |.bl a,.int b=>(if a then 1 else 0)==b
 |.int a,.bl b=>a==(if b then 1 else 0)
 |.int a,.int b=>a==b
 |.str a,.str b=>a==b
 |_,_=>false
def Qh{A:Around}{s:Shared}{y x:V}{u v:Value}(ry:RelV y u)(rx:RelV x v)(fy:jG y=true)(fx:jG x=true):SeqAt.EqAt A s u v (Iw y x):=by
 cases y with
 |non=>
  cases ry
  cases x with
  |non=>cases rx;exact SeqAt.EqAt.same _
  |bl b=>cases rx;exact SeqAt.EqAt.none_bool b
  |int b=>obtain⟨t,rfl⟩:=rx;exact SeqAt.EqAt.none_int b t
  |str b=>obtain⟨t,rfl⟩:=rx;exact SeqAt.EqAt.none_str b t
  |_=>exact absurd (show false=true from fx) xF0
 |bl a=>
  cases ry
  cases x with
  |non=>cases rx;exact SeqAt.EqAt.bool_none a
  |bl b=>cases rx;exact SeqAt.EqAt.bool_bool a b
  |int b=>obtain⟨t,rfl⟩:=rx;exact SeqAt.EqAt.bool_int a b t
  |str b=>obtain⟨t,rfl⟩:=rx;exact SeqAt.EqAt.bool_str a b t
  |_=>exact absurd (show false=true from fx) xF0
 |int a=>
  obtain⟨t',rfl⟩:=ry
  cases x with
  |non=>cases rx;exact SeqAt.EqAt.int_none a t'
  |bl b=>cases rx;exact SeqAt.EqAt.int_bool a t' b
  |int b=>obtain⟨t,rfl⟩:=rx;exact SeqAt.EqAt.int_int a t' b t
  |str b=>obtain⟨t,rfl⟩:=rx;exact SeqAt.EqAt.int_str a t' b t
  |_=>exact absurd (show false=true from fx) xF0
 |str a=>
  obtain⟨t',rfl⟩:=ry
  cases x with
  |non=>cases rx;exact SeqAt.EqAt.str_none a t'
  |bl b=>cases rx;exact SeqAt.EqAt.str_bool a t' b
  |int b=>obtain⟨t,rfl⟩:=rx;exact SeqAt.EqAt.str_int a t' b t
  |str b=>obtain⟨t,rfl⟩:=rx;exact SeqAt.EqAt.str_str a t' b t
  |_=>exact absurd (show false=true from fx) xF0
 |_=>exact absurd (show false=true from fy) xF0
def LE:CallR X (.builtin "len") (λxs H Q=> ∃p ys,xs=[.ref p]/\(SqL X.K H p ys\/SqT X.K H p ys)/\Q (.int ys.length) H):=by
 intro pins s σ H xs us Q I r h;obtain⟨p,ys,rfl,hq,q⟩:=h;obtain⟨u,rfl,rx⟩:=vals1 r;cases rx;have hn:=uS;rcases hq with hq|hq
 .obtain⟨its,r',pl,hz⟩:=I.list hq;have hlen:=r'.length;exact Calls.call_len_list pl.isList (by simp only[sA]<;>omega) ⟨.int ys.length,H,I.tok _,⟨s.toks+1,by rw[sA,hlen]⟩,q⟩
 .obtain⟨its,r',pl,hz⟩:=I.tuple hq;have hlen:=r'.length;exact len_tuple pl (by simp only[sA]<;>omega) ⟨.int ys.length,H,I.tok _,⟨s.toks+1,by rw[sA,hlen]⟩,q⟩
def LF:CallR X (.builtin "len") (λxs H Q=> ∃z,xs=[.str z]/\z.length<=sizeLine/\Q (.int z.length) H):=by intro pins s σ H xs us Q I r h;obtain⟨z,rfl,hz,q⟩:=h;obtain⟨u,rfl,t,rfl⟩:=vals1 r;have hn:=uS;exact len_str (by omega) ⟨.int z.length,H,I.tok _,⟨_,rfl⟩,q⟩
def CallR.or{f:Value}{r r':List V->Hp->VK->Prop}(h:CallR X f r)(h':CallR X f r'):CallR X f (λxs H Q=>r xs H Q\/r' xs H Q):=by
 intro pins s σ H xs us Q I rs q;rcases q with q|q
 .exact h pins s σ H xs us Q I rs q
 .exact h' pins s σ H xs us Q I rs q
def LG:CallR X (.type "list") (λxs H Q=> ∃p ys,xs=[.ref p]/\(SqL X.K H p ys\/SqT X.K H p ys)/\ ∀l,H l=none->Q (.ref l) (xI H l (.lst ys))):=by
 intro pins s σ H xs us Q I r h;obtain⟨p,ys,rfl,hq,q⟩:=h;obtain⟨u,rfl,rx⟩:=vals1 r;cases rx
 have fin: ∀(its:Yb),Vals ys its->ys.length<=sizeLine-> ∀(h':Heap)(c':Nat),(∀b o',s.heap.get? b=some o'->h'.get? b=some o')->
   h'.get? s.heap.objs.size=some {cls:=.type "list",dict:=none,data:=.seq its.toArray c',slots:=#[]}->EP X pins σ Q (.ref s.heap.objs.size) {s with heap:=h'}:=λits r' hz h' c' kp e=>
  ⟨.ref s.heap.objs.size,_,I.laid (t':=s.toks) kp (le_refl _) (show ObjOk X.prog X.w _ h' _ (.lst ys)from⟨hz,its,c',r',e⟩),rfl,q _ (I.hok.fresh (le_refl _))⟩
 rcases hq with hq|hq
 .obtain⟨its,r',pl,hz⟩:=I.list hq;have hlen:=r'.length;obtain⟨o,ho,hc,n,hd⟩:=pl.isList;exact call_list_seq p (.inl rfl) ho hc hd (λh' c' kp e=>fin its r' hz h' c' kp e) (by simp only[sA]<;>omega)
 .obtain⟨its,r',pl,hz⟩:=I.tuple hq;have hlen:=r'.length;obtain⟨o,ho,hc,n,hd⟩:=pl;exact call_list_seq p (.inr rfl) ho hc hd (λh' c' kp e=>fin its r' hz h' c' kp e) (by simp only[sA]<;>omega)
def jB:CallR X (.type "tuple") (λxs H Q=> ∃p ys,xs=[.ref p]/\((SqL X.K H p ys/\ ∀l,H l=none->Q (.ref l) (xI H l (.tup ys)))\/(SqT X.K H p ys/\Q (.ref p) H))):=by
 intro pins s σ H xs us Q I r h;obtain⟨p,ys,rfl,h⟩:=h;obtain⟨u,rfl,rx⟩:=vals1 r;cases rx;rcases h with⟨hq,q⟩|⟨hq,q⟩
 .obtain⟨its,r',pl,hz⟩:=I.list hq;have hlen:=r'.length;refine call_tuple_list pl.isList (λh' kp=>?_) (by simp only[sA]<;>omega);have I1:Inv X pins σ H {s with heap:=h'}:=I.kept (t':=s.toks) kp
  have I2:Inv X pins σ (xI H h'.objs.size (.tup ys)) {s with heap:=h'.push {cls:=.type "tuple",data:=.seq its.toArray}}:=
   I1.laid (t':=s.toks) (λb o e=>hP0 _ e) (le_refl _) (show ObjOk X.prog X.w _ _ _ (.tup ys)from⟨hz,its,r',IsTup.new _ _⟩)
  exact⟨.ref h'.objs.size,_,I2,rfl,q _ (I1.hok.fresh (le_refl _))⟩
 .obtain⟨its,r',pl,hz⟩:=I.tuple hq;exact call_tuple_same pl ⟨.ref p,H,I,rfl,q⟩
def Xr(K:Zb)(T:String)(x:V)(H:Hp):Prop:=match x with
 |.str _=>T="str"
 |.int _=>T="int"
 |.ref p=>(T="list"/\ ∃xs,SqL K H p xs)\/(T="tuple"/\ ∃o,K.lookup p=some o/\o.cls=.type "tuple"/\o.dict=none)\/
   (T="dict"/\((∃kvs,H p=some (.dK kvs))\/ ∃kvs,H p=some (.dT kvs)))\/(T="set"/\ ∃S n,H p=some (.set S n))
 |_=>False
def Bt{pins:Yi}{σ:St}{H:Hp}{s:Shared}{T:String}{x:V}{v:Value}(I:Inv X pins σ H s)(r:RelV x v)(ty:Xr X.K T x H):
  s.TypeIs v T/\ ∀a,v=.ref a-> ∃ob,s.heap.get? a=some ob/\ob.dict=none:=by
 cases x with
 |str z=>
  obtain⟨t,rfl⟩:=r;cases (show T="str" from ty);exact⟨typeIs_str s z t,λ_ e=>nomatch e⟩
 |int i=>
  obtain⟨t,rfl⟩:=r;cases (show T="int" from ty);exact⟨typeIs_int s i t,λ_ e=>nomatch e⟩
 |ref p=>
  cases r;rcases ty with⟨rfl,xs,hq⟩|⟨rfl,o,hk,hc,hd⟩|⟨rfl,hk⟩|⟨rfl,S,n,hk⟩
  .obtain⟨its,_,pl,_⟩:=I.list hq;refine⟨pl.isList.typeIs,λa e=>?_⟩;cases e;obtain⟨o,n,e,c,hd,_⟩:=pl;exact⟨o,e,hd⟩
  .refine⟨⟨o,I.kIn p o hk,hc⟩,λa e=>?_⟩;cases e;exact⟨o,I.kIn _ o hk,hd⟩
  .have z: ∃o,s.heap.get? p=some o/\o.ExactDict:=by
    rcases hk with⟨kvs,hk⟩|⟨kvs,hk⟩
    .obtain⟨_,_,_,_,o,_,_,e,ex,_⟩:=I.hok p _ hk;exact⟨o,e,ex⟩
    .obtain⟨_,_,_,_,o,_,_,e,ex,_⟩:=I.hok p _ hk;exact⟨o,e,ex⟩
   obtain⟨o,e,ex⟩:=z;refine⟨⟨o,e,ex.1⟩,λa e2=>?_⟩;cases e2;exact⟨o,e,ex.2.1⟩
  .obtain⟨o,_,_,_,e,ex,_⟩:=I.hok p _ hk;refine⟨⟨o,e,ex.1⟩,λa e2=>?_⟩;cases e2;exact⟨o,e,ex.2.1⟩
 |_=>exact False.elim ty
def tBM0(K:Zb)(T:String)(r:V->List V->Hp->VK->Prop)(to:TE):TE:=λσ H Q=>to σ H λx H1=>Xr K T x H1/\r x [] H1 Q
def tBM(K:Zb)(T:String)(r:V->List V->Hp->VK->Prop)(to:TE)(t:TA):TE:=λσ H Q=>to σ H λx H1=>Xr K T x H1/\t σ H1 λxs H2=>r x xs H2 Q
variable{o e:Expr}{es:Za}{to:TE}{t:TA}{name:Str}{apos cpos:Pos}{T id:String}{r:V->List V->Hp->VK->Prop}
def Qi(pa:PlainAttrs T)(slot:Slot T name id)(hty:typeOf (.builtin id)=pure (.type "method_descriptor"))(hm:Nv X id r)(ho:PE X o to)
  (hbase:attributeBase o name X.env (eval o X.env)=eval o X.env:=by rfl) (hline:(apos.endLine==cpos.line)=true:=by rfl):PE X (.Call (.Attribute o name apos) [] [] cpos) (tBM0 X.K T r to):=by
 intro pins s σ H Q I h;refine wpAny_Call_method0_late hbase hline (jX (ho pins s σ H _ I h) λv s1 ⟨x,H1,I1,r1,ty,q1⟩=>?_);obtain⟨h1,h2⟩:=Bt I1 r1 ty;exact⟨T,id,pa,slot,hty,h1,h2,Calls.callWith_builtin rfl (PySem.evalArgs_none (hm pins s1 σ H1 x [] v [] Q I1 r1 .nil q1))⟩
def Vh(pa:PlainAttrs T)(slot:Slot T name id)(hty:typeOf (.builtin id)=pure (.type "method_descriptor"))(hm:Nv X id r)(ho:PE X o to)(ha:PA X (e::es) t)
  (hbase:attributeBase o name X.env (eval o X.env)=eval o X.env:=by rfl)
  (hfew:((backTo cpos (starEach (e::es) X.env)).all (λx=>!x.1)&&(backToKw cpos (keywordEach [] X.env)).all (λx=>x.1.isSome)
   &&decide ((e::es).length+([]:List Keyword).length+(if([]:List Keyword).isEmpty then 0 else 1)<30))=true:=by rfl)
  (hline:(apos.endLine==cpos.line)=true:=by rfl) (hs:starEach (e::es) X.env=(false,eval e X.env)::starEach es X.env:=by rfl) (hplain:(backTo cpos (starEach es X.env)).any (·.1)=false:=by rfl):
  PE X (.Call (.Attribute o name apos) (e::es) [] cpos) (tBM X.K T r to t):=by
 intro pins s σ H Q I h;refine wpAny_Call_method_late hbase hfew hline rfl (jX (ho pins s σ H _ I h) λv s1 ⟨x,H1,I1,r1,ty,q1⟩=>?_);obtain⟨h1,h2⟩:=Bt I1 r1 ty;refine⟨T,id,pa,slot,hty,h1,h2,?_⟩;have hA:=ha cpos pins s1 σ H1 _ I1 q1;rw[hs]at hA ⊢;refine Calls.callWith_builtin (by show(false || (backTo cpos (starEach es X.env)).any (·.1))=false;rw[hplain]<;>rfl) (Calls.evalArgs_plain ?_);exact jX hA λus s2 ⟨vs,H2,I2,r2,q2⟩=>hm pins s2 σ H2 x vs v us Q I2 r1 r2 q2
end
def MtM(X:Cx)(id:String)(r:V->List V->Hp->VK->Prop):Prop:=
 ∀(pins:Yi)(s:Shared)(σ:St)(H:Hp)(x:V)(xs:List V)(v:Value)(us:Yb)(Q:VK),Inv X pins σ H s->RelV x v->Vals xs us->r x xs H Q->
  wpAny (model X.prog X.w) X.A (call (.builtin id) (v::us)) (EP X pins σ Q) X.xe s
def Vals.one: ∀{x:V}{us:Yb},Vals [x] us-> ∃u,us=[u]/\RelV x u
 |_,_,.cons r .nil=>⟨_,rfl,r⟩
theorem Vals.zero: ∀{us:Yb},Vals [] us->us=[]
 |_,.nil=>rfl
theorem Vals.eraseIdx: ∀{xs:List V}{us:Yb}(i:Nat),Vals xs us->Vals (xs.eraseIdx i) (us.eraseIdx i)
 |_,_,_,.nil=>.nil
 |_,_,0,.cons _ t=>t
 |_,_,i+1,.cons r t=>.cons r (Vals.eraseIdx i t)
def Vals.reverse{xs:List V}{us:Yb}(h:Vals xs us):Vals xs.reverse us.reverse:=by
 induction h with
 |nil=>exact .nil
 |cons r t ih=>rw[reverse_cons,reverse_cons];exact Vals.append ih (.cons r .nil)
theorem Vals.rep{xs:List V}{us:Yb}(h:Vals xs us): ∀k:Nat,Vals (List.replicate k xs).flatten (List.replicate k us).flatten
 |0=>.nil
 |k+1=>by rw[replicate_succ,replicate_succ,flatten_cons,flatten_cons];exact Vals.append h (Vals.rep h k)
theorem JD{α:Type}: ∀(l:List α)(i:Nat),(l.eraseIdx i).length<=l.length
 |[],_=>le_refl _
 |_::_,0=>le_succ _
 |_::r,i+1=>Nat.succ_le_succ (JD r i)
theorem foldl_rep(its:Yb): ∀(k:Nat)(acc:Yb),
  List.foldl (λx1 x2=>x1++x2) acc.toArray (List.replicate k its.toArray)=(acc++(List.replicate k its).flatten).toArray
 |0,acc=>by simp
 |k+1,acc=>by
  have e:acc.toArray++its.toArray=(acc++its).toArray:=by simp
  have e2:(acc++its)++(List.replicate k its).flatten=acc++(List.replicate (k+1) its).flatten:=by rw[replicate_succ,flatten_cons,aA]
  rw[<-e2, <-foldl_rep its k (acc++its), <-e,replicate_succ,foldl_cons]
section
variable{X:Cx}{pins:Yi}{σ:St}{H:Hp}{s:Shared}{l:Addr}{xs ys:List V}
def Inv.lset{its its':Yb}{n:Nat}{f:Array Value->Array Value}{t':Nat}(I:Inv X pins σ H s)(hH:H l=some (.lst xs))
  (e:s.heap.get? l=some {cls:=.type "list",data:=.seq its.toArray n}) (hf:f its.toArray=its'.toArray) (hv:Vals ys its') (hz:ys.length<=sizeLine):
  Inv X pins σ (xI H l (.lst ys)) {s with heap:=s.heap.update l (Obj.mapSeq f),toks:=t'}:=by
 have q:=PySem.IsL.update e f;rw[hf]at q;refine I.write (x:=l) (e:=l) (by rw[hH];exact trivial) (.inl rfl) (λb' u hb hu=>(Heap.get?_update_other s.heap (Obj.mapSeq f) (Ne.symm hb)).trans hu) ⟨_,q⟩ ?_;exact⟨hz,its',_,hv,q⟩
def Inv.lnew{its:Yb}{t':Nat}(I:Inv X pins σ H s)(hv:Vals ys its)(hz:ys.length<=sizeLine):
  Inv X pins σ (xI H s.heap.objs.size (.lst ys)) {s with heap:=s.heap.push {cls:=.type "list",data:=.seq its.toArray},toks:=t'}:=
 I.laid (λ_ _ q=>hP0 _ q) (le_refl _) ⟨hz,its,0,hv,Heap.get?_push_size _ rfl⟩
def Inv.fresh(I:Inv X pins σ H s):H s.heap.objs.size=none:=I.hok.fresh (le_refl _)
def Inv.lstM(I:Inv X pins σ H s)(hH:H l=some (.lst xs)):xs.length<=sizeLine/\ ∃(its:Yb)(n:Nat),Vals xs its/\xs.length=its.length/\s.heap.get? l=some {cls:=.type "list",data:=.seq its.toArray n}:=by obtain⟨z,its,n,r,e⟩:=I.hok l _ hH;exact⟨z,its,n,r,r.length,e⟩
def OI{n:Nat}(h:n<=sizeLine):Builtin.List.listTooLong n=false:=by unfold Builtin.List.listTooLong;exact dF0 (by omega)
end
section
variable{X:Cx}
def VE:V->List V->Hp->VK->Prop:=λx vs H Q=> ∃l xs y,x=.ref l/\vs=[y]/\H l=some (.lst xs)/\xs.length<sizeLine/\Q .non (xI H l (.lst (xs++[y])))
def YZ:MtM X "list.append" VE:=by intro pins s σ H x vs v us Q I rx rv h;obtain⟨l,xs,y,rfl,rfl,hH,hz,q⟩:=h;cases rx;obtain⟨u,rfl,ru⟩:=rv.one;obtain⟨z,its,n,r,hl,e⟩:=I.lstM hH;refine call_meets F.slot_list_append ⟨_,e,rfl⟩ F.entry_list_append (F.args_list_append_2 _ _) (PySem.list_append l its.toArray n u (by rw[sA];omega)) ⟨e,?_⟩;refine⟨.non,_,I.lset (its':=its++[u]) hH e (by simp) (r.append (.cons ru .nil)) ?_,rfl,q⟩;rw[lA,lS];omega
def VF:V->List V->Hp->VK->Prop:=λx vs H Q=> ∃l b xs zs,x=.ref l/\vs=[.ref b]/\H l=some (.lst xs)/\H b=some (.lst zs)/\xs.length+zs.length<=sizeLine/\Q .non (xI H l (.lst (xs++zs)))
def ZA:MtM X "list.extend" VF:=by
 intro pins s σ H x vs v us Q I rx rv h;obtain⟨l,b,xs,zs,rfl,rfl,hH,hB,hz,q⟩:=h;cases rx;obtain⟨u,rfl,ru⟩:=rv.one;cases ru;obtain⟨z,its,n,r,hl,e⟩:=I.lstM hH;obtain⟨z2,its2,n2,r2,hl2,e2⟩:=I.lstM hB;have hsz:its.toArray.size+its2.toArray.size<=sizeLine:=by rw[sA,sA];omega
 have hlong: ¬(!its.toArray.isEmpty&&Builtin.List.listTooLong (its.toArray.size+its2.toArray.size))=true:=by rw[OI hsz,Bool.and_false];exact xF0
 refine call_meets F.slot_list_extend ⟨_,e,rfl⟩ F.entry_list_extend (F.args_list_extend_2 _ _)
  (AutoSeq1.list_extend_list_list_0 l its.toArray n b its2.toArray n2 hlong (by rw[sA];omega) (by omega)) ⟨e,e2,?_⟩
 refine⟨.non,_,I.lset (its':=its++its2) hH e (by simp) (r.append r2) ?_,rfl,q⟩;rw[lA];omega
def OJ:V->List V->Hp->VK->Prop:=λx vs H Q=> ∃l xs,x=.ref l/\vs=[]/\H l=some (.lst xs)/\Q .non (xI H l (.lst xs.reverse))
def SI:MtM X "list.reverse" OJ:=by intro pins s σ H x vs v us Q I rx rv h;obtain⟨l,xs,rfl,rfl,hH,q⟩:=h;cases rx;have hus:=rv.zero;subst hus;obtain⟨z,its,n,r,hl,e⟩:=I.lstM hH;refine call_meets F.slot_list_reverse ⟨_,e,rfl⟩ F.entry_list_reverse (F.args_list_reverse_1 _) (AutoSeq1.list_reverse_list_0 l its.toArray n (by rw[sA];omega)) ⟨e,?_⟩;refine⟨.non,_,I.lset (its':=its.reverse) hH e (by simp) r.reverse ?_,rfl,q⟩;rw[List.length_reverse];omega
def rCat:R2:=λx y H Q=> ∃l b xs zs,x=.ref l/\y=.ref b/\H l=some (.lst xs)/\H b=some (.lst zs)/\xs.length+zs.length<=sizeLine/\ ∀p,H p=none->Q (.ref p) (xI H p (.lst (xs++zs)))
def Qj:OpR X (binaryOp .Add) rCat:=by
 intro pins s σ H x y v u Q I rx ry h;obtain⟨l,b,xs,zs,rfl,rfl,hH,hB,hz,q⟩:=h;cases rx;cases ry;obtain⟨z,its,n,r,hl,e⟩:=I.lstM hH;obtain⟨z2,its2,n2,r2,hl2,e2⟩:=I.lstM hB;refine PySem.P.add_list e e2 ?_ (by rw[sA,sA];omega);have ea:its.toArray++its2.toArray=(its++its2).toArray:=by simp
 rw[ea];exact⟨.ref _,_,I.lnew (t':=s.toks) (r.append r2) (by rw[lA];omega),rfl,q _ I.fresh⟩
def rRep:R2:=λx y H Q=> ∃l k xs,x=.ref l/\y=.int k/\H l=some (.lst xs)/\ -(2 ^ 63)<=k/\k<2 ^ 63/\xs.length * k.toNat<=sizeLine/\
 ∀p,H p=none->Q (.ref p) (xI H p (.lst (List.replicate k.toNat xs).flatten))
def len_rep{α:Type}(xs:List α)(k:Nat):(List.replicate k xs).flatten.length=k * xs.length:=by
 induction k with
 |zero=>simp
 |succ k ih=>rw[replicate_succ,flatten_cons,lA,ih,Nat.succ_mul,Nat.add_comm]
def Qk:OpR X (binaryOp .Mult) rRep:=by
 intro pins s σ H x y v u Q I rx ry h;obtain⟨l,k,xs,rfl,rfl,hH,h1,h2,hz,q⟩:=h;cases rx;obtain⟨t,rfl⟩:=ry;obtain⟨z,its,n,r,hl,e⟩:=I.lstM hH;have hlen:its.toArray.size * k.toNat<=sizeLine:=by rw[sA, <-hl];exact hz
 have hcap: ¬its.toArray.size * k.toNat>(2 ^ 63 - 1) / 8:=by
  have:(sizeLine:Nat)<=(2 ^ 63 - 1) / 8:=by decide
  omega
 have hfit: ¬(!Builtin.List.listFitsIndex k)=true:=by rw[fitsIndex_both h1 h2];exact xF0
 have hlong: ¬Builtin.List.listTooLong (its.toArray.size * k.toNat)=true:=by rw[OI hlen];exact xF0
 have hnew:List.foldl (λx1 x2=>x1++x2) #[] (List.replicate (if its.toArray.isEmpty=true then 0 else k.toNat) its.toArray)=(List.replicate k.toNat its).flatten.toArray:=by
  have f0: ∀m:Nat,List.foldl (λx1 x2=>x1++x2) #[] (List.replicate m its.toArray)=(List.replicate m its).flatten.toArray:=λm=>by have:=foldl_rep its m [];rw[nil_append]at this;exact this
  rw[f0]
  cases its with
  |nil=>simp
  |cons a r'=>rw[iN0 (by simp)]
 refine wpAny_binaryOp_repeat_ref (T:="list") (U:="int") (by decide) ⟨_,e,rfl⟩ (λs'=>typeIs_int s' k t) noFill_list_mul F.fills_int_mul F.slot_int_rmul repeat_list F.slot_int_index.lookup
  (call_meets F.slot_int_rmul (typeIs_int s k t) F.entry_int_rmul (F.args_int_rmul_2 _ _) (int___rmul___int_list k t l its.toArray n)
   ⟨e,rfl,⟨_,e,rfl⟩,call_meets F.slot_list_mul ⟨_,e,rfl⟩ F.entry_list_mul (F.args_list_mul_2 _ _) (AutoListH.list___mul___list_int_3 l its.toArray n k t hfit hcap hlong) ⟨e,?_⟩⟩)
 rw[hnew];exact⟨.ref _,_,I.lnew (t':=s.toks) (r.rep k.toNat) (by rw[len_rep,Nat.mul_comm];exact hz),rfl,q _ I.fresh⟩
end
end L2
namespace Att
open PySem PySem.W PySem.Calls PyProof.Rows
def DR{P:Params}{h:Heap}: ∀(ns:Ya)(vs:Yb),WellAll P h vs (ns.map WData.int)->IntsAre vs ns:=by
 intro ns
 induction ns with
 |nil=>
  intro vs w;rw[map_nil]at w;cases w;exact .nil
 |cons n ns ih=>
  intro vs w;rw[map_cons]at w
  cases w with
  |cons a b=>
   cases a;exact .cons _ _ (ih _ b)
def ZC{l:OpenLaw}{n:Nat}(hn:l.most=some n){P:Params}{h:Heap}{args:List WData}{vals:Yb}
  (hpre:l.row.toRowW.claim.pre args=true) (hwl:WellAll P h vals args):
  ∃a vs ns,vals=[Value.ref a]/\args=[WData.list (ns.map WData.int)]/\h.get? a=some {cls:=.type "list",data:=.seq vs.toArray}/\IntsAre vs ns/\ns.length<=n:=by
 have hsh:WShape.hasAll [] args [.list .int]=true:=(pre_splitW hpre).1;have hc:l.pre.holds [] {args:=args}=true:=(pre_splitW hpre).2;obtain⟨d,r,rfl,h1,h2⟩:=hasAllW_cons hsh;obtain rfl:=hasAllW_nil h2;obtain⟨xs,rfl,h3⟩:=hasW_list h1;obtain⟨ns,rfl⟩:=items_int h3
 have hlen:ns.length<=n:=by
  unfold OpenLaw.pre at hc;have h4:(WTm.not (.lt (.lit (.int (n:Int))) (.len (.arg 0)))).holds [] {args:=[.list (ns.map .int)]}=true:=by have h4:=(holds_andW hc).1;rw[hn]at h4;exact h4
  have h5:=condW_of h4 (w_not (w_lt w_lit (w_len_list (w_arg rfl))));rw[lM0]at h5;refine Nat.le_of_not_lt λq=>?_;have q':(n:Int)<((ns.length:Nat):Int):=by omega
  first
   |(rw[dT0 q']at h5;exact absurd h5 (by decide))
   |(simp at h5;omega)
 cases hwl with
 |cons w1 w2=>
  cases w2
  cases w1 with
  |list ho hall=>exact⟨_,_,ns,rfl,rfl,ho,DR ns _ hall,hlen⟩
theorem ZD(l:OpenLaw)(args:List WData):l.row.toRowW.claim.post args (.bool true) args=true:=
 postW_of (r:=l.row.toRowW) (X:=(true==true))
  (show WShape.has [] (.bool true) .bool=true by first |rfl|decide|simp[WShape.has,WShape.arms,WShape.armsAll])
  (show(WTm.eq .res (.lit (.bool true))).value [] {args:=args,res:=some (.bool true),after:=args}=some (.bool (true==true))from w_eq_bool (w_res rfl) w_lit) rfl
def attach_call{l:OpenLaw}{n:Nat}{q:Program}{loose:Ye}{XP:(Str->Option Value)->Heap->Prop}{YP:World->Heap->Prop}{d:DefRec}
  (hn:l.most=some n) (hdf:d.params.defaults=[])
  (call: ∀(w:World)(s₀ s₁:Shared)(mg mb:Yg)(fa:Addr)(o:Obj)(pm cd doc:Value)(a:Addr)(vs:Yb)(ns:Ya),
   Ground q loose [] XP w s₀ mg mb s₁.heap->YP w s₁.heap->
   s₁.heap.get? fa=some o->o.data=.func (docDef d.name d.params d.body d.scope pm cd doc)->s₁.heap.CodeRec cd d.name->mg d.name=some (.ref fa)->
   s₁.heap.get? a=some {cls:=.type "list",data:=.seq vs.toArray}->IntsAre vs ns->ns.length<=n->s₁.gens=#[]->
   codeAny (model l.prog w) callerA (.call (.ref fa) ⟨[.ref a],[]⟩) (λr s'=>r=.ok (.ret (.bool true))/\OldK s₁.heap s'.heap/\s'.os=s₁.os/\AllBare s'.gens) s₁):
  WalkO q loose XP YP l.row.toRowW d [] (λf vs=>PySem.call f vs):=by
 intro w s₀ s₁ mg mb G Y fa o pm cd doc dV kV ho hd hcd hD hmg hg args vals as hpre hlay hrd hwl hlo;obtain rfl:dV=.none:=Dflts.none hD hdf;obtain rfl:kV=.none:=Dflts.noKw hD;obtain⟨a,vs,ns,rfl,rfl,hobj,hints,hlen⟩:=ZC hn hpre hwl;refine enter_call (codeAny_mono (call w s₀ s₁ mg mb fa o pm cd doc a vs ns G Y ho (fd_plain hd) hcd hmg hobj hints hlen hg) λr s' hq=>?_);obtain⟨rfl,h2,h3,h4⟩:=hq;exact⟨.inl ⟨.bool true,.bool true,[],rfl,λ_=>rfl,.bool true,ZD l _,λ_=>⟨List.Pairwise.nil,λ_ hm=>(nomatch hm)⟩⟩,h2,h3,h4⟩
end Att
namespace L2
open PySem PySem.Spec PyProof.Rows
theorem JE: ∀{vs:Yb}{ns:Ya},IntsAre vs ns->Vals (ns.map V.int) vs
 |_,_,.nil=>.nil
 |_,_,.cons n t h=>.cons ⟨t,rfl⟩ (JE h)
def Bu(H:Hp):Prop:= ∀b,H b=none\/ ∃o xs,H b=some (.frz o (.lst xs))
def Bv{P:Program}{w:World}{K:Zb}{mg mb:Yg}{CX:YX}{k:Nat}{fa a:Addr}{fd:FuncData}{x:Str}{sp:Sp}{s₁:Shared}{vs:Yb}{ns:Ya}
  (KX:K.In s₁.heap) (hns:s₁.heap.Ns mainGlobals mg) (hb:s₁.heap.Ns builtinsNs mb) (hbb: ∀x:Str,x≠"__name__"->mb x=bootBuiltins x) (hlim:s₁.heap.NoLimit) (hg:s₁.gens=#[])
  (ha:s₁.heap.get? a=some {cls:=.type "list",data:=.seq vs.toArray}) (hi:IntsAre vs ns) (hl:ns.length<=sizeLine) (hr:Room k callerA)
  (F: ∀base:Heap,K.In base->base.Ns mainGlobals mg->FnOk P w K mg base CX k fa fd [x] sp) (hbind: ∀(s:Shared)(u:Value),BindsTo s fd ⟨[u],[]⟩ [(x,u)])
  (hsp: ∀H:Hp,Bu H->SqL K H a (ns.map V.int)->sp [.ref a] H (λv _=>v=.bl true) λ_ _ _=>False)
  (hCX: ∀H e s',CX [] H s₁ (λ_ _ _=>False) e s'->False):
  codeAny (model P w) callerA (.call (.ref fa) ⟨[.ref a],[]⟩) (λr s'=>r=.ok (.ret (.bool true))/\OldK s₁.heap s'.heap/\s'.os=s₁.os/\AllBare s'.gens) s₁:=by
 have rv:=JE hi;have lenV:=hi.length
 have core: ∀H:Hp,Bu H->SqL K H a (ns.map V.int)->HOk P w H s₁.heap->(∀b,H b≠none->b=a)->(H a≠none->K.lookup a=none)->
   codeAny (model P w) callerA (.call (.ref fa) ⟨[.ref a],[]⟩) (λr s'=>r=.ok (.ret (.bool true))/\OldK s₁.heap s'.heap/\s'.os=s₁.os/\AllBare s'.gens) s₁:=by
  intro H hO hS hok hA hK;have base_of: ∀{b:Addr}{o:Obj},s₁.heap.get? b=some o->H b=none->(KY s₁.heap H).get? b=some o:=λe n=>Bg e n
  have noA: ∀{b:Addr}{o:Obj}{es:Array DictEntry}{ep:Nat},s₁.heap.get? b=some o->o.data=.dict es ep->H b=none:=λ{b o es ep} e d=>by
   cases q:H b with
   |none=>rfl
   |some u=>
    have e':b=a:=hA b (by rw[q];simp);subst e';rw[ha]at e;cases e;have d':Data.seq vs.toArray _=Data.dict es ep:=d;cases d'
  have nsK: ∀{b:Addr}{m:Yg},s₁.heap.Ns b m->(KY s₁.heap H).Ns b m:=λ{b m} ⟨o,es,ep,e,d,r⟩=>⟨o,es,ep,base_of e (noA e d),d,r⟩
  have hKb:K.In (KY s₁.heap H):=λb o e=>base_of (KX b o e) (by
   cases q:H b with
   |none=>rfl
   |some u=>
    have e':b=a:=hA b (by rw[q];simp);subst e';rw[hK (by rw[q];simp)]at e;cases e)
  have hM:Mod K mg (KY s₁.heap H):=⟨hKb,nsK hns,⟨mb,nsK hb,hbb⟩,let ⟨mc,h1,h2⟩:=hlim;⟨mc,nsK h1,h2⟩⟩
  have e0:Env0 P w K mg (KY s₁.heap H) callerA [] s₁ H:=⟨rfl,hM,λb o e=>Hx e,Nat.le_of_eq (YS _ _),trivial,λb hb=>absurd (show b∈([]:Yd)from hb) (by simp),hok,.of_eq hg⟩
  refine codeAny_mono ((F _ hKb (nsK hns)).run callerA [] s₁ H ⟨[.ref a],[]⟩ [.ref a] [.ref a] _ _ hr e0 (hbind s₁ (.ref a)) (.cons rfl .nil) (hsp H hO hS)) λr s' h=>?_
  cases r with
  |error e=>exact(hCX H e s' h).elim
  |ok fl=>
   cases fl with
   |next=>exact False.elim h
   |brk=>exact False.elim h
   |cont=>exact False.elim h
   |ret u=>
    obtain⟨v,H',os,bare,un,hok',r',q⟩:=h;have q':v=.bl true:=q;subst q';obtain rfl:u=Value.bool true:=r';refine⟨rfl,OldK.of_keep λb o e=>?_,os,bare⟩
    cases q:H b with
    |none=>exact un.keep b o e q (by intro z;exact absurd (show b∈([]:Yd)from z) (by simp)) (by simp)
    |some u=>
     rcases hO b with z|⟨ob,xs,z⟩
     .rw[q]at z;cases z
     .have z2:=un.frzs b ob _ z;obtain⟨e1,_⟩:=hok b _ z;obtain⟨e2,_⟩:=hok' b _ z2;rw[e]at e1;cases e1;exact e2
 cases hk:K.lookup a with
 |some o=>
  have e:=KX a o hk;rw[ha]at e;cases e;refine core (λ_=>none) (λ_=>.inl rfl) (.inr ⟨_,vs.toArray,_,hk,rfl,rfl,rfl,by rw[sA,lenV];exact hl,by simpa using rv⟩) (λb u z=>by have z':(none:Option HO)=some u:=z;cases z') (λb z=>absurd rfl z) λz=>absurd rfl z
 |none=>
  refine core (λb=>if b=a then some (.frz {cls:=.type "list",data:=.seq vs.toArray} (.lst (ns.map V.int)))else none) (λb=>?_) (.inl (.inr ⟨{cls:=.type "list",data:=.seq vs.toArray},iP rfl⟩)) (λb u z=>?_) (λb z=>?_) λ_=>hk
  .by_cases hb:b=a
   .exact .inr ⟨_,_,iP hb⟩
   .exact .inl (iN0 hb)
  .by_cases hb:b=a
   .have z':=(iP hb).symm.trans z;cases z';subst hb;exact⟨ha,by rw[lM0];exact hl,vs,_,rv,ha⟩
   .have z':=(iN0 hb).symm.trans z;cases z'
  .by_cases hb:b=a
   .exact hb
   .exact absurd (iN0 hb) z
def walk_of{l:PySem.W.OpenLaw}{n k:Nat}{q:Program}{loose:Ye}{XP:(Str->Option Value)->Heap->Prop}{YP:World->Heap->Prop}{d:DefRec}{K:Params->PySem.W.Frag}{CX:World->YX}{sp:World->Sp}{x:Str}
  (hn:l.most=some n) (hn2:n<=sizeLine) (hdf:d.params.defaults=[]) (hr:Room k callerA)
  (hY: ∀(w:World)(h:Heap),YP w h->(K w.params).In h)
  (F: ∀(w:World)(mg:Yg)(fa:Addr)(h:Heap),(K w.params).In h->h.Ns mainGlobals mg->mg d.name=some (.ref fa)->
   ∃fd:FuncData,(∀(s:Shared)(u:Value),BindsTo s fd ⟨[u],[]⟩ [(x,u)])/\
    ∀base:Heap,(K w.params).In base->base.Ns mainGlobals mg->FnOk l.prog w (K w.params) mg base (CX w) k fa fd [x] (sp w))
  (hsp: ∀(w:World)(H:Hp)(a:Addr)(ns:Ya),ns.length<=n->Bu H->SqL (K w.params) H a (ns.map V.int)->sp w [.ref a] H (λv _=>v=.bl true) λ_ _ _=>False)
  (hCX: ∀(w:World)(H:Hp)(s:Shared)(e:Value)(s':Shared),CX w [] H s (λ_ _ _=>False) e s'->False):
  PySem.W.WalkO q loose XP YP l.row.toRowW d [] (λf vs=>PySem.call f vs):=by
 refine Att.attach_call hn hdf λw s₀ s₁ mg mb fa o pm cd doc a vs ns G Y ho hd hcd hmg hobj hints hlen hg=>?_;have KX:=hY w _ Y;obtain⟨fd,hb,hF⟩:=F w mg fa _ KX G.T.g hmg;exact Bv KX G.T.g G.T.b G.T.builtins G.T.nolimit hg hobj hints (le_trans hlen hn2) hr hF hb (λH hO hS=>hsp w H a ns hlen hO hS) λH e s'=>hCX w H s₁ e s'
def inClass(s:Stmt)(j:Nat):Stmt:=match s with
 |.ClassDef _ _ _ body _ _ _ _ _ _ _=>body.getD j (.Pass ⟨0,0,0,0⟩)
 |_=>.Pass ⟨0,0,0,0⟩
def mI(s:Stmt):Arguments:=match s with
 |.FunctionDef _ a _ _ _ _ _ _ _ _=>a
 |_=>{posonlyargs:=[],args:=[],vararg:=none,kwonlyargs:=[],kw_defaults:=[],kwarg:=none,defaults:=[]}
def jH(s:Stmt):List Stmt:=match s with
 |.FunctionDef _ _ b _ _ _ _ _ _ _=>b
 |_=>[]
def zI(s:Stmt):Scope:=match s with
 |.FunctionDef _ _ _ _ _ _ sc _ _ _=>sc
 |_=>{kind:=.function,names:=[],isGenerator:=false,isCoroutine:=false}
abbrev FE:YX:=λ_ _ _ _ _ _=>False
abbrev E0:XK:=λ_ _ _=>False
def Vi{X:Cx}:LA FE X E0:=λ_ _ _ _ _ _ _ h=>h.elim
structure Fun(K:Zb)(x qual:Str)(st:Stmt)(f:Addr)(fd:FuncData):Prop where
 ex: ∃(oc:Value)(od:Option Addr)(kV doc pm:Value)(an:Option Addr)(cdv ct:Value)(osl:Array (Option Value)),
  fd=PySem.W.fnOf x qual (mI st) (jH st) (zI st) .none kV doc pm an cdv ct/\K.lookup f=some ⟨oc,od,.func fd,osl⟩/\PySem.W.codeIn K cdv qual=true
 kp:PySem.W.keepIn K (.ref f)=true
section
variable{P:Program}{w:World}{K:Zb}{mg:Yg}{base:Heap}
def Fun.ok{x qual:Str}{st:Stmt}{f:Addr}{fd:FuncData}{N ps:Ye}{k:Nat}{sp:Sp}(F:Fun K x qual st f fd)(S:FnScope N ps (zI st))(len: ∀vs H Q E,sp vs H Q E->vs.length=ps.length)
  (hbody: ∀(cdv:Value)(A:Around)(outer:List Env)(s:Shared)(H:Hp)(vs:List V)(Q:VK)(E:XK),Room k (A.deeper (envOfC qual (zI st) s.heap.objs.size f cdv))->sp vs H Q E->
   ∃t,PSs (FB FE P w K mg base N qual (zI st) f cdv A outer s H E).nox (jH st) t/\t {nx:=λ_ H'=>Q .non H',rt:=Q} (start N vs) H):FnOk P w K mg base FE (k+1) f fd ps sp:=by
 obtain⟨oc,od,kV,doc,pm,an,cdv,ct,osl,rfl,lk,hcd⟩:=F.ex;refine Nu lk hcd S len λA outer s H vs Q E hr hsp=>?_;obtain⟨t,h,q⟩:=hbody cdv A outer s H vs Q E hr hsp;exact⟨t,h.nox,q⟩
def Fun.binds{x qual:Str}{st:Stmt}{f:Addr}{fd:FuncData}{ps:Ye}(F:Fun K x qual st f fd)
  (h: ∀(kV doc pm:Value)(an:Option Addr)(cdv ct:Value)(us:Yb),us.length=ps.length->bindArgs (PySem.W.fnOf x qual (mI st) (jH st) (zI st) .none kV doc pm an cdv ct) ⟨us,[]⟩=pure (ps.zip us)):Binds K fd ps []:=by
 obtain⟨oc,od,kV,doc,pm,an,cdv,ct,osl,rfl,lk,hcd⟩:=F.ex;exact .all (h kV doc pm an cdv ct)
def Bw{x qual:Str}{st:Stmt}{f:Addr}{oc:Value}{od an:Option Addr}{osl:Array (Option Value)}{kV doc pm cdv ct:Value}(l:K.lookup f=some ⟨oc,od,.func (PySem.W.fnOf x qual (mI st) (jH st) (zI st) .none kV doc pm an cdv ct),osl⟩)
  (c:PySem.W.codeIn K cdv qual=true) (k:PySem.W.keepIn K (.ref f)=true):Fun K x qual st f (PySem.W.fnOf x qual (mI st) (jH st) (zI st) .none kV doc pm an cdv ct):=⟨⟨oc,od,kV,doc,pm,an,cdv,ct,osl,rfl,l,c⟩,k⟩
end
section
variable{X:Cx}
def pv(i:Nat){x:Str}{pos:Pos}(hN:X.N[i]? =some x:=by rfl)(hv:Hz X.env.scope x:=by first |exact Or.inl rfl|exact Or.inr (Or.inl rfl)|exact Or.inr (Or.inr rfl))(hd:(x==("__debug__":Str))=false:=by decide)
  (hcd:(x==("__classdict__":Str))=false:=by decide):PE X (.Name x pos) (Ui i):=EV hN hv hd hcd
end
end L2
set_option maxHeartbeats 4000000
namespace L2
open PySem PySem.Spec PyProof.Rows
def rM(env:Env)(l:List (Str×NameKind))(cs:List (Str×Addr)):List (Str×Addr):=
 l.foldl (λc y=>if y.2==.free then(y.1,(env.cells.lookup y.1).getD 0)::c else c) cs
def LH{α β:Type}{l:List α}{f:α->β->Sem (ForInStep β)}{g:β->α->β}: ∀(c:β),(∀x∈l, ∀c,f x c=pure (.yield (g c x)))->
  forIn l c f=pure (l.foldl g c):=by
 induction l with
 |nil=>intro c _;rfl
 |cons x l ih=>
  intro c h;rw[forIn_cons,h x mF0,pure_bind];exact ih _ λy hy=>h y (mO _ hy)
def HU{scope:Scope}{env:Env}(h: ∀y∈scope.names,y.2=.free-> ∃c,env.cells.lookup y.1=some c):closureFor scope env=pure (rM env scope.names []):=by
 unfold closureFor rM;dsimp only;rw[LH (g:=λc y=>if y.2==.free then(y.1,(env.cells.lookup y.1).getD 0)::c else c) [] ?_]
 .rfl
 .intro y hy c;obtain⟨n,k⟩:=y;by_cases hk:k=.free
  .subst hk;obtain⟨a,ha⟩:=h _ hy rfl;have ha':env.cells.lookup n=some a:=ha;simp[cellOf,ha']
  .have e:(k==NameKind.free)=false:=by simpa using hk
   simp[e]
theorem DE{env:Env}: ∀(l:List (Str×NameKind))(cs:List (Str×Addr)),(∀y∈l,y.2=.free-> ∃c,env.cells.lookup y.1=some c)->(∀p∈cs,env.cells.lookup p.1=some p.2)->
  ∀p∈rM env l cs,env.cells.lookup p.1=some p.2
 |[],_,_,h=>h
 |(n,k)::l,cs,hl,h=>by
  refine DE l _ (λy hy=>hl y (mO _ hy)) λp hp=>?_;by_cases hk:k=.free
  .subst hk;obtain⟨c,hc⟩:=hl _ mF0 rfl;have hc':env.cells.lookup n=some c:=hc;have hp':p∈(n,(env.cells.lookup n).getD 0)::cs:=hp;rcases mC.mp hp' with rfl|hp
   .show env.cells.lookup n=some ((env.cells.lookup n).getD 0);rw[hc'];rfl
   .exact h p hp
  .have hp':p∈(if(k==NameKind.free)=true then(n,(env.cells.lookup n).getD 0)::cs else cs):=hp;rw[iN0 (by simpa using hk)]at hp';exact h p hp'
theorem FF{env:Env}: ∀(l:List (Str×NameKind))(cs:List (Str×Addr))(p:Str×Addr),p∈cs->p∈rM env l cs
 |[],_,_,h=>h
 |(n,k)::l,cs,p,h=>by
  refine FF l _ p ?_;show p∈(if(k==.free)=true then(n,(env.cells.lookup n).getD 0)::cs else cs);split
  .exact mO _ h
  .exact h
theorem sE{env:Env}: ∀(l:List (Str×NameKind))(cs:List (Str×Addr))(n:Str),(n,NameKind.free)∈l-> ∃c,(n,c)∈rM env l cs
 |[],_,_,h=>nomatch h
 |(m,k)::l,cs,n,h=>by
  rcases mC.mp h with e|h
  .have e1:n=m:=congrArg Prod.fst e;have e2:NameKind.free=k:=congrArg Prod.snd e;subst e1 e2;exact⟨(env.cells.lookup n).getD 0,FF l _ _ mF0⟩
  .exact sE l _ n h
theorem gW{β:Type}: ∀{l:List (Str×β)}{n:Str},(∃c,(n,c)∈l)-> ∃c,l.lookup n=some c
 |[],_,h=>let ⟨_,z⟩:=h;nomatch z
 |(m,b)::l,n,h=>by
  by_cases e:n=m
  .subst e;exact⟨b,by simp[lookup_cons]⟩
  .obtain⟨c,hc⟩:=h;rcases mC.mp hc with z|z
   .cases z;exact absurd rfl e
   .obtain⟨c',h'⟩:=gW ⟨c,z⟩;refine⟨c',?_⟩;have e':(n==m)=false:=by simpa using e
    simp[lookup_cons,e',h']
def SJ(scope osc:Scope):List (Str×NameKind):=scope.names.map λ(n,k)=>if(k==.free&&osc.kind==.function&&osc.names.lookup n==some .cell)then(n,.cell)else(n,k)
def vG(osc:Scope)(N:Ye)(sc:Scope)(idx:Db):Bool:=
 decide (sc.kind=.function)&&sc.names.all (λy=>decide (sc.names.lookup y.1=some y.2))&&
 sc.names.all (λy=>decide (y.2≠.free) || decide (osc.names.lookup y.1=some .cell) || decide (osc.names.lookup y.1=some .free))&&
 idx.all (λi=>match N[i]? with
  |some y=>(decide (osc.names.lookup y=some .cell) || decide (osc.names.lookup y=some .free))&&decide (sc.names.lookup y=some .free)
  |none=>false)
def rlS(sc osc:Scope):Scope:={sc with names:=SJ sc osc}
abbrev Bd(env:Env)(sc:Scope)(C:Addr):List (Str×Addr):=cellsFrom (C+1) sc.names (rM env sc.names [])
theorem kD: ∀(l:List (Str×NameKind))(n:Nat)(acc:List (Str×Addr)),cellsFrom n l acc=cellsFrom n l []++acc
 |[],n,acc=>rfl
 |(x,k)::l,n,acc=>by
  unfold cellsFrom;split
  .rw[kD l (n+1) ((x,n)::acc),kD l (n+1) [(x,n)],aA];rfl
  .exact kD l n acc
theorem vH: ∀(l:List (Str×NameKind))(n:Nat){x:Str}{c:Addr},(x,c)∈cellsFrom n l []->(x,NameKind.cell)∈l/\n<=c
 |[],n,x,c,h=>nomatch h
 |(y,k)::l,n,x,c,h=>by
  unfold cellsFrom at h;split at h
  .rename_i hk;rw[kD]at h;rcases mem_append.mp h with h|h
   .obtain⟨h1,h2⟩:=vH l (n+1) h;exact⟨mO _ h1,by omega⟩
   .have e:=mS.mp h;cases e;have hk':k=.cell:=by simpa using hk
    subst hk';exact⟨mF0,le_refl _⟩
  .obtain⟨h1,h2⟩:=vH l n h;exact⟨mO _ h1,h2⟩
def uT{l:List (Str×NameKind)}{C:Nat}{x:Str}{c:Addr}(h:(x,c)∈cellsFrom (C+1) l []){n:Nat}(hC:n<=C):n<c:=Nat.lt_of_le_of_lt hC (vH l (C+1) h).2
theorem tZ: ∀(l:List (Str×NameKind))(n:Nat){x:Str},(x,NameKind.cell)∈l-> ∃c,(x,c)∈cellsFrom n l []
 |[],n,x,h=>nomatch h
 |(y,k)::l,n,x,h=>by
  unfold cellsFrom;rcases mC.mp h with e|h
  .cases e;rw[iP (by decide),kD];exact⟨n,mem_append_right _ mF0⟩
  .split
   .obtain⟨c,hc⟩:=tZ l (n+1) h;rw[kD];exact⟨c,mem_append_left _ hc⟩
   .exact tZ l n h
theorem own_apart: ∀(l:List (Str×NameKind))(n:Nat),(cellsFrom n l []).Pairwise λx y=>x.2≠y.2
 |[],n=>List.Pairwise.nil
 |(y,k)::l,n=>by
  unfold cellsFrom;split
  .rw[kD];refine List.pairwise_append.mpr ⟨own_apart l (n+1),List.pairwise_singleton _ _,λa ha b hb e=>?_⟩;rw[mS.mp hb]at e;have:=(vH l (n+1) (x:=a.1) (c:=a.2) ha).2;exact ne_of_gt this e
  .exact own_apart l n
theorem qB{β:Type}(x:Str): ∀(l m:List (Str×β)),(l++m).lookup x=(l.lookup x).or (m.lookup x)
 |[],m=>rfl
 |(y,b)::l,m=>by
  rw[List.cons_append,lookup_cons,lookup_cons]
  cases x==y with
  |true=>rfl
  |false=>exact qB x l m
theorem JF{β:Type}{x:Str}: ∀{l:List (Str×β)},(∀c,(x,c)∉l)->l.lookup x=none
 |[],_=>rfl
 |(y,b)::l,h=>by
  rw[lookup_cons]
  cases e:x==y with
  |true=>rw[beq_iff_eq.mp e]at h;exact absurd mF0 (h b)
  |false=>exact JF λc hc=>h c (mO _ hc)
def iD{env:Env}{sc:Scope}{C:Addr}{x:Str}{c:Addr}(e:(Bd env sc C).lookup x=some c):(x,c)∈cellsFrom (C+1) sc.names []\/(rM env sc.names []).lookup x=some c:=by
 unfold Bd at e;rw[kD,qB]at e
 cases z:(cellsFrom (C+1) sc.names []).lookup x with
 |some c'=>rw[z]at e;cases e;exact .inl (PySem.mem_of_lookup z)
 |none=>rw[z]at e;exact .inr e
def Ql{env:Env}{sc:Scope}{C:Addr}{x:Str}{c:Addr}(h:(x,NameKind.cell)∈sc.names)(e:(Bd env sc C).lookup x=some c):(x,c)∈cellsFrom (C+1) sc.names []:=by unfold Bd at e;rw[kD,qB]at e;obtain⟨c',h'⟩:=gW (tZ sc.names (C+1) h);rw[h']at e;cases e;exact PySem.mem_of_lookup h'
theorem Iy{env:Env}{sc:Scope}{C:Addr}{x:Str}(h:(x,NameKind.cell)∉sc.names):(Bd env sc C).lookup x=(rM env sc.names []).lookup x:=by unfold Bd;rw[kD,qB,JF λc hc=>h (vH _ _ hc).1];rfl
def BA(σ:St)(idx:Db):St:=idx.map λi=>(σ[i]?).join
def mK(σ:St)(idx:Db):(BA σ idx).length=idx.length:=by unfold BA;rw[lM0]
def zX(X:Cx)(sc:Scope)(T:Ye)(idx:Db)(C:Addr)(s₂:Shared)(H1:Hp)(fp:Yd):Cx where
 prog:=X.prog
 w:=X.w
 K:=X.K
 mg:=X.mg
 base:=X.base
 A:=X.A
 N:=T++idx.map λi=>(X.N[i]?).getD Str.empty
 s₀:=s₂
 H₀:=H1
 env:=compEnvC sc (Bd X.env sc C) C X.env
 outer:=X.stack
 stack:=X.stack
 ex:=fp
 fn:=λx=>sc.names.lookup x==some .cell
 calm:=X.calm
 pn:=[]
 xe:=λ_ _=>False
def Bx(wi:TI)(g:TG)(tc:Addr->Shared->Hp->List Addr->TT)(te:Addr->Shared->Hp->List Addr->TE)(nt:Nat)(idx:Db):TE:=λσ H Q=>wi σ H λJ H1=> ∃W:Nat->Nat->List V->Hp->Prop,(∃m,W 0 m [] H1)/\ ∀i m ys H2,W i m ys H2->ys.length<=sizeLine/\
 ((J.stop i H2/\ ∀D,H2 D=none->Q (.ref D) (xI H2 D (.lst ys)))\/
   (J.go i H2/\ys.length<sizeLine/\ ∀x H3,J.yld i H2 x H3-> ∀τ:St,τ.length=nt->g x (τ++BA σ idx) H3 λσ4 H4=>(∃τ',σ4=τ'++BA σ idx/\τ'.length=nt)/\
    ∀C s₂ fp,tc C s₂ H1 fp σ4 H4 λb H5=>if b=true then te C s₂ H1 fp σ4 H5 λy H6=> ∃m',m'<m/\W (i+1) m' (ys++[y]) H6 else∃m',m'<m/\W (i+1) m' ys H5))
section
variable{prog:Program}{w:World}{A:Around}{R:Result->Shared->Prop}{s:Shared}
def LI{elt target iter:Expr}{ifs:Za}{scope:Scope}{pos:Pos}{it acc:Value}{env:Env}(I:Nat->Shared->Prop)
  (turn: ∀n s,I n s->wpAny (model prog w) A (pyNext it) (λr s₁=>match r with
   |none=>R (.ok .next) s₁
   |some v=>wpAny (model prog w) A (letOwnedTupleGo target it v) (λ_ s₁'=>wpAny (model prog w) A (assign target env v) (λ_ s₂=>
     wpAny (model prog w) A (forIn ifs true λc r=>if r=true then do let ok <-isTrue c env (eval c env);pure (ForInStep.yield ok)else pure (ForInStep.yield r)) (λok s₃=>
      if ok=true then wpAny (model prog w) A (eval elt env) (λx s₄=>
       wpAny (model prog w) A (call (.builtin "list.append") [acc,x]) (λ_ s₅=> ∃m,m<n/\I m s₅) (λ_ _=>False) s₄) (λ_ _=>False) s₃
      else∃m,m<n/\I m s₃) (λ_ _=>False) s₂) (λ_ _=>False) s₁') (λ_ _=>False) s₁) (λ_ _=>False) s)
  (n:Nat) (h:I n s):codeAny (model prog w) A (.compLoop (.ListComp elt [⟨target,iter,ifs,0⟩] scope pos) 0 it acc env) R s:=by
 refine codeAny_loop rfl I (λn s hI=>?_) n h;show wpAny _ A ((compTurn (.ListComp elt [⟨target,iter,ifs,0⟩] scope pos) 0 it acc env).onRaise (λx=>do noteFrame x env;theTreesLotGoes x)) _ _ s;refine wpAny_noted ?_;rw[compTurn_list];have no: ∀{E':VP}(v:Value)(s':Shared),False->E' v s':=λ_ _ z=>z.elim;refine wB (wpAny_standAt (wB (wpAny_mono (turn n s hI) (λr s₁ h₁=>?_) (no))))
 cases r with
 |none=>exact wP h₁
 |some v=>
  refine wB (wpAny_mono h₁ (λ_ s₁' h₁'=>wB (wpAny_mono h₁' (λ_ s₂ h₂=>wB (wpAny_mono h₂ (λok s₃ h₃=>?_) no)) no)) no)
  cases ok with
  |false=>exact wP ⟨rfl,h₃⟩
  |true=>
   exact wB (wB (wpAny_mono h₃ (λx s₄ h₄=>wB (wpAny_mono h₄ (λ_ s₅ h₅=>wP (wP ⟨rfl,h₅⟩)) no)) no))
end
def ZE(X:Cx)(ifs:Za)(t:TT):Prop:=
 ∀(pins:Yi)(s:Shared)(σ:St)(H:Hp)(Q:Bool->Hp->Prop),Inv X pins σ H s->t σ H Q->
  wpAny (model X.prog X.w) X.A (forIn ifs true λc r=>if r=true then do let ok <-isTrue c X.env (eval c X.env);pure (ForInStep.yield ok)else pure (ForInStep.yield r)) (TP X pins σ Q) X.xe s
def Vj:TT:=λ_ H Q=>Q true H
def By{X:Cx}:ZE X [] Vj:=λ_ _ _ H _ I h=>wpAny_tests_nil ⟨H,I,h⟩
def Bz{X:Cx}{c:Expr}{t:TT}(h:PT X c t):ZE X [c] t:=λpins s σ H Q I q=>wpAny_tests_one (h pins s σ H Q I q)
structure CompF(osc:Scope)(N:Ye)(sc:Scope)(idx:Db):Prop where
 kind:sc.kind=.function
 uni: ∀y∈sc.names,sc.names.lookup y.1=some y.2
 frees: ∀y∈sc.names,y.2=.free->osc.names.lookup y.1=some .cell\/osc.names.lookup y.1=some .free
 cap: ∀i∈idx, ∃y,N[i]? =some y/\(osc.names.lookup y=some .cell\/osc.names.lookup y=some .free)/\sc.names.lookup y=some .free
def CompF.locs{osc:Scope}{N:Ye}{sc:Scope}{idx:Db}(F:CompF osc N sc idx): ∀y∈sc.names,y.2=.local->sc.names.lookup y.1=some .local:=λy hy e=>by rw[F.uni y hy,e]
def Iz{osc:Scope}{N:Ye}{sc:Scope}{idx:Db}(h:vG osc N sc idx=true):CompF osc N sc idx:=by
 unfold vG at h;simp only[aE,all_eq_true,decide_eq_true_eq,or_eq_true]at h;obtain⟨⟨⟨h1,h2⟩,h4⟩,h5⟩:=h;refine⟨h1,λy hy=>h2 y hy,λy hy e=>?_,λi hi=>?_⟩
 .rcases h4 y hy with(z|z)|z
  .exact absurd e z
  .exact .inl z
  .exact .inr z
 .have q:=h5 i hi
  cases e:N[i]? with
  |none=>rw[e]at q;cases q
  |some y=>
   rw[e]at q;simp only[aE,decide_eq_true_eq,or_eq_true]at q;exact⟨y,rfl,q.1,q.2⟩
def Ca{sc osc:Scope}{x:Str}(h:(SJ sc osc).lookup x=some .cell\/(SJ sc osc).lookup x=some .free):(x,NameKind.free)∈sc.names\/(x,NameKind.cell)∈sc.names:=by
 have key: ∀k',(k'=.cell\/k'=.free)->(x,k')∈SJ sc osc->(x,NameKind.free)∈sc.names\/(x,NameKind.cell)∈sc.names:=by
  intro k' hk' hm;unfold SJ at hm;obtain⟨⟨n,k⟩,hy,e⟩:=mM0.mp hm;dsimp only at e;split at e
  .rename_i hc;cases e;rw[aE,aE]at hc;have:k=.free:=by simpa using hc.1.1
   subst this;exact .inl hy
  .cases e;rcases hk' with rfl|rfl
   .exact .inr hy
   .exact .inl hy
 rcases h with h|h
 .exact key _ (.inl rfl) (PySem.mem_of_lookup h)
 .exact key _ (.inr rfl) (PySem.mem_of_lookup h)
theorem JG{osc:Scope}{x:Str}: ∀{l:List (Str×NameKind)},l.lookup x=some .free->(l.map λ(n,k)=>if(k==NameKind.free&&osc.kind==.function&&osc.names.lookup n==some .cell)then(n,NameKind.cell)else(n,k)).lookup x=some .cell\/(l.map λ(n,k)=>if(k==NameKind.free&&osc.kind==.function&&osc.names.lookup n==some .cell)then(n,NameKind.cell)else(n,k)).lookup x=some .free
 |[],h=>by simp at h
 |(n,k)::l,h=>by
  have ih:=@JG osc x l;rw[lookup_cons]at h;rw[map_cons];by_cases hc:(k==NameKind.free&&osc.kind==.function&&osc.names.lookup n==some .cell)=true
  .dsimp only;rw[iP hc,lookup_cons]
   cases hx:x==n with
   |true=>exact .inl rfl
   |false=>rw[hx]at h;exact ih h
  .dsimp only;rw[iN0 hc,lookup_cons]
   cases hx:x==n with
   |true=>rw[hx]at h;exact .inr h
   |false=>rw[hx]at h;exact ih h
section
variable{X:Cx}{pins:Yi}{σ:St}{H1:Hp}{s₂:Shared}{sc:Scope}{T:Ye}{idx:Db}{C:Addr}{fp:Yd}
def OL(I:Inv X pins σ H1 s₂)(F:CompF X.env.scope X.N sc idx): ∀y∈sc.names,y.2=.free-> ∃c,X.env.cells.lookup y.1=some c:=
 λy hy e=>I.ok.has y.1 (F.frees y hy e)
def jY(I:Inv X pins σ H1 s₂)(F:CompF X.env.scope X.N sc idx){x:Str}{c:Addr}(e:(rM X.env sc.names []).lookup x=some c):X.env.cells.lookup x=some c:=
 DE sc.names [] (OL I F) (λ_ z=>nomatch z) (x,c) (PySem.mem_of_lookup e)
def Ja(I:Inv X pins σ H1 s₂)(F:CompF X.env.scope X.N sc idx){x:Str}{c:Addr}(hx:(x,NameKind.free)∈sc.names)(e:X.env.cells.lookup x=some c):(rM X.env sc.names []).lookup x=some c:=by obtain⟨c',h'⟩:=gW (sE (env:=X.env) sc.names [] x hx);rw[h'];rw[jY I F h']at e;exact e
def ZF(I:Inv X pins σ H1 s₂)(F:CompF X.env.scope X.N sc idx)(hC:s₂.heap.objs.size<=C)(hfp: ∀b∈fp,uQ X pins H1 b)(hlt: ∀b∈fp,b<s₂.heap.objs.size):(zX X sc T idx C s₂ H1 fp).Ok where
 mod:=I.ok.mod
 kind:=F.kind
 glob:=I.ok.glob
 blt:=I.ok.blt
 above:=hC
 inj:=λx y c h1 h2=>by
  have low: ∀z,(rM X.env sc.names []).lookup z=some c->c<s₂.heap.objs.size:=λz h=>let ⟨v,q⟩:=I.cell z c (jY I F h);q.lt;rcases iD h1 with z1|z1<;>rcases iD h2 with z2|z2
  .exact PySem.name_of_addr (own_apart sc.names (C+1)) z1 z2
  .exact absurd (low y z2) (not_lt.mpr (le_of_lt (uT z1 hC)))
  .exact absurd (low x z1) (not_lt.mpr (le_of_lt (uT z2 hC)))
  .exact I.ok.inj x y c (jY I F z1) (jY I F z2)
 has:=λx hx=>by
  have hx':(SJ sc X.env.scope).lookup x=some .cell\/(SJ sc X.env.scope).lookup x=some .free:=hx;show∃c,(Bd X.env sc C).lookup x=some c;unfold Bd;rw[kD];rcases Ca hx' with z|z
  .obtain⟨c,hc⟩:=sE (env:=X.env) sc.names [] x z;exact gW ⟨c,mem_append_right _ hc⟩
  .obtain⟨c,hc⟩:=tZ sc.names (C+1) z;exact gW ⟨c,mem_append_left _ hc⟩
 cab:=λx c h e=>by have h':sc.names.lookup x=some .cell:=beq_iff_eq.mp h;exact le_of_lt (uT (Ql (PySem.mem_of_lookup h') e) hC)
 hd:=I.ok.hd
 frames:=I.ok.frames
 stk:=.inl rfl
 exf:=λb hb=>⟨ne_of_lt (lt_of_lt_of_le (hlt b hb) hC),λx c e=>by
  rcases iD e with z|z
  .exact ne_of_gt (lt_trans (hlt b hb) (uT z hC))
  .exact(hfp b hb).2.2.2.2.1 x c (jY I F z)⟩
 bs:=I.bs
 bsz:=le_trans I.ok.bsz I.sz
 noex:=λb o e hb=>by
  rcases (hfp b hb).2.2.2.1 with z|z
  .exact I.ok.noex b o e z
  .exact absurd (lt_of_lt_of_le (Heap.lt_size e) (le_trans I.ok.bsz z)) (lt_irrefl _)
 exfs:=λb hb z=>by
  rcases mC.mp (I.stkSub b z)with e|e
  .exact(hfp b hb).2.1 e
  .exact(hfp b hb).2.2.1 e
 funs:=I.stack
 frf:=I.stkFree
def SK{s₄:Shared}{m:Yg}(I:Inv X pins σ H1 s₂)(F:CompF X.env.scope X.N sc idx)(hC:s₂.heap.objs.size<=C)(hfp: ∀b∈fp,uQ X pins H1 b)(hlt: ∀b∈fp,b<s₂.heap.objs.size)
  (kp: ∀b o,s₂.heap.get? b=some o->s₄.heap.get? b=some o) (ho:s₄.os=s₂.os) (hg:s₄.gens=s₂.gens) (hn:s₄.heap.Ns C m) (hcl: ∀x c,(x,c)∈cellsFrom (C+1) sc.names []->s₄.heap.IsCell c none):
  Inv (zX X sc T idx C s₂ H1 fp) [] (T.map (λ_=>none)++BA σ idx) H1 s₄:=by
 have cellK: ∀c v,s₂.heap.IsCell c v->s₄.heap.IsCell c v:=λc v ⟨o,h1,h2⟩=>⟨o,kp c o h1,h2⟩
 refine⟨ZF I F hC hfp hlt,ho,by rw[hg];exact I.bare,Un.kept kp,⟨m,hn,λi x v e1 e2 e3=>?_⟩,λx c e=>?_,I.hok.fresh hC,λx c e=>?_,λp hp=>absurd (show p∈([]:Yi)from hp) (by simp),I.hok.kept kp,?_⟩
 .have e1':(T++idx.map λi=>(X.N[i]?).getD Str.empty)[i]? =some x:=e1;by_cases hi:i<T.length
  .rw[getElem?_append_left (by simpa using hi),getElem?_map]at e2
   cases z:T[i]? with
   |none=>rw[z]at e2;cases e2
   |some y=>rw[z]at e2;cases e2
  .rw[getElem?_append_right (by simpa using hi)]at e2;rw[getElem?_append_right (by omega)]at e1';rw[lM0]at e2;unfold BA at e2;rw[getElem?_map]at e1' e2
   cases z:idx[i - T.length]? with
   |none=>rw[z]at e2;cases e2
   |some j=>
    rw[z]at e1' e2;have hj:j∈idx:=mem_of_getElem? z;obtain⟨y,hy,k1,k2⟩:=F.cap j hj;have ex:y=x:=by have q:(X.N[j]?).getD Str.empty=x:=Option.some.inj e1';rw[hy]at q;exact q
    subst ex
    have ev:σ[j]? =some (some v):=by
     have q:(σ[j]?).join=some v:=Option.some.inj e2
     cases w':σ[j]? with
     |none=>rw[w']at q;cases q
     |some a=>rw[w']at q;have q':a=some v:=q;rw[q']
    obtain⟨m0,hn0,hl0⟩:=I.loc;have vis:Hz X.env.scope y:=k1.elim (λz=>.inr (.inl z)) λz=>.inr (.inr z);obtain⟨u,r,l⟩:=hl0 j y v hy ev vis;refine⟨u,r,?_⟩;rcases l with⟨kl,_⟩|⟨_,c,hc,q⟩
    .have kl':X.env.scope.names.lookup y=some .local:=kl;rcases k1 with z|z<;>rw[z]at kl'<;>cases kl'
    .have nc:(y,NameKind.cell)∉sc.names:=λz=>by have:=F.uni _ z;rw[k2]at this;cases this
     refine .inr ⟨JG (osc:=X.env.scope) k2,c,?_,cellK c _ q⟩;show(Bd X.env sc C).lookup y=some c;rw[Iy nc];exact Ja I F (PySem.mem_of_lookup k2) hc
 .rcases iD e with z|z
  .exact⟨none,hcl x c z⟩
  .obtain⟨v,q⟩:=I.cell x c (jY I F z);exact⟨v,cellK c v q⟩
 .rcases iD e with z|z
  .exact I.hok.fresh (le_of_lt (uT z hC))
  .exact I.freeC x c (jY I F z)
 .show(T.map (λ_=>(none:Option V))++BA σ idx).length=(T++idx.map λi=>(X.N[i]?).getD Str.empty).length;rw[lA,lA,lM0,lM0,mK]
def SN{σ1:St}{H':Hp}{s':Shared}{h':Heap}{D:Addr}{ys:List V}{its:Yb}{n:Nat}(I:Inv X pins σ H1 s₂)(hC:s₂.heap.objs.size<=C)(hfp: ∀b∈fp,uQ X pins H1 b)
  (J:Inv (zX X sc T idx C s₂ H1 fp) [] σ1 H' s') (hs:Heap.SameBut C s'.heap h') (hD:s₂.heap.objs.size<=D) (hDC:D≠C) (eD:s'.heap.get? D=some {cls:=.type "list",data:=.seq its.toArray n}) (nD:H' D=none) (r:Vals ys its) (hz:ys.length<=sizeLine):
  Inv X pins σ (xI H' D (.lst ys)) {s' with heap:=h'}:=by
 have old: ∀b o,s₂.heap.get? b=some o->b≠C/\b≠D:=λb o e=>⟨ne_of_lt (lt_of_lt_of_le (Heap.lt_size e) hC),ne_of_lt (lt_of_lt_of_le (Heap.lt_size e) hD)⟩
 have oldH: ∀b u,H1 b=some u->b≠D:=λb u e=>ne_of_lt (lt_of_lt_of_le (I.hok.lt e) hD);have nC:H' C=none:=J.free;have B:Un (EI X.stack) fp H1 H' s₂.heap s'.heap:=J.base;have mv: ∀b o,b≠C->s'.heap.get? b=some o->h'.get? b=some o:=λb o hb e=>(hs.2 b hb).trans e;refine I.call' (s':={s' with heap:=h'}) (ch:=fp) J.os ⟨λb o e q hb hx=>?_,λb o e q hb hx=>?_,λb o e q hx=>?_,λb o e hx=>?_,λb xs e=>?_,λb o u e=>?_,λb ps e=>?_⟩ ?_ J.bare λb hb=>⟨(hfp b hb).2.2.2.1,(hfp b hb).2.1,(hfp b hb).2.2.2.2.1,(hfp b hb).2.2.2.2.2⟩
 .exact mv b o (old b o e).1 (B.keep b o e q hb hx)
 .obtain⟨sl,z⟩:=B.slot b o e q hb hx;exact⟨sl,mv b _ (old b o e).1 z⟩
 .rw[zO (old b o e).2];exact B.free b o e q hx
 .obtain⟨o',z⟩:=B.there b o e hx;exact⟨o',mv b o' (old b o e).1 z⟩
 .rw[zO (oldH b _ e)];exact B.tups b xs e
 .rw[zO (oldH b _ e)];exact B.frzs b o u e
 .obtain⟨more,z⟩:=B.tbls b ps e;exact⟨more,by rw[zO (oldH b _ e)];exact z⟩
 .intro b u e;by_cases hb:b=D
  .subst hb;rw[zR]at e;cases e;exact⟨hz,its,n,r,mv b _ hDC eD⟩
  .rw[zO hb]at e;refine(J.hok b u e).stay (λc v hc q=>mv c v ?_ q) (λc q=>by rw[zO (zV q nD)];exact q) λc xs q=>by rw[zO (zV q nD)];exact q
   rcases hc with z|z
   .rw[z];exact zV e nC
   .exact zV z nC
end
section
variable{X:Cx}
def HV{M:Model}{A:Around}{E:VP}{s:Shared}{scope:Scope}{globals:Addr}{closure:List (Str×Addr)}{qual:Str}{outer:Env}{Q:Env->Shared->Prop}
  (hQ:Q (newEnv scope s.heap.objs.size globals (cellsFrom (s.heap.objs.size+1) scope.names closure) qual none .none (some outer) builtinsNs) {s with heap:=pushCells (s.heap.push {cls:=.type "dict",data:=.dict #[]}) scope.names}):
  wpAny M A (newFunctionEnv scope globals closure [] qual none .none (some outer)) Q E s:=by
 simp only[newFunctionEnv,Option.isSome_some,if_true];refine wB (wpAny_alloc ?_);refine wB (wpAny_layCells _ (λname kind cells=>by cases hkc:kind==NameKind.cell<;>simp[hkc]) _ _ _ _ ?_);rw[show({s with heap:=s.heap.push {cls:=.type "dict",data:=.dict #[]}}:Shared).heap.objs.size=s.heap.objs.size+1 from Heap.size_push ..];simp only[forIn_nil];exact wB (wP (wP hQ))
def OM{C:Cx->Prop}{elt tg iter:Expr}{ifs:Za}{pos:Pos}{sc:Scope}{wi:TI}{g:TG}{tc:Addr->Shared->Hp->List Addr->TT}{te:Addr->Shared->Hp->List Addr->TE}(T:Ye)(idx:Db)
  (hi:Ih C X tg iter wi) (hCx: ∀c s₂ H2 fp pins σ,Inv X pins σ H2 s₂->C (zX X sc T idx c s₂ H2 fp)) (hB:vG X.env.scope X.N sc idx=true)
  (hg: ∀C s₂ H1 fp,PG (zX X sc T idx C s₂ H1 fp) tg g)
  (hc: ∀C s₂ H1 fp,ZE (zX X sc T idx C s₂ H1 fp) ifs (tc C s₂ H1 fp))
  (he: ∀C s₂ H1 fp,PE (zX X sc T idx C s₂ H1 fp) elt (te C s₂ H1 fp))
  (hs: ∀x,foldedSetIterable iter X.env x=pure x:=by intro _;rfl)
  {pins:Yi} {s:Shared} {σ:St} {H:Hp} {Q:VK} {use:Option (Value->Sem Unit)} {Q':VP} (I:Inv X pins σ H s) (h:Bx wi g tc te T.length idx σ H Q)
  (fin: ∀(D C:Addr)(s4:Shared)(H':Hp)(r:_),(∀h',Heap.SameBut C s4.heap h'->Inv X pins σ H' {s4 with heap:=h'})->uQ X pins H' C->(∃m,s4.heap.Ns C m)->Q (.ref D) H'->
   compPost (model X.prog X.w) X.A X.xe use Q' (.ref D) C (.ok r) s4):
  wpAny (model X.prog X.w) X.A (comprehension (.ListComp elt [⟨tg,iter,ifs,0⟩] sc pos) sc X.env (firstIterPos [⟨tg,iter,ifs,0⟩] pos) (newList []) false (eval iter X.env) use) Q' X.xe s:=by
 have cf:=Iz hB;refine wpAny_comprehension_free (use:=use) (cl:=rM X.env sc.names []) rfl hs (HU (OL I cf)) cf.kind cf.locs ?_;refine jX (hi pins s σ H _ I h) λv s1 h1=>jX h1 λitv s2 h2=>?_;obtain⟨it,fp,tn,J,H2,e,I2,Tn,st2,f2,W,⟨m0,w0⟩,turn⟩:=h2;subst e;have hlt: ∀b∈fp,b<s2.heap.objs.size:=λb hb=>let ⟨o,e,_⟩:=Tn.obj _ _ st2 b hb;Heap.lt_size e;refine wpAny_newObj_type (HV ?_);dsimp only;generalize hH2:s2.heap.push {cls:=.type "list",dict:=none,data:=.seq ([]:Yb).toArray}=HH;generalize hh1:pushCells (HH.push {cls:=.type "dict",data:=.dict #[]}) sc.names=h₁;have hns₁:h₁.Ns HH.objs.size (λ_=>none):=hh1▸(Heap.Ns.new HH (.type "dict")).keeps (pushCells_keeps _ _);have hC:HH.objs.size=s2.heap.objs.size+1:=by rw[<-hH2,Heap.size_push]
 have hDC:s2.heap.objs.size≠HH.objs.size:=by rw[hC];exact ne_of_lt (Nat.lt_succ_self _)
 have hCle:s2.heap.objs.size<=HH.objs.size:=by rw[hC];exact le_succ _
 have up1: ∀b o,HH.get? b=some o->h₁.get? b=some o:=λb o e=>hh1▸pushCells_keeps _ _ b o (hP0 _ e);have old: ∀b o,s2.heap.get? b=some o->h₁.get? b=some o:=λb o e=>up1 b o (hH2▸hP0 _ e);have eD0:h₁.get? s2.heap.objs.size=some {cls:=.type "list",data:=.seq ([]:Yb).toArray 0}:=up1 _ _ (hH2▸Heap.get?_push_size _ rfl);have hcl: ∀x c,(x,c)∈cellsFrom (HH.objs.size+1) sc.names []->h₁.IsCell c none:=λx c hm=>by have ok:=cellsFrom_ok sc.names (HH.push {cls:=.type "dict",data:=.dict #[]}) 0 [] ⟨λ_ _ hm=>(nomatch hm),List.Pairwise.nil⟩ (zero_le _);rw[Heap.size_push,hh1]at ok;exact(ok.empty x c hm).1
 have nD0:H2 s2.heap.objs.size=none:=I2.hok.fresh (le_refl _)
 have cD: ∀x c,(Bd X.env sc HH.objs.size).lookup x=some c->c≠s2.heap.objs.size:=λx c e=>by
  rcases iD e with z|z
  .exact ne_of_gt (uT z hCle)
  .obtain⟨v,q⟩:=I2.cell x c (jY I2 cf z);exact ne_of_lt q.lt
 have loop: ∀s4:Shared,s4={s2 with heap:=h₁}->
   codeAny (model X.prog X.w) X.A (.compLoop (.ListComp elt [⟨tg,iter,ifs,0⟩] sc pos) 0 (.ref it) (.ref s2.heap.objs.size) (compEnvC sc (Bd X.env sc HH.objs.size) HH.objs.size X.env))
    (compPost (model X.prog X.w) X.A X.xe use Q' (.ref s2.heap.objs.size) HH.objs.size) s4:=by
  rintro s4 rfl
  have J0:Inv (zX X sc T idx HH.objs.size s2 H2 fp) [] (T.map (λ_=>none)++BA σ idx) H2 {s2 with heap:=h₁}:=
   SK I2 cf hCle f2 hlt old rfl rfl hns₁ hcl
  refine LI (λk s'=> ∃(i:Nat)(ys:List V)(its:Yb)(n:Nat)(H':Hp)(τ:St),Inv (zX X sc T idx HH.objs.size s2 H2 fp) [] (τ++BA σ idx) H' s'/\τ.length=T.length/\tn i s'.heap/\(∀b∈fp,H' b=none)/\
   s'.heap.get? s2.heap.objs.size=some {cls:=.type "list",data:=.seq its.toArray n}/\H' s2.heap.objs.size=none/\Vals ys its/\W i k ys H') ?_ m0
   ⟨0,[],[],0,H2,T.map (λ_=>none),J0,by rw[lM0],Tn.keep _ _ _ st2 λb _ o e=>old b o e,λb hb=>(f2 b hb).1,eD0,nD0,.nil,w0⟩
  rintro k s3 ⟨i,ys,its,n,H3,τ,I3,hτ,st3,fr3,eD3,nD3,r3,w3⟩;obtain⟨hz,alt⟩:=turn i k ys H3 w3;have hDfs:s2.heap.objs.size∉(zX X sc T idx HH.objs.size s2 H2 fp).fs:=λz=>by obtain⟨_,o,ho,_⟩:=I2.stack.mem (show s2.heap.objs.size∈EI X.stack from z);exact absurd (Heap.lt_size ho) (lt_irrefl _)
  have pinD: ∀{H':Hp}{s':Shared},s'.heap.get? s2.heap.objs.size=some {cls:=.type "list",data:=.seq its.toArray n}->H' s2.heap.objs.size=none->
    ∀p∈[(s2.heap.objs.size,({cls:=.type "list",data:=.seq its.toArray n}:Obj))],s'.heap.get? p.1=some p.2/\H' p.1=none/\p.1≠(zX X sc T idx HH.objs.size s2 H2 fp).env.locals/\p.1∉(zX X sc T idx HH.objs.size s2 H2 fp).fs/\ ∀v,p.2.data≠.cell v:=
   λ{H' s'} e1 e2 p hp=>by
    have ep:p=(s2.heap.objs.size,{cls:=.type "list",data:=.seq its.toArray n}):=by simpa using hp
    subst ep;exact⟨e1,e2,hDC,hDfs,λv z=>by cases z⟩
  have P3:Inv (zX X sc T idx HH.objs.size s2 H2 fp) [(s2.heap.objs.size,{cls:=.type "list",data:=.seq its.toArray n})] (τ++BA σ idx) H3 s3:=I3.pins_of (pinD eD3 nD3)
  have stat: ∀{H':Hp},(∀b∈fp,H' b=none)-> ∀b∈fp,uQ (zX X sc T idx HH.objs.size s2 H2 fp) [(s2.heap.objs.size,{cls:=.type "list",data:=.seq its.toArray n})] H' b:=λ{H'} hn b hb=>by
   have hb2:=hlt b hb;refine⟨hn b hb,ne_of_lt (lt_of_lt_of_le hb2 hCle),I3.ok.exfs b hb,.inl hb,λx c e=>?_,λp hp=>?_⟩
   .rcases iD e with z|z
    .exact ne_of_gt (lt_trans hb2 (uT z hCle))
    .exact(f2 b hb).2.2.2.2.1 x c (jY I2 cf z)
   have ep:p=(s2.heap.objs.size,({cls:=.type "list",data:=.seq its.toArray n}:Obj)):=by simpa [zX]using hp
   subst ep;exact ne_of_gt hb2
  rcases alt with⟨stop,q⟩|⟨go,hl2,step⟩
  .refine jX (Tn.done (zX X sc T idx HH.objs.size s2 H2 fp) rfl rfl rfl (hCx _ _ _ _ _ _ I2) i _ s3 _ H3 (λ_ _=>False) P3 (stat fr3) st3 stop) λr s4 ⟨hr,I4⟩=>?_;subst hr;obtain⟨m,hn,_⟩:=id I4.loc;have eD4:=(I4.pin (s2.heap.objs.size,{cls:=.type "list",data:=.seq its.toArray n}) (by simp)).1;exact fin _ _ s4 _ _ (λh' hs'=>SN I2 hCle f2 (I4.pins_of (λp hp=>nomatch hp)) hs' (le_refl _) hDC eD4 nD3 r3 hz) (I2.fpOk hCle (by rw[zO (Ne.symm hDC)];exact I4.free)) ⟨m,hn⟩ (q _ nD3)
  .refine jX (Tn.item (zX X sc T idx HH.objs.size s2 H2 fp) rfl rfl rfl (hCx _ _ _ _ _ _ I2) i _ s3 _ H3 (λ_ _=>False) P3 (stat fr3) st3 go) λr s4 ⟨u,hr,h4⟩=>?_;subst hr;refine jX h4 λ_ s5 ⟨x,H5,I5,r5,y5,st5,fr5⟩=>?_;have I5':=I5.pinned (stat fr5) (Tn.obj _ _ st5);refine jX (hg HH.objs.size s2 H2 fp _ s5 _ H5 x u _ I5' r5 (step x H5 y5 τ hτ)) λ_ s6 ⟨σ6,H6,I6,⟨τ',e6,l6⟩,q6⟩=>?_;subst e6;refine jX (hc HH.objs.size s2 H2 fp _ s6 _ H6 _ I6 (q6 HH.objs.size s2 fp)) λok s7 ⟨H7,I7,q7⟩=>?_
   have mD:(s2.heap.objs.size,({cls:=.type "list",data:=.seq its.toArray n}:Obj))∈(zX X sc T idx HH.objs.size s2 H2 fp).pn++([(s2.heap.objs.size,{cls:=.type "list",data:=.seq its.toArray n})]++AW fp s5.heap):=
    mem_append_right _ (mem_append_left _ (by simp))
   have mF: ∀b∈fp, ∀o,s5.heap.get? b=some o->(b,o)∈(zX X sc T idx HH.objs.size s2 H2 fp).pn++([(s2.heap.objs.size,{cls:=.type "list",data:=.seq its.toArray n})]++AW fp s5.heap):=λb hb o e=>
    mem_append_right _ (mem_append_right _ (uR hb e))
   cases ok with
   |false=>
    rw[iN0 xF0]at q7 ⊢;obtain⟨m',hm',w7⟩:=q7;refine⟨m',hm',i+1,ys,its,n,H7,τ',I7.pins_of (λp hp=>nomatch hp),l6,Tn.keep _ _ _ st5 λb hb o e=>(I7.pin _ (mF b hb o e)).1,λb hb=>?_,(I7.pin _ mD).1,(I7.pin _ mD).2.1,r3,w7⟩;obtain⟨o,e,d⟩:=Tn.obj _ _ st5 b hb;exact(I7.pin _ (mF b hb o e)).2.1
   |true=>
    rw[iP rfl]at q7 ⊢;refine jX (he HH.objs.size s2 H2 fp _ s7 _ H7 _ I7 q7) λy s8 ⟨yv,H8,I8,r8,m',hm',w8⟩=>?_;have eD8:=(I8.pin _ mD).1;have nD8:=(I8.pin _ mD).2.1;have hl:=r3.length;have q:=PySem.IsL.update eD8 (λz=>z.push y);rw[show its.toArray.push y=(its++[y]).toArray by simp]at q;refine call_meets PySem.F.slot_list_append ⟨_,eD8,rfl⟩ PySem.F.entry_list_append (PySem.F.args_list_append_2 _ _) (PySem.list_append s2.heap.objs.size its.toArray n y (by rw[sA];omega)) ⟨eD8,?_⟩;have I9:Inv (zX X sc T idx HH.objs.size s2 H2 fp) [] (τ'++BA σ idx) H8 s8:=I8.pins_of (λp hp=>nomatch hp);have up: ∀b o,b≠s2.heap.objs.size->s8.heap.get? b=some o->(s8.heap.update s2.heap.objs.size (Obj.mapSeq λz=>z.push y)).get? b=some o:=λb o hb e=>(Heap.get?_update_other s8.heap _ (Ne.symm hb)).trans e;refine⟨m',hm',i+1,ys++[yv],its++[y],_,H8,τ',I9.turned (t':=s8.toks) up nD8 hDC (.inr (le_refl _)) cD (λp hp=>nomatch hp),l6,?_,λb hb=>?_,q,nD8,r3.append (.cons r8 .nil),w8⟩
    .exact Tn.keep _ _ _ st5 λb hb o e=>up b o (ne_of_lt (hlt b hb)) (I8.pin _ (mF b hb o e)).1
    .obtain⟨o,e,d⟩:=Tn.obj _ _ st5 b hb;exact(I8.pin _ (mF b hb o e)).2.1
 exact codeAny_compStart_list (loop _ rfl) (Tn.self X.A 0 _ _ _ (Tn.keep _ _ _ st2 λb _ o e=>old b o e) (loop _ rfl))
def Jb{C:Cx->Prop}{elt tg iter:Expr}{ifs:Za}{pos:Pos}{sc:Scope}{wi:TI}{g:TG}{tc:Addr->Shared->Hp->List Addr->TT}{te:Addr->Shared->Hp->List Addr->TE}(T:Ye)(idx:Db)
  (hi:Ih C X tg iter wi) (hCx: ∀c s₂ H2 fp pins σ,Inv X pins σ H2 s₂->C (zX X sc T idx c s₂ H2 fp)) (hB:vG X.env.scope X.N sc idx=true)
  (hg: ∀C s₂ H1 fp,PG (zX X sc T idx C s₂ H1 fp) tg g)
  (hc: ∀C s₂ H1 fp,ZE (zX X sc T idx C s₂ H1 fp) ifs (tc C s₂ H1 fp))
  (he: ∀C s₂ H1 fp,PE (zX X sc T idx C s₂ H1 fp) elt (te C s₂ H1 fp))
  (hs: ∀x,foldedSetIterable iter X.env x=pure x:=by intro _;rfl):
  PE X (.ListComp elt [⟨tg,iter,ifs,0⟩] sc pos) (Bx wi g tc te T.length idx):=by
 intro pins s σ H Q I h;rw[eval_ListComp];exact OM T idx hi hCx hB hg hc he hs (use:=none) I h λD C s4 H' r J _ ⟨m,hn⟩ q=>⟨m,hn,λh' hs'=>⟨.ref D,H',J h' hs',rfl,q⟩⟩
end
def kE(x:Db):Str:=⟨x.toArray⟩
def jZ(x:Db):(kE x).length=x.length:=by simp[kE,Str.length]
def uA(x:Db):(kE x).cps.toList=x:=by simp[kE]
def EK{x y:Db}(h:kE x=kE y):x=y:=by have:=congrArg (λs=>s.cps.toList) h;simpa [kE]using this
def Jc(x y:Db):kE x++kE y=kE (x++y):=by show Str.append (kE x) (kE y)=_;simp[Str.append,kE]
theorem Je(c:Nat):(⟨#[c]⟩:Str)=kE [c]:=rfl
def bU{α:Type}(xs:List α)(lo hi:Yk):List α:=(xs.drop (HT.sIx xs.length 0 lo)).take (HT.sIx xs.length xs.length hi - HT.sIx xs.length 0 lo)
theorem strIdx(lo hi:Yk)(n:Nat):Builtin.Str.strSliceIndices lo hi 1 n=(List.range (HT.sIx n n hi - HT.sIx n 0 lo)).map (HT.sIx n 0 lo+·):=by
 have e1:(match lo with |none=>(if(1:Int)>0 then(0:Int)else(n:Int) - 1)|some i=>if(1:Int)>0 then max 0 (min (if i<0 then i+(n:Int)else i) (n:Int))else max (-1) (min (if i<0 then i+(n:Int)else i) ((n:Int) - 1)))=((HT.sIx n 0 lo:Nat):Int):=by
  cases lo with
  |none=>simp[HT.sIx]
  |some i=>
   simp only[HT.sIx,show(1:Int)>0 by decide,if_true];by_cases h:i<0
   .simp only[h,if_true];omega
   .simp only[h,iF];omega
 have e2:(match hi with |none=>(if(1:Int)>0 then(n:Int)else -1)|some i=>if(1:Int)>0 then max 0 (min (if i<0 then i+(n:Int)else i) (n:Int))else max (-1) (min (if i<0 then i+(n:Int)else i) ((n:Int) - 1)))=((HT.sIx n n hi:Nat):Int):=by
  cases hi with
  |none=>simp[HT.sIx]
  |some i=>
   simp only[HT.sIx,show(1:Int)>0 by decide,if_true];by_cases h:i<0
   .simp only[h,if_true];omega
   .simp only[h,iF];omega
 rw[<-sliceRange_one];unfold Builtin.Str.strSliceIndices;dsimp only;rw[<-e1, <-e2];cases lo<;>cases hi<;>rfl
theorem ZG(x:Db)(lo hi:Yk):Txt.slice (kE x) lo hi=kE (bU x lo hi):=by
 unfold Txt.slice;rw[strIdx,jZ];have hp:((List.range (HT.sIx x.length x.length hi - HT.sIx x.length 0 lo)).map (HT.sIx x.length 0 lo+·)).filterMap ((kE x).cps[·]?)=bU x lo hi:=by have:=pick_run (kE x).cps (HT.sIx x.length 0 lo) (HT.sIx x.length x.length hi - HT.sIx x.length 0 lo);rw[uA]at this;exact this
 rw[hp];split
 .rename_i hc;rw[aE]at hc;have hl:HT.sIx x.length x.length hi - HT.sIx x.length 0 lo=x.length:=by simpa using hc.2
  have h2:HT.sIx x.length x.length hi<=x.length:=HT.sIx_le _ _ (le_refl _) _;have h3:HT.sIx x.length 0 lo<=x.length:=HT.sIx_le _ _ (zero_le _) _;have e:HT.sIx x.length 0 lo=0:=by omega
  unfold bU;rw[hl,e];simp
 .rfl
section
variable{X:Cx}
def rSlS:V->Option Int->Option Int->Hp->VK->Prop:=λx lo hi H Q=> ∃cs,x=.str (kE cs)/\cs.length<=sizeLine/\Q (.str (kE (bU cs lo hi))) H
def Qm:SlR X rSlS:=by
 intro pins s σ H x v vl vu lo hi sl Q I rx hs pl pu h;obtain⟨cs,rfl,hz,q⟩:=h;obtain⟨t,rfl⟩:=rx;have hl:(Txt.slice (kE cs) lo hi).length<=sizeLine:=le_trans (Txt.slice_le _ _ _) (by rw[jZ];exact hz);rw[<-ZG]at q;refine⟨"str",_,slot_str_getitem.lookup,typeIs_str _ _ _,?_⟩;obtain⟨o,ho,hc,hd⟩:=hs
 cases pl with
 |none=>
  cases pu with
  |none=>exact wpAny_getItem_str_slice (l:=none) (u:=none) (st:=none) ⟨o,ho,hc,hd⟩ rfl (post_val_or_str ⟨hl,λt' k=>⟨.str _,H,I.tok _,⟨_,rfl⟩,q⟩⟩)
  |int j uj=>exact wpAny_getItem_str_slice (l:=none) (u:=some (j,uj)) (st:=none) ⟨o,ho,hc,hd⟩ rfl (post_val_or_str ⟨hl,λt' k=>⟨.str _,H,I.tok _,⟨_,rfl⟩,q⟩⟩)
 |int i ui=>
  cases pu with
  |none=>exact wpAny_getItem_str_slice (l:=some (i,ui)) (u:=none) (st:=none) ⟨o,ho,hc,hd⟩ rfl (post_val_or_str ⟨hl,λt' k=>⟨.str _,H,I.tok _,⟨_,rfl⟩,q⟩⟩)
  |int j uj=>exact wpAny_getItem_str_slice (l:=some (i,ui)) (u:=some (j,uj)) (st:=none) ⟨o,ho,hc,hd⟩ rfl (post_val_or_str ⟨hl,λt' k=>⟨.str _,H,I.tok _,⟨_,rfl⟩,q⟩⟩)
def FG(cs:Db)(k:Int):List Nat:=(List.replicate k.toNat cs).flatten
theorem BB(cs:Db): ∀(k:Nat)(acc:Db),List.foldl (λx1 x2=>x1++x2) acc.toArray (List.replicate k cs.toArray)=(acc++(List.replicate k cs).flatten).toArray
 |0,acc=>by simp
 |k+1,acc=>by rw[replicate_succ,foldl_cons,replicate_succ,flatten_cons, <-aA, <-BB cs k (acc++cs)];simp
def SO:OpR X (binaryOp .Mult) (λx y H Q=> ∃cs k,x=.str (kE cs)/\y=.int k/\0<=k/\k<1000/\cs.length<=1000/\Q (.str (kE (FG cs k))) H):=by
 intro pins s σ H x y v u Q I rx ry h;obtain⟨cs,k,rfl,rfl,h0,h1,hc,q⟩:=h;obtain⟨t,rfl⟩:=rx;obtain⟨t',rfl⟩:=ry;have hs:sizeLine=16777216:=sizeLine_eq;have hprod:cs.length * k.toNat<=1000 * 1000:=Nat.mul_le_mul hc (by omega);have e: ∀b,Q (.str b) H->b=kE (FG cs k)->True:=λ_ _ _=>trivial;refine PySem.P.mul_str (by rw[dF0 (by omega),dF0 (by omega)];rfl) (λh2 _=>?_) (λ_ _=>?_) ?_
 .rw[jZ];have hk:1<=k:=by omega
  have:(1000:Int)<=(2 ^ 63 - 1) / k:=by rw[Int.le_ediv_iff_mul_le (by omega)];omega
  omega
 .rw[jZ];unfold PySem.Builtin.Str.tooLong;exact dF0 (by omega)
 .have made: ∀(z:Str),z=kE (FG cs k)->z.length<=sizeLine->(Made.str z).post (EP X pins σ Q) s:=λz ez hz=>⟨hz,by rw[ez];exact⟨.str _,H,I.tok _,⟨_,rfl⟩,q⟩⟩
  have hlen:(FG cs k).length=k.toNat * cs.length:=by unfold FG;rw[len_rep]
  by_cases hn:k<1
  .rw[iP hn];have hk:k.toNat=0:=by omega
   refine made _ ?_ (by decide);unfold FG;rw[hk];rfl
  .rw[iN0 hn];by_cases h3:(k==1 || (kE cs).length==0)=true
   .rw[iP h3];refine⟨.str (kE cs),H,I,⟨_,rfl⟩,?_⟩
    have:FG cs k=cs:=by
     unfold FG;rw[or_eq_true]at h3;rcases h3 with h3|h3
     .have:k=1:=by simpa using h3
      subst this;simp
     .rw[jZ]at h3;have:cs=[]:=by cases cs with |nil=>rfl|cons _ _=>simp at h3
      subst this;simp
    rw[this]at q;exact q
   .rw[iN0 h3];refine made _ ?_ ?_
    .unfold FG kE;have:=BB cs k.toNat [];rw[nil_append]at this;exact congrArg Str.mk this
    .have e3:(List.foldl (λx1 x2=>x1++x2) #[] (List.replicate k.toNat (kE cs).cps))=(FG cs k).toArray:=by have:=BB cs k.toNat [];rw[nil_append]at this;exact this
     show(List.foldl (λx1 x2=>x1++x2) #[] (List.replicate k.toNat (kE cs).cps)).size<=sizeLine;rw[e3,sA,hlen,Nat.mul_comm];omega
def LK:CallR X (.builtin "all") (λxs H Q=> ∃(a:Addr)(bs:Yj),xs=[.ref a]/\SqL X.K H a (bs.map V.bl)/\X.calm=true/\Q (.bl (bs.all id)) H):=by
 intro pins s σ H xs us Q I r h;obtain⟨a,bs,rfl,hq,hc,q⟩:=h;obtain⟨u,rfl,ru⟩:=vals1 r;cases ru;obtain⟨its,rv,pl,hz⟩:=I.list hq;have hlen:its.length=bs.length:=by rw[<-rv.length,lM0]
 refine PySem.call_all_walk (wpAny_pyIter_list pl.isList ?_);have hI:a≠s.heap.objs.size:=by obtain⟨o,ho,_⟩:=pl.isList;exact ne_of_lt (Heap.lt_size ho)
 have I1: ∀(h':Heap)(tk:Nat),(∀b o,b∉[s.heap.objs.size]->(s.heap.push {cls:=.type "list_iterator",data:=.fields #[.ref a,.int 0 0]}).get? b=some o->h'.get? b=some o)->Inv X pins σ H {s with heap:=h',toks:=tk}:=λh' tk k=>
  I.kept λb o e=>k b o (by simpa using ne_of_lt (Heap.lt_size e)) (hP0 _ e)
 refine⟨s.heap.objs.size,[s.heap.objs.size,a],[s.heap.objs.size],its.toArray.size,_,_,λi=>bs.getD i false,rfl,PySem.Walks.list (by first |exact I.ok.hd hc|exact(show X.A.in1.handled=none from I.ok.hd hc)) _ a hI its.toArray,⟨⟨_,Heap.get?_push_size _ rfl,rfl,rfl⟩,pl.isList.at λo e=>hP0 _ e⟩,?_,λh' tk k=>?_⟩
 .intro i v s' Q' E' hv hQ';have hv':its[i]? =some v:=by simpa using hv
  have hi:i<bs.length:=by rw[<-hlen];exact(gS.mp hv').1
  have hb:(bs.map V.bl)[i]? =some (V.bl (bs.getD i false)):=by rw[getElem?_map,gE hi];simp[getD_eq_getElem?_getD,hi]
  obtain⟨u',hu',rv'⟩:=rv.get hb;rw[hv']at hu';cases hu';cases rv';exact wpAny_truthy_bool hQ'
 .refine⟨.bl (bs.all id),H,I1 h' tk k,?_,q⟩;show Value.bool _=Value.bool _;congr 1;rw[sA,hlen]
  have: ∀(l:Yj),(List.range l.length).all (λi=>l.getD i false)=l.all id:=by
   intro l;rw[Bool.eq_iff_iff,all_eq_true,all_eq_true];constructor
   .intro h x hx;obtain⟨i,hi,rfl⟩:=getElem_of_mem hx;have:=h i (mem_range.mpr hi);simpa [getD_eq_getElem?_getD,hi]using this
   .intro h i hi;have hi':=mem_range.mp hi;have:=h l[i] (getElem_mem hi');simpa [getD_eq_getElem?_getD,hi']using this
  exact this bs
def Vk(x:Db):It:=⟨λi _=>i<x.length,λi H v H'=>H'=H/\ ∃c,x[i]? =some c/\v=.str (kE [c]),λi _=>x.length<=i⟩
def iStr(tl:TE):TI:=λσ H R=>tl σ H λv H1=> ∃x,v=.str (kE x)/\R (Vk x) H1
def ON{P:Program}{w:World}{K:Zb}{tg:Expr}(it:Addr)(ty:String)(x:Db)(t:Tok)(hty:ty="str_ascii_iterator"\/ty="str_iterator"):
  Turn P w K tg (Vk x) [it] it (λi h=>h.IsStrIter it ty (kE x) t i) where
 mem:=by simp
 obj:=λi h st b hb=>by
  have e:b=it:=by simpa using hb
  subst e;obtain⟨o,e,c,d⟩:=st;exact⟨o,e,λv z=>by rw[d]at z;cases z⟩
 keep:=λi h h' st k=>let ⟨o,ho,r⟩:=st;⟨o,k it (by simp) o ho,r⟩
 item:=by
  intro X hP hw hK hc i pins s σ H E I hf st hg;subst hP hw hK;obtain⟨f0,f1,f2,f3,f4,f5⟩:=hf it (by simp);have hi:i<x.length:=hg;have hxi:(kE x).cps[i]? =some x[i]:=by simp[kE,hi]
  have fin: ∀(h':Heap),h'.IsStrIter it ty (kE x) t (i+1)->Heap.SameBut it s.heap h'-> ∃u,some (Value.str ⟨#[x[i]]⟩ s.toks)=some u/\
    wpAny (model X.prog X.w) X.A (letOwnedTupleGo tg (.ref it) u) (λ_ s2=> ∃y H',Inv X pins σ H' s2/\RelV y u/\(Vk x).yld i H y H'/\s2.heap.IsStrIter it ty (kE x) t (i+1)/\ ∀b∈[it],H' b=none) E {s with heap:=h',toks:=s.toks+1}:=λh' st' sb=>by
   have I1:Inv X pins σ H {s with heap:=h',toks:=s.toks+1}:=I.turned (λb o hb e=>(sb.2 b hb).trans e) f0 f1 f3 f4 f5;obtain⟨o,e,c,d⟩:=id st';refine⟨_,rfl,OE (s:={s with heap:=h',toks:=s.toks+1}) e c d (by rcases hty with rfl|rfl<;>decide) ⟨.str (kE [x[i]]),H,I1,⟨_,rfl⟩,⟨rfl,x[i],by simp[hi],rfl⟩,st',λb hb=>(hf b hb).1⟩⟩
  rcases hty with rfl|rfl
  .exact wpAny_pyNext_ascii_item st hxi λh' st' sb=>fin h' st' sb
  .exact wpAny_pyNext_wide_item st hxi λh' st' sb=>fin h' st' sb
 done:=by
  intro X hP hw hK hc i pins s σ H E I hf st hg;subst hP hw hK;obtain⟨f0,f1,f2,f3,f4,f5⟩:=hf it (by simp);have hi:x.length<=i:=hg;have hxi:(kE x).cps[i]? =none:=by simp[kE,hi]
  rcases hty with rfl|rfl
  .exact wpAny_pyNext_ascii_end (I.ok.hd hc) st hxi λh' eb=>⟨rfl,I.turned (t':=s.toks) (λb o hb e=>eb b o hb e) f0 f1 f3 f4 f5⟩
  .exact wpAny_pyNext_wide_end (I.ok.hd hc) st hxi λh' eb=>⟨rfl,I.turned (t':=s.toks) (λb o hb e=>eb b o hb e) f0 f1 f3 f4 f5⟩
 self:=λ_ _ _ _ _ st h=>by
  rcases hty with rfl|rfl
  .exact wpAny_pyIter_striter_ascii st h
  .exact wpAny_pyIter_striter_wide st h
def Qn{tg l:Expr}{tl:TE}(hl:PE X l tl):PI X tg l (iStr tl):=by
 intro pins s σ H R I h;refine jX (hl pins s σ H _ I h) λv s1 ⟨x,H1,I1,r1,q1⟩=>?_;obtain⟨cs,e,q⟩:=q1;subst e;obtain⟨t,rfl⟩:=r1
 have fp: ∀(o:Obj), ∀b∈[s1.heap.objs.size],uQ X pins H1 b:=λo b hb=>by
  have e:b=s1.heap.objs.size:=by simpa using hb
  subst e;exact I1.fpOk (le_refl _) (I1.hok.fresh (le_refl _))
 cases ha:(kE cs).cps.all (· <128)
 .refine wpAny_pyIter_wide ha ?_;exact⟨s1.heap.objs.size,[s1.heap.objs.size],_,_,H1,rfl,I1.kept (t':=s1.toks) λb o e=>hP0 _ e,ON _ "str_iterator" cs t (.inr rfl),⟨_,Heap.get?_push_size _ rfl,rfl,rfl⟩,fp default,q⟩
 .refine wpAny_pyIter_ascii ha ?_;exact⟨s1.heap.objs.size,[s1.heap.objs.size],_,_,H1,rfl,I1.kept (t':=s1.toks) λb o e=>hP0 _ e,ON _ "str_ascii_iterator" cs t (.inl rfl),⟨_,Heap.get?_push_size _ rfl,rfl,rfl⟩,fp default,q⟩
end
section
variable{X:Cx}
def PU(X:Cx)(e:Expr)(t:TE):Prop:= ∀(i:Nat)(x:Str)(pos' pos:Pos),X.N.Nodup->X.N[i]? =some x->Loc X.env.scope x->(X.fn x=true\/X.env.scope.names.lookup x=some .local)->
 swapsWith e (some (.Name x pos')) pos.line X.env=pure true->PS X (.Assign [.Name x pos'] e pos) (Pk t (Bk i))
def Jf{C:Cx->Prop}{elt tg iter:Expr}{ifs:Za}{pos:Pos}{sc:Scope}{wi:TI}{g:TG}{tc:Addr->Shared->Hp->List Addr->TT}{te:Addr->Shared->Hp->List Addr->TE}(T:Ye)(idx:Db)
  (hi:Ih C X tg iter wi) (hCx: ∀c s₂ H2 fp pins σ,Inv X pins σ H2 s₂->C (zX X sc T idx c s₂ H2 fp)) (hB:vG X.env.scope X.N sc idx=true)
  (hg: ∀C s₂ H1 fp,PG (zX X sc T idx C s₂ H1 fp) tg g)
  (hc: ∀C s₂ H1 fp,ZE (zX X sc T idx C s₂ H1 fp) ifs (tc C s₂ H1 fp))
  (he: ∀C s₂ H1 fp,PE (zX X sc T idx C s₂ H1 fp) elt (te C s₂ H1 fp))
  (hs: ∀x,foldedSetIterable iter X.env x=pure x:=by intro _;rfl):
  PU X (.ListComp elt [⟨tg,iter,ifs,0⟩] sc pos) (Bx wi g tc te T.length idx):=by
 intro i x pos' spos hN hix hx hf hsw pins s σ H D I h;rw[exec_Assign_Name_used _ _ _ _ hsw];refine wB (wpAny_standAt (wB ?_));rw[arm_evalThenUse_ListComp];refine wB (jX (OM T idx hi hCx hB hg hc he hs (use:=some (assign (.Name x pos') X.env)) (Q':=λ_ s'=> ∃σ' H',Inv X pins σ' H' s'/\D.nx σ' H') I h λDd C s4 H' _ J4 fo hm q=>?_) λ_ s' hq=>wP (wP hq));have I4:=J4 s4.heap (Heap.SameBut.refl _ _);refine wpAny_assign_Name (IV I4 hN hix hx (show RelV (.ref Dd) (.ref Dd)from rfl) (λs' I' ⟨a,hs',ha⟩=>?_) hf);obtain⟨m,hm⟩:=hm
 have hCa:C≠a:=by
  rintro rfl;rcases ha with ha|ha
  .exact fo.2.1 ha
  .exact fo.2.2.2.2.1 x _ ha rfl
 refine⟨m,hm.sameBut hs' hCa,λh' hs''=>⟨_,H',?_,q⟩⟩;exact I'.turned (t':=s'.toks) (λb o hb e=>(hs''.2 b hb).trans e) fo.1 fo.2.1 fo.2.2.2.1 fo.2.2.2.2.1 fo.2.2.2.2.2
end
end L2
namespace L2
namespace M
open PySem PySem.Spec PyProof.Rows
def Qo{A:Around}{s:Shared}{y x:V}{u v:Value}(ry:RelV y u)(rx:RelV x v)(fy:jG y=true)(fx:jG x=true):SeqAt.RcAt A s u v (Iw y x):=by
 cases y with
 |non=>
  cases ry
  cases x with
  |non=>cases rx;exact SeqAt.RcAt.none_none
  |bl b=>cases rx;exact SeqAt.RcAt.none_bool b
  |int b=>obtain⟨t,rfl⟩:=rx;exact SeqAt.RcAt.none_int b t
  |str b=>obtain⟨t,rfl⟩:=rx;exact SeqAt.RcAt.none_str b t
  |_=>exact absurd (show false=true from fx) xF0
 |bl a=>
  cases ry
  cases x with
  |non=>cases rx;exact SeqAt.RcAt.bool_none a
  |bl b=>cases rx;exact SeqAt.RcAt.bool_bool a b
  |int b=>obtain⟨t,rfl⟩:=rx;exact SeqAt.RcAt.bool_int a b t
  |str b=>obtain⟨t,rfl⟩:=rx;exact SeqAt.RcAt.bool_str a b t
  |_=>exact absurd (show false=true from fx) xF0
 |int a=>
  obtain⟨t',rfl⟩:=ry
  cases x with
  |non=>cases rx;exact SeqAt.RcAt.int_none a t'
  |bl b=>cases rx;exact SeqAt.RcAt.int_bool a t' b
  |int b=>obtain⟨t,rfl⟩:=rx;exact SeqAt.RcAt.int_int a t' b t
  |str b=>obtain⟨t,rfl⟩:=rx;exact SeqAt.RcAt.int_str a t' b t
  |_=>exact absurd (show false=true from fx) xF0
 |str a=>
  obtain⟨t',rfl⟩:=ry
  cases x with
  |non=>cases rx;exact SeqAt.RcAt.str_none a t'
  |bl b=>cases rx;exact SeqAt.RcAt.str_bool a t' b
  |int b=>obtain⟨t,rfl⟩:=rx;exact SeqAt.RcAt.str_int a t' b t
  |str b=>obtain⟨t,rfl⟩:=rx;exact SeqAt.RcAt.str_str a t' b t
  |_=>exact absurd (show false=true from fx) xF0
 |_=>exact absurd (show false=true from fy) xF0
def Qp{A:Around}{s:Shared}{y x:V}{u v:Value}(ry:RelV y u)(rx:RelV x v)(fy:jG y=true)(fx:jG x=true):SeqAt.RcNeAt A s u v (!Iw y x):=by
 cases y with
 |non=>
  cases ry
  cases x with
  |non=>cases rx;exact SeqAt.RcNeAt.none_none
  |bl b=>cases rx;exact SeqAt.RcNeAt.none_bool b
  |int b=>obtain⟨t,rfl⟩:=rx;exact SeqAt.RcNeAt.none_int b t
  |str b=>obtain⟨t,rfl⟩:=rx;exact SeqAt.RcNeAt.none_str b t
  |_=>exact absurd (show false=true from fx) xF0
 |bl a=>
  cases ry
  cases x with
  |non=>cases rx;exact SeqAt.RcNeAt.bool_none a
  |bl b=>cases rx;exact SeqAt.RcNeAt.bool_bool a b
  |int b=>obtain⟨t,rfl⟩:=rx;exact SeqAt.RcNeAt.bool_int a b t
  |str b=>obtain⟨t,rfl⟩:=rx;exact SeqAt.RcNeAt.bool_str a b t
  |_=>exact absurd (show false=true from fx) xF0
 |int a=>
  obtain⟨t',rfl⟩:=ry
  cases x with
  |non=>cases rx;exact SeqAt.RcNeAt.int_none a t'
  |bl b=>cases rx;exact SeqAt.RcNeAt.int_bool a t' b
  |int b=>obtain⟨t,rfl⟩:=rx;exact SeqAt.RcNeAt.int_int a t' b t
  |str b=>obtain⟨t,rfl⟩:=rx;exact SeqAt.RcNeAt.int_str a t' b t
  |_=>exact absurd (show false=true from fx) xF0
 |str a=>
  obtain⟨t',rfl⟩:=ry
  cases x with
  |non=>cases rx;exact SeqAt.RcNeAt.str_none a t'
  |bl b=>cases rx;exact SeqAt.RcNeAt.str_bool a t' b
  |int b=>obtain⟨t,rfl⟩:=rx;exact SeqAt.RcNeAt.str_int a t' b t
  |str b=>obtain⟨t,rfl⟩:=rx;exact SeqAt.RcNeAt.str_str a t' b t
  |_=>exact absurd (show false=true from fx) xF0
 |_=>exact absurd (show false=true from fy) xF0
def Vm{A:Around}{s:Shared}{x:V}{v:Value}{l:Addr}{items:Yc}(rx:RelV x v)(fx:jG x=true)(hl:s.heap.IsList l items)(hu:A.units<cLine):SeqAt.EqAt A s (.ref l) v false:=by
 cases x with
 |non=>cases rx;exact SeqAt.EqAt.list_none hl hu
 |bl b=>cases rx;exact SeqAt.EqAt.list_bool b hl hu
 |int b=>obtain⟨t,rfl⟩:=rx;exact SeqAt.EqAt.list_int b t hl hu
 |str b=>obtain⟨t,rfl⟩:=rx;exact SeqAt.EqAt.list_str b t hl hu
 |_=>exact absurd (show false=true from fx) xF0
def Vn{A:Around}{s:Shared}{x:V}{v:Value}{l:Addr}{items:Yc}(rx:RelV x v)(fx:jG x=true)(hl:s.heap.IsList l items)(hu:A.units<cLine):SeqAt.EqAt A s v (.ref l) false:=by
 cases x with
 |non=>cases rx;exact SeqAt.EqAt.none_list hl hu
 |bl b=>cases rx;exact SeqAt.EqAt.bool_list b hl hu
 |int b=>obtain⟨t,rfl⟩:=rx;exact SeqAt.EqAt.int_list b t hl hu
 |str b=>obtain⟨t,rfl⟩:=rx;exact SeqAt.EqAt.str_list b t hl hu
 |_=>exact absurd (show false=true from fx) xF0
def Vo{A:Around}{s:Shared}{x:V}{v:Value}{l:Addr}{items:Yc}(rx:RelV x v)(fx:jG x=true)(hl:s.heap.IsTuple l items)(hu:A.units<cLine):SeqAt.EqAt A s (.ref l) v false:=by
 cases x with
 |non=>cases rx;exact SeqAt.EqAt.tuple_none hl hu
 |bl b=>cases rx;exact SeqAt.EqAt.tuple_bool b hl hu
 |int b=>obtain⟨t,rfl⟩:=rx;exact SeqAt.EqAt.tuple_int b t hl hu
 |str b=>obtain⟨t,rfl⟩:=rx;exact SeqAt.EqAt.tuple_str b t hl hu
 |_=>exact absurd (show false=true from fx) xF0
def Vq{A:Around}{s:Shared}{x:V}{v:Value}{l:Addr}{items:Yc}(rx:RelV x v)(fx:jG x=true)(hl:s.heap.IsTuple l items)(hu:A.units<cLine):SeqAt.EqAt A s v (.ref l) false:=by
 cases x with
 |non=>cases rx;exact SeqAt.EqAt.none_tuple hl hu
 |bl b=>cases rx;exact SeqAt.EqAt.bool_tuple b hl hu
 |int b=>obtain⟨t,rfl⟩:=rx;exact SeqAt.EqAt.int_tuple b t hl hu
 |str b=>obtain⟨t,rfl⟩:=rx;exact SeqAt.EqAt.str_tuple b t hl hu
 |_=>exact absurd (show false=true from fx) xF0
def Vr{A:Around}{s:Shared}{x:V}{v:Value}{l:Addr}{items:Yc}(rx:RelV x v)(fx:jG x=true)(hl:s.heap.IsList l items)(hu:A.units<cLine):SeqAt.RcAt A s (.ref l) v false:=by
 cases x with
 |non=>cases rx;exact SeqAt.RcAt.list_none hl hu
 |bl b=>cases rx;exact SeqAt.RcAt.list_bool b hl hu
 |int b=>obtain⟨t,rfl⟩:=rx;exact SeqAt.RcAt.list_int b t hl hu
 |str b=>obtain⟨t,rfl⟩:=rx;exact SeqAt.RcAt.list_str b t hl hu
 |_=>exact absurd (show false=true from fx) xF0
def Vs{A:Around}{s:Shared}{x:V}{v:Value}{l:Addr}{items:Yc}(rx:RelV x v)(fx:jG x=true)(hl:s.heap.IsList l items)(hu:A.units<cLine):SeqAt.RcAt A s v (.ref l) false:=by
 cases x with
 |non=>cases rx;exact SeqAt.RcAt.none_list hl hu
 |bl b=>cases rx;exact SeqAt.RcAt.bool_list b hl hu
 |int b=>obtain⟨t,rfl⟩:=rx;exact SeqAt.RcAt.int_list b t hl hu
 |str b=>obtain⟨t,rfl⟩:=rx;exact SeqAt.RcAt.str_list b t hl hu
 |_=>exact absurd (show false=true from fx) xF0
def Vt{A:Around}{s:Shared}{x:V}{v:Value}{l:Addr}{items:Yc}(rx:RelV x v)(fx:jG x=true)(hl:s.heap.IsTuple l items)(hu:A.units<cLine):SeqAt.RcAt A s (.ref l) v false:=by
 cases x with
 |non=>cases rx;exact SeqAt.RcAt.tuple_none hl hu
 |bl b=>cases rx;exact SeqAt.RcAt.tuple_bool b hl hu
 |int b=>obtain⟨t,rfl⟩:=rx;exact SeqAt.RcAt.tuple_int b t hl hu
 |str b=>obtain⟨t,rfl⟩:=rx;exact SeqAt.RcAt.tuple_str b t hl hu
 |_=>exact absurd (show false=true from fx) xF0
def Vu{A:Around}{s:Shared}{x:V}{v:Value}{l:Addr}{items:Yc}(rx:RelV x v)(fx:jG x=true)(hl:s.heap.IsTuple l items)(hu:A.units<cLine):SeqAt.RcAt A s v (.ref l) false:=by
 cases x with
 |non=>cases rx;exact SeqAt.RcAt.none_tuple hl hu
 |bl b=>cases rx;exact SeqAt.RcAt.bool_tuple b hl hu
 |int b=>obtain⟨t,rfl⟩:=rx;exact SeqAt.RcAt.int_tuple b t hl hu
 |str b=>obtain⟨t,rfl⟩:=rx;exact SeqAt.RcAt.str_tuple b t hl hu
 |_=>exact absurd (show false=true from fx) xF0
def Vv{A:Around}{s:Shared}{x:V}{v:Value}{l:Addr}{items:Yc}(rx:RelV x v)(fx:jG x=true)(hl:s.heap.IsList l items)(hu:A.units<cLine):SeqAt.RcNeAt A s (.ref l) v true:=by
 cases x with
 |non=>cases rx;exact SeqAt.RcNeAt.list_none hl hu
 |bl b=>cases rx;exact SeqAt.RcNeAt.list_bool b hl hu
 |int b=>obtain⟨t,rfl⟩:=rx;exact SeqAt.RcNeAt.list_int b t hl hu
 |str b=>obtain⟨t,rfl⟩:=rx;exact SeqAt.RcNeAt.list_str b t hl hu
 |_=>exact absurd (show false=true from fx) xF0
def Vx{A:Around}{s:Shared}{x:V}{v:Value}{l:Addr}{items:Yc}(rx:RelV x v)(fx:jG x=true)(hl:s.heap.IsList l items)(hu:A.units<cLine):SeqAt.RcNeAt A s v (.ref l) true:=by
 cases x with
 |non=>cases rx;exact SeqAt.RcNeAt.none_list hl hu
 |bl b=>cases rx;exact SeqAt.RcNeAt.bool_list b hl hu
 |int b=>obtain⟨t,rfl⟩:=rx;exact SeqAt.RcNeAt.int_list b t hl hu
 |str b=>obtain⟨t,rfl⟩:=rx;exact SeqAt.RcNeAt.str_list b t hl hu
 |_=>exact absurd (show false=true from fx) xF0
def Vy{A:Around}{s:Shared}{x:V}{v:Value}{l:Addr}{items:Yc}(rx:RelV x v)(fx:jG x=true)(hl:s.heap.IsTuple l items)(hu:A.units<cLine):SeqAt.RcNeAt A s (.ref l) v true:=by
 cases x with
 |non=>cases rx;exact SeqAt.RcNeAt.tuple_none hl hu
 |bl b=>cases rx;exact SeqAt.RcNeAt.tuple_bool b hl hu
 |int b=>obtain⟨t,rfl⟩:=rx;exact SeqAt.RcNeAt.tuple_int b t hl hu
 |str b=>obtain⟨t,rfl⟩:=rx;exact SeqAt.RcNeAt.tuple_str b t hl hu
 |_=>exact absurd (show false=true from fx) xF0
def Vz{A:Around}{s:Shared}{x:V}{v:Value}{l:Addr}{items:Yc}(rx:RelV x v)(fx:jG x=true)(hl:s.heap.IsTuple l items)(hu:A.units<cLine):SeqAt.RcNeAt A s v (.ref l) true:=by
 cases x with
 |non=>cases rx;exact SeqAt.RcNeAt.none_tuple hl hu
 |bl b=>cases rx;exact SeqAt.RcNeAt.bool_tuple b hl hu
 |int b=>obtain⟨t,rfl⟩:=rx;exact SeqAt.RcNeAt.int_tuple b t hl hu
 |str b=>obtain⟨t,rfl⟩:=rx;exact SeqAt.RcNeAt.str_tuple b t hl hu
 |_=>exact absurd (show false=true from fx) xF0
def Cb{y:V}(h:jG y=true):Iw y y=true:=by cases y<;>first |rfl|(simp[Iw];done)|exact absurd (show false=true from h) xF0
section
variable{prog:Program}{w:World}(knd:KeyKind prog w Key)




variable{knd}


end
section
variable{prog:Program}{w:World}
abbrev mk(prog:Program)(w:World):KeyKind prog w Key:=yZ prog w
end
end M
end L2
namespace L2
open PySem PySem.Spec PyProof.Rows
def Hu(h:Heap)(e T:Addr)(cls:Value)(d:Option Addr)(fl:Value):Prop:=
 ∃oe vs oT ts,h.get? e=some oe/\oe.cls=cls/\oe.dict=d/\oe.data=.fields vs/\vs[1]? =some (.ref T)/\T≠e/\h.get? T=some oT/\oT.data=.fields ts/\ts[3]? =some fl/\vs[2]? =some .none
def Qq(h:Heap)(e:Addr)(cls:Value)(d:Option Addr):Prop:= ∃oe vs,h.get? e=some oe/\oe.cls=cls/\oe.dict=d/\oe.data=.fields vs/\vs[1]? =some .none/\vs[2]? =some .none
structure Mvd(fs:Yd)(e T:Addr)(h h':Heap):Prop where
 keep: ∀b o,b≠e->b≠T->b∉fs->h.get? b=some o->h'.get? b=some o
 slot: ∀b o,b≠e->b≠T->h.get? b=some o-> ∃sl,h'.get? b=some {o with slots:=sl}
 there: ∀b o,h.get? b=some o-> ∃o',h'.get? b=some o'
def Mvd.new{fs:Yd}{e T T':Addr}{h h1 h2:Heap}(a:Mvd fs e T h h1)(n:h.get? T'=none)(b:Mvd fs e T' h1 h2):Mvd fs e T h h2:=by
 have ne: ∀c o,h.get? c=some o->c≠T':=λc o q z=>by rw[z,n]at q;cases q
 exact⟨λc o h1 h2 h3 q=>b.keep c o h1 (ne c o q) h3 (a.keep c o h1 h2 h3 q),λc o h1 h2 q=>by obtain⟨sl,e1⟩:=a.slot c o h1 h2 q;obtain⟨sl',e2⟩:=b.slot c _ h1 (ne c o q) e1;exact⟨sl',e2⟩,λc o q=>let ⟨o',e1⟩:=a.there c o q;b.there c o' e1⟩
theorem FH(f:Array Value->Array Value)(o:Obj):(Obj.mapFields f o).dict=o.dict:=by obtain⟨c,d,dt,sl⟩:=o;cases dt<;>rfl
section
variable{M:Model}{A:Around}{E:VP}{s:Shared}{base:Heap}{env:Env}{outer:List Env}{L e T:Addr}{cls:Value}{d:Option Addr}{Q:Unit->Shared->Prop}
def Cc{oe:Obj}{vs:Yc}{head:Value}{hadNext:Bool}(hfr:A.frames=some (env::outer))(hl:s.heap.FunFrames base (env::outer))(hf:env.frame=some L)
  (he:s.heap.get? e=some oe) (hd:oe.data=.fields vs) (hsz:1<vs.size) (h2:vs[2]? =some .none)
  (h: ∀h' T',s.heap.get? T'=none->Mvd (EI (env::outer)) e e s.heap h'->Hu h' e T' oe.cls oe.dict (rawInt L)->Q () {s with heap:=h'}):
  wpAny M A (do let a <-frameOf env;let pl <-entryPlaceOf L hadNext;let b <-EntryCells.newEntry head a .none (rawInt L) .none pl;setField (.ref e) 1 b) Q E s:=by
 have hene:e∉(env::outer).filterMap (·.frame):=λhm=>by obtain⟨_,o,ho,hnf⟩:=hl.mem hm;rw[he]at ho;injection ho with ho;subst ho;exact hnf vs hd
 refine wB (wpAny_frameOf_fun hfr hl hf λh₁ hs₁=>?_);refine wB (wpAny_entryPlaceOf λpl hpl=>?_);unfold EntryCells.newEntry newFields;refine wB (wpAny_newObj_type ?_ (hpl.sizeOk5 _ _ _ _ _));have he₁:h₁.get? e=some oe:=(hs₁.2.1 e hene).trans he;have he₂:=hP0 (h:=h₁) {cls:=.type "traceback",dict:=none,data:=.fields ([head,.ref L,.none,rawInt L,.none]++(if pl.isEmpty then List.replicate 6 Value.none else pl)).toArray} he₁;refine wpAny_setField he₂ hd hsz ?_;have hTe:h₁.objs.size≠e:=ne_of_gt (Heap.lt_size he₁);have hd₃:=Obj.data_mapFields hd (·.setIfInBounds 1 (Value.ref h₁.objs.size));have he₃:=Heap.get?_update_self (Obj.mapFields (·.setIfInBounds 1 (Value.ref h₁.objs.size))) he₂ (Obj.isFreed_of_fields hd₃)
 have hT₃:=(Heap.get?_update_other (h₁.push {cls:=.type "traceback",dict:=none,data:=.fields ([head,.ref L,.none,rawInt L,.none]++(if pl.isEmpty then List.replicate 6 Value.none else pl)).toArray})
  (Obj.mapFields (·.setIfInBounds 1 (Value.ref h₁.objs.size))) (Ne.symm hTe)).trans (Heap.get?_push_size h₁ rfl)
 have keep: ∀b o,b≠e->h₁.get? b=some o->
   ((h₁.push {cls:=.type "traceback",dict:=none,data:=.fields ([head,.ref L,.none,rawInt L,.none]++(if pl.isEmpty then List.replicate 6 Value.none else pl)).toArray}).update e (Obj.mapFields (·.setIfInBounds 1 (Value.ref h₁.objs.size)))).get? b=some o:=
  λb o hbe hb=>by rw[Heap.get?_update_other _ _ (Ne.symm hbe)];exact hP0 _ hb
 refine h _ h₁.objs.size ?_ ⟨λb o hbe _ hbf hb=>keep b o hbe ((hs₁.2.1 b hbf).trans hb),λb o hbe _ hb=>?_,λb o hb=>?_⟩ ?_
 .cases q:s.heap.get? h₁.objs.size with
  |none=>rfl
  |some o=>
   obtain⟨sl,hs⟩:=hs₁.2.2 _ o q;exact absurd (Heap.lt_size hs) (lt_irrefl _)
 .obtain⟨sl,hs⟩:=hs₁.2.2 b o hb;exact⟨sl,keep b _ hbe hs⟩
 .by_cases hbe:b=e
  .subst hbe;exact⟨_,he₃⟩
  .obtain⟨sl,hs⟩:=hs₁.2.2 b o hb;exact⟨_,keep b _ hbe hs⟩
 .exact⟨_,_,_,_,he₃,Obj.cls_mapFields _ _,FH _ _,hd₃,by simp[hsz],hTe,hT₃,rfl,by first |(simp;done)|(rcases hpl with rfl|⟨_,_,_,_,_,_,_,rfl⟩<;>simp),by rw[Array.getElem?_setIfInBounds_ne (by decide)];exact h2⟩
def SQ(hfr:A.frames=some (env::outer))(hl:s.heap.FunFrames base (env::outer))(hf:env.frame=some L)(hb:Qq s.heap e cls d)
  (h: ∀h' T',s.heap.get? T'=none->Mvd (EI (env::outer)) e e s.heap h'->Hu h' e T' cls d (rawInt L)->Q () {s with heap:=h'}):wpAny M A (noteFrame (.ref e) env) Q E s:=by
 obtain⟨oe,vs,he,rfl,rfl,hd,h1,h2⟩:=hb;unfold noteFrame;simp only[hf];refine wB (wpAny_field he hd h1 ?_);rw[iN0 (by decide)];exact Cc hfr hl hf he hd (Array.getElem?_eq_some_iff.mp h1).1 h2 h
def setT{oT:Obj}{ts:Yc}{x:Value}{h0:Heap}(hT:h0.get? T=some oT)(hdT:oT.data=.fields ts):Mvd (EI (env::outer)) e T h0 (h0.update T (Obj.mapFields (·.setIfInBounds 3 x))):=by
 have other: ∀b,b≠T->(h0.update T (Obj.mapFields (·.setIfInBounds 3 x))).get? b=h0.get? b:=λb hb=>Heap.get?_update_other _ _ (Ne.symm hb);refine⟨λb o _ hbT _ hb=>(other b hbT).trans hb,λb o _ hbT hb=>⟨o.slots,(other b hbT).trans hb⟩,λb o hb=>?_⟩;by_cases hbT:b=T
 .subst hbT;exact⟨_,Heap.get?_update_self _ hT (Obj.isFreed_of_fields (Obj.data_mapFields hdT _))⟩
 .exact⟨o,(other b hbT).trans hb⟩
def JH(hfr:A.frames=some (env::outer))(hl:s.heap.FunFrames base (env::outer))(hf:env.frame=some L)(hb:Hu s.heap e T cls d .none)
  (h: ∀h' T',s.heap.get? T'=none->Mvd (EI (env::outer)) e T s.heap h'->Hu h' e T' cls d (rawInt L)->Q () {s with heap:=h'}):wpAny M A (noteFrame (.ref e) env) Q E s:=by
 obtain⟨oe,vs,oT,ts,he,rfl,rfl,hd,h1,hTe,hT,hdT,h3,h2⟩:=hb;unfold noteFrame;simp only[hf];refine wB (wpAny_field he hd h1 ?_);rw[iP (show(Value.ref T !=Value.none)=true from by simp)];refine wB (wpAny_field hT hdT h3 ?_);rw[iN0 (show¬((Value.none==rawInt L)=true)from by simp[rawInt])];refine wB (wpAny_setField hT hdT (Array.getElem?_eq_some_iff.mp h3).1 ?_);have mv:=setT (env:=env) (outer:=outer) (e:=e) (x:=Value.none) hT hdT;have other: ∀b,b≠T->(s.heap.update T (Obj.mapFields (·.setIfInBounds 3 Value.none))).get? b=s.heap.get? b:=λb hb=>Heap.get?_update_other _ _ (Ne.symm hb);have noRecord: ∀b o,s.heap.get? b=some o->(∀vs,o.data≠.fields vs)->b≠T:=λb o hb hnf q=>by rw[q,hT]at hb;injection hb with hb;subst hb;exact hnf ts hdT
 refine Cc (s:={s with heap:=s.heap.update T (Obj.mapFields (·.setIfInBounds 3 Value.none))}) hfr (hl.of_keeps λb o hb hnf=>⟨o,(other b (noRecord b o hb hnf)).trans hb,rfl⟩) hf ((other e (Ne.symm hTe)).trans he) hd (Array.getElem?_eq_some_iff.mp h1).1 h2
  λh' T' n m f=>h h' T' ?_ ⟨λb o hbe hbT hbf hb=>m.keep b o hbe hbe hbf (mv.keep b o hbe hbT hbf hb),λb o hbe hbT hb=>?_,λb o hb=>?_⟩ f
 .cases q:s.heap.get? T' with
  |none=>rfl
  |some o=>
   obtain⟨o',hs⟩:=mv.there _ o q;have n':(s.heap.update T (Obj.mapFields (·.setIfInBounds 3 Value.none))).get? T'=none:=n;rw[n']at hs;cases hs
 .obtain⟨sl,e1⟩:=mv.slot b o hbe hbT hb;obtain⟨sl',e2⟩:=m.slot b _ hbe hbe e1;exact⟨sl',e2⟩
 .obtain⟨o',e1⟩:=mv.there b o hb;exact m.there b o' e1
def mL{fl:Value}(hb:Hu s.heap e T cls d fl)(h: ∀h',Mvd (EI (env::outer)) e T s.heap h'->Hu h' e T cls d .none->Q () {s with heap:=h'}):wpAny M A (setFlight (.ref e) none) Q E s:=by obtain⟨oe,vs,oT,ts,he,rfl,rfl,hd,h1,hTe,hT,hdT,h3,h2⟩:=hb;have hsz3:3<ts.size:=(Array.getElem?_eq_some_iff.mp h3).1;unfold setFlight;refine wB (wpAny_field he hd h1 ?_);rw[iP (show(Value.ref T !=Value.none)=true from by simp)];refine wpAny_setField hT hdT hsz3 (h _ (setT hT hdT) ?_);exact⟨oe,vs,_,_,(Heap.get?_update_other _ _ hTe).trans he,rfl,rfl,hd,h1,hTe,Heap.get?_update_self _ hT (Obj.isFreed_of_fields (Obj.data_mapFields hdT _)),Obj.data_mapFields hdT _,by simp[hsz3],h2⟩
def OO(hfr:A.frames=some (env::outer))(hl:s.heap.FunFrames base (env::outer))(hf:env.frame=some L)(hb:Qq s.heap e cls d)
  (h: ∀h' T',s.heap.get? T'=none->Mvd (EI (env::outer)) e e s.heap h'->Hu h' e T' cls d .none->Q () {s with heap:=h'}):wpAny M A (leaving env (.ref e)) Q E s:=by
 unfold leaving;refine wB (SQ hfr hl hf hb λh1 T' n m f=>mL (env:=env) (outer:=outer) f λh2 m2 f2=>h h2 T' n (m.new n m2) f2)
def SR(hfr:A.frames=some (env::outer))(hl:s.heap.FunFrames base (env::outer))(hf:env.frame=some L)(hb:Hu s.heap e T cls d .none)
  (h: ∀h' T',s.heap.get? T'=none->Mvd (EI (env::outer)) e T s.heap h'->Hu h' e T' cls d .none->Q () {s with heap:=h'}):wpAny M A (leaving env (.ref e)) Q E s:=by
 unfold leaving;refine wB (JH hfr hl hf hb λh1 T' n m f=>mL (env:=env) (outer:=outer) f λh2 m2 f2=>h h2 T' n (m.new n m2) f2)
end
def ObjOk.here{P:Program}{w:World}{H:Hp}{h:Heap}{a:Addr}{o:HO}(x:ObjOk P w H h a o): ∃ob,h.get? a=some ob:=by
 cases o with
 |lst xs=>obtain⟨_,_,_,_,e⟩:=x;exact⟨_,e⟩
 |tup xs=>obtain⟨_,_,_,ob,e,_⟩:=x;exact⟨_,e⟩
 |dK kvs=>obtain⟨_,_,_,_,o,_,_,e,_⟩:=x;exact⟨_,e⟩
 |dT kvs=>obtain⟨_,_,_,_,o,_,_,e,_⟩:=x;exact⟨_,e⟩
 |set S n=>obtain⟨o,_,_,_,e,_⟩:=x;exact⟨_,e⟩
 |ins C dx fs=>obtain⟨_,_,_,e,_⟩:=x;exact⟨_,e⟩
 |own y=>exact x
 |xd fs=>obtain⟨_,⟨_,_,_,e,_⟩,_⟩:=x;exact⟨_,e⟩
 |rng lo hi=>obtain⟨_,_,_,e⟩:=x;exact⟨_,e⟩
 |frz ob u=>obtain⟨e,_⟩:=x;exact⟨_,e⟩
 |tbl ps=>exact⟨_,(show h.get? a=some _ from x)⟩
 |met f y=>exact⟨_,(show h.get? a=some _ from x)⟩
 |ext φ=>obtain⟨_,e,_⟩:=x;exact e
def HOk.none_of{P:Program}{w:World}{H:Hp}{h:Heap}{a:Addr}(x:HOk P w H h)(n:h.get? a=none):H a=none:=by
 cases q:H a with
 |none=>rfl
 |some u=>
  obtain⟨ob,e⟩:=(x a u q).here;rw[n]at e;cases e
section
variable{X:Cx}{pins:Yi}{σ:St}{H:Hp}{s:Shared}
def Inv.older(J:Inv X pins σ H s)(hex:X.ex=[]){b:Addr}(n:s.heap.get? b=none):X.s₀.heap.get? b=none:=by
 cases q:X.s₀.heap.get? b with
 |none=>rfl
 |some o=>
  obtain⟨o',e⟩:=J.base.there b o q (by rw[hex];simp);rw[n]at e;cases e
def Inv.moved{e T:Addr}{h':Heap}(J:Inv X pins σ H s)(hex:X.ex=[])(m:Mvd (EI X.stack) e T s.heap h')(ne:X.s₀.heap.get? e=none)(nT:X.s₀.heap.get? T=none)(he:H e=none)(hT:H T=none):
  Un X.fs [] X.H₀ H X.s₀.heap h'/\HOk X.prog X.w H h':=by
 have nex: ∀b:Addr,b∉X.ex:=λb=>by rw[hex];simp
 have ne1: ∀b o,X.s₀.heap.get? b=some o->b≠e:=λb o q z=>by rw[z,ne]at q;cases q
 have ne2: ∀b o,X.s₀.heap.get? b=some o->b≠T:=λb o q z=>by rw[z,nT]at q;cases q
 refine⟨⟨λb o q n hb _=>?_,λb o q n hb _=>?_,λb o q n _=>J.base.free b o q n (nex b),λb o q _=>?_,J.base.tups,J.base.frzs,J.base.tbls⟩,λb u q=>(J.hok b u q).stay (λc v hc r=>?_) (λ_ q=>q) λ_ _ q=>q⟩
 .refine m.keep b o (ne1 b o q) (ne2 b o q) (λz=>?_) (J.base.keep b o q n hb (nex b));rcases mC.mp (J.stkSub b z)with z|z
  .exact absurd z (ne_of_lt (lt_of_lt_of_le (Heap.lt_size q) J.ok.above))
  .exact hb z
 .obtain⟨sl,e1⟩:=J.base.slot b o q n hb (nex b);obtain⟨sl',e2⟩:=m.slot b _ (ne1 b o q) (ne2 b o q) e1;exact⟨sl',e2⟩
 .obtain⟨o',e1⟩:=J.base.there b o q (nex b);exact m.there b o' e1
 .have hc': ∃z,H c=some z:=by
   rcases hc with rfl|hc
   .exact⟨_,q⟩
   .exact⟨_,hc⟩
  obtain⟨z,hz⟩:=hc';refine m.keep c v (λy=>by rw[y,he]at hz;cases hz) (λy=>by rw[y,hT]at hz;cases hz) (λy=>?_) r;rw[J.stkFree c y]at hz;cases hz
end
def Be(P:Program)(w:World):YX:=λouter H s E x s'=> ∃e T C d H',x=.ref e/\s'.os=s.os/\AllBare s'.gens/\Un (EI outer) [] H H' s.heap s'.heap/\HOk P w H' s'.heap/\Hu s'.heap e T (.ref C) d .none/\
 s.heap.get? e=none/\s.heap.get? T=none/\H' e=none/\H' T=none/\E (.ref C) d H'
structure XOk(X:Cx)(E:XK):Prop where
 pass:LA (Be X.prog X.w) X E
 born: ∀(pins:Yi)(σ:St)(H:Hp)(s:Shared)(e C:Addr)(d:Option Addr),Inv X pins σ H s->Qq s.heap e (.ref C) d->X.s₀.heap.get? e=none->H e=none->E (.ref C) d H->X.xe (.ref e) s
section
variable{P:Program}{w:World}{K:Zb}{mg:Yg}{base:Heap}{N:Ye}{qual:Str}{scope:Scope}{f:Addr}{cd:Value}{A:Around}{outer:List Env}{s:Shared}{H:Hp}{E:XK}
def uU:XOk (FB (Be P w) P w K mg base N qual scope f cd A outer s H E) E:=by
 refine⟨λpins σ H1 s1 x s2 I h=>?_,λpins σ H1 s1 e C d J b ne he q=>?_⟩
 .obtain⟨e,T,C,d,H',rfl,os,bare,un,hok,fl,ne,nT,he,hT,q⟩:=h;have J:Inv _ pins σ H' s2:=I.call' (ch:=[]) os un hok bare (λ_ z=>nomatch z);have ne':=I.older rfl ne;have nT':=I.older rfl nT;refine SR J.ok.frames J.stack rfl fl λh' T' n m f'=>?_;obtain⟨u,hk⟩:=J.moved rfl m ne' nT' he hT;exact⟨e,T',C,d,H',rfl,J.os,J.bare,u,hk,f',ne',J.older rfl n,he,J.hok.none_of n,q⟩
 .refine OO J.ok.frames J.stack rfl b λh' T' n m f'=>?_;obtain⟨u,hk⟩:=J.moved rfl m ne ne he he;exact⟨e,T',C,d,H1,rfl,J.os,J.bare,u,hk,f',ne,J.older rfl n,he,J.hok.none_of n,q⟩
end
abbrev mE:List Value:=[.type "ValueError",.type "Exception",.type "BaseException",.type "object"]
def qn:List Str:=["__class__","__getattribute__","__getattr__","__setattr__","place","number"]
def pC(h:Heap)(C M:Addr):Prop:=
 ∃nm q N bs hd sn sub ab col dd k0 k1 k2 k3 k5 nw mN,h.get? C=some (excClassObj nm q C N bs (.ref M::mE) hd sn sub ab col dd k0 k1 k2 k3 k5 nw)/\h.Ns N mN/\(∀n∈qn,mN n=none)/\
  ∃nm q N bs hd sn sub ab col dd k0 k1 k2 k3 k5 nw mN,h.get? M=some (excClassObj nm q M N bs mE hd sn sub ab col dd k0 k1 k2 k3 k5 nw)/\h.Ns N mN/\(∀n∈qn,mN n=none)
section
variable{Mo:Model}{A:Around}{E:VP}{h:Heap}{g:Array GenState}{d:Drawn}{t:Nat}{os:OsState}{C M:Addr}
def pD(O:pC h C M){base:Value}{Q:Bool->Shared->Prop}(hq:Q ((Value.ref C::.ref M::mE).contains base) ⟨h,g,d,t,os⟩):wpAny Mo A (isSubtype (.ref C) base) Q E ⟨h,g,d,t,os⟩:=by obtain⟨nm,q,N,bs,hd,sn,sub,ab,col,dd,k0,k1,k2,k3,k5,nw,mN,hC,_⟩:=O;exact wpAny_isSubtype_exc hC hq
def mP(O:pC h C M){n:Str}(hn:n∈qn){y:Option Value}(hB:typeLookup (.type "ValueError") n=pure y){Q:Option Value->Shared->Prop}(hq:Q y ⟨h,g,d,t,os⟩):wpAny Mo A (typeLookup (.ref C) n) Q E ⟨h,g,d,t,os⟩:=by
 obtain⟨nm,q,N,bs,hd,sn,sub,ab,col,dd,k0,k1,k2,k3,k5,nw,mN,hC,hN,hmN,_,_,_,_,_,_,_,_,_,_,_,_,_,_,_,_,mM,hM,hNM,hmM⟩:=O;have hrest:lookupAlong mE n=pure y:=by rw[typeLookup_eq,F.excBase_ValueError.mroIs]at hB;exact hB
 rw[typeLookup_eq];refine wB (wpAny_mroOf_exc hC ?_);rw[lookupAlong_cons];refine wB (wpAny_classOwn_exc hC hN ?_);rw[hmN n hn,lookupAlong_cons];refine wB (wpAny_classOwn_exc hM hNM ?_);rw[hmM n hn,hrest];exact wP hq
def Cd(O:pC h C M): ∃o,h.get? C=some o/\o.cls=.type "type"/\ ∃cd,o.data=.cls cd:=by obtain⟨_,_,_,_,_,_,_,_,_,_,_,_,_,_,_,_,_,hC,_⟩:=O;exact⟨_,hC,rfl,_,rfl⟩
end
def qn1:("__class__":Str)∈qn:=.head _
def qn2:("__getattribute__":Str)∈qn:=.tail _ (.head _)
def qn3:("__getattr__":Str)∈qn:=.tail _ t1M
theorem Ce:typeLookup (.type "ValueError") "__class__"=pure (some (.builtin "object.__class__")):=by rw[typeLookup_type,builtinLookup_eq_fast];kernel_rfl
theorem Nw:typeLookup (.type "ValueError") "__getattribute__"=pure (some (.builtin "BaseException.__getattribute__")):=by rw[typeLookup_type,builtinLookup_eq_fast];kernel_rfl
theorem OP:typeLookup (.type "ValueError") "__getattr__"=pure none:=by rw[typeLookup_type,builtinLookup_eq_fast];kernel_rfl
section
variable{prog:Program}{w:World}{A:Around}{E:VP}{h:Heap}{g:Array GenState}{d:Drawn}{t:Nat}{os:OsState}{C M a:Addr}{o:Obj}
def SS{R:Result->Shared->Prop}(O:pC h C M)(hx:h.get? a=some o)(hc:o.cls=.ref C)(hq:R (.ok (.ret (.ref C))) ⟨h,g,d,t,os⟩):
  codeAny (model prog w) A (.call (.builtin "getset_descriptor.__get__") ⟨[.builtin "object.__class__",.ref a,.ref C],[]⟩) R ⟨h,g,d,t,os⟩:=by
 have hT5:(⟨h,g,d,t,os⟩:Shared).TypeIs (.builtin "object.__class__") "getset_descriptor":=F.typeOf_object_class;have ho:(Value.ref C::.ref M::mE).contains (.type (".".intercalate ("object.__class__".cutAt '.').dropLast))=true:=by rw[F.owner_object_class];simp[contains_cons]
 refine codeAny_call_builtin F.slot_gs_get.plain F.entry_gs_get (F.slot_gs_get.check _ _ _ _ _ _ _ _ hT5 (F.args_gs_get _ _ _) ?_)
 repeat (any_goals (first |assumption|(with_reducible refine wpAny_loadPart_at hx ?_;rw[hc])|(with_reducible refine pD O ?_;rw[ho])|wp_step))
 refine⟨Code.quiet_builtin _ (by decide+kernel),codeAny_builtin F.entry_object_class ?_⟩
 repeat (any_goals (first |assumption|(with_reducible refine wpAny_loadPart_at hx ?_;rw[hc])|wp_step))
def JI{Mo:Model}{nameV:Value}{Q:Unit->Shared->Prop}(O:pC h C M)(hx:h.get? a=some o)(hc:o.cls=.ref C)(hq:Q () ⟨h,g,d,t,os⟩):wpAny Mo A (checkBuiltinCall "BaseException.__getattribute__" ⟨[.ref a,nameV],[]⟩) Q E ⟨h,g,d,t,os⟩:=by
 have hk:builtinKind "BaseException.__getattribute__"=some .slot:=by decide+kernel
 have hs:splitId "BaseException.__getattribute__"=some ("BaseException","__getattribute__"):=by decide+kernel
 have hb:(Value.ref C::.ref M::mE).contains (.type "BaseException")=true:=by simp[contains_cons]
 have ha:=F.args_bexc_ga (.ref a) nameV;simp only[checkBuiltinCall,hk,hs];refine wB ?_;unfold isInstance
 repeat (first |(with_reducible refine wpAny_loadPart_at hx ?_;rw[hc])|(with_reducible refine pD O ?_;rw[hb])|wp_step)
 exact hq
def LM{tk:Tok}{Q:Fin->Shared->Prop}(O:pC h C M)(hx:h.get? a=some o)(hc:o.cls=.ref C)(hq:Q (.done (.ret (.ref C))) ⟨h,g,d,t,os⟩):
  wpAny (model prog w) A (Builtin.«object.__getattribute__» ⟨[.ref a,.str "__class__" tk],[]⟩) Q E ⟨h,g,d,t,os⟩:=by
 have hT5:(⟨h,g,d,t,os⟩:Shared).TypeIs (.builtin "object.__class__") "getset_descriptor":=F.typeOf_object_class;have f5:=F.typeOf_object_class;have f6:=F.slot_gs_get.lookup;have f7:=F.slot_gs_set.lookup
 repeat (any_goals (first |assumption|(with_reducible refine wpAny_loadPart_at hx ?_;rw[hc])|with_reducible refine mP O qn1 Ce ?_|wp_step))
 refine SS O hx hc ?_
 repeat (any_goals (first |assumption|wp_step))
def OQ{tk:Tok}{R:Result->Shared->Prop}(O:pC h C M)(hx:h.get? a=some o)(hc:o.cls=.ref C)(hq:R (.ok (.ret (.ref C))) ⟨h,g,d,t,os⟩):
  codeAny (model prog w) A (.call (.builtin "BaseException.__getattribute__") ⟨[.ref a,.str "__class__" tk],[]⟩) R ⟨h,g,d,t,os⟩:=
 codeAny_call_builtin F.attrBase_ValueError.ga.plain F.entry_bexc_ga (JI O hx hc (LM O hx hc hq))
def ZH{tk:Tok}{fill expr:Bool}{Q:VP}(O:pC h C M)(hx:h.get? a=some o)(hc:o.cls=.ref C)(hq:Q (.ref C) ⟨h,g,d,t,os⟩):
  wpAny (model prog w) A (getAttrBy (.ref a) (.str "__class__" tk) fill expr) Q E ⟨h,g,d,t,os⟩:=by
 have f3:=F.attrBase_ValueError.ga.bind (.ref a);have hx0:(expr&&onTheHeap (Value.builtin "BaseException.__getattribute__"))=false:=by cases expr<;>rfl
 have hx2:(Value.builtin "BaseException.__getattribute__"==Value.builtin "object.__getattribute__")=false:=by decide+kernel
 have hx1:(onTheHeap (Value.ref C)&&Value.builtin "BaseException.__getattribute__"==Value.builtin "object.__getattribute__")=false:=by rw[hx2];rfl
 repeat (any_goals (first |assumption|(with_reducible refine wpAny_loadPart_at hx ?_;rw[hc])|with_reducible refine mP O qn2 Nw ?_|with_reducible refine mP O qn3 OP ?_|wp_step))
 refine OQ O hx hc ?_
 repeat (any_goals (first |assumption|wp_step))
def OR{Q:Option Value->Shared->Prop}(O:pC h C M)(hx:h.get? a=some o)(hc:o.cls=.ref C)(hq:Q (some (.ref C)) ⟨h,g,d,t+1,os⟩):wpAny (model prog w) A (getAttr? (.ref a) "__class__") Q E ⟨h,g,d,t,os⟩:=by
 unfold getAttr? getAttrBy?
 repeat (any_goals (first |assumption|with_reducible apply ZH O hx hc|wp_step))
def Jg{D:Addr}{dD:Option Addr}{cD:ClassData}{sD:Array (Option Value)}{oC:Obj}{Q:Fin->Shared->Prop}(O:pC h C M)(hx:h.get? a=some o)(hc:o.cls=.ref C)(hD:h.get? D=some {cls:=.type "type",dict:=dD,data:=.cls cD,slots:=sD})(hC:h.get? C=some oC)(hCc:oC.cls=.type "type")(hCd: ∃cd,oC.data=.cls cd)(hn:(Value.ref C::.ref M::mE).contains (.ref D)=false)(hq:Q (.done (.ret (.bool false))) ⟨h,g,d,t+1,os⟩):
  wpAny (model prog w) A (Builtin.«isinstance.nested» ⟨[.ref a,.ref D,rawInt 0],[]⟩) Q E ⟨h,g,d,t,os⟩:=by
 have hne:(Value.ref C==Value.ref D)=false:=by rw[contains_cons,Bool.or_eq_false_iff]at hn;have:=hn.1;rw[beq_eq_false_iff_ne]at this ⊢;exact this.symm
 obtain⟨cd,hCd⟩:=hCd;obtain⟨c1,c2,c3,c4⟩:=oC;dsimp only at hCc hCd;subst hCc hCd
 repeat (any_goals (first |assumption|(with_reducible refine wpAny_loadPart_at hx ?_;rw[hc])|with_reducible refine wpAny_loadPart_at hD ?_|with_reducible refine wpAny_loadPart_at hC ?_|(with_reducible refine pD O ?_;rw[hn])|with_reducible apply OR O hx hc|wp_step))
def ZI{Q:Fin->Shared->Prop}(hx:h.get? a=some o)(hc:o.cls=.ref C)(hq:Q (.done (.ret (.bool true))) ⟨h,g,d,t,os⟩):
  wpAny (model prog w) A (Builtin.«isinstance.nested» ⟨[.ref a,.ref C,rawInt 0],[]⟩) Q E ⟨h,g,d,t,os⟩:=by
 repeat (any_goals (first |assumption|(with_reducible refine wpAny_loadPart_at hx ?_;rw[hc])|wp_step))
def Jh{T:String}{Q:Fin->Shared->Prop}(O:pC h C M)(hx:h.get? a=some o)(hc:o.cls=.ref C)(hty:typeOf (.type T)=pure (.type "type"))(hn:(Value.ref C::.ref M::mE).contains (.type T)=true)(hq:Q (.done (.ret (.bool true))) ⟨h,g,d,t,os⟩):
  wpAny (model prog w) A (Builtin.«isinstance.nested» ⟨[.ref a,.type T,rawInt 0],[]⟩) Q E ⟨h,g,d,t,os⟩:=by
 have hne:(Value.ref C==Value.type T)=false:=rfl
 repeat (any_goals (first |assumption|(with_reducible refine wpAny_loadPart_at hx ?_;rw[hc])|(with_reducible refine pD O ?_;rw[hn])|wp_step))
end
end L2
namespace L2
namespace M
open PySem PySem.Spec PyProof.Rows
inductive MV where
 |non|bl (b:Bool)|int (i:Int)|str (x:Db)|tup (ds:List MV)|scr (ds:List MV)|loc (l:Nat)|typ (n:String)|obj (c:Str) (ns:Ye) (ds:List MV)
abbrev Zd:=List MV
abbrev Ze:=Option MV
abbrev Zg:=List (Int×List MV)
abbrev Zh:=List (Nat×List MV)
abbrev Zi:=List (MV×MV)
instance:Inhabited MV:=⟨.non⟩
inductive MO where
 |lst (ds:Zd)|dic (kvs:Zi)|ins (c:Str) (fs:List (Str×MV))
abbrev zC:=List MO
def SqF(K:Zb)(H:Hp)(a:Addr)(xs:List V):Prop:=
 (∃o,H a=some (.frz o (.lst xs)))\/
  ∃(o:Obj)(its:Yc)(n:Nat),K.lookup a=some o/\o.cls=.type "list"/\o.dict=none/\o.data=.seq its n/\its.size<=sizeLine/\Vals xs its.toList
def SqF.l{K:Zb}{H:Hp}{a:Addr}{xs:List V}(h:SqF K H a xs):SqL K H a xs:=by
 rcases h with⟨o,h⟩|h
 .exact .inl (.inr ⟨o,h⟩)
 .exact .inr h
mutual
def Den(K:Zb)(α:Yd)(H:Hp):MV->V->Prop
 |.non,v=>v=.non
 |.bl b,v=>v=.bl b
 |.int i,v=>v=.int i
 |.str x,v=>v=.str (kE x)
 |.tup ds,v=> ∃a vs,v=.ref a/\SqT K H a vs/\DenL K α H ds vs
 |.scr ds,v=> ∃a vs,v=.ref a/\SqF K H a vs/\DenL K α H ds vs
 |.loc l,v=> ∃a,v=.ref a/\α[l]? =some a
 |.typ n,v=>v=.ty n
 |.obj c ns ds,v=> ∃a C dx vs o,v=.ref a/\H a=some (.frz o (.ins C dx (ns.zip vs)))/\PySem.W.nsIn K mainGlobals c=some (some (.ref C))/\(PySem.W.clsIn K C).map (·.name)=some c/\ns.length=vs.length/\DenL K α H ds vs
def DenL(K:Zb)(α:Yd)(H:Hp):List MV->List V->Prop
 |[],vs=>vs=[]
 |d::ds,vs=> ∃v r,vs=v::r/\Den K α H d v/\DenL K α H ds r
end

structure Ex0(α:Yd)(H:Hp)(α':Yd)(H':Hp):Prop where
 pre: ∃t,α'=α++t
 tup: ∀b xs,H b=some (.tup xs)->H' b=some (.tup xs)
 frz: ∀b o u,H b=some (.frz o u)->H' b=some (.frz o u)
structure Ext(α:Yd)(H:Hp)(α':Yd)(H':Hp):Prop extends Ex0 α H α' H' where
 new: ∀b∈α',b∈α\/H b=none
 keep: ∀b o,H b=some o->b∉α->H' b=some o
 has: ∀b o,H b=some o-> ∃o',H' b=some o'
section
variable{K:Zb}{α α' α'':Yd}{H H' H'':Hp}
def Ext.refl(α:Yd)(H:Hp):Ext α H α H:=⟨⟨⟨[],by simp⟩,λ_ _ h=>h,λ_ _ _ h=>h⟩,λb h=>.inl h,λ_ _ h _=>h,λ_ o h=>⟨o,h⟩⟩
def Ex0.grow(α t:Yd)(H:Hp):Ex0 α H (α++t) H:=⟨⟨t,rfl⟩,λ_ _ h=>h,λ_ _ _ h=>h⟩
def Ext.free(x:Ext α H α' H'){b:Addr}(h:H' b=none):H b=none:=by
 cases e:H b with
 |none=>rfl
 |some o=>obtain⟨o',h'⟩:=x.has b o e;rw[h]at h';cases h'
def Ext.out(x:Ext α H α' H'){b:Addr}{o:HO}(h:H b=some o)(n:b∉α):b∉α':=λz=>by
 rcases x.new b z with z|z
 .exact n z
 .rw[h]at z;cases z
def Ext.trans(x:Ext α H α' H')(y:Ext α' H' α'' H''):Ext α H α'' H'' where
 pre:=by obtain⟨t,rfl⟩:=x.pre;obtain⟨u,rfl⟩:=y.pre;exact⟨t++u,by rw[aA]⟩
 new:=λb h=>(y.new b h).elim (x.new b) λz=>.inr (x.free z)
 keep:=λb o h n=>y.keep b o (x.keep b o h n) (x.out h n)
 has:=λb o h=>let ⟨o',h'⟩:=x.has b o h;y.has b o' h'
 tup:=λb xs h=>y.tup b xs (x.tup b xs h)
 frz:=λb o u h=>y.frz b o u (x.frz b o u h)
def Ex0.at(x:Ex0 α H α' H'){l:Nat}{a:Addr}(h:α[l]? =some a):α'[l]? =some a:=by obtain⟨t,rfl⟩:=x.pre;rw[getElem?_append_left (gS.mp h).1];exact h
def Ex0.sqT(x:Ex0 α H α' H'){a:Addr}{vs:List V}(q:SqT K H a vs):SqT K H' a vs:=by
 rcases q with(q|⟨o,q⟩)|q
 .exact .inl (.inl (x.tup a vs q))
 .exact .inl (.inr ⟨o,x.frz a o _ q⟩)
 .exact .inr q
def Ex0.sqF(x:Ex0 α H α' H'){a:Addr}{vs:List V}(q:SqF K H a vs):SqF K H' a vs:=by
 rcases q with⟨o,q⟩|q
 .exact .inl ⟨o,x.frz a o _ q⟩
 .exact .inr q
mutual
theorem Den.ex0(x:Ex0 α H α' H'): ∀{d:MV}{v:V},Den K α H d v->Den K α' H' d v
 |.non,_,q=>by unfold Den at q ⊢; exact q
 |.bl _,_,q=>by unfold Den at q ⊢; exact q
 |.int _,_,q=>by unfold Den at q ⊢; exact q
 |.str _,_,q=>by unfold Den at q ⊢; exact q
 |.typ _,_,q=>by unfold Den at q ⊢; exact q
 |.obj c ns ds,_,q=>by unfold Den at q ⊢;obtain⟨a,C,dx,vs,o,e,h,hn,hc,hl,l⟩:=q;exact⟨a,C,dx,vs,o,e,x.frz a _ _ h,hn,hc,hl,DenL.ex0 x l⟩
 |.loc _,_,q=>by unfold Den at q ⊢;obtain⟨a,e,h⟩:=q;exact⟨a,e,x.at h⟩
 |.tup ds,_,q=>by unfold Den at q ⊢;obtain⟨a,vs,e,s,l⟩:=q;exact⟨a,vs,e,x.sqT s,DenL.ex0 x l⟩
 |.scr ds,_,q=>by unfold Den at q ⊢;obtain⟨a,vs,e,s,l⟩:=q;exact⟨a,vs,e,x.sqF s,DenL.ex0 x l⟩
theorem DenL.ex0(x:Ex0 α H α' H'): ∀{ds:Zd}{vs:List V},DenL K α H ds vs->DenL K α' H' ds vs
 |[],_,q=>by unfold DenL at q ⊢; exact q
 |d::ds,_,q=>by unfold DenL at q ⊢;obtain⟨v,r,e,a,l⟩:=q;exact⟨v,r,e,Den.ex0 x a,DenL.ex0 x l⟩
end

def Den.ext(x:Ext α H α' H'){d:MV}{v:V}(q:Den K α H d v):Den K α' H' d v:=q.ex0 x.toEx0
def DenL.ext(x:Ext α H α' H'){d:Zd}{v:List V}(q:DenL K α H d v):DenL K α' H' d v:=q.ex0 x.toEx0
theorem fP:Den K α H .non .non:=by unfold Den;rfl
theorem gG(b:Bool):Den K α H (.bl b) (.bl b):=by unfold Den;rfl
theorem xB(i:Int):Den K α H (.int i) (.int i):=by unfold Den;rfl
theorem aG(x:Db):Den K α H (.str x) (.str (kE x)):=by unfold Den;rfl
theorem VG(n:String):Den K α H (.typ n) (.ty n):=by unfold Den;rfl
def qC{ds:Zd}{a:Addr}{vs:List V}(s:SqT K H a vs)(l:DenL K α H ds vs):Den K α H (.tup ds) (.ref a):=by unfold Den;exact⟨a,vs,rfl,s,l⟩
def VH{ds:Zd}{a:Addr}{vs:List V}(s:SqF K H a vs)(l:DenL K α H ds vs):Den K α H (.scr ds) (.ref a):=by unfold Den;exact⟨a,vs,rfl,s,l⟩
def qD{l:Nat}{a:Addr}(h:α[l]? =some a):Den K α H (.loc l) (.ref a):=by unfold Den;exact⟨a,rfl,h⟩
def aY{v:V}(d:Den K α H .non v):v=.non:=by unfold Den at d;exact d
def mQ{b:Bool}{v:V}(d:Den K α H (.bl b) v):v=.bl b:=by unfold Den at d;exact d
def xK{i:Int}{v:V}(d:Den K α H (.int i) v):v=.int i:=by unfold Den at d;exact d
def wV{x:Db}{v:V}(d:Den K α H (.str x) v):v=.str (kE x):=by unfold Den at d;exact d
def Ji{c:Str}{ns:Ye}{ds:Zd}{a C dx:Addr}{vs:List V}{o:Obj}(h:H a=some (.frz o (.ins C dx (ns.zip vs))))(hn:PySem.W.nsIn K mainGlobals c=some (some (.ref C)))(hc:(PySem.W.clsIn K C).map (·.name)=some c)(hl:ns.length=vs.length)(l:DenL K α H ds vs):Den K α H (.obj c ns ds) (.ref a):=by unfold Den;exact⟨a,C,dx,vs,o,rfl,h,hn,hc,hl,l⟩
def dS{c:Str}{ns:Ye}{ds:Zd}{v:V}(d:Den K α H (.obj c ns ds) v): ∃a C dx vs o,v=.ref a/\H a=some (.frz o (.ins C dx (ns.zip vs)))/\PySem.W.nsIn K mainGlobals c=some (some (.ref C))/\(PySem.W.clsIn K C).map (·.name)=some c/\ns.length=vs.length/\DenL K α H ds vs:=by unfold Den at d;exact d
def aZ{n:String}{v:V}(d:Den K α H (.typ n) v):v=.ty n:=by unfold Den at d;exact d
def wG{ds:Zd}{v:V}(d:Den K α H (.tup ds) v): ∃a vs,v=.ref a/\SqT K H a vs/\DenL K α H ds vs:=by unfold Den at d;exact d
def dU{ds:Zd}{v:V}(d:Den K α H (.scr ds) v): ∃a vs,v=.ref a/\SqF K H a vs/\DenL K α H ds vs:=by unfold Den at d;exact d
def bV{l:Nat}{v:V}(d:Den K α H (.loc l) v): ∃a,v=.ref a/\α[l]? =some a:=by unfold Den at d;exact d
theorem yS:DenL K α H [] []:=by unfold DenL;rfl
def yK{d:MV}{v:V}{ds:Zd}{vs:List V}(a:Den K α H d v)(l:DenL K α H ds vs):DenL K α H (d::ds) (v::vs):=by unfold DenL;exact⟨v,vs,rfl,a,l⟩
def DenL.uncons{d:MV}{ds:Zd}{vs:List V}(l:DenL K α H (d::ds) vs): ∃v r,vs=v::r/\Den K α H d v/\DenL K α H ds r:=by unfold DenL at l;exact l
def DenL.isnil{vs:List V}(l:DenL K α H [] vs):vs=[]:=by unfold DenL at l;exact l
theorem DenL.length: ∀{ds:Zd}{vs:List V},DenL K α H ds vs->vs.length=ds.length
 |[],_,q=>by rw[q.isnil];rfl
 |d::ds,_,q=>by obtain⟨v,r,rfl,_,l⟩:=q.uncons;rw[lC0,lC0,DenL.length l]
theorem DenL.append: ∀{ds es:Zd}{vs us:List V},DenL K α H ds vs->DenL K α H es us->DenL K α H (ds++es) (vs++us)
 |[],_,_,_,q,l=>by rw[q.isnil];exact l
 |d::ds,_,_,_,q,l=>by obtain⟨v,r,rfl,a,l'⟩:=q.uncons;exact yK a (DenL.append l' l)
theorem DenL.drop: ∀{ds:Zd}{vs:List V}(n:Nat),DenL K α H ds vs->DenL K α H (ds.drop n) (vs.drop n)
 |_,_,0,q=>q
 |[],_,n+1,q=>by rw[q.isnil];exact yS
 |d::ds,_,n+1,q=>by obtain⟨v,r,rfl,_,l⟩:=q.uncons;exact DenL.drop n l
theorem DenL.take: ∀{ds:Zd}{vs:List V}(n:Nat),DenL K α H ds vs->DenL K α H (ds.take n) (vs.take n)
 |_,_,0,q=>yS
 |[],_,n+1,q=>by rw[q.isnil];exact yS
 |d::ds,_,n+1,q=>by obtain⟨v,r,rfl,a,l⟩:=q.uncons;exact yK a (DenL.take n l)
theorem DenL.reverse: ∀{ds:Zd}{vs:List V},DenL K α H ds vs->DenL K α H ds.reverse vs.reverse
 |[],_,q=>by rw[q.isnil];exact yS
 |d::ds,_,q=>by obtain⟨v,r,rfl,a,l⟩:=q.uncons;rw[reverse_cons,reverse_cons];exact(DenL.reverse l).append (yK a yS)
theorem DenL.set{d:MV}{v:V}(a:Den K α H d v): ∀{ds:Zd}{vs:List V}(n:Nat),DenL K α H ds vs->DenL K α H (ds.set n d) (vs.set n v)
 |[],_,_,q=>by rw[q.isnil];exact yS
 |e::ds,_,0,q=>by obtain⟨v',r,rfl,a',l⟩:=q.uncons;exact yK a l
 |e::ds,_,n+1,q=>by obtain⟨v',r,rfl,a',l⟩:=q.uncons;exact yK a' (DenL.set a n l)
theorem DenL.get: ∀{ds:Zd}{vs:List V}{i:Nat}{v:V},DenL K α H ds vs->vs[i]? =some v-> ∃d,ds[i]? =some d/\Den K α H d v
 |[],_,_,_,q,e=>by rw[q.isnil]at e;simp at e
 |d::ds,_,0,_,q,e=>by obtain⟨v,r,rfl,a,l⟩:=q.uncons;simp at e;subst e;exact⟨d,rfl,a⟩
 |d::ds,_,i+1,_,q,e=>by obtain⟨v,r,rfl,a,l⟩:=q.uncons;obtain⟨d',h1,h2⟩:=DenL.get (i:=i) l (by simpa using e);exact⟨d',by simpa using h1,h2⟩
def DenL.at{ds:Zd}{vs:List V}{i:Nat}{d:MV}(q:DenL K α H ds vs)(e:ds[i]? =some d): ∃v,vs[i]? =some v/\Den K α H d v:=by
 have hi:i<ds.length:=(gS.mp e).1;have hv:i<vs.length:=by rw[q.length];exact hi
 obtain⟨d',h1,h2⟩:=q.get (gE hv);rw[e]at h1;cases h1;exact⟨_,gE hv,h2⟩
def DenL.cut{ds:Zd}{vs:List V}(q:DenL K α H ds vs)(lo hi:Yk):DenL K α H (bU ds lo hi) (OH vs lo hi):=by unfold bU OH;rw[q.length];exact(q.drop _).take _
theorem JK: ∀(ns:Ya),DenL K α H (ns.map MV.int) (ns.map V.int)
 |[]=>yS
 |b::bs=>yK (xB b) (JK bs)
end
structure Gm where
 K:PySem.W.Frag
 mg:Str->Option Value
 P:Program
 w:World
abbrev _root_.L2.Cx.g(X:Cx):Gm:=⟨X.K,X.mg,X.prog,X.w⟩
inductive DenF(K:Zb)(α:Yd)(H:Hp):List (Str×MV)->List (Str×V)->Prop
 |nil:DenF K α H [] []
 |cons {x:Str} {d:MV} {v:V} {fs gs}:Den K α H d v->DenF K α H fs gs->DenF K α H ((x,d)::fs) ((x,v)::gs)
theorem DenF.ex0{K:Zb}{α α':Yd}{H H':Hp}(x:Ex0 α H α' H'): ∀{fs gs},DenF K α H fs gs->DenF K α' H' fs gs
 |_,_,.nil=>.nil
 |_,_,.cons a l=>.cons (a.ex0 x) (DenF.ex0 x l)
def KeyD:MV->Key->Prop
 |.int i,k=>k=.inl i
 |.str x,k=>k=.inr (kE x)
 |_,_=>False
inductive DenK(K:Zb)(α:Yd)(H:Hp):List (MV×MV)->List (Key×V)->Prop
 |nil:DenK K α H [] []
 |cons {k:MV} {k':Key} {d:MV} {v:V} {fs gs}:KeyD k k'->Den K α H d v->DenK K α H fs gs->DenK K α H ((k,d)::fs) ((k',v)::gs)
theorem DenK.ex0{K:Zb}{α α':Yd}{H H':Hp}(x:Ex0 α H α' H'): ∀{fs gs},DenK K α H fs gs->DenK K α' H' fs gs
 |_,_,.nil=>.nil
 |_,_,.cons k a l=>.cons k (a.ex0 x) (DenK.ex0 x l)

def ObD(g:Gm)(α:Yd)(H:Hp)(a:Addr):MO->Prop
 |.lst ds=> ∃vs,H a=some (.lst vs)/\DenL g.K α H ds vs
 |.dic kvs=>(∃ks,H a=some (.dK ks)/\DenK g.K α H kvs ks)\/False
 |.ins c fs=> ∃C gs,g.mg c=some (.ref C)/\DenF g.K α H fs gs/\
   ∃oe,H a=some (.frz oe (.ext λh=>h.get? a=some oe))/\oe.cls=.ref C/\(fs=[]\/ ∃dx od,oe.dict=some dx/\H dx=some (.frz od (.xd gs))/\ ∃vs,oe.data=.fields vs)
def ObD.there{g:Gm}{α:Yd}{H:Hp}{a:Addr}{o:MO}(h:ObD g α H a o): ∃ho,H a=some ho/\(∀xs,ho≠.tup xs)/\ ∀ob u,ho=.frz ob u-> ∃φ,u=.ext φ:=by
 cases o with
 |lst ds=>obtain⟨vs,h,_⟩:=h;exact⟨_,h,(λxs z=>by cases z),λ_ _ z=>by cases z⟩
 |dic ds=>
  rcases h with⟨vs,h,_⟩|z
  .exact⟨_,h,(λxs z=>by cases z),λ_ _ z=>by cases z⟩
  .exact False.elim z
 |ins c ds=>
  obtain⟨_,_,_,_,_,h,_⟩:=h;exact⟨_,h,(λxs z=>by cases z),λ_ _ z=>by cases z;exact⟨_,rfl⟩⟩
def ObD.move{g:Gm}{α α':Yd}{H H':Hp}{a:Addr}{o:MO}(h:ObD g α H a o)(x:Ex0 α H α' H')(e:H' a=H a):ObD g α' H' a o:=by
 cases o with
 |lst ds=>obtain⟨vs,h,l⟩:=h;exact⟨vs,e.trans h,l.ex0 x⟩
 |dic ds=>
  rcases h with⟨vs,h,l⟩|z
  .exact .inl ⟨vs,e.trans h,l.ex0 x⟩
  .exact False.elim z
 |ins c ds=>
  obtain⟨C,gs,m,l,oe,h,hc,hf⟩:=h;exact⟨C,gs,m,l.ex0 x,oe,e.trans h,hc,hf.imp id λ⟨dx,od,h1,h2,h3⟩=>⟨dx,od,h1,x.frz _ _ _ h2,h3⟩⟩
structure Wd(g:Gm)(α:Yd)(S:zC)(H:Hp):Prop where
 len:α.length=S.length
 nd:α.Nodup
 obj: ∀(l:Nat)(a:Addr)(o:MO),α[l]? =some a->S[l]? =some o->ObD g α H a o
section
variable{g:Gm}{α:Yd}{S:zC}{H:Hp}
def Wd.at(w:Wd g α S H){l:Nat}{o:MO}(h:S[l]? =some o): ∃a,α[l]? =some a/\ObD g α H a o:=by
 have hl:l<α.length:=by rw[w.len];exact(gS.mp h).1
 exact⟨α[l],gE hl,w.obj l _ o (gE hl) h⟩
def Wd.of(w:Wd g α S H){l:Nat}{a:Addr}(h:α[l]? =some a): ∃o,S[l]? =some o/\ObD g α H a o:=by
 have hl:l<S.length:=by rw[<-w.len];exact(gS.mp h).1
 exact⟨S[l],gE hl,w.obj l a _ h (gE hl)⟩
def Wd.mem(w:Wd g α S H){a:Addr}(h:a∈α): ∃ho,H a=some ho/\(∀xs,ho≠.tup xs)/\ ∀ob u,ho=.frz ob u-> ∃φ,u=.ext φ:=by obtain⟨l,hl⟩:=getElem?_of_mem h;obtain⟨o,_,q⟩:=w.of hl;exact q.there
def Wd.newx(w:Wd g α S H){p:Addr}{o:HO}(hp:H p=none):Ext α H α (xI H p o) where
 pre:=⟨[],by simp⟩
 new:=λb h=>.inl h
 keep:=λb o h _=>by rw[zO (zV h hp)];exact h
 has:=λb o h=>⟨o,by rw[zO (zV h hp)];exact h⟩
 tup:=λb o h=>by rw[zO (zV h hp)];exact h
 frz:=λb o u h=>by rw[zO (zV h hp)];exact h
def Wd.fresh(w:Wd g α S H){p:Addr}(hp:H p=none):p∉α:=λz=>by obtain⟨_,h,_⟩:=w.mem z;rw[hp]at h;cases h
def Wd.new(w:Wd g α S H){p:Addr}{o:HO}(hp:H p=none):Wd g α S (xI H p o):=
 ⟨w.len,w.nd,λl a ob h1 h2=>(w.obj l a ob h1 h2).move (w.newx hp).toEx0 (zO λz=>w.fresh hp (by rw[<-z];exact mem_of_getElem? h1))⟩
def Nx{ho:HO}{a:Addr}(h:H a=some ho)(n: ∀ob u,ho≠.frz ob u:=by intro _ _ z;cases z): ∀ob u,H a≠some (.frz ob u):=λob u z=>n ob u (Option.some.inj (h.symm.trans z))
def Wd.writex(w:Wd g α S H){l:Nat}{a:Addr}{o:HO}(h:α[l]? =some a)(nf: ∀ob u,H a≠some (.frz ob u)):Ext α H α (xI H a o) where
 pre:=⟨[],by simp⟩
 new:=λb h=>.inl h
 keep:=λb o e n=>by rw[zO λz=>n (by rw[z];exact mem_of_getElem? h)];exact e
 has:=λb o e=>by
  by_cases z:b=a
  .subst z;exact⟨_,zR⟩
  .exact⟨o,by rw[zO z];exact e⟩
 tup:=λb xs e=>by obtain⟨ho,h1,h2,_⟩:=w.mem (mem_of_getElem? h);rw[zO λz=>h2 xs (by subst z;rw[e]at h1;exact(Option.some.inj h1).symm)];exact e
 frz:=λb ob u e=>by rw[zO λz=>nf ob u (by rw[<-z];exact e)];exact e
def Wd.ne(w:Wd g α S H){l m:Nat}{a b:Addr}(h:α[l]? =some a)(h':α[m]? =some b)(n:l≠m):a≠b:=by rintro rfl;obtain⟨h1,e1⟩:=gS.mp h;obtain⟨h2,e2⟩:=gS.mp h';exact n ((getElem_inj w.nd).mp (e1.trans e2.symm))
def Wd.write(w:Wd g α S H){l:Nat}{a:Addr}{o:HO}{ob:MO}(h:α[l]? =some a)(nf: ∀ob u,H a≠some (.frz ob u))(q:ObD g α (xI H a o) a ob):Wd g α (S.set l ob) (xI H a o) where
 len:=by rw[length_set];exact w.len
 nd:=w.nd
 obj:=λm b ob' h1 h2=>by
  by_cases e:l=m
  .subst e;rw[h]at h1;have hl:l<S.length:=by rw[<-w.len];exact(gS.mp h).1
   rw[getElem?_set_self hl]at h2;rw[<-Option.some.inj h1, <-Option.some.inj h2];exact q
  .rw[getElem?_set_ne e]at h2;exact(w.obj m b ob' h1 h2).move (w.writex h nf).toEx0 (zO (w.ne h1 h λz=>e z.symm))
def Wd.enterx(w:Wd g α S H){H0:Hp}{α0:Yd}(x:Ext α0 H0 α H){b:Addr}(h0:H0 b=none)(n:b∉α):Ext α0 H0 (α++[b]) H where
 pre:=let ⟨t,e⟩:=x.pre;⟨t++[b],by rw[e,aA]⟩
 new:=λc hc=>(mem_append.mp hc).elim (x.new c) λz=>.inr (by rw[mS.mp z];exact h0)
 keep:=x.keep
 has:=x.has
 tup:=x.tup
 frz:=x.frz
def Wd.enter(w:Wd g α S H){b:Addr}{ds:Zd}{vs:List V}(h:H b=some (.lst vs))(n:b∉α)(l:DenL g.K α H ds vs):Wd g (α++[b]) (S++[.lst ds]) H where
 len:=by rw[lA,lA,w.len];rfl
 nd:=nodup_append.mpr ⟨w.nd,by simp,λa ha c hc=>by rw[mS.mp hc];rintro rfl;exact n ha⟩
 obj:=λm a o h1 h2=>by
  by_cases hm:m<α.length
  .rw[getElem?_append_left hm]at h1;rw[getElem?_append_left (by rw[<-w.len];exact hm)]at h2;exact(w.obj m a o h1 h2).move (Ex0.grow α [b] H) rfl
  .have hm':m=α.length:=by have:=(gS.mp h1).1;rw[lA,lS]at this;omega
   subst hm';rw[getElem?_append_right (le_refl _),sub_self]at h1;rw[getElem?_append_right (by rw[w.len];exact le_refl _),w.len,sub_self]at h2;cases h1;cases h2;exact⟨vs,h,l.ex0 (Ex0.grow α [b] H)⟩
end
inductive R(β:Type) where
 |ok (b:β) (S:zC)|exc (c:Str) (fs:List (Str×MV)) (S:zC)|no
def R.bind{β γ:Type}:R β->(β->zC->R γ)->R γ
 |.ok b S,k=>k b S
 |.exc c fs S,_=>.exc c fs S
 |.no,_=>.no
theorem R.bind_ok{β γ:Type}(b:β)(S:zC)(k:β->zC->R γ):(R.ok b S).bind k=k b S:=rfl
inductive Er where
 |val (d:MV)|new (ds:Zd)
instance:Inhabited Er:=⟨.val .non⟩
def DenX(K:Zb)(α:Yd)(H:Hp):Er->V->Prop
 |.val d,v=>Den K α H d v
 |.new ds,v=> ∃b vs,v=.ref b/\H b=some (.lst vs)/\b∉α/\DenL K α H ds vs
def DenE(K:Zb)(H:Hp)(α':Yd)(H':Hp)(r:Er)(v:V):Prop:=DenX K α' H' r v/\match r with |.new _=> ∀a,v=.ref a->H a=none|_=>True
section
variable{K:Zb}{α α':Yd}{H H0 H':Hp}
def DenX.ext(x:Ext α H α' H'): ∀{r:Er}{v:V},DenX K α H r v->DenX K α' H' r v
 |.val d,_,q=>Den.ext x q
 |.new ds,_,⟨b,vs,e,h,n,l⟩=>⟨b,vs,e,x.keep b _ h n,x.out h n,l.ext x⟩
def DenE.val{d:MV}{v:V}(q:Den K α' H' d v):DenE K H α' H' (.val d) v:=⟨q,trivial⟩
def DenE.back(hf: ∀b,H b=none->H0 b=none){r:Er}{v:V}(q:DenE K H α' H' r v):DenE K H0 α' H' r v:=by
 refine⟨q.1,?_⟩
 cases r with
 |new ds=>exact λa e=>hf a (q.2 a e)
 |_=>trivial
def DenE.ext{α'':Yd}{H'':Hp}(x:Ext α' H' α'' H''){r:Er}{v:V}(q:DenE K H α' H' r v):DenE K H α'' H'' r v:=⟨q.1.ext x,q.2⟩
end
section
variable{K:Zb}{α:Yd}{H:Hp}{v:V}
def BC(d:DenX K α H (.val .non) v):v=.non:=aY (K:=K) (α:=α) (H:=H) d
def FI{b:Bool}(d:DenX K α H (.val (.bl b)) v):v=.bl b:=mQ (K:=K) (α:=α) (H:=H) d
def xO{b:Int}(d:DenX K α H (.val (.int b)) v):v=.int b:=xK (K:=K) (α:=α) (H:=H) d
def bW{b:Db}(d:DenX K α H (.val (.str b)) v):v=.str (kE b):=wV (K:=K) (α:=α) (H:=H) d
def Cf{b:String}(d:DenX K α H (.val (.typ b)) v):v=.ty b:=aZ (K:=K) (α:=α) (H:=H) d
def Qr{c:Str}{ns:Ye}{ds:Zd}(d:DenX K α H (.val (.obj c ns ds)) v): ∃a C dx vs o,v=.ref a/\H a=some (.frz o (.ins C dx (ns.zip vs)))/\PySem.W.nsIn K mainGlobals c=some (some (.ref C))/\(PySem.W.clsIn K C).map (·.name)=some c/\ns.length=vs.length/\DenL K α H ds vs:=dS (K:=K) (α:=α) (H:=H) d
def eA{ds:Zd}(d:DenX K α H (.val (.tup ds)) v): ∃a vs,v=.ref a/\SqT K H a vs/\DenL K α H ds vs:=wG (K:=K) (α:=α) (H:=H) d
def FK{ds:Zd}(d:DenX K α H (.val (.scr ds)) v): ∃a vs,v=.ref a/\SqF K H a vs/\DenL K α H ds vs:=dU (K:=K) (α:=α) (H:=H) d
def eB{l:Nat}(d:DenX K α H (.val (.loc l)) v): ∃a,v=.ref a/\α[l]? =some a:=bV (K:=K) (α:=α) (H:=H) d
end
def uI:List Er->List V->List Addr
 |.new _::rs,.ref b::vs=>b::uI rs vs
 |_::rs,_::vs=>uI rs vs
 |_,_=>[]
inductive ArgsE(K:Zb)(H:Hp)(α':Yd)(H':Hp):List Er->List V->Prop
 |nil:ArgsE K H α' H' [] []
 |cons {r v rs vs}:DenE K H α' H' r v->(∀ds b,r=.new ds->v=.ref b->b∉uI rs vs)->ArgsE K H α' H' rs vs->ArgsE K H α' H' (r::rs) (v::vs)
theorem ArgsE.nones{K:Zb}{H:Hp}{α':Yd}{H':Hp}: ∀{rs vs},ArgsE K H α' H' rs vs-> ∀b∈uI rs vs,H b=none
 |_,_,.nil=>λb h=>by simp[uI]at h
 |.val d::_,v::_,.cons a n l=>λb h=>ArgsE.nones l b (by simpa [uI]using h)
 |.new ds::_,v::_,.cons a n l=>λb h=>by
  obtain⟨c,vs,rfl,_⟩:=a.1;rcases mC.mp (show b∈c::uI _ _ from h)with rfl|h
  .exact a.2 _ rfl
  .exact ArgsE.nones l b h
theorem ArgsE.ext{K:Zb}{H:Hp}{α' α'':Yd}{H' H'':Hp}(x:Ext α' H' α'' H''): ∀{rs vs},ArgsE K H α' H' rs vs->ArgsE K H α'' H'' rs vs
 |_,_,.nil=>.nil
 |_,_,.cons a n l=>.cons (a.ext x) n (ArgsE.ext x l)
theorem ArgsE.back{K:Zb}{H H0:Hp}{α':Yd}{H':Hp}(hf: ∀b,H b=none->H0 b=none): ∀{rs vs},ArgsE K H α' H' rs vs->ArgsE K H0 α' H' rs vs
 |_,_,.nil=>.nil
 |_,_,.cons a n l=>.cons (a.back hf) n (ArgsE.back hf l)
theorem ArgsE.length{K:Zb}{H:Hp}{α':Yd}{H':Hp}: ∀{rs vs},ArgsE K H α' H' rs vs->vs.length=rs.length
 |_,_,.nil=>rfl
 |_,_,.cons _ _ l=>by rw[lC0,lC0,ArgsE.length l]
class Dn (β:Type) (τ:outParam Type) where
 d:Gm->Hp->List Addr->zC->Hp->β->τ->Prop
 back: ∀{g:Gm}{H H0:Hp}{α':Yd}{S':zC}{H':Hp}{b:β}{u:τ},(∀b,H b=none->H0 b=none)->d g H α' S' H' b u->d g H0 α' S' H' b u
instance:Dn Er V:=⟨λg H α' _ H' r v=>DenE g.K H α' H' r v,λhf q=>q.back hf⟩
instance:Dn Bool Bool:=⟨λ_ _ _ _ _ b u=>u=b,λ_ q=>q⟩
instance:Dn (List Er) (List V):=⟨λg H α' _ H' r v=>ArgsE g.K H α' H' r v,λhf q=>q.back hf⟩
instance:Dn (Option Int) (Option Int):=⟨λ_ _ _ _ _ b u=>u=b,λ_ q=>q⟩
abbrev XW:=Str->List (Str×MV)->zC->List Addr->Hp->Prop
abbrev W0:XW:=λ_ _ _ _ _=>False
def Post{β τ:Type}[Dn β τ](g:Gm)(W:XW)(α:Yd)(H:Hp):R β->(τ->Hp->Prop)->Prop
 |.ok b S,Q=> ∀u α' H',Ext α H α' H'->Wd g α' S H'->Dn.d g H α' S H' b u->Q u H'
 |.exc c fs S,_=> ∀α' H',Ext α H α' H'->Wd g α' S H'->W c fs S α' H'
 |.no,_=>False
section
variable{β τ γ υ:Type}[Dn β τ][Dn γ υ]{g:Gm}{W:XW}{α α':Yd}{H H':Hp}
def Post.shift(x:Ext α H α' H'): ∀{m:R β}{Q:τ->Hp->Prop},Post g W α H m Q->Post g W α' H' m Q
 |.ok b S,Q,q=>λu α2 H2 x2 w2 d2=>q u α2 H2 (x.trans x2) w2 (Dn.back (λb h=>x.free h) d2)
 |.exc c fs S,_,q=>λα2 H2 x2 w2=>q α2 H2 (x.trans x2) w2
 |.no,_,q=>q
def Post.bind{m:R β}{k:β->zC->R γ}{Q:υ->Hp->Prop}{Q':τ->Hp->Prop}(q:Post g W α H (m.bind k) Q)
  (f: ∀u b S1 α1 H1,m=.ok b S1->Ext α H α1 H1->Wd g α1 S1 H1->Dn.d g H α1 S1 H1 b u->Post g W α H (k b S1) Q->Q' u H1):Post g W α H m Q':=by
 cases m with
 |ok b S=>exact λu α1 H1 x w d=>f u b S α1 H1 rfl x w d q
 |exc c fs S=>exact q
 |no=>exact q
def Post.here{b:β}{S:zC}{Q:τ->Hp->Prop}{u:τ}(q:Post g W α H (.ok b S) Q)(w:Wd g α S H)(d:Dn.d g H α S H b u):Q u H:=q u α H (Ext.refl α H) w d
end
def Post.val{g:Gm}{W:XW}{α:Yd}{H:Hp}{d:MV}{S:zC}{Q:VK}{v:V}(q:Post g W α H (.ok (Er.val d) S) Q)(w:Wd g α S H)(k:Den g.K α H d v):Q v H:=q.here w (DenE.val k)
def Post.newl{g:Gm}{W:XW}{α:Yd}{H:Hp}{ds:Zd}{S:zC}{Q:VK}{vs:List V}{p:Addr}(q:Post g W α H (.ok (Er.new ds) S) Q)(w:Wd g α S H)(hp:H p=none)(l:DenL g.K α H ds vs):Q (.ref p) (xI H p (.lst vs)):=
 q (.ref p) α _ (w.newx hp) (w.new hp) ⟨⟨p,vs,rfl,zR,w.fresh hp,l.ext (w.newx hp)⟩,λa e=>by cases e;exact hp⟩
def Post.newt{g:Gm}{W:XW}{α:Yd}{H:Hp}{ds:Zd}{S:zC}{Q:VK}{vs:List V}{p:Addr}(q:Post g W α H (.ok (Er.val (.tup ds)) S) Q)(w:Wd g α S H)(hp:H p=none)(l:DenL g.K α H ds vs):Q (.ref p) (xI H p (.tup vs)):=
 q (.ref p) α _ (w.newx hp) (w.new hp) (.val (qC (.of zR) (l.ext (w.newx hp))))
abbrev zK:=List (Option MV)
structure Slots(K:Zb)(α:Yd)(H:Hp)(ρ:zK)(σ:St):Prop where
 len:σ.length=ρ.length
 slot: ∀(i:Nat)(d:MV),ρ[i]? =some (some d)-> ∃v,σ[i]? =some (some v)/\Den K α H d v
section
variable{K:Zb}{α α':Yd}{H H':Hp}{ρ:zK}{σ:St}
def Slots.ex0(q:Slots K α H ρ σ)(x:Ex0 α H α' H'):Slots K α' H' ρ σ:=⟨q.len,λi d e=>let ⟨v,h1,h2⟩:=q.slot i d e;⟨v,h1,h2.ex0 x⟩⟩
def Slots.ext(q:Slots K α H ρ σ)(x:Ext α H α' H'):Slots K α' H' ρ σ:=q.ex0 x.toEx0
def VI{α:Type}{l:List α}{i j:Nat}{x y:α}(h:(l.set i x)[j]? =some y):(j=i/\y=x/\i<l.length)\/(j≠i/\l[j]? =some y):=by
 by_cases hj:i=j
 .subst hj;by_cases hl:i<l.length
  .rw[getElem?_set_self hl]at h;exact .inl ⟨rfl,(Option.some.inj h).symm,hl⟩
  .rw[getElem?_eq_none (by rw[length_set];omega)]at h;cases h
 .rw[getElem?_set_ne hj]at h;exact .inr ⟨λz=>hj z.symm,h⟩
def Slots.set(q:Slots K α H ρ σ){i:Nat}{d:MV}{v:V}(h:Den K α H d v):Slots K α H (ρ.set i (some d)) (σ.set i (some v)):=by
 refine⟨by rw[length_set,length_set];exact q.len,λj e z=>?_⟩;rcases VI z with⟨rfl,e',hl⟩|⟨hj,e'⟩
 .cases e';exact⟨v,by rw[getElem?_set_self (by rw[q.len];exact hl)],h⟩
 .obtain⟨u,h1,h2⟩:=q.slot j e e';exact⟨u,by rw[getElem?_set_ne (Ne.symm hj)];exact h1,h2⟩
end
def Jd(X:Cx)(W:XW){β τ:Type}[Dn β τ](P:(St->Hp->(τ->Hp->Prop)->Prop)->Prop)(f:zK->zC->R β):Prop:=
 ∃t,P t/\ ∀α ρ S σ H Q,Wd X.g α S H->Slots X.K α H ρ σ->Post X.g W α H (f ρ S) Q->t σ H Q
abbrev yR(X:Cx)(W:XW)(e:Expr)(f:zK->zC->R Er):Prop:=Jd X W (PE X e) f
abbrev RT(X:Cx)(W:XW)(e:Expr)(f:zK->zC->R Bool):Prop:=Jd X W (PT X e) f
abbrev Xs(X:Cx)(W:XW)(e:Expr)(f:zK->zC->R Bool):Prop:=Jd X W (PW X e) f
abbrev FL(X:Cx)(W:XW)(es:Za)(f:zK->zC->R (List Er)):Prop:=Jd X W (PA X es) f
abbrev Uc(X:Cx)(W:XW)(e:Option Expr)(f:zK->zC->R (Option Int)):Prop:=Jd X W (PO X e) f
section
variable{X:Cx}{W:XW}{a b c:Expr}{f g h:zK->zC->R Er}{pos:Pos}
def Jj:Option (Option MV)->zC->R Er
 |some (some d),S=>.ok (.val d) S
 |_,_=>.no
def zA(i:Nat){x:Str}(hN:X.N[i]? =some x:=by rfl)(hv:Hz X.env.scope x:=by first |exact Or.inl rfl|exact Or.inr (Or.inl rfl)|exact Or.inr (Or.inr rfl))(hd:(x==("__debug__":Str))=false:=by decide)
  (hcd:(x==("__classdict__":Str))=false:=by decide):yR X W (.Name x pos) (λρ S=>Jj (ρ[i]?) S):=by
 refine⟨_,pv i hN hv hd hcd,λα ρ S σ H Q wd sl q=>?_⟩;dsimp only at q
 cases z:ρ[i]? with
 |none=>rw[z]at q;exact q.elim
 |some o=>
  cases o with
  |none=>rw[z]at q;exact q.elim
  |some d=>
   rw[z]at q;obtain⟨v,h1,h2⟩:=sl.slot i d z;exact⟨v,h1,Post.val q wd h2⟩
def zE{i:Int}{j:Nat}:yR X W (.Constant (.int i) j pos) (λ_ S=>.ok (.val (.int i)) S):=⟨_,Bh,λα ρ S σ H Q wd sl q=>Post.val q wd (xB i)⟩
def rN{i:Bool}{j:Nat}:yR X W (.Constant (.bool i) j pos) (λ_ S=>.ok (.val (.bl i)) S):=⟨_,Uj,λα ρ S σ H Q wd sl q=>Post.val q wd (gG i)⟩
def SU{j:Nat}:yR X W (.Constant .none j pos) (λ_ S=>.ok (.val .non) S):=⟨_,Pe,λα ρ S σ H Q wd sl q=>Post.val q wd fP⟩
def qE{x:Str}{j:Nat}(cs:Db)(hx:x=kE cs:=by rfl):yR X W (.Constant (.str x) j pos) (λ_ S=>.ok (.val (.str cs)) S):=
 ⟨_,Bi,λα ρ S σ H Q wd sl q=>Post.val q wd (by rw[hx];exact aG cs)⟩
def Wa{x:Str}{T:String}(hg:Gl X x)(hm:X.mg x=none)(hv:bootBuiltins x=some (.type T))(hn:x≠"__name__":=by decide)(hd:(x==("__debug__":Str))=false:=by decide):yR X W (.Name x pos) (λ_ S=>.ok (.val (.typ T)) S):=
 ⟨_,UZ (v:=.ty T) hg hm hv rfl hn hd,λα ρ S σ H Q wd sl q=>Post.val q wd (VG T)⟩
def Qs{i:Int}{j:Nat}{p3:Pos}:yR X W (.UnaryOp .USub (.Constant (.int i) j p3) pos) (λ_ S=>.ok (.val (.int (-i))) S):=
 ⟨_,Uv Py Bh,λα ρ S σ H Q wd sl q=>⟨i,rfl,Post.val q wd (xB (-i))⟩⟩
def ZJ(X:Cx)(W:XW)(r:R2)(F:Er->Er->zC->R Er):Prop:= ∀p q x y α S H Q,Wd X.g α S H->DenX X.K α H p x->DenX X.K α H q y->Post X.g W α H (F p q S) Q->r x y H Q
def two{r:R2}{F:Er->Er->zC->R Er}(hF:ZJ X W r F){ta tb:TE}(fa: ∀α ρ S σ H Q,Wd X.g α S H->Slots X.K α H ρ σ->Post X.g W α H (f ρ S) Q->ta σ H Q)
  (fb: ∀α ρ S σ H Q,Wd X.g α S H->Slots X.K α H ρ σ->Post X.g W α H (g ρ S) Q->tb σ H Q) {α:Yd} {ρ:zK} {S:zC} {σ:St} {H:Hp} {Q:VK} (wd:Wd X.g α S H) (sl:Slots X.K α H ρ σ)
  (q:Post X.g W α H ((f ρ S).bind λp S1=>(g ρ S1).bind λq S2=>F p q S2) Q):ta σ H λx H1=>tb σ H1 λy H2=>r x y H2 Q:=
 fa α ρ S σ H _ wd sl (q.bind λu p S1 α1 H1 e1 x1 w1 d1 q1=>fb α1 ρ S1 σ H1 _ w1 (sl.ext x1) ((q1.shift x1).bind λu2 p2 S2 α2 H2 e2 x2 w2 d2 q2=>
  hF p p2 u u2 α2 S2 H2 Q w2 (d1.1.ext x2) d2.1 (q2.shift x2)))
def JM{op:Operator}{r:R2}{F:Er->Er->zC->R Er}(ho:OpR X (binaryOp op) r)(hF:ZJ X W r F)(ha:yR X W a f)(hb:yR X W b g):yR X W (.BinOp a op b pos) (λρ S=>(f ρ S).bind λp S1=>(g ρ S1).bind λq S2=>F p q S2):=by obtain⟨ta,ha,fa⟩:=ha;obtain⟨tb,hb,fb⟩:=hb;exact⟨_,Uu ho ha hb,λα ρ S σ H Q wd sl q=>two hF fa fb wd sl q⟩
def SV{op:CmpOp}{r:R2}{F:Er->Er->zC->R Er}(ho:OpR X (compareOp op) r)(hF:ZJ X W r F)(ha:yR X W a f)(hb:yR X W b g)(hm:behindInMarks op b=false:=by first |exact Bp _|with_unfolding_all rfl):
  yR X W (.Compare a [op] [b] pos) (λρ S=>(f ρ S).bind λp S1=>(g ρ S1).bind λq S2=>F p q S2):=by
 obtain⟨ta,ha,fa⟩:=ha;obtain⟨tb,hb,fb⟩:=hb;exact⟨_,Il ho ha hb hm,λα ρ S σ H Q wd sl q=>two hF fa fb wd sl q⟩
def Wb{r:R2}{F:Er->Er->zC->R Er}(ho:IxR X r)(hF:ZJ X W r F)(ha:yR X W a f)(hb:yR X W b g)(hs:LC b:=by exact λ_ _=>rfl):
  yR X W (.Subscript a b pos) (λρ S=>(f ρ S).bind λp S1=>(g ρ S1).bind λq S2=>F p q S2):=by
 obtain⟨ta,ha,fa⟩:=ha;obtain⟨tb,hb,fb⟩:=hb;exact⟨_,Vc ho ha hb hs,λα ρ S σ H Q wd sl q=>two hF fa fb wd sl q⟩
def mB:Er->zC->R Bool
 |.val (.bl b),S=>.ok b S
 |_,_=>.no
def Cg{p:Er}{S:zC}{α:Yd}{H:Hp}{Q:Bool->Hp->Prop}(q:Post X.g W α H (mB p S) Q): ∃k,p=.val (.bl k)/\Post X.g W α H (.ok k S) Q:=by
 unfold mB at q;split at q
 .exact⟨_,rfl,q⟩
 .exact q.elim
def sF{op:CmpOp}{r:R2}{F:Er->Er->zC->R Er}(ho:OpR X (compareOp op) r)(hF:ZJ X W r F)(ha:yR X W a f)(hb:yR X W b g)(hm:behindInMarks op b=false:=by first |exact Bp _|with_unfolding_all rfl):
  RT X W (.Compare a [op] [b] pos) (λρ S=>((f ρ S).bind λp S1=>(g ρ S1).bind λq S2=>F p q S2).bind mB):=by
 obtain⟨ta,ha,fa⟩:=ha;obtain⟨tb,hb,fb⟩:=hb;refine⟨_,Im ho ha hb hm,λα ρ S σ H Q wd sl q=>?_⟩;refine two hF fa fb wd sl (Q:=λx H'=> ∃k,x=.bl k/\Q k H') (q.bind λu p S1 α1 H1 e1 x1 w1 d1 q1=>?_);obtain⟨k,rfl,q2⟩:=Cg (q1.shift x1);exact⟨k,FI d1.1,q2.here w1 rfl⟩
def chF(F G:Er->Er->zC->R Er)(p q:Er)(S:zC)(k:zC->R Er):R Er:=(F p q S).bind λz S1=>(mB z S1).bind λc S2=>if c=true then(k S2).bind λr S3=>G q r S3 else .ok (.val (.bl false)) S2
def FM:Er->zC->R Bool
 |.val .non,S=>.ok false S
 |.val (.bl b),S=>.ok b S
 |.val (.int i),S=>.ok (i !=0) S
 |.val (.str x),S=>if x.length<=sizeLine then .ok (!x.isEmpty) S else .no
 |.val (.tup ds),S=>.ok (!ds.isEmpty) S
 |.val (.scr ds),S=>.ok (!ds.isEmpty) S
 |.val (.loc l),S=>match S[l]? with
  |some (.lst ds)=>.ok (!ds.isEmpty) S
  |_=>.no
 |.val (.typ _),_=>.no
 |.val (.obj _ _ _),_=>.no
 |.new ds,S=>.ok (!ds.isEmpty) S
def uB{ds:Zd}{vs:List V}{K:Zb}{α:Yd}{H:Hp}(l:DenL K α H ds vs):(!vs.isEmpty)= !ds.isEmpty:=by have:=l.length;cases ds<;>cases vs<;>simp_all
def Ci{p:Er}{x:V}{S:zC}{α:Yd}{H:Hp}{Q:Bool->Hp->Prop}(wd:Wd X.g α S H)(d:DenX X.K α H p x)(q:Post X.g W α H (FM p S) Q): ∃k,Pz X.K x H k/\Q k H:=by
 match p,d,q with
 |.val .non,d,q=>cases BC d;exact⟨_,rfl,q.here wd rfl⟩
 |.val (.bl b),d,q=>cases FI d;exact⟨_,rfl,q.here wd rfl⟩
 |.val (.int i),d,q=>cases xO d;exact⟨_,rfl,q.here wd rfl⟩
 |.val (.typ n),d,q=>exact q.elim
 |.val (.obj _ _ _),d,q=>exact q.elim
 |.val (.str z),d,q=>
  cases bW d;have q':Post X.g W α H (if z.length<=sizeLine then R.ok (!z.isEmpty) S else R.no) Q:=q;split at q'
  .rename_i hz;refine⟨_,⟨by rw[jZ];exact hz,?_⟩,q'.here wd rfl⟩;rw[jZ]
   cases z with
   |nil=>rfl
   |cons c r=>
    have h0:((r.length:Int)+1)≠0:=by omega
    simp[h0]
  .exact q'.elim
 |.val (.tup ds),d,q=>
  obtain⟨a,vs,rfl,s,l⟩:=eA d;exact⟨_,.inr (.inl ⟨vs,s,(uB l).symm⟩),q.here wd rfl⟩
 |.val (.scr ds),d,q=>
  obtain⟨a,vs,rfl,s,l⟩:=FK d;exact⟨_,.inl ⟨vs,s.l,(uB l).symm⟩,q.here wd rfl⟩
 |.val (.loc n),d,q=>
  obtain⟨a,rfl,h⟩:=eB d;obtain⟨o,h1,h2⟩:=wd.of h;have q':Post X.g W α H (match S[n]? with |some (.lst ds)=>R.ok (!ds.isEmpty) S|_=>R.no) Q:=q;rw[h1]at q'
  cases o with
  |lst ds=>
   obtain⟨vs,h3,l⟩:=h2;exact⟨_,.inl ⟨vs,.of h3,(uB l).symm⟩,q'.here wd rfl⟩
  |dic ds=>exact q'.elim
  |ins c fs=>exact q'.elim
 |.new ds,⟨a,vs,ex,s,n,l⟩,q=>subst ex;exact⟨_,.inl ⟨vs,.of s,(uB l).symm⟩,q.here wd rfl⟩
def pE(ha:yR X W a f)(he: ∀whole,isTrue a X.env whole=(do let v <-whole;standAt a.pos;holding [v] (truthy v)):=by intro _;rfl):RT X W a (λρ S=>(f ρ S).bind FM):=by obtain⟨ta,ha,fa⟩:=ha;exact⟨_,Bq ha he,λα ρ S σ H Q wd sl q=>fa α ρ S σ H _ wd sl (q.bind λu p S1 α1 H1 e1 x1 w1 d1 q1=>Ci w1 d1.1 (q1.shift x1))⟩
end
section
variable{X:Cx}{W:XW}{a b c:Expr}{es:Za}{h:zK->zC->R Er}{tf tg:zK->zC->R Bool}{pos:Pos}
def andF(p:Er)(S:zC)(k:zC->R Er):R Er:=(mB p S).bind λc S1=>if c=true then k S1 else .ok (.val (.bl false)) S1
def orF(p:Er)(S:zC)(k:zC->R Er):R Er:=(mB p S).bind λc S1=>if c=true then .ok (.val (.bl true)) S1 else k S1
def Jk(ha:RT X W a tf):Xs X W (.BoolOp .And [a] pos) tf:=let ⟨t,h,k⟩:=ha;⟨t,Ib h,k⟩
theorem Qt(ha:RT X W a tf)(hb:Xs X W (.BoolOp .And (b::es) pos) tg):Xs X W (.BoolOp .And (a::b::es) pos) (λρ S=>(tf ρ S).bind λk S1=>if k=true then tg ρ S1 else .ok false S1):=by
 obtain⟨ta,ha,fa⟩:=ha;obtain⟨tb,hb,fb⟩:=hb;refine⟨_,Pf ha hb,λα ρ S σ H Q wd sl q=>fa α ρ S σ H _ wd sl (q.bind λu p S1 α1 H1 e1 x1 w1 d1 q1=>?_)⟩;cases d1
 cases u with
 |true=>rw[iP rfl]at q1 ⊢; exact fb α1 ρ S1 σ H1 _ w1 (sl.ext x1) (q1.shift x1)
 |false=>rw[iN0 xF0]at q1 ⊢; exact(q1.shift x1).here w1 rfl
def Wc(h:Xs X W a tf):RT X W a tf:=let ⟨t,h,k⟩:=h;⟨t,h.pt,k⟩
end
section
variable{K:Zb}{H0:Hp}
def zS:List Er->zC->List MV×zC
 |[],S=>([],S)
 |.val d::rs,S=>((d::(zS rs S).1),(zS rs S).2)
 |.new xs::rs,S=>((.loc S.length::(zS rs (S++[.lst xs])).1),(zS rs (S++[.lst xs])).2)
def ArgsE.grow{H0:Hp}{α:Yd}{H:Hp}{b:Addr}{rs:List Er}{vs:List V}(q:ArgsE K H0 α H rs vs)(n:b∉uI rs vs):ArgsE K H0 (α++[b]) H rs vs:=by
 induction q with
 |nil=>exact .nil
 |@cons r v rs vs a m l ih=>
  cases r with
  |val d=>exact .cons ⟨Den.ex0 (Ex0.grow α [b] H) a.1,trivial⟩ m (ih (by simpa [uI]using n))
  |new ds=>
   obtain⟨⟨c,us,rfl,h1,h2,h3⟩,h4⟩:=a;have n':b∉c::uI rs vs:=n;refine .cons ⟨⟨c,us,rfl,h1,λz=>?_,h3.ex0 (Ex0.grow α [b] H)⟩,h4⟩ m (ih λz=>n' (mO _ z));rcases mem_append.mp z with z|z
   .exact h2 z
   .exact n' (by rw[mS.mp z];exact mF0)
theorem pF{g:Gm}{H0:Hp}{α0:Yd}{H:Hp}: ∀{rs:List Er}{vs:List V}{α:Yd}{S:zC},Wd g α S H->Ext α0 H0 α H->ArgsE g.K H0 α H rs vs->
  ∃α',Ext α0 H0 α' H/\Ex0 α H α' H/\Wd g α' (zS rs S).2 H/\DenL g.K α' H (zS rs S).1 vs
 |_,_,α,S,w,x,.nil=>⟨α,x,⟨⟨[],by simp⟩,λ_ _ h=>h,λ_ _ _ h=>h⟩,w,yS⟩
 |.val d::rs,v::vs,α,S,w,x,.cons a n l=>by obtain⟨α',x',y',w',l'⟩:=pF w x l;exact⟨α',x',y',w',yK (Den.ex0 y' a.1) l'⟩
 |.new ds::rs,v::vs,α,S,w,x,.cons a n l=>by
  obtain⟨⟨c,us,rfl,h1,h2,h3⟩,h4⟩:=a;obtain⟨α',x',y',w',l'⟩:=pF (w.enter h1 h2 h3) (w.enterx x (h4 c rfl) h2) (l.grow (n ds c rfl rfl));refine⟨α',x',⟨?_,y'.tup,y'.frz⟩,w',yK (qD (y'.at ?_)) l'⟩
  .obtain⟨t,e⟩:=y'.pre;exact⟨[c]++t,by rw[e,aA]⟩
  .rw[<-w.len,getElem?_append_right (le_refl _),sub_self];rfl
theorem uC: ∀(rs:List Er)(S:zC),(zS rs S).1.length=rs.length
 |[],S=>rfl
 |.val d::rs,S=>by show(d::(zS rs S).1).length=_;rw[lC0,uC rs S];rfl
 |.new ds::rs,S=>by show(_::(zS rs _).1).length=_;rw[lC0,uC rs _];rfl
end
section
variable{X:Cx}{W:XW}{a b c e:Expr}{es:Za}{f g h:zK->zC->R Er}{af:zK->zC->R (List Er)}{pos:Pos}
def zF:FL X W [] (λ_ S=>.ok [] S):=⟨_,FA,λα ρ S σ H Q wd sl q=>q.here wd .nil⟩
def zB(ha:yR X W a f)(hr:FL X W es af)(hs:starEach (a::es) X.env=(false,eval a X.env)::starEach es X.env:=by rfl):FL X W (a::es) (λρ S=>(f ρ S).bind λp S1=>(af ρ S1).bind λps S2=>.ok (p::ps) S2):=by
 obtain⟨ta,ha,fa⟩:=ha;obtain⟨tr,hr,fr⟩:=hr;refine⟨_,mH ha hr hs,λα ρ S σ H Q wd sl q=>fa α ρ S σ H _ wd sl (q.bind λu p S1 α1 H1 e1 x1 w1 d1 q1=>fr α1 ρ S1 σ H1 _ w1 (sl.ext x1) ?_)⟩;have q1':Post X.g W α H ((af ρ S1).bind λps S2=>.ok (p::ps) S2) Q:=q1
 cases z:af ρ S1 with
 |ok ps S2=>
  rw[z]at q1';intro vs α2 H2 x2 w2 d2;refine q1' (u::vs) α2 H2 (x1.trans x2) w2 (ArgsE.cons (DenE.ext x2 d1) (λds b er eu hb=>?_) (ArgsE.back (λb h=>x1.free h) d2));subst er eu;obtain⟨⟨c,us,ec,h1,_⟩,_⟩:=d1;cases ec;have:=ArgsE.nones d2 _ hb;rw[h1]at this;cases this
 |exc c fs S2=>rw[z]at q1';exact λα2 H2 x2 w2=>q1' α2 H2 (x1.trans x2) w2
 |no=>rw[z]at q1';exact q1'
def dQ(rs:List Er)(S:zC):R Er:=if rs.length<=sizeLine then .ok (.val (.tup (zS rs S).1)) (zS rs S).2 else .no
def bX(rs:List Er)(S:zC):R Er:=if rs.length<=sizeLine then .ok (.new (zS rs S).1) (zS rs S).2 else .no
def kP{x1}(h:FL X W es af):yR X W (.Tuple es x1 pos) (λρ S=>(af ρ S).bind dQ):=by
 obtain⟨t,h,k⟩:=h;refine⟨_,Qc h,λα ρ S σ H Q wd sl q=>k α ρ S σ H _ wd sl (q.bind λvs rs S1 α1 H1 e1 x1 w1 d1 q1=>?_)⟩;have q1':Post X.g W α H (if rs.length<=sizeLine then R.ok (Er.val (.tup (zS rs S1).1)) (zS rs S1).2 else R.no) Q:=q1;split at q1'
 .rename_i hz;obtain⟨α2,x2,y2,w2,l2⟩:=pF w1 x1 d1;exact⟨by rw[ArgsE.length d1];exact hz,λp hp=>(q1'.shift x2).newt w2 hp l2⟩
 .exact q1'.elim
def kF(h:FL X W es af):yR X W (.List es pos) (λρ S=>(af ρ S).bind bX):=by
 obtain⟨t,h,k⟩:=h;refine⟨_,Qd h,λα ρ S σ H Q wd sl q=>k α ρ S σ H _ wd sl (q.bind λvs rs S1 α1 H1 e1 x1 w1 d1 q1=>?_)⟩;have q1':Post X.g W α H (if rs.length<=sizeLine then R.ok (Er.new (zS rs S1).1) (zS rs S1).2 else R.no) Q:=q1;split at q1'
 .rename_i hz;obtain⟨α2,x2,y2,w2,l2⟩:=pF w1 x1 d1;exact⟨by rw[ArgsE.length d1];exact hz,λp hp=>(q1'.shift x2).newl w2 hp l2⟩
 .exact q1'.elim
inductive ArgsX(K:Zb)(α:Yd)(H:Hp):List Er->List V->Prop
 |nil:ArgsX K α H [] []
 |cons {r v rs vs}:DenX K α H r v->ArgsX K α H rs vs->ArgsX K α H (r::rs) (v::vs)
theorem ArgsE.x{K:Zb}{H0:Hp}{α:Yd}{H:Hp}: ∀{rs vs},ArgsE K H0 α H rs vs->ArgsX K α H rs vs
 |_,_,.nil=>.nil
 |_,_,.cons a _ l=>.cons a.1 (ArgsE.x l)
def iE(X:Cx)(W:XW)(r:List V->Hp->VK->Prop)(F:List Er->zC->R Er):Prop:= ∀rs vs α S H Q,Wd X.g α S H->ArgsX X.K α H rs vs->Post X.g W α H (F rs S) Q->r vs H Q
def yI{id:String}{r:List V->Hp->VK->Prop}{F:List Er->zC->R Er}{x:Str}{p:Pos}(hc:CallR X (.builtin id) r)(hF:iE X W r F)(hg:Gl X x)(hm:X.mg x=none)(hv:bootBuiltins x=some (.builtin id))(ha:FL X W (e::es) af)
  (hn:x≠"__name__":=by decide) (hdb:(x==("__debug__":Str))=false:=by decide)
  (he:starEach (e::es) X.env=(false,eval e X.env)::starEach es X.env:=by rfl) (hpl:(backTo pos (starEach es X.env)).any (·.1)=false:=by rfl):yR X W (.Call (.Name x p) (e::es) [] pos) (λρ S=>(af ρ S).bind F):=by
 obtain⟨t,ha,k⟩:=ha;exact⟨_,FC hc hg hm hv ha hn hdb he hpl,λα ρ S σ H Q wd sl q=>k α ρ S σ H _ wd sl (q.bind λvs rs S1 α1 H1 e1 x1 w1 d1 q1=>hF rs vs α1 S1 H1 Q w1 (ArgsE.x d1) (q1.shift x1))⟩
def wK{T:String}{r:List V->Hp->VK->Prop}{F:List Er->zC->R Er}{x:Str}{p:Pos}(hc:CallR X (.type T) r)(hF:iE X W r F)(hg:Gl X x)(hm:X.mg x=none)(hv:bootBuiltins x=some (.type T))(ha:FL X W (e::es) af)
  (hn:x≠"__name__":=by decide) (hdb:(x==("__debug__":Str))=false:=by decide)
  (he:starEach (e::es) X.env=(false,eval e X.env)::starEach es X.env:=by rfl) (hpl:(backTo pos (starEach es X.env)).any (·.1)=false:=by rfl):yR X W (.Call (.Name x p) (e::es) [] pos) (λρ S=>(af ρ S).bind F):=by
 obtain⟨t,ha,k⟩:=ha;exact⟨_,YY hc hg hm hv ha hn hdb he hpl,λα ρ S σ H Q wd sl q=>k α ρ S σ H _ wd sl (q.bind λvs rs S1 α1 H1 e1 x1 w1 d1 q1=>hF rs vs α1 S1 H1 Q w1 (ArgsE.x d1) (q1.shift x1))⟩
def OS(X:Cx)(W:XW)(r:V->List V->Hp->VK->Prop)(F:Er->List Er->zC->R Er):Prop:= ∀p rs x vs α S H0 H Q α0,Wd X.g α S H->Ext α0 H0 α H->DenX X.K α H p x->ArgsE X.K H0 α H rs vs->Post X.g W α0 H0 (F p rs S) Q->r x vs H Q
def TyM(X:Cx)(T:String)(ty:Er->zC->Bool):Prop:= ∀p x α S H,Wd X.g α S H->DenX X.K α H p x->ty p S=true->Xr X.K T x H
def LN{T:String}{name:Str}{id:String}{r:V->List V->Hp->VK->Prop}{F:Er->List Er->zC->R Er}{ty:Er->zC->Bool}{apos:Pos}(pa:PlainAttrs T)(slot:Slot T name id)(hty:typeOf (.builtin id)=pure (.type "method_descriptor"))(hm:Nv X id r)(hF:OS X W r F)(hT:TyM X T ty)
  (ho:yR X W a f) (ha:FL X W (e::es) af)
  (hbase:attributeBase a name X.env (eval a X.env)=eval a X.env:=by rfl)
  (hfew:((backTo pos (starEach (e::es) X.env)).all (λx=>!x.1)&&(backToKw pos (keywordEach [] X.env)).all (λx=>x.1.isSome)
   &&decide ((e::es).length+([]:List Keyword).length+(if([]:List Keyword).isEmpty then 0 else 1)<30))=true:=by rfl)
  (hline:(apos.endLine==pos.line)=true:=by rfl) (hs:starEach (e::es) X.env=(false,eval e X.env)::starEach es X.env:=by rfl) (hplain:(backTo pos (starEach es X.env)).any (·.1)=false:=by rfl):
  yR X W (.Call (.Attribute a name apos) (e::es) [] pos) (λρ S=>(f ρ S).bind λp S1=>if ty p S1=true then(af ρ S1).bind λrs S2=>F p rs S2 else .no):=by
 obtain⟨to,ho,fo⟩:=ho;obtain⟨t,ha,k⟩:=ha;refine⟨_,Vh pa slot hty hm ho ha hbase hfew hline hs hplain,λα ρ S σ H Q wd sl q=>fo α ρ S σ H _ wd sl (q.bind λu p S1 α1 H1 e1 x1 w1 d1 q1=>?_)⟩;split at q1
 .rename_i hz;exact⟨hT p u α1 S1 H1 w1 d1.1 hz,k α1 ρ S1 σ H1 _ w1 (sl.ext x1) ((q1.shift x1).bind λvs rs S2 α2 H2 e2 x2 w2 d2 q2=>hF p rs u vs α2 S2 H1 H2 Q α1 w2 x2 (d1.1.ext x2) d2 q2)⟩
 .exact q1.elim
def OT{T:String}{name:Str}{id:String}{r:V->List V->Hp->VK->Prop}{F:Er->List Er->zC->R Er}{ty:Er->zC->Bool}{apos:Pos}(pa:PlainAttrs T)(slot:Slot T name id)(hty:typeOf (.builtin id)=pure (.type "method_descriptor"))(hm:Nv X id r)(hF:OS X W r F)(hT:TyM X T ty)
  (ho:yR X W a f) (hbase:attributeBase a name X.env (eval a X.env)=eval a X.env:=by rfl) (hline:(apos.endLine==pos.line)=true:=by rfl):
  yR X W (.Call (.Attribute a name apos) [] [] pos) (λρ S=>(f ρ S).bind λp S1=>if ty p S1=true then F p [] S1 else .no):=by
 obtain⟨to,ho,fo⟩:=ho;refine⟨_,Qi pa slot hty hm ho hbase hline,λα ρ S σ H Q wd sl q=>fo α ρ S σ H _ wd sl (q.bind λu p S1 α1 H1 e1 x1 w1 d1 q1=>?_)⟩;split at q1
 .rename_i hz;exact⟨hT p u α1 S1 H1 w1 d1.1 hz,hF p [] u [] α1 S1 H1 H1 Q α1 w1 (Ext.refl _ _) d1.1 .nil (q1.shift x1)⟩
 .exact q1.elim
def kB:Uc X W none (λ_ S=>.ok none S):=⟨_,Ip,λα ρ S σ H Q wd sl q=>q.here wd rfl⟩
def JN:Er->zC->R (Option Int)
 |.val (.int i),S=>.ok (some i) S
 |_,_=>.no
def kC(ha:yR X W a f):Uc X W (some a) (λρ S=>(f ρ S).bind JN):=by
 obtain⟨ta,ha,fa⟩:=ha;refine⟨_,Iq ha,λα ρ S σ H Q wd sl q=>fa α ρ S σ H _ wd sl (q.bind λu p S1 α1 H1 e1 x1 w1 d1 q1=>?_)⟩;unfold JN at q1;split at q1
 .exact⟨_,xO d1.1,(q1.shift x1).here w1 rfl⟩
 .exact q1.elim
def Sl3(X:Cx)(W:XW)(r:V->Option Int->Option Int->Hp->VK->Prop)(F:Er->Option Int->Option Int->zC->R Er):Prop:= ∀p lo hi x α S H Q,Wd X.g α S H->DenX X.K α H p x->Post X.g W α H (F p lo hi S) Q->r x lo hi H Q
def Cj{lo hi:Option Expr}{r:V->Option Int->Option Int->Hp->VK->Prop}{F:Er->Option Int->Option Int->zC->R Er}{lf hf:zK->zC->R (Option Int)}{p2:Pos}(hr:SlR X r)(hF:Sl3 X W r F)(ha:yR X W a f)(hl:Uc X W lo lf)(hh:Uc X W hi hf):
  yR X W (.Subscript a (.Slice lo hi none p2) pos) (λρ S=>(f ρ S).bind λp S1=>(lf ρ S1).bind λl S2=>(hf ρ S2).bind λu S3=>F p l u S3):=by
 obtain⟨ta,ha,fa⟩:=ha;obtain⟨tl,hl,fl⟩:=hl;obtain⟨th,hh,fh⟩:=hh
 refine⟨_,Bs hr ha hl hh,λα ρ S σ H Q wd sl q=>fa α ρ S σ H _ wd sl (q.bind λu p S1 α1 H1 e1 x1 w1 d1 q1=>fl α1 ρ S1 σ H1 _ w1 (sl.ext x1) ((q1.shift x1).bind λu2 l S2 α2 H2 e2 x2 w2 d2 q2=>
  fh α2 ρ S2 σ H2 _ w2 ((sl.ext x1).ext x2) ((q2.shift x2).bind λu3 m S3 α3 H3 e3 x3 w3 d3 q3=>?_)))⟩
 cases d2;cases d3;exact hF p u2 u3 u α3 S3 H3 Q w3 ((d1.1.ext x2).ext x3) (q3.shift x3)
end
inductive Fl where
 |next (ρ:zK)|ret (r:Er)|brk (ρ:zK)|cont (ρ:zK)
def PostS(g:Gm)(W:XW)(α:Yd)(H:Hp)(D:Ends):R Fl->Prop
 |.ok (.next ρ) S=> ∀σ α' H',Ext α H α' H'->Wd g α' S H'->Slots g.K α' H' ρ σ->D.nx σ H'
 |.ok (.ret r) S=> ∀v α' H',Ext α H α' H'->Wd g α' S H'->DenE g.K H α' H' r v->D.rt v H'
 |.ok (.brk ρ) S=> ∀σ α' H',Ext α H α' H'->Wd g α' S H'->Slots g.K α' H' ρ σ->D.bk σ H'
 |.ok (.cont ρ) S=> ∀σ α' H',Ext α H α' H'->Wd g α' S H'->Slots g.K α' H' ρ σ->D.ct σ H'
 |.exc c fs S=> ∀α' H',Ext α H α' H'->Wd g α' S H'->W c fs S α' H'
 |.no=>False
section
variable{g:Gm}{W:XW}{α α':Yd}{H H':Hp}{D D':Ends}
def PostS.shift(x:Ext α H α' H'): ∀{m:R Fl},PostS g W α H D m->PostS g W α' H' D m
 |.ok (.next ρ) S,q=>λσ α2 H2 x2 w2 s2=>q σ α2 H2 (x.trans x2) w2 s2
 |.ok (.ret r) S,q=>λv α2 H2 x2 w2 d2=>q v α2 H2 (x.trans x2) w2 (d2.back λb h=>x.free h)
 |.ok (.brk ρ) S,q=>λσ α2 H2 x2 w2 s2=>q σ α2 H2 (x.trans x2) w2 s2
 |.ok (.cont ρ) S,q=>λσ α2 H2 x2 w2 s2=>q σ α2 H2 (x.trans x2) w2 s2
 |.exc c fs S,q=>λα2 H2 x2 w2=>q α2 H2 (x.trans x2) w2
 |.no,q=>q
def PostS.expr{β τ:Type}[Dn β τ]{m:R β}{k:β->zC->R Fl}{Q':τ->Hp->Prop}(q:PostS g W α H D (m.bind k))
  (f: ∀u b S1 α1 H1,m=.ok b S1->Ext α H α1 H1->Wd g α1 S1 H1->Dn.d g H α1 S1 H1 b u->PostS g W α H D (k b S1)->Q' u H1):Post g W α H m Q':=by
 cases m with
 |ok b S=>exact λu α1 H1 x w d=>f u b S α1 H1 rfl x w d q
 |exc c fs S=>exact q
 |no=>exact q
def PostS.stmt{m:R Fl}{k:Fl->zC->R Fl}(q:PostS g W α H D (m.bind k))
  (hn: ∀ρ S σ α1 H1,m=.ok (.next ρ) S->Ext α H α1 H1->Wd g α1 S H1->Slots g.K α1 H1 ρ σ->PostS g W α H D (k (.next ρ) S)->D'.nx σ H1)
  (hr: ∀r S v α1 H1,m=.ok (.ret r) S->Ext α H α1 H1->Wd g α1 S H1->DenE g.K H α1 H1 r v->PostS g W α H D (k (.ret r) S)->D'.rt v H1)
  (hb: ∀ρ S σ α1 H1,m=.ok (.brk ρ) S->Ext α H α1 H1->Wd g α1 S H1->Slots g.K α1 H1 ρ σ->PostS g W α H D (k (.brk ρ) S)->D'.bk σ H1)
  (hc: ∀ρ S σ α1 H1,m=.ok (.cont ρ) S->Ext α H α1 H1->Wd g α1 S H1->Slots g.K α1 H1 ρ σ->PostS g W α H D (k (.cont ρ) S)->D'.ct σ H1):PostS g W α H D' m:=by
 cases m with
 |ok fl S=>
  cases fl with
  |next ρ=>exact λσ α1 H1 x w s=>hn ρ S σ α1 H1 rfl x w s q
  |ret r=>exact λv α1 H1 x w d=>hr r S v α1 H1 rfl x w d q
  |brk ρ=>exact λσ α1 H1 x w s=>hb ρ S σ α1 H1 rfl x w s q
  |cont ρ=>exact λσ α1 H1 x w s=>hc ρ S σ α1 H1 rfl x w s q
 |exc c fs S=>exact q
 |no=>exact q
end
def ZK(X:Cx)(W:XW)(st:Stmt)(F:zK->zC->R Fl):Prop:=
 ∃t,PS X st t/\ ∀α ρ S σ H D,Wd X.g α S H->Slots X.K α H ρ σ->PostS X.g W α H D (F ρ S)->t D σ H
def vI(X:Cx)(W:XW)(st:List Stmt)(F:zK->zC->R Fl):Prop:=
 ∃t,PSs X st t/\ ∀α ρ S σ H D,Wd X.g α S H->Slots X.K α H ρ σ->PostS X.g W α H D (F ρ S)->t D σ H
def zQ(F G:zK->zC->R Fl):zK->zC->R Fl:=λρ S=>(F ρ S).bind λfl S1=>match fl with
 |.next ρ'=>G ρ' S1
 |.ret r=>.ok (.ret r) S1
 |.brk ρ'=>.ok (.brk ρ') S1
 |.cont ρ'=>.ok (.cont ρ') S1
section
variable{X:Cx}{W:XW}{st:Stmt}{sts as bs:List Stmt}{F G:zK->zC->R Fl}{f g:zK->zC->R Er}{tf:zK->zC->R Bool}{e c:Expr}{pos:Pos}
def xF:vI X W [] (λρ S=>.ok (.next ρ) S):=⟨_,Ic,λα ρ S σ H D wd sl q=>q σ α H (Ext.refl α H) wd sl⟩
def zM(h:ZK X W st F):vI X W [st] F:=let ⟨t,h,k⟩:=h;⟨t,Id h,k⟩
def zG(h1:ZK X W st F)(h2:vI X W sts G):vI X W (st::sts) (zQ F G):=by
 obtain⟨t,h1,k1⟩:=h1;obtain⟨u,h2,k2⟩:=h2;refine⟨_,Bj h1 h2,λα ρ S σ H D wd sl q=>k1 α ρ S σ H _ wd sl (q.stmt ?_ ?_ ?_ ?_)⟩
 .intro ρ1 S1 σ1 α1 H1 e x1 w1 s1 q1;exact k2 α1 ρ1 S1 σ1 H1 D w1 s1 (PostS.shift x1 q1)
 .intro r S1 v α1 H1 e x1 w1 d1 q1;exact q1 v α1 H1 x1 w1 d1
 .intro ρ1 S1 σ1 α1 H1 e x1 w1 s1 q1;exact q1 σ1 α1 H1 x1 w1 s1
 .intro ρ1 S1 σ1 α1 H1 e x1 w1 s1 q1;exact q1 σ1 α1 H1 x1 w1 s1
def yM(he:yR X W e f):ZK X W (.Return (some e) pos) (λρ S=>(f ρ S).bind λr S1=>.ok (.ret r) S1):=by obtain⟨t,he,k⟩:=he;exact⟨_,Pg he,λα ρ S σ H D wd sl q=>k α ρ S σ H _ wd sl (q.expr λu r S1 α1 H1 e x1 w1 d1 q1=>q1 u α1 H1 x1 w1 d1)⟩
def kQ(he:yR X W e f)(hs:swapsWith e none pos.line X.env=pure false:=by rfl):ZK X W (.Expr e pos) (λρ S=>(f ρ S).bind λ_ S1=>.ok (.next ρ) S1):=by obtain⟨t,he,k⟩:=he;exact⟨_,Ie he hs,λα ρ S σ H D wd sl q=>k α ρ S σ H _ wd sl (q.expr λu r S1 α1 H1 e x1 w1 d1 q1=>q1 σ α1 H1 x1 w1 (sl.ext x1))⟩
def kO(hc:RT X W c tf)(ha:vI X W as F)(hb:vI X W bs G):ZK X W (.If c as bs pos) (λρ S=>(tf ρ S).bind λk S1=>if k=true then F ρ S1 else G ρ S1):=by
 obtain⟨tc,hc,kc⟩:=hc;obtain⟨ta,ha,ka⟩:=ha;obtain⟨tb,hb,kb⟩:=hb;refine⟨_,Um hc ha hb,λα ρ S σ H D wd sl q=>kc α ρ S σ H _ wd sl (q.expr λu p S1 α1 H1 e x1 w1 d1 q1=>?_)⟩;cases d1
 cases u with
 |true=>rw[iP rfl]at q1 ⊢; exact ka α1 ρ S1 σ H1 D w1 (sl.ext x1) (PostS.shift x1 q1)
 |false=>rw[iN0 xF0]at q1 ⊢; exact kb α1 ρ S1 σ H1 D w1 (sl.ext x1) (PostS.shift x1 q1)
instance:Dn zK St:=⟨λg _ α' _ H' ρ σ=>Slots g.K α' H' ρ σ,λ_ q=>q⟩
def Qu(X:Cx)(W:XW)(tg:Expr)(gf:MV->zK->zC->R zK):Prop:=
 ∃t,PG X tg t/\ ∀α ρ S σ H d v Q,Wd X.g α S H->Slots X.K α H ρ σ->Den X.K α H d v->Post X.g W α H (gf d ρ S) Q->t v σ H Q
def Jl(X:Cx)(W:XW)(tgs:Za)(gf:List MV->zK->zC->R zK):Prop:=
 ∃t,Uo X tgs t/\ ∀α ρ S σ H ds vs Q,Wd X.g α S H->Slots X.K α H ρ σ->DenL X.K α H ds vs->Post X.g W α H (gf ds ρ S) Q->t vs σ H Q
def xR(i:Nat):MV->zK->zC->R zK:=λd ρ S=>.ok (ρ.set i (some d)) S
def yF(i:Nat){x:Str}(hN:X.N.Nodup)(hi:X.N[i]? =some x:=by rfl)(hx:Loc X.env.scope x:=by first |exact Or.inl rfl|exact Or.inr rfl)(hf:X.fn x=true\/X.env.scope.names.lookup x=some .local:=by first |exact .inl rfl|exact .inr rfl|assumption):
  Qu X W (.Name x pos) (xR i):=⟨_,VA hN hi hx hf,λα ρ S σ H d v Q wd sl de q=>Post.here (b:=ρ.set i (some d)) q wd (sl.set de)⟩
def uK:List MV->zK->zC->R zK
 |[],ρ,S=>.ok ρ S
 |_,_,_=>.no
def kR(g1:MV->zK->zC->R zK)(g2:List MV->zK->zC->R zK):List MV->zK->zC->R zK
 |d::ds,ρ,S=>(g1 d ρ S).bind λρ1 S1=>g2 ds ρ1 S1
 |_,_,_=>.no
def BD:Jl X W [] uK:=⟨_,Ig,λα ρ S σ H ds vs Q wd sl de q=>by
 cases ds with
 |nil=>exact⟨de.isnil,Post.here (b:=ρ) q wd sl⟩
 |cons d ds=>exact q.elim⟩
def bD{es:Za}{g1:MV->zK->zC->R zK}{g2:List MV->zK->zC->R zK}(h1:Qu X W e g1)(h2:Jl X W es g2)(hs:(assignEach (e::es) X.env).map (·.2)=assign e X.env::(assignEach es X.env).map (·.2):=by rfl):Jl X W (e::es) (kR g1 g2):=by
 obtain⟨t1,h1,k1⟩:=h1;obtain⟨t2,h2,k2⟩:=h2;refine⟨_,Bl h1 h2 hs,λα ρ S σ H ds vs Q wd sl de q=>?_⟩
 cases ds with
 |nil=>exact q.elim
 |cons d ds=>
  obtain⟨v,r,rfl,a,l⟩:=de.uncons;refine⟨v,r,rfl,k1 α ρ S σ H d v _ wd sl a (Post.bind q λu p S1 α1 H1 e x1 w1 d1 q1=>k2 α1 p S1 u H1 ds r Q w1 d1 (l.ext x1) (q1.shift x1))⟩
def Ck(n:Nat)(g2:List MV->zK->zC->R zK):MV->zK->zC->R zK
 |.tup ds,ρ,S=>if ds.length=n then g2 ds ρ S else .no
 |_,_,_=>.no
def BE{es:Za}{k n:Nat}{g2:List MV->zK->zC->R zK}(hc:X.calm=true)(h:Jl X W es g2)
  (hn:(assignEach es X.env).length=n:=by rfl) (hst:(assignEach es X.env).findIdx? (·.1)=none:=by rfl):Qu X W (.Tuple es k pos) (Ck n g2):=by
 obtain⟨t,h,k⟩:=h;refine⟨_,Pj hc h hn hst,λα ρ S σ H d v Q wd sl de q=>?_⟩;unfold Ck at q;split at q
 .split at q
  .rename_i hl;obtain⟨a,vs,rfl,s,l⟩:=wG de;exact⟨a,vs,rfl,s,by rw[l.length];exact hl,k α ρ S σ H _ vs Q wd sl l q⟩
  .exact q.elim
 .exact q.elim
def eE(r:Er)(S:zC):R MV:=match r with
 |.val d=>.ok d S
 |.new ds=>.ok (.loc S.length) (S++[.lst ds])
def pG{g:Gm}{H0:Hp}{α0 α:Yd}{H:Hp}{S:zC}{r:Er}{v:V}(w:Wd g α S H)(x:Ext α0 H0 α H)(d:DenE g.K H0 α H r v):
  ∃d' S' α',eE r S=.ok d' S'/\Ext α0 H0 α' H/\Ex0 α H α' H/\Wd g α' S' H/\Den g.K α' H d' v:=by
 cases r with
 |val d'=>exact⟨d',S,α,rfl,x,⟨⟨[],by simp⟩,λ_ _ h=>h,λ_ _ _ h=>h⟩,w,d.1⟩
 |new ds=>
  obtain⟨⟨c,us,rfl,h1,h2,h3⟩,h4⟩:=d;exact⟨.loc S.length,S++[.lst ds],α++[c],rfl,w.enterx x (h4 c rfl) h2,Ex0.grow α [c] H,w.enter h1 h2 h3,qD (by rw[<-w.len,getElem?_append_right (le_refl _),sub_self];rfl)⟩
def LO(ρ:zK)(i:Nat)(r:Er)(S:zC):R Fl:=(eE r S).bind λd S1=>.ok (.next (ρ.set i (some d))) S1
def zN(i:Nat){x:Str}{pos':Pos}(hN:X.N.Nodup)(he:yR X W e f)(hi:X.N[i]? =some x:=by rfl)(hx:Loc X.env.scope x:=by first |exact Or.inl rfl|exact Or.inr rfl)
  (hs:swapsWith e (some (.Name x pos')) pos.line X.env=pure false:=by rfl) (hf:X.fn x=true\/X.env.scope.names.lookup x=some .local:=by first |exact .inl rfl|exact .inr rfl|assumption):
  ZK X W (.Assign [.Name x pos'] e pos) (λρ S=>(f ρ S).bind (LO ρ i)):=by
 obtain⟨t,he,k⟩:=he;refine⟨_,Pm hN hi hx he hs hf,λα ρ S σ H D wd sl q=>k α ρ S σ H _ wd sl (q.expr λu r S1 α1 H1 e x1 w1 d1 q1=>?_)⟩;obtain⟨d',S',α',e1,x',y',w',de⟩:=pG w1 x1 d1;unfold LO at q1;rw[e1]at q1;exact q1 _ α' H1 x' w' (((sl.ext x1).ex0 y').set de)
def Jm(gf:MV->zK->zC->R zK)(ρ:zK)(r:Er)(S:zC):R Fl:=(eE r S).bind λd S1=>(gf d ρ S1).bind λρ' S2=>.ok (.next ρ') S2
def sG{tg:Expr}{gf:MV->zK->zC->R zK}(he:yR X W e f)(hg:Qu X W tg gf)(hs:swapsWithSole [tg] e pos.line X.env=pure false:=by rfl)(hw:swappedStores [tg] e X.env=pure none:=by rfl)
  (h1:(assignEach [tg] X.env).map (·.2)=[assign tg X.env]:=by rfl):ZK X W (.Assign [tg] e pos) (λρ S=>(f ρ S).bind (Jm gf ρ)):=by
 obtain⟨t,he,k⟩:=he;obtain⟨tg',hg,kg⟩:=hg;refine⟨_,Pl he hg hs hw h1,λα ρ S σ H D wd sl q=>k α ρ S σ H _ wd sl (q.expr λu r S1 α1 H1 e x1 w1 d1 q1=>?_)⟩;obtain⟨d',S',α',e1,x',y',w',de⟩:=pG w1 x1 d1;unfold Jm at q1;rw[e1]at q1;have q1:PostS X.g W α H D ((gf d' ρ S').bind λρ' S2=>.ok (.next ρ') S2):=q1;exact kg α' ρ S' σ H1 d' u _ w' ((sl.ext x1).ex0 y') de ((PostS.shift x' q1).expr λσ2 ρ2 S2 α2 H2 e2 x2 w2 s2 q2=>q2 σ2 α2 H2 x2 w2 s2)
structure Wk where
 ds:List MV
 gs:List (Nat×List MV)
def stay(gs:Zh)(S:zC):Prop:= ∀p∈gs,S[p.1]? =some (.lst p.2)
def We(g:Gm)(J:It)(P:List Addr->zC->Hp->Prop)(ds:Zd):Prop:= ∀i α S H,P α S H->Wd g α S H->(i<ds.length->J.go i H/\ ∀x H',J.yld i H x H'->Ext α H α H'/\Wd g α S H'/\P α S H'/\ ∃d,ds[i]? =some d/\Den g.K α H' d x)/\(ds.length<=i->J.stop i H)
structure WkD(g:Gm)(α:Yd)(S:zC)(H:Hp)(k:Wk)(J:It)(P:List Addr->zC->Hp->Prop):Prop where
 it:We g J P k.ds
 here:P α S H
 stays: ∀α1 S1 H1 α2 S2 H2,P α1 S1 H1->Ext α1 H1 α2 H2->Wd g α2 S2 H2->stay k.gs S2->P α2 S2 H2
 st:stay k.gs S
instance:Dn Wk It:=⟨λg _ α S H k J=> ∃P,WkD g α S H k J P,λ_ q=>q⟩
abbrev Jn(X:Cx)(W:XW)(tg iter:Expr)(f:zK->zC->R Wk):Prop:=Jd X W (PI X tg iter) f
variable{tg iter:Expr}
def vK{a:Addr}{ds:Zd}:We X.g (Pq X.K a) (λα S H=> ∃vs,SqL X.K H a vs/\DenL X.K α H ds vs) ds:=by
 intro i α S H ⟨vs,s,l⟩ w;have hl:=l.length;refine⟨λhi=>?_,λhi=>⟨vs,s,by omega⟩⟩;have hv:i<vs.length:=by omega
 refine⟨⟨vs,vs[i],s,gE hv⟩,λx H' y=>?_⟩;obtain⟨rfl,y⟩:=y;obtain⟨d,h1,h2⟩:=l.get (y vs s);exact⟨Ext.refl _ _,w,⟨vs,s,l⟩,d,h1,h2⟩
def VJ{a:Addr}{ds:Zd}:We X.g (Ur X.K a) (λα S H=> ∃vs,SqT X.K H a vs/\DenL X.K α H ds vs) ds:=by
 intro i α S H ⟨vs,s,l⟩ w;have hl:=l.length;refine⟨λhi=>?_,λhi=>⟨vs,s,by omega⟩⟩;have hv:i<vs.length:=by omega
 refine⟨⟨vs,vs[i],s,gE hv⟩,λx H' y=>?_⟩;obtain⟨rfl,y⟩:=y;obtain⟨d,h1,h2⟩:=l.get (y vs s);exact⟨Ext.refl _ _,w,⟨vs,s,l⟩,d,h1,h2⟩
def Jo{x:Db}:We X.g (Vk x) (λ_ _ _=>True) (x.map λc=>.str [c]):=by intro i α S H _ w;refine⟨λhi=>⟨show i<x.length by simpa using hi,λv H' y=>?_⟩,λhi=>by show x.length<=i;simpa using hi⟩;obtain⟨rfl,c,h1,h2⟩:=y;refine⟨Ext.refl _ _,w,trivial,.str [c],by rw[getElem?_map,h1];rfl,?_⟩;rw[h2];exact aG [c]
def ZL{lo:Int}{n:Nat}:We X.g (Ii lo n) (λ_ _ _=>True) ((List.range n).map λk=>.int (lo+(k:Nat))):=by
 intro i α S H _ w;refine⟨λhi=>⟨show i<n by simpa using hi,λv H' y=>?_⟩,λhi=>by show n<=i;simpa using hi⟩;obtain⟨rfl,y⟩:=y;have hi':i<n:=by simpa using hi
 refine⟨Ext.refl _ _,w,trivial,.int (lo+i),by rw[getElem?_map,List.getElem?_range hi'];rfl,?_⟩;rw[y];exact xB _
def HW:Er->zC->R Wk
 |.new ds,S=>.ok ⟨ds,[]⟩ S
 |.val (.scr ds),S=>.ok ⟨ds,[]⟩ S
 |.val (.loc l),S=>match S[l]? with
  |some (.lst ds)=>.ok ⟨ds,[(l,ds)]⟩ S
  |_=>.no
 |_,_=>.no
def bY{S:zC}:stay [] S:=λp h=>by simp at h
def jI(he:yR X W iter f):Jn X W tg iter (λρ S=>(f ρ S).bind HW):=by
 obtain⟨t,he,k⟩:=he;refine⟨_,Ij he,λα ρ S σ H Rc wd sl q=>k α ρ S σ H _ wd sl (q.bind λu p S1 α1 H1 e x1 w1 d1 q1=>?_)⟩
 replace q1:=q1.shift x1
 unfold HW at q1;split at q1
 .rename_i S0 ds;obtain⟨⟨b,vs,rfl,h1,h2,h3⟩,h4⟩:=d1;refine⟨b,rfl,⟨vs,.of h1⟩,q1.here (u:=Pq X.K b) w1 ⟨λα2 S2 H2=> ∃vs,SqL X.K H2 b vs/\DenL X.K α2 H2 ds vs/\H2 b=some (.lst vs)/\b∉α2,?_,⟨vs,.of h1,h3,h1,h2⟩,?_,bY⟩⟩
  .intro i α2 S2 H2 ⟨vs2,a1,a2,a3,a4⟩ w2;obtain⟨i1,i2⟩:=vK (X:=X) (a:=b) (ds:=ds) i α2 S2 H2 ⟨vs2,a1,a2⟩ w2;refine⟨λhi=>⟨(i1 hi).1,λx H' y=>?_⟩,i2⟩;obtain⟨j1,j2,j3,j4⟩:=(i1 hi).2 x H' y;obtain⟨rfl,_⟩:=y;exact⟨j1,j2,⟨vs2,a1,a2,a3,a4⟩,j4⟩
  .intro α2 S2 H2 α3 S3 H3 ⟨vs2,a1,a2,a3,a4⟩ x w3 _;exact⟨vs2,.of (x.keep b _ a3 a4),a2.ext x,x.keep b _ a3 a4,x.out a3 a4⟩
 .rename_i S0 ds;obtain⟨a,vs,rfl,s,l⟩:=FK d1.1;refine⟨a,rfl,⟨vs,s.l⟩,q1.here (u:=Pq X.K a) w1 ⟨λα2 S2 H2=> ∃vs,SqL X.K H2 a vs/\DenL X.K α2 H2 ds vs/\SqF X.K H2 a vs,?_,⟨vs,s.l,l,s⟩,?_,bY⟩⟩
  .intro i α2 S2 H2 ⟨vs2,a1,a2,a3⟩ w2;obtain⟨i1,i2⟩:=vK (X:=X) (a:=a) (ds:=ds) i α2 S2 H2 ⟨vs2,a1,a2⟩ w2;refine⟨λhi=>⟨(i1 hi).1,λx H' y=>?_⟩,i2⟩;obtain⟨j1,j2,j3,j4⟩:=(i1 hi).2 x H' y;obtain⟨rfl,_⟩:=y;exact⟨j1,j2,⟨vs2,a1,a2,a3⟩,j4⟩
  .intro α2 S2 H2 α3 S3 H3 ⟨vs2,a1,a2,a3⟩ x w3 _;exact⟨vs2,(x.sqF a3).l,a2.ext x,x.sqF a3⟩
 .rename_i S0 n;obtain⟨a,rfl,h⟩:=eB d1.1;obtain⟨o,h1,h2⟩:=w1.of h;rw[h1]at q1
  cases o with
  |lst ds=>
   obtain⟨vs,h3,l⟩:=h2;refine⟨a,rfl,⟨vs,.of h3⟩,Post.here (b:=(⟨ds,[(n,ds)]⟩:Wk)) q1 (u:=Pq X.K a) w1 ⟨λα2 S2 H2=> ∃vs,SqL X.K H2 a vs/\DenL X.K α2 H2 ds vs/\α2[n]? =some a,?_,⟨vs,.of h3,l,h⟩,?_,?_⟩⟩
   .intro i α2 S2 H2 ⟨vs2,a1,a2,a3⟩ w2;obtain⟨i1,i2⟩:=vK (X:=X) (a:=a) (ds:=ds) i α2 S2 H2 ⟨vs2,a1,a2⟩ w2;refine⟨λhi=>⟨(i1 hi).1,λx H' y=>?_⟩,i2⟩;obtain⟨j1,j2,j3,j4⟩:=(i1 hi).2 x H' y;obtain⟨rfl,_⟩:=y;exact⟨j1,j2,⟨vs2,a1,a2,a3⟩,j4⟩
   .intro α2 S2 H2 α3 S3 H3 ⟨vs2,a1,a2,a3⟩ x w3 hs;have a3':=x.at a3;have:=w3.obj n a _ a3' (hs (n,ds) (by simp));obtain⟨vs3,b1,b2⟩:=this;exact⟨vs3,.of b1,b2,a3'⟩
   .intro p hp;have:p=(n,ds):=by simpa using hp
    subst this;exact h1
  |dic ds=>exact q1.elim
  |ins c fs=>exact q1.elim
 .exact q1.elim
def Jp:Er->zC->R Wk
 |.val (.tup ds),S=>.ok ⟨ds,[]⟩ S
 |_,_=>.no
def FN(he:yR X W iter f):Jn X W tg iter (λρ S=>(f ρ S).bind Jp):=by
 obtain⟨t,he,k⟩:=he;refine⟨_,Ps he,λα ρ S σ H Rc wd sl q=>k α ρ S σ H _ wd sl (q.bind λu p S1 α1 H1 e x1 w1 d1 q1=>?_)⟩
 replace q1:=q1.shift x1
 unfold Jp at q1;split at q1
 .rename_i S0 ds;obtain⟨a,vs,rfl,s,l⟩:=eA d1.1;exact⟨a,rfl,⟨vs,s⟩,q1.here (u:=Ur X.K a) w1 ⟨_,VJ,⟨vs,s,l⟩,λα2 S2 H2 α3 S3 H3 ⟨vs2,a1,a2⟩ x w3 _=>⟨vs2,x.sqT a1,a2.ext x⟩,bY⟩⟩
 .exact q1.elim
def itS:Er->zC->R Wk
 |.val (.str x),S=>.ok ⟨x.map λc=>.str [c],[]⟩ S
 |_,_=>.no
def Qv(he:yR X W iter f):Jn X W tg iter (λρ S=>(f ρ S).bind itS):=by
 obtain⟨t,he,k⟩:=he;refine⟨_,Qn he,λα ρ S σ H Rc wd sl q=>k α ρ S σ H _ wd sl (q.bind λu p S1 α1 H1 e x1 w1 d1 q1=>?_)⟩
 replace q1:=q1.shift x1
 unfold itS at q1;split at q1
 .rename_i S0 x;exact⟨x,bW d1.1,q1.here (u:=Vk x) w1 ⟨_,Jo,trivial,λ_ _ _ _ _ _ _ _ _ _=>trivial,bY⟩⟩
 .exact q1.elim
def kA:List Er->zC->R Wk
 |[.val (.int j)],S=>if -(2 ^ 62)<=j/\j<2 ^ 62 then .ok ⟨(List.range j.toNat).map λk=>.int (k:Nat),[]⟩ S else .no
 |_,_=>.no
variable{af:zK->zC->R (List Er)}{p:Pos}{a b:Expr}
def VL{K:Zb}{H0:Hp}{α:Yd}{H:Hp}{r:Er}{vs:List V}(d:ArgsE K H0 α H [r] vs): ∃v,vs=[v]/\DenX K α H r v:=by
 cases d with
 |cons a n l=>cases l;exact⟨_,rfl,a.1⟩
def Wf{K:Zb}{H0:Hp}{α:Yd}{H:Hp}{r r':Er}{vs:List V}(d:ArgsE K H0 α H [r,r'] vs): ∃v u,vs=[v,u]/\DenX K α H r v/\DenX K α H r' u:=by
 cases d with
 |cons a n l=>obtain⟨u,rfl,l'⟩:=VL l;exact⟨_,u,rfl,a.1,l'⟩
def JO{C:Cx->Prop}(ht: ∀(it:Addr)(n:Nat),TurnC C X.prog X.w X.K tg (Ii 0 n) [it] it (λi h=>IsRangeIter h it (0+(i:Nat) * 1) ((n:Int) - (i:Nat)) 1))(hg:Gl X "range")(hm:X.mg "range"=none)(ha:FL X W [a] af)(hs:starEach [a] X.env=[(false,eval a X.env)]):Jd X W (Ih C X tg (.Call (.Name "range" p) [a] [] pos)) (λρ S=>(af ρ S).bind kA):=by
 obtain⟨t,ha,k⟩:=ha;refine⟨_,YT ht hg hm ha hs,λα ρ S σ H Rc wd sl q=>k α ρ S σ H _ wd sl (q.bind λvs rs S1 α1 H1 e x1 w1 d1 q1=>?_)⟩
 replace q1:=q1.shift x1
 unfold kA at q1;split at q1
 .split at q1
  .rename_i S0 j hj;obtain⟨v,rfl,dv⟩:=VL d1;cases xO dv;have:=ZL (X:=X) (lo:=0) (n:=j.toNat);simp only[Int.zero_add]at this;exact⟨j,rfl,hj.1,hj.2,q1.here (u:=Ii 0 j.toNat) w1 ⟨_,this,trivial,λ_ _ _ _ _ _ _ _ _ _=>trivial,bY⟩⟩
  .exact q1.elim
 .exact q1.elim
def yT(hg:Gl X "range")(hm:X.mg "range"=none)(ha:FL X W [a] af)(hs:starEach [a] X.env=[(false,eval a X.env)]:=by rfl):Jn X W tg (.Call (.Name "range" p) [a] [] pos) (λρ S=>(af ρ S).bind kA):=JO (λit n=>EY it 0 n) hg hm ha hs
open Classical in
def jC(gf:MV->zK->zC->R zK)(body:zK->zC->R Fl)(gs:Zh):List MV->zK->zC->R Fl
 |[],ρ,S=>.ok (.next ρ) S
 |d::ds,ρ,S=>(gf d ρ S).bind λρ0 S0=>(body ρ0 S0).bind λfl S1=>match fl with
  |.next ρ'=>if stay gs S1 then jC gf body gs ds ρ' S1 else .no
  |.cont ρ'=>if stay gs S1 then jC gf body gs ds ρ' S1 else .no
  |.brk ρ'=>.ok (.next ρ') S1
  |.ret r=>.ok (.ret r) S1
open Classical in
def wH{itf:zK->zC->R Wk}{gf:MV->zK->zC->R zK}(hp:PassesOwn (model X.prog X.w) X.A X.env X.xe)(hc:X.calm=true)(hi:Jn X W tg iter itf)(hg:Qu X W tg gf)(hb:vI X W as F)
  (hs: ∀y,foldedSetIterable iter X.env y=pure y:=by intro _;rfl):ZK X W (.For tg iter as [] pos) (λρ S=>(itf ρ S).bind λk S1=>jC gf F k.gs k.ds ρ S1):=by
 obtain⟨wi,hi,ki⟩:=hi;obtain⟨tg',hg,kg⟩:=hg;obtain⟨tb,hb,kb⟩:=hb;refine⟨_,Pt hp hc hi hg hb hs,λα ρ S σ H D wd sl q=>ki α ρ S σ H _ wd sl (q.expr λJ k S1 α1 H1 e x1 w1 d1 q1=>?_)⟩;obtain⟨P,hP⟩:=d1;have sl1:=sl.ext x1
 replace q1:=PostS.shift x1 q1
 refine⟨λn m σ2 H2=>m=k.ds.length - n/\n<=k.ds.length/\ ∃α2 ρ2 S2,Wd X.g α2 S2 H2/\Slots X.K α2 H2 ρ2 σ2/\P α2 S2 H2/\PostS X.g W α2 H2 D (jC gf F k.gs (k.ds.drop n) ρ2 S2),⟨_,rfl,zero_le _,α1,ρ,S1,w1,sl1,hP.here,by simpa using q1⟩,?_⟩;rintro n m σ2 H2 ⟨rfl,hn,α2,ρ2,S2,w2,sl2,p2,q2⟩;obtain⟨i1,i2⟩:=hP.it n α2 S2 H2 p2 w2;by_cases hlt:n<k.ds.length
 .obtain⟨go,yl⟩:=i1 hlt;refine .inr ⟨go,λσ3 H3=> ∃α3 ρ3 S3,Wd X.g α3 S3 H3/\Slots X.K α3 H3 ρ3 σ3/\P α3 S3 H3/\PostS X.g W α3 H3 D (jC gf F k.gs (k.ds.drop (n+1)) ρ3 S3),λσ3 H3 ⟨α3,ρ3,S3,h3⟩=>⟨k.ds.length - (n+1),by omega,rfl,hlt,α3,ρ3,S3,h3⟩,λv H3 y=>?_⟩;obtain⟨x3,w3,p3,d,hd,dv⟩:=yl v H3 y;have hdrop:k.ds.drop n=d::k.ds.drop (n+1):=by rw[List.drop_eq_getElem_cons hlt];have:=gE hlt;rw[hd]at this;rw[<-Option.some.inj this]
  rw[hdrop]at q2;unfold jC at q2
  replace q2:=PostS.shift x3 q2
  refine kg α2 ρ2 S2 σ2 H3 d v _ w3 (sl2.ext x3) dv (q2.expr λσ4 ρ4 S4 α4 H4 e4 x4 w4 s4 q4=>?_);have p4: ∀α5 S5 H5,Ext α4 H4 α5 H5->Wd X.g α5 S5 H5->stay k.gs S5->P α5 S5 H5:=λα5 S5 H5 x5 w5 s5=>hP.stays α2 S2 H3 α5 S5 H5 p3 (x4.trans x5) w5 s5;refine kb α4 ρ4 S4 σ4 H4 _ w4 s4 ((PostS.shift x4 q4).stmt ?_ ?_ ?_ ?_)
  .intro ρ5 S5 σ5 α5 H5 e5 x5 w5 s5 q5;have q5':PostS X.g W α4 H4 D (if stay k.gs S5 then jC gf F k.gs (k.ds.drop (n+1)) ρ5 S5 else .no):=q5;split at q5'
   .rename_i hst;exact⟨α5,ρ5,S5,w5,s5,p4 α5 S5 H5 x5 w5 hst,PostS.shift x5 q5'⟩
   .exact q5'.elim
  .intro r S5 v5 α5 H5 e5 x5 w5 d5 q5;exact q5 v5 α5 H5 x5 w5 d5
  .intro ρ5 S5 σ5 α5 H5 e5 x5 w5 s5 q5;exact q5 σ5 α5 H5 x5 w5 s5
  .intro ρ5 S5 σ5 α5 H5 e5 x5 w5 s5 q5;have q5':PostS X.g W α4 H4 D (if stay k.gs S5 then jC gf F k.gs (k.ds.drop (n+1)) ρ5 S5 else .no):=q5;split at q5'
   .rename_i hst;exact⟨α5,ρ5,S5,w5,s5,p4 α5 S5 H5 x5 w5 hst,PostS.shift x5 q5'⟩
   .exact q5'.elim
 .have e:n=k.ds.length:=by omega
  subst e;refine .inl ⟨i2 (le_refl _),?_⟩;rw[List.drop_length]at q2;exact q2 σ2 α2 H2 (Ext.refl _ _) w2 sl2
def bK(t:zK->zC->R Bool)(b:zK->zC->R Fl):Nat->zK->zC->R Fl
 |0,_,_=>.no
 |n+1,ρ,S=>(t ρ S).bind λk S1=>if k=true then(b ρ S1).bind λfl S2=>match fl with
   |.next ρ'=>bK t b n ρ' S2
   |.cont ρ'=>bK t b n ρ' S2
   |.brk ρ'=>.ok (.next ρ') S2
   |.ret r=>.ok (.ret r) S2
  else .ok (.next ρ) S1
def OU(N:Nat)(hp:PassesOwn (model X.prog X.w) X.A X.env X.xe)(hc:RT X W c tf)(hb:vI X W as F):ZK X W (.While c as [] pos) (λρ S=>bK tf F N ρ S):=by
 obtain⟨tc,hc,kc⟩:=hc;obtain⟨tb,hb,kb⟩:=hb;refine⟨_,Bn hp hc hb,λα ρ S σ H D wd sl q=>⟨λm σ1 H1=> ∃α1 ρ1 S1,Wd X.g α1 S1 H1/\Slots X.K α1 H1 ρ1 σ1/\PostS X.g W α1 H1 D (bK tf F m ρ1 S1),⟨N,α,ρ,S,wd,sl,q⟩,?_⟩⟩;rintro m σ1 H1 ⟨α1,ρ1,S1,w1,sl1,q1⟩
 cases m with
 |zero=>exact q1.elim
 |succ n=>
  unfold bK at q1;refine kc α1 ρ1 S1 σ1 H1 _ w1 sl1 (q1.expr λu p S2 α2 H2 e2 x2 w2 d2 q2=>?_);cases d2
  replace q2:=PostS.shift x2 q2
  cases u with
  |false=>rw[iN0 xF0]at q2 ⊢; exact q2 σ1 α2 H2 (Ext.refl _ _) w2 (sl1.ext x2)
  |true=>
   rw[iP rfl]at q2 ⊢;refine⟨λσ3 H3=> ∃α3 ρ3 S3,Wd X.g α3 S3 H3/\Slots X.K α3 H3 ρ3 σ3/\PostS X.g W α3 H3 D (bK tf F n ρ3 S3),λσ' H' h=>⟨n,Nat.lt_succ_self n,h⟩,kb α2 ρ1 S2 σ1 H2 _ w2 (sl1.ext x2) (q2.stmt ?_ ?_ ?_ ?_)⟩
   .intro ρ5 S5 σ5 α5 H5 e5 x5 w5 s5 q5;exact⟨α5,ρ5,S5,w5,s5,PostS.shift x5 q5⟩
   .intro r S5 v5 α5 H5 e5 x5 w5 d5 q5;exact q5 v5 α5 H5 x5 w5 d5
   .intro ρ5 S5 σ5 α5 H5 e5 x5 w5 s5 q5;exact q5 σ5 α5 H5 x5 w5 s5
   .intro ρ5 S5 σ5 α5 H5 e5 x5 w5 s5 q5;exact⟨α5,ρ5,S5,w5,s5,PostS.shift x5 q5⟩
end
def noX{β:Type}:R β->R β
 |.ok b S=>.ok b S
 |_=>.no
theorem xG{β:Type}(b:β)(S:zC):noX (R.ok b S)=.ok b S:=rfl
def Post.bindY{β τ γ υ:Type}[Dn β τ][Dn γ υ]{g:Gm}{W:XW}{α α':Yd}{H H':Hp}(x:Ext α H α' H'){m:R β}{k:β->zC->R γ}{Q:υ->Hp->Prop}{Q':τ->Hp->Prop}(q:Post g W α H ((noX m).bind k) Q)
  (f: ∀u b S1 α1 H1,m=.ok b S1->Ext α' H' α1 H1->Wd g α1 S1 H1->Dn.d g H' α1 S1 H1 b u->Post g W α H (k b S1) Q->Q' u H1):Post g W0 α' H' m Q':=by
 cases m with
 |ok b S=>exact λu α1 H1 x w d=>f u b S α1 H1 rfl x w d q
 |exc c fs S=>exact q.elim
 |no=>exact q
theorem R.bind_assoc{β γ δ:Type}(m:R β)(k1:β->zC->R γ)(k2:γ->zC->R δ):(m.bind k1).bind k2=m.bind λb S=>(k1 b S).bind k2:=by cases m<;>rfl
def BF(nt:Nat)(idx:Db)(ρ:zK):zK:=List.replicate nt none++idx.map λi=>(ρ[i]?).join
open Classical in
def xN(gf:MV->zK->zC->R zK)(cf:zK->zC->R Bool)(ef:zK->zC->R Er)(ρb:zK)(gs:Zh):List MV->zC->R (List MV)
 |[],S=>.ok [] S
 |d::ds,S=>(noX (gf d ρb S)).bind λρ1 S0=>(noX (cf ρ1 S0)).bind λk S1=>
  if k=true then(noX (ef ρ1 S1)).bind λr S2=>(eE r S2).bind λy S3=>if stay gs S3 then(xN gf cf ef ρb gs ds S3).bind λout S4=>.ok (y::out) S4 else .no
  else if stay gs S1 then xN gf cf ef ρb gs ds S1 else .no
theorem ZN{K:Zb}{α:Yd}{H:Hp}{ρ:zK}{σ:St}(q:Slots K α H ρ σ)(nt:Nat)(idx:Db)(τ:St)(hτ:τ.length=nt):Slots K α H (BF nt idx ρ) (τ++BA σ idx):=by
 refine⟨by unfold BF;rw[lA,lA,mK,lM0,length_replicate,hτ],λi d e=>?_⟩;unfold BF at e;by_cases hi:i<nt
 .rw[getElem?_append_left (by rw[length_replicate];exact hi),List.getElem?_replicate]at e;split at e<;>cases e
 .rw[getElem?_append_right (by rw[length_replicate];omega),length_replicate,getElem?_map]at e
  cases z:idx[i - nt]? with
  |none=>rw[z]at e;cases e
  |some k=>
   rw[z]at e;have e2:(ρ[k]?).join=some d:=Option.some.inj e
   cases z2:ρ[k]? with
   |none=>rw[z2]at e2;cases e2
   |some o=>
    rw[z2]at e2;have e3:o=some d:=e2;subst e3;obtain⟨v,h1,h2⟩:=q.slot k d z2;refine⟨v,?_,h2⟩;rw[getElem?_append_right (by omega),hτ];unfold BA;rw[getElem?_map,z];show some (σ[k]?).join=some (some v);rw[h1];rfl
def Keeps(nt:Nat)(σ:St)(Q:St->Hp->Prop):St->Hp->Prop:=λσ' H'=>σ'.length=σ.length->(∀j,nt<=j->σ'[j]? =σ[j]?)->Q σ' H'
def Wg(nt:Nat)(X:Cx)(W:XW)(tg:Expr)(gf:MV->zK->zC->R zK):Prop:=
 ∃t,PG X tg t/\ ∀α ρ S σ H d v Q,Wd X.g α S H->Slots X.K α H ρ σ->Den X.K α H d v->Post X.g W α H (gf d ρ S) (Keeps nt σ Q)->t v σ H Q
section
variable{X:Cx}{W:XW}{pos:Pos}{nt:Nat}
def wC(i:Nat){x:Str}(hN:X.N.Nodup)(hi:X.N[i]? =some x:=by rfl)(hx:Loc X.env.scope x:=by first |exact Or.inl rfl|exact Or.inr rfl)(hf:X.fn x=true\/X.env.scope.names.lookup x=some .local:=by first |exact .inl rfl|exact .inr rfl|assumption)(hlt:i<nt:=by decide):
  Wg nt X W (.Name x pos) (xR i):=⟨_,VA hN hi hx hf,λα ρ S σ H d v Q wd sl de q=>Post.here (b:=ρ.set i (some d)) q wd (sl.set de) (by rw[length_set]) λj hj=>by rw[getElem?_set_ne (by omega)]⟩
end
abbrev ZO(X:Cx)(W:XW)(ifs:Za)(f:zK->zC->R Bool):Prop:=Jd X W (ZE X ifs) f
section
variable{X:Cx}{W:XW}{iter:Expr}{c:Expr}{tf:zK->zC->R Bool}{pos:Pos}
def bZ:ZO X W [] (λ_ S=>.ok true S):=⟨_,By,λα ρ S σ H Q wd sl q=>q.here wd rfl⟩
def qF(h:RT X W c tf):ZO X W [c] tf:=let ⟨t,h,k⟩:=h;⟨t,Bz h,k⟩
open Classical in
def LP{C:Cx->Prop}{elt tg:Expr}{ifs:Za}{sc:Scope}{itf:zK->zC->R Wk}{cf:zK->zC->R Bool}{ef:zK->zC->R Er}{gf:MV->zK->zC->R zK}(osc:Scope)(N:Ye)(T:Ye)(idx:Db)
  (hi:Jd X W (Ih C X tg iter) itf) (hCx: ∀c s₂ H2 fp pins σ,Inv X pins σ H2 s₂->C (zX X sc T idx c s₂ H2 fp))
  (hg: ∀C s₂ H1 fp,([]++T++idx.map λi=>(N[i]?).getD Str.empty).Nodup->Wg T.length (zX X sc T idx C s₂ H1 fp) W0 tg gf)
  (hc: ∀C s₂ H1 fp,ZO (zX X sc T idx C s₂ H1 fp) W0 ifs cf) (he: ∀C s₂ H1 fp,yR (zX X sc T idx C s₂ H1 fp) W0 elt ef)
  (e1:X.env.scope=osc:=by rfl) (e2:X.N=N:=by rfl) (hB:vG osc N sc idx=true:=by decide+kernel) (hN:([]++T++idx.map λi=>(N[i]?).getD Str.empty).Nodup:=by decide+kernel)
  (hs: ∀y,foldedSetIterable iter X.env y=pure y:=by intro _;rfl):
  Jd (β:=Er) (τ:=V) X W (λt=>PE X (.ListComp elt [⟨tg,iter,ifs,0⟩] sc pos) t/\PU X (.ListComp elt [⟨tg,iter,ifs,0⟩] sc pos) t) (λρ S=>(itf ρ S).bind λk S1=>if k.ds.length<1000000 then(xN gf cf ef (BF T.length idx ρ) k.gs k.ds S1).bind λout S2=>.ok (.new out) S2 else .no):=by
 obtain⟨wi,hi,ki⟩:=hi;subst e1 e2;have big:(1000000:Nat)<sizeLine:=by rw[sizeLine_eq];decide
 have hg': ∃t,(∀C s₂ H1 fp,PG (zX X sc T idx C s₂ H1 fp) tg t)/\ ∀α ρ S σ H d v Q,Wd X.g α S H->Slots X.K α H ρ σ->Den X.K α H d v->Post X.g W0 α H (gf d ρ S) (Keeps T.length σ Q)->t v σ H Q:=by refine⟨λv σ H Q=> ∃α ρ S d,Wd X.g α S H/\Slots X.K α H ρ σ/\Den X.K α H d v/\Post X.g W0 α H (gf d ρ S) (Keeps T.length σ Q),λC s₂ H1 fp pins s σ H v u Q I r ⟨α,ρ,S,d,h1,h2,h3,h4⟩=>?_,λα ρ S σ H d v Q h1 h2 h3 h4=>⟨α,ρ,S,d,h1,h2,h3,h4⟩⟩;obtain⟨t,ht,kt⟩:=hg C s₂ H1 fp hN;exact ht pins s σ H v u Q I r (kt α ρ S σ H d v Q h1 h2 h3 h4)
 obtain⟨tg',hg1,kg⟩:=hg';refine⟨_,⟨Jb T idx hi hCx hB hg1 (λC s₂ H1 fp=>(Classical.choose_spec (hc C s₂ H1 fp)).1) (λC s₂ H1 fp=>(Classical.choose_spec (he C s₂ H1 fp)).1) hs,Jf T idx hi hCx hB hg1 (λC s₂ H1 fp=>(Classical.choose_spec (hc C s₂ H1 fp)).1) (λC s₂ H1 fp=>(Classical.choose_spec (he C s₂ H1 fp)).1) hs⟩,λα ρ S σ H Q wd sl q=>ki α ρ S σ H _ wd sl (q.bind λJ k S1 α1 H1 e1 x1 w1 d1 q1=>?_)⟩;obtain⟨P,hP⟩:=d1;split at q1
 .rename_i hlen
  refine⟨λn m ys H2=>m=k.ds.length - n/\n<=k.ds.length/\ys.length<=n/\ ∃α2 S2,Ext α H α2 H2/\Wd X.g α2 S2 H2/\P α2 S2 H2/\ ∃outs,DenL X.K α2 H2 outs ys/\Post X.g W α H ((xN gf cf ef (BF T.length idx ρ) k.gs (k.ds.drop n) S2).bind λo S'=>.ok (Er.new (outs++o)) S') Q,
   ⟨_,rfl,zero_le _,le_refl _,α1,S1,x1,w1,hP.here,[],yS,by simpa using q1⟩,?_⟩
  rintro n m ys H2 ⟨rfl,hn,hy,α2,S2,x2,w2,p2,outs,l,q2⟩;obtain⟨i1,i2⟩:=hP.it n α2 S2 H2 p2 w2;refine⟨by omega,?_⟩;by_cases hlt:n<k.ds.length
  .obtain⟨go,yl⟩:=i1 hlt;refine .inr ⟨go,by omega,λv H3 y τ hτ=>?_⟩;obtain⟨x3,w3,p3,d,hd,dv⟩:=yl v H3 y;have hdrop:k.ds.drop n=d::k.ds.drop (n+1):=by rw[List.drop_eq_getElem_cons hlt];have:=gE hlt;rw[hd]at this;rw[<-Option.some.inj this]
   rw[hdrop]at q2;unfold xN at q2;have slb:=ZN (sl.ext (x2.trans x3)) T.length idx τ hτ;refine kg α2 (BF T.length idx ρ) S2 _ H3 d v _ w3 slb dv ?_;rw[R.bind_assoc]at q2;refine q2.bindY (x2.trans x3) λσ4 ρ4 S4 α4 H4 e4 x4 w4 s4 q4 len4 kp4=>⟨⟨σ4.take T.length,?_,?_⟩,λC s₂ fp=>?_⟩
   .refine List.ext_getElem? λj=>?_;have hl4:σ4.length=T.length+idx.length:=by rw[len4,lA,mK,hτ]
    by_cases hj:j<T.length
    .rw[getElem?_append_left (by rw[lT];omega),List.getElem?_take_of_lt hj]
    .rw[kp4 j (by omega),getElem?_append_right (by omega),getElem?_append_right (by rw[lT];omega),hτ,lT,min_eq_left (by omega)]
   .rw[lT,len4,lA,mK,hτ];omega
   have x34:Ext α H α4 H4:=(x2.trans x3).trans x4;have p4: ∀α5 S5 H5,Ext α4 H4 α5 H5->Wd X.g α5 S5 H5->stay k.gs S5->P α5 S5 H5:=λα5 S5 H5 x5 w5 s5=>hP.stays α2 S2 H3 α5 S5 H5 p3 (x4.trans x5) w5 s5;rw[R.bind_assoc]at q4;refine(Classical.choose_spec (hc C s₂ H1 fp)).2 α4 ρ4 S4 σ4 H4 _ w4 s4 (q4.bindY x34 λb5 b5' S5 α5 H5 e5 x5 w5 d5 q5=>?_);cases d5
   cases b5 with
   |false=>
    rw[iN0 xF0]at q5 ⊢;split at q5
    .rename_i hst;exact⟨k.ds.length - (n+1),by omega,rfl,hlt,by omega,α5,S5,x34.trans x5,w5,p4 α5 S5 H5 x5 w5 hst,outs,(l.ext (x3.trans x4)).ext x5,q5⟩
    .exact q5.elim
   |true=>
    rw[iP rfl,R.bind_assoc]at q5;rw[iP rfl];refine(Classical.choose_spec (he C s₂ H1 fp)).2 α5 ρ4 S5 σ4 H5 _ w5 (s4.ext x5) (q5.bindY (x34.trans x5) λy6 r6 S6 α6 H6 e6 x6 w6 d6 q6=>?_);obtain⟨d',S',α',e7,x7,y7,w7,de⟩:=pG w6 x6 d6;rw[e7]at q6;have q6:Post X.g W α H ((if stay k.gs S' then(xN gf cf ef (BF T.length idx ρ) k.gs (k.ds.drop (n+1)) S').bind λout S4=>.ok (d'::out) S4 else .no).bind λo S'=>.ok (Er.new (outs++o)) S') Q:=q6;split at q6
    .rename_i hst;refine⟨k.ds.length - (n+1),by omega,rfl,hlt,by rw[lA,lS];omega,α',S',(x34.trans x5).trans x7,w7,p4 α' S' H6 (x5.trans x7) w7 hst,outs++[d'],((l.ext (x3.trans x4)).ext (x5.trans x7)).append (yK de yS),?_⟩;rw[R.bind_assoc]at q6;have e8:(λ(o:Zd) (S':zC)=>R.ok (Er.new ((outs++[d'])++o)) S')=(λ(b:Zd) S=>(R.ok (d'::b) S).bind λo S'=>.ok (Er.new (outs++o)) S'):=by funext o S';show _=R.ok (Er.new (outs++(d'::o))) S';rw[aA];rfl
     rw[e8];exact q6
    .exact q6.elim
  .have e:n=k.ds.length:=by omega
   subst e;rw[List.drop_length]at q2;have q3:Post X.g W α H (.ok (Er.new (outs++[])) S2) Q:=q2;rw[aN]at q3;exact .inl ⟨i2 (le_refl _),λD hD=>(q3.shift x2).newl w2 hD l⟩
 .exact q1.elim
open Classical in
def bE{elt tg:Expr}{ifs:Za}{sc:Scope}{itf:zK->zC->R Wk}{cf:zK->zC->R Bool}{ef:zK->zC->R Er}{gf:MV->zK->zC->R zK}(osc:Scope)(N:Ye)(T:Ye)(idx:Db)
  (hi:Jn X W tg iter itf) (hcalm:X.calm=true)
  (hg: ∀C s₂ H1 fp,([]++T++idx.map λi=>(N[i]?).getD Str.empty).Nodup->Wg T.length (zX X sc T idx C s₂ H1 fp) W0 tg gf)
  (hc: ∀C s₂ H1 fp,ZO (zX X sc T idx C s₂ H1 fp) W0 ifs cf) (he: ∀C s₂ H1 fp,yR (zX X sc T idx C s₂ H1 fp) W0 elt ef)
  (e1:X.env.scope=osc:=by rfl) (e2:X.N=N:=by rfl) (hB:vG osc N sc idx=true:=by decide+kernel) (hN:([]++T++idx.map λi=>(N[i]?).getD Str.empty).Nodup:=by decide+kernel)
  (hs: ∀y,foldedSetIterable iter X.env y=pure y:=by intro _;rfl):
  yR X W (.ListComp elt [⟨tg,iter,ifs,0⟩] sc pos) (λρ S=>(itf ρ S).bind λk S1=>if k.ds.length<1000000 then(xN gf cf ef (BF T.length idx ρ) k.gs k.ds S1).bind λout S2=>.ok (.new out) S2 else .no):=let ⟨t,h,k⟩:=(LP osc N T idx hi (λ_ _ _ _ _ _ _=>hcalm) hg hc he e1 e2 hB hN hs);⟨t,h.1,k⟩
open Classical in
def vL{x:Str}{pos' spos:Pos}(i:Nat)(hNN:X.N.Nodup){elt tg:Expr}{ifs:Za}{sc:Scope}{itf:zK->zC->R Wk}{cf:zK->zC->R Bool}{ef:zK->zC->R Er}{gf:MV->zK->zC->R zK}(osc:Scope)(N:Ye)(T:Ye)(idx:Db)
  (hi:Jn X W tg iter itf) (hcalm:X.calm=true)
  (hg: ∀C s₂ H1 fp,([]++T++idx.map λi=>(N[i]?).getD Str.empty).Nodup->Wg T.length (zX X sc T idx C s₂ H1 fp) W0 tg gf)
  (hc: ∀C s₂ H1 fp,ZO (zX X sc T idx C s₂ H1 fp) W0 ifs cf) (he: ∀C s₂ H1 fp,yR (zX X sc T idx C s₂ H1 fp) W0 elt ef)
  (e1:X.env.scope=osc:=by rfl) (e2:X.N=N:=by rfl) (hB:vG osc N sc idx=true:=by decide+kernel) (hN:([]++T++idx.map λi=>(N[i]?).getD Str.empty).Nodup:=by decide+kernel)
  (hs: ∀y,foldedSetIterable iter X.env y=pure y:=by intro _;rfl)
  (hi2:X.N[i]? =some x:=by rfl) (hx:Loc X.env.scope x:=by first |exact Or.inl rfl|exact Or.inr rfl)
  (hsw:swapsWith (.ListComp elt [⟨tg,iter,ifs,0⟩] sc pos) (some (.Name x pos')) spos.line X.env=pure true:=by with_unfolding_all rfl) (hf:X.fn x=true\/X.env.scope.names.lookup x=some .local:=by first |exact .inl rfl|exact .inr rfl|assumption):
  ZK X W (.Assign [.Name x pos'] (.ListComp elt [⟨tg,iter,ifs,0⟩] sc pos) spos) (λρ S=>((itf ρ S).bind λk S1=>if k.ds.length<1000000 then(xN gf cf ef (BF T.length idx ρ) k.gs k.ds S1).bind λout S2=>.ok (.new out) S2 else .no).bind (LO ρ i)):=by
 obtain⟨t,h,k⟩:=(LP osc N T idx hi (λ_ _ _ _ _ _ _=>hcalm) hg hc he e1 e2 hB hN hs)
 refine⟨_,h.2 i x pos' spos hNN hi2 hx hf hsw,λα ρ S σ H D wd sl q=>k α ρ S σ H _ wd sl (q.expr λu r S1 α1 H1 e x1 w1 d1 q1=>?_)⟩;obtain⟨d',S',α',e1,x',y',w',de⟩:=pG w1 x1 d1;unfold LO at q1;rw[e1]at q1;exact q1 _ α' H1 x' w' (((sl.ext x1).ex0 y').set de)
end
mutual
def lo(n:Nat):MV->Prop
 |.loc l=>l<n
 |.tup ds=>uV n ds
 |.scr ds=>uV n ds
 |.obj _ _ ds=>uV n ds
 |_=>True
def uV(n:Nat):List MV->Prop
 |[]=>True
 |d::ds=>lo n d/\uV n ds
end

def loO(n:Nat):MO->Prop
 |.lst ds=>uV n ds
 |.dic kvs=> ∀p∈kvs,lo n p.1/\lo n p.2
 |.ins _ fs=> ∀p∈fs,lo n p.2
section
variable{K:Zb}{α t:Yd}{H:Hp}
mutual
theorem Den.back: ∀{d:MV}{v:V},Den K (α++t) H d v->lo α.length d->Den K α H d v
 |.non,_,q,_=>by cases aY q;exact fP
 |.bl _,_,q,_=>by cases mQ q;exact gG _
 |.int _,_,q,_=>by cases xK q;exact xB _
 |.str _,_,q,_=>by cases wV q;exact aG _
 |.typ _,_,q,_=>by cases aZ q;exact VG _
 |.obj c ns ds,_,q,h=>by obtain⟨a,C,dx,vs,o,rfl,e,hn,hc,hl,l⟩:=dS q;exact Ji e hn hc hl (DenL.back l (by unfold lo at h;exact h))
 |.loc l,_,q,h=>by
  obtain⟨a,rfl,e⟩:=bV q;have hl:l<α.length:=by unfold lo at h;exact h
  rw[getElem?_append_left hl]at e;exact qD e
 |.tup ds,_,q,h=>by obtain⟨a,vs,rfl,s,l⟩:=wG q;exact qC s (DenL.back l (by unfold lo at h;exact h))
 |.scr ds,_,q,h=>by obtain⟨a,vs,rfl,s,l⟩:=dU q;exact VH s (DenL.back l (by unfold lo at h;exact h))
theorem DenL.back: ∀{ds:Zd}{vs:List V},DenL K (α++t) H ds vs->uV α.length ds->DenL K α H ds vs
 |[],_,q,_=>by rw[q.isnil];exact yS
 |d::ds,_,q,h=>by obtain⟨v,r,rfl,a,l⟩:=q.uncons;unfold uV at h;exact yK (Den.back a h.1) (DenL.back l h.2)
end

mutual
theorem Den.lo: ∀{d:MV}{v:V},Den K α H d v->lo α.length d
 |.non,_,q=>by unfold M.lo;trivial
 |.bl _,_,q=>by unfold M.lo;trivial
 |.int _,_,q=>by unfold M.lo;trivial
 |.str _,_,q=>by unfold M.lo;trivial
 |.typ _,_,q=>by unfold M.lo;trivial
 |.obj c ns ds,_,q=>by obtain⟨a,C,dx,vs,o,rfl,e,hn,hc,hl,l⟩:=dS q;unfold M.lo;exact DenL.lo l
 |.loc l,_,q=>by obtain⟨a,rfl,e⟩:=bV q;unfold M.lo;exact(gS.mp e).1
 |.tup ds,_,q=>by obtain⟨a,vs,rfl,s,l⟩:=wG q;unfold M.lo;exact DenL.lo l
 |.scr ds,_,q=>by obtain⟨a,vs,rfl,s,l⟩:=dU q;unfold M.lo;exact DenL.lo l
theorem DenL.lo: ∀{ds:Zd}{vs:List V},DenL K α H ds vs->uV α.length ds
 |[],_,q=>by unfold uV;trivial
 |d::ds,_,q=>by obtain⟨v,r,rfl,a,l⟩:=q.uncons;unfold uV;exact⟨Den.lo a,DenL.lo l⟩
end

theorem DenK.back: ∀{fs gs},DenK K (α++t) H fs gs->(∀p∈fs,M.lo α.length p.1/\M.lo α.length p.2)->DenK K α H fs gs
 |_,_,.nil,_=>.nil
 |_,_,.cons k a l,h=>.cons k (a.back (h _ mF0).2) (DenK.back l λp hp=>h p (mO _ hp))
def KeyD.lo{n:Nat}{k:MV}{k':Key}(h:KeyD k k'):M.lo n k:=by
 unfold KeyD at h;split at h
 .unfold M.lo;trivial
 .unfold M.lo;trivial
 .exact h.elim
theorem DenK.lo: ∀{fs gs},DenK K α H fs gs-> ∀p∈fs,M.lo α.length p.1/\M.lo α.length p.2
 |_,_,.nil=>λp h=>by simp at h
 |_,_,.cons k a l=>λp h=>(mC.mp h).elim (λe=>by subst e;exact⟨k.lo,a.lo⟩) (DenK.lo l p)
theorem DenF.back: ∀{fs gs},DenF K (α++t) H fs gs->(∀p∈fs,M.lo α.length p.2)->DenF K α H fs gs
 |_,_,.nil,_=>.nil
 |_,_,.cons a l,h=>.cons (a.back (h _ mF0)) (DenF.back l λp hp=>h p (mO _ hp))
theorem DenF.lo: ∀{fs gs},DenF K α H fs gs-> ∀p∈fs,M.lo α.length p.2
 |_,_,.nil=>λp h=>by simp at h
 |_,_,.cons a l=>λp h=>(mC.mp h).elim (λe=>by subst e;exact a.lo) (DenF.lo l p)
def ObD.back{g:Gm}{a:Addr}{o:MO}(q:ObD g (α++t) H a o)(h:loO α.length o):ObD g α H a o:=by
 cases o with
 |lst ds=>obtain⟨vs,h1,l⟩:=q;exact⟨vs,h1,l.back h⟩
 |dic ds=>
  rcases q with⟨vs,h1,l⟩|z
  .exact .inl ⟨vs,h1,l.back h⟩
  .exact False.elim z
 |ins c fs=>obtain⟨C,gs,m,l,r⟩:=q;exact⟨C,gs,m,l.back h,r⟩
def ObD.lo{g:Gm}{a:Addr}{o:MO}(q:ObD g α H a o):loO α.length o:=by
 cases o with
 |lst ds=>obtain⟨vs,h1,l⟩:=q;exact l.lo
 |dic ds=>
  rcases q with⟨vs,h1,l⟩|z
  .exact l.lo
  .exact False.elim z
 |ins c fs=>obtain⟨C,gs,m,l,r⟩:=q;exact l.lo
end
def Cm(S S2:zC):Prop:=S.length<=S2.length/\ ∀l,l<S.length->S2[l]? =S[l]? \/ ∃o,S2[l]? =some o/\loO S.length o
open Classical in
def dR(S:zC)(r:Er)(S2:zC):R Er:=
 if Cm S S2 then match r with
  |.val (.loc l)=>if l<S.length then .ok r (S2.take S.length)else match S2[l]? with
   |some (.lst ds)=>if uV S.length ds then .ok (.new ds) (S2.take S.length)else .ok r S2
   |_=>.ok r S2
  |.val d=>if lo S.length d then .ok r (S2.take S.length)else .ok r S2
  |.new ds=>if uV S.length ds then .ok r (S2.take S.length)else .ok r S2
 else .ok r S2
def LQ{g:Gm}{α α1 α2 α3:Yd}{H H1 H3:Hp}{S1 S3:zC}{r:Er}{v:V}(x1:Ext α H α1 H1)(w1:Wd g α1 S1 H1)(h12: ∃t,α2=α1++t)(x2:Ext α H α2 H1)(x3:Ext α2 H1 α3 H3)(w3:Wd g α3 S3 H3)(d:DenE g.K H1 α3 H3 r v):
  ∃r' S' α',dR S1 r S3=.ok r' S'/\Ext α H α' H3/\Wd g α' S' H3/\DenE g.K H α' H3 r' v:=by
 have x23:=x2.trans x3;have dfull:DenE g.K H α3 H3 r v:=d.back λb h=>x1.free h;unfold dR;by_cases hc:Cm S1 S3
 .rw[iP hc];obtain⟨t,ht⟩: ∃t,α3=α1++t:=by obtain⟨t,e⟩:=h12;obtain⟨u,e'⟩:=x3.pre;exact⟨t++u,by rw[e',e,aA]⟩
  have hn:α1.length=S1.length:=w1.len;have xc:Ext α H α1 H3:=⟨⟨x1.pre,x23.tup,x23.frz⟩,x1.new,x23.keep,x23.has⟩
  have wc:Wd g α1 (S3.take S1.length) H3:=by
   refine⟨by rw[lT,hn,min_eq_left hc.1],w1.nd,λl a o h1 h2=>?_⟩;have hl:l<S1.length:=by rw[<-hn];exact(gS.mp h1).1
   rw[List.getElem?_take_of_lt hl]at h2;have h1':α3[l]? =some a:=by rw[ht,getElem?_append_left (by rw[hn];exact hl)];exact h1
   have q:=w3.obj l a o h1' h2;rw[ht]at q;refine q.back ?_;rcases hc.2 l hl with e|⟨o',e,lo'⟩
   .rw[e]at h2;exact(w1.obj l a o h1 h2).lo
   .rw[h2]at e;cases e;rw[hn];exact lo'
  have dlo: ∀d,lo S1.length d->Den g.K α3 H3 d v->DenE g.K H α1 H3 (.val d) v:=λd hd q=>.val ((ht▸q:Den g.K (α1++t) H3 d v).back (by rw[hn];exact hd))
  cases r with
  |new ds=>
   dsimp only;split
   .rename_i hl;obtain⟨⟨b,vs,rfl,h1,h2,h3⟩,h4⟩:=dfull;exact⟨_,_,α1,rfl,xc,wc,⟨b,vs,rfl,h1,λz=>h2 (by rw[ht];exact mem_append_left _ z),(ht▸h3:DenL g.K (α1++t) H3 ds vs).back (by rw[hn];exact hl)⟩,h4⟩
   .exact⟨_,_,α3,rfl,x23,w3,dfull⟩
  |val mv=>
   have dd:Den g.K α3 H3 mv v:=dfull.1
   cases mv with
   |loc l=>
    dsimp only;split
    .rename_i hl;exact⟨_,_,α1,rfl,xc,wc,dlo _ (by unfold lo;exact hl) dd⟩
    .rename_i hl;obtain⟨a,rfl,ha⟩:=bV dd;split
     .rename_i ds hS;split
      .rename_i hlo;obtain⟨vs,h1,h2⟩:=w3.obj l a _ ha hS
       have hna:a∉α1:=λz=>by
        obtain⟨m,hm⟩:=getElem?_of_mem z;have hml:m<α1.length:=(gS.mp hm).1;have hm':α3[m]? =some a:=by rw[ht,getElem?_append_left hml];exact hm
        obtain⟨u1,e1⟩:=gS.mp hm';obtain⟨u2,e2⟩:=gS.mp ha;have:=(getElem_inj w3.nd).mp (e1.trans e2.symm);omega
       refine⟨_,_,α1,rfl,xc,wc,⟨a,vs,rfl,h1,hna,(ht▸h2:DenL g.K (α1++t) H3 ds vs).back (by rw[hn];exact hlo)⟩,λb e=>?_⟩;cases e;rcases x23.new a (mem_of_getElem? ha)with z|z
       .obtain⟨u,eu⟩:=x1.pre;exact absurd (by rw[eu];exact mem_append_left _ z) hna
       .exact z
      .exact⟨_,_,α3,rfl,x23,w3,dfull⟩
     .exact⟨_,_,α3,rfl,x23,w3,dfull⟩
   |non=>dsimp only;split;(· rename_i hl;exact⟨_,_,α1,rfl,xc,wc,dlo _ hl dd⟩);(· exact⟨_,_,α3,rfl,x23,w3,dfull⟩)
   |bl b=>dsimp only;split;(· rename_i hl;exact⟨_,_,α1,rfl,xc,wc,dlo _ hl dd⟩);(· exact⟨_,_,α3,rfl,x23,w3,dfull⟩)
   |int b=>dsimp only;split;(· rename_i hl;exact⟨_,_,α1,rfl,xc,wc,dlo _ hl dd⟩);(· exact⟨_,_,α3,rfl,x23,w3,dfull⟩)
   |str b=>dsimp only;split;(· rename_i hl;exact⟨_,_,α1,rfl,xc,wc,dlo _ hl dd⟩);(· exact⟨_,_,α3,rfl,x23,w3,dfull⟩)
   |typ b=>dsimp only;split;(· rename_i hl;exact⟨_,_,α1,rfl,xc,wc,dlo _ hl dd⟩);(· exact⟨_,_,α3,rfl,x23,w3,dfull⟩)
   |obj b b' b''=>dsimp only;split;(· rename_i hl;exact⟨_,_,α1,rfl,xc,wc,dlo _ hl dd⟩);(· exact⟨_,_,α3,rfl,x23,w3,dfull⟩)
   |tup b=>dsimp only;split;(· rename_i hl;exact⟨_,_,α1,rfl,xc,wc,dlo _ hl dd⟩);(· exact⟨_,_,α3,rfl,x23,w3,dfull⟩)
   |scr b=>dsimp only;split;(· rename_i hl;exact⟨_,_,α1,rfl,xc,wc,dlo _ hl dd⟩);(· exact⟨_,_,α3,rfl,x23,w3,dfull⟩)
 .rw[iN0 hc];exact⟨_,_,α3,rfl,x23,w3,dfull⟩
def VM(g:Gm)(n:Nat)(F:List MV->zC->R Er):Sp:=λvs H Q _=> ∃α S ds,Wd g α S H/\DenL g.K α H ds vs/\ds.length=n/\Post g W0 α H (F ds S) Q
def yB(n:Nat)(F:List MV->zC->R Er)(rs:List Er)(S:zC):R Er:=if rs.length=n then(noX (F (zS rs S).1 (zS rs S).2)).bind λr S2=>dR S r S2 else .no
section
variable{X:Cx}{W:XW}{e:Expr}{es:Za}{af:zK->zC->R (List Er)}{pos:Pos}
def JP{n:Nat}{F:List MV->zC->R Er}{rs:List Er}{vs:List V}{α α1:Yd}{H H1:Hp}{S1:zC}{Q:VK}(x1:Ext α H α1 H1)(w1:Wd X.g α1 S1 H1)(d1:ArgsE X.K H α1 H1 rs vs)(q:Post X.g W α H (yB n F rs S1) Q):
  VM X.g n F vs H1 Q E0:=by
 unfold yB at q;split at q
 .rename_i hl;obtain⟨α2,x2,y2,w2,l2⟩:=pF w1 x1 d1;refine⟨α2,_,_,w2,l2,by rw[uC];exact hl,?_⟩
  cases z:F (zS rs S1).1 (zS rs S1).2 with
  |ok r S3=>
   rw[z]at q;intro v α3 H3 x3 w3 d3;obtain⟨r',S',α',e',x',w',d'⟩:=LQ x1 w1 y2.pre x2 x3 w3 d3;have q:Post X.g W α H (dR S1 r S3) Q:=q;rw[e']at q;exact q v α' H3 x' w' d'
  |exc c fs S3=>rw[z]at q;exact q.elim
  |no=>rw[z]at q;exact q.elim
 .exact q.elim
def Jq{k n:Nat}{fa:Addr}{fd:FuncData}{ps:Ye}{F:List MV->zC->R Er}{x:Str}{p:Pos}(G:FnOk X.prog X.w X.K X.mg X.base FE k fa fd ps (VM X.g n F))(hr:Room k X.A)(hg:Gl X x)(hm:X.mg x=some (.ref fa))
  (hk:PySem.W.keepIn X.K (.ref fa)=true) (hb:Binds X.K fd ps []) (ha:FL X W (e::es) af) (hdb:(x==("__debug__":Str))=false:=by decide)
  (he:starEach (e::es) X.env=(false,eval e X.env)::starEach es X.env:=by rfl) (hpl:(backTo pos (starEach es X.env)).any (·.1)=false:=by rfl):
  yR X W (.Call (.Name x p) (e::es) [] pos) (λρ S=>(af ρ S).bind λrs S1=>yB n F rs S1):=by
 obtain⟨t,ha,kk⟩:=ha;refine⟨_,VB G hr hg hm hk hb .nil Vi ha hdb he hpl,λα ρ S σ H Q wd sl q=>kk α ρ S σ H _ wd sl (q.bind λvs rs S1 α1 H1 e1 x1 w1 d1 q1=>?_)⟩;rw[aN];exact JP x1 w1 d1 q1
end
def yD(N:Ye)(ds:Zd):zK:=ds.map some++List.replicate (N.length - ds.length) none
def yU:R Fl->R Er
 |.ok (.next _) S=>.ok (.val .non) S
 |.ok (.ret r) S=>.ok r S
 |.exc c fs S=>.exc c fs S
 |_=>.no
def sH{K:Zb}{α:Yd}{N:Ye}{H:Hp}{ds:Zd}{vs:List V}(l:DenL K α H ds vs):Slots K α H (yD N ds) (start N vs):=by
 have hlen:=l.length;refine⟨?_,λi d e=>?_⟩
 .unfold start yD;rw[lA,lA,lM0,lM0,length_replicate,length_replicate,hlen]
 .unfold yD at e;by_cases hi:i<ds.length
  .rw[getElem?_append_left (by simpa using hi),getElem?_map]at e
   cases z:ds[i]? with
   |none=>rw[z]at e;cases e
   |some d'=>
    rw[z]at e;obtain⟨v,h1,h2⟩:=l.at z;have e':d'=d:=Option.some.inj (Option.some.inj e);subst e';refine⟨v,?_,h2⟩;unfold start;rw[getElem?_append_left (by rw[lM0,hlen];exact hi),getElem?_map,h1];rfl
  .rw[getElem?_append_right (by simpa using hi),List.getElem?_replicate]at e;split at e<;>cases e
section
variable{P:Program}{w:World}{K:Zb}{mg:Yg}{base:Heap}
def HX{x qual:Str}{st:Stmt}{f:Addr}{fd:FuncData}{N ps:Ye}{k:Nat}(Fb:zK->zC->R Fl)(F:Fun K x qual st f fd)(Sc:FnScope N ps (zI st))
  (hbody: ∀(cdv:Value)(A:Around)(outer:List Env)(s:Shared)(H:Hp)(E:XK),Room k (A.deeper (envOfC qual (zI st) s.heap.objs.size f cdv))->
   vI (FB FE P w K mg base N qual (zI st) f cdv A outer s H E).nox W0 (jH st) Fb):
  FnOk P w K mg base FE (k+1) f fd ps (VM ⟨K,mg,P,w⟩ ps.length λds S=>yU (Fb (yD N ds) S)):=by
 refine F.ok Sc (λvs H Q E h=>?_) (λcdv A outer s H vs Q E hr h=>?_)
 .obtain⟨α,S,ds,_,l,hl,_⟩:=h;rw[l.length,hl]
 .obtain⟨α,S,ds,wd,l,hl,q⟩:=h;obtain⟨t,ht,kk⟩:=hbody cdv A outer s H E hr;refine⟨t,ht,kk α (yD N ds) S (start N vs) H _ wd (sH l) ?_⟩;dsimp only at q
  cases z:Fb (yD N ds) S with
  |ok fl S'=>
   rw[z]at q
   cases fl with
   |next ρ=>exact λσ α' H' x' w' s'=>q .non α' H' x' w' (DenE.val fP)
   |ret r=>exact λv α' H' x' w' d'=>q v α' H' x' w' d'
   |brk ρ=>exact q.elim
   |cont ρ=>exact q.elim
  |exc c fs S'=>rw[z]at q;exact λα' H' x' w'=>q α' H' x' w'
  |no=>rw[z]at q;exact q
end
inductive Vw where
 |fl (v:V)|tp (ds:Zd)|ls (ds:Zd)
def hG(S:zC):Er->Option (List MV)
 |.new ds=>some ds
 |.val (.scr ds)=>some ds
 |.val (.loc l)=>match S[l]? with
  |some (.lst ds)=>some ds
  |_=>none
 |_=>none
def HP(S:zC):Er->Option Vw
 |.val .non=>some (.fl .non)
 |.val (.bl b)=>some (.fl (.bl b))
 |.val (.int i)=>some (.fl (.int i))
 |.val (.str x)=>some (.fl (.str (kE x)))
 |.val (.tup ds)=>some (.tp ds)
 |.val (.typ _)=>none
 |.val (.obj _ _ _)=>none
 |r=>(hG S r).map .ls
def vM(e:MV->MV->Option Bool):List MV->List MV->Option (List Bool)
 |d::ds,f::fs=>(e d f).bind λk=>(vM e ds fs).map (k::·)
 |_,_=>some []
def Jr(e:MV->MV->Option Bool):Vw->Vw->Option Bool
 |.fl x,.fl y=>some (Iw x y)
 |.tp ds,.tp es=>(vM e ds es).map λbs=>bs.all id&&ds.length==es.length
 |.ls ds,.ls es=>if ds.length=es.length then(vM e ds es).map λbs=>bs.all id else some false
 |_,_=>some false
theorem LR(e:MV->MV->Option Bool)(ds es:Zd):Jr e (.tp ds) (.tp es)=(vM e ds es).map λbs=>bs.all id&&ds.length==es.length:=rfl
theorem LS(e:MV->MV->Option Bool)(ds es:Zd):Jr e (.ls ds) (.ls es)=if ds.length=es.length then(vM e ds es).map λbs=>bs.all id else some false:=rfl
def eqv(S:zC):Nat->MV->MV->Option Bool
 |0,_,_=>none
 |n+1,a,b=>(HP S (.val a)).bind λx=>(HP S (.val b)).bind λy=>Jr (eqv S n) x y
def HY(S:zC)(n:Nat)(a b:Er):Option Bool:=(HP S a).bind λx=>(HP S b).bind λy=>Jr (eqv S n) x y
section
variable{X:Cx}{α:Yd}{S:zC}{H:Hp}
def sI{K:Zb}{g:Gm}(hK:g.K=K)(wd:Wd g α S H){r:Er}{ds:Zd}{x:V}(e:hG S r=some ds)(d:DenX K α H r x): ∃a vs,x=.ref a/\SqL K H a vs/\DenL K α H ds vs:=by
 subst hK;unfold hG at e;split at e
 .cases e;obtain⟨b,vs,rfl,h,_,l⟩:=d;exact⟨b,vs,rfl,.of h,l⟩
 .cases e;obtain⟨a,vs,rfl,s,l⟩:=FK d;exact⟨a,vs,rfl,s.l,l⟩
 .rename_i n;obtain⟨a,rfl,h⟩:=eB d;split at e
  .rename_i es hS;cases e;obtain⟨vs,h1,l⟩:=wd.obj n a _ h hS;exact⟨a,vs,rfl,.of h1,l⟩
  .cases e
 .cases e
def rO{r:Er}{x y:V}(e:HP S r=some (.fl y))(d:DenX X.K α H r x):x=y/\jG y=true:=by
 unfold HP at e;split at e
 .cases e;exact⟨BC d,rfl⟩
 .cases e;exact⟨FI d,rfl⟩
 .cases e;exact⟨xO d,rfl⟩
 .cases e;exact⟨bW d,rfl⟩
 .cases e
 .cases e
 .cases e
 .cases z:hG S r<;>rw[z]at e<;>cases e
def rP{r:Er}{x:V}{ds:Zd}(e:HP S r=some (.tp ds))(d:DenX X.K α H r x): ∃a vs,x=.ref a/\SqT X.K H a vs/\DenL X.K α H ds vs:=by
 unfold HP at e;split at e
 .cases e
 .cases e
 .cases e
 .cases e
 .cases e;exact eA d
 .cases e
 .cases e
 .cases z:hG S r<;>rw[z]at e<;>cases e
def rQ(wd:Wd X.g α S H){r:Er}{x:V}{ds:Zd}(e:HP S r=some (.ls ds))(d:DenX X.K α H r x): ∃a vs,x=.ref a/\SqL X.K H a vs/\DenL X.K α H ds vs:=by
 unfold HP at e;split at e
 .cases e
 .cases e
 .cases e
 .cases e
 .cases e
 .cases e
 .cases e
 .cases z:hG S r with
  |none=>rw[z]at e;cases e
  |some es=>rw[z]at e;cases e;exact sI rfl wd z d
theorem uD{e:MV->MV->Option Bool}: ∀{ds es:Zd}{bs:Yj},vM e ds es=some bs->bs.length=min ds.length es.length
 |[],_,_,h=>by simp[vM]at h;subst h;simp
 |_::_,[],_,h=>by simp[vM]at h;subst h;simp
 |d::ds,f::fs,bs,h=>by
  unfold vM at h
  cases z:e d f with
  |none=>rw[z]at h;cases h
  |some k=>
   rw[z]at h
   cases z2:vM e ds fs with
   |none=>simp[z2]at h
   |some cs=>
    simp[z2]at h;subst h;simp[uD z2]
theorem LT{e:MV->MV->Option Bool}: ∀{ds es:Zd}{bs:Yj}{j:Nat}{d f:MV},vM e ds es=some bs->ds[j]? =some d->es[j]? =some f->e d f=some (bs.getD j true)
 |[],_,_,_,_,_,h,h1,_=>by simp at h1
 |_::_,[],_,_,_,_,h,_,h2=>by simp at h2
 |d::ds,f::fs,bs,j,d',f',h,h1,h2=>by
  unfold vM at h
  cases z:e d f with
  |none=>rw[z]at h;cases h
  |some k=>
   rw[z]at h
   cases z2:vM e ds fs with
   |none=>simp[z2]at h
   |some cs=>
    simp[z2]at h;subst h
    cases j with
    |zero=>simp at h1 h2;subst h1 h2;simpa using z
    |succ j=>simpa using LT z2 (by simpa using h1) (by simpa using h2)
def range_all{bs:Yj}{n:Nat}(h:bs.length=n):(List.range n).all (λj=>bs.getD j true)=bs.all id:=by
 subst h;rw[Bool.eq_iff_iff,all_eq_true,all_eq_true];constructor
 .intro h x hx;obtain⟨i,hi,rfl⟩:=getElem_of_mem hx;have:=h i (mem_range.mpr hi);simpa [getD_eq_getElem?_getD,hi]using this
 .intro h i hi;have hi':=mem_range.mp hi;have:=h bs[i] (getElem_mem hi');simpa [getD_eq_getElem?_getD,hi']using this
variable{pins:Yi}{σ:St}{s:Shared}
def vN(I:Inv X pins σ H s){a:Addr}{xs ys:List V}(h:SqL X.K H a xs)(h':SqT X.K H a ys):False:=by obtain⟨_,_,pl,_⟩:=I.list h;obtain⟨_,_,pt,_⟩:=I.tuple h';obtain⟨o,n,e,c,_,_⟩:=pl;obtain⟨o',e',c',_⟩:=pt;rw[e]at e';cases e';rw[c]at c';exact absurd c' (by simp)
def Co(I:Inv X pins σ H s)(wd:Wd X.g α S H){e:MV->MV->Option Bool}(he: ∀d f v k,Den X.K α H d v->Den X.K α H f v->e d f=some k->k=true){a b:Er}{x:V}{p q:Vw}{k:Bool}
  (ha:HP S a=some p) (hb:HP S b=some q) (da:DenX X.K α H a x) (db:DenX X.K α H b x) (h:Jr e p q=some k):k=true:=by
 have hp: ∀{ds es:Zd}{vs:List V}{bs:Yj},DenL X.K α H ds vs->DenL X.K α H es vs->vM e ds es=some bs->bs.all id=true:=by
  intro ds es vs bs l1 l2 z;rw[all_eq_true];intro k hk;obtain⟨i,hi,rfl⟩:=getElem_of_mem hk;have hl:=uD z;have h1:i<ds.length:=by omega
  have h2:i<es.length:=by omega
  obtain⟨v,g1,g2⟩:=l1.at (gE h1);obtain⟨v',g3,g4⟩:=l2.at (gE h2);rw[g1]at g3;cases g3;have:=he _ _ _ _ g2 g4 (LT z (gE h1) (gE h2));simpa [getD_eq_getElem?_getD,hi]using this
 cases p with
 |fl y=>
  obtain⟨rfl,f1⟩:=rO ha da
  cases q with
  |fl z=>obtain⟨rfl,f2⟩:=rO hb db;cases h;exact Cb f1
  |tp ds=>obtain⟨a,vs,rfl,_⟩:=rP hb db;exact absurd (show false=true from f1) xF0
  |ls ds=>obtain⟨a,vs,rfl,_⟩:=rQ wd hb db;exact absurd (show false=true from f1) xF0
 |tp ds=>
  obtain⟨a1,vs,rfl,s1,l1⟩:=rP ha da
  cases q with
  |fl z=>obtain⟨rfl,f2⟩:=rO hb db;exact absurd (show false=true from f2) xF0
  |tp es=>
   obtain⟨a2,us,e2,s2,l2⟩:=rP hb db;cases e2;cases I.tuple_inj s1 s2;rw[LR]at h
   cases z:vM e ds es with
   |none=>rw[z]at h;cases h
   |some bs=>
    rw[z]at h;cases h;show(bs.all id&&ds.length==es.length)=true;rw[hp l1 l2 z, <-l1.length, <-l2.length];simp
  |ls es=>obtain⟨a2,us,e2,s2,l2⟩:=rQ wd hb db;cases e2;exact(vN I s2 s1).elim
 |ls ds=>
  obtain⟨a1,vs,rfl,s1,l1⟩:=rQ wd ha da
  cases q with
  |fl z=>obtain⟨rfl,f2⟩:=rO hb db;exact absurd (show false=true from f2) xF0
  |tp es=>obtain⟨a2,us,e2,s2,l2⟩:=rP hb db;cases e2;exact(vN I s1 s2).elim
  |ls es=>
   obtain⟨a2,us,e2,s2,l2⟩:=rQ wd hb db;cases e2;cases I.list_inj s1 s2;rw[LS]at h;rw[iP (by rw[<-l1.length, <-l2.length])]at h
   cases z:vM e ds es with
   |none=>rw[z]at h;cases h
   |some bs=>rw[z]at h;cases h;exact hp l1 l2 z
theorem FO(I:Inv X pins σ H s)(wd:Wd X.g α S H): ∀(n:Nat)(d f:MV)(v:V)(k:Bool),Den X.K α H d v->Den X.K α H f v->eqv S n d f=some k->k=true
 |0,_,_,_,_,_,_,h=>by cases h
 |n+1,d,f,v,k,h1,h2,h=>by
  unfold eqv at h
  cases za:HP S (.val d)with
  |none=>rw[za]at h;cases h
  |some p=>
   cases zb:HP S (.val f)with
   |none=>rw[za,zb]at h;cases h
   |some q=>
    rw[za,zb]at h;exact Co I wd (FO I wd n) za zb (a:=.val d) (b:=.val f) h1 h2 h
def vO{e:MV->MV->Option Bool}{A:Around}(he: ∀d f x y u v k,Den X.K α H d x->Den X.K α H f y->RelV x u->RelV y v->e d f=some k->SeqAt.EqAt A s u v k)
  {ds es:Zd} {vs us:List V} {its its2:Yb} {bs:Yj} (l1:DenL X.K α H ds vs) (l2:DenL X.K α H es us) (r1:Vals vs its) (r2:Vals us its2) (z:vM e ds es=some bs):
  ∀j (h1:j<its.toArray.size) (h2:j<its2.toArray.size),SeqAt.EqAt A s its.toArray[j] its2.toArray[j] (bs.getD j true):=by
 intro j h1 h2;have g1:j<vs.length:=by rw[r1.length];simpa using h1
 have g2:j<us.length:=by rw[r2.length];simpa using h2
 obtain⟨d,d1,d2⟩:=l1.get (gE g1);obtain⟨f,f1,f2⟩:=l2.get (gE g2);obtain⟨u,u1,u2⟩:=r1.get (gE g1);obtain⟨v,v1,v2⟩:=r2.get (gE g2);have e1:its.toArray[j]=u:=by have:its[j]? =some (its[j]'(by simpa using h1)):=gE _;rw[u1]at this;simpa using(Option.some.inj this).symm
 have e2:its2.toArray[j]=v:=by have:its2[j]? =some (its2[j]'(by simpa using h2)):=gE _;rw[v1]at this;simpa using(Option.some.inj this).symm
 rw[e1,e2];exact he d f _ _ u v _ d2 f2 u2 v2 (LT z d1 f1)
theorem BG(I:Inv X pins σ H s)(wd:Wd X.g α S H): ∀(n:Nat)(A:Around)(d f:MV)(x y:V)(u v:Value)(k:Bool),A.units+n<cLine->Den X.K α H d x->Den X.K α H f y->RelV x u->RelV y v->eqv S n d f=some k->SeqAt.EqAt A s u v k
 |0,_,_,_,_,_,_,_,_,_,_,_,_,_,h=>by cases h
 |n+1,A,d,f,x,y,u,v,k,hu,h1,h2,rx,ry,h=>by
  have hu0:A.units<cLine:=by omega
  have hsame:=h;unfold eqv at h
  cases za:HP S (.val d)with
  |none=>rw[za]at h;cases h
  |some p=>
   cases zb:HP S (.val f)with
   |none=>rw[za,zb]at h;cases h
   |some q=>
    rw[za,zb]at h;have h:Jr (eqv S n) p q=some k:=h;have he:=λd f x y u v k a b c d' e=>BG I wd n A.in1 d f x y u v k (show A.units+1+n<cLine by omega) a b c d' e
    cases p with
    |fl x'=>
     obtain⟨rfl,fx⟩:=rO za (α:=α) (H:=H) (X:=X) h1
     cases q with
     |fl y'=>obtain⟨rfl,fy⟩:=rO zb (α:=α) (H:=H) (X:=X) h2;cases h;exact Qh rx ry fx fy
     |tp es=>
      obtain⟨b,us,rfl,s2,l2⟩:=rP zb (α:=α) (H:=H) (X:=X) h2;cases ry;cases h;obtain⟨its,_,pt,_⟩:=I.tuple s2;exact Vq rx fx pt hu0
     |ls es=>
      obtain⟨b,us,rfl,s2,l2⟩:=rQ wd zb h2;cases ry;cases h;obtain⟨its,_,pl,_⟩:=I.list s2;exact Vn rx fx pl.isList hu0
    |tp ds=>
     obtain⟨a,vs,rfl,s1,l1⟩:=rP za (α:=α) (H:=H) (X:=X) h1;cases rx;obtain⟨its,r1,pt,_⟩:=I.tuple s1
     cases q with
     |fl y'=>obtain⟨rfl,fy⟩:=rO zb (α:=α) (H:=H) (X:=X) h2;cases h;exact Vo ry fy pt hu0
     |tp es=>
      obtain⟨b,us,rfl,s2,l2⟩:=rP zb (α:=α) (H:=H) (X:=X) h2;cases ry;by_cases hab:a=b
      .subst hab;rw[FO I wd (n+1) d f _ k h1 h2 hsame];exact SeqAt.EqAt.same _
      .obtain⟨its2,r2,pt2,_⟩:=I.tuple s2;rw[LR]at h
       cases z:vM (eqv S n) ds es with
       |none=>rw[z]at h;cases h
       |some bs=>
        rw[z]at h;cases h;have:=SeqAt.RcAt.tuples pt pt2 hu0 (vO he l1 l2 r1 r2 z);have hl:=uD z;rw[range_all (by rw[hl];simp[<-r1.length, <-r2.length,l1.length,l2.length])]at this;have e3:(its.toArray.size==its2.toArray.size)=(ds.length==es.length):=by simp[<-r1.length, <-r2.length,l1.length,l2.length]
        rw[e3]at this;exact SeqAt.EqAt.of_refs hab this
     |ls es=>
      obtain⟨b,us,rfl,s2,l2⟩:=rQ wd zb h2;cases ry;cases h;obtain⟨its2,_,pl,_⟩:=I.list s2;exact SeqAt.EqAt.tuple_list pt pl.isList hu0
    |ls ds=>
     obtain⟨a,vs,rfl,s1,l1⟩:=rQ wd za h1;cases rx;obtain⟨its,r1,pl,_⟩:=I.list s1
     cases q with
     |fl y'=>obtain⟨rfl,fy⟩:=rO zb (α:=α) (H:=H) (X:=X) h2;cases h;exact Vm ry fy pl.isList hu0
     |tp es=>
      obtain⟨b,us,rfl,s2,l2⟩:=rP zb (α:=α) (H:=H) (X:=X) h2;cases ry;cases h;obtain⟨its2,_,pt,_⟩:=I.tuple s2;exact SeqAt.EqAt.list_tuple pl.isList pt hu0
     |ls es=>
      obtain⟨b,us,rfl,s2,l2⟩:=rQ wd zb h2;cases ry;by_cases hab:a=b
      .subst hab;rw[FO I wd (n+1) d f _ k h1 h2 hsame];exact SeqAt.EqAt.same _
      .obtain⟨its2,r2,pl2,_⟩:=I.list s2;rw[LS]at h;by_cases hl:ds.length=es.length
       .rw[iP hl]at h
        cases z:vM (eqv S n) ds es with
        |none=>rw[z]at h;cases h
        |some bs=>
         rw[z]at h;cases h;have hs:its.toArray.size=its2.toArray.size:=by simp[<-r1.length, <-r2.length,l1.length,l2.length,hl]
         have:=SeqAt.RcAt.lists pl.isList pl2.isList hs hu0 (vO he l1 l2 r1 r2 z);have hl':=uD z;rw[range_all (by rw[hl'];simp[<-r1.length,l1.length,hl])]at this;exact SeqAt.EqAt.of_refs hab this
       .rw[iN0 hl]at h;cases h;exact SeqAt.EqAt.of_refs hab (SeqAt.RcAt.lists_lengths pl.isList pl2.isList (by simpa [<-r1.length, <-r2.length,l1.length,l2.length]using hl) hu0)
def Ny{RC:Around->Shared->Value->Value->Bool->Prop}{tr:Bool->Bool}{A:Around}
  (hff: ∀x y u v,RelV x u->RelV y v->jG x=true->jG y=true->RC A s u v (tr (Iw x y)))
  (hfl: ∀x v l items,RelV x v->jG x=true->s.heap.IsList l items->A.units<cLine->RC A s v (.ref l) (tr false)/\RC A s (.ref l) v (tr false))
  (hft: ∀x v l items,RelV x v->jG x=true->s.heap.IsTuple l items->A.units<cLine->RC A s v (.ref l) (tr false)/\RC A s (.ref l) v (tr false))
  (hlt: ∀l b items items2,s.heap.IsList l items->s.heap.IsTuple b items2->A.units<cLine->RC A s (.ref l) (.ref b) (tr false)/\RC A s (.ref b) (.ref l) (tr false))
  (htt: ∀(l b:Addr)(items items2:Yc)(e:Nat->Bool),s.heap.IsTuple l items->s.heap.IsTuple b items2->A.units<cLine->(∀j (h1:j<items.size) (h2:j<items2.size),SeqAt.EqAt A.in1 s items[j] items2[j] (e j))->RC A s (.ref l) (.ref b) (tr ((List.range (min items.size items2.size)).all e&&items.size==items2.size)))
  (hll: ∀(l b:Addr)(items items2:Yc)(e:Nat->Bool),s.heap.IsList l items->s.heap.IsList b items2->items.size=items2.size->A.units<cLine->(∀j (h1:j<items.size) (h2:j<items2.size),SeqAt.EqAt A.in1 s items[j] items2[j] (e j))->RC A s (.ref l) (.ref b) (tr ((List.range items.size).all e)))
  (hln: ∀(l b:Addr)(items items2:Yc),s.heap.IsList l items->s.heap.IsList b items2->(items.size !=items2.size)=true->A.units<cLine->RC A s (.ref l) (.ref b) (tr false))
  (I:Inv X pins σ H s) (wd:Wd X.g α S H) (n:Nat) {a b:Er} {x y:V} {u v:Value} {k:Bool} (hu:A.units+(n+1)<cLine) (h1:DenX X.K α H a x) (h2:DenX X.K α H b y) (rx:RelV x u) (ry:RelV y v) (h:HY S n a b=some k):RC A s u v (tr k):=by
 have hu0:A.units<cLine:=by omega
 unfold HY at h
 cases za:HP S a with
 |none=>rw[za]at h;cases h
 |some p=>
  cases zb:HP S b with
  |none=>rw[za,zb]at h;cases h
  |some q=>
   rw[za,zb]at h;have h:Jr (eqv S n) p q=some k:=h;have he:=λd f x y u v k a b c d' e=>BG I wd n A.in1 d f x y u v k (show A.units+1+n<cLine by omega) a b c d' e
   cases p with
   |fl x'=>
    obtain⟨rfl,fx⟩:=rO za h1
    cases q with
    |fl y'=>obtain⟨rfl,fy⟩:=rO zb h2;cases h;exact hff _ _ _ _ rx ry fx fy
    |tp es=>
     obtain⟨b,us,rfl,s2,l2⟩:=rP zb h2;cases ry;cases h;obtain⟨its,_,pt,_⟩:=I.tuple s2;exact(hft _ _ _ _ rx fx pt hu0).1
    |ls es=>
     obtain⟨b,us,rfl,s2,l2⟩:=rQ wd zb h2;cases ry;cases h;obtain⟨its,_,pl,_⟩:=I.list s2;exact(hfl _ _ _ _ rx fx pl.isList hu0).1
   |tp ds=>
    obtain⟨a,vs,rfl,s1,l1⟩:=rP za h1;cases rx;obtain⟨its,r1,pt,_⟩:=I.tuple s1
    cases q with
    |fl y'=>obtain⟨rfl,fy⟩:=rO zb h2;cases h;exact(hft _ _ _ _ ry fy pt hu0).2
    |tp es=>
     obtain⟨b,us,rfl,s2,l2⟩:=rP zb h2;cases ry;obtain⟨its2,r2,pt2,_⟩:=I.tuple s2;rw[LR]at h
     cases z:vM (eqv S n) ds es with
     |none=>rw[z]at h;cases h
     |some bs=>
      rw[z]at h;cases h;have:=htt _ _ _ _ _ pt pt2 hu0 (vO he l1 l2 r1 r2 z);have hl:=uD z;rw[range_all (by rw[hl];simp[<-r1.length, <-r2.length,l1.length,l2.length])]at this;have e3:(its.toArray.size==its2.toArray.size)=(ds.length==es.length):=by simp[<-r1.length, <-r2.length,l1.length,l2.length]
      rw[e3]at this;exact this
    |ls es=>
     obtain⟨b,us,rfl,s2,l2⟩:=rQ wd zb h2;cases ry;cases h;obtain⟨its2,_,pl,_⟩:=I.list s2;exact(hlt _ _ _ _ pl.isList pt hu0).2
   |ls ds=>
    obtain⟨a,vs,rfl,s1,l1⟩:=rQ wd za h1;cases rx;obtain⟨its,r1,pl,_⟩:=I.list s1
    cases q with
    |fl y'=>obtain⟨rfl,fy⟩:=rO zb h2;cases h;exact(hfl _ _ _ _ ry fy pl.isList hu0).2
    |tp es=>
     obtain⟨b,us,rfl,s2,l2⟩:=rP zb h2;cases ry;cases h;obtain⟨its2,_,pt,_⟩:=I.tuple s2;exact(hlt _ _ _ _ pl.isList pt hu0).1
    |ls es=>
     obtain⟨b,us,rfl,s2,l2⟩:=rQ wd zb h2;cases ry;obtain⟨its2,r2,pl2,_⟩:=I.list s2;rw[LS]at h;by_cases hl:ds.length=es.length
     .rw[iP hl]at h
      cases z:vM (eqv S n) ds es with
      |none=>rw[z]at h;cases h
      |some bs=>
       rw[z]at h;cases h;have hs:its.toArray.size=its2.toArray.size:=by simp[<-r1.length, <-r2.length,l1.length,l2.length,hl]
       have:=hll _ _ _ _ _ pl.isList pl2.isList hs hu0 (vO he l1 l2 r1 r2 z);have hl':=uD z;rw[range_all (by rw[hl'];simp[<-r1.length,l1.length,hl])]at this;exact this
     .rw[iN0 hl]at h;cases h;exact hln _ _ _ _ pl.isList pl2.isList (by simpa [<-r1.length, <-r2.length,l1.length,l2.length]using hl) hu0
def Qw(I:Inv X pins σ H s)(wd:Wd X.g α S H)(n:Nat){A:Around}{a b:Er}{x y:V}{u v:Value}{k:Bool}(hu:A.units+(n+1)<cLine)(h1:DenX X.K α H a x)(h2:DenX X.K α H b y)(rx:RelV x u)(ry:RelV y v)(h:HY S n a b=some k):SeqAt.RcAt A s u v k:=
 Ny (RC:=SeqAt.RcAt) (tr:=id) (λ_ _ _ _ a b c d=>Qo a b c d) (λ_ _ _ _ a b c d=>⟨Vs a b c d,Vr a b c d⟩) (λ_ _ _ _ a b c d=>⟨Vu a b c d,Vt a b c d⟩)
  (λ_ _ _ _ a b c=>⟨SeqAt.RcAt.list_tuple a b c,SeqAt.RcAt.tuple_list b a c⟩) (λ_ _ _ _ _ a b c d=>SeqAt.RcAt.tuples a b c d) (λ_ _ _ _ _ a b c d e=>SeqAt.RcAt.lists a b c d e) (λ_ _ _ _ a b c d=>SeqAt.RcAt.lists_lengths a b c d)
  I wd n hu h1 h2 rx ry h
def Qx(I:Inv X pins σ H s)(wd:Wd X.g α S H)(n:Nat){A:Around}{a b:Er}{x y:V}{u v:Value}{k:Bool}(hu:A.units+(n+1)<cLine)(h1:DenX X.K α H a x)(h2:DenX X.K α H b y)(rx:RelV x u)(ry:RelV y v)(h:HY S n a b=some k):SeqAt.RcNeAt A s u v (!k):=
 Ny (RC:=SeqAt.RcNeAt) (tr:=λb=>!b) (λ_ _ _ _ a b c d=>Qp a b c d) (λ_ _ _ _ a b c d=>⟨Vx a b c d,Vv a b c d⟩) (λ_ _ _ _ a b c d=>⟨Vz a b c d,Vy a b c d⟩)
  (λ_ _ _ _ a b c=>⟨SeqAt.RcNeAt.list_tuple a b c,SeqAt.RcNeAt.tuple_list b a c⟩) (λ_ _ _ _ _ a b c d=>SeqAt.RcNeAt.tuples a b c d) (λ_ _ _ _ _ a b c d e=>SeqAt.RcNeAt.lists a b c d e) (λ_ _ _ _ a b c d=>SeqAt.RcNeAt.lists_lengths a b c d)
  I wd n hu h1 h2 rx ry h
theorem VN{α β:Type}: ∀{a c:List α}{b d:List β},a.length=b.length->c.length=d.length->a.zip b=c.zip d->a=c/\b=d
 |[],[],[],[],_,_,_=>⟨rfl,rfl⟩
 |[],_::_,[],_::_,_,_,e=>by simp at e
 |_::_,[],_::_,[],_,_,e=>by simp at e
 |x::a,y::c,z::b,w::d,h1,h2,e=>by simp only[zip_cons_cons,List.cons.injEq,Prod.mk.injEq]at e;obtain⟨rfl,rfl⟩:=VN (by simpa using h1) (by simpa using h2) e.2;exact⟨by rw[e.1.1],by rw[e.1.2]⟩
mutual
theorem Den.inj(I:Inv X pins σ H s)(wd:Wd X.g α S H): ∀{d f:MV}{v:V},Den X.K α H d v->Den X.K α H f v->d=f
 |.non,f,v,h,h'=>by cases aY h;cases f<;>first |rfl|(have:=mQ h';cases this;done)|(have:=xK h';cases this;done)|(have:=wV h';cases this;done)|(have:=aZ h';cases this;done)|(obtain⟨_,_,e,_⟩:=wG h';cases e;done)|(obtain⟨_,_,e,_⟩:=dU h';cases e;done)|(obtain⟨_,e,_⟩:=bV h';cases e;done)|(obtain⟨_,_,_,_,_,e,_⟩:=dS h';cases e;done)
 |.bl b,f,v,h,h'=>by cases mQ h;cases f<;>first |(have:=mQ h';cases this;rfl;done)|(have:=aY h';cases this;done)|(have:=xK h';cases this;done)|(have:=wV h';cases this;done)|(have:=aZ h';cases this;done)|(obtain⟨_,_,e,_⟩:=wG h';cases e;done)|(obtain⟨_,_,e,_⟩:=dU h';cases e;done)|(obtain⟨_,e,_⟩:=bV h';cases e;done)|(obtain⟨_,_,_,_,_,e,_⟩:=dS h';cases e;done)
 |.int b,f,v,h,h'=>by cases xK h;cases f<;>first |(have:=xK h';cases this;rfl;done)|(have:=aY h';cases this;done)|(have:=mQ h';cases this;done)|(have:=wV h';cases this;done)|(have:=aZ h';cases this;done)|(obtain⟨_,_,e,_⟩:=wG h';cases e;done)|(obtain⟨_,_,e,_⟩:=dU h';cases e;done)|(obtain⟨_,e,_⟩:=bV h';cases e;done)|(obtain⟨_,_,_,_,_,e,_⟩:=dS h';cases e;done)
 |.str b,f,v,h,h'=>by cases wV h;cases f<;>first |(have:=wV h';rw[EK (V.str.inj this)];done)|(have:=aY h';cases this;done)|(have:=mQ h';cases this;done)|(have:=xK h';cases this;done)|(have:=aZ h';cases this;done)|(obtain⟨_,_,e,_⟩:=wG h';cases e;done)|(obtain⟨_,_,e,_⟩:=dU h';cases e;done)|(obtain⟨_,e,_⟩:=bV h';cases e;done)|(obtain⟨_,_,_,_,_,e,_⟩:=dS h';cases e;done)
 |.typ b,f,v,h,h'=>by cases aZ h;cases f<;>first |(have:=aZ h';cases this;rfl;done)|(have:=aY h';cases this;done)|(have:=mQ h';cases this;done)|(have:=xK h';cases this;done)|(have:=wV h';cases this;done)|(obtain⟨_,_,e,_⟩:=wG h';cases e;done)|(obtain⟨_,_,e,_⟩:=dU h';cases e;done)|(obtain⟨_,e,_⟩:=bV h';cases e;done)|(obtain⟨_,_,_,_,_,e,_⟩:=dS h';cases e;done)
 |.tup ds,f,v,h,h'=>by
  obtain⟨a,vs,rfl,s1,l1⟩:=wG h
  cases f with
  |tup es=>
   obtain⟨a2,us,e2,s2,l2⟩:=wG h';cases e2;cases I.tuple_inj s1 s2;rw[DenL.inj I wd l1 l2]
  |scr es=>obtain⟨a2,us,e2,s2,l2⟩:=dU h';cases e2;exact(vN I s2.l s1).elim
  |loc l=>
   obtain⟨a2,e2,h2⟩:=bV h';cases e2;obtain⟨ho,k1,k2,k3⟩:=wd.mem (mem_of_getElem? h2);rcases s1 with(s1|⟨o,s1⟩)|⟨o,its,n,s1,_⟩
   .rw[k1]at s1;exact absurd (Option.some.inj s1) (k2 _)
   .rw[k1]at s1;exact(let ⟨_,z⟩:=k3 _ _ (Option.some.inj s1);by cases z)
   .have:=(I.bs a o (I.mod.kin a o s1)).2;rw[k1]at this;cases this
  |non=>cases aY h'
  |bl b=>cases mQ h'
  |int b=>cases xK h'
  |str b=>cases wV h'
  |typ b=>cases aZ h'
  |obj c ns es=>
   obtain⟨a2,C,dx,us,o2,e2,h2,_⟩:=dS h';cases e2;rcases s1 with(s1|⟨o,s1⟩)|⟨o,its,n,s1,_⟩
   .rw[h2]at s1;cases s1
   .rw[h2]at s1;cases s1
   .have:=(I.bs a o (I.mod.kin a o s1)).2;rw[h2]at this;cases this
 |.scr ds,f,v,h,h'=>by
  obtain⟨a,vs,rfl,s1,l1⟩:=dU h
  cases f with
  |scr es=>
   obtain⟨a2,us,e2,s2,l2⟩:=dU h';cases e2;cases I.list_inj s1.l s2.l;rw[DenL.inj I wd l1 l2]
  |tup es=>obtain⟨a2,us,e2,s2,l2⟩:=wG h';cases e2;exact(vN I s1.l s2).elim
  |loc l=>
   obtain⟨a2,e2,h2⟩:=bV h';cases e2;obtain⟨ho,k1,k2,k3⟩:=wd.mem (mem_of_getElem? h2);rcases s1 with⟨o,s1⟩|⟨o,its,n,s1,_⟩
   .rw[k1]at s1;exact(let ⟨_,z⟩:=k3 _ _ (Option.some.inj s1);by cases z)
   .have:=(I.bs a o (I.mod.kin a o s1)).2;rw[k1]at this;cases this
  |non=>cases aY h'
  |bl b=>cases mQ h'
  |int b=>cases xK h'
  |str b=>cases wV h'
  |typ b=>cases aZ h'
  |obj c ns es=>
   obtain⟨a2,C,dx,us,o2,e2,h2,_⟩:=dS h';cases e2;rcases s1 with⟨o,s1⟩|⟨o,its,n,s1,_⟩
   .rw[h2]at s1;cases s1
   .have:=(I.bs a o (I.mod.kin a o s1)).2;rw[h2]at this;cases this
 |.loc l,f,v,h,h'=>by
  obtain⟨a,rfl,h1⟩:=bV h;obtain⟨ho,k1,k2,k3⟩:=wd.mem (mem_of_getElem? h1)
  cases f with
  |loc m=>
   obtain⟨a2,e2,h2⟩:=bV h';cases e2;by_cases hlm:l=m
   .rw[hlm]
   .exact absurd rfl (wd.ne h1 h2 hlm)
  |tup es=>
   obtain⟨a2,us,e2,s1,l2⟩:=wG h';cases e2;rcases s1 with(s1|⟨o,s1⟩)|⟨o,its,n,s1,_⟩
   .rw[k1]at s1;exact absurd (Option.some.inj s1) (k2 _)
   .rw[k1]at s1;exact(let ⟨_,z⟩:=k3 _ _ (Option.some.inj s1);by cases z)
   .have:=(I.bs a o (I.mod.kin a o s1)).2;rw[k1]at this;cases this
  |scr es=>
   obtain⟨a2,us,e2,s1,l2⟩:=dU h';cases e2;rcases s1 with⟨o,s1⟩|⟨o,its,n,s1,_⟩
   .rw[k1]at s1;exact(let ⟨_,z⟩:=k3 _ _ (Option.some.inj s1);by cases z)
   .have:=(I.bs a o (I.mod.kin a o s1)).2;rw[k1]at this;cases this
  |non=>cases aY h'
  |bl b=>cases mQ h'
  |int b=>cases xK h'
  |str b=>cases wV h'
  |typ b=>cases aZ h'
  |obj c ns es=>
   obtain⟨a2,C,dx,us,o2,e2,h2,_⟩:=dS h';cases e2;rw[k1]at h2;exact(let ⟨_,z⟩:=k3 _ _ (Option.some.inj h2);by cases z)
 |.obj c ns ds,f,v,h,h'=>by
  obtain⟨a,C,dx,us,o2,rfl,h2,hn,hc,hl,l1⟩:=dS h
  cases f with
  |obj c' ns' es=>
   obtain⟨a2,C2,dx2,us2,o3,e2,h3,hn2,hc2,hl2,l2⟩:=dS h';cases e2;rw[h2]at h3;injection h3 with h3
   injection h3 with _ h3
   injection h3 with e1 e2 e3
   subst e1;rw[hc]at hc2;cases hc2;obtain⟨rfl,rfl⟩:=VN hl hl2 e3;rw[DenL.inj I wd l1 l2]
  |tup es=>
   obtain⟨a2,us,e2,s1,l2⟩:=wG h';cases e2;rcases s1 with(s1|⟨o,s1⟩)|⟨o,its,n,s1,_⟩
   .rw[h2]at s1;cases s1
   .rw[h2]at s1;cases s1
   .have:=(I.bs a o (I.mod.kin a o s1)).2;rw[h2]at this;cases this
  |scr es=>
   obtain⟨a2,us,e2,s1,l2⟩:=dU h';cases e2;rcases s1 with⟨o,s1⟩|⟨o,its,n,s1,_⟩
   .rw[h2]at s1;cases s1
   .have:=(I.bs a o (I.mod.kin a o s1)).2;rw[h2]at this;cases this
  |loc l=>
   obtain⟨a2,e2,h1⟩:=bV h';cases e2;obtain⟨ho,k1,k2,k3⟩:=wd.mem (mem_of_getElem? h1);rw[k1]at h2;exact(let ⟨_,z⟩:=k3 _ _ (Option.some.inj h2);by cases z)
  |non=>cases aY h'
  |bl b=>cases mQ h'
  |int b=>cases xK h'
  |str b=>cases wV h'
  |typ b=>cases aZ h'
theorem DenL.inj(I:Inv X pins σ H s)(wd:Wd X.g α S H): ∀{ds fs:Zd}{vs:List V},DenL X.K α H ds vs->DenL X.K α H fs vs->ds=fs
 |[],fs,vs,h,h'=>by
  cases h.isnil
  cases fs with
  |nil=>rfl
  |cons f fs=>obtain⟨_,_,e,_⟩:=h'.uncons;cases e
 |d::ds,fs,vs,h,h'=>by
  obtain⟨v,r,rfl,a,l⟩:=h.uncons
  cases fs with
  |nil=>cases h'.isnil
  |cons f fs=>
   obtain⟨v',r',e,a',l'⟩:=h'.uncons;cases e;rw[Den.inj I wd a a',DenL.inj I wd l l']
end

end
inductive LexR(A:Around)(s:Shared):List Value->List Value->Bool->Prop
 |nn:LexR A s [] [] false
 |nc (x xs):LexR A s [] (x::xs) true
 |cn (y ys):LexR A s (y::ys) [] false
 |eq {y x ys xs k}:SeqAt.EqAt A s y x true->LexR A s ys xs k->LexR A s (y::ys) (x::xs) k
 |ne {y x ys xs k}:SeqAt.EqAt A s y x false->(∀(prog:Program)(w:World)(E Q:VP),Q (.bool k) s->wpAny (model prog w) A (richCompare .Lt y x) Q E s)->LexR A s (y::ys) (x::xs) k
section
open PySem.SeqAt
open PySem.AutoSeq1 (wpAny_loadPart')
open PySem.MeetsSeq PySem.MeetsSeq2 PySem.MeetsSeq3
def SX(l b:Addr)(its its2:Yc)(n n2:Nat)(dd dd2:Option Addr)(sl sl2:Array (Option Value))(k:Bool):
  Meets (Builtin.«tuple.__lt__» ⟨[.ref l,.ref b],[]⟩)
   (λA R s=>s.heap.get? l=some {cls:=.type "tuple",dict:=dd,data:=.seq its n,slots:=sl}/\s.heap.get? b=some {cls:=.type "tuple",dict:=dd2,data:=.seq its2 n2,slots:=sl2}/\
    LexR A.in1 s its.toList its2.toList k/\R (.ok (.ret (.bool k))) s):=
 .of_wp λprog w A R s h=>by
  obtain⟨hp,g,d,tk,os⟩:=s;obtain⟨hl,hb,hx,h⟩:=h;have f2:=AutoSeq1.sub_tuple_tuple
  wp_walk using wpAny_loadPart' hl,wpAny_loadPart' hb,wpAny_forIn_list _ (λrest b s'=>b.1=none/\s'=⟨hp,g,d,tk,os⟩/\ ∃(vs ws:Yb),rest=vs.zip ws/\
   LexR A.in1 ⟨hp,g,d,tk,os⟩ vs ws k/\vs.length+its2.size=ws.length+its.size) _
  case turn=>
   rintro⟨y,x⟩ rest b s' ⟨hb',rfl,vs,ws,hz,hlx,hlen⟩
   cases hlx with
   |nn=>rw[zip_nil_left]at hz;cases hz
   |nc x xs=>rw[zip_nil_left]at hz;cases hz
   |cn y ys=>rw[List.zip_nil_right]at hz;cases hz
   |@eq y' x' ys xs k' he hr=>
    rw[zip_cons_cons]at hz;injection hz with hyx hrest
    injection hyx with hy hx
    subst hy hx;simp only[lC0]at hlen;refine wB (he prog w _ _ ?_)
    wp_walk
    exact⟨rfl,rfl,_,_,hrest,hr,by omega⟩
   |@ne y' x' ys xs k' he hr=>
    rw[zip_cons_cons]at hz;injection hz with hyx hrest
    injection hyx with hy hx
    subst hy hx;refine wB (he prog w _ _ ?_);have hri:=hr prog w
    wp_walk using hri
    exact⟨_,rfl,by simpa using h⟩
  case fin=>
   rintro⟨b1,b2⟩ s' ⟨hb',rfl,vs,ws,hz,hlx,hlen⟩;simp only at hb';subst hb'
   have hv:k=decide (its.size<its2.size):=by
    cases hlx with
    |nn=>simp only[length_nil]at hlen;exact(dF0 (by omega)).symm
    |nc x xs=>simp only[length_nil,lC0]at hlen;exact(dT0 (by omega)).symm
    |cn y ys=>simp only[length_nil,lC0]at hlen;exact(dF0 (by omega)).symm
    |eq he hr=>rw[zip_cons_cons]at hz;cases hz
    |ne he hr=>rw[zip_cons_cons]at hz;cases hz
   rw[hv]at h
   wp_walk
   exact⟨_,rfl,by simpa [Builtin.Tuple.tupleCompareSizes]using h⟩
  case h=>
   exact⟨rfl,rfl,its.toList,its2.toList,rfl,hx,by simp;omega⟩
end
def Cp{A:Around}{s:Shared}{l b:Addr}{its its2:Yc}{k:Bool}(hl:IsTup s.heap l its)(hb:IsTup s.heap b its2)(hx:LexR A.in1 s its.toList its2.toList k)(hu:A.units<cLine)(prog:Program)(w:World)(E Q:VP)(h:Q (.bool k) s):
  wpAny (model prog w) A (richCompare .Lt (.ref l) (.ref b)) Q E s:=by
 obtain⟨⟨cls,dd,data,sl⟩,ho,hc,n,hd⟩:=id hl;obtain⟨⟨cls2,dd2,data2,sl2⟩,ho2,hc2,n2,hd2⟩:=id hb;simp only at hc hd hc2 hd2;subst hc hd hc2 hd2
 exact richCompare_meets_room (op:=.Lt) ⟨_,ho,rfl⟩ ⟨_,ho2,rfl⟩ PySem.F.slot_tuple_lt PySem.F.entry_tuple_lt (PySem.F.args_tuple_lt_2 _ _) (SX l b its its2 n n2 dd dd2 sl sl2 k)
  ⟨ho,ho2,hx,show Value.bool k≠Value.notImplemented/\Q (.bool k) s from⟨(λx=>nomatch x),h⟩⟩ hu
def SY(e l:MV->MV->Option Bool):List MV->List MV->Option Bool
 |[],[]=>some false
 |[],_::_=>some true
 |_::_,[]=>some false
 |d::ds,f::fs=>(e d f).bind λk=>if k=true then SY e l ds fs else l d f
def DF(S:zC):Nat->MV->MV->Option Bool
 |0,_,_=>none
 |n+1,.int i,.int j=>some (decide (i<j))
 |n+1,.str x,.str y=>some (decide (x<y))
 |n+1,.tup ds,.tup es=>SY (eqv S n) (DF S n) ds es
 |_,_,_=>none
section
variable{X:Cx}{α:Yd}{S:zC}{H:Hp}{pins:Yi}{σ:St}{s:Shared}
theorem Cq{A:Around}{e l:MV->MV->Option Bool}(he: ∀d f x y u v k,Den X.K α H d x->Den X.K α H f y->RelV x u->RelV y v->e d f=some k->SeqAt.EqAt A s u v k)
  (hl: ∀d f x y u v k,Den X.K α H d x->Den X.K α H f y->RelV x u->RelV y v->l d f=some k-> ∀(prog:Program)(w:World)(E Q:VP),Q (.bool k) s->wpAny (model prog w) A (richCompare .Lt u v) Q E s):
  ∀{ds fs:Zd}{vs us:List V}{its its2:Yb}{k:Bool},DenL X.K α H ds vs->DenL X.K α H fs us->Vals vs its->Vals us its2->SY e l ds fs=some k->LexR A s its its2 k
 |[],[],_,_,_,_,k,l1,l2,r1,r2,h=>by cases l1.isnil;cases l2.isnil;cases r1;cases r2;cases h;exact .nn
 |[],f::fs,_,_,_,_,k,l1,l2,r1,r2,h=>by
  cases l1.isnil;obtain⟨v,r,rfl,a,l⟩:=l2.uncons;cases r1
  cases r2 with
  |cons a b=>cases h;exact .nc _ _
 |d::ds,[],_,_,_,_,k,l1,l2,r1,r2,h=>by
  cases l2.isnil;obtain⟨v,r,rfl,a,l⟩:=l1.uncons;cases r2
  cases r1 with
  |cons a b=>cases h;exact .cn _ _
 |d::ds,f::fs,_,_,_,_,k,l1,l2,r1,r2,h=>by
  obtain⟨v,r,rfl,a,l1'⟩:=l1.uncons;obtain⟨v2,r3,rfl,a2,l2'⟩:=l2.uncons
  cases r1 with
  |cons b1 c1=>
   cases r2 with
   |cons b2 c2=>
    unfold SY at h
    cases z:e d f with
    |none=>rw[z]at h;cases h
    |some kk=>
     rw[z]at h;have h:(if kk=true then SY e l ds fs else l d f)=some k:=h
     cases kk with
     |true=>
      rw[iP rfl]at h;exact .eq (he d f _ _ _ _ _ a a2 b1 b2 z) (Cq he hl l1' l2' c1 c2 h)
     |false=>
      rw[iN0 xF0]at h;exact .ne (he d f _ _ _ _ _ a a2 b1 b2 z) (hl d f _ _ _ _ _ a a2 b1 b2 h)
theorem SZ(I:Inv X pins σ H s)(wd:Wd X.g α S H): ∀(n:Nat)(A:Around)(d f:MV)(x y:V)(u v:Value)(k:Bool),A.units+n<cLine->Den X.K α H d x->Den X.K α H f y->RelV x u->RelV y v->DF S n d f=some k->
  ∀(prog:Program)(w:World)(E Q:VP),Q (.bool k) s->wpAny (model prog w) A (richCompare .Lt u v) Q E s
 |0,_,_,_,_,_,_,_,_,_,_,_,_,_,h=>by cases h
 |n+1,A,d,f,x,y,u,v,k,hu,h1,h2,rx,ry,h=>by
  intro prog w E Q hq;unfold DF at h;split at h
  .cases h
  .cases h;cases xK h1;cases xK h2;obtain⟨t,rfl⟩:=rx;obtain⟨t',rfl⟩:=ry;exact(PyProof.Rows.lt_int hq:wpAny (model prog w) A (compareOp .Lt _ _) Q E s)
  .cases h;cases wV h1;cases wV h2;obtain⟨t,rfl⟩:=rx;obtain⟨t',rfl⟩:=ry;refine(PySem.P.lt_str ?_:wpAny (model prog w) A (compareOp .Lt _ _) Q E s);rw[uA,uA];exact hq
  .rename_i n' ds es hn;obtain⟨a,vs,rfl,s1,l1⟩:=wG h1;obtain⟨b,us,rfl,s2,l2⟩:=wG h2;cases rx;cases ry;obtain⟨its,r1,pt,_⟩:=I.tuple s1;obtain⟨its2,r2,pt2,_⟩:=I.tuple s2;cases hn;refine Cp pt pt2 ?_ (by omega) prog w E Q hq
   exact Cq (λd f x y u v k a b c d' e=>BG I wd n A.in1 d f x y u v k (show A.units+1+n<cLine by omega) a b c d' e)
    (λd f x y u v k a b c d' e=>SZ I wd n A.in1 d f x y u v k (show A.units+1+n<cLine by omega) a b c d' e) l1 l2 r1 r2 h
  .cases h
end
section
variable{X:Cx}{W:XW}{a b c e:Expr}{es:Za}{f g h:zK->zC->R Er}{pos:Pos}
def Nz(C:Int->Int->Prop)[∀i j,Decidable (C i j)](g:Int->Int->Int):Er->Er->zC->R Er
 |.val (.int i),.val (.int j),S=>if C i j then .ok (.val (.int (g i j))) S else .no
 |_,_,_=>.no
def ibF(g:Int->Int->Bool):Er->Er->zC->R Er
 |.val (.int i),.val (.int j),S=>.ok (.val (.bl (g i j))) S
 |_,_,_=>.no
def TC{C C':Int->Int->Prop}[∀i j,Decidable (C i j)]{g:Int->Int->Int}(h: ∀i j,C i j->C' i j):ZJ X W (rI C' λi j=>.int (g i j)) (Nz C g):=by
 intro p q x y α S H Q wd dp dq post;unfold Nz at post;split at post
 .split at post
  .rename_i hc;exact⟨_,_,xO dp,xO dq,h _ _ hc,Post.val post wd (xB _)⟩
  .exact post.elim
 .exact post.elim
def Js{g:Int->Int->Int}:ZJ X W (Xp λi j=>.int (g i j)) (Nz (λ_ _=>True) g):=by
 intro p q x y α S H Q wd dp dq post;unfold Nz at post;split at post
 .rw[iP trivial]at post;exact⟨_,_,xO dp,xO dq,Post.val post wd (xB _)⟩
 .exact post.elim
abbrev DS:=Nz (λ_ _=>True) λi j=>i - j
def BH(ha:yR X W a f)(hb:yR X W b g):yR X W (.BinOp a .Sub b pos) (λρ S=>(f ρ S).bind λp S1=>(g ρ S1).bind λq S2=>DS p q S2):=JM Pw Js ha hb
def TD(_ j:Int):Prop:=0<j/\j.natAbs.log2<9000
instance(i j:Int):Decidable (TD i j):=inferInstanceAs (Decidable (_/\_))
abbrev jD:=Nz TD λi j=>i / j
def Cr:OpR X (binaryOp .FloorDiv) (rI TD λi j=>.int (i / j)):=Xq λi j _ _ _ _ _ hc q=>by have e:i.fdiv j=i / j:=Int.fdiv_eq_ediv_of_nonneg i (Int.le_of_lt hc.1);refine floordiv_int (by have:=hc.1;omega) ?_ (.inl (PyProof.noPylong_of_log2 hc.2));rw[e];exact q
def yW(ha:yR X W a f)(hb:yR X W b g):yR X W (.BinOp a .FloorDiv b pos) (λρ S=>(f ρ S).bind λp S1=>(g ρ S1).bind λq S2=>jD p q S2):=JM Cr (TC λi j h=>h) ha hb
abbrev wW:=Nz (λ_ j=>0<j) λi j=>i % j
def yG(ha:yR X W a f)(hb:yR X W b g):yR X W (.BinOp a .Mod b pos) (λρ S=>(f ρ S).bind λp S1=>(g ρ S1).bind λq S2=>wW p q S2):=JM Px (TC λi j h=>h) ha hb
def ZP(i j:Int):Prop:=0<=j/\(Builtin.Int.intBits i:Int) * j<=2 ^ 27
instance(i j:Int):Decidable (ZP i j):=inferInstanceAs (Decidable (_/\_))
abbrev DT:=Nz ZP λi j=>i ^ j.toNat
def Jt:OpR X (binaryOp .Pow) (rI ZP λi j=>.int (i ^ j.toNat)):=Xq λ_ _ _ _ _ _ _ hc q=>pow_int hc.1 hc.2 q
def FP(ha:yR X W a f)(hb:yR X W b g):yR X W (.BinOp a .Pow b pos) (λρ S=>(f ρ S).bind λp S1=>(g ρ S1).bind λq S2=>DT p q S2):=JM Jt (TC λi j h=>h) ha hb
def shlC(i j:Int):Prop:=0<=j/\j<=1000000/\i.natAbs<2 ^ 64
instance(i j:Int):Decidable (shlC i j):=inferInstanceAs (Decidable (_/\_/\_))
def usubF:Er->zC->R Er
 |.val (.int i),S=>.ok (.val (.int (-i))) S
 |_,_=>.no
def VO(S:zC):Er->Option (List MV)
 |.new ds=>some ds
 |.val (.loc l)=>match S[l]? with
  |some (.lst ds)=>some ds
  |_=>none
 |_=>none
def LU{α:Yd}{S:zC}{H:Hp}(wd:Wd X.g α S H){r:Er}{ds:Zd}{x:V}(e:VO S r=some ds)(d:DenX X.K α H r x): ∃a vs,x=.ref a/\H a=some (.lst vs)/\DenL X.K α H ds vs:=by
 unfold VO at e;split at e
 .cases e;obtain⟨b,vs,rfl,h,_,l⟩:=d;exact⟨b,vs,rfl,h,l⟩
 .rename_i n;obtain⟨a,rfl,h⟩:=eB d;split at e
  .rename_i es hS;cases e;obtain⟨vs,h1,l⟩:=wd.obj n a _ h hS;exact⟨a,vs,rfl,h1,l⟩
  .cases e
 .cases e
def VR(p q:Er)(S:zC):R Er:=match VO S p,VO S q with
 |some x,some y=>if x.length+y.length<=sizeLine then .ok (.new (x++y)) S else .no
 |_,_=>.no
def xU:Er->Er->zC->R Er
 |.val (.int i),.val (.int j),S=>.ok (.val (.int (i+j))) S
 |.val (.str x),.val (.str y),S=>if x.length+y.length<=sizeLine then .ok (.val (.str (x++y))) S else .no
 |.val (.tup x),.val (.tup y),S=>if x.length+y.length<=sizeLine then .ok (.val (.tup (x++y))) S else .no
 |p,q,S=>VR p q S
def Cs:OpR X (binaryOp .Add) (λx y H Q=> ∃a b ys,x=.ref a/\y=.ref b/\SqT X.K H a []/\SqT X.K H b ys/\Q (.ref b) H):=by
 intro pins s σ H x y v u Q I rx ry h;obtain⟨a,b,ys,rfl,rfl,ha,hb,q⟩:=h;cases rx;cases ry;obtain⟨its,r1,p1,_⟩:=I.tuple ha;obtain⟨its2,r2,p2,_⟩:=I.tuple hb;have e0:its=[]:=r1.nil_iff.mpr rfl;subst e0;obtain⟨⟨cls,dd,data,sl⟩,ho,hc,n,hd⟩:=id p1;obtain⟨⟨cls2,dd2,data2,sl2⟩,ho2,hc2,n2,hd2⟩:=id p2;simp only at hc hd hc2 hd2;subst hc hd hc2 hd2
 exact concat_meets ⟨_,ho,rfl⟩ ⟨_,ho2,rfl⟩ noFill_tuple_add seq_tuple_add PySem.F.slot_tuple_add PySem.F.entry_tuple_add (PySem.F.args_tuple_add_2 _ _)
  (tuple_addW0 a b _ _ n n2 dd dd2 sl sl2 rfl) ⟨ho,ho2,⟨.ref b,H,I,rfl,q⟩⟩
def yN(ha:yR X W a f)(hb:yR X W b g):yR X W (.BinOp a .Add b pos) (λρ S=>(f ρ S).bind λp S1=>(g ρ S1).bind λq S2=>xU p q S2):=by
 refine JM (Pv.or (RX.or (Qj.or (Ir.or Cs)))) ?_ ha hb;intro p q x y α S H Q wd dp dq post;unfold xU at post;split at post
 .exact .inl ⟨_,_,xO dp,xO dq,Post.val post wd (xB _)⟩
 .split at post
  .rename_i hz;refine .inr (.inl ⟨_,_,bW dp,bW dq,by rw[jZ,jZ];exact hz,?_⟩);rw[Jc];exact Post.val post wd (aG _)
  .exact post.elim
 .split at post
  .rename_i xx yy hz;obtain⟨a1,vs,rfl,s1,l1⟩:=eA dp;obtain⟨a2,us,rfl,s2,l2⟩:=eA dq;by_cases h0:vs=[]
   .subst h0;have e0:=l1.length;refine .inr (.inr (.inr (.inr ⟨a1,a2,us,rfl,rfl,s1,s2,?_⟩)));have:xx=[]:=by cases xx with |nil=>rfl|cons _ _=>simp at e0
    subst this;exact Post.val post wd (qC s2 l2)
   .refine .inr (.inr (.inr (.inl ⟨a1,a2,vs,us,rfl,rfl,s1,s2,h0,by rw[l1.length,l2.length];exact hz,λh1=>?_,λh1 p hp=>Post.newt post wd hp (l1.append l2)⟩)));subst h1;have e0:=l2.length;have:yy=[]:=by cases yy with |nil=>rfl|cons _ _=>simp at e0
    subst this;rw[aN]at post;exact Post.val post wd (qC s1 l1)
  .exact post.elim
 .unfold VR at post;split at post
  .rename_i ds1 ds2 e1 e2;split at post
   .rename_i hz;obtain⟨a1,vs,rfl,h1,l1⟩:=LU wd e1 dp;obtain⟨a2,us,rfl,h2,l2⟩:=LU wd e2 dq;exact .inr (.inr (.inl ⟨a1,a2,vs,us,rfl,rfl,h1,h2,by rw[l1.length,l2.length];exact hz,λp hp=>Post.newl post wd hp (l1.append l2)⟩))
   .exact post.elim
  .exact post.elim
def mulC(i j:Int):Prop:=(-(2 ^ 64)<i/\i<2 ^ 64)\/(-(2 ^ 64)<j/\j<2 ^ 64)\/(i.natAbs.log2<4000/\j.natAbs.log2<4000)
def VT{i:Int}(h:i.natAbs.log2<4000):Builtin.Int.intBits i<=2 ^ 20:=by
 have e:(2:Nat) ^ 20=1048576:=by decide
 unfold Builtin.Int.intBits;split<;>omega
def mulC.ok{i j:Int}(h:mulC i j):IntMulOk i j:=by
 rcases h with h|h|⟨h1,h2⟩
 .exact CMul.ok (.inl h)
 .exact CMul.ok (.inr h)
 .exact .of_bits (VT h1) (VT h2)
def Ju{X:Cx}:OpR X (binaryOp .Mult) (rI mulC λi j=>.int (i * j)):=Xq λ_ _ _ _ _ _ _ hc q=>mul_int q hc.ok
instance(i j:Int):Decidable (mulC i j):=inferInstanceAs (Decidable (_\/_\/_))
def Oa(p:Er)(k:Int)(S:zC):R Er:=match VO S p with
 |some x=>if 0<=k/\k<100000/\x.length * k.toNat<=sizeLine then .ok (.new (List.replicate k.toNat x).flatten) S else .no
 |none=>.no
def sK:Er->Er->zC->R Er
 |.val (.int i),.val (.int j),S=>if mulC i j then .ok (.val (.int (i * j))) S else .no
 |.val (.str x),.val (.int k),S=>if 0<=k/\k<1000/\x.length<=1000 then .ok (.val (.str (FG x k))) S else .no
 |p,.val (.int k),S=>Oa p k S
 |_,_,_=>.no
theorem DenL.rep{K:Zb}{α:Yd}{H:Hp}{ds:Zd}{vs:List V}(l:DenL K α H ds vs): ∀k:Nat,DenL K α H (List.replicate k ds).flatten (List.replicate k vs).flatten
 |0=>yS
 |k+1=>by rw[replicate_succ,flatten_cons,replicate_succ,flatten_cons];exact l.append (DenL.rep l k)
def iG(ha:yR X W a f)(hb:yR X W b g):yR X W (.BinOp a .Mult b pos) (λρ S=>(f ρ S).bind λp S1=>(g ρ S1).bind λq S2=>sK p q S2):=by
 refine JM (Ju.or (SO.or Qk)) ?_ ha hb;intro p q x y α S H Q wd dp dq post;unfold sK at post;split at post
 .split at post
  .rename_i hc;exact .inl ⟨_,_,xO dp,xO dq,hc,Post.val post wd (xB _)⟩
  .exact post.elim
 .split at post
  .rename_i hc;exact .inr (.inl ⟨_,_,bW dp,xO dq,hc.1,hc.2.1,hc.2.2,Post.val post wd (aG _)⟩)
  .exact post.elim
 .unfold Oa at post;split at post
  .rename_i ds e1;split at post
   .rename_i hc;obtain⟨a1,vs,rfl,h1,l1⟩:=LU wd e1 dp;exact .inr (.inr ⟨a1,_,vs,rfl,xO dq,h1,by omega,by omega,by rw[l1.length];exact hc.2.2,λp hp=>Post.newl post wd hp (l1.rep _)⟩)
   .exact post.elim
  .exact post.elim
 .exact post.elim
def zT:Nat:=40
def DU(p q:Er)(S:zC):R Er:=match HY S zT p q with
 |some k=>.ok (.val (.bl k)) S
 |none=>.no
def Ct(p q:Er)(S:zC):R Er:=match HY S zT p q with
 |some k=>.ok (.val (.bl !k)) S
 |none=>.no
def Cu(hu:X.A.units+64<cLine):OpR X (compareOp .Eq) (λx y H Q=> ∃α S p q k,Wd X.g α S H/\DenX X.K α H p x/\DenX X.K α H q y/\HY S zT p q=some k/\Q (.bl k) H):=by intro pins s σ H x y v u Q I rx ry h;obtain⟨α,S,p,q,k,wd,dp,dq,e,hq⟩:=h;exact Qw I wd zT (by unfold zT;omega) dp dq rx ry e X.prog X.w _ _ ⟨.bl k,H,I,rfl,hq⟩
def Qy(hu:X.A.units+64<cLine):OpR X (compareOp .NotEq) (λx y H Q=> ∃α S p q k,Wd X.g α S H/\DenX X.K α H p x/\DenX X.K α H q y/\HY S zT p q=some k/\Q (.bl (!k)) H):=by intro pins s σ H x y v u Q I rx ry h;obtain⟨α,S,p,q,k,wd,dp,dq,e,hq⟩:=h;exact Qx I wd zT (by unfold zT;omega) dp dq rx ry e X.prog X.w _ _ ⟨.bl (!k),H,I,rfl,hq⟩
def VU:ZJ X W (λx y H Q=> ∃α S p q k,Wd X.g α S H/\DenX X.K α H p x/\DenX X.K α H q y/\HY S zT p q=some k/\Q (.bl k) H) DU:=by
 intro p q x y α S H Q wd dp dq post;unfold DU at post;split at post
 .rename_i k e;exact⟨α,S,p,q,k,wd,dp,dq,e,Post.val post wd (gG _)⟩
 .exact post.elim
def Jv:ZJ X W (λx y H Q=> ∃α S p q k,Wd X.g α S H/\DenX X.K α H p x/\DenX X.K α H q y/\HY S zT p q=some k/\Q (.bl (!k)) H) Ct:=by
 intro p q x y α S H Q wd dp dq post;unfold Ct at post;split at post
 .rename_i k e;exact⟨α,S,p,q,k,wd,dp,dq,e,Post.val post wd (gG _)⟩
 .exact post.elim
def Wh(hu:X.A.units+64<cLine)(ha:yR X W a f)(hb:yR X W b g):yR X W (.Compare a [.Eq] [b] pos) (λρ S=>(f ρ S).bind λp S1=>(g ρ S1).bind λq S2=>DU p q S2):=SV (Cu hu) VU ha hb
def mR(hu:X.A.units+64<cLine)(ha:yR X W a f)(hb:yR X W b g):RT X W (.Compare a [.Eq] [b] pos) (λρ S=>((f ρ S).bind λp S1=>(g ρ S1).bind λq S2=>DU p q S2).bind mB):=sF (Cu hu) VU ha hb
def Cv(hu:X.A.units+64<cLine)(ha:yR X W a f)(hb:yR X W b g):RT X W (.Compare a [.NotEq] [b] pos) (λρ S=>((f ρ S).bind λp S1=>(g ρ S1).bind λq S2=>Ct p q S2).bind mB):=sF (Qy hu) Jv ha hb
def Ob:Er->Er->zC->R Er
 |.val d,.val f,S=>match DF S zT d f with
  |some k=>.ok (.val (.bl k)) S
  |none=>.no
 |_,_,_=>.no
def Qz(hu:X.A.units+64<cLine):OpR X (compareOp .Lt) (λx y H Q=> ∃α S d f k,Wd X.g α S H/\Den X.K α H d x/\Den X.K α H f y/\DF S zT d f=some k/\Q (.bl k) H):=by intro pins s σ H x y v u Q I rx ry h;obtain⟨α,S,d,f,k,wd,dp,dq,e,hq⟩:=h;exact SZ I wd zT X.A d f x y v u k (by unfold zT;omega) dp dq rx ry e X.prog X.w _ _ ⟨.bl k,H,I,rfl,hq⟩
def Jw:ZJ X W (λx y H Q=> ∃α S d f k,Wd X.g α S H/\Den X.K α H d x/\Den X.K α H f y/\DF S zT d f=some k/\Q (.bl k) H) Ob:=by
 intro p q x y α S H Q wd dp dq post;unfold Ob at post;split at post
 .split at post
  .rename_i k e;exact⟨α,S,_,_,k,wd,dp,dq,e,Post.val post wd (gG _)⟩
  .exact post.elim
 .exact post.elim
def Cw(hu:X.A.units+64<cLine)(ha:yR X W a f)(hb:yR X W b g):RT X W (.Compare a [.Lt] [b] pos) (λρ S=>((f ρ S).bind λp S1=>(g ρ S1).bind λq S2=>Ob p q S2).bind mB):=sF (Qz hu) Jw ha hb
def isNF:Er->Er->zC->R Er
 |.val .non,.val .non,S=>.ok (.val (.bl true)) S
 |_,.val .non,S=>.ok (.val (.bl false)) S
 |_,_,_=>.no
def JQ:Er->Er->zC->R Er
 |.val .non,.val .non,S=>.ok (.val (.bl false)) S
 |_,.val .non,S=>.ok (.val (.bl true)) S
 |_,_,_=>.no
theorem Cy{α:Yd}{H:Hp}{p:Er}{x:V}(d:DenX X.K α H p x)(n:p≠.val .non):decide (x=.non)=false:=by
 cases p with
 |new ds=>obtain⟨b,vs,rfl,_⟩:=d;rfl
 |val m=>
  cases m with
  |non=>exact absurd rfl n
  |bl b=>cases FI d;rfl
  |int b=>cases xO d;rfl
  |str b=>cases bW d;rfl
  |typ b=>cases Cf d;rfl
  |obj b b' b''=>obtain⟨_,_,_,_,_,rfl,_⟩:=Qr d;rfl
  |tup b=>obtain⟨_,_,rfl,_⟩:=eA d;rfl
  |scr b=>obtain⟨_,_,rfl,_⟩:=FK d;rfl
  |loc b=>obtain⟨_,rfl,_⟩:=eB d;rfl
def Cz:ZJ X W (λx y H Q=>y=.non/\Q (.bl (!decide (x=.non))) H) JQ:=by
 intro p q x y α S H Q wd dp dq post;unfold JQ at post;split at post
 .cases BC dp;exact⟨BC dq,Post.val post wd (gG _)⟩
 .rename_i p' S' hn;rw[Cy dp (λz=>by first |exact hn z|exact hn z rfl|exact hn _ z|exact hn rfl z)];exact⟨BC dq,Post.val post wd (gG _)⟩
 .exact post.elim
def Da(ha:yR X W a f)(hb:yR X W b g):RT X W (.Compare a [.IsNot] [b] pos) (λρ S=>((f ρ S).bind λp S1=>(g ρ S1).bind λq S2=>JQ p q S2).bind mB):=sF Ik Cz ha hb
def getL(ds:Zd):Er->zC->R Er
 |.val (.int i),S=>match tY ds i with |some d=>.ok (.val d) S|none=>.no
 |_,_=>.no
def wN:Er->Er->zC->R Er
 |.val (.str x),.val (.int i),S=>if x.length<=sizeLine then match tY x i with |some c=>.ok (.val (.str [c])) S|none=>.no else .no
 |.val (.tup ds),q,S=>getL ds q S
 |p,q,S=>match hG S p with |some ds=>getL ds q S|none=>.no
def Jx{K:Zb}{α:Yd}{H:Hp}{ds:Zd}{vs:List V}{i:Int}{d:MV}(l:DenL K α H ds vs)(e:tY ds i=some d): ∃v,tY vs i=some v/\Den K α H d v:=by
 unfold tY at e ⊢;rw[l.length]
 cases z:SE ds.length i with
 |none=>rw[z]at e;cases e
 |some j=>
  rw[z]at e;obtain⟨v,h1,h2⟩:=l.at (show ds[j]? =some d from e);exact⟨v,h1,h2⟩
def yC(ha:yR X W a f)(hb:yR X W b g)(hs:LC b:=by exact λ_ _=>rfl):yR X W (.Subscript a b pos) (λρ S=>(f ρ S).bind λp S1=>(g ρ S1).bind λq S2=>wN p q S2):=by
 refine Wb Qg ?_ ha hb hs;intro p q x y α S H Q wd dp dq post;have key: ∀{ds:Zd}{vs:List V}{i:Int}{d:MV},DenL X.K α H ds vs->tY ds i=some d->Post X.g W α H (.ok (Er.val d) S) Q-> ∃v,tY vs i=some v/\Q v H:=λl e post=>by obtain⟨v,h1,h2⟩:=Jx l e;exact⟨v,h1,Post.val post wd h2⟩
 unfold wN at post;split at post
 .split at post
  .rename_i hz;split at post
   .rename_i ch e;refine .inr (.inr ⟨_,_,ch,bW dp,xO dq,by rw[jZ];exact hz,by rw[uA];exact e,?_⟩);exact Post.val post wd (aG [ch])
   .exact post.elim
  .exact post.elim
 .unfold getL at post;split at post
  .split at post
   .rename_i d e;obtain⟨a1,vs,rfl,s1,l1⟩:=eA dp;obtain⟨v,h1,h2⟩:=key l1 e post;exact .inr (.inl ⟨a1,vs,_,v,rfl,xO dq,s1,h1,h2⟩)
   .exact post.elim
  .exact post.elim
 .split at post
  .rename_i ds el;unfold getL at post;split at post
   .split at post
    .rename_i d e;obtain⟨a1,vs,rfl,s1,l1⟩:=sI rfl wd el dp;obtain⟨v,h1,h2⟩:=key l1 e post;exact .inl ⟨a1,vs,_,v,rfl,xO dq,s1,h1,h2⟩
    .exact post.elim
   .exact post.elim
  .exact post.elim
end
def HZ{prog:Program}{w:World}{A:Around}{E:VP}{s:Shared}{t sl:Addr}{its:Yc}{vl vu:Value}{lo hi:Yk}{Q:VP}(ht:IsTup s.heap t its)(hs:s.heap.IsSliceOf sl vl vu .none)(pl:IsPart vl lo)(pu:IsPart vu hi)
  (h0:HT.sIx its.size 0 lo=0) (h1:HT.sIx its.size its.size hi=its.size) (h:Q (.ref t) s):wpAny (model prog w) A (getItem (.ref t) (.ref sl)) Q E s:=by
 have hTs:s.TypeIs (.ref sl) "slice":=by obtain⟨os,hos,hcs,_⟩:=id hs;exact⟨os,hos,hcs⟩
 have hTt:=ht.typeIs;unfold getItem
 try with_reducible refine wpAny_holding ?_
 first |refine wB (wP ?_)|skip
 refine wB (wpAny_sequenceKey hTt (by decide) ?_);refine wB (wpAny_callSpecial?_slot (name:=Str.ofString "__getitem__") hTt PyProof.Rows.slot_tuple_getitem (wpAny_call_entry PyProof.Rows.slot_tuple_getitem hTt entry_tuple_getitem ?_ (args_tuple_getitem _ _)));show wpAny _ _ (Builtin.Tuple.tupleItemsOf (.ref t) >>= _) _ _ s;refine wB (tupleItemsOf_ ht (wB (wpAny_typeOf hTs ?_)));rw[iP (by decide)];refine wB (HT.sliceApplied_gen hs pl pu ?_);show wpAny _ _ (if(((HT.sIx its.size 0 lo:Nat):Int)==0&&(1:Int)==1&&(HT.sIx its.size its.size hi - HT.sIx its.size 0 lo)==its.size)=true then _ else _) _ _ s;rw[iP (by rw[h0,h1];simp)];unfold Builtin.Tuple.tupleIsExact;refine wB (wB (wpAny_typeOf hTt (wP ?_)));rw[iP (by decide)];refine wB (wpAny_rule ?_)
 first
  |exact wP ⟨_,rfl,wP h⟩
  |exact wB (wP (wP ⟨_,rfl,wP h⟩))
  |exact wB (wP ⟨_,rfl,wP h⟩)
section
variable{X:Cx}{W:XW}{a e:Expr}{f h:zK->zC->R Er}{pos:Pos}
def Jy:SlR X (λx lo hi H Q=> ∃a xs,x=.ref a/\SqT X.K H a xs/\HT.sIx xs.length 0 lo=0/\HT.sIx xs.length xs.length hi=xs.length/\Q (.ref a) H):=by
 intro pins s σ H x v vl vu lo hi sl Q I rx hs pl pu h;obtain⟨a,xs,rfl,hx,h0,h1,q⟩:=h;cases rx;obtain⟨its,r,ht,hz⟩:=I.tuple hx;have hlen:its.toArray.size=xs.length:=by rw[sA];exact r.length.symm
 exact⟨"tuple",_,PyProof.Rows.slot_tuple_getitem.lookup,ht.typeIs,HZ ht hs pl pu (by rw[hlen];exact h0) (by rw[hlen];exact h1) ⟨.ref a,H,I,rfl,q⟩⟩
def fQ:Er->Option Int->Option Int->zC->R Er
 |.val (.str x),lo,hi,S=>if x.length<=sizeLine then .ok (.val (.str (bU x lo hi))) S else .no
 |.val (.tup ds),lo,hi,S=>.ok (.val (.tup (bU ds lo hi))) S
 |p,lo,hi,S=>match hG S p with |some ds=>.ok (.new (bU ds lo hi)) S|none=>.no
def ZQ{α:Type}{ds:List α}{lo hi:Yk}(h0:HT.sIx ds.length 0 lo=0)(h1:HT.sIx ds.length ds.length hi=ds.length):bU ds lo hi=ds:=by unfold bU;rw[h0,h1];simp
def gH{lo hi:Option Expr}{lf hf:zK->zC->R (Option Int)}{p2:Pos}(ha:yR X W a f)(hl:Uc X W lo lf)(hh:Uc X W hi hf):yR X W (.Subscript a (.Slice lo hi none p2) pos) (λρ S=>(f ρ S).bind λp S1=>(lf ρ S1).bind λl S2=>(hf ρ S2).bind λu S3=>fQ p l u S3):=by
 refine Cj (Qm.or (Iv.or (Qf.or Jy))) ?_ ha hl hh;intro p lo hi x α S H Q wd dp post;unfold fQ at post;split at post
 .split at post
  .rename_i hz;exact .inl ⟨_,bW dp,hz,Post.val post wd (aG _)⟩
  .exact post.elim
 .rename_i _ _ _ ds;obtain⟨a1,vs,rfl,s1,l1⟩:=eA dp;by_cases hw:HT.sIx vs.length 0 lo=0/\HT.sIx vs.length vs.length hi=vs.length
  .have e:bU ds lo hi=ds:=ZQ (by rw[<-l1.length];exact hw.1) (by rw[<-l1.length];exact hw.2);rw[e]at post;exact .inr (.inr (.inr ⟨a1,vs,rfl,s1,hw.1,hw.2,Post.val post wd (qC s1 l1)⟩))
  .exact .inr (.inr (.inl ⟨a1,vs,rfl,s1,hw,λp hp=>Post.newt post wd hp (l1.cut lo hi)⟩))
 .split at post
  .rename_i ds el;obtain⟨a1,vs,rfl,s1,l1⟩:=sI rfl wd el dp;exact .inr (.inl ⟨a1,vs,rfl,s1,λp hp=>Post.newl post wd hp (l1.cut lo hi)⟩)
  .exact post.elim
theorem DenL.pick{K:Zb}{α:Yd}{H:Hp}{ds:Zd}{vs:List V}(l:DenL K α H ds vs): ∀idx:List Nat,DenL K α H (idx.filterMap (ds[·]?)) (idx.filterMap (vs[·]?))
 |[]=>yS
 |i::idx=>by
  cases z:ds[i]? with
  |none=>
   have z2:vs[i]? =none:=by rw[List.getElem?_eq_none_iff,l.length];exact List.getElem?_eq_none_iff.mp z
   rw[List.filterMap_cons_none z,List.filterMap_cons_none z2];exact DenL.pick l idx
  |some d=>
   obtain⟨v,h1,h2⟩:=l.at z;rw[filterMap_cons_some z,filterMap_cons_some h1];exact yK h2 (DenL.pick l idx)
theorem Vals.pick{xs:List V}{us:Yb}(r:Vals xs us): ∀idx:List Nat,Vals (idx.filterMap (xs[·]?)) (idx.filterMap (us[·]?))
 |[]=>.nil
 |i::idx=>by
  cases z:xs[i]? with
  |none=>rw[List.filterMap_cons_none z,List.filterMap_cons_none (r.none_of z)];exact Vals.pick r idx
  |some d=>
   obtain⟨v,h1,h2⟩:=r.get z;rw[filterMap_cons_some z,filterMap_cons_some h1];exact .cons h2 (Vals.pick r idx)
end
section
variable{X:Cx}{W:XW}{a b c e:Expr}{f g h:zK->zC->R Er}{pos:Pos}
def OV(S:zC)(n:Nat)(d:MV):List MV->Option (List Bool)
 |[]=>some []
 |y::ys=>(eqv S n y d).bind λk=>(OV S n d ys).map (k::·)
section
variable{α:Yd}{S:zC}{H:Hp}{pins:Yi}{σ:St}{s:Shared}
def OW(X:Cx)(α:Yd)(S:zC)(H:Hp)(n:Nat)(d:MV)(u:Value):Bool:=open Classical in decide (∃y x,Den X.K α H y x/\RelV x u/\eqv S n y d=some true)
open Classical in
def Jz(I:Inv X pins σ H s)(wd:Wd X.g α S H){n:Nat}{d y:MV}{x:V}{u:Value}{k:Bool}(dy:Den X.K α H y x)(r:RelV x u)(e:eqv S n y d=some k):OW X α S H n d u=k:=by
 unfold OW
 cases k with
 |true=>exact dT0 ⟨y,x,dy,r,e⟩
 |false=>
  refine dF0 λ⟨y',x',dy',r',e'⟩=>?_;have ex:=r.inj r';subst ex;rw[dy.inj I wd dy']at e;rw[e]at e';cases e'
theorem vP(I:Inv X pins σ H s)(wd:Wd X.g α S H){n:Nat}{A:Around}{d:MV}{x:V}{v:Value}(hu:A.units+n<cLine)(dd:Den X.K α H d x)(rx:RelV x v): ∀{ys:Zd}{vs:List V}{us:Yb}{bs:Yj},DenL X.K α H ys vs->Vals vs us->OV S n d ys=some bs->
  us.map (OW X α S H n d)=bs/\ ∀u∈us,SeqAt.EqAt A s u v (OW X α S H n d u)
 |[],_,_,bs,l,r,e=>by cases l.isnil;cases r;cases e;exact⟨rfl,λu hu=>by cases hu⟩
 |y::ys,_,_,bs,l,r,e=>by
  obtain⟨v',r',rfl,dy,l'⟩:=l.uncons
  cases r with
  |cons r1 r2=>
   unfold OV at e
   cases z:eqv S n y d with
   |none=>rw[z]at e;cases e
   |some k=>
    rw[z]at e
    cases z2:OV S n d ys with
    |none=>simp[z2]at e
    |some cs=>
     simp[z2]at e;subst e;obtain⟨h1,h2⟩:=vP I wd hu dd rx l' r2 z2;have h3:=Jz I wd dy r1 z;refine⟨by rw[map_cons,h1,h3],λu hu'=>?_⟩;rcases mC.mp hu' with rfl|hu'
     .rw[h3];exact BG I wd n A y d _ _ _ _ k hu dy dd r1 rx z
     .exact h2 u hu'
end
theorem any_map{us:Yb}{f:Value->Bool}{bs:Yj}(h:us.map f=bs):us.toArray.any f=bs.any id:=by subst h;simp[List.any_map]
def itemsOf(S:zC):Er->Option (List MV)
 |.val (.tup ds)=>some ds
 |r=>hG S r
def vQ{α:Yd}{S:zC}{H:Hp}(wd:Wd X.g α S H){r:Er}{ds:Zd}{x:V}(e:itemsOf S r=some ds)(d:DenX X.K α H r x): ∃a vs,x=.ref a/\(SqL X.K H a vs\/SqT X.K H a vs)/\DenL X.K α H ds vs:=by
 unfold itemsOf at e;split at e
 .cases e;obtain⟨a,vs,rfl,s,l⟩:=eA d;exact⟨a,vs,rfl,.inr s,l⟩
 .obtain⟨a,vs,rfl,s,l⟩:=sI rfl wd e d;exact⟨a,vs,rfl,.inl s,l⟩
def sM(neg:Bool)(p q:Er)(S:zC):R Er:=match p with
 |.val d=>match itemsOf S q with
  |some ys=>match OV S zT d ys with
   |some bs=>.ok (.val (.bl (if neg=true then !bs.any id else bs.any id))) S
   |none=>.no
  |none=>.no
 |.new _=>.no
def HQ(neg:Bool):Er->Er->zC->R Er
 |.val (.str [c]),.val (.str y),S=>.ok (.val (.bl (if neg=true then !decide (c∈y)else decide (c∈y)))) S
 |p,q,S=>sM neg p q S
abbrev Dc(X:Cx)(neg:Bool):R2:=λx y H Q=> ∃α S d q ys bs,Wd X.g α S H/\Den X.K α H d x/\DenX X.K α H q y/\itemsOf S q=some ys/\OV S zT d ys=some bs/\Q (.bl (if neg=true then !bs.any id else bs.any id)) H
def Ra(hu:X.A.units+64<cLine):OpR X (compareOp .In) (Dc X false):=by
 intro pins s σ H x y v u Q I rx ry h;obtain⟨α,S,d,q,ys,bs,wd,dd,dq,ei,ea,hq⟩:=h;obtain⟨a,vs,rfl,sq,l⟩:=vQ wd ei dq;cases ry;rcases sq with sq|sq
 .obtain⟨its,r,pl,_⟩:=I.list sq;obtain⟨h1,h2⟩:=vP I wd (A:=X.A.in1) (by show X.A.units+1+zT<cLine;unfold zT;omega) dd rx l r ea;refine SeqAt.in_listAt (OW X α S H zT d) pl.isList (λw hw=>h2 w (by simpa using hw)) ⟨.bl _,H,I,rfl,?_⟩;rw[any_map h1];exact hq
 .obtain⟨its,r,pl,_⟩:=I.tuple sq;obtain⟨h1,h2⟩:=vP I wd (A:=X.A.in1) (by show X.A.units+1+zT<cLine;unfold zT;omega) dd rx l r ea;refine SeqAt.in_tupleAt (OW X α S H zT d) pl (λw hw=>h2 w (by simpa using hw)) ⟨.bl _,H,I,rfl,?_⟩;rw[any_map h1];exact hq
def ZR(hu:X.A.units+64<cLine):OpR X (compareOp .NotIn) (Dc X true):=by
 intro pins s σ H x y v u Q I rx ry h;obtain⟨α,S,d,q,ys,bs,wd,dd,dq,ei,ea,hq⟩:=h;obtain⟨a,vs,rfl,sq,l⟩:=vQ wd ei dq;cases ry;rcases sq with sq|sq
 .obtain⟨its,r,pl,_⟩:=I.list sq;obtain⟨h1,h2⟩:=vP I wd (A:=X.A.in1) (by show X.A.units+1+zT<cLine;unfold zT;omega) dd rx l r ea;refine SeqAt.notIn_listAt (OW X α S H zT d) pl.isList (λw hw=>h2 w (by simpa using hw)) ⟨.bl _,H,I,rfl,?_⟩;rw[any_map h1];exact hq
 .obtain⟨its,r,pl,_⟩:=I.tuple sq;obtain⟨h1,h2⟩:=vP I wd (A:=X.A.in1) (by show X.A.units+1+zT<cLine;unfold zT;omega) dd rx l r ea;refine SeqAt.notIn_tupleAt (OW X α S H zT d) pl (λw hw=>h2 w (by simpa using hw)) ⟨.bl _,H,I,rfl,?_⟩;rw[any_map h1];exact hq
def LV{neg:Bool}:ZJ X W (λx y H Q=>(∃i j,x=.str i/\y=.str j/\Q (.bl (if neg=true then !(!(Builtin.Str.occurrences j i 0 j.length 1).isEmpty)else !(Builtin.Str.occurrences j i 0 j.length 1).isEmpty)) H)\/Dc X neg x y H Q) (HQ neg):=by
 intro p q x y α S H Q wd dp dq post;unfold HQ at post;split at post
 .refine .inl ⟨_,_,bW dp,bW dq,?_⟩;rw[<-Je,PySem.StrLaws.found_one,uA];exact Post.val post wd (gG _)
 .unfold sM at post;split at post
  .rename_i d _;split at post
   .rename_i ys ei;split at post
    .rename_i bs ea;exact .inr ⟨α,S,_,q,ys,bs,wd,dp,dq,ei,ea,Post.val post wd (gG _)⟩
    .exact post.elim
   .exact post.elim
  .exact post.elim
def OpR.imp{f:Value->Value->Sem Value}{r r':R2}(h:OpR X f r)(i: ∀x y H Q,r' x y H Q->r x y H Q):OpR X f r':=λpins s σ H x y v u Q I rx ry q=>h pins s σ H x y v u Q I rx ry (i x y H Q q)
def De(hu:X.A.units+64<cLine):OpR X (compareOp .In) (λx y H Q=>(∃i j,x=.str i/\y=.str j/\Q (.bl (if(false:Bool)=true then !(!(Builtin.Str.occurrences j i 0 j.length 1).isEmpty)else !(Builtin.Str.occurrences j i 0 j.length 1).isEmpty)) H)\/Dc X false x y H Q):=
 OpR.imp (YV.or (Ra hu)) λx y H Q q=>q.imp (λq=>q) λq=>q
def ZS(hu:X.A.units+64<cLine):OpR X (compareOp .NotIn) (λx y H Q=>(∃i j,x=.str i/\y=.str j/\Q (.bl (if(true:Bool)=true then !(!(Builtin.Str.occurrences j i 0 j.length 1).isEmpty)else !(Builtin.Str.occurrences j i 0 j.length 1).isEmpty)) H)\/Dc X true x y H Q):=
 OpR.imp (KZ.or (ZR hu)) λx y H Q q=>q.imp (λq=>q) λq=>q
def Wi(hu:X.A.units+64<cLine)(ha:yR X W a f)(hb:yR X W b g)(hm:behindInMarks .In b=false:=by with_unfolding_all rfl):yR X W (.Compare a [.In] [b] pos) (λρ S=>(f ρ S).bind λp S1=>(g ρ S1).bind λq S2=>HQ false p q S2):=SV (De hu) LV ha hb hm
def Df(hu:X.A.units+64<cLine)(ha:yR X W a f)(hb:yR X W b g)(hm:behindInMarks .In b=false:=by with_unfolding_all rfl):RT X W (.Compare a [.In] [b] pos) (λρ S=>((f ρ S).bind λp S1=>(g ρ S1).bind λq S2=>HQ false p q S2).bind mB):=sF (De hu) LV ha hb hm
def FQ(hu:X.A.units+64<cLine)(ha:yR X W a f)(hb:yR X W b g)(hm:behindInMarks .NotIn b=false:=by with_unfolding_all rfl):RT X W (.Compare a [.NotIn] [b] pos) (λρ S=>((f ρ S).bind λp S1=>(g ρ S1).bind λq S2=>HQ true p q S2).bind mB):=sF (ZS hu) LV ha hb hm
def fH{K:Zb}{α:Yd}{H:Hp}{r:Er}{vs:List V}(d:ArgsX K α H [r] vs): ∃v,vs=[v]/\DenX K α H r v:=by
 cases d with
 |cons a l=>cases l;exact⟨_,rfl,a⟩
def Oc{K:Zb}{α:Yd}{H:Hp}{r r':Er}{vs:List V}(d:ArgsX K α H [r,r'] vs): ∃v u,vs=[v,u]/\DenX K α H r v/\DenX K α H r' u:=by
 cases d with
 |cons a l=>obtain⟨u,rfl,l'⟩:=fH l;exact⟨_,u,rfl,a,l'⟩
def mG:List Er->zC->R Er
 |[.val (.str x)],S=>if x.length<=sizeLine then .ok (.val (.int x.length)) S else .no
 |[r],S=>match itemsOf S r with |some ds=>.ok (.val (.int ds.length)) S|none=>.no
 |_,_=>.no
def bL:iE X W (λxs H Q=>(∃z,xs=[.str z]/\z.length<=sizeLine/\Q (.int z.length) H)\/ ∃p ys,xs=[.ref p]/\(SqL X.K H p ys\/SqT X.K H p ys)/\Q (.int ys.length) H) mG:=by
 intro rs vs α S H Q wd d post;unfold mG at post;split at post
 .split at post
  .rename_i hz;obtain⟨v,rfl,dv⟩:=fH d;cases bW dv;refine .inl ⟨_,rfl,by rw[jZ];exact hz,?_⟩;rw[jZ];exact Post.val post wd (xB _)
  .exact post.elim
 .split at post
  .rename_i ds e;obtain⟨v,rfl,dv⟩:=fH d;obtain⟨a,us,rfl,sq,l⟩:=vQ wd e dv;refine .inr ⟨a,us,rfl,sq,?_⟩;rw[l.length];exact Post.val post wd (xB _)
  .exact post.elim
 .exact post.elim
def xA:CallR X (.builtin "len") (λxs H Q=>(∃z,xs=[.str z]/\z.length<=sizeLine/\Q (.int z.length) H)\/ ∃p ys,xs=[.ref p]/\(SqL X.K H p ys\/SqT X.K H p ys)/\Q (.int ys.length) H):=LF.or LE
def rR:List MV->Option (List Bool)
 |[]=>some []
 |.bl b::r=>(rR r).map (b::·)
 |_::_=>none
theorem BI{K:Zb}{α:Yd}{H:Hp}: ∀{ds:Zd}{bs:Yj}{vs:List V},rR ds=some bs->DenL K α H ds vs->vs=bs.map V.bl
 |[],_,_,e,l=>by cases e;exact l.isnil
 |d::r,bs,_,e,l=>by
  cases d with
  |bl b=>
   unfold rR at e
   cases z:rR r with
   |none=>rw[z]at e;cases e
   |some cs=>
    rw[z]at e;cases e;obtain⟨v,us,rfl,dv,l'⟩:=l.uncons;rw[mQ dv,BI z l'];rfl
  |_=>cases e
def Ka:List Er->zC->R Er
 |[r],S=>match (hG S r).bind rR with |some bs=>.ok (.val (.bl (bs.all id))) S|none=>.no
 |_,_=>.no
def Kb:List Er->zC->R Er
 |[r],S=>match (hG S r).bind rR with |some bs=>.ok (.val (.bl (bs.any id))) S|none=>.no
 |_,_=>.no
def Rb(hc:X.calm=true):iE X W (λxs H Q=> ∃(a:Addr)(bs:Yj),xs=[.ref a]/\SqL X.K H a (bs.map V.bl)/\X.calm=true/\Q (.bl (bs.all id)) H) Ka:=by
 intro rs vs α S H Q wd d post;unfold Ka at post;split at post
 .split at post
  .rename_i bs e;obtain⟨v,rfl,dv⟩:=fH d
   cases z:hG S _ with
   |none=>rw[z]at e;cases e
   |some ds=>
    rw[z]at e;obtain⟨a1,us,rfl,s,l⟩:=sI rfl wd z dv;refine⟨a1,bs,rfl,?_,hc,Post.val post wd (gG _)⟩;rw[<-BI e l];exact s
  .exact post.elim
 .exact post.elim
def LY(S:zC):Er->Option String
 |.val .non=>some "NoneType"
 |.val (.bl _)=>some "bool"
 |.val (.int _)=>some "int"
 |.val (.str _)=>some "str"
 |.val (.tup _)=>some "tuple"
 |.val (.typ _)=>none
 |.val (.obj _ _ _)=>none
 |r=>(hG S r).map λ_=>"list"
def Dg(t T:String):Bool:=t==T || (t=="bool"&&T=="int")
def known(T:String):Bool:=T=="int" || T=="bool" || T=="str" || T=="tuple" || T=="list"
def IA:List Er->zC->R Er
 |[r,.val (.typ T)],S=>match LY S r with
  |some t=>if known T=true then .ok (.val (.bl (Dg t T))) S else .no
  |none=>.no
 |_,_=>.no
theorem iA(K:Zb){t T:String}(ht:t="NoneType"\/t="bool"\/t="int"\/t="str"\/t="tuple"\/t="list")(hT:known T=true):PySem.W.kitOne K (.type t) (.type T)=some (Dg t T):=by
 have hT':T="int"\/T="bool"\/T="str"\/T="tuple"\/T="list":=by
  unfold known at hT;simp only[or_eq_true,beq_iff_eq]at hT;rcases hT with(((h|h)|h)|h)|h
  .exact .inl h
  .exact .inr (.inl h)
  .exact .inr (.inr (.inl h))
  .exact .inr (.inr (.inr (.inl h)))
  .exact .inr (.inr (.inr (.inr h)))
 rcases ht with rfl|rfl|rfl|rfl|rfl|rfl<;>rcases hT' with rfl|rfl|rfl|rfl|rfl<;>kernel_rfl
def Dh:CallR X (.builtin "isinstance") (λxs H Q=> ∃α S r x t T,xs=[x,.ty T]/\Wd X.g α S H/\DenX X.K α H r x/\LY S r=some t/\known T=true/\Q (.bl (Dg t T)) H):=by
 intro pins s σ H xs us Q I rr h;obtain⟨α,S,r,x,t,T,rfl,wd,d,et,hk,q⟩:=h;obtain⟨u,w',rfl,rx,rT⟩:=vals2 rr;cases rT;have fin: ∀tk,EP X pins σ Q (.bool (Dg t T)) {s with toks:=tk}:=λtk=>⟨.bl _,H,I.tok _,rfl,q⟩
 unfold LY at et;split at et
 .cases et;cases BC d;cases rx;exact PySem.W.kia_one PySem.W.kitx_none I.kIn True.intro (iA X.K (.inl rfl) hk) (λz=>nomatch z) fin
 .cases et;cases FI d;cases rx;exact PySem.W.kia_one PySem.W.kitx_bool I.kIn True.intro (iA X.K (.inr (.inl rfl)) hk) (λz=>nomatch z) fin
 .cases et;cases xO d;obtain⟨t,rfl⟩:=rx;exact PySem.W.kia_one PySem.W.kitx_int I.kIn True.intro (iA X.K (.inr (.inr (.inl rfl))) hk) (λz=>nomatch z) fin
 .cases et;cases bW d;obtain⟨t,rfl⟩:=rx;exact PySem.W.kia_one PySem.W.kitx_str I.kIn True.intro (iA X.K (.inr (.inr (.inr (.inl rfl)))) hk) (λz=>nomatch z) fin
 .cases et;obtain⟨a,vs,rfl,sq,l⟩:=eA d;cases rx;obtain⟨its,r1,p1,_⟩:=I.tuple sq;obtain⟨o,h1,h2,_⟩:=p1;exact PySem.W.kia_one PySem.W.kitx_tuple I.kIn ⟨o,h1,h2⟩ (iA X.K (.inr (.inr (.inr (.inr (.inl rfl))))) hk) (λz=>nomatch z) fin
 .cases et
 .cases et
 .cases z:hG S r with
  |none=>rw[z]at et;cases et
  |some ds=>
   rw[z]at et;cases et;obtain⟨a,vs,rfl,sq,l⟩:=sI rfl wd z d;cases rx;obtain⟨its,r1,p1,_⟩:=I.list sq;obtain⟨o,h1,h2,_⟩:=p1.isList;exact PySem.W.kia_one PySem.W.kitx_list I.kIn ⟨o,h1,h2⟩ (iA X.K (.inr (.inr (.inr (.inr (.inr rfl))))) hk) (λz=>nomatch z) fin
def Re:iE X W (λxs H Q=> ∃α S r x t T,xs=[x,.ty T]/\Wd X.g α S H/\DenX X.K α H r x/\LY S r=some t/\known T=true/\Q (.bl (Dg t T)) H) IA:=by
 intro rs vs α S H Q wd d post;unfold IA at post;split at post
 .split at post
  .rename_i t et;split at post
   .rename_i hk;obtain⟨v,u,rfl,d1,d2⟩:=Oc d;cases Cf d2;exact⟨α,S,_,v,t,_,rfl,wd,d1,et,hk,Post.val post wd (gG _)⟩
   .exact post.elim
  .exact post.elim
 .exact post.elim
def eF:List Er->zC->R Er
 |[.val (.tup ds)],S=>.ok (.val (.tup ds)) S
 |[r],S=>match hG S r with |some ds=>.ok (.val (.tup ds)) S|none=>.no
 |_,_=>.no
def pH:iE X W (λxs H Q=> ∃p ys,xs=[.ref p]/\((SqL X.K H p ys/\ ∀l,H l=none->Q (.ref l) (xI H l (.tup ys)))\/(SqT X.K H p ys/\Q (.ref p) H))) eF:=by
 intro rs vs α S H Q wd d post;unfold eF at post;split at post
 .obtain⟨v,rfl,dv⟩:=fH d;obtain⟨a,us,rfl,sq,l⟩:=eA dv;exact⟨a,us,rfl,.inr ⟨sq,Post.val post wd (qC sq l)⟩⟩
 .split at post
  .rename_i ds e;obtain⟨v,rfl,dv⟩:=fH d;obtain⟨a,us,rfl,sq,l⟩:=sI rfl wd e dv;exact⟨a,us,rfl,.inl ⟨sq,λp hp=>Post.newt post wd hp l⟩⟩
  .exact post.elim
 .exact post.elim
def VX:List Er->zC->R Er
 |[r],S=>match itemsOf S r with |some ds=>.ok (.new ds) S|none=>.no
 |_,_=>.no
def Kc:iE X W (λxs H Q=> ∃p ys,xs=[.ref p]/\(SqL X.K H p ys\/SqT X.K H p ys)/\ ∀l,H l=none->Q (.ref l) (xI H l (.lst ys))) VX:=by
 intro rs vs α S H Q wd d post;unfold VX at post;split at post
 .split at post
  .rename_i ds e;obtain⟨v,rfl,dv⟩:=fH d;obtain⟨a,us,rfl,sq,l⟩:=vQ wd e dv;exact⟨a,us,rfl,sq,λp hp=>Post.newl post wd hp l⟩
  .exact post.elim
 .exact post.elim
def jO:bootBuiltins "len"=some (.builtin "len"):=by decide+kernel
def Rf:bootBuiltins "all"=some (.builtin "all"):=by decide+kernel
def Rg:bootBuiltins "any"=some (.builtin "any"):=by decide+kernel
def IB:bootBuiltins "isinstance"=some (.builtin "isinstance"):=by decide+kernel
def Rh:bootBuiltins "int"=some (.type "int"):=by decide+kernel
def Kd:bootBuiltins "bool"=some (.type "bool"):=by decide+kernel
def pI:bootBuiltins "tuple"=some (.type "tuple"):=by decide+kernel
def LZ:bootBuiltins "list"=some (.type "list"):=by decide+kernel
end
def Wj(n:Nat):List Nat:=(Nat.toDigits 10 n).map Char.toNat
def decL(i:Int):List Nat:=if i<0 then 45::Wj i.natAbs else Wj i.natAbs
section
variable{X:Cx}{W:XW}{a e o i:Expr}{es:Za}{f g h:zK->zC->R Er}{af:zK->zC->R (List Er)}{pos apos:Pos}
def strF:List Er->zC->R Er
 |[.val (.int i)],S=>if i.natAbs.log2<1920 then .ok (.val (.str (decL i))) S else .no
 |[.val (.str x)],S=>.ok (.val (.str x)) S
 |_,_=>.no
def OX:CallR X (.type "int") (λxs H Q=>((∃i,xs=[.int i]/\Q (.int i) H)\/ ∃k,xs=[.bl k]/\Q (.int (if k then 1 else 0)) H)\/ ∃x n,xs=[.str x]/\PySem.intText? x=some n/\x.length<=640/\Q (.int n) H):=by refine YW.or ?_;intro pins s σ H xs us Q I r h;obtain⟨x,n,rfl,hn,hl,q⟩:=h;obtain⟨u,rfl,t,rfl⟩:=vals1 r;exact PySem.W.KIN.call_text hn hl ⟨.int n,H,I.tok _,⟨_,rfl⟩,q⟩
def Ke:List Er->zC->R Er
 |[.val (.int i)],S=>.ok (.val (.int i)) S
 |[.val (.bl k)],S=>.ok (.val (.int (if k then 1 else 0))) S
 |[.val (.str x)],S=>match PySem.intText? (kE x)with
  |some n=>if x.length<=640 then .ok (.val (.int n)) S else .no
  |none=>.no
 |_,_=>.no
def Ri:iE X W (λxs H Q=>((∃i,xs=[.int i]/\Q (.int i) H)\/ ∃k,xs=[.bl k]/\Q (.int (if k then 1 else 0)) H)\/ ∃x n,xs=[.str x]/\PySem.intText? x=some n/\x.length<=640/\Q (.int n) H) Ke:=by
 intro rs vs α S H Q wd d post;unfold Ke at post;split at post
 .obtain⟨v,rfl,dv⟩:=fH d;cases xO dv;exact .inl (.inl ⟨_,rfl,Post.val post wd (xB _)⟩)
 .obtain⟨v,rfl,dv⟩:=fH d;cases FI dv;exact .inl (.inr ⟨_,rfl,Post.val post wd (xB _)⟩)
 .obtain⟨v,rfl,dv⟩:=fH d;cases bW dv;split at post
  .rename_i n hn;split at post
   .rename_i hz;exact .inr ⟨_,n,rfl,hn,by rw[jZ];exact hz,Post.val post wd (xB _)⟩
   .exact post.elim
  .exact post.elim
 .exact post.elim
def jP(p:Er)(S:zC):Bool:=(hG S p).isSome
def FR:TyM X "list" jP:=by
 intro p x α S H wd d h;unfold jP at h
 cases z:hG S p with
 |none=>rw[z]at h;cases h
 |some ds=>
  obtain⟨a,vs,rfl,s,l⟩:=sI rfl wd z d;exact .inl ⟨rfl,vs,s⟩
def strIdx(x y:Db):Option Nat:=(Builtin.Str.occurrences (kE x) (kE y) 0 (kE x).length 1).head?
def sidxF:Er->List Er->zC->R Er
 |.val (.str x),[.val (.str y)],S=>match strIdx x y with |some i=>.ok (.val (.int (i:Nat))) S|none=>.no
 |_,_,_=>.no
def sN(p:Er)(S:zC)(G:List MV->Option (List MV)):R Er:=match p with
 |.val (.loc l)=>match S[l]? with
  |some (.lst ds)=>match G ds with
   |some es=>.ok (.val .non) (S.set l (.lst es))
   |none=>.no
  |_=>.no
 |_=>.no
def uE{α0 α:Yd}{H0 H:Hp}{S:zC}{p:Er}{x:V}{G:List MV->Option (List MV)}{Q:VK}(wd:Wd X.g α S H)(x0:Ext α0 H0 α H)(dp:DenX X.K α H p x)(post:Post X.g W α0 H0 (sN p S G) Q):
  ∃a vs ds es,x=.ref a/\H a=some (.lst vs)/\DenL X.K α H ds vs/\G ds=some es/\ ∀us,DenL X.K α H es us->Q .non (xI H a (.lst us)):=by
 unfold sN at post;split at post
 .rename_i l;obtain⟨a,rfl,h⟩:=eB dp;obtain⟨ob,h1,h2⟩:=wd.of h;rw[h1]at post
  cases ob with
  |lst ds=>
   obtain⟨vs,h3,l1⟩:=h2;have post:Post X.g W α0 H0 (match G ds with |some es=>R.ok (Er.val .non) (S.set l (.lst es))|none=>R.no) Q:=post;split at post
   .rename_i es eg;refine⟨a,vs,ds,es,rfl,h3,l1,eg,λus lu=>?_⟩;have xw:=wd.writex h (Nx h3) (o:=.lst us);exact(post.shift (x0.trans xw)).val (wd.write h (Nx h3) ⟨us,zR,lu.ext xw⟩) fP
   .exact post.elim
  |dic _=>exact post.elim
  |ins _ _=>exact post.elim
 .exact post.elim
def DV:Er->List Er->zC->R Er
 |p,[r],S=>(eE r S).bind λy S1=>sN p S1 λds=>if ds.length<sizeLine then some (ds++[y])else none
 |_,_,_=>.no
def ZT:OS X W VE DV:=by
 intro p rs x vs α S H0 H Q α0 wd x0 dp da post
 match rs,da,post with
 |[],_,post=>exact post.elim
 |_::_::_,_,post=>exact post.elim
 |[r],da,post=>
  cases da with
  |cons d n l=>
   cases l;obtain⟨d',S',α',e',x',y',w',dd⟩:=pG wd x0 d;have post:Post X.g W α0 H0 ((eE r S).bind λy S1=>sN p S1 λds=>if ds.length<sizeLine then some (ds++[y])else none) Q:=post;rw[e']at post
   have dp':DenX X.K α' H p x:=by
    cases p with
    |val m=>exact Den.ex0 y' dp
    |new ds=>exact post.elim
   obtain⟨a,us,ds,es,rfl,h1,l1,eg,k⟩:=uE w' x' dp' post;split at eg
   .rename_i hz;cases eg;exact⟨a,us,_,rfl,rfl,h1,by rw[l1.length];exact hz,k _ (l1.append (yK dd yS))⟩
   .cases eg
def bQ(ho:yR X W a f)(ha:FL X W (e::es) af)
  (hbase:attributeBase a "append" X.env (eval a X.env)=eval a X.env:=by rfl)
  (hfew:((backTo pos (starEach (e::es) X.env)).all (λx=>!x.1)&&(backToKw pos (keywordEach [] X.env)).all (λx=>x.1.isSome)
   &&decide ((e::es).length+([]:List Keyword).length+(if([]:List Keyword).isEmpty then 0 else 1)<30))=true:=by rfl)
  (hline:(apos.endLine==pos.line)=true:=by rfl) (hs:starEach (e::es) X.env=(false,eval e X.env)::starEach es X.env:=by rfl) (hplain:(backTo pos (starEach es X.env)).any (·.1)=false:=by rfl):
  yR X W (.Call (.Attribute a "append" apos) (e::es) [] pos) (λρ S=>(f ρ S).bind λp S1=>if jP p S1=true then(af ρ S1).bind λrs S2=>DV p rs S2 else .no):=
 LN PySem.F.plainAttrs_list PySem.F.slot_list_append PySem.F.type_list_append YZ ZT FR ho ha hbase hfew hline hs hplain
def clrF:Er->List Er->zC->R Er
 |p,[],S=>sN p S λ_=>some []
 |_,_,_=>.no
def ZU:Er->List Er->zC->R Er
 |p,[],S=>sN p S λds=>some ds.reverse
 |_,_,_=>.no
def TF:OS X W OJ ZU:=by
 intro p rs x vs α S H0 H Q α0 wd x0 dp da post
 match rs,da,post with
 |_::_,_,post=>exact post.elim
 |[],.nil,post=>
  have post:Post X.g W α0 H0 (sN p S λds=>some ds.reverse) Q:=post;obtain⟨a,us,ds,es,rfl,h1,l1,eg,k⟩:=uE wd x0 dp post;cases eg;exact⟨a,us,rfl,rfl,h1,k _ l1.reverse⟩
def FS(ho:yR X W a f)(hbase:attributeBase a "reverse" X.env (eval a X.env)=eval a X.env:=by rfl)(hline:(apos.endLine==pos.line)=true:=by rfl):
  yR X W (.Call (.Attribute a "reverse" apos) [] [] pos) (λρ S=>(f ρ S).bind λp S1=>if jP p S1=true then ZU p [] S1 else .no):=
 OT PySem.F.plainAttrs_list PySem.F.slot_list_reverse PySem.F.type_list_reverse SI TF FR ho hbase hline
def OY(p q:Er)(d:MV)(ρ:zK)(S:zC):R zK:=match p,q with
 |.val (.loc l),.val (.int k)=>match S[l]? with
  |some (.lst ds)=>match SE ds.length k with
   |some j=>.ok ρ (S.set l (.lst (ds.set j d)))
   |none=>.no
  |_=>.no
 |_,_=>.no
def Rj(ho:yR X W o f)(hi:yR X W i g)
  (ha: ∀v,assign (.Subscript o i pos) X.env v=(do
   let ov <-holding [v] (eval o X.env);let iv <-holding [v,ov] (eval i X.env)
   standAt pos
   holding [v,ov,iv] (setItem ov iv v)
   release [v,ov,iv] []):=by intro _;rfl):Qu X W (.Subscript o i pos) (λd ρ S=>(f ρ S).bind λp S1=>(g ρ S1).bind λq S2=>OY p q d ρ S2):=by
 obtain⟨to,ho,fo⟩:=ho;obtain⟨ti,hi,fi⟩:=hi;refine⟨_,Bm ho hi set_list ha,λα ρ S σ H d v Q wd sl de q=>fo α ρ S σ H _ wd sl (q.bind λu p S1 α1 H1 e1 x1 w1 d1 q1=>fi α1 ρ S1 σ H1 _ w1 (sl.ext x1) ((q1.shift x1).bind λu2 p2 S2 α2 H2 e2 x2 w2 d2 q2=>?_))⟩
 replace q2:=q2.shift x2
 have d1':=DenX.ext x2 d1.1;unfold OY at q2;split at q2
 .rename_i l k;obtain⟨a,rfl,h⟩:=eB d1';cases xO d2.1;obtain⟨ob,h1,h2⟩:=w2.of h;rw[h1]at q2
  cases ob with
  |lst ds=>
   obtain⟨vs,h3,l1⟩:=h2;have q2:Post X.g W α2 H2 (match SE ds.length k with |some j=>R.ok ρ (S2.set l (.lst (ds.set j d)))|none=>R.no) Q:=q2;split at q2
   .rename_i j ej;have xw:=w2.writex h (Nx h3) (o:=.lst (vs.set j v));have sl2:=((sl.ext x1).ext x2).ext xw;exact⟨a,vs,k,j,rfl,rfl,h3,by rw[l1.length];exact ej,q2 σ α2 _ xw (w2.write h (Nx h3) ⟨_,zR,(l1.set ((de.ext x1).ext x2) j).ext xw⟩) sl2⟩
   .exact q2.elim
  |dic _=>exact q2.elim
  |ins _ _=>exact q2.elim
 .exact q2.elim
end
def _root_.L2.Inv.turnedL{X:Cx}{pins:Yi}{σ:St}{H:Hp}{s:Shared}{h':Heap}{t':Nat}{fp:Yd}(I:Inv X pins σ H s)(k: ∀b o,b∉fp->s.heap.get? b=some o->h'.get? b=some o)
  (hf: ∀b∈fp,uQ X pins H b):Inv X pins σ H {s with heap:=h',toks:=t'}:=by
 have nit: ∀b u,H b=some u->b∉fp:=λb u e z=>by rw[(hf b z).1]at e;cases e
 refine I.step (g':=s.gens) (d':=s.drawn) (ch:=fp) (λb hb=>⟨(hf b hb).2.2.2.1,(hf b hb).2.1,(hf b hb).2.2.2.2.1,(hf b hb).2.2.2.2.2⟩) (λb o _ _ hc e _=>k b o hc e) (λb o _ _ hc e _=>⟨o.slots,k b o hc e⟩) (λ_ _ _ _ n=>n)
  (λb o hc e=>⟨o,k b o hc e⟩) (λ_ _ e=>e) (λ_ _ _ e=>e) (λb ps e=>⟨#[],by rw[e];simp⟩) (λm hm=>?_) (λb u e=>?_) I.bare
 .obtain⟨o,es,ep,ho,r⟩:=hm;exact⟨o,es,ep,k _ o (λz=>(hf _ z).2.1 rfl) ho,r⟩
 .refine(I.hok b u e).stay (λc v hc q=>k c v ?_ q) (λ_ q=>q) λ_ _ q=>q;rcases hc with z|z
  .rw[z];exact nit b u e
  .exact nit c _ z
def IsSub(k:Bool)(h:Heap)(it l:Addr)(i:Nat):Prop:=if k=true then h.IsListIter it l i else h.IsTupleIter it l i
def DG(k:Bool)(h:Heap)(l:Addr)(its:Yc):Prop:=if k=true then h.IsList l its else h.IsTuple l its
def BK(k:Bool)(l:Addr):Obj:={cls:=.type (if k=true then "list_iterator" else "tuple_iterator"),data:=.fields #[.ref l,.int 0 0]}
def IsSub.mk'{k:Bool}{h:Heap}{it l:Addr}(e:h.get? it=some (BK k l)):IsSub k h it l 0:=by
 cases k with
 |true=>exact⟨_,e,rfl,rfl⟩
 |false=>exact⟨_,e,rfl,rfl⟩
def IsSub.there{k:Bool}{h:Heap}{it l:Addr}{i:Nat}(x:IsSub k h it l i): ∃o,h.get? it=some o/\ ∀v,o.data≠.cell v:=by
 cases k with
 |true=>obtain⟨o,e,_,d⟩:=(x:h.IsListIter it l i);exact⟨o,e,λv z=>by rw[d]at z;cases z⟩
 |false=>obtain⟨o,e,_,d⟩:=(x:h.IsTupleIter it l i);exact⟨o,e,λv z=>by rw[d]at z;cases z⟩
def IsSub.move{k:Bool}{h h':Heap}{it l:Addr}{i:Nat}(x:IsSub k h it l i)(f: ∀o,h.get? it=some o->h'.get? it=some o):IsSub k h' it l i:=by
 cases k with
 |true=>obtain⟨o,e,r⟩:=(x:h.IsListIter it l i);exact⟨o,f o e,r⟩
 |false=>obtain⟨o,e,r⟩:=(x:h.IsTupleIter it l i);exact⟨o,f o e,r⟩
section
variable{prog:Program}{w:World}{A:Around}{E:VP}{s:Shared}
def FT{k:Bool}{l:Addr}{its:Yc}{Q:VP}(hl:DG k s.heap l its)(h:Q (.ref s.heap.objs.size) {s with heap:=s.heap.push (BK k l)}):wpAny (model prog w) A (pyIter (.ref l)) Q E s:=by
 cases k with
 |true=>exact wpAny_pyIter_list hl h
 |false=>exact wpAny_pyIter_tuple hl h
def Di{k:Bool}{it l:Addr}{i:Nat}{its:Yc}{x:Value}{Q:VP}(hit:IsSub k s.heap it l i)(hl:DG k s.heap l its)(hx:its[i]? =some x)
  (hQ: ∀h',IsSub k h' it l (i+1)->Heap.SameBut it s.heap h'->Q x {s with heap:=h'}):wpAny (model prog w) A (Builtin.SmallTypes.nextOf (.ref it)) Q E s:=by
 cases k with
 |true=>exact wpAny_nextOf_list_item hit hl hx hQ
 |false=>
  have hit':s.heap.IsTupleIter it l i:=hit;obtain⟨o,ho,hc,hd⟩:=id hit';obtain⟨ol,hol,_,nl,hdl⟩:=(hl:s.heap.IsTuple l its)
  unfold Builtin.SmallTypes.nextOf;refine wB (wpAny_callSpecial?_slot (name:=Str.ofString "__next__") hit'.typeIs F.slot_tuple_iterator_next (wpAny_call_entry F.slot_tuple_iterator_next hit'.typeIs F.entry_tuple_iterator_next ?_ (F.args_tuple_iterator_next_1 _)));show wpAny _ _ (field (.ref it) 0 >>= _) _ _ s;refine wB (wpAny_field ho hd (x:=.ref l) rfl ?_);show wpAny _ _ (if(Value.ref l==Value.none)=true then _ else _) _ _ s;rw[iN0 (show¬((Value.ref l==Value.none)=true)from xF0)];show wpAny _ _ (field (.ref it) 1 >>= _) _ _ s;refine wB (wpAny_field ho hd (x:=.int i 0) rfl ?_);show wpAny _ _ (seqItems? (.ref l) >>= _) _ _ s;refine wB (wpAny_seqItems hol hdl ?_);simp only[toNat_natCast,hx];refine wB (wpAny_setField ho hd (by simp) (wP ⟨x,rfl,wP (hQ _ ?_ (Heap.SameBut.update ..))⟩));exact⟨_,Heap.get?_update_self _ ho (Obj.isFreed_of_fields (Obj.data_mapFields hd _)),(Obj.cls_mapFields ..).trans hc,by rw[Obj.data_mapFields hd];simp[rawInt]⟩
def Kf{k:Bool}{it l:Addr}{i:Nat}{its:Yc}{Q:VP}(hh:A.handled=none)(hit:IsSub k s.heap it l i)(hl:DG k s.heap l its)(hx:its[i]? =none)
  (hE: ∀h' e,Heap.ExtBut it s.heap h'->(∃o,h'.get? e=some o/\o.cls=.type "StopIteration")->E (.ref e) {s with heap:=h'}):wpAny (model prog w) A (Builtin.SmallTypes.nextOf (.ref it)) Q E s:=by
 cases k with
 |true=>exact wpAny_nextOf_list_end hh hit hl hx hE
 |false=>
  have hit':s.heap.IsTupleIter it l i:=hit;obtain⟨o,ho,hc,hd⟩:=id hit';obtain⟨ol,hol,_,nl,hdl⟩:=(hl:s.heap.IsTuple l its)
  unfold Builtin.SmallTypes.nextOf;refine wB (wpAny_callSpecial?_slot (name:=Str.ofString "__next__") hit'.typeIs F.slot_tuple_iterator_next (wpAny_call_entry F.slot_tuple_iterator_next hit'.typeIs F.entry_tuple_iterator_next ?_ (F.args_tuple_iterator_next_1 _)));show wpAny _ _ (field (.ref it) 0 >>= _) _ _ s;refine wB (wpAny_field ho hd (x:=.ref l) rfl ?_);show wpAny _ _ (if(Value.ref l==Value.none)=true then _ else _) _ _ s;rw[iN0 (show¬((Value.ref l==Value.none)=true)from xF0)];show wpAny _ _ (field (.ref it) 1 >>= _) _ _ s;refine wB (wpAny_field ho hd (x:=.int i 0) rfl ?_);show wpAny _ _ (seqItems? (.ref l) >>= _) _ _ s;refine wB (wpAny_seqItems hol hdl ?_);simp only[toNat_natCast,hx];refine wB (wpAny_rule (wB (wpAny_setField ho hd (by simp) ?_)));show wpAny _ _ (newExc (.type "StopIteration") [] >>= _) _ _ _;refine wB ?_;simp only[newExc,newTuple];refine wB (wpAny_newObj_type ?_ (by size_fits));refine wB (m:=firstArgMember _ _) (wpAny_of_eq (a:=Value.none) (by first |rfl|(simp only[firstArgMember];rfl)) ?_);refine wpAny_newObj_type ?_ (by size_fits);simp only[raiseNew];refine wB (wpAny_handled ?_)
  first |rw[show A.in1.handled=none from hh]|rw[hh]
  refine wB (wP (wpAny_throw ?_));exact hE _ _ (((Heap.SameBut.update ..).extBut.push _).push _) ⟨_,Heap.get?_push_size _ rfl,rfl⟩
end
def Kg(k:Bool)(K:Zb)(H:Hp)(a:Addr)(xs:List V):Prop:=if k=true then SqL K H a xs else SqT K H a xs
section
variable{X:Cx}{pins:Yi}{σ:St}{H:Hp}{s:Shared}
def _root_.L2.Inv.seqK(I:Inv X pins σ H s){k:Bool}{a:Addr}{xs:List V}(h:Kg k X.K H a xs): ∃its:List Value,Vals xs its/\DG k s.heap a its.toArray/\xs.length<=sizeLine:=by
 cases k with
 |true=>obtain⟨its,r,p,z⟩:=I.list h;exact⟨its,r,p.isList,z⟩
 |false=>obtain⟨its,r,p,z⟩:=I.tuple h;exact⟨its,r,p,z⟩
def _root_.L2.Inv.seqK_inj(I:Inv X pins σ H s){k:Bool}{a:Addr}{xs ys:List V}(h:Kg k X.K H a xs)(h':Kg k X.K H a ys):xs=ys:=by
 cases k with
 |true=>exact I.list_inj h h'
 |false=>exact I.tuple_inj h h'
end
structure Sr where
 k:Bool
 ds:List MV
 gs:List (Nat×List MV)
def srcOf(S:zC):Er->Option Sr
 |.val (.tup ds)=>some ⟨false,ds,[]⟩
 |.new ds=>some ⟨true,ds,[]⟩
 |.val (.scr ds)=>some ⟨true,ds,[]⟩
 |.val (.loc l)=>match S[l]? with
  |some (.lst ds)=>some ⟨true,ds,[(l,ds)]⟩
  |_=>none
 |_=>none
structure SrcD(X:Cx)(q:Sr)(l:Addr)(P:List Addr->zC->Hp->Prop):Prop where
 get: ∀α S H,P α S H-> ∃vs,Kg q.k X.K H l vs/\DenL X.K α H q.ds vs
 stays: ∀α1 S1 H1 α2 S2 H2,P α1 S1 H1->Ext α1 H1 α2 H2->Wd X.g α2 S2 H2->stay q.gs S2->P α2 S2 H2
 st: ∀α S H,P α S H->stay q.gs S
def Dj{X:Cx}{α:Yd}{S:zC}{H:Hp}(wd:Wd X.g α S H){r:Er}{x:V}{q:Sr}(e:srcOf S r=some q)(d:DenX X.K α H r x): ∃l P,x=.ref l/\P α S H/\SrcD X q l P:=by
 unfold srcOf at e;split at e
 .rename_i ds;cases e;obtain⟨a,vs,rfl,s,l⟩:=eA d;exact⟨a,λα S H=> ∃vs,SqT X.K H a vs/\DenL X.K α H ds vs,rfl,⟨vs,s,l⟩,λα S H h=>h,λα1 S1 H1 α2 S2 H2 ⟨vs,h1,h2⟩ x w _=>⟨vs,x.sqT h1,h2.ext x⟩,λ_ _ _ _=>bY⟩
 .rename_i ds;cases e;obtain⟨b,vs,rfl,h,n,l⟩:=d
  exact⟨b,λα S H=> ∃vs,H b=some (.lst vs)/\b∉α/\DenL X.K α H ds vs,rfl,⟨vs,h,n,l⟩,λα S H ⟨vs,h1,_,h2⟩=>⟨vs,(SqL.of h1:SqL X.K H b vs),h2⟩,
   λα1 S1 H1 α2 S2 H2 ⟨vs,h1,h2,h3⟩ x w _=>⟨vs,x.keep b _ h1 h2,x.out h1 h2,h3.ext x⟩,λ_ _ _ _=>bY⟩
 .rename_i ds;cases e;obtain⟨a,vs,rfl,s,l⟩:=FK d;exact⟨a,λα S H=> ∃vs,SqF X.K H a vs/\DenL X.K α H ds vs,rfl,⟨vs,s,l⟩,λα S H ⟨vs,h1,h2⟩=>⟨vs,h1.l,h2⟩,λα1 S1 H1 α2 S2 H2 ⟨vs,h1,h2⟩ x w _=>⟨vs,x.sqF h1,h2.ext x⟩,λ_ _ _ _=>bY⟩
 .rename_i n;split at e
  .rename_i ds hS;cases e;obtain⟨a,rfl,h⟩:=eB d;obtain⟨vs,h1,h2⟩:=wd.obj n a _ h hS;refine⟨a,λα S H=> ∃vs,H a=some (.lst vs)/\DenL X.K α H ds vs/\α[n]? =some a/\S[n]? =some (.lst ds),rfl,⟨vs,h1,h2,h,hS⟩,λα S H ⟨vs,h1,h2,_⟩=>⟨vs,(SqL.of h1:SqL X.K H a vs),h2⟩,?_,?_⟩
   .intro α1 S1 H1 α2 S2 H2 ⟨vs,a1,a2,a3,a4⟩ x w hs;have hs':=hs (n,ds) (by simp);obtain⟨us,b1,b2⟩:=w.obj n a _ (x.at a3) hs';exact⟨us,b1,b2,x.at a3,hs'⟩
   .intro α S H ⟨vs,_,_,_,a4⟩ p hp;have:p=(n,ds):=by simpa using hp
    subst this;exact a4
  .cases e
 .cases e
def Kh:bootBuiltins "enumerate"=some (.type "enumerate"):=by decide+kernel
def pairs(xs ys:Zd):List MV:=List.zipWith (λx y=>.tup [x,y]) xs ys
structure EnSt(k:Bool)(e it l:Addr)(i:Nat)(h:Heap):Prop where
 e: ∃old,IsEnum h e it i old
 s:IsSub k h it l i
section
variable{prog:Program}{w:World}{A:Around}{E:VP}{s:Shared}{k:Bool}{e it l:Addr}{i:Nat}{its:Yc}
def Ki{x old:Value}{Q:VP}(he:IsEnum s.heap e it i old)(hit:IsSub k s.heap it l i)(hl:DG k s.heap l its)(hx:its[i]? =some x)(hne:e≠it)
  (hQ: ∀h',IsEnumOut h' e it ((i:Int)+1) x s.heap.objs.size->IsSub k h' it l (i+1)->h'.get? s.heap.objs.size=some {cls:=.type "tuple",data:=.seq #[.int i s.toks,x]}->
   (∀b o,b≠e->b≠it->s.heap.get? b=some o->h'.get? b=some o)->Q (.ref s.heap.objs.size) {s with heap:=h',toks:=s.toks+1}):
  wpAny (model prog w) A (Builtin.«enumerate.__next__» ⟨[.ref e],[]⟩) (λfin s'=> ∃v,fin=.done (.ret v)/\Q v s') E s:=by
 obtain⟨hp,g,d,tk,os⟩:=s;show wpAny _ _ (field (.ref e) 2 >>= _) _ _ _;refine wB (wpAny_field he rfl (x:=.ref it) rfl (wB (Di hit hl hx λha ita hsa=>?_)))
 replace hsa:Heap.SameBut it hp ha:=hsa
 have ea:IsEnum ha e it i old:=(hsa.2 e hne).trans he;show wpAny _ _ (field (.ref e) 3 >>= _) _ _ ⟨ha,g,d,tk,os⟩;refine wB (wpAny_field ea rfl (x:=rawInt i) rfl ?_);show wpAny _ _ (field (.ref e) 4 >>= _) _ _ ⟨ha,g,d,tk,os⟩;refine wB (wpAny_field ea rfl (x:=.none) rfl ?_);show wpAny _ _ (mkInt i >>= _) _ _ ⟨ha,g,d,tk,os⟩;refine wB (wpAny_mkInt ?_);show wpAny _ _ (setField (.ref e) 3 (rawInt ((i:Int)+1)) >>= _) _ _ ⟨ha,g,d,tk+1,os⟩;refine wB (wpAny_setField_rec ea (by simp) λhb eb hsb=>?_)
 replace hsb:Heap.SameBut e ha hb:=hsb
 replace eb:IsEnum hb e it ((i:Int)+1) old:=eb
 show wpAny _ _ (setField (.ref e) 4 .none >>= _) _ _ ⟨hb,g,d,tk+1,os⟩;refine wB (wpAny_setField_rec eb (by simp) λhc ec hsc=>?_)
 replace hsc:Heap.SameBut e hb hc:=hsc
 replace ec:IsEnum hc e it ((i:Int)+1) old:=ec
 show wpAny _ _ (newTuple [.int i tk,x] >>= _) _ _ ⟨hc,g,d,tk+1,os⟩;refine wB (wpAny_newTuple ?_);have hsz:hc.objs.size=hp.objs.size:=by rw[hsc.1,hsb.1,hsa.1]
 have hel:e<hp.objs.size:=Heap.lt_size he;have ed:IsEnum (hc.push {cls:=.type "tuple",data:=.seq #[.int i tk,x]}) e it ((i:Int)+1) old:=hP0 _ ec;have td:(hc.push {cls:=.type "tuple",data:=.seq #[.int i tk,x]}).get? hp.objs.size=some {cls:=.type "tuple",data:=.seq #[.int i tk,x]}:=by rw[<-hsz];exact Heap.get?_push_size _ rfl
 have kd: ∀b o,b≠e->b≠it->hp.get? b=some o->(hc.push {cls:=.type "tuple",data:=.seq #[.int i tk,x]}).get? b=some o:=λb o n1 n2 q=>
  hP0 _ (hsc.extBut b o n1 (hsb.extBut b o n1 (hsa.extBut b o n2 q)))
 have sd:IsSub k (hc.push {cls:=.type "tuple",data:=.seq #[.int i tk,x]}) it l (i+1):=ita.move λo q=>hP0 _ (hsc.extBut _ o (Ne.symm hne) (hsb.extBut _ o (Ne.symm hne) q));generalize hc.push {cls:=.type "tuple",data:=.seq #[.int i tk,x]}=hd at ed td kd sd ⊢;show wpAny _ _ (Builtin.SmallTypes.ownedTupleIsFree (.ref e) >>= _) _ _ ⟨hd,g,d,tk+1,os⟩;rw[hsz];refine wB ?_;unfold Builtin.SmallTypes.ownedTupleIsFree;refine wB (wpAny_field ed rfl (x:=.none) rfl (wP ?_));simp only[if_true];refine wB (wpAny_rule (wB (wpAny_field ed rfl (x:=old) rfl (wB (wpAny_setField_rec ed (by simp) λhf ef hsf=>?_)))))
 replace hsf:Heap.SameBut e hd hf:=hsf
 replace ef:IsEnum hf e it ((i:Int)+1) x:=ef
 show wpAny _ _ (Builtin.SmallTypes.ownedTupleHandOut (.ref e) (.ref hp.objs.size) >>= _) _ _ ⟨hf,g,d,tk+1,os⟩;refine wB ?_;unfold Builtin.SmallTypes.ownedTupleHandOut;refine wB (wpAny_setField_rec ef (by simp) λhg' eg hsg=>?_)
 replace hsg:Heap.SameBut e hf hg':=hsg
 replace eg:IsEnumOut hg' e it ((i:Int)+1) x hp.objs.size:=eg
 refine wpAny_setField_rec eg (by simp) λhh' eh hsh=>?_
 replace hsh:Heap.SameBut e hg' hh':=hsh
 replace eh:IsEnumOut hh' e it ((i:Int)+1) x hp.objs.size:=eh
 have up: ∀b o,b≠e->hd.get? b=some o->hh'.get? b=some o:=λb o n q=>hsh.extBut b o n (hsg.extBut b o n (hsf.extBut b o n q));exact wB (wpAny_letGo (wP ⟨_,rfl,hQ hh' eh (sd.move λo q=>up _ o (Ne.symm hne) q) (up _ _ (ne_of_gt hel) td) λb o n1 n2 q=>up b o n1 (kd b o n1 n2 q)⟩))
def TH(k:Bool)(l:Addr)(its:Yc):
  Meets (Builtin.«enumerate.__new__» ⟨[.type "enumerate",.ref l],[]⟩) (λ_ R s=>DG k s.heap l its/\
   R (.ok (.ret (.ref (s.heap.objs.size+1)))) {s with heap:=(s.heap.push (BK k l)).push {cls:=.type "enumerate",data:=.fields #[.none,.bool false,.ref s.heap.objs.size,rawInt 0,.none,.none]}}):=
 .of_wp λprog w A R s h=>by
  obtain⟨hp,g,d,tk,os⟩:=s;obtain⟨hl,h⟩:=h;have hsub:=sub_enumerate;have hL:DG k (Shared.heap ⟨hp,g,d,tk,os⟩) l its:=hl;have z1: ∀(h:Heap)(o:Obj),(h.push o).objs.size=h.objs.size+1:=λh o=>Heap.size_push ..
  wp_walk
  refine wpAny_stack_any λst=>wP ?_;split
  .rename_i c _ _ _ _ _;cases (c==Value.type "enumerate")
   .wp_walk using FT hL
    exact⟨_,rfl,by simp only[z1];exact h⟩
   .wp_walk using FT hL
    exact⟨_,rfl,by simp only[z1];exact h⟩
  .wp_walk using FT hL
   exact⟨_,rfl,by simp only[z1];exact h⟩
end
def JR(K:Zb)(F:List MV->zC->R Er):Sp:=λvs H Q _=> ∃ds,DenL K [] H ds vs/\ds.length=1/\ ∀g:Gm,g.K=K->Post g W0 [] H (F ds []) Q
def Dk{g:Gm}{F:List MV->zC->R Er}: ∀vs H Q E,JR g.K F vs H Q E->VM g 1 F vs H Q E:=λvs H Q E ⟨ds,l,hl,q⟩=>⟨[],[],ds,⟨rfl,by simp,λl a o h=>by simp at h⟩,l,hl,q g rfl⟩
def Rk{K:Zb}{H:Hp}{a:Addr}{xs:List V}(hO:Bu H)(h:SqL K H a xs):SqF K H a xs:=by
 rcases h with(h|⟨o,h⟩)|h
 .rcases hO a with z|⟨o,ys,z⟩
  .rw[z]at h;cases h
  .rw[z]at h;cases h
 .exact .inl ⟨o,h⟩
 .exact .inr h
def Dl{K:Zb}{F:List MV->zC->R Er}{H:Hp}{a:Addr}{ns:Ya}(hO:Bu H)(hS:SqL K H a (ns.map V.int))(h: ∃S,F [.scr (ns.map MV.int)] []=.ok (.val (.bl true)) S):JR K F [.ref a] H (λv _=>v=.bl true) λ_ _ _=>False:=by obtain⟨S,h⟩:=h;refine⟨_,yK (VH (Rk hO hS) (JK ns)) yS,rfl,λg _=>?_⟩;rw[h];exact λv α' H' x w d=>FI d.1
theorem dP{β γ:Type}(b:β)(S:zC)(k:β->zC->R γ):(R.ok b S).bind k=k b S:=by have h:=R.bind_ok b S k;exact Eq.trans h rfl
theorem Kj(d:MV)(S:zC):Jj (some (some d)) S=.ok (.val d) S:=rfl
def FU{S T:zC}:Cm S (S++T):=⟨by rw[lA];omega,λl hl=>.inl (getElem?_append_left hl)⟩
def cA(n:Nat)(i:Int):lo n (.int i):=by unfold lo;trivial
def BL(n:Nat)(i:Db):lo n (.str i):=by unfold lo;trivial
def Od(n:Nat)(i:Bool):lo n (.bl i):=by unfold lo;trivial
def BM(n:Nat):lo n .non:=by unfold lo;trivial
def dW{n:Nat}{ds:Zd}(h:uV n ds):lo n (.tup ds):=by unfold lo;exact h
theorem wI{n:Nat}: ∀{ds:Zd},(∀d∈ds,lo n d)->uV n ds
 |[],_=>by unfold uV;trivial
 |d::ds,h=>by unfold uV;exact⟨h d mF0,wI λe he=>h e (mO _ he)⟩
def OZ{S T:zC}{d:MV}(h:lo S.length d)(hn: ∀l,d≠.loc l):dR S (.val d) (S++T)=.ok (.val d) S:=by
 unfold dR;rw[iP FU];have e:(S++T).take S.length=S:=by simp
 cases d with
 |loc l=>exact absurd rfl (hn l)
 |_=>dsimp only;rw[iP h,e]
def Dm{S T:zC}{ds:Zd}(h:uV S.length ds):dR S (.new ds) (S++T)=.ok (.new ds) S:=by
 unfold dR;rw[iP FU];have e:(S++T).take S.length=S:=by simp
 dsimp only;rw[iP h,e]
def Do{S T:zC}{l:Nat}{ds:Zd}(hl:S.length<=l)(hS:(S++T)[l]? =some (.lst ds))(h:uV S.length ds):dR S (.val (.loc l)) (S++T)=.ok (.new ds) S:=by
 unfold dR;rw[iP FU];have e:(S++T).take S.length=S:=by simp
 dsimp only;rw[iN0 (by omega),hS];dsimp only;rw[iP h,e]
def cB{n:Nat}{F:List MV->zC->R Er}{rs:List Er}{S T:zC}{d:MV}(hn:rs.length=n)(hF:F (zS rs S).1 (zS rs S).2=.ok (.val d) (S++T))(h:lo S.length d)(hd: ∀l,d≠.loc l):yB n F rs S=.ok (.val d) S:=by unfold yB;rw[iP hn,hF];exact OZ h hd
def kU{n:Nat}{F:List MV->zC->R Er}{rs:List Er}{S T:zC}{ds:Zd}(hn:rs.length=n)(hF:F (zS rs S).1 (zS rs S).2=.ok (.new ds) (S++T))(h:uV S.length ds):yB n F rs S=.ok (.new ds) S:=by unfold yB;rw[iP hn,hF];exact Dm h
def sO{n:Nat}{F:List MV->zC->R Er}{rs:List Er}{S T:zC}{l:Nat}{ds:Zd}(hn:rs.length=n)(hF:F (zS rs S).1 (zS rs S).2=.ok (.val (.loc l)) (S++T))(hl:S.length<=l)(hS:(S++T)[l]? =some (.lst ds))(h:uV S.length ds):yB n F rs S=.ok (.new ds) S:=by unfold yB;rw[iP hn,hF];exact Do hl hS h
def pK{n:Nat}{F:List MV->zC->R Er}{rs:List Er}{S:zC}{d:MV}(hn:rs.length=n)(hF:F (zS rs S).1 (zS rs S).2=.ok (.val d) S)(h:lo S.length d)(hd: ∀l,d≠.loc l):yB n F rs S=.ok (.val d) S:=cB (T:=[]) hn (by rw[aN];exact hF) h hd
section
variable{S:zC}
theorem Wl(b:Bool)(S:zC):mB (.val (.bl b)) S=.ok b S:=rfl
theorem as_int(i:Int)(S:zC):JN (.val (.int i)) S=.ok (some i) S:=rfl
theorem Rl(b:Bool)(S:zC):FM (.val (.bl b)) S=.ok b S:=rfl
theorem add_int(i j:Int)(S:zC):xU (.val (.int i)) (.val (.int j)) S=.ok (.val (.int (i+j))) S:=rfl
theorem sub_int(i j:Int)(S:zC):DS (.val (.int i)) (.val (.int j)) S=.ok (.val (.int (i - j))) S:=rfl
def add_str{x y:Db}(h:x.length+y.length<=sizeLine):xU (.val (.str x)) (.val (.str y)) S=.ok (.val (.str (x++y))) S:=iP h
def VY{x y:Zd}(h:x.length+y.length<=sizeLine):xU (.val (.tup x)) (.val (.tup y)) S=.ok (.val (.tup (x++y))) S:=iP h
def MA{p q:Er}{x y:Zd}(h1:VO S p=some x)(h2:VO S q=some y)(h:x.length+y.length<=sizeLine):xU p q S=.ok (.new (x++y)) S:=by
 have e:VR p q S=.ok (.new (x++y)) S:=by unfold VR;rw[h1,h2];exact iP h
 unfold xU;split
 .cases h1
 .cases h1
 .cases h1
 .exact e
theorem Rm{g:Int->Int->Bool}(i j:Int)(S:zC):ibF g (.val (.int i)) (.val (.int j)) S=.ok (.val (.bl (g i j))) S:=rfl
def Kk(i j:Int):Iw (.int i) (.int j)=decide (i=j):=by
 show(i==j)=_;by_cases h:i=j
 .subst h;simp
 .rw[dF0 h];simpa using h
def Kl(x y:Db):Iw (.str (kE x)) (.str (kE y))=decide (x=y):=by
 show(kE x==kE y)=_;by_cases h:x=y
 .subst h;simp
 .rw[dF0 h];have:kE x≠kE y:=λz=>h (EK z);simpa using this
theorem mT(n:Nat)(i j:Int):eqv S (n+1) (.int i) (.int j)=some (decide (i=j)):=by rw[<-Kk];rfl
theorem VZ(n:Nat)(x y:Db):eqv S (n+1) (.str x) (.str y)=some (decide (x=y)):=by rw[<-Kl];rfl
theorem Ro(n:Nat)(x:Int)(y:Db):eqv S (n+1) (.int x) (.str y)=some false:=rfl
theorem Rp(n:Nat)(x:Db)(y:Int):eqv S (n+1) (.str x) (.int y)=some false:=rfl
theorem Dp(n:Nat)(x y:Bool):eqv S (n+1) (.bl x) (.bl y)=some (x==y):=rfl
theorem Km(d f:MV):DU (.val d) (.val f) S=match eqv S (zT+1) d f with |some k=>.ok (.val (.bl k)) S|none=>.no:=rfl
theorem Ko(d f:MV):Ct (.val d) (.val f) S=match eqv S (zT+1) d f with |some k=>.ok (.val (.bl !k)) S|none=>.no:=rfl
def Dq{d f:MV}{k:Bool}(h:eqv S (zT+1) d f=some k):DU (.val d) (.val f) S=.ok (.val (.bl k)) S:=by rw[Km,h]
def TJ{d f:MV}{k:Bool}(h:eqv S (zT+1) d f=some k):Ct (.val d) (.val f) S=.ok (.val (.bl !k)) S:=by rw[Ko,h]
def eq_int(i j:Int)(S:zC):DU (.val (.int i)) (.val (.int j)) S=.ok (.val (.bl (decide (i=j)))) S:=Dq (mT _ i j)
def eq_str(x y:Db)(S:zC):DU (.val (.str x)) (.val (.str y)) S=.ok (.val (.bl (decide (x=y)))) S:=Dq (VZ _ x y)
def ne_int(i j:Int)(S:zC):Ct (.val (.int i)) (.val (.int j)) S=.ok (.val (.bl (!decide (i=j)))) S:=TJ (mT _ i j)
theorem lt_int(i j:Int)(S:zC):Ob (.val (.int i)) (.val (.int j)) S=.ok (.val (.bl (decide (i<j)))) S:=rfl
theorem lt_str(i j:Db)(S:zC):Ob (.val (.str i)) (.val (.str j)) S=.ok (.val (.bl (decide (i<j)))) S:=rfl
def yH{b:Int}(h:0<b)(h2:b<1073741824)(a:Int)(S:zC):jD (.val (.int a)) (.val (.int b)) S=.ok (.val (.int (a / b))) S:=by
 refine iP ⟨h,?_⟩;have h3:b.natAbs<2 ^ 30:=by omega
 have:=(Nat.log2_lt (by omega:b.natAbs≠0)).mpr h3;omega
def mod_lit{b:Int}(h:0<b)(a:Int)(S:zC):wW (.val (.int a)) (.val (.int b)) S=.ok (.val (.int (a % b))) S:=iP h
def MC{b:Int}(h: -(2 ^ 64)<b/\b<2 ^ 64)(a:Int)(S:zC):sK (.val (.int a)) (.val (.int b)) S=.ok (.val (.int (a * b))) S:=iP (Or.inr (Or.inl h))
def aS{a:Int}(h: -(2 ^ 64)<a/\a<2 ^ 64)(b:Int)(S:zC):sK (.val (.int a)) (.val (.int b)) S=.ok (.val (.int (a * b))) S:=iP (Or.inl h)
def WA{a b:Int}(h:ZP a b)(S:zC):DT (.val (.int a)) (.val (.int b)) S=.ok (.val (.int (a ^ b.toNat))) S:=iP h
theorem Kp(ρ:zK)(i:Nat)(d:MV)(S:zC):LO ρ i (.val d) S=.ok (.next (ρ.set i (some d))) S:=rfl
theorem Kr(ρ:zK)(i:Nat)(ds:Zd)(S:zC):LO ρ i (.new ds) S=.ok (.next (ρ.set i (some (.loc S.length)))) (S++[.lst ds]):=rfl
theorem Ks(S:zC):zS [] S=([],S):=rfl
theorem Kt(d:MV)(rs:List Er)(S:zC):zS (.val d::rs) S=(d::(zS rs S).1,(zS rs S).2):=rfl
theorem zD{F G:zK->zC->R Fl}{ρ ρ':zK}{S S':zC}(h:F ρ S=.ok (.next ρ') S'):zQ F G ρ S=G ρ' S':=by unfold zQ;rw[h];rfl
theorem qG{F G:zK->zC->R Fl}{ρ:zK}{S S':zC}{r:Er}(h:F ρ S=.ok (.ret r) S'):zQ F G ρ S=.ok (.ret r) S':=by unfold zQ;rw[h];rfl
def yX(S:zC):stay [] S:=bY
def yE{gf:MV->zK->zC->R zK}{b:zK->zC->R Fl}{gs:Zh}{d:MV}{ds:Zd}{ρ ρ0 ρ':zK}{S0 S':zC}(hg:gf d ρ S=.ok ρ0 S0)(h:b ρ0 S0=.ok (.next ρ') S')(hs:stay gs S'):jC gf b gs (d::ds) ρ S=jC gf b gs ds ρ' S':=by
 conv=>lhs;unfold jC
 rw[hg,dP,h,dP];dsimp only;rw[iP hs]
def WB{gf:MV->zK->zC->R zK}{b:zK->zC->R Fl}{gs:Zh}{d:MV}{ds:Zd}{ρ ρ0:zK}{S0 S':zC}{r:Er}(hg:gf d ρ S=.ok ρ0 S0)(h:b ρ0 S0=.ok (.ret r) S'):jC gf b gs (d::ds) ρ S=.ok (.ret r) S':=by
 conv=>lhs;unfold jC
 rw[hg,dP,h,dP]
def uW{t:zK->zC->R Bool}{b:zK->zC->R Fl}{n:Nat}{ρ ρ':zK}{S1 S2:zC}(h1:t ρ S=.ok true S1)(h2:b ρ S1=.ok (.next ρ') S2):bK t b (n+1) ρ S=bK t b n ρ' S2:=by
 conv=>lhs;unfold bK
 rw[h1,dP,iP rfl,h2,dP]
def JS{t:zK->zC->R Bool}{b:zK->zC->R Fl}{n:Nat}{ρ:zK}{S1:zC}(h1:t ρ S=.ok false S1):bK t b (n+1) ρ S=.ok (.next ρ) S1:=by
 conv=>lhs;unfold bK
 rw[h1,dP,iN0 xF0]
def vR{α:Type}{xs:List α}{i:Int}(h0:0<=i)(h1:i<xs.length): ∃c,tY xs i=some c:=by refine⟨xs[i.toNat]'(by omega),?_⟩;unfold tY SE;rw[iP h0,iP h1];exact gE _
def vS{α:Type}{P:α->Prop}{xs:List α}{i:Int}{e:α}(h: ∀e∈xs,P e)(z:tY xs i=some e):P e:=by
 unfold tY at z
 cases q:SE xs.length i with
 |none=>rw[q]at z;cases z
 |some j=>rw[q]at z;exact h e (mem_of_getElem? (show xs[j]? =some e from z))
def ix_str{x:Db}{i:Int}{c:Nat}(h:x.length<=sizeLine)(hk:tY x i=some c):wN (.val (.str x)) (.val (.int i)) S=.ok (.val (.str [c])) S:=by show(if x.length<=sizeLine then match tY x i with |some c=>R.ok (Er.val (.str [c])) S|none=>.no else .no)=_;rw[iP h,hk]
def ix_tup{ds:Zd}{i:Int}{d:MV}(hk:tY ds i=some d):wN (.val (.tup ds)) (.val (.int i)) S=.ok (.val d) S:=by show(match tY ds i with |some d=>R.ok (Er.val d) S|none=>.no)=_;rw[hk]
def Dr{ds:Zd}{i:Int}{d:MV}(hk:tY ds i=some d):wN (.new ds) (.val (.int i)) S=.ok (.val d) S:=by show(match tY ds i with |some d=>R.ok (Er.val d) S|none=>.no)=_;rw[hk]
def eG{l:Nat}{ds:Zd}{i:Int}{d:MV}(hS:S[l]? =some (.lst ds))(hk:tY ds i=some d):wN (.val (.loc l)) (.val (.int i)) S=.ok (.val d) S:=by
 have e:hG S (.val (.loc l))=some ds:=by unfold hG;dsimp only;rw[hS]
 show(match hG S (.val (.loc l))with |some ds=>getL ds (.val (.int i)) S|none=>.no)=_;rw[e];show(match tY ds i with |some d=>R.ok (Er.val d) S|none=>.no)=_;rw[hk]
def mU{l:Nat}{ds:Zd}(hS:S[l]? =some (.lst ds)):mG [.val (.loc l)] S=.ok (.val (.int ds.length)) S:=by
 have e:hG S (.val (.loc l))=some ds:=by unfold hG;dsimp only;rw[hS]
 have e2:itemsOf S (.val (.loc l))=some ds:=by unfold itemsOf;exact e
 show(match itemsOf S (.val (.loc l))with |some ds=>R.ok (Er.val (.int ds.length)) S|none=>.no)=_;rw[e2]
def iH{l:Nat}{ds:Zd}(hS:S[l]? =some (.lst ds)):hG S (.val (.loc l))=some ds:=by unfold hG;dsimp only;rw[hS]
def MD{l:Nat}{ds:Zd}(hS:S[l]? =some (.lst ds)):VO S (.val (.loc l))=some ds:=by unfold VO;dsimp only;rw[hS]
def vT{l:Nat}{ds:Zd}(hS:S[l]? =some (.lst ds)):HW (.val (.loc l)) S=.ok ⟨ds,[(l,ds)]⟩ S:=by unfold HW;dsimp only;rw[hS]
def pL{l:Nat}{ds:Zd}(hS:S[l]? =some (.lst ds)):stay [(l,ds)] S:=λp hp=>by
 have:p=(l,ds):=by simpa using hp
 subst this;exact hS
def ME{j:Int}(h: -(2 ^ 62)<=j/\j<2 ^ 62):kA [.val (.int j)] S=.ok ⟨(List.range j.toNat).map λk=>.int (k:Nat),[]⟩ S:=iP h
def cut_str{x:Db}(h:x.length<=sizeLine)(lo hi:Yk):fQ (.val (.str x)) lo hi S=.ok (.val (.str (bU x lo hi))) S:=iP h
def Ds{α:Type}(x:List α)(lo hi:Yk):(bU x lo hi).length<=x.length:=by unfold bU;rw[lT,length_drop];omega
def Dt{α:Type}{x:List α}{lo hi:Yk}{a:α}(h:a∈bU x lo hi):a∈x:=List.mem_of_mem_drop (mem_of_mem_take h)
def aH{α:Type}(x:List α)(k:Int)(h0:0<=k):bU x none (some k)=x.take k.toNat:=by
 unfold bU;have h1:HT.sIx x.length 0 none=0:=rfl;rw[h1];have h2:HT.sIx x.length x.length (some k)=min k.toNat x.length:=by unfold HT.sIx;simp only;split<;>omega
 rw[h2,drop_zero,sub_zero];by_cases hk:k.toNat<=x.length
 .rw[min_eq_left hk]
 .rw[Nat.min_eq_right (by omega),List.take_length,take_of_length_le (by omega)]
def fits{n:Nat}(h:n<=1000000):n<=sizeLine:=by rw[sizeLine_eq];exact le_trans h (by decide)
def qH{rs:List Er}(h:rs.length<=1000000):bX rs S=.ok (.new (zS rs S).1) (zS rs S).2:=iP (fits h)
def TL{rs:List Er}(h:rs.length<=1000000):dQ rs S=.ok (.val (.tup (zS rs S).1)) (zS rs S).2:=iP (fits h)
def lst0(S:zC):bX [] S=.ok (.new []) S:=qH (by simp)
def lst1(a:MV)(S:zC):bX [.val a] S=.ok (.new [a]) S:=qH (by simp)
def Wm(a b:MV)(S:zC):bX [.val a,.val b] S=.ok (.new [a,b]) S:=qH (by simp)
def lst3(a b c:MV)(S:zC):bX [.val a,.val b,.val c] S=.ok (.new [a,b,c]) S:=qH (by simp)
def lst6(a b c d e f:MV)(S:zC):bX [.val a,.val b,.val c,.val d,.val e,.val f] S=.ok (.new [a,b,c,d,e,f]) S:=qH (by simp)
def tup2(a b:MV)(S:zC):dQ [.val a,.val b] S=.ok (.val (.tup [a,b])) S:=TL (by simp)
def tup3(a b c:MV)(S:zC):dQ [.val a,.val b,.val c] S=.ok (.val (.tup [a,b,c])) S:=TL (by simp)
theorem Rq(i:Int)(S:zC):IA [.val (.int i),.val (.typ "str")] S=.ok (.val (.bl false)) S:=rfl
theorem Rr(i:Db)(S:zC):IA [.val (.str i),.val (.typ "str")] S=.ok (.val (.bl true)) S:=rfl
theorem Rt(i:Int)(S:zC):IA [.val (.int i),.val (.typ "tuple")] S=.ok (.val (.bl false)) S:=rfl
theorem Ru(i:Db)(S:zC):IA [.val (.str i),.val (.typ "tuple")] S=.ok (.val (.bl false)) S:=rfl
theorem Rv(i:Zd)(S:zC):IA [.val (.tup i),.val (.typ "tuple")] S=.ok (.val (.bl true)) S:=rfl
theorem Rw(i:Bool)(S:zC):IA [.val (.bl i),.val (.typ "bool")] S=.ok (.val (.bl true)) S:=rfl
theorem sP{gf:MV->zK->zC->R zK}{cf:zK->zC->R Bool}{ef:zK->zC->R Er}{ρb:zK}{gs:Zh}{P:MV->Prop}(hs:stay gs S):
  ∀{ds:Zd},(∀d∈ds, ∃ρ1 y,gf d ρb S=.ok ρ1 S/\cf ρ1 S=.ok true S/\ef ρ1 S=.ok (.val y) S/\P y)-> ∃out,xN gf cf ef ρb gs ds S=.ok out S/\out.length=ds.length/\ ∀o∈out,P o
 |[],_=>⟨[],rfl,rfl,λo h=>by simp at h⟩
 |d::ds,st=>by obtain⟨ρ1,y,h1,h2,h3,h4⟩:=st d mF0;obtain⟨out,e,hl,hp⟩:=sP hs (ds:=ds) λd hd=>st d (mO _ hd);refine⟨y::out,?_,by rw[lC0,lC0,hl],λo ho=>(mC.mp ho).elim (λz=>z▸h4) (hp o)⟩;unfold xN;rw[h1,xG,dP,h2,xG,dP,iP rfl,h3,xG,dP];unfold eE;rw[dP,iP hs,e];rfl
def Nm(x:Db):Prop:=1<=x.length/\x.length<=8/\ ∀c∈x,97<=c/\c<=122
def Vl:MV->Prop
 |.int i=> -(10 ^ 30)<i/\i<10 ^ 30
 |.str x=>Nm x
 |_=>False
def Vl.cases{d:MV}(h:Vl d):(∃i,d=.int i/\ -(10 ^ 30)<i/\i<10 ^ 30)\/ ∃x,d=.str x/\Nm x:=by
 cases d with
 |int i=>exact .inl ⟨i,rfl,h⟩
 |str x=>exact .inr ⟨x,rfl,h⟩
 |_=>exact h.elim
end
def Ite(K:Zb)(k:Bool)(l:Addr):It:=
 ⟨λi H=> ∃xs x,Kg k K H l xs/\xs[i]? =some x,
   λi H v H'=> ∃p x,H p=none/\v=.ref p/\H'=xI H p (.tup [.int (i:Nat),x])/\(∀xs,Kg k K H l xs->xs[i]? =some x),
   λi H=> ∃xs,Kg k K H l xs/\xs.length<=i⟩
section
variable{prog:Program}{w:World}{A:Around}{E:VP}{s:Shared}{k:Bool}{l:Addr}{its:Yc}
def ZV(hl:DG k s.heap l its){Q:VP}
  (h: ∀h',EnSt k (s.heap.objs.size+1) s.heap.objs.size l 0 h'->(∀c o,s.heap.get? c=some o->h'.get? c=some o)->Q (.ref (s.heap.objs.size+1)) {s with heap:=h'}):
  wpAny (model prog w) A (call (.type "enumerate") [.ref l]) Q E s:=by
 refine callType_new F.called_enumerate (by decide) (F.typeCall_enumerate_1 _) (F.newCall_enumerate_1 _) (λobj=>F.args_object_init_2 obj _) F.entry_enumerate_new (TH k l its) ⟨hl,?_⟩;have hz:(s.heap.push (BK k l)).objs.size=s.heap.objs.size+1:=Heap.size_push ..;show _/\_;have he:IsEnum ((s.heap.push (BK k l)).push {cls:=.type "enumerate",data:=.fields #[.none,.bool false,.ref s.heap.objs.size,rawInt 0,.none,.none]}) (s.heap.objs.size+1) s.heap.objs.size 0 .none:=by have:=Heap.get?_push_size (s.heap.push (BK k l)) (o:={cls:=.type "enumerate",data:=.fields #[.none,.bool false,.ref s.heap.objs.size,rawInt 0,.none,.none]}) rfl;rw[hz]at this;exact this
 refine⟨⟨_,he,rfl⟩,h _ ⟨⟨.none,he⟩,IsSub.mk' (hP0 _ (Heap.get?_push_size _ rfl))⟩ λb o x=>hP0 _ (hP0 _ x)⟩
end
def ZW{P:Program}{w:World}{K:Zb}{elts:Za}{kt:Nat}{pt:Pos}{k:Bool}{e it l:Addr}(hne:e≠it):
  Turn P w K (.Tuple elts kt pt) (Ite K k l) [e,it] e (λi h=>EnSt k e it l i h) where
 mem:=by simp
 obj:=λi h st b hb=>by
  obtain⟨⟨old,he⟩,hs⟩:=st;have hb':b=e\/b=it:=by simpa using hb
  rcases hb' with rfl|rfl
  .exact⟨_,he,λv q=>by cases q⟩
  .exact hs.there
 keep:=λi h h' st kk=>by obtain⟨⟨old,he⟩,hs⟩:=st;exact⟨⟨old,kk e (by simp) _ he⟩,hs.move λo q=>kk it (by simp) o q⟩
 item:=by
  intro X hP hw hK hc i pins s σ H E I hf st hg;subst hP hw hK;obtain⟨xs,x,q1,hx⟩:=hg;obtain⟨its,r1,p1,_⟩:=I.seqK q1;obtain⟨u,hu,ru⟩:=r1.get hx;obtain⟨⟨old,he⟩,hs⟩:=st;have hT:s.TypeIs (.ref e) "enumerate":=⟨_,he,rfl⟩
  unfold pyNext
  refine wB (wpAny_attempt (wpAny_callSpecial?_slot (name:=Str.ofString "__next__") hT F.slot_enumerate_next (wpAny_call_entry F.slot_enumerate_next hT F.entry_enumerate_next
   (Ki he hs p1 (x:=u) (by simpa using hu) hne λh' a1 a2 a3 a4=>wP ⟨_,rfl,?_⟩) (F.args_enumerate_next_1 _))))
  refine wpAny_letOwnedTupleGo_enum a1 λh2 z2 sb2=>?_;have hpn:H s.heap.objs.size=none:=I.hok.fresh (le_refl _)
  have I0:Inv X pins σ (xI H s.heap.objs.size (.tup [.int (i:Nat),x])) {s with heap:=s.heap.push {cls:=.type "tuple",data:=.seq #[.int i s.toks,u]},toks:=s.toks+1}:=
   I.laid (t':=s.toks+1) (o:=.tup [.int (i:Nat),x]) (λb o e=>hP0 _ e) (le_refl _) ⟨by show 2<=sizeLine;decide,[.int i s.toks,u],.cons ⟨_,rfl⟩ (.cons ru .nil),⟨_,Heap.get?_push_size _ rfl,rfl,_,rfl⟩⟩
  have lt: ∀b∈[e,it],b<s.heap.objs.size:=λb hb=>by
   have hb':b=e\/b=it:=by simpa using hb
   rcases hb' with rfl|rfl
   .exact Heap.lt_size he
   .obtain⟨o,eo,_⟩:=hs.there;exact Heap.lt_size eo
  have fr: ∀b∈[e,it],xI H s.heap.objs.size (.tup [.int (i:Nat),x]) b=none:=λb hb=>by rw[zO (ne_of_lt (lt b hb))];exact(hf b hb).1
  have mv: ∀b o,b∉[e,it]->(s.heap.push {cls:=.type "tuple",data:=.seq #[.int i s.toks,u]}).get? b=some o->h2.get? b=some o:=λb o hb eo=>by
   simp only[mC,nM,or_false,not_or]at hb;refine sb2.extBut _ _ hb.1 ?_;by_cases hbs:b=s.heap.objs.size
   .subst hbs;rw[Heap.get?_push_size _ rfl]at eo;cases eo;exact a3
   .rw[Heap.get?_push_ne _ _ _ hbs]at eo;exact a4 b o hb.1 hb.2 eo
  have I2:=I0.turnedL (h':=h2) (t':=s.toks+1) mv λb hb=>let ⟨_,c2,c3,c4,c5,c6⟩:=hf b hb;⟨fr b hb,c2,c3,c4,c5,c6⟩;refine⟨.ref s.heap.objs.size,_,I2,rfl,⟨s.heap.objs.size,x,hpn,rfl,rfl,λzs hz=>?_⟩,⟨⟨u,?_⟩,?_⟩,fr⟩
  .rw[I.seqK_inj hz q1];exact hx
  .simpa using z2
  .exact a2.move λo eo=>sb2.extBut _ _ (Ne.symm hne) eo
 done:=by
  intro X hP hw hK hc i pins s σ H E I hf st hg;subst hP hw hK;obtain⟨xs,q1,hx⟩:=hg;obtain⟨its,r1,p1,_⟩:=I.seqK q1;obtain⟨⟨old,he⟩,hs⟩:=st;have hT:s.TypeIs (.ref e) "enumerate":=⟨_,he,rfl⟩
  have e1:=r1.length;unfold pyNext;refine wB (wpAny_attempt (wpAny_callSpecial?_slot (name:=Str.ofString "__next__") hT F.slot_enumerate_next (wpAny_call_entry F.slot_enumerate_next hT F.entry_enumerate_next ?_ (F.args_enumerate_next_1 _))));show wpAny _ _ (field (.ref e) 2 >>= _) _ _ _;refine wB (wpAny_field he rfl (x:=.ref it) rfl ?_);refine wB (Kf (I.ok.hd hc) hs p1 (by simp;omega) λh' x hk hx'=>?_);obtain⟨o,ho,hcl⟩:=hx';refine wB (wpAny_isInstance (T:="StopIteration") (b:=true) ⟨o,ho,hcl⟩ isSubtype_stop (wP ⟨rfl,?_⟩));refine I.turnedL (h':=h') (t':=s.toks) (λb o hb eo=>?_) hf;simp only[mC,nM,or_false,not_or]at hb;exact hk b o hb.2 eo
 self:=λ_ _ _ _ _ st h=>let ⟨⟨_,he⟩,_⟩:=st;wpAny_pyIter_enum he h
def Wn(K:Zb)(ta:TA):TI:=λσ H R=>ta σ H λvs H1=> ∃k l,vs=[.ref l]/\(∃xs,Kg k K H1 l xs)/\R (Ite K k l) H1
section
variable{X:Cx}{W:XW}{a:Expr}{elts:Za}{kt:Nat}{pt p pos:Pos}{ta:TA}{af:zK->zC->R (List Er)}
def Ku(hg:Gl X "enumerate")(hm:X.mg "enumerate"=none)(ha:PA X [a] ta)(hs:starEach [a] X.env=[(false,eval a X.env)]:=by rfl):
  PI X (.Tuple elts kt pt) (.Call (.Name "enumerate" p) [a] [] pos) (Wn X.K ta):=by
 intro pins s σ H R I h;refine Call_ (EW I hg hm Kh (PyProof.Rows.callWith_type1 (jX (ha pos pins s σ H _ I h) λus s1 ⟨vs,H1,I1,r1,q1⟩=>?_) (by rw[hs];rfl) (by rfl)));obtain⟨k,l,rfl,⟨xs,c1⟩,q⟩:=q1
 cases r1 with
 |cons r rr=>
  cases rr;cases r;obtain⟨its,v1,p1,_⟩:=I1.seqK c1;refine ZV p1 λh' st hk=>let ⟨⟨_,he⟩,_⟩:=id st;wpAny_pyIter_enum he ?_;have I2:Inv X pins σ H1 {s1 with heap:=h'}:=I1.kept (t':=s1.toks) hk;refine⟨_,_,_,_,H1,rfl,I2,ZW (ne_of_gt (Nat.lt_succ_self _)),st,λb hb=>?_,q⟩
  have hle:s1.heap.objs.size<=b:=by
   have hb':b=s1.heap.objs.size+1\/b=s1.heap.objs.size:=by simpa using hb
   rcases hb' with h|h<;>rw[h]<;>(first |exact le_refl _|exact Nat.le_add_right _ _)
  exact I1.fpOk hle (I1.hok.fresh hle)
def PB(xs:Zd):List MV:=xs.zipIdx.map λp=>.tup [.int (p.2:Nat),p.1]
def Xt(rs:List Er)(S:zC):R Wk:=match rs with
 |[p]=>match srcOf S p with
  |some a=>.ok ⟨PB a.ds,a.gs⟩ S
  |none=>.no
 |_=>.no
def Kv(hg:Gl X "enumerate")(hm:X.mg "enumerate"=none)(ha:FL X W [a] af)(hs:starEach [a] X.env=[(false,eval a X.env)]:=by rfl):
  Jn X W (.Tuple elts kt pt) (.Call (.Name "enumerate" p) [a] [] pos) (λρ S=>(af ρ S).bind Xt):=by
 obtain⟨t,ha,k⟩:=ha;refine⟨_,Ku hg hm ha hs,λα ρ S σ H Rc wd sl q=>k α ρ S σ H _ wd sl (q.bind λvs rs S1 α1 H1 e x1 w1 d1 q1=>?_)⟩
 replace q1:=q1.shift x1
 unfold Xt at q1;split at q1
 .rename_i r1;split at q1
  .rename_i s1 e1;obtain⟨u,rfl,du⟩:=VL d1;obtain⟨l1,P1,rfl,p1,D1⟩:=Dj w1 e1 du;have g1:=D1.get _ _ _ p1;have hlen:(PB s1.ds).length=s1.ds.length:=by unfold PB;rw[lM0,List.length_zipIdx]
   refine⟨s1.k,l1,rfl,⟨_,g1.choose_spec.1⟩,q1.here (u:=Ite X.K s1.k l1) w1 ⟨λα S H=>P1 α S H,?_,p1,?_,?_⟩⟩
   .intro i α2 S2 H2 b1 w2;obtain⟨us,c1,c2⟩:=D1.get _ _ _ b1;have hl:=c2.length;refine⟨λhi=>?_,λhi=>?_⟩
    .have hi:i<(PB s1.ds).length:=hi;have h1:i<us.length:=by omega
     refine⟨⟨us,us[i],c1,gE h1⟩,?_⟩;rintro x H' ⟨pp,xx,hp,rfl,rfl,hx⟩;obtain⟨d,hd,dd⟩:=c2.get (hx us c1);have xn:=w2.newx (o:=.tup [.int (i:Nat),xx]) hp;have wn:=w2.new (o:=.tup [.int (i:Nat),xx]) hp;refine⟨xn,wn,D1.stays _ _ _ _ _ _ b1 xn wn (D1.st _ _ _ b1),.tup [.int (i:Nat),d],?_,?_⟩
     .unfold PB;rw[getElem?_map,List.getElem?_zipIdx,hd];simp
     .exact qC (.of zR) (yK (xB _) (yK (dd.ext xn) yS))
    .have hi:(PB s1.ds).length<=i:=hi;exact⟨us,c1,by omega⟩
   .intro α1 S1 H1 α2 S2 H2 b1 x w hs;exact D1.stays _ _ _ _ _ _ b1 x w hs
   .exact D1.st _ _ _ p1
  .exact q1.elim
 .exact q1.elim
end
instance:DecidableEq MV:=λ_ _=>Classical.propDecidable _
def look(kvs:Zi)(k:MV):Option MV:=(kvs.find? λp=>decide (p.1=k)).map (·.2)
def putK(kvs:Zi)(k d:MV):List (MV×MV):=if(look kvs k).isSome=true then kvs.map (λp=>if p.1=k then(p.1,d)else p)else kvs++[(k,d)]
def JT(p:MV×MV)(kvs:Zi)(k:MV):look (p::kvs) k=if p.1=k then some p.2 else look kvs k:=by
 unfold look;rw[find?_cons];by_cases h:p.1=k
 .rw[dT0 h,iP h];rfl
 .rw[dF0 h,iN0 h]
section
variable{X:Cx}{W:XW}{a o:Expr}{pos:Pos}
def TN{pins:Yi}{σ:St}{H:Hp}{s:Shared}(I:Inv X pins σ H s):sysModules<s.heap.objs.size:=lt_trans (by decide) ((I.mod.glob.keeps I.bk).lt)
def Wd.put{gg:Gm}{α:Yd}{S:zC}{H:Hp}{p:Addr}{ho:HO}{m:MO}(w:Wd gg α S H)(hp:H p=none)(q:ObD gg (α++[p]) (xI H p ho) p m):Ext α H (α++[p]) (xI H p ho)/\Wd gg (α++[p]) (S++[m]) (xI H p ho):=by
 have x:=w.newx (o:=ho) hp;have nw:=w.new (o:=ho) hp;have np:=w.fresh hp;refine⟨⟨⟨⟨[p],rfl⟩,x.tup,x.frz⟩,λb hb=>?_,x.keep,x.has⟩,⟨?_,?_,λl c ob h1 h2=>?_⟩⟩
 .rcases mem_append.mp hb with h|h
  .exact .inl h
  .rw[mS.mp h];exact .inr hp
 .rw[lA,lA,w.len];rfl
 .exact nodup_append.mpr ⟨w.nd,by simp,λa ha c hc=>by rw[mS.mp hc];rintro rfl;exact np ha⟩
 .by_cases hl:l<α.length
  .rw[getElem?_append_left hl]at h1;rw[getElem?_append_left (by rw[<-w.len];exact hl)]at h2;exact(nw.obj l c ob h1 h2).move (Ex0.grow α [p] _) rfl
  .have hl':l=α.length:=by have:=(gS.mp h1).1;rw[lA,lS]at this;omega
   subst hl';rw[getElem?_append_right (le_refl _),sub_self]at h1;rw[getElem?_append_right (by rw[w.len];exact le_refl _),w.len,sub_self]at h2;cases h1;cases h2;exact q
def PC(S:zC):R Er:=.ok (.val (.loc S.length)) (S++[.dic []])
def FV:yR X W (.Dict [] [] pos) (λ_ S=>PC S):=by
 refine⟨λσ H Q=> ∀p,H p=none->Q (.ref p) (xI H p (.dK [])),λpins s σ H Q I h=>?_,λα ρ S σ H Q wd sl q p hp=>?_⟩
 .exact wpAny_Dict_empty ⟨.ref s.heap.objs.size,_,I.laid (a:=s.heap.objs.size) (o:=.dK []) (t':=s.toks) (λ_ _ q=>hP0 _ q) (le_refl _)
   ⟨zero_le _,beq_eq_false_iff_ne.mpr (Ne.symm (ne_of_lt (TN I))),[],.nil,Heap.DictOf.new s.heap⟩,rfl,h _ (I.hok.fresh (le_refl _))⟩
 .obtain⟨x,w'⟩:=wd.put (ho:=.dK []) (m:=.dic []) hp (.inl ⟨[],zR,.nil⟩);exact q (.ref p) (α++[p]) _ x w' (DenE.val (qD (by rw[<-wd.len,getElem?_append_right (le_refl _),sub_self];rfl)))
end
def FsD(g:Gm)(α:Yd)(H:Hp)(d:Option Addr)(fs:List (Str×MV)):Prop:=fs=[]\/ ∃dx gs od,d=some dx/\H dx=some (.frz od (.xd gs))/\DenF g.K α H fs gs
abbrev WE(g:Gm)(E:XK):XW:=λc fs _ α H=> ∀C d,g.mg c=some (.ref C)->FsD g α H d fs->E (.ref C) d H
def FW:MV->Bool
 |.non=>true
 |.bl _=>true
 |.int _=>true
 |.str _=>true
 |_=>false
def ZX{K:Zb}{α α':Yd}{H:Hp}: ∀{d:MV}{v:V},FW d=true->Den K α H d v->Den K α' H d v
 |.non,_,_,q=>by cases aY q;exact fP
 |.bl _,_,_,q=>by cases mQ q;exact gG _
 |.int _,_,_,q=>by cases xK q;exact xB _
 |.str _,_,_,q=>by cases wV q;exact aG _
theorem FX{K:Zb}{α α':Yd}{H:Hp}: ∀{fs gs},fs.all (λp=>FW p.2)=true->DenF K α H fs gs->DenF K α' H fs gs
 |_,_,_,.nil=>.nil
 |_,_,h,.cons a l=>by rw[all_cons,aE]at h;exact .cons (ZX h.1 a) (FX h.2 l)
def Post.wmono{β τ:Type}[Dn β τ]{g:Gm}{W W':XW}{α:Yd}{H:Hp}(f: ∀c fs S α' H',W c fs S α' H'->W' c fs S α' H'): ∀{m:R β}{Q:τ->Hp->Prop},Post g W α H m Q->Post g W' α H m Q
 |.ok b S,Q,q=>q
 |.exc c fs S,_,q=>λα' H' x w=>f _ _ _ _ _ (q α' H' x w)
 |.no,_,q=>q
def vU(K:Zb)(C:Addr)(bm:Yb)(init:Option Value):Prop:=
 ∃nm q N bs hd sn sub ab col dd k0 k1 k2 k3 k5,K.lookup C=some (excClassObj nm q C N bs bm hd sn sub ab col dd k0 k1 k2 k3 k5 "ValueError.__new__")/\PySem.W.nsOkIn K N=true/\PySem.W.nsIn K N "__init__"=some init/\(∀n∈qn,PySem.W.nsIn K N n=some none)/\hd=true
def XEach(K:Zb)(mg:Yg)(M:Addr):List (Str×Addr)->Prop
 |[]=>True
 |(c,C)::r=>(mg c=some (.ref C)/\ ∃i,vU K C (.ref M::mE) i)/\XEach K mg M r
structure XTab(K:Zb)(mg:Yg)(M:Addr)(cs:List (Str×Addr)):Prop where
 m:mg "MendError"=some (.ref M)
 mc:vU K M mE none
 each:XEach K mg M cs
 nd:(M::cs.map (·.2)).Nodup
theorem XEach.at{K:Zb}{mg:Yg}{M:Addr}: ∀{cs:List (Str×Addr)},XEach K mg M cs-> ∀{c C},(c,C)∈cs->mg c=some (.ref C)/\ ∃i,vU K C (.ref M::mE) i
 |(c,C)::r,h,c',C',z=>by
  rcases mC.mp z with z|z
  .cases z;exact h.1
  .exact XEach.at h.2 z
def vV{K:Zb}{h:Heap}{C M:Addr}{i:Option Value}(X:K.In h)(c:vU K C (.ref M::mE) i)(m:vU K M mE none):pC h C M:=by
 obtain⟨_,_,N,_,_,_,_,_,_,_,_,_,_,_,_,l,o,_,q⟩:=c;obtain⟨_,_,N',_,_,_,_,_,_,_,_,_,_,_,_,l',o',_,q'⟩:=m
 exact⟨_,_,_,_,_,_,_,_,_,_,_,_,_,_,_,_,_,X _ _ l,.of_isNs (PySem.W.isNs_of_in X o),λn hn=>PySem.W.nsMap_none_of_in X o (q.1 n hn),
  _,_,_,_,_,_,_,_,_,_,_,_,_,_,_,_,_,X _ _ l',.of_isNs (PySem.W.isNs_of_in X o'),λn hn=>PySem.W.nsMap_none_of_in X o' (q'.1 n hn)⟩
section
variable{X:Cx}{W:XW}{a:Expr}{f:zK->zC->R Er}{pos p p2:Pos}{M:Addr}{cs:List (Str×Addr)}{c2:Str}{D:Addr}
def qI(ns:Ye)(c2:Str):Er->zC->R Er
 |.val (.loc l),S=>match S[l]? with
  |some (.ins c _)=>if c∈ns then .ok (.val (.bl (decide (c=c2)))) S else .no
  |_=>.no
 |_,_=>.no
def Du(ns:Ye):Er->zC->R Er
 |.val (.loc l),S=>match S[l]? with
  |some (.ins c _)=>if c∈ns then .ok (.val (.bl true)) S else .no
  |_=>.no
 |_,_=>.no
def IsX(X:Cx)(M:Addr)(H:Hp)(x:V)(C:Addr):Prop:= ∃aa oe,x=.ref aa/\H aa=some (.frz oe (.ext λh=>h.get? aa=some oe))/\oe.cls=.ref C/\(∃i,vU X.K C (.ref M::mE) i)/\vU X.K M mE none
def Dv:CallR X (.builtin "isinstance") (λxs H Q=> ∃x C D,xs=[x,.ref D]/\IsX X M H x C/\(C=D\/(C≠D/\M≠D/\ ∃bm i,vU X.K D bm i))/\Q (.bl (decide (C=D))) H):=by
 intro pins s σ H xs us Q I r h;obtain⟨_,C,D,rfl,⟨aa,oe,rfl,hH,hc,⟨i,cC⟩,cM⟩,hD,q⟩:=h
 obtain⟨u1,us,r1,⟨u2,_,r2,r3,rfl⟩,rfl⟩: ∃u1 us',RelV (.ref aa) u1/\(∃u2 us'',RelV (.ref D) u2/\Vals [] us''/\us'=u2::us'')/\us=u1::us':=by
  cases r with
  |cons r1 r=>cases r with
   |cons r2 r=>exact⟨_,_,r1,⟨_,_,r2,r,rfl⟩,rfl⟩
 cases r1;cases r2;cases r3;have ha:s.heap.get? aa=some oe:=(I.hok aa _ hH).1;have O:=vV I.kIn cC cM;obtain⟨hp,g,d,tk,os⟩:=s;rcases hD with rfl|⟨n1,n2,bm,i2,cD⟩
 .refine PyProof.Rows.call_isinstance_of (ZI ha hc ⟨.bl true,H,I,rfl,?_⟩);simpa using q
 .obtain⟨_,_,_,_,_,_,_,_,_,_,_,_,_,_,_,lD,_⟩:=cD;obtain⟨oC,hC,hCc,hCd⟩:=Cd O;refine PyProof.Rows.call_isinstance_of (Jg O ha hc (I.kIn _ _ lD) hC hCc hCd ?_ ⟨.bl false,H,I.tok _,rfl,?_⟩)
  .simp only[contains_cons,List.contains_nil,Bool.or_eq_false_iff,beq_eq_false_iff_ne];exact⟨λz=>n1 (by cases z;rfl),λz=>n2 (by cases z;rfl),by simp,by simp,by simp,by simp,trivial⟩
  .simpa [n1]using q
def Dw:CallR X (.builtin "isinstance") (λxs H Q=> ∃x C,xs=[x,.ty "ValueError"]/\IsX X M H x C/\Q (.bl true) H):=by
 intro pins s σ H xs us Q I r h;obtain⟨_,C,rfl,⟨aa,oe,rfl,hH,hc,⟨i,cC⟩,cM⟩,q⟩:=h
 obtain⟨u1,us,r1,⟨u2,_,r2,r3,rfl⟩,rfl⟩: ∃u1 us',RelV (.ref aa) u1/\(∃u2 us'',RelV (.ty "ValueError") u2/\Vals [] us''/\us'=u2::us'')/\us=u1::us':=by
  cases r with
  |cons r1 r=>cases r with
   |cons r2 r=>exact⟨_,_,r1,⟨_,_,r2,r,rfl⟩,rfl⟩
 cases r1;cases r2;cases r3;have ha:s.heap.get? aa=some oe:=(I.hok aa _ hH).1;have O:=vV I.kIn cC cM;obtain⟨hp,g,d,tk,os⟩:=s;exact PyProof.Rows.call_isinstance_of (Jh O ha hc (by kernel_rfl) (by simp[contains_cons]) ⟨.bl true,H,I,rfl,q⟩)
def WC{α:Yd}{S:zC}{H:Hp}{r:Er}{x:V}(T:XTab X.K X.mg M cs)(wd:Wd X.g α S H)(d:DenX X.K α H r x){l:Nat}{c:Str}{fs:List (Str×MV)}(e:r=.val (.loc l))(hl:S[l]? =some (.ins c fs))(hc:c∈cs.map (·.1)):
  ∃C,(c,C)∈cs/\IsX X M H x C:=by
 subst e;obtain⟨aa,rfl,h⟩:=eB d;obtain⟨o,h1,C,gs,hm,hf,oe,hH,hcl,_⟩: ∃o,S[l]? =some o/\ObD X.g α H aa (.ins c fs):=⟨_,hl,wd.obj l aa _ h hl⟩
 obtain⟨⟨c',C'⟩,hm',rfl⟩:=mM0.mp hc;obtain⟨q1,q2⟩:=T.each.at hm';have:C=C':=by have z:X.mg c'=some (.ref C):=hm;rw[q1]at z;cases z;rfl
 subst this;exact⟨C,hm',aa,oe,rfl,hH,hcl,q2,T.mc⟩
theorem XTab.inj{K:Zb}{mg:Yg}(T:XTab K mg M cs){c c':Str}{C C':Addr}(h:(c,C)∈cs)(h':(c',C')∈cs)(hn:(cs.map (·.1)).Nodup):(C=C'↔c=c'):=by
 constructor
 .rintro rfl;have nd:=(nodup_cons.mp T.nd).2
  have: ∀(l:List (Str×Addr)),(l.map (·.2)).Nodup->(c,C)∈l->(c',C)∈l->c=c':=by
   intro l
   induction l with
   |nil=>intro _ z;simp at z
   |cons y r ih=>
    intro nd a b;rw[map_cons,nodup_cons]at nd;rcases mC.mp a with a1|a1<;>rcases mC.mp b with b1|b1
    .rw[<-b1]at a1;cases a1;rfl
    .exact absurd (show y.2∈r.map (·.2)from by rw[<-a1];exact mM0.mpr ⟨(c',C),b1,rfl⟩) nd.1
    .exact absurd (show y.2∈r.map (·.2)from by rw[<-b1];exact mM0.mpr ⟨(c,C),a1,rfl⟩) nd.1
    .exact ih nd.2 a1 b1
  exact this cs nd h h'
 .rintro rfl;have a:=(T.each.at h).1;rw[(T.each.at h').1]at a;cases a;rfl
def xL{ns:Ye}(T:XTab X.K X.mg M cs)(hn:(cs.map (·.1)).Nodup)(hD:(c2,D)∈cs)(hz:X.mg "isinstance"=none)(hg:Gl X "isinstance")(hg2:Gl X c2)(ha:yR X W a f)(hns:cs.map (·.1)=ns:=by rfl)(hd:(c2==("__debug__":Str))=false:=by decide)
  (he:starEach [a,.Name c2 p2] X.env=(false,eval a X.env)::starEach [.Name c2 p2] X.env:=by rfl) (hp2:(backTo pos (starEach [.Name c2 p2] X.env)).any (·.1)=false:=by rfl):
  yR X W (.Call (.Name "isinstance" p) [a,.Name c2 p2] [] pos) (λρ S=>(f ρ S).bind (qI ns c2)):=by
 subst hns;obtain⟨ta,ha,fa⟩:=ha;have mD:=(T.each.at hD).1;refine⟨_,FC (Dv (M:=M)) hg hz PyProof.Rows.boot_isinstance (mH ha (mH (Ia (v:=.ref D) hg2 mD rfl hd) FA) he) (by decide) (by decide) he hp2,λα ρ S σ H Q wd sl q=>fa α ρ S σ H _ wd sl (q.bind λu r S1 α1 H1 e1 x1 w1 d1 q1=>?_)⟩
 replace q1:=q1.shift x1
 unfold qI at q1;split at q1
 .rename_i l;split at q1
  .rename_i c fs hl;split at q1
   .rename_i hc;obtain⟨C,hC,ix⟩:=WC T w1 d1.1 rfl hl hc;refine⟨u,C,D,rfl,ix,?_,?_⟩
    .by_cases z:C=D
     .exact .inl z
     .exact .inr ⟨z,λy=>(nodup_cons.mp T.nd).1 (by rw[y];exact mM0.mpr ⟨_,hD,rfl⟩),_,(T.each.at hD).2⟩
    .have e2:decide (C=D)=decide (c=c2):=decide_eq_decide.mpr (T.inj hC hD hn);rw[e2];exact Post.val q1 w1 (gG _)
   .exact q1.elim
  .exact q1.elim
 .exact q1.elim
def Rx{ns:Ye}(T:XTab X.K X.mg M cs)(hz:X.mg "isinstance"=none)(hz2:X.mg "ValueError"=none)(hg:Gl X "isinstance")(hg2:Gl X "ValueError")(ha:yR X W a f)(hns:cs.map (·.1)=ns:=by rfl)
  (he:starEach [a,.Name "ValueError" p2] X.env=(false,eval a X.env)::starEach [.Name "ValueError" p2] X.env:=by rfl) (hp2:(backTo pos (starEach [.Name "ValueError" p2] X.env)).any (·.1)=false:=by rfl):
  yR X W (.Call (.Name "isinstance" p) [a,.Name "ValueError" p2] [] pos) (λρ S=>(f ρ S).bind (Du ns)):=by
 subst hns;obtain⟨ta,ha,fa⟩:=ha;refine⟨_,FC (Dw (M:=M)) hg hz PyProof.Rows.boot_isinstance (mH ha (mH (UZ (v:=.ty "ValueError") hg2 hz2 (by decide+kernel) rfl (by decide) (by decide)) FA) he) (by decide) (by decide) he hp2,λα ρ S σ H Q wd sl q=>fa α ρ S σ H _ wd sl (q.bind λu r S1 α1 H1 e1 x1 w1 d1 q1=>?_)⟩
 replace q1:=q1.shift x1
 unfold Du at q1;split at q1
 .rename_i l;split at q1
  .rename_i c fs hl;split at q1
   .rename_i hc;obtain⟨C,hC,ix⟩:=WC T w1 d1.1 rfl hl hc;exact⟨u,C,rfl,ix,Post.val q1 w1 (gG _)⟩
   .exact q1.elim
  .exact q1.elim
 .exact q1.elim
end
def Dx(g:Gm)(n:Nat)(F:List MV->zC->R Er):Sp:=λvs H Q E=> ∃α S ds,Wd g α S H/\DenL g.K α H ds vs/\ds.length=n/\Post g (WE g E) α H (F ds S) Q
def xH(n:Nat)(F:List MV->zC->R Er)(rs:List Er)(S:zC):R Er:=if rs.length=n then(match F (zS rs S).1 (zS rs S).2 with
 |.ok r S2=>dR S r S2
 |.exc c fs S2=>if fs.all (λp=>FW p.2)=true then(dR S (.val .non) S2).bind λ_ S3=>.exc c fs S3 else .no
 |.no=>.no)else .no
section
variable{X:Cx}{E:XK}{e:Expr}{es:Za}{af:zK->zC->R (List Er)}{pos:Pos}
def FY{n:Nat}{F:List MV->zC->R Er}{rs:List Er}{vs:List V}{α α1:Yd}{H H1:Hp}{S1:zC}{Q:VK}(x1:Ext α H α1 H1)(w1:Wd X.g α1 S1 H1)(d1:ArgsE X.K H α1 H1 rs vs)(q:Post X.g (WE X.g E) α H (xH n F rs S1) Q):
  Dx X.g n F vs H1 Q E:=by
 unfold xH at q;split at q
 .rename_i hl;obtain⟨α2,x2,y2,w2,l2⟩:=pF w1 x1 d1;refine⟨α2,_,_,w2,l2,by rw[uC];exact hl,?_⟩
  cases z:F (zS rs S1).1 (zS rs S1).2 with
  |ok r S3=>
   rw[z]at q;intro v α3 H3 x3 w3 d3;obtain⟨r',S',α',e',x',w',d'⟩:=LQ x1 w1 y2.pre x2 x3 w3 d3;have q:Post X.g (WE X.g E) α H (dR S1 r S3) Q:=q;rw[e']at q;exact q v α' H3 x' w' d'
  |exc c fs S3=>
   rw[z]at q;dsimp only at q;split at q
   .rename_i hp;intro α3 H3 x3 w3 C d hC hf;obtain⟨r',S',α',e',x',w',d'⟩:=LQ (r:=.val .non) (v:=.non) x1 w1 y2.pre x2 x3 w3 (DenE.val fP);rw[e']at q;exact q α' H3 x' w' C d hC (hf.imp id λ⟨dx,gs,od,h1,h2,h3⟩=>⟨dx,gs,od,h1,h2,FX hp h3⟩)
   .exact q.elim
  |no=>rw[z]at q;exact q.elim
 .exact q.elim
def Dy{k n:Nat}{fa:Addr}{fd:FuncData}{ps:Ye}{F:List MV->zC->R Er}{x:Str}{p:Pos}(hx:XOk X E)(G:FnOk X.prog X.w X.K X.mg X.base (Be X.prog X.w) k fa fd ps (Dx X.g n F))(hr:Room k X.A)(hg:Gl X x)(hm:X.mg x=some (.ref fa))
  (hk:PySem.W.keepIn X.K (.ref fa)=true) (hb:Binds X.K fd ps []) (ha:FL X (WE X.g E) (e::es) af) (hdb:(x==("__debug__":Str))=false:=by decide)
  (he:starEach (e::es) X.env=(false,eval e X.env)::starEach es X.env:=by rfl) (hpl:(backTo pos (starEach es X.env)).any (·.1)=false:=by rfl):
  yR X (WE X.g E) (.Call (.Name x p) (e::es) [] pos) (λρ S=>(af ρ S).bind λrs S1=>xH n F rs S1):=by
 obtain⟨t,ha,kk⟩:=ha;refine⟨_,VB G hr hg hm hk hb .nil hx.pass ha hdb he hpl,λα ρ S σ H Q wd sl q=>kk α ρ S σ H _ wd sl (q.bind λvs rs S1 α1 H1 e1 x1 w1 d1 q1=>?_)⟩;rw[aN];exact FY x1 w1 d1 q1
end
section
variable{P:Program}{w:World}{K:Zb}{mg:Yg}{base:Heap}
def Wo{x qual:Str}{st:Stmt}{f:Addr}{fd:FuncData}{N ps:Ye}{k:Nat}(Fb:zK->zC->R Fl)(F:Fun K x qual st f fd)(Sc:FnScope N ps (zI st))
  (hbody: ∀(cdv:Value)(A:Around)(outer:List Env)(s:Shared)(H:Hp)(E:XK),Room k (A.deeper (envOfC qual (zI st) s.heap.objs.size f cdv))->
   vI (FB (Be P w) P w K mg base N qual (zI st) f cdv A outer s H E) (WE ⟨K,mg,P,w⟩ E) (jH st) Fb):
  FnOk P w K mg base (Be P w) (k+1) f fd ps (Dx ⟨K,mg,P,w⟩ ps.length λds S=>yU (Fb (yD N ds) S)):=by
 obtain⟨oc,od,kV,doc,pm,an,cdv,ct,osl,rfl,lk,hcd⟩:=F.ex;refine Nu lk hcd Sc (λvs H Q E h=>?_) λA outer s H vs Q E hr h=>?_
 .obtain⟨α,S,ds,_,l,hl,_⟩:=h;rw[l.length,hl]
 .obtain⟨α,S,ds,wd,l,hl,q⟩:=h;obtain⟨t,ht,kk⟩:=hbody cdv A outer s H E hr;refine⟨t,ht,kk α (yD N ds) S (start N vs) H _ wd (sH l) ?_⟩;dsimp only at q
  cases z:Fb (yD N ds) S with
  |ok fl S'=>
   rw[z]at q
   cases fl with
   |next ρ=>exact λσ α' H' x' w' s'=>q .non α' H' x' w' (DenE.val fP)
   |ret r=>exact λv α' H' x' w' d'=>q v α' H' x' w' d'
   |brk ρ=>exact q.elim
   |cont ρ=>exact q.elim
  |exc c fs S'=>rw[z]at q;exact λα' H' x' w'=>q α' H' x' w'
  |no=>rw[z]at q;exact q
def _root_.L2.FnOk.noX{k n:Nat}{f:Addr}{fd:FuncData}{ps:Ye}{g:Gm}{F:List MV->zC->R Er}(G:FnOk P w K mg base (Be P w) k f fd ps (Dx g n F)):FnOk P w K mg base FE k f fd ps (VM g n F):=by
 have up: ∀{vs H Q}, ∀{E},VM g n F vs H Q E->Dx g n F vs H Q E0:=λ⟨α,S,ds,h1,h2,h3,h4⟩=>⟨α,S,ds,h1,h2,h3,h4.wmono λ_ _ _ _ _ z=>z.elim⟩
 refine⟨λvs H Q E h=>G.len vs H Q E0 (up h),λA outer s H args us vs Q E hr e0 hb hv h=>codeAny_mono (G.run A outer s H args us vs Q E0 hr e0 hb hv (up h)) λr s' hq=>?_⟩
 cases r with
 |error e=>
  obtain⟨_,_,_,_,_,_,_,_,_,_,_,_,_,_,_,z⟩:=hq;exact z
 |ok fl=>cases fl<;>exact hq
end
end M
end L2
namespace L2
open PySem PySem.Spec PyProof.Rows
structure Out(X:Cx)(pins:Yi)(H:Hp)(s:Shared)(b:Addr):Prop where
 s0:X.s₀.heap.get? b=none
 h:H b=none
 pin: ∀p∈X.pn++pins,p.1≠b
 fld: ∃o vs,s.heap.get? b=some o/\o.data=.fields vs
section
variable{X:Cx}{pins:Yi}{σ:St}{H:Hp}{s:Shared}{e T b:Addr}{h':Heap}
def Out.ne(o:Out X pins H s b){c:Addr}{oc:Obj}(hc:s.heap.get? c=some oc)(nf: ∀vs,oc.data≠.fields vs):c≠b:=λz=>by obtain⟨ob,vs,h1,h2⟩:=o.fld;rw[z,h1]at hc;cases hc;exact nf vs h2
def Out.loc(o:Out X pins H s b)(I:Inv X pins σ H s):X.env.locals≠b:=by obtain⟨m,⟨oL,es,ep,h1,h2,_⟩,_⟩:=I.loc;exact o.ne h1 λvs z=>by rw[h2]at z;cases z
def Out.cell(o:Out X pins H s b)(I:Inv X pins σ H s){x:Str}{c:Addr}(hc:X.env.cells.lookup x=some c):c≠b:=by obtain⟨v,oc,h1,h2⟩:=I.cell x c hc;exact o.ne h1 λvs z=>by rw[h2]at z;cases z
def Inv.mvd(J:Inv X pins σ H s)(hex:X.ex=[])(m:Mvd (EI X.stack) e T s.heap h')(oe:Out X pins H s e)(oT:Out X pins H s T):Inv X pins σ H {s with heap:=h'}:=by
 obtain⟨u,hok⟩:=J.moved hex m oe.s0 oT.s0 oe.h oT.h;have ns: ∀mm,s.heap.Ns X.env.locals mm->h'.Ns X.env.locals mm:=λmm hn=>by obtain⟨o,es,ep,ho,r⟩:=hn;obtain⟨sl,e1⟩:=m.slot _ o (oe.loc J) (oT.loc J) ho;exact⟨_,es,ep,e1,r⟩
 have cell: ∀x c,X.env.cells.lookup x=some c-> ∀v,s.heap.IsCell c v->h'.IsCell c v:=λx c hc v hv=>by obtain⟨o,ho,hd⟩:=hv;obtain⟨sl,e1⟩:=m.slot c o (oe.cell J hc) (oT.cell J hc) ho;exact⟨_,e1,hd⟩
 refine⟨J.ok,J.os,J.bare,by rw[hex];exact u,?_,λx c hc=>?_,J.free,J.freeC,λp hp=>?_,hok,J.len⟩
 .obtain⟨mm,hn,hl⟩:=J.loc;refine⟨mm,ns mm hn,λi x v e1 e2 e3=>?_⟩;obtain⟨u,r,l⟩:=hl i x v e1 e2 e3;exact⟨u,r,l.imp id λ⟨k,c,hc,z⟩=>⟨k,c,hc,cell x c hc _ z⟩⟩
 .obtain⟨v,z⟩:=J.cell x c hc;exact⟨v,cell x c hc v z⟩
 .obtain⟨e1,n,ne,nf,dd⟩:=J.pin p hp;refine⟨m.keep p.1 p.2 (oe.pin p hp) (oT.pin p hp) (λz=>?_) e1,n,ne,nf,dd⟩;rcases mC.mp (J.stkSub _ z)with z|z
  .exact ne z
  .exact nf z
def Inv.trackU{ho:HO}(J:Inv X pins σ H s)(o:Out X pins H s e)(he:ObjOk X.prog X.w (xI H e ho) s.heap e ho):Inv X pins σ (xI H e ho) s:=by
 refine⟨J.ok,J.os,J.bare,⟨J.base.keep,J.base.slot,λb ob' q n hx=>?_,J.base.there,λb xs q=>?_,λb o' u q=>?_,λb ps q=>?_⟩,J.loc,J.cell,?_,λx c hc=>?_,λp hp=>?_,λb u q=>?_,J.len⟩
 .rw[zO λz=>by rw[z,o.s0]at q;cases q];exact J.base.free b ob' q n hx
 .rw[zO (zV (J.base.tups b xs q) o.h)];exact J.base.tups b xs q
 .rw[zO (zV (J.base.frzs b o' u q) o.h)];exact J.base.frzs b o' u q
 .obtain⟨mo,z⟩:=J.base.tbls b ps q;exact⟨mo,by rw[zO (zV z o.h)];exact z⟩
 .rw[zO (o.loc J)];exact J.free
 .rw[zO (o.cell J hc)];exact J.freeC x c hc
 .obtain⟨e1,n,ne,nf,dd⟩:=J.pin p hp;exact⟨e1,by rw[zO (o.pin p hp)];exact n,ne,nf,dd⟩
 .by_cases z:b=e
  .subst z;rw[zR]at q;cases q;exact he
  .rw[zO z]at q;exact(J.hok b u q).stay (λ_ _ _ r=>r) (λc r=>by rw[zO (zV r o.h)];exact r) λc xs r=>by rw[zO (zV r o.h)];exact r
def Inv.track{ob:Obj}(J:Inv X pins σ H s)(o:Out X pins H s e)(he:s.heap.get? e=some ob):Inv X pins σ (xI H e (.frz ob (.ext λh=>h.get? e=some ob))) s:=J.trackU o ⟨he,he,⟨ob,he⟩,λ_ _ p k=>k _ p⟩
structure Hv where
 e:Addr
 H:Hp
 ob:Obj
 u:HO
 h:H e=some (.frz ob u)
 c: ∃vs,ob.data=.fields vs/\vs[2]? =some .none
abbrev Cx.inH(X:Cx)(v:Hv):Cx:={X with A:=X.A.mark (some (.ref v.e)),calm:=false,xe:=λ_ _=>False,H₀:=v.H}
abbrev Cx.inM(X:Cx)(v:Value):Cx:={X with A:=X.A.mark (some v),calm:=false,xe:=λ_ _=>False}
def Inv.inM(I:Inv X pins σ H s)(v:Value):Inv (X.inM v) pins σ H s:=⟨⟨I.ok.mod,I.ok.kind,I.ok.glob,I.ok.blt,I.ok.above,I.ok.inj,I.ok.has,I.ok.cab,λz=>(by cases z),I.ok.frames,I.ok.stk,I.ok.exf,I.ok.bs,I.ok.bsz,I.ok.noex,I.ok.exfs,I.ok.funs,I.ok.frf⟩,I.os,I.bare,I.base,I.loc,I.cell,I.free,I.freeC,I.pin,I.hok,I.len⟩
def HdA(A:Around)(H:Hp):Prop:= ∃e ob u,A.handled=some (.ref e)/\H e=some (.frz ob u)/\ ∃vs,ob.data=.fields vs/\vs[2]? =some .none
abbrev Kw(X:Cx):Prop:=HdA X.A X.H₀
def HdA.now(h:Kw X)(I:Inv X pins σ H s):HdA X.A H:=let ⟨e,ob,u,h1,h2,h3⟩:=h;⟨e,ob,u,h1,I.base.frzs _ _ _ h2,h3⟩
def Wp{v:Hv}:Kw (X.inH v):=⟨v.e,v.ob,v.u,rfl,v.h,v.c⟩
def Inv.inH{v:Hv}(I:Inv X pins σ H s)(hv:v.H=xI X.H₀ v.e (.frz v.ob v.u))(n:X.s₀.heap.get? v.e=none)(hh:H v.e=some (.frz v.ob v.u)):Inv (X.inH v) pins σ H s:=by
 have ne: ∀b o,X.s₀.heap.get? b=some o->v.H b=X.H₀ b:=λb o q=>by rw[hv,zO λz=>by rw[z,n]at q;cases q]
 have ot: ∀b w,v.H b=some w->(∀o u,w≠.frz o u)->X.H₀ b=some w:=λb w q k=>by
  by_cases z:b=v.e
  .rw[z,v.h]at q;exact absurd (Option.some.inj q).symm (k _ _)
  .rw[hv,zO z]at q;exact q
 refine⟨⟨I.ok.mod,I.ok.kind,I.ok.glob,I.ok.blt,I.ok.above,I.ok.inj,I.ok.has,I.ok.cab,λz=>(by cases z),I.ok.frames,I.ok.stk,I.ok.exf,λb o q=>?_,I.ok.bsz,I.ok.noex,I.ok.exfs,I.ok.funs,λb q=>?_⟩,I.os,I.bare,⟨λb o q k=>?_,λb o q k=>?_,λb o q k=>?_,I.base.there,λb xs q=>I.base.tups b xs (ot b _ q λ_ _ z=>by cases z),λb o u q=>?_,λb ps q=>I.base.tbls b ps (ot b _ q λ_ _ z=>by cases z)⟩,I.loc,I.cell,I.free,I.freeC,I.pin,I.hok,I.len⟩
 .obtain⟨a1,a2⟩:=I.ok.bs b o q;exact⟨a1,(ne b o a1).trans a2⟩
 .obtain⟨_,o,ho,_⟩:=I.ok.funs.mem (show b∈EI X.outer from q);exact(ne b o ho).trans (I.ok.frf b q)
 .exact I.base.keep b o q ((ne b o q).symm.trans k)
 .exact I.base.slot b o q ((ne b o q).symm.trans k)
 .exact I.base.free b o q ((ne b o q).symm.trans k)
 .by_cases z:b=v.e
  .subst z;have q:v.H v.e=some (.frz o u):=q;rw[v.h]at q;cases q;exact hh
  .have q:v.H b=some (.frz o u):=q;rw[hv,zO z]at q;exact I.base.frzs b o u q
def Inv.outH{v:Hv}{σ0:St}{H0:Hp}{s0:Shared}(J:Inv X pins σ0 H0 s0)(hv:v.H=xI X.H₀ v.e (.frz v.ob v.u))(n:X.s₀.heap.get? v.e=none)(hn:H0 v.e=none)(I:Inv (X.inH v) pins σ H s):Inv X pins σ H s:=by
 have ne: ∀b o,X.s₀.heap.get? b=some o->v.H b=X.H₀ b:=λb o q=>by rw[hv,zO λz=>by rw[z,n]at q;cases q]
 have ot: ∀b w,X.H₀ b=some w->b≠v.e->v.H b=some w:=λb w q k=>by rw[hv,zO k];exact q
 refine⟨J.ok,I.os,I.bare,⟨λb o q k=>I.base.keep b o q ((ne b o q).trans k),λb o q k=>I.base.slot b o q ((ne b o q).trans k),λb o q k=>I.base.free b o q ((ne b o q).trans k),I.base.there,λb xs q=>I.base.tups b xs (ot b _ q λz=>?_),λb o u q=>I.base.frzs b o u (ot b _ q λz=>?_),λb ps q=>I.base.tbls b ps (ot b _ q λz=>?_)⟩,I.loc,I.cell,I.free,I.freeC,I.pin,I.hok,I.len⟩
 .have:=J.base.tups b xs q;rw[z,hn]at this;cases this
 .have:=J.base.frzs b o u q;rw[z,hn]at this;cases this
 .obtain⟨_,this⟩:=J.base.tbls b ps q;rw[z,hn]at this;cases this
def name_goes{M:Model}{A:Around}{E:VP}{i:Nat}{x:Str}{pos:Pos}{Q:Unit->Shared->Prop}(I:Inv X pins σ H s)(hN:X.N.Nodup)(hi:X.N[i]? =some x)(hk:X.env.kindOf x=some .local)
  (h: ∀s',Inv X pins (σ.set i none) H s'->Q () s'):wpAny M A (do bindName X.env x .none;unbindBehindTheSuite X.env x pos) Q E s:=by
 obtain⟨m,hn,hl⟩:=id I.loc;have hcls:(X.env.scope.kind==.class || (X.env.scope.kind==.module&&X.env.locals !=X.env.globals))=false:=by rw[I.ok.kind];rfl
 refine wpAny_nameGoes_keeps hk hn hcls λh' v hn' hs=>h _ ?_;have keep: ∀b o,b≠X.env.locals->s.heap.get? b=some o->h'.get? b=some o:=λb o z q=>(hs.2 b z).trans q;have neL: ∀b o,X.s₀.heap.get? b=some o->b≠X.env.locals:=λb o e=>ne_of_lt (lt_of_lt_of_le (Heap.lt_size e) I.ok.above);obtain⟨oL',_,_,hL',_⟩:=id hn'
 have there: ∀b o,s.heap.get? b=some o-> ∃o',h'.get? b=some o':=λb o q=>by
  by_cases z:b=X.env.locals
  .rw[z];exact⟨_,hL'⟩
  .exact⟨o,keep b o z q⟩
 refine⟨I.ok,I.os,I.bare,⟨λb o e n hb hx=>keep b o (neL b o e) (I.base.keep b o e n hb hx),λb o e n hb hx=>?_,I.base.free,λb o e hx=>?_,I.base.tups,I.base.frzs,I.base.tbls⟩,⟨_,hn',λj y v' e1 e2 e3=>?_⟩,λy c e=>?_,I.free,I.freeC,λp hp=>?_,λb u q=>?_,by rw[length_set];exact I.len⟩
 .obtain⟨sl,e1⟩:=I.base.slot b o e n hb hx;exact⟨sl,keep b _ (neL b o e) e1⟩
 .obtain⟨o',e1⟩:=I.base.there b o e hx;exact there b o' e1
 .have hj:j≠i:=λz=>by
   subst z;by_cases hl:j<σ.length
   .rw[getElem?_set_self hl]at e2;cases e2
   .rw[getElem?_eq_none (by rw[length_set];omega)]at e2;cases e2
  rw[getElem?_set_ne (Ne.symm hj)]at e2;obtain⟨u,r,q⟩:=hl j y v' e1 e2 e3;refine⟨u,r,?_⟩;have hy:y≠x:=λz=>hj (ET hN e1 (z▸hi));rcases q with⟨k,q⟩|⟨k,c,e,z⟩
  .exact .inl ⟨k,by simp[hy,q]⟩
  .exact .inr ⟨k,c,e,z.sameBut hs (I.cne y c e)⟩
 .obtain⟨w',z⟩:=I.cell y c e;exact⟨w',z.sameBut hs (I.cne y c e)⟩
 .obtain⟨e,n,ne,nf,dd⟩:=I.pin p hp;exact⟨keep p.1 p.2 ne e,n,ne,nf,dd⟩
 .refine(I.hok b u q).stay (λc w' hc r=>keep c w' (λz=>?_) r) (λ_ q=>q) λ_ _ q=>q
  have: ∃y,H c=some y:=by
   rcases hc with rfl|hc
   .exact⟨_,q⟩
   .exact⟨_,hc⟩
  obtain⟨y,hy⟩:=this;rw[z,I.free]at hy;cases hy
end
theorem Wq:isSubtype (.type "type") (.type "tuple")=pure false:=by rw[isSubtype_type];kernel_rfl
def TQ{Mo:Model}{A:Around}{E:VP}{h:Heap}{g:Array GenState}{d:Drawn}{t:Nat}{os:OsState}{C M e:Addr}{oe:Obj}{Q:Bool->Shared->Prop}(O:pC h C M)(he:h.get? e=some oe)(hc:oe.cls=.ref C)
  (hq:Q true ⟨h,g,d,t,os⟩):wpAny Mo A (excMatches (.ref e) (.ref M)) Q E ⟨h,g,d,t,os⟩:=by
 have hb:(Value.ref C::.ref M::mE).contains (.ref M)=true:=by simp[contains_cons]
 have f:=Wq;have O':=O;obtain⟨_,_,_,_,_,_,_,_,_,_,_,_,_,_,_,_,_,_,_,_,_,_,_,_,_,_,_,_,_,_,_,_,_,_,_,_,_,hM,_⟩:=O;have hm:(Value.ref M::mE).contains (.type "BaseException")=true:=by simp[contains_cons]
 unfold excMatches
 repeat (first |(with_reducible refine wpAny_loadPart_at he ?_;rw[hc])|with_reducible refine wpAny_loadPart_at hM ?_|(with_reducible refine pD O' ?_;rw[hb])|(with_reducible refine wpAny_isSubtype_exc hM ?_;rw[hm])|wp_step)
 exact hq
end L2
namespace L2
namespace M
open PySem PySem.Spec PyProof.Rows
def Slots.unset{K:Zb}{α:Yd}{H:Hp}{ρ:zK}{σ:St}(q:Slots K α H ρ σ)(i:Nat):Slots K α H (ρ.set i none) (σ.set i none):=by
 refine⟨by rw[length_set,length_set];exact q.len,λj d e=>?_⟩;rcases VI e with⟨_,z,_⟩|⟨hj,e'⟩
 .cases z
 .obtain⟨v,h1,h2⟩:=q.slot j d e';exact⟨v,by rw[getElem?_set_ne (Ne.symm hj)];exact h1,h2⟩
def Wr(i:Nat):Fl->zC->R Fl
 |.next ρ,S=>.ok (.next (ρ.set i none)) S
 |.ret r,S=>.ok (.ret r) S
 |.brk ρ,S=>.ok (.brk (ρ.set i none)) S
 |.cont ρ,S=>.ok (.cont (ρ.set i none)) S
def PD(ns:Ye)(i:Nat)(kn:Er->zC->R Fl)(Fh:zK->zC->R Fl)(ρ:zK):R Er->R Fl
 |.ok r S=>kn r S
 |.exc c fs S=>if c∈ns then(noX (Fh (ρ.set i (some (.loc S.length))) (S++[.ins c fs]))).bind (Wr i)else .no
 |.no=>.no
def PostS.exprX{β τ:Type}[Dn β τ]{g:Gm}{W:XW}{α:Yd}{H:Hp}{D:Ends}{m:R β}{k:β->zC->R Fl}{Q':τ->Hp->Prop}(q:PostS g W α H D ((noX m).bind k))
  (f: ∀u b S1 α1 H1,m=.ok b S1->Ext α H α1 H1->Wd g α1 S1 H1->Dn.d g H α1 S1 H1 b u->PostS g W α H D (k b S1)->Q' u H1):Post g W0 α H m Q':=by
 cases m with
 |ok b S=>exact λu α1 H1 x w d=>f u b S α1 H1 rfl x w d q
 |exc c fs S=>exact q.elim
 |no=>exact q
def E2(X:Cx)(W:XW)(ns:Ye)(i:Nat)(Fh:zK->zC->R Fl)(ρ:zK)(α:Yd)(H:Hp)(D:Ends):XK:=λcls d H'=> ∃c fs S2 α' C,cls=.ref C/\X.mg c=some (.ref C)/\Ext α H α' H'/\Wd X.g α' S2 H'/\FsD X.g α' H' d fs/\
 PostS X.g W α H D (if c∈ns then(noX (Fh (ρ.set i (some (.loc S2.length))) (S2++[.ins c fs]))).bind (Wr i)else .no)
section
variable{X:Cx}{W:XW}{M:Addr}{cs:List (Str×Addr)}{pins:Yi}{σ:St}{H H1:Hp}{s s1 s':Shared}{i:Nat}{nm:Str}{Fh:zK->zC->R Fl}{ρ:zK}{α:Yd}{D:Ends}{b0:Stmt}{suite:List Stmt}{mp hpos:Pos}
def Ry(T:XTab X.K X.mg M cs)(hgm:Gl X "MendError")(hN:X.N.Nodup)(hi:X.N[i]? =some nm)(hk:X.env.kindOf nm=some .local)(hsuite: ∀v,vI (X.inH v) W0 (b0::suite) Fh)(hex:X.ex=[])(hstk:X.stack=X.env::X.outer)(hfm:X.env.frame=some X.env.locals)
  (sl:Slots X.K α H ρ σ) (I1:Inv X pins σ H1 s1) {x:Value} (hq:Be X.prog X.w X.stack H1 s1 (E2 X W (cs.map (·.1)) i Fh ρ α H D) x s'):
  wpAny (model X.prog X.w) X.A (noteFrame x X.env) (λ_ s₂=>wpAny (model X.prog X.w) X.A (setFlight x none) (λ_ s₃=>wpAny (model X.prog X.w) X.A (handleBy x X.env [.ExceptHandler (some (.Name "MendError" mp)) (some nm) (b0::suite) hpos]) (SP X pins D) X.xe s₃) X.xe s₂) X.xe s':=by
 obtain⟨e,Tb,C,d,H',rfl,os,bare,un,hok,fl,ne,nT,he,hT,c,fs,S2,α',C',eC,hmc,xx,w2,hf,q⟩:=hq;cases eC;split at q
 .rename_i hcn;have J:Inv X pins σ H' s':=I1.call' (ch:=[]) os un hok bare (λ_ z=>nomatch z);have hfr:X.A.frames=some (X.env::X.outer):=by rw[<-hstk];exact J.ok.frames
  have hl:s'.heap.FunFrames X.base (X.env::X.outer):=by rw[<-hstk];exact J.stack
  have oe:Out X pins H' s' e:=by obtain⟨ob,vs,_,_,h1,_,_,h2,_⟩:=id fl;exact⟨I1.older hex ne,he,λp hp z=>(by have:=(I1.pin p hp).1;rw[z,ne]at this;cases this),ob,vs,h1,h2⟩
  have oT:Out X pins H' s' Tb:=by obtain⟨_,_,ob,ts,_,_,_,_,_,_,h1,h2,_⟩:=id fl;exact⟨I1.older hex nT,hT,λp hp z=>(by have:=(I1.pin p hp).1;rw[z,nT]at this;cases this),ob,ts,h1,h2⟩
  refine JH hfr hl hfm fl λh3 T3 n3 m3 f3=>?_;rw[<-hstk]at m3;have J3:=J.mvd hex m3 oe oT;have oe3:Out X pins H' {s' with heap:=h3} e:=by obtain⟨ob,vs,_,_,h1,_,_,h2,_⟩:=id f3;exact⟨oe.s0,oe.h,oe.pin,ob,vs,h1,h2⟩
  have oT3:Out X pins H' {s' with heap:=h3} T3:=by obtain⟨_,_,ob,ts,_,_,_,_,_,_,h1,h2,_⟩:=id f3;exact⟨J.older hex n3,J.hok.none_of n3,λp hp z=>(by have:=(J.pin p hp).1;rw[z,n3]at this;cases this),ob,ts,h1,h2⟩
  refine mL (env:=X.env) (outer:=X.outer) f3 λh4 m4 f4=>?_;rw[<-hstk]at m4;have J4:=J3.mvd hex m4 oe3 oT3;have oe4:Out X pins H' {s' with heap:=h4} e:=by obtain⟨ob,vs,_,_,h1,_,_,h2,_⟩:=id f4;exact⟨oe.s0,oe.h,oe.pin,ob,vs,h1,h2⟩
  have oT4:Out X pins H' {s' with heap:=h4} T3:=by obtain⟨_,_,ob,ts,_,_,_,_,_,_,h1,h2,_⟩:=id f4;exact⟨oT3.s0,oT3.h,oT3.pin,ob,ts,h1,h2⟩
  have cls: ∃i,vU X.K C (.ref M::mE) i:=by
   obtain⟨⟨c',C'⟩,hm',rfl⟩:=mM0.mp hcn;obtain⟨q1,q2⟩:=T.each.at hm';have:C=C':=by rw[hmc]at q1;cases q1;rfl
   rw[this];exact q2
  obtain⟨ini,cC⟩:=cls;refine wpAny_handleBy_cons (codeAny_handlers_test (qA (X:=X.inM (.ref e)) (J4.inM (.ref e)) hgm T.m ?_)) (by intro z;cases z);obtain⟨ob4,_,_,_,he4,hc4,_⟩:=id f4;refine TQ (vV J4.kIn cC T.mc) he4 hc4 ?_;refine codeAny_handlers_suite_as ?_;refine mL (env:=X.env) (outer:=X.outer) (s:={s' with heap:=h4}) f4 λh5 m5 f5=>?_;rw[<-hstk]at m5;have J5:=J4.mvd hex m5 oe4 oT4;obtain⟨ob,vs,_,_,h1,hcl,hdx,h2,_,_,_,_,_,h22⟩:=id f5;have oe5:Out X pins H' {s' with heap:=h5} e:=⟨oe.s0,oe.h,oe.pin,ob,vs,h1,h2⟩
  have J6:=J5.track oe5 h1
  have xw:=w2.put (ho:=.frz ob (.ext λh=>h.get? e=some ob)) (m:=.ins c fs) oe.h (by
   rcases hf with rfl|⟨dx,gs,od,hd1,hd2,hd3⟩
   .exact⟨C,[],hmc,.nil,ob,zR,hcl,.inl rfl⟩
   .have xx0:Ext α' H' α' (xI H' e (.frz ob (.ext λh=>h.get? e=some ob))):=w2.newx oe.h;exact⟨C,gs,hmc,(hd3.ex0 xx0.toEx0).ex0 (Ex0.grow _ _ _),ob,zR,hcl,.inr ⟨dx,od,hdx.trans hd1,(by rw[zO (zV hd2 oe.h)];exact hd2),vs,h2⟩⟩)
  let V:Hv:=⟨e,xI X.H₀ e (.frz ob (.ext λh=>h.get? e=some ob)),ob,_,zR,vs,h2,h22⟩
  refine EU (X:=X.inH V) (J6.inH (v:=V) rfl oe.s0 zR) hN hi (.inl hk) (v:=.ref e) rfl (λs7 J7=>?_) (.inr hk);obtain⟨th,hth,kh⟩:=hsuite V;let D':Ends:={nx:=λσ H=>D.nx (σ.set i none) H,rt:=D.rt,bk:=λσ H=>D.bk (σ.set i none) H,ct:=λσ H=>D.ct (σ.set i none) H}
  have q':PostS X.g W (α'++[e]) (xI H' e (.frz ob (.ext λh=>h.get? e=some ob))) D _:=PostS.shift (xx.trans xw.1) q
  have ht:th D' (σ.set i (some (.ref e))) (xI H' e (.frz ob (.ext λh=>h.get? e=some ob))):=by
   refine kh (α'++[e]) (ρ.set i (some (.loc S2.length))) (S2++[.ins c fs]) _ _ D' xw.2 (((sl.ext xx).ext xw.1).set (qD (by rw[<-w2.len,getElem?_append_right (le_refl _),sub_self];rfl))) ?_
   cases z:Fh (ρ.set i (some (.loc S2.length))) (S2++[.ins c fs])with
   |ok fl S8=>
    rw[z]at q'
    cases fl with
    |next ρ8=>exact λσ8 α8 H8 x8 w8 s8=>q' (σ8.set i none) α8 H8 x8 w8 (s8.unset i)
    |ret r8=>exact λv8 α8 H8 x8 w8 d8=>q' v8 α8 H8 x8 w8 d8
    |brk ρ8=>exact λσ8 α8 H8 x8 w8 s8=>q' (σ8.set i none) α8 H8 x8 w8 (s8.unset i)
    |cont ρ8=>exact λσ8 α8 H8 x8 w8 s8=>q' (σ8.set i none) α8 H8 x8 w8 (s8.unset i)
   |exc c8 fs8 S8=>rw[z]at q';exact q'.elim
   |no=>rw[z]at q';exact q'.elim
  refine wpAny_mono (hth pins s7 _ _ D' J7 ht) (λf s8 hs=>?_) λ_ _ z=>z.elim;show wpAny _ _ _ _ _ _
  cases f with
  |next=>
   obtain⟨σ8,H8,I8,q8⟩:=hs;exact name_goes (J.outH (v:=V) rfl oe.s0 oe.h I8) hN hi hk λs9 I9=>⟨_,H8,I9,q8⟩
  |brk=>
   obtain⟨σ8,H8,I8,q8⟩:=hs;exact name_goes (J.outH (v:=V) rfl oe.s0 oe.h I8) hN hi hk λs9 I9=>⟨_,H8,I9,q8⟩
  |cont=>
   obtain⟨σ8,H8,I8,q8⟩:=hs;exact name_goes (J.outH (v:=V) rfl oe.s0 oe.h I8) hN hi hk λs9 I9=>⟨_,H8,I9,q8⟩
  |ret u=>
   obtain⟨v8,σ8,H8,I8,r8,q8⟩:=hs;exact name_goes (J.outH (v:=V) rfl oe.s0 oe.h I8) hN hi hk λs9 I9=>⟨v8,_,H8,I9,r8,q8⟩
 .exact q.elim
end
section
variable{X:Cx}{W:XW}{M:Addr}{cs:List (Str×Addr)}{i:Nat}{nm:Str}{Fh:zK->zC->R Fl}{b0:Stmt}{suite:List Stmt}{mp hpos cpos epos pos p:Pos}{e:Expr}{es:Za}{af:zK->zC->R (List Er)}{k n:Nat}{fa:Addr}{fd:FuncData}{ps:Ye}{F:List MV->zC->R Er}{x:Str}
def Dz{pins:Yi}{σ:St}{H:Hp}{s:Shared}{Q:VK}{E:XK}{Ex:VP}{ta:TA}(G:FnOk X.prog X.w X.K X.mg X.base (Be X.prog X.w) k fa fd ps (Dx X.g n F))(hr:Room k X.A)(hg:Gl X x)(hm:X.mg x=some (.ref fa))(hk:PySem.W.keepIn X.K (.ref fa)=true)(hb:Binds X.K fd ps [])
  (ha:PA X.nox (e::es) ta) (I:Inv X pins σ H s) (ht:ta σ H λvs H1=>Dx X.g n F vs H1 Q E) (hx: ∀H1 s1 x s',Inv X pins σ H1 s1->Be X.prog X.w X.stack H1 s1 E x s'->Ex x s') (hdb:(x==("__debug__":Str))=false)
  (he:starEach (e::es) X.env=(false,eval e X.env)::starEach es X.env) (hpl:(backTo cpos (starEach es X.env)).any (·.1)=false):
  wpAny (model X.prog X.w) X.A (eval (.Call (.Name x p) (e::es) [] cpos) X.env) (EP X pins σ Q) Ex s:=by
 refine wpAny_Call_Name_kw (qA I hg hm ?_ hdb);refine PySem.W.callWith_K (h₀:=X.base) I.ok.mod.kin hk (wpAny_mono (ha cpos pins s σ H _ (I.wish _) ht) (λus s1 ⟨vs,H1,I1,r,q⟩=>⟨I1.unwish.kIn,?_⟩) λ_ _ z=>z.elim) he hpl;have I2:=I1.unwish;have hl:us.length=ps.length:=by rw[<-r.length];exact G.len _ _ _ _ q
 refine wpAny_call (codeAny_mono (G.run X.A X.stack s1 H1 ⟨us,[]⟩ us vs Q E hr I2.env0 ?_ r q) λr s' hq=>?_)
 .have:=hb s1 us I2.kIn (by rw[aN];exact hl);rw[aN]at this;exact this
 .cases r with
  |error y=>exact hx H1 s1 y s' I2 hq
  |ok fl=>
   cases fl with
   |ret u=>exact I2.after hq
   |next=>exact False.elim hq
   |brk=>exact False.elim hq
   |cont=>exact False.elim hq
def Ea{α:Yd}{H:Hp}{ρ:zK}{S:zC}{σ:St}{D:Ends}{Q:VK}{ta:TA}{kn:Er->zC->R Fl}{ns:Ye}(kk: ∀α ρ S σ H Q,Wd X.g α S H->Slots X.K α H ρ σ->Post X.g W0 α H (af ρ S) Q->ta σ H Q)(wd:Wd X.g α S H)(sl:Slots X.K α H ρ σ)
  (q:PostS X.g W α H D ((noX (af ρ S)).bind λrs S1=>PD ns i kn Fh ρ (xH n F rs S1))) (hkn: ∀r S1 u α1 H1,PostS X.g W α H D (kn r S1)->Ext α H α1 H1->Wd X.g α1 S1 H1->DenE X.K H α1 H1 r u->Q u H1):
  ta σ H λvs H1=>Dx X.g n F vs H1 Q (E2 X W ns i Fh ρ α H D):=by
 refine kk α ρ S σ H _ wd sl (q.exprX λvs rs S1 α1 H1 e1 x1 w1 d1 q1=>FY x1 w1 d1 ?_)
 cases z:xH n F rs S1 with
 |ok r S2=>rw[z]at q1;exact λu α2 H2 x2 w2 d2=>hkn r S2 u α2 H2 q1 x2 w2 d2
 |exc c fs S2=>rw[z]at q1;exact λα2 H2 x2 w2 C d hC hf=>⟨c,fs,S2,α2,C,rfl,hC,x2,w2,hf,q1⟩
 |no=>rw[z]at q1;exact q1.elim
def Ky{ns:Ye}(T:XTab X.K X.mg M cs)(hgm:Gl X "MendError")(hN:X.N.Nodup)(G:FnOk X.prog X.w X.K X.mg X.base (Be X.prog X.w) k fa fd ps (Dx X.g n F))(hr:Room k X.A)(hg:Gl X x)(hm:X.mg x=some (.ref fa))(hkp:PySem.W.keepIn X.K (.ref fa)=true)(hb:Binds X.K fd ps [])
  (ha:FL X.nox W0 (e::es) af) (hsuite: ∀v,vI (X.inH v) W0 (b0::suite) Fh) (hns:cs.map (·.1)=ns:=by rfl) (hi:X.N[i]? =some nm:=by rfl) (hk:X.env.kindOf nm=some .local:=by rfl) (hex:X.ex=[]:=by rfl) (hstk:X.stack=X.env::X.outer:=by rfl) (hfm:X.env.frame=some X.env.locals:=by rfl)
  (hdb:(x==("__debug__":Str))=false:=by decide) (he:starEach (e::es) X.env=(false,eval e X.env)::starEach es X.env:=by rfl) (hpl:(backTo cpos (starEach es X.env)).any (·.1)=false:=by rfl) (hs:swapsWith (.Call (.Name x p) (e::es) [] cpos) none epos.line X.env=pure false:=by rfl):
  ZK X W (.Try [.Expr (.Call (.Name x p) (e::es) [] cpos) epos] [.ExceptHandler (some (.Name "MendError" mp)) (some nm) (b0::suite) hpos] [] [] pos)
   (λρ S=>(noX (af ρ S)).bind λrs S1=>PD ns i (λ_ S2=>.ok (.next ρ) S2) Fh ρ (xH n F rs S1)):=by
 subst hns;obtain⟨ta,ha,kk⟩:=ha
 refine⟨λD σ H=> ∀pins s,Inv X pins σ H s->wpAny (model X.prog X.w) X.A (exec (.Try [.Expr (.Call (.Name x p) (e::es) [] cpos) epos] [.ExceptHandler (some (.Name "MendError" mp)) (some nm) (b0::suite) hpos] [] [] pos) X.env) (SP X pins D) X.xe s,
  λpins s σ H D I h=>h pins s I,λα ρ S σ H D wd sl q pins s I=>?_⟩
 rw[arm_exec_Try];refine wB (wpAny_standAt (wpAny_tryStmt_except (wpAny_execs_cons (wpAny_Expr_any ?_ I.quiet hs))));have ht:=Ea (Q:=λ_ H2=>D.nx σ H2) kk wd sl q λr S1 u α1 H1 q1 x1 w1 _=>q1 σ α1 H1 x1 w1 (sl.ext x1);refine jX (Dz G hr hg hm hkp hb ha I ht (λH1 s1 y s' I1 hq=>Ry T hgm hN hi hk hsuite hex hstk hfm sl I1 hq) hdb he hpl) λu s' ⟨v,H',I',_,q'⟩=>?_;exact wpAny_execs_nil (wpAny_execs_nil ⟨σ,H',I',q'⟩)
end
def xcl_mk{K:Zb}{C N:Addr}{bm bs sub:Yb}{init:Option Value}{nm q:Str}{hd ab:Bool}{sn:Ye}{col:Option Bool}{dd od:Option Addr}{k0 k1 k2 k3 k5:Option Value}{oc:Value}{es:Array DictEntry}{ep:Nat}{sl:Array (Option Value)}
  (l:K.lookup C=some (excClassObj nm q C N bs bm hd sn sub ab col dd k0 k1 k2 k3 k5 "ValueError.__new__")) (n:K.lookup N=some ⟨oc,od,.dict es ep,sl⟩) (o:(es.toList.all λe=>match e.key with |.str _ _=>true|_=>false)=true)
  (i:PySem.W.nsIn K N "__init__"=some init) (q1:PySem.W.nsIn K N "__class__"=some none) (q2:PySem.W.nsIn K N "__getattribute__"=some none) (q3:PySem.W.nsIn K N "__getattr__"=some none)
  (q4:PySem.W.nsIn K N "__setattr__"=some none) (q5:PySem.W.nsIn K N "place"=some none) (q6:PySem.W.nsIn K N "number"=some none) (hh:hd=true):vU K C bm init:=by
 refine⟨nm,q,N,bs,hd,sn,sub,ab,col,dd,k0,k1,k2,k3,k5,l,?_,i,λy hy=>?_,hh⟩
 .unfold PySem.W.nsOkIn;rw[n];rw[Array.all_toList]at o;exact o
 .simp only[qn,mC,nM,or_false]at hy;rcases hy with rfl|rfl|rfl|rfl|rfl|rfl<;>assumption
end M
end L2
namespace Srt
open PySem PyProof.Rows
def WF:Bool->Keyed->Array Keyed->Nat->Nat->Nat->StateT SortSt Sem (Option Nat):=sortPriv% PySem.Builtin.gallop
def uL:Nat->StateT SortSt Sem Unit:=sortPriv% PySem.Builtin.setMinGallop
section
variable{M:Model}{A:Around}{E:VP}{s:Shared}{σ:Type}
def PF{x:String}{Q:Unit->σ->Prop}{st:σ}(h:Q () st):wpS M A E s (liftM (rule x):StateT σ Sem Unit) Q st:=wpS_lift (wpAny_rule ⟨rfl,h⟩)
end
end Srt
set_option autoImplicit false
namespace Srt
variable{β:Type}{le:β->β->Prop}
structure Two(le:β->β->Prop)(T out xs ys:List β):Prop where
 hx:(out++xs).Pairwise le
 hy:(out++ys).Pairwise le
 pm:(out++(xs++ys)).Perm T
structure TwoR(le:β->β->Prop)(T xs ys R:List β):Prop where
 hx:(xs++R).Pairwise le
 hy:(ys++R).Pairwise le
 pm:(xs++ys++R).Perm T
end Srt
set_option autoImplicit false
namespace Srt
open PySem PyProof.Rows
abbrev SM:=StateT SortSt Sem
abbrev G3:=Option (Option Nat)×Nat×Nat
end Srt
set_option autoImplicit false
namespace Srt
open PySem PyProof.Rows
section
variable{M:Model}{A:Around}{E:VP}{s:Shared}
structure Cmp(M:Model)(A:Around)(E:VP)(s:Shared)(kd:SortKind)(D:Keyed->Prop)(lt:Keyed->Keyed->Bool):Prop where
 go: ∀x y,D x->D y-> ∀st:SortSt,kindOf st=kd-> ∀Q:Option Bool->SortSt->Prop,Q (some (lt x y)) st->wpS M A E s (lt' x y) Q st
 tr: ∀x y z,lt y x=false->lt z y=false->lt z x=false
 as: ∀x y,lt x y=true->lt y x=false
variable{kd:SortKind}{D:Keyed->Prop}{lt:Keyed->Keyed->Bool}
abbrev Le(lt:Keyed->Keyed->Bool)(x y:Keyed):Prop:=lt y x=false
def Cmp.rf(C:Cmp M A E s kd D lt)(x:Keyed):Le lt x x:=by
 show lt x x=false
 cases h:lt x x with
 |false=>rfl
 |true=>exact absurd h (by rw[C.as x x h];simp)
def SL(lt:Keyed->Keyed->Bool)(l:List Keyed)(b n:Nat):Prop:= ∀i j x y,i<=j->j<n->l[b+i]? =some x->l[b+j]? =some y->lt y x=false
def WG{st:SortSt}{v:Array Keyed}{i:Nat}{Q:Keyed->SortSt->Prop}{x:Keyed}(e:v.toList[i]? =some x)(h:Q x st):wpS M A E s (elem' v i) Q st:=by
 rw[elem'_eq];have:v[i]? =some x:=by rw[<-Array.getElem?_toList];exact e
 rw[this];exact wpS_pure h
def Oe{v:Array Keyed}{i:Nat}(h:i<v.size): ∃x,v.toList[i]? =some x:=⟨v.toList[i]'(by simpa using h),gE _⟩
end
end Srt
set_option autoImplicit false
namespace Srt
open PySem PyProof.Rows
abbrev V:=Array Keyed
abbrev L6:=Option V×V×Nat×Nat×Nat×Nat
abbrev dnL(a b o:V)(i j:Nat):V:=o++a.extract i a.size++b.extract j b.size
abbrev laL(a b o:V)(i j:Nat):V:=o++b.extract j b.size++a.extract i a.size
def one1(a b:V)(g:Nat)(c:L6):SM (ForInStep L6):=
 elem' b c.2.2.2.1 >>= λy=>elem' a c.2.2.1 >>= λx=>lt' y x >>= λr=>match r with
  |some q=>if q=true then elem' b c.2.2.2.1 >>= λy=>
     if(c.2.2.2.1+1==b.size)=true then pure (.done (some (dnL a b (c.2.1.push y) c.2.2.1 (c.2.2.2.1+1)),c.2.1.push y,c.2.2.1,c.2.2.2.1+1,0,c.2.2.2.2.2+1))
     else if c.2.2.2.2.2+1>=g then pure (.done (none,c.2.1.push y,c.2.2.1,c.2.2.2.1+1,0,c.2.2.2.2.2+1))
     else pure (.yield (none,c.2.1.push y,c.2.2.1,c.2.2.2.1+1,0,c.2.2.2.2.2+1))
    else elem' a c.2.2.1 >>= λx=>
     if(c.2.2.1+1+1==a.size)=true then pure (.done (some (laL a b (c.2.1.push x) (c.2.2.1+1) c.2.2.2.1),c.2.1.push x,c.2.2.1+1,c.2.2.2.1,c.2.2.2.2.1+1,0))
     else if c.2.2.2.2.1+1>=g then pure (.done (none,c.2.1.push x,c.2.2.1+1,c.2.2.2.1,c.2.2.2.2.1+1,0))
     else pure (.yield (none,c.2.1.push x,c.2.2.1+1,c.2.2.2.1,c.2.2.2.2.1+1,0))
  |_=>pure (.done (some (dnL a b c.2.1 c.2.2.1 c.2.2.2.1),c.2.1,c.2.2.1,c.2.2.2.1,c.2.2.2.2.1,c.2.2.2.2.2))
def in1(a b:V)(t g:Nat)(c:L6):SM L6:=forIn [0:t] c λ_ c=>one1 a b g c
end Srt
set_option autoImplicit false
namespace Srt
open PySem PyProof.Rows
def Sg(st st':SortSt):Prop:= ∃g,st'=SortSt.mk' (kindOf st) (arrOf st) (pendingOf st) g (failedOf st)
theorem Sg.kind{st st':SortSt}(h:Sg st st'):kindOf st'=kindOf st:=by obtain⟨g,rfl⟩:=h;rfl
section
variable{lt:Keyed->Keyed->Bool}{a b:V}
abbrev TwoA(lt:Keyed->Keyed->Bool)(a b o:V)(i j:Nat):Prop:=Two (Le lt) (a.toList++b.toList) o.toList (a.toList.drop i) (b.toList.drop j)
def FinA(lt:Keyed->Keyed->Bool)(a b r:V):Prop:=r.toList.Pairwise (Le lt)/\r.toList.Perm (a.toList++b.toList)
def TwoA.sa{o:V}{i j:Nat}(h:TwoA lt a b o i j):(a.toList.drop i).Pairwise (Le lt):=(List.pairwise_append.mp h.hx).2.1
def TwoA.len{o:V}{i j:Nat}(h:TwoA lt a b o i j):o.size+((a.size - i)+(b.size - j))=a.size+b.size:=by have:=h.pm.length_eq;simpa [lA,length_drop]using this
def I1(lt:Keyed->Keyed->Bool)(a b o:V)(i j:Nat):Prop:=i+1<a.size/\j<b.size/\TwoA lt a b o i j
end
end Srt
set_option autoImplicit false
namespace Srt
open PySem PyProof.Rows
abbrev H5:=Option V×Nat×Nat×V×Nat
abbrev H6:=Option V×Nat×Nat×V×Nat×Nat
abbrev H7:=Option V×Nat×Nat×V×Nat×Nat×Nat
abbrev Rz(a b o:V)(i j:Nat):V:=a.extract 0 i++b.extract 0 j++o.reverse
abbrev fbH(a b o:V)(i j:Nat):V:=b.extract 0 j++a.extract 0 i++o.reverse
def hone(a b:V)(g:Nat)(c:H6):SM (ForInStep H6):=
 elem' b (c.2.2.1 - 1) >>= λy=>elem' a (c.2.1 - 1) >>= λx=>lt' y x >>= λr=>match r with
  |some q=>if q=true then elem' a (c.2.1 - 1) >>= λx=>
     if(c.2.1 - 1==0)=true then pure (.done (some (Rz a b (c.2.2.2.1.push x) (c.2.1 - 1) c.2.2.1),c.2.1 - 1,c.2.2.1,c.2.2.2.1.push x,c.2.2.2.2.1+1,0))
     else if c.2.2.2.2.1+1>=g then pure (.done (none,c.2.1 - 1,c.2.2.1,c.2.2.2.1.push x,c.2.2.2.2.1+1,0))
     else pure (.yield (none,c.2.1 - 1,c.2.2.1,c.2.2.2.1.push x,c.2.2.2.2.1+1,0))
    else elem' b (c.2.2.1 - 1) >>= λy=>
     if(c.2.2.1 - 1==1)=true then pure (.done (some (fbH a b (c.2.2.2.1.push y) c.2.1 (c.2.2.1 - 1)),c.2.1,c.2.2.1 - 1,c.2.2.2.1.push y,0,c.2.2.2.2.2+1))
     else if c.2.2.2.2.2+1>=g then pure (.done (none,c.2.1,c.2.2.1 - 1,c.2.2.2.1.push y,0,c.2.2.2.2.2+1))
     else pure (.yield (none,c.2.1,c.2.2.1 - 1,c.2.2.2.1.push y,0,c.2.2.2.2.2+1))
  |_=>pure (.done (some (Rz a b c.2.2.2.1 c.2.1 c.2.2.1),c.2.1,c.2.2.1,c.2.2.2.1,c.2.2.2.2.1,c.2.2.2.2.2))
def hin1(a b:V)(t g:Nat)(c:H6):SM H6:=forIn [0:t] c λ_ c=>hone a b g c
def hw4(a b o:V)(i j g p q:Nat):SM (ForInStep H7):=
 elem' a (i - 1) >>= λx=>if(i - 1==0)=true then pure (.done (some (Rz a b (o.push x) (i - 1) j),i - 1,j,o.push x,g,p,q))
  else if(decide (p<7)&&decide (q<7))=true then pure (.done (none,i - 1,j,o.push x,g,p,q))else pure (.yield (none,i - 1,j,o.push x,g,p,q))
def Wt(a b o:V)(i j g p q:Nat):SM (ForInStep H7):=
 elem' b (j - 1) >>= λy=>if(j - 1==1)=true then pure (.done (some (fbH a b (o.push y) i (j - 1)),i,j - 1,o.push y,g,p,q))
  else elem' a (i - 1) >>= λx=>WF true x b 0 (j - 1) (j - 1 - 1) >>= λr=>match r with
   |some k=>if j - 1 - k>0 then
      if(k==1)=true then pure (.done (some (fbH a b (o.push y++(b.extract k (j - 1)).reverse) i k),i,k,o.push y++(b.extract k (j - 1)).reverse,g,p,j - 1 - k))
      else if(k==0)=true then pure (.done (some (Rz a b (o.push y++(b.extract k (j - 1)).reverse) i k),i,k,o.push y++(b.extract k (j - 1)).reverse,g,p,j - 1 - k))
      else hw4 a b (o.push y++(b.extract k (j - 1)).reverse) i k g p (j - 1 - k)
     else hw4 a b (o.push y) i (j - 1) g p (j - 1 - k)
   |_=>pure (.done (some (Rz a b (o.push y) i (j - 1)),i,j - 1,o.push y,g,p,q))
def hw2(a b o:V)(i j g p q:Nat):SM (ForInStep H7):=
 uL g >>= λ_=>elem' b (j - 1) >>= λy=>WF false y a 0 i (i - 1) >>= λr=>match r with
  |some k=>if i - k>0 then
     if(k==0)=true then pure (.done (some (Rz a b (o++(a.extract k i).reverse) k j),k,j,o++(a.extract k i).reverse,g,i - k,q))
     else Wt a b (o++(a.extract k i).reverse) k j g (i - k) q
    else Wt a b o i j g (i - k) q
  |_=>pure (.done (some (Rz a b o i j),i,j,o,g,p,q))
def hin2(a b:V)(t:Nat)(c:H7):SM H7:=forIn [0:t] c λ_ c=>
 if c.2.2.2.2.1>1 then hw2 a b c.2.2.2.1 c.2.1 c.2.2.1 (c.2.2.2.2.1 - 1) c.2.2.2.2.2.1 c.2.2.2.2.2.2
 else hw2 a b c.2.2.2.1 c.2.1 c.2.2.1 c.2.2.2.2.1 c.2.2.2.2.2.1 c.2.2.2.2.2.2
def outH(a b:V)(t:Nat)(c:H5):SM H5:=forIn [0:t] c λ_ c=>
 hin1 a b t c.2.2.2.2 (none,c.2.1,c.2.2.1,c.2.2.2.1,0,0) >>= λd=>match d.1 with
  |some r=>pure (.done (some r,d.2.1,d.2.2.1,d.2.2.2.1,c.2.2.2.2))
  |none=>liftM (rule "list.sort.gallop") >>= λ_=>hin2 a b t (none,d.2.1,d.2.2.1,d.2.2.2.1,c.2.2.2.2+1,d.2.2.2.2.1,d.2.2.2.2.2) >>= λe=>match e.1 with
   |some r=>pure (.done (some r,e.2.1,e.2.2.1,e.2.2.2.1,e.2.2.2.2.1))
   |none=>uL (e.2.2.2.2.1+1) >>= λ_=>pure (.yield (none,e.2.1,e.2.2.1,e.2.2.2.1,e.2.2.2.2.1+1))
section
variable{lt:Keyed->Keyed->Bool}{a b:V}
abbrev TwoH(lt:Keyed->Keyed->Bool)(a b o:V)(i j:Nat):Prop:=TwoR (Le lt) (a.toList++b.toList) (a.toList.take i) (b.toList.take j) o.toList.reverse
def TwoH.sa{o:V}{i j:Nat}(h:TwoH lt a b o i j):(a.toList.take i).Pairwise (Le lt):=(List.pairwise_append.mp h.hx).1
def TwoH.len{o:V}{i j:Nat}(h:TwoH lt a b o i j)(h1:i<=a.size)(h2:j<=b.size):o.size+(i+j)=a.size+b.size:=by have:=h.pm.length_eq;simp only[lA,lT,List.length_reverse,Array.length_toList]at this;omega
def J1(lt:Keyed->Keyed->Bool)(a b o:V)(i j:Nat):Prop:=1<=i/\i<=a.size/\2<=j/\j<=b.size/\TwoH lt a b o i j
def R6(lt:Keyed->Keyed->Bool)(a b:V)(n:Nat)(c:H6):Prop:= ∃i j o p q,c=(none,i,j,o,p,q)/\J1 lt a b o i j/\n<=o.size
def S6(lt:Keyed->Keyed->Bool)(a b:V)(n:Nat)(c:H6):Prop:=(∃r e,c=(some r,e)/\FinA lt a b r)\/R6 lt a b n c
end
end Srt
set_option autoImplicit false
namespace Srt
open PySem PyProof.Rows
abbrev C2:=Option (Option Nat)×Nat
abbrev C3:=Option (Option Nat)×Nat×Nat
def Kz(lo a n:Nat):SM C2:=forIn [a:n] ((none,a):C2) λ_ c=>ltAt' (lo+c.2) (lo+c.2 - 1) >>= λo=>match o with
 |some q=>if q=true then pure (.done (none,c.2))else pure (.yield (none,c.2+1))
 |_=>pure (.done (some none,c.2))
def Xu(lo m n:Nat):SM (Option Nat):=reverseSlice' lo (lo+m) >>= λ_=>Kz lo m n >>= λc=>match c.1 with
 |some r=>pure r
 |none=>pure (some c.2)
def Sa(lo a n:Nat):SM C3:=forIn [a:n] ((none,a,0):C3) λ_ c=>ltAt' (lo+c.2.1) (lo+c.2.1 - 1) >>= λo=>match o with
 |some q=>if q=true then
    if c.2.2>0 then reverseSlice' (lo+c.2.1 - (c.2.2+1)) (lo+c.2.1) >>= λ_=>pure (.yield (none,c.2.1+1,0))else pure (.yield (none,c.2.1+1,0))
   else ltAt' (lo+c.2.1 - 1) (lo+c.2.1) >>= λo=>match o with
    |some q=>if q=true then pure (.done (none,c.2.1,c.2.2))else pure (.yield (none,c.2.1+1,c.2.2+1))
    |_=>pure (.done (some none,c.2.1,c.2.2))
 |_=>pure (.done (some none,c.2.1,c.2.2))
def La(lo m n:Nat):SM (Option Nat):=liftM (rule "list.sort.descending-run") >>= λ_=>Sa lo (m+1) n >>= λc=>match c.1 with
 |some r=>pure r
 |none=>if c.2.2>0 then reverseSlice' (lo+c.2.1 - (c.2.2+1)) (lo+c.2.1) >>= λ_=>Xu lo c.2.1 n else Xu lo c.2.1 n
def Wu(lo n:Nat):SM (Option Nat):=Kz lo 1 n >>= λc=>match c.1 with
 |some r=>pure r
 |none=>if(c.2==n)=true then pure (some c.2)else if c.2>1 then ltAt' lo (lo+c.2 - 1) >>= λo=>(match o with
    |some q=>if q=true then pure (some c.2)else reverseSlice' lo (lo+c.2) >>= λ_=>La lo c.2 n
    |_=>pure none)
   else La lo c.2 n
theorem IC(lo n:Nat):countRun' lo n=Wu lo n:=by kernel_rfl
def binI(lo k:Nat):SM (Option Bool×Nat×Nat):=forIn [0:k] ((none,0,k):Option Bool×Nat×Nat) λ_ c=>
 if c.2.1>=c.2.2 then pure (.done (none,c.2.1,c.2.2))else ltAt' (lo+k) (lo+(c.2.1+c.2.2) / 2) >>= λo=>match o with
  |some q=>if q=true then pure (.yield (none,c.2.1,(c.2.1+c.2.2) / 2))else pure (.yield (none,(c.2.1+c.2.2) / 2+1,c.2.2))
  |_=>pure (.done (some false,c.2.1,c.2.2))
def Wv(lo n ok:Nat):SM Bool:=(forIn [max ok 1:n] ((none,()):Option Bool×Unit) λk _=>binI lo k >>= λc=>match c.1 with
  |some r=>pure (.done (some r,()))
  |none=>moveDown' (lo+k) (lo+c.2.1) >>= λ_=>pure (.yield (none,()))) >>= λc=>match c.1 with
 |some r=>pure r
 |none=>pure true
theorem DX(lo n ok:Nat):binarySort' lo n ok=Wv lo n ok:=by kernel_rfl
def Kx(d:Keyed)(v:V)(i:Nat):Keyed:=(v[i]?).getD d
def sQ{d:Keyed}{v u:V}{i j:Nat}(h:v[i]? =u[j]?):Kx d v i=Kx d u j:=by unfold Kx;rw[h]
def BN{d:Keyed}{v:V}{i j:Nat}(hj:j<=v.size)(k:Nat):Kx d (mirror v i j ((j - i) / 2)) k=if i<=k/\k<j then Kx d v (i+j - 1 - k)else Kx d v k:=by
 have e:=getElem?_mirror_all (i:=i) hj k;by_cases h1:i<=k/\k<j
 .rw[iP h1]at e ⊢; exact sQ e
 .rw[iN0 h1]at e ⊢; exact sQ e
def JU{d:Keyed}{v:V}{src m:Nat}(hs:src<v.size)(hm:m<=src)(k:Nat):
  Kx d (bubble v src m) k=if k=src - m then Kx d v src else if src - m<k/\k<=src then Kx d v (k - 1)else Kx d v k:=by
 have e:=getElem?_bubble hs m hm k;by_cases h1:k=src - m
 .rw[iP h1]at e ⊢; exact sQ e
 .rw[iN0 h1]at e ⊢;by_cases h2:src - m<k/\k<=src
  .rw[iP h2]at e ⊢; exact sQ e
  .rw[iN0 h2]at e ⊢; exact sQ e
structure SB(a₀:V)(kd:SortKind)(pd:Array (Nat×Nat×Nat))(f:V)(lo:Nat)(st:SortSt):Prop where
 pm:(arrOf st).Perm a₀
 kind:kindOf st=kd
 fl:failedOf st=none
 pd:pendingOf st=pd
 fx: ∀i,i<lo->(arrOf st)[i]? =f[i]?
section
variable{M:Model}{A:Around}{E:VP}{s:Shared}{kd:SortKind}{D:Keyed->Prop}{lt:Keyed->Keyed->Bool}{a₀ f:V}{pd:Array (Nat×Nat×Nat)}{lo:Nat}{st:SortSt}{d:Keyed}
def SB.size(h:SB a₀ kd pd f lo st):(arrOf st).size=a₀.size:=h.pm.size_eq
def SB.rev(h:SB a₀ kd pd f lo st){i j:Nat}(hi:lo<=i)(hj:j<=a₀.size):SB a₀ kd pd f lo (setArr st (mirror (arrOf st) i j ((j - i) / 2))):=
 ⟨(mirror_perm _ _ _ _).trans h.pm,h.kind,h.fl,h.pd,λk hk=>by show(mirror (arrOf st) i j ((j - i) / 2))[k]? =_;rw[getElem?_mirror_all (by rw[h.size];exact hj),iN0 (by omega)];exact h.fx k hk⟩
def SB.bub(h:SB a₀ kd pd f lo st){i m:Nat}(hi:lo+m<=i)(hj:i<a₀.size):SB a₀ kd pd f lo (setArr st (bubble (arrOf st) i m)):=
 ⟨(bubble_perm _ _ _).trans h.pm,h.kind,h.fl,h.pd,λk hk=>by show(bubble (arrOf st) i m)[k]? =_;rw[getElem?_bubble (by rw[h.size];exact hj) _ (by omega),iN0 (by omega),iN0 (by omega)];exact h.fx k hk⟩
def vW(C:Cmp M A E s kd D lt)(h:SB a₀ kd pd f lo st)(hD: ∀x,x∈a₀.toList->D x){i j:Nat}(hi:i<a₀.size)(hj:j<a₀.size){Q:Option Bool->SortSt->Prop}
  (hq:Q (some (lt (Kx d (arrOf st) i) (Kx d (arrOf st) j))) st):wpS M A E s (ltAt' i j) Q st:=by
 obtain⟨x,ex⟩:=Oe (v:=arrOf st) (i:=i) (by rw[h.size];exact hi);obtain⟨y,ey⟩:=Oe (v:=arrOf st) (i:=j) (by rw[h.size];exact hj);have mx:x∈a₀.toList:=(Array.perm_iff_toList_perm.mp h.pm).mem_iff.mp (mem_of_getElem? ex);have my:y∈a₀.toList:=(Array.perm_iff_toList_perm.mp h.pm).mem_iff.mp (mem_of_getElem? ey);have e1:Kx d (arrOf st) i=x:=by unfold Kx;rw[<-Array.getElem?_toList,ex];rfl
 have e2:Kx d (arrOf st) j=y:=by unfold Kx;rw[<-Array.getElem?_toList,ey];rfl
 rw[e1,e2]at hq;rw[ltAt'_eq];refine wpS_bind (wpS_get ?_);exact wpS_bind (WG ex (wpS_bind (WG ey (C.go x y (hD x mx) (hD y my) st h.kind _ hq))))
def MF{i j:Nat}{Q:Unit->SortSt->Prop}(h:Q () (setArr st (mirror (arrOf st) i j ((j - i) / 2)))):wpS M A E s (reverseSlice' i j) Q st:=by rw[reverseSlice'_eq];exact wpS_modify h
def Up(lt:Keyed->Keyed->Bool)(d:Keyed)(v:V)(lo n:Nat):Prop:= ∀i j,i<=j->j<n->Le lt (Kx d v (lo+i)) (Kx d v (lo+j))
def Dn(lt:Keyed->Keyed->Bool)(d:Keyed)(v:V)(lo n:Nat):Prop:= ∀i j,i<=j->j<n->Le lt (Kx d v (lo+j)) (Kx d v (lo+i))
def Up.step(C:Cmp M A E s kd D lt){v:V}{x:Nat}(hs:Up lt d v lo x)(hx:1<=x)(hl:lt (Kx d v (lo+x)) (Kx d v (lo+x - 1))=false):Up lt d v lo (x+1):=by
 intro i j hij hj;by_cases hjx:j<x
 .exact hs i j hij hjx
 .have hj':j=x:=by omega
  subst hj';by_cases hi':i=j
  .subst hi';exact C.rf _
  .have:=hs i (j - 1) (by omega) (by omega);rw[show lo+(j - 1)=lo+j - 1 by omega]at this;exact C.tr _ _ _ this hl
def WH(C:Cmp M A E s kd D lt)(hD: ∀x,x∈a₀.toList->D x)(h:SB a₀ kd pd f lo st){a n:Nat}(hn:lo+n<=a₀.size)(ha:1<=a)(han:a<=n)(hs:Up lt d (arrOf st) lo a){Q:C2->SortSt->Prop}
  (hq: ∀m,a<=m->m<=n->Up lt d (arrOf st) lo m->(m=n\/lt (Kx d (arrOf st) (lo+m)) (Kx d (arrOf st) (lo+m - 1))=true)->Q (none,m) st):wpS M A E s (Kz lo a n) Q st:=by
 unfold Kz;refine wpS_forRange (I:=λx c st'=>st'=st/\c=(none,x)/\Up lt d (arrOf st) lo x) ?_ ?_ ⟨rfl,rfl,hs⟩
 .rintro x c st' hax hxn ⟨rfl,rfl,hs'⟩;dsimp only;refine wpS_bind (vW (d:=d) C h hD (by omega) (by omega) ?_)
  cases hl:lt (Kx d (arrOf st') (lo+x)) (Kx d (arrOf st') (lo+x - 1))with
  |true=>exact wpS_pure (hq x hax (by omega) hs' (.inr hl))
  |false=>exact wpS_pure ⟨rfl,rfl,hs'.step C (by omega) hl⟩
 .rintro c st' ⟨rfl,rfl,hs'⟩;rw[show max a n=n by omega]at hs' ⊢;exact hq n han (le_refl _) hs' (.inl rfl)
def Up.of_mirror(h:SB a₀ kd pd f lo st){m:Nat}(hm:lo+m<=a₀.size)(hs:Dn lt d (arrOf st) lo m):Up lt d (mirror (arrOf st) lo (lo+m) ((lo+m - lo) / 2)) lo m:=by intro i j hij hj;rw[BN (by rw[h.size];exact hm),BN (by rw[h.size];exact hm),iP (by omega),iP (by omega)];have:=hs (m - 1 - j) (m - 1 - i) (by omega) (by omega);rw[show lo+(m - 1 - j)=lo+(lo+m) - 1 - (lo+j) by omega,show lo+(m - 1 - i)=lo+(lo+m) - 1 - (lo+i) by omega]at this;exact this
def Eb(C:Cmp M A E s kd D lt)(hD: ∀x,x∈a₀.toList->D x)(h:SB a₀ kd pd f lo st){m n:Nat}(hn:lo+n<=a₀.size)(h1:1<=m)(hm:m<=n)(hs:Dn lt d (arrOf st) lo m){Q:Option Nat->SortSt->Prop}
  (hq: ∀m st',SB a₀ kd pd f lo st'->1<=m->m<=n->Up lt d (arrOf st') lo m->Q (some m) st'):wpS M A E s (Xu lo m n) Q st:=by
 unfold Xu;refine wpS_bind (MF ?_);have h':=h.rev (i:=lo) (j:=lo+m) (le_refl _) (by omega);exact wpS_bind (WH C hD h' hn h1 hm (Up.of_mirror h (by omega) hs) λk k1 k2 k3 _=>wpS_pure (hq k _ h' (by omega) k2 k3))
def Ww(lt:Keyed->Keyed->Bool)(d:Keyed)(v:V)(i j:Nat):Prop:= ∀k l,i<=k->k<j->i<=l->l<j->Le lt (Kx d v k) (Kx d v l)
def Dn.mirror(C:Cmp M A E s kd D lt)(h:SB a₀ kd pd f lo st){i j n:Nat}(hj:j<=a₀.size)(he:Ww lt d (arrOf st) i j)(hs:Dn lt d (arrOf st) lo n):Dn lt d (mirror (arrOf st) i j ((j - i) / 2)) lo n:=by
 have key: ∀k,Le lt (Kx d (PyProof.Rows.mirror (arrOf st) i j ((j - i) / 2)) k) (Kx d (arrOf st) k)/\Le lt (Kx d (arrOf st) k) (Kx d (PyProof.Rows.mirror (arrOf st) i j ((j - i) / 2)) k):=by
  intro k;rw[BN (by rw[h.size];exact hj)];split
  .exact⟨he _ _ (by omega) (by omega) (by omega) (by omega),he _ _ (by omega) (by omega) (by omega) (by omega)⟩
  .exact⟨C.rf _,C.rf _⟩
 intro p q hpq hq;exact C.tr _ _ _ (key _).1 (C.tr _ _ _ (hs p q hpq hq) (key _).2)
def Lb(C:Cmp M A E s kd D lt)(hD: ∀x,x∈a₀.toList->D x)(h:SB a₀ kd pd f lo st){a n:Nat}(hn:lo+n<=a₀.size)(h1:1<=a)(han:a<=n)(hs:Dn lt d (arrOf st) lo a){Q:C3->SortSt->Prop}
  (hq: ∀m e st',SB a₀ kd pd f lo st'->a<=m->m<=n->Dn lt d (arrOf st') lo m->e+1<=m->Ww lt d (arrOf st') (lo+m - (e+1)) (lo+m)->Q (none,m,e) st'):wpS M A E s (Sa lo a n) Q st:=by
 unfold Sa
 refine wpS_forRange (I:=λx c st'=> ∃e,c=(none,x,e)/\SB a₀ kd pd f lo st'/\Dn lt d (arrOf st') lo x/\e+1<=x/\Ww lt d (arrOf st') (lo+x - (e+1)) (lo+x)) ?_ ?_
  ⟨0,rfl,h,hs,by omega,λk l h1 h2 h3 h4=>by rw[show k=l by omega];exact C.rf _⟩
 .rintro x c st' hax hxn ⟨e,rfl,hB,hs',hq',he⟩;dsimp only;have one: ∀v:V,Ww lt d v (lo+(x+1) - (0+1)) (lo+(x+1)):=λv k l h1 h2 h3 h4=>by rw[show k=l by omega];exact C.rf _
  refine wpS_bind (vW (d:=d) C hB hD (by omega) (by omega) ?_)
  cases hl:lt (Kx d (arrOf st') (lo+x)) (Kx d (arrOf st') (lo+x - 1))with
  |true=>
   have nx:Dn lt d (arrOf st') lo (x+1):=by
    intro i j hij hj;by_cases hjx:j<x
    .exact hs' i j hij hjx
    .have hj':j=x:=by omega
     subst hj';by_cases hi':i=j
     .subst hi';exact C.rf _
     .have:=hs' i (j - 1) (by omega) (by omega);rw[show lo+(j - 1)=lo+j - 1 by omega]at this;exact C.tr _ _ _ (C.as _ _ hl) this
   dsimp only;rw[iP rfl];by_cases ce:e>0
   .rw[iP ce];refine wpS_bind (MF (wpS_pure ⟨0,rfl,hB.rev (by omega) (by omega),nx.mirror C hB (by omega) he,by omega,one _⟩))
   .rw[iN0 ce];exact wpS_pure ⟨0,rfl,hB,nx,by omega,one _⟩
  |false=>
   dsimp only;rw[iN0 (by simp)];refine wpS_bind (vW (d:=d) C hB hD (by omega) (by omega) ?_)
   cases hr:lt (Kx d (arrOf st') (lo+x - 1)) (Kx d (arrOf st') (lo+x))with
   |true=>exact wpS_pure (hq x e st' hB hax (by omega) hs' hq' he)
   |false=>
    refine wpS_pure ⟨e+1,rfl,hB,λi j hij hj=>?_,by omega,λk l k1 k2 k3 k4=>?_⟩
    .by_cases hjx:j<x
     .exact hs' i j hij hjx
     .have hj':j=x:=by omega
      subst hj';by_cases hi':i=j
      .subst hi';exact C.rf _
      .have:=hs' i (j - 1) (by omega) (by omega);rw[show lo+(j - 1)=lo+j - 1 by omega]at this;exact C.tr _ _ _ hr this
    .by_cases ck:k=lo+x
     .subst ck;by_cases cl:l=lo+x
      .subst cl;exact C.rf _
      .exact C.tr _ _ _ hr (he _ _ (by omega) (by omega) (by omega) (by omega))
     .by_cases cl:l=lo+x
      .subst cl;exact C.tr _ _ _ (he k (lo+x - 1) (by omega) (by omega) (by omega) (by omega)) hl
      .exact he _ _ (by omega) (by omega) (by omega) (by omega)
 .rintro c st' ⟨e,rfl,hB,hs',hq',he⟩;rw[show max a n=n by omega]at hs' hq' he ⊢;exact hq n e st' hB han (le_refl _) hs' hq' he
def WI(C:Cmp M A E s kd D lt)(hD: ∀x,x∈a₀.toList->D x)(h:SB a₀ kd pd f lo st){m n:Nat}(hn:lo+n<=a₀.size)(hm:m+1<=n)(hs:Dn lt d (arrOf st) lo (m+1)){Q:Option Nat->SortSt->Prop}
  (hq: ∀m st',SB a₀ kd pd f lo st'->1<=m->m<=n->Up lt d (arrOf st') lo m->Q (some m) st'):wpS M A E s (La lo m n) Q st:=by
 unfold La;refine wpS_bind (PF ?_);refine wpS_bind (Lb C hD h hn (by omega) hm hs λk e st' hB k1 k2 k3 k4 k5=>?_);dsimp only;by_cases ce:e>0
 .rw[iP ce];exact wpS_bind (MF (Eb C hD (hB.rev (by omega) (by omega)) hn (by omega) k2 (k3.mirror C hB (by omega) k5) hq))
 .rw[iN0 ce];exact Eb C hD hB hn (by omega) k2 k3 hq
def Lc(C:Cmp M A E s kd D lt)(hD: ∀x,x∈a₀.toList->D x)(h:SB a₀ kd pd f lo st){n:Nat}(hn:lo+n<=a₀.size)(h1:1<=n){Q:Option Nat->SortSt->Prop}
  (hq: ∀m st',SB a₀ kd pd f lo st'->1<=m->m<=n->Up lt d (arrOf st') lo m->Q (some m) st'):wpS M A E s (countRun' lo n) Q st:=by
 rw[IC];unfold Wu;refine wpS_bind (WH (d:=d) C hD h hn (le_refl 1) h1 (λi j hij hj=>by rw[show i=j by omega];exact C.rf _) λm m1 m2 hs hor=>?_);dsimp only;by_cases cm:m=n
 .rw[iP (by simpa using cm)];exact wpS_pure (hq m st h m1 m2 hs)
 .rw[iN0 (by simpa using cm)];have hlt:=hor.resolve_left cm;by_cases cg:m>1
  .rw[iP cg];refine wpS_bind (vW (d:=d) C h hD (by omega) (by omega) ?_)
   cases hr:lt (Kx d (arrOf st) lo) (Kx d (arrOf st) (lo+m - 1))with
   |true=>exact wpS_pure (hq m st h m1 m2 hs)
   |false=>
    have all:Ww lt d (arrOf st) lo (lo+m):=by intro k l k1 k2 k3 k4;have a1:=hs 0 (l - lo) (by omega) (by omega);have a2:=hs (k - lo) (m - 1) (by omega) (by omega);rw[show lo+0=lo by omega,show lo+(l - lo)=l by omega]at a1;rw[show lo+(k - lo)=k by omega,show lo+(m - 1)=lo+m - 1 by omega]at a2;exact C.tr _ _ _ a2 (C.tr _ _ _ hr a1)
    have dn:Dn lt d (arrOf st) lo (m+1):=by
     intro i j hij hj;by_cases hjm:j<m
     .exact all _ _ (by omega) (by omega) (by omega) (by omega)
     .have hj':j=m:=by omega
      subst hj';by_cases hi':i=j
      .subst hi';exact C.rf _
      .exact C.tr _ _ _ (C.as _ _ hlt) (all _ _ (by omega) (by omega) (by omega) (by omega))
    dsimp only;rw[iN0 (by simp)];exact wpS_bind (MF (WI C hD (h.rev (le_refl _) (by omega)) hn (by omega) (dn.mirror C h (by omega) all) hq))
  .rw[iN0 cg];have:m=1:=by omega
   subst this;refine WI C hD h hn (by omega) (λi j hij hj=>?_) hq;by_cases hi':i=j
   .subst hi';exact C.rf _
   .rw[show i=0 by omega,show j=1 by omega];exact C.as _ _ hlt
def Ld(C:Cmp M A E s kd D lt)(hD: ∀x,x∈a₀.toList->D x)(h:SB a₀ kd pd f lo st){n ok:Nat}(hn:lo+n<=a₀.size)(hok:ok<=n)(hs:Up lt d (arrOf st) lo ok){Q:Bool->SortSt->Prop}
  (hq: ∀st',SB a₀ kd pd f lo st'->Up lt d (arrOf st') lo n->Q true st'):wpS M A E s (binarySort' lo n ok) Q st:=by
 rw[DX];unfold Wv
 refine wpS_bind (wpS_mono (wpS_forRange (I:=λk c st'=>c=(none,())/\SB a₀ kd pd f lo st'/\Up lt d (arrOf st') lo (min k n))
  (Q:=λc st'=>c=(none,())/\SB a₀ kd pd f lo st'/\Up lt d (arrOf st') lo n) ?_ ?_ ?_) ?_)
 .rintro k c st' hak hkn ⟨rfl,hB,hs'⟩;rw[show min k n=k by omega]at hs';unfold binI
  refine wpS_bind (wpS_mono (wpS_forRange (I:=λx c st''=>st''=st'/\ ∃l r,c=(none,l,r)/\l<=r/\r<=k/\r - l<=k - x/\
    (∀i,i<l->Le lt (Kx d (arrOf st') (lo+i)) (Kx d (arrOf st') (lo+k)))/\(∀i,r<=i->i<k->Le lt (Kx d (arrOf st') (lo+k)) (Kx d (arrOf st') (lo+i))))
   (Q:=λc st''=>st''=st'/\ ∃l r,c=(none,l,r)/\l<=k/\
    (∀i,i<l->Le lt (Kx d (arrOf st') (lo+i)) (Kx d (arrOf st') (lo+k)))/\(∀i,l<=i->i<k->Le lt (Kx d (arrOf st') (lo+k)) (Kx d (arrOf st') (lo+i)))) ?_ ?_ ?_) ?_)
  .rintro x c st'' _ hxk ⟨rfl,l,r,rfl,hlr,hrk,hm,hlo,hhi⟩;dsimp only;by_cases hge:l>=r
   .rw[iP hge];have:l=r:=by omega
    subst this;exact wpS_pure ⟨rfl,l,l,rfl,hrk,hlo,hhi⟩
   .rw[iN0 hge];refine wpS_bind (vW (d:=d) C hB hD (by omega) (by omega) ?_)
    cases hl:lt (Kx d (arrOf st'') (lo+k)) (Kx d (arrOf st'') (lo+(l+r) / 2))with
    |true=>exact wpS_pure ⟨rfl,l,(l+r) / 2,rfl,by omega,by omega,by omega,hlo,λi h1 h2=>C.tr _ _ _ (C.as _ _ hl) (hs' _ _ h1 h2)⟩
    |false=>exact wpS_pure ⟨rfl,(l+r) / 2+1,r,rfl,by omega,by omega,by omega,λi h1=>C.tr _ _ _ (hs' i ((l+r) / 2) (by omega) (by omega)) hl,hhi⟩
  .rintro c st'' ⟨rfl,l,r,rfl,hlr,hrk,hm,hlo,hhi⟩;have:l=r:=by omega
   subst this;exact⟨rfl,l,l,rfl,hrk,hlo,hhi⟩
  .exact⟨rfl,0,k,rfl,by omega,by omega,by omega,λi hi=>by omega,λi h1 h2=>by omega⟩
  .rintro c st'' ⟨rfl,l,r,rfl,hlk,hlo,hhi⟩;dsimp only;rw[moveDown'_eq];have hks:lo+k<(arrOf st'').size:=by rw[hB.size];omega
   refine wpS_bind (wpS_modify (wpS_pure ⟨rfl,?_,?_⟩))
   .exact hB.bub (by omega) (by omega)
   .rw[show min (k+1) n=k+1 by omega];intro i j hij hj;show Le lt (Kx d (bubble (arrOf st'') (lo+k) (lo+k - (lo+l))) (lo+i)) (Kx d (bubble (arrOf st'') (lo+k) (lo+k - (lo+l))) (lo+j));rw[JU hks (by omega),JU hks (by omega),show lo+k - (lo+k - (lo+l))=lo+l by omega];have sh: ∀i,1<=i->lo+i - 1=lo+(i - 1):=λi hi=>by omega
    repeat' split
    all_goals first
     |(exfalso;omega)
     |exact C.rf _
     |exact hlo _ (by omega)
     |(rw[sh _ (by omega)];exact hhi _ (by omega) (by omega))
     |exact hhi _ (by omega) (by omega)
     |exact hs' _ _ (by omega) (by omega)
     |(rw[sh i (by omega)];exact hs' _ _ (by omega) (by omega))
     |(rw[sh j (by omega)];exact hs' _ _ (by omega) (by omega))
     |(rw[sh i (by omega),sh j (by omega)];exact hs' _ _ (by omega) (by omega))
     |(rw[sh i (by omega)];exact hlo _ (by omega))
 .rintro c st' ⟨hc,hB,hs'⟩;refine⟨hc,hB,?_⟩;rwa [show min (max (max ok 1) n) n=n by omega]at hs'
 .refine⟨rfl,h,λi j hij hj=>?_⟩;by_cases h1:ok=0
  .rw[show i=j by omega];exact C.rf _
  .exact hs i j hij (by omega)
 .rintro c st' ⟨rfl,hB,hs'⟩;exact wpS_pure (hq st' hB hs')
end
end Srt
set_option autoImplicit false
namespace Srt
open PySem PyProof.Rows
section
variable{kd:SortKind}{lt:Keyed->Keyed->Bool}{a₀:V}{pd:Array (Nat×Nat×Nat)}{lo:Nat}{st:SortSt}{d:Keyed}
def Up.sl{v:V}{n:Nat}(h:Up lt d v lo n):SL lt v.toList lo n:=by
 intro i j x y h1 h2 hx hy;have e1:Kx d v (lo+i)=x:=by unfold Kx;rw[<-Array.getElem?_toList,hx];rfl
 have e2:Kx d v (lo+j)=y:=by unfold Kx;rw[<-Array.getElem?_toList,hy];rfl
 have:=h i j h1 h2;rw[e1,e2]at this;exact this
def SL.pw{l:List Keyed}{n:Nat}(h:SL lt l lo n):((l.drop lo).take n).Pairwise (Le lt):=by rw[List.pairwise_iff_getElem];intro i j hi hj hij;rw[lT,length_drop]at hi hj;rw[List.getElem_take,List.getElem_take,List.getElem_drop,List.getElem_drop];exact h i j _ _ (by omega) (by omega) (gE _) (gE _)
structure Out(a₀:V)(kd:SortKind)(lt:Keyed->Keyed->Bool)(n:Nat)(st:SortSt):Prop where
 pm:(arrOf st).toList.Perm a₀.toList
 kind:kindOf st=kd
 fl:failedOf st=none
 pd: ∃w,pendingOf st=#[(0,n,w)]
 so:(arrOf st).toList.Pairwise (Le lt)
end
end Srt
set_option autoImplicit false
namespace Srt
open PySem PyProof.Rows
abbrev U2:=Option Unit×Nat
abbrev U1:=Option Unit×Unit
def psh(lo n:Nat):SM (ForInStep U2):=(modify λs=>setPending s ((pendingOf s).push (lo,n,0))) >>= λ_=>pure (.yield (none,lo+n))
def Xv(N lo n:Nat):SM (ForInStep U2):=get >>= λst=>match (pendingOf st).back? with
 |some (a,b,_)=>(forIn [0:N] ((none,()):U1) λ_ _=>get >>= λst=>(match (if(pendingOf st).size>1 then(pendingOf st)[(pendingOf st).size - 2]? else none)with
   |some (_,_,z)=>if z<=power' N (2 * a+b) (2 * a+b+b+n) N then pure (.done (none,()))else mergeAt' ((pendingOf st).size - 2) >>= λq=>if(!q)=true then pure (.done (some (),()))else pure (.yield (none,()))
   |_=>pure (.done (none,())))) >>= λc=>(match c.1 with
  |some r=>pure (.done (some r,lo))
  |none=>(modify λs=>setPending s ((pendingOf s).modify ((pendingOf s).size - 1) λ(u,v,_)=>(u,v,power' N (2 * a+b) (2 * a+b+b+n) N))) >>= λ_=>psh lo n)
 |_=>psh lo n
def runs(N r:Nat):SM U2:=forIn [0:N] ((none,0):U2) λ_ c=>if c.2>=N then pure (.done (none,c.2))else countRun' c.2 (N - c.2) >>= λo=>match o with
 |some m=>if m<r then liftM (rule "list.sort.binary-insertion") >>= λ_=>binarySort' c.2 (min (N - c.2) r) m >>= λq=>if(!q)=true then pure (.done (some (),c.2))else Xv N c.2 (min (N - c.2) r)
   else Xv N c.2 m
 |_=>pure (.done (some (),c.2))
def Sb(N:Nat):SM U1:=forIn [0:N] ((none,()):U1) λ_ _=>get >>= λst=>if(pendingOf st).size<=1 then pure (.done (none,()))else
 mergeAt' (if Option.any (λx=>decide (x<((pendingOf st)[(pendingOf st).size - 2+1]?).elim 0 λx=>x.2.1)) (if(pendingOf st).size - 2>0 then Option.map (λx=>x.2.1) (pendingOf st)[(pendingOf st).size - 2 - 1]? else none)=true
  then(pendingOf st).size - 2 - 1 else(pendingOf st).size - 2) >>= λq=>if(!q)=true then pure (.done (some (),()))else pure (.yield (none,()))
def Wx:SM Unit:=get >>= λst=>runs (arrOf st).size (minRun' (arrOf st).size (arrOf st).size 0) >>= λc=>match c.1 with
 |some r=>pure r
 |none=>Sb (arrOf st).size >>= λc=>match c.1 with
  |some r=>pure r
  |none=>pure ()
theorem IE:sortRuns'=Wx:=by kernel_rfl
section
variable{M:Model}{A:Around}{E:VP}{s:Shared}{kd:SortKind}{lt:Keyed->Keyed->Bool}{a₀ f:V}{pd:Array (Nat×Nat×Nat)}{lo:Nat}{st:SortSt}
def SB.free{pd':Array (Nat×Nat×Nat)}(h:SB a₀ kd pd f lo st)(g:V):SB a₀ kd pd' g 0 (setPending st pd'):=⟨h.pm,h.kind,h.fl,rfl,λ_ hi=>by omega⟩
def Sd{lo n:Nat}{Q:ForInStep U2->SortSt->Prop}(h:Q (.yield (none,lo+n)) (setPending st ((pendingOf st).push (lo,n,0)))):wpS M A E s (psh lo n) Q st:=
 wpS_bind (wpS_modify (wpS_pure h))
def Xw(a₀:V)(lt:Keyed->Keyed->Bool)(st:SortSt):Prop:=(arrOf st).toList.Perm a₀.toList/\failedOf st=none/\(arrOf st).toList.Pairwise (Le lt)
end
end Srt
set_option autoImplicit false
namespace Srt
open PySem PyProof.Rows
section
variable{M:Model}{A:Around}{E:VP}{s:Shared}{kd:SortKind}{D:Keyed->Prop}{lt:Keyed->Keyed->Bool}{a₀:V}{pd:Array (Nat×Nat×Nat)}{st:SortSt}{d:Keyed}
def Ec{N:Nat}(h2:2<=N)(h:N<64):minRun' N N 0=N:=by
 obtain⟨g,rfl⟩: ∃g,N=g+1:=⟨N - 1,by omega⟩
 rw[minRun'_succ,iP h]
def Xx(a₀:V)(kd:SortKind)(lt:Keyed->Keyed->Bool)(st:SortSt):Prop:=SB a₀ kd #[(0,a₀.size,0)] a₀ 0 st/\SL lt (arrOf st).toList 0 a₀.size
def Ed(C:Cmp M A E s kd D lt)(hD: ∀x,x∈a₀.toList->D x)(d:Keyed)(h2:2<=a₀.size)(h:SB a₀ kd #[] a₀ 0 st){Q:U2->SortSt->Prop}
  (hq: ∀st',Xx a₀ kd lt st'->Q (none,a₀.size) st'):wpS M A E s (runs a₀.size a₀.size) Q st:=by
 unfold runs;refine wpS_forRange (I:=λx c st'=>(x=0/\c=(none,0)/\SB a₀ kd #[] a₀ 0 st')\/(1<=x/\c=(none,a₀.size)/\Xx a₀ kd lt st')) ?_ ?_ (.inl ⟨rfl,rfl,h⟩)
 .rintro x c st' _ hx (⟨rfl,rfl,hB⟩|⟨hx1,rfl,hC⟩)
  .dsimp only;rw[iN0 (by omega)]
   have go: ∀st2,SB a₀ kd #[] a₀ 0 st2->Up lt d (arrOf st2) 0 a₀.size-> ∀R:ForInStep U2->SortSt->Prop,(∀st',Xx a₀ kd lt st'->R (.yield (none,a₀.size)) st')->wpS M A E s (Xv a₀.size 0 a₀.size) R st2:=by
    intro st2 hB2 hu R hR;unfold Xv;refine wpS_bind (wpS_get ?_);have hb:(pendingOf st2).back? =none:=by rw[hB2.pd];rfl
    rw[hb];dsimp only;refine Sd ?_;have e:(pendingOf st2).push (0,a₀.size,0)=#[(0,a₀.size,0)]:=by rw[hB2.pd];rfl
    rw[e,zero_add];exact hR _ ⟨hB2.free a₀,hu.sl⟩
   refine wpS_bind (Lc (d:=d) C hD hB (by omega) (by omega) λm st2 hB2 hm1 hm2 hu=>?_);dsimp only;by_cases cm:m<a₀.size
   .rw[iP cm];refine wpS_bind (PF ?_);rw[sub_zero,Nat.min_self];refine wpS_bind (Ld C hD hB2 (by omega) (by omega) hu λst3 hB3 hu3=>?_);rw[iN0 (by simp)];exact go st3 hB3 hu3 _ λ_ q=>.inr ⟨by omega,rfl,q⟩
   .rw[iN0 cm];obtain rfl:m=a₀.size:=by omega
    exact go st2 hB2 hu _ λ_ q=>.inr ⟨by omega,rfl,q⟩
  .dsimp only;rw[iP (le_refl _)];exact wpS_pure (hq st' hC)
 .rintro c st' (⟨hx,_⟩|⟨_,rfl,hC⟩)
  .omega
  .exact hq st' hC
def Ee(h2:2<=a₀.size)(h:Xx a₀ kd lt st){Q:U1->SortSt->Prop}(hq: ∀st',Xw a₀ lt st'->Q (none,()) st'):wpS M A E s (Sb a₀.size) Q st:=by
 have hd:Xw a₀ lt st:=⟨Array.perm_iff_toList_perm.mp h.1.pm,h.1.fl,by have:=h.2.pw;rwa [drop_zero,take_of_length_le (by rw[Array.length_toList,h.1.size];omega)]at this⟩
 unfold Sb;refine wpS_forRange (I:=λ_ c st'=>c=(none,())/\st'=st) ?_ ?_ ⟨rfl,rfl⟩
 .rintro x c st' _ _ ⟨rfl,rfl⟩;refine wpS_bind (wpS_get ?_);rw[iP (by rw[h.1.pd];simp)];exact wpS_pure (hq _ hd)
 .rintro c st' ⟨rfl,rfl⟩;exact hq _ hd
def MG(C:Cmp M A E s kd D lt)(hD: ∀x,x∈(arrOf st).toList->D x)(d:Keyed)(h2:2<=(arrOf st).size)(h64:(arrOf st).size<64)(hk:kindOf st=kd)(hp:pendingOf st=#[])(hf:failedOf st=none)
  {Q:Unit->SortSt->Prop} (hq: ∀st',Xw (arrOf st) lt st'->Q () st'):wpS M A E s sortRuns' Q st:=by
 rw[IE];unfold Wx;refine wpS_bind (wpS_get ?_);rw[Ec h2 h64];refine wpS_bind (Ed C hD d h2 ⟨Array.Perm.refl _,hk,hf,hp,λ_ hi=>by omega⟩ λst1 hC=>?_);dsimp only;refine wpS_bind (Ee h2 hC λst2 hd=>?_);exact wpS_pure (hq st2 hd)
end
end Srt
set_option autoImplicit false
set_option autoImplicit false
namespace Srt
open PySem PyProof.Rows
abbrev Rn:=Nat×Nat×Nat
def RunsOk(lt:Keyed->Keyed->Bool)(l:List Keyed):Nat->List Rn->Nat->Prop
 |p,[],q=>p=q
 |p,r::rs,q=>r.1=p/\1<=r.2.1/\SL lt l p r.2.1/\RunsOk lt l (p+r.2.1) rs q
section
variable{lt:Keyed->Keyed->Bool}{l:List Keyed}
theorem RunsOk.le: ∀{rs:List Rn}{p q:Nat},RunsOk lt l p rs q->p+rs.length<=q
 |[],p,q,h=>by cases h;exact le_refl _
 |r::rs,p,q,h=>by have:=RunsOk.le h.2.2.2;have:=h.2.1;rw[lC0];omega
end
section
variable{kd:SortKind}{lt:Keyed->Keyed->Bool}{a₀:V}{st:SortSt}
structure ST(a₀:V)(kd:SortKind)(lt:Keyed->Keyed->Bool)(rs:List Rn)(q:Nat)(st:SortSt):Prop where
 pm:(arrOf st).toList.Perm a₀.toList
 kind:kindOf st=kd
 fl:failedOf st=none
 pd:pendingOf st=rs.toArray
 ok:RunsOk lt (arrOf st).toList 0 rs q
 le:q<=a₀.size
def ST.size{rs:List Rn}{q:Nat}(h:ST a₀ kd lt rs q st):(arrOf st).size=a₀.size:=by have:=h.pm.length_eq;simpa using this
end
end Srt
set_option autoImplicit false
set_option autoImplicit false
namespace Srt
open PySem PyProof.Rows
section
variable{A:Around}{E:VP}{s:Shared}
def Lf{α β:Type}{f:α->Sem β}{g:α->β}{M:Model}(l:List α)(h: ∀x,x∈l->wpAny M A (f x) (λr s'=>s'=s/\r=g x) E s):wpAny M A (l.mapM f) (λr s'=>s'=s/\r=l.map g) E s:=by
 induction l with
 |nil=>rw[List.mapM_nil];exact wP ⟨rfl,rfl⟩
 |cons x l ih=>
  rw[List.mapM_cons];refine wB (wpAny_mono (h x mF0) (λr s' hr=>?_) λ_ _ e=>e);rw[hr.1,hr.2];refine wB (wpAny_mono (ih λy hy=>h y (mO _ hy)) (λr s' hr=>?_) λ_ _ e=>e);rw[hr.1,hr.2];exact wP ⟨rfl,rfl⟩
def PH{α β:Type}{f:α->Sem β}{g:α->β}{M:Model}{l:List α}(h: ∀x,x∈l->wpAny M A (f x) (λr s'=>s'=s/\r=g x) E s):wpAny M A (l.toArray.mapM f) (λr s'=>s'=s/\r=(l.map g).toArray) E s:=by rw[List.mapM_toArray];show wpAny M A (List.toArray<$>l.mapM f) _ E s;rw[map_eq_pure_bind];refine wB (wpAny_mono (Lf l h) (λr s' hr=>?_) λ_ _ e=>e);obtain⟨rfl,rfl⟩:=hr;exact wP ⟨rfl,rfl⟩
def TupAt(h:Heap)(a:Addr)(its:Yb):Prop:= ∃o n,h.get? a=some o/\o.cls=.type "tuple"/\o.data=.seq its.toArray n
theorem BO(v:Value):firstOfTuple' v=(do
  if(<-typeOf v) !=.type "tuple" then return none
  return (<-Builtin.List.listItems v)[0]?):=rfl
def Ef{M:Model}{a:Addr}{its:Yb}(h:TupAt s.heap a its):wpAny M A (firstOfTuple' (.ref a)) (λr s'=>s'=s/\r=its[0]?) E s:=by obtain⟨o,n,h1,h2,h3⟩:=h;rw[BO];refine wB (wpAny_typeOf (T:="tuple") ⟨o,h1,h2⟩ ?_);rw[iN0 (by simp)];refine wB (listItems_at h1 h3 ?_);exact wP ⟨rfl,by simp⟩
end
end Srt
set_option autoImplicit false
namespace Srt
open PySem PyProof.Rows
inductive LexS(A:Around)(s:Shared):List Value->List Value->Bool->Prop
 |nn:LexS A s [] [] false
 |nc (x xs):LexS A s [] (x::xs) true
 |cn (y ys):LexS A s (y::ys) [] false
 |eq {y x ys xs k}:SeqAt.EqAt A s y x true->LexS A s ys xs k->LexS A s (y::ys) (x::xs) k
 |ne {y x ys xs k}:SeqAt.EqAt A s y x false->(∀(prog:Program)(w:World)(E Q:VP),Q (.bool k) s->wpAny (model prog w) A (richCompare .Lt y x) Q E s)->LexS A s (y::ys) (x::xs) k
section
variable{prog:Program}{w:World}{A:Around}{E:VP}{s:Shared}
theorem Se(c:Bool)(x y:Value):keyLt' (tuples' c) x y=(Builtin.List.listItems x >>= λxs=>Builtin.List.listItems y >>= λys=>
  (forIn (xs.toList.zip ys.toList).zipIdx ((none,()):Option Bool×Unit) λz _=>eqBool z.1.1 z.1.2 >>= λe=>if(!e)=true then oneLt' (c&&z.2==0) z.1.1 z.1.2 >>= λr=>pure (.done (some r,()))else pure (.yield (none,()))) >>= λr=>
  match r.1 with
  |some r=>pure r
  |none=>pure (decide (xs.size<ys.size))):=by kernel_rfl
theorem Sf(x y:Value):oneLt' false x y=richCompare .Lt x y >>= λv=>truthOfDropped v:=by rw[oneLt'_eq];rfl
def TR{b:Bool}{Q:Bool->Shared->Prop}(h:Q b s):wpAny (model prog w) A (truthOfDropped (.bool b)) Q E s:=wpAny_truthy_bool h
def wp_lt{kd:SortKind}{x y:Keyed}{k:Bool}{st:SortSt}(hk:kindOf st=kd)(h: ∀(E:VP)(Q:Bool->Shared->Prop),Q k s->wpAny (model prog w) A (keyLt' kd x.1 y.1) Q E s){Q:Option Bool->SortSt->Prop}(hq:Q (some k) st):
  wpS (model prog w) A E s (lt' x y) Q st:=by
 rw[lt'_eq];refine wpS_bind (wpS_get ?_);rw[hk];refine wpS_bind (wpS_lift (wpAny_attempt (h _ _ ⟨rfl,?_⟩)));exact wpS_pure hq
end
end Srt
set_option autoImplicit false
set_option autoImplicit false
namespace Srt
open PySem PyProof.Rows
section
variable{prog:Program}{w:World}{A:Around}{E:VP}{s:Shared}
def Eg{m n:Nat}{k:Bool}(vs ws:Yb)(i:Nat)(hx:LexS A s vs ws k):1<=i->vs.length+n=ws.length+m->
   wpAny (model prog w) A (forIn ((vs.zip ws).zipIdx i) ((none,()):Option Bool×Unit) λz _=>eqBool z.1.1 z.1.2 >>= λe=>if(!e)=true then oneLt' (true&&z.2==0) z.1.1 z.1.2 >>= λr=>pure (.done (some r,()))else pure (.yield (none,())))
    (λr s'=>s'=s/\(r=(some k,())\/(r=(none,())/\k=decide (m<n)))) E s:=by
 induction hx generalizing i with
 |nn=>intro hi h;rw[zip_nil_left,zipIdx_nil,forIn_nil];exact wP ⟨rfl,.inr ⟨rfl,(dF0 (by simp at h;omega)).symm⟩⟩
 |nc x xs=>intro hi h;rw[zip_nil_left,zipIdx_nil,forIn_nil];exact wP ⟨rfl,.inr ⟨rfl,(dT0 (by simp at h;omega)).symm⟩⟩
 |cn y ys=>intro hi h;rw[List.zip_nil_right,zipIdx_nil,forIn_nil];exact wP ⟨rfl,.inr ⟨rfl,(dF0 (by simp at h;omega)).symm⟩⟩
 |eq he hr ih=>
  intro hi h;rw[zip_cons_cons,zipIdx_cons,forIn_cons];refine wB (wB (he prog w E _ ?_));rw[iN0 (by simp)];exact wP (ih (i+1) (by omega) (by simpa using(by simp at h;omega)))
 |ne he hr=>
  intro hi h;rw[zip_cons_cons,zipIdx_cons,forIn_cons];refine wB (wB (he prog w E _ ?_));rw[iP (by simp)];simp only[Bool.true_and];rw[show(i==0)=false by simp;omega,Sf];refine wB (wB (hr prog w E _ (TR ?_)));exact wP (wP ⟨rfl,.inl rfl⟩)
end
end Srt
set_option autoImplicit false
set_option autoImplicit false
namespace Srt
open PySem PyProof.Rows
section
variable{prog:Program}{w:World}{A:Around}{E:VP}{s:Shared}
def sort_plainS{a:Addr}{vs:Yb}{n0:Nat}{P:PySem.Fin->Shared->Prop}(ho:s.heap.get? a=some (seqObj "list" vs.toArray n0))(hl:vs.length<64)
  (hk: ∀s2:Shared,s2={s with heap:=((s.heap.update a (Obj.mapSeq λ_=>#[])).push (seqObj "tuple" vs.toArray 0)).push (seqObj "list" #[] 0)}-> ∃(kd:SortKind)(D:Keyed->Prop)(lt:Keyed->Keyed->Bool),
   (2<=vs.length->wpAny (model prog w) A (keyKind' vs.toArray) (λk s'=>s'=s2/\k=kd) E s2/\Cmp (model prog w) A E s2 kd D lt/\ ∀p,p∈vs.zip vs->D p)/\
   ∀out:List Keyed,out.Perm (vs.zip vs)->out.Pairwise (Le lt)->P (.done (.ret .none)) {s2 with heap:=s2.heap.update a (Obj.mapSeq λ_=>(out.map (·.2)).toArray)}):
  wpAny (model prog w) A (Builtin.«list.sort» ⟨[.ref a],[]⟩) P E s:=by
 unfold Builtin.«list.sort»;dsimp only;rw[iN0 (by simp),iN0 (by simp)];rw[forIn_nil];refine wB (wP ?_);have e1:List.lookup (Str.ofString "key") ([]:List (Str×Value))=none:=rfl;have e2:List.lookup (Str.ofString "reverse") ([]:List (Str×Value))=none:=rfl;rw[e1,e2];refine wB (wP ?_);have ha:a<s.heap.objs.size:=Heap.lt_size ho;refine wB (listItems_at ho rfl ?_);refine wB (listUpdate_at ho rfl ?_);obtain⟨q,hq⟩: ∃q,(s.heap.update a (Obj.mapSeq λ_=>#[])).get? a=some (seqObj "list" #[] q):=⟨_,get?_update_seq ho (λ_=>#[])⟩
 dsimp only;refine wB (seqEpoch_at hq rfl ?_);refine wB (wpAny_newTuple ?_);refine wB (wpAny_newList ?_);refine wpAny_holding ?_;rw[iN0 (by simp)];dsimp only;generalize hs2:({s with heap:=((s.heap.update a (Obj.mapSeq λ_=>#[])).push (seqObj "tuple" vs.toArray 0)).push (seqObj "list" #[] 0)}:Shared)=s2;have g1:s2.heap.get? a=some (seqObj "list" #[] q):=by rw[<-hs2];exact hP0 _ (hP0 _ hq)
 obtain⟨kd,D,lt,g4,g5⟩:=hk s2 hs2.symm;rw[iN0 (by simp)];refine wB (wP ?_);rw[iN0 (by simp)]
 have fin: ∀st:SortSt,failedOf st=none->(arrOf st).toList.Perm (vs.zip vs)->(arrOf st).toList.Pairwise (Le lt)->
   wpAny (model prog w) A (do
    let e <-seqEpoch a
    Builtin.List.listUpdate (.ref a) λ_=>(arrOf st).map (·.2)
    if(e !=q)=true then rule "list.sort.modified" >>= λ_=>raiseErrorWords "ValueError" "list modified during sort" >>= λ(_:Unit)=>ret .none else ret .none) P E s2:=by
  intro st hf hp hs;refine wB (seqEpoch_at g1 rfl ?_);have hlen:((arrOf st).map (·.2)).size<=sizeLine+1:=by rw[Array.size_map, <-Array.length_toList,hp.length_eq,length_zip];have:=sizeLine_eq;omega
  refine wB (listUpdate_at g1 rfl ?_ (hsz2:=hlen));rw[iN0 (by simp)];have e3:(arrOf st).map (·.2)=((arrOf st).toList.map (·.2)).toArray:=by rw[<-Array.toList_map]
  rw[e3];exact wP (g5 _ hp hs)
 by_cases h2':vs.toArray.size<2
 .rw[iP h2',iP h2'];refine wB (wP ?_);rw[StateT.run_pure];refine wB (wP ?_);rw[iN0 (by simp)];have hz:(vs.zip vs).length<=1:=by rw[length_zip];simp at h2';omega
  refine fin (SortSt.mk' general' (vs.toArray.zip vs.toArray) #[] 7 none) rfl ?_ ?_
  .show(vs.toArray.zip vs.toArray).toList.Perm _;simp
  .show(vs.toArray.zip vs.toArray).toList.Pairwise _;have:(vs.toArray.zip vs.toArray).toList=vs.zip vs:=by simp
   rw[this]
   match vs.zip vs,hz with
   |[],_=>exact .nil
   |[x],_=>exact List.pairwise_singleton _ _
   |x::y::r,h=>simp at h
 .rw[iN0 h2',iN0 h2'];obtain⟨k1,k2,k3⟩:=g4 (by simp at h2';omega);refine wB (wpAny_mono k1 (λk s' hk'=>?_) λ_ _ e=>e);obtain⟨rfl,rfl⟩:=hk';have za:(arrOf (SortSt.mk' k (vs.toArray.zip vs.toArray) #[] 7 none)).toList=vs.zip vs:=by show(vs.toArray.zip vs.toArray).toList=_;simp
  have zs:(arrOf (SortSt.mk' k (vs.toArray.zip vs.toArray) #[] 7 none)).size=vs.length:=by rw[<-Array.length_toList,za,length_zip,Nat.min_self]
  refine wB (wpAny_mono (MG (st:=SortSt.mk' k (vs.toArray.zip vs.toArray) #[] 7 none) k2 (λp hp=>k3 p (by rw[za]at hp;exact hp)) (.none,.none) (by rw[zs];simp at h2';omega) (by rw[zs];exact hl) rfl rfl rfl
   (Q:=λ_ st'=>Xw (arrOf (SortSt.mk' k (vs.toArray.zip vs.toArray) #[] 7 none)) lt st') λst' h=>h) (λr s3 hr=>?_) λ_ _ e=>e)
  obtain⟨⟨⟩,st'⟩:=r;obtain⟨rfl,d1,d2,d3⟩:=hr;dsimp only;rw[iN0 (by simp)];have F:=fin st' d2 (by rw[<-za];exact d1) d3;have d4:failedOf st'=none:=d2;unfold failedOf at d4;rw[d4];exact F
end
end Srt
set_option autoImplicit false
namespace Srt
open PySem PyProof.Rows
section
variable{A:Around}{E:VP}{s:Shared}
def PJ{M:Model}{l:Yb}(hl:l≠[])(h: ∀x,x∈l-> ∃z tk,x=.int z tk):wpAny M A (oneTypeOnly' l.toArray) (λr s'=>s'=s/\r=some (.type "int")) E s:=by
 rw[oneTypeOnly'_eq];refine wB (wpAny_mono (PH (g:=λ_=>Value.type "int") λx hx=>?_) (λr s' hr=>?_) λ_ _ e=>e)
 .obtain⟨z,tk,rfl⟩:=h x hx;exact wP ⟨rfl,rfl⟩
 .obtain⟨rfl,rfl⟩:=hr
  match l,hl with
  |x::l,_=>
   have h0:(List.map (λ_=>Value.type "int") (x::l)).toArray[0]? =some (Value.type "int"):=by simp
   have hall:((List.map (λ_=>Value.type "int") (x::l)).toArray.all λx=>x==Value.type "int")=true:=by simp only[List.all_toArray,all_map,all_eq_true];intro _ _;rfl
   rw[h0];dsimp only;rw[hall];exact wP ⟨rfl,rfl⟩
def wp_kindI{M:Model}{keys:Yb}(hl:keys≠[])(h: ∀x,x∈keys-> ∃a its z tk r,x=.ref a/\TupAt s.heap a its/\its=.int z tk::r):
  wpAny M A (keyKind' keys.toArray) (λk s'=>s'=s/\k=tuples' true) E s:=by
 rw[keyKind'_eq]
 have hg: ∀x, ∃y:Option Value,x∈keys->(∃z tk,y=some (.int z tk))/\ ∀M:Model,wpAny M A (firstOfTuple' x) (λr s'=>s'=s/\r=y) E s:=by
  intro x;by_cases hx:x∈keys
  .obtain⟨a,its,z,tk,r,rfl,h1,rfl⟩:=h x hx;exact⟨some (.int z tk),λ_=>⟨⟨z,tk,rfl⟩,λM=>Ef h1⟩⟩
  .exact⟨none,λz=>absurd z hx⟩
 let g:=λx=>Classical.choose (hg x);have gs: ∀x,x∈keys->(∃z tk,g x=some (.int z tk))/\ ∀M:Model,wpAny M A (firstOfTuple' x) (λr s'=>s'=s/\r=g x) E s:=λx hx=>Classical.choose_spec (hg x) hx;refine wB (wpAny_mono (PH (g:=g) λx hx=>(gs x hx).2 M) (λr s' hr=>?_) λ_ _ e=>e);obtain⟨rfl,rfl⟩:=hr;rw[iP (by simp only[List.all_toArray,all_map,all_eq_true];intro x hx;obtain⟨⟨b,jts,e⟩,_⟩:=gs x hx;show(g x).isSome=true;rw[e];rfl)];refine wB (wpAny_rule ?_);have ef:(keys.map g).toArray.filterMap id=((keys.map g).filterMap id).toArray:=by simp
 rw[ef];refine wB (wpAny_mono (PJ (l:=(keys.map g).filterMap id) ?_ ?_) (λr s' hr=>?_) λ_ _ e=>e)
 .match keys,hl,gs with
  |x::l,_,gs=>
   obtain⟨⟨b,jts,e⟩,_⟩:=gs x mF0;rw[map_cons,e];simp
 .intro x hx;obtain⟨y,hy,e⟩:=mem_filterMap.mp hx;obtain⟨z,hz,e'⟩:=mM0.mp hy;obtain⟨⟨b,jts,e2⟩,_⟩:=gs z hz;have:some x=some (Value.int b jts):=by rw[<-e2,e'];exact e.symm
  cases this;exact⟨b,jts,rfl⟩
 .obtain⟨rfl,rfl⟩:=hr;refine wP ⟨rfl,?_⟩;have:((some (Value.type "int")).any λx=>x !=Value.type "tuple")=true:=by rfl
  rw[this]
end
end Srt
set_option autoImplicit false
namespace Srt
open PySem PyProof.Rows
section
variable{prog:Program}{w:World}{A:Around}{E:VP}{s:Shared}
def wp_keyLtI{l b:Addr}{x y:Int}{t u:Tok}{r r2:Yb}{e k:Bool}{Q:Bool->Shared->Prop}(hl:TupAt s.heap l (.int x t::r))(hb:TupAt s.heap b (.int y u::r2))(he:SeqAt.EqAt A s (.int x t) (.int y u) e)
  (hx:if e=true then LexS A s r r2 k else k=decide (x<y)) (hq:Q k s):
  wpAny (model prog w) A (keyLt' (tuples' true) (.ref l) (.ref b)) Q E s:=by
 obtain⟨o1,n1,a1,_,a3⟩:=hl;obtain⟨o2,n2,b1,_,b3⟩:=hb;rw[Se];refine wB (listItems_at a1 a3 (wB (listItems_at b1 b3 ?_)));simp only[sA];refine wB ?_;rw[zip_cons_cons,zipIdx_cons,forIn_cons];refine wB (wB (he prog w E _ ?_))
 cases e with
 |true=>
  rw[iP rfl]at hx;rw[iN0 (by simp)];refine wP ?_;refine wpAny_mono (Eg r r2 1 hx (m:=(Value.int x t::r).length) (n:=(Value.int y u::r2).length) (le_refl _) (by simp only[lC0];omega)) (λq s' h=>?_) λ_ _ e=>e;obtain⟨rfl,rfl|⟨rfl,e⟩⟩:=h
  .exact wP hq
  .dsimp only;rw[<-e];exact wP hq
 |false=>
  rw[iN0 xF0]at hx;subst hx;rw[iP (by simp)];refine wB (oneLt_int ?_);exact wP (wP (wP hq))
end
end Srt
namespace L2
namespace M
open PySem PySem.Spec PyProof.Rows
mutual
def rS:MV->Bool
 |.int _=>true
 |.str _=>true
 |.tup ds=>JV ds
 |_=>false
def JV:List MV->Bool
 |[]=>true
 |d::ds=>rS d&&JV ds
end

def JW{α β:Type}{g:α->β}{p m:List β}(h:p.Perm m): ∀l:List α,l.map g=p-> ∃l':List α,l'.Perm l/\l'.map g=m:=by
 induction h with
 |nil=>intro l e;exact⟨l,.refl _,e⟩
 |cons x _ ih=>
  intro l e
  cases l with
  |nil=>cases e
  |cons a l=>
   rw[map_cons]at e;injection e with e1 e2
   obtain⟨l',p',q'⟩:=ih l e2;exact⟨a::l',p'.cons a,by rw[map_cons,e1,q']⟩
 |swap x y t=>
  intro l e
  match l,e with
  |a::b::l,e=>
   rw[map_cons,map_cons]at e;injection e with e1 e2
   injection e2 with e2 e3
   exact⟨b::a::l,.swap _ _ _,by rw[map_cons,map_cons,e1,e2,e3]⟩
 |trans _ _ ih1 ih2=>
  intro l e;obtain⟨l1,p1,q1⟩:=ih1 l e;obtain⟨l2,p2,q2⟩:=ih2 l1 q1;exact⟨l2,p2.trans p1,q2⟩
section
variable{X:Cx}{α:Yd}{H:Hp}{pins:Yi}{σ:St}{s:Shared}
mutual
theorem WJ(I:Inv X pins σ H s): ∀{d d':MV}{v:V},rS d=true->rS d'=true->Den X.K α H d v->Den X.K α H d' v->d=d'
 |.int i,d',v,_,h',q,q'=>by
  cases xK q
  cases d' with
  |int j=>cases xK q';rfl
  |str x=>cases wV q'
  |tup ds=>obtain⟨a,vs,e,_⟩:=wG q';cases e
  |_=>simp[rS]at h'
 |.str x,d',v,_,h',q,q'=>by
  have e:=wV q
  cases d' with
  |int j=>rw[xK q']at e;cases e
  |str y=>rw[wV q']at e;injection e with e;rw[EK e]
  |tup ds=>obtain⟨a,vs,e',_⟩:=wG q';rw[e']at e;cases e
  |_=>simp[rS]at h'
 |.tup ds,d',v,h,h',q,q'=>by
  obtain⟨a,vs,e,t,l⟩:=wG q
  cases d' with
  |int j=>rw[xK q']at e;cases e
  |str y=>rw[wV q']at e;cases e
  |tup es=>
   obtain⟨a',vs',e',t',l'⟩:=wG q';rw[e]at e';cases e';have:=I.tuple_inj t t';subst this;rw[PK I (by unfold rS at h;exact h) (by unfold rS at h';exact h') l l']
  |_=>simp[rS]at h'
theorem PK(I:Inv X pins σ H s): ∀{ds es:Zd}{vs:List V},JV ds=true->JV es=true->DenL X.K α H ds vs->DenL X.K α H es vs->ds=es
 |[],[],_,_,_,_,_=>rfl
 |[],e::es,_,_,_,q,q'=>by obtain⟨v,r,e,_⟩:=q'.uncons;rw[q.isnil]at e;cases e
 |d::ds,[],_,_,_,q,q'=>by obtain⟨v,r,e,_⟩:=q.uncons;rw[q'.isnil]at e;cases e
 |d::ds,e::es,_,h,h',q,q'=>by obtain⟨v,r,rfl,a,l⟩:=q.uncons;obtain⟨v',r',e',a',l'⟩:=q'.uncons;cases e';unfold JV at h h';rw[aE]at h h';rw[WJ I h.1 h'.1 a a',PK I h.2 h'.2 l l']
end

def Wy{A:Around}{xs ys:Yb}{k:Bool}(h:LexR A s xs ys k):Srt.LexS A s xs ys k:=by
 induction h with
 |nn=>exact .nn
 |nc x xs=>exact .nc x xs
 |cn x xs=>exact .cn x xs
 |eq a _ ih=>exact .eq a ih
 |ne a b=>exact .ne a b
def TU(I:Inv X pins σ H s){ds:Zd}{x:V}{u:Value}(d:Den X.K α H (.tup ds) x)(r:RelV x u): ∃a vs its,u=.ref a/\DenL X.K α H ds vs/\Vals vs its/\Srt.TupAt s.heap a its/\IsTup s.heap a its.toArray:=by obtain⟨a,vs,rfl,t,l⟩:=wG d;cases r;obtain⟨its,r1,pt,_⟩:=I.tuple t;obtain⟨o,h1,h2,n,h3⟩:=id pt;exact⟨a,vs,its,rfl,l,r1,⟨o,n,h1,h2,h3⟩,pt⟩
end
structure OrdD(S:zC)(ks:Zd):Prop where
 any: ∀a,a∈ks-> ∀b,b∈ks-> ∃t,DF S zT a b=some t
 tr: ∀a,a∈ks-> ∀b,b∈ks-> ∀c,c∈ks->DF S zT b a=some false->DF S zT c b=some false->DF S zT c a=some false
 as: ∀a,a∈ks-> ∀b,b∈ks->DF S zT a b=some true->DF S zT b a=some false
section
variable{X:Cx}{α:Yd}{S:zC}{H:Hp}{pins:Yi}{σ:St}{s:Shared}{ps:Ye}
def ZY{e:Addr}{ys:List V}{its:Yb}{n:Nat}(J:Inv X pins σ H s)(f:uQ X pins H e)(h0:X.s₀.heap.objs.size<=e)(he:s.heap.get? e=some (seqObj "list" its.toArray n))(hv:Vals ys its)(hz:ys.length<=sizeLine):Inv X pins σ (xI H e (.lst ys)) s:=by
 have s0: ∀o,X.s₀.heap.get? e≠some o:=λo z=>absurd (lt_of_lt_of_le (Heap.lt_size z) h0) (lt_irrefl _);refine⟨J.ok,J.os,J.bare,⟨J.base.keep,J.base.slot,λb ob' q n hx=>?_,J.base.there,λb xs q=>?_,λb o' u q=>?_,λb ps q=>?_⟩,J.loc,J.cell,?_,λx c hc=>?_,λp hp=>?_,λb u q=>?_,J.len⟩
 .rw[zO λz=>s0 ob' (by rw[<-z];exact q)];exact J.base.free b ob' q n hx
 .rw[zO (zV (J.base.tups b xs q) f.1)];exact J.base.tups b xs q
 .rw[zO (zV (J.base.frzs b o' u q) f.1)];exact J.base.frzs b o' u q
 .obtain⟨mo,z⟩:=J.base.tbls b ps q;exact⟨mo,by rw[zO (zV z f.1)];exact z⟩
 .rw[zO (Ne.symm f.2.1)];exact J.free
 .rw[zO (f.2.2.2.2.1 x c hc)];exact J.freeC x c hc
 .obtain⟨e1,n,ne,nf,dd⟩:=J.pin p hp;exact⟨e1,by rw[zO (f.2.2.2.2.2 p hp)];exact n,ne,nf,dd⟩
 .by_cases z:b=e
  .subst z;rw[zR]at q;cases q;exact⟨hz,its,n,hv,he⟩
  .rw[zO z]at q;exact(J.hok b u q).stay (λ_ _ _ r=>r) (λc r=>by rw[zO (zV r f.1)];exact r) λc xs r=>by rw[zO (zV r f.1)];exact r
def MH(K:Zb)(α:Yd)(H:Hp)(kds:Zd)(u:Value):MV:=
 open Classical in if h: ∃d v,d∈kds/\Den K α H d v/\RelV v u then Classical.choose h else kds.headD .non
def ltV(K:Zb)(α:Yd)(H:Hp)(S:zC)(kds:Zd)(p q:Keyed):Bool:=(DF S zT (MH K α H kds p.1) (MH K α H kds q.1)).getD false
def aI{K:Zb}{kds:Zd}(hne:kds≠[])(u:Value):MH K α H kds u∈kds:=by
 unfold MH;split
 .rename_i h;obtain⟨v,h1,_⟩:=Classical.choose_spec h;exact h1
 .match kds,hne with
  |x::l,_=>exact mF0
def FZ{K:Zb}{kds:Zd}{u:Value}(h: ∃d v,d∈kds/\Den K α H d v/\RelV v u): ∃v,Den K α H (MH K α H kds u) v/\RelV v u:=by unfold MH;rw[dif_pos h];obtain⟨v,_,h2,h3⟩:=Classical.choose_spec h;exact⟨v,h2,h3⟩
def Eh(I:Inv X pins σ H s){kds:Zd}{kvs:List V}{ks:Yb}(hpu: ∀d,d∈kds->rS d=true)(dk:DenL X.K α H kds kvs)(vk:Vals kvs ks){i:Nat}{u:Value}{a:MV}(hu:ks[i]? =some u)(ha:kds[i]? =some a):
  MH X.K α H kds u=a:=by
 obtain⟨v,hv,da⟩:=dk.at ha;obtain⟨u',hu',r⟩:=vk.get hv;rw[hu]at hu';cases hu';have ma:a∈kds:=mem_of_getElem? ha;have ne:kds≠[]:=λz=>by rw[z]at ma;cases ma
 obtain⟨v',d',r'⟩:=FZ (K:=X.K) (α:=α) (H:=H) ⟨a,v,ma,da,r⟩;rw[r'.inj r]at d';exact WJ I (hpu _ (aI ne u)) (hpu a ma) d' da
end
theorem Aa{ks its:Yb}{N:Nat}(h1:ks.length=N)(h2:its.length=N):(List.range N).map (λi=>((ks[i]?).getD .none,(its[i]?).getD .none))=ks.zip its:=by
 apply List.ext_getElem?;intro i;rw[getElem?_map];by_cases hi:i<N
 .have e:(ks.zip its)[i]? =some (ks[i]'(by omega),its[i]'(by omega)):=by rw[List.getElem?_zip_eq_some];exact⟨gE _,gE _⟩
  rw[List.getElem?_range hi,e];show some ((ks[i]?).getD .none,(its[i]?).getD .none)=_;rw[gE (by omega),gE (by omega)];rfl
 .rw[getElem?_eq_none (by rw[length_range];omega),getElem?_eq_none (by rw[length_zip];omega)];rfl
theorem GA{β:Type}{l:List β}{d:β}{idx:Db}(h: ∀i,i∈idx->i<l.length):idx.map (λi=>(l[i]?).getD d)=idx.filterMap (l[·]?):=by
 induction idx with
 |nil=>rfl
 |cons i idx ih=>
  have hi:=h i mF0;rw[map_cons,filterMap_cons_some (gE hi),ih λj hj=>h j (mO _ hj),gE hi];rfl
def WK(S:zC)(ds kds r:Zd):Prop:= ∃idx:List Nat,idx.Perm (List.range ds.length)/\idx.Pairwise (λi j=> ∀a c,kds[i]? =some a->kds[j]? =some c->DF S zT c a=some false)/\r=idx.filterMap (ds[·]?)
open Classical in
open Classical in
section
variable{X:Cx}{W:XW}{tg iter a:Expr}{f:zK->zC->R Er}{e:Expr}
def Itq(K:Zb)(k:Bool)(a:Addr):It:=if k=true then Pq K a else Ur K a
def iSeq(K:Zb)(tl:TE):TI:=λσ H R=>tl σ H λx H1=> ∃k a,x=.ref a/\(∃xs,Kg k K H1 a xs)/\R (Itq K k a) H1
def Sh{l:Expr}{tl:TE}(hl:PE X l tl):PI X tg l (iSeq X.K tl):=by
 intro pins s σ H R I h;refine jX (hl pins s σ H _ I h) λv s1 ⟨x,H1,I1,r1,q1⟩=>?_;obtain⟨k,a,e,⟨xs,hq⟩,q⟩:=q1;subst e;cases r1
 cases k with
 |true=>
  obtain⟨its,rv,p,hz⟩:=I1.list (show SqL X.K H1 a xs from hq);refine wpAny_pyIter_list p.isList ?_;refine⟨s1.heap.objs.size,[s1.heap.objs.size],_,_,H1,rfl,I1.kept (t':=s1.toks) λb o e=>hP0 _ e,IW a _,⟨_,Heap.get?_push_size _ rfl,rfl,rfl⟩,λb hb=>?_,q⟩;have e:b=s1.heap.objs.size:=by simpa using hb
  subst e;exact I1.fpOk (le_refl _) (I1.hok.fresh (le_refl _))
 |false=>
  obtain⟨its,rv,p,hz⟩:=I1.tuple (show SqT X.K H1 a xs from hq);refine wpAny_pyIter_tuple (show s1.heap.IsTuple a its.toArray from p) ?_;refine⟨s1.heap.objs.size,[s1.heap.objs.size],_,_,H1,rfl,I1.kept (t':=s1.toks) λb o e=>hP0 _ e,EX a _,⟨_,Heap.get?_push_size _ rfl,rfl,rfl⟩,λb hb=>?_,q⟩;have e:b=s1.heap.objs.size:=by simpa using hb
  subst e;exact I1.fpOk (le_refl _) (I1.hok.fresh (le_refl _))
def itQ(r:Er)(S:zC):R Wk:=match srcOf S r with
 |some q=>.ok ⟨q.ds,q.gs⟩ S
 |none=>.no
def Si(he:yR X W iter f):Jn X W tg iter (λρ S=>(f ρ S).bind itQ):=by
 obtain⟨t,he,k⟩:=he;refine⟨_,Sh he,λα ρ S σ H Rc wd sl q=>k α ρ S σ H _ wd sl (q.bind λu p S1 α1 H1 e x1 w1 d1 q1=>?_)⟩
 replace q1:=q1.shift x1
 unfold itQ at q1;split at q1
 .rename_i q e1;obtain⟨l1,P1,rfl,p1,D1⟩:=Dj w1 e1 d1.1;have g1:=D1.get _ _ _ p1;refine⟨q.k,l1,rfl,⟨_,g1.choose_spec.1⟩,q1.here (u:=Itq X.K q.k l1) w1 ⟨λα S H=>P1 α S H,?_,p1,λα1 S1 H1 α2 S2 H2 b1 x w hs=>D1.stays _ _ _ _ _ _ b1 x w hs,D1.st _ _ _ p1⟩⟩;intro i α2 S2 H2 b1 w2;obtain⟨us,c1,c2⟩:=D1.get _ _ _ b1;obtain⟨qk,qd,qg⟩:=q
  cases qk with
  |true=>
   obtain⟨i1,i2⟩:=vK (X:=X) (a:=l1) (ds:=qd) i α2 S2 H2 ⟨us,c1,c2⟩ w2;refine⟨λhi=>⟨(i1 hi).1,λx H' y=>?_⟩,i2⟩;obtain⟨j1,j2,j3,j4⟩:=(i1 hi).2 x H' y;obtain⟨rfl,_⟩:=y;exact⟨j1,j2,b1,j4⟩
  |false=>
   obtain⟨i1,i2⟩:=VJ (X:=X) (a:=l1) (ds:=qd) i α2 S2 H2 ⟨us,c1,c2⟩ w2;refine⟨λhi=>⟨(i1 hi).1,λx H' y=>?_⟩,i2⟩;obtain⟨j1,j2,j3,j4⟩:=(i1 hi).2 x H' y;obtain⟨rfl,_⟩:=y;exact⟨j1,j2,b1,j4⟩
 .exact q1.elim
theorem DenL.eraseIdx{K:Zb}{α:Yd}{H:Hp}: ∀{ds:Zd}{vs:List V}(n:Nat),DenL K α H ds vs->DenL K α H (ds.eraseIdx n) (vs.eraseIdx n)
 |[],_,_,q=>by rw[q.isnil];exact yS
 |d::ds,_,0,q=>by obtain⟨v,r,rfl,_,l⟩:=q.uncons;exact l
 |d::ds,_,n+1,q=>by obtain⟨v,r,rfl,a,l⟩:=q.uncons;exact yK a (DenL.eraseIdx n l)
end
section
variable{X:Cx}{W:XW}{a b i:Expr}{pins:Yi}{σ:St}{H:Hp}{s:Shared}{α:Yd}
def uH(kvs:List (Key×V))(k:Key)(v:V):List (Key×V):=if(kvs.any λkv=>decide (kv.1=k))=true then kvs.map (λkv=>if kv.1=k then(kv.1,v)else kv)else kvs++[(k,v)]
def GB(kvs:List (Key×V))(k:Key)(v:V):(uH kvs k v).length<=kvs.length+1:=by
 unfold uH;split
 .rw[lM0];exact le_succ _
 .rw[lA];exact le_refl _
def Sj{kvs:List (Key×V)}{vs:List (Key×Value)}(r:KV kvs vs)(k:Key):(kvs.any λkv=>decide (kv.1=k))=vs.any λkv=>decide (kv.1=k):=by
 unfold KV at r
 induction r with
 |nil=>rfl
 |cons h t ih=>rw[any_cons,any_cons,ih,h.1]
def Lg{kvs:List (Key×V)}{vs:List (Key×Value)}(r:KV kvs vs)(k:Key){y:V}{u:Value}(ry:RelV y u):KV (kvs.map λkv=>if kv.1=k then(kv.1,y)else kv) (vs.map λkv=>if kv.1=k then(kv.1,u)else kv):=by
 unfold KV at r ⊢
 induction r with
 |nil=>exact .nil
 |@cons p q ps qs h t ih=>
  rw[map_cons,map_cons];refine .cons ?_ ih;by_cases e:p.1=k
  .rw[iP e,iP (h.1.symm.trans e)];exact⟨h.1,ry⟩
  .rw[iN0 e,iN0 λz=>e (h.1.trans z)];exact h
def Lh{kvs:List (Key×V)}{vs:List (Key×Value)}(r:KV kvs vs){p:Key×V}{q:Key×Value}(h:p.1=q.1/\RelV p.2 q.2):KV (kvs++[p]) (vs++[q]):=by
 unfold KV at r ⊢
 induction r with
 |nil=>exact .cons h .nil
 |cons h' t ih=>exact .cons h' ih
def Ei{kvs:List (Key×V)}{vs:List (Key×Value)}(r:KV kvs vs)(k:Key){y:V}{u:Value}(ry:RelV y u):KV (uH kvs k y) (stored vs k u):=by
 unfold uH stored;rw[Sj r k];by_cases e:(vs.any λkv=>decide (kv.1=k))=true
 .rw[iP e,iP e];exact Lg r k ry
 .rw[iN0 e,iN0 e];exact Lh r ⟨rfl,ry⟩
def MI{k:MV}{a b:Key}(h:KeyD k a)(h':KeyD k b):a=b:=by
 cases k with
 |int i=>exact Eq.trans (show a=.inl i from h) (show b=.inl i from h').symm
 |str x=>exact Eq.trans (show a=.inr (kE x)from h) (show b=.inr (kE x)from h').symm
 |_=>exact False.elim h
def GC{k k':MV}{a:Key}(h:KeyD k a)(h':KeyD k' a):k=k':=by
 cases k with
 |int i=>
  have e:a=.inl i:=h;subst e
  cases k' with
  |int j=>have e':(Sum.inl i:Key)=.inl j:=h';cases e';rfl
  |str y=>have e':(Sum.inl i:Key)=.inr (kE y):=h';cases e'
  |_=>exact False.elim h'
 |str x=>
  have e:a=.inr (kE x):=h;subst e
  cases k' with
  |int j=>have e':(Sum.inr (kE x):Key)=.inl j:=h';cases e'
  |str y=>
   have e':(Sum.inr (kE x):Key)=.inr (kE y):=h';injection e' with e'
   rw[EK e']
  |_=>exact False.elim h'
 |_=>exact False.elim h
theorem PL: ∀{kvs:Zi}{ks:List (Key×V)}{k:MV}{k':Key},DenK X.K α H kvs ks->KeyD k k'->(ks.any λkv=>decide (kv.1=k'))=(look kvs k).isSome
 |_,_,k,k',.nil,hk=>rfl
 |_,_,k,k',.cons (k:=c) (k':=c') hc a l,hk=>by
  rw[JT,any_cons];by_cases h:c=k
  .subst h;rw[iP rfl,dT0 (MI hc hk)];rfl
  .have hn: ¬c'=k':=λz=>h (GC hc (z.symm▸hk));rw[iN0 h,dF0 hn,Bool.false_or];exact PL l hk
theorem GD: ∀{kvs:Zi}{ks:List (Key×V)}{k d:MV}{k':Key}{v:V},DenK X.K α H kvs ks->KeyD k k'->Den X.K α H d v->DenK X.K α H (kvs.map λp=>if p.1=k then(p.1,d)else p) (ks.map λkv=>if kv.1=k' then(kv.1,v)else kv)
 |_,_,k,d,k',v,.nil,hk,hd=>.nil
 |_,_,k,d,k',v,.cons (k:=c) (k':=c') hc a l,hk,hd=>by
  rw[map_cons,map_cons];by_cases h:c=k
  .subst h;rw[iP rfl,iP (MI hc hk)];exact .cons hc hd (GD l hk hd)
  .have hn: ¬c'=k':=λz=>h (GC hc (z.symm▸hk));rw[iN0 h,iN0 hn];exact .cons hc a (GD l hk hd)
theorem DenK.append: ∀{kvs kvs':Zi}{xs xs':List (Key×V)},DenK X.K α H kvs xs->DenK X.K α H kvs' xs'->DenK X.K α H (kvs++kvs') (xs++xs')
 |_,_,_,_,.nil,h=>h
 |_,_,_,_,.cons hk a l,h=>.cons hk a (DenK.append l h)
theorem DenK.length: ∀{kvs:Zi}{xs:List (Key×V)},DenK X.K α H kvs xs->xs.length=kvs.length
 |_,_,.nil=>rfl
 |_,_,.cons _ _ l=>by rw[lC0,lC0,DenK.length l]
def PM{kvs:Zi}{ks:List (Key×V)}{k d:MV}{k':Key}{v:V}(l:DenK X.K α H kvs ks)(hk:KeyD k k')(hd:Den X.K α H d v):DenK X.K α H (putK kvs k d) (uH ks k' v):=by
 unfold putK uH;rw[PL l hk];by_cases h:(look kvs k).isSome=true
 .rw[iP h,iP h];exact GD l hk hd
 .rw[iN0 h,iN0 h];exact l.append (.cons hk hd .nil)
def DK(X:Cx)(H:Hp)(d:Addr)(ks:List (Key×V)):Prop:=H d=some (.dK ks)\/False
def DK.nf{d:Addr}{ks:List (Key×V)}(h:DK X H d ks): ∀ob u,H d≠some (.frz ob u):=h.elim (λz=>Nx z) λz=>by first |exact Nx z.2|exact z.elim
def aK(I:Inv X pins σ H s){ks:List (Key×V)}{d:Addr}(h:DK X H d ks):ks.length<=sizeLine/\(d==sysModules)=false/\ ∃vs,KV ks vs/\s.heap.DictOf (yZ X.prog X.w) d vs:=by
 rcases h with h|z
 .exact(show ObjOk X.prog X.w H s.heap d (.dK ks)from I.hok d _ h)
 .exact False.elim z
def GE:CallR X (.type "list") (λxs H Q=> ∃d ks,xs=[.ref d]/\DK X H d ks/\X.calm=true/\ ∀l,H l=none->Q (.ref l) (xI H l (.lst (ks.map λp=>kV p.1)))):=by
 intro pins s σ H xs us Q I r h;obtain⟨d,ks,rfl,dd,hc,q⟩:=h;obtain⟨u,rfl,rx⟩:=vals1 r;cases rx;obtain⟨z,hd,vs,rel,dm⟩:=aK I dd;obtain⟨ep,hat⟩:=dm.dictAt;have hl:ks.length=vs.length:=Paired.length rel;refine PySem.W.kdl_call (PySem.W.kdl_dict (knd:=yZ X.prog X.w) (kvs:=vs) (ep:=ep) hd) (I.ok.hd hc) hat (by omega) λh' tk acc c' hk hS hacc=>?_
 have rv:Vals (ks.map λp=>kV p.1) acc.toList:=by
  have key: ∀{ks:List (Key×V)}{vs:List (Key×Value)}{us:Yb},KV ks vs->us.length=vs.length->(∀(j:Nat)(v:Value),us[j]? =some v-> ∃(k:Key)(x:Value),vs[j]? =some (k,x)/\(yZ X.prog X.w).is k v=true)->Vals (ks.map λp=>kV p.1) us:=by
   intro ks vs us kv;unfold KV at kv
   induction kv generalizing us with
   |nil=>intro hl _;cases us with
    |nil=>exact .nil
    |cons a b=>simp at hl
   |@cons p q ps qs h t ih=>
    intro hl hv
    cases us with
    |nil=>simp at hl
    |cons a b=>
     obtain⟨k,x,e,hi⟩:=hv 0 a rfl;simp only[List.getElem?_cons_zero,Option.some.injEq]at e;subst e;rw[map_cons];refine .cons ?_ (ih (by simpa using hl) λj v hj=>by simpa using hv (j+1) v (by simpa using hj));rw[h.1];rcases xE hi with⟨i,t,e1,e2⟩|⟨i,t,e1,e2⟩
     .subst e2;rw[show k=.inl i from e1];exact⟨t,rfl⟩
     .subst e2;rw[show k=.inr i from e1];exact⟨t,rfl⟩
  exact key rel (by rw[Array.length_toList];exact hacc.1) λj v e=>hacc.2 j v (by rw[<-Array.getElem?_toList];exact e)
 refine⟨.ref s.heap.objs.size,_,I.laid (t':=tk) hk (le_refl _) (show ObjOk X.prog X.w _ h' _ (.lst (ks.map λp=>kV p.1))from⟨by rw[lM0];exact z,acc.toList,c',rv,?_⟩),rfl,q _ (I.hok.fresh (le_refl _))⟩;rw[Array.toArray_toList];exact hS
theorem BP: ∀{kvs:Zi}{ks:List (Key×V)},DenK X.K α H kvs ks->DenL X.K α H (kvs.map (·.1)) (ks.map λp=>kV p.1)
 |_,_,.nil=>yS
 |_,_,.cons (k:=c) (k':=c') hc a l=>by
  refine yK ?_ (BP l)
  cases c with
  |int i=>rw[show c'=.inl i from hc];exact xB i
  |str x=>rw[show c'=.inr (kE x)from hc];exact aG x
  |_=>exact False.elim hc
end
def inK(k:Key)(l:List Key):Bool:=l.any λj=>decide (j=k)
def Ej(val:Nat->Key):Nat->List Key
 |0=>[]
 |i+1=>if inK (val i) (Ej val i)=true then Ej val i else Ej val i++[val i]
def StrAt(val:Nat->Key)(i:Nat)(v:Value):Prop:=(∃x t,val i=.inr x/\v=.str x t)\/ ∃x t,val i=.inl x/\v=.int x t
def StrAt.is{P:Program}{w:World}{val:Nat->Key}{i:Nat}{v:Value}(h:StrAt val i v):(yZ P w).is (val i) v=true/\v.scannable=true:=by
 rcases h with⟨x,t,e,rfl⟩|⟨x,t,e,rfl⟩<;>rw[e]
 .exact⟨sC P w x t,rfl⟩
 .exact⟨DC P w x t,rfl⟩
def valY(ys:Ch)(i:Nat):Key:=.inr (kE (ys.getD i []))
section
variable{X:Cx}{o e:Expr}{es:Za}{apos pos:Pos}{to:TE}{t:TA}{T:String}{name:Str}{id:String}{r:V->List V->Hp->VK->Prop}
def vX(X:Cx)(T:String)(TY:V->Hp->Prop):Prop:= ∀(pins:Yi)(s:Shared)(σ:St)(H:Hp)(x:V)(v:Value),Inv X pins σ H s->RelV x v->TY x H->s.TypeIs v T/\ ∀a,v=.ref a-> ∃ob,s.heap.get? a=some ob/\ob.dict=none
def Sk{TY:V->Hp->Prop}(hTY:vX X T TY)(pa:PlainAttrs T)(slot:Slot T name id)(hty:typeOf (.builtin id)=pure (.type "method_descriptor"))(hm:Nv X id r)(ho:PE X o to)(ha:PA X (e::es) t)
  (hbase:attributeBase o name X.env (eval o X.env)=eval o X.env)
  (hfew:((backTo pos (starEach (e::es) X.env)).all (λx=>!x.1)&&(backToKw pos (keywordEach [] X.env)).all (λx=>x.1.isSome)
   &&decide ((e::es).length+([]:List Keyword).length+(if([]:List Keyword).isEmpty then 0 else 1)<30))=true)
  (hline:(apos.endLine==pos.line)=true) (hs:starEach (e::es) X.env=(false,eval e X.env)::starEach es X.env) (hplain:(backTo pos (starEach es X.env)).any (·.1)=false):
  PE X (.Call (.Attribute o name apos) (e::es) [] pos) (λσ H Q=>to σ H λx H1=>TY x H1/\t σ H1 λvs H2=>r x vs H2 Q):=by
 intro pins s σ H Q I h;refine wpAny_Call_method_late hbase hfew hline rfl (jX (ho pins s σ H _ I h) λv s1 ⟨x,H1,I1,r1,ty,q1⟩=>?_);obtain⟨h1,h2⟩:=hTY pins s1 σ H1 x v I1 r1 ty;refine⟨T,id,pa,slot,hty,h1,h2,?_⟩;have hA:=ha pos pins s1 σ H1 _ I1 q1;rw[hs]at hA ⊢;refine Calls.callWith_builtin (by show(false || (backTo pos (starEach es X.env)).any (·.1))=false;rw[hplain]<;>rfl) (Calls.evalArgs_plain ?_);exact jX hA λus s2 ⟨vs,H2,I2,r2,q2⟩=>hm pins s2 σ H2 x vs v us Q I2 r1 r2 q2
end
def VAt(d:Addr)(us:Yb)(ep:Nat)(h:Heap):Prop:= ∃o es,h.get? d=some o/\o.ExactDict/\o.data=.dict es ep/\es.toList.map (·.val)=us
def VAt.at{d:Addr}{us:Yb}{ep:Nat}{h h':Heap}(x:VAt d us ep h)(m: ∀o,h.get? d=some o->h'.get? d=some o):VAt d us ep h':=let ⟨o,es,ho,r⟩:=x;⟨o,es,m o ho,r⟩
theorem VAt.size{d:Addr}{us:Yb}{ep:Nat}{h:Heap}(x:VAt d us ep h): ∃o es,h.get? d=some o/\o.ExactDict/\o.data=.dict es ep/\es.size=us.length/\ ∀i (hi:i<es.size),us[i]? =some es[i].val:=by obtain⟨o,es,ho,hc,hd,e⟩:=x;refine⟨o,es,ho,hc,hd,by rw[<-e,lM0,Array.length_toList],λi hi=>?_⟩;rw[<-e,getElem?_map,Array.getElem?_toList,Array.getElem?_eq_getElem hi];rfl
end M
end L2
namespace L2
open PySem PySem.Spec PyProof.Rows
section
variable{prog:Program}{w:World}{A:Around}{E:VP}{h:Heap}{g:Array GenState}{d:Drawn}{t:Nat}{os:OsState}
variable{nm q:Str}{C N:Addr}{bs bm bmB:Yb}{hdct:Bool}{sn:Ye}{sub:Yb}{ab:Bool}{col:Option Bool}{dd:Option Addr}{k0 k1 k2 k3 k5:Option Value}{B newId initId:String}
def DY(F:ExcBaseFacts B newId initId bmB)(T:OwnTail h bmB bm){mN:Yg}{rest:Yb}{fI:Addr}{oI:Obj}{Q:Fin->Shared->Prop}
  (hC:h.get? C=some (excClassObj nm q C N bs bm hdct sn sub ab col dd k0 k1 k2 k3 k5 newId)) (hn:h.Ns N mN) (hi:mN "__init__"=some (.ref fI)) (hfI:h.get? fI=some oI) (hfc:oI.cls=.type "function")
  (hq: ∀h' e,Heap.MadeExcOf h h' e (.ref C) rest->wpAny (model prog w) A (call (.ref fI) (.ref e::rest)) (λr s'=>r=.none/\Q (.done (.ret (.ref e))) s') E ⟨h',g,d,t,os⟩) (hrest:rest.length<=sizeLine):
  wpAny (model prog w) A (Builtin.«type.__call__» ⟨.ref C::rest,[]⟩) Q E ⟨h,g,d,t,os⟩:=by
 repeat (first |with_reducible refine wpAny_loadPart_at hC ?_|with_reducible refine wpAny_madeBy_exc hC ?_|wp_step)
 refine codeAny_call_builtin_code (Code.quiet_builtin _ F.quiet) (wpAny_check_new_subT F T hC ?_);refine codeAny_exc_new_subT F T hC ?_ hrest;show wpAny _ _ _ _ _ _;have hC₁:=hP0 {cls:=.ref C,data:=.fields #[.ref h.objs.size,.none,.none,.none,.bool false,.none]} (hP0 {cls:=.type "tuple",data:=.seq rest.toArray} hC);have hfI₁:=hP0 {cls:=.ref C,data:=.fields #[.ref h.objs.size,.none,.none,.none,.bool false,.none]} (hP0 {cls:=.type "tuple",data:=.seq rest.toArray} hfI)
 have hn₁:((h.push {cls:=.type "tuple",data:=.seq rest.toArray}).push {cls:=.ref C,data:=.fields #[.ref h.objs.size,.none,.none,.none,.bool false,.none]}).Ns N mN:=
  let ⟨o,es,ep,e,r⟩:=hn;⟨o,es,ep,hP0 _ (hP0 _ e),r⟩
 have hget:((h.push {cls:=.type "tuple",data:=.seq rest.toArray}).push {cls:=.ref C,data:=.fields #[.ref h.objs.size,.none,.none,.none,.bool false,.none]}).get? (h.objs.size+1)=some {cls:=.ref C,data:=.fields #[.ref h.objs.size,.none,.none,.none,.bool false,.none]}:=by heap_get
 have hcC:(Value.ref C::bm).contains (.ref C)=true:=by simp
 have T₁:=T.keeps (h':=(h.push {cls:=.type "tuple",data:=.seq rest.toArray}).push {cls:=.ref C,data:=.fields #[.ref h.objs.size,.none,.none,.none,.bool false,.none]}) λb o e=>hP0 _ (hP0 _ e);unfold isInstance
 repeat (first |with_reducible refine wpAny_loadPart_at hget ?_|(with_reducible refine wpAny_isSubtype_exc hC₁ ?_;rw[hcC])|wp_step)
 show wpAny _ _ (typeLookup (.ref C) _) _ _ _;refine wpAny_typeLookup_tail hC₁ hn₁ T₁ F.mroIs F.init.lookup ?_;rw[hi];refine wpAny_holding (wB ?_);unfold bindSpecial;refine wB (wpAny_typeOf (T:="function") ⟨_,hfI₁,hfc⟩ ?_);rw[iP (by decide)];refine wP (wB (wpAny_mono (hq _ (h.objs.size+1) ⟨λb o hb=>hP0 _ (hP0 _ hb),Heap.get?_none_of_le (le_succ _),h.objs.size,hget,Heap.get?_none_of_le (le_refl _),?_⟩) (λr s' hr=>?_) λ_ _ x=>x))
 .exact hP0 _ (Heap.get?_push_at rfl rfl)
 .obtain⟨rfl,hQ⟩:=hr
  wp_walk
  exact hQ
def TV(F:ExcBaseFacts B newId initId bmB)(T:OwnTail h bmB bm){mN:Yg}{rest:Yb}{fI:Addr}{oI:Obj}{Q:VP}
  (hC:h.get? C=some (excClassObj nm q C N bs bm hdct sn sub ab col dd k0 k1 k2 k3 k5 newId)) (hn:h.Ns N mN) (hi:mN "__init__"=some (.ref fI)) (hfI:h.get? fI=some oI) (hfc:oI.cls=.type "function")
  (hq: ∀h' e,Heap.MadeExcOf h h' e (.ref C) rest->wpAny (model prog w) (A.under (.builtin "type.__call__" ⟨.ref C::rest,[]⟩)) (call (.ref fI) (.ref e::rest)) (λr s'=>r=.none/\Q (.ref e) s') E ⟨h',g,d,t,os⟩) (hrest:rest.length<=sizeLine):
  wpAny (model prog w) A (call (.ref C) rest) Q E ⟨h,g,d,t,os⟩:=by
 have f1:=tc_lookup;have f2:=tc_bind (.ref C);have hT:(⟨h,g,d,t,os⟩:Shared).TypeIs (.ref C) "type":=⟨_,hC,rfl⟩
 refine wpAny_call (codeAny_of_tree ?_);show wpAny _ _ (callAny (.ref C) _) _ _ _
 repeat (any_goals (first |assumption|with_reducible refine wpAny_loadPart_at hC ?_|wp_step))
 refine⟨rfl,?_⟩;refine codeAny_call_builtin_at (Code.quiet_builtin _ (by decide+kernel)) entry_typeCall (wpAny_check_type_call_sub hC (DY (hrest:=hrest) F T hC hn hi hfI hfc λh' e hm=>?_));exact hq h' e hm
end
section
variable{prog:Program}{w:World}{A:Around}{E:VP}{s:Shared}{env:Env}
variable{nm q:Str}{C N:Addr}{bs bm bmB:Yb}{hdct:Bool}{sn:Ye}{sub:Yb}{ab:Bool}{col:Option Bool}{dd:Option Addr}{k0 k1 k2 k3 k5:Option Value}{B newId initId:String}
def GF{M:Model}{x:Sem Value}{Q:Flow->Shared->Prop}(hbase:bm.contains (.type "BaseException")=true)(hh:A.handled=none)
  (h:wpAny M A x (λv s₁=> ∃e dX vs,v=.ref e/\s₁.heap.get? C=some (excClassObj nm q C N bs bm hdct sn sub ab col dd k0 k1 k2 k3 k5 newId)/\s₁.heap.get? e=some {cls:=.ref C,dict:=dX,data:=.fields #[.ref vs,.none,.none,.none,.bool false,.none]}/\E (.ref e) s₁) E s):
  wpAny M A (raiseStmt env (some x) none) Q E s:=by
 have hcB:(Value.ref C::bm).contains (.type "BaseException")=true:=by rw[contains_cons,hbase,Bool.or_true]
 unfold raiseStmt;refine wB (wpAny_mono h (λv s₁ h₁=>?_) λ_ _ x=>x);obtain⟨e,dX,vs,rfl,hC,he,hE⟩:=h₁;obtain⟨hp,g,d,tk,os⟩:=s₁
 repeat (first |with_reducible refine wpAny_loadPart_at he ?_|with_reducible refine wpAny_loadPart_at hC ?_|(with_reducible refine wpAny_isSubtype_exc hC ?_;rw[hcB])|wp_step)
 exact wpAny_raiseNew_none hh hE
def PN(F:ExcBaseFacts B newId initId bmB){mN:Yg}{x:Str}{np cpos pos:Pos}{args:Za}{fI:Addr}{oI:Obj}{Q:Flow->Shared->Prop}
  (hbase:bm.contains (.type "BaseException")=true) (hh:A.handled=none) (hplain:(backTo cpos (starEach args env)).any (·.1)=false) (hi:mN "__init__"=some (.ref fI)) (hfc:oI.cls=.type "function")
  (h:wpAny (model prog w) A (eval (.Name x np) env) (λf s₁=>f=.ref C/\wpAny (model prog w) A (evalArgs (.ref C) true (backTo cpos (starEach args env)) [])
   (λa s₂=>a.kw=[]/\a.pos.length<=sizeLine/\s₂.heap.get? C=some (excClassObj nm q C N bs bm hdct sn sub ab col dd k0 k1 k2 k3 k5 newId)/\s₂.heap.Ns N mN/\OwnTail s₂.heap bmB bm/\s₂.heap.get? fI=some oI/\
    ∀h' e,Heap.MadeExcOf s₂.heap h' e (.ref C) a.pos->wpAny (model prog w) (A.under (.builtin "type.__call__" ⟨.ref C::a.pos,[]⟩)) (call (.ref fI) (.ref e::a.pos))
     (λr s'=>r=.none/\ ∃dX vs,s'.heap.get? C=some (excClassObj nm q C N bs bm hdct sn sub ab col dd k0 k1 k2 k3 k5 newId)/\s'.heap.get? e=some {cls:=.ref C,dict:=dX,data:=.fields #[.ref vs,.none,.none,.none,.bool false,.none]}/\E (.ref e) s') E {s₂ with heap:=h'}) E s₁) E s):
  wpAny (model prog w) A (exec (.Raise (some (.Call (.Name x np) args [] cpos)) none pos) env) Q E s:=by
 rw[arm_exec_Raise]
 first
  |refine wB (wpAny_standAt (GF (C:=C) (nm:=nm) (q:=q) (N:=N) (bs:=bs) (bm:=bm) (hdct:=hdct) (sn:=sn) (sub:=sub) (ab:=ab) (col:=col) (dd:=dd) (k0:=k0) (k1:=k1) (k2:=k2) (k3:=k3) (k5:=k5) (newId:=newId) hbase hh (wB (wpAny_mono (wpAny_Call_ofName (wpAny_mono h (λf s₁ h₁=>?_) λ_ _ x=>x)) (λv s₃ h₃=>wB (wpAny_standAt (wP h₃))) λ_ _ x=>x))))
  |(simp only[evalOpt,Option.map];refine wB (wpAny_standAt (GF (C:=C) (nm:=nm) (q:=q) (N:=N) (bs:=bs) (bm:=bm) (hdct:=hdct) (sn:=sn) (sub:=sub) (ab:=ab) (col:=col) (dd:=dd) (k0:=k0) (k1:=k1) (k2:=k2) (k3:=k3) (k5:=k5) (newId:=newId) hbase hh (wB (wpAny_mono (wpAny_Call_ofName (wpAny_mono h (λf s₁ h₁=>?_) λ_ _ x=>x)) (λv s₃ h₃=>wB (wpAny_standAt (wP h₃))) λ_ _ x=>x)))))
 obtain⟨rfl,h₁⟩:=h₁;unfold callWith;refine wB (wpAny_holding (wpAny_mono h₁ (λa s₂ h₂=>wB (wpAny_standAt ?_)) λ_ _ x=>x));obtain⟨apos,akw⟩:=a;obtain⟨hkw,hlen,hC,hn,T,hfI,h₂⟩:=h₂;obtain rfl:akw=[]:=hkw;obtain⟨hp,g,d,tk,os⟩:=s₂;simp only[hplain];refine wB (wpAny_keeperOf_exc hC ?_);refine wB (TV (hrest:=hlen) F T hC hn hi hfI hfc λh' e hm=>wpAny_mono (h₂ h' e hm) (λr s' ⟨hr,dX,vs,a1,a2,a4⟩=>⟨hr,wB (wpAny_holding (wpAny_point (wP ⟨e,dX,vs,rfl,a1,a2,a4⟩)))⟩) λ_ _ z=>z)
end
open Builtin Builtin.ObjectAttr
section
variable{prog:Program}{w:World}{A:Around}{E:VP}{h:Heap}{g:Array GenState}{d:Drawn}{t:Nat}{os:OsState}{C M x:Addr}{o:Obj}{v:Value}{name:Str}
variable{nm q:Str}{N:Addr}{bs bm:Yb}{sn:Ye}{sub:Yb}{ab:Bool}{col:Option Bool}{dd:Option Addr}{k0 k1 k2 k3 k5:Option Value}{newId:String}
def TX{Mo:Model}{nameV:Value}{Q:Unit->Shared->Prop}(O:pC h C M)(hx:h.get? x=some o)(hc:o.cls=.ref C)(hq:Q () ⟨h,g,d,t,os⟩):
  wpAny Mo A (checkBuiltinCall "object.__setattr__" ⟨[.ref x,nameV,v],[]⟩) Q E ⟨h,g,d,t,os⟩:=by
 have SF:=F.store_ValueError;have hcB:(Value.ref C::.ref M::mE).contains (.type "object")=true:=by simp[contains_cons]
 have ha:=SF.args (.ref x) nameV v;simp only[checkBuiltinCall,SF.kind,SF.split];refine wB ?_
 .unfold isInstance
  repeat (first |(with_reducible refine wpAny_loadPart_at hx ?_;rw[hc])|(with_reducible refine pD O ?_;rw[hcB])|wp_step)
  exact hq
def SetAt(h h':Heap)(x:Addr)(o:Obj)(name:Str)(v:Value)(dx:Addr):Prop:=
 h.get? dx=none/\dx≠x/\h'.get? x=some {cls:=o.cls,dict:=some dx,data:=o.data,slots:=o.slots}/\h'.Ns1 dx (λy=>if y=name then some v else none)/\ ∀b ob,b≠x->h.get? b=some ob->h'.get? b=some ob
def TZ{tk:Tok}{Q:Fin->Shared->Prop}(O:pC h C M)(hC:h.get? C=some (excClassObj nm q C N bs (.ref M::mE) true sn sub ab col dd k0 k1 k2 k3 k5 newId))(hx:h.get? x=some o)(hc:o.cls=.ref C)(hdn:o.dict=none)(hnc: ∀c,o.data≠.cls c)
  (hn:name∈qn) (hB:typeLookup (.type "ValueError") name=pure none) (hq: ∀h' tk' dx,SetAt h h' x o name v dx->Q (.done (.ret .none)) ⟨h',g,d,tk',os⟩):
  wpAny (model prog w) A (Builtin.«object.__setattr__» ⟨[.ref x,.str name tk,v],[]⟩) Q E ⟨h,g,d,t,os⟩:=by
 have hpass:=F.store_ValueError.passes (.ref x);unfold Builtin.«object.__setattr__»
 repeat (first |rw[refuse_eq]|(rw[refuseLoop_ref,refuseLoop_ref,hpass])|(with_reducible refine wpAny_loadPart_at hx ?_;rw[hc])|with_reducible refine wpAny_mroOf_exc hC ?_|with_reducible refine mP O hn hB ?_|wp_step)
 rw[hdn,iN0 (by simp[typeHasDict])];split
 .rename_i hcd;cases hcd
 split
 .rename_i c hcd;exact absurd hcd (hnc c)
 .have hx₁:(h.push {cls:=.type "dict",data:=.dict #[]}).get? x=some o:=hP0 _ hx;have hxs:x≠h.objs.size:=ne_of_lt (Heap.lt_size hx);refine wB (wpAny_alloc' ?_);refine wB (wpAny_update' hx₁ ?_);refine wP ?_
  have hgd:((h.push {cls:=.type "dict",data:=.dict #[]}).update x λo=>{cls:=o.cls,dict:=some h.objs.size,data:=o.data,slots:=o.slots}).get? h.objs.size=some {cls:=.type "dict",data:=.dict #[]}:=
   (Heap.get?_update_ne _ _ _ _ hxs.symm).trans (Heap.get?_push_at rfl rfl)
  have hnd:((h.push {cls:=.type "dict",data:=.dict #[]}).update x λo=>{cls:=o.cls,dict:=some h.objs.size,data:=o.data,slots:=o.slots}).Ns h.objs.size (λ_=>none):=
   ⟨_,#[],_,hgd,rfl,λe he=>absurd he (by simp),λ_=>rfl⟩
  show wpAny _ _ (storeInDict h.objs.size (.str name tk) name v) _ _ _;unfold storeInDict newKeyGuard;refine wB (wP (wB (wpAny_nsSet1 (Heap.Ns1.of_empty hnd) λh' hn' hs=>?_)));obtain⟨oD,esD,epD,hoD,hdD,hcD⟩:=hn'.count (Within.cons name v Within.nil);refine wB (wpAny_lookBehind hoD (by rw[hdD];exact pastItsLine_dict (le_trans hcD (by rw[lC0,length_nil,sizeLine_eq];omega))) ?_)
  wp_walk
  refine hq h' _ h.objs.size ⟨Heap.get?_none_of_le (le_refl _),hxs.symm,?_,hn',λb ob hbx hb=>(hs.2 b (ne_of_lt (Heap.lt_size hb))).trans ((Heap.get?_update_ne _ _ _ _ hbx).trans (hP0 _ hb))⟩;refine(hs.2 x hxs).trans (Heap.get?_update_self _ hx₁ ?_);have hfr:=(Heap.get?_some_iff.mp hx).2;obtain⟨oc,od,odt,osl⟩:=o;cases odt<;>first |rfl|exact hfr
def Ab{Q:Unit->Shared->Prop}(O:pC h C M)(hC:h.get? C=some (excClassObj nm q C N bs (.ref M::mE) true sn sub ab col dd k0 k1 k2 k3 k5 newId))(hx:h.get? x=some o)(hc:o.cls=.ref C)(hdn:o.dict=none)(hnc: ∀c,o.data≠.cls c)
  (hn:name∈qn) (hB:typeLookup (.type "ValueError") name=pure none) (hq: ∀h' tk' dx,SetAt h h' x o name v dx->Q () ⟨h',g,d,tk',os⟩):wpAny (model prog w) A (setAttr (.ref x) name v) Q E ⟨h,g,d,t,os⟩:=by
 have f3:=F.store_ValueError.slot.bind (.ref x);have q4:("__setattr__":Str)∈qn:=by decide
 unfold setAttr callSpecial? specialOf
 repeat (any_goals (first |assumption|(with_reducible refine wpAny_loadPart_at hx ?_;rw[hc])|with_reducible refine mP O q4 F.store_ValueError.slot.lookup ?_|wp_step))
 refine codeAny_call_builtin F.store_ValueError.slot.plain F.store_ValueError.entry (TX O hx hc (TZ O hC hx hc hdn hnc hn hB λh' tk' dx hs=>?_))
 repeat (any_goals (first |assumption|wp_step))
 exact hq h' tk' dx hs
def UA{tk:Tok}{dx:Addr}{mA:Yg}{Q:Fin->Shared->Prop}(O:pC h C M)(hC:h.get? C=some (excClassObj nm q C N bs bm true sn sub ab col dd k0 k1 k2 k3 k5 newId))(hx:h.get? x=some o)(hc:o.cls=.ref C)(hdx:o.dict=some dx)(hnc: ∀c,o.data≠.cls c)(hns:h.Ns1 dx mA)(hv:mA name=some v)
  (hn:name∈qn) (hB:typeLookup (.type "ValueError") name=pure none) (hq:Q (.done (.ret v)) ⟨h,g,d,t,os⟩):
  wpAny (model prog w) A (Builtin.«object.__getattribute__» ⟨[.ref x,.str name tk],[]⟩) Q E ⟨h,g,d,t,os⟩:=by
 repeat (any_goals (first |assumption|(with_reducible refine wpAny_loadPart_at hx ?_;rw[hc])|with_reducible refine mP O hn hB ?_|wp_step))
 split
 .rename_i c hcd;exact absurd hcd (hnc c)
 unfold instanceDict
 repeat (first |(with_reducible refine wpAny_loadPart_at hx ?_;rw[hc])|with_reducible refine wpAny_loadPart_at hC ?_|wp_step)
 rw[hdx]
 repeat (first |(with_reducible refine wpAny_nsGet hns.ns ?_;rw[hv])|wp_step)
 exact hq
def Ac{tk:Tok}{dx:Addr}{mA:Yg}{R:Result->Shared->Prop}(O:pC h C M)(hC:h.get? C=some (excClassObj nm q C N bs bm true sn sub ab col dd k0 k1 k2 k3 k5 newId))(hx:h.get? x=some o)(hc:o.cls=.ref C)(hdx:o.dict=some dx)(hnc: ∀c,o.data≠.cls c)(hns:h.Ns1 dx mA)(hv:mA name=some v)
  (hn:name∈qn) (hB:typeLookup (.type "ValueError") name=pure none) (hq:R (.ok (.ret v)) ⟨h,g,d,t,os⟩):
  codeAny (model prog w) A (.call (.builtin "BaseException.__getattribute__") ⟨[.ref x,.str name tk],[]⟩) R ⟨h,g,d,t,os⟩:=
 codeAny_call_builtin F.attrBase_ValueError.ga.plain F.entry_bexc_ga (JI O hx hc (UA O hC hx hc hdx hnc hns hv hn hB hq))
def Li{tk:Tok}{dx:Addr}{mA:Yg}{fill expr:Bool}{Q:VP}(O:pC h C M)(hC:h.get? C=some (excClassObj nm q C N bs bm true sn sub ab col dd k0 k1 k2 k3 k5 newId))(hx:h.get? x=some o)(hc:o.cls=.ref C)(hdx:o.dict=some dx)(hnc: ∀c,o.data≠.cls c)(hns:h.Ns1 dx mA)(hv:mA name=some v)
  (hn:name∈qn) (hB:typeLookup (.type "ValueError") name=pure none) (hh:handedOut v=pure v) (hq:Q v ⟨h,g,d,t,os⟩):
  wpAny (model prog w) A (getAttrBy (.ref x) (.str name tk) fill expr) Q E ⟨h,g,d,t,os⟩:=by
 have f3:=F.attrBase_ValueError.ga.bind (.ref x);have hx0:(expr&&onTheHeap (Value.builtin "BaseException.__getattribute__"))=false:=by cases expr<;>rfl
 have hx2:(Value.builtin "BaseException.__getattribute__"==Value.builtin "object.__getattribute__")=false:=by decide+kernel
 have hx1:(onTheHeap (Value.ref C)&&Value.builtin "BaseException.__getattribute__"==Value.builtin "object.__getattribute__")=false:=by rw[hx2];rfl
 repeat (any_goals (first |assumption|(with_reducible refine wpAny_loadPart_at hx ?_;rw[hc])|with_reducible refine mP O qn2 Nw ?_|with_reducible refine mP O qn3 OP ?_|wp_step))
 refine Ac O hC hx hc hdx hnc hns hv hn hB ?_
 repeat (any_goals (first |assumption|rw[hh]|wp_step))
def Ad{dx:Addr}{mA:Yg}{expr:Bool}{Q:VP}(O:pC h C M)(hC:h.get? C=some (excClassObj nm q C N bs bm true sn sub ab col dd k0 k1 k2 k3 k5 newId))(hx:h.get? x=some o)(hc:o.cls=.ref C)(hdx:o.dict=some dx)(hnc: ∀c,o.data≠.cls c)(hns:h.Ns1 dx mA)(hv:mA name=some v)
  (hn:name∈qn) (hB:typeLookup (.type "ValueError") name=pure none) (hh:handedOut v=pure v) (hq:Q v ⟨h,g,d,t+1,os⟩):wpAny (model prog w) A (getAttr (.ref x) name expr) Q E ⟨h,g,d,t,os⟩:=by
 unfold getAttr
 repeat (any_goals (first |assumption|with_reducible apply Li O hC hx hc hdx hnc hns hv hn hB hh|wp_step))
end
theorem GH:typeLookup (.type "ValueError") "place"=pure none:=by rw[typeLookup_type,builtinLookup_eq_fast];kernel_rfl
abbrev JX(C:Addr)(d:Option Addr)(t:Addr):Obj:={cls:=.ref C,dict:=d,data:=.fields #[.ref t,.none,.none,.none,.bool false,.none]}
section
variable{prog:Program}{w:World}{A:Around}{E:VP}{h:Heap}{g:Array GenState}{d:Drawn}{t:Nat}{os:OsState}{C x t0:Addr}{u:Value}
variable{nm q:Str}{N:Addr}{bs bm bmB:Yb}{hdct:Bool}{sn:Ye}{sub:Yb}{ab:Bool}{col:Option Bool}{dd:Option Addr}{k0 k1 k2 k3 k5:Option Value}{B newId initId:String}
def UB(F:ExcBaseFacts B newId initId bmB)(T:OwnTail h bmB bm){Q:VP}(hC:h.get? C=some (excClassObj nm q C N bs bm hdct sn sub ab col dd k0 k1 k2 k3 k5 newId))(hx:h.get? x=some (JX C none t0))
  (hq: ∀h' t1,h'.get? x=some (JX C none t1)->(∀b ob,b≠x->h.get? b=some ob->h'.get? b=some ob)->Q .none ⟨h',g,d,t,os⟩):wpAny (model prog w) A (call (.builtin initId) [.ref x,u]) Q E ⟨h,g,d,t,os⟩:=by
 refine wpAny_call (codeAny_call_builtin F.init.plain F.initEntry (wpAny_check_init_subT F T hC hx rfl ?_))
 wp_walk
 refine hq _ (h.objs.size) ?_ λb ob hb hob=>?_
 .rw[Heap.get?_update_self _ (hP0 _ hx) rfl];rfl
 .rw[Heap.get?_update_other _ _ (Ne.symm hb)];exact hP0 _ hob
end
abbrev Lj:Nat:=10 ^ 100
inductive JL(par:Str):List Expr->Prop
 |nil:JL par []
 |txt {y:Str} {k:Nat} {pos:Pos} {es:Za}:y.length<=200->JL par es->JL par (.Constant (.str y) k pos::es)
 |fld {p pos:Pos} {es:Za}:JL par es->JL par (.FormattedValue (.Name par p) (-1) none pos::es)
section
variable{X:Cx}{par:Str}{i:Nat}{pins:Yi}{σ:St}{H:Hp}
def Ek(hN:X.N[i]? =some par)(hv:Hz X.env.scope par)(hd:(par==("__debug__":Str))=false)(hcd:(par==("__classdict__":Str))=false){n:Int}(hs:σ[i]? =some (some (.int n)))(hb:n.natAbs<Lj){Q:Str->Shared->Prop}(hq: ∀y s,y.length<=100000->Inv X pins σ H s->Q y s)
  {es:Za} (hj:JL par es): ∀(acc:Str)(s:Shared),acc.length+200 * es.length<=100000->Inv X pins σ H s->Joins (model X.prog X.w) X.A X.xe (evalEach es X.env) acc Q s:=by
 induction hj with
 |nil=>intro acc s hl I;exact hq acc s (by simpa using hl) I
 |@txt y k pos es hy h ih=>
  intro acc s hl I;rw[lC0]at hl;have sl:(acc++y).length=acc.length+y.length:=PySem.strLen_append ..;refine jX (Bi (X:=X) pins s σ H (λv H'=>v=.str y/\H'=H) I ⟨rfl,rfl⟩) λu s1 ⟨v,H',I',r,e1,e2⟩=>?_;subst e1 e2;obtain⟨tk,rfl⟩:=r;exact⟨y,tk,rfl,by rw[sl,sizeLine_eq];omega,ih (acc++y) s1 (by rw[sl];omega) I'⟩
 |@fld p pos es h ih=>
  intro acc s hl I;rw[lC0]at hl;have len:(Str.ofString (toString n)).length<=101:=by rw[PySem.ofString_length];exact int_text_length_le10 (k:=100) (by decide) hb
  have sl:(acc++(toString n:Str)).length<=acc.length+101:=by have:=PySem.strLen_append acc (toString n:Str);rw[this];exact Nat.add_le_add_left len _
  have hlog:n.natAbs.log2<1920:=by
   by_cases z:n.natAbs=0
   .rw[z];decide
   .exact(Nat.log2_lt z).mpr (lt_trans hb (by decide+kernel))
  refine wpAny_FormattedValue_plain (jX (EV (X:=X) hN hv hd hcd pins s σ H (λv H'=>v=.int n/\H'=H) I ⟨_,hs,rfl,rfl⟩) λu s1 ⟨v,H',I',r,e1,e2⟩=>?_);subst e1 e2;obtain⟨tk,rfl⟩:=r;exact wpAny_formatField_int hlog ⟨_,_,rfl,by rw[sizeLine_eq];omega,ih _ _ (by omega) (I'.tok _)⟩
def tJ(i:Nat):TE:=λσ H Q=> ∃n,σ[i]? =some (some (.int n))/\n.natAbs<Lj/\ ∀y:Str,Q (.str y) H
def Lk{v1 v2:Expr}{vs:Za}{pos:Pos}(hN:X.N[i]? =some par)(hv:Hz X.env.scope par)(hd:(par==("__debug__":Str))=false)(hcd:(par==("__classdict__":Str))=false)(h:JL par (v1::v2::vs))(hl:vs.length<=100):PE X (.JoinedStr (v1::v2::vs) pos) (tJ i):=by intro pins s σ H Q I ⟨n,hs,hb,q⟩;refine wpAny_JoinedStr (Ek (pins:=pins) (H:=H) hN hv hd hcd hs hb (λy s1 hy I1=>⟨by rw[sizeLine_eq];omega,.str y,H,I1.tok _,⟨_,rfl⟩,q y⟩) h _ s ?_ I);rw[lC0,lC0];show 0+_<=_;omega
end
def Of(H:Hp)(e:Addr):Hp:=λb=>if b=e then none else H b
def uX{H:Hp}{e b:Addr}(h:b≠e):Of H e b=H b:=by unfold Of;rw[iN0 h]
def PP{H:Hp}{e:Addr}:Of H e e=none:=by unfold Of;rw[iP rfl]
def Inv.untrack{X:Cx}{pins:Yi}{σ:St}{H:Hp}{s:Shared}{e:Addr}{φ:Heap->Prop}(J:Inv X pins σ H s)(he:H e=some (.ext φ)):Inv X pins σ (Of H e) s:=by
 have ne: ∀b u,H b=some u->(∀φ,u≠.ext φ)->b≠e:=λb u q z y=>by rw[y,he]at q;cases q;exact z _ rfl
 have nn: ∀b,H b=none->Of H e b=none:=λb q=>by unfold Of;split<;>trivial
 refine⟨J.ok,J.os,J.bare,⟨J.base.keep,J.base.slot,λb ob q n hx=>nn b (J.base.free b ob q n hx),J.base.there,λb xs q=>?_,λb o' u q=>?_,λb ps q=>?_⟩,J.loc,J.cell,nn _ J.free,λx c hc=>nn _ (J.freeC x c hc),λp hp=>?_,λb u q=>?_,J.len⟩
 .rw[uX (ne b _ (J.base.tups b xs q) λ_ z=>by cases z)];exact J.base.tups b xs q
 .rw[uX (ne b _ (J.base.frzs b o' u q) λ_ z=>by cases z)];exact J.base.frzs b o' u q
 .obtain⟨mo,z⟩:=J.base.tbls b ps q;exact⟨mo,by rw[uX (ne b _ z λ_ z=>by cases z)];exact z⟩
 .obtain⟨e1,n,r⟩:=J.pin p hp;exact⟨e1,nn _ n,r⟩
 .by_cases z:b=e
  .rw[z,PP]at q;cases q
  .rw[uX z]at q;exact(J.hok b u q).stay (λ_ _ _ r=>r) (λc r=>by rw[uX (ne c _ r λ_ z=>by cases z)];exact r) λc xs r=>by rw[uX (ne c _ r λ_ z=>by cases z)];exact r
namespace M
structure XIn(K:Zb)(M C f:Addr):Prop where
 ex: ∃nm q N bs sn sub ab col dd k0 k1 k2 k3 k5,K.lookup C=some (excClassObj nm q C N bs (.ref M::mE) true sn sub ab col dd k0 k1 k2 k3 k5 "ValueError.__new__")/\PySem.W.nsOkIn K N=true/\PySem.W.nsIn K N "__init__"=some (some (.ref f))/\ ∀n∈qn,PySem.W.nsIn K N n=some none
 fo: ∃o,K.lookup f=some o/\o.cls=.type "function"
def XIn.cl{K:Zb}{M C f:Addr}(x:XIn K M C f):vU K C (.ref M::mE) (some (.ref f)):=by obtain⟨nm,q,N,bs,sn,sub,ab,col,dd,k0,k1,k2,k3,k5,a,b,c,d⟩:=x.ex;exact⟨nm,q,N,bs,true,sn,sub,ab,col,dd,k0,k1,k2,k3,k5,a,b,c,d,rfl⟩
structure XMn(K:Zb)(M:Addr):Prop where
 ga:PySem.W.specialIn K (.ref M) "__getattribute__"=some (some (.builtin "type.__getattribute__"))
 rd:PySem.W.readsIn K M (.type "type")=true
 init:PySem.W.findCls K (.ref M) (.type "type") "__init__"=some (.val (.builtin "ValueError.__init__"))
def WL(C:Addr)(fld:Str):Sp:=λvs H Q _=> ∃e n t0,vs=[.ref e,.int n]/\n.natAbs<Lj/\H e=some (.ext λh=>h.get? e=some (JX C none t0))/\
 ∀dx od t1,H dx=none->dx≠e->Q .non (xI (xI H dx (.frz od (.xd [(fld,.int n)]))) e (.ext λh=>h.get? e=some (JX C (some dx) t1)))
def Og{K:Zb}{h:Heap}{M:Addr}(X:K.In h)(m:vU K M mE none):OwnTail h mE (.ref M::mE):=by obtain⟨_,_,N',_,_,_,_,_,_,_,_,_,_,_,_,lM,oM,iM,_⟩:=m;exact .own (X _ _ lM) (.of_isNs (PySem.W.isNs_of_in X oM)) (PySem.W.nsMap_none_of_in X oM iM) .base
section
variable{X:Cx}{M C f:Addr}{fld par:Str}{p1 p2 p3 p4 p5 p6 p7 p8 p9 p10:Pos}{v1 v2:Expr}{vs:Za}
def El{pl:Sem Bool}(hM:vU X.K M mE none)(XI:XIn X.K M C f)(XM:XMn X.K M)(hmg:X.mg "MendError"=some (.ref M))(hg:Gl X "MendError")(hN0:X.N[0]? =some ("self":Str))(hN1:X.N[1]? =some par)(hv0:Hz X.env.scope "self")(hv1:Hz X.env.scope par)
  (hd:(par==("__debug__":Str))=false) (hcd:(par==("__classdict__":Str))=false) (hj:JL par (v1::v2::vs)) (hl:vs.length<=100) (hf:fld∈qn) (hB:typeLookup (.type "ValueError") fld=pure none) (hcalm:X.calm=true)
  (ht:eval (.Call (.Attribute (.Name "MendError" p1) "__init__" p2) [.Name "self" p3,.JoinedStr (v1::v2::vs) p4] [] p5) X.env=(do
   let ov <-eval (.Name "MendError" p1) X.env
   standAt p2.atName
   let (f,first) <-holding [ov] (getMethod ov "__init__" pl)
   callWith p5 f first (backTo p5 (starEach [.Name "self" p3,.JoinedStr (v1::v2::vs) p4] X.env)) (backToKw p5 (keywordEach [] X.env))))
  (hs1:swapsWith (.Call (.Attribute (.Name "MendError" p1) "__init__" p2) [.Name "self" p3,.JoinedStr (v1::v2::vs) p4] [] p5) none p6.line X.env=pure false) (hs2:swapsWith (.Name par p9) (some (.Attribute (.Name "self" p7) fld p8)) p10.line X.env=pure false)
  (he:starEach [Expr.Name "self" p3,.JoinedStr (v1::v2::vs) p4] X.env=(false,eval (.Name "self" p3) X.env)::starEach [.JoinedStr (v1::v2::vs) p4] X.env:=by rfl) (he2:starEach [Expr.JoinedStr (v1::v2::vs) p4] X.env=(false,eval (.JoinedStr (v1::v2::vs) p4) X.env)::starEach [] X.env:=by rfl)
  (hpl:(backTo p5 (starEach [Expr.JoinedStr (v1::v2::vs) p4] X.env)).any (·.1)=false:=by rfl):
  PSs X [.Expr (.Call (.Attribute (.Name "MendError" p1) "__init__" p2) [.Name "self" p3,.JoinedStr (v1::v2::vs) p4] [] p5) p6,.Assign [.Attribute (.Name "self" p7) fld p8] (.Name par p9) p10]
   (λD σ H=> ∃e n t0,σ[0]? =some (some (.ref e))/\σ[1]? =some (some (.int n))/\n.natAbs<Lj/\H e=some (.ext λh=>h.get? e=some (JX C none t0))/\
    ∀dx od t1,H dx=none->dx≠e->D.nx σ (xI (xI H dx (.frz od (.xd [(fld,.int n)]))) e (.ext λh=>h.get? e=some (JX C (some dx) t1)))):=by
 intro pins s σ H D I ⟨e,n,t0,s0,s1,hb,hH,q⟩;obtain⟨nm,qq,N,bs,sn,sub,ab,col,dd,k0,k1,k2,k3,k5,lC,oN,iN,qN⟩:=XI.ex;refine wpAny_execs_cons (wpAny_Expr_any ?_ I.quiet hs1);refine PySem.W.methodCall_KW (pl:=pl) (qA I hg hmg ?_) ht;refine PySem.W.method_cls I.kIn XM.ga (PySem.W.cls_value I.kIn XM.rd XM.init rfl ?_);refine PyProof.Rows.callWith_builtin1 (jX (mH (EV (X:=X) hN0 hv0) (mH (Lk hN1 hv1 hd hcd hj hl) FA he2) he p5 pins _ σ H (λvs H1=> ∃y,vs=[.ref e,.str y]/\H1=H) (I.tok _) ⟨_,s0,n,s1,hb,λy=>⟨y,rfl,rfl⟩⟩) ?_) he hpl;rintro us s2 ⟨vs2,H2,I2,r2,y,e2,e3⟩;subst e2;rw[e3]at I2
 obtain⟨u1,rfl⟩: ∃u1,us=[.ref e,u1]:=by
  cases r2 with
  |cons r1 r=>cases r with
   |cons r2 r=>cases r;cases r1;exact⟨_,rfl⟩
 have hx2:s2.heap.get? e=some (JX C none t0):=(I2.hok e _ hH).1;have mu:Ub (H e):=by rw[hH];trivial
 obtain⟨hp2,g2,d2,tk2,os2⟩:=s2;refine UB F.excBase_ValueError (Og I2.kIn hM) (I2.kIn _ _ lC) hx2 λh3 t1 hx3 k3'=>?_
 have I3:Inv X pins σ (xI H e (.ext λh=>h.get? e=some (JX C none t1))) ⟨h3,g2,d2,tk2,os2⟩:=
  I2.write (t':=tk2) mu (.inl rfl) (λb u hb' hu=>k3' b u hb' hu) ⟨_,hx3⟩ ⟨hx3,⟨_,hx3⟩,λh1 h2 z k=>k _ z⟩
 refine wpAny_execs_cons (plainObj_wpAny_Assign_Attribute ?_ hs2);refine jX (EV (X:=X) hN1 hv1 hd hcd pins _ σ _ (λv H'=>v=.int n/\H'=xI H e (.ext λh=>h.get? e=some (JX C none t1))) I3 ⟨_,s1,rfl,rfl⟩) ?_;rintro u s4 ⟨v4,H4,I4,r4,e4,e5⟩;subst e4 e5;refine jX (EV (X:=X) hN0 hv0 (by decide) (by decide) pins _ σ _ (λv H'=>v=.ref e/\H'=xI H e (.ext λh=>h.get? e=some (JX C none t1))) I4 ⟨_,s0,rfl,rfl⟩) ?_;rintro u5 s5 ⟨v5,H5,I5,r5,e6,e7⟩;subst e6 e7;cases r5;have hx5:s5.heap.get? e=some (JX C none t1):=(I5.hok e _ zR).1;obtain⟨hp5,g5,d5,tk5,os5⟩:=s5;refine Ab (vV I5.kIn XI.cl hM) (I5.kIn _ _ lC) hx5 rfl rfl (λc z=>by cases z) hf hB λh6 tk6 dx st=>wpAny_execs_nil ?_;obtain⟨n6,ne6,hx6,ns6,k6⟩:=st;obtain⟨od,es6,ep6,hd6,r6⟩:=id ns6;have hHdx:H dx=none:=by have:=I5.hok.none_of n6;rwa [zO ne6]at this
 refine⟨σ,_,?_,q dx od t1 hHdx ne6⟩;have hin: ∀b,b≠e->(xI (xI H dx (.frz od (.xd [(fld,.int n)]))) e (.ext λh=>h.get? e=some (JX C (some dx) t1))) b=xI H dx (.frz od (.xd [(fld,.int n)])) b:=λb hb'=>zO hb';have hol: ∀b o,H b=some o->b≠dx:=λb o z y=>by rw[y,hHdx]at z;cases z
 have base5: ∀b,b≠e->(xI H e (.ext λh=>h.get? e=some (JX C none t1))) b=H b:=λb hb'=>zO hb';refine I5.un (h':=h6) (t':=tk6) ⟨λb o z n' _ _=>k6 b o (λy=>by rw[y,zR]at n';cases n') z,λb o z n' _ _=>⟨o.slots,k6 b o (λy=>by rw[y,zR]at n';cases n') z⟩,λb o z n' _=>?_,λb o z _=>?_,λb xs z=>?_,λb o' u' z=>?_,λb ps z=>?_⟩ λb u' z=>?_
 .have hbe:b≠e:=λy=>by rw[y,zR]at n';cases n'
  rw[base5 b hbe]at n';rw[hin b hbe,zO (λy=>by rw[y]at z;exact absurd (show hp5.get? dx=some o from z) (by rw[n6];simp))];exact n'
 .by_cases hbe:b=e
  .exact⟨_,by rw[hbe];exact hx6⟩
  .exact⟨o,k6 b o hbe z⟩
 .have hbe:b≠e:=λy=>by rw[y,zR]at z;cases z
  rw[base5 b hbe]at z;rw[hin b hbe,zO (hol b _ z)];exact z
 .have hbe:b≠e:=λy=>by rw[y,zR]at z;cases z
  rw[base5 b hbe]at z;rw[hin b hbe,zO (hol b _ z)];exact z
 .have hbe:b≠e:=λy=>by rw[y,zR]at z;cases z
  rw[base5 b hbe]at z;exact⟨#[],by rw[hin b hbe,zO (hol b _ z),z];simp⟩
 .by_cases hbe:b=e
  .subst hbe;rw[zR]at z;cases z;exact⟨hx6,⟨_,hx6⟩,λh1 h2 z k=>k _ z⟩
  .rw[hin b hbe]at z;by_cases hbd:b=dx
   .subst hbd;rw[zR]at z;cases z;refine⟨hd6,_,ns6,λy=>?_⟩;obtain⟨tk,rfl⟩:=r4;by_cases hy:y=fld
    .subst hy;rw[iP rfl,List.lookup_cons_self];exact⟨tk,rfl⟩
    .rw[iN0 hy];have:(([(fld,V.int n)]:List (Str×V))).lookup y=none:=by rw[lookup_cons];rw[show(y==fld)=false from by simpa using hy];rfl
     rw[this];trivial
   .rw[zO hbd]at z;have z5:(xI H e (.ext λh=>h.get? e=some (JX C none t1))) b=some u':=by rw[base5 b hbe];exact z
    have ntr: ∀c o,(xI H e (.ext λh=>h.get? e=some (JX C none t1))) c=some o->(∀φ,o≠.ext φ)->(xI (xI H dx (.frz od (.xd [(fld,.int n)]))) e (.ext λh=>h.get? e=some (JX C (some dx) t1))) c=some o:=λc o w ne=>by
     have hce:c≠e:=λy=>by rw[y,zR]at w;cases w;exact ne _ rfl
     rw[base5 c hce]at w;rw[hin c hce,zO (hol c _ w)];exact w
    refine(I5.hok b u' z5).stay (λc v hc r=>k6 c v ?_ r) (λc w=>ntr c _ w λ_ y=>by cases y) λc xs w=>ntr c _ w λ_ y=>by cases y
    rcases hc with rfl|hc
    .exact hbe
    .intro y;rw[y,zR]at hc;cases hc
end
section
variable{P:Program}{w:World}{K:Zb}{mg:Yg}{base:Heap}{qual:Str}{st:Stmt}{f C M:Addr}{fd:FuncData}{fld par:Str}{p1 p2 p3 p4 p5 p6 p7 p8 p9 p10:Pos}{v1 v2:Expr}{vs:Za}
def Ll{pl:Env->Sem Bool}(Fu:Fun K "__init__" qual st f fd)(Sc:FnScope ["self",par] ["self",par] (zI st))(hM:vU K M mE none)(XI:XIn K M C f)(XM:XMn K M)(hmg:mg "MendError"=some (.ref M))
  (hbd:jH st=[.Expr (.Call (.Attribute (.Name "MendError" p1) "__init__" p2) [.Name "self" p3,.JoinedStr (v1::v2::vs) p4] [] p5) p6,.Assign [.Attribute (.Name "self" p7) fld p8] (.Name par p9) p10])
  (ht: ∀env:Env,eval (.Call (.Attribute (.Name "MendError" p1) "__init__" p2) [.Name "self" p3,.JoinedStr (v1::v2::vs) p4] [] p5) env=(do
   let ov <-eval (.Name "MendError" p1) env
   standAt p2.atName
   let (f,first) <-holding [ov] (getMethod ov "__init__" (pl env))
   callWith p5 f first (backTo p5 (starEach [.Name "self" p3,.JoinedStr (v1::v2::vs) p4] env)) (backToKw p5 (keywordEach [] env))))
  (hs1: ∀env:Env,swapsWith (.Call (.Attribute (.Name "MendError" p1) "__init__" p2) [.Name "self" p3,.JoinedStr (v1::v2::vs) p4] [] p5) none p6.line env=pure false) (hs2: ∀env:Env,swapsWith (.Name par p9) (some (.Attribute (.Name "self" p7) fld p8)) p10.line env=pure false)
  (hg:(zI st).names.lookup ("MendError":Str)=some .globalImplicit) (h0:(zI st).names.lookup ("self":Str)=some .local) (h1:(zI st).names.lookup par=some .local)
  (hd:(par==("__debug__":Str))=false) (hcd:(par==("__classdict__":Str))=false) (hj:JL par (v1::v2::vs)) (hl:vs.length<=100) (hf:fld∈qn) (hB:typeLookup (.type "ValueError") fld=pure none):FnOk P w K mg base FE 1 f fd ["self",par] (WL C fld):=by
 refine Fu.ok (k:=0) Sc (λvs' H Q E ⟨e,n,t0,z,_⟩=>by rw[z];rfl) λcdv A outer s H vs' Q E hr ⟨e,n,t0,z,hb,hH,q⟩=>?_;subst z;rw[hbd];exact⟨_,El hM XI XM hmg hg rfl rfl (.inl h0) (.inl h1) hd hcd hj hl hf hB rfl (ht _) (hs1 _) (hs2 _),e,n,t0,rfl,rfl,hb,hH,q⟩
end
end M
end L2
namespace L2
section
open PySem PySem.Spec PyProof.Rows
variable{X:Cx}{pins:Yi}{σ:St}{H:Hp}{s:Shared}{e:Addr}
def Inv.trackE{ob:Obj}(J:Inv X pins σ H s)(o:Out X pins H s e)(he:s.heap.get? e=some ob):Inv X pins σ (xI H e (.ext λh=>h.get? e=some ob)) s:=J.trackU o ⟨he,⟨ob,he⟩,λ_ _ p k=>k _ p⟩
end
namespace M
open PySem PySem.Spec PyProof.Rows
def UC{K:Zb}{h:Heap}{N:Addr}{mg:Yg}{n:Str}{v:Value}(X:K.In h)(G:h.Ns N mg)(e:PySem.W.nsIn K N n=some (some v)):mg n=some v:=by
 obtain⟨o,es,ep,ho,hd,_,hf⟩:=G;unfold PySem.W.nsIn at e;split at e
 .rename_i c d es' n' sl q;have:=X _ _ q;rw[ho]at this;cases this;cases hd;split at e
  .rename_i en he;cases e;rw[<-hf];unfold nsFind findBy;rw[<-Array.find?_toList,he];rfl
  .split at e<;>cases e
 .cases e
def Xy(x fld:Str):Er->zC->R Fl
 |.val (.int n),S=>if n.natAbs<Lj then .exc x [(fld,.int n)] S else .no
 |_,_=>.no
section
variable{X:Cx}{E:XK}{e:Expr}{fe:zK->zC->R Er}{pos np cpos:Pos}{x fld par:Str}{C M f:Addr}{fd:FuncData}{k:Nat}
def Ae(hx:XOk X E)(hg:Gl X x)(hm:X.mg x=some (.ref C))(hM:vU X.K M mE none)(XI:XIn X.K M C f)(G:FnOk X.prog X.w X.K X.mg X.base FE 1 f fd ["self",par] (WL C fld))(hb:Binds X.K fd ["self",par] [])(hr:Room k X.A)(ha:yR X (WE X.g E) e fe)
  (hk:2<=k:=by decide) (hex:X.ex=[]:=by rfl) (hcalm:X.calm=true:=by rfl) (hd:(x==("__debug__":Str))=false:=by decide) (he:starEach [e] X.env=(false,eval e X.env)::starEach [] X.env:=by rfl) (hpl:(backTo cpos (starEach [] X.env)).any (·.1)=false:=by rfl):
  ZK X (WE X.g E) (.Raise (some (.Call (.Name x np) [e] [] cpos)) none pos) (λρ S=>(fe ρ S).bind (Xy x fld)):=by
 obtain⟨ta,ha,fa⟩:=ha;refine⟨λD σ H=>ta σ H λv H1=> ∃n,v=.int n/\n.natAbs<Lj/\ ∀dx od,H1 dx=none->E (.ref C) (some dx) (xI H1 dx (.frz od (.xd [(fld,.int n)]))),λpins s σ H D I h=>?_,λα ρ S σ H D wd sl q=>fa α ρ S σ H _ wd sl (q.expr λv r S1 α1 H1 e1 x1 w1 d1 q1=>?_)⟩
 .obtain⟨nm,q,N,bs,sn,sub,ab,col,dd,k0,k1,k2,k3,k5,lC,oN,iN,qN⟩:=XI.ex;obtain⟨oI,lI,cI⟩:=XI.fo;have XB:=I.mod.kin;have hN:=Heap.Ns.of_isNs (PySem.W.isNs_of_in XB oN);have hni:=UC XB hN iN;have T:=Og XB hM
  refine PN (C:=C) (nm:=nm) (q:=q) (N:=N) (bs:=bs) (bm:=.ref M::mE) (hdct:=true) (sn:=sn) (sub:=sub) (ab:=ab) (col:=col) (dd:=dd) (k0:=k0) (k1:=k1) (k2:=k2) (k3:=k3) (k5:=k5) (fI:=f) (oI:=oI)
   F.excBase_ValueError (T.hasType F.excBase_ValueError.hasBase) (I.ok.hd hcalm) (by rw[he];exact hpl) hni cI (qA I hg hm ⟨rfl,?_⟩ hd)
  have hr':=mH ha FA he cpos pins s σ H (λvs H1=>match vs with |[v]=> ∃n,v=.int n/\n.natAbs<Lj/\ ∀dx od,H1 dx=none->E (.ref C) (some dx) (xI H1 dx (.frz od (.xd [(fld,.int n)])))|_=>False) I h;rw[he]at hr' ⊢;refine Calls.evalArgs_plain (jX hr' λus s1 ⟨vs,H1,I1,r1,hv⟩=>?_)
  obtain⟨v0,rfl,n,rfl,hn,hE⟩: ∃v0,vs=[v0]/\ ∃n,v0=.int n/\n.natAbs<Lj/\ ∀dx od,H1 dx=none->E (.ref C) (some dx) (xI H1 dx (.frz od (.xd [(fld,.int n)]))):=by
   match vs,hv with
   |[v],hv=>exact⟨v,rfl,hv⟩
  have hlen:us.length=1:=by rw[<-r1.length];rfl
  refine⟨rfl,by show us.length<=_;rw[hlen];decide,I1.bk _ _ (XB _ _ lC),hN.keeps I1.bk,T.keeps I1.bk,I1.bk _ _ (XB _ _ lI),λh' a mk=>?_⟩;have J1:Inv X pins σ H1 {s1 with heap:=h'}:=I1.kept (t':=s1.toks) mk.keeps;obtain⟨t0,ht0,_,_⟩:=mk.there;have oa:Out X pins H1 {s1 with heap:=h'} a:=⟨I1.older hex mk.new,I1.hok.none_of mk.new,λp hp z=>(by have:=(I1.pin p hp).1;rw[z,mk.new]at this;cases this),_,_,ht0,rfl⟩
  have J2:=J1.trackE oa ht0;have rv:Vals [.ref a,.int n] (.ref a::us):=.cons rfl r1
  refine wpAny_call (codeAny_mono (G.run _ X.stack _ _ ⟨.ref a::us,[]⟩ (.ref a::us) [.ref a,.int n] (λv H'=>v=.non/\ ∃dx od t1,H1 dx=none/\dx≠a/\H'=xI (xI (xI H1 a (.ext λh=>h.get? a=some (JX C none t0))) dx (.frz od (.xd [(fld,.int n)]))) a (.ext λh=>h.get? a=some (JX C (some dx) t1))) E0
   ((hr.mono hk).make C us []) (J2.env0.make C us []) ?_ rv ⟨a,n,t0,rfl,hn,zR,λdx od t1 h1 h2=>⟨rfl,dx,od,t1,by rwa [zO h2]at h1,h2,rfl⟩⟩) λr s' hq=>?_)
  .have hh:=hb _ (.ref a::us) J2.kIn (by simp[hlen]);rw[aN]at hh;exact hh
  .cases r with
   |error y=>exact hq.elim
   |ok fl=>
    cases fl with
    |ret u=>
     obtain⟨v3,H3,I3,r3,e3,dx,od,t1,hdx,hne,e4⟩:=J2.after hq;subst e3;have hga:s'.heap.get? a=some (JX C (some dx) t1):=(I3.hok a (.ext λh=>h.get? a=some (JX C (some dx) t1)) (by rw[e4];exact zR)).1;have I4:=I3.untrack (e:=a) (by rw[e4];exact zR)
     have eH:Of H3 a=xI H1 dx (.frz od (.xd [(fld,.int n)])):=by
      funext b;rw[e4];by_cases hba:b=a
      .rw[hba,PP,zO (Ne.symm hne)];exact oa.h.symm
      .rw[uX hba,zO hba];by_cases hbd:b=dx
       .rw[hbd,zR,zR]
       .rw[zO hbd,zO hba,zO hbd]
     rw[eH]at I4;exact⟨r3,_,_,I3.kIn _ _ lC,hga,hx.born pins σ _ s' a C (some dx) I4 ⟨_,_,hga,rfl,rfl,rfl,rfl,rfl⟩ oa.s0 (by rw[zO (Ne.symm hne)];exact oa.h) (hE dx od hdx)⟩
    |next=>exact False.elim hq
    |brk=>exact False.elim hq
    |cont=>exact False.elim hq
 .unfold Xy at q1;split at q1
  .rename_i n;split at q1
   .rename_i hn;exact⟨n,xO d1.1,hn,λdx od hdx=>q1 α1 _ (x1.trans (w1.newx hdx)) (w1.new hdx) C (some dx) hm (.inr ⟨dx,_,od,rfl,zR,.cons (xB n) .nil⟩)⟩
   .exact q1.elim
  .exact q1.elim
end
def Af(ns:Ye)(fld:Str):Er->zC->R Er
 |.val (.loc l),S=>match S[l]? with
  |some (.ins c fs)=>if c∈ns then(match fs.lookup fld with
   |some (.int n)=>.ok (.val (.int n)) S
   |_=>.no)else .no
  |_=>.no
 |_,_=>.no
theorem DenF.get{K:Zb}{α:Yd}{H:Hp}{y:Str}{d:MV}: ∀{fs gs},DenF K α H fs gs->fs.lookup y=some d-> ∃v,gs.lookup y=some v/\Den K α H d v
 |_,_,.nil,h=>by simp at h
 |_,_,.cons (x:=x) a l,h=>by
  rw[lookup_cons]at h ⊢
  cases q:y==x with
  |true=>rw[q]at h;cases h;exact⟨_,rfl,a⟩
  |false=>rw[q]at h;exact DenF.get l h
section
variable{X:Cx}{W:XW}{a:Expr}{f:zK->zC->R Er}{pos:Pos}{M:Addr}{cs:List (Str×Addr)}{fld:Str}
def Em{ns:Ye}(T:XTab X.K X.mg M cs)(hf:fld∈qn)(hB:typeLookup (.type "ValueError") fld=pure none)(ha:yR X W a f)(hns:cs.map (·.1)=ns:=by rfl)
  (hbase:attributeBase a fld X.env (eval a X.env)=eval a X.env:=by rfl) (hgo: ∀o r,letTemporaryGo a o r=pure ():=by intro _ _;rfl):yR X W (.Attribute a fld pos) (λρ S=>(f ρ S).bind (Af ns fld)):=by
 subst hns;obtain⟨ta,ha,fa⟩:=ha
 refine⟨λσ H Q=>ta σ H λv H1=> ∃aa oe dx od gs n C,v=.ref aa/\H1 aa=some (.frz oe (.ext λh=>h.get? aa=some oe))/\oe.cls=.ref C/\oe.dict=some dx/\H1 dx=some (.frz od (.xd gs))/\gs.lookup fld=some (.int n)/\(∃i,vU X.K C (.ref M::mE) i)/\(∀c,oe.data≠.cls c)/\Q (.int n) H1,
  λpins s σ H Q I h=>?_,λα ρ S σ H Q wd sl q=>fa α ρ S σ H _ wd sl (q.bind λu r S1 α1 H1 e1 x1 w1 d1 q1=>?_)⟩
 .rw[arm_eval_Attribute,hbase];refine wB (jX (ha pins s σ H _ I h) λu s1 ⟨v,H1,I1,r1,aa,oe,dx,od,gs,n,C,e1,hH,hc,hdx,hHd,hgs,⟨i,cC⟩,hnc,q⟩=>?_);subst e1;cases r1;refine wB (wpAny_standAt (wB (wpAny_holding ?_)));have hx:s1.heap.get? aa=some oe:=(I1.hok aa _ hH).1;obtain⟨_,mA,hns,hrel⟩:=I1.hok dx _ hHd;have hr2:=hrel fld;rw[hgs]at hr2
  cases hm:mA fld with
  |none=>rw[hm]at hr2;exact hr2.elim
  |some u=>
   rw[hm]at hr2;obtain⟨tk,rfl⟩:=hr2;have O:=vV I1.kIn cC T.mc;obtain⟨nm,q',N,bs,hdd,sn,sub,ab,col,dd,k0,k1,k2,k3,k5,lC,_,_,_,rfl⟩:=cC;have hC:=I1.kIn _ _ lC;obtain⟨hp,g,d,tk2,os⟩:=s1;refine Ad O hC hx hc hdx hnc hns hm hf hB rfl ?_;rw[hgo];exact wB (wP (wP ⟨.int n,H1,I1.tok _,⟨tk,rfl⟩,q⟩))
 .replace q1:=q1.shift x1
  unfold Af at q1;split at q1
  .rename_i l;split at q1
   .rename_i c fs hl;split at q1
    .rename_i hc;split at q1
     .rename_i n hlk;obtain⟨aa,rfl,hα⟩:=eB d1.1;obtain⟨C,gs,hm,hden,oe,hH,hcl,hdx⟩:=w1.obj l aa _ hα hl;obtain⟨⟨c',C'⟩,hm',rfl⟩:=mM0.mp hc;obtain⟨z1,z2⟩:=T.each.at hm';have:C=C':=by have z:X.mg c'=some (.ref C):=hm;rw[z1]at z;cases z;rfl
      subst this;rcases hdx with rfl|⟨dx,od,h1,h2,vs,h3⟩
      .simp at hlk
      .obtain⟨v,hv,hd⟩:=hden.get hlk;rw[xK hd]at hv;exact⟨aa,oe,dx,od,gs,n,C,rfl,hH,hcl,h1,h2,hv,z2,(λc z=>by rw[h3]at z;cases z),Post.val q1 w1 (xB n)⟩
     .exact q1.elim
    .exact q1.elim
   .exact q1.elim
  .exact q1.elim
end
def xin_mk{K:Zb}{C N M f:Addr}{bs sub:Yb}{nm q:Str}{ab:Bool}{sn:Ye}{col:Option Bool}{dd od:Option Addr}{k0 k1 k2 k3 k5:Option Value}{oc:Value}{es:Array DictEntry}{ep:Nat}{sl:Array (Option Value)}{fo:Obj}
  (l:K.lookup C=some (excClassObj nm q C N bs (.ref M::mE) true sn sub ab col dd k0 k1 k2 k3 k5 "ValueError.__new__")) (n:K.lookup N=some ⟨oc,od,.dict es ep,sl⟩) (o:(es.toList.all λe=>match e.key with |.str _ _=>true|_=>false)=true)
  (i:PySem.W.nsIn K N "__init__"=some (some (.ref f))) (q1:PySem.W.nsIn K N "__class__"=some none) (q2:PySem.W.nsIn K N "__getattribute__"=some none) (q3:PySem.W.nsIn K N "__getattr__"=some none)
  (q4:PySem.W.nsIn K N "__setattr__"=some none) (q5:PySem.W.nsIn K N "place"=some none) (q6:PySem.W.nsIn K N "number"=some none) (lf:K.lookup f=some fo) (cf:fo.cls=.type "function"):XIn K M C f:=by
 refine⟨⟨nm,q,N,bs,sn,sub,ab,col,dd,k0,k1,k2,k3,k5,l,?_,i,λy hy=>?_⟩,fo,lf,cf⟩
 .unfold PySem.W.nsOkIn;rw[n];rw[Array.all_toList]at o;exact o
 .simp only[qn,mC,nM,or_false]at hy;rcases hy with rfl|rfl|rfl|rfl|rfl|rfl<;>assumption
structure DefM(K:Zb)(mg:Yg)(x:Str)(st:Stmt):Prop where
 ex: ∃f fd,mg x=some (.ref f)/\Fun K x x st f fd
def def_mk{K:Zb}{mg:Yg}{h:Heap}{x:Str}{st:Stmt}{g:Addr}{od an:Option Addr}{sl:Array (Option Value)}{oc kV dc pm cd ct:Value}(a:PySem.W.nsIn K mainGlobals x=some (some (.ref g)))
  (l:K.lookup g=some ⟨oc,od,.func (PySem.W.fnOf x x (mI st) (jH st) (zI st) .none kV dc pm an cd ct),sl⟩) (c:PySem.W.codeIn K cd x=true) (k:PySem.W.keepIn K (.ref g)=true) (X:K.In h) (GG:h.Ns mainGlobals mg):DefM K mg x st:=⟨_,_,PySem.W.mg_of X GG a,Bw l c k⟩
structure Cal(P:Program)(w:World)(K:Zb)(mg:Yg)(base:Heap)(CX:YX)(x:Str)(k:Nat)(ps:Ye)(sp:Sp):Prop where
 ex: ∃fa fd,FnOk P w K mg base CX k fa fd ps sp/\mg x=some (.ref fa)/\PySem.W.keepIn K (.ref fa)=true/\Binds K fd ps []
abbrev Lm(P:Program)(w:World)(K:Zb)(mg:Yg)(base:Heap)(x:Str)(k n:Nat)(ps:Ye)(F:List MV->zC->R Er):Prop:=Cal P w K mg base FE x k ps (VM ⟨K,mg,P,w⟩ n F)
abbrev En(P:Program)(w:World)(K:Zb)(mg:Yg)(base:Heap)(x:Str)(k n:Nat)(ps:Ye)(F:List MV->zC->R Er):Prop:=Cal P w K mg base (Be P w) x k ps (Dx ⟨K,mg,P,w⟩ n F)
section
variable{P:Program}{w:World}{K:Zb}{mg:Yg}{base:Heap}{x:Str}{st:Stmt}{ps:Ye}{k n:Nat}{F:List MV->zC->R Er}
abbrev UD(x:Str)(st:Stmt)(ps:Ye):Prop:= ∀(kV doc pm:Value)(an:Option Addr)(cdv ct:Value)(us:Yb),us.length=ps.length->bindArgs (PySem.W.fnOf x x (mI st) (jH st) (zI st) .none kV doc pm an cdv ct) ⟨us,[]⟩=pure (ps.zip us)
def JY(D:DefM K mg x st)(hb:UD x st ps)(h: ∀f fd,Fun K x x st f fd->FnOk P w K mg base FE k f fd ps (VM ⟨K,mg,P,w⟩ n F)):Lm P w K mg base x k n ps F:=
 let ⟨f,fd,m,Fu⟩:=D.ex;⟨f,fd,h f fd Fu,m,Fu.kp,Fu.binds hb⟩
def Eo(D:DefM K mg x st)(hb:UD x st ps)(h: ∀f fd,Fun K x x st f fd->FnOk P w K mg base (Be P w) k f fd ps (Dx ⟨K,mg,P,w⟩ n F)):En P w K mg base x k n ps F:=
 let ⟨f,fd,m,Fu⟩:=D.ex;⟨f,fd,h f fd Fu,m,Fu.kp,Fu.binds hb⟩
def Cal.noX(G:En P w K mg base x k n ps F):Lm P w K mg base x k n ps F:=let ⟨fa,fd,G,m,kp,b⟩:=G.ex;⟨fa,fd,G.noX,m,kp,b⟩
def Sl{l:PySem.W.OpenLaw}{fa:Addr}{p:Str}(D:DefM K mg x st)(hfa:mg x=some (.ref fa))(hb: ∀(kV doc pm:Value)(an:Option Addr)(cdv ct:Value)(s:Shared)(v:Value),BindsTo s (PySem.W.fnOf x x (mI st) (jH st) (zI st) .none kV doc pm an cdv ct) ⟨[v],[]⟩ [(p,v)])
  (h: ∀base f fd,Fun K x x st f fd->FnOk l.prog w K mg base FE k f fd [p] (VM ⟨K,mg,l.prog,w⟩ 1 F)):
  ∃fd:FuncData,(∀(s:Shared)(v:Value),BindsTo s fd ⟨[v],[]⟩ [(p,v)])/\ ∀base:Heap,K.In base->base.Ns mainGlobals mg->FnOk l.prog w K mg base FE k fa fd [p] (JR K F):=by
 obtain⟨f,fd,m,Fu⟩:=D.ex;rw[hfa]at m;cases m;refine⟨fd,?_,λbase _ _=>(h base fa fd Fu).imp λvs H Q E=>Dk (g:=⟨K,mg,l.prog,w⟩) vs H Q E⟩;obtain⟨_,_,_,_,_,_,_,_,_,rfl,_,_⟩:=Fu.ex;exact hb _ _ _ _ _ _
end
section
variable{X:Cx}{W:XW}{E:XK}{e:Expr}{es:Za}{af:zK->zC->R (List Er)}{k n:Nat}{ps:Ye}{F:List MV->zC->R Er}{x:Str}{p pos:Pos}
def zU(G:Lm X.prog X.w X.K X.mg X.base x k n ps F)(hr:Room k X.A)(hg:Gl X x)(ha:FL X W (e::es) af)(hdb:(x==("__debug__":Str))=false:=by decide)
  (he:starEach (e::es) X.env=(false,eval e X.env)::starEach es X.env:=by rfl) (hpl:(backTo pos (starEach es X.env)).any (·.1)=false:=by rfl):yR X W (.Call (.Name x p) (e::es) [] pos) (λρ S=>(af ρ S).bind λrs S1=>yB n F rs S1):=
 let ⟨_,_,G,m,kp,b⟩:=G.ex;Jq G hr hg m kp b ha hdb he hpl
def iB(hx:XOk X E)(G:En X.prog X.w X.K X.mg X.base x k n ps F)(hr:Room k X.A)(hg:Gl X x)(ha:FL X (WE X.g E) (e::es) af)(hdb:(x==("__debug__":Str))=false:=by decide)
  (he:starEach (e::es) X.env=(false,eval e X.env)::starEach es X.env:=by rfl) (hpl:(backTo pos (starEach es X.env)).any (·.1)=false:=by rfl):yR X (WE X.g E) (.Call (.Name x p) (e::es) [] pos) (λρ S=>(af ρ S).bind λrs S1=>xH n F rs S1):=
 let ⟨_,_,G,m,kp,b⟩:=G.ex;Dy hx G hr hg m kp b ha hdb he hpl
variable{M:Addr}{cs:List (Str×Addr)}{i:Nat}{nm:Str}{Fh:zK->zC->R Fl}{b0:Stmt}{suite:List Stmt}{mp hpos cpos epos:Pos}{ns:Ye}
def Ep(T:XTab X.K X.mg M cs)(hgm:Gl X "MendError")(hN:X.N.Nodup)(G:En X.prog X.w X.K X.mg X.base x k n ps F)(hr:Room k X.A)(hg:Gl X x)(ha:FL X.nox W0 (e::es) af)(hsuite: ∀v,vI (X.inH v) W0 (b0::suite) Fh)(hns:cs.map (·.1)=ns:=by rfl)(hi:X.N[i]? =some nm:=by rfl)(hk:X.env.kindOf nm=some .local:=by rfl)(hex:X.ex=[]:=by rfl)(hstk:X.stack=X.env::X.outer:=by rfl)(hfm:X.env.frame=some X.env.locals:=by rfl)
  (hdb:(x==("__debug__":Str))=false:=by decide) (he:starEach (e::es) X.env=(false,eval e X.env)::starEach es X.env:=by rfl) (hpl:(backTo cpos (starEach es X.env)).any (·.1)=false:=by rfl) (hs:swapsWith (.Call (.Name x p) (e::es) [] cpos) none epos.line X.env=pure false:=by rfl):
  ZK X W (.Try [.Expr (.Call (.Name x p) (e::es) [] cpos) epos] [.ExceptHandler (some (.Name "MendError" mp)) (some nm) (b0::suite) hpos] [] [] pos)
   (λρ S=>(noX (af ρ S)).bind λrs S1=>PD ns i (λ_ S2=>.ok (.next ρ) S2) Fh ρ (xH n F rs S1)):=
 let ⟨_,_,G,m,kp,b⟩:=G.ex;Ky T hgm hN G hr hg m kp b ha hsuite hns hi hk hex hstk hfm hdb he hpl hs
end
end M
end L2
namespace L2
open PySem PySem.Spec PyProof.Rows
structure RoomH(k:Nat)(A:Around):Prop where
 dp:A.depth+3 * k+5<recursionLimit
 un:A.units+16 * k+200<cLine
def RoomH.mono{j k:Nat}{A:Around}(r:RoomH k A)(h:j<=k):RoomH j A:=⟨by have:=r.dp;omega,by have:=r.un;omega⟩
def RoomH.deeper{k:Nat}{A:Around}(r:RoomH (k+1) A)(env:Env):RoomH k (A.deeper env):=
 ⟨by have:=r.dp;show A.depth+1+3 * k+5<_;omega,by have:=r.un;show A.units+3+16 * k+200<_;omega⟩
def RoomH.depth{k:Nat}{A:Around}(r:RoomH k A):A.depth<recursionLimit:=by have:=r.dp;omega
def RoomH.units{k:Nat}{A:Around}(r:RoomH k A):A.units+64<cLine:=by have:=r.un;omega
def Room.inH{k:Nat}{A:Around}(r:Room k A)(v:Hv):RoomH k (A.mark (some (.ref v.e))):=⟨r.dp,r.un⟩
structure FnOkH(P:Program)(w:World)(K:Zb)(mg:Yg)(base:Heap)(k:Nat)(f:Addr)(fd:FuncData)(ps:Ye)(sp:Sp):Prop where
 len: ∀vs H Q E,sp vs H Q E->vs.length=ps.length
 run: ∀(A:Around)(outer:List Env)(s:Shared)(H:Hp)(args:Args)(us:Yb)(vs:List V)(Q:VK)(E:XK),RoomH k A->HdA A H->Env0 P w K mg base A outer s H->BindsTo s fd args (ps.zip us)->Vals vs us->sp vs H Q E->
  codeAny (model P w) A (.call (.ref f) args) (CR FE outer P w H s Q E) s
def Wz(P:Program)(w:World)(K:Zb)(mg:Yg)(base:Heap)(N:Ye)(qual:Str)(scope:Scope)(f:Addr)(cd:Value)(A:Around)(outer:List Env)(s:Shared)(H:Hp):Cx:={FB FE P w K mg base N qual scope f cd A outer s H E0 with calm:=false,xe:=λ_ _=>False}
section
variable{P:Program}{w:World}{K:Zb}{mg:Yg}{base:Heap}{k:Nat}{f:Addr}{qual:Str}{scope:Scope}{cdv:Value}{A:Around}{outer:List Env}{s s1:Shared}{H:Hp}{σ:St}{N ps:Ye}{sp:Sp}
def Xa(fr:A.frames=some outer)(I:Inv (FB FE P w K mg base N qual scope f cdv {A with handled:=none} outer s H E0) [] σ H s1):Inv (Wz P w K mg base N qual scope f cdv A outer s H) [] σ H s1:=
 ⟨⟨I.ok.mod,I.ok.kind,I.ok.glob,I.ok.blt,I.ok.above,I.ok.inj,I.ok.has,I.ok.cab,λz=>(by cases z),Around.frames_deeper fr,I.ok.stk,I.ok.exf,I.ok.bs,I.ok.bsz,I.ok.noex,I.ok.exfs,I.ok.funs,I.ok.frf⟩,I.os,I.bare,I.base,I.loc,I.cell,I.free,I.freeC,I.pin,I.hok,I.len⟩
def Sm{x:Str}{st:Stmt}{fd:FuncData}(Fu:Fun K x qual st f fd)(S:FnScope N ps (zI st))(len: ∀vs H Q E,sp vs H Q E->vs.length=ps.length)
  (hbody: ∀(cdv:Value)(A:Around)(outer:List Env)(s:Shared)(H:Hp)(vs:List V)(Q:VK)(E:XK),RoomH k (A.deeper (envOfC qual (zI st) s.heap.objs.size f cdv))->HdA A H->sp vs H Q E->
   ∃t,PSs (Wz P w K mg base N qual (zI st) f cdv A outer s H) (jH st) t/\t {nx:=λ_ H'=>Q .non H',rt:=Q} (start N vs) H):FnOkH P w K mg base (k+1) f fd ps sp:=by
 obtain⟨oc,od,kV,doc,pm,an,cdv,ct,osl,rfl,lk,hcd⟩:=Fu.ex;refine⟨len,λA outer s H args us vs Q E hr hh e0 hb r hsp=>?_⟩;have hl:=len _ _ _ _ hsp;have KX:K.In s.heap:=e0.mod.kin.keeps λb o e=>(e0.bs b o e).1;have lim:s.heap.NoLimit:=e0.mod.nolimit.keeps λb o e=>(e0.bs b o e).1
 have hkind: ∀y∈ps.zip us,(zI st).names.lookup y.1=some .local\/((zI st).names.lookup y.1=some .cell/\((cellsFrom (s.heap.objs.size+1) (zI st).names []).lookup y.1).isSome=true):=λ⟨n,v⟩ hy=>by
  rcases S.par n (of_mem_zip hy).1 with q|q
  .exact .inl q
  .exact .inr ⟨q,PySem.W.cellsFrom_some _ _ _ (.inl q)⟩
 refine codeAny_call_function hr.depth (KX _ _ lk) rfl S.co S.gen rfl (PySem.W.codeRec_of KX hcd) (hb _ _ _ _ ?_);refine wpAny_newFunctionEnv_cells S.kind hkind λenv he s1 x=>?_;subst he;refine⟨lim.keeps x.toInCall.keep,codeAny_func ?_⟩;obtain⟨t,ht,hq⟩:=hbody cdv A outer s H vs Q E (hr.deeper _) hh hsp;have e1:Env0 P w K mg base {A with handled:=none} outer s H:=⟨e0.frames,e0.mod,e0.bs,e0.bsz,e0.funs,e0.frf,e0.hok,e0.bare⟩
 have I:=Xa e0.frames (JC (CX:=FE) (E:=E0) S rfl e1 hl r x);refine wpAny_mono (ht [] s1 (start N vs) H _ I hq) (λfl s' hs=>?_) λe s' hs=>hs.elim
 have fin: ∀{σ':St}{H':Hp}{v:V}{u:Value},Inv (Wz P w K mg base N qual (zI st) f cdv A outer s H) [] σ' H' s'->RelV v u->Q v H'->CE outer P w H s Q u s':=
  λ{σ' H' v u} J rv q=>⟨v,H',J.os,J.bare,J.base,J.hok,rv,q⟩
 cases fl with
 |ret u=>
  obtain⟨v,σ',H',J,rv,q⟩:=hs;exact fin J rv q
 |next=>
  obtain⟨σ',H',J,q⟩:=hs;exact fin (v:=V.non) (u:=Value.none) J rfl q
 |brk=>
  obtain⟨_,_,_,q⟩:=hs;exact False.elim q
 |cont=>
  obtain⟨_,_,_,q⟩:=hs;exact False.elim q
end
namespace M
section
variable{P:Program}{w:World}{K:Zb}{mg:Yg}{base:Heap}{x:Str}{st:Stmt}{N ps:Ye}{k n:Nat}{F:List MV->zC->R Er}
structure CalH(P:Program)(w:World)(K:Zb)(mg:Yg)(base:Heap)(x:Str)(k n:Nat)(ps:Ye)(F:List MV->zC->R Er):Prop where
 ex: ∃fa fd,FnOkH P w K mg base k fa fd ps (VM ⟨K,mg,P,w⟩ n F)/\mg x=some (.ref fa)/\PySem.W.keepIn K (.ref fa)=true/\Binds K fd ps []
def okH{f:Addr}{fd:FuncData}(Fb:zK->zC->R Fl)(Fu:Fun K x x st f fd)(Sc:FnScope N ps (zI st))
  (hbody: ∀(cdv:Value)(A:Around)(outer:List Env)(s:Shared)(H:Hp),RoomH k (A.deeper (envOfC x (zI st) s.heap.objs.size f cdv))->Kw (Wz P w K mg base N x (zI st) f cdv A outer s H)->vI (Wz P w K mg base N x (zI st) f cdv A outer s H) W0 (jH st) Fb):
  FnOkH P w K mg base (k+1) f fd ps (VM ⟨K,mg,P,w⟩ ps.length λds S=>yU (Fb (yD N ds) S)):=by
 refine Sm Fu Sc (λvs H Q E h=>?_) (λcdv A outer s H vs Q E hr hh h=>?_)
 .obtain⟨α,S,ds,_,l,hl,_⟩:=h;rw[l.length,hl]
 .obtain⟨α,S,ds,wd,l,hl,q⟩:=h;obtain⟨t,ht,kk⟩:=hbody cdv A outer s H hr hh;refine⟨t,ht,kk α (yD N ds) S (start N vs) H _ wd (sH l) ?_⟩;dsimp only at q
  cases z:Fb (yD N ds) S with
  |ok fl S'=>
   rw[z]at q
   cases fl with
   |next ρ=>exact λσ α' H' x' w' s'=>q .non α' H' x' w' (DenE.val fP)
   |ret r=>exact λv α' H' x' w' d'=>q v α' H' x' w' d'
   |brk ρ=>exact q.elim
   |cont ρ=>exact q.elim
  |exc c fs S'=>rw[z]at q;exact λα' H' x' w'=>(q α' H' x' w').elim
  |no=>rw[z]at q;exact q
def okCH(D:DefM K mg x st)(hb:UD x st ps)(h: ∀f fd,Fun K x x st f fd->FnOkH P w K mg base k f fd ps (VM ⟨K,mg,P,w⟩ n F)):CalH P w K mg base x k n ps F:=
 let ⟨f,fd,m,Fu⟩:=D.ex;⟨f,fd,h f fd Fu,m,Fu.kp,Fu.binds hb⟩
end
section
variable{X:Cx}{W:XW}{e:Expr}{es:Za}{af:zK->zC->R (List Er)}{k n:Nat}{ps:Ye}{F:List MV->zC->R Er}{x:Str}{p pos:Pos}
def Ag(G:CalH X.prog X.w X.K X.mg X.base x k n ps F)(hr:RoomH k X.A)(hg:Gl X x)(ha:FL X W (e::es) af)(hh:Kw X:=by exact Wp)(hdb:(x==("__debug__":Str))=false:=by decide)
  (he:starEach (e::es) X.env=(false,eval e X.env)::starEach es X.env:=by rfl) (hpl:(backTo pos (starEach es X.env)).any (·.1)=false:=by rfl):yR X W (.Call (.Name x p) (e::es) [] pos) (λρ S=>(af ρ S).bind λrs S1=>yB n F rs S1):=by
 obtain⟨fa,fd,G,m,kp,b⟩:=G.ex;obtain⟨t,ha,kk⟩:=ha;refine⟨λσ H Q=>t σ H λvs H1=>VM X.g n F vs H1 Q E0,λpins s σ H Q I h=>?_,λα ρ S σ H Q wd sl q=>kk α ρ S σ H _ wd sl (q.bind λvs rs S1 α1 H1 e1 x1 w1 d1 q1=>JP x1 w1 d1 q1)⟩;refine wpAny_Call_Name_kw (qA I hg m ?_ hdb);refine PySem.W.callWith_K (h₀:=X.base) I.ok.mod.kin kp (jX (ha pos pins s σ H _ I h) λus s1 ⟨vs,H1,I1,r,q⟩=>⟨I1.kIn,?_⟩) he hpl;have hl:us.length=ps.length:=by rw[<-r.length];exact G.len _ _ _ _ q
 have hb:=b s1 us I1.kIn (by rw[aN];exact hl);rw[aN]at hb;refine wpAny_call (codeAny_mono (G.run X.A X.stack s1 H1 ⟨us,[]⟩ us vs Q E0 hr (hh.now I1) I1.env0 hb r q) λr s' hq=>?_)
 cases r with
 |error y=>exact hq.elim
 |ok fl=>
  cases fl with
  |ret u=>exact I1.after hq
  |next=>exact False.elim hq
  |brk=>exact False.elim hq
  |cont=>exact False.elim hq
end
def maxF:List Er->zC->R Er
 |[.val (.int i),.val (.int j)],S=>.ok (.val (.int (if j>i then j else i))) S
 |_,_=>.no
def UE:List Er->zC->R Er
 |[.val (.int i),.val (.int j)],S=>.ok (.val (.int (if j<i then j else i))) S
 |_,_=>.no
section
variable{X:Cx}{W:XW}
def Es:iE X W (λxs H Q=> ∃i j,xs=[.int i,.int j]/\Q (.int (if j<i then j else i)) H) UE:=by
 intro rs vs α S H Q wd d post;unfold UE at post;split at post
 .obtain⟨v,u,rfl,dv,du⟩:=Oc d;cases xO dv;cases xO du;exact⟨_,_,rfl,Post.val post wd (xB _)⟩
 .exact post.elim
end
def Et:bootBuiltins "min"=some (.builtin "min"):=by decide+kernel
def Xb(kvs:Zi)(S:zC):R Er:=.ok (.val (.loc S.length)) (S++[.dic kvs])
section
variable{X:Cx}{o e:Expr}{es:Za}
def pM(ks:List (Key×V))(k:Key):Option V:=(ks.find? λp=>decide (p.1=k)).map (·.2)
theorem WM: ∀{ks:List (Key×V)}{vs:List (Key×Value)}(r:KV ks vs)(k:Key),(∀v,pM ks k=some v-> ∃u,valueAt vs k=some u/\RelV v u)/\(pM ks k=none->valueAt vs k=none)
 |_,_,.nil,k=>⟨λv h=>(nomatch h),λ_=>rfl⟩
 |(a,x)::ks,(b,u)::vs,.cons ⟨h1,h2⟩ l,k=>by
  cases (show a=b from h1);have ih:=WM l k;unfold pM valueAt;by_cases c:a=k
  .simp only[find?_cons,c,decide_true,Option.map_some];exact⟨λv h=>⟨u,rfl,by cases h;exact h2⟩,λh=>nomatch h⟩
  .simp only[find?_cons,c,decide_false];exact ih
theorem JZ{α:Yd}{H:Hp}: ∀{kvs:Zi}{ks:List (Key×V)}{k:MV}{k':Key},DenK X.K α H kvs ks->KeyD k k'->(∀d,look kvs k=some d-> ∃v,pM ks k'=some v/\Den X.K α H d v)/\(look kvs k=none->pM ks k'=none)
 |_,_,_,_,.nil,_=>⟨λd h=>(nomatch h),λ_=>rfl⟩
 |_,_,k,k',.cons (k:=k0) (k':=k0') (d:=d0) (v:=v0) h1 h2 l,hk=>by
  have ih:=JZ l hk;rw[JT];unfold pM;by_cases c:k0=k
  .subst c;have:=MI h1 hk;simp only[find?_cons,this,decide_true,Option.map_some,iP rfl];exact⟨λd h=>⟨v0,rfl,by cases h;exact h2⟩,λh=>nomatch h⟩
  .have hn: ¬k0'=k':=λz=>c (GC h1 (z▸hk));simp only[find?_cons,hn,decide_false,iN0 c];exact ih
def TyK(X:Cx)(x:V)(H:Hp):Prop:= ∃d ks,x=.ref d/\DK X H d ks
def Eu:vX X "dict" (TyK X):=by intro pins s σ H x v I rx ⟨d,ks,e,dd⟩;subst e;cases rx;obtain⟨_,hs,vs,kv,o,es,ep,ho,hc,_⟩:=aK I dd;exact⟨⟨o,ho,hc.1⟩,λa e=>by cases e;exact⟨o,ho,hc.2.1⟩⟩
end
section
variable{α β:Type}
def vJ(i:Nat)(ρ:zK)(S:zC):R Er:=Jj (ρ[i]?) S
def kJ(d:MV)(_:zK)(S:zC):R Er:=.ok (.val d) S
def bJ(f:zK->zC->R α)(F:α->zC->R β)(ρ:zK)(S:zC):R β:=(f ρ S).bind F
def dJ(F:Er->Er->zC->R Er)(f g:zK->zC->R Er)(ρ:zK)(S:zC):R Er:=(f ρ S).bind λp S=>(g ρ S).bind λq S=>F p q S
def nJ(f:zK->zC->R Er)(ρ:zK)(S:zC):R Er:=(f ρ S).bind λp S=>(mB p S).bind λk S=>.ok (.val (.bl !k)) S
def aJ(f g:zK->zC->R Er)(ρ:zK)(S:zC):R Er:=(f ρ S).bind λp S=>andF p S λS=>g ρ S
def oJ(f g:zK->zC->R Er)(ρ:zK)(S:zC):R Er:=(f ρ S).bind λp S=>orF p S λS=>g ρ S
def iJ(c:zK->zC->R Bool)(f g:zK->zC->R α)(ρ:zK)(S:zC):R α:=(c ρ S).bind λk S=>if k=true then f ρ S else g ρ S
def mJ(_:zK)(S:zC):R (Option Int):=.ok none S
def tJ(F:Er->Option Int->Option Int->zC->R Er)(f:zK->zC->R Er)(g h:zK->zC->R (Option Int))(ρ:zK)(S:zC):R Er:=(f ρ S).bind λp S=>(g ρ S).bind λl S=>(h ρ S).bind λu S=>F p l u S
def lJ(k:Zi)(_:zK)(S:zC):R Er:=Xb k S
def zJ(_:zK)(S:zC):R Er:=PC S
def fJ(n:Nat)(F:List MV->zC->R Er)(a:zK->zC->R (List Er))(ρ:zK)(S:zC):R Er:=(a ρ S).bind λr S=>yB n F r S
def xJ(n:Nat)(F:List MV->zC->R Er)(a:zK->zC->R (List Er))(ρ:zK)(S:zC):R Er:=(a ρ S).bind λr S=>xH n F r S
def hJ(F:List MV->zC->R Er)(_:zK)(S:zC):R Er:=yB 0 F [] S
def eJ(t:Er->zC->Bool)(F:Er->List Er->zC->R Er)(f:zK->zC->R Er)(a:zK->zC->R (List Er))(ρ:zK)(S:zC):R Er:=(f ρ S).bind λp S=>if t p S=true then(a ρ S).bind λr S=>F p r S else .no
def gJ(t:Er->zC->Bool)(F:Er->List Er->zC->R Er)(f:zK->zC->R Er)(ρ:zK)(S:zC):R Er:=(f ρ S).bind λp S=>if t p S=true then F p [] S else .no
def uJ(_:zK)(S:zC):R Bool:=.ok true S
def pJ(i:zK->zC->R Wk)(g:MV->zK->zC->R zK)(c:zK->zC->R Bool)(e:zK->zC->R Er)(n:Nat)(I:Db)(ρ:zK)(S:zC):R Er:=(i ρ S).bind λk S=>if k.ds.length<1000000 then(xN g c e (BF n I ρ) k.gs k.ds S).bind λo S=>.ok (.new o) S else .no
def jJ(F G:Er->Er->zC->R Er)(f g h:zK->zC->R Er)(ρ:zK)(S:zC):R Er:=(f ρ S).bind λp S=>(g ρ S).bind λq S=>chF F G p q S λS=>h ρ S
def qJ(f:zK->zC->R Bool)(ρ:zK)(S:zC):R Bool:=(f ρ S).bind λk S=>.ok (!k) S
def rJ(f g:zK->zC->R Bool)(ρ:zK)(S:zC):R Bool:=(f ρ S).bind λk S=>if k=true then g ρ S else .ok false S
def sJ(f g:zK->zC->R Bool)(ρ:zK)(S:zC):R Bool:=(f ρ S).bind λk S=>if k=true then .ok true S else g ρ S
def wJ(_:zK)(S:zC):R (List Er):=.ok [] S
def yJ(f:zK->zC->R Er)(g:zK->zC->R (List Er))(ρ:zK)(S:zC):R (List Er):=(f ρ S).bind λp S=>(g ρ S).bind λl S=>.ok (p::l) S
def AJ(f:zK->zC->R Er)(ρ:zK)(S:zC):R Fl:=(f ρ S).bind λr S=>.ok (.ret r) S
def BJ(f:zK->zC->R Er)(ρ:zK)(S:zC):R Fl:=(f ρ S).bind λ_ S=>.ok (.next ρ) S
def CJ(f:zK->zC->R Er)(i:Nat)(ρ:zK)(S:zC):R Fl:=(f ρ S).bind (LO ρ i)
def DJ(F:Er->Er->MV->zK->zC->R zK)(f g:zK->zC->R Er)(d:MV)(ρ:zK)(S:zC):R zK:=(f ρ S).bind λp S=>(g ρ S).bind λq S=>F p q d ρ S
def EJ(f:zK->zC->R Er)(g:MV->zK->zC->R zK)(ρ:zK)(S:zC):R Fl:=(f ρ S).bind (Jm g ρ)
def FJ(i:zK->zC->R Wk)(g:MV->zK->zC->R zK)(b:zK->zC->R Fl)(ρ:zK)(S:zC):R Fl:=(i ρ S).bind λk S=>jC g b k.gs k.ds ρ S
def GJ(a:zK->zC->R (List Er))(c:Str)(ρ:zK)(S:zC):R Fl:=(a ρ S).bind λr S=>if r.length<=10 then .exc c [] S else .no
def HJ(cs:Ye)(i:Nat)(h:zK->zC->R Fl)(n:Nat)(F:List MV->zC->R Er)(a:zK->zC->R (List Er))(ρ:zK)(S:zC):R Fl:=(noX (a ρ S)).bind λr S=>PD cs i (λ_ S=>.ok (.next ρ) S) h ρ (xH n F r S)
def IJ(cs:Ye)(i j:Nat)(h:zK->zC->R Fl)(n:Nat)(F:List MV->zC->R Er)(a:zK->zC->R (List Er))(ρ:zK)(S:zC):R Fl:=(noX (a ρ S)).bind λr S=>PD cs i (LO ρ j) h ρ (xH n F r S)
def JJ(ρ:zK)(S:zC):R Fl:=.ok (.next ρ) S
end
section
variable{p:Pos}{f:zK->zC->R Er}
def augF(F:Er->Er->zC->R Er)(i:Nat)(f:zK->zC->R Er)(ρ:zK)(S:zC):R Fl:=(Jj (ρ[i]?) S).bind λp S1=>(f ρ S1).bind λq S2=>(F p q S2).bind (LO ρ i)
def uY:bootBuiltins "sorted"=some (.builtin "sorted"):=by decide+kernel
end
section
variable{X:Cx}{W:XW}{i:Nat}{Fh:zK->zC->R Fl}{x:Str}{ns:Ye}
def TB(X:Cx)(W:XW)(ns:Ye)(i:Nat)(Fh:zK->zC->R Fl)(hs:List ExceptHandler)(st:Stmt)(bf:zK->zC->R Er):Prop:=
 ∀α ρ S σ H D pins s,Wd X.g α S H->Slots X.K α H ρ σ->PostS X.g W α H D (PD ns i (λ_ S2=>.ok (.next ρ) S2) Fh ρ (bf ρ S))->Inv X pins σ H s->
  wpAny (model X.prog X.w) X.A (exec st X.env) (λf s'=>f=Flow.next/\ ∃H',Inv X pins σ H' s'/\D.nx σ H')
   (λx s1=>wpAny (model X.prog X.w) X.A (noteFrame x X.env) (λ_ s₂=>wpAny (model X.prog X.w) X.A (setFlight x none) (λ_ s₃=>wpAny (model X.prog X.w) X.A (handleBy x X.env hs) (SP X pins D) X.xe s₃) X.xe s₂) X.xe s1) s
end
def KJ(n:Nat)(F:List MV->zC->R Er)(a:zK->zC->R (List Er))(ρ:zK)(S:zC):R Er:=(noX (a ρ S)).bind λr S=>xH n F r S
def LJ(c:zK->zC->R Bool)(f g:zK->zC->R Er)(ρ:zK)(S:zC):R Er:=(noX (c ρ S)).bind λk S=>if k=true then f ρ S else g ρ S
def MJ(cs:Ye)(i:Nat)(h:zK->zC->R Fl)(f:zK->zC->R Er)(ρ:zK)(S:zC):R Fl:=PD cs i (λ_ S=>.ok (.next ρ) S) h ρ (f ρ S)
end M
end L2
namespace L2
open PySem PySem.Spec PyProof.Rows
namespace M
section
variable{f:zK->zC->R Er}{af:zK->zC->R (List Er)}{p:Pos}{m:Str}
def selM(m:Str)(l:List (Str×(List MV->zC->R Er))):Er->Option (List MV->zC->R Er)
 |.val (.obj c ns _)=>if m∈ns then none else l.lookup c
 |_=>none
def NJ(m:Str)(n:Nat)(l:List (Str×(List MV->zC->R Er)))(f:zK->zC->R Er)(af:zK->zC->R (List Er))(ρ:zK)(S:zC):R Er:=(f ρ S).bind λp S=>match selM m l p with
 |some F=>(af ρ S).bind λr S=>yB n F (p::r) S
 |none=>.no
end
def eI:List MV->Option (List (List Nat))
 |[]=>some []
 |.str x::ds=>(eI ds).map (x::·)
 |_::_=>none
theorem WN{K:Zb}{α:Yd}{H:Hp}: ∀{ds:Zd}{zs:Ch}{vs:List V}{us:Yb},eI ds=some zs->DenL K α H ds vs->Vals vs us-> ∃l:List (Str×Tok),us=strValues l/\l.map (·.1)=zs.map kE
 |[],zs,vs,us,e,d,r=>by cases e;rw[d.isnil]at r;cases r;exact⟨[],rfl,rfl⟩
 |x::ds,zs,vs,us,e,d,r=>by
  obtain⟨v,r',rfl,d1,d2⟩:=d.uncons
  cases r with
  |cons a b=>
   cases x<;>first |(cases e)|skip
   rename_i i;unfold eI at e
   cases z:eI ds with
   |none=>rw[z]at e;cases e
   |some ms=>
    rw[z]at e;cases e;cases wV d1;obtain⟨t,rfl⟩:=a;obtain⟨l,rfl,hl⟩:=WN z d2 b;exact⟨(kE i,t)::l,rfl,by rw[map_cons,hl];rfl⟩
section
variable{X:Cx}{W:XW}{a e:Expr}{es:Za}{pos apos:Pos}{f:zK->zC->R Er}{af:zK->zC->R (List Er)}
def Ln:Er->List Er->zC->R Er
 |p,[r],S=>match VO S r with
  |some zs=>sN p S λds=>if ds.length+zs.length<=sizeLine then some (ds++zs)else none
  |none=>.no
 |_,_,_=>.no
def Ah:OS X W VF Ln:=by
 intro p rs x vs α S H0 H Q α0 wd x0 dp da post
 match rs,da,post with
 |[],_,post=>exact post.elim
 |_::_::_,_,post=>exact post.elim
 |[r],da,post=>
  have post:Post X.g W α0 H0 (match VO S r with |some zs=>sN p S λds=>if ds.length+zs.length<=sizeLine then some (ds++zs)else none|none=>.no) Q:=post;split at post
  .rename_i zs hz;obtain⟨v,rfl,dv⟩:=VL da;obtain⟨b,us,rfl,hb,lb⟩:=LU wd hz dv;obtain⟨c,ws,ds,es,rfl,h1,l1,eg,k⟩:=uE wd x0 dp post;split at eg
   .rename_i hl;cases eg;exact⟨c,b,ws,us,rfl,rfl,h1,hb,by rw[l1.length,lb.length];exact hl,k _ (l1.append lb)⟩
   .cases eg
  .exact post.elim
def Ai(ho:yR X W a f)(ha:FL X W (e::es) af)
  (hbase:attributeBase a "extend" X.env (eval a X.env)=eval a X.env:=by rfl)
  (hfew:((backTo pos (starEach (e::es) X.env)).all (λx=>!x.1)&&(backToKw pos (keywordEach [] X.env)).all (λx=>x.1.isSome)
   &&decide ((e::es).length+([]:List Keyword).length+(if([]:List Keyword).isEmpty then 0 else 1)<30))=true:=by rfl)
  (hline:(apos.endLine==pos.line)=true:=by rfl) (hs:starEach (e::es) X.env=(false,eval e X.env)::starEach es X.env:=by rfl) (hplain:(backTo pos (starEach es X.env)).any (·.1)=false:=by rfl):
  yR X W (.Call (.Attribute a "extend" apos) (e::es) [] pos) (λρ S=>(f ρ S).bind λp S1=>if jP p S1=true then(af ρ S1).bind λrs S2=>Ln p rs S2 else .no):=
 LN PySem.F.plainAttrs_list PySem.F.slot_list_extend PySem.F.type_list_extend ZA Ah FR ho ha hbase hfew hline hs hplain
end
theorem KB{K:Zb}{α:Yd}{H:Hp}: ∀(ps:Ch),DenL K α H (ps.map MV.str) (ps.map λp=>V.str (kE p))
 |[]=>yS
 |p::ps=>yK (aG p) (KB ps)
theorem args_sorted1(a:Value):argsOk "sorted" ⟨[a],[]⟩:=by unfold argsOk;kernel_rfl
theorem UF(a:Value):argsOk "list.sort" ⟨[a],[]⟩:=by unfold argsOk;kernel_rfl
open Classical in
def _root_.L2.Room.u128{k:Nat}{A:Around}(r:Room k A):A.units+128<cLine:=by have:=r.un;omega
section
variable{X:Cx}{α:Yd}{S:zC}{H:Hp}{pins:Yi}{σ:St}{s:Shared}{k:Nat}
def KC(d:MV):Prop:= ∃x r,d=.tup (.int x::r)
theorem Lo(I:Inv X pins σ H s)(wd:Wd X.g α S H){A:Around}(hu:A.units+64<cLine){d f:MV}{x y:V}{u v:Value}{k:Bool}(kd:KC d)(kf:KC f)(h1:Den X.K α H d x)(h2:Den X.K α H f y)(rx:RelV x u)(ry:RelV y v)
  (h:DF S zT d f=some k) (prog:Program) (w:World) (E:VP) (Q:Bool->Shared->Prop) (hq:Q k s):wpAny (model prog w) A (keyLt' (tuples' true) u v) Q E s:=by
 obtain⟨x1,r1,rfl⟩:=kd;obtain⟨x2,r2,rfl⟩:=kf;obtain⟨a1,vs1,its1,rfl,l1,v1,t1,_⟩:=TU I h1 rx;obtain⟨a2,vs2,its2,rfl,l2,v2,t2,_⟩:=TU I h2 ry;obtain⟨w1,q1,rfl,d1,m1⟩:=l1.uncons;obtain⟨w2,q2,rfl,d2,m2⟩:=l2.uncons
 cases v1 with
 |@cons _ u1 _ us1 rv1 rr1=>
  cases v2 with
  |@cons _ u2 _ us2 rv2 rr2=>
   have h':(eqv S 39 (.int x1) (.int x2)).bind (λk=>if k=true then SY (eqv S 39) (DF S 39) r1 r2 else DF S 39 (.int x1) (.int x2))=some k:=h;have he:eqv S 39 (.int x1) (.int x2)=some (decide (x1=x2)):=mT 38 x1 x2;have ea:=BG I wd 39 A _ _ _ _ _ _ _ (by omega) d1 d2 rv1 rv2 he;cases xK d1;cases xK d2;obtain⟨tk1,rfl⟩:=rv1;obtain⟨tk2,rfl⟩:=rv2;rw[he]at h';refine Srt.wp_keyLtI t1 t2 ea ?_ hq
   cases hd:decide (x1=x2)with
   |true=>
    rw[hd]at h';rw[iP rfl];have h'':SY (eqv S 39) (DF S 39) r1 r2=some k:=h'
    exact Wy (Cq (λd f x y u v k a b c d' e=>BG I wd 39 A d f x y u v k (by omega) a b c d' e)
     (λd f x y u v k a b c d' e=>SZ I wd 39 A d f x y u v k (by omega) a b c d' e) m1 m2 rr1 rr2 h'')
   |false=>
    rw[hd]at h';rw[iN0 xF0];have h'':(some (decide (x1<x2)):Option Bool)=some k:=h';cases h'';rfl
theorem Xc(I:Inv X pins σ H s)(wd:Wd X.g α S H){A:Around}(hu:A.units+64<cLine){kds:Zd}(hne:kds≠[])(hkind: ∀d,d∈kds->KC d)(ho:OrdD S kds){E':VP}:
  Srt.Cmp (model X.prog X.w) A E' s (tuples' true) (λp=> ∃d v,d∈kds/\Den X.K α H d v/\RelV v p.1) (ltV X.K α H S kds) where
 go x y hx hy st hk Q hq:=by
  obtain⟨v1,d1,r1⟩:=FZ hx;obtain⟨v2,d2,r2⟩:=FZ hy;obtain⟨t,ht⟩:=ho.any _ (aI (K:=X.K) (α:=α) (H:=H) hne x.1) _ (aI (K:=X.K) (α:=α) (H:=H) hne y.1);have e:ltV X.K α H S kds x y=t:=by unfold ltV;rw[ht];rfl
  rw[e]at hq;exact Srt.wp_lt hk (λE Q hq=>Lo I wd hu (hkind _ (aI hne x.1)) (hkind _ (aI hne y.1)) d1 d2 r1 r2 ht X.prog X.w E Q hq) hq
 tr x y z h1 h2:=by unfold ltV at h1 h2 ⊢;have mx:=aI (K:=X.K) (α:=α) (H:=H) hne x.1;have my:=aI (K:=X.K) (α:=α) (H:=H) hne y.1;have mz:=aI (K:=X.K) (α:=α) (H:=H) hne z.1;obtain⟨t1,e1⟩:=ho.any _ my _ mx;obtain⟨t2,e2⟩:=ho.any _ mz _ my;rw[e1]at h1;rw[e2]at h2;have h1:t1=false:=h1;have h2:t2=false:=h2;subst h1 h2;rw[ho.tr _ mx _ my _ mz e1 e2];rfl
 as x y h:=by unfold ltV at h ⊢;have mx:=aI (K:=X.K) (α:=α) (H:=H) hne x.1;have my:=aI (K:=X.K) (α:=α) (H:=H) hne y.1;obtain⟨t1,e1⟩:=ho.any _ mx _ my;rw[e1]at h;have h:t1=true:=h;subst h;rw[ho.as _ mx _ my e1];rfl
def Sn(I:Inv X pins σ H s){A:Around}{kds:Zd}{kvs:List V}{ks:Yb}(hne:kds≠[])(hkind: ∀d,d∈kds->KC d)(dk:DenL X.K α H kds kvs)(vk:Vals kvs ks){E':VP}:
  wpAny (model X.prog X.w) A (keyKind' ks.toArray) (λq s'=>s'=s/\q=tuples' true) E' s:=by
 have ne:ks≠[]:=λz=>by have h1:=vk.length;have h2:=dk.length;rw[z]at h1;exact hne (List.length_eq_zero_iff.mp (by rw[<-h2,h1];rfl))
 have all: ∀u,u∈ks-> ∃d v,d∈kds/\Den X.K α H d v/\RelV v u:=by
  intro u hu;obtain⟨i,hi⟩:=getElem?_of_mem hu;have hl:i<kvs.length:=by rw[vk.length];exact(gS.mp hi).1
  obtain⟨u',h1,r⟩:=vk.get (gE hl);rw[hi]at h1;cases h1;obtain⟨d,h2,h3⟩:=dk.get (gE hl);exact⟨d,_,mem_of_getElem? h2,h3,r⟩
 refine Srt.wp_kindI ne λu hu=>?_;obtain⟨d,v,md,dd,r⟩:=all u hu;obtain⟨x,rr,rfl⟩:=hkind d md;obtain⟨a,vs,its,rfl,l,vv,t,_⟩:=TU I dd r;obtain⟨v1,r1,rfl,d1,_⟩:=l.uncons
 cases vv with
 |@cons _ u1 _ us1 rv rr'=>
  cases xK d1;obtain⟨tk,rfl⟩:=rv;exact⟨a,_,_,tk,us1,rfl,t,rfl⟩
end
section
variable{X:Cx}{α:Yd}{S:zC}{H:Hp}{pins:Yi}{σ:St}{s:Shared}
def Aj(hu:X.A.units+128<cLine)(I:Inv X pins σ H s)(wd:Wd X.g α S H){l:Addr}{xs:List V}{ds:Zd}(hl:SqL X.K H l xs)(dl:DenL X.K α H ds xs)
  (hlen:ds.length<64) (hpu: ∀d,d∈ds->rS d=true) (hkind: ∀d,d∈ds->KC d) (hord:OrdD S ds) {Q:VK}
  (hQ: ∀(idx:Db)(p:Addr)(ys:List V),idx.Perm (List.range ds.length)->idx.Pairwise (λi j=> ∀a c,ds[i]? =some a->ds[j]? =some c->DF S zT c a=some false)->H p=none->
   DenL X.K α H (idx.filterMap (ds[·]?)) ys->Q (.ref p) (xI H p (.lst ys))):wpAny (model X.prog X.w) X.A (call (.builtin "sorted") [.ref l]) (EP X pins σ Q) X.xe s:=by
 obtain⟨its,rv,⟨o,n0,e0,hc0,_,hd0⟩,_⟩:=I.list hl;have isl:s.heap.IsList l its.toArray:=⟨o,e0,hc0,n0,hd0⟩
 have hil:its.length=ds.length:=by rw[<-rv.length,dl.length]
 have hln:=sizeLine_eq;refine call_function_entry_kw kind_sorted plain_sorted entry_sorted (args_sorted1 _) ?_;unfold Builtin.«sorted»;refine wB (m:=checkCount "sorted" 1 1 _) (wP ?_);refine wB (collect_list isl ?_ (by omega));refine wB (wpAny_newList ?_);generalize hh1:(s.heap.push (seqObj "list" #[] 0)).update s.heap.objs.size (Obj.mapSeq (· ++its.toArray))=h1;have hsz:h1.objs.size=s.heap.objs.size+1:=by rw[<-hh1,Heap.size_update,size_push']
 have k1: ∀b u,s.heap.get? b=some u->h1.get? b=some u:=λb u e=>by rw[<-hh1,Heap.get?_update_other _ _ (ne_of_gt (Heap.lt_size e))];exact hP0 _ e
 have hoL:(h1.push (seqObj "list" its.toArray 0)).get? h1.objs.size=some (seqObj "list" its.toArray 0):=Heap.get?_push_size _ rfl;show wpAny _ _ _ _ _ {s with heap:=h1.push (seqObj "list" its.toArray 0)};dsimp only;generalize hL:h1.objs.size=L at *;have sL:s.heap.objs.size<=L:=by omega
 refine wB (wpAny_holding (wpAny_call_entry_kw slot_list_sort ⟨_,hoL,rfl⟩ entry_list_sort (Srt.sort_plainS hoL (by omega) λs2 he2=>?_) (UF _)));dsimp only at he2;generalize hh2:h1.push (seqObj "list" its.toArray 0)=h2 at *;have fL:uQ X pins H L:=I.fpOk sL (I.hok.fresh sL);have k3: ∀b u,s.heap.get? b=some u->s2.heap.get? b=some u:=λb u e=>by rw[he2];refine hP0 _ (hP0 _ ?_);rw[Heap.get?_update_other _ _ (ne_of_gt (lt_of_lt_of_le (Heap.lt_size e) sL)), <-hh2];exact hP0 _ (k1 b u e)
 have I3:Inv X pins σ H s2:=by have:=I.kept (h':=s2.heap) (t':=s.toks) k3;rw[he2]at this ⊢;exact this
 have hu':X.A.in1.in1.units+64<cLine:=by show X.A.units+1+1+64<cLine;omega
 obtain⟨q,gL⟩: ∃q,s2.heap.get? L=some (seqObj "list" #[] q):=by rw[he2];exact⟨_,hP0 _ (hP0 _ (get?_update_seq hoL (λ_=>#[])))⟩
 refine⟨tuples' true,(λp=> ∃d v,d∈ds/\Den X.K α H d v/\RelV v p.1),ltV X.K α H S ds,λhge=>?_,λout op os=>?_⟩
 .have ne:ds≠[]:=λz=>by rw[hil,z]at hge;exact absurd hge (by decide)
  refine⟨Sn I3 ne hkind dl rv,Xc I3 wd hu' ne hkind hord,λp hp=>?_⟩;have hp1:p.1∈its:=(of_mem_zip hp).1;obtain⟨i,hi⟩:=getElem?_of_mem hp1;have hl':i<xs.length:=by rw[rv.length];exact(gS.mp hi).1
  obtain⟨u',h1',r⟩:=rv.get (gE hl');rw[hi]at h1';cases h1';obtain⟨d,h2',h3'⟩:=dl.get (gE hl');exact⟨d,_,mem_of_getElem? h2',h3',r⟩
 .obtain⟨idx,ip,ie⟩:=JW op.symm (List.range ds.length) (Aa hil hil);have ib: ∀i,i∈idx->i<ds.length:=λi hi=>mem_range.mp (ip.mem_iff.mp hi);have eo:out.map (·.2)=idx.filterMap (its[·]?):=by rw[<-ie,map_map];exact GA λi hi=>by rw[hil];exact ib i hi
  have po:idx.Pairwise (λi j=> ∀a c,ds[i]? =some a->ds[j]? =some c->DF S zT c a=some false):=by rw[<-ie,pairwise_map]at os;refine List.Pairwise.imp_of_mem (λ{i j} hi hj h a c ha hc=>?_) os;have ui:its[i]? =some (its[i]'(by rw[hil];exact ib i hi)):=gE _;have uj:its[j]? =some (its[j]'(by rw[hil];exact ib j hj)):=gE _;have h':(DF S zT (MH X.K α H ds ((its[j]?).getD .none)) (MH X.K α H ds ((its[i]?).getD .none))).getD false=false:=h;rw[ui,uj]at h';simp only[Option.getD_some]at h';rw[Eh I3 hpu dl rv ui ha,Eh I3 hpu dl rv uj hc]at h';obtain⟨t,ht⟩:=hord.any c (mem_of_getElem? hc) a (mem_of_getElem? ha);rw[ht]at h';have h':t=false:=h';rw[ht,h']
  have vy:=Vals.pick rv idx;refine⟨_,rfl,wP ⟨_,rfl,.ref L,xI H L (.lst (idx.filterMap (xs[·]?))),?_,rfl,hQ idx L _ ip po (I.hok.fresh sL) (dl.pick idx)⟩⟩;obtain⟨f0,f1,f2,f3,f4,f5⟩:=fL
  have I6:Inv X pins σ H {s2 with heap:=s2.heap.update L (Obj.mapSeq λ_=>(out.map (·.2)).toArray)}:=
   I3.turned (t':=s2.toks) (λb o hb e=>(Heap.get?_update_other _ _ (Ne.symm hb)).trans e) f0 f1 f3 f4 f5
  obtain⟨n',gL2⟩: ∃n',(s2.heap.update L (Obj.mapSeq λ_=>(out.map (·.2)).toArray)).get? L=some (seqObj "list" (idx.filterMap (its[·]?)).toArray n'):=⟨_,by have:=get?_update_seq gL (λ_=>(out.map (·.2)).toArray);rw[eo]at this ⊢;exact this⟩
  refine ZY (its:=idx.filterMap (its[·]?)) I6 ⟨f0,f1,f2,f3,f4,f5⟩ (le_trans I.sz sL) gL2 vy ?_
  .have:=List.length_filterMap_le (xs[·]?) idx;have h3:=ip.length_eq;rw[length_range]at h3;omega
end
structure SrtJ(S:zC)(ds:Zd):Prop where
 len:ds.length<64
 pu: ∀d,d∈ds->rS d=true
 kind: ∀d,d∈ds->KC d
 ord:OrdD S ds
open Classical in
def KD(rs:List Er)(S:zC):R Er:=match rs with
 |[p]=>match hG S p with
  |some ds=>if h: ∃r,SrtJ S ds/\ ∀r',WK S ds ds r'->r'=r then .ok (.new (Classical.choose h)) S else .no
  |none=>.no
 |_=>.no
def WO{p:Er}{S:zC}{ds r:Zd}(e:hG S p=some ds)(ok:SrtJ S ds)(u: ∀r',WK S ds ds r'->r'=r)(ex:WK S ds ds r):KD [p] S=.ok (.new r) S:=by
 unfold KD;dsimp only;rw[e];dsimp only;have h: ∃r,SrtJ S ds/\ ∀r',WK S ds ds r'->r'=r:=⟨r,ok,u⟩
 rw[dif_pos h];obtain⟨_,u'⟩:=Classical.choose_spec h;rw[<-u' r ex]
section
variable{X:Cx}{W:XW}
def Ak(hu:X.A.units+128<cLine):CallR X (.builtin "sorted") (λxs H Q=> ∃α S l vs ds,xs=[.ref l]/\Wd X.g α S H/\SqL X.K H l vs/\DenL X.K α H ds vs/\SrtJ S ds/\
  ∀(idx:Db)(p:Addr)(ys:List V),idx.Perm (List.range ds.length)->idx.Pairwise (λi j=> ∀a c,ds[i]? =some a->ds[j]? =some c->DF S zT c a=some false)->H p=none->DenL X.K α H (idx.filterMap (ds[·]?)) ys->Q (.ref p) (xI H p (.lst ys))):=by
 intro pins s σ H xs us Q I r h;obtain⟨α,S,l,vs,ds,rfl,wd,hl,dl,ok,q⟩:=h;obtain⟨u,rfl,rx⟩:=vals1 r;cases rx;exact Aj hu I wd hl dl ok.len ok.pu ok.kind ok.ord q
def Lp:iE X W (λxs H Q=> ∃α S l vs ds,xs=[.ref l]/\Wd X.g α S H/\SqL X.K H l vs/\DenL X.K α H ds vs/\SrtJ S ds/\
  ∀(idx:Db)(p:Addr)(ys:List V),idx.Perm (List.range ds.length)->idx.Pairwise (λi j=> ∀a c,ds[i]? =some a->ds[j]? =some c->DF S zT c a=some false)->H p=none->DenL X.K α H (idx.filterMap (ds[·]?)) ys->Q (.ref p) (xI H p (.lst ys))) KD:=by
 intro rs vs α S H Q wd d post;unfold KD at post;split at post
 .split at post
  .rename_i ds e;split at post
   .rename_i h;obtain⟨v,rfl,dv⟩:=fH d;obtain⟨l,us,rfl,h1,h2⟩:=sI rfl wd e dv;obtain⟨ok,u⟩:=Classical.choose_spec h;refine⟨α,S,l,us,ds,rfl,wd,h1,h2,ok,λidx p ys i1 i2 hp hd=>?_⟩;have er:=u _ ⟨idx,i1,i2,rfl⟩;rw[er]at hd;exact Post.newl post wd hp hd
   .exact post.elim
  .exact post.elim
 .exact post.elim
end
section
variable{X:Cx}{W:XW}{a b o i e:Expr}{f g:zK->zC->R Er}{pos:Pos}{α:Yd}{H:Hp}{pins:Yi}{σ:St}{s:Shared}
def So:MV->Option Key
 |.int i=>some (.inl i)
 |.str x=>some (.inr (kE x))
 |_=>none
def Lq: ∀{k:MV}{k':Key},So k=some k'->KeyD k k'
 |.int i,_,h=>by cases h;exact rfl
 |.str x,_,h=>by cases h;exact rfl
 |.non,_,h=>nomatch h
 |.bl _,_,h=>nomatch h
 |.tup _,_,h=>nomatch h
 |.scr _,_,h=>nomatch h
 |.loc _,_,h=>nomatch h
 |.typ _,_,h=>nomatch h
 |.obj _ _ _,_,h=>nomatch h
def Lr: ∀{k:MV}{k':Key}{v:V},So k=some k'->Den X.K α H k v->v=kV k'
 |.int i,_,_,h,d=>by cases h;exact xK d
 |.str x,_,_,h,d=>by cases h;exact wV d
 |.non,_,_,h,_=>nomatch h
 |.bl _,_,_,h,_=>nomatch h
 |.tup _,_,_,h,_=>nomatch h
 |.scr _,_,_,h,_=>nomatch h
 |.loc _,_,_,h,_=>nomatch h
 |.typ _,_,_,h,_=>nomatch h
 |.obj _ _ _,_,_,h,_=>nomatch h
def PV: ∀{k:Key}{u:Value},RelV (kV k) u->(yZ X.prog X.w).is k u=true
 |.inl i,_,h=>by obtain⟨t,rfl⟩:=(h: ∃t,_=_);exact DC _ _ i t
 |.inr x,_,h=>by obtain⟨t,rfl⟩:=(h: ∃t,_=_);exact sC _ _ x t
def vY(k:MV):Bool:=(So k).isSome
def Oh{kvs:Zi}{d:Addr}(ob:ObD X.g α H d (.dic kvs))(hk:kvs.all (λp=>vY p.1)=true): ∃ks,DK X H d ks/\DenK X.K α H kvs ks:=by
 rcases ob with⟨ks,h,l⟩|z
 .exact⟨ks,.inl h,l⟩
 .exact False.elim z
def vZ(S:zC):Er->Option (Nat×List (MV×MV))
 |.val (.loc l)=>match S[l]? with
  |some (.dic kvs)=>if kvs.all (λp=>vY p.1)=true then some (l,kvs)else none
  |_=>none
 |_=>none
def Oi{S:zC}(wd:Wd X.g α S H){r:Er}{x:V}{l:Nat}{kvs:Zi}(e:vZ S r=some (l,kvs))(d:DenX X.K α H r x):
  ∃c ks,x=.ref c/\α[l]? =some c/\S[l]? =some (.dic kvs)/\DK X H c ks/\DenK X.K α H kvs ks/\kvs.all (λp=>vY p.1)=true:=by
 unfold vZ at e;split at e
 .rename_i n;obtain⟨c,rfl,h⟩:=eB d;split at e
  .rename_i ks hS;split at e
   .rename_i hk;obtain⟨rfl,rfl⟩:=Prod.mk.inj (Option.some.inj e);obtain⟨xs,dd,l⟩:=Oh (wd.obj _ c _ h hS) hk;exact⟨c,xs,rfl,h,hS,dd,l,hk⟩
   .cases e
  .cases e
 .cases e
def UG{ks:List (Key×V)}{d:Addr}(dd:DK X H d ks):Ub (H d):=by
 rcases dd with z|z
 .rw[z];exact trivial
 .exact False.elim z
def Xd(X:Cx):TSet:=λo i v H Q=> ∃(ks:List (Key×V))(d:Addr)(k:Key),o=.ref d/\i=kV k/\DK X H d ks/\ks.length<sizeLine/\Q (xI H d (.dK (uH ks k v)))
def Al:Pi X (Xd X):=by
 intro pins s σ H o i v ov iv u Q I ro ri rv h;obtain⟨ks,d,k,rfl,rfl,dd,hz,q⟩:=h;cases ro;obtain⟨z,hd,vs,rel,dm⟩:=aK I dd;have hl:ks.length=vs.length:=Paired.length rel;have hp:=GB ks k v;refine wpAny_setItem_pairs (knd:=yZ X.prog X.w) (hsz:=by omega) (PV ri) dm λh' dm' hs'=>⟨_,?_,q⟩
 have he: ∃q,h'.get? d=some q:=let ⟨q,_,_,hq,_⟩:=dm';⟨q,hq⟩;exact I.write (t':=_) (x:=d) (e:=d) (UG dd) (.inl rfl) (λb uo hb eo=>(hs'.2 b hb).trans eo) he ⟨by omega,hd,_,Ei rel _ rv,dm'⟩
def sR(p q:Er)(d:MV)(ρ:zK)(S:zC):R zK:=match q with
 |.val k=>match vZ S p with
  |some (l,kvs)=>if vY k=true/\kvs.length<1000000 then .ok ρ (S.set l (.dic (putK kvs k d)))else .no
  |none=>.no
 |_=>.no
def EL(ho:yR X W o f)(hi:yR X W i g)
  (ha: ∀v,assign (.Subscript o i pos) X.env v=(do
   let ov <-holding [v] (eval o X.env);let iv <-holding [v,ov] (eval i X.env)
   standAt pos
   holding [v,ov,iv] (setItem ov iv v)
   release [v,ov,iv] []):=by intro _;rfl):Qu X W (.Subscript o i pos) (λd ρ S=>(f ρ S).bind λp S1=>(g ρ S1).bind λq S2=>sR p q d ρ S2):=by
 obtain⟨to,ho,fo⟩:=ho;obtain⟨ti,hi,fi⟩:=hi;refine⟨_,Bm ho hi Al ha,λα ρ S σ H d v Q wd sl de q=>fo α ρ S σ H _ wd sl (q.bind λu p S1 α1 H1 e1 x1 w1 d1 q1=>fi α1 ρ S1 σ H1 _ w1 (sl.ext x1) ((q1.shift x1).bind λu2 p2 S2 α2 H2 e2 x2 w2 d2 q2=>?_))⟩
 replace q2:=q2.shift x2
 have d1':=DenX.ext x2 d1.1;have de2:=(de.ext x1).ext x2;unfold sR at q2;split at q2
 .rename_i k;split at q2
  .rename_i l kvs e;split at q2
   .rename_i hk;obtain⟨c,ks,rfl,hc,hS,dd,dl,hall⟩:=Oi w2 e d1';obtain⟨k',hk'⟩:=Option.isSome_iff_exists.mp hk.1;refine⟨ks,c,k',rfl,Lr (X:=X) (α:=α2) (H:=H2) hk' d2.1,dd,?_,?_⟩
    .rw[dl.length];exact lt_of_lt_of_le hk.2 (fits (le_refl _))
    .have xw:=w2.writex hc dd.nf (o:=.dK (uH ks k' v));have sl2:=((sl.ext x1).ext x2).ext xw;exact q2 σ α2 _ xw (w2.write hc dd.nf (.inl ⟨_,zR,(PM (k:=k) dl (Lq hk') de2).ex0 xw.toEx0⟩)) sl2
   .exact q2.elim
  .exact q2.elim
 .exact q2.elim
def Ew{prog:Program}{w:World}{KK:Type}[DecidableEq KK]{knd:KeyKind prog w KK}{A:Around}{E:VP}{s:Shared}{d:Addr}{k:KK}{key:Value}{f:KK->Option Value}{Q:VP}(hkey:knd.is k key=true)(hd:(d==sysModules)=false)(hm:s.heap.MapOf knd d f)
  (h:Q (.bool !(f k).isSome) {s with toks:=s.toks+1}):wpAny (model prog w) A (compareOp .NotIn key (.ref d)) Q E s:=by
 show wpAny _ _ (do return .bool (!(<-contains (.ref d) key))) Q E s;refine wB ?_;unfold contains
 try with_reducible refine wpAny_holding ?_
 refine wB (wpAny_specialOf hm.typeIs slot_dict_contains.lookup ?_);show wpAny _ _ (if(some (Value.builtin "dict.__contains__")==some Value.none)=true then _ else _) _ E s;rw[iN0 (by rw[beq_builtin_none];exact xF0)]
 refine wB (wpAny_callSpecialUnlessNone?_slot (name:=Str.ofString "__contains__") hm.typeIs slot_dict_contains
  (wpAny_call_entry slot_dict_contains hm.typeIs entry_dict_contains ?_ (args_dict_contains _ _)))
 show wpAny _ _ (dictGet d key >>= _) _ _ s;refine wB (wpAny_dictGet_of hkey hm ?_)
 cases hf:f k with
 |some v=>
  rw[hf]at h;show wpAny _ _ (ret (.bool true)) _ _ _;exact wP ⟨_,rfl,wpAny_truthy_bool (wP h)⟩
 |none=>
  rw[hf]at h;show wpAny _ _ (Builtin.Dict.pendingKey? d key >>= _) _ _ _;exact wB (wpAny_pendingKey_other hd (wP ⟨_,rfl,wpAny_truthy_bool (wP h)⟩))
abbrev Sq(X:Cx)(neg:Bool):R2:=λx y H Q=> ∃(ks:List (Key×V))(d:Addr)(k:Key),x=kV k/\y=.ref d/\DK X H d ks/\
 Q (.bl (if neg=true then !(pM ks k).isSome else(pM ks k).isSome)) H
theorem look_same{ks:List (Key×V)}{vs:List (Key×Value)}(r:KV ks vs)(k:Key):(valueAt vs k).isSome=(pM ks k).isSome:=by
 obtain⟨l1,l2⟩:=WM r k
 cases h:pM ks k with
 |none=>rw[l2 h];rfl
 |some v=>obtain⟨u,e,_⟩:=l1 v h;rw[e];rfl
def Ey:OpR X (compareOp .In) (Sq X false):=by intro pins s σ H x y v u Q I rx ry h;obtain⟨ks,d,k,rfl,rfl,dd,q⟩:=h;cases ry;obtain⟨_,hs,vs,rel,dm⟩:=aK I dd;refine wpAny_in_of (knd:=yZ X.prog X.w) (PV rx) hs dm.mapOf ?_;rw[look_same rel k];exact⟨.bl (pM ks k).isSome,H,I.kept (t':=_) (λ_ _ z=>z),rfl,q⟩
def Am:OpR X (compareOp .NotIn) (Sq X true):=by intro pins s σ H x y v u Q I rx ry h;obtain⟨ks,d,k,rfl,rfl,dd,q⟩:=h;cases ry;obtain⟨_,hs,vs,rel,dm⟩:=aK I dd;refine Ew (knd:=yZ X.prog X.w) (PV rx) hs dm.mapOf ?_;rw[look_same rel k];exact⟨.bl !(pM ks k).isSome,H,I.kept (t':=_) (λ_ _ z=>z),rfl,q⟩
def BQ(neg:Bool)(p q:Er)(S:zC):R Er:=match p with
 |.val k=>match vZ S q with
  |some (_,kvs)=>if vY k=true then .ok (.val (.bl (if neg=true then !(look kvs k).isSome else(look kvs k).isSome))) S else .no
  |none=>.no
 |_=>.no
theorem An{kvs:Zi}{ks:List (Key×V)}{k:MV}{k':Key}(l:DenK X.K α H kvs ks)(hk:KeyD k k'):(pM ks k').isSome=(look kvs k).isSome:=by
 obtain⟨g1,g2⟩:=JZ l hk
 cases h:look kvs k with
 |none=>rw[g2 h];rfl
 |some v=>obtain⟨u,e,_⟩:=g1 v h;rw[e];rfl
def MK{neg:Bool}:ZJ X W (Sq X neg) (BQ neg):=by
 intro p q x y α S H Q wd dp dq post;unfold BQ at post;split at post
 .rename_i k;split at post
  .rename_i l kvs e;split at post
   .rename_i hk;obtain⟨c,ks,rfl,_,_,dd,dl,_⟩:=Oi wd e dq;obtain⟨k',hk'⟩:=Option.isSome_iff_exists.mp hk;refine⟨ks,c,k',Lr (X:=X) (α:=α) (H:=H) hk' dp,rfl,dd,?_⟩;rw[An dl (Lq hk')];exact Post.val post wd (gG _)
   .exact post.elim
  .exact post.elim
 .exact post.elim
def Ss(ha:yR X W a f)(hb:yR X W b g)(hm:behindInMarks .In b=false:=by with_unfolding_all rfl):yR X W (.Compare a [.In] [b] pos) (λρ S=>(f ρ S).bind λp S1=>(g ρ S1).bind λq S2=>BQ false p q S2):=SV Ey MK ha hb hm
def Su(ha:yR X W a f)(hb:yR X W b g)(hm:behindInMarks .In b=false:=by with_unfolding_all rfl):RT X W (.Compare a [.In] [b] pos) (λρ S=>((f ρ S).bind λp S1=>(g ρ S1).bind λq S2=>BQ false p q S2).bind mB):=sF Ey MK ha hb hm
def KE(ha:yR X W a f)(hb:yR X W b g)(hm:behindInMarks .NotIn b=false:=by with_unfolding_all rfl):RT X W (.Compare a [.NotIn] [b] pos) (λρ S=>((f ρ S).bind λp S1=>(g ρ S1).bind λq S2=>BQ true p q S2).bind mB):=sF Am MK ha hb hm
end
section
variable{X:Cx}{a b i e:Expr}
def delK(kvs:Zi)(k:MV):List (MV×MV):=kvs.filter λp=>!decide (p.1=k)
def popXF(p:Er)(rs:List Er)(S:zC):R Er:=match rs with
 |[.val k,.val y]=>match vZ S p with
  |some (l,kvs)=>if vY k=true then(match look kvs k with |some d=>.ok (.val d) (S.set l (.dic (delK kvs k)))|none=>.ok (.val y) S)else .no
  |none=>.no
 |_=>.no
def Ls(p:Er)(S:zC):Bool:=(vZ S p).isSome
def Ao{ks:List (Key×V)}{vs:List (Key×Value)}: ∀{us:Yb},KV ks vs->us.length=vs.length->(∀(j:Nat)(v:Value),us[j]? =some v-> ∃(k:Key)(x:Value),vs[j]? =some (k,x)/\(yZ X.prog X.w).is k v=true)->Vals (ks.map λp=>kV p.1) us:=by
 intro us kv;unfold KV at kv
 induction kv generalizing us with
 |nil=>intro hl _;cases us with
  |nil=>exact .nil
  |cons a b=>simp at hl
 |@cons p q ps qs h t ih=>
  intro hl hv
  cases us with
  |nil=>simp at hl
  |cons a b=>
   obtain⟨k,x,e,hi⟩:=hv 0 a rfl;simp only[List.getElem?_cons_zero,Option.some.injEq]at e;subst e;rw[map_cons];refine .cons ?_ (ih (by simpa using hl) λj v hj=>by simpa using hv (j+1) v (by simpa using hj));rw[h.1];rcases xE hi with⟨i,t,e1,e2⟩|⟨i,t,e1,e2⟩
   .subst e2;rw[show k=.inl i from e1];exact⟨t,rfl⟩
   .subst e2;rw[show k=.inr i from e1];exact⟨t,rfl⟩
end
section
variable{X:Cx}{W:XW}{α:Yd}{H:Hp}
def tupKF:List Er->zC->R Er
 |[r],S=>match vZ S r with |some (_,kvs)=>.ok (.val (.tup (kvs.map (·.1)))) S|none=>.no
 |_,_=>.no
def sS:List Er->zC->R Er
 |[r],S=>match vZ S r with |some (_,kvs)=>.ok (.new (kvs.map (·.1))) S|none=>.no
 |_,_=>.no
def PX(hc:X.calm=true):iE X W (λxs H Q=> ∃d ks,xs=[.ref d]/\DK X H d ks/\X.calm=true/\ ∀l,H l=none->Q (.ref l) (xI H l (.lst (ks.map λp=>kV p.1)))) sS:=by
 intro rs vs α S H Q wd d post;unfold sS at post;split at post
 .split at post
  .rename_i n kvs e;obtain⟨v,rfl,dv⟩:=fH d;obtain⟨c,ks,rfl,h1,h2,dd,dl,_⟩:=Oi wd e dv;exact⟨c,ks,rfl,dd,hc,λl hl=>Post.newl post wd hl (BP dl)⟩
  .exact post.elim
 .exact post.elim
def Sv(hc:X.calm=true):iE X W (λxs H Q=> ∃(a:Addr)(bs:Yj),xs=[.ref a]/\SqL X.K H a (bs.map V.bl)/\X.calm=true/\Q (.bl (bs.any id)) H) Kb:=by
 intro rs vs α S H Q wd d post;unfold Kb at post;split at post
 .split at post
  .rename_i bs e;obtain⟨v,rfl,dv⟩:=fH d
   cases z:hG S _ with
   |none=>rw[z]at e;cases e
   |some ds=>
    rw[z]at e;obtain⟨a1,us,rfl,s,l⟩:=sI rfl wd z dv;refine⟨a1,bs,rfl,?_,hc,Post.val post wd (gG _)⟩;rw[<-BI e l];exact s
  .exact post.elim
 .exact post.elim
end
section
variable{X:Cx}{a b:Expr}
def ML:CallR X (.builtin "any") (λxs H Q=> ∃(a:Addr)(bs:Yj),xs=[.ref a]/\SqL X.K H a (bs.map V.bl)/\X.calm=true/\Q (.bl (bs.any id)) H):=by
 intro pins s σ H xs us Q I r h;obtain⟨a,bs,rfl,hq,hc,q⟩:=h;obtain⟨u,rfl,ru⟩:=vals1 r;cases ru;obtain⟨its,rv,pl,hz⟩:=I.list hq;have hlen:its.length=bs.length:=by rw[<-rv.length,lM0]
 refine PySem.call_any_walk (wpAny_pyIter_list pl.isList ?_);have hI:a≠s.heap.objs.size:=by obtain⟨o,ho,_⟩:=pl.isList;exact ne_of_lt (Heap.lt_size ho)
 have I1: ∀(h':Heap)(tk:Nat),(∀b o,b∉[s.heap.objs.size]->(s.heap.push {cls:=.type "list_iterator",data:=.fields #[.ref a,.int 0 0]}).get? b=some o->h'.get? b=some o)->Inv X pins σ H {s with heap:=h',toks:=tk}:=λh' tk k=>
  I.kept λb o e=>k b o (by simpa using ne_of_lt (Heap.lt_size e)) (hP0 _ e)
 refine⟨s.heap.objs.size,[s.heap.objs.size,a],[s.heap.objs.size],its.toArray.size,_,_,λi=>bs.getD i false,rfl,PySem.Walks.list (by first |exact I.ok.hd hc|exact(show X.A.in1.handled=none from I.ok.hd hc)) _ a hI its.toArray,⟨⟨_,Heap.get?_push_size _ rfl,rfl,rfl⟩,pl.isList.at λo e=>hP0 _ e⟩,?_,λh' tk k=>?_⟩
 .intro i v s' Q' E' hv hQ';have hv':its[i]? =some v:=by simpa using hv
  have hi:i<bs.length:=by rw[<-hlen];exact(gS.mp hv').1
  have hb:(bs.map V.bl)[i]? =some (V.bl (bs.getD i false)):=by rw[getElem?_map,gE hi];simp[getD_eq_getElem?_getD,hi]
  obtain⟨u',hu',rv'⟩:=rv.get hb;rw[hv']at hu';cases hu';cases rv';exact wpAny_truthy_bool hQ'
 .refine⟨.bl (bs.any id),H,I1 h' tk k,?_,q⟩;show Value.bool _=Value.bool _;congr 1;rw[sA,hlen]
  have: ∀(l:Yj),(List.range l.length).any (λi=>l.getD i false)=l.any id:=by
   intro l;rw[Bool.eq_iff_iff,any_eq_true,any_eq_true];constructor
   .rintro⟨i,hi,h⟩;have hi':=mem_range.mp hi;exact⟨l[i],getElem_mem hi',by simpa [getD_eq_getElem?_getD,hi']using h⟩
   .rintro⟨x,hx,h⟩;obtain⟨i,hi,rfl⟩:=getElem_of_mem hx;exact⟨i,mem_range.mpr hi,by simpa [getD_eq_getElem?_getD,hi]using h⟩
  exact this bs
def shrC(i j:Int):Prop:=0<=j
instance(i j:Int):Decidable (shrC i j):=inferInstanceAs (Decidable (_<=_))
end
end M
end L2
namespace PySem
def MM:typeLookup (.type "list") "keys"=pure none:=am_miss_of_fast (by decide+kernel)
def getAttr?_miss_list{prog:Program}{w:World}{A:Around}{E:VP}{s:Shared}{a:Addr}{o:Obj}{xs:Yc}{k:Nat}{name:Str}{Q:Option Value->Shared->Prop}
  (hx:s.heap.get? a=some o) (hc:o.cls=.type "list") (hdat:o.data=.seq xs k) (hd:o.dict=none) (hmiss:typeLookup (.type "list") name=pure none) (hname:(["__module__","__name__","__qualname__","__doc__","__annotations__"]:Ye).contains name=false) (hA:A.handled=none)
  (h: ∀h' tk,(∀b o,s.heap.get? b=some o->h'.get? b=some o)->Q none {s with heap:=h',toks:=tk}) (hsz:name.length+100<=sizeLine:=by size_fits):
  wpAny (model prog w) A (getAttr? (.ref a) name) Q E s:=by
 obtain⟨c,dct,dat,sl⟩:=o;simp only at hc hdat hd;subst hc hdat hd;obtain⟨hp,g,d,tk,os⟩:=s;have hT: ∀tk',(⟨hp,g,d,tk',os⟩:Shared).TypeIs (.ref a) "list":=λ_=>⟨_,hx,rfl⟩
 have f1:=sub_AttributeError;have f3:=F.slot_list_getattribute.lookup;have f4:=F.slot_list_getattribute.bind (.ref a);have f5:=am_list_getattr_none;unfold getAttr? getAttrBy? getAttrBy
 repeat (any_goals (first |assumption|exact hT _|((with_reducible show wpAny _ _ (call (Value.builtin "list.__getattribute__") _ _) _ _ _);refine call_meets F.slot_list_getattribute (hT _) am_entry_list_getattribute (F.args_list_getattribute_2 _ _) (meets_getattribute_miss_list a xs k sl name _ hmiss hname hsz) ⟨hx,hA,λh' tk' e hx'=>?_⟩)|wp_step))
 obtain⟨t',u',he⟩:=hx'.there;show wpAny _ _ (getattributeRaised _ _ _ _ _ _ _) _ _ _;unfold getattributeRaised
 repeat (any_goals (first |assumption|wp_step))
 exact h _ _ hx'.keeps
namespace F
def entry_dict_update_loop:entryFor table "dict.update.loop"=some Builtin.«dict.update.loop»:=entryFor_of_tree (by kernel_rfl)
def plain_dict_update_loop:plainId "dict.update.loop"=true:=by decide+kernel
end F
open PyProof.Rows
section
variable{prog:Program}{w:World}{K:Type}[DecidableEq K]{knd:KeyKind prog w K}{A:Around}{E:VP}{s:Shared}{R:Result->Shared->Prop}
def UH(knd:KeyKind prog w K)(h:Heap)(kv:K×Value)(v:Value):Prop:= ∃a key,v=.ref a/\IsTup h a #[key,kv.2]/\knd.is kv.1 key=true
def AA{I D:Addr}{fp:Yd}{n:Nat}{P:Nat->Value->Prop}{St:Nat->Heap->Prop}(W:Walks prog w A.in1 I fp [I] n P St)(hDf:D∉fp)(kvs:List (K×Value))(hn:kvs.length=n)(hz:n<=sizeLine){h₀:Heap}
  (hP: ∀i v,P i v-> ∃kv,kvs[i]? =some kv/\UH knd h₀ kv v) (hI:h₀.get? I=none) (hD:h₀.get? D=none):
  ∀(k i:Nat)(j:Int)(s:Shared),n - i=k->i<=n->St i s.heap->s.heap.DictOf knd D (merged [] (kvs.take i))->(∀b o,h₀.get? b=some o->s.heap.get? b=some o)->
   (∀h' tk,(∀b o,h₀.get? b=some o->h'.get? b=some o)->h'.DictOf knd D (merged [] kvs)->R (.ok (.ret .none)) {s with heap:=h',toks:=tk})->
   codeAny (model prog w) A (.builtin "dict.update.loop" ⟨[.ref D,.ref I,rawInt j,.none],[]⟩) R s:=by
 have hDI:D≠I:=λe=>hDf (e▸W.sub _ (mS.mpr rfl));intro k
 induction k with
 |zero=>
  intro i j s hk hi hst hS hkeep hR;have hin:i=n:=by omega
  subst hin;refine codeAny_builtin F.entry_dict_update_loop ?_;rw[Around.under_plainId F.plain_dict_update_loop _];show wpAny _ A.in1 (pyNext (.ref I) >>= _) _ _ s;refine wB (W.done s _ _ hst λh' tk hk'=>?_);show wpAny _ A.in1 (Builtin.Dict.addKeywords D [] >>= λ_=>ret Value.none) _ _ _;refine wB (wP ?_);rw[<-hn,List.take_length]at hS;refine wP (hR h' tk (λb o e=>?_) ?_)
  .exact hk' b o (λh=>by rw[mS.mp h,hI]at e;cases e) (hkeep b o e)
  .obtain⟨o,es,ep,ho,rest⟩:=hS;exact⟨o,es,ep,hk' D o (λh=>hDI (mS.mp h)) ho,rest⟩
 |succ k ih=>
  intro i j s hk hi hst hS hkeep hR;have hlt:i<n:=by omega
  refine codeAny_builtin F.entry_dict_update_loop ?_;rw[Around.under_plainId F.plain_dict_update_loop _];show wpAny _ A.in1 (pyNext (.ref I) >>= _) _ _ s;refine wB (W.item i s _ _ hlt hst λv h' tk hPv hst' hk'=>?_);obtain⟨kv,hkv,a,key,rfl,hT,hkey⟩:=hP i v hPv;have hkeep': ∀b o,h₀.get? b=some o->h'.get? b=some o:=λb o e=>hk' b o (λh=>by rw[mS.mp h,hI]at e;cases e) (hkeep b o e);have hS':h'.DictOf knd D (merged [] (kvs.take i)):=by obtain⟨o,es,ep,ho,rest⟩:=hS;exact⟨o,es,ep,hk' D o (λh=>hDI (mS.mp h)) ho,rest⟩
  obtain⟨o,ho,hc,nn,hdat⟩:=hT.keeps hkeep';have hTI:Shared.TypeIs {s with heap:=h',toks:=tk} (.ref a) "tuple":=⟨o,ho,hc⟩
  refine wB (wpAny_holding ?_);refine wB (wpAny_tryCatch ?_);unfold Builtin.Dict.pairItems;refine wB (wpAny_typeOf hTI ?_);rw[iP (by decide)];refine wB ?_;show wpAny _ _ (do match (<-load a).data with |.seq xs _=>pure (some xs)|_=>pure none) _ _ _;refine wB (wpAny_load ho ?_);rw[hdat];refine wP (wP ?_);show wpAny _ _ (holding [key,kv.2] (dictSet D key kv.2)) _ _ _;refine wpAny_holding ?_;have hlen:=merged_length_le [] (kvs.take i);have hl2:(kvs.take i).length<=n:=by rw[<-hn];exact List.length_take_le' i kvs
  refine wpAny_dictSet_pairs (s:={s with heap:=h',toks:=tk}) (hsz:=by rw[length_nil]at hlen;omega) hkey hS' λh2 hd2 hs2=>?_;have hkeep2: ∀b o,h₀.get? b=some o->h2.get? b=some o:=λb o e=>by rw[hs2.2 b (λh=>by rw[h,hD]at e;cases e)];exact hkeep' b o e
  refine wP ⟨plainId_quiet F.plain_dict_update_loop _,ih (i+1) (j+1) _ (by omega) hlt (W.frame _ _ _ hst' λb hb o e=>?_) ?_ hkeep2 λh3 tk3 k3 d3=>hR h3 tk3 k3 d3⟩
  .rw[hs2.2 b (λh=>hDf (h▸hb))];exact e
  .rw[merged_take_succ _ _ _ _ hkv];exact hd2
def DZ{l:Addr}{its:Yc}{o:Obj}{c:Nat}{kvs:List (K×Value)}{Q:VP}(hA:A.handled=none)(ho:s.heap.get? l=some o)(hc:o.cls=.type "list")(hd:o.dict=none)(hdat:o.data=.seq its c)(hlen:its.size=kvs.length)(hz:its.size<=sizeLine)
  (hP: ∀(i:Nat) v,its[i]? =some v-> ∃kv,kvs[i]? =some kv/\UH knd s.heap kv v)
  (h: ∀h' tk,(∀b o,s.heap.get? b=some o->h'.get? b=some o)->h'.DictOf knd s.heap.objs.size (merged [] kvs)->Q (.ref s.heap.objs.size) {s with heap:=h',toks:=tk}):
  wpAny (model prog w) A (call (.type "dict") [.ref l]) Q E s:=by
 refine callType_codes (Q₁:=λobj s₁=>obj=.ref s.heap.objs.size/\s₁={s with heap:=s.heap.push {cls:=.type "dict",data:=.dict #[]}}) F.kt_called_dict (F.kt_typeCall_dict_1 _) F.entry_dict_init (kt_code_dict_new _ ⟨rfl,rfl⟩) ?_;rintro obj s₁ ⟨rfl,rfl⟩;have hnew:(s.heap.push {cls:=.type "dict",data:=.dict #[]}).DictOf knd s.heap.objs.size []:=Heap.DictOf.new s.heap;have ho':(s.heap.push {cls:=.type "dict",data:=.dict #[]}).get? l=some o:=hP0 _ ho;have hl0:=Heap.lt_size ho;refine⟨hnew.typeIs,F.args_dict_init_2 _ _,?_⟩;unfold Builtin.«dict.__init__»;refine wB ?_;unfold Builtin.Dict.selfAndRest;refine wB (wpAny_notOrdered_dict hnew.typeIs ?_);show wpAny _ _ (pure (s.heap.objs.size,[Value.ref l])) _ _ _;refine wP ?_;show wpAny _ _ (Builtin.Dict.updateFrom "dict.__init__" s.heap.objs.size (.ref l) [] .none) _ _ _;unfold Builtin.Dict.updateFrom;refine wB (wpAny_typeOf (T:="list") ⟨o,ho',hc⟩ ?_);rw[iP (by decide)];refine wB (getAttr?_miss_list ho' hc hdat hd MM (by decide+kernel) hA (λh1 tk1 k1=>?_) (by decide+kernel));rw[iP (show(none:Option Value).isNone=true from rfl)];refine wB (wpAny_rule ?_);have ho1:=k1 l o ho';refine wB (wpAny_pyIter_list (items:=its) ⟨o,ho1,hc,c,hdat⟩ ?_);have hI:l≠h1.objs.size:=ne_of_lt (Heap.lt_size ho1);have hsz:s.heap.objs.size<h1.objs.size:=by obtain⟨oo,_,_,hg,_⟩:=hnew;exact Heap.lt_size (k1 _ _ hg)
 refine wP ⟨plainId_quiet F.plain_dict_update_loop _,AA (knd:=knd) (h₀:=s.heap) (D:=s.heap.objs.size) (Walks.list (by first |exact hA|exact(show A.in1.in1.handled=none from hA)) h1.objs.size l hI its) ?_ kvs hlen.symm hz hP ?_ ?_ _ 0 0 _ rfl (zero_le _) ⟨⟨_,Heap.get?_push_size _ rfl,rfl,rfl⟩,⟨o,hP0 _ ho1,hc,c,hdat⟩⟩ ?_ ?_ λh' tk hk hd'=>?_⟩
 .rw[mC,mS];rintro(e|e)
  .exact ne_of_lt hsz e
  .exact ne_of_lt hl0 e.symm
 .cases hg:s.heap.get? h1.objs.size with
  |none=>rfl
  |some oo=>exact absurd (Heap.lt_size hg) (Nat.lt_asymm hsz)
 .cases hg:s.heap.get? s.heap.objs.size with
  |none=>rfl
  |some oo=>exact absurd (Heap.lt_size hg) (lt_irrefl _)
 .obtain⟨oo,es,ep,hg,rest⟩:=hnew;exact⟨oo,es,ep,hP0 _ (k1 _ _ hg),rest⟩
 .intro b oo e;exact hP0 _ (k1 _ _ (hP0 _ e))
 .exact⟨rfl,h h' tk hk hd'⟩
end
end PySem
namespace L2
namespace M
open PySem PySem.Spec PyProof.Rows
section
variable{X:Cx}{W:XW}{α:Yd}{H:Hp}{pins:Yi}{σ:St}{s:Shared}
def KF(ps:List (Key×V)):List (Key×V):=ps.foldl (λacc p=>uH acc p.1 p.2) []
inductive PairsV(K:Zb)(H:Hp):List V->List (Key×V)->Prop
 |nil:PairsV K H [] []
 |cons {a:Addr} {k:Key} {v:V} {vs ps}:SqT K H a [kV k,v]->PairsV K H vs ps->PairsV K H (.ref a::vs) ((k,v)::ps)
def WP{ps:List (Key×V)}{qs:List (Key×Value)}(r:KV ps qs): ∀{as:List (Key×V)}{bs:List (Key×Value)},KV as bs->KV (ps.foldl (λacc p=>uH acc p.1 p.2) as) (merged bs qs):=by
 unfold KV at r
 induction r with
 |nil=>intro as bs h;exact h
 |@cons p q ps qs h t ih=>
  intro as bs hb;rw[foldl_cons];show KV _ (merged (stored bs q.1 q.2) qs);rw[h.1];exact ih (Ei hb _ h.2)
def Ez(I:Inv X pins σ H s){vs:List V}{ps:List (Key×V)}(r:PairsV X.K H vs ps): ∀{us:Yb},Vals vs us-> ∃qs:List (Key×Value),KV ps qs/\qs.length=us.length/\ ∀(i:Nat) v,us[i]? =some v-> ∃kv,qs[i]? =some kv/\UH (yZ X.prog X.w) s.heap kv v:=by
 induction r with
 |nil=>intro us h;cases h;exact⟨[],.nil,rfl,λi v h=>by simp at h⟩
 |@cons a k v vs ps hq t ih=>
  intro us h
  cases h with
  |@cons _ u _ us ru rt=>
   cases ru;obtain⟨qs,h1,h2,h3⟩:=ih rt;obtain⟨its,r',pl,hz⟩:=I.tuple hq;obtain⟨u1,u2,rfl,q1,q2⟩:=vals2 r';refine⟨(k,u2)::qs,.cons ⟨rfl,q2⟩ h1,by rw[lC0,lC0,h2],λi w hw=>?_⟩
   cases i with
   |zero=>
    cases hw;exact⟨_,rfl,a,u1,rfl,pl,PV q1⟩
   |succ i=>exact h3 i w hw
def Ap(ps:List (Key×V)):(KF ps).length<=ps.length:=by
 have: ∀(ps as:List (Key×V)),(ps.foldl (λacc p=>uH acc p.1 p.2) as).length<=as.length+ps.length:=by
  intro ps
  induction ps with
  |nil=>intro as;exact le_refl _
  |cons p ps ih=>
   intro as;rw[foldl_cons,lC0];have:=ih (uH as p.1 p.2);have:=GB as p.1 p.2;omega
 have:=this ps [];rw[length_nil,zero_add]at this;exact this
def UI{K:Zb}{vs:List V}{ps:List (Key×V)}(r:PairsV K H vs ps):ps.length=vs.length:=by
 induction r with
 |nil=>rfl
 |cons _ _ ih=>rw[lC0,lC0,ih]
def KG:CallR X (.type "dict") (λxs H Q=> ∃l vs ps,xs=[.ref l]/\SqL X.K H l vs/\PairsV X.K H vs ps/\X.calm=true/\ ∀d,H d=none->Q (.ref d) (xI H d (.dK (KF ps)))):=by intro pins s σ H xs us Q I r h;obtain⟨l,vs,ps,rfl,hq,hp,hc,q⟩:=h;obtain⟨u,rfl,rx⟩:=vals1 r;cases rx;obtain⟨its,rv,⟨o,n,ho,hcl,hd,hdat⟩,hz⟩:=I.list hq;obtain⟨qs,h1,h2,h3⟩:=Ez I hp rv;have hl:=rv.length;refine DZ (knd:=yZ X.prog X.w) (kvs:=qs) (I.ok.hd hc) ho hcl hd hdat (by rw[sA,h2]) (by rw[sA];omega) (λi v e=>h3 i v (by simpa using e)) λh' tk hk hdd=>?_;have hpl:=UI hp;have hf:=Ap ps;refine⟨.ref s.heap.objs.size,_,I.laid (t':=tk) hk (le_refl _) (show ObjOk X.prog X.w _ h' _ (.dK (KF ps))from⟨by omega,beq_eq_false_iff_ne.mpr (Ne.symm (ne_of_lt (TN I))),_,WP h1 .nil,hdd⟩),rfl,q _ (I.hok.fresh (le_refl _))⟩
def sT:List MV->Option (List (MV×MV))
 |[]=>some []
 |.tup [k,v]::r=>if vY k=true then(sT r).map ((k,v)::·)else none
 |_::_=>none
def Fa(ps:Zi):List (MV×MV):=ps.foldl (λacc p=>putK acc p.1 p.2) []
theorem GI{K:Zb}: ∀{ds:Zd}{kvs:Zi}{vs:List V},sT ds=some kvs->DenL X.K α H ds vs-> ∃ps,PairsV X.K H vs ps/\DenK X.K α H kvs ps
 |[],kvs,vs,e,l=>by cases e;rw[l.isnil];exact⟨[],.nil,.nil⟩
 |d::ds,kvs,vs,e,l=>by
  obtain⟨v,r,rfl,dv,l'⟩:=l.uncons;unfold sT at e;split at e
  .cases (by assumption:d::ds=[])
  .rename_i k y r' hd;obtain⟨rfl,rfl⟩:=List.cons.inj hd;split at e
   .rename_i hk
    cases z:sT ds with
    |none=>rw[z]at e;cases e
    |some ms=>
     rw[z]at e;cases e;obtain⟨ps,p1,p2⟩:=GI (K:=K) z l';obtain⟨a,us,rfl,hs,hl⟩:=wG dv;obtain⟨v1,r1,rfl,d1,l1⟩:=hl.uncons;obtain⟨v2,r2,rfl,d2,l2⟩:=l1.uncons;have e2:=l2.isnil;subst e2;obtain⟨k',hk'⟩:=Option.isSome_iff_exists.mp hk;have e1:=Lr (X:=X) hk' d1;subst e1;exact⟨(k',v2)::ps,.cons hs p1,.cons (Lq hk') d2 p2⟩
   .cases e
  .cases e
theorem BR: ∀{kvs:Zi}{ps:List (Key×V)},DenK X.K α H kvs ps-> ∀{as:Zi}{bs:List (Key×V)},DenK X.K α H as bs->DenK X.K α H (kvs.foldl (λacc p=>putK acc p.1 p.2) as) (ps.foldl (λacc p=>uH acc p.1 p.2) bs)
 |_,_,.nil,as,bs,h=>h
 |_,_,.cons (k:=k) (k':=k') hk a l,as,bs,h=>by rw[foldl_cons,foldl_cons];exact BR l (PM h hk a)
def PY:List Er->zC->R Er
 |[r],S=>match (hG S r).bind sT with |some kvs=>.ok (.val (.loc S.length)) (S++[.dic (Fa kvs)])|none=>.no
 |_,_=>.no
def WQ:bootBuiltins "dict"=some (.type "dict"):=by decide+kernel
def WR(hc:X.calm=true):iE X W (λxs H Q=> ∃l vs ps,xs=[.ref l]/\SqL X.K H l vs/\PairsV X.K H vs ps/\X.calm=true/\ ∀d,H d=none->Q (.ref d) (xI H d (.dK (KF ps)))) PY:=by
 intro rs vs α S H Q wd d post;unfold PY at post;split at post
 .split at post
  .rename_i kvs e;obtain⟨v,rfl,dv⟩:=fH d
   cases z:hG S _ with
   |none=>rw[z]at e;cases e
   |some ds=>
    rw[z]at e;obtain⟨a1,us,rfl,sq,l⟩:=sI rfl wd z dv;obtain⟨ps,p1,p2⟩:=GI (X:=X) (K:=X.K) e l;refine⟨a1,us,ps,rfl,sq,p1,hc,λp hp=>?_⟩;have xn:=wd.newx (o:=.dK (KF ps)) hp;obtain⟨x,w'⟩:=wd.put (ho:=.dK (KF ps)) (m:=.dic (Fa kvs)) hp (.inl ⟨_,zR,(BR p2 .nil).ex0 ⟨⟨[p],rfl⟩,xn.tup,xn.frz⟩⟩);exact post (.ref p) (α++[p]) _ x w' (DenE.val (qD (by rw[<-wd.len,getElem?_append_right (le_refl _),sub_self];rfl)))
  .exact post.elim
 .exact post.elim
end
section
variable{X:Cx}{W:XW}{b o e:Expr}{es:Za}{f:zK->zC->R Er}{af:zK->zC->R (List Er)}{apos pos:Pos}{α:Yd}{H:Hp}{pins:Yi}{σ:St}{s:Shared}
def PZ(ks ps:List (Key×V)):List (Key×V):=ps.foldl (λacc p=>uH acc p.1 p.2) ks
theorem KH: ∀(ps ks:List (Key×V)),(PZ ks ps).length<=ks.length+ps.length
 |[],ks=>le_refl _
 |p::ps,ks=>by have h1:=KH ps (uH ks p.1 p.2);have h2:=GB ks p.1 p.2;show(PZ (uH ks p.1 p.2) ps).length<=_;rw[lC0];omega
def Oj(X:Cx):V->List V->Hp->VK->Prop:=λx vs H Q=> ∃(ks ps:List (Key×V))(d p:Addr),x=.ref d/\vs=[.ref p]/\d≠p/\DK X H d ks/\DK X H p ps/\ks.length+ps.length<2000000/\Q .non (xI H d (.dK (PZ ks ps)))
def Lu:Nv X "dict.update" (Oj X):=by
 intro pins s σ H x vs v us Q I rx rv h;obtain⟨ks,ps,d,p,rfl,rfl,hne,dd,dp,hz,q⟩:=h;obtain⟨u1,rfl,r1⟩:=vals1 rv;cases rx;cases r1;have hT:s.TypeIs (.ref d) "dict":=(Eu pins s σ H (.ref d) (.ref d) I rfl ⟨d,ks,rfl,dd⟩).1;obtain⟨z,hs,vs,kv,dm⟩:=aK I dd;obtain⟨z2,hs2,vs2,kv2,dm2⟩:=aK I dp;have hl:ks.length=vs.length:=Paired.length kv;have hl2:ps.length=vs2.length:=Paired.length kv2;have hS:=sizeLine_eq
 refine call_meetsIn PySem.F.slot_dict_update hT PySem.F.entry_dict_update (PySem.F.args_dict_update_2 _ _) (meets_dict_update (yZ X.prog X.w) d p hne hs2)
  ⟨vs,vs2,dm,dm2,by rw[hS];omega,λh' hm _ hb=>?_⟩
 have he': ∃q,h'.get? d=some q:=let ⟨q,_,_,hq,_⟩:=hm;⟨q,hq⟩;have hol:=KH ps ks;refine⟨.non,xI H d (.dK (PZ ks ps)),?_,rfl,q⟩;exact I.write (t':=_) (x:=d) (e:=d) (UG dd) (.inl rfl) (λb uo hb' eo=>(hb.2 b hb').trans eo) he' ⟨by rw[hS];omega,hs,_,WP kv2 kv,hm⟩
def WS(kvs ps:Zi):List (MV×MV):=ps.foldl (λacc p=>putK acc p.1 p.2) kvs
def KI(p:Er)(rs:List Er)(S:zC):R Er:=match rs with
 |[r]=>match vZ S p with
  |some (l,kvs)=>match vZ S r with
   |some (m,ps)=>if l≠m/\kvs.length+ps.length<1000000 then .ok (.val .non) (S.set l (.dic (WS kvs ps)))else .no
   |none=>.no
  |none=>.no
 |_=>.no
def Lv:OS X W (Oj X) KI:=by
 intro p rs x vs α S H0 H Q α0 wd x0 dp da post;unfold KI at post;split at post
 .rename_i r;split at post
  .rename_i l kvs ed;split at post
   .rename_i m ps er;split at post
    .rename_i hc
     cases da with
     |cons dv n1 l1=>
     cases l1;obtain⟨c,ks,rfl,h1,hS,DDx,dl,_⟩:=Oi wd ed dp;obtain⟨c2,ks2,rfl,h2,hS2,DDx2,dl2,_⟩:=Oi wd er dv.1;have hne:c≠c2:=λz=>hc.1 (by subst z;exact(List.getElem?_inj (gS.mp h1).1 wd.nd).mp (h1.trans h2.symm));have e1:ks.length=kvs.length:=DenK.length dl;have e2:ks2.length=ps.length:=DenK.length dl2;refine⟨ks,ks2,c,c2,rfl,rfl,hne,DDx,DDx2,by omega,?_⟩;have xw:=wd.writex h1 DDx.nf (o:=.dK (PZ ks ks2));exact(Post.shift (x0.trans xw) post).val (wd.write h1 DDx.nf (.inl ⟨_,zR,(BR dl2 dl).ex0 xw.toEx0⟩)) fP
    .exact post.elim
   .exact post.elim
  .exact post.elim
 .exact post.elim
def Lw(ho:yR X W o f)(ha:FL X W (e::es) af)
  (hbase:attributeBase o "update" X.env (eval o X.env)=eval o X.env:=by rfl)
  (hfew:((backTo pos (starEach (e::es) X.env)).all (λx=>!x.1)&&(backToKw pos (keywordEach [] X.env)).all (λx=>x.1.isSome)
   &&decide ((e::es).length+([]:List Keyword).length+(if([]:List Keyword).isEmpty then 0 else 1)<30))=true:=by rfl)
  (hline:(apos.endLine==pos.line)=true:=by rfl) (hs:starEach (e::es) X.env=(false,eval e X.env)::starEach es X.env:=by rfl) (hplain:(backTo pos (starEach es X.env)).any (·.1)=false:=by rfl):
  yR X W (.Call (.Attribute o "update" apos) (e::es) [] pos) (λρ S=>(f ρ S).bind λp S1=>if Ls p S1=true then(af ρ S1).bind λrs S2=>KI p rs S2 else .no):=by
 obtain⟨to,ho,fo⟩:=ho;obtain⟨t,ha,k⟩:=ha;refine⟨_,Sk Eu PySem.F.plainAttrs_dict PySem.F.slot_dict_update PySem.F.type_dict_update Lu ho ha hbase hfew hline hs hplain,λα ρ S σ H Q wd sl q=>fo α ρ S σ H _ wd sl (q.bind λu p S1 α1 H1 e1 x1 w1 d1 q1=>?_)⟩;split at q1
 .rename_i hz;obtain⟨⟨l,kvs⟩,hz⟩:=Option.isSome_iff_exists.mp hz;obtain⟨c,xs,rfl,_,_,dd,_⟩:=Oi w1 hz d1.1;exact⟨⟨c,xs,rfl,dd⟩,k α1 ρ S1 σ H1 _ w1 (sl.ext x1) ((q1.shift x1).bind λvs rs S2 α2 H2 e2 x2 w2 d2 q2=>Lv p rs _ vs α2 S2 H1 H2 Q α1 w2 x2 (d1.1.ext x2) d2 q2)⟩
 .exact q1.elim
end
section
variable{X:Cx}{W:XW}{a b:Expr}{f g:zK->zC->R Er}{pos:Pos}
open Classical in
def QC(n:Nat)(p q:Er)(S:zC):R Er:=match p with
 |.val k=>match q with
  |.val d=>if vY k=true/\S[n]? =some (.dic [])then .ok (.val (.loc n)) (S.set n (.dic [(k,d)]))else .no
  |_=>.no
 |_=>.no
def Fc(ha:yR X W a f)(hb:yR X W b g):yR X W (.Dict [some a] [b] pos) (λρ S=>(f ρ (S++[.dic []])).bind λp S1=>(g ρ S1).bind λq S2=>QC S.length p q S2):=by
 obtain⟨ta,ha,fa⟩:=ha;obtain⟨tb,hb,fb⟩:=hb;refine⟨λσ H Q=> ∀p,H p=none->ta σ (xI H p (.dK [])) λv H1=>tb σ H1 λu H2=> ∃k,v=kV k/\DK X H2 p []/\Q (.ref p) (xI H2 p (.dK [(k,u)])),λpins s σ H Q I h=>?_,λα ρ S σ H Q wd sl q p hp=>?_⟩
 .have I0:=I.laid (a:=s.heap.objs.size) (o:=.dK []) (t':=s.toks) (h':=s.heap.push {cls:=.type "dict",data:=.dict #[]}) (λ_ _ q=>hP0 _ q) (le_refl _)
   ⟨zero_le _,beq_eq_false_iff_ne.mpr (Ne.symm (ne_of_lt (TN I))),[],.nil,Heap.DictOf.new s.heap⟩
  refine wpAny_Dict_pairs (knd:=yZ X.prog X.w) (pairs:=[(eval a X.env,do let x <-eval b X.env;standAt pos;pure x)]) rfl (by simp) (by simp) ?_;refine evalPairs_cons (wpAny_mono (ha _ _ _ _ _ I0 (h _ (I.hok.fresh (le_refl _)))) (λkv s1 h1=>?_) λ_ _ e=>e);obtain⟨v,H1,I1,r1,t1⟩:=h1;refine wB (wpAny_mono (hb _ _ _ _ _ I1 t1) (λvv s2 h2=>?_) λ_ _ e=>e);obtain⟨u,H2,I2,r2,k,rfl,dd,q⟩:=h2;refine wB (wpAny_standAt (wP (evalPairs_nil ?_)));obtain⟨z,hs,vs,kvr,dm⟩:=aK I2 dd;have hl:([]:List (Key×V)).length=vs.length:=Paired.length kvr;have hv0:vs=[]:=List.length_eq_zero_iff.mp hl.symm;subst hv0;refine⟨[(k,vv)],⟨PV (X:=X) r1,rfl,trivial⟩,dm,λh' dm' hs'=>⟨.ref _,_,?_,rfl,q⟩⟩;have he: ∃q,h'.get? s.heap.objs.size=some q:=let ⟨q,_,_,hq,_⟩:=dm';⟨q,hq⟩;exact I2.write (t':=_) (x:=s.heap.objs.size) (e:=s.heap.objs.size) (UG dd) (.inl rfl) (λb uo hb eo=>(hs'.2 b hb).trans eo) he ⟨by rw[sizeLine_eq];simp,hs,_,.cons ⟨rfl,r2⟩ .nil,dm'⟩
 .obtain⟨x,w'⟩:=wd.put (ho:=.dK []) (m:=.dic []) hp (.inl ⟨[],zR,.nil⟩);refine fa (α++[p]) ρ (S++[.dic []]) σ _ _ w' (sl.ext x) ((q.shift x).bind λv r S1 α1 H1 e1 x1 w1 d1 q1=>?_);refine fb α1 ρ S1 σ H1 _ w1 (sl.ext (x.trans x1)) ((q1.shift x1).bind λu r2 S2 α2 H2 e2 x2 w2 d2 q2=>?_);unfold QC at q2;split at q2
  .rename_i k;split at q2
   .rename_i d;split at q2
    .rename_i hk;obtain⟨k',hk'⟩:=Option.isSome_iff_exists.mp hk.1;have dk:Den X.K α2 H2 k v:=d1.1.ext x2;have ek:=Lr (X:=X) (α:=α2) (H:=H2) hk' dk;subst ek;have hα:α2[S.length]? =some p:=by obtain⟨t1,h1⟩:=x1.pre;obtain⟨t2,h2⟩:=x2.pre;rw[h2,h1,aA,aA, <-wd.len,getElem?_append_right (le_refl _),sub_self];rfl
     obtain⟨ks,dd,dl⟩:=Oh (w2.obj _ p _ hα hk.2) rfl;cases dl;refine⟨k',rfl,dd,?_⟩;have xw:=w2.writex hα dd.nf (o:=.dK [(k',u)]);exact(Post.shift (x2.trans xw) q2).val (w2.write hα dd.nf (.inl ⟨_,zR,.cons (Lq hk') (d2.1.ext xw) .nil⟩)) (qD (by rw[hα]))
    .exact q2.elim
   .exact q2.elim
  .exact q2.elim
end
section
variable{X:Cx}{W:XW}
def KL:CallR X (.builtin "len") (λxs H Q=> ∃d ks,xs=[.ref d]/\DK X H d ks/\Q (.int ks.length) H):=by intro pins s σ H vs us Q I rv h;obtain⟨d,ks,rfl,dd,q⟩:=h;obtain⟨u1,rfl,r1⟩:=vals1 rv;cases r1;obtain⟨z,hs,vs,kv,dm⟩:=aK I dd;have hl:ks.length=vs.length:=Paired.length kv;have hS:=sizeLine_eq;refine PySem.call_len_dict hs dm (by omega) ⟨.int ks.length,H,(I.tok _).tok _,by rw[hl];exact⟨_,rfl⟩,q⟩
def KM:List Er->zC->R Er
 |[r],S=>match vZ S r with
  |some (_,kvs)=>.ok (.val (.int kvs.length)) S
  |none=>.no
 |_,_=>.no
def WT:iE X W (λxs H Q=> ∃d ks,xs=[.ref d]/\DK X H d ks/\Q (.int ks.length) H) KM:=by
 intro rs vs α S H Q wd d post;unfold KM at post;split at post
 .split at post
  .rename_i l kvs e;obtain⟨v,rfl,dv⟩:=fH d;obtain⟨c,ks,rfl,h1,hS,DDx,dl,_⟩:=Oi wd e dv;have el:ks.length=kvs.length:=DenK.length dl;refine⟨c,ks,rfl,DDx,?_⟩;rw[el];exact Post.val post wd (xB _)
  .exact post.elim
 .exact post.elim
def d1J(f g:zK->zC->R Er)(ρ:zK)(S:zC):R Er:=(f ρ (S++[.dic []])).bind λp S1=>(g ρ S1).bind λq S2=>QC S.length p q S2
def Aq{a b:Expr}{f g:zK->zC->R Er}{pos:Pos}(ha:yR X W a f)(hb:yR X W b g):yR X W (.Dict [some a] [b] pos) (d1J f g):=Fc ha hb
end
def UJ(x:Db):List (List Nat)->List (List Nat)
 |[]=>[x]
 |y::r=>if y<x then y::UJ x r else x::y::r
def sU(ns:Ch):List (List Nat):=ns.foldr UJ []
theorem BS(x:Db): ∀l,(UJ x l).Perm (x::l)
 |[]=>.refl _
 |y::r=>by
  unfold UJ;split
  .exact((BS x r).cons y).trans (.swap _ _ _)
  .exact .refl _
theorem qK: ∀ns,(sU ns).Perm ns
 |[]=>.refl _
 |x::r=>(BS x _).trans ((qK r).cons x)
theorem GK(x:Db): ∀l:List (List Nat),l.Pairwise (λa b=> ¬b<a)->(UJ x l).Pairwise (λa b=> ¬b<a)
 |[],_=>by simp[UJ]
 |y::r,h=>by
  obtain⟨h1,h2⟩:=pairwise_cons.mp h;unfold UJ;split
  .rename_i hyx;refine pairwise_cons.mpr ⟨λz hz=>?_,GK x r h2⟩;rcases mC.mp ((BS x r).mem_iff.mp hz)with rfl|hz
   .exact List.lt_asymm hyx
   .exact h1 z hz
  .rename_i hyx;refine pairwise_cons.mpr ⟨λz hz=>?_,h⟩;rcases mC.mp hz with rfl|hz
   .exact hyx
   .exact not_lt.mpr (le_trans (not_lt.mp hyx) (not_lt.mp (h1 z hz)))
theorem DH: ∀ns,(sU ns).Pairwise (λa b=> ¬b<a)
 |[]=>.nil
 |x::r=>GK x _ (DH r)
def Fe{ns ns':Ch}(hp:ns'.Perm ns)(hs:ns'.Pairwise (λa b=> ¬b<a)):ns'=sU ns:=
 List.Perm.eq_of_pairwise (λ_ _ _ _ a b=>List.le_antisymm (not_lt.mp a) (not_lt.mp b)) hs (DH ns) (hp.trans (qK ns).symm)
theorem KN: ∀(l:Ye)(p:Str),risingS p l=true->(p::l).Pairwise (λa b=> ¬b.cps.toList<a.cps.toList)
 |[],p,_=>by simp
 |x::r,p,h=>by
  have h:(!ltCps x.cps.toList p.cps.toList&&risingS x r)=true:=h;rw[aE,Bool.not_eq_true',ltCps_eq,decide_eq_false_iff_not]at h;have ih:=KN r x h.2;refine pairwise_cons.mpr ⟨λz hz=>?_,ih⟩;rcases mC.mp hz with rfl|hz
  .exact h.1
  .exact not_lt.mpr (le_trans (not_lt.mp h.1) (not_lt.mp ((pairwise_cons.mp ih).1 z hz)))
def Ar: ∀(l:Ye),sortedS l=true->l.Pairwise (λa b=> ¬b.cps.toList<a.cps.toList)
 |[],_=>.nil
 |x::r,h=>KN r x h
def Sw(x:Str):kE x.cps.toList=x:=by unfold kE;simp
def QD{zs:Ch}{ss:Ye}(hp:ss.Perm (zs.map kE))(hs:sortedS ss=true):ss=(sU zs).map kE:=by
 have h1:(ss.map λx=>x.cps.toList).Perm zs:=by have:=hp.map λx:Str=>x.cps.toList;rw[map_map,show((λx:Str=>x.cps.toList)∘kE)=id from funext uA,map_id]at this;exact this
 have h2:(ss.map λx=>x.cps.toList).Pairwise (λa b=> ¬b<a):=pairwise_map.mpr (Ar ss hs);rw[<-Fe h1 h2,map_map,show(kE∘λx:Str=>x.cps.toList)=id from funext Sw,map_id]
section
variable{prog:Program}{w:World}{A:Around}{E:VP}{s:Shared}{r d:Addr}{n:Nat}{P:Nat->Value->Prop}{OK:Heap->Prop}
def QE{Q:VP}(K:PySem.W.KdlSrc prog w "dict" r d n P OK)(hh:A.handled=none)(hok:OK s.heap)(hn:n<64){ss:Ye}(hI: ∀acc:Array Value,ItemsOf P acc n->StrsAre acc.toList ss)
  (h: ∀(h':Heap)(tk:Nat)(out:Yc)(ss':Ye),(∀b o,s.heap.get? b=some o->h'.get? b=some o)->StrsAre out.toList ss'->ss'.Perm ss->sortedS ss'=true-> ∀(vs:Yb),Q (.ref h'.objs.size) {s with heap:=sortedHeap (h'.push (seqObj "list" vs.toArray 0)) h'.objs.size vs out,toks:=tk}):
  wpAny (model prog w) A (call (.builtin "sorted") [.ref r]) Q E s:=by
 refine Calls.call_function_entry kind_sorted plain_sorted entry_sorted (args_sorted1 _) ?_;unfold Builtin.«sorted»;refine wB (m:=checkCount "sorted" 1 1 _) (wP ?_);refine wB (PySem.W.kdu_collect (A:=A.in1) K hh hok (by rw[sizeLine_eq];omega) λh' tk acc hk hacc=>?_);have hl:acc.toList.length=n:=by rw[Array.length_toList];exact hacc.1
 refine wB (wpAny_newList ?_ (by rw[hl,sizeLine_eq];omega));have hoL:(h'.push (seqObj "list" acc.toList.toArray 0)).get? h'.objs.size=some (seqObj "list" acc.toList.toArray 0):=Heap.get?_push_size _ rfl;show wpAny _ _ _ _ _ {s with heap:=h'.push (seqObj "list" acc.toList.toArray 0),toks:=tk};have hS:=hI acc hacc;refine wB (wpAny_holding (wpAny_call_entry slot_list_sort ⟨_,hoL,rfl⟩ entry_list_sort (list_sort_treeK strKind_oneLt hoL hS.keysOf (λv₁ v₂ rest e=>keyKind_strs (by rw[<-e];exact hS)) (by rw[hl];exact hn) λst' hp hs=>⟨_,rfl,?_⟩) (args_list_sort _)));obtain⟨ss',h1,h2,h3⟩:=sorted_out_str hS hp hs;refine wP ⟨_,rfl,h h' tk _ ss' hk h1 h2 h3 acc.toList⟩
end
section
variable{X:Cx}{W:XW}{α:Yd}{H:Hp}
theorem QF: ∀(l:List (Str×Tok)),StrsAre (strValues l) (l.map (·.1))
 |[]=>.nil
 |(x,t)::l=>.cons x t (QF l)
theorem KO: ∀{us:Yb}{zs:Ch},StrsAre us (zs.map kE)->Vals (zs.map λz=>V.str (kE z)) us
 |_,[],h=>by cases h;exact .nil
 |_,z::zs,h=>by
  cases h with
  |cons y t h=>exact .cons ⟨t,rfl⟩ (KO h)
theorem QG: ∀{ds:Zd}{ns:Ch},eI ds=some ns->ns.length=ds.length
 |[],ns,h=>by cases h;rfl
 |x::ds,ns,hi=>by
  cases x<;>first |(cases hi;done)|skip
  unfold eI at hi
  cases zz:eI ds with
  |none=>rw[zz]at hi;cases hi
  |some ms=>rw[zz]at hi;cases hi;rw[lC0,lC0,QG zz]
def GL:CallR X (.builtin "sorted") (λxs H Q=> ∃d ks ds ns α,xs=[.ref d]/\DK X H d ks/\eI ds=some ns/\DenL X.K α H ds (ks.map λp=>kV p.1)/\ds.length<64/\X.calm=true/\ ∀p,H p=none->Q (.ref p) (xI H p (.lst ((sU ns).map λz=>V.str (kE z))))):=by
 intro pins s σ H xs us Q I r h;obtain⟨d,ks,ds,ns,α,rfl,dd,hi,hd',hz,hc,q⟩:=h;obtain⟨u,rfl,rx⟩:=vals1 r;cases rx;obtain⟨z,hd,vs,rel,dm⟩:=aK I dd;obtain⟨ep,hat⟩:=dm.dictAt;have hl:ks.length=vs.length:=Paired.length rel;have hlen:vs.length<64:=by have:=hd'.length;rw[lM0]at this;omega
 refine QE (PySem.W.kdl_dict (knd:=yZ X.prog X.w) (kvs:=vs) (ep:=ep) hd) (I.ok.hd hc) hat hlen (ss:=ns.map kE) (λacc hacc=>by obtain⟨l,e1,e2⟩:=WN hi hd' (Ao (X:=X) rel (by rw[Array.length_toList];exact hacc.1) λj v e=>hacc.2 j v (by rw[<-Array.getElem?_toList];exact e));rw[e1, <-e2];exact QF l) λh' tk out ss' hk a1 a2 a3 us=>?_;have en:=QD a2 a3;subst en;have I1:Inv X pins σ H {s with heap:=h',toks:=tk}:=I.kept hk;obtain⟨e,he⟩:=sortedHeap_at (h:=h'.push (seqObj "list" us.toArray 0)) (a:=h'.objs.size) (vs:=us) (n:=0) (out:=out) (Heap.get?_push_size _ rfl);refine⟨.ref h'.objs.size,_,I1.laid (t':=tk) (λb o eb=>?_) (le_refl _) (show ObjOk X.prog X.w _ _ _ (.lst ((sU ns).map λz=>V.str (kE z)))from⟨?_,out.toList,e,KO a1,?_⟩),rfl,q _ (I1.hok.fresh (le_refl _))⟩
 .have hb:=Heap.lt_size eb;rw[sortedHeap_old (ne_of_lt hb) (by rw[size_push'];exact Nat.lt_succ_of_lt hb)];exact hP0 _ eb
 .have e2:=(qK ns).length_eq;have e3:=QG hi;have:=sizeLine_eq;rw[lM0];omega
 .rw[Array.toArray_toList];exact he
def BU(rs:List Er)(S:zC):R Er:=match rs with
 |[p]=>match vZ S p with
  |some (_,kvs)=>if kvs.length<64 then(match eI (kvs.map (·.1))with |some ns=>.ok (.new ((sU ns).map MV.str)) S|none=>.no)else .no
  |none=>.no
 |_=>.no
def QH(hc:X.calm=true):iE X W (λxs H Q=> ∃d ks ds ns α,xs=[.ref d]/\DK X H d ks/\eI ds=some ns/\DenL X.K α H ds (ks.map λp=>kV p.1)/\ds.length<64/\X.calm=true/\ ∀p,H p=none->Q (.ref p) (xI H p (.lst ((sU ns).map λz=>V.str (kE z))))) BU:=by
 intro rs vs α S H Q wd d post;unfold BU at post;split at post
 .split at post
  .rename_i n kvs e;split at post
   .rename_i hz;split at post
    .rename_i ns hi;obtain⟨v,rfl,dv⟩:=fH d;obtain⟨c,ks,rfl,h1,h2,dd,dl,_⟩:=Oi wd e dv;exact⟨c,ks,_,ns,α,rfl,dd,hi,BP dl,by rw[lM0];exact hz,hc,λp hp=>Post.newl post wd hp (KB _)⟩
    .exact post.elim
   .exact post.elim
  .exact post.elim
 .exact post.elim
end
section
variable{X:Cx}{W:XW}{a:Expr}{f:zK->zC->R Er}{pos apos:Pos}
def Ol:V->List V->Hp->VK->Prop:=λx vs H Q=> ∃l xs y,x=.ref l/\vs=[]/\H l=some (.lst xs)/\xs[xs.length - 1]? =some y/\Q y (xI H l (.lst (xs.eraseIdx (xs.length - 1))))
def Lx:Nv X "list.pop" Ol:=by
 intro pins s σ H x vs v us Q I rx rv h;obtain⟨l,xs,y,rfl,rfl,hH,hy,q⟩:=h;cases rx;have hus:=rv.zero;subst hus;obtain⟨z,its,n,r,hl,e⟩:=I.lstM hH;obtain⟨w,hw,rw'⟩:=r.get hy
 refine call_meets F.slot_list_pop ⟨_,e,rfl⟩ F.entry_list_pop (F.args_list_pop_1 _)
  (MeetsSeq.list_pop_last l its.toArray n w (by rw[sA, <-hl, <-Array.getElem?_toList];exact hw) (by rw[sA];omega)) ⟨e,?_⟩
 refine⟨y,_,I.lset (its':=its.eraseIdx (xs.length - 1)) hH e ?_ (r.eraseIdx (xs.length - 1)) ?_,rw',q⟩
 .show its.toArray.eraseIdxIfInBounds (its.toArray.size - 1)=(its.eraseIdx (xs.length - 1)).toArray;rw[List.eraseIdxIfInBounds_toArray,sA,hl]
 .have:=JD xs (xs.length - 1);omega
def GM(p:Er)(rs:List Er)(S:zC):R Er:=match p,rs with
 |.val (.loc l),[]=>match S[l]? with
  |some (.lst ds)=>match ds[ds.length - 1]? with
   |some d=>.ok (.val d) (S.set l (.lst (ds.eraseIdx (ds.length - 1))))
   |none=>.no
  |_=>.no
 |_,_=>.no
def Ly:OS X W Ol GM:=by
 intro p rs x vs α S H0 H Q α0 wd x0 dp da post;unfold GM at post;split at post
 .rename_i l;obtain⟨a,rfl,h⟩:=eB dp;cases da;obtain⟨ob,h1,h2⟩:=wd.of h;rw[h1]at post
  cases ob with
  |lst ds=>
   obtain⟨us,h3,l1⟩:=h2;dsimp only at post;split at post
   .rename_i d ed;obtain⟨y,ey,dy⟩:=l1.at ed;have hlen:us.length=ds.length:=l1.length;have xw:=wd.writex h (Nx h3) (o:=.lst (us.eraseIdx (us.length - 1)));refine⟨a,us,y,rfl,rfl,h3,by rw[hlen];exact ey,?_⟩;exact(post.shift (x0.trans xw)).val (wd.write h (Nx h3) ⟨_,zR,by rw[hlen];rw[hlen]at xw;exact(l1.eraseIdx (ds.length - 1)).ext xw⟩) (dy.ext xw)
   .exact post.elim
  |dic _=>exact post.elim
  |ins _ _=>exact post.elim
 .exact post.elim
def Lz(ho:yR X W a f)(hbase:attributeBase a "pop" X.env (eval a X.env)=eval a X.env:=by rfl)(hline:(apos.endLine==pos.line)=true:=by rfl):
  yR X W (.Call (.Attribute a "pop" apos) [] [] pos) (λρ S=>(f ρ S).bind λp S1=>if jP p S1=true then GM p [] S1 else .no):=
 OT PySem.F.plainAttrs_list PySem.F.slot_list_pop PySem.F.type_list_pop Lx Ly FR ho hbase hline
end
def gF{α:Type}(xs:List α)(k:Nat)(y:α):List α:=xs.take (min k xs.length)++y::xs.drop (min k xs.length)
section
variable{X:Cx}{W:XW}{a e:Expr}{es:Za}{f:zK->zC->R Er}{af:zK->zC->R (List Er)}{pos apos:Pos}
def Xe:V->List V->Hp->VK->Prop:=λx vs H Q=> ∃l xs i y,x=.ref l/\vs=[.int i,y]/\H l=some (.lst xs)/\0<=i/\i<1000000/\xs.length<sizeLine/\Q .non (xI H l (.lst (gF xs i.toNat y)))
def Ff: ∀{xs:List V}{us:Yb}(k:Nat){y:V}{u:Value},Vals xs us->RelV y u->Vals (gF xs k y) (gF us k u):=by
 intro xs us k y u r ry;unfold gF;rw[r.length]
 have go: ∀(n:Nat){xs:List V}{us:Yb},Vals xs us->Vals (xs.take n++y::xs.drop n) (us.take n++u::us.drop n):=by
  intro n
  induction n with
  |zero=>intro xs us r;exact .cons ry r
  |succ n ih=>
   intro xs us r
   cases r with
   |nil=>exact .cons ry .nil
   |cons r1 r2=>exact .cons r1 (ih r2)
 exact go _ r
def Sx:Nv X "list.insert" Xe:=by
 intro pins s σ H x vs v us Q I rx rv h;obtain⟨l,xs,i,y,rfl,rfl,hH,h0,h1,hz,q⟩:=h;cases rx;obtain⟨u1,u2,rfl,r1,r2⟩:=vals2 rv;obtain⟨t,rfl⟩:=r1;obtain⟨z,its,n,r,hl,e⟩:=I.lstM hH
 refine call_meets F.slot_list_insert ⟨_,e,rfl⟩ F.entry_list_insert (F.args_list_insert_3 _ _ _)
  (AutoSeq1.list_insert_list_int_val_1 l its.toArray n i t u2 (by unfold Builtin.List.listFitsIndex;simp;omega) (by rw[sA];omega)) ⟨e,?_⟩
 refine⟨.non,_,I.lset (its':=gF its i.toNat u2) hH e ?_ (Ff i.toNat r r2) ?_,rfl,q⟩
 .show(its.toArray.extract 0 (if i<0 then(i+(its.toArray.size:Int)).toNat else min i.toNat its.toArray.size)).push u2++its.toArray.extract (if i<0 then(i+(its.toArray.size:Int)).toNat else min i.toNat its.toArray.size)=(gF its i.toNat u2).toArray;rw[iN0 (by omega),sA];unfold gF;apply Array.ext';simp;exact take_of_length_le (by simp)
 .unfold gF;rw[lA,lC0,lT,length_drop];omega
def As:Er->List Er->zC->R Er
 |p,[.val (.int i),.val d],S=>sN p S λds=>if 0<=i/\i<1000000/\ds.length<sizeLine then some (gF ds i.toNat d)else none
 |_,_,_=>.no
def Fg{K:Zb}{α:Yd}{H:Hp}{d:MV}{y:V}(dy:Den K α H d y){ds:Zd}{vs:List V}(l:DenL K α H ds vs)(k:Nat):DenL K α H (gF ds k d) (gF vs k y):=by
 unfold gF;rw[l.length]
 have go: ∀(n:Nat){ds:Zd}{vs:List V},DenL K α H ds vs->DenL K α H (ds.take n++d::ds.drop n) (vs.take n++y::vs.drop n):=by
  intro n
  induction n with
  |zero=>intro ds vs l;exact yK dy l
  |succ n ih=>
   intro ds vs l
   cases ds with
   |nil=>
    cases l.isnil;exact yK dy yS
   |cons a ds=>
    obtain⟨v,r,rfl,dv,l2⟩:=l.uncons;exact yK dv (ih l2)
 exact go _ l
def Sy:OS X W Xe As:=by
 intro p rs x vs α S H0 H Q α0 wd x0 dp da post;unfold As at post;split at post
 .rename_i i d;obtain⟨u,v,rfl,du,dv⟩:=Wf da;obtain⟨a,us,ds,es,rfl,h1,l1,eg,k⟩:=uE wd x0 dp post;split at eg
  .rename_i hz;cases eg;have du:Den X.K α H (.int i) u:=du;have dv:Den X.K α H d v:=dv;obtain rfl:u=.int i:=xK du;exact⟨a,us,i,v,rfl,rfl,h1,hz.1,hz.2.1,by rw[l1.length];exact hz.2.2,k _ (Fg dv l1 i.toNat)⟩
  .cases eg
 .exact post.elim
def Sz(ho:yR X W a f)(ha:FL X W (e::es) af)
  (hbase:attributeBase a "insert" X.env (eval a X.env)=eval a X.env:=by rfl)
  (hfew:((backTo pos (starEach (e::es) X.env)).all (λx=>!x.1)&&(backToKw pos (keywordEach [] X.env)).all (λx=>x.1.isSome)
   &&decide ((e::es).length+([]:List Keyword).length+(if([]:List Keyword).isEmpty then 0 else 1)<30))=true:=by rfl)
  (hline:(apos.endLine==pos.line)=true:=by rfl) (hs:starEach (e::es) X.env=(false,eval e X.env)::starEach es X.env:=by rfl) (hplain:(backTo pos (starEach es X.env)).any (·.1)=false:=by rfl):
  yR X W (.Call (.Attribute a "insert" apos) (e::es) [] pos) (λρ S=>(f ρ S).bind λp S1=>if jP p S1=true then(af ρ S1).bind λrs S2=>As p rs S2 else .no):=
 LN PySem.F.plainAttrs_list PySem.F.slot_list_insert PySem.F.type_list_insert Sx Sy FR ho ha hbase hfew hline hs hplain
end
section
variable{prog:Program}{w:World}{K:Type}[DecidableEq K]{knd:KeyKind prog w K}
def TSet(knd:KeyKind prog w K)(h:Heap)(a:Addr)(S:K->Bool)(n:Nat)(b:Bool):Prop:=
 ∃o es ep t,h.get? a=some o/\o.ExactSet/\o.data=.set es ep t/\ElemsOf knd es.toList/\(∀k,S k=true↔ ∃e∈es.toList,knd.is k e.2=true)
  /\es.size<scanBound/\t.fits es.size=true/\es.size=n/\t.led=b/\(es.size=0\/t.plain=false)/\(es.toList.map (·.2)).Pairwise (λx y=> ∀k,knd.is k x=true-> ¬knd.is k y=true)
end
abbrev byT(w:World):Bool:=w.params.followText "set-order"
abbrev Xf(P:Program)(w:World)(h:Heap)(D:Addr)(val:Nat->Key)(i:Nat):Prop:=TSet (yZ P w) h D (λk=>inK k (Ej val i)) (Ej val i).length (!byT w)
def StrT(val:Nat->Key)(i:Nat)(v:Value):Prop:= ∃x t,val i=.inr x/\v=.str x t
def StrT.is{P:Program}{w:World}{val:Nat->Key}{i:Nat}{v:Value}(h:StrT val i v):(yZ P w).is (val i) v=true/\v.scannable=true/\plainKind v=false:=by obtain⟨x,t,e,rfl⟩:=h;rw[e];exact⟨sC P w x t,rfl,rfl⟩
def SetAt(h:Heap)(D:Addr)(es:Array (Int×Value))(ep:Nat)(t:SetTable):Prop:= ∃o,h.get? D=some o/\o.ExactSet/\o.data=.set es ep t/\t.fits es.size=true
end M
end L2
namespace L2
open PySem PySem.Spec PyProof.Rows
namespace M
def setT(P:Program)(w:World)(l:Addr)(ys:Ch):HO:=.ext λh=>Xf P w h l (valY ys) ys.length
end M
end L2
namespace L2
open PySem PySem.Spec PyProof.Rows
def IF:entryFor table "proto.unchain"=some Builtin.«proto.unchain»:=entryFor_of_tree (by kernel_rfl)
section
variable{prog:Program}{w:World}{A:Around}{E:VP}{s:Shared}
def UK{it e:Addr}{x left step:Int}{ob:Obj}{vs:Yc}{Q:Option Value->Shared->Prop}(hh:A.handled=some (.ref e))(he:s.heap.get? e=some ob)(hd:ob.data=.fields vs)(h2:vs[2]? =some .none)
  (hit:IsRangeIter s.heap it x left step) (hleft:left<=0) (hQ: ∀h',Heap.ExtBut it s.heap h'->Q none {s with heap:=h'}):wpAny (model prog w) A (pyNext (.ref it)) Q E s:=by
 have hT:s.TypeIs (.ref it) "range_iterator":=⟨_,hit,rfl⟩
 unfold pyNext
 refine wB (wpAny_attempt (wpAny_callSpecial?_slot (name:=Str.ofString "__next__") hT F.slot_range_iterator_next
  (wpAny_call_entry F.slot_range_iterator_next hT F.entry_range_iterator_next ?_ (F.args_range_iterator_next_1 _))))
 show wpAny _ _ (field (.ref it) 0 >>= _) _ _ s;refine wB (wpAny_field hit rfl (x:=rawInt x) rfl ?_);show wpAny _ _ (field (.ref it) 1 >>= _) _ _ s;refine wB (wpAny_field hit rfl (x:=rawInt left) rfl ?_);show wpAny _ _ (field (.ref it) 2 >>= _) _ _ s;refine wB (wpAny_field hit rfl (x:=rawInt step) rfl ?_);show wpAny _ _ (if left<=0 then _ else _) _ _ s;rw[iP hleft];refine wB (wpAny_rule ?_);refine wB ?_;show wpAny _ _ (newExc (.type "StopIteration") [] >>= _) _ _ _;refine wB ?_;simp only[newExc,newTuple];refine wB (wpAny_newObj_type ?_ (by size_fits));refine wB (m:=firstArgMember _ _) (wpAny_of_eq (a:=Value.none) (by first |rfl|(simp only[firstArgMember];rfl)) ?_);refine wpAny_newObj_type ?_ (by size_fits);simp only[raiseNew];refine wB (wpAny_handled ?_)
 first |rw[show A.in1.handled=some (.ref e)from hh]|rw[hh]
 generalize ht:s.heap.push {cls:=Value.type "tuple",data:=Data.seq #[]}=h1;generalize hu:h1.push {cls:=Value.type "StopIteration",data:=Data.fields (#[Value.ref s.heap.objs.size,Value.none,Value.none,Value.none,Value.bool false,Value.none]++ownMembersOf (Value.type "StopIteration") [])}=h3;have x1:Heap.ExtBut it s.heap h3:=by rw[<-hu, <-ht];exact((Heap.ExtBut.refl it s.heap).push _).push _
 have e3:h3.get? e=some ob:=by rw[<-hu];exact hP0 _ (by rw[<-ht];exact hP0 _ he)
 have a3: ∃o us,h3.get? h1.objs.size=some o/\o.cls=.type "StopIteration"/\o.data=.fields us/\2<us.size:=by rw[<-hu];exact⟨_,_,Heap.get?_push_size _ rfl,rfl,rfl,by simp;omega⟩
 obtain⟨oS,us,a3,c3,d3,z3⟩:=a3;have hlt:it<h1.objs.size:=by rw[<-ht];exact Heap.lt_size (hP0 _ hit)
 have elt:e<h1.objs.size:=by rw[<-ht];exact Heap.lt_size (hP0 _ he)
 show wpAny _ _ (if(Value.ref e !=Value.ref h1.objs.size)=true then _ else _) _ _ _;rw[iP (by simpa using ne_of_lt elt)];refine wB (wpAny_holding (wpAny_runValue (codeAny_builtin IF ?_)));show wpAny _ _ (field (.ref e) 2 >>= _) _ _ _;refine wB (wpAny_field e3 hd h2 ?_);refine wP ?_;refine wB (?_:wpAny _ _ (setField (.ref h1.objs.size) 2 (.ref e)) _ _ _);refine wpAny_setField a3 d3 z3 (wpAny_throw ?_);have hd4:=Obj.data_mapFields d3 (·.setIfInBounds 2 (Value.ref e));have e4:=Heap.get?_update_self (Obj.mapFields (·.setIfInBounds 2 (Value.ref e))) a3 (Obj.isFreed_of_fields hd4);refine wB (wpAny_isInstance (T:="StopIteration") (b:=true) ⟨_,e4,(Obj.cls_mapFields _ _).trans c3⟩ isSubtype_stop ?_);exact wP (hQ _ λb o hb q=>(Heap.get?_update_other _ _ (ne_of_gt (lt_of_lt_of_le (Heap.lt_size q) (by rw[<-ht,Heap.size_push];exact le_succ _)))).trans (x1 b o hb q))
variable{P:Program}{K:Zb}{tg:Expr}{X:Cx}
def QI(it:Addr)(lo:Int)(n:Nat):TurnC Kw P w K tg (Ii lo n) [it] it (λi h=>IsRangeIter h it (lo+(i:Nat) * 1) ((n:Int) - (i:Nat)) 1):=by
 have t:=EY (P:=P) (w:=w) (K:=K) (tg:=tg) it lo n;refine⟨t.mem,t.obj,t.keep,?_,?_,t.self⟩
 .intro X hP hw hK hc i pins s σ H E I hf st hg;subst hP hw hK;obtain⟨f0,f1,f2,f3,f4,f5⟩:=hf it (by simp);refine wpAny_pyNext_range_item st (by have:i<n:=hg;omega) λh' st' sb=>?_;have I1:Inv X pins σ H {s with heap:=h',toks:=s.toks+1}:=I.turned (λb o hb e=>(sb.2 b hb).trans e) f0 f1 f3 f4 f5
  have st2:IsRangeIter h' it (lo+((i+1:Nat):Int) * 1) ((n:Int) - ((i+1:Nat):Int)) 1:=by
   have e1:lo+((i+1:Nat):Int) * 1=lo+(i:Int) * 1+1:=by omega
   have e2:(n:Int) - ((i+1:Nat):Int)=(n:Int) - (i:Int) - 1:=by omega
   rw[e1,e2];exact st'
  refine⟨_,rfl,OE (s:={s with heap:=h',toks:=s.toks+1}) (n:="range_iterator") st2 rfl rfl (by decide) ⟨.int (lo+i),H,I1,⟨s.toks,?_⟩,⟨rfl,rfl⟩,st2,λb hb=>(hf b hb).1⟩⟩;rw[Int.mul_one]
 .intro X hP hw hK hc i pins s σ H E I hf st hg;subst hP hw hK;obtain⟨f0,f1,f2,f3,f4,f5⟩:=hf it (by simp);obtain⟨e,ob,u,h1,h2,vs,h3,h4⟩:=HdA.now hc I;exact UK h1 (I.hok e _ h2).1 h3 h4 st (by have:n<=i:=hg;omega) λh' eb=>⟨rfl,I.turned (t':=s.toks) (λb o hb e=>eb b o hb e) f0 f1 f3 f4 f5⟩
end
namespace M
section
variable{X:Cx}{W:XW}{tg iter a:Expr}{af:zK->zC->R (List Er)}{p pos:Pos}
def UL(hg:Gl X "range")(hm:X.mg "range"=none)(ha:FL X W [a] af)(hs:starEach [a] X.env=[(false,eval a X.env)]:=by rfl):Jd X W (Ih Kw X tg (.Call (.Name "range" p) [a] [] pos)) (λρ S=>(af ρ S).bind kA):=JO (λit n=>QI it 0 n) hg hm ha hs
open Classical in
def Fi{elt:Expr}{ifs:Za}{sc:Scope}{itf:zK->zC->R Wk}{cf:zK->zC->R Bool}{ef:zK->zC->R Er}{gf:MV->zK->zC->R zK}(osc:Scope)(N:Ye)(T:Ye)(idx:Db)
  (hi:Jd X W (Ih Kw X tg iter) itf) (hh:Kw X)
  (hg: ∀C s₂ H1 fp,([]++T++idx.map λi=>(N[i]?).getD Str.empty).Nodup->Wg T.length (zX X sc T idx C s₂ H1 fp) W0 tg gf)
  (hc: ∀C s₂ H1 fp,ZO (zX X sc T idx C s₂ H1 fp) W0 ifs cf) (he: ∀C s₂ H1 fp,yR (zX X sc T idx C s₂ H1 fp) W0 elt ef)
  (e1:X.env.scope=osc:=by rfl) (e2:X.N=N:=by rfl) (hB:vG osc N sc idx=true:=by decide+kernel) (hN:([]++T++idx.map λi=>(N[i]?).getD Str.empty).Nodup:=by decide+kernel)
  (hs: ∀y,foldedSetIterable iter X.env y=pure y:=by intro _;rfl):
  yR X W (.ListComp elt [⟨tg,iter,ifs,0⟩] sc pos) (λρ S=>(itf ρ S).bind λk S1=>if k.ds.length<1000000 then(xN gf cf ef (BF T.length idx ρ) k.gs k.ds S1).bind λout S2=>.ok (.new out) S2 else .no):=let ⟨t,h,k⟩:=(LP osc N T idx (C:=Kw) hi (λ_ _ _ _ _ _ I=>HdA.now (X:=X) hh I) hg hc he e1 e2 hB hN hs);⟨t,h.1,k⟩
end
end M
end L2
namespace L2
namespace M
namespace My
open PySem PySem.Spec PyProof.Rows
local macro_rules
 | `(tactic|simp? [$xs,*] $[$l:location]?)=>`(tactic|simp only[List.getElem?_cons_zero,List.getElem?_cons_succ,Kj,dP,as_int,Wl,Rl,add_int,sub_int,eq_int,Rm,lst0,lst1,Wm,lst3,lst6,tup2,tup3,Rq,Rr,Rt,Ru,Rv,Rw,Kp,Kr,List.set_cons_zero,List.set_cons_succ,if_true,Kt,Ks,vJ,kJ,bJ,dJ,nJ,aJ,oJ,iJ,mJ,tJ,lJ,zJ,fJ,xJ,hJ,eJ,gJ,uJ,pJ,jJ,qJ,rJ,sJ,wJ,yJ,AJ,BJ,CJ,DJ,EJ,FJ,GJ,HJ,IJ,JJ,KJ,LJ,MJ,NJ,$xs,*] $[$l:location]?)
abbrev uZ:List Str:=["atoms","names","atom","term"]
abbrev fK:List Str:=["question","seen","place","atom"]
abbrev DI:List Str:=["tables","question","atom","key"]
abbrev iI:List Str:=["tables","question","place","atoms","others","names","before","other"]
abbrev mV:List Str:=["tables","question","atom"]
abbrev oO:List Str:=["tables","question","place","learnt","unknown","reached","waiting","names","other"]
abbrev MN:List Str:=["tables","question","pairs","a"]
abbrev Fj:List Str:=["tables","question","pairs","a","b"]
abbrev sV:List Str:=["_law_rest","_law_letters","_law_many","_law_name","_law_k"]
abbrev cE:List Str:=["_law_rest","_law_many","_law_words_here","_law_k","_law_word","_law_letter"]
abbrev AB:List Str:=["_law_cell","_law_many","_law_letters","_law_long","_law_spot","_law_words_here","_law_k","_law_word","_law_j","_law_sign"]
abbrev AC:List Str:=["_law_cell","_law_many","_law_some","_law_rest","_law_k","_law_number"]
abbrev uM:List Str:=["_law_cell","_law_numbers","_law_tables_here","_law_number","_law_wide"]
abbrev oP:List Str:=["_law_cell","_law_words_here","_law_rest","_law_many","_law_found","_law_k","_law_value","_law_number","_law_pool","_law_turn"]
abbrev bR:List Str:=["_law_number","_law_names","_law_values_here"]
abbrev rV:List Str:=["_law_atoms","_law_some","_law_t","_law_terms","_law_term_here"]
abbrev kW:List Str:=["_law_cells","_law_tables_here","_law_names","_law_values_here","_law_many","_law_order","_law_atoms","_law_k","_law_numbers","_law_wide","_law_some","_law_head"]
abbrev sW:List Str:=["_law_question_here","_law_tables_here","_law_cells","_law_names","_law_values_here","_law_head","_law_atoms","_law_some","_law_cell","_law_t","_law_numbers","_law_terms"]
abbrev wO:List Str:=["_law_way","_law_tables_here","_law_question_here","_law_number"]
abbrev sX:List Str:=["_law_way","_law_tables_here","_law_question_here","_law_number","_law_found","_law_e"]
abbrev WU:List Str:=["_law_script","_law_words_here","_law_tables_here","_law_values_here","_law_cells","_law_question_here","_law_more_here","_law_other","_law_place_here","_law_way","_law_number","_law_due"]
abbrev XNS:List Str:=["TooGreat","NoText","NoPlace","NotPlain","NoTable","NoRule","NoRow","Twice","NoQuestion","Double","TooWide","Ring"]
def iK:zK->zC->R Fl:=(iJ (bJ (dJ DU (dJ wN (vJ 3) (kJ (.int 0))) (kJ (.str [118,97,114]))) mB) ((EJ (kJ (.bl true)) (DJ sR (vJ 1) (dJ wN (vJ 3) (kJ (.int 1)))))) (JJ))
def fR:zK->zC->R Fl:=(iK)
def sY:zK->zC->R Fl:=(FJ (bJ (dJ wN (vJ 2) (kJ (.int 1))) Jp) (xR 3) (fR))
def qL:zK->zC->R Fl:=(sY)
abbrev AF:=zK->zC->R Fl
abbrev AE:=zK->zC->R Er
def qO:AF:=(CJ zJ 1)
def qP:AF:=(FJ (bJ (vJ 0) itQ) (xR 2) (qL))
def qQ:AF:=(AJ (bJ (yJ (vJ 1) wJ) sS))
def GN:AF:=zQ (qO) (zQ (qP) ((qQ)))
def dY(ds:Zd)(S:zC):R Er:=yU (GN (yD uZ ds) S)
def yV:zK->zC->R Fl:=(iJ (bJ (dJ (BQ false) (dJ wN (vJ 3) (kJ (.int 0))) (vJ 1)) mB) ((bJ (vJ 2) (Xy "Double" "place"))) (JJ))
def kG:zK->zC->R Fl:=(EJ (kJ (.bl true)) (DJ sR (vJ 1) (dJ wN (vJ 3) (kJ (.int 0)))))
def wD:zK->zC->R Fl:=zQ (yV) ((kG))
def jE:AF:=(CJ zJ 1)
def jF:AF:=(FJ (bJ (yJ (dJ wN (vJ 0) (kJ (.int 1))) wJ) Xt) (Ck 2 (kR (xR 2) (kR (xR 3) uK))) (wD))
def gI:AF:=zQ (jE) ((jF))
def yL(ds:Zd)(S:zC):R Er:=yU (gI (yD fK ds) S)
def dZ:zK->zC->R Bool:=(bJ (dJ (HQ true) (vJ 0) (dJ wN (vJ 1) (kJ (.int 0)))) mB)
def pN:AE:=(vJ 0)
def iL:AF:=(AJ (pJ (bJ (fJ 1 dY (yJ (bJ (yJ (vJ 1) wJ) bX) wJ)) HW) (xR 0) (dZ) (pN) 1 [0]))
def qS:AF:=(iL)
def xP(ds:Zd)(S:zC):R Er:=yU (qS (yD ["question","atom"] ds) S)
def oQ:AF:=(CJ (dJ wN (dJ wN (vJ 0) (dJ wN (vJ 2) (kJ (.int 0)))) (kJ (.int 1))) 3)
def oR:AF:=(AJ (fJ 2 xP (yJ (vJ 1) (yJ (bJ (yJ (dJ wN (vJ 2) (kJ (.int 0))) (yJ (tJ fQ (dJ wN (vJ 2) (kJ (.int 1))) mJ (bJ (vJ 3) JN)) wJ)) dQ) wJ))))
def sZ:AF:=zQ (oQ) ((oR))
def bS(ds:Zd)(S:zC):R Er:=yU (sZ (yD DI ds) S)
def tB:zK->zC->R Bool:=uJ
def iO:AE:=(bJ (yJ (vJ 0) (yJ (kJ (.bl true)) wJ)) dQ)
def tD:zK->zC->R Bool:=uJ
def iQ:AE:=(dJ (BQ false) (vJ 0) (vJ 1))
def tE:zK->zC->R Bool:=uJ
def iR:AE:=(bJ (yJ (vJ 0) (yJ (kJ (.bl true)) wJ)) dQ)
def tF:zK->zC->R Fl:=(iJ (bJ (bJ (yJ (pJ (bJ (fJ 3 bS (yJ (vJ 0) (yJ (vJ 1) (yJ (vJ 7) wJ)))) HW) (xR 0) (tD) (iQ) 1 [5]) wJ) Ka) FM) ((BJ (eJ Ls KI (vJ 5) (yJ (bJ (yJ (pJ (bJ (fJ 2 xP (yJ (vJ 1) (yJ (vJ 7) wJ))) HW) (xR 0) (tE) (iR) 1 []) wJ) PY) wJ)))) (JJ))
def fS:zK->zC->R Fl:=(tF)
def iS:zK->zC->R Fl:=(CJ (bJ (yJ (vJ 5) wJ) KM) 6)
def tG:zK->zC->R Fl:=(FJ (bJ (vJ 4) Jp) (xR 7) (fS))
def fU:zK->zC->R Fl:=zQ (iS) ((tG))
def aL:zK->zC->R Bool:=(bJ (dJ Ob (vJ 6) (bJ (yJ (vJ 5) wJ) KM)) mB)
def qT:AF:=(CJ (dJ wN (vJ 1) (kJ (.int 1))) 3)
def qU:AF:=(CJ (dJ xU (tJ fQ (vJ 3) mJ (bJ (vJ 2) JN)) (tJ fQ (vJ 3) (bJ (dJ xU (vJ 2) (kJ (.int 1))) JN) mJ)) 4)
def qV:AF:=(CJ (bJ (yJ (pJ (bJ (fJ 3 bS (yJ (vJ 0) (yJ (vJ 1) (yJ (dJ wN (vJ 3) (vJ 2)) wJ)))) HW) (xR 0) (tB) (iO) 1 []) wJ) PY) 5)
def qW:AF:=(CJ (kJ (.int (-1))) 6)
def AD:AF:=(λρ S=>bK (aL) (fU) 10000 ρ S)
def AG:AF:=(AJ (vJ 5))
def vA:AF:=zQ (qT) (zQ (qU) (zQ (qV) (zQ (qW) (zQ (AD) ((AG))))))
def nA(ds:Zd)(S:zC):R Er:=yU (vA (yD iI ds) S)
def pO:AF:=(BJ (xJ 1 yL (yJ (vJ 1) wJ)))
def KP:AF:=(AJ (bJ (yJ (fJ 3 nA (yJ (vJ 0) (yJ (vJ 1) (yJ (vJ 2) wJ)))) wJ) BU))
def AH:AF:=zQ (pO) ((KP))
def qX(ds:Zd)(S:zC):R Er:=yU (AH (yD mV ds) S)
def aT:zK->zC->R Bool:=uJ
def jQ:AE:=(dJ (HQ false) (vJ 0) (vJ 1))
def iT:AF:=(AJ (bJ (yJ (pJ (bJ (vJ 0) HW) (xR 0) (aT) (jQ) 1 [1]) wJ) Kb))
def nB:AF:=(iT)
def hW(ds:Zd)(S:zC):R Er:=yU (nB (yD ["some","others"] ds) S)
def cF:zK->zC->R Bool:=(bJ (dJ (BQ true) (vJ 0) (vJ 1)) mB)
def mW:AE:=(vJ 0)
def mX:zK->zC->R Bool:=uJ
def cG:AE:=(pJ (bJ (fJ 2 xP (yJ (vJ 1) (yJ (vJ 0) wJ))) HW) (xR 0) (cF) (mW) 1 [2])
def mY:zK->zC->R Fl:=(iJ (rJ (bJ (dJ (BQ true) (vJ 8) (vJ 5)) mB) (bJ (fJ 2 hW (yJ (vJ 7) (yJ (dJ wN (vJ 4) (vJ 8)) wJ))) FM)) (zQ (EJ (kJ (.bl true)) (DJ sR (vJ 5) (vJ 8))) ((BJ (eJ jP DV (vJ 6) (yJ (vJ 8) wJ))))) (JJ))
def bF:zK->zC->R Fl:=(mY)
def cH:zK->zC->R Fl:=(CJ (dJ wN (vJ 4) (gJ jP GM (vJ 6))) 7)
def mZ:zK->zC->R Fl:=(FJ (bJ (yJ (bJ (yJ (vJ 4) wJ) mG) wJ) kA) (xR 8) (bF))
def bG:zK->zC->R Fl:=zQ (cH) ((mZ))
def kH:zK->zC->R Bool:=(bJ (vJ 6) FM)
def eK:AF:=(CJ (fJ 3 nA (yJ (vJ 0) (yJ (vJ 1) (yJ (vJ 2) wJ)))) 3)
def eM:AF:=(CJ (pJ (bJ (dJ wN (vJ 1) (kJ (.int 1))) Jp) (xR 0) (mX) (cG) 1 [1,3]) 4)
def eO:AF:=(CJ (d1J (vJ 2) (kJ (.bl true))) 5)
def eP:AF:=(CJ (bJ (yJ (vJ 2) wJ) bX) 6)
def rW:AF:=(λρ S=>bK (kH) (bG) 10000 ρ S)
def rX:AF:=(AJ (bJ (yJ (vJ 5) wJ) sS))
def oU:AF:=zQ (eK) (zQ (eM) (zQ (eO) (zQ (eP) (zQ (rW) ((rX))))))
def aO(ds:Zd)(S:zC):R Er:=yU (oU (yD oO ds) S)
def tH:zK->zC->R Bool:=(bJ (dJ Ct (vJ 0) (vJ 1)) mB)
def tI:AE:=(bJ (yJ (vJ 1) (yJ (vJ 0) wJ)) dQ)
def DL:zK->zC->R Fl:=(BJ (eJ jP Ln (vJ 2) (yJ (pJ (bJ (fJ 3 aO (yJ (vJ 0) (yJ (vJ 1) (yJ (vJ 3) wJ)))) HW) (xR 0) (tH) (tI) 1 [3]) wJ)))
def uF:zK->zC->R Fl:=(DL)
def pP:AF:=(BJ (xJ 1 yL (yJ (vJ 1) wJ)))
def BV:AF:=(CJ (bJ wJ bX) 2)
def BW:AF:=(FJ (bJ (yJ (bJ (yJ (dJ wN (vJ 1) (kJ (.int 1))) wJ) mG) wJ) kA) (xR 3) (uF))
def KQ:AF:=(AJ (bJ (yJ (vJ 2) wJ) KD))
def AI:AF:=zQ (pP) (zQ (BV) (zQ (BW) ((KQ))))
def fV(ds:Zd)(S:zC):R Er:=yU (AI (yD MN ds) S)
def vB:zK->zC->R Fl:=(iJ (bJ (dJ (HQ false) (bJ (yJ (vJ 4) (yJ (vJ 3) wJ)) dQ) (vJ 2)) mB) ((AJ (bJ (yJ (vJ 3) (yJ (vJ 4) wJ)) bX))) (JJ))
def AM:zK->zC->R Fl:=(vB)
def tK:AF:=(CJ (xJ 2 fV (yJ (vJ 0) (yJ (vJ 1) wJ))) 2)
def GO:AF:=(FJ (bJ (vJ 2) HW) (Ck 2 (kR (xR 3) (kR (xR 4) uK))) (AM))
def Fk:AF:=(AJ (kJ .non))
def GP:AF:=zQ (tK) (zQ (GO) ((Fk)))
def CA(ds:Zd)(S:zC):R Er:=yU (GP (yD Fj ds) S)
def nE:AF:=(iJ (bJ (dJ Ob (vJ 1) (bJ (yJ (vJ 0) wJ) mG)) mB) ((AJ (dJ wN (vJ 0) (vJ 1)))) (JJ))
def CB:AF:=(AJ (kJ (.int 0)))
def iU:AF:=zQ (nE) ((CB))
def zW(ds:Zd)(S:zC):R Er:=yU (iU (yD ["_law_script","_law_k"] ds) S)
def bM:zK->zC->R Fl:=(CJ (dJ xU (vJ 3) (dJ wN (vJ 1) (dJ wW (vJ 0) (kJ (.int 26))))) 3)
def bN:zK->zC->R Fl:=(CJ (dJ jD (vJ 0) (kJ (.int 26))) 0)
def nF:zK->zC->R Fl:=zQ (bM) ((bN))
def nG:AF:=(CJ (kJ (.str [97,98,99,100,101,102,103,104,105,106,107,108,109,110,111,112,113,114,115,116,117,118,119,120,121,122])) 1)
def nH:AF:=(CJ (dJ xU (kJ (.int 1)) (dJ wW (vJ 0) (kJ (.int 8)))) 2)
def nI:AF:=(CJ (dJ jD (vJ 0) (kJ (.int 8))) 0)
def nK:AF:=(CJ (kJ (.str [])) 3)
def nL:AF:=(FJ (bJ (yJ (vJ 2) wJ) kA) (xR 4) (nF))
def pQ:AF:=(AJ (bJ (yJ (vJ 3) (yJ (vJ 0) wJ)) dQ))
def iV:AF:=zQ (nG) (zQ (nH) (zQ (nI) (zQ (nK) (zQ (nL) ((pQ))))))
def kI(ds:Zd)(S:zC):R Er:=yU (iV (yD sV ds) S)
def xV:zK->zC->R Fl:=(iJ (bJ (dJ (HQ false) (vJ 4) (vJ 2)) mB) ((CJ (dJ xU (tJ fQ (vJ 4) mJ (bJ (kJ (.int 7)) JN)) (vJ 5)) 4)) (JJ))
def xC:zK->zC->R Fl:=(xV)
def xW:zK->zC->R Fl:=(EJ (fJ 1 kI (yJ (vJ 0) wJ)) (Ck 2 (kR (xR 4) (kR (xR 0) uK))))
def xX:zK->zC->R Fl:=(FJ (bJ (kJ (.str [97,98,99,100,101,102,103,104,105,106])) itS) (xR 5) (xC))
def xY:zK->zC->R Fl:=(BJ (eJ jP DV (vJ 2) (yJ (vJ 4) wJ)))
def wX:zK->zC->R Fl:=zQ (xW) (zQ (xX) ((xY)))
def wY:AF:=(CJ (bJ wJ bX) 2)
def wZ:AF:=(FJ (bJ (yJ (vJ 1) wJ) kA) (xR 3) (wX))
def gX:AF:=(AJ (vJ 2))
def kS:AF:=zQ (wY) (zQ (wZ) ((gX)))
def xQ(ds:Zd)(S:zC):R Er:=yU (kS (yD cE ds) S)
def nN:zK->zC->R Fl:=(CJ (dJ xU (dJ jD (vJ 0) (dJ xU (kJ (.int 49)) (dJ sK (kJ (.int 5)) (vJ 8)))) (dJ sK (vJ 8) (dJ wW (dJ jD (vJ 0) (kJ (.int 49))) (kJ (.int 3))))) 9)
def nO:zK->zC->R Fl:=(iJ (bJ (dJ DU (vJ 8) (vJ 4)) mB) ((CJ (dJ xU (vJ 9) (dJ sK (kJ (.int 3)) (vJ 6))) 9)) (JJ))
def pS:zK->zC->R Fl:=(CJ (dJ xU (vJ 7) (dJ wN (vJ 2) (dJ wW (vJ 9) (kJ (.int 26))))) 7)
def cJ:zK->zC->R Fl:=zQ (nN) (zQ (nO) ((pS)))
def nP:zK->zC->R Fl:=(CJ (kJ (.str [])) 7)
def nQ:zK->zC->R Fl:=(FJ (bJ (yJ (vJ 3) wJ) kA) (xR 8) (cJ))
def nR:zK->zC->R Fl:=(BJ (eJ jP DV (vJ 5) (yJ (vJ 7) wJ)))
def iW:zK->zC->R Fl:=zQ (nP) (zQ (nQ) ((nR)))
def jR:AF:=(iJ (bJ (dJ DU (dJ wW (vJ 0) (kJ (.int 2))) (kJ (.int 0))) mB) ((AJ (fJ 2 xQ (yJ (dJ jD (vJ 0) (kJ (.int 2))) (yJ (vJ 1) wJ))))) (JJ))
def iX:AF:=(CJ (kJ (.str [97,98,99,100,101,102,103,104,105,106,107,108,109,110,111,112,113,114,115,116,117,118,119,120,121,122])) 2)
def iY:AF:=(CJ (dJ wW (dJ sK (dJ wW (dJ sK (vJ 0) (kJ (.int 69621))) (kJ (.int 2147483629))) (kJ (.int 48271))) (kJ (.int 2147483647))) 0)
def iZ:AF:=(CJ (dJ xU (kJ (.int 1)) (dJ wW (vJ 0) (kJ (.int 7)))) 3)
def lB:AF:=(CJ (dJ wW (dJ jD (vJ 0) (kJ (.int 7))) (vJ 3)) 4)
def lE:AF:=(CJ (bJ wJ bX) 5)
def lF:AF:=(FJ (bJ (yJ (vJ 1) wJ) kA) (xR 6) (iW))
def lG:AF:=(iJ (bJ (dJ DU (dJ wW (dJ jD (vJ 0) (kJ (.int 49))) (kJ (.int 4))) (kJ (.int 1))) mB) ((EJ (dJ xU (dJ wN (vJ 5) (kJ (.int 0))) (dJ wN (vJ 2) (dJ wW (dJ jD (vJ 0) (kJ (.int 196))) (kJ (.int 26))))) (DJ OY (vJ 5) (kJ (.int 1))))) (JJ))
def tL:AF:=(AJ (vJ 5))
def cK:AF:=zQ (jR) (zQ (iX) (zQ (iY) (zQ (iZ) (zQ (lB) (zQ (lE) (zQ (lF) (zQ (lG) ((tL)))))))))
def fW(ds:Zd)(S:zC):R Er:=yU (cK (yD AB ds) S)
def nS:zK->zC->R Fl:=(BJ (eJ jP DV (vJ 2) (yJ (dJ wW (vJ 3) (kJ (.int 1000000))) wJ)))
def nU:zK->zC->R Fl:=(CJ (dJ jD (vJ 3) (kJ (.int 1000000))) 3)
def cL:zK->zC->R Fl:=zQ (nS) ((nU))
def nV:zK->zC->R Fl:=(CJ (dJ wW (dJ xU (dJ xU (dJ sK (vJ 5) (vJ 5)) (dJ sK (kJ (.int 48271)) (vJ 5))) (vJ 4)) (kJ (.int 2147483647))) 5)
def nW:zK->zC->R Fl:=(BJ (eJ jP DV (vJ 2) (yJ (dJ jD (dJ wW (dJ sK (vJ 5) (kJ (.int 69621))) (kJ (.int 2147483587))) (kJ (.int 16))) wJ)))
def lH:zK->zC->R Fl:=zQ (nV) ((nW))
def lK:AF:=(CJ (bJ wJ bX) 2)
def jS:AF:=(iJ (bJ (dJ DU (dJ wW (vJ 0) (kJ (.int 2))) (kJ (.int 0))) mB) (zQ (CJ (dJ jD (vJ 0) (kJ (.int 2))) 3) (zQ (FJ (bJ (yJ (vJ 1) wJ) kA) (xR 4) (cL)) ((AJ (vJ 2))))) (JJ))
def lL:AF:=(CJ (dJ xU (dJ wW (vJ 0) (kJ (.int 2147483629))) (kJ (.int 1))) 5)
def lN:AF:=(FJ (bJ (yJ (vJ 1) wJ) kA) (xR 4) (lH))
def GQ:AF:=(AJ (vJ 2))
def cN:AF:=zQ (lK) (zQ (jS) (zQ (lL) (zQ (lN) ((GQ)))))
def yO(ds:Zd)(S:zC):R Er:=yU (cN (yD AC ds) S)
def cO:zK->zC->R Fl:=(CJ (dJ xU (dJ xU (kJ (.int 1)) (dJ wW (vJ 3) (kJ (.int 3)))) (bJ (yJ (dJ DU (dJ wW (dJ jD (vJ 3) (kJ (.int 3))) (kJ (.int 5))) (kJ (.int 0))) wJ) Ke)) 4)
def cP:zK->zC->R Fl:=(BJ (eJ jP DV (vJ 2) (yJ (bJ (yJ (vJ 4) (yJ (bJ (yJ (vJ 4) (yJ (dJ wN (bJ (yJ (kJ (.int 0)) (yJ (kJ (.int 1)) (yJ (kJ (.int 1)) (yJ (kJ (.int 1)) (yJ (kJ (.int 2)) (yJ (kJ (.int 4)) wJ)))))) bX) (dJ wW (dJ jD (vJ 3) (kJ (.int 15))) (kJ (.int 6)))) wJ)) UE) wJ)) dQ) wJ)))
def eQ:zK->zC->R Fl:=zQ (cO) ((cP))
def eR:AF:=(CJ (fJ 2 yO (yJ (vJ 0) (yJ (kJ (.int 5)) wJ))) 1)
def eS:AF:=(CJ (bJ wJ bX) 2)
def eT:AF:=(FJ (bJ (tJ fQ (vJ 1) mJ (bJ (dJ xU (kJ (.int 1)) (dJ wW (dJ wN (vJ 1) (kJ (.int 4))) (kJ (.int 4)))) JN)) HW) (xR 3) (eQ))
def rY:AF:=(AJ (bJ (yJ (vJ 2) wJ) eF))
def oV:AF:=zQ (eR) (zQ (eS) (zQ (eT) ((rY))))
def aP(ds:Zd)(S:zC):R Er:=yU (oV (yD uM ds) S)
def cQ:zK->zC->R Fl:=(EJ (fJ 1 kI (yJ (dJ jD (vJ 2) (kJ (.int 2))) wJ)) (Ck 2 (kR (xR 6) (kR (xR 2) uK))))
def jK:zK->zC->R Fl:=(iJ (bJ (dJ DU (dJ wW (vJ 2) (kJ (.int 2))) (kJ (.int 1))) mB) (zQ (CJ (dJ xU (dJ DS (dJ wW (dJ jD (vJ 2) (kJ (.int 2))) (dJ DS (dJ sK (kJ (.int 2)) (dJ DT (kJ (.int 10)) (kJ (.int 30)))) (kJ (.int 1)))) (dJ DT (kJ (.int 10)) (kJ (.int 30)))) (kJ (.int 1))) 6) ((CJ (dJ jD (vJ 2) (dJ DS (dJ sK (kJ (.int 2)) (dJ DT (kJ (.int 10)) (kJ (.int 30)))) (kJ (.int 1)))) 2))) (JJ))
def cR:zK->zC->R Fl:=(iJ (bJ (dJ (HQ true) (vJ 6) (vJ 4)) mB) ((BJ (eJ jP DV (vJ 4) (yJ (vJ 6) wJ)))) (JJ))
def wL:zK->zC->R Fl:=zQ (cQ) (zQ (jK) ((cR)))
def jL:zK->zC->R Bool:=(bJ (dJ (HQ true) (vJ 0) (vJ 1)) mB)
def cS:AE:=(vJ 0)
def kX:AF:=(iJ (bJ (dJ DU (dJ wW (vJ 0) (kJ (.int 2))) (kJ (.int 0))) mB) (zQ (CJ (dJ jD (vJ 0) (kJ (.int 2))) 2) (zQ (CJ (dJ xU (kJ (.int 2)) (dJ wW (vJ 2) (kJ (.int 3)))) 3) (zQ (CJ (dJ jD (vJ 2) (kJ (.int 3))) 2) (zQ (CJ (bJ wJ bX) 4) (zQ (FJ (bJ (yJ (vJ 3) wJ) kA) (xR 5) (wL)) ((AJ (dJ xU (vJ 4) (tJ fQ (pJ (bJ (vJ 1) HW) (xR 0) (jL) (cS) 1 [4]) mJ (bJ (dJ DS (kJ (.int 2)) (bJ (yJ (kJ (.int 2)) (yJ (bJ (yJ (vJ 4) wJ) mG) wJ)) UE)) JN)))))))))) (JJ))
def eU:AF:=(CJ (dJ xU (dJ DS (dJ wW (vJ 0) (dJ DS (dJ sK (kJ (.int 2)) (dJ DT (kJ (.int 10)) (kJ (.int 30)))) (kJ (.int 2)))) (dJ DT (kJ (.int 10)) (kJ (.int 30)))) (kJ (.int 1))) 7)
def eV:AF:=(CJ (bJ (yJ (vJ 7) (yJ (dJ xU (vJ 7) (kJ (.int 1))) (yJ (dJ wN (vJ 1) (kJ (.int 0))) (yJ (dJ wN (vJ 1) (kJ (.int 1))) wJ)))) bX) 8)
def eW:AF:=(CJ (dJ wW (dJ jD (vJ 0) (kJ (.int 5))) (kJ (.int 4))) 9)
def eX:AF:=(AJ (tJ fQ (dJ xU (tJ fQ (vJ 8) (bJ (vJ 9) JN) mJ) (tJ fQ (vJ 8) mJ (bJ (vJ 9) JN))) mJ (bJ (dJ xU (kJ (.int 2)) (dJ wW (vJ 0) (kJ (.int 3)))) JN)))
def gY:AF:=zQ (kX) (zQ (eU) (zQ (eV) (zQ (eW) ((eX)))))
def aQ(ds:Zd)(S:zC):R Er:=yU (gY (yD oP ds) S)
def gZ:AF:=(iJ (bJ (dJ DU (dJ wW (vJ 0) (kJ (.int 6))) (kJ (.int 0))) mB) ((AJ (bJ (yJ (kJ (.str [105,115])) (yJ (dJ wN (vJ 2) (dJ wW (dJ jD (vJ 0) (kJ (.int 6))) (bJ (yJ (vJ 2) wJ) mG))) wJ)) dQ))) (JJ))
def uN:AF:=(AJ (bJ (yJ (kJ (.str [118,97,114])) (yJ (dJ wN (vJ 1) (dJ wW (dJ jD (vJ 0) (kJ (.int 6))) (bJ (yJ (vJ 1) wJ) mG))) wJ)) dQ))
def aU:AF:=zQ (gZ) ((uN))
def bT(ds:Zd)(S:zC):R Er:=yU (aU (yD bR ds) S)
def gK:zK->zC->R Fl:=(iJ (bJ (dJ DU (dJ wN (vJ 4) (kJ (.int 0))) (kJ (.str [118,97,114]))) mB) ((EJ (kJ (.bl true)) (DJ sR (vJ 1) (dJ wN (vJ 4) (kJ (.int 1)))))) (JJ))
def jM:zK->zC->R Fl:=(gK)
def fM:zK->zC->R Fl:=(FJ (bJ (vJ 3) Jp) (xR 4) (jM))
def cT:zK->zC->R Fl:=(fM)
def cU:AF:=(CJ zJ 1)
def cV:AF:=(FJ (bJ (vJ 0) HW) (Ck 2 (kR (xR 2) (kR (xR 3) uK))) (cT))
def oA:AF:=(AJ (bJ (yJ (vJ 1) wJ) BU))
def eY:AF:=zQ (cU) (zQ (cV) ((oA)))
def bH(ds:Zd)(S:zC):R Er:=yU (eY (yD rV ds) S)
def fN:zK->zC->R Bool:=uJ
def gM:AE:=(dJ wW (dJ xU (dJ jD (dJ wN (vJ 1) (kJ (.int 0))) (kJ (.int 4))) (vJ 0)) (bJ (yJ (vJ 2) wJ) mG))
def fO:zK->zC->R Bool:=uJ
def gN:AE:=(fJ 3 bT (yJ (vJ 0) (yJ (vJ 1) (yJ (vJ 2) wJ))))
def gO:zK->zC->R Fl:=(CJ (fJ 2 yO (yJ (dJ wN (vJ 0) (dJ xU (kJ (.int 2)) (vJ 7))) (yJ (kJ (.int 4)) wJ))) 8)
def gP:zK->zC->R Fl:=(CJ (dJ wN (dJ wN (vJ 1) (dJ wN (vJ 5) (vJ 7))) (kJ (.int 0))) 9)
def gQ:zK->zC->R Fl:=(BJ (eJ jP DV (vJ 6) (yJ (bJ (yJ (dJ wN (vJ 5) (vJ 7)) (yJ (bJ (yJ (pJ (bJ (tJ fQ (vJ 8) mJ (bJ (vJ 9) JN)) HW) (xR 0) (fO) (gN) 1 [2,3]) wJ) eF) wJ)) dQ) wJ)))
def jN:zK->zC->R Fl:=zQ (gO) (zQ (gP) ((gQ)))
def gR:zK->zC->R Bool:=(bJ (dJ DU (dJ wW (dJ jD (dJ wN (vJ 1) (kJ (.int 1))) (dJ wN (bJ (yJ (kJ (.int 1)) (yJ (kJ (.int 3)) (yJ (kJ (.int 9)) (yJ (kJ (.int 27)) wJ)))) bX) (vJ 0))) (kJ (.int 3))) (kJ (.int 1))) mB)
def gT:AE:=(dJ wN (vJ 2) (vJ 0))
def cW:AF:=(CJ (dJ xU (kJ (.int 1)) (dJ wW (dJ wN (vJ 0) (kJ (.int 0))) (bJ (yJ (vJ 1) wJ) mG))) 4)
def cX:AF:=(CJ (pJ (bJ (yJ (bJ (yJ (vJ 1) wJ) mG) wJ) kA) (xR 0) (fN) (gM) 1 [0,1]) 5)
def cY:AF:=(iJ (bJ (dJ DU (dJ wW (dJ jD (dJ wN (vJ 0) (kJ (.int 0))) (kJ (.int 16))) (kJ (.int 2))) (kJ (.int 1))) mB) ((BJ (gJ jP ZU (vJ 5)))) (JJ))
def cZ:AF:=(CJ (bJ wJ bX) 6)
def dA:AF:=(FJ (bJ (yJ (vJ 4) wJ) kA) (xR 7) (jN))
def dB:AF:=(CJ (fJ 1 bH (yJ (vJ 6) wJ)) 10)
def dC:AF:=(CJ (pJ (bJ (yJ (bJ (yJ (vJ 10) wJ) mG) wJ) kA) (xR 0) (gR) (gT) 1 [0,10]) 11)
def dE:AF:=(iJ (bJ (dJ DU (dJ wW (dJ jD (dJ wN (vJ 0) (kJ (.int 1))) (kJ (.int 81))) (kJ (.int 2))) (kJ (.int 1))) mB) ((BJ (gJ jP ZU (vJ 11)))) (JJ))
def dF:AF:=(AJ (bJ (yJ (bJ (yJ (tJ fQ (vJ 11) mJ (bJ (kJ (.int 2)) JN)) wJ) eF) (yJ (bJ (yJ (vJ 6) wJ) eF) wJ)) dQ))
def eZ:AF:=zQ (cW) (zQ (cX) (zQ (cY) (zQ (cZ) (zQ (dA) (zQ (dB) (zQ (dC) (zQ (dE) ((dF)))))))))
def kY(ds:Zd)(S:zC):R Er:=yU (eZ (yD kW ds) S)
def hX:zK->zC->R Bool:=(bJ (dJ wN (vJ 1) (vJ 0)) FM)
def nX:AE:=(vJ 0)
def lO:AF:=(CJ (bJ (yJ (bJ (vJ 0) (qI XNS "Double")) (yJ (bJ (vJ 0) (qI XNS "Ring")) (yJ (bJ (vJ 0) (qI XNS "NotPlain")) (yJ (bJ (vJ 0) (qI XNS "TooGreat")) wJ)))) bX) 1)
def lP:AF:=(CJ (dJ xU (vJ 1) (bJ (yJ (bJ (vJ 0) (qI XNS "NoText")) (yJ (bJ (vJ 0) (qI XNS "NoPlace")) (yJ (bJ (vJ 0) (qI XNS "NoTable")) (yJ (bJ (vJ 0) (qI XNS "NoRule")) wJ)))) bX)) 1)
def lQ:AF:=(CJ (dJ xU (vJ 1) (bJ (yJ (bJ (vJ 0) (qI XNS "NoRow")) (yJ (bJ (vJ 0) (qI XNS "Twice")) (yJ (bJ (vJ 0) (qI XNS "NoQuestion")) (yJ (bJ (vJ 0) (qI XNS "TooWide")) wJ)))) bX)) 1)
def tM:AF:=(AJ (pJ (bJ (yJ (kJ (.int 12)) wJ) kA) (xR 0) (hX) (nX) 1 [1]))
def qY:AF:=zQ (lO) (zQ (lP) (zQ (lQ) ((tM))))
def dG(ds:Zd)(S:zC):R Er:=yU (qY (yD ["_law_e","_law_some"] ds) S)
def rZ:zK->zC->R Bool:=uJ
def fA:AE:=(fJ 3 bT (yJ (vJ 0) (yJ (vJ 1) (yJ (vJ 2) wJ))))
def fB:zK->zC->R Fl:=(CJ (dJ wN (dJ wN (vJ 7) (dJ wW (dJ jD (vJ 8) (kJ (.int 8))) (bJ (yJ (vJ 7) wJ) mG))) (kJ (.int 0))) 9)
def fC:zK->zC->R Fl:=(CJ (fJ 2 yO (yJ (dJ jD (vJ 8) (kJ (.int 3))) (yJ (kJ (.int 4)) wJ))) 10)
def fD:zK->zC->R Fl:=(CJ (bJ (yJ (pJ (bJ (tJ fQ (vJ 10) mJ (bJ (dJ wN (dJ wN (vJ 1) (vJ 9)) (kJ (.int 0))) JN)) HW) (xR 0) (rZ) (fA) 1 [3,4]) wJ) eF) 11)
def kZ:zK->zC->R Fl:=(iJ (bJ (dJ Ob (bJ (yJ (vJ 7) wJ) mG) (kJ (.int 4))) mB) ((BJ (eJ jP As (vJ 7) (yJ (dJ wW (dJ jD (vJ 8) (kJ (.int 64))) (dJ xU (bJ (yJ (vJ 7) wJ) mG) (kJ (.int 1)))) (yJ (bJ (yJ (vJ 9) (yJ (vJ 11) wJ)) dQ) wJ))))) (JJ))
def bA:zK->zC->R Fl:=zQ (fB) (zQ (fC) (zQ (fD) ((kZ))))
def oW:AF:=(EJ (vJ 0) (Ck 2 (kR (xR 5) (kR (xR 6) uK))))
def oX:AF:=(CJ (bJ (yJ (vJ 6) wJ) VX) 7)
def oY:AF:=(FJ (bJ (vJ 2) HW) (xR 8) (bA))
def oZ:AF:=(AJ (bJ (yJ (vJ 5) (yJ (bJ (yJ (vJ 7) wJ) eF) wJ)) dQ))
def tN:AF:=zQ (oW) (zQ (oX) (zQ (oY) ((oZ))))
def aV(ds:Zd)(S:zC):R Er:=yU (tN (yD sW ds) S)
def pT:zK->zC->R Bool:=uJ
def pU:AE:=(dJ wN (vJ 0) (kJ (.int 0)))
def nY:zK->zC->R Fl:=(iJ (bJ (dJ (HQ false) (dJ wN (dJ wN (vJ 0) (vJ 1)) (kJ (.int 0))) (pJ (bJ (tJ fQ (vJ 0) mJ (bJ (vJ 1) JN)) Jp) (xR 0) (pT) (pU) 1 [])) mB) ((AJ (vJ 1))) (JJ))
def dH:zK->zC->R Fl:=(nY)
def jT:AF:=(FJ (bJ (yJ (bJ (yJ (vJ 0) wJ) mG) wJ) kA) (xR 1) (dH))
def GR:AF:=(AJ (kJ .non))
def qZ:AF:=zQ (jT) ((GR))
def fX(ds:Zd)(S:zC):R Er:=yU (qZ (yD ["_law_atoms","_law_k"] ds) S)
def kK:AF:=(iJ (bJ (dJ DU (vJ 0) (kJ (.int 0))) mB) ((AJ (xJ 3 qX (yJ (vJ 1) (yJ (vJ 2) (yJ (vJ 3) wJ)))))) (JJ))
def dI:AF:=(iJ (bJ (dJ DU (vJ 0) (kJ (.int 1))) mB) ((AJ (xJ 2 fV (yJ (vJ 1) (yJ (vJ 2) wJ))))) (JJ))
def tO:AF:=(AJ (xJ 2 CA (yJ (vJ 1) (yJ (vJ 2) wJ))))
def rA:AF:=zQ (kK) (zQ (dI) ((tO)))
def xD(ds:Zd)(S:zC):R Er:=yU (rA (yD wO ds) S)
def bO:zK->zC->R Fl:=(CJ (bJ (yJ (fJ 1 dG (yJ (vJ 5) wJ)) (yJ (bJ (vJ 5) (Du XNS)) wJ)) dQ) 4)
def bP:zK->zC->R Fl:=(iJ (bJ (bJ (vJ 5) (qI XNS "Double")) FM) ((CJ (dJ xU (vJ 4) (bJ (yJ (bJ (vJ 5) (Af XNS "place")) (yJ (bJ (yJ (bJ (vJ 5) (Af XNS "place")) (yJ (kJ (.typ "bool")) wJ)) IA) wJ)) dQ)) 4)) (JJ))
def nZ:zK->zC->R Fl:=zQ (bO) ((bP))
def aB:AF:=(CJ (bJ wJ dQ) 4)
def kL:AF:=(HJ XNS 5 nZ 4 xD (yJ (vJ 0) (yJ (vJ 1) (yJ (vJ 2) (yJ (vJ 3) wJ)))))
def CC:AF:=(AJ (vJ 4))
def jU:AF:=zQ (aB) (zQ (kL) ((CC)))
def kM(ds:Zd)(S:zC):R Er:=yU (jU (yD sX ds) S)
def KR:zK->zC->R Bool:=uJ
def CD:AE:=(fJ 2 zW (yJ (vJ 1) (yJ (dJ xU (kJ (.int 3)) (vJ 0)) wJ)))
def KS:zK->zC->R Bool:=uJ
def CF:AE:=(fJ 2 zW (yJ (vJ 1) (yJ (dJ xU (kJ (.int 9)) (vJ 0)) wJ)))
def CG:zK->zC->R Fl:=(CJ (dJ wW (dJ xU (dJ jD (fJ 2 zW (yJ (vJ 0) (yJ (kJ (.int 9)) wJ))) (kJ (.int 3))) (vJ 9)) (bJ (yJ (dJ wN (vJ 5) (kJ (.int 1))) wJ) mG)) 10)
def CI:zK->zC->R Fl:=(iJ (bJ (dJ Ct (fJ 4 kM (yJ (vJ 9) (yJ (vJ 2) (yJ (vJ 5) (yJ (vJ 10) wJ))))) (bJ wJ dQ)) mB) ((AJ (kJ (.bl false)))) (JJ))
def CK:zK->zC->R Fl:=(CJ (bJ wJ dQ) 11)
def pV:zK->zC->R Fl:=(iJ (bJ (dJ JQ (vJ 8) (kJ .non)) mB) ((CJ (bJ (yJ (bJ (yJ (kJ (.int 0)) wJ) bX) (yJ (kJ (.bl true)) (yJ (vJ 8) (yJ (kJ (.bl false)) wJ)))) dQ) 11)) (JJ))
def pW:zK->zC->R Fl:=(iJ (bJ (dJ Ct (fJ 4 kM (yJ (vJ 9) (yJ (vJ 2) (yJ (vJ 7) (yJ (vJ 10) wJ))))) (vJ 11)) mB) ((AJ (kJ (.bl false)))) (JJ))
def rB:zK->zC->R Fl:=zQ (CG) (zQ (CI) (zQ (CK) (zQ (pV) ((pW)))))
def MP:AF:=(CJ (fJ 2 fW (yJ (fJ 2 zW (yJ (vJ 0) (yJ (kJ (.int 0)) wJ))) (yJ (kJ (.int 6)) wJ))) 1)
def MQ:AF:=(CJ (fJ 1 aP (yJ (fJ 2 zW (yJ (vJ 0) (yJ (kJ (.int 1)) wJ))) wJ)) 2)
def MS:AF:=(CJ (fJ 2 aQ (yJ (fJ 2 zW (yJ (vJ 0) (yJ (kJ (.int 2)) wJ))) (yJ (tJ fQ (vJ 1) (bJ (kJ (.int 4)) JN) mJ) wJ))) 3)
def MT:AF:=(CJ (pJ (bJ (yJ (kJ (.int 6)) wJ) kA) (xR 0) (KR) (CD) 1 [0]) 4)
def MU:AF:=(CJ (fJ 4 kY (yJ (vJ 4) (yJ (vJ 2) (yJ (tJ fQ (vJ 1) mJ (bJ (kJ (.int 4)) JN)) (yJ (vJ 3) wJ))))) 5)
def MW:AF:=(CJ (pJ (bJ (yJ (dJ xU (kJ (.int 1)) (dJ wW (fJ 2 zW (yJ (vJ 0) (yJ (kJ (.int 9)) wJ))) (kJ (.int 3)))) wJ) kA) (xR 0) (KS) (CF) 1 [0]) 6)
def MX:AF:=(CJ (fJ 5 aV (yJ (vJ 5) (yJ (vJ 2) (yJ (vJ 6) (yJ (tJ fQ (vJ 1) mJ (bJ (kJ (.int 4)) JN)) (yJ (vJ 3) wJ)))))) 7)
def MY:AF:=(CJ (fJ 1 fX (yJ (dJ wN (vJ 7) (kJ (.int 1))) wJ)) 8)
def MZ:AF:=(FJ (bJ (yJ (kJ (.int 3)) wJ) kA) (xR 9) (rB))
def Fm:AF:=(AJ (kJ (.bl true)))
def Fn:AF:=zQ (MP) (zQ (MQ) (zQ (MS) (zQ (MT) (zQ (MU) (zQ (MW) (zQ (MX) (zQ (MY) (zQ (MZ) ((Fm))))))))))
def QJ(ds:Zd)(S:zC):R Er:=yU (Fn (yD WU ds) S)
section
variable(K F:Nat->List (List Nat))(n:Nat)
inductive Kn(i:Nat):List Nat->Prop
 |key {x:Db}:x∈K i->Kn i x
 |step {x:Db} (j:Nat):j<n->j≠i->(∀y,y∈K j->Kn i y)->x∈F j->Kn i x
inductive Rc(i:Nat):Nat->Prop
 |self:Rc i i
 |step {x:Db} (j k:Nat):Rc i j->k<n->x∈F j->x∈F k-> ¬Kn K F n i x->Rc i k
end
def Ma{b:Int}(h:TD 0 b)(a:Int)(S:zC):jD (.val (.int a)) (.val (.int b)) S=.ok (.val (.int (a / b))) S:=iP (show TD a b from h)
def oB{S:zC}{l:Nat}{ds:Zd}{d:MV}(hS:S[l]? =some (.lst ds))(hz:ds.length<1000000):DV (.val (.loc l)) [.val d] S=.ok (.val .non) (S.set l (.lst (ds++[d]))):=by show sN (.val (.loc l)) S (λds=>if ds.length<sizeLine then some (ds++[d])else none)=_;unfold sN;dsimp only;rw[hS];dsimp only;rw[iP (lt_of_lt_of_le hz (fits (le_refl _)))]
theorem gA{S:zC}{l:Nat}{ds:Zd}(hS:S[l]? =some (.lst ds)):jP (.val (.loc l)) S=true:=by unfold jP;rw[iH hS];rfl
def Fo{S:zC}{l:Nat}{ds:Zd}{k:Int}{j:Nat}{d:MV}{ρ:zK}(hS:S[l]? =some (.lst ds))(hj:SE ds.length k=some j):OY (.val (.loc l)) (.val (.int k)) d ρ S=.ok ρ (S.set l (.lst (ds.set j d))):=by unfold OY;dsimp only;rw[hS];dsimp only;rw[hj]
def CL{S:zC}{l:Nat}{ds:Zd}(hS:S[l]? =some (.lst ds)):eF [.val (.loc l)] S=.ok (.val (.tup ds)) S:=by show(match hG S (.val (.loc l))with |some ds=>R.ok (Er.val (.tup ds)) S|none=>.no)=_;rw[iH hS]
theorem uG(ds:Zd)(S:zC):mG [.val (.tup ds)] S=.ok (.val (.int ds.length)) S:=rfl
theorem oE(gf:MV->zK->zC->R zK)(ρ:zK)(d:MV)(S:zC):Jm gf ρ (.val d) S=(gf d ρ S).bind λρ' S2=>.ok (.next ρ') S2:=rfl
def tbl(p:Int×Int):MV:=.tup [.int p.1,.int p.2]
mutual
def pd:MV->Bool
 |.int _=>true
 |.str _=>true
 |.tup ds=>Fp ds
 |_=>false
def Fp:List MV->Bool
 |[]=>true
 |d::ds=>pd d&&Fp ds
end

mutual
def RU:MV->Nat
 |.tup ds=>NA ds+1
 |_=>0
def NA:List MV->Nat
 |[]=>0
 |d::ds=>max (RU d) (NA ds)
end

def CN(ds:Zd):pd (.tup ds)=Fp ds:=by rw[pd]
def EM:Fp []=true:=by rw[Fp]
def bB(d:MV)(ds:Zd):Fp (d::ds)=(pd d&&Fp ds):=by rw[Fp]
def AN(ds:Zd):RU (.tup ds)=NA ds+1:=by rw[RU]
def gB(d:MV)(ds:Zd):NA (d::ds)=max (RU d) (NA ds):=by rw[NA]
def AO:NA []=0:=by rw[NA]
def CO(i:Int):pd (.int i)=true:=by rw[pd]
def lR(i:Db):pd (.str i)=true:=by rw[pd]
def AQ(i:Int):RU (.int i)=0:=by simp[RU]
def rC(i:Db):RU (.str i)=0:=by simp[RU]
theorem NB: ∀{ds:Zd},Fp ds=true-> ∀d∈ds,pd d=true
 |[],_,d,h=>by simp at h
 |e::ds,hp,d,h=>by
  rw[bB,aE]at hp;rcases mC.mp h with rfl|h
  .exact hp.1
  .exact NB hp.2 d h
theorem QK: ∀{ds:Zd}, ∀d∈ds,RU d<=NA ds
 |[],d,h=>by simp at h
 |e::ds,d,h=>by
  rw[gB];rcases mC.mp h with rfl|h
  .exact Nat.le_max_left _ _
  .exact le_trans (QK d h) (Nat.le_max_right _ _)
def QL{d:MV}(h:pd d=true):(∃i,d=.int i)\/(∃x,d=.str x)\/ ∃ds,d=.tup ds/\Fp ds=true:=by
 cases d with
 |int i=>exact .inl ⟨i,rfl⟩
 |str x=>exact .inr (.inl ⟨x,rfl⟩)
 |tup ds=>exact .inr (.inr ⟨ds,rfl,by rw[<-CN];exact h⟩)
 |_=>rw[pd]at h<;>first |cases h|(intros;simp)
def dec_is{p:Prop}[Decidable p]{q:Prop}[Decidable q](h:p↔q):decide p=decide q:=by
 by_cases hq:q
 .rw[dT0 hq,dT0 (h.mpr hq)]
 .rw[dF0 hq,dF0 λz=>hq (h.mp z)]
theorem QM{e:MV->MV->Option Bool}: ∀{ds es:Zd},(∀d∈ds, ∀f∈es,e d f=some (decide (d=f)))-> ∃bs,vM e ds es=some bs/\(bs.all id&&ds.length==es.length)=decide (ds=es)
 |[],[],_=>⟨[],rfl,by simp⟩
 |[],_::_,_=>⟨[],rfl,by simp⟩
 |_::_,[],_=>⟨[],rfl,by simp⟩
 |d::ds,f::es,h=>by
  obtain⟨bs,h1,h2⟩:=QM (e:=e) (ds:=ds) (es:=es) λa ha b hb=>h a (mO _ ha) b (mO _ hb);refine⟨decide (d=f)::bs,?_,?_⟩
  .unfold vM;rw[h d mF0 f mF0,h1];rfl
  .by_cases hd:d=f
   .subst hd;rw[all_cons,dT0 rfl];simp only[id,Bool.true_and,lC0];rw[show(ds.length+1==es.length+1)=(ds.length==es.length) by simp,h2];exact dec_is (by simp)
   .rw[all_cons,dF0 hd];rw[dF0 (show¬(d::ds=f::es)from λz=>hd (List.cons.inj z).1)];rfl
theorem QN{S:zC}: ∀(n:Nat){d e:MV},pd d=true->pd e=true->RU d<n->eqv S n d e=some (decide (d=e))
 |0,d,e,_,_,h=>by omega
 |n+1,d,e,hd,he,h=>by
  rcases QL hd with⟨i,rfl⟩|⟨x,rfl⟩|⟨ds,rfl,pds⟩<;>rcases QL he with⟨j,rfl⟩|⟨y,rfl⟩|⟨es,rfl,pes⟩
  .rw[mT];exact congrArg some (dec_is (by simp))
  .rw[Ro,dF0 (by simp)]
  .rw[dF0 (by simp)];rfl
  .rw[Rp,dF0 (by simp)]
  .rw[VZ];exact congrArg some (dec_is (by simp))
  .rw[dF0 (by simp)];rfl
  .rw[dF0 (by simp)];rfl
  .rw[dF0 (by simp)];rfl
  .rw[AN]at h;obtain⟨bs,h1,h2⟩:=QM (e:=eqv S n) (ds:=ds) (es:=es) λa ha b hb=>QN n (NB pds a ha) (NB pes b hb) (by have:=QK a ha;omega);show((vM (eqv S n) ds es).map λbs=>bs.all id&&ds.length==es.length)=_;rw[h1];show some (bs.all id&&ds.length==es.length)=_;rw[h2];exact congrArg some (dec_is (by simp))
theorem AR{S:zC}{d:MV}(hd:pd d=true): ∀{ys:Zd},(∀y∈ys,pd y=true/\RU y<40)->OV S zT d ys=some (ys.map λy=>decide (y=d))
 |[],_=>rfl
 |y::ys,h=>by have h1:=h y mF0;unfold OV;rw[QN zT h1.1 hd (by unfold zT;exact h1.2),AR hd λz hz=>h z (mO _ hz)];rfl
theorem Ta(i:Int)(S:zC):IA [.val (.int i),.val (.typ "bool")] S=.ok (.val (.bl false)) S:=rfl
def Mb{n:Nat}{F:List MV->zC->R Er}{rs:List Er}{S:zC}{b:Bool}(hn:rs.length=n)(hF:F (zS rs S).1 (zS rs S).2=.ok (.val (.bl b)) S):yB n F rs S=.ok (.val (.bl b)) S:=pK hn hF (Od _ _) (λl=>by simp)
def SqM(S:zC)(m:MV)(ds:Zd):Prop:=m=.tup ds\/ ∃l,m=.loc l/\S[l]? =some (.lst ds)
def SqM.len{S:zC}{m:MV}{ds:Zd}(h:SqM S m ds):mG [.val m] S=.ok (.val (.int ds.length)) S:=by
 rcases h with rfl|⟨l,rfl,hS⟩
 .rfl
 .exact mU hS
def QO{n:Nat}{F:List MV->zC->R Er}{rs:List Er}{S T:zC}{r:Er}{ds:Zd}{as:Zd}{S2:zC}(hn:rs.length=n)(hE:zS rs S=(as,S2))(hF:F as S2=.ok r (S++T))(hr:r=.new ds\/ ∃l,r=.val (.loc l)/\S.length<=l/\(S++T)[l]? =some (.lst ds))(h:uV S.length ds):yB n F rs S=.ok (.new ds) S:=by
 have hF':F (zS rs S).1 (zS rs S).2=.ok r (S++T):=by rw[hE];exact hF
 rcases hr with rfl|⟨l,rfl,h1,h2⟩
 .exact kU hn hF' h
 .exact sO hn hF' h1 h2 h
theorem Mc(neg:Bool)(p:Er)(l:Nat)(S:zC):HQ neg p (.val (.loc l)) S=sM neg p (.val (.loc l)) S:=by
 unfold HQ;split
 .rename_i h;cases h
 .rfl
def AS{S:zC}{l:Nat}{d:MV}{ys:Zd}(neg:Bool)(hS:S[l]? =some (.lst ys))(hd:pd d=true)(h: ∀y∈ys,pd y=true/\RU y<40):HQ neg (.val d) (.val (.loc l)) S=.ok (.val (.bl (if neg=true then !decide (d∈ys)else decide (d∈ys)))) S:=by
 have e1:itemsOf S (.val (.loc l))=some ys:=by unfold itemsOf;exact iH hS
 rw[Mc];unfold sM;dsimp only;rw[e1];dsimp only;rw[AR hd h];dsimp only
 have ha:(ys.map λy=>decide (y=d)).any id=decide (d∈ys):=by
  rw[List.any_map];by_cases hm:d∈ys
  .rw[dT0 hm,any_eq_true];exact⟨d,hm,by simp⟩
  .rw[dF0 hm];rw[List.any_eq_false];intro y hy;simp only[Function.comp,id,decide_eq_true_eq];rintro rfl;exact hm hy
 rw[ha]
abbrev UM:List Nat:=[118,97,114]
abbrev IS:List Nat:=[105,115]
def UO(d:MV):Prop:=(∃x,d=.tup [.str UM,.str x])\/ ∃v,((∃i,v=.int i)\/ ∃x,v=.str x)/\d=.tup [.str IS,v]
mutual
theorem KU{n:Nat}: ∀{d:MV},pd d=true->lo n d
 |.int i,_=>cA n i
 |.str x,_=>BL n x
 |.tup ds,h=>dW (Fs (by rw[CN]at h;exact h))
 |.non,_=>BM n
 |.bl b,_=>Od n b
 |.scr ds,h=>by unfold pd at h;cases h
 |.loc l,h=>by unfold pd at h;cases h
 |.typ t,h=>by unfold pd at h;cases h
theorem Fs{n:Nat}: ∀{ds:Zd},Fp ds=true->uV n ds
 |[],_=>wI λd hd=>by simp at hd
 |d::ds,h=>by rw[bB,aE]at h;unfold uV;exact⟨KU h.1,Fs h.2⟩
end

def Ft{d:MV}(h:UO d):pd d=true/\RU d<=1:=by
 rcases h with⟨x,rfl⟩|⟨v,⟨i,rfl⟩|⟨x,rfl⟩,rfl⟩
 .exact⟨by rw[CN,bB,bB,EM,lR,lR];rfl,by rw[AN,gB,gB,AO,rC,rC];decide⟩
 .exact⟨by rw[CN,bB,bB,EM,lR,CO];rfl,by rw[AN,gB,gB,AO,rC,AQ];decide⟩
 .exact⟨by rw[CN,bB,bB,EM,lR,lR];rfl,by rw[AN,gB,gB,AO,rC,rC];decide⟩
def vn:MV->Option (List Nat)
 |.tup [.str w,.str x]=>if w=UM then some x else none
 |_=>none
def Tc(x:Db):vn (.tup [.str UM,.str x])=some x:=by simp[vn]
def Om(S:zC):DU (.val (.str UM)) (.val (.str UM)) S=.ok (.val (.bl true)) S:=by rw[eq_str,dT0 rfl]
def On(S:zC):DU (.val (.str IS)) (.val (.str UM)) S=.ok (.val (.bl false)) S:=by rw[eq_str,dF0 (by decide)]
def zP(S:zC)(o:MO):(S++[o])[S.length]? =some o:=by simp
def wQ(S:zC)(o o':MO):(S++[o]).set S.length o'=S++[o']:=by simp
def NC{fs:Ch}: ∀y∈fs.map MV.str,pd y=true/\RU y<40:=λd hd=>by obtain⟨u,_,rfl⟩:=mM0.mp hd;exact⟨lR u,by rw[rC];decide⟩
def WX{x:Db}{fs:Ch}:MV.str x∈fs.map MV.str↔x∈fs:=⟨λh=>by obtain⟨u,hu,e⟩:=mM0.mp h;cases e;exact hu,λh=>mM0.mpr ⟨x,h,rfl⟩⟩
theorem UP(a b:MV)(S:zC):wN (.val (.tup [a,b])) (.val (.int 0)) S=.ok (.val a) S:=rfl
theorem GS(a b:MV)(S:zC):wN (.val (.tup [a,b])) (.val (.int 1)) S=.ok (.val b) S:=rfl
def SqM.itQ{S:zC}{m:MV}{ds:Zd}(h:SqM S m ds): ∃gs,(∀T,stay gs (S++T))/\ ∀T,itQ (.val m) (S++T)=.ok ⟨ds,gs⟩ (S++T):=by
 rcases h with rfl|⟨l,rfl,hS⟩
 .exact⟨[],λT=>yX _,λT=>rfl⟩
 .have hT: ∀T,(S++T)[l]? =some (.lst ds):=λT=>by rw[getElem?_append_left (gS.mp hS).1];exact hS
  refine⟨[(l,ds)],λT=>pL (hT T),λT=>?_⟩;have e:srcOf (S++T) (.val (.loc l))=some ⟨true,ds,[(l,ds)]⟩:=by unfold srcOf;dsimp only;rw[hT T]
  unfold L2.M.itQ;rw[e]
def QP{kvs:Zi}{k:MV}(h:(look kvs k).isSome=true):k∈kvs.map (·.1):=by unfold look at h;rw[Option.isSome_map]at h;obtain⟨p,hp⟩:=Option.isSome_iff_exists.mp h;have h1:=List.find?_some hp;exact mM0.mpr ⟨p,List.mem_of_find?_eq_some hp,of_decide_eq_true h1⟩
def tup2(a b:MV)(S:zC):dQ [.val a,.val b] S=.ok (.val (.tup [a,b])) S:=TL (by simp)
theorem ND(ds:Zd)(S:zC):Jp (.val (.tup ds)) S=.ok ⟨ds,[]⟩ S:=rfl
def lst1(a:MV)(S:zC):bX [.val a] S=.ok (.new [a]) S:=qH (by simp)
def pA(ks:Ch)(x:Db):List (List Nat):=if x∈ks then ks else ks++[x]
def QQ(ks:Ch)(x y:Db):y∈pA ks x↔y∈ks\/y=x:=by
 unfold pA;split
 .rename_i h;exact⟨.inl,λz=>z.elim id λe=>e▸h⟩
 .rw[mem_append,mS]
def WY{ks:Ch}(h:ks.Nodup)(x:Db):(pA ks x).Nodup:=by
 unfold pA;split
 .exact h
 .rename_i hx;exact nodup_append.mpr ⟨h,by simp,λa ha b hb=>by rw[mS.mp hb];rintro rfl;exact hx ha⟩
def QR(ks:Ch)(x:Db):(pA ks x).length<=ks.length+1:=by
 unfold pA;split
 .omega
 .rw[lA,lS];omega
def fE(ks xs:Ch):List (List Nat):=xs.foldl pA ks
theorem aW: ∀(xs ks:Ch)(y:Db),y∈fE ks xs↔y∈ks\/y∈xs
 |[],ks,y=>by simp[fE]
 |x::xs,ks,y=>by show y∈fE (pA ks x) xs↔_;rw[aW xs,QQ,mC,or_assoc]
theorem NE: ∀(xs:Ch){ks:Ch},ks.Nodup->(fE ks xs).Nodup
 |[],_,h=>h
 |x::xs,_,h=>NE xs (WY h x)
theorem pX: ∀(xs ks:Ch),(fE ks xs).length<=ks.length+xs.length
 |[],ks=>le_refl _
 |x::xs,ks=>by have h1:=pX xs (pA ks x);have h2:=QR ks x;show(fE (pA ks x) xs).length<=_;rw[lC0];omega
def dT(ks:Ch):List (MV×MV):=ks.map λx=>(.str x,.bl true)
theorem NF(ks:Ch):(dT ks).map (·.1)=ks.map MV.str:=by unfold dT;rw[map_map];rfl
def WZ(ks:Ch)(x:Db):(look (dT ks) (.str x)).isSome=decide (x∈ks):=by
 by_cases h:x∈ks
 .rw[dT0 h];unfold look;rw[Option.isSome_map,List.find?_isSome];exact⟨(.str x,.bl true),mM0.mpr ⟨x,h,rfl⟩,by simp⟩
 .rw[dF0 h]
  cases z:(look (dT ks) (.str x)).isSome with
  |false=>rfl
  |true=>
   have:=QP z;rw[NF]at this;exact absurd (WX.mp this) h
theorem Fv(ks:Ch)(x:Db):putK (dT ks) (.str x) (.bl true)=dT (pA ks x):=by
 unfold putK pA;rw[WZ];by_cases h:x∈ks
 .rw[iP h,iP (dT0 h)];unfold dT;rw[map_map];refine List.map_congr_left λy _=>?_;show(if MV.str y=MV.str x then(MV.str y,MV.bl true)else(MV.str y,MV.bl true))=_;split<;>rfl
 .rw[iN0 h,iN0 (by rw[dF0 h];exact xF0)];unfold dT;rw[map_append];rfl
theorem DM(ks:Ch):(dT ks).all (λp=>vY p.1)=true:=by unfold dT;rw[all_map,all_eq_true];intro x _;rfl
def tP{S:zC}{l:Nat}{kvs:Zi}(h:S[l]? =some (.dic kvs))(ha:kvs.all (λp=>vY p.1)=true):vZ S (.val (.loc l))=some (l,kvs):=by unfold vZ;dsimp only;rw[h];dsimp only;rw[iP ha]
def XA{S:zC}{l:Nat}{ks:Ch}(h:S[l]? =some (.dic (dT ks)))(hl:ks.length<1000000)(x:Db)(ρ:zK):sR (.val (.loc l)) (.val (.str x)) (.bl true) ρ S=.ok ρ (S.set l (.dic (dT (pA ks x)))):=by unfold sR;dsimp only;rw[tP h (DM ks)];dsimp only;rw[iP ⟨rfl,by unfold dT;rw[lM0];exact hl⟩,Fv]
def Fw{S:zC}{l:Nat}{ks:Ch}(h:S[l]? =some (.dic (dT ks))):sS [.val (.loc l)] S=.ok (.new (ks.map MV.str)) S:=by unfold sS;dsimp only;rw[tP h (DM ks)];dsimp only;rw[NF]
abbrev D4(m:MV)(n:Nat)(a t:Ze):zK:=[some m,some (.loc n),a,t]
theorem CP{S:zC}{m:MV}{a:Ze}: ∀(tms:Zd),(∀d∈tms,UO d)-> ∀(ks:Ch)(t:Ze),ks.length+tms.length<1000->
  ∃t',jC (xR 3) fR [] tms (D4 m S.length a t) (S++[.dic (dT ks)])=.ok (.next (D4 m S.length a t')) (S++[.dic (dT (fE ks (tms.filterMap vn)))])
 |[],_,ks,t,_=>⟨t,rfl⟩
 |d::tms,hT,ks,t,hl=>by
  rw[lC0]at hl;rcases hT d mF0 with⟨x,rfl⟩|⟨v,hv,rfl⟩
  .have hal:=QR ks x;obtain⟨t',ih⟩:=CP (S:=S) (m:=m) (a:=a) tms (λe he=>hT e (mO _ he)) (pA ks x) (some (.tup [.str UM,.str x])) (by omega);refine⟨t',?_⟩;rw[yE (show xR 3 (.tup [.str UM,.str x]) (D4 m S.length a t) (S++[.dic (dT ks)])=.ok (D4 m S.length a (some (.tup [.str UM,.str x]))) (S++[.dic (dT ks)])from rfl) (ρ':=D4 m S.length a (some (.tup [.str UM,.str x]))) (S':=S++[.dic (dT (pA ks x))]) ?_ (yX _)]
   .rw[filterMap_cons,Tc];exact ih
   .unfold fR iK;simp? [UP,GS,Om,oE,XA (zP S (.dic (dT ks))) (show ks.length<1000000 by omega),wQ]
  .obtain⟨t',ih⟩:=CP (S:=S) (m:=m) (a:=a) tms (λe he=>hT e (mO _ he)) ks (some (.tup [.str IS,v])) (by omega)
   have hv0:vn (.tup [.str IS,v])=none:=by
    cases v with
    |str y=>simp[vn]
    |_=>rfl
   refine⟨t',?_⟩;rw[yE (show xR 3 (.tup [.str IS,v]) (D4 m S.length a t) (S++[.dic (dT ks)])=.ok (D4 m S.length a (some (.tup [.str IS,v]))) (S++[.dic (dT ks)])from rfl) (ρ':=D4 m S.length a (some (.tup [.str IS,v]))) (S':=S++[.dic (dT ks)]) ?_ (yX _)]
   .rw[filterMap_cons,hv0];exact ih
   .unfold fR iK;simp? [UP,GS,On,fT,iF]
def QS(tms:Zd):List (List Nat):=fE [] (tms.filterMap vn)
theorem Md{tm0:MV}{tms:Zd}(hT: ∀d∈tms,UO d)(hl:tms.length<=100)(S:zC):yB 1 dY [.new [.tup [tm0,.tup tms]]] S=.ok (.new ((QS tms).map MV.str)) S:=by
 obtain⟨S1,hS1⟩: ∃S1:zC,S1=S++[.lst [.tup [tm0,.tup tms]]]:=⟨_,rfl⟩
 have hq:S1[S.length]? =some (.lst [.tup [tm0,.tup tms]]):=by rw[hS1];exact zP _ _
 obtain⟨gs,hg,hit⟩:=(show SqM S1 (.loc S.length) [.tup [tm0,.tup tms]]from .inr ⟨_,rfl,hq⟩).itQ;obtain⟨t',h4⟩:=CP (S:=S1) (m:=.loc S.length) (a:=some (.tup [tm0,.tup tms])) tms hT [] none (by simp only[length_nil];omega);have hs:yD uZ [.loc S.length]=[some (.loc S.length),none,none,none]:=rfl;have e1:qO [some (.loc S.length),none,none,none] S1=.ok (.next (D4 (.loc S.length) S1.length none none)) (S1++[.dic (dT [])]):=by unfold qO;simp? [PC];rfl
 have hb:qL (D4 (.loc S.length) S1.length (some (.tup [tm0,.tup tms])) none) (S1++[.dic (dT [])])=.ok (.next (D4 (.loc S.length) S1.length (some (.tup [tm0,.tup tms])) t')) (S1++[.dic (dT (QS tms))]):=by unfold qL sY;simp? [GS,ND];exact h4
 have e2:qP (D4 (.loc S.length) S1.length none none) (S1++[.dic (dT [])])=.ok (.next (D4 (.loc S.length) S1.length (some (.tup [tm0,.tup tms])) t')) (S1++[.dic (dT (QS tms))]):=by unfold qP;simp? [hit];rw[yE (show xR 2 (.tup [tm0,.tup tms]) (D4 (.loc S.length) S1.length none none) (S1++[.dic (dT [])])=.ok (D4 (.loc S.length) S1.length (some (.tup [tm0,.tup tms])) none) (S1++[.dic (dT [])])from rfl) hb (hg _)];rfl
 have e3:qQ (D4 (.loc S.length) S1.length (some (.tup [tm0,.tup tms])) t') (S1++[.dic (dT (QS tms))])=.ok (.ret (.new ((QS tms).map MV.str))) (S1++[.dic (dT (QS tms))]):=by unfold qQ;simp? [Fw (zP S1 (.dic (dT (QS tms))))]
 refine kU (T:=[.lst [.tup [tm0,.tup tms]],.dic (dT (QS tms))]) rfl ?_ (wI λd hd=>by obtain⟨y,_,rfl⟩:=mM0.mp hd;exact BL _ _);show dY [.loc S.length] (S++[.lst [.tup [tm0,.tup tms]]])=_;rw[<-hS1];unfold dY GN;rw[hs,zD e1,zD e2,e3,hS1,aA];rfl
theorem DO{S:zC}{gf:MV->zK->zC->R zK}{cf:zK->zC->R Bool}{ef:zK->zC->R Er}{ρb:zK}{gs:Zh}{p:MV->Bool}(hs:stay gs S):
  ∀{ds:Zd},(∀d∈ds, ∃ρ1,gf d ρb S=.ok ρ1 S/\cf ρ1 S=.ok (p d) S/\ef ρ1 S=.ok (.val d) S)->xN gf cf ef ρb gs ds S=.ok (ds.filter p) S
 |[],_=>rfl
 |d::ds,st=>by
  obtain⟨ρ1,h1,h2,h3⟩:=st d mF0;have e:=DO hs (p:=p) (ds:=ds) λd hd=>st d (mO _ hd);unfold xN
  cases hp:p d with
  |true=>
   rw[h1,xG,dP,h2,xG,dP,hp,iP rfl,h3,xG,dP];unfold eE;rw[dP,iP hs,e,List.filter_cons_of_pos hp];rfl
  |false=>
   rw[h1,xG,dP,h2,xG,dP,hp,iN0 xF0,iP hs,e,List.filter_cons_of_neg (by rw[hp];exact xF0)]
def Me(neg:Bool)(p:Er)(ds:Zd)(S:zC):HQ neg p (.val (.tup ds)) S=sM neg p (.val (.tup ds)) S:=by unfold HQ;split<;>first |rfl|(rename_i h;cases h)
def Td{S:zC}{x:Db}{fs:Ch}(neg:Bool):HQ neg (.val (.str x)) (.val (.tup (fs.map MV.str))) S=.ok (.val (.bl (if neg=true then !decide (x∈fs)else decide (x∈fs)))) S:=by
 have e1:itemsOf S (.val (.tup (fs.map MV.str)))=some (fs.map MV.str):=rfl;rw[Me];unfold sM;dsimp only;rw[e1];dsimp only;rw[AR (lR x) NC];dsimp only
 have h:((fs.map MV.str).map λy=>decide (y=MV.str x)).any id=decide (x∈fs):=by
  rw[List.any_map];by_cases hm:x∈fs
  .rw[dT0 hm,any_eq_true];exact⟨.str x,mM0.mpr ⟨x,hm,rfl⟩,by simp⟩
  .rw[dF0 hm,List.any_eq_false];intro y hy;obtain⟨z,hz,rfl⟩:=mM0.mp hy;simp only[Function.comp,id,decide_eq_true_eq];intro e;cases e;exact hm hz
 rw[h]
def XC(hs:Ch)(tms:Zd):List (List Nat):=(QS tms).filter λx=>!decide (x∈hs)
theorem XD{hs:Ch}{at' tm0:MV}{tms:Zd}(hT: ∀d∈tms,UO d)(hl:tms.length<=100)(S:zC):yB 2 xP [.val (.tup [.tup (hs.map MV.str),at']),.val (.tup [tm0,.tup tms])] S=.ok (.new ((XC hs tms).map MV.str)) S:=by
 have hnl:(QS tms).length<=tms.length:=by have h1:=pX (tms.filterMap vn) [];have h2:=List.length_filterMap_le vn tms;rw[length_nil]at h1;unfold QS;omega
 have hcf:=DO (S:=S) (gf:=xR 0) (cf:=dZ) (ef:=pN) (ρb:=[none,some (.tup [.tup (hs.map MV.str),at'])]) (gs:=[]) (p:=λd=>match d with |.str x=>!decide (x∈hs)|_=>false) (yX S) (ds:=(QS tms).map MV.str) λd hd=>by obtain⟨y,hy,rfl⟩:=mM0.mp hd;refine⟨[some (.str y),some (.tup [.tup (hs.map MV.str),at'])],rfl,?_,rfl⟩;unfold dZ;simp? [UP,Td,if_true]
 have hfm:((QS tms).map MV.str).filter (λd=>match d with |.str x=>!decide (x∈hs)|_=>false)=(XC hs tms).map MV.str:=by unfold XC;rw[List.filter_map];rfl
 rw[hfm]at hcf;have hlt:((QS tms).map MV.str).length<1000000:=by rw[lM0];omega
 refine kU (T:=[]) rfl ?_ (wI λd hd=>by obtain⟨y,_,rfl⟩:=mM0.mp hd;exact BL _ _);rw[aN];show yU (qS [some (.tup [.tup (hs.map MV.str),at']),some (.tup [tm0,.tup tms])] S)=_;have e1:iL [some (.tup [.tup (hs.map MV.str),at']),some (.tup [tm0,.tup tms])] S=.ok (.ret (.new ((XC hs tms).map MV.str))) S:=by unfold iL;simp? [lst1,Md hT hl,show∀(ds:Zd)(S:zC),HW (.new ds) S=.ok ⟨ds,[]⟩ S from λ_ _=>rfl,hlt,show BF 1 [0] [some (MV.tup [.tup (hs.map MV.str),at']),some (.tup [tm0,.tup tms])]=[none,some (.tup [.tup (hs.map MV.str),at'])]from rfl,hcf]
 unfold qS;rw[e1];rfl
def Fx{hs:Ch}{tms:Zd}{x:Db}:x∈XC hs tms↔x∈tms.filterMap vn/\x∉hs:=by unfold XC QS;rw[mem_filter,aW];simp
theorem XE(ds:Zd)(l h:Yk)(S:zC):fQ (.val (.tup ds)) l h S=.ok (.val (.tup (bU ds l h))) S:=rfl
theorem Te{ts:Tk}{t:Int}{p:Int×Int}{hs:Ch}{at':MV}{tms:Zd}(hd:tY (ts.map tbl) t=some (tbl p))(h0:0<=p.2)(hT: ∀d∈tms,UO d)(hl:tms.length<=100)(S:zC):
  yB 3 bS [.val (.tup (ts.map tbl)),.val (.tup [.tup (hs.map MV.str),at']),.val (.tup [.int t,.tup tms])] S=.ok (.new ((XC hs (tms.take p.2.toNat)).map MV.str)) S:=by
 refine kU (T:=[]) rfl ?_ (wI λd hd=>by obtain⟨y,_,rfl⟩:=mM0.mp hd;exact BL _ _);rw[aN];show yU (sZ [some (.tup (ts.map tbl)),some (.tup [.tup (hs.map MV.str),at']),some (.tup [.int t,.tup tms]),none] S)=_;have e1:oQ [some (.tup (ts.map tbl)),some (.tup [.tup (hs.map MV.str),at']),some (.tup [.int t,.tup tms]),none] S=.ok (.next [some (.tup (ts.map tbl)),some (.tup [.tup (hs.map MV.str),at']),some (.tup [.int t,.tup tms]),some (.int p.2)]) S:=by unfold oQ;simp? [UP,ix_tup (S:=S) hd,show∀S:zC,wN (.val (tbl p)) (.val (.int 1)) S=.ok (.val (.int p.2)) S from λ_=>rfl]
 have hf:=XD (hs:=hs) (at':=at') (tm0:=.int t) (tms:=tms.take p.2.toNat) (λd hd=>hT d (mem_of_mem_take hd)) (by rw[lT];omega) S;have e2:oR [some (.tup (ts.map tbl)),some (.tup [.tup (hs.map MV.str),at']),some (.tup [.int t,.tup tms]),some (.int p.2)] S=.ok (.ret (.new ((XC hs (tms.take p.2.toNat)).map MV.str))) S:=by unfold oR;simp? [UP,GS,XE,aH _ _ h0,tup2,hf]
 unfold sZ;rw[zD e1,e2];rfl
def Mf{hs:Ch}{tms:Zd}{k:Nat}{x:Db}(h:x∈XC hs (tms.take k)):x∈XC hs tms:=by rw[Fx]at h ⊢;refine⟨?_,h.2⟩;obtain⟨d,hd,e⟩:=mem_filterMap.mp h.1;exact mem_filterMap.mpr ⟨d,mem_of_mem_take hd,e⟩
theorem aC{α:Type}{f g:α->MV}{S:zC}{gf:MV->zK->zC->R zK}{cf:zK->zC->R Bool}{ef:zK->zC->R Er}{ρb:zK}{gs:Zh}(hs:stay gs S):
  ∀{ds:List α},(∀d∈ds, ∃ρ1,gf (f d) ρb S=.ok ρ1 S/\cf ρ1 S=.ok true S/\ef ρ1 S=.ok (.val (g d)) S)->xN gf cf ef ρb gs (ds.map f) S=.ok (ds.map g) S
 |[],_=>rfl
 |d::ds,st=>by obtain⟨ρ1,h1,h2,h3⟩:=st d mF0;have e:=aC hs (f:=f) (g:=g) (ds:=ds) λd hd=>st d (mO _ hd);rw[map_cons];unfold xN;rw[h1,xG,dP,h2,xG,dP,iP rfl,h3,xG,dP];unfold eE;rw[dP,iP hs,e];rfl
theorem UQ{α:Type}(f:α->Bool): ∀xs:List α,rR (xs.map λx=>.bl (f x))=some (xs.map f)
 |[]=>rfl
 |x::xs=>by rw[map_cons,map_cons];unfold rR;rw[UQ f xs];rfl
theorem XF{α:Type}(f:α->Bool)(xs:List α)(S:zC):Ka [.new (xs.map λx=>.bl (f x))] S=.ok (.val (.bl (xs.all f))) S:=by show(match (some (xs.map λx=>MV.bl (f x))).bind rR with |some bs=>R.ok (Er.val (.bl (bs.all id))) S|none=>.no)=_;rw[show(some (xs.map λx=>MV.bl (f x))).bind rR=some (xs.map f)from UQ f xs];show R.ok (Er.val (.bl ((xs.map f).all id))) S=_;rw[all_map];rfl
theorem Mg{α:Type}(f:α->Bool)(xs:List α)(S:zC):Kb [.new (xs.map λx=>.bl (f x))] S=.ok (.val (.bl (xs.any f))) S:=by show(match (some (xs.map λx=>MV.bl (f x))).bind rR with |some bs=>R.ok (Er.val (.bl (bs.any id))) S|none=>.no)=_;rw[show(some (xs.map λx=>MV.bl (f x))).bind rR=some (xs.map f)from UQ f xs];show R.ok (Er.val (.bl ((xs.map f).any id))) S=_;rw[List.any_map];rfl
def Au{α:Type}(ds:List α)(j:Nat):bU ds none (some (j:Int))=ds.take j:=by
 unfold bU;rw[HT.sIx_nat,show HT.sIx ds.length 0 none=0 from rfl,drop_zero,sub_zero];by_cases h:j<=ds.length
 .rw[min_eq_left h]
 .rw[Nat.min_eq_right (by omega),take_of_length_le (le_refl _),take_of_length_le (by omega)]
def CQ{α:Type}(ds:List α)(j:Nat):bU ds (some (j:Int)) none=ds.drop j:=by
 unfold bU;rw[HT.sIx_nat,show HT.sIx ds.length ds.length none=ds.length from rfl];by_cases h:j<=ds.length
 .rw[min_eq_left h,take_of_length_le (by rw[length_drop];exact le_refl _)]
 .rw[Nat.min_eq_right (by omega),List.drop_of_length_le (le_refl _),List.drop_of_length_le (show ds.length<=j by omega),List.take_nil]
def EN{α β:Type}(f:α->β)(xs:List α)(i:Int):tY (xs.map f) i=(tY xs i).map f:=by
 unfold tY;rw[lM0]
 cases SE xs.length i with
 |none=>rfl
 |some j=>exact getElem?_map
def lU{α:Type}{xs:List α}{k:Nat}{x:α}(h:xs[k]? =some x):tY xs (k:Int)=some x:=L2.atI_nat h
abbrev Xg(x:Db):MV:=.tup [.str x,.bl true]
theorem QT: ∀xs:List (List Nat),sT (xs.map Xg)=some (dT xs)
 |[]=>rfl
 |x::xs=>by rw[map_cons];unfold sT;rw[iP (show vY (.str x)=true from rfl),QT xs];rfl
theorem NG: ∀(xs ks:Ch),WS (dT ks) (dT xs)=dT (fE ks xs)
 |[],ks=>rfl
 |x::xs,ks=>by show WS (putK (dT ks) (.str x) (.bl true)) (dT xs)=dT (fE (pA ks x) xs);rw[Fv,NG xs]
def XG(xs:Ch)(S:zC):PY [.new (xs.map Xg)] S=.ok (.val (.loc S.length)) (S++[.dic (dT (fE [] xs))]):=by show(match sT (xs.map Xg)with |some kvs=>R.ok (Er.val (.loc S.length)) (S++[MO.dic (Fa kvs)])|none=>.no)=_;rw[QT];show R.ok (Er.val (.loc S.length)) (S++[MO.dic (WS (dT []) (dT xs))])=_;rw[NG]
def Fy{S:zC}{l:Nat}{ks:Ch}(neg:Bool)(h:S[l]? =some (.dic (dT ks)))(x:Db):BQ neg (.val (.str x)) (.val (.loc l)) S=.ok (.val (.bl (if neg=true then !decide (x∈ks)else decide (x∈ks)))) S:=by unfold BQ;dsimp only;rw[tP h (DM ks)];dsimp only;rw[iP (show vY (.str x)=true from rfl),WZ]
def XH{S:zC}{l:Nat}{ks:Ch}(h:S[l]? =some (.dic (dT ks))):KM [.val (.loc l)] S=.ok (.val (.int ks.length)) S:=by unfold KM;dsimp only;rw[tP h (DM ks)];dsimp only;rw[show(dT ks).length=ks.length by unfold dT;rw[lM0]]
theorem Mh{S:zC}{l:Nat}{ks:Ch}(h:S[l]? =some (.dic (dT ks))):Ls (.val (.loc l)) S=true:=by unfold Ls;rw[tP h (DM ks)];rfl
def Mi{S:zC}{l m:Nat}{ks xs:Ch}(h:S[l]? =some (.dic (dT ks)))(h2:S[m]? =some (.dic (dT xs)))(hne:l≠m)(hl:ks.length+xs.length<1000000):KI (.val (.loc l)) [.val (.loc m)] S=.ok (.val .non) (S.set l (.dic (dT (fE ks xs)))):=by unfold KI;dsimp only;rw[tP h (DM ks)];dsimp only;rw[tP h2 (DM xs)];dsimp only;rw[iP ⟨hne,by rw[show(dT ks).length=ks.length by unfold dT;rw[lM0],show(dT xs).length=xs.length by unfold dT;rw[lM0]];exact hl⟩,NG]
def aM(a:Int×List MV):MV:=.tup [.int a.1,.tup a.2]
abbrev qM(hs:Ch)(as:Zg):MV:=.tup [.tup (hs.map MV.str),.tup (as.map aM)]
structure AOk(ts:Tk)(a:Int×List MV):Prop where
 tb: ∃p,tY ts a.1=some p/\0<=p.2
 tm: ∀d∈a.2,UO d
 len:a.2.length<=4
def NH(ts:Tk)(hs:Ch)(a:Int×List MV):List (List Nat):=XC hs (a.2.take ((tY ts a.1).getD (0,0)).2.toNat)
abbrev HR(hs:Ch)(a:Int×List MV):List (List Nat):=XC hs a.2
def Fz{ts:Tk}{hs:Ch}{d:MV}{a:Int×List MV}(h:AOk ts a)(S:zC):yB 3 bS [.val (.tup (ts.map tbl)),.val (.tup [.tup (hs.map MV.str),d]),.val (aM a)] S=.ok (.new ((NH ts hs a).map MV.str)) S:=by obtain⟨p,hp,h0⟩:=h.tb;have e:=Te (ts:=ts) (t:=a.1) (p:=p) (hs:=hs) (at':=d) (tms:=a.2) (by rw[EN,hp];rfl) h0 h.tm (by have:=h.len;omega) S;unfold NH;rw[hp];exact e
def Oo{ts:Tk}{hs:Ch}{d:MV}{a:Int×List MV}(h:AOk ts a)(S:zC):yB 2 xP [.val (.tup [.tup (hs.map MV.str),d]),.val (aM a)] S=.ok (.new ((HR hs a).map MV.str)) S:=XD h.tm (by have:=h.len;omega) S
def Ga(hs:Ch)(tms:Zd):(XC hs tms).length<=tms.length:=by have h1:=pX (tms.filterMap vn) [];have h2:=List.length_filterMap_le vn tms;have h3:=length_filter_le (λx=>!decide (x∈hs)) (QS tms);rw[length_nil]at h1;unfold XC;unfold QS at h3 ⊢;omega
def CS{ts:Tk}{hs:Ch}{a:Int×List MV}(h:AOk ts a):(HR hs a).length<=4:=le_trans (Ga hs a.2) h.len
def Gb{ts:Tk}{hs:Ch}{a:Int×List MV}(h:AOk ts a):(NH ts hs a).length<=4:=le_trans (Ga hs _) (by rw[lT];have:=h.len;omega)
theorem tQ{α:Type}[DecidableEq α]: ∀{ks U:List α},ks.Nodup->(∀x∈ks,x∈U)->ks.length<=U.length
 |[],_,_,_=>zero_le _
 |x::ks,U,hn,h=>by rw[nodup_cons]at hn;have hx:=h x mF0;have ih:=tQ (ks:=ks) (U:=U.erase x) hn.2 λy hy=>(List.mem_erase_of_ne (show y≠x from λe=>hn.1 (e▸hy))).mpr (h y (mO _ hy));rw[List.length_erase_of_mem hx]at ih;have:=List.length_pos_of_mem hx;rw[lC0];omega
def fF(S T:zC)(o:MO):(S++o::T)[S.length]? =some o:=by simp
def XJ(S T:zC)(o o':MO):(S++o::T).set S.length o'=S++o'::T:=by simp
theorem tR(ds:Zd)(S:zC):HW (.new ds) S=.ok ⟨ds,[]⟩ S:=rfl
def stK(ts:Tk)(hs ks:Ch)(a:Int×List MV):List (List Nat):=if(NH ts hs a).all (λx=>decide (x∈ks))=true then fE ks (fE [] (HR hs a))else ks
abbrev KA(ts:Tk)(q:MV)(i:Nat)(as oth:Zd)(l:Nat)(b:Int)(o:Ze):zK:=[some (.tup (ts.map tbl)),some q,some (.int i),some (.tup as),some (.tup oth),some (.loc l),some (.int b),o]
def Mj{ts:Tk}{hs:Ch}{qd:MV}{i:Nat}{as oth:Zd}{b:Int}{a:Int×List MV}(h:AOk ts a)(S T:zC){ks:Ch}(hl:ks.length<=1000):
  ∃T',fS (KA ts (.tup [.tup (hs.map MV.str),qd]) i as oth S.length b (some (aM a))) (S++.dic (dT ks)::T)=.ok (.next (KA ts (.tup [.tup (hs.map MV.str),qd]) i as oth S.length b (some (aM a)))) (S++.dic (dT (stK ts hs ks a))::T'):=by
 obtain⟨S1,hS1⟩: ∃S1:zC,S1=S++.dic (dT ks)::T:=⟨_,rfl⟩
 have hat:S1[S.length]? =some (.dic (dT ks)):=by rw[hS1];exact fF _ _ _
 have hc1:xN (xR 0) tD iQ [none,some (.loc S.length)] [] ((NH ts hs a).map MV.str) S1=.ok ((NH ts hs a).map λx=>.bl (decide (x∈ks))) S1:=
  aC (yX _) λx _=>⟨[some (.str x),some (.loc S.length)],rfl,rfl,by unfold iQ;simp? [Fy false hat x,fT,iF]⟩
 have hk:((NH ts hs a).map MV.str).length<1000000:=by rw[lM0];have:=Gb (hs:=hs) h;omega
 have hf:((HR hs a).map MV.str).length<1000000:=by rw[lM0];have:=CS (hs:=hs) h;omega
 have hc2:xN (xR 0) tE iR [none] [] ((HR hs a).map MV.str) S1=.ok ((HR hs a).map Xg) S1:=
  aC (yX _) λx _=>⟨[some (.str x)],rfl,rfl,by unfold iR;simp? [tup2]⟩
 have hb1: ∀a b c d e f g h:Option MV,BF 1 [5] [a,b,c,d,e,f,g,h]=[none,f]:=λ_ _ _ _ _ _ _ _=>rfl;have hb2: ∀a b c d e f g h:Option MV,BF 1 [] [a,b,c,d,e,f,g,h]=[none]:=λ_ _ _ _ _ _ _ _=>rfl;unfold fS tF;rw[<-hS1];unfold stK;by_cases hq:(NH ts hs a).all (λx=>decide (x∈ks))=true
 .have hin:(S1++[.dic (dT (fE [] (HR hs a)))])[S.length]? =some (.dic (dT ks)):=by rw[getElem?_append_left (gS.mp hat).1];exact hat
  have hne:S.length≠S1.length:=by rw[hS1,lA,lC0];omega
  have hlen:ks.length+(fE [] (HR hs a)).length<1000000:=by have:=pX (HR hs a) [];have:=CS (hs:=hs) h;rw[length_nil]at *;omega
  refine⟨T++[.dic (dT (fE [] (HR hs a)))],?_⟩;rw[iP hq];simp? [Fz h,tR,hk,hb1,hc1,XF,hq,Mh hat,Oo h,hf,hb2,hc2,XG,Mi hin (zP _ _) hne hlen];rw[hS1,aA,List.cons_append,XJ]
 .refine⟨T,?_⟩;rw[iN0 hq, <-hS1];simp? [Fz h,tR,hk,hb1,hc1,XF,hq,fT,iF]
def XN(ts:Tk)(hs ks:Ch)(a:Int×List MV): ∃t,stK ts hs ks a=ks++t:=by
 have h1: ∀(xs ks:Ch), ∃t,fE ks xs=ks++t:=by
  intro xs
  induction xs with
  |nil=>exact λks=>⟨[],(aN _).symm⟩
  |cons x xs ih=>
   intro ks;obtain⟨t,e⟩:=ih (pA ks x);show∃t,fE (pA ks x) xs=ks++t;rw[e];unfold pA;split
   .exact⟨t,rfl⟩
   .exact⟨x::t,by rw[aA];rfl⟩
 unfold stK;split
 .exact h1 _ _
 .exact⟨[],(aN _).symm⟩
theorem NL(ts:Tk)(hs:Ch): ∀(oth:Zg)(ks:Ch), ∃t,oth.foldl (stK ts hs) ks=ks++t
 |[],ks=>⟨[],(aN _).symm⟩
 |a::oth,ks=>by obtain⟨t,e⟩:=XN ts hs ks a;obtain⟨u,e2⟩:=NL ts hs oth (stK ts hs ks a);exact⟨t++u,by rw[foldl_cons,e2,e,aA]⟩
theorem QU(ts:Tk)(hs:Ch): ∀(oth:Zg)(ks:Ch),oth.foldl (stK ts hs) ks=ks-> ∀a∈oth,stK ts hs ks a=ks
 |[],_,_,a,ha=>by simp at ha
 |c::oth,ks,h,a,ha=>by
  rw[foldl_cons]at h;obtain⟨t,e⟩:=XN ts hs ks c;obtain⟨u,e2⟩:=NL ts hs oth (stK ts hs ks c);have e3:ks++(t++u)=ks++[]:=by rw[aN, <-aA, <-e, <-e2,h]
  have e4:t=[]:=(List.append_eq_nil_iff.mp (List.append_cancel_left e3)).1;have e5:stK ts hs ks c=ks:=by rw[e,e4,aN]
  rcases mC.mp ha with rfl|ha
  .exact e5
  .rw[e5]at h;exact QU ts hs oth ks h a ha
def Tf{ts:Tk}{hs ks:Ch}(h:ks.Nodup)(a:Int×List MV):(stK ts hs ks a).Nodup:=by
 unfold stK;split
 .exact NE _ h
 .exact h
def Fq(hs:Ch)(as:Zg)(j:Nat):List (List Nat):=(as[j]?).elim [] (HR hs)
def Kq(ts:Tk)(hs:Ch)(as:Zg)(j:Nat):List (List Nat):=(as[j]?).elim [] (NH ts hs)
theorem QW{hs:Ch}{as:Zg}{j:Nat}{a:Int×List MV}(h:as[j]? =some a):Fq hs as j=HR hs a:=by unfold Fq;rw[h];rfl
theorem XO{ts:Tk}{hs:Ch}{as:Zg}{j:Nat}{a:Int×List MV}(h:as[j]? =some a):Kq ts hs as j=NH ts hs a:=by unfold Kq;rw[h];rfl
def KqF(ts:Tk)(hs:Ch)(as:Zg)(j:Nat)(_:j<as.length)(y:Db)(h:y∈Kq ts hs as j):y∈Fq hs as j:=by
 unfold Kq at h;unfold Fq
 cases e:as[j]? with
 |none=>rw[e]at h;simp at h
 |some a=>
  rw[e]at h;exact Mf h
abbrev Bf(ts:Tk)(hs:Ch)(as:Zg):Nat->List Nat->Prop:=Kn (Kq ts hs as) (Fq hs as) as.length
def Tg{ts:Tk}{hs ks:Ch}{as:Zg}{i j:Nat}{a:Int×List MV}(ha:as[j]? =some a)(hj:j≠i)(h: ∀x∈ks,Bf ts hs as i x): ∀x∈stK ts hs ks a,Bf ts hs as i x:=by
 intro x hx;unfold stK at hx;split at hx
 .rename_i hq;rw[aW,aW]at hx;rcases hx with hx|hx|hx
  .exact h x hx
  .simp at hx
  .refine .step j (gS.mp ha).1 hj (λy hy=>?_) (by rw[QW ha];exact hx);rw[XO ha]at hy;exact h y (of_decide_eq_true (all_eq_true.mp hq y hy))
 .exact h x hx
theorem Gc{ts:Tk}{hs:Ch}{as:Zg}{i:Nat}: ∀(oth:Zg),(∀a∈oth, ∃j,as[j]? =some a/\j≠i)-> ∀(ks:Ch),ks.Nodup->(∀x∈ks,Bf ts hs as i x)->(oth.foldl (stK ts hs) ks).Nodup/\ ∀x∈oth.foldl (stK ts hs) ks,Bf ts hs as i x
 |[],_,ks,hn,h=>⟨hn,h⟩
 |a::oth,ho,ks,hn,h=>by obtain⟨j,hj,hne⟩:=ho a mF0;rw[foldl_cons];exact Gc oth (λb hb=>ho b (mO _ hb)) _ (Tf hn a) (Tg hj hne h)
def Th{ts:Tk}{hs ks:Ch}{as oth:Zg}{i:Nat}{a0:Int×List MV}(hi:as[i]? =some a0)(hk: ∀x∈NH ts hs a0,x∈ks)(ho: ∀j a,as[j]? =some a->j≠i->a∈oth)(hs': ∀a∈oth,stK ts hs ks a=ks){x:Db}(h:Bf ts hs as i x):x∈ks:=by
 induction h with
 |key h=>rw[XO hi]at h;exact hk _ h
 |@step x j hj hne hall hx ih=>
  have ha:=gE hj;have e:=hs' _ (ho j _ ha hne);rw[QW ha]at hx;rw[XO ha]at ih;unfold stK at e;rw[iP (all_eq_true.mpr λy hy=>dT0 (ih y hy))]at e;rw[<-e,aW,aW];exact .inr (.inr hx)
def QX(hs:Ch)(as:Zg):List (List Nat):=as.flatMap (HR hs)
theorem EO{ts:Tk}{hs:Ch}: ∀{as:Zg},(∀a∈as,AOk ts a)->(QX hs as).length<=4 * as.length
 |[],_=>le_refl _
 |a::as,h=>by have h1:=EO (hs:=hs) λb hb=>h b (mO _ hb);have h2:=CS (hs:=hs) (h a mF0);unfold QX at h1 ⊢;rw[List.flatMap_cons,lA,lC0];omega
def Gd{ts:Tk}{hs:Ch}{as:Zg}{i:Nat}(hi:i<as.length){x:Db}(h:Bf ts hs as i x):x∈QX hs as:=by
 have e: ∀j,j<as.length->x∈Fq hs as j->x∈QX hs as:=λj hj h=>by rw[QW (gE hj)]at h;exact List.mem_flatMap.mpr ⟨_,getElem_mem hj,h⟩
 cases h with
 |key h=>exact e i hi (KqF ts hs as i hi _ h)
 |step j hj _ _ hx=>exact e j hj hx
theorem Ge{ts:Tk}{hs:Ch}{qd:MV}{i:Nat}{as oth:Zd}{b:Int}(S:zC): ∀(os:Zg),(∀a∈os,AOk ts a)-> ∀(T:zC)(ks:Ch)(o:Ze),ks.length+4 * os.length<=1000->
  ∃T' o',jC (xR 7) fS [] (os.map aM) (KA ts (.tup [.tup (hs.map MV.str),qd]) i as oth S.length b o) (S++.dic (dT ks)::T)=.ok (.next (KA ts (.tup [.tup (hs.map MV.str),qd]) i as oth S.length b o')) (S++.dic (dT (os.foldl (stK ts hs) ks))::T')
 |[],_,T,ks,o,_=>⟨T,o,rfl⟩
 |a::os,h,T,ks,o,hl=>by
  rw[lC0]at hl;have ha:=h a mF0;obtain⟨T1,e1⟩:=Mj (hs:=hs) (qd:=qd) (i:=i) (as:=as) (oth:=oth) (b:=b) ha S T (ks:=ks) (by omega)
  have hk:(stK ts hs ks a).length<=ks.length+4:=by
   unfold stK;split
   .have h1:=pX (fE [] (HR hs a)) ks;have h2:=pX (HR hs a) [];have h3:=CS (hs:=hs) ha;rw[length_nil]at h2;omega
   .omega
  obtain⟨T',o',e⟩:=Ge (hs:=hs) (qd:=qd) (i:=i) (as:=as) (oth:=oth) (b:=b) S os (λc hc=>h c (mO _ hc)) T1 (stK ts hs ks a) (some (aM a)) (by omega);refine⟨T',o',?_⟩;rw[map_cons,yE (ρ0:=KA ts (.tup [.tup (hs.map MV.str),qd]) i as oth S.length b (some (aM a))) rfl e1 (yX _)];exact e
def XQ{ts:Tk}{q:MV}{i:Nat}{as oth:Zd}{b:Int}{o:Ze}(S T:zC)(ks:Ch):aL (KA ts q i as oth S.length b o) (S++.dic (dT ks)::T)=.ok (decide (b<ks.length)) (S++.dic (dT ks)::T):=by unfold aL;simp? [XH (fF S T (.dic (dT ks))),lt_int]
def Mk{ts:Tk}{hs:Ch}{qd:MV}{i:Nat}{as:Zd}{b:Int}(S:zC){os:Zg}(h: ∀a∈os,AOk ts a)(T:zC)(ks:Ch)(o:Ze)(hl:ks.length+4 * os.length<=1000):
  ∃T' o',fU (KA ts (.tup [.tup (hs.map MV.str),qd]) i as (os.map aM) S.length b o) (S++.dic (dT ks)::T)=.ok (.next (KA ts (.tup [.tup (hs.map MV.str),qd]) i as (os.map aM) S.length ks.length o')) (S++.dic (dT (os.foldl (stK ts hs) ks))::T'):=by
 obtain⟨T',o',e⟩:=Ge (hs:=hs) (qd:=qd) (i:=i) (as:=as) (oth:=os.map aM) (b:=ks.length) S os h T ks o hl;refine⟨T',o',?_⟩;have e1:iS (KA ts (.tup [.tup (hs.map MV.str),qd]) i as (os.map aM) S.length b o) (S++.dic (dT ks)::T)=.ok (.next (KA ts (.tup [.tup (hs.map MV.str),qd]) i as (os.map aM) S.length ks.length o)) (S++.dic (dT ks)::T):=by unfold iS;simp? [XH (fF S T (.dic (dT ks)))]
 unfold fU;rw[zD e1];unfold tG;simp? [ND];exact e
theorem QY{ts:Tk}{hs:Ch}{as os:Zg}{i:Nat}(hi:i<as.length)(hA: ∀a∈as,AOk ts a)(hlen:as.length<=4)(hos: ∀a∈os, ∃j,as[j]? =some a/\j≠i)(hol:os.length<=4)(S:zC): ∀(m f:Nat),m+2<=f-> ∀(T:zC)(ks:Ch)(b:Int)(o:Ze),ks.Nodup->(∀x∈ks,Bf ts hs as i x)->(QX hs as).length<=ks.length+m->b<ks.length->
  ∃T' ks' b' o' t,bK aL fU f (KA ts (qM hs as) i (as.map aM) (os.map aM) S.length b o) (S++.dic (dT ks)::T)=.ok (.next (KA ts (qM hs as) i (as.map aM) (os.map aM) S.length b' o')) (S++.dic (dT ks')::T')/\ks'=ks++t/\(∀x∈ks',Bf ts hs as i x)/\(∀a∈os,stK ts hs ks' a=ks')/\ks'.Nodup
 |m,f,hf,T,ks,b,o,hn,hk,hU,hb=>by
  obtain⟨f,rfl⟩: ∃g,f=g+1:=⟨f - 1,by omega⟩
  have hA': ∀a∈os,AOk ts a:=λa ha=>by obtain⟨j,hj,_⟩:=hos a ha;exact hA a (mem_of_getElem? hj)
  have hle:ks.length<=16:=by have h1:=tQ hn λx hx=>Gd hi (hk x hx);have h2:=EO (hs:=hs) hA;omega
  obtain⟨T1,o1,e1⟩:=Mk (hs:=hs) (qd:=.tup (as.map aM)) (i:=i) (as:=as.map aM) (b:=b) S hA' T ks o (by omega);have ht:=XQ (ts:=ts) (q:=qM hs as) (i:=i) (as:=as.map aM) (oth:=os.map aM) (b:=b) (o:=o) S T ks;rw[dT0 hb]at ht;obtain⟨t,et⟩:=NL ts hs os ks;obtain⟨hn1,hk1⟩:=Gc os hos ks hn hk;have hlt:=congrArg List.length et;rw[lA]at hlt;by_cases hz:t=[]
  .subst hz;rw[aN]at et;obtain⟨f,rfl⟩: ∃g,f=g+1:=⟨f - 1,by omega⟩
   have ht2:=XQ (ts:=ts) (q:=qM hs as) (i:=i) (as:=as.map aM) (oth:=os.map aM) (b:=ks.length) (o:=o1) S T1 ks;rw[dF0 (by omega)]at ht2;refine⟨T1,ks,ks.length,o1,[],?_,(aN _).symm,hk,QU ts hs os ks et,hn⟩;rw[et]at e1;rw[uW ht e1,JS ht2]
  .have htp:0<t.length:=length_pos_iff.mpr hz;have h1:=tQ hn1 λx hx=>Gd hi (hk1 x hx);have hm:m - 1<m:=by omega
   obtain⟨T',ks',b',o',t',e,h2,h3,h4,h5⟩:=QY hi hA hlen hos hol S (m - 1) f (by omega) T1 (os.foldl (stK ts hs) ks) ks.length o1 hn1 hk1 (by omega) (by omega);refine⟨T',ks',b',o',t++t',?_,by rw[h2,et,aA],h3,h4,h5⟩;rw[uW ht e1];exact e
 termination_by m=>m
theorem Gf{n:Nat}{F:List MV->zC->R Er}{rs:List Er}{S T:zC}{kvs:Zi}(hn:rs.length=n)(hF:F (zS rs S).1 (zS rs S).2=.ok (.val (.loc S.length)) (S++.dic kvs::T)):yB n F rs S=.ok (.val (.loc S.length)) (S++.dic kvs::T):=by
 unfold yB;rw[iP hn,hF];show dR S (.val (.loc S.length)) (S++.dic kvs::T)=_;unfold dR;dsimp only;split
 .rw[iN0 (lt_irrefl _),fF]
 .rfl
def XR{as:Zg}{i:Nat}{a:Int×List MV}:a∈as.take i++as.drop (i+1)↔ ∃j,as[j]? =some a/\j≠i:=by
 rw[mem_append];constructor
 .rintro(h|h)
  .obtain⟨j,hj,e⟩:=List.mem_take_iff_getElem.mp h;exact⟨j,by rw[<-e];exact gE _,by omega⟩
  .obtain⟨j,e⟩:=List.mem_iff_getElem?.mp h;rw[List.getElem?_drop]at e;exact⟨i+1+j,e,by omega⟩
 .rintro⟨j,hj,hne⟩;by_cases h:j<i
  .exact .inl (mem_of_getElem? (show(as.take i)[j]? =some a by rw[List.getElem?_take_of_lt h];exact hj))
  .exact .inr (mem_of_getElem? (i:=j - (i+1)) (show(as.drop (i+1))[j - (i+1)]? =some a by rw[List.getElem?_drop,show i+1+(j - (i+1))=j by omega];exact hj))
def QZ{ts:Tk}{hs:Ch}{as:Zg}(hA: ∀a∈as,AOk ts a)(hlen:as.length<=4){i:Nat}(hi:i<as.length)(S:zC):
  ∃ks T,yB 3 nA [.val (.tup (ts.map tbl)),.val (qM hs as),.val (.int i)] S=.ok (.val (.loc S.length)) (S++.dic (dT ks)::T)/\(∀x,x∈ks↔Bf ts hs as i x)/\ks.Nodup:=by
 have ha:=gE hi;have hAi:=hA _ (getElem_mem hi);obtain⟨a,ea⟩: ∃a,a=as[i]:=⟨_,rfl⟩
 rw[<-ea]at ha hAi;obtain⟨os,eo⟩: ∃os,os=as.take i++as.drop (i+1):=⟨_,rfl⟩
 have hos: ∀c∈os, ∃j,as[j]? =some c/\j≠i:=λc hc=>XR.mp (eo▸hc);have hol:os.length<=4:=by rw[eo,lA,lT,length_drop];omega
 have hk0: ∀x∈fE [] (NH ts hs a),Bf ts hs as i x:=λx hx=>by
  rw[aW]at hx;rcases hx with hx|hx
  .simp at hx
  .exact .key (by rw[XO ha];exact hx)
 obtain⟨T',ks',b',o',t,e5,h5,h6,h7,h8⟩:=QY (hs:=hs) hi hA hlen hos hol S 100 10000 (by omega) [] (fE [] (NH ts hs a)) (-1) none (NE _ nodup_nil) hk0 (by have:=EO (hs:=hs) hA;omega) (by omega);refine⟨ks',T',?_,λx=>⟨h6 x,λh=>?_⟩,h8⟩
 .refine Gf rfl ?_;show yU (vA [some (.tup (ts.map tbl)),some (qM hs as),some (.int i),none,none,none,none,none] S)=_;have e1:qT [some (.tup (ts.map tbl)),some (qM hs as),some (.int i),none,none,none,none,none] S=.ok (.next [some (.tup (ts.map tbl)),some (qM hs as),some (.int i),some (.tup (as.map aM)),none,none,none,none]) S:=by unfold qT;simp? [GS]
  have e2:qU [some (.tup (ts.map tbl)),some (qM hs as),some (.int i),some (.tup (as.map aM)),none,none,none,none] S=.ok (.next [some (.tup (ts.map tbl)),some (qM hs as),some (.int i),some (.tup (as.map aM)),some (.tup (os.map aM)),none,none,none]) S:=by
   have hc:((i:Int)+1)=((i+1:Nat):Int):=by omega
   have hz:((as.map aM).take i).length+((as.map aM).drop (i+1)).length<=sizeLine:=fits (by rw[lT,length_drop,lM0];omega);unfold qU;simp? [XE,Au,hc,CQ,VY hz];rw[eo,map_append,map_take,map_drop]
  have hkl:((NH ts hs a).map MV.str).length<1000000:=by rw[lM0];have:=Gb (hs:=hs) hAi;omega
  have hc2:xN (xR 0) tB iO [none] [] ((NH ts hs a).map MV.str) S=.ok ((NH ts hs a).map Xg) S:=
   aC (yX _) λx _=>⟨[some (.str x)],rfl,rfl,by unfold iO;simp? [tup2]⟩
  have hb2: ∀a b c d e f g h:Option MV,BF 1 [] [a,b,c,d,e,f,g,h]=[none]:=λ_ _ _ _ _ _ _ _=>rfl;have hix:wN (.val (.tup (as.map aM))) (.val (.int i)) S=.ok (.val (aM a)) S:=ix_tup (lU (by rw[getElem?_map,ha];rfl));have e3:qV [some (.tup (ts.map tbl)),some (qM hs as),some (.int i),some (.tup (as.map aM)),some (.tup (os.map aM)),none,none,none] S=.ok (.next [some (.tup (ts.map tbl)),some (qM hs as),some (.int i),some (.tup (as.map aM)),some (.tup (os.map aM)),some (.loc S.length),none,none]) (S++[.dic (dT (fE [] (NH ts hs a)))]):=by unfold qV;simp? [hix,Fz hAi,tR,hkl,hb2,hc2,XG]
  have e4:qW [some (.tup (ts.map tbl)),some (qM hs as),some (.int i),some (.tup (as.map aM)),some (.tup (os.map aM)),some (.loc S.length),none,none] (S++[.dic (dT (fE [] (NH ts hs a)))])=.ok (.next (KA ts (qM hs as) i (as.map aM) (os.map aM) S.length (-1) none)) (S++[.dic (dT (fE [] (NH ts hs a)))]):=by unfold qW;simp? [dP]
  unfold vA;rw[zD e1,zD e2,zD e3,zD e4,zD (show AD _ _=_ from e5)];unfold AG;simp? [dP];rfl
 .refine Th ha (λy hy=>?_) (λj c hc hne=>by rw[eo];exact XR.mpr ⟨j,hc,hne⟩) h7 h;rw[h5,mem_append,aW];exact .inl (.inr hy)
abbrev zH(k:Nat):MV:=.int (k:Int)
def NN{j k:Nat}(h:zH j=zH k):j=k:=by
 injection h with h
 exact Int.ofNat.inj h
def Ml{j:Nat}{rs:Db}:zH j∈rs.map zH↔j∈rs:=⟨λh=>by obtain⟨k,hk,e⟩:=mM0.mp h;rw[<-NN e];exact hk,λh=>mM0.mpr ⟨j,h,rfl⟩⟩
def EA{n:Nat}(h:n<=1000)(S:zC):kA [.val (.int (n:Int))] S=.ok ⟨(List.range n).map zH,[]⟩ S:=by rw[ME (by omega),toNat_natCast]
def Ti(S:zC):kA [.val (.int 6)] S=.ok ⟨(List.range 6).map zH,[]⟩ S:=EA (n:=6) (by decide) S
def rD(rs:Db):List (MV×MV):=rs.map λj=>(zH j,.bl true)
theorem XS(rs:Db):(rD rs).map (·.1)=rs.map zH:=by unfold rD;rw[map_map];rfl
def XU(rs:Db)(j:Nat):(look (rD rs) (zH j)).isSome=decide (j∈rs):=by
 by_cases h:j∈rs
 .rw[dT0 h];unfold look;rw[Option.isSome_map,List.find?_isSome];exact⟨(zH j,.bl true),mM0.mpr ⟨j,h,rfl⟩,by simp⟩
 .rw[dF0 h]
  cases z:(look (rD rs) (zH j)).isSome with
  |false=>rfl
  |true=>
   have:=QP z;rw[XS]at this;exact absurd (Ml.mp this) h
theorem Tj{rs:Db}{j:Nat}(h:j∉rs):putK (rD rs) (zH j) (.bl true)=rD (rs++[j]):=by unfold putK;rw[XU,iN0 (by rw[dF0 h];exact xF0)];unfold rD;rw[map_append];rfl
theorem Gg(rs:Db):(rD rs).all (λp=>vY p.1)=true:=by unfold rD;rw[all_map,all_eq_true];intro x _;rfl
def Gh{S:zC}{l:Nat}{rs:Db}(neg:Bool)(h:S[l]? =some (.dic (rD rs)))(j:Nat):BQ neg (.val (zH j)) (.val (.loc l)) S=.ok (.val (.bl (if neg=true then !decide (j∈rs)else decide (j∈rs)))) S:=by unfold BQ;dsimp only;rw[tP h (Gg rs)];dsimp only;rw[iP (show vY (zH j)=true from rfl),XU]
def XX{S:zC}{l:Nat}{rs:Db}(h:S[l]? =some (.dic (rD rs)))(hl:rs.length<1000000){j:Nat}(hj:j∉rs)(ρ:zK):sR (.val (.loc l)) (.val (zH j)) (.bl true) ρ S=.ok ρ (S.set l (.dic (rD (rs++[j])))):=by unfold sR;dsimp only;rw[tP h (Gg rs)];dsimp only;rw[iP ⟨rfl,by unfold rD;rw[lM0];exact hl⟩,Tj hj]
def Gi{S:zC}{l:Nat}{rs:Db}(h:S[l]? =some (.dic (rD rs))):sS [.val (.loc l)] S=.ok (.new (rs.map zH)) S:=by unfold sS;dsimp only;rw[tP h (Gg rs)];dsimp only;rw[XS]
theorem GT{α:Type}{f:α->MV}{g:α->List MV}{gf:MV->zK->zC->R zK}{cf:zK->zC->R Bool}{ef:zK->zC->R Er}{ρb:zK}{S:zC}: ∀(xs:List α),(∀x∈xs, ∀T, ∃ρ1,gf (f x) ρb (S++T)=.ok ρ1 (S++T)/\cf ρ1 (S++T)=.ok true (S++T)/\ef ρ1 (S++T)=.ok (.new (g x)) (S++T))->
  ∀T,xN gf cf ef ρb [] (xs.map f) (S++T)=.ok ((List.range' (S.length+T.length) xs.length).map MV.loc) (S++T++xs.map λx=>MO.lst (g x))
 |[],_,T=>by rw[map_nil,map_nil,aN];rfl
 |x::xs,h,T=>by obtain⟨ρ1,h1,h2,h3⟩:=h x mF0 T;have ih:=GT (f:=f) (g:=g) (gf:=gf) (cf:=cf) (ef:=ef) (ρb:=ρb) (S:=S) xs (λy hy=>h y (mO _ hy)) (T++[.lst (g x)]);rw[map_cons];unfold xN;rw[h1,xG,dP,h2,xG,dP,iP rfl,h3,xG,dP];unfold eE;rw[dP,iP (yX _),aA,ih,dP,lA,lA,lS,lC0,range'_succ,map_cons,map_cons];simp only[aA,List.singleton_append,Nat.add_assoc]
def Av(xs ys:Ch):Bool:=xs.any λx=>decide (x∈ys)
theorem Tl{S:zC}{l m:Nat}{xs ys:Ch}(h1:S[l]? =some (.lst (xs.map MV.str)))(h2:S[m]? =some (.lst (ys.map MV.str)))(hl:xs.length<1000000):yB 2 hW [.val (.loc l),.val (.loc m)] S=.ok (.val (.bl (Av xs ys))) S:=by
 refine Mb rfl ?_;show yU (nB [some (.loc l),some (.loc m)] S)=_
 have hc:xN (xR 0) aT jQ [none,some (.loc m)] [(l,xs.map MV.str)] (xs.map MV.str) S=.ok (xs.map λx=>.bl (decide (x∈ys))) S:=
  aC (pL h1) λx _=>⟨[some (.str x),some (.loc m)],rfl,rfl,by unfold jQ;simp? [AS false h2 (lR x) NC,fT,iF];rw[dec_is (WX (x:=x) (fs:=ys))]⟩
 have hk:(xs.map MV.str).length<1000000:=by rw[lM0];exact hl
 have hb: ∀a b:Option MV,BF 1 [1] [a,b]=[none,b]:=λ_ _=>rfl;unfold nB iT;simp? [vT h1,hk,hb,hc,Mg];rfl
theorem lV{α:Type}{f g:α->MV}{p:α->Bool}{S:zC}{gf:MV->zK->zC->R zK}{cf:zK->zC->R Bool}{ef:zK->zC->R Er}{ρb:zK}{gs:Zh}(hs:stay gs S):
  ∀{ds:List α},(∀d∈ds, ∃ρ1,gf (f d) ρb S=.ok ρ1 S/\cf ρ1 S=.ok (p d) S/\ef ρ1 S=.ok (.val (g d)) S)->xN gf cf ef ρb gs (ds.map f) S=.ok ((ds.filter p).map g) S
 |[],_=>rfl
 |d::ds,st=>by
  obtain⟨ρ1,h1,h2,h3⟩:=st d mF0;have e:=lV hs (f:=f) (g:=g) (p:=p) (ds:=ds) λd hd=>st d (mO _ hd);rw[map_cons];unfold xN
  cases hp:p d with
  |true=>
   rw[h1,xG,dP,h2,xG,dP,hp,iP rfl,h3,xG,dP];unfold eE;rw[dP,iP hs,e,List.filter_cons_of_pos hp];rfl
  |false=>
   rw[h1,xG,dP,h2,xG,dP,hp,iN0 xF0,iP hs,e,List.filter_cons_of_neg (by rw[hp];exact xF0)]
def Mm(K:Db)(n:Nat):uV n (K.map zH):=wI λd hd=>by obtain⟨i,_,rfl⟩:=mM0.mp hd;exact cA _ _
abbrev SA(ts:Tk)(q:MV)(i l0 l4 l5:Nat)(nm o:Ze):zK:=[some (.tup (ts.map tbl)),some q,some (zH i),some (.loc l0),some (.loc l4),some (.loc l5),some (.loc (l5+1)),nm,o]
abbrev sB(B:zC)(rs ws:Db):zC:=B++[.dic (rD rs),.lst (ws.map zH)]
structure UN(B:zC)(l4 u0 n:Nat)(un:Nat->List (List Nat)):Prop where
 tab:B[l4]? =some (.lst ((List.range' u0 n).map MV.loc))
 row: ∀j,j<n->B[u0+j]? =some (.lst ((un j).map MV.str))
 len: ∀j,j<n->(un j).length<=4
def Gj(B:zC)(rs ws:Db):(sB B rs ws)[B.length]? =some (.dic (rD rs)):=by simp[sB]
def RA(B:zC)(rs ws:Db):(sB B rs ws)[B.length+1]? =some (.lst (ws.map zH)):=by simp[sB]
def To(B:zC)(rs ws rs':Db):(sB B rs ws).set B.length (.dic (rD rs'))=sB B rs' ws:=by simp[sB]
def Gk(B:zC)(rs ws ws':Db):(sB B rs ws).set (B.length+1) (.lst (ws'.map zH))=sB B rs ws':=by simp[sB]
def XY{B:zC}{k:Nat}{o:MO}(h:B[k]? =some o)(rs ws:Db):(sB B rs ws)[k]? =some o:=by show(B++_)[k]? =_;rw[getElem?_append_left (gS.mp h).1];exact h
def Gn{B:zC}{l4 u0 n:Nat}{un:Nat->List (List Nat)}(U:UN B l4 u0 n un){j:Nat}(hj:j<n)(rs ws:Db):wN (.val (.loc l4)) (.val (zH j)) (sB B rs ws)=.ok (.val (.loc (u0+j))) (sB B rs ws):=
 eG (XY U.tab rs ws) (lU (by rw[getElem?_map,List.getElem?_range' hj,Nat.one_mul];rfl))
def Mn{ts:Tk}{q:MV}{i l0 l4 u0 n:Nat}{B:zC}{un:Nat->List (List Nat)}(U:UN B l4 u0 n un){w j:Nat}(hw:w<n)(hj:j<n){rs ws:Db}(hr:rs.length<1000)(hws:ws.length<1000):
  bF (SA ts q i l0 l4 B.length (some (.loc (u0+w))) (some (zH j))) (sB B rs ws)=.ok (.next (SA ts q i l0 l4 B.length (some (.loc (u0+w))) (some (zH j)))) (if j∉rs/\Av (un w) (un j)=true then sB B (rs++[j]) (ws++[j])else sB B rs ws):=by
 have hin:=Gh true (Gj B rs ws) j;rw[iP rfl]at hin;unfold bF mY;by_cases hm:j∈rs
 .rw[dT0 hm]at hin;rw[iN0 λz=>z.1 hm];simp? [hin,Bool.not_true,fT,iF]
 .rw[dF0 hm]at hin;have hc:=Tl (XY (U.row w hw) rs ws) (XY (U.row j hj) rs ws) (by have:=U.len w hw;omega);by_cases hcm:Av (un w) (un j)=true
  .rw[iP ⟨hm,hcm⟩];have e1:(EJ (kJ (.bl true)) (DJ sR (vJ 5) (vJ 8))) (SA ts q i l0 l4 B.length (some (.loc (u0+w))) (some (zH j))) (sB B rs ws)=.ok (.next (SA ts q i l0 l4 B.length (some (.loc (u0+w))) (some (zH j)))) (sB B (rs++[j]) ws):=by simp? [oE,XX (Gj B rs ws) (show rs.length<1000000 by omega) hm,To]
   have e2:(BJ (eJ jP DV (vJ 6) (yJ (vJ 8) wJ))) (SA ts q i l0 l4 B.length (some (.loc (u0+w))) (some (zH j))) (sB B (rs++[j]) ws)=.ok (.next (SA ts q i l0 l4 B.length (some (.loc (u0+w))) (some (zH j)))) (sB B (rs++[j]) (ws++[j])):=by simp? [gA (RA B (rs++[j]) ws),oB (RA B (rs++[j]) ws) (show(ws.map zH).length<1000000 by rw[lM0];omega)];rw[show ws.map zH++[.int (j:Int)]=(ws++[j]).map zH by rw[map_append];rfl,Gk]
   simp? [hin,Bool.not_false,Gn U hj,hc,hcm];rw[zD e1,e2]
  .rw[iN0 λz=>hcm z.2];simp? [hin,Bool.not_false,Gn U hj,hc,hcm,fT,iF]
theorem UR{ts:Tk}{q:MV}{i l0 l4 u0 n:Nat}{B:zC}{un:Nat->List (List Nat)}(U:UN B l4 u0 n un){w:Nat}(hw:w<n): ∀(js:Db),(∀j∈js,j<n)-> ∀(rs ws:Db)(o:Ze),rs.length+js.length<1000->ws.length+js.length<1000->
  ∃t o',jC (xR 8) bF [] (js.map zH) (SA ts q i l0 l4 B.length (some (.loc (u0+w))) o) (sB B rs ws)=.ok (.next (SA ts q i l0 l4 B.length (some (.loc (u0+w))) o')) (sB B (rs++t) (ws++t))/\(rs.Nodup->(rs++t).Nodup)/\(∀k∈t,k<n/\Av (un w) (un k)=true)/\ ∀k∈js,Av (un w) (un k)=true->k∈rs++t
 |[],_,rs,ws,o,_,_=>⟨[],o,by rw[aN,aN];rfl,λh=>by rw[aN];exact h,λk hk=>by simp at hk,λk hk=>by simp at hk⟩
 |j::js,hjs,rs,ws,o,h1,h2=>by
  rw[lC0]at h1 h2;have hj:=hjs j mF0;have hjs': ∀k∈js,k<n:=λk hk=>hjs k (mO _ hk);have e:=Mn (ts:=ts) (q:=q) (i:=i) (l0:=l0) U hw hj (rs:=rs) (ws:=ws) (by omega) (by omega);by_cases hm:j∉rs/\Av (un w) (un j)=true
  .rw[iP hm]at e;obtain⟨t,o',e',h3,h4,h5⟩:=UR (ts:=ts) (q:=q) (i:=i) (l0:=l0) U hw js hjs' (rs++[j]) (ws++[j]) (some (zH j)) (by rw[lA,lS];omega) (by rw[lA,lS];omega);refine⟨j::t,o',?_,λhn=>?_,λk hk=>?_,λk hk hc=>?_⟩
   .rw[map_cons,yE (ρ0:=SA ts q i l0 l4 B.length (some (.loc (u0+w))) (some (zH j))) rfl e (yX _),e',aA,aA];rfl
   .have:=h3 (nodup_append.mpr ⟨hn,by simp,λa ha b hb=>by rw[mS.mp hb];rintro rfl;exact hm.1 ha⟩);rw[aA]at this;exact this
   .rcases mC.mp hk with rfl|hk
    .exact⟨hj,hm.2⟩
    .exact h4 k hk
   .rcases mC.mp hk with rfl|hk
    .exact mem_append.mpr (.inr mF0)
    .have:=h5 k hk hc;rw[aA]at this;exact this
  .rw[iN0 hm]at e;obtain⟨t,o',e',h3,h4,h5⟩:=UR (ts:=ts) (q:=q) (i:=i) (l0:=l0) U hw js hjs' rs ws (some (zH j)) (by omega) (by omega);refine⟨t,o',?_,h3,h4,λk hk hc=>?_⟩
   .rw[map_cons,yE (ρ0:=SA ts q i l0 l4 B.length (some (.loc (u0+w))) (some (zH j))) rfl e (yX _),e']
   .rcases mC.mp hk with rfl|hk
    .exact mem_append.mpr (.inl (Classical.byContradiction λz=>hm ⟨z,hc⟩))
    .exact h5 k hk hc
def Mp{S:zC}{l:Nat}{ds:Zd}{d:MV}(h:S[l]? =some (.lst (ds++[d]))):GM (.val (.loc l)) [] S=.ok (.val d) (S.set l (.lst ds)):=by
 unfold GM;dsimp only;rw[h];dsimp only;have e1:(ds++[d])[(ds++[d]).length - 1]? =some d:=by simp
 have e2:(ds++[d]).eraseIdx ((ds++[d]).length - 1)=ds:=by rw[lA,lS,Nat.add_sub_cancel,List.eraseIdx_append_of_length_le (le_refl _),sub_self];exact aN _
 rw[e1,e2]
def Mq{ts:Tk}{q:MV}{i l0 l4 u0 n:Nat}{B:zC}{un:Nat->List (List Nat)}(U:UN B l4 u0 n un)(hn:n<=4){w:Nat}(hw:w<n){rs ws:Db}(hr:rs.length<=100)(hws:ws.length<=100)(nm o:Ze):
  ∃t o',bG (SA ts q i l0 l4 B.length nm o) (sB B rs (ws++[w]))=.ok (.next (SA ts q i l0 l4 B.length (some (.loc (u0+w))) o')) (sB B (rs++t) (ws++t))/\(rs.Nodup->(rs++t).Nodup)/\(∀k∈t,k<n/\Av (un w) (un k)=true)/\ ∀k,k<n->Av (un w) (un k)=true->k∈rs++t:=by
 obtain⟨t,o',e,h3,h4,h5⟩:=UR (ts:=ts) (q:=q) (i:=i) (l0:=l0) U hw (List.range n) (λj hj=>mem_range.mp hj) rs ws o (by rw[length_range];omega) (by rw[length_range];omega);refine⟨t,o',?_,h3,h4,λk hk=>h5 k (mem_range.mpr hk)⟩;have hp:GM (.val (.loc (B.length+1))) [] (sB B rs (ws++[w]))=.ok (.val (zH w)) (sB B rs ws):=by rw[Mp (ds:=ws.map zH) (d:=zH w) (by rw[RA,map_append];rfl),Gk]
 have e1:cH (SA ts q i l0 l4 B.length nm o) (sB B rs (ws++[w]))=.ok (.next (SA ts q i l0 l4 B.length (some (.loc (u0+w))) o)) (sB B rs ws):=by unfold cH;simp? [gA (RA B rs (ws++[w])),hp,Gn U hw]
 unfold bG;rw[zD e1];unfold mZ;have hl:=mU (XY U.tab rs ws);rw[lM0,List.length_range']at hl;simp? [hl,EA (n:=n) (by omega)];exact e
def Mr{S:zC}{l:Nat}{ds:Zd}(h:S[l]? =some (.lst ds)):FM (.val (.loc l)) S=.ok (!ds.isEmpty) S:=by unfold FM;dsimp only;rw[h]
theorem RB{ts:Tk}{q:MV}{i l0 l4 u0 n:Nat}{B:zC}{un:Nat->List (List Nat)}(U:UN B l4 u0 n un)(hn4:n<=4){P:Nat->Prop}(hP: ∀r k,P r->k<n->Av (un r) (un k)=true->P k): ∀(m f:Nat),m<f-> ∀(rs ws:Db)(nm o:Ze),n - rs.length+ws.length<=m->ws.length<=rs.length->rs.Nodup->(∀r∈rs,r<n/\P r)->(∀r∈ws,r∈rs)->(∀r∈rs,r∉ws-> ∀k,k<n->Av (un r) (un k)=true->k∈rs)->
  ∃rs' nm' o',bK kH bG f (SA ts q i l0 l4 B.length nm o) (sB B rs ws)=.ok (.next (SA ts q i l0 l4 B.length nm' o')) (sB B rs' [])/\(∀r∈rs,r∈rs')/\rs'.Nodup/\(∀r∈rs',r<n/\P r)/\ ∀r∈rs', ∀k,k<n->Av (un r) (un k)=true->k∈rs'
 |m,f,hf,rs,ws,nm,o,hm,hwl,hnd,hr,hw,hc=>by
  obtain⟨f,rfl⟩: ∃g,f=g+1:=⟨f - 1,by omega⟩
  have ht:kH (SA ts q i l0 l4 B.length nm o) (sB B rs ws)=.ok (!(ws.map zH).isEmpty) (sB B rs ws):=by unfold kH;simp? [Mr (RA B rs ws)]
  have hrl:rs.length<=n:=by have:=tQ hnd λx hx=>mem_range.mpr (hr x hx).1;rw[length_range]at this;exact this
  rcases List.eq_nil_or_concat ws with rfl|⟨ws,w,rfl⟩
  .exact⟨rs,nm,o,JS ht,λr h=>h,hnd,hr,λr h=>hc r h (by simp)⟩
  .rw[List.concat_eq_append]at *;have ht':kH (SA ts q i l0 l4 B.length nm o) (sB B rs (ws++[w]))=.ok true (sB B rs (ws++[w])):=by rw[ht];simp
   rw[lA,lS]at hm hwl;have hww:w∈rs:=hw w (mem_append.mpr (.inr mF0));have hwn:=hr w hww;obtain⟨t,o',e,h3,h4,h5⟩:=Mq (ts:=ts) (q:=q) (i:=i) (l0:=l0) U hn4 hwn.1 (rs:=rs) (ws:=ws) (by omega) (by omega) nm o;have hnd':=h3 hnd
   have hr': ∀r∈rs++t,r<n/\P r:=λr h=>by
    rcases mem_append.mp h with h|h
    .exact hr r h
    .exact⟨(h4 r h).1,hP w r hwn.2 (h4 r h).1 (h4 r h).2⟩
   have hrl':(rs++t).length<=n:=by have:=tQ hnd' λx hx=>mem_range.mpr (hr' x hx).1;rw[length_range]at this;exact this
   rw[lA]at hrl';have hlt:m - 1<m:=by omega
   obtain⟨rs',nm',o'',e2,g1,g2,g3,g4⟩:=RB (ts:=ts) (q:=q) (i:=i) (l0:=l0) U hn4 hP (m - 1) f (by omega) (rs++t) (ws++t) (some (.loc (u0+w))) o' (by rw[lA,lA];omega) (by rw[lA,lA];omega) hnd' hr' (λr h=>by
    rcases mem_append.mp h with h|h
    .exact mem_append.mpr (.inl (hw r (mem_append.mpr (.inl h))))
    .exact mem_append.mpr (.inr h)) (λr h hn k hk hcm=>by
    rcases mem_append.mp h with h|h
    .by_cases e:r=w
     .subst e;exact h5 k hk hcm
     .exact mem_append.mpr (.inl (hc r h (λz=>by
       rcases mem_append.mp z with z|z
       .exact hn (mem_append.mpr (.inl z))
       .exact e (mS.mp z)) k hk hcm))
    .exact absurd (mem_append.mpr (.inr h)) hn)
   refine⟨rs',nm',o'',?_,λr h=>g1 r (mem_append.mpr (.inl h)),g2,g3,g4⟩;rw[uW ht' e];exact e2
 termination_by m=>m
abbrev Oq(ts:Tk)(hs:Ch)(as:Zg):Nat->Nat->Prop:=Rc (Kq ts hs as) (Fq hs as) as.length
def Ud(hs ks:Ch)(as:Zg)(j:Nat):List (List Nat):=(Fq hs as j).filter λx=>!decide (x∈ks)
def Gp{ts:Tk}{hs ks:Ch}{as:Zg}{i:Nat}(hk: ∀x,x∈ks↔Bf ts hs as i x)(r k:Nat):Av (Ud hs ks as r) (Ud hs ks as k)=true↔ ∃x,x∈Fq hs as r/\x∈Fq hs as k/\ ¬Bf ts hs as i x:=by
 unfold Av;rw[any_eq_true];constructor
 .rintro⟨x,h1,h2⟩;have h2:=of_decide_eq_true h2;unfold Ud at h1 h2;rw[mem_filter]at h1 h2;exact⟨x,h1.1,h2.1,λz=>by have:=h1.2;rw[dT0 ((hk x).mpr z)]at this;cases this⟩
 .rintro⟨x,h1,h2,h3⟩;have e:(!decide (x∈ks))=true:=by rw[dF0 λz=>h3 ((hk x).mp z)];rfl
  exact⟨x,mem_filter.mpr ⟨h1,e⟩,dT0 (mem_filter.mpr ⟨h2,e⟩)⟩
def Os{ts:Tk}{hs:Ch}{as:Zg}{i j:Nat}(hi:i<as.length)(h:Oq ts hs as i j):j<as.length:=by
 cases h with
 |self=>exact hi
 |step j k _ hk _ _ _=>exact hk
theorem Ms(S:zC)(i:Nat):QC S.length (.val (zH i)) (.val (.bl true)) (S++[.dic []])=.ok (.val (.loc S.length)) (S++[.dic (rD [i])]):=by unfold QC;dsimp only;rw[iP ⟨rfl,zP _ _⟩,wQ];rfl
def Aw{ts:Tk}{hs:Ch}{as:Zg}(hA: ∀a∈as,AOk ts a)(hlen:as.length<=4){i:Nat}(hi:i<as.length)(S:zC):
  ∃rs:List Nat,yB 3 aO [.val (.tup (ts.map tbl)),.val (qM hs as),.val (zH i)] S=.ok (.new (rs.map zH)) S/\rs.Nodup/\ ∀j,j∈rs↔Oq ts hs as i j:=by
 obtain⟨ks,T,e1,hk,_⟩:=QZ (hs:=hs) hA hlen hi S;obtain⟨S1,hS1⟩: ∃S1:zC,S1=S++.dic (dT ks)::T:=⟨_,rfl⟩
 have hat: ∀U:zC,(S1++U)[S.length]? =some (.dic (dT ks)):=λU=>by rw[hS1,aA];exact fF _ _ _
 have hin: ∀a∈as, ∀U:zC, ∃ρ1,xR 0 (aM a) [none,some (qM hs as),some (.loc S.length)] (S1++U)=.ok ρ1 (S1++U)/\mX ρ1 (S1++U)=.ok true (S1++U)/\cG ρ1 (S1++U)=.ok (.new (((HR hs a).filter λx=>!decide (x∈ks)).map MV.str)) (S1++U):=λa ha U=>by
  have hAa:=hA a ha;refine⟨[some (aM a),some (qM hs as),some (.loc S.length)],rfl,rfl,?_⟩
  have hc:xN (xR 0) cF mW [none,some (.loc S.length)] [] ((HR hs a).map MV.str) (S1++U)=.ok (((HR hs a).filter λx=>!decide (x∈ks)).map MV.str) (S1++U):=
   lV (yX _) λx _=>⟨[some (.str x),some (.loc S.length)],rfl,by unfold cF;simp? [Fy true (hat U) x],rfl⟩
  have hl:((HR hs a).map MV.str).length<1000000:=by rw[lM0];have:=CS (hs:=hs) hAa;omega
  have hb: ∀a b c:Option MV,BF 1 [2] [a,b,c]=[none,c]:=λ_ _ _=>rfl;unfold cG;simp? [Oo hAa,tR,hl,hb,hc]
 have hcl:=GT (f:=aM) (g:=λa=>((HR hs a).filter λx=>!decide (x∈ks)).map MV.str) as hin [];rw[aN,length_nil,Nat.add_zero]at hcl;obtain⟨B,hB⟩: ∃B:zC,B=S1++(as.map λa=>MO.lst (((HR hs a).filter λx=>!decide (x∈ks)).map MV.str))++[.lst ((List.range' S1.length as.length).map MV.loc)]:=⟨_,rfl⟩
 have U:UN B (S1.length+as.length) S1.length as.length (Ud hs ks as):=by
  refine⟨?_,λj hj=>?_,λj hj=>?_⟩
  .rw[hB,getElem?_append_right (by rw[lA,lM0];exact le_refl _),lA,lM0,sub_self];rfl
  .rw[hB,aA,getElem?_append_right (by omega),Nat.add_sub_cancel_left,getElem?_append_left (by rw[lM0];exact hj),getElem?_map,gE hj];unfold Ud;rw[QW (gE hj)];rfl
  .unfold Ud;rw[QW (gE hj)];have h1:=length_filter_le (λx=>!decide (x∈ks)) (HR hs as[j]);have h2:=CS (hs:=hs) (hA _ (getElem_mem hj));omega
 obtain⟨rs,nm',o',e5,g1,g2,g3,g4⟩:=RB (ts:=ts) (q:=qM hs as) (i:=i) (l0:=S.length) U hlen (P:=Oq ts hs as i) (λr k hr hkl hc=>by
  obtain⟨x,h1,h2,h3⟩:=(Gp hk r k).mp hc;exact .step r k hr hkl h1 h2 h3) 10 10000 (by omega) [i] [i] none none (by rw[lS];omega) (le_refl _) (by simp) (λr hr=>by
  rw[mS.mp hr];exact⟨hi,.self⟩) (λr h=>h) (λr h hn=>absurd h hn)
 refine⟨rs,?_,g2,λj=>⟨λh=>(g3 j h).2,λh=>?_⟩⟩
 .have hBS: ∃V,sB B rs []=S++V:=⟨_,by rw[show sB B rs []=B++[.dic (rD rs),.lst []]from rfl,hB,hS1];simp only[aA];rfl⟩
  obtain⟨V,hV⟩:=hBS;refine kU (T:=V) rfl ?_ (Mm _ _);show yU (oU [some (.tup (ts.map tbl)),some (qM hs as),some (zH i),none,none,none,none,none,none] S)=_;have f1:eK [some (.tup (ts.map tbl)),some (qM hs as),some (zH i),none,none,none,none,none,none] S=.ok (.next [some (.tup (ts.map tbl)),some (qM hs as),some (zH i),some (.loc S.length),none,none,none,none,none]) S1:=by unfold eK;simp? [e1];rw[hS1]
  have hb: ∀a b c d e f g h i:Option MV,BF 1 [1,3] [a,b,c,d,e,f,g,h,i]=[none,b,d]:=λ_ _ _ _ _ _ _ _ _=>rfl;have hl:(as.map aM).length<1000000:=by rw[lM0];omega
  have f2:eM [some (.tup (ts.map tbl)),some (qM hs as),some (zH i),some (.loc S.length),none,none,none,none,none] S1=.ok (.next [some (.tup (ts.map tbl)),some (qM hs as),some (zH i),some (.loc S.length),some (.loc (S1.length+as.length)),none,none,none,none]) B:=by unfold eM;simp? [GS,ND,hl,hb,hcl];rw[hB,lA,lM0]
  have f3:eO [some (.tup (ts.map tbl)),some (qM hs as),some (zH i),some (.loc S.length),some (.loc (S1.length+as.length)),none,none,none,none] B=.ok (.next [some (.tup (ts.map tbl)),some (qM hs as),some (zH i),some (.loc S.length),some (.loc (S1.length+as.length)),some (.loc B.length),none,none,none]) (B++[.dic (rD [i])]):=by unfold eO;simp? [d1J,Ms]
  have f4:eP [some (.tup (ts.map tbl)),some (qM hs as),some (zH i),some (.loc S.length),some (.loc (S1.length+as.length)),some (.loc B.length),none,none,none] (B++[.dic (rD [i])])=.ok (.next (SA ts (qM hs as) i S.length (S1.length+as.length) B.length none none)) (sB B [i] [i]):=by unfold eP;simp? [lst1];rw[lA,aA];rfl
  unfold oU;rw[zD f1,zD f2,zD f3,zD f4,zD (show rW _ _=_ from e5)];unfold rX;simp? [Gi (Gj B rs [])];rw[hV];rfl
 .induction h with
  |self=>exact g1 i mF0
  |@step x j k hj hkn h1 h2 h3 ih=>exact g4 j ih k hkn ((Gp hk j k).mpr ⟨x,h1,h2,h3⟩)
abbrev Pr:=Nat×Nat
def iC(p:Pr):MV:=.tup [zH p.1,zH p.2]
def Mt{p q:Pr}(h:iC p=iC q):p=q:=by
 unfold iC at h;injection h with h
 injection h with h1 h
 injection h with h2 _
 exact Prod.ext (NN h1) (NN h2)
def Tp{p:Pr}{T:List Pr}:iC p∈T.map iC↔p∈T:=⟨λh=>by obtain⟨q,hq,e⟩:=mM0.mp h;rw[<-Mt e];exact hq,λh=>mM0.mpr ⟨p,h,rfl⟩⟩
def Gq(T:List Pr): ∀y∈T.map iC,pd y=true/\RU y<40:=λy hy=>by obtain⟨p,_,rfl⟩:=mM0.mp hy;unfold iC;exact⟨by rw[CN,bB,bB,EM,CO,CO];rfl,by rw[AN,gB,gB,AO,AQ,AQ];decide⟩
def Ot(T:List Pr)(n:Nat):uV n (T.map iC):=wI λd hd=>KU (Gq T d hd).1
def Mu(a b:Pr):Bool:=decide (a.1<b.1\/a.1=b.1/\a.2<b.2)
theorem DP{α:Type}{le:α->α->Prop}: ∀{l1 l2:List α},l1.Perm l2->l1.Pairwise le->l2.Pairwise le->(∀a∈l1, ∀b∈l1,le a b->le b a->a=b)->l1=l2
 |[],l2,p,_,_,_=>p.nil_eq
 |a::l1,[],p,_,_,_=>by have:=p.length_eq;simp at this
 |a::l1,b::l2,p,h1,h2,u=>by
  have c1:=pairwise_cons.mp h1;have c2:=pairwise_cons.mp h2
  have e:a=b:=by
   rcases mC.mp (p.mem_iff.mp (mF0 (a:=a) (l:=l1)))with e|m2
   .exact e
   .rcases mC.mp (p.mem_iff.mpr (mF0 (a:=b) (l:=l2)))with e|m1
    .exact e.symm
    .exact u a mF0 b (mO _ m1) (c1.1 b m1) (c2.1 a m2)
  subst e;rw[DP (p.cons_inv) c1.2 c2.2 λx hx y hy=>u x (mO _ hx) y (mO _ hy)]
def GU{β:Type}(T:List β):(List.range T.length).filterMap (T[·]?)=T:=by
 induction T with
 |nil=>rfl
 |cons t T ih=>
  rw[lC0,List.range_succ_eq_map,filterMap_cons,List.filterMap_map];show t::List.filterMap (λi=>(t::T)[i+1]?) (List.range T.length)=_;simp only[List.getElem?_cons_succ];rw[ih]
def GV(S:zC)(a b:Pr):DF S zT (iC a) (iC b)=some (Mu a b):=by
 have e:zT=38+1+1:=rfl;rw[e];show((eqv S (38+1) (zH a.1) (zH b.1)).bind λz=>if z=true then((eqv S (38+1) (zH a.2) (zH b.2)).bind λz=>if z=true then some false else DF S (38+1) (zH a.2) (zH b.2))else DF S (38+1) (zH a.1) (zH b.1))=_;rw[show eqv S (38+1) (zH a.1) (zH b.1)=some (decide ((a.1:Int)=b.1))from mT 38 a.1 b.1,show eqv S (38+1) (zH a.2) (zH b.2)=some (decide ((a.2:Int)=b.2))from mT 38 a.2 b.2];show(if decide ((a.1:Int)=b.1)=true then(if decide ((a.2:Int)=b.2)=true then some false else some (decide ((a.2:Int)<b.2)))else some (decide ((a.1:Int)<b.1)))=_;unfold Mu;split
 .rename_i h;have h:=of_decide_eq_true h;split
  .rename_i h2;have h2:=of_decide_eq_true h2;rw[dF0 (by omega)]
  .exact congrArg some (dec_is (by omega))
 .rename_i h;have h: ¬(a.1:Int)=b.1:=λz=>h (dT0 z);exact congrArg some (dec_is (by omega))
def GW{a b:Pr}:Mu a b=false↔ ¬(a.1<b.1\/a.1=b.1/\a.2<b.2):=by unfold Mu;exact decide_eq_false_iff_not
def RD{a b:Pr}:Mu a b=true↔(a.1<b.1\/a.1=b.1/\a.2<b.2):=by unfold Mu;exact decide_eq_true_iff
def Mv{T R:List Pr}(pR:R.Perm T)(qR:R.Pairwise (λa b=>Mu b a=false))(hl:T.length<64){p:Er}{S:zC}(hp:hG S p=some (T.map iC)):KD [p] S=.ok (.new (R.map iC)) S:=by
 cases hT:T with
 |nil=>
  subst hT;have e:R=[]:=pR.eq_nil;subst e;refine WO hp ⟨by simp,λd hd=>by simp at hd,λd hd=>by simp at hd,⟨λa ha=>by simp at ha,λa ha=>by simp at ha,λa ha=>by simp at ha⟩⟩ (λr' h=>?_) ⟨[],by simp,.nil,rfl⟩;obtain⟨idx,ip,_,rfl⟩:=h;have:=ip.length_eq;have e2:idx=[]:=List.eq_nil_of_length_eq_zero (by simpa using this);rw[e2];rfl
 |cons t0 T0=>
 have mem: ∀k∈T.map iC, ∃t,k=iC t:=λk hk=>by obtain⟨t,_,h2⟩:=mM0.mp hk;exact⟨t,h2.symm⟩
 have ok:SrtJ S (T.map iC):=by
  refine⟨by rw[lM0];exact hl,λd hd=>?_,λd hd=>?_,⟨λa ha b hb=>?_,λa ha b hb c hc h1 h2=>?_,λa ha b hb h1=>?_⟩⟩
  .obtain⟨t,rfl⟩:=mem d hd;simp[iC,rS,JV]
  .obtain⟨t,rfl⟩:=mem d hd;exact⟨_,_,rfl⟩
  .obtain⟨t,rfl⟩:=mem a ha;obtain⟨u,rfl⟩:=mem b hb;exact⟨_,GV S t u⟩
  .obtain⟨t,rfl⟩:=mem a ha;obtain⟨u,rfl⟩:=mem b hb;obtain⟨v,rfl⟩:=mem c hc;rw[GV]at h1 h2 ⊢;have h1:=GW.mp (Option.some.inj h1);have h2:=GW.mp (Option.some.inj h2);rw[GW.mpr (by omega)]
  .obtain⟨t,rfl⟩:=mem a ha;obtain⟨u,rfl⟩:=mem b hb;rw[GV]at h1 ⊢;have h1:=RD.mp (Option.some.inj h1);rw[GW.mpr (by omega)]
 refine WO hp ok (λr' h=>?_) ?_
 .obtain⟨idx,p',q',rfl⟩:=h;rw[lM0]at p';have e1:(idx.filterMap (T[·]?)).Perm T:=by have:=p'.filterMap (T[·]?);rwa [GU]at this
  have e2:(idx.filterMap (T[·]?)).Pairwise (λa b=>Mu b a=false):=by rw[List.pairwise_filterMap];refine q'.imp λ{i j} h b hb c hc=>?_;have h':=h (iC b) (iC c) (by rw[getElem?_map,hb];rfl) (by rw[getElem?_map,hc];rfl);rw[GV]at h';exact Option.some.inj h'
  have e3:idx.filterMap ((T.map iC)[·]?)=(idx.filterMap (T[·]?)).map iC:=by rw[List.map_filterMap];congr 1;funext i;rw[getElem?_map]
  rw[e3,DP (e1.trans pR.symm) e2 qR λa _ b _ h1 h2=>by have h1:=GW.mp h1;have h2:=GW.mp h2;exact Prod.ext (by omega) (by omega)]
 .have g:(List.range T.length).map (λi=>(T[i]?).getD t0)=T:=by rw[GA λi hi=>mem_range.mp hi,GU]
  obtain⟨idx,ip,ie⟩:=JW pR.symm (List.range T.length) g;have ib: ∀i,i∈idx->i<T.length:=λi hi=>mem_range.mp (ip.mem_iff.mp hi);refine⟨idx,by rw[lM0];exact ip,?_,?_⟩
  .rw[<-ie,pairwise_map]at qR;refine List.Pairwise.imp_of_mem (λ{i j} hi hj h a c ha hc=>?_) qR;have zi:T[i]? =some (T[i]'(ib i hi)):=gE _;have zj:T[j]? =some (T[j]'(ib j hj)):=gE _;rw[getElem?_map,zi]at ha;rw[getElem?_map,zj]at hc;cases ha;cases hc;rw[zi,zj]at h;rw[GV];exact congrArg some h
  .have e2:idx.map (λi=>(T[i]?).getD t0)=idx.filterMap (T[·]?):=GA ib;rw[<-ie,e2,List.map_filterMap];congr 1;funext i;rw[getElem?_map]
abbrev NQ(k:Nat):List (Str×MV):=[("place",.int (k:Nat))]
def Xh{c:Str}{k:Nat}(h:k<=1000000)(S:zC):Xy c "place" (.val (.int (k:Nat))) S=.exc c (NQ k) S:=iP (show(k:Int).natAbs<Lj from Nat.lt_of_le_of_lt (by omega:(k:Int).natAbs<=1000000) (by decide+kernel))
theorem GX{n:Nat}{F:List MV->zC->R Er}{rs:List Er}{S T:zC}{c:Str}{k:Nat}(hn:rs.length=n)(hF:F (zS rs S).1 (zS rs S).2=.exc c (NQ k) (S++T)):xH n F rs S=.exc c (NQ k) S:=by unfold xH;rw[iP hn,hF];show(if(NQ k).all (λp=>FW p.2)=true then(dR S (.val .non) (S++T)).bind λ_ S3=>R.exc c (NQ k) S3 else .no)=_;rw[iP (show(NQ k).all (λp=>FW p.2)=true from rfl),OZ (BM _) (λl=>by simp)];rfl
def GY{n:Nat}{F:List MV->zC->R Er}{rs:List Er}{S S':zC}{r:Er}(h:yB n F rs S=.ok r S'):xH n F rs S=.ok r S':=by
 unfold yB at h;unfold xH;split at h
 .rename_i hn;rw[iP hn]
  cases e:F (zS rs S).1 (zS rs S).2 with
  |ok r2 S2=>rw[e]at h;exact h
  |exc c fs S2=>rw[e]at h;cases h
  |no=>rw[e]at h;cases h
 .cases h
theorem Mw(ds:Zd)(S:zC):Xt [.val (.tup ds)] S=.ok ⟨PB ds,[]⟩ S:=rfl
abbrev CT(q:MV)(l:Nat)(p a:Ze):zK:=[some q,some (.loc l),p,a]
theorem EQ{F G:zK->zC->R Fl}{ρ:zK}{S S':zC}{c:Str}{fs:List (Str×MV)}(h:F ρ S=.exc c fs S'):zQ F G ρ S=.exc c fs S':=by unfold zQ;rw[h];rfl
theorem Mx{gf:MV->zK->zC->R zK}{b:zK->zC->R Fl}{gs:Zh}{d:MV}{ds:Zd}{ρ ρ0:zK}{S S0 S':zC}{c:Str}{fs:List (Str×MV)}(hg:gf d ρ S=.ok ρ0 S0)(h:b ρ0 S0=.exc c fs S'):jC gf b gs (d::ds) ρ S=.exc c fs S':=by
 conv=>lhs;unfold jC
 rw[hg,dP,h];rfl
def uO:List Nat->List (Int×List MV)->Nat->Option Nat
 |_,[],_=>none
 |rs,a::as,k=>if a.1.toNat∈rs then some k else uO (rs++[a.1.toNat]) as (k+1)
theorem Ou: ∀(as:Zg)(rs:Db)(k:Nat),rs.Nodup->uO rs as k=none->(rs++as.map λa=>a.1.toNat).Nodup
 |[],rs,k,h,_=>by rw[map_nil,aN];exact h
 |a::as,rs,k,h,e=>by
  unfold uO at e;split at e
  .cases e
  .rename_i hn;have:=Ou as (rs++[a.1.toNat]) (k+1) (nodup_append.mpr ⟨h,by simp,λx hx y hy=>by rw[mS.mp hy];rintro rfl;exact hn hx⟩) e;rw[aA]at this;exact this
def ctR(S:zC)(q:MV)(p a:Ze)(rs:Db):Option Nat->R Fl
 |none=>.ok (.next (CT q S.length p a)) (S++[.dic (rD rs)])
 |some j=>.exc "Double" (NQ j) (S++[.dic (rD rs)])
theorem Gr{q:MV}(S:zC): ∀(as:Zg)(k:Nat)(rs:Db)(p a:Ze),rs.length+as.length<1000->k+as.length<=1000->(∀a∈as,0<=a.1)->
  ∃p' a' rs',jC (Ck 2 (kR (xR 2) (kR (xR 3) uK))) wD [] (((as.map aM).zipIdx k).map λp=>.tup [.int (p.2:Nat),p.1]) (CT q S.length p a) (S++[.dic (rD rs)])=ctR S q p' a' rs' (uO rs as k)
 |[],k,rs,p,a,_,_,_=>⟨p,a,rs,rfl⟩
 |c::as,k,rs,p,a,hl,hk,h0=>by
  rw[lC0]at hl hk;have hc0:=h0 c mF0;have hci:zH c.1.toNat=.int c.1:=by rw[show zH c.1.toNat=.int ((c.1.toNat:Nat):Int)from rfl,Int.toNat_of_nonneg hc0]
  have hin:=Gh false (zP S (.dic (rD rs))) c.1.toNat;rw[iN0 xF0,hci]at hin;have hix: ∀S:zC,wN (.val (aM c)) (.val (.int 0)) S=.ok (.val (.int c.1)) S:=λ_=>rfl;unfold uO;rw[map_cons,zipIdx_cons,map_cons];by_cases hnot:c.1.toNat∈rs
  .rw[dT0 hnot]at hin;rw[iP hnot];refine⟨none,none,rs,?_⟩;have e1:yV (CT q S.length (some (.int (k:Nat))) (some (aM c))) (S++[.dic (rD rs)])=.exc "Double" (NQ k) (S++[.dic (rD rs)]):=by unfold yV;simp? [hix,hin,Xh (show k<=1000000 by omega)]
   exact Mx (ρ0:=CT q S.length (some (.int (k:Nat))) (some (aM c))) (S0:=S++[.dic (rD rs)]) rfl (by unfold wD;exact EQ e1)
  .rw[dF0 hnot]at hin;rw[iN0 hnot];have hst:=λρ=>XX (zP S (.dic (rD rs))) (show rs.length<1000000 by omega) hnot ρ;rw[hci]at hst;obtain⟨p',a',rs',ih⟩:=Gr (q:=q) S as (k+1) (rs++[c.1.toNat]) (some (.int (k:Nat))) (some (aM c)) (by rw[lA,lS];omega) (by omega) (λb hb=>h0 b (mO _ hb));refine⟨p',a',rs',?_⟩;have e1:yV (CT q S.length (some (.int (k:Nat))) (some (aM c))) (S++[.dic (rD rs)])=.ok (.next (CT q S.length (some (.int (k:Nat))) (some (aM c)))) (S++[.dic (rD rs)]):=by unfold yV;simp? [hix,hin,fT,iF]
   have e2:kG (CT q S.length (some (.int (k:Nat))) (some (aM c))) (S++[.dic (rD rs)])=.ok (.next (CT q S.length (some (.int (k:Nat))) (some (aM c)))) (S++[.dic (rD (rs++[c.1.toNat]))]):=by unfold kG;simp? [hix,oE,hst,wQ]
   rw[yE (ρ0:=CT q S.length (some (.int (k:Nat))) (some (aM c))) (S0:=S++[.dic (rD rs)]) rfl (by unfold wD;rw[zD e1];exact e2) (yX _)];exact ih
theorem Ov: ∀(as:Zg)(rs:Db)(k:Nat),(rs++as.map λa=>a.1.toNat).Nodup->uO rs as k=none
 |[],_,_,_=>rfl
 |a::as,rs,k,h=>by unfold uO;rw[map_cons]at h;rw[iN0 λz=>(nodup_append.mp h).2.2 _ z _ mF0 rfl];exact Ov as _ _ (by rw[aA];exact h)
def ctE(S T:zC):Option Nat->R Er
 |none=>.ok (.val .non) (S++T)
 |some j=>.exc "Double" (NQ j) (S++T)
section
variable{hs:Ch}{as:Zg}{j:Nat}
theorem XZ(hl:as.length<=4)(h0: ∀a∈as,0<=a.1)(S:zC): ∃T,yL [qM hs as] S=ctE S T (uO [] as 0):=by
 obtain⟨p',a',rs',e⟩:=Gr (q:=qM hs as) S as 0 [] none none (by rw[length_nil];omega) (by omega) h0;refine⟨[.dic (rD rs')],?_⟩;show yU (gI [some (qM hs as),none,none,none] S)=_;have e1:jE [some (qM hs as),none,none,none] S=.ok (.next (CT (qM hs as) S.length none none)) (S++[.dic (rD [])]):=by unfold jE;simp? [PC];rfl
 have e2:jF (CT (qM hs as) S.length none none) (S++[.dic (rD [])])=ctR S (qM hs as) p' a' rs' (uO [] as 0):=by unfold jF;simp? [GS,Mw,PB];exact e
 unfold gI;rw[zD e1,e2];cases uO [] as 0<;>rfl
def YA(hl:as.length<=4)(h0: ∀a∈as,0<=a.1)(hn:(as.map λa=>a.1.toNat).Nodup)(S:zC):xH 1 yL [.val (qM hs as)] S=.ok (.val .non) S:=by obtain⟨T,e⟩:=XZ (hs:=hs) hl h0 S;rw[Ov as [] 0 hn]at e;exact GY (cB (T:=T) rfl e (BM _) (λl=>by simp))
def RE(hl:as.length<=4)(h0: ∀a∈as,0<=a.1)(hj:uO [] as 0=some j)(S:zC):xH 1 yL [.val (qM hs as)] S=.exc "Double" (NQ j) S:=by obtain⟨T,e⟩:=XZ (hs:=hs) hl h0 S;rw[hj]at e;exact GX (T:=T) rfl e
end
structure QOk(ts:Tk)(as:Zg):Prop where
 at': ∀a∈as,AOk ts a
 len:as.length<=4
 pos: ∀a∈as,0<=a.1
 nd:(as.map λa=>a.1.toNat).Nodup
 ne:1<=as.length
open Classical in
def PR(R:Nat->Nat->Prop)(n:Nat):List Pr:=(List.range n).flatMap λa=>((List.range n).filter λb=>decide (b≠a/\R a b)).map λb=>(a,b)
open Classical in
def Tq{R:Nat->Nat->Prop}{n:Nat}{p:Pr}:p∈PR R n↔p.1<n/\p.2<n/\p.2≠p.1/\R p.1 p.2:=by
 unfold PR;rw[List.mem_flatMap];constructor
 .rintro⟨a,ha,h⟩;obtain⟨b,hb,rfl⟩:=mM0.mp h;rw[mem_filter]at hb;exact⟨mem_range.mp ha,mem_range.mp hb.1,of_decide_eq_true hb.2⟩
 .rintro⟨h1,h2,h3⟩;exact⟨p.1,mem_range.mpr h1,mM0.mpr ⟨p.2,mem_filter.mpr ⟨mem_range.mpr h2,dT0 h3⟩,rfl⟩⟩
def Ow(R:Nat->Nat->Prop)(n:Nat):(PR R n).Pairwise (λa b=>Mu a b=true):=by
 unfold PR;rw[List.pairwise_flatMap];refine⟨λa _=>?_,?_⟩
 .rw[pairwise_map];refine List.Pairwise.imp ?_ (List.Pairwise.filter _ List.pairwise_lt_range);intro x y h;exact RD.mpr (.inr ⟨rfl,h⟩)
 .refine List.pairwise_lt_range.imp λ{a b} h x hx y hy=>?_;obtain⟨_,_,rfl⟩:=mM0.mp hx;obtain⟨_,_,rfl⟩:=mM0.mp hy;exact RD.mpr (.inl h)
def Xi(R:Nat->Nat->Prop)(n:Nat):(PR R n).Nodup:=(Ow R n).imp λ{a b} h e=>by subst e;have:=RD.mp h;omega
def Mz{S:zC}{l:Nat}{ds es:Zd}(hS:S[l]? =some (.lst ds))(hz:ds.length+es.length<=1000000):Ln (.val (.loc l)) [.new es] S=.ok (.val .non) (S.set l (.lst (ds++es))):=by show sN (.val (.loc l)) S (λds=>if ds.length+es.length<=sizeLine then some (ds++es)else none)=_;unfold sN;dsimp only;rw[hS];dsimp only;rw[iP (fits hz)]
section
variable{ts:Tk}{hs:Ch}{as:Zg}
abbrev SW(ts:Tk)(q:MV)(p o:Ze):zK:=[some (.tup (ts.map tbl)),some q,p,o]
def Tr{i:Nat}{rs:Db}(Q:QOk ts as)(hi:i<as.length)(hn:rs.Nodup)(h: ∀j,j∈rs↔Oq ts hs as i j):rs.length<=4:=by have:=tQ hn λx hx=>mem_range.mpr (Os hi ((h x).mp hx));rw[length_range]at this;have:=Q.len;omega
theorem Gs(Q:QOk ts as)(S:zC): ∀(m k:Nat)(T:List Pr)(o:Ze),k+m=as.length->T.length<=4 * k->T.Nodup->(∀p,p∈T↔p.1<k/\p.2≠p.1/\Oq ts hs as p.1 p.2)->
  ∃(T':List Pr)(o':Ze),jC (xR 3) uF [] ((List.range' k m).map zH) (SW ts (qM hs as) (some (.loc S.length)) o) (S++[.lst (T.map iC)])=.ok (.next (SW ts (qM hs as) (some (.loc S.length)) o')) (S++[.lst (T'.map iC)])/\T'.length<=16/\T'.Nodup/\ ∀p,p∈T'↔p.1<as.length/\p.2≠p.1/\Oq ts hs as p.1 p.2
 |0,k,T,o,hk,hl,hn,h=>⟨T,o,rfl,by have:=Q.len;omega,hn,by rw[<-hk];exact h⟩
 |m+1,k,T,o,hk,hl,hn,h=>by
  have hki:k<as.length:=by omega
  obtain⟨rs,e1,hrn,hrs⟩:=Aw (hs:=hs) Q.at' Q.len hki (S++[.lst (T.map iC)]);have hrl:=Tr Q hki hrn hrs;have hql:=Q.len
  have hc:xN (xR 0) tH tI [none,some (zH k)] [] (rs.map zH) (S++[.lst (T.map iC)])=.ok (((rs.filter λb=>!decide (b=k)).map λb=>(k,b)).map iC) (S++[.lst (T.map iC)]):=by
   rw[map_map]
   exact lV (yX _) λb _=>⟨[some (zH b),some (zH k)],rfl,by
    unfold tH;simp? [ne_int];rw[dec_is (show(b:Int)=k↔b=k by omega)],by
    unfold tI;simp? [tup2];rfl⟩
  obtain⟨N,eN⟩: ∃N:List Pr,N=(rs.filter λb=>!decide (b=k)).map λb=>(k,b):=⟨_,rfl⟩
  rw[<-eN]at hc;have hNl:N.length<=4:=by rw[eN,lM0];exact le_trans (length_filter_le _ _) hrl
  have hNm: ∀p,p∈N↔p.1=k/\p.2≠p.1/\Oq ts hs as p.1 p.2:=λp=>by
   rw[eN,mM0];constructor
   .rintro⟨b,hb,rfl⟩;rw[mem_filter,hrs]at hb;refine⟨rfl,λe=>?_,hb.1⟩;have h2:=hb.2;rw[dT0 (show b=k from e)]at h2;cases h2
   .rintro⟨h1,h2,h3⟩;refine⟨p.2,?_,Prod.ext h1.symm rfl⟩;rw[mem_filter,hrs, <-h1,dF0 h2];exact⟨h3,rfl⟩
  have hNn:N.Nodup:=by rw[eN];unfold List.Nodup;rw[pairwise_map];exact(List.Pairwise.filter _ hrn).imp λ{x y} h e=>h (congrArg Prod.snd e)
  have hl1:(rs.map zH).length<1000000:=by rw[lM0];omega
  have hz:(T.map iC).length+(N.map iC).length<=1000000:=by rw[lM0,lM0];omega
  have hb: ∀a b c d:Option MV,BF 1 [3] [a,b,c,d]=[none,d]:=λ_ _ _ _=>rfl;have eb:uF (SW ts (qM hs as) (some (.loc S.length)) (some (zH k))) (S++[.lst (T.map iC)])=.ok (.next (SW ts (qM hs as) (some (.loc S.length)) (some (zH k)))) (S++[.lst ((T++N).map iC)]):=by unfold uF DL;simp? [gA (zP S (.lst (T.map iC))),e1,tR,hl1,hb,hc,Mz (zP S (.lst (T.map iC))) hz,wQ];rw[map_append]
  obtain⟨T',o',e,g⟩:=Gs Q S m (k+1) (T++N) (some (zH k)) (by omega) (by rw[lA];omega) (nodup_append.mpr ⟨hn,hNn,λx hx y hy=>by
   rintro rfl;have h1:=(h x).mp hx;have h2:=(hNm x).mp hy;omega⟩) (λp=>by
   rw[mem_append,h,hNm];constructor
   .rintro(⟨a,b,c⟩|⟨a,b,c⟩)
    .exact⟨by omega,b,c⟩
    .exact⟨by omega,b,c⟩
   .rintro⟨a,b,c⟩;by_cases hpk:p.1=k
    .exact .inr ⟨hpk,b,c⟩
    .exact .inl ⟨by omega,b,c⟩)
  refine⟨T',o',?_,g⟩;rw[range'_succ,map_cons,yE (ρ0:=(SW ts (qM hs as) (some (.loc S.length)) (some (zH k)))) rfl eb (yX _)];exact e
abbrev PQ(ts:Tk)(hs:Ch)(as:Zg):List Pr:=PR (Oq ts hs as) as.length
theorem RH(Q:QOk ts as)(S:zC):xH 2 fV [.val (.tup (ts.map tbl)),.val (qM hs as)] S=.ok (.new ((PQ ts hs as).map iC)) S:=by
 obtain⟨T',o',e,hl,hn,hT⟩:=Gs (hs:=hs) Q S as.length 0 [] none (by omega) (le_refl _) nodup_nil (λp=>⟨λh=>by simp at h,λh=>absurd h.1 (Nat.not_lt_zero _)⟩);refine GY (kU (T:=[.lst (T'.map iC)]) rfl ?_ (Ot _ _));show yU (AI (SW ts (qM hs as) none none) S)=_;have e1:pP (SW ts (qM hs as) none none) S=.ok (.next (SW ts (qM hs as) none none)) S:=by unfold pP;simp? [YA Q.len Q.pos Q.nd]
 have e2:BV (SW ts (qM hs as) none none) S=.ok (.next (SW ts (qM hs as) (some (.loc S.length)) none)) (S++[.lst []]):=by unfold BV;simp? [dP]
 have hlen:=Q.len;have e3:BW (SW ts (qM hs as) (some (.loc S.length)) none) (S++[.lst []])=.ok (.next (SW ts (qM hs as) (some (.loc S.length)) o')) (S++[.lst (T'.map iC)]):=by unfold BW;simp? [GS,uG,lM0,EA (n:=as.length) (by omega)];rw[List.range_eq_range'];exact e
 have hp:(PQ ts hs as).Perm T':=(List.perm_ext_iff_of_nodup (Xi _ _) hn).mpr λp=>by rw[Tq,hT];exact⟨λh=>⟨h.1,h.2.2⟩,λh=>⟨h.1,Os h.1 h.2.2,h.2⟩⟩
 have hs4:=Mv hp ((Ow _ _).imp λ{a b} h=>GW.mpr (by have:=RD.mp h;omega)) (by omega) (iH (zP S (.lst (T'.map iC))));unfold AI;rw[zD e1,zD e2,zD e3];unfold KQ;simp? [hs4];rfl
def Ue(L:List Pr):Option Pr:=L.find? λp=>decide ((p.2,p.1)∈L)
def rgE:Option Pr->Er
 |none=>.val .non
 |some p=>.new [zH p.1,zH p.2]
def rgR:Option Pr->zK->Fl
 |none,ρ=>.next ρ
 |some p,_=>.ret (.new [zH p.1,zH p.2])
abbrev RG(ts:Tk)(q:MV)(l:Nat)(a b:Ze):zK:=[some (.tup (ts.map tbl)),some q,some (.loc l),a,b]
theorem Gt{q:MV}{L:List Pr}{S:zC}{l:Nat}(hS:S[l]? =some (.lst (L.map iC))): ∀(M:List Pr)(a b:Ze), ∃a' b',jC (Ck 2 (kR (xR 3) (kR (xR 4) uK))) AM [(l,L.map iC)] (M.map iC) (RG ts q l a b) S=.ok (rgR (M.find? λp=>decide ((p.2,p.1)∈L)) (RG ts q l a' b')) S
 |[],a,b=>⟨a,b,rfl⟩
 |p::M,a,b=>by
  have hin:=AS false hS (Gq [(p.2,p.1)] (iC (p.2,p.1)) mF0).1 (Gq L);rw[iN0 xF0,dec_is (Tp (p:=(p.2,p.1)) (T:=L))]at hin;have hin:HQ false (.val (.tup [zH p.2,zH p.1])) (.val (.loc l)) S=.ok (.val (.bl (decide ((p.2,p.1)∈L)))) S:=hin;rw[map_cons];by_cases hp:(p.2,p.1)∈L
  .rw[dT0 hp]at hin;refine⟨a,b,?_⟩;rw[List.find?_cons_of_pos (by exact dT0 hp)];refine WB (ρ0:=RG ts q l (some (zH p.1)) (some (zH p.2))) (S0:=S) rfl ?_;unfold AM vB;simp? [tup2,hin,Wm]
  .rw[dF0 hp]at hin;obtain⟨a',b',e⟩:=Gt (q:=q) hS M (some (zH p.1)) (some (zH p.2));refine⟨a',b',?_⟩;rw[List.find?_cons_of_neg (by rw[dF0 hp];exact xF0)];rw[yE (ρ0:=RG ts q l (some (zH p.1)) (some (zH p.2))) (S0:=S) rfl (by unfold AM vB;simp? [tup2,hin,fT,iF];rfl) (pL hS)];exact e
def Na(Q:QOk ts as)(S:zC):xH 2 CA [.val (.tup (ts.map tbl)),.val (qM hs as)] S=.ok (rgE (Ue (PQ ts hs as))) S:=by
 obtain⟨L,hL⟩: ∃L,L=PQ ts hs as:=⟨_,rfl⟩
 rw[<-hL];have hsw:=RH (hs:=hs) Q S;rw[<-hL]at hsw;obtain⟨a',b',e⟩:=Gt (ts:=ts) (q:=qM hs as) (L:=L) (zP S (.lst (L.map iC))) L none none;have e1:tK [some (.tup (ts.map tbl)),some (qM hs as),none,none,none] S=.ok (.next (RG ts (qM hs as) S.length none none)) (S++[.lst (L.map iC)]):=by unfold tK;simp? [hsw]
 have e2:GO (RG ts (qM hs as) S.length none none) (S++[.lst (L.map iC)])=.ok (rgR (Ue L) (RG ts (qM hs as) S.length a' b')) (S++[.lst (L.map iC)]):=by unfold GO;simp? [vT (zP S (.lst (L.map iC)))];exact e
 have hF: ∀_:Unit,yU (GP [some (.tup (ts.map tbl)),some (qM hs as),none,none,none] S)=.ok (rgE (Ue L)) (S++[.lst (L.map iC)]):=λ_=>by
  unfold GP;rw[zD e1]
  cases hr:Ue L with
  |none=>
   rw[hr]at e2;rw[zD e2];rfl
  |some p=>
   rw[hr]at e2;rw[qG e2];rfl
 have hF:=hF ()
 cases hr:Ue L with
 |none=>
  rw[hr]at hF;exact GY (cB (T:=[.lst (L.map iC)]) rfl hF (BM _) (λl=>by simp))
 |some p=>
  rw[hr]at hF
  exact GY (kU (T:=[.lst (L.map iC)]) rfl hF (wI λd hd=>by
   rcases mC.mp hd with rfl|hd
   .exact cA _ _
   .rw[mS.mp hd];exact cA _ _))
end
def abc:List Nat:=[97,98,99,100,101,102,103,104,105,106,107,108,109,110,111,112,113,114,115,116,117,118,119,120,121,122]
def US(i:Int)(S:zC): ∃k,wN (.val (.str abc)) (.val (.int (i % 26))) S=.ok (.val (.str [k])) S:=by obtain⟨k,hk⟩:=vR (xs:=abc) (i:=i % 26) (eN0 _ (by decide)) (by have:=eL i (show(0:Int)<26 by decide);show i % 26<26;exact this);exact⟨k,ix_str (show abc.length<=sizeLine by rw[sizeLine_eq];decide) hk⟩
def Nb{x y:Db}(h:x.length+y.length<=1000)(S:zC):xU (.val (.str x)) (.val (.str y)) S=.ok (.val (.str (x++y))) S:=add_str (fits (by omega))
abbrev NI(c:Int)(m:Ze)(x:Db)(o:Ze):zK:=[some (.int c),some (.str abc),m,some (.str x),o]
theorem Gu(m:Ze)(S:zC): ∀(ds:Zd)(c:Int)(x:Db)(o:Ze),x.length+ds.length<=900-> ∃c' x' o',jC (xR 4) nF [] ds (NI c m x o) S=.ok (.next (NI c' m x' o')) S/\x'.length=x.length+ds.length
 |[],c,x,o,_=>⟨c,x,o,rfl,rfl⟩
 |d::ds,c,x,o,h=>by
  rw[lC0]at h;obtain⟨k,hk⟩:=US c S;have e1:bM (NI c m x (some d)) S=.ok (.next (NI c m (x++[k]) (some d))) S:=by unfold bM;simp? [mod_lit (show(0:Int)<26 by decide),hk,Nb (x:=x) (y:=[k]) (by rw[lS];omega)]
  have e2:bN (NI c m (x++[k]) (some d)) S=.ok (.next (NI (c / 26) m (x++[k]) (some d))) S:=by unfold bN;simp? [yH (b:=26) (by decide) (by decide)]
  obtain⟨c',x',o',e,hl⟩:=Gu m S ds (c / 26) (x++[k]) (some d) (by rw[lA,lS];omega);refine⟨c',x',o',?_,by rw[hl,lA,lS,lC0];omega⟩;rw[yE (ρ0:=NI c m x (some d)) rfl (by unfold nF;rw[zD e1];exact e2) (yX _)];exact e
theorem YB(c:Int)(S:zC): ∃x c',yB 1 kI [.val (.int c)] S=.ok (.val (.tup [.str x,.int c'])) S/\x.length<=8:=by
 have h0:=eN0 c (show(8:Int)≠0 by decide);have h1:=eL c (show(0:Int)<8 by decide);obtain⟨c',x',o',e,hl⟩:=Gu (some (.int (1+c % 8))) S ((List.range (1+c % 8).toNat).map λk=>.int (k:Nat)) (c / 8) [] none (by rw[lM0,length_range,length_nil];omega);rw[lM0,length_range,length_nil]at hl;refine⟨x',c',?_,by omega⟩
 refine pK rfl ?_ (dW (wI λd hd=>by
  rcases mC.mp hd with rfl|hd
  .exact BL _ _
  .rw[mS.mp hd];exact cA _ _)) (λl=>by simp)
 show yU (iV [some (.int c),none,none,none,none] S)=_;have e1:nG [some (.int c),none,none,none,none] S=.ok (.next [some (.int c),some (.str abc),none,none,none]) S:=by unfold nG;simp? [dP];rfl
 have e2:nH [some (.int c),some (.str abc),none,none,none] S=.ok (.next [some (.int c),some (.str abc),some (.int (1+c % 8)),none,none]) S:=by unfold nH;simp? [mod_lit (show(0:Int)<8 by decide)]
 have e3:nI [some (.int c),some (.str abc),some (.int (1+c % 8)),none,none] S=.ok (.next [some (.int (c / 8)),some (.str abc),some (.int (1+c % 8)),none,none]) S:=by unfold nI;simp? [yH (b:=8) (by decide) (by decide)]
 have e4:nK [some (.int (c / 8)),some (.str abc),some (.int (1+c % 8)),none,none] S=.ok (.next (NI (c / 8) (some (.int (1+c % 8))) [] none)) S:=by unfold nK;simp? [dP]
 have e5:nL (NI (c / 8) (some (.int (1+c % 8))) [] none) S=.ok (.next (NI c' (some (.int (1+c % 8))) x' o')) S:=by unfold nL;simp? [ME (show -(2 ^ 62)<=(1+c % 8)/\(1+c % 8)<2 ^ 62 by omega)];exact e
 unfold iV;rw[zD e1,zD e2,zD e3,zD e4,zD e5];unfold pQ;simp? [tup2];rfl
abbrev WD(c:Int)(l:Nat)(k w o:Ze):zK:=[some (.int c),some (.int 6),some (.loc l),k,w,o]
abbrev Ws(ws:Ch):Prop:= ∀x∈ws,x.length<=8
theorem UT{c:Int}{k:Ze}{ws:Ch}(S:zC): ∀(ds:Ch)(x:Db)(o:Ze),x.length<=8->(∀d∈ds,d.length=1)-> ∃x' o',jC (xR 5) xC [] (ds.map MV.str) (WD c S.length k (some (.str x)) o) (S++[.lst (ws.map MV.str)])=.ok (.next (WD c S.length k (some (.str x')) o')) (S++[.lst (ws.map MV.str)])/\x'.length<=8
 |[],x,o,h,_=>⟨x,o,rfl,h⟩
 |d::ds,x,o,h,hd=>by
  have hd1:=hd d mF0;have hin:=AS false (zP S (.lst (ws.map MV.str))) (lR x) NC;rw[iN0 xF0]at hin;by_cases hm:MV.str x∈ws.map MV.str
  .rw[dT0 hm]at hin;have ht:(x.take 7).length<=7:=by rw[lT];omega
   obtain⟨x',o',e,hl⟩:=UT (c:=c) (k:=k) (ws:=ws) S ds (x.take 7++d) (some (.str d)) (by rw[lA];omega) (λy hy=>hd y (mO _ hy));refine⟨x',o',?_,hl⟩;rw[map_cons,yE (ρ0:=WD c S.length k (some (.str x)) (some (.str d))) (ρ':=WD c S.length k (some (.str (x.take 7++d))) (some (.str d))) (S':=S++[.lst (ws.map MV.str)]) rfl (by unfold xC xV;simp? [hin,cut_str (fits (show x.length<=1000000 by omega)),aH x 7 (by decide),show(7:Int).toNat=7 from rfl,Nb (x:=x.take 7) (y:=d) (by omega)]) (yX _)];exact e
  .rw[dF0 hm]at hin;obtain⟨x',o',e,hl⟩:=UT (c:=c) (k:=k) (ws:=ws) S ds x (some (.str d)) h (λy hy=>hd y (mO _ hy));refine⟨x',o',?_,hl⟩;rw[map_cons,yE (ρ0:=WD c S.length k (some (.str x)) (some (.str d))) (ρ':=WD c S.length k (some (.str x)) (some (.str d))) (S':=S++[.lst (ws.map MV.str)]) rfl (by unfold xC xV;simp? [hin,fT,iF]) (yX _)];exact e
def abj:List Nat:=[97,98,99,100,101,102,103,104,105,106]
theorem Gv(S:zC): ∀(ds:Zd)(c:Int)(ws:Ch)(k w o:Ze),ws.length+ds.length<=100->Ws ws-> ∃c' ws' k' w' o',jC (xR 3) wX [] ds (WD c S.length k w o) (S++[.lst (ws.map MV.str)])=.ok (.next (WD c' S.length k' w' o')) (S++[.lst (ws'.map MV.str)])/\ws'.length=ws.length+ds.length/\Ws ws'
 |[],c,ws,k,w,o,_,h=>⟨c,ws,k,w,o,rfl,rfl,h⟩
 |d::ds,c,ws,k,w,o,hl,h=>by
  rw[lC0]at hl;obtain⟨x,c1,e1,hx⟩:=YB c (S++[.lst (ws.map MV.str)]);have f1:xW (WD c S.length (some d) w o) (S++[.lst (ws.map MV.str)])=.ok (.next (WD c1 S.length (some d) (some (.str x)) o)) (S++[.lst (ws.map MV.str)]):=by unfold xW;simp? [e1,oE];rfl
  obtain⟨x',o',e2,hx'⟩:=UT (c:=c1) (k:=some d) (ws:=ws) S (abj.map λc=>[c]) x o hx (by decide);have f2:xX (WD c1 S.length (some d) (some (.str x)) o) (S++[.lst (ws.map MV.str)])=.ok (.next (WD c1 S.length (some d) (some (.str x')) o')) (S++[.lst (ws.map MV.str)]):=by unfold xX;simp? [dP];exact e2
  have f3:xY (WD c1 S.length (some d) (some (.str x')) o') (S++[.lst (ws.map MV.str)])=.ok (.next (WD c1 S.length (some d) (some (.str x')) o')) (S++[.lst ((ws++[x']).map MV.str)]):=by unfold xY;simp? [gA (zP S (.lst (ws.map MV.str))),oB (zP S (.lst (ws.map MV.str))) (show(ws.map MV.str).length<1000000 by rw[lM0];omega),wQ];rw[map_append];rfl
  obtain⟨c',ws',k',w',o'',e,g1,g2⟩:=Gv S ds c1 (ws++[x']) (some d) (some (.str x')) o' (by rw[lA,lS];omega) (λy hy=>by
   rcases mem_append.mp hy with hy|hy
   .exact h y hy
   .rw[mS.mp hy];exact hx')
  refine⟨c',ws',k',w',o'',?_,by rw[g1,lA,lS,lC0];omega,g2⟩;rw[yE (ρ0:=WD c S.length (some d) w o) rfl (by unfold wX;rw[zD f1,zD f2];exact f3) (yX _)];exact e
def oF(ws:Ch)(n:Nat):uV n (ws.map MV.str):=wI λd hd=>by obtain⟨x,_,rfl⟩:=mM0.mp hd;exact BL _ _
theorem Ax(c:Int)(S:zC): ∃ws:List (List Nat),ws.length=6/\Ws ws/\yB 2 xQ [.val (.int c),.val (.int 6)] S=.ok (.new (ws.map MV.str)) S:=by
 obtain⟨c',ws,k,w,o,e,hl,hw⟩:=Gv S ((List.range 6).map λk=>.int (k:Nat)) c [] none none none (by decide) (λx hx=>by simp at hx);refine⟨ws,hl,hw,?_⟩;refine sO (T:=[.lst (ws.map MV.str)]) rfl ?_ (le_refl _) (zP _ _) (oF _ _);show yU (kS [some (.int c),some (.int 6),none,none,none,none] S)=_;have e1:wY [some (.int c),some (.int 6),none,none,none,none] S=.ok (.next (WD c S.length none none none)) (S++[.lst []]):=by unfold wY;simp? [dP]
 have e2:wZ (WD c S.length none none none) (S++[.lst []])=.ok (.next (WD c' S.length k w o)) (S++[.lst (ws.map MV.str)]):=by unfold wZ;simp? [Ti];exact e
 unfold kS;rw[zD e1,zD e2];unfold gX;simp? [dP];rfl
abbrev WW(c:Int)(g s:Ze)(l:Nat)(k w j z:Ze):zK:=[some (.int c),some (.int 6),some (.str abc),g,s,some (.loc l),k,w,j,z]
abbrev WV(c:Int)(a g s l:Ze):zK:=[some (.int c),some (.int 6),a,g,s,l,none,none,none,none]
def Nc(c g s:Int)(l k j:Nat)(hj:j<100)(x:Db)(hx:x.length<=100)(z:Ze)(S:zC): ∃a z',cJ (WW c (some (.int g)) (some (.int s)) l (some (zH k)) (some (.str x)) (some (zH j)) z) S=.ok (.next (WW c (some (.int g)) (some (.int s)) l (some (zH k)) (some (.str (x++[a]))) (some (zH j)) z')) S:=by
 obtain⟨v,hv⟩: ∃v:Int,v=c / (49+5 * (j:Int))+(j:Int) * (c / 49 % 3):=⟨_,rfl⟩
 have e1:nN (WW c (some (.int g)) (some (.int s)) l (some (zH k)) (some (.str x)) (some (zH j)) z) S=.ok (.next (WW c (some (.int g)) (some (.int s)) l (some (zH k)) (some (.str x)) (some (zH j)) (some (.int v)))) S:=by unfold nN;simp? [aS (a:=5) (show -(2 ^ 64)<(5:Int)/\(5:Int)<2 ^ 64 by decide),yH (b:=49+5 * (j:Int)) (by omega) (by omega),yH (b:=49) (by decide) (by decide),mod_lit (show(0:Int)<3 by decide),aS (a:=(j:Int)) (show -(2 ^ 64)<(j:Int)/\(j:Int)<2 ^ 64 by omega)];rw[hv]
 obtain⟨u,e2⟩: ∃u:Int,nO (WW c (some (.int g)) (some (.int s)) l (some (zH k)) (some (.str x)) (some (zH j)) (some (.int v))) S=.ok (.next (WW c (some (.int g)) (some (.int s)) l (some (zH k)) (some (.str x)) (some (zH j)) (some (.int u)))) S:=by
  unfold nO;by_cases h:(j:Int)=s
  .refine⟨v+3 * (k:Int),?_⟩;simp? [h,decide_true,aS (a:=3) (show -(2 ^ 64)<(3:Int)/\(3:Int)<2 ^ 64 by decide)]
  .refine⟨v,?_⟩;simp? [h,decide_false,fT,iF]
 obtain⟨a,ha⟩:=US u S;refine⟨a,some (.int u),?_⟩;unfold cJ;rw[zD e1,zD e2];unfold pS;simp? [mod_lit (show(0:Int)<26 by decide),ha,Nb (x:=x) (y:=[a]) (by rw[lS];omega)]
theorem Gw(c g s:Int)(l k:Nat)(S:zC): ∀(js:Db),(∀j∈js,j<100)-> ∀(x:Db)(j z:Ze),x.length+js.length<=100-> ∃x' j' z',jC (xR 8) cJ [] (js.map zH) (WW c (some (.int g)) (some (.int s)) l (some (zH k)) (some (.str x)) j z) S=.ok (.next (WW c (some (.int g)) (some (.int s)) l (some (zH k)) (some (.str x')) j' z')) S/\x'.length=x.length+js.length
 |[],_,x,j,z,_=>⟨x,j,z,rfl,rfl⟩
 |i::js,hj,x,j,z,h=>by rw[lC0]at h;obtain⟨a,z1,e1⟩:=Nc c g s l k i (hj i mF0) x (by omega) z S;obtain⟨x',j',z',e,hl⟩:=Gw c g s l k S js (λy hy=>hj y (mO _ hy)) (x++[a]) (some (zH i)) z1 (by rw[lA,lS];omega);refine⟨x',j',z',?_,by rw[hl,lA,lS,lC0];omega⟩;rw[map_cons,yE (ρ0:=WW c (some (.int g)) (some (.int s)) l (some (zH k)) (some (.str x)) (some (zH i)) z) rfl e1 (yX _)];exact e
theorem Gx(c g s:Int)(hg:1<=g/\g<=7)(S:zC): ∀(ks:Db)(ws:Ch)(k w j z:Ze),ws.length+ks.length<=100->(∀x∈ws,x.length<=7)-> ∃(ws':Ch)(k' w' j' z':Ze),jC (xR 6) iW [] (ks.map zH) (WW c (some (.int g)) (some (.int s)) S.length k w j z) (S++[.lst (ws.map MV.str)])=.ok (.next (WW c (some (.int g)) (some (.int s)) S.length k' w' j' z')) (S++[.lst (ws'.map MV.str)])/\ws'.length=ws.length+ks.length/\ ∀x∈ws',x.length<=7
 |[],ws,k,w,j,z,_,h=>⟨ws,k,w,j,z,rfl,rfl,h⟩
 |i::ks,ws,k,w,j,z,hl,h=>by
  rw[lC0]at hl;have f1:nP (WW c (some (.int g)) (some (.int s)) S.length (some (zH i)) w j z) (S++[.lst (ws.map MV.str)])=.ok (.next (WW c (some (.int g)) (some (.int s)) S.length (some (zH i)) (some (.str [])) j z)) (S++[.lst (ws.map MV.str)]):=by unfold nP;simp? [dP]
  obtain⟨x,j1,z1,e2,hx⟩:=Gw c g s S.length i (S++[.lst (ws.map MV.str)]) (List.range g.toNat) (λy hy=>by have:=mem_range.mp hy;omega) [] j z (by rw[length_nil,length_range];omega);rw[length_nil,length_range]at hx;have f2:nQ (WW c (some (.int g)) (some (.int s)) S.length (some (zH i)) (some (.str [])) j z) (S++[.lst (ws.map MV.str)])=.ok (.next (WW c (some (.int g)) (some (.int s)) S.length (some (zH i)) (some (.str x)) j1 z1)) (S++[.lst (ws.map MV.str)]):=by unfold nQ;simp? [ME (show -(2 ^ 62)<=g/\g<2 ^ 62 by omega)];exact e2
  have f3:nR (WW c (some (.int g)) (some (.int s)) S.length (some (zH i)) (some (.str x)) j1 z1) (S++[.lst (ws.map MV.str)])=.ok (.next (WW c (some (.int g)) (some (.int s)) S.length (some (zH i)) (some (.str x)) j1 z1)) (S++[.lst ((ws++[x]).map MV.str)]):=by unfold nR;simp? [gA (zP S (.lst (ws.map MV.str))),oB (zP S (.lst (ws.map MV.str))) (show(ws.map MV.str).length<1000000 by rw[lM0];omega),wQ];rw[map_append];rfl
  obtain⟨ws',k',w',j',z',e,g1,g2⟩:=Gx c g s hg S ks (ws++[x]) (some (zH i)) (some (.str x)) j1 z1 (by rw[lA,lS];omega) (λy hy=>by
   rcases mem_append.mp hy with hy|hy
   .exact h y hy
   .rw[mS.mp hy];omega)
  refine⟨ws',k',w',j',z',?_,by rw[g1,lA,lS,lC0];omega,g2⟩;rw[map_cons,yE (ρ0:=WW c (some (.int g)) (some (.int s)) S.length (some (zH i)) w j z) rfl (by unfold iW;rw[zD f1,zD f2];exact f3) (yX _)];exact e
theorem Gy(c:Int)(S:zC): ∃ws:List (List Nat),ws.length=6/\Ws ws/\yB 2 fW [.val (.int c),.val (.int 6)] S=.ok (.new (ws.map MV.str)) S:=by
 by_cases h2:c % 2=0
 .obtain⟨ws,hl,hw,e⟩:=Ax (c / 2) S;refine⟨ws,hl,hw,?_⟩;refine kU (T:=[]) rfl ?_ (oF _ _);rw[aN];show yU (cK (WV c none none none none) S)=_;have e1:jR (WV c none none none none) S=.ok (.ret (.new (ws.map MV.str))) S:=by unfold jR;simp? [mod_lit (show(0:Int)<2 by decide),h2,decide_true,yH (b:=2) (by decide) (by decide),e]
  unfold cK;rw[qG e1];rfl
 .obtain⟨d,hd⟩: ∃d:Int,d=c * 69621 % 2147483629 * 48271 % 2147483647:=⟨_,rfl⟩
  have h0:=eN0 d (show(7:Int)≠0 by decide);have h1:=eL d (show(0:Int)<7 by decide);obtain⟨g,hg⟩: ∃g:Int,g=1+d % 7:=⟨_,rfl⟩
  obtain⟨s,hs⟩: ∃s:Int,s=d / 7 % g:=⟨_,rfl⟩
  obtain⟨ws,k,w,j,z,e7,hl,hw⟩:=Gx d g s (by omega) S (List.range 6) [] none none none none (by decide) (λx hx=>by simp at hx);have hl:ws.length=6:=hl;have f1:jR (WV c none none none none) S=.ok (.next (WV c none none none none)) S:=by unfold jR;simp? [mod_lit (show(0:Int)<2 by decide),h2,decide_false,fT,iF]
  have f2:iX (WV c none none none none) S=.ok (.next (WV c (some (.str abc)) none none none)) S:=by unfold iX;simp? [dP];rfl
  have f3:iY (WV c (some (.str abc)) none none none) S=.ok (.next (WV d (some (.str abc)) none none none)) S:=by unfold iY;simp? [MC (show -(2 ^ 64)<(69621:Int)/\(69621:Int)<2 ^ 64 by decide),mod_lit (show(0:Int)<2147483629 by decide),MC (show -(2 ^ 64)<(48271:Int)/\(48271:Int)<2 ^ 64 by decide),mod_lit (show(0:Int)<2147483647 by decide)];rw[hd]
  have f4:iZ (WV d (some (.str abc)) none none none) S=.ok (.next (WV d (some (.str abc)) (some (.int g)) none none)) S:=by unfold iZ;simp? [mod_lit (show(0:Int)<7 by decide)];rw[hg]
  have f5:lB (WV d (some (.str abc)) (some (.int g)) none none) S=.ok (.next (WV d (some (.str abc)) (some (.int g)) (some (.int s)) none)) S:=by unfold lB;simp? [yH (b:=7) (by decide) (by decide),mod_lit (show(0:Int)<g by omega)];rw[hs]
  have f6:lE (WV d (some (.str abc)) (some (.int g)) (some (.int s)) none) S=.ok (.next (WW d (some (.int g)) (some (.int s)) S.length none none none none)) (S++[.lst []]):=by unfold lE;simp? [dP]
  have f7:lF (WW d (some (.int g)) (some (.int s)) S.length none none none none) (S++[.lst []])=.ok (.next (WW d (some (.int g)) (some (.int s)) S.length k w j z)) (S++[.lst (ws.map MV.str)]):=by unfold lF;simp? [Ti];exact e7
  obtain⟨ws',e8,hl',hw'⟩: ∃ws':List (List Nat),lG (WW d (some (.int g)) (some (.int s)) S.length k w j z) (S++[.lst (ws.map MV.str)])=.ok (.next (WW d (some (.int g)) (some (.int s)) S.length k w j z)) (S++[.lst (ws'.map MV.str)])/\ws'.length=6/\Ws ws':=by
   unfold lG;by_cases h4:d / 49 % 4=1
   .obtain⟨a,ha⟩:=US (d / 196) (S++[.lst (ws.map MV.str)]);have hx:ws[0]? =some (ws[0]'(by omega)):=gE _;have hx7:=hw _ (getElem_mem (show 0<ws.length by omega));have hix:wN (.val (.loc S.length)) (.val (.int 0)) (S++[.lst (ws.map MV.str)])=.ok (.val (.str ws[0])) (S++[.lst (ws.map MV.str)]):=eG (zP _ _) (lU (k:=0) (by rw[getElem?_map,hx];rfl));refine⟨ws.set 1 (ws[0]++[a]),?_,by rw[length_set];exact hl,λy hy=>?_⟩
    .simp? [yH (b:=49) (by decide) (by decide),mod_lit (show(0:Int)<4 by decide),h4,decide_true,hix,yH (b:=196) (by decide) (by decide),mod_lit (show(0:Int)<26 by decide),ha,Nb (x:=ws[0]) (y:=[a]) (by rw[lS];omega),oE,Fo (k:=1) (j:=1) (zP S (.lst (ws.map MV.str))) (by unfold SE;rw[lM0,hl];rfl),wQ];rw[List.map_set]
    .rcases List.mem_or_eq_of_mem_set hy with hy|rfl
     .have:=hw y hy;omega
     .rw[lA,lS];omega
   .refine⟨ws,?_,hl,λy hy=>by have:=hw y hy;omega⟩;simp? [yH (b:=49) (by decide) (by decide),mod_lit (show(0:Int)<4 by decide),h4,decide_false,fT,iF]
  refine⟨ws',hl',hw',?_⟩;refine sO (T:=[.lst (ws'.map MV.str)]) rfl ?_ (le_refl _) (zP _ _) (oF _ _);show yU (cK (WV c none none none none) S)=_;unfold cK;rw[zD f1,zD f2,zD f3,zD f4,zD f5,zD f6,zD f7,zD e8];unfold tL;simp? [dP];rfl
def oG{S:zC}{l:Nat}{ds:Zd}(hS:S[l]? =some (.lst ds))(a b:Yk):fQ (.val (.loc l)) a b S=.ok (.new (bU ds a b)) S:=by show(match hG S (.val (.loc l))with |some ds=>R.ok (Er.new (bU ds a b)) S|none=>.no)=_;rw[iH hS]
theorem YC(ds:Zd)(a b:Yk)(S:zC):fQ (.new ds) a b S=.ok (.new (bU ds a b)) S:=rfl
def YD(ns:Ya)(n:Nat):uV n (ns.map MV.int):=wI λd hd=>by obtain⟨x,_,rfl⟩:=mM0.mp hd;exact cA _ _
abbrev DW(c:Int)(m l:Nat)(r k n:Ze):zK:=[some (.int c),some (zH m),some (.loc l),r,k,n]
theorem YE(c:Int)(m:Nat)(n:Ze)(S:zC): ∀(ks:Zd)(ns:Ya)(r:Int)(k:Ze),ns.length+ks.length<=100-> ∃(ns':Ya)(r':Int)(k':Ze),jC (xR 4) cL [] ks (DW c m S.length (some (.int r)) k n) (S++[.lst (ns.map MV.int)])=.ok (.next (DW c m S.length (some (.int r')) k' n)) (S++[.lst (ns'.map MV.int)])/\ns'.length=ns.length+ks.length
 |[],ns,r,k,_=>⟨ns,r,k,rfl,rfl⟩
 |d::ks,ns,r,k,h=>by
  rw[lC0]at h;have f1:nS (DW c m S.length (some (.int r)) (some d) n) (S++[.lst (ns.map MV.int)])=.ok (.next (DW c m S.length (some (.int r)) (some d) n)) (S++[.lst ((ns++[r % 1000000]).map MV.int)]):=by unfold nS;simp? [gA (zP S (.lst (ns.map MV.int))),mod_lit (show(0:Int)<1000000 by decide),oB (zP S (.lst (ns.map MV.int))) (show(ns.map MV.int).length<1000000 by rw[lM0];omega),wQ];rw[map_append];rfl
  have f2:nU (DW c m S.length (some (.int r)) (some d) n) (S++[.lst ((ns++[r % 1000000]).map MV.int)])=.ok (.next (DW c m S.length (some (.int (r / 1000000))) (some d) n)) (S++[.lst ((ns++[r % 1000000]).map MV.int)]):=by unfold nU;simp? [yH (b:=1000000) (by decide) (by decide)]
  obtain⟨ns',r',k',e,hl⟩:=YE c m n S ks (ns++[r % 1000000]) (r / 1000000) (some d) (by rw[lA,lS];omega);refine⟨ns',r',k',?_,by rw[hl,lA,lS,lC0];omega⟩;rw[yE (ρ0:=DW c m S.length (some (.int r)) (some d) n) rfl (by unfold cL;rw[zD f1];exact f2) (yX _)];exact e
theorem YF(c:Int)(m:Nat)(r:Ze)(S:zC): ∀(ks:Db)(ns:Ya)(n:Int)(k:Ze),ns.length+ks.length<=100->0<=n/\n<4294967296-> ∃(ns':Ya)(n':Int)(k':Ze),jC (xR 4) lH [] (ks.map zH) (DW c m S.length r k (some (.int n))) (S++[.lst (ns.map MV.int)])=.ok (.next (DW c m S.length r k' (some (.int n')))) (S++[.lst (ns'.map MV.int)])/\ns'.length=ns.length+ks.length
 |[],ns,n,k,_,_=>⟨ns,n,k,rfl,rfl⟩
 |d::ks,ns,n,k,h,hn=>by
  rw[lC0]at h;obtain⟨v,hv⟩: ∃v:Int,v=(n * n+48271 * n+(d:Int)) % 2147483647:=⟨_,rfl⟩
  have hv0:0<=v/\v<4294967296:=by have h1:=eN0 (n * n+48271 * n+(d:Int)) (show(2147483647:Int)≠0 by decide);have h2:=eL (n * n+48271 * n+(d:Int)) (show(0:Int)<2147483647 by decide);omega
  have f1:nV (DW c m S.length r (some (zH d)) (some (.int n))) (S++[.lst (ns.map MV.int)])=.ok (.next (DW c m S.length r (some (zH d)) (some (.int v)))) (S++[.lst (ns.map MV.int)]):=by unfold nV;simp? [aS (a:=n) (show -(2 ^ 64)<n/\n<2 ^ 64 by omega),aS (a:=48271) (show -(2 ^ 64)<(48271:Int)/\(48271:Int)<2 ^ 64 by decide),mod_lit (show(0:Int)<2147483647 by decide)];rw[hv]
  obtain⟨u,hu⟩: ∃u:Int,u=v * 69621 % 2147483587 / 16:=⟨_,rfl⟩
  have f2:nW (DW c m S.length r (some (zH d)) (some (.int v))) (S++[.lst (ns.map MV.int)])=.ok (.next (DW c m S.length r (some (zH d)) (some (.int v)))) (S++[.lst ((ns++[u]).map MV.int)]):=by unfold nW;simp? [gA (zP S (.lst (ns.map MV.int))),MC (show -(2 ^ 64)<(69621:Int)/\(69621:Int)<2 ^ 64 by decide),mod_lit (show(0:Int)<2147483587 by decide),yH (b:=16) (by decide) (by decide),oB (zP S (.lst (ns.map MV.int))) (show(ns.map MV.int).length<1000000 by rw[lM0];omega),wQ];rw[map_append,hu];rfl
  obtain⟨ns',n',k',e,hl⟩:=YF c m r S ks (ns++[u]) v (some (zH d)) (by rw[lA,lS];omega) hv0;refine⟨ns',n',k',?_,by rw[hl,lA,lS,lC0];omega⟩;rw[map_cons,yE (ρ0:=DW c m S.length r (some (zH d)) (some (.int n))) rfl (by unfold lH;rw[zD f1];exact f2) (yX _)];exact e
theorem GZ(c:Int){m:Nat}(hm:m<=10)(S:zC): ∃ns:List Int,ns.length=m/\yB 2 yO [.val (.int c),.val (zH m)] S=.ok (.new (ns.map MV.int)) S:=by
 have f1:lK [some (.int c),some (zH m),none,none,none,none] S=.ok (.next (DW c m S.length none none none)) (S++[.lst []]):=by unfold lK;simp? [dP]
 by_cases h2:c % 2=0
 .obtain⟨ns,r',k',e,hl⟩:=YE c m none S ((List.range m).map λk=>.int (k:Nat)) [] (c / 2) none (by rw[lM0,length_range,length_nil];omega);rw[lM0,length_range,length_nil,zero_add]at hl;refine⟨ns,hl,?_⟩;refine sO (T:=[.lst (ns.map MV.int)]) rfl ?_ (le_refl _) (zP _ _) (YD _ _);show yU (cN [some (.int c),some (zH m),none,none,none,none] S)=_;have e1:(CJ (dJ jD (vJ 0) (kJ (.int 2))) 3) (DW c m S.length none none none) (S++[.lst []])=.ok (.next (DW c m S.length (some (.int (c / 2))) none none)) (S++[.lst []]):=by simp? [yH (b:=2) (by decide) (by decide)]
  have e2:(FJ (bJ (yJ (vJ 1) wJ) kA) (xR 4) (cL)) (DW c m S.length (some (.int (c / 2))) none none) (S++[.lst []])=.ok (.next (DW c m S.length (some (.int r')) k' none)) (S++[.lst (ns.map MV.int)]):=by simp? [EA (n:=m) (by omega)];exact e
  have f2:jS (DW c m S.length none none none) (S++[.lst []])=.ok (.ret (.val (.loc S.length))) (S++[.lst (ns.map MV.int)]):=by unfold jS;simp? [mod_lit (show(0:Int)<2 by decide),h2,decide_true];rw[zD e1,zD e2];rfl
  unfold cN;rw[zD f1,qG f2];rfl
 .have h3:=eN0 c (show(2147483629:Int)≠0 by decide);have h4:=eL c (show(0:Int)<2147483629 by decide);obtain⟨ns,n',k',e,hl⟩:=YF c m none S (List.range m) [] (c % 2147483629+1) none (by rw[length_range,length_nil];omega) (by omega);rw[length_range,length_nil,zero_add]at hl;refine⟨ns,hl,?_⟩;refine sO (T:=[.lst (ns.map MV.int)]) rfl ?_ (le_refl _) (zP _ _) (YD _ _);show yU (cN [some (.int c),some (zH m),none,none,none,none] S)=_;have f2:jS (DW c m S.length none none none) (S++[.lst []])=.ok (.next (DW c m S.length none none none)) (S++[.lst []]):=by unfold jS;simp? [mod_lit (show(0:Int)<2 by decide),h2,decide_false,fT,iF]
  have f3:lL (DW c m S.length none none none) (S++[.lst []])=.ok (.next (DW c m S.length none none (some (.int (c % 2147483629+1))))) (S++[.lst []]):=by unfold lL;simp? [mod_lit (show(0:Int)<2147483629 by decide)]
  have f4:lN (DW c m S.length none none (some (.int (c % 2147483629+1)))) (S++[.lst []])=.ok (.next (DW c m S.length none k' (some (.int n')))) (S++[.lst (ns.map MV.int)]):=by unfold lN;simp? [EA (n:=m) (by omega)];exact e
  unfold cN;rw[zD f1,zD f2,zD f3,zD f4];rfl
abbrev TB(c:Int)(l:Nat)(n w:Ze):zK:=[some (.int c),some (.loc l),some (.loc (l+1)),n,w]
theorem Gz(c:Int)(S:zC)(o:MO): ∀(ns:Ya)(ts:Tk)(n w:Ze),ts.length+ns.length<=100->(∀p∈ts,1<=p.1/\p.1<=4/\0<=p.2/\p.2<=p.1)-> ∃(ts':Tk)(n' w':Ze),jC (xR 3) eQ [] (ns.map MV.int) (TB c S.length n w) (S++[o]++[.lst (ts.map tbl)])=.ok (.next (TB c S.length n' w')) (S++[o]++[.lst (ts'.map tbl)])/\ts'.length=ts.length+ns.length/\ ∀p∈ts',1<=p.1/\p.1<=4/\0<=p.2/\p.2<=p.1
 |[],ts,n,w,_,h=>⟨ts,n,w,rfl,rfl,h⟩
 |d::ns,ts,n,w,hl,h=>by
  rw[lC0]at hl;obtain⟨v,hv⟩: ∃v:Int,v=1+d % 3+(if decide (d / 3 % 5=0)=true then 1 else 0):=⟨_,rfl⟩
  have hv1:1<=v/\v<=4:=by have h1:=eN0 d (show(3:Int)≠0 by decide);have h2:=eL d (show(0:Int)<3 by decide);rw[hv];split<;>omega
  have f1:cO (TB c S.length (some (.int d)) w) (S++[o]++[.lst (ts.map tbl)])=.ok (.next (TB c S.length (some (.int d)) (some (.int v)))) (S++[o]++[.lst (ts.map tbl)]):=by unfold cO;simp? [mod_lit (show(0:Int)<3 by decide),yH (b:=3) (by decide) (by decide),mod_lit (show(0:Int)<5 by decide),show∀b S,Ke [.val (.bl b)] S=.ok (.val (.int (if b then 1 else 0))) S from λ_ _=>rfl];rw[hv]
  obtain⟨z,hz⟩:=vR (xs:=([0,1,1,1,2,4]:Ya)) (i:=d / 15 % 6) (eN0 _ (by decide)) (by have:=eL (d / 15) (show(0:Int)<6 by decide);show d / 15 % 6<6;exact this);have hz0:0<=z:=vS (P:=λz:Int=>0<=z) (by decide) hz;have hix: ∀S:zC,wN (.new [.int 0,.int 1,.int 1,.int 1,.int 2,.int 4]) (.val (.int (d / 15 % 6))) S=.ok (.val (.int z)) S:=λS=>Dr (by have:=EN MV.int [0,1,1,1,2,4] (d / 15 % 6);rw[hz]at this;exact this);have hS1:S.length+1=(S++[o]).length:=by rw[lA,lS]
  obtain⟨y,hy⟩: ∃y:Int,y=if z<v then z else v:=⟨_,rfl⟩
  have hat:(S++[o]++[.lst (ts.map tbl)])[S.length+1]? =some (.lst (ts.map tbl)):=by rw[hS1];exact zP _ _
  have f2:cP (TB c S.length (some (.int d)) (some (.int v))) (S++[o]++[.lst (ts.map tbl)])=.ok (.next (TB c S.length (some (.int d)) (some (.int v)))) (S++[o]++[.lst ((ts++[(v,y)]).map tbl)]):=by unfold cP;simp? [gA hat,yH (b:=15) (by decide) (by decide),mod_lit (show(0:Int)<6 by decide),hix,show∀i j S,UE [.val (.int i),.val (.int j)] S=.ok (.val (.int (if j<i then j else i))) S from λ_ _ _=>rfl, <-hy,tup2,oB hat (show(ts.map tbl).length<1000000 by rw[lM0];omega)];rw[hS1,wQ,map_append];rfl
  obtain⟨ts',n',w',e,g1,g2⟩:=Gz c S o ns (ts++[(v,y)]) (some (.int d)) (some (.int v)) (by rw[lA,lS];omega) (λp hp=>by
   rcases mem_append.mp hp with hp|hp
   .exact h p hp
   .rw[mS.mp hp];refine⟨hv1.1,hv1.2,?_⟩;show 0<=y/\y<=v;rw[hy];split<;>omega)
  refine⟨ts',n',w',?_,by rw[g1,lA,lS,lC0];omega,g2⟩;rw[map_cons,yE (ρ0:=TB c S.length (some (.int d)) w) rfl (by unfold eQ;rw[zD f1];exact f2) (yX _)];exact e
def Ts(ts:Tk)(n:Nat):lo n (.tup (ts.map tbl)):=dW (wI λd hd=>by
 obtain⟨p,_,rfl⟩:=mM0.mp hd
 exact dW (wI λd hd=>by
  rcases mC.mp hd with rfl|hd
  .exact cA _ _
  .rw[mS.mp hd];exact cA _ _))
theorem Ay(c:Int)(S:zC): ∃ts:List (Int×Int),(1<=ts.length/\ts.length<=4)/\(∀p∈ts,1<=p.1/\p.1<=4/\0<=p.2/\p.2<=p.1)/\yB 1 aP [.val (.int c)] S=.ok (.val (.tup (ts.map tbl))) S:=by
 obtain⟨ns,hn,e1⟩:=GZ c (show 5<=10 by decide) S;obtain⟨v,hv⟩: ∃v,ns[4]? =some v:=⟨_,gE (show 4<ns.length by omega)⟩
 have h1:=eN0 v (show(4:Int)≠0 by decide);have h2:=eL v (show(0:Int)<4 by decide);obtain⟨ts,n',w',e,hl,hp⟩:=Gz c S (.lst (ns.map MV.int)) (ns.take (1+v % 4).toNat) [] none none (by rw[lT,length_nil];omega) (λp hp=>by simp at hp);rw[lT,length_nil]at hl;refine⟨ts,by omega,hp,?_⟩;have hS1:S.length+1=(S++[MO.lst (ns.map MV.int)]).length:=by rw[lA,lS]
 refine cB (T:=[.lst (ns.map MV.int)]++[.lst (ts.map tbl)]) rfl ?_ (Ts _ _) (λl=>by simp);show yU (oV [some (.int c),none,none,none,none] S)=_;have f1:eR [some (.int c),none,none,none,none] S=.ok (.next [some (.int c),some (.loc S.length),none,none,none]) (S++[.lst (ns.map MV.int)]):=by unfold eR;simp? [show∀S,yB 2 yO [.val (.int c),.val (.int 5)] S=yB 2 yO [.val (.int c),.val (zH 5)] S from λ_=>rfl,e1]
 have f2:eS [some (.int c),some (.loc S.length),none,none,none] (S++[.lst (ns.map MV.int)])=.ok (.next (TB c S.length none none)) (S++[.lst (ns.map MV.int)]++[.lst []]):=by unfold eS;simp? [dP];rw[<-hS1]
 have hat:(S++[.lst (ns.map MV.int)]++[.lst []])[S.length]? =some (.lst (ns.map MV.int)):=by rw[getElem?_append_left (by rw[lA,lS];omega)];exact zP _ _
 have hix:wN (.val (.loc S.length)) (.val (.int 4)) (S++[.lst (ns.map MV.int)]++[.lst []])=.ok (.val (.int v)) (S++[.lst (ns.map MV.int)]++[.lst []]):=eG hat (lU (k:=4) (by rw[getElem?_map,hv];rfl));have f3:eT (TB c S.length none none) (S++[.lst (ns.map MV.int)]++[.lst []])=.ok (.next (TB c S.length n' w')) (S++[.lst (ns.map MV.int)]++[.lst (ts.map tbl)]):=by unfold eT;simp? [hix,mod_lit (show(0:Int)<4 by decide),oG hat,aH _ (1+v % 4) (by omega),tR];rw[<-map_take];exact e
 have hat2:(S++[.lst (ns.map MV.int)]++[.lst (ts.map tbl)])[S.length+1]? =some (.lst (ts.map tbl)):=by rw[hS1];exact zP _ _
 unfold oV;rw[zD f1,zD f2,zD f3];unfold rY;simp? [CL hat2];rw[aA];rfl
abbrev VS(v:MV):Prop:=(∃i,v=.int i)\/ ∃x,v=.str x
def YG{v:MV}(h:VS v):pd v=true/\RU v<40:=by
 rcases h with⟨i,rfl⟩|⟨x,rfl⟩
 .exact⟨CO i,by rw[AQ];decide⟩
 .exact⟨lR x,by rw[rC];decide⟩
def Ox{vs:Zd}(h: ∀v∈vs,VS v)(n:Nat):uV n vs:=wI λd hd=>KU (YG (h d hd)).1
abbrev VV(c:Int)(l:Nat)(r m f k v n p t:Ze):zK:=[some (.int c),some (.loc l),r,m,f,k,v,n,p,t]
abbrev VW(c:Int)(lw:Nat)(r m:Ze)(lf:Nat)(k v:Ze):zK:=[some (.int c),some (.loc lw),r,m,some (.loc lf),k,v,none,none,none]
def Nd(c:Int)(lw:Nat)(m:Ze)(S:zC){vs:Zd}(hl:vs.length<=100)(h: ∀v∈vs,VS v)(r:Int)(k v:Ze): ∃(vs':Zd)(r':Int)(v':Ze),wL (VW c lw (some (.int r)) m S.length k v) (S++[.lst vs])=.ok (.next (VW c lw (some (.int r')) m S.length k v')) (S++[.lst vs'])/\vs'≠[]/\vs'.length<=vs.length+1/\ ∀v∈vs',VS v:=by
 obtain⟨x,r1,e1,_⟩:=YB (r / 2) (S++[.lst vs]);have f1:cQ (VW c lw (some (.int r)) m S.length k v) (S++[.lst vs])=.ok (.next (VW c lw (some (.int r1)) m S.length k (some (.str x)))) (S++[.lst vs]):=by unfold cQ;simp? [yH (b:=2) (by decide) (by decide),e1,oE];rfl
 obtain⟨r2,u,f2,hu⟩: ∃(r2:Int)(u:MV),jK (VW c lw (some (.int r1)) m S.length k (some (.str x))) (S++[.lst vs])=.ok (.next (VW c lw (some (.int r2)) m S.length k (some u))) (S++[.lst vs])/\VS u:=by
  by_cases h2:r1 % 2=1
  .have hp: ∀S:zC,DT (.val (.int 10)) (.val (.int 30)) S=.ok (.val (.int (10 ^ 30))) S:=λS=>WA (by unfold ZP;decide+kernel) S;have hd:TD 0 (2 * 10 ^ 30 - 1):=by unfold TD;decide+kernel
   refine⟨r1 / (2 * 10 ^ 30 - 1),.int (r1 / 2 % (2 * 10 ^ 30 - 1) - 10 ^ 30+1),?_,.inl ⟨_,rfl⟩⟩;have g1:(CJ (dJ xU (dJ DS (dJ wW (dJ jD (vJ 2) (kJ (.int 2))) (dJ DS (dJ sK (kJ (.int 2)) (dJ DT (kJ (.int 10)) (kJ (.int 30)))) (kJ (.int 1)))) (dJ DT (kJ (.int 10)) (kJ (.int 30)))) (kJ (.int 1))) 6) (VW c lw (some (.int r1)) m S.length k (some (.str x))) (S++[.lst vs])=.ok (.next (VW c lw (some (.int r1)) m S.length k (some (.int (r1 / 2 % (2 * 10 ^ 30 - 1) - 10 ^ 30+1))))) (S++[.lst vs]):=by simp? [yH (b:=2) (by decide) (by decide),hp,aS (a:=2) (show -(2 ^ 64)<(2:Int)/\(2:Int)<2 ^ 64 by decide),mod_lit (b:=2 * 10 ^ 30 - 1) (by decide)]
   have g2:(CJ (dJ jD (vJ 2) (dJ DS (dJ sK (kJ (.int 2)) (dJ DT (kJ (.int 10)) (kJ (.int 30)))) (kJ (.int 1)))) 2) (VW c lw (some (.int r1)) m S.length k (some (.int (r1 / 2 % (2 * 10 ^ 30 - 1) - 10 ^ 30+1)))) (S++[.lst vs])=.ok (.next (VW c lw (some (.int (r1 / (2 * 10 ^ 30 - 1)))) m S.length k (some (.int (r1 / 2 % (2 * 10 ^ 30 - 1) - 10 ^ 30+1))))) (S++[.lst vs]):=by simp? [hp,aS (a:=2) (show -(2 ^ 64)<(2:Int)/\(2:Int)<2 ^ 64 by decide),Ma hd]
   unfold jK;simp? [mod_lit (show(0:Int)<2 by decide),h2,decide_true];rw[zD g1];exact g2
  .refine⟨r1,.str x,?_,.inr ⟨x,rfl⟩⟩;unfold jK;simp? [mod_lit (show(0:Int)<2 by decide),h2,decide_false,fT,iF]
 have hin:=AS true (zP S (.lst vs)) (YG hu).1 λy hy=>YG (h y hy);rw[iP rfl]at hin;by_cases hm:u∈vs
 .rw[dT0 hm]at hin;refine⟨vs,r2,some u,?_,λz=>by rw[z]at hm;simp at hm,by omega,h⟩;unfold wL;rw[zD f1,zD f2];unfold cR;simp? [hin,Bool.not_true,fT,iF]
 .rw[dF0 hm]at hin;refine⟨vs++[u],r2,some u,?_,by simp,by rw[lA,lS];exact le_refl _,λy hy=>?_⟩
  .unfold wL;rw[zD f1,zD f2];unfold cR;simp? [hin,Bool.not_false,gA (zP S (.lst vs)),oB (zP S (.lst vs)) (show vs.length<1000000 by omega),wQ]
  .rcases mem_append.mp hy with hy|hy
   .exact h y hy
   .rw[mS.mp hy];exact hu
theorem Ha(c:Int)(lw:Nat)(m:Ze)(S:zC): ∀(ds:Zd)(vs:Zd)(r:Int)(k v:Ze),vs.length+ds.length<=100->(vs≠[]\/ds≠[])->(∀v∈vs,VS v)-> ∃(vs':Zd)(r':Int)(k' v':Ze),jC (xR 5) wL [] ds (VW c lw (some (.int r)) m S.length k v) (S++[.lst vs])=.ok (.next (VW c lw (some (.int r')) m S.length k' v')) (S++[.lst vs'])/\vs'≠[]/\vs'.length<=vs.length+ds.length/\ ∀v∈vs',VS v
 |[],vs,r,k,v,_,hne,h=>⟨vs,r,k,v,rfl,hne.resolve_right λz=>z rfl,le_refl _,h⟩
 |d::ds,vs,r,k,v,hl,_,h=>by rw[lC0]at hl;obtain⟨vs1,r1,v1,e1,g1,g2,g3⟩:=Nd c lw m S (by omega) h r (some d) v;obtain⟨vs',r',k',v',e,h1,h2,h3⟩:=Ha c lw m S ds vs1 r1 (some d) v1 (by omega) (.inl g1) g3;refine⟨vs',r',k',v',?_,h1,by rw[lC0];omega,h3⟩;rw[yE (ρ0:=VW c lw (some (.int r)) m S.length (some d) v) rfl e1 (yX _)];exact e
theorem Az(c:Int){ws:Ch}(hw:ws.length=2)(S:zC): ∃vs:List MV,vs≠[]/\vs.length<=100/\(∀v∈vs,VS v)/\yB 2 aQ [.val (.int c),.new (ws.map MV.str)] S=.ok (.new vs) S:=by
 obtain⟨S1,hS1⟩: ∃S1:zC,S1=S++[.lst (ws.map MV.str)]:=⟨_,rfl⟩
 have hwat:S1[S.length]? =some (.lst (ws.map MV.str)):=by rw[hS1];exact zP _ _
 by_cases h2:c % 2=0
 .obtain⟨r,hr⟩: ∃r,r=c / 2:=⟨_,rfl⟩
  have h3:=eN0 r (show(3:Int)≠0 by decide);have h4:=eL r (show(0:Int)<3 by decide);obtain⟨vs,r',k',v',e,g1,g2,g3⟩:=Ha c S.length (some (.int (2+r % 3))) S1 ((List.range (2+r % 3).toNat).map λk=>.int (k:Nat)) [] (r / 3) none none (by rw[lM0,length_range,length_nil];omega) (.inr (by intro z;have:=congrArg List.length z;rw[lM0,length_range,length_nil]at this;omega)) (λv hv=>by simp at hv);rw[lM0,length_range,length_nil]at g2;have hvat:(S1++[.lst vs])[S1.length]? =some (.lst vs):=zP _ _;have hwat2:(S1++[.lst vs])[S.length]? =some (.lst (ws.map MV.str)):=by rw[getElem?_append_left (gS.mp hwat).1];exact hwat
  have hc:xN (xR 0) jL cS [none,some (.loc S1.length)] [(S.length,ws.map MV.str)] (ws.map MV.str) (S1++[.lst vs])=.ok ((ws.filter λx=>!decide (MV.str x∈vs)).map MV.str) (S1++[.lst vs]):=
   lV (pL hwat2) λx _=>⟨[some (.str x),some (.loc S1.length)],rfl,by unfold jL;simp? [AS true hvat (lR x) λy hy=>YG (g3 y hy)],rfl⟩
  obtain⟨t,ht⟩: ∃t:Int,t=2 - (if(vs.length:Int)<2 then(vs.length:Int)else 2):=⟨_,rfl⟩
  obtain⟨ys,hys⟩: ∃ys,ys=bU ((ws.filter λx=>!decide (MV.str x∈vs)).map MV.str) none (some t):=⟨_,rfl⟩
  have hym: ∀y∈ys,VS y:=λy hy=>by rw[hys]at hy;obtain⟨x,_,rfl⟩:=mM0.mp (Dt hy);exact .inr ⟨x,rfl⟩
  have hyl:ys.length<=2:=by rw[hys];refine le_trans (Ds _ _ _) ?_;rw[lM0];exact le_trans (length_filter_le _ _) (by omega)
  have hall: ∀v∈vs++ys,VS v:=λv hv=>(mem_append.mp hv).elim (g3 v) (hym v);refine⟨vs++ys,by simp[g1],by rw[lA];omega,hall,?_⟩;refine QO (T:=[.lst (ws.map MV.str)]++[.lst vs]) rfl (show zS [.val (.int c),.new (ws.map MV.str)] S=([.int c,.loc S.length],S++[.lst (ws.map MV.str)])from rfl) ?_ (.inl rfl) (Ox hall _);rw[<-hS1];show yU (gY (VV c S.length none none none none none none none none) S1)=_;have q1:(CJ (dJ jD (vJ 0) (kJ (.int 2))) 2) (VV c S.length none none none none none none none none) S1=.ok (.next (VV c S.length (some (.int r)) none none none none none none none)) S1:=by simp? [yH (b:=2) (by decide) (by decide)];rw[hr]
  have q2:(CJ (dJ xU (kJ (.int 2)) (dJ wW (vJ 2) (kJ (.int 3)))) 3) (VV c S.length (some (.int r)) none none none none none none none) S1=.ok (.next (VV c S.length (some (.int r)) (some (.int (2+r % 3))) none none none none none none)) S1:=by simp? [mod_lit (show(0:Int)<3 by decide)]
  have q3:(CJ (dJ jD (vJ 2) (kJ (.int 3))) 2) (VV c S.length (some (.int r)) (some (.int (2+r % 3))) none none none none none none) S1=.ok (.next (VV c S.length (some (.int (r / 3))) (some (.int (2+r % 3))) none none none none none none)) S1:=by simp? [yH (b:=3) (by decide) (by decide)]
  have q4:(CJ (bJ wJ bX) 4) (VV c S.length (some (.int (r / 3))) (some (.int (2+r % 3))) none none none none none none) S1=.ok (.next (VW c S.length (some (.int (r / 3))) (some (.int (2+r % 3))) S1.length none none)) (S1++[.lst []]):=by simp? [dP]
  have q5:(FJ (bJ (yJ (vJ 3) wJ) kA) (xR 5) (wL)) (VW c S.length (some (.int (r / 3))) (some (.int (2+r % 3))) S1.length none none) (S1++[.lst []])=.ok (.next (VW c S.length (some (.int r')) (some (.int (2+r % 3))) S1.length k' v')) (S1++[.lst vs]):=by simp? [ME (show -(2 ^ 62)<=(2+r % 3)/\(2+r % 3)<2 ^ 62 by omega)];exact e
  have hb: ∀a b c d e f g h i j:Option MV,BF 1 [4] [a,b,c,d,e,f,g,h,i,j]=[none,e]:=λ_ _ _ _ _ _ _ _ _ _=>rfl;have hwl:(ws.map MV.str).length<1000000:=by rw[lM0];omega
  have q6:(AJ (dJ xU (vJ 4) (tJ fQ (pJ (bJ (vJ 1) HW) (xR 0) (jL) (cS) 1 [4]) mJ (bJ (dJ DS (kJ (.int 2)) (bJ (yJ (kJ (.int 2)) (yJ (bJ (yJ (vJ 4) wJ) mG) wJ)) UE)) JN)))) (VW c S.length (some (.int r')) (some (.int (2+r % 3))) S1.length k' v') (S1++[.lst vs])=.ok (.ret (.new (vs++ys))) (S1++[.lst vs]):=by simp? [vT hwat2,hwl,hb,hc,mU hvat,show∀i j S,UE [.val (.int i),.val (.int j)] S=.ok (.val (.int (if j<i then j else i))) S from λ_ _ _=>rfl, <-ht,YC, <-hys,MA (MD hvat) (show VO (S1++[.lst vs]) (.new ys)=some ys from rfl) (fits (show vs.length+ys.length<=1000000 by omega))]
  have f1:kX (VV c S.length none none none none none none none none) S1=.ok (.ret (.new (vs++ys))) (S1++[.lst vs]):=by unfold kX;simp? [mod_lit (show(0:Int)<2 by decide),h2,decide_true];rw[zD q1,zD q2,zD q3,zD q4,zD q5];exact q6
  unfold gY;rw[qG f1,hS1,aA];rfl
 .obtain⟨x0,x1,rfl⟩: ∃x0 x1,ws=[x0,x1]:=by
   match ws,hw with
   |[a,b],_=>exact⟨a,b,rfl⟩
  obtain⟨n,hn⟩: ∃n:Int,n=c % (2 * 10 ^ 30 - 2) - 10 ^ 30+1:=⟨_,rfl⟩
  obtain⟨pl,hpl⟩: ∃pl:List MV,pl=[.int n,.int (n+1),.str x0,.str x1]:=⟨_,rfl⟩
  obtain⟨tn,htn⟩: ∃tn:Int,tn=c / 5 % 4:=⟨_,rfl⟩
  have h3:=eN0 (c / 5) (show(4:Int)≠0 by decide);have h4:=eL (c / 5) (show(0:Int)<4 by decide);have h5:=eN0 c (show(3:Int)≠0 by decide);have h6:=eL c (show(0:Int)<3 by decide)
  have hpm: ∀v∈pl,VS v:=λv hv=>by
   rw[hpl]at hv;simp only[mC,nM,or_false]at hv;rcases hv with rfl|rfl|rfl|rfl
   .exact .inl ⟨_,rfl⟩
   .exact .inl ⟨_,rfl⟩
   .exact .inr ⟨_,rfl⟩
   .exact .inr ⟨_,rfl⟩
  have hpl4:pl.length=4:=by rw[hpl];rfl
  obtain⟨ys,hys⟩: ∃ys:List MV,ys=(pl.drop tn.toNat++pl.take tn.toNat).take (2+c % 3).toNat:=⟨_,rfl⟩
  have hyl:ys.length=(2+c % 3).toNat:=by rw[hys,lT,lA,length_drop,lT,hpl4];omega
  have hym: ∀v∈ys,VS v:=λv hv=>by
   rw[hys]at hv;rcases mem_append.mp (mem_of_mem_take hv)with hv|hv
   .exact hpm v (List.mem_of_mem_drop hv)
   .exact hpm v (mem_of_mem_take hv)
  refine⟨ys,λz=>?_,by omega,hym,?_⟩
  .rw[z,length_nil]at hyl;omega
  refine QO (T:=[.lst ([x0,x1].map MV.str)]++[.lst pl]) rfl (show zS [.val (.int c),.new ([x0,x1].map MV.str)] S=([.int c,.loc S.length],S++[.lst ([x0,x1].map MV.str)])from rfl) ?_ (.inl rfl) (Ox hym _);rw[<-hS1];show yU (gY (VV c S.length none none none none none none none none) S1)=_;have hp: ∀S:zC,DT (.val (.int 10)) (.val (.int 30)) S=.ok (.val (.int (10 ^ 30))) S:=λS=>WA (by unfold ZP;decide+kernel) S;have f1:kX (VV c S.length none none none none none none none none) S1=.ok (.next (VV c S.length none none none none none none none none)) S1:=by unfold kX;simp? [mod_lit (show(0:Int)<2 by decide),h2,decide_false,fT,iF]
  have f2:eU (VV c S.length none none none none none none none none) S1=.ok (.next (VV c S.length none none none none none (some (.int n)) none none)) S1:=by unfold eU;simp? [hp,aS (a:=2) (show -(2 ^ 64)<(2:Int)/\(2:Int)<2 ^ 64 by decide),mod_lit (b:=2 * 10 ^ 30 - 2) (by decide)];rw[hn]
  have i0:wN (.val (.loc S.length)) (.val (.int 0)) S1=.ok (.val (.str x0)) S1:=eG hwat (lU (k:=0) rfl);have i1:wN (.val (.loc S.length)) (.val (.int 1)) S1=.ok (.val (.str x1)) S1:=eG hwat (lU (k:=1) rfl);have f3:eV (VV c S.length none none none none none (some (.int n)) none none) S1=.ok (.next (VV c S.length none none none none none (some (.int n)) (some (.loc S1.length)) none)) (S1++[.lst pl]):=by unfold eV;simp? [i0,i1,show∀(a b c d:MV)(S:zC),bX [.val a,.val b,.val c,.val d] S=.ok (.new [a,b,c,d]) S from λa b c d S=>qH (by simp)];rw[hpl]
  have f4:eW (VV c S.length none none none none none (some (.int n)) (some (.loc S1.length)) none) (S1++[.lst pl])=.ok (.next (VV c S.length none none none none none (some (.int n)) (some (.loc S1.length)) (some (.int tn)))) (S1++[.lst pl]):=by unfold eW;simp? [yH (b:=5) (by decide) (by decide),mod_lit (show(0:Int)<4 by decide)];rw[htn]
  have hat:(S1++[.lst pl])[S1.length]? =some (.lst pl):=zP _ _;have ht1:(tn.toNat:Int)=tn:=by omega
  have hcd:=CQ pl tn.toNat;rw[ht1]at hcd;have f5:eX (VV c S.length none none none none none (some (.int n)) (some (.loc S1.length)) (some (.int tn))) (S1++[.lst pl])=.ok (.ret (.new ys)) (S1++[.lst pl]):=by unfold eX;simp? [oG hat,hcd,aH pl tn (by omega),MA (show VO (S1++[.lst pl]) (.new (pl.drop tn.toNat))=some (pl.drop tn.toNat)from rfl) (show VO (S1++[.lst pl]) (.new (pl.take tn.toNat))=some (pl.take tn.toNat)from rfl) (fits (show(pl.drop tn.toNat).length+(pl.take tn.toNat).length<=1000000 by rw[length_drop,lT,hpl4];omega)),mod_lit (show(0:Int)<3 by decide),YC,aH _ (2+c % 3) (by omega)];rw[hys]
  unfold gY;rw[zD f1,zD f2,zD f3,zD f4,f5,hS1,aA];rfl
def TmIn(xs:Ch)(d:MV):Prop:=(∃x∈xs,d=.tup [.str UM,.str x])\/ ∃v,VS v/\d=.tup [.str IS,v]
def TmIn.ok{xs:Ch}{d:MV}(h:TmIn xs d):UO d:=by
 rcases h with⟨x,_,rfl⟩|⟨v,hv,rfl⟩
 .exact .inl ⟨x,rfl⟩
 .exact .inr ⟨v,hv,rfl⟩
def NO{S:zC}{l:Nat}{ds:Zd}(hS:S[l]? =some (.lst ds))(hne:ds≠[])(n:Int): ∃d∈ds,wN (.val (.loc l)) (.val (.int (n % (ds.length:Int)))) S=.ok (.val d) S:=by have hp:0<ds.length:=length_pos_iff.mpr hne;obtain⟨d,hd⟩:=vR (xs:=ds) (i:=n % (ds.length:Int)) (eN0 _ (by omega)) (eL _ (by omega));exact⟨d,vS (P:=λd=>d∈ds) (λe he=>he) hd,eG hS hd⟩
theorem YH{S:zC}{ln lv:Nat}{xs:Ch}{vs:Zd}(h1:S[ln]? =some (.lst (xs.map MV.str)))(hx:xs≠[])(h2:S[lv]? =some (.lst vs))(hv:vs≠[])(hvs: ∀v∈vs,VS v)(n:Int): ∃d,TmIn xs d/\yB 3 bT [.val (.int n),.val (.loc ln),.val (.loc lv)] S=.ok (.val d) S:=by
 have hvl:0<vs.length:=length_pos_iff.mpr hv;have hxl:0<xs.length:=length_pos_iff.mpr hx;by_cases h6:n % 6=0
 .obtain⟨v,hm,hi⟩:=NO h2 hv (n / 6);have hvv:=hvs v hm;refine⟨.tup [.str IS,v],.inr ⟨v,hvv,rfl⟩,?_⟩;refine pK rfl ?_ (KU (Ft (.inr ⟨v,hvv,rfl⟩)).1) (λl=>by simp);show yU (aU [some (.int n),some (.loc ln),some (.loc lv)] S)=_;have e1:gZ [some (.int n),some (.loc ln),some (.loc lv)] S=.ok (.ret (.val (.tup [.str IS,v]))) S:=by unfold gZ;simp? [mod_lit (show(0:Int)<6 by decide),h6,decide_true,yH (b:=6) (by decide) (by decide),mU h2,mod_lit (b:=(vs.length:Int)) (by omega),hi,tup2]
  unfold aU;rw[qG e1];rfl
 .obtain⟨d,hm,hi⟩:=NO h1 (by simpa using hx) (n / 6);obtain⟨x,hxm,rfl⟩:=mM0.mp hm;rw[lM0]at hi;refine⟨.tup [.str UM,.str x],.inl ⟨x,hxm,rfl⟩,?_⟩;refine pK rfl ?_ (KU (Ft (.inl ⟨x,rfl⟩)).1) (λl=>by simp);show yU (aU [some (.int n),some (.loc ln),some (.loc lv)] S)=_;have e1:gZ [some (.int n),some (.loc ln),some (.loc lv)] S=.ok (.next [some (.int n),some (.loc ln),some (.loc lv)]) S:=by unfold gZ;simp? [mod_lit (show(0:Int)<6 by decide),h6,decide_false,fT,iF]
  unfold aU;rw[zD e1];unfold uN;simp? [yH (b:=6) (by decide) (by decide),mU h1,lM0,mod_lit (b:=(xs.length:Int)) (by omega),hi,tup2];rfl
abbrev SG(la l:Nat)(t m d:Ze):zK:=[some (.loc la),some (.loc l),t,m,d]
structure Kx(xs ks:Ch):Prop where
 nd:ks.Nodup
 sub: ∀x∈ks,x∈xs
def Kx.len{xs ks:Ch}(h:Kx xs ks):ks.length<=xs.length:=tQ h.nd h.sub
theorem Hb{la:Nat}{t m:Ze}{xs:Ch}(hx:xs.length<=100)(S:zC): ∀(tms:Zd),(∀d∈tms,TmIn xs d)-> ∀(ks:Ch)(o:Ze),Kx xs ks-> ∃(ks':Ch)(o':Ze),jC (xR 4) jM [] tms (SG la S.length t m o) (S++[.dic (dT ks)])=.ok (.next (SG la S.length t m o')) (S++[.dic (dT ks')])/\Kx xs ks'
 |[],_,ks,o,h=>⟨ks,o,rfl,h⟩
 |d::tms,hT,ks,o,h=>by
  have hT': ∀d∈tms,TmIn xs d:=λe he=>hT e (mO _ he);rcases hT d mF0 with⟨x,hm,rfl⟩|⟨v,hv,rfl⟩
  .obtain⟨ks',o',e,h'⟩:=Hb (la:=la) (t:=t) (m:=m) hx S tms hT' (pA ks x) (some (.tup [.str UM,.str x])) ⟨WY h.nd x,λy hy=>by
    rcases (QQ ks x y).mp hy with hy|rfl
    .exact h.sub y hy
    .exact hm⟩
   refine⟨ks',o',?_,h'⟩;have hl:=h.len;rw[yE (ρ0:=SG la S.length t m (some (.tup [.str UM,.str x]))) (ρ':=SG la S.length t m (some (.tup [.str UM,.str x]))) (S':=S++[.dic (dT (pA ks x))]) rfl (by unfold jM gK;simp? [UP,GS,Om,oE,XA (zP S (.dic (dT ks))) (show ks.length<1000000 by omega),wQ]) (yX _)];exact e
  .obtain⟨ks',o',e,h'⟩:=Hb (la:=la) (t:=t) (m:=m) hx S tms hT' ks (some (.tup [.str IS,v])) h;refine⟨ks',o',?_,h'⟩;rw[yE (ρ0:=SG la S.length t m (some (.tup [.str IS,v]))) (ρ':=SG la S.length t m (some (.tup [.str IS,v]))) (S':=S++[.dic (dT ks)]) rfl (by unfold jM gK;simp? [UP,On,fT,iF]) (yX _)];exact e
theorem Hc{la:Nat}{xs:Ch}{all:Zd}(hx:xs.length<=100)(S:zC)(hla:S[la]? =some (.lst all)): ∀(as:Zg),(∀a∈as, ∀d∈a.2,TmIn xs d)-> ∀(ks:Ch)(t m o:Ze),Kx xs ks-> ∃(ks':Ch)(t' m' o':Ze),jC (Ck 2 (kR (xR 2) (kR (xR 3) uK))) cT [(la,all)] (as.map aM) (SG la S.length t m o) (S++[.dic (dT ks)])=.ok (.next (SG la S.length t' m' o')) (S++[.dic (dT ks')])/\Kx xs ks'
 |[],_,ks,t,m,o,h=>⟨ks,t,m,o,rfl,h⟩
 |a::as,hA,ks,t,m,o,h=>by obtain⟨ks1,o1,e1,h1⟩:=Hb (la:=la) (t:=some (.int a.1)) (m:=some (.tup a.2)) hx S a.2 (hA a mF0) ks o h;obtain⟨ks',t',m',o',e,h'⟩:=Hc hx S hla as (λb hb=>hA b (mO _ hb)) ks1 (some (.int a.1)) (some (.tup a.2)) o1 h1;refine⟨ks',t',m',o',?_,h'⟩;have hst:stay [(la,all)] (S++[.dic (dT ks1)]):=pL (by rw[getElem?_append_left (gS.mp hla).1];exact hla);rw[map_cons,yE (ρ0:=SG la S.length (some (.int a.1)) (some (.tup a.2)) o) (ρ':=SG la S.length (some (.int a.1)) (some (.tup a.2)) o1) (S0:=S++[.dic (dT ks)]) (S':=S++[.dic (dT ks1)]) rfl (by unfold cT fM;simp? [ND];exact e1) hst];exact e
theorem YI: ∀ks:List (List Nat),eI (ks.map MV.str)=some ks
 |[]=>rfl
 |x::ks=>by rw[map_cons];unfold eI;rw[YI ks];rfl
def RI{S:zC}{l:Nat}{ks:Ch}(h:S[l]? =some (.dic (dT ks)))(hl:ks.length<64):BU [.val (.loc l)] S=.ok (.new ((sU ks).map MV.str)) S:=by unfold BU;dsimp only;rw[tP h (DM ks)];dsimp only;rw[iP (show(dT ks).length<64 by unfold dT;rw[lM0];exact hl),NF,YI]
theorem RJ{la:Nat}{xs:Ch}{as:Zg}(hx:xs.length<=4)(S:zC)(hla:S[la]? =some (.lst (as.map aM)))(hA: ∀a∈as, ∀d∈a.2,TmIn xs d): ∃ys:List (List Nat),ys.length<=4/\yB 1 bH [.val (.loc la)] S=.ok (.new (ys.map MV.str)) S:=by
 obtain⟨ks,t,m,o,e,h⟩:=Hc (by omega) S hla as hA [] none none none ⟨nodup_nil,λx hx=>by simp at hx⟩;have hl:=h.len;refine⟨sU ks,by rw[(qK ks).length_eq];omega,?_⟩;refine kU (T:=[.dic (dT ks)]) rfl ?_ (oF _ _);show yU (eY [some (.loc la),none,none,none,none] S)=_;have f1:cU [some (.loc la),none,none,none,none] S=.ok (.next (SG la S.length none none none)) (S++[.dic (dT [])]):=by unfold cU;simp? [PC];rfl
 have hla2:(S++[.dic (dT [])])[la]? =some (.lst (as.map aM)):=by rw[getElem?_append_left (gS.mp hla).1];exact hla
 have f2:cV (SG la S.length none none none) (S++[.dic (dT [])])=.ok (.next (SG la S.length t m o)) (S++[.dic (dT ks)]):=by unfold cV;simp? [vT hla2];exact e
 unfold eY;rw[zD f1,zD f2];unfold oA;simp? [RI (zP S (.dic (dT ks))) (show ks.length<64 by omega)];rfl
theorem RK{gf:MV->zK->zC->R zK}{cf:zK->zC->R Bool}{ef:zK->zC->R Er}{ρb:zK}{gs:Zh}{S:zC}{P:MV->Prop}(hs:stay gs S):
  ∀{ds:Zd},(∀d∈ds, ∃ρ1 b y,gf d ρb S=.ok ρ1 S/\cf ρ1 S=.ok b S/\ef ρ1 S=.ok (.val y) S/\P y)-> ∃out,xN gf cf ef ρb gs ds S=.ok out S/\out.length<=ds.length/\ ∀o∈out,P o
 |[],_=>⟨[],rfl,le_refl _,λo h=>by simp at h⟩
 |d::ds,st=>by
  obtain⟨ρ1,b,y,h1,h2,h3,h4⟩:=st d mF0;obtain⟨out,e,hl,hp⟩:=RK hs (ds:=ds) λd hd=>st d (mO _ hd)
  cases b with
  |true=>
   refine⟨y::out,?_,by rw[lC0,lC0];omega,λo ho=>(mC.mp ho).elim (λz=>z▸h4) (hp o)⟩;unfold xN;rw[h1,xG,dP,h2,xG,dP,iP rfl,h3,xG,dP];unfold eE;rw[dP,iP hs,e];rfl
  |false=>
   refine⟨out,?_,by rw[lC0];omega,hp⟩;unfold xN;rw[h1,xG,dP,h2,xG,dP,iN0 xF0,iP hs,e]
def YJ{S:zC}{l:Nat}{ds:Zd}(hS:S[l]? =some (.lst ds)):ZU (.val (.loc l)) [] S=.ok (.val .non) (S.set l (.lst ds.reverse)):=by unfold ZU sN;dsimp only;rw[hS]
def Tt(q:Int){n:Nat}(h1:1<=n)(h4:n<=4):((List.range n).map λk:Nat=>((q+(k:Int)) % (n:Int)).toNat).Nodup:=by
 unfold List.Nodup;rw[pairwise_map];refine List.Pairwise.imp_of_mem (λ{i j} hi hj hne e=>hne ?_) (List.nodup_range (n:=n));have hi:=mem_range.mp hi;have hj:=mem_range.mp hj;have:n=1\/n=2\/n=3\/n=4:=by omega
 rcases this with rfl|rfl|rfl|rfl<;>omega
abbrev QV(lc:Nat)(ts:Tk)(ln lv:Nat)(m o a k nb w s h:Ze):zK:=[some (.loc lc),some (.tup (ts.map tbl)),some (.loc ln),some (.loc lv),m,o,a,k,nb,w,s,h]
abbrev QA(lc:Nat)(ts:Tk)(ln lv:Nat)(m:Ze)(lo:Nat)(k nb w:Ze):zK:=QV lc ts ln lv m (some (.loc lo)) (some (.loc (lo+1))) k nb w none none
abbrev ZZ(B:zC)(ord:Db)(as:Zg)(T:zC):zC:=B++.lst (ord.map zH)::.lst (as.map aM)::T
def zz_o(B:zC)(ord:Db)(as:Zg)(T:zC):(ZZ B ord as T)[B.length]? =some (.lst (ord.map zH)):=by simp[ZZ]
def Nf(B:zC)(ord:Db)(as:Zg)(T:zC):(ZZ B ord as T)[B.length+1]? =some (.lst (as.map aM)):=by simp[ZZ]
def Tu(B:zC)(ord:Db)(as as':Zg)(T:zC):(ZZ B ord as T).set (B.length+1) (.lst (as'.map aM))=ZZ B ord as' T:=by simp[ZZ]
def NP{B:zC}{k:Nat}{o:MO}(h:B[k]? =some o)(ord:Db)(as:Zg)(T:zC):(ZZ B ord as T)[k]? =some o:=by show(B++_)[k]? =_;rw[getElem?_append_left (gS.mp h).1];exact h
def YK(B:zC)(ord:Db)(as:Zg)(T:zC)(o:MO):ZZ B ord as T++[o]=ZZ B ord as (T++[o]):=by simp[ZZ]
structure QB(B:zC)(lc ln lv:Nat)(cs:Ya)(xs:Ch)(vs:Zd):Prop where
 c:B[lc]? =some (.lst (cs.map MV.int))
 c6:cs.length=6
 n:B[ln]? =some (.lst (xs.map MV.str))
 n1:xs≠[]
 n4:xs.length<=4
 v:B[lv]? =some (.lst vs)
 v1:vs≠[]
 vs: ∀v∈vs,VS v
section
variable{B:zC}{lc ln lv:Nat}{cs:Ya}{xs:Ch}{vs:Zd}{ts:Tk}{ord:Db}
def Ng(H:QB B lc ln lv cs xs vs)(hts: ∀p∈ts,1<=p.1/\p.1<=4/\0<=p.2/\p.2<=p.1)(ho: ∀o∈ord,o<ts.length){as:Zg}(hl:as.length<=100)(T:zC)(m nb w:Ze){k:Nat}(hk:k<ord.length)(hk4:k<4):
  ∃(a:Int×List MV)(T':zC)(nb' w':Ze),jN (QA lc ts ln lv m B.length (some (zH k)) nb w) (ZZ B ord as T)=.ok (.next (QA lc ts ln lv m B.length (some (zH k)) nb' w')) (ZZ B ord (as++[a]) T')/\a.1=(ord[k]:Int)/\AOk ts a/\ ∀d∈a.2,TmIn xs d:=by
 obtain⟨c,hc⟩: ∃c,cs[2+k]? =some c:=⟨_,gE (show 2+k<cs.length by have:=H.c6;omega)⟩
 obtain⟨ns,hns,e1⟩:=GZ c (show 4<=10 by decide) (ZZ B ord as T);have hix:wN (.val (.loc lc)) (.val (.int (2+(k:Int)))) (ZZ B ord as T)=.ok (.val (.int c)) (ZZ B ord as T):=eG (NP H.c _ _ _) (by have:=lU (xs:=cs.map MV.int) (k:=2+k) (x:=.int c) (by rw[getElem?_map,hc];rfl);rw[Int.natCast_add]at this;exact this);have f1:gO (QA lc ts ln lv m B.length (some (zH k)) nb w) (ZZ B ord as T)=.ok (.next (QA lc ts ln lv m B.length (some (zH k)) (some (.loc (ZZ B ord as T).length)) w)) (ZZ B ord as (T++[.lst (ns.map MV.int)])):=by unfold gO;simp? [hix,show∀S,yB 2 yO [.val (.int c),.val (.int 4)] S=yB 2 yO [.val (.int c),.val (zH 4)] S from λ_=>rfl,e1];rw[YK]
 obtain⟨T1,hT1⟩: ∃T1,T1=T++[.lst (ns.map MV.int)]:=⟨_,rfl⟩
 obtain⟨o,ho'⟩: ∃o,o=ord[k]:=⟨_,rfl⟩
 have hok:ord[k]? =some o:=by rw[ho'];exact gE hk
 have hot:=ho o (mem_of_getElem? hok);obtain⟨p,hp⟩: ∃p,ts[o]? =some p:=⟨_,gE hot⟩
 have hpp:=hts p (mem_of_getElem? hp);have hio: ∀U,wN (.val (.loc B.length)) (.val (zH k)) (ZZ B ord as U)=.ok (.val (zH o)) (ZZ B ord as U):=λU=>eG (zz_o _ _ _ _) (lU (by rw[getElem?_map,hok];rfl));have hit: ∀S:zC,wN (.val (.tup (ts.map tbl))) (.val (zH o)) S=.ok (.val (tbl p)) S:=λS=>ix_tup (lU (by rw[getElem?_map,hp];rfl));have f2:gP (QA lc ts ln lv m B.length (some (zH k)) (some (.loc (ZZ B ord as T).length)) w) (ZZ B ord as T1)=.ok (.next (QA lc ts ln lv m B.length (some (zH k)) (some (.loc (ZZ B ord as T).length)) (some (.int p.1)))) (ZZ B ord as T1):=by unfold gP;simp? [hio,hit,show∀S:zC,wN (.val (tbl p)) (.val (.int 0)) S=.ok (.val (.int p.1)) S from λ_=>rfl]
 have hna:(ZZ B ord as T1)[(ZZ B ord as T).length]? =some (.lst (ns.map MV.int)):=by rw[hT1, <-YK];exact zP _ _
 obtain⟨out,hco,hol,hom⟩:=sP (S:=ZZ B ord as T1) (gf:=xR 0) (cf:=fO) (ef:=gN) (ρb:=[none,some (.loc ln),some (.loc lv)]) (gs:=[]) (P:=TmIn xs) (yX _) (ds:=(ns.map MV.int).take p.1.toNat) λd hd=>by obtain⟨i,_,rfl⟩:=mM0.mp (mem_of_mem_take hd);obtain⟨t,ht,e⟩:=YH (NP H.n ord as T1) H.n1 (NP H.v ord as T1) H.v1 H.vs i;refine⟨[some (.int i),some (.loc ln),some (.loc lv)],t,rfl,rfl,?_,ht⟩;unfold gN;simp? [e]
 rw[lT,lM0,hns]at hol;have hlt:((ns.map MV.int).take p.1.toNat).length<1000000:=by rw[lT,lM0];omega
 have hb: ∀a b c d e f g h i j k l:Option MV,BF 1 [2,3] [a,b,c,d,e,f,g,h,i,j,k,l]=[none,c,d]:=λ_ _ _ _ _ _ _ _ _ _ _ _=>rfl;have f3:gQ (QA lc ts ln lv m B.length (some (zH k)) (some (.loc (ZZ B ord as T).length)) (some (.int p.1))) (ZZ B ord as T1)=.ok (.next (QA lc ts ln lv m B.length (some (zH k)) (some (.loc (ZZ B ord as T).length)) (some (.int p.1)))) (ZZ B ord (as++[((o:Int),out)]) T1):=by unfold gQ;simp? [gA (Nf B ord as T1),hio,oG hna,aH _ p.1 (show 0<=p.1 by omega),tR,hlt,hb,hco,show∀(ds:Zd)(S:zC),eF [.new ds] S=.ok (.val (.tup ds)) S from λ_ _=>rfl,tup2,oB (Nf B ord as T1) (show(as.map aM).length<1000000 by rw[lM0];omega)];rw[show as.map aM++[.tup [.int (o:Int),.tup out]]=(as++[((o:Int),out)]).map aM by rw[map_append];rfl,Tu]
 refine⟨((o:Int),out),T1,some (.loc (ZZ B ord as T).length),some (.int p.1),?_,by rw[ho'],⟨⟨p,lU hp,by omega⟩,λd hd=>(hom d hd).ok,?_⟩,hom⟩
 .unfold jN;rw[zD f1, <-hT1,zD f2];exact f3
 .show out.length<=4;omega
theorem Hd(H:QB B lc ln lv cs xs vs)(hts: ∀p∈ts,1<=p.1/\p.1<=4/\0<=p.2/\p.2<=p.1)(ho: ∀o∈ord,o<ts.length)(m:Ze): ∀(n k:Nat)(as:Zg)(T:zC)(q nb w:Ze),k+n<=ord.length->k+n<=4->as.length=k->(as.map λa=>a.1.toNat)=ord.take k->(∀a∈as,0<=a.1/\AOk ts a/\ ∀d∈a.2,TmIn xs d)->
  ∃(as':Zg)(T':zC)(q' nb' w':Ze),jC (xR 7) jN [] ((List.range' k n).map zH) (QA lc ts ln lv m B.length q nb w) (ZZ B ord as T)=.ok (.next (QA lc ts ln lv m B.length q' nb' w')) (ZZ B ord as' T')/\as'.length=k+n/\(as'.map λa=>a.1.toNat)=ord.take (k+n)/\ ∀a∈as',0<=a.1/\AOk ts a/\ ∀d∈a.2,TmIn xs d
 |0,k,as,T,q,nb,w,_,_,h1,h2,h3=>⟨as,T,q,nb,w,rfl,h1,h2,h3⟩
 |n+1,k,as,T,q,nb,w,hk,h4,h1,h2,h3=>by
  have hko:k<ord.length:=by omega
  obtain⟨a,T1,nb1,w1,e1,g1,g2,g3⟩:=Ng H hts ho (as:=as) (by omega) T m nb w hko (by omega)
  obtain⟨as',T',q',nb',w',e,j1,j2,j3⟩:=Hd H hts ho m n (k+1) (as++[a]) T1 (some (zH k)) nb1 w1 (by omega) (by omega) (by rw[lA,lS,h1]) (by
   rw[map_append,h2,List.take_add_one,gE hko,List.map_singleton,g1];rfl) (λb hb=>by
   rcases mem_append.mp hb with hb|hb
   .exact h3 b hb
   .rw[mS.mp hb];exact⟨by rw[g1];omega,g2,g3⟩)
  refine⟨as',T',q',nb',w',?_,by omega,by rw[j2];congr 1;omega,j3⟩;rw[range'_succ,map_cons,yE (ρ0:=QA lc ts ln lv m B.length (some (zH k)) nb w) rfl e1 (yX _)];exact e
end
theorem RL: ∀{o:Zd},(∀y∈o, ∃x:List Nat,y=.str x)-> ∃ys:List (List Nat),o=ys.map MV.str
 |[],_=>⟨[],rfl⟩
 |a::o,h=>by obtain⟨x,rfl⟩:=h a mF0;obtain⟨ys,rfl⟩:=RL λy hy=>h y (mO _ hy);exact⟨x::ys,rfl⟩
def Oy{ts:Tk}{as:Zg}(h: ∀a∈as,AOk ts a)(n:Nat):uV n (as.map aM):=wI λd hd=>by
 obtain⟨a,ha,rfl⟩:=mM0.mp hd
 exact dW (wI λe he=>by
  rcases mC.mp he with rfl|he
  .exact cA _ _
  .rw[mS.mp he];exact dW (wI λt ht=>KU (Ft ((h a ha).tm t ht)).1))
def He{lc lv:Nat}{cs:Ya}{xs:Ch}{vs:Zd}{ts:Tk}{S:zC}(hc:S[lc]? =some (.lst (cs.map MV.int)))(hc6:cs.length=6)(hx1:xs≠[])(hx4:xs.length<=4)(hv:S[lv]? =some (.lst vs))(hv1:vs≠[])(hvs: ∀v∈vs,VS v)(hn1:1<=ts.length)(hn4:ts.length<=4)(hts: ∀p∈ts,1<=p.1/\p.1<=4/\0<=p.2/\p.2<=p.1):
  ∃(hs:Ch)(as:Zg),QOk ts as/\yB 4 kY [.val (.loc lc),.val (.tup (ts.map tbl)),.new (xs.map MV.str),.val (.loc lv)] S=.ok (.val (qM hs as)) S:=by
 obtain⟨B,hB⟩: ∃B:zC,B=S++[.lst (xs.map MV.str)]:=⟨_,rfl⟩
 have old: ∀{k o},S[k]? =some o->B[k]? =some o:=λh=>by rw[hB,getElem?_append_left (gS.mp h).1];exact h
 have H:QB B lc S.length lv cs xs vs:=⟨old hc,hc6,by rw[hB];exact zP _ _,hx1,hx4,old hv,hv1,hvs⟩
 obtain⟨c0,h0⟩: ∃c,cs[0]? =some c:=⟨_,gE (show 0<cs.length by omega)⟩
 obtain⟨c1,h1⟩: ∃c,cs[1]? =some c:=⟨_,gE (show 1<cs.length by omega)⟩
 obtain⟨n,hn⟩: ∃n,n=ts.length:=⟨_,rfl⟩
 have i0: ∀T:zC,wN (.val (.loc lc)) (.val (.int 0)) (B++T)=.ok (.val (.int c0)) (B++T):=λT=>eG (by rw[getElem?_append_left (gS.mp H.c).1];exact H.c) (lU (k:=0) (by rw[getElem?_map,h0];rfl));have i0':=i0 [];rw[aN]at i0';have hm0:=eN0 c0 (show(n:Int)≠0 by omega);have hm1:=eL c0 (show(0:Int)<n by omega);obtain⟨m,hm⟩: ∃m:Nat,(m:Int)=1+c0 % (n:Int):=⟨(1+c0 % (n:Int)).toNat,by omega⟩
 have hmn:1<=m/\m<=n:=by omega
 have f1:cW (QV lc ts S.length lv none none none none none none none none) B=.ok (.next (QV lc ts S.length lv (some (zH m)) none none none none none none none)) B:=by unfold cW;simp? [i0',uG,lM0, <-hn,mod_lit (b:=(n:Int)) (by omega), <-hm]
 obtain⟨ord0,ho0⟩: ∃o:List Nat,o=(List.range n).map λk:Nat=>((c0 / 4+(k:Int)) % (n:Int)).toNat:=⟨_,rfl⟩
 have hnd0:ord0.Nodup:=by rw[ho0];exact Tt (c0 / 4) (by omega) (by omega)
 have hlt0: ∀o∈ord0,o<n:=λo ho=>by rw[ho0]at ho;obtain⟨k,_,rfl⟩:=mM0.mp ho;have:=eN0 (c0 / 4+(k:Int)) (show(n:Int)≠0 by omega);have:=eL (c0 / 4+(k:Int)) (show(0:Int)<n by omega);omega
 have hl0:ord0.length=n:=by rw[ho0,lM0,length_range]
 have hco:xN (xR 0) fN gM [none,some (.loc lc),some (.tup (ts.map tbl))] [] ((List.range n).map zH) B=.ok (ord0.map zH) B:=by
  rw[ho0,map_map];refine aC (yX _) λk _=>⟨[some (zH k),some (.loc lc),some (.tup (ts.map tbl))],rfl,rfl,?_⟩
  have:=eN0 (c0 / 4+(k:Int)) (show(n:Int)≠0 by omega);unfold gM;simp? [i0',yH (b:=4) (by decide) (by decide),uG,lM0, <-hn,mod_lit (b:=(n:Int)) (by omega)];show R.ok (Er.val (.int ((c0 / 4+(k:Int)) % (n:Int)))) B=R.ok (Er.val (.int (((c0 / 4+(k:Int)) % (n:Int)).toNat:Int))) B;rw[Int.toNat_of_nonneg this]
 have hb: ∀a b c d e f g h i j k l:Option MV,BF 1 [0,1] [a,b,c,d,e,f,g,h,i,j,k,l]=[none,a,b]:=λ_ _ _ _ _ _ _ _ _ _ _ _=>rfl;have hrl:(List.range n).length<1000000:=by rw[length_range];omega
 have f2:cX (QV lc ts S.length lv (some (zH m)) none none none none none none none) B=.ok (.next (QV lc ts S.length lv (some (zH m)) (some (.loc B.length)) none none none none none none)) (B++[.lst (ord0.map zH)]):=by unfold cX;simp? [uG,lM0, <-hn,EA (n:=n) (by omega),hrl,hb,hco]
 obtain⟨ord,f3,hnd,hlt,hol⟩: ∃ord:List Nat,cY (QV lc ts S.length lv (some (zH m)) (some (.loc B.length)) none none none none none none) (B++[.lst (ord0.map zH)])=.ok (.next (QV lc ts S.length lv (some (zH m)) (some (.loc B.length)) none none none none none none)) (B++[.lst (ord.map zH)])/\ord.Nodup/\(∀o∈ord,o<n)/\ord.length=n:=by
  unfold cY;by_cases h2:c0 / 16 % 2=1
  .refine⟨ord0.reverse,?_,List.pairwise_reverse.mpr (hnd0.imp λh e=>h e.symm),λo ho=>hlt0 o (List.mem_reverse.mp ho),by rw[List.length_reverse,hl0]⟩;simp? [i0,yH (b:=16) (by decide) (by decide),mod_lit (show(0:Int)<2 by decide),h2,decide_true,gA (zP B (.lst (ord0.map zH))),YJ (zP B (.lst (ord0.map zH))),wQ];rw[List.map_reverse]
  .refine⟨ord0,?_,hnd0,hlt0,hl0⟩;simp? [i0,yH (b:=16) (by decide) (by decide),mod_lit (show(0:Int)<2 by decide),h2,decide_false,fT,iF]
 have f4:cZ (QV lc ts S.length lv (some (zH m)) (some (.loc B.length)) none none none none none none) (B++[.lst (ord.map zH)])=.ok (.next (QA lc ts S.length lv (some (zH m)) B.length none none none)) (ZZ B ord [] []):=by unfold cZ;simp? [dP];rw[lA,lS,aA];rfl
 obtain⟨as,T,q,nb,w,e5,g1,g2,g3⟩:=Hd (ts:=ts) (ord:=ord) H hts (λo ho=>by rw[<-hn];exact hlt o ho) (some (zH m)) m 0 [] [] none none none (by omega) (by omega) rfl rfl (λa ha=>by simp at ha);rw[zero_add]at g1 g2;have f5:dA (QA lc ts S.length lv (some (zH m)) B.length none none none) (ZZ B ord [] [])=.ok (.next (QA lc ts S.length lv (some (zH m)) B.length q nb w)) (ZZ B ord as T):=by unfold dA;simp? [EA (n:=m) (by omega)];rw[List.range_eq_range'];exact e5
 have hQ:QOk ts as:=⟨λa ha=>(g3 a ha).2.1,by omega,λa ha=>(g3 a ha).1,by rw[g2];exact hnd.sublist (List.take_sublist _ _),by omega⟩
 obtain⟨ys,hyl,e6⟩:=RJ hx4 (ZZ B ord as T) (Nf B ord as T) λa ha=>(g3 a ha).2.2;obtain⟨Z,hZ⟩: ∃Z:zC,Z=ZZ B ord as T:=⟨_,rfl⟩
 rw[<-hZ]at e6 f5;have hZB: ∀{k o},B[k]? =some o->Z[k]? =some o:=λh=>by rw[hZ];exact NP h _ _ _
 have f6:dB (QA lc ts S.length lv (some (zH m)) B.length q nb w) Z=.ok (.next (QV lc ts S.length lv (some (zH m)) (some (.loc B.length)) (some (.loc (B.length+1))) q nb w (some (.loc Z.length)) none)) (Z++[.lst (ys.map MV.str)]):=by unfold dB;simp? [e6]
 have oldZ: ∀{k o}(U:zC),Z[k]? =some o->(Z++U)[k]? =some o:=λU h=>by rw[getElem?_append_left (gS.mp h).1];exact h
 have i1: ∀U:zC,wN (.val (.loc lc)) (.val (.int 1)) (Z++U)=.ok (.val (.int c1)) (Z++U):=λU=>eG (oldZ U (hZB H.c)) (lU (k:=1) (by rw[getElem?_map,h1];rfl));have hl4: ∀(a b c d:MV)(S:zC),bX [.val a,.val b,.val c,.val d] S=.ok (.new [a,b,c,d]) S:=λa b c d S=>qH (by simp)
 obtain⟨out,hco,hol2,hom⟩:=RK (S:=Z++[.lst (ys.map MV.str)]) (gf:=xR 0) (cf:=gR) (ef:=gT) (ρb:=[none,some (.loc lc),some (.loc Z.length)]) (gs:=[]) (P:=λy=> ∃x:List Nat,y=.str x) (yX _) (ds:=(List.range ys.length).map zH) λd hd=>by
  obtain⟨k,hk,rfl⟩:=mM0.mp hd;have hk:=mem_range.mp hk;obtain⟨p,hp⟩:=vR (xs:=([1,3,9,27]:Ya)) (i:=(k:Int)) (by omega) (by show(k:Int)<4;omega);have hp0:0<p/\p<1073741824:=vS (P:=λp:Int=>0<p/\p<1073741824) (by decide) hp;have hip: ∀S:zC,wN (.new [.int 1,.int 3,.int 9,.int 27]) (.val (.int (k:Int))) S=.ok (.val (.int p)) S:=λS=>Dr (by have:=EN MV.int [1,3,9,27] (k:Int);rw[hp]at this;exact this);refine⟨[some (zH k),some (.loc lc),some (.loc Z.length)],decide (c1 / p % 3=1),.str ys[k],rfl,?_,?_,⟨_,rfl⟩⟩
  .unfold gR;simp? [i1,hl4,hip,yH hp0.1 hp0.2,mod_lit (show(0:Int)<3 by decide)]
  .unfold gT;simp? [eG (zP Z (.lst (ys.map MV.str))) (lU (k:=k) (x:=.str ys[k]) (by rw[getElem?_map,gE hk];rfl))]
 rw[lM0,length_range]at hol2;have hb2: ∀a b c d e f g h i j k l:Option MV,BF 1 [0,10] [a,b,c,d,e,f,g,h,i,j,k,l]=[none,a,k]:=λ_ _ _ _ _ _ _ _ _ _ _ _=>rfl;have hrl2:(List.range ys.length).length<1000000:=by rw[length_range];omega
 obtain⟨Y,hY⟩: ∃Y:zC,Y=Z++[.lst (ys.map MV.str)]:=⟨_,rfl⟩
 have f7:dC (QV lc ts S.length lv (some (zH m)) (some (.loc B.length)) (some (.loc (B.length+1))) q nb w (some (.loc Z.length)) none) Y=.ok (.next (QV lc ts S.length lv (some (zH m)) (some (.loc B.length)) (some (.loc (B.length+1))) q nb w (some (.loc Z.length)) (some (.loc Y.length)))) (Y++[.lst out]):=by unfold dC;rw[hY];simp? [mU (zP Z (.lst (ys.map MV.str))),lM0,EA (n:=ys.length) (by omega),hrl2,hb2,hco]
 have i1Y: ∀U:zC,wN (.val (.loc lc)) (.val (.int 1)) (Y++U)=.ok (.val (.int c1)) (Y++U):=λU=>by rw[hY,aA];exact i1 _
 obtain⟨out2,f8,hom2⟩: ∃out2:List MV,dE (QV lc ts S.length lv (some (zH m)) (some (.loc B.length)) (some (.loc (B.length+1))) q nb w (some (.loc Z.length)) (some (.loc Y.length))) (Y++[.lst out])=.ok (.next (QV lc ts S.length lv (some (zH m)) (some (.loc B.length)) (some (.loc (B.length+1))) q nb w (some (.loc Z.length)) (some (.loc Y.length)))) (Y++[.lst out2])/\ ∀y∈out2, ∃x:List Nat,y=.str x:=by
  unfold dE;by_cases h2:c1 / 81 % 2=1
  .refine⟨out.reverse,?_,λy hy=>hom y (List.mem_reverse.mp hy)⟩;simp? [i1Y,yH (b:=81) (by decide) (by decide),mod_lit (show(0:Int)<2 by decide),h2,decide_true,gA (zP Y (.lst out)),YJ (zP Y (.lst out)),wQ]
  .refine⟨out,?_,hom⟩;simp? [i1Y,yH (b:=81) (by decide) (by decide),mod_lit (show(0:Int)<2 by decide),h2,decide_false,fT,iF]
 obtain⟨hs,hhs⟩:=RL (o:=out2.take 2) λy hy=>hom2 y (mem_of_mem_take hy);refine⟨hs,as,hQ,?_⟩;have hya:(Y++[.lst out2])[B.length+1]? =some (.lst (as.map aM)):=by rw[hY,aA];exact oldZ _ (by rw[hZ];exact Nf _ _ _ _)
 have f9:dF (QV lc ts S.length lv (some (zH m)) (some (.loc B.length)) (some (.loc (B.length+1))) q nb w (some (.loc Z.length)) (some (.loc Y.length))) (Y++[.lst out2])=.ok (.ret (.val (qM hs as))) (Y++[.lst out2]):=by unfold dF;simp? [oG (zP Y (.lst out2)),aH _ 2 (show(0:Int)<=2 by decide),show(2:Int).toNat=2 from rfl,show∀(ds:Zd)(S:zC),eF [.new ds] S=.ok (.val (.tup ds)) S from λ_ _=>rfl,CL hya,tup2];rw[hhs]
 obtain⟨V,hV⟩: ∃V:zC,Y++[.lst out2]=S++V:=⟨_,by rw[hY,hZ,hB];simp only[ZZ,aA];rfl⟩
 have hF:kY [.loc lc,.tup (ts.map tbl),.loc S.length,.loc lv] B=.ok (.val (qM hs as)) (S++V):=by show yU (eZ (QV lc ts S.length lv none none none none none none none none) B)=_;unfold eZ;rw[zD f1,zD f2,zD f3,zD f4,zD f5,zD f6, <-hY,zD f7,zD f8,f9,hV];rfl
 have hE:zS [.val (.loc lc),.val (.tup (ts.map tbl)),.new (xs.map MV.str),.val (.loc lv)] S=([.loc lc,.tup (ts.map tbl),.loc S.length,.loc lv],B):=by rw[hB];rfl
 refine cB (T:=V) rfl (by rw[hE];exact hF) (dW (wI λd hd=>?_)) (λl=>by simp);rcases mC.mp hd with rfl|hd
 .exact dW (oF _ _)
 .rw[mS.mp hd];exact dW (Oy hQ.at' _)
section
variable{ts:Tk}{hs:Ch}{as:Zg}{j:Nat}
theorem KW(hl:as.length<=4)(h0: ∀a∈as,0<=a.1)(hj:uO [] as 0=some j)(S:zC):xH 2 fV [.val (.tup (ts.map tbl)),.val (qM hs as)] S=.exc "Double" (NQ j) S:=by
 refine GX (T:=[]) rfl ?_;rw[aN];show yU (AI [some (.tup (ts.map tbl)),some (qM hs as),none,none] S)=_;have e1:pP [some (.tup (ts.map tbl)),some (qM hs as),none,none] S=.exc "Double" (NQ j) S:=by unfold pP;simp? [RE hl h0 hj];rfl
 unfold AI;rw[EQ e1];rfl
theorem Hf(hl:as.length<=4)(h0: ∀a∈as,0<=a.1)(hj:uO [] as 0=some j)(S:zC):xH 2 CA [.val (.tup (ts.map tbl)),.val (qM hs as)] S=.exc "Double" (NQ j) S:=by
 refine GX (T:=[]) rfl ?_;rw[aN];show yU (GP [some (.tup (ts.map tbl)),some (qM hs as),none,none,none] S)=_;have e1:tK [some (.tup (ts.map tbl)),some (qM hs as),none,none,none] S=.exc "Double" (NQ j) S:=by unfold tK;simp? [KW hl h0 hj];rfl
 unfold GP;rw[EQ e1];rfl
theorem Ba(hl:as.length<=4)(h0: ∀a∈as,0<=a.1)(hj:uO [] as 0=some j)(i:MV)(S:zC):xH 3 qX [.val (.tup (ts.map tbl)),.val (qM hs as),.val i] S=.exc "Double" (NQ j) S:=by
 refine GX (T:=[]) rfl ?_;rw[aN];show yU (AH [some (.tup (ts.map tbl)),some (qM hs as),some i] S)=_;have e1:pO [some (.tup (ts.map tbl)),some (qM hs as),some i] S=.exc "Double" (NQ j) S:=by unfold pO;simp? [RE hl h0 hj];rfl
 unfold AH;rw[EQ e1];rfl
theorem Bb(Q:QOk ts as){i:Nat}(hi:i<as.length)(S:zC): ∃ks:List (List Nat),xH 3 qX [.val (.tup (ts.map tbl)),.val (qM hs as),.val (zH i)] S=.ok (.new (ks.map MV.str)) S:=by
 obtain⟨ks,T,e,hk,hn⟩:=QZ (hs:=hs) Q.at' Q.len hi S;have hl:ks.length<64:=by have h1:=tQ hn λx hx=>Gd hi ((hk x).mp hx);have h2:=EO (hs:=hs) Q.at';have h3:=Q.len;omega
 refine⟨sU ks,GY (kU (T:=.dic (dT ks)::T) rfl ?_ (oF _ _))⟩;show yU (AH [some (.tup (ts.map tbl)),some (qM hs as),some (zH i)] S)=_;have f1:pO [some (.tup (ts.map tbl)),some (qM hs as),some (zH i)] S=.ok (.next [some (.tup (ts.map tbl)),some (qM hs as),some (zH i)]) S:=by unfold pO;simp? [YA Q.len Q.pos Q.nd]
 unfold AH;rw[zD f1];unfold KP;simp? [e,RI (fF S T (.dic (dT ks))) hl];rfl
abbrev AK(w:Nat)(ts:Tk)(q i:MV):zK:=[some (zH w),some (.tup (ts.map tbl)),some q,some i]
def Hg{w:Nat}(hw:w<3)(i:MV)(S:zC):xD [zH w,.tup (ts.map tbl),qM hs as,i] S=yU ((if w=0 then xH 3 qX [.val (.tup (ts.map tbl)),.val (qM hs as),.val i] S else if w=1 then xH 2 fV [.val (.tup (ts.map tbl)),.val (qM hs as)] S else xH 2 CA [.val (.tup (ts.map tbl)),.val (qM hs as)] S).bind λr S=>.ok (.ret r) S):=by
 show yU (rA (AK w ts (qM hs as) i) S)=_;unfold rA;have:w=0\/w=1\/w=2:=by omega
 rcases this with rfl|rfl|rfl
 .rw[iP rfl];unfold zQ kK;simp? [show((0:Nat):Int)=0 from rfl,decide_true];cases xH 3 qX [.val (.tup (ts.map tbl)),.val (qM hs as),.val i] S<;>rfl
 .have e1:kK (AK 1 ts (qM hs as) i) S=.ok (.next (AK 1 ts (qM hs as) i)) S:=by unfold kK;simp? [show((1:Nat):Int)=1 from rfl,show decide ((1:Int)=0)=false from rfl,fT,iF]
  rw[zD e1,iN0 (by decide),iP rfl];unfold zQ dI;simp? [show((1:Nat):Int)=1 from rfl,decide_true];cases xH 2 fV [.val (.tup (ts.map tbl)),.val (qM hs as)] S<;>rfl
 .have e1:kK (AK 2 ts (qM hs as) i) S=.ok (.next (AK 2 ts (qM hs as) i)) S:=by unfold kK;simp? [show((2:Nat):Int)=2 from rfl,show decide ((2:Int)=0)=false from rfl,fT,iF]
  have e2:dI (AK 2 ts (qM hs as) i) S=.ok (.next (AK 2 ts (qM hs as) i)) S:=by unfold dI;simp? [show((2:Nat):Int)=2 from rfl,show decide ((2:Int)=1)=false from rfl,fT,iF]
  rw[zD e1,zD e2,iN0 (by decide),iN0 (by decide)];unfold tO;simp? [dP]
def Hh(Q:QOk ts as){w i:Nat}(hw:w<3)(hi:i<as.length)(S:zC): ∃r,xH 4 xD [.val (zH w),.val (.tup (ts.map tbl)),.val (qM hs as),.val (zH i)] S=.ok r S:=by
 obtain⟨ks,e⟩:=Bb (hs:=hs) Q hi S;have hF:=Hg (ts:=ts) (hs:=hs) (as:=as) hw (zH i) S;rw[e,RH Q S,Na Q S]at hF;have fin: ∀ds,uV S.length ds->xD [zH w,.tup (ts.map tbl),qM hs as,zH i] S=.ok (.new ds) S-> ∃r,xH 4 xD [.val (zH w),.val (.tup (ts.map tbl)),.val (qM hs as),.val (zH i)] S=.ok r S:=λds hlo h=>⟨_,GY (kU (T:=[]) rfl (h.trans (by rw[aN])) hlo)⟩
 split at hF
 .exact fin _ (oF _ _) hF
 .split at hF
  .exact fin _ (Ot _ _) hF
  .cases hr:Ue (PQ ts hs as)with
   |none=>
    rw[hr]at hF;exact⟨_,GY (cB (T:=[]) rfl (hF.trans (by rw[aN];rfl)) (BM _) (λl=>by simp))⟩
   |some p=>
    rw[hr]at hF
    exact fin _ (wI λd hd=>by
     rcases mC.mp hd with rfl|hd
     .exact cA _ _
     .rw[mS.mp hd];exact cA _ _) hF
theorem Nh(hl:as.length<=4)(h0: ∀a∈as,0<=a.1)(hj:uO [] as 0=some j){w:Nat}(hw:w<3)(i:MV)(S:zC):xH 4 xD [.val (zH w),.val (.tup (ts.map tbl)),.val (qM hs as),.val i] S=.exc "Double" (NQ j) S:=by
 refine GX (T:=[]) rfl ((Hg hw i S).trans ?_);rw[Ba hl h0 hj,KW hl h0 hj,Hf hl h0 hj,aN];split
 .rfl
 .split<;>rfl
end
def Ni{S:zC}{l:Nat}{ds:Zd}{i:Int}{d:MV}(hS:S[l]? =some (.lst ds))(h0:0<=i)(h1:i<1000000)(hl:ds.length<1000000):As (.val (.loc l)) [.val (.int i),.val d] S=.ok (.val .non) (S.set l (.lst (gF ds i.toNat d))):=by show sN (.val (.loc l)) S (λds=>if 0<=i/\i<1000000/\ds.length<sizeLine then some (gF ds i.toNat d)else none)=_;unfold sN;dsimp only;rw[hS];dsimp only;rw[iP ⟨h0,h1,lt_of_lt_of_le hl (fits (le_refl _))⟩]
def ins_map{k:Nat}(as:Zg)(a:Int×List MV):gF (as.map aM) k (aM a)=(gF as k a).map aM:=by unfold gF;rw[lM0,map_append,map_cons,map_take,map_drop]
def Nj{k:Nat}{as:Zg}{a b:Int×List MV}(h:b∈gF as k a):b=a\/b∈as:=by
 unfold gF at h;rcases mem_append.mp h with h|h
 .exact .inr (mem_of_mem_take h)
 .rcases mC.mp h with h|h
  .exact .inl h
  .exact .inr (List.mem_of_mem_drop h)
def NR{k:Nat}(as:Zg)(a:Int×List MV):(gF as k a).length=as.length+1:=by unfold gF;rw[lA,lC0,lT,length_drop];omega
abbrev ZM(B:zC)(as:Zg)(T:zC):zC:=B++.lst (as.map aM)::T
def NS{B:zC}{k:Nat}{o:MO}(h:B[k]? =some o)(as:Zg)(T:zC):(ZM B as T)[k]? =some o:=by show(B++_)[k]? =_;rw[getElem?_append_left (gS.mp h).1];exact h
def YL(B:zC)(as:Zg)(T:zC)(o:MO):ZM B as T++[o]=ZM B as (T++[o]):=by simp[ZM]
abbrev MR(q:MV)(ts:Tk)(lc ln lv:Nat)(hd am:MV)(ls:Nat)(c t nb tm:Ze):zK:=[some q,some (.tup (ts.map tbl)),some (.loc lc),some (.loc ln),some (.loc lv),some hd,some am,some (.loc ls),c,t,nb,tm]
structure MB(B:zC)(lc ln lv:Nat)(cs:Ya)(xs:Ch)(vs:Zd):Prop where
 c:B[lc]? =some (.lst (cs.map MV.int))
 n:B[ln]? =some (.lst (xs.map MV.str))
 n1:xs≠[]
 v:B[lv]? =some (.lst vs)
 v1:vs≠[]
 vs: ∀v∈vs,VS v
structure A4(ts:Tk)(as:Zg):Prop where
 ne:1<=as.length
 len:as.length<=4
 ok: ∀a∈as,0<=a.1/\AOk ts a
section
variable{B:zC}{lc ln lv:Nat}{cs:Ya}{xs:Ch}{vs:Zd}{ts:Tk}{q hd am:MV}{as:Zg}
def Nk(H:MB B lc ln lv cs xs vs)(hts: ∀p∈ts,1<=p.1/\p.1<=4/\0<=p.2/\p.2<=p.1)(A:A4 ts as)(T:zC)(c:Int)(t nb tm:Ze):
  ∃(as':Zg)(T':zC)(t' nb' tm':Ze),bA (MR q ts lc ln lv hd am B.length (some (.int c)) t nb tm) (ZM B as T)=.ok (.next (MR q ts lc ln lv hd am B.length (some (.int c)) t' nb' tm')) (ZM B as' T')/\A4 ts as'/\as.length<=as'.length:=by
 have hA1:=A.ne;have hA4:=A.len;obtain⟨d,hd',hix⟩:=NO (fF B T (.lst (as.map aM))) (λz=>by rw[<-List.length_eq_zero_iff,lM0]at z;omega) (c / 8);obtain⟨a,ha,rfl⟩:=mM0.mp hd';rw[lM0]at hix;obtain⟨hpos,hAa⟩:=A.ok a ha;have f1:fB (MR q ts lc ln lv hd am B.length (some (.int c)) t nb tm) (ZM B as T)=.ok (.next (MR q ts lc ln lv hd am B.length (some (.int c)) (some (.int a.1)) nb tm)) (ZM B as T):=by unfold fB;simp? [yH (b:=8) (by decide) (by decide),mU (fF B T (.lst (as.map aM))),lM0,mod_lit (b:=(as.length:Int)) (by omega),hix,show∀S:zC,wN (.val (aM a)) (.val (.int 0)) S=.ok (.val (.int a.1)) S from λ_=>rfl]
 obtain⟨ns,hns,e1⟩:=GZ (c / 3) (show 4<=10 by decide) (ZM B as T);have f2:fC (MR q ts lc ln lv hd am B.length (some (.int c)) (some (.int a.1)) nb tm) (ZM B as T)=.ok (.next (MR q ts lc ln lv hd am B.length (some (.int c)) (some (.int a.1)) (some (.loc (ZM B as T).length)) tm)) (ZM B as (T++[.lst (ns.map MV.int)])):=by unfold fC;simp? [yH (b:=3) (by decide) (by decide),show∀S,yB 2 yO [.val (.int (c / 3)),.val (.int 4)] S=yB 2 yO [.val (.int (c / 3)),.val (zH 4)] S from λ_=>rfl,e1];rw[YL]
 obtain⟨T1,hT1⟩: ∃T1,T1=T++[.lst (ns.map MV.int)]:=⟨_,rfl⟩
 obtain⟨p,hp,_⟩:=hAa.tb;have hpp:=vS hts hp;have hit: ∀S:zC,wN (.val (.tup (ts.map tbl))) (.val (.int a.1)) S=.ok (.val (tbl p)) S:=λS=>ix_tup (by rw[EN,hp];rfl);have hna:(ZM B as T1)[(ZM B as T).length]? =some (.lst (ns.map MV.int)):=by rw[hT1, <-YL];exact zP _ _
 obtain⟨out,hco,hol,hom⟩:=sP (S:=ZM B as T1) (gf:=xR 0) (cf:=rZ) (ef:=fA) (ρb:=[none,some (.loc ln),some (.loc lv)]) (gs:=[]) (P:=TmIn xs) (yX _) (ds:=(ns.map MV.int).take p.1.toNat) λd hd=>by obtain⟨i,_,rfl⟩:=mM0.mp (mem_of_mem_take hd);obtain⟨t,ht,e⟩:=YH (NS H.n as T1) H.n1 (NS H.v as T1) H.v1 H.vs i;refine⟨[some (.int i),some (.loc ln),some (.loc lv)],t,rfl,rfl,?_,ht⟩;unfold fA;simp? [e]
 rw[lT,lM0,hns]at hol;have hlt:((ns.map MV.int).take p.1.toNat).length<1000000:=by rw[lT,lM0];omega
 have hb: ∀a b c d e f g h i j k l:Option MV,BF 1 [3,4] [a,b,c,d,e,f,g,h,i,j,k,l]=[none,d,e]:=λ_ _ _ _ _ _ _ _ _ _ _ _=>rfl;have f3:fD (MR q ts lc ln lv hd am B.length (some (.int c)) (some (.int a.1)) (some (.loc (ZM B as T).length)) tm) (ZM B as T1)=.ok (.next (MR q ts lc ln lv hd am B.length (some (.int c)) (some (.int a.1)) (some (.loc (ZM B as T).length)) (some (.tup out)))) (ZM B as T1):=by unfold fD;simp? [hit,show∀S:zC,wN (.val (tbl p)) (.val (.int 0)) S=.ok (.val (.int p.1)) S from λ_=>rfl,oG hna,aH _ p.1 (show 0<=p.1 by omega),tR,hlt,hb,hco,show∀(ds:Zd)(S:zC),eF [.new ds] S=.ok (.val (.tup ds)) S from λ_ _=>rfl]
 have hlen:=mU (fF B T1 (.lst (as.map aM)));rw[lM0]at hlen;by_cases h4:as.length<4
 .have i0:=eN0 (c / 64) (show((as.length:Int)+1)≠0 by omega);have i1:=eL (c / 64) (show(0:Int)<(as.length:Int)+1 by omega);have hin:=Ni (d:=aM (a.1,out)) (fF B T1 (.lst (as.map aM))) i0 (by omega) (by rw[lM0];omega);rw[XJ,ins_map]at hin;have f4:kZ (MR q ts lc ln lv hd am B.length (some (.int c)) (some (.int a.1)) (some (.loc (ZM B as T).length)) (some (.tup out))) (ZM B as T1)=.ok (.next (MR q ts lc ln lv hd am B.length (some (.int c)) (some (.int a.1)) (some (.loc (ZM B as T).length)) (some (.tup out)))) (ZM B (gF as (c / 64 % ((as.length:Int)+1)).toNat (a.1,out)) T1):=by unfold kZ;simp? [hlen,lt_int,show decide ((as.length:Int)<4)=true from dT0 (by omega),gA (fF B T1 (.lst (as.map aM))),yH (b:=64) (by decide) (by decide),mod_lit (b:=(as.length:Int)+1) (by omega),tup2];rw[show As (.val (.loc B.length)) [.val (.int (c / 64 % ((as.length:Int)+1))),.val (.tup [.int a.1,.tup out])] (ZM B as T1)=_ from hin];rfl
  refine⟨_,T1,some (.int a.1),some (.loc (ZM B as T).length),some (.tup out),by unfold bA;rw[zD f1,zD f2, <-hT1,zD f3];exact f4,⟨by rw[NR];omega,by rw[NR];omega,λb hb=>?_⟩,by rw[NR];omega⟩;rcases Nj hb with rfl|hb
  .exact⟨hpos,hAa.tb,λd hd=>(hom d hd).ok,by show out.length<=4;omega⟩
  .exact A.ok b hb
 .have f4:kZ (MR q ts lc ln lv hd am B.length (some (.int c)) (some (.int a.1)) (some (.loc (ZM B as T).length)) (some (.tup out))) (ZM B as T1)=.ok (.next (MR q ts lc ln lv hd am B.length (some (.int c)) (some (.int a.1)) (some (.loc (ZM B as T).length)) (some (.tup out)))) (ZM B as T1):=by unfold kZ;simp? [hlen,lt_int,show decide ((as.length:Int)<4)=false from dF0 (by omega),fT,iF]
  exact⟨as,T1,some (.int a.1),some (.loc (ZM B as T).length),some (.tup out),by unfold bA;rw[zD f1,zD f2, <-hT1,zD f3];exact f4,A,le_refl _⟩
theorem Hi(H:MB B lc ln lv cs xs vs)(hts: ∀p∈ts,1<=p.1/\p.1<=4/\0<=p.2/\p.2<=p.1): ∀(ks:Ya)(as:Zg)(T:zC)(c t nb tm:Ze),A4 ts as->
  ∃(as':Zg)(T':zC)(c' t' nb' tm':Ze),jC (xR 8) bA [(lc,cs.map MV.int)] (ks.map MV.int) (MR q ts lc ln lv hd am B.length c t nb tm) (ZM B as T)=.ok (.next (MR q ts lc ln lv hd am B.length c' t' nb' tm')) (ZM B as' T')/\A4 ts as'/\as.length<=as'.length
 |[],as,T,c,t,nb,tm,A=>⟨as,T,c,t,nb,tm,rfl,A,le_refl _⟩
 |k::ks,as,T,c,t,nb,tm,A=>by obtain⟨a1,T1,t1,n1,m1,e1,A1,l1⟩:=Nk (q:=q) (hd:=hd) (am:=am) H hts A T k t nb tm;obtain⟨as',T',c',t',nb',tm',e,A',l⟩:=Hi H hts ks a1 T1 (some (.int k)) t1 n1 m1 A1;refine⟨as',T',c',t',nb',tm',?_,A',by omega⟩;rw[map_cons,yE (ρ0:=MR q ts lc ln lv hd am B.length (some (.int k)) t nb tm) rfl e1 (pL (NS H.c _ _))];exact e
end
def Nl{lc lv:Nat}{cs:Ya}{xs hs:Ch}{vs:Zd}{ts:Tk}{as:Zg}{S:zC}(hc:S[lc]? =some (.lst (cs.map MV.int)))(hx1:xs≠[])(hv:S[lv]? =some (.lst vs))(hv1:vs≠[])(hvs: ∀v∈vs,VS v)(hts: ∀p∈ts,1<=p.1/\p.1<=4/\0<=p.2/\p.2<=p.1)(A:A4 ts as):
  ∃as':List (Int×List MV),A4 ts as'/\as.length<=as'.length/\yB 5 aV [.val (qM hs as),.val (.tup (ts.map tbl)),.val (.loc lc),.new (xs.map MV.str),.val (.loc lv)] S=.ok (.val (qM hs as')) S:=by
 obtain⟨B,hB⟩: ∃B:zC,B=S++[.lst (xs.map MV.str)]:=⟨_,rfl⟩
 have old: ∀{k o},S[k]? =some o->B[k]? =some o:=λh=>by rw[hB,getElem?_append_left (gS.mp h).1];exact h
 have H:MB B lc S.length lv cs xs vs:=⟨old hc,by rw[hB];exact zP _ _,hx1,old hv,hv1,hvs⟩
 obtain⟨as',T',c',t',nb',tm',e,A',l⟩:=Hi (q:=qM hs as) (hd:=.tup (hs.map MV.str)) (am:=.tup (as.map aM)) H hts cs as [] none none none none A;refine⟨as',A',l,?_⟩;have f1:oW [some (qM hs as),some (.tup (ts.map tbl)),some (.loc lc),some (.loc S.length),some (.loc lv),none,none,none,none,none,none,none] B=.ok (.next [some (qM hs as),some (.tup (ts.map tbl)),some (.loc lc),some (.loc S.length),some (.loc lv),some (.tup (hs.map MV.str)),some (.tup (as.map aM)),none,none,none,none,none]) B:=by unfold oW;simp? [oE];rfl
 have f2:oX [some (qM hs as),some (.tup (ts.map tbl)),some (.loc lc),some (.loc S.length),some (.loc lv),some (.tup (hs.map MV.str)),some (.tup (as.map aM)),none,none,none,none,none] B=.ok (.next (MR (qM hs as) ts lc S.length lv (.tup (hs.map MV.str)) (.tup (as.map aM)) B.length none none none none)) (ZM B as []):=by unfold oX;simp? [show VX [.val (.tup (as.map aM))] B=.ok (.new (as.map aM)) B from rfl]
 have f3:oY (MR (qM hs as) ts lc S.length lv (.tup (hs.map MV.str)) (.tup (as.map aM)) B.length none none none none) (ZM B as [])=.ok (.next (MR (qM hs as) ts lc S.length lv (.tup (hs.map MV.str)) (.tup (as.map aM)) B.length c' t' nb' tm')) (ZM B as' T'):=by unfold oY;simp? [vT (NS H.c as [])];exact e
 have f4:oZ (MR (qM hs as) ts lc S.length lv (.tup (hs.map MV.str)) (.tup (as.map aM)) B.length c' t' nb' tm') (ZM B as' T')=.ok (.ret (.val (qM hs as'))) (ZM B as' T'):=by unfold oZ;simp? [CL (fF B T' (.lst (as'.map aM))),tup2]
 obtain⟨V,hV⟩: ∃V:zC,ZM B as' T'=S++V:=⟨_,by rw[hB,ZM,aA]⟩
 have hF:aV [qM hs as,.tup (ts.map tbl),.loc lc,.loc S.length,.loc lv] B=.ok (.val (qM hs as')) (S++V):=by show yU (tN [some (qM hs as),some (.tup (ts.map tbl)),some (.loc lc),some (.loc S.length),some (.loc lv),none,none,none,none,none,none,none] B)=_;unfold tN;rw[zD f1,zD f2,zD f3,f4,hV];rfl
 have hE:zS [.val (qM hs as),.val (.tup (ts.map tbl)),.val (.loc lc),.new (xs.map MV.str),.val (.loc lv)] S=([qM hs as,.tup (ts.map tbl),.loc lc,.loc S.length,.loc lv],B):=by rw[hB];rfl
 refine cB (T:=V) rfl (by rw[hE];exact hF) (dW (wI λd hd=>?_)) (λl=>by simp);rcases mC.mp hd with rfl|hd
 .exact dW (oF _ _)
 .rw[mS.mp hd];exact dW (Oy (λa ha=>(A'.ok a ha).2) _)
def Nn(p:Er)(ds:Zd)(S:zC):HQ false p (.new ds) S=sM false p (.new ds) S:=by unfold HQ;split<;>first |rfl|(rename_i h;cases h)
def YM{S:zC}{d:Int}{ys:Ya}:HQ false (.val (.int d)) (.new (ys.map MV.int)) S=.ok (.val (.bl (decide (d∈ys)))) S:=by
 have e1:itemsOf S (.new (ys.map MV.int))=some (ys.map MV.int):=rfl;have e2:=AR (S:=S) (CO d) (ys:=ys.map MV.int) λy hy=>by obtain⟨i,_,rfl⟩:=mM0.mp hy;exact⟨CO i,by rw[AQ];decide⟩
 rw[Nn];unfold sM;dsimp only;rw[e1];dsimp only;rw[e2];show R.ok (Er.val (.bl (((ys.map MV.int).map λy=>decide (y=.int d)).any id))) S=_;congr 3;rw[Bool.eq_iff_iff,decide_eq_true_iff,any_eq_true];constructor
 .rintro⟨b,hb,e⟩;obtain⟨y,hy,rfl⟩:=mM0.mp hb;obtain⟨i,hi,rfl⟩:=mM0.mp hy;have:=of_decide_eq_true e;injection this with this
  rw[<-this];exact hi
 .intro h;exact⟨true,mM0.mpr ⟨.int d,mM0.mpr ⟨d,h,rfl⟩,dT0 rfl⟩,rfl⟩
def plR(as:Zg)(o:Ze)(S:zC):Option Nat->R Fl
 |none=>.ok (.next [some (.tup (as.map aM)),o]) S
 |some j=>.ok (.ret (.val (zH j))) S
theorem Hj{as:Zg}(h0: ∀a∈as,0<=a.1)(hl:as.length<=4)(S:zC): ∀(m k:Nat)(o:Ze),k+m=as.length-> ∃o',jC (xR 1) dH [] ((List.range' k m).map zH) [some (.tup (as.map aM)),o] S=plR as o' S (uO ((as.take k).map λa=>a.1.toNat) (as.drop k) k)
 |0,k,o,hk=>⟨o,by rw[List.drop_of_length_le (by omega)];rfl⟩
 |m+1,k,o,hk=>by
  have hki:k<as.length:=by omega
  obtain⟨c,hc⟩: ∃c,as[k]? =some c:=⟨_,gE hki⟩
  have hcm:=mem_of_getElem? hc;have hd:as.drop k=c::as.drop (k+1):=by rw[List.drop_eq_getElem_cons hki];rw[gE hki]at hc;rw[Option.some.inj hc]
  have hix:wN (.val (.tup (as.map aM))) (.val (zH k)) S=.ok (.val (aM c)) S:=ix_tup (lU (by rw[getElem?_map,hc];rfl));have hcut:fQ (.val (.tup (as.map aM))) none (some (k:Int)) S=.ok (.val (.tup ((as.take k).map aM))) S:=by rw[map_take, <-toNat_natCast k, <-aH _ (k:Int) (by omega),toNat_natCast];rfl
  have hit:Jp (.val (.tup ((as.take k).map aM))) S=.ok ⟨(as.take k).map aM,[]⟩ S:=rfl;have hlt:((as.take k).map aM).length<1000000:=by rw[lM0,lT];omega
  have hco:xN (xR 0) pT pU [none] [] ((as.take k).map aM) S=.ok (((as.take k).map λa=>a.1).map MV.int) S:=by rw[map_map];exact aC (yX _) λa _=>⟨[some (aM a)],rfl,rfl,rfl⟩
  have hb: ∀a b:Option MV,BF 1 [] [a,b]=[none]:=λ_ _=>rfl
  have hmem:(c.1∈(as.take k).map λa=>a.1)↔c.1.toNat∈(as.take k).map λa=>a.1.toNat:=by
   rw[mM0,mM0];constructor
   .rintro⟨a,ha,e⟩;exact⟨a,ha,by rw[e]⟩
   .rintro⟨a,ha,e⟩;have h1:=h0 a (mem_of_mem_take ha);have h2:=h0 c hcm;exact⟨a,ha,by omega⟩
  rw[hd,range'_succ,map_cons];unfold uO;by_cases hin:c.1.toNat∈(as.take k).map λa=>a.1.toNat
  .rw[iP hin];refine⟨none,WB (ρ0:=[some (.tup (as.map aM)),some (zH k)]) (S0:=S) rfl ?_⟩;unfold dH nY;simp? [hix,show∀S:zC,wN (.val (aM c)) (.val (.int 0)) S=.ok (.val (.int c.1)) S from λ_=>rfl,hcut,hit,hlt,hb,hco,YM,dT0 (hmem.mpr hin)]
  .rw[iN0 hin];obtain⟨o',e⟩:=Hj h0 hl S m (k+1) (some (zH k)) (by omega);refine⟨o',?_⟩;rw[yE (ρ0:=[some (.tup (as.map aM)),some (zH k)]) (S0:=S) rfl (by unfold dH nY;simp? [hix,show∀S:zC,wN (.val (aM c)) (.val (.int 0)) S=.ok (.val (.int c.1)) S from λ_=>rfl,hcut,hit,hlt,hb,hco,YM,dF0 (λz=>hin (hmem.mp z)),fT,iF];rfl) (yX _),e];rw[List.take_add_one,hc,map_append];rfl
def Hw:Option Nat->MV
 |none=>.non
 |some j=>zH j
def Hk{as:Zg}(h0: ∀a∈as,0<=a.1)(hl:as.length<=4)(S:zC):yB 1 fX [.val (.tup (as.map aM))] S=.ok (.val (Hw (uO [] as 0))) S:=by
 obtain⟨o',e⟩:=Hj h0 hl S as.length 0 none (by omega);rw[List.take_zero,drop_zero,map_nil]at e;have e1:jT [some (.tup (as.map aM)),none] S=plR as o' S (uO [] as 0):=by unfold jT;simp? [uG,lM0,EA (n:=as.length) (by omega)];rw[List.range_eq_range'];exact e
 have hF:yU (qZ [some (.tup (as.map aM)),none] S)=.ok (.val (Hw (uO [] as 0))) (S++[]):=by
  rw[aN];unfold qZ
  cases hr:uO [] as 0 with
  |none=>
   rw[hr]at e1;rw[zD (show jT [some (.tup (as.map aM)),none] S=.ok (.next [some (.tup (as.map aM)),o']) S from e1)];rfl
  |some j=>
   rw[hr]at e1;rw[qG (show jT [some (.tup (as.map aM)),none] S=.ok (.ret (.val (zH j))) S from e1)];rfl
 refine cB (T:=[]) rfl hF ?_ (λl=>?_)
 .cases uO [] as 0 with
  |none=>exact BM _
  |some j=>exact cA _ _
 .cases uO [] as 0<;>intro z<;>cases z
def UU{B L:zC}{m:Nat}{o:MO}(h:B[m]? =some o):(B++L)[m]? =some o:=by rw[getElem?_append_left (gS.mp h).1];exact h
def Hl(S:zC)(a b:MO):(S++[a,b])[S.length+1]? =some b:=by simp
def Tv(S:zC)(a b c:MO):(S++[a,b,c])[S.length+2]? =some c:=by simp
def Tw(a b c d:MV)(S:zC):bX [.val a,.val b,.val c,.val d] S=.ok (.new [a,b,c,d]) S:=qH (by simp)
theorem Bc{n:Nat}{F:List MV->zC->R Er}{rs:List Er}{S S2:zC}{d:MV}(hn:rs.length=n)(hF:F (zS rs S).1 (zS rs S).2=.ok (.val d) S2)(hd: ∀l,d≠.loc l)(h: ¬lo S.length d):yB n F rs S=.ok (.val d) S2:=by
 unfold yB;rw[iP hn,hF];show dR S (.val d) S2=_;unfold dR;split
 .split
  .rename_i l e;cases e;exact absurd rfl (hd l)
  .rename_i e;cases e;rw[iN0 h]
  .rename_i e;cases e
 .rfl
def YN:("Double":Str)∈XNS:=by decide
section
variable{l j:Nat}{fs:List (Str×MV)}{S:zC}
def Hm(h:S[l]? =some (.ins "Double" fs))(c:Str):qI XNS c (.val (.loc l)) S=.ok (.val (.bl (decide (("Double":Str)=c)))) S:=by unfold qI;dsimp only;rw[h];dsimp only;rw[iP YN]
def Xj(h:S[l]? =some (.ins "Double" fs)):Du XNS (.val (.loc l)) S=.ok (.val (.bl true)) S:=by unfold Du;dsimp only;rw[h];dsimp only;rw[iP YN]
theorem Xk(h:S[l]? =some (.ins "Double" (NQ j))):Af XNS "place" (.val (.loc l)) S=.ok (.val (zH j)) S:=by unfold Af;dsimp only;rw[h];dsimp only;rw[iP YN];rfl
end
abbrev bq(x:Str):MV:=.bl (decide (("Double":Str)=x))
abbrev K4:List MV:=[bq "Double",bq "Ring",bq "NotPlain",bq "TooGreat"]
abbrev K8:List MV:=[bq "NoText",bq "NoPlace",bq "NoTable",bq "NoRule"]
abbrev Xl:List MV:=[bq "NoRow",bq "Twice",bq "NoQuestion",bq "TooWide"]
theorem Xm:K4++K8++Xl=(List.range 12).map λk=>MV.bl (decide (k=0)):=rfl
theorem kinds_ok{S:zC}{n:Nat}{fs:List (Str×MV)}(h:S[n]? =some (.ins "Double" fs)):yB 1 dG [.val (.loc n)] S=.ok (.new [zH 0]) S:=by
 have H: ∀(L:zC)(c2:Str),qI XNS c2 (.val (.loc n)) (S++L)=.ok (.val (bq c2)) (S++L):=λL c2=>Hm (UU h) c2;have H0: ∀c2:Str,qI XNS c2 (.val (.loc n)) S=.ok (.val (bq c2)) S:=λc2=>Hm h c2;have l1: ∀a,(S++[a]).length=S.length+1:=λa=>by rw[lA];rfl
 have l2: ∀a b,(S++[a,b]).length=S.length+2:=λa b=>by rw[lA];rfl
 have e1:lO [some (.loc n),none] S=.ok (.next [some (.loc n),some (.loc S.length)]) (S++[.lst K4]):=by unfold lO;simp? [H0,Tw]
 have a2:xU (.val (.loc S.length)) (.new K8) (S++[.lst K4])=.ok (.new (K4++K8)) (S++[.lst K4]):=MA (MD (zP _ _)) rfl (fits (show 4+4<=1000000 by decide));have e2:lP [some (.loc n),some (.loc S.length)] (S++[.lst K4])=.ok (.next [some (.loc n),some (.loc (S.length+1))]) (S++[.lst K4,.lst (K4++K8)]):=by unfold lP;simp? [H,Tw,a2,l1,aA];rfl
 have a3:xU (.val (.loc (S.length+1))) (.new Xl) (S++[.lst K4,.lst (K4++K8)])=.ok (.new (K4++K8++Xl)) (S++[.lst K4,.lst (K4++K8)]):=MA (MD (Hl _ _ _)) rfl (fits (show 8+4<=1000000 by decide));have e3:lQ [some (.loc n),some (.loc (S.length+1))] (S++[.lst K4,.lst (K4++K8)])=.ok (.next [some (.loc n),some (.loc (S.length+2))]) (S++[.lst K4,.lst (K4++K8),.lst (K4++K8++Xl)]):=by unfold lQ;simp? [H,Tw,a3,l2];rw[aA];rfl
 obtain⟨T,hT⟩: ∃T:zC,T=[.lst K4,.lst (K4++K8),.lst (K4++K8++Xl)]:=⟨_,rfl⟩
 have hl:(S++T)[S.length+2]? =some (.lst ((List.range 12).map λk=>MV.bl (decide (k=0)))):=by rw[<-Xm,hT];exact Tv _ _ _ _
 rw[<-hT]at e3
 have hc:xN (xR 0) hX nX [none,some (.loc (S.length+2))] [] ((List.range 12).map zH) (S++T)=.ok [zH 0] (S++T):=by
  have:=lV (f:=zH) (g:=zH) (p:=λk=>decide (k=0)) (gf:=xR 0) (cf:=hX) (ef:=nX) (ρb:=[none,some (.loc (S.length+2))]) (yX (S++T)) (ds:=List.range 12) λk hk=>⟨[some (zH k),some (.loc (S.length+2))],rfl,by have hix:wN (.val (.loc (S.length+2))) (.val (zH k)) (S++T)=.ok (.val (.bl (decide (k=0)))) (S++T):=eG hl (lU (by rw[getElem?_map,List.getElem?_range (mem_range.mp hk)];rfl));unfold hX;simp? [hix],rfl⟩
  rw[this];rfl
 refine kU (T:=T) rfl ?_ (wI λd hd=>by rw[mS.mp hd];exact cA _ _);show yU (qY [some (.loc n),none] S)=_;unfold qY;rw[zD e1,zD e2,zD e3];unfold tM;have r12:kA [.val (.int 12)] (S++T)=.ok ⟨(List.range 12).map zH,[]⟩ (S++T):=EA (n:=12) (by decide) _;simp? [r12,show((List.range 12).map zH).length<1000000 by decide,show∀a b:Option MV,BF 1 [1] [a,b]=[none,b]from λ_ _=>rfl,hc];rfl
abbrev RF(w:Nat)(ts:Tk)(q i:MV)(f e:Ze):zK:=[some (zH w),some (.tup (ts.map tbl)),some q,some i,f,e]
section
variable{ts:Tk}{q i:MV}{w:Nat}{S:zC}
def Oz:aB (RF w ts q i none none) S=.ok (.next (RF w ts q i (some (.tup [])) none)) S:=by unfold aB;simp? [show dQ [] S=.ok (.val (.tup [])) S from rfl]
theorem Hn{r:Er}(h:xH 4 xD [.val (zH w),.val (.tup (ts.map tbl)),.val q,.val i] S=.ok r S):yB 4 kM [.val (zH w),.val (.tup (ts.map tbl)),.val q,.val i] S=.ok (.val (.tup [])) S:=by
 refine cB (T:=[]) rfl ?_ (dW (wI λd hd=>by simp at hd)) (λl=>by simp);rw[aN];show yU (jU (RF w ts q i none none) S)=_;have e2:kL (RF w ts q i (some (.tup [])) none) S=.ok (.next (RF w ts q i (some (.tup [])) none)) S:=by unfold kL;simp? [xG,h];rfl
 unfold jU;rw[zD Oz,zD e2];rfl
abbrev HA(l j:Nat):MV:=.tup [.loc l,.bl true,zH j,.bl false]
def Np{j:Nat}(h:xH 4 xD [.val (zH w),.val (.tup (ts.map tbl)),.val q,.val i] S=.exc "Double" (NQ j) S):yB 4 kM [.val (zH w),.val (.tup (ts.map tbl)),.val q,.val i] S=.ok (.val (HA (S.length+1) j)) (S++[.ins "Double" (NQ j),.lst [zH 0]]):=by
 obtain⟨S1,hS1⟩: ∃S1:zC,S1=S++[.ins "Double" (NQ j)]:=⟨_,rfl⟩
 obtain⟨S2,hS2⟩: ∃S2:zC,S2=S++[.ins "Double" (NQ j),.lst [zH 0]]:=⟨_,rfl⟩
 have h1:S1[S.length]? =some (.ins "Double" (NQ j)):=by rw[hS1];exact zP _ _
 have h2:S2[S.length]? =some (.ins "Double" (NQ j)):=by rw[hS2];simp
 have hl1:S1.length=S.length+1:=by rw[hS1,lA];rfl
 have ht:dQ [.new [zH 0],.val (.bl true)] S1=.ok (.val (.tup [.loc (S.length+1),.bl true])) S2:=by rw[<-hl1,hS2,show S++[MO.ins "Double" (NQ j),.lst [zH 0]]=S1++[.lst [zH 0]] by rw[hS1,aA];rfl];exact iP (fits (show 2<=1000000 by decide))
 have hH:nZ (RF w ts q i (some (.tup [])) (some (.loc S.length))) S1=.ok (.next (RF w ts q i (some (HA (S.length+1) j)) (some (.loc S.length)))) S2:=by
  have e1:bO (RF w ts q i (some (.tup [])) (some (.loc S.length))) S1=.ok (.next (RF w ts q i (some (.tup [.loc (S.length+1),.bl true])) (some (.loc S.length)))) S2:=by unfold bO;simp? [kinds_ok h1,Xj h1,ht]
  have e2:bP (RF w ts q i (some (.tup [.loc (S.length+1),.bl true])) (some (.loc S.length))) S2=.ok (.next (RF w ts q i (some (HA (S.length+1) j)) (some (.loc S.length)))) S2:=by unfold bP;simp? [Hm h2,decide_true,show∀b S,FM (.val (.bl b)) S=.ok b S from λ_ _=>rfl,Xk h2,Ta,tup2,VY (S:=S2) (x:=[.loc (S.length+1),.bl true]) (y:=[zH j,.bl false]) (fits (show 2+2<=1000000 by decide))];rfl
  unfold nZ;rw[zD e1];exact e2
 have e2:kL (RF w ts q i (some (.tup [])) none) S=.ok (.next (RF w ts q i (some (HA (S.length+1) j)) none)) S2:=by unfold kL;simp? [xG,h];unfold PD;dsimp only;rw[iP YN, <-hS1];simp only[List.set_cons_zero,List.set_cons_succ];rw[hH];rfl
 refine Bc rfl ?_ (λl z=>by cases z) (λz=>?_)
 .show yU (jU (RF w ts q i none none) S)=_;unfold jU;rw[zD Oz,zD e2, <-hS2];rfl
 .have:=z;simp[lo,uV]at this;omega
end
theorem Tx{S:zC}{a b j:Nat}(ha:S[a]? =some (.lst [zH 0]))(hb:S[b]? =some (.lst [zH 0])):Ct (.val (HA a j)) (.val (HA b j)) S=.ok (.val (.bl false)) S:=by
 have hl: ∀n,eqv S (n+2) (.loc a) (.loc b)=some true:=λn=>by show(HP S (.val (.loc a))).bind _=_;rw[show HP S (.val (.loc a))=some (.ls [zH 0])from show(hG S (.val (.loc a))).map Vw.ls=_ by rw[iH ha];rfl];show(HP S (.val (.loc b))).bind _=_;rw[show HP S (.val (.loc b))=some (.ls [zH 0])from show(hG S (.val (.loc b))).map Vw.ls=_ by rw[iH hb];rfl];show Jr (eqv S (n+1)) (.ls [zH 0]) (.ls [zH 0])=_;rw[LS,iP rfl];unfold vM;rw[mT];rfl
 refine TJ (k:=true) ?_;show Jr (eqv S zT) (.tp [.loc a,.bl true,zH j,.bl false]) (.tp [.loc b,.bl true,zH j,.bl false])=_;rw[LR];unfold vM vM vM vM;rw[show eqv S zT (.loc a) (.loc b)=some true from hl (zT - 2),show eqv S zT (.bl true) (.bl true)=some true from Dp _ _ _,show eqv S zT (zH j) (zH j)=some (decide ((j:Int)=j))from mT _ _ _,show eqv S zT (.bl false) (.bl false)=some true from Dp _ _ _,dT0 rfl];rfl
theorem YO(ns:Ya)(k:Int)(hk:0<=k)(S:zC): ∃c,yB 2 zW [.val (.scr (ns.map MV.int)),.val (.int k)] S=.ok (.val (.int c)) S:=by
 have hlen:mG [.val (.scr (ns.map MV.int))] S=.ok (.val (.int ns.length)) S:=by show R.ok (Er.val (.int (((ns.map MV.int).length:Nat):Int))) S=_;rw[lM0]
 have e1:nE [some (.scr (ns.map MV.int)),some (.int k)] S=if decide (k<ns.length)=true then(wN (.val (.scr (ns.map MV.int))) (.val (.int k)) S).bind λr S1=>.ok (.ret r) S1 else .ok (.next [some (.scr (ns.map MV.int)),some (.int k)]) S:=by unfold nE;simp? [hlen,lt_int]
 have fin: ∀c,zW [.scr (ns.map MV.int),.int k] S=.ok (.val (.int c)) S-> ∃c,yB 2 zW [.val (.scr (ns.map MV.int)),.val (.int k)] S=.ok (.val (.int c)) S:=λc h=>⟨c,pK rfl h (cA _ _) (λl=>by simp)⟩
 have hs:yD ["_law_script","_law_k"] [.scr (ns.map MV.int),.int k]=[some (.scr (ns.map MV.int)),some (.int k)]:=rfl;by_cases hlt:k<ns.length
 .obtain⟨d,hd⟩:=vR (xs:=ns.map MV.int) (i:=k) hk (by rw[lM0];exact hlt);obtain⟨c,rfl⟩: ∃c,d=.int c:=vS (P:=λd=> ∃c,d=.int c) (λe he=>by obtain⟨c,_,rfl⟩:=mM0.mp he;exact⟨c,rfl⟩) hd;have hix:wN (.val (.scr (ns.map MV.int))) (.val (.int k)) S=.ok (.val (.int c)) S:=by show(match tY (ns.map MV.int) k with |some d=>R.ok (Er.val d) S|none=>.no)=_;rw[hd]
  refine fin c ?_;rw[dT0 hlt,iP rfl,hix,dP]at e1;unfold zW iU;rw[hs,qG e1];rfl
 .refine fin 0 ?_;rw[dF0 hlt,iN0 xF0]at e1;unfold zW iU;rw[hs,zD e1];rfl
theorem HB: ∀{o:Zd},(∀y∈o, ∃i:Int,y=.int i)-> ∃ys:List Int,o=ys.map MV.int
 |[],_=>⟨[],rfl⟩
 |a::o,h=>by obtain⟨x,rfl⟩:=h a mF0;obtain⟨ys,rfl⟩:=HB λy hy=>h y (mO _ hy);exact⟨x::ys,rfl⟩
abbrev LW(sc:Zd)(a b c d e f g h i j k:Ze):zK:=[some (.scr sc),a,b,c,d,e,f,g,h,i,j,k]
abbrev LX(sc:Zd)(ts:Tk)(e f g h i j k:Ze):zK:=LW sc (some (.loc 0)) (some (.tup (ts.map tbl))) (some (.loc 1)) (some (.loc 2)) e f g h i j k
abbrev LL(sc:Zd)(ts:Tk)(hs:Ch)(as bs:Zg)(P:MV)(w n d:Ze):zK:=LX sc ts (some (qM hs as)) (some (.loc 3)) (some (qM hs bs)) (some P) w n d
section
variable{ns:Ya}{ts:Tk}{hs:Ch}{as bs:Zg}
def Nq(Q:QOk ts as)(A:A4 ts bs)(hab:as.length<=bs.length){w:Nat}(hw:w<3)(n d:Ze)(U:zC):
  ∃U' n' d',rB (LL (ns.map MV.int) ts hs as bs (Hw (uO [] bs 0)) (some (zH w)) n d) U=.ok (.next (LL (ns.map MV.int) ts hs as bs (Hw (uO [] bs 0)) (some (zH w)) n' d')) U':=by
 obtain⟨sc,hsc⟩: ∃sc,sc=ns.map MV.int:=⟨_,rfl⟩
 obtain⟨c9,hc9⟩:=YO ns 9 (by decide) U;rw[<-hsc]at hc9 ⊢;have hne:=Q.ne;obtain⟨m,hm⟩: ∃m:Nat,(m:Int)=(c9 / 3+(w:Int)) % (as.length:Int):=⟨((c9 / 3+(w:Int)) % (as.length:Int)).toNat,by have:=eN0 (c9 / 3+(w:Int)) (show(as.length:Int)≠0 by omega);omega⟩
 have hml:m<as.length:=by have:=eL (c9 / 3+(w:Int)) (show(0:Int)<as.length by omega);omega
 have f1: ∀P:MV,CG (LL sc ts hs as bs P (some (zH w)) n d) U=.ok (.next (LL sc ts hs as bs P (some (zH w)) (some (zH m)) d)) U:=λP=>by unfold CG;simp? [hc9,yH (b:=3) (by decide) (by decide),GS,uG,lM0,mod_lit (b:=(as.length:Int)) (by omega), <-hm]
 obtain⟨r,hr⟩:=Hh (hs:=hs) Q hw hml U;have z0: ∀S:zC,Ct (.val (.tup [])) (.val (.tup [])) S=.ok (.val (.bl false)) S:=λS=>TJ (k:=true) rfl;have t0: ∀S:zC,dQ [] S=.ok (.val (.tup [])) S:=λ_=>rfl;have f2: ∀P:MV,CI (LL sc ts hs as bs P (some (zH w)) (some (zH m)) d) U=.ok (.next (LL sc ts hs as bs P (some (zH w)) (some (zH m)) d)) U:=λP=>by unfold CI;simp? [Hn hr,t0,z0,fT,iF]
 have f3: ∀P:MV,CK (LL sc ts hs as bs P (some (zH w)) (some (zH m)) d) U=.ok (.next (LL sc ts hs as bs P (some (zH w)) (some (zH m)) (some (.tup [])))) U:=λP=>by unfold CK;simp? [t0]
 cases hj:uO [] bs 0 with
 |none=>
  have Qb:QOk ts bs:=⟨λa ha=>(A.ok a ha).2,A.len,λa ha=>(A.ok a ha).1,by have:=Ou bs [] 0 nodup_nil hj;rwa [nil_append]at this,A.ne⟩
  obtain⟨r',hr'⟩:=Hh (hs:=hs) Qb hw (show m<bs.length by omega) U;have f4:pV (LL sc ts hs as bs .non (some (zH w)) (some (zH m)) (some (.tup []))) U=.ok (.next (LL sc ts hs as bs .non (some (zH w)) (some (zH m)) (some (.tup [])))) U:=by unfold pV;simp? [show∀S:zC,JQ (.val .non) (.val .non) S=.ok (.val (.bl false)) S from λ_=>rfl,fT,iF]
  have f5:pW (LL sc ts hs as bs .non (some (zH w)) (some (zH m)) (some (.tup []))) U=.ok (.next (LL sc ts hs as bs .non (some (zH w)) (some (zH m)) (some (.tup [])))) U:=by unfold pW;simp? [Hn hr',z0,fT,iF]
  refine⟨U,some (zH m),some (.tup []),?_⟩;show rB (LL sc ts hs as bs .non (some (zH w)) n d) U=_;unfold rB;rw[zD (f1 _),zD (f2 _),zD (f3 _),zD f4];exact f5
 |some j=>
  obtain⟨U1,hU1⟩: ∃U1:zC,U1=U++[.lst [zH 0]]:=⟨_,rfl⟩
  have f4:pV (LL sc ts hs as bs (zH j) (some (zH w)) (some (zH m)) (some (.tup []))) U=.ok (.next (LL sc ts hs as bs (zH j) (some (zH w)) (some (zH m)) (some (HA U.length j)))) U1:=by unfold pV;simp? [show∀S:zC,JQ (.val (zH j)) (.val .non) S=.ok (.val (.bl true)) S from λ_=>rfl,lst1,show dQ [.new [.int 0],.val (.bl true),.val (zH j),.val (.bl false)] U=.ok (.val (HA U.length j)) (U++[.lst [zH 0]])from iP (fits (show 4<=1000000 by decide))];rw[hU1]
  have hr':=Np (Nh (ts:=ts) (hs:=hs) A.len (λa ha=>(A.ok a ha).1) hj hw (zH m) U1);obtain⟨U2,hU2⟩: ∃U2:zC,U2=U1++[.ins "Double" (NQ j),.lst [zH 0]]:=⟨_,rfl⟩
  rw[<-hU2]at hr';have hne':=Tx (S:=U2) (a:=U1.length+1) (b:=U.length) (j:=j) (by rw[hU2];exact Hl _ _ _) (by rw[hU2];exact UU (by rw[hU1];exact zP _ _));have f5:pW (LL sc ts hs as bs (zH j) (some (zH w)) (some (zH m)) (some (HA U.length j))) U1=.ok (.next (LL sc ts hs as bs (zH j) (some (zH w)) (some (zH m)) (some (HA U.length j)))) U2:=by unfold pW;simp? [hr',hne',fT,iF]
  refine⟨U2,some (zH m),some (HA U.length j),?_⟩;show rB (LL sc ts hs as bs (zH j) (some (zH w)) n d) U=_;unfold rB;rw[zD (f1 _),zD (f2 _),zD (f3 _),zD f4];exact f5
theorem Ho(Q:QOk ts as)(A:A4 ts bs)(hab:as.length<=bs.length): ∀(ws:Db),(∀w∈ws,w<3)-> ∀(v n d:Ze)(U:zC),
  ∃U' v' n' d',jC (xR 9) rB [] (ws.map zH) (LL (ns.map MV.int) ts hs as bs (Hw (uO [] bs 0)) v n d) U=.ok (.next (LL (ns.map MV.int) ts hs as bs (Hw (uO [] bs 0)) v' n' d')) U'
 |[],_,v,n,d,U=>⟨U,v,n,d,rfl⟩
 |w::ws,h,v,n,d,U=>by obtain⟨U1,n1,d1,e1⟩:=Nq (ns:=ns) (hs:=hs) Q A hab (h w mF0) n d U;obtain⟨U',v',n',d',e⟩:=Ho Q A hab ws (λz hz=>h z (mO _ hz)) (some (zH w)) n1 d1 U1;refine⟨U',v',n',d',?_⟩;rw[map_cons,yE (ρ0:=LL (ns.map MV.int) ts hs as bs (Hw (uO [] bs 0)) (some (zH w)) n d) (S0:=U) rfl e1 (yX _)];exact e
end
theorem Hq(ns:Ya)(h:ns.length<=63): ∃S,QJ [.scr (ns.map MV.int)] []=.ok (.val (.bl true)) S:=by
 obtain⟨sc,hsc⟩: ∃sc,sc=ns.map MV.int:=⟨_,rfl⟩
 have cell: ∀(k:Int),0<=k-> ∀S, ∃c,yB 2 zW [.val (.scr sc),.val (.int k)] S=.ok (.val (.int c)) S:=λk hk S=>by rw[hsc];exact YO ns k hk S
 rw[<-hsc];obtain⟨c0,hc0⟩:=cell 0 (by decide) [];obtain⟨ws,hw6,_,hws⟩:=Gy c0 [];obtain⟨S1,hS1⟩: ∃S1:zC,S1=[.lst (ws.map MV.str)]:=⟨_,rfl⟩
 have f1:MP (LW sc none none none none none none none none none none none) []=.ok (.next (LW sc (some (.loc 0)) none none none none none none none none none none)) S1:=by unfold MP;simp? [hc0,hws];rw[hS1];rfl
 obtain⟨c1,hc1⟩:=cell 1 (by decide) S1;obtain⟨ts,⟨ht1,ht4⟩,hts,htb⟩:=Ay c1 S1;have f2:MQ (LW sc (some (.loc 0)) none none none none none none none none none none) S1=.ok (.next (LW sc (some (.loc 0)) (some (.tup (ts.map tbl))) none none none none none none none none none)) S1:=by unfold MQ;simp? [hc1,htb]
 obtain⟨c2,hc2⟩:=cell 2 (by decide) S1;have hw0:S1[0]? =some (.lst (ws.map MV.str)):=by rw[hS1];rfl
 have hcut:bU (ws.map MV.str) (some 4) none=(ws.drop 4).map MV.str:=by have:=CQ (ws.map MV.str) 4;rw[map_drop];exact this
 obtain⟨vs,hv1,_,hvs,hva⟩:=Az c2 (ws:=ws.drop 4) (by rw[length_drop,hw6]) S1;obtain⟨S2,hS2⟩: ∃S2:zC,S2=S1++[.lst vs]:=⟨_,rfl⟩
 have f3:MS (LW sc (some (.loc 0)) (some (.tup (ts.map tbl))) none none none none none none none none none) S1=.ok (.next (LW sc (some (.loc 0)) (some (.tup (ts.map tbl))) (some (.loc 1)) none none none none none none none none)) S2:=by unfold MS;simp? [hc2,oG hw0,hcut,hva];rw[hS2,hS1];rfl
 obtain⟨out,hco,hol,hom⟩:=sP (S:=S2) (gf:=xR 0) (cf:=KR) (ef:=CD) (ρb:=[none,some (.scr sc)]) (gs:=[]) (P:=λy=> ∃i:Int,y=.int i) (yX _) (ds:=(List.range 6).map zH) λd hd=>by obtain⟨k,hk,rfl⟩:=mM0.mp hd;obtain⟨c,hc⟩:=cell (3+(k:Int)) (by omega) S2;refine⟨[some (zH k),some (.scr sc)],.int c,rfl,rfl,?_,⟨c,rfl⟩⟩;unfold CD;simp? [hc]
 obtain⟨cs,rfl⟩:=HB hom;rw[lM0,lM0,length_range]at hol;obtain⟨S3,hS3⟩: ∃S3:zC,S3=S2++[.lst (cs.map MV.int)]:=⟨_,rfl⟩
 have hb: ∀a b c d e f g h i j k l:Option MV,BF 1 [0] [a,b,c,d,e,f,g,h,i,j,k,l]=[none,a]:=λ_ _ _ _ _ _ _ _ _ _ _ _=>rfl;have f4:MT (LW sc (some (.loc 0)) (some (.tup (ts.map tbl))) (some (.loc 1)) none none none none none none none none) S2=.ok (.next (LX sc ts none none none none none none none)) S3:=by unfold MT;simp? [Ti,show((List.range 6).map zH).length<1000000 by decide,hb,hco];rw[hS3,hS2,hS1];rfl
 have Wt:S3[0]? =some (.lst (ws.map MV.str)):=by rw[hS3,hS2,hS1];rfl
 have hv3:S3[1]? =some (.lst vs):=by rw[hS3,hS2,hS1];rfl
 have hc3:S3[2]? =some (.lst (cs.map MV.int)):=by rw[hS3,hS2,hS1];rfl
 have hl3:S3.length=3:=by rw[hS3,hS2,hS1];rfl
 have hxl:(ws.take 4).length=4:=by rw[lT,hw6];rfl
 have hx0:ws.take 4≠[]:=λz=>by rw[z]at hxl;cases hxl
 obtain⟨hs,as,Q,hq⟩:=He (lc:=2) (lv:=1) (xs:=ws.take 4) (ts:=ts) hc3 hol hx0 (by omega) hv3 hv1 hvs ht1 ht4 hts;have hcut2:bU (ws.map MV.str) none (some 4)=(ws.take 4).map MV.str:=by rw[aH _ 4 (by decide),map_take];rfl
 have f5:MU (LX sc ts none none none none none none none) S3=.ok (.next (LX sc ts (some (qM hs as)) none none none none none none)) S3:=by unfold MU;simp? [oG Wt,hcut2,hq]
 obtain⟨c9,hc9⟩:=cell 9 (by decide) S3;obtain⟨m,hm⟩: ∃m:Nat,(m:Int)=1+c9 % 3:=⟨(1+c9 % 3).toNat,by have:=eN0 c9 (show(3:Int)≠0 by decide);omega⟩
 have hm3:m<=3:=by have:=eL c9 (show(0:Int)<3 by decide);omega
 obtain⟨out2,hco2,_,hom2⟩:=sP (S:=S3) (gf:=xR 0) (cf:=KS) (ef:=CF) (ρb:=[none,some (.scr sc)]) (gs:=[]) (P:=λy=> ∃i:Int,y=.int i) (yX _) (ds:=(List.range m).map zH) λd hd=>by obtain⟨k,hk,rfl⟩:=mM0.mp hd;obtain⟨c,hc⟩:=cell (9+(k:Int)) (by omega) S3;refine⟨[some (zH k),some (.scr sc)],.int c,rfl,rfl,?_,⟨c,rfl⟩⟩;unfold CF;simp? [hc]
 obtain⟨ms,rfl⟩:=HB hom2;obtain⟨S4,hS4⟩: ∃S4:zC,S4=S3++[.lst (ms.map MV.int)]:=⟨_,rfl⟩
 have f6:MW (LX sc ts (some (qM hs as)) none none none none none none) S3=.ok (.next (LX sc ts (some (qM hs as)) (some (.loc 3)) none none none none none)) S4:=by unfold MW;simp? [hc9,mod_lit (show(0:Int)<3 by decide), <-hm,EA (n:=m) (by omega),show((List.range m).map zH).length<1000000 by rw[lM0,length_range];omega,hb,hco2];rw[hS4,hl3]
 have old: ∀{k o},S3[k]? =some o->S4[k]? =some o:=λh=>by rw[hS4];exact UU h
 obtain⟨bs,A,hab,hmo⟩:=Nl (hs:=hs) (lc:=3) (lv:=1) (cs:=ms) (xs:=ws.take 4) (S:=S4) (by rw[hS4, <-hl3];exact zP _ _) hx0 (old hv3) hv1 hvs hts ⟨Q.ne,Q.len,λa ha=>⟨Q.pos a ha,Q.at' a ha⟩⟩;have f7:MX (LX sc ts (some (qM hs as)) (some (.loc 3)) none none none none none) S4=.ok (.next (LX sc ts (some (qM hs as)) (some (.loc 3)) (some (qM hs bs)) none none none none)) S4:=by unfold MX;simp? [oG (old Wt),hcut2,hmo]
 have f8:MY (LX sc ts (some (qM hs as)) (some (.loc 3)) (some (qM hs bs)) none none none none) S4=.ok (.next (LL sc ts hs as bs (Hw (uO [] bs 0)) none none none)) S4:=by unfold MY;simp? [GS,Hk (λa ha=>(A.ok a ha).1) A.len]
 obtain⟨U',w',n',d',e9⟩:=Ho (ns:=ns) (hs:=hs) Q A hab [0,1,2] (λw hw=>by simp at hw;omega) none none none S4;rw[<-hsc]at e9;have f9:MZ (LL sc ts hs as bs (Hw (uO [] bs 0)) none none none) S4=.ok (.next (LL sc ts hs as bs (Hw (uO [] bs 0)) w' n' d')) U':=by unfold MZ;simp? [show kA [.val (.int 3)] S4=.ok ⟨([0,1,2]:Db).map zH,[]⟩ S4 from EA (n:=3) (by decide) _];exact e9
 refine⟨U',?_⟩;show yU (Fn (LW sc none none none none none none none none none none none) [])=_;unfold Fn;rw[zD f1,zD f2,zD f3,zD f4,zD f5,zD f6,zD f7,zD f8,zD f9];rfl
section
variable{P:Program}{w:World}{K:Zb}{mg:Yg}{base:Heap}
abbrev Ug(xl:Nat->Addr):List (Str×Addr):=[("TooGreat",xl 0),("NoText",xl 1),("NoPlace",xl 2),("NotPlain",xl 3),("NoTable",xl 4),("NoRule",xl 5),("NoRow",xl 6),("Twice",xl 7),("NoQuestion",xl 8),("Double",xl 9),("TooWide",xl 10),("Ring",xl 11)]
def EB{xl:Nat->Addr}:((Ug xl).map (·.1)).Nodup:=show XNS.Nodup from by decide
def top(i:Nat):Stmt:=PySem.Challenge.pw_mendsure_k60_a_table_twice.main.body.getD i (.Pass ⟨0,0,0,0⟩)
abbrev pY:Stmt:=inClass (top 11) 0
def UV:FnScope ["self","place"] ["self","place"] (zI pY):=fsK (by decide+kernel)
abbrev vC:Stmt:=top 15
def oH:FnScope uZ ["atoms"] (zI vC):=fsK (by decide+kernel)
def RM(D:DefM K mg "names_in" vC)(rL:mg "list"=none):(Lm P w K mg base) "names_in" 1 1 ["atoms"] dY:=
 by have h:=JY (P:=P) (w:=w) (base:=base) D (λ_ _ _ _ _ _ us hl=>match us,hl with |[_],_=>rfl) λf fd F=>HX (k:=0) _ F oH λcdv A outer s H E hr=>(zG (zN 1 oH.nd FV) (zG (wH PassesOwn.never rfl (Si (zA 0)) (yF 2 oH.nd) (zM (wH PassesOwn.never rfl (FN (yC (zA 2) zE)) (yF 3 oH.nd) (zM (kO (mR hr.units (yC (zA 3) zE) (qE [118,97,114])) (zM (sG rN (EL (zA 1) (yC (zA 3) zE)))) xF))))) (zM (yM (wK GE (PX rfl) rfl rL LZ (zB (zA 1) zF))))))
    exact h
abbrev gU:Stmt:=top 17
def wR:FnScope fK ["question"] (zI gU):=fsK (by decide+kernel)
def tS(D:DefM K mg "check_tables_once" gU){xM:Addr}{xl:Nat->Addr}(XT:XTab K mg xM (Ug xl))(aX:mg "enumerate"=none){f_Double:Addr}{fdI_Double:FuncData}(y_Double:XIn K xM (xl 9) f_Double)(GI_Double:FnOk P w K mg base FE 1 f_Double fdI_Double ["self","place"] (WL (xl 9) "place"))(bI_Double:Binds K fdI_Double ["self","place"] []):(En P w K mg base) "check_tables_once" 3 1 ["question"] yL:=
 by have h:=Eo (P:=P) (w:=w) (base:=base) D (λ_ _ _ _ _ _ us hl=>match us,hl with |[_],_=>rfl) λf fd F=>Wo (k:=2) _ F wR λcdv A outer s H E hr=>(zG (zN 1 wR.nd FV) (zM (wH PassesOwn.leaving rfl (Kv rfl aX (zB (yC (zA 0) zE) zF)) (BE (n:=2) rfl (bD (yF 2 wR.nd) (bD (yF 3 wR.nd) BD))) (zG (kO (Su (yC (zA 3) zE) (zA 1)) (zM (Ae uU rfl (XT.each.at t9M).1 XT.mc y_Double GI_Double bI_Double hr (zA 2))) xF) (zM (sG rN (EL (zA 1) (yC (zA 3) zE))))))))
    exact h
abbrev fY:Stmt:=top 18
def IG:FnScope ["question","atom"] ["question","atom"] (zI fY):=fsK (by decide+kernel)
def IH(D:DefM K mg "free_names" fY)(UX:(Lm P w K mg base) "names_in" 1 1 ["atoms"] dY):(Lm P w K mg base) "free_names" 2 2 ["question","atom"] xP:=
 by have h:=JY (P:=P) (w:=w) (base:=base) D (λ_ _ _ _ _ _ us hl=>match us,hl with |[_,_],_=>rfl) λf fd F=>HX (k:=1) _ F IG λcdv A outer s H E hr=>(zM (yM (bE (zI fY) ["question","atom"] ["name"] [0] (jI (zU UX (hr.mono (by decide)) rfl (zB (kF (zB (zA 1) zF)) zF))) rfl (λ_ _ _ _ hN=>(wC 0 hN)) (λ_ _ _ _=>(qF (FQ hr.units (zA 0) (yC (zA 1) zE)))) (λ_ _ _ _=>(zA 0)))))
    exact h
abbrev tT:Stmt:=top 19
def AT:FnScope DI mV (zI tT):=fsK (by decide+kernel)
def NT(D:DefM K mg "key_names" tT)(dO:(Lm P w K mg base) "free_names" 2 2 ["question","atom"] xP):(Lm P w K mg base) "key_names" 3 3 mV bS:=
 by have h:=JY (P:=P) (w:=w) (base:=base) D (λ_ _ _ _ _ _ us hl=>match us,hl with |[_,_,_],_=>rfl) λf fd F=>HX (k:=2) _ F AT λcdv A outer s H E hr=>(zG (zN 3 AT.nd (yC (yC (zA 0) (yC (zA 2) zE)) zE)) (zM (yM (zU dO (hr.mono (by decide)) rfl (zB (zA 1) (zB (kP (zB (yC (zA 2) zE) (zB (gH (yC (zA 2) zE) kB (kC (zA 3))) zF))) zF))))))
    exact h
abbrev aD:Stmt:=top 20
def jV:FnScope iI ["tables","question","place"] (zI aD):=fsK (by decide+kernel)
def RN(D:DefM K mg "known_at" aD)(DQ:(Lm P w K mg base) "key_names" 3 3 mV bS)(DB:mg "dict"=none)(wF:mg "len"=none)(RQ:mg "all"=none)(dO:(Lm P w K mg base) "free_names" 2 2 ["question","atom"] xP):(Lm P w K mg base) "known_at" 4 3 ["tables","question","place"] nA:=
 by have h:=JY (P:=P) (w:=w) (base:=base) D (λ_ _ _ _ _ _ us hl=>match us,hl with |[_,_,_],_=>rfl) λf fd F=>HX (k:=3) _ F jV λcdv A outer s H E hr=>(zG (zN 3 jV.nd (yC (zA 1) zE)) (zG (zN 4 jV.nd (yN (gH (zA 3) kB (kC (zA 2))) (gH (zA 3) (kC (yN (zA 2) zE)) kB))) (zG (zN 5 jV.nd (wK KG (WR rfl) rfl DB WQ (zB (bE (zI aD) iI ["name"] [] (jI (zU DQ (hr.mono (by decide)) rfl (zB (zA 0) (zB (zA 1) (zB (yC (zA 3) (zA 2)) zF))))) rfl (λ_ _ _ _ hN=>(wC 0 hN)) (λ_ _ _ _=>bZ) (λ_ _ _ _=>(kP (zB (zA 0) (zB rN zF))))) zF))) (zG (zN 6 jV.nd Qs) (zG (OU 10000 PassesOwn.never (Cw hr.units (zA 6) (yI KL WT rfl wF jO (zB (zA 5) zF))) (zG (zN 6 jV.nd (yI KL WT rfl wF jO (zB (zA 5) zF))) (zM (wH PassesOwn.never rfl (FN (zA 4)) (yF 7 jV.nd) (zM (kO (pE (yI LK (Rb rfl) rfl RQ Rf (zB (bE (zI aD) iI ["name"] [5] (jI (zU DQ (hr.mono (by decide)) rfl (zB (zA 0) (zB (zA 1) (zB (zA 7) zF))))) rfl (λ_ _ _ _ hN=>(wC 0 hN)) (λ_ _ _ _=>bZ) (λ_ _ _ _=>(Ss (zA 0) (zA 1)))) zF))) (zM (kQ (Lw (zA 5) (zB (wK KG (WR rfl) rfl DB WQ (zB (bE (zI aD) iI ["name"] [] (jI (zU dO (hr.mono (by decide)) rfl (zB (zA 1) (zB (zA 7) zF)))) rfl (λ_ _ _ _ hN=>(wC 0 hN)) (λ_ _ _ _=>bZ) (λ_ _ _ _=>(kP (zB (zA 0) (zB rN zF))))) zF)) zF)))) xF)))))) (zM (yM (zA 5))))))))
    exact h
abbrev NU:Stmt:=top 21
def Hr:FnScope mV mV (zI NU):=fsK (by decide+kernel)
def Hs(D:DefM K mg "known" NU)(gV:(En P w K mg base) "check_tables_once" 3 1 ["question"] yL)(vD:(Lm P w K mg base) "known_at" 4 3 ["tables","question","place"] nA)(dN:mg "sorted"=none):(En P w K mg base) "known" 5 3 mV qX:=
 by have h:=Eo (P:=P) (w:=w) (base:=base) D (λ_ _ _ _ _ _ us hl=>match us,hl with |[_,_,_],_=>rfl) λf fd F=>Wo (k:=4) _ F Hr λcdv A outer s H E hr=>(zG (kQ (iB uU gV (hr.mono (by decide)) rfl (zB (zA 1) zF))) (zM (yM (yI GL (QH rfl) rfl dN uY (zB (zU vD (hr.mono (by decide)) rfl (zB (zA 0) (zB (zA 1) (zB (zA 2) zF)))) zF)))))
    exact h
abbrev gC:Stmt:=top 22
def AU:FnScope ["some","others"] ["some","others"] (zI gC):=fsK (by decide+kernel)
def AV(D:DefM K mg "have_in_common" gC)(RS:mg "any"=none):(Lm P w K mg base) "have_in_common" 1 2 ["some","others"] hW:=
 by have h:=JY (P:=P) (w:=w) (base:=base) D (λ_ _ _ _ _ _ us hl=>match us,hl with |[_,_],_=>rfl) λf fd F=>HX (k:=0) _ F AU λcdv A outer s H E hr=>(zM (yM (yI ML (Sv rfl) rfl RS Rg (zB (bE (zI gC) ["some","others"] ["name"] [1] (jI (zA 0)) rfl (λ_ _ _ _ hN=>(wC 0 hN)) (λ_ _ _ _=>bZ) (λ_ _ _ _=>(Wi hr.units (zA 0) (zA 1)))) zF))))
    exact h
abbrev bC:Stmt:=top 23
def xZ:FnScope oO ["tables","question","place"] (zI bC):=fsK (by decide+kernel)
def HC(D:DefM K mg "swayed_from" bC)(vD:(Lm P w K mg base) "known_at" 4 3 ["tables","question","place"] nA)(dO:(Lm P w K mg base) "free_names" 2 2 ["question","atom"] xP)(zY:mg "range"=none)(wF:mg "len"=none)(CY:(Lm P w K mg base) "have_in_common" 1 2 ["some","others"] hW)(rL:mg "list"=none):(Lm P w K mg base) "swayed_from" 5 3 ["tables","question","place"] aO:=
 by have h:=JY (P:=P) (w:=w) (base:=base) D (λ_ _ _ _ _ _ us hl=>match us,hl with |[_,_,_],_=>rfl) λf fd F=>HX (k:=4) _ F xZ λcdv A outer s H E hr=>(zG (zN 3 xZ.nd (zU vD (hr.mono (by decide)) rfl (zB (zA 0) (zB (zA 1) (zB (zA 2) zF))))) (zG (vL 4 xZ.nd (zI bC) oO ["atom"] [1,3] (FN (yC (zA 1) zE)) rfl (λ_ _ _ _ hN=>(wC 0 hN)) (λ_ _ _ _=>bZ) (λ_ _ _ _=>(bE (rlS ({kind:=PySem.ScopeKind.function,names:=[(PySem.Str.ofString ".0",PySem.NameKind.local),(PySem.Str.ofString "atom",PySem.NameKind.local),(PySem.Str.ofString "free_names",PySem.NameKind.globalImplicit),(PySem.Str.ofString "learnt",PySem.NameKind.free),(PySem.Str.ofString "question",PySem.NameKind.free)],isGenerator:=false,isCoroutine:=false,more:=[]:PySem.Scope}) (zI bC)) ["atom","question","learnt"] ["name"] [2] (jI (zU dO (hr.mono (by decide)) rfl (zB (zA 1) (zB (zA 0) zF)))) rfl (λ_ _ _ _ hN=>(wC 0 hN)) (λ_ _ _ _=>(qF (KE (zA 0) (zA 1)))) (λ_ _ _ _=>(zA 0))))) (zG (zN 5 xZ.nd (Aq (zA 2) rN)) (zG (zN 6 xZ.nd (kF (zB (zA 2) zF))) (zG (OU 10000 PassesOwn.never (pE (zA 6)) (zG (zN 7 xZ.nd (yC (zA 4) (Lz (zA 6)))) (zM (wH PassesOwn.never rfl (yT rfl zY (zB (yI xA bL rfl wF jO (zB (zA 4) zF)) zF)) (yF 8 xZ.nd) (zM (kO (Wc (Qt (KE (zA 8) (zA 5)) (Jk (pE (zU CY (hr.mono (by decide)) rfl (zB (zA 7) (zB (yC (zA 4) (zA 8)) zF))))))) (zG (sG rN (EL (zA 5) (zA 8))) (zM (kQ (bQ (zA 6) (zB (zA 8) zF))))) xF)))))) (zM (yM (wK GE (PX rfl) rfl rL LZ (zB (zA 5) zF)))))))))
    exact h
abbrev ER:Stmt:=top 24
def HD:FnScope MN ["tables","question"] (zI ER):=fsK (by decide+kernel)
def Ht(D:DefM K mg "sways" ER)(gV:(En P w K mg base) "check_tables_once" 3 1 ["question"] yL)(zY:mg "range"=none)(wF:mg "len"=none)(IT:(Lm P w K mg base) "swayed_from" 5 3 ["tables","question","place"] aO)(dN:mg "sorted"=none):(En P w K mg base) "sways" 6 2 ["tables","question"] fV:=
 by have h:=Eo (P:=P) (w:=w) (base:=base) D (λ_ _ _ _ _ _ us hl=>match us,hl with |[_,_],_=>rfl) λf fd F=>Wo (k:=5) _ F HD λcdv A outer s H E hr=>(zG (kQ (iB uU gV (hr.mono (by decide)) rfl (zB (zA 1) zF))) (zG (zN 2 HD.nd (kF zF)) (zG (wH PassesOwn.leaving rfl (yT rfl zY (zB (yI xA bL rfl wF jO (zB (yC (zA 1) zE) zF)) zF)) (yF 3 HD.nd) (zM (kQ (Ai (zA 2) (zB (bE (zI ER) MN ["b"] [3] (jI (zU IT (hr.mono (by decide)) rfl (zB (zA 0) (zB (zA 1) (zB (zA 3) zF))))) rfl (λ_ _ _ _ hN=>(wC 0 hN)) (λ_ _ _ _=>(qF (Cv hr.units (zA 0) (zA 1)))) (λ_ _ _ _=>(kP (zB (zA 1) (zB (zA 0) zF))))) zF))))) (zM (yM (yI (Ak hr.u128) Lp rfl dN uY (zB (zA 2) zF)))))))
    exact h
abbrev UW:Stmt:=top 25
def ES:FnScope Fj ["tables","question"] (zI UW):=fsK (by decide+kernel)
def Nr(D:DefM K mg "ring" UW)(OB:(En P w K mg base) "sways" 6 2 ["tables","question"] fV):(En P w K mg base) "ring" 7 2 ["tables","question"] CA:=
 by have h:=Eo (P:=P) (w:=w) (base:=base) D (λ_ _ _ _ _ _ us hl=>match us,hl with |[_,_],_=>rfl) λf fd F=>Wo (k:=6) _ F ES λcdv A outer s H E hr=>(zG (zN 2 ES.nd (iB uU OB (hr.mono (by decide)) rfl (zB (zA 0) (zB (zA 1) zF)))) (zG (wH PassesOwn.leaving rfl (jI (zA 2)) (BE (n:=2) rfl (bD (yF 3 ES.nd) (bD (yF 4 ES.nd) BD))) (zM (kO (Df hr.units (kP (zB (zA 4) (zB (zA 3) zF))) (zA 2)) (zM (yM (kF (zB (zA 3) (zB (zA 4) zF))))) xF))) (zM (yM SU))))
    exact h
abbrev lW:Stmt:=top 27
def EC:FnScope ["_law_script","_law_k"] ["_law_script","_law_k"] (zI lW):=fsK (by decide+kernel)
def ED(D:DefM K mg "_law_cell_at" lW)(wF:mg "len"=none):(Lm P w K mg base) "_law_cell_at" 1 2 ["_law_script","_law_k"] zW:=
 by have h:=JY (P:=P) (w:=w) (base:=base) D (λ_ _ _ _ _ _ us hl=>match us,hl with |[_,_],_=>rfl) λf fd F=>HX (k:=0) _ F EC λcdv A outer s H E hr=>(zG (kO (Cw hr.units (zA 1) (yI xA bL rfl wF jO (zB (zA 0) zF))) (zM (yM (yC (zA 0) (zA 1)))) xF) (zM (yM zE)))
    exact h
abbrev lX:Stmt:=top 28
def yY:FnScope sV ["_law_rest"] (zI lX):=fsK (by decide+kernel)
def EE(D:DefM K mg "_law_name_in" lX)(zY:mg "range"=none):(Lm P w K mg base) "_law_name_in" 1 1 ["_law_rest"] kI:=
 by have h:=JY (P:=P) (w:=w) (base:=base) D (λ_ _ _ _ _ _ us hl=>match us,hl with |[_],_=>rfl) λf fd F=>HX (k:=0) _ F yY λcdv A outer s H E hr=>(zG (zN 1 yY.nd (qE [97,98,99,100,101,102,103,104,105,106,107,108,109,110,111,112,113,114,115,116,117,118,119,120,121,122])) (zG (zN 2 yY.nd (yN zE (yG (zA 0) zE))) (zG (zN 0 yY.nd (yW (zA 0) zE)) (zG (zN 3 yY.nd (qE [])) (zG (wH PassesOwn.never rfl (yT rfl zY (zB (zA 2) zF)) (yF 4 yY.nd) (zG (zN 3 yY.nd (yN (zA 3) (yC (zA 1) (yG (zA 0) zE)))) (zM (zN 0 yY.nd (yW (zA 0) zE))))) (zM (yM (kP (zB (zA 3) (zB (zA 0) zF))))))))))
    exact h
abbrev kT:Stmt:=top 29
def zZ:FnScope cE ["_law_rest","_law_many"] (zI kT):=fsK (by decide+kernel)
def pZ(D:DefM K mg "_law_words_by_digits" kT)(zY:mg "range"=none)(lZ:(Lm P w K mg base) "_law_name_in" 1 1 ["_law_rest"] kI):(Lm P w K mg base) "_law_words_by_digits" 2 2 ["_law_rest","_law_many"] xQ:=
 by have h:=JY (P:=P) (w:=w) (base:=base) D (λ_ _ _ _ _ _ us hl=>match us,hl with |[_,_],_=>rfl) λf fd F=>HX (k:=1) _ F zZ λcdv A outer s H E hr=>(zG (zN 2 zZ.nd (kF zF)) (zG (wH PassesOwn.never rfl (yT rfl zY (zB (zA 1) zF)) (yF 3 zZ.nd) (zG (sG (zU lZ (hr.mono (by decide)) rfl (zB (zA 0) zF)) (BE (n:=2) rfl (bD (yF 4 zZ.nd) (bD (yF 0 zZ.nd) BD)))) (zG (wH PassesOwn.never rfl (Qv (qE [97,98,99,100,101,102,103,104,105,106])) (yF 5 zZ.nd) (zM (kO (Df hr.units (zA 4) (zA 2)) (zM (zN 4 zZ.nd (yN (gH (zA 4) kB (kC zE)) (zA 5)))) xF))) (zM (kQ (bQ (zA 2) (zB (zA 4) zF))))))) (zM (yM (zA 2)))))
    exact h
abbrev rE:Stmt:=top 30
def yP:FnScope AB ["_law_cell","_law_many"] (zI rE):=fsK (by decide+kernel)
def II(D:DefM K mg "_law_words" rE)(rK:(Lm P w K mg base) "_law_words_by_digits" 2 2 ["_law_rest","_law_many"] xQ)(zY:mg "range"=none):(Lm P w K mg base) "_law_words" 3 2 ["_law_cell","_law_many"] fW:=
 by have h:=JY (P:=P) (w:=w) (base:=base) D (λ_ _ _ _ _ _ us hl=>match us,hl with |[_,_],_=>rfl) λf fd F=>HX (k:=2) _ F yP λcdv A outer s H E hr=>(zG (kO (mR hr.units (yG (zA 0) zE) zE) (zM (yM (zU rK (hr.mono (by decide)) rfl (zB (yW (zA 0) zE) (zB (zA 1) zF))))) xF) (zG (zN 2 yP.nd (qE [97,98,99,100,101,102,103,104,105,106,107,108,109,110,111,112,113,114,115,116,117,118,119,120,121,122])) (zG (zN 0 yP.nd (yG (iG (yG (iG (zA 0) zE) zE) zE) zE)) (zG (zN 3 yP.nd (yN zE (yG (zA 0) zE))) (zG (zN 4 yP.nd (yG (yW (zA 0) zE) (zA 3))) (zG (zN 5 yP.nd (kF zF)) (zG (wH PassesOwn.never rfl (yT rfl zY (zB (zA 1) zF)) (yF 6 yP.nd) (zG (zN 7 yP.nd (qE [])) (zG (wH PassesOwn.never rfl (yT rfl zY (zB (zA 3) zF)) (yF 8 yP.nd) (zG (zN 9 yP.nd (yN (yW (zA 0) (yN zE (iG zE (zA 8)))) (iG (zA 8) (yG (yW (zA 0) zE) zE)))) (zG (kO (mR hr.units (zA 8) (zA 4)) (zM (zN 9 yP.nd (yN (zA 9) (iG zE (zA 6))))) xF) (zM (zN 7 yP.nd (yN (zA 7) (yC (zA 2) (yG (zA 9) zE)))))))) (zM (kQ (bQ (zA 5) (zB (zA 7) zF))))))) (zG (kO (mR hr.units (yG (yW (zA 0) zE) zE) zE) (zM (sG (yN (yC (zA 5) zE) (yC (zA 2) (yG (yW (zA 0) zE) zE))) (Rj (zA 5) zE))) xF) (zM (yM (zA 5)))))))))))
    exact h
abbrev rF:Stmt:=top 31
def xS:FnScope AC ["_law_cell","_law_many"] (zI rF):=fsK (by decide+kernel)
def IK(D:DefM K mg "_law_drawn" rF)(zY:mg "range"=none):(Lm P w K mg base) "_law_drawn" 1 2 ["_law_cell","_law_many"] yO:=
 by have h:=JY (P:=P) (w:=w) (base:=base) D (λ_ _ _ _ _ _ us hl=>match us,hl with |[_,_],_=>rfl) λf fd F=>HX (k:=0) _ F xS λcdv A outer s H E hr=>(zG (zN 2 xS.nd (kF zF)) (zG (kO (mR hr.units (yG (zA 0) zE) zE) (zG (zN 3 xS.nd (yW (zA 0) zE)) (zG (wH PassesOwn.never rfl (yT rfl zY (zB (zA 1) zF)) (yF 4 xS.nd) (zG (kQ (bQ (zA 2) (zB (yG (zA 3) zE) zF))) (zM (zN 3 xS.nd (yW (zA 3) zE))))) (zM (yM (zA 2))))) xF) (zG (zN 5 xS.nd (yN (yG (zA 0) zE) zE)) (zG (wH PassesOwn.never rfl (yT rfl zY (zB (zA 1) zF)) (yF 4 xS.nd) (zG (zN 5 xS.nd (yG (yN (yN (iG (zA 5) (zA 5)) (iG zE (zA 5))) (zA 4)) zE)) (zM (kQ (bQ (zA 2) (zB (yW (yG (iG (zA 5) zE) zE) zE) zF)))))) (zM (yM (zA 2)))))))
    exact h
abbrev pB:Stmt:=top 32
def jW:FnScope uM ["_law_cell"] (zI pB):=fsK (by decide+kernel)
def HE(D:DefM K mg "_law_tables" pB)(dM:(Lm P w K mg base) "_law_drawn" 1 2 ["_law_cell","_law_many"] yO)(RP:mg "int"=none)(HM:mg "min"=none)(bI:mg "tuple"=none):(Lm P w K mg base) "_law_tables" 2 1 ["_law_cell"] aP:=
 by have h:=JY (P:=P) (w:=w) (base:=base) D (λ_ _ _ _ _ _ us hl=>match us,hl with |[_],_=>rfl) λf fd F=>HX (k:=1) _ F jW λcdv A outer s H E hr=>(zG (zN 1 jW.nd (zU dM (hr.mono (by decide)) rfl (zB (zA 0) (zB zE zF)))) (zG (zN 2 jW.nd (kF zF)) (zG (wH PassesOwn.never rfl (jI (gH (zA 1) kB (kC (yN zE (yG (yC (zA 1) zE) zE))))) (yF 3 jW.nd) (zG (zN 4 jW.nd (yN (yN zE (yG (zA 3) zE)) (wK OX Ri rfl RP Rh (zB (Wh hr.units (yG (yW (zA 3) zE) zE) zE) zF)))) (zM (kQ (bQ (zA 2) (zB (kP (zB (zA 4) (zB (yI (IX rfl) Es rfl HM Et (zB (zA 4) (zB (yC (kF (zB zE (zB zE (zB zE (zB zE (zB zE (zB zE zF))))))) (yG (yW (zA 3) zE) zE)) zF))) zF))) zF)))))) (zM (yM (wK jB pH rfl bI pI (zB (zA 2) zF)))))))
    exact h
abbrev aR:Stmt:=top 33
def yA:FnScope oP ["_law_cell","_law_words_here"] (zI aR):=fsK (by decide+kernel)
def HF(D:DefM K mg "_law_values" aR)(zY:mg "range"=none)(lZ:(Lm P w K mg base) "_law_name_in" 1 1 ["_law_rest"] kI)(wF:mg "len"=none)(HM:mg "min"=none):(Lm P w K mg base) "_law_values" 2 2 ["_law_cell","_law_words_here"] aQ:=
 by have h:=JY (P:=P) (w:=w) (base:=base) D (λ_ _ _ _ _ _ us hl=>match us,hl with |[_,_],_=>rfl) λf fd F=>HX (k:=1) _ F yA λcdv A outer s H E hr=>(zG (kO (mR hr.units (yG (zA 0) zE) zE) (zG (zN 2 yA.nd (yW (zA 0) zE)) (zG (zN 3 yA.nd (yN zE (yG (zA 2) zE))) (zG (zN 2 yA.nd (yW (zA 2) zE)) (zG (zN 4 yA.nd (kF zF)) (zG (wH PassesOwn.never rfl (yT rfl zY (zB (zA 3) zF)) (yF 5 yA.nd) (zG (sG (zU lZ (hr.mono (by decide)) rfl (zB (yW (zA 2) zE) zF)) (BE (n:=2) rfl (bD (yF 6 yA.nd) (bD (yF 2 yA.nd) BD)))) (zG (kO (mR hr.units (yG (zA 2) zE) zE) (zG (zN 6 yA.nd (yN (BH (yG (yW (zA 2) zE) (BH (iG zE (FP zE zE)) zE)) (FP zE zE)) zE)) (zM (zN 2 yA.nd (yW (zA 2) (BH (iG zE (FP zE zE)) zE))))) xF) (zM (kO (FQ hr.units (zA 6) (zA 4)) (zM (kQ (bQ (zA 4) (zB (zA 6) zF)))) xF))))) (zM (yM (yN (zA 4) (gH (bE (zI aR) oP ["_law_word"] [4] (jI (zA 1)) rfl (λ_ _ _ _ hN=>(wC 0 hN)) (λ_ _ _ _=>(qF (FQ hr.units (zA 0) (zA 1)))) (λ_ _ _ _=>(zA 0))) kB (kC (BH zE (yI (IX rfl) Es rfl HM Et (zB zE (zB (yI xA bL rfl wF jO (zB (zA 4) zF)) zF)))))))))))))) xF) (zG (zN 7 yA.nd (yN (BH (yG (zA 0) (BH (iG zE (FP zE zE)) zE)) (FP zE zE)) zE)) (zG (zN 8 yA.nd (kF (zB (zA 7) (zB (yN (zA 7) zE) (zB (yC (zA 1) zE) (zB (yC (zA 1) zE) zF)))))) (zG (zN 9 yA.nd (yG (yW (zA 0) zE) zE)) (zM (yM (gH (yN (gH (zA 8) (kC (zA 9)) kB) (gH (zA 8) kB (kC (zA 9)))) kB (kC (yN zE (yG (zA 0) zE))))))))))
    exact h
abbrev tU:Stmt:=top 34
def NV:FnScope bR bR (zI tU):=fsK (by decide+kernel)
def NW(D:DefM K mg "_law_term" tU)(wF:mg "len"=none):(Lm P w K mg base) "_law_term" 1 3 bR bT:=
 by have h:=JY (P:=P) (w:=w) (base:=base) D (λ_ _ _ _ _ _ us hl=>match us,hl with |[_,_,_],_=>rfl) λf fd F=>HX (k:=0) _ F NV λcdv A outer s H E hr=>(zG (kO (mR hr.units (yG (zA 0) zE) zE) (zM (yM (kP (zB (qE [105,115]) (zB (yC (zA 2) (yG (yW (zA 0) zE) (yI xA bL rfl wF jO (zB (zA 2) zF)))) zF))))) xF) (zM (yM (kP (zB (qE [118,97,114]) (zB (yC (zA 1) (yG (yW (zA 0) zE) (yI xA bL rfl wF jO (zB (zA 1) zF)))) zF))))))
    exact h
abbrev fG:Stmt:=top 35
def kN:FnScope rV ["_law_atoms"] (zI fG):=fsK (by decide+kernel)
def CU(D:DefM K mg "_law_standing" fG)(dN:mg "sorted"=none):(Lm P w K mg base) "_law_standing" 1 1 ["_law_atoms"] bH:=
 by have h:=JY (P:=P) (w:=w) (base:=base) D (λ_ _ _ _ _ _ us hl=>match us,hl with |[_],_=>rfl) λf fd F=>HX (k:=0) _ F kN λcdv A outer s H E hr=>(zG (zN 1 kN.nd FV) (zG (wH PassesOwn.never rfl (jI (zA 0)) (BE (n:=2) rfl (bD (yF 2 kN.nd) (bD (yF 3 kN.nd) BD))) (zM (wH PassesOwn.never rfl (FN (zA 3)) (yF 4 kN.nd) (zM (kO (mR hr.units (yC (zA 4) zE) (qE [118,97,114])) (zM (sG rN (EL (zA 1) (yC (zA 4) zE)))) xF))))) (zM (yM (yI GL (QH rfl) rfl dN uY (zB (zA 1) zF))))))
    exact h
abbrev wM:Stmt:=top 36
def yQ:FnScope kW ["_law_cells","_law_tables_here","_law_names","_law_values_here"] (zI wM):=fsK (by decide+kernel)
def CV(D:DefM K mg "_law_question" wM)(wF:mg "len"=none)(zY:mg "range"=none)(dM:(Lm P w K mg base) "_law_drawn" 1 2 ["_law_cell","_law_many"] yO)(tX:(Lm P w K mg base) "_law_term" 1 3 bR bT)(bI:mg "tuple"=none)(EG:(Lm P w K mg base) "_law_standing" 1 1 ["_law_atoms"] bH):(Lm P w K mg base) "_law_question" 2 4 ["_law_cells","_law_tables_here","_law_names","_law_values_here"] kY:=
 by have h:=JY (P:=P) (w:=w) (base:=base) D (λ_ _ _ _ _ _ us hl=>match us,hl with |[_,_,_,_],_=>rfl) λf fd F=>HX (k:=1) _ F yQ λcdv A outer s H E hr=>(zG (zN 4 yQ.nd (yN zE (yG (yC (zA 0) zE) (yI xA bL rfl wF jO (zB (zA 1) zF))))) (zG (vL 5 yQ.nd (zI wM) kW ["_law_k"] [0,1] (yT rfl zY (zB (yI xA bL rfl wF jO (zB (zA 1) zF)) zF)) rfl (λ_ _ _ _ hN=>(wC 0 hN)) (λ_ _ _ _=>bZ) (λ_ _ _ _=>(yG (yN (yW (yC (zA 1) zE) zE) (zA 0)) (yI xA bL rfl wF jO (zB (zA 2) zF))))) (zG (kO (mR hr.units (yG (yW (yC (zA 0) zE) zE) zE) zE) (zM (kQ (FS (zA 5)))) xF) (zG (zN 6 yQ.nd (kF zF)) (zG (wH PassesOwn.never rfl (yT rfl zY (zB (zA 4) zF)) (yF 7 yQ.nd) (zG (zN 8 yQ.nd (zU dM (hr.mono (by decide)) rfl (zB (yC (zA 0) (yN zE (zA 7))) (zB zE zF)))) (zG (zN 9 yQ.nd (yC (yC (zA 1) (yC (zA 5) (zA 7))) zE)) (zM (kQ (bQ (zA 6) (zB (kP (zB (yC (zA 5) (zA 7)) (zB (wK jB pH rfl bI pI (zB (bE (zI wM) kW ["_law_number"] [2,3] (jI (gH (zA 8) kB (kC (zA 9)))) rfl (λ_ _ _ _ hN=>(wC 0 hN)) (λ_ _ _ _=>bZ) (λ_ _ _ _=>(zU tX (hr.mono (by decide)) rfl (zB (zA 0) (zB (zA 1) (zB (zA 2) zF)))))) zF)) zF))) zF))))))) (zG (zN 10 yQ.nd (zU EG (hr.mono (by decide)) rfl (zB (zA 6) zF))) (zG (vL 11 yQ.nd (zI wM) kW ["_law_k"] [0,10] (yT rfl zY (zB (yI xA bL rfl wF jO (zB (zA 10) zF)) zF)) rfl (λ_ _ _ _ hN=>(wC 0 hN)) (λ_ _ _ _=>(qF (mR hr.units (yG (yW (yC (zA 1) zE) (yC (kF (zB zE (zB zE (zB zE (zB zE zF))))) (zA 0))) zE) zE))) (λ_ _ _ _=>(yC (zA 2) (zA 0)))) (zG (kO (mR hr.units (yG (yW (yC (zA 0) zE) zE) zE) zE) (zM (kQ (FS (zA 11)))) xF) (zM (yM (kP (zB (wK jB pH rfl bI pI (zB (gH (zA 11) kB (kC zE)) zF)) (zB (wK jB pH rfl bI pI (zB (zA 6) zF)) zF)))))))))))))
    exact h
abbrev gD:Stmt:=top 37
def xT:FnScope ["_law_e","_law_some"] ["_law_e"] (zI gD):=fsK (by decide+kernel)
def HG(D:DefM K mg "_law_kinds" gD){xM:Addr}{xl:Nat->Addr}(XT:XTab K mg xM (Ug xl))(zL:mg "isinstance"=none)(zY:mg "range"=none):(CalH P w K mg base) "_law_kinds" 1 1 ["_law_e"] dG:=
 by have h:=okCH (P:=P) (w:=w) (base:=base) D (λ_ _ _ _ _ _ us hl=>match us,hl with |[_],_=>rfl) λf fd F=>okH (k:=0) _ F xT λcdv A outer s H hr hh=>(zG (zN 1 xT.nd (kF (zB (xL XT EB t9M zL rfl rfl (zA 0)) (zB (xL XT EB t11M zL rfl rfl (zA 0)) (zB (xL XT EB t3M zL rfl rfl (zA 0)) (zB (xL XT EB (.head _) zL rfl rfl (zA 0)) zF)))))) (zG (zN 1 xT.nd (yN (zA 1) (kF (zB (xL XT EB t1M zL rfl rfl (zA 0)) (zB (xL XT EB t2M zL rfl rfl (zA 0)) (zB (xL XT EB t4M zL rfl rfl (zA 0)) (zB (xL XT EB t5M zL rfl rfl (zA 0)) zF))))))) (zG (zN 1 xT.nd (yN (zA 1) (kF (zB (xL XT EB t6M zL rfl rfl (zA 0)) (zB (xL XT EB t7M zL rfl rfl (zA 0)) (zB (xL XT EB t8M zL rfl rfl (zA 0)) (zB (xL XT EB t10M zL rfl rfl (zA 0)) zF))))))) (zM (yM (Fi (zI gD) ["_law_e","_law_some"] ["_law_k"] [1] (UL rfl zY (zB zE zF)) hh (λ_ _ _ _ hN=>(wC 0 hN)) (λ_ _ _ _=>(qF (pE (yC (zA 1) (zA 0))))) (λ_ _ _ _=>(zA 0))))))))
    exact h
def IL(D:DefM K mg "_law_kinds" gD){xM:Addr}{xl:Nat->Addr}(XT:XTab K mg xM (Ug xl))(zL:mg "isinstance"=none)(zY:mg "range"=none):(Lm P w K mg base) "_law_kinds" 1 1 ["_law_e"] dG:=
 by have h:=JY (P:=P) (w:=w) (base:=base) D (λ_ _ _ _ _ _ us hl=>match us,hl with |[_],_=>rfl) λf fd F=>HX (k:=0) _ F xT λcdv A outer s H E hr=>(zG (zN 1 xT.nd (kF (zB (xL XT EB t9M zL rfl rfl (zA 0)) (zB (xL XT EB t11M zL rfl rfl (zA 0)) (zB (xL XT EB t3M zL rfl rfl (zA 0)) (zB (xL XT EB (.head _) zL rfl rfl (zA 0)) zF)))))) (zG (zN 1 xT.nd (yN (zA 1) (kF (zB (xL XT EB t1M zL rfl rfl (zA 0)) (zB (xL XT EB t2M zL rfl rfl (zA 0)) (zB (xL XT EB t4M zL rfl rfl (zA 0)) (zB (xL XT EB t5M zL rfl rfl (zA 0)) zF))))))) (zG (zN 1 xT.nd (yN (zA 1) (kF (zB (xL XT EB t6M zL rfl rfl (zA 0)) (zB (xL XT EB t7M zL rfl rfl (zA 0)) (zB (xL XT EB t8M zL rfl rfl (zA 0)) (zB (xL XT EB t10M zL rfl rfl (zA 0)) zF))))))) (zM (yM (bE (zI gD) ["_law_e","_law_some"] ["_law_k"] [1] (yT rfl zY (zB zE zF)) rfl (λ_ _ _ _ hN=>(wC 0 hN)) (λ_ _ _ _=>(qF (pE (yC (zA 1) (zA 0))))) (λ_ _ _ _=>(zA 0))))))))
    exact h
abbrev oK:Stmt:=top 38
def wU:FnScope sW ["_law_question_here","_law_tables_here","_law_cells","_law_names","_law_values_here"] (zI oK):=fsK (by decide+kernel)
def NX(D:DefM K mg "_law_more" oK)(rL:mg "list"=none)(wF:mg "len"=none)(dM:(Lm P w K mg base) "_law_drawn" 1 2 ["_law_cell","_law_many"] yO)(tX:(Lm P w K mg base) "_law_term" 1 3 bR bT)(bI:mg "tuple"=none):(Lm P w K mg base) "_law_more" 2 5 ["_law_question_here","_law_tables_here","_law_cells","_law_names","_law_values_here"] aV:=
 by have h:=JY (P:=P) (w:=w) (base:=base) D (λ_ _ _ _ _ _ us hl=>match us,hl with |[_,_,_,_,_],_=>rfl) λf fd F=>HX (k:=1) _ F wU λcdv A outer s H E hr=>(zG (sG (zA 0) (BE (n:=2) rfl (bD (yF 5 wU.nd) (bD (yF 6 wU.nd) BD)))) (zG (zN 7 wU.nd (wK LG Kc rfl rL LZ (zB (zA 6) zF))) (zG (wH PassesOwn.never rfl (jI (zA 2)) (yF 8 wU.nd) (zG (zN 9 wU.nd (yC (yC (zA 7) (yG (yW (zA 8) zE) (yI xA bL rfl wF jO (zB (zA 7) zF)))) zE)) (zG (zN 10 wU.nd (zU dM (hr.mono (by decide)) rfl (zB (yW (zA 8) zE) (zB zE zF)))) (zG (zN 11 wU.nd (wK jB pH rfl bI pI (zB (bE (zI oK) sW ["_law_number"] [3,4] (jI (gH (zA 10) kB (kC (yC (yC (zA 1) (zA 9)) zE)))) rfl (λ_ _ _ _ hN=>(wC 0 hN)) (λ_ _ _ _=>bZ) (λ_ _ _ _=>(zU tX (hr.mono (by decide)) rfl (zB (zA 0) (zB (zA 1) (zB (zA 2) zF)))))) zF))) (zM (kO (Cw hr.units (yI xA bL rfl wF jO (zB (zA 7) zF)) zE) (zM (kQ (Sz (zA 7) (zB (yG (yW (zA 8) zE) (yN (yI xA bL rfl wF jO (zB (zA 7) zF)) zE)) (zB (kP (zB (zA 9) (zB (zA 11) zF))) zF))))) xF)))))) (zM (yM (kP (zB (zA 5) (zB (wK jB pH rfl bI pI (zB (zA 7) zF)) zF))))))))
    exact h
abbrev fZ:Stmt:=top 39
def uP:FnScope ["_law_atoms","_law_k"] ["_law_atoms"] (zI fZ):=fsK (by decide+kernel)
def IM(D:DefM K mg "_law_place" fZ)(zY:mg "range"=none)(wF:mg "len"=none):(Lm P w K mg base) "_law_place" 1 1 ["_law_atoms"] fX:=
 by have h:=JY (P:=P) (w:=w) (base:=base) D (λ_ _ _ _ _ _ us hl=>match us,hl with |[_],_=>rfl) λf fd F=>HX (k:=0) _ F uP λcdv A outer s H E hr=>(zG (wH PassesOwn.never rfl (yT rfl zY (zB (yI xA bL rfl wF jO (zB (zA 0) zF)) zF)) (yF 1 uP.nd) (zM (kO (Df hr.units (yC (yC (zA 0) (zA 1)) zE) (bE (zI fZ) ["_law_atoms","_law_k"] ["_law_atom"] [] (FN (gH (zA 0) kB (kC (zA 1)))) rfl (λ_ _ _ _ hN=>(wC 0 hN)) (λ_ _ _ _=>bZ) (λ_ _ _ _=>(yC (zA 0) zE)))) (zM (yM (zA 1))) xF))) (zM (yM SU)))
    exact h
abbrev rG:Stmt:=top 40
def IO:FnScope wO wO (zI rG):=fsK (by decide+kernel)
def IP(D:DefM K mg "_law_asked" rG)(Nt:(En P w K mg base) "known" 5 3 mV qX)(OB:(En P w K mg base) "sways" 6 2 ["tables","question"] fV)(Ua:(En P w K mg base) "ring" 7 2 ["tables","question"] CA):(En P w K mg base) "_law_asked" 8 4 wO xD:=
 by have h:=Eo (P:=P) (w:=w) (base:=base) D (λ_ _ _ _ _ _ us hl=>match us,hl with |[_,_,_,_],_=>rfl) λf fd F=>Wo (k:=7) _ F IO λcdv A outer s H E hr=>(zG (kO (mR hr.units (zA 0) zE) (zM (yM (iB uU Nt (hr.mono (by decide)) rfl (zB (zA 1) (zB (zA 2) (zB (zA 3) zF)))))) xF) (zG (kO (mR hr.units (zA 0) zE) (zM (yM (iB uU OB (hr.mono (by decide)) rfl (zB (zA 1) (zB (zA 2) zF))))) xF) (zM (yM (iB uU Ua (hr.mono (by decide)) rfl (zB (zA 1) (zB (zA 2) zF)))))))
    exact h
abbrev lY:Stmt:=top 41
def jA:FnScope sX wO (zI lY):=fsK (by decide+kernel)
def EF(D:DefM K mg "_law_refused" lY){xM:Addr}{xl:Nat->Addr}(XT:XTab K mg xM (Ug xl))(GH__law_kinds:(CalH P w K mg base) "_law_kinds" 1 1 ["_law_e"] dG)(zL:mg "isinstance"=none)(dL:mg "ValueError"=none)(HK:mg "bool"=none)(OC:(En P w K mg base) "_law_asked" 8 4 wO xD):(Lm P w K mg base) "_law_refused" 9 4 wO kM:=
 by have h:=JY (P:=P) (w:=w) (base:=base) D (λ_ _ _ _ _ _ us hl=>match us,hl with |[_,_,_,_],_=>rfl) λf fd F=>HX (k:=8) _ F jA λcdv A outer s H E hr=>(zG (zN 4 jA.nd (kP zF)) (zG (Ep (i:=5) XT rfl jA.nd OC (hr.mono (by decide)) rfl (zB (zA 0) (zB (zA 1) (zB (zA 2) (zB (zA 3) zF)))) (λv=>(zG (zN 4 jA.nd (kP (zB (Ag GH__law_kinds ((hr.inH v).mono (by decide)) rfl (zB (zA 5) zF)) (zB (Rx XT zL dL rfl rfl (zA 5)) zF)))) (zM (kO (pE (xL XT EB t9M zL rfl rfl (zA 5))) (zM (zN 4 jA.nd (yN (zA 4) (kP (zB (Em XT (by decide) GH (zA 5)) (zB (yI Dh Re rfl zL IB (zB (Em XT (by decide) GH (zA 5)) (zB (Wa rfl HK Kd) zF))) zF)))))) xF))))) (zM (yM (zA 4)))))
    exact h
abbrev RO:Stmt:=top 42
def aF:FnScope WU ["_law_script"] (zI RO):=fsK (by decide+kernel)
def Tz{f:Addr}{fd:FuncData}(F:Fun K "law" "law" RO f fd)(NY:(Lm P w K mg base) "_law_words" 3 2 ["_law_cell","_law_many"] fW)(wA:(Lm P w K mg base) "_law_cell_at" 1 2 ["_law_script","_law_k"] zW)(IR:(Lm P w K mg base) "_law_tables" 2 1 ["_law_cell"] aP)(IQ:(Lm P w K mg base) "_law_values" 2 2 ["_law_cell","_law_words_here"] aQ)(zY:mg "range"=none)(EH:(Lm P w K mg base) "_law_question" 2 4 ["_law_cells","_law_tables_here","_law_names","_law_values_here"] kY)(RR:(Lm P w K mg base) "_law_more" 2 5 ["_law_question_here","_law_tables_here","_law_cells","_law_names","_law_values_here"] aV)(OD:(Lm P w K mg base) "_law_place" 1 1 ["_law_atoms"] fX)(wF:mg "len"=none)(tW:(Lm P w K mg base) "_law_refused" 9 4 wO kM):FnOk P w K mg base FE 10 f fd ["_law_script"] (VM ⟨K,mg,P,w⟩ 1 QJ):=
 by have h:=HX (P:=P) (w:=w) (mg:=mg) (base:=base) (k:=9) _ F aF λcdv A outer s H E hr=>(zG (zN 1 aF.nd (zU NY (hr.mono (by decide)) rfl (zB (zU wA (hr.mono (by decide)) rfl (zB (zA 0) (zB zE zF))) (zB zE zF)))) (zG (zN 2 aF.nd (zU IR (hr.mono (by decide)) rfl (zB (zU wA (hr.mono (by decide)) rfl (zB (zA 0) (zB zE zF))) zF))) (zG (zN 3 aF.nd (zU IQ (hr.mono (by decide)) rfl (zB (zU wA (hr.mono (by decide)) rfl (zB (zA 0) (zB zE zF))) (zB (gH (zA 1) (kC zE) kB) zF)))) (zG (vL 4 aF.nd (zI RO) WU ["_law_k"] [0] (yT rfl zY (zB zE zF)) rfl (λ_ _ _ _ hN=>(wC 0 hN)) (λ_ _ _ _=>bZ) (λ_ _ _ _=>(zU wA (hr.mono (by decide)) rfl (zB (zA 1) (zB (yN zE (zA 0)) zF))))) (zG (zN 5 aF.nd (zU EH (hr.mono (by decide)) rfl (zB (zA 4) (zB (zA 2) (zB (gH (zA 1) kB (kC zE)) (zB (zA 3) zF)))))) (zG (vL 6 aF.nd (zI RO) WU ["_law_k"] [0] (yT rfl zY (zB (yN zE (yG (zU wA (hr.mono (by decide)) rfl (zB (zA 0) (zB zE zF))) zE)) zF)) rfl (λ_ _ _ _ hN=>(wC 0 hN)) (λ_ _ _ _=>bZ) (λ_ _ _ _=>(zU wA (hr.mono (by decide)) rfl (zB (zA 1) (zB (yN zE (zA 0)) zF))))) (zG (zN 7 aF.nd (zU RR (hr.mono (by decide)) rfl (zB (zA 5) (zB (zA 2) (zB (zA 6) (zB (gH (zA 1) kB (kC zE)) (zB (zA 3) zF))))))) (zG (zN 8 aF.nd (zU OD (hr.mono (by decide)) rfl (zB (yC (zA 7) zE) zF))) (zG (wH PassesOwn.never rfl (yT rfl zY (zB zE zF)) (yF 9 aF.nd) (zG (zN 10 aF.nd (yG (yN (yW (zU wA (hr.mono (by decide)) rfl (zB (zA 0) (zB zE zF))) zE) (zA 9)) (yI xA bL rfl wF jO (zB (yC (zA 5) zE) zF)))) (zG (kO (Cv hr.units (zU tW (hr.mono (by decide)) rfl (zB (zA 9) (zB (zA 2) (zB (zA 5) (zB (zA 10) zF))))) (kP zF)) (zM (yM rN)) xF) (zG (zN 11 aF.nd (kP zF)) (zG (kO (Da (zA 8) SU) (zM (zN 11 aF.nd (kP (zB (kF (zB zE zF)) (zB rN (zB (zA 8) (zB rN zF))))))) xF) (zM (kO (Cv hr.units (zU tW (hr.mono (by decide)) rfl (zB (zA 9) (zB (zA 2) (zB (zA 7) (zB (zA 10) zF))))) (zA 11)) (zM (yM rN)) xF))))))) (zM (yM rN)))))))))))
    exact h
end
def all_mk{l:PySem.W.OpenLaw}{w:World}{K:Zb}{h:Heap}{mg:Yg}{fa:Addr}(X:K.In h)(GG:h.Ns mainGlobals mg)(hfa:mg "law"=some (.ref fa))
  (D0:DefM K mg "names_in" vC)
  (D1:DefM K mg "check_tables_once" gU)
  (D2:DefM K mg "free_names" fY)
  (D3:DefM K mg "key_names" tT)
  (D4:DefM K mg "known_at" aD)
  (D5:DefM K mg "known" NU)
  (D6:DefM K mg "have_in_common" gC)
  (D7:DefM K mg "swayed_from" bC)
  (D8:DefM K mg "sways" ER)
  (D9:DefM K mg "ring" UW)
  (D10:DefM K mg "_law_cell_at" lW)
  (D11:DefM K mg "_law_name_in" lX)
  (D12:DefM K mg "_law_words_by_digits" kT)
  (D13:DefM K mg "_law_words" rE)
  (D14:DefM K mg "_law_drawn" rF)
  (D15:DefM K mg "_law_tables" pB)
  (D16:DefM K mg "_law_values" aR)
  (D17:DefM K mg "_law_term" tU)
  (D18:DefM K mg "_law_standing" fG)
  (D19:DefM K mg "_law_question" wM)
  (D20:DefM K mg "_law_kinds" gD)
  (D21:DefM K mg "_law_more" oK)
  (D22:DefM K mg "_law_place" fZ)
  (D23:DefM K mg "_law_asked" rG)
  (D24:DefM K mg "_law_refused" lY)
  (D25:DefM K mg "law" RO)
  {C_MendError:Addr} {i_MendError:Option Value} (tV:PySem.W.nsIn K mainGlobals "MendError"=some (some (.ref C_MendError))) (x_MendError:vU K C_MendError mE i_MendError)
  {C_TooGreat:Addr} {i_TooGreat:Option Value} (vF:PySem.W.nsIn K mainGlobals "TooGreat"=some (some (.ref C_TooGreat))) (x_TooGreat:vU K C_TooGreat (.ref C_MendError::mE) i_TooGreat)
  {C_NoText:Addr} {i_NoText:Option Value} (HL:PySem.W.nsIn K mainGlobals "NoText"=some (some (.ref C_NoText))) (x_NoText:vU K C_NoText (.ref C_MendError::mE) i_NoText)
  {C_NoPlace:Addr} {i_NoPlace:Option Value} (DA:PySem.W.nsIn K mainGlobals "NoPlace"=some (some (.ref C_NoPlace))) (x_NoPlace:vU K C_NoPlace (.ref C_MendError::mE) i_NoPlace)
  {C_NotPlain:Addr} {i_NotPlain:Option Value} (vE:PySem.W.nsIn K mainGlobals "NotPlain"=some (some (.ref C_NotPlain))) (x_NotPlain:vU K C_NotPlain (.ref C_MendError::mE) i_NotPlain)
  {C_NoTable:Addr} {i_NoTable:Option Value} (CW:PySem.W.nsIn K mainGlobals "NoTable"=some (some (.ref C_NoTable))) (x_NoTable:vU K C_NoTable (.ref C_MendError::mE) i_NoTable)
  {C_NoRule:Addr} {i_NoRule:Option Value} (HI:PySem.W.nsIn K mainGlobals "NoRule"=some (some (.ref C_NoRule))) (x_NoRule:vU K C_NoRule (.ref C_MendError::mE) i_NoRule)
  {C_NoRow:Addr} {i_NoRow:Option Value} (OA:PySem.W.nsIn K mainGlobals "NoRow"=some (some (.ref C_NoRow))) (x_NoRow:vU K C_NoRow (.ref C_MendError::mE) i_NoRow)
  {C_Twice:Addr} {i_Twice:Option Value} (NZ:PySem.W.nsIn K mainGlobals "Twice"=some (some (.ref C_Twice))) (x_Twice:vU K C_Twice (.ref C_MendError::mE) i_Twice)
  {C_NoQuestion:Addr} {i_NoQuestion:Option Value} (rH:PySem.W.nsIn K mainGlobals "NoQuestion"=some (some (.ref C_NoQuestion))) (x_NoQuestion:vU K C_NoQuestion (.ref C_MendError::mE) i_NoQuestion)
  {C_Double:Addr} {i_Double:Option Value} (HN:PySem.W.nsIn K mainGlobals "Double"=some (some (.ref C_Double))) (x_Double:vU K C_Double (.ref C_MendError::mE) i_Double)
  {C_TooWide:Addr} {i_TooWide:Option Value} (CZ:PySem.W.nsIn K mainGlobals "TooWide"=some (some (.ref C_TooWide))) (x_TooWide:vU K C_TooWide (.ref C_MendError::mE) i_TooWide)
  {C_Ring:Addr} {i_Ring:Option Value} (UY:PySem.W.nsIn K mainGlobals "Ring"=some (some (.ref C_Ring))) (x_Ring:vU K C_Ring (.ref C_MendError::mE) i_Ring)
  (j_MendError:i_MendError=none)
  (j_TooGreat:i_TooGreat=none)
  (j_NoText:i_NoText=none)
  (j_NoPlace:i_NoPlace=none)
  (j_NotPlain:i_NotPlain=none)
  {I_Double:Addr} {odI_Double anI_Double:Option Addr} {slI_Double:Array (Option Value)} {ocI_Double kVI_Double dcI_Double pmI_Double cdI_Double ctI_Double:Value} (y_Double:XIn K C_MendError C_Double I_Double) (lI_Double:K.lookup I_Double=some ⟨ocI_Double,odI_Double,.func (PySem.W.fnOf "__init__" "Double.__init__" (mI pY) (jH pY) (zI pY) .none kVI_Double dcI_Double pmI_Double anI_Double cdI_Double ctI_Double),slI_Double⟩) (cI_Double:PySem.W.codeIn K cdI_Double "Double.__init__"=true) (kI_Double:PySem.W.keepIn K (.ref I_Double)=true)
  (xm:XMn K C_MendError)
  (xd:[C_MendError,C_TooGreat,C_NoText,C_NoPlace,C_NotPlain,C_NoTable,C_NoRule,C_NoRow,C_Twice,C_NoQuestion,C_Double,C_TooWide,C_Ring].Nodup)
  (dL:PySem.W.nsIn K mainGlobals "ValueError"=some none)
  (RQ:PySem.W.nsIn K mainGlobals "all"=some none)
  (RS:PySem.W.nsIn K mainGlobals "any"=some none)
  (HK:PySem.W.nsIn K mainGlobals "bool"=some none)
  (DB:PySem.W.nsIn K mainGlobals "dict"=some none)
  (aX:PySem.W.nsIn K mainGlobals "enumerate"=some none)
  (RP:PySem.W.nsIn K mainGlobals "int"=some none)
  (zL:PySem.W.nsIn K mainGlobals "isinstance"=some none)
  (wF:PySem.W.nsIn K mainGlobals "len"=some none)
  (rL:PySem.W.nsIn K mainGlobals "list"=some none)
  (HM:PySem.W.nsIn K mainGlobals "min"=some none)
  (zY:PySem.W.nsIn K mainGlobals "range"=some none)
  (dN:PySem.W.nsIn K mainGlobals "sorted"=some none)
  (bI:PySem.W.nsIn K mainGlobals "tuple"=some none)
  : ∃fd:FuncData,(∀(s:Shared)(v:Value),BindsTo s fd ⟨[v],[]⟩ [("_law_script",v)])/\ ∀base:Heap,K.In base->base.Ns mainGlobals mg->FnOk l.prog w K mg base FE 10 fa fd ["_law_script"] (JR K QJ):=by
 have Z_ValueError:=PySem.W.mg_none_of X GG dL;have Z_all:=PySem.W.mg_none_of X GG RQ;have Z_any:=PySem.W.mg_none_of X GG RS;have Z_bool:=PySem.W.mg_none_of X GG HK;have Z_dict:=PySem.W.mg_none_of X GG DB;have Z_enumerate:=PySem.W.mg_none_of X GG aX;have Z_int:=PySem.W.mg_none_of X GG RP;have Z_isinstance:=PySem.W.mg_none_of X GG zL;have Z_len:=PySem.W.mg_none_of X GG wF;have Z_list:=PySem.W.mg_none_of X GG rL;have Z_min:=PySem.W.mg_none_of X GG HM;have Z_range:=PySem.W.mg_none_of X GG zY;have Z_sorted:=PySem.W.mg_none_of X GG dN;have Z_tuple:=PySem.W.mg_none_of X GG bI;subst j_MendError;subst j_TooGreat;subst j_NoText;subst j_NoPlace;subst j_NotPlain;let xl:Nat->Addr:=λn=>[C_TooGreat,C_NoText,C_NoPlace,C_NotPlain,C_NoTable,C_NoRule,C_NoRow,C_Twice,C_NoQuestion,C_Double,C_TooWide,C_Ring].getD n 0;have XT:XTab K mg C_MendError (Ug xl):=⟨PySem.W.mg_of X GG tV,x_MendError,⟨⟨PySem.W.mg_of X GG vF,_,x_TooGreat⟩,⟨PySem.W.mg_of X GG HL,_,x_NoText⟩,⟨PySem.W.mg_of X GG DA,_,x_NoPlace⟩,⟨PySem.W.mg_of X GG vE,_,x_NotPlain⟩,⟨PySem.W.mg_of X GG CW,_,x_NoTable⟩,⟨PySem.W.mg_of X GG HI,_,x_NoRule⟩,⟨PySem.W.mg_of X GG OA,_,x_NoRow⟩,⟨PySem.W.mg_of X GG NZ,_,x_Twice⟩,⟨PySem.W.mg_of X GG rH,_,x_NoQuestion⟩,⟨PySem.W.mg_of X GG HN,_,x_Double⟩,⟨PySem.W.mg_of X GG CZ,_,x_TooWide⟩,⟨PySem.W.mg_of X GG UY,_,x_Ring⟩,trivial⟩,xd⟩
 have FI_Double:=Bw (st:=pY) lI_Double cI_Double kI_Double;have bI_Double:=FI_Double.binds (ps:=["self","place"]) λ_ _ _ _ _ _ us hl=>match us,hl with |[_,_],_=>rfl
 refine Sl D25 hfa (λ_ _ _ _ _ _ s v=>.of_eq rfl) λbase f fd F=>?_;have GI_Double:FnOk l.prog w K mg base FE 1 I_Double _ ["self","place"] (WL C_Double "place"):=Ll FI_Double UV x_MendError y_Double xm XT.m rfl (λ_=>rfl) (λ_=>rfl) (λ_=>rfl) rfl rfl rfl (by decide) (by decide) (.txt (by decide) (.fld (.txt (by decide) (.nil)))) (by decide) (by decide) GH;have G0:=RM (P:=l.prog) (w:=w) (base:=base) D0 Z_list;have G1:=tS (P:=l.prog) (w:=w) (base:=base) D1 XT Z_enumerate y_Double GI_Double bI_Double;have G2:=IH (P:=l.prog) (w:=w) (base:=base) D2 G0;have G3:=NT (P:=l.prog) (w:=w) (base:=base) D3 G2;have G4:=RN (P:=l.prog) (w:=w) (base:=base) D4 G3 Z_dict Z_len Z_all G2;have G5:=Hs (P:=l.prog) (w:=w) (base:=base) D5 G1 G4 Z_sorted;have G6:=AV (P:=l.prog) (w:=w) (base:=base) D6 Z_any;have G7:=HC (P:=l.prog) (w:=w) (base:=base) D7 G4 G2 Z_range Z_len G6 Z_list;have G8:=Ht (P:=l.prog) (w:=w) (base:=base) D8 G1 Z_range Z_len G7 Z_sorted;have G9:=Nr (P:=l.prog) (w:=w) (base:=base) D9 G8;have G10:=ED (P:=l.prog) (w:=w) (base:=base) D10 Z_len;have G11:=EE (P:=l.prog) (w:=w) (base:=base) D11 Z_range;have G12:=pZ (P:=l.prog) (w:=w) (base:=base) D12 Z_range G11;have G13:=II (P:=l.prog) (w:=w) (base:=base) D13 G12 Z_range;have G14:=IK (P:=l.prog) (w:=w) (base:=base) D14 Z_range;have G15:=HE (P:=l.prog) (w:=w) (base:=base) D15 G14 Z_int Z_min Z_tuple;have G16:=HF (P:=l.prog) (w:=w) (base:=base) D16 Z_range G11 Z_len Z_min;have G17:=NW (P:=l.prog) (w:=w) (base:=base) D17 Z_len;have G18:=CU (P:=l.prog) (w:=w) (base:=base) D18 Z_sorted;have G19:=CV (P:=l.prog) (w:=w) (base:=base) D19 Z_len Z_range G14 G17 Z_tuple G18;have GH20:=HG (P:=l.prog) (w:=w) (base:=base) D20 XT Z_isinstance Z_range;have G20:=IL (P:=l.prog) (w:=w) (base:=base) D20 XT Z_isinstance Z_range;have G21:=NX (P:=l.prog) (w:=w) (base:=base) D21 Z_list Z_len G14 G17 Z_tuple;have G22:=IM (P:=l.prog) (w:=w) (base:=base) D22 Z_range Z_len;have G23:=IP (P:=l.prog) (w:=w) (base:=base) D23 G5 G8 G9;have G24:=EF (P:=l.prog) (w:=w) (base:=base) D24 XT GH20 Z_isinstance Z_ValueError Z_bool G23;exact Tz (P:=l.prog) (w:=w) (base:=base) F G13 G10 G15 G16 Z_range G19 G21 G22 Z_len G24
def walk{l:PySem.W.OpenLaw}{q:Program}{loose:Ye}{XP:(Str->Option Value)->Heap->Prop}{YP:World->Heap->Prop}{d:DefRec}{K:Params->PySem.W.Frag}(hn:l.most=some 63)(hdf:d.params.defaults=[])
  (hY: ∀(w:World)(h:Heap),YP w h->(K w.params).In h)
  (F: ∀(w:World)(mg:Yg)(fa:Addr)(h:Heap),(K w.params).In h->h.Ns mainGlobals mg->mg d.name=some (.ref fa)->
   ∃fd:FuncData,(∀(s:Shared)(u:Value),BindsTo s fd ⟨[u],[]⟩ [("_law_script",u)])/\ ∀base:Heap,(K w.params).In base->base.Ns mainGlobals mg->FnOk l.prog w (K w.params) mg base FE 10 fa fd ["_law_script"] (JR (K w.params) QJ)):
  PySem.W.WalkO q loose XP YP l.row.toRowW d [] (λf vs=>PySem.call f vs):=
 L2.walk_of (n:=63) (k:=10) (x:="_law_script") (CX:=λ_=>FE) (sp:=λw=>JR (K w.params) QJ) hn (by decide) hdf ⟨rfl,by decide,by decide⟩ hY F
  (λw H a ns hl hO hS=>Dl hO hS (Hq ns hl)) λ_ _ _ _ _ z=>z
end My
end M
end L2
namespace PySem.W.Fast
def tw17991616521320145232:=0
theorem te17991616521320145232:tw17991616521320145232=0:=rfl
def tw520770226316567145:=0
theorem te520770226316567145:tw520770226316567145=0:=rfl
def tw13264312871649048191:=0
theorem te13264312871649048191:tw13264312871649048191=0:=rfl
def tw448133526280771279:=0
theorem te448133526280771279:tw448133526280771279=0:=rfl
def tw14677195154413959108:=0
theorem te14677195154413959108:tw14677195154413959108=0:=rfl
def tw17896146075285467365:=0
theorem te17896146075285467365:tw17896146075285467365=0:=rfl
def tw7447769396023646574:=0
theorem te7447769396023646574:tw7447769396023646574=0:=rfl
def tw11279089065347268815:=0
theorem te11279089065347268815:tw11279089065347268815=0:=rfl
def tw17801840640689265845:=0
theorem te17801840640689265845:tw17801840640689265845=0:=rfl
def tw1518752927529810792:=0
theorem te1518752927529810792:tw1518752927529810792=0:=rfl
def tw4903134977221901248:=0
theorem te4903134977221901248:tw4903134977221901248=0:=rfl
def tw7490475299807731446:=0
theorem te7490475299807731446:tw7490475299807731446=0:=rfl
def tw14580154456337891385:=0
theorem te14580154456337891385:tw14580154456337891385=0:=rfl
def tw10234894587230354258:=0
theorem te10234894587230354258:tw10234894587230354258=0:=rfl
def tw2771469961865423835:=0
theorem te2771469961865423835:tw2771469961865423835=0:=rfl
def tw4535309329949708308:=0
theorem te4535309329949708308:tw4535309329949708308=0:=rfl
def tw13969719292461171788:=0
theorem te13969719292461171788:tw13969719292461171788=0:=rfl
def tw14341546965836173613:=0
theorem te14341546965836173613:tw14341546965836173613=0:=rfl
def tw6274349441803501796:=0
theorem te6274349441803501796:tw6274349441803501796=0:=rfl
def tw17280651637665851461:=0
theorem te17280651637665851461:tw17280651637665851461=0:=rfl
def tw15917545692643254246:=0
theorem te15917545692643254246:tw15917545692643254246=0:=rfl
def tw403184844042524820:=0
theorem te403184844042524820:tw403184844042524820=0:=rfl
def tw1549233400807853410:=0
theorem te1549233400807853410:tw1549233400807853410=0:=rfl
def tw291804403599555536:=0
theorem te291804403599555536:tw291804403599555536=0:=rfl
def tw11965744800303429601:=0
theorem te11965744800303429601:tw11965744800303429601=0:=rfl
def tw7100961913596701645:=0
theorem te7100961913596701645:tw7100961913596701645=0:=rfl
def tw13013689217673819732:=0
theorem te13013689217673819732:tw13013689217673819732=0:=rfl
def tw9287180233668904358:=0
theorem te9287180233668904358:tw9287180233668904358=0:=rfl
def tw5690601322242799653:=0
theorem te5690601322242799653:tw5690601322242799653=0:=rfl
def tw16167690561630968896:=0
theorem te16167690561630968896:tw16167690561630968896=0:=rfl
def tw8009272141026209524:=0
theorem te8009272141026209524:tw8009272141026209524=0:=rfl
def tw3908024247029970023:=0
theorem te3908024247029970023:tw3908024247029970023=0:=rfl
def tw17570523210577241941:=0
theorem te17570523210577241941:tw17570523210577241941=0:=rfl
def tw7777719395728581026:=0
theorem te7777719395728581026:tw7777719395728581026=0:=rfl
end PySem.W.Fast
open PySem PySem.W PyProof.Rows
set_option maxRecDepth 100000 in
set_option maxHeartbeats 0 in
theorem PySem.Challenge.cw_mendsure_k60_a_table_twice_holds : PySem.Challenge.rw_mendsure_k60_a_table_twice.Holds := by
  w_on; o_law; k_head; (case hw => w_witness2)
  k_fill
  refine L2.M.My.walk (l := PySem.Challenge.rw_mendsure_k60_a_table_twice) rfl rfl (fun w h Y => PySem.W.kIn_of Y) ?F
  case F =>
    intro w mg fa h KX G hmg
    refine' L2.M.My.all_mk KX G hmg ?D0 ?D1 ?D2 ?D3 ?D4 ?D5 ?D6 ?D7 ?D8 ?D9 ?D10 ?D11 ?D12 ?D13 ?D14 ?D15 ?D16 ?D17 ?D18 ?D19 ?D20 ?D21 ?D22 ?D23 ?D24 ?D25 ?tV ?x_MendError ?vF ?x_TooGreat ?HL ?x_NoText ?DA ?x_NoPlace ?vE ?x_NotPlain ?CW ?x_NoTable ?HI ?x_NoRule ?OA ?x_NoRow ?NZ ?x_Twice ?rH ?x_NoQuestion ?HN ?x_Double ?CZ ?x_TooWide ?UY ?x_Ring ?j_MendError ?j_TooGreat ?j_NoText ?j_NoPlace ?j_NotPlain ?y_Double ?lI_Double ?cI_Double ?kI_Double ?xm ?xd ?dL ?RQ ?RS ?HK ?DB ?aX ?RP ?zL ?wF ?rL ?HM ?zY ?dN ?bI
    (case D0 => exact L2.M.def_mk (by k_is) (by k_is) (by k_is) (by k_is) KX G)
    (case D1 => exact L2.M.def_mk (by k_is) (by k_is) (by k_is) (by k_is) KX G)
    (case D2 => exact L2.M.def_mk (by k_is) (by k_is) (by k_is) (by k_is) KX G)
    (case D3 => exact L2.M.def_mk (by k_is) (by k_is) (by k_is) (by k_is) KX G)
    (case D4 => exact L2.M.def_mk (by k_is) (by k_is) (by k_is) (by k_is) KX G)
    (case D5 => exact L2.M.def_mk (by k_is) (by k_is) (by k_is) (by k_is) KX G)
    (case D6 => exact L2.M.def_mk (by k_is) (by k_is) (by k_is) (by k_is) KX G)
    (case D7 => exact L2.M.def_mk (by k_is) (by k_is) (by k_is) (by k_is) KX G)
    (case D8 => exact L2.M.def_mk (by k_is) (by k_is) (by k_is) (by k_is) KX G)
    (case D9 => exact L2.M.def_mk (by k_is) (by k_is) (by k_is) (by k_is) KX G)
    (case D10 => exact L2.M.def_mk (by k_is) (by k_is) (by k_is) (by k_is) KX G)
    (case D11 => exact L2.M.def_mk (by k_is) (by k_is) (by k_is) (by k_is) KX G)
    (case D12 => exact L2.M.def_mk (by k_is) (by k_is) (by k_is) (by k_is) KX G)
    (case D13 => exact L2.M.def_mk (by k_is) (by k_is) (by k_is) (by k_is) KX G)
    (case D14 => exact L2.M.def_mk (by k_is) (by k_is) (by k_is) (by k_is) KX G)
    (case D15 => exact L2.M.def_mk (by k_is) (by k_is) (by k_is) (by k_is) KX G)
    (case D16 => exact L2.M.def_mk (by k_is) (by k_is) (by k_is) (by k_is) KX G)
    (case D17 => exact L2.M.def_mk (by k_is) (by k_is) (by k_is) (by k_is) KX G)
    (case D18 => exact L2.M.def_mk (by k_is) (by k_is) (by k_is) (by k_is) KX G)
    (case D19 => exact L2.M.def_mk (by k_is) (by k_is) (by k_is) (by k_is) KX G)
    (case D20 => exact L2.M.def_mk (by k_is) (by k_is) (by k_is) (by k_is) KX G)
    (case D21 => exact L2.M.def_mk (by k_is) (by k_is) (by k_is) (by k_is) KX G)
    (case D22 => exact L2.M.def_mk (by k_is) (by k_is) (by k_is) (by k_is) KX G)
    (case D23 => exact L2.M.def_mk (by k_is) (by k_is) (by k_is) (by k_is) KX G)
    (case D24 => exact L2.M.def_mk (by k_is) (by k_is) (by k_is) (by k_is) KX G)
    (case D25 => exact L2.M.def_mk (by k_is) (by k_is) (by k_is) (by k_is) KX G)
    (case tV => k_is)
    (case x_MendError => exact L2.M.xcl_mk (by k_is) (by k_is) rfl (by k_is) (by k_is) (by k_is) (by k_is) (by k_is) (by k_is) (by k_is) rfl)
    (case vF => k_is)
    (case x_TooGreat => exact L2.M.xcl_mk (by k_is) (by k_is) rfl (by k_is) (by k_is) (by k_is) (by k_is) (by k_is) (by k_is) (by k_is) rfl)
    (case HL => k_is)
    (case x_NoText => exact L2.M.xcl_mk (by k_is) (by k_is) rfl (by k_is) (by k_is) (by k_is) (by k_is) (by k_is) (by k_is) (by k_is) rfl)
    (case DA => k_is)
    (case x_NoPlace => exact L2.M.xcl_mk (by k_is) (by k_is) rfl (by k_is) (by k_is) (by k_is) (by k_is) (by k_is) (by k_is) (by k_is) rfl)
    (case vE => k_is)
    (case x_NotPlain => exact L2.M.xcl_mk (by k_is) (by k_is) rfl (by k_is) (by k_is) (by k_is) (by k_is) (by k_is) (by k_is) (by k_is) rfl)
    (case CW => k_is)
    (case x_NoTable => exact L2.M.xcl_mk (by k_is) (by k_is) rfl (by k_is) (by k_is) (by k_is) (by k_is) (by k_is) (by k_is) (by k_is) rfl)
    (case HI => k_is)
    (case x_NoRule => exact L2.M.xcl_mk (by k_is) (by k_is) rfl (by k_is) (by k_is) (by k_is) (by k_is) (by k_is) (by k_is) (by k_is) rfl)
    (case OA => k_is)
    (case x_NoRow => exact L2.M.xcl_mk (by k_is) (by k_is) rfl (by k_is) (by k_is) (by k_is) (by k_is) (by k_is) (by k_is) (by k_is) rfl)
    (case NZ => k_is)
    (case x_Twice => exact L2.M.xcl_mk (by k_is) (by k_is) rfl (by k_is) (by k_is) (by k_is) (by k_is) (by k_is) (by k_is) (by k_is) rfl)
    (case rH => k_is)
    (case x_NoQuestion => exact L2.M.xcl_mk (by k_is) (by k_is) rfl (by k_is) (by k_is) (by k_is) (by k_is) (by k_is) (by k_is) (by k_is) rfl)
    (case HN => k_is)
    (case x_Double => exact L2.M.xcl_mk (by k_is) (by k_is) rfl (by k_is) (by k_is) (by k_is) (by k_is) (by k_is) (by k_is) (by k_is) rfl)
    (case CZ => k_is)
    (case x_TooWide => exact L2.M.xcl_mk (by k_is) (by k_is) rfl (by k_is) (by k_is) (by k_is) (by k_is) (by k_is) (by k_is) (by k_is) rfl)
    (case UY => k_is)
    (case x_Ring => exact L2.M.xcl_mk (by k_is) (by k_is) rfl (by k_is) (by k_is) (by k_is) (by k_is) (by k_is) (by k_is) (by k_is) rfl)
    (case j_MendError => rfl)
    (case j_TooGreat => rfl)
    (case j_NoText => rfl)
    (case j_NoPlace => rfl)
    (case j_NotPlain => rfl)
    (case y_Double => exact L2.M.xin_mk (by k_is) (by k_is) rfl (by k_is) (by k_is) (by k_is) (by k_is) (by k_is) (by k_is) (by k_is) (by k_is) rfl)
    (case lI_Double => k_is)
    (case cI_Double => k_is)
    (case kI_Double => k_is)
    (case xm => exact ⟨by k_is, by k_is, by k_is⟩)
    (case xd => decide)
    (case dL => k_is)
    (case RQ => k_is)
    (case RS => k_is)
    (case HK => k_is)
    (case DB => k_is)
    (case aX => k_is)
    (case RP => k_is)
    (case zL => k_is)
    (case wF => k_is)
    (case rL => k_is)
    (case HM => k_is)
    (case zY => k_is)
    (case dN => k_is)
    (case bI => k_is)
