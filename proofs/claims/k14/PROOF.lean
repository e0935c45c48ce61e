
import PyProof.Rows.All
import Wide.All
import OpenK.AllK
import Wide.FinOn
import Lean
import PyProof.EqAt
import PyProof.EqKinds
import PyProof.TupleCall
import PySem.Challenge.RW_mendsure_k14_chains_of_ties
set_option Elab.async false
set_option linter.all false
set_option maxRecDepth 100000
noncomputable section
open List (all_cons all_eq_true all_map all_toArray any_cons any_eq_false any_eq_true ext_getElem? filterMap_cons filterMap_cons_some filter_congr filter_cons filter_cons_of_neg filter_cons_of_pos filter_eq_nil_iff filter_eq_self filter_filter filter_map find?_cons flatMap_cons flatten_cons foldl_cons forIn_cons forIn_nil getD_eq_getElem?_getD getElem?_append_left getElem?_append_right getElem?_eq_none getElem?_map getElem?_of_mem getElem?_range getElem?_set_ne getElem?_set_self getElem?_take_of_lt getElem_inj getElem_mem getElem_of_mem isEmpty_iff le_antisymm le_trans length_drop length_filter_le length_nil length_range length_replicate length_set length_zip length_zipIdx lookup_cons lt_asymm lt_irrefl map_append map_cons map_drop map_filterMap map_map map_take mem_append mem_append_left mem_append_right mem_filter mem_filterMap mem_flatMap mem_of_getElem? mem_range nil_append nodup_append nodup_cons nodup_range not_lt of_mem_zip pairwise_cons pairwise_map pairwise_singleton replicate_succ reverse_cons zipIdx_cons zipIdx_nil zip_cons_cons zip_nil_left)
open Bool (not_eq_true' or_eq_true)
open Nat (le_of_eq le_of_lt le_refl le_succ le_trans lt_irrefl lt_of_lt_of_le lt_succ_self lt_trans min_eq_left mod_one mul_le_mul ne_of_gt ne_of_lt not_lt sub_self zero_add zero_le)
open Int (toNat_natCast)
def xF0:¬(false=true):=Bool.false_ne_true

abbrev dF0:=@decide_eq_false
abbrev dT0:=@decide_eq_true
abbrev iP:=@if_pos
abbrev iN:=@if_neg
abbrev mC:=@List.mem_cons
abbrev lC:=@List.length_cons
abbrev mO:=@List.mem_cons_of_mem
abbrev lM:=@List.length_map
abbrev nM0:=@List.not_mem_nil
abbrev mS:=@List.mem_singleton
abbrev mF0:=@List.mem_cons_self
abbrev fT0:=@Bool.false_eq_true
abbrev sA:=@List.size_toArray
abbrev lS:=@List.length_singleton
abbrev eL:=@Int.emod_lt_of_pos
abbrev eN:=@Int.emod_nonneg
abbrev aE:=@Bool.and_eq_true
abbrev iF:=@if_false
abbrev aN:=@List.append_nil
abbrev lA:=@List.length_append
abbrev gS0:=@List.getElem?_eq_some_iff
abbrev gE0:=@List.getElem?_eq_getElem
abbrev wB0:=@PySem.wpAny_bind
abbrev wP0:=@PySem.wpAny_pure
abbrev hP0:=@PySem.Heap.get?_push_of_some
abbrev mM:=@List.mem_map
abbrev lT:=@List.length_take
abbrev aA:=@List.append_assoc
abbrev VP:=PySem.Value->PySem.Shared->Prop
abbrev Be:=PySem.W.Frag
abbrev Bd:=List PySem.Expr
abbrev Bc:=Option Int
abbrev Bb:=List Bool
abbrev Ba:=List (PySem.Addr×PySem.Obj)
abbrev Aj:=PySem.Str->Option PySem.Value
abbrev Ai:=List PySem.Str
abbrev Ah:=List PySem.Addr
abbrev Ag:=Array PySem.Value
abbrev Ae:=List PySem.Value
abbrev Ad:=List Int
abbrev Ac:=List (Int×Int)
abbrev Ab:=List Nat
namespace L2
open PySem PySem.Spec PyProof.Rows
abbrev Key:=Sum Int Str
def zPU:Key->Value->Bool
 |.inl k,v=>Value.isInt k v
 |.inr x,v=>Value.isStrOf x v
def keyH(w:World):Key->Int
 |.inl k=>hashInt k
 |.inr x=>hashStr w x
def yZ: ∀{k:Key}{v:Value},zPU k v=true->(∃i t,k=Sum.inl i/\v=Value.int i t)\/(∃x t,k=Sum.inr x/\v=Value.str x t)
 |.inl i,v,h=>by obtain⟨t,e⟩:=Value.isInt_shape (k:=i) (v:=v) h;exact .inl ⟨i,t,rfl,e⟩
 |.inr x,v,h=>by obtain⟨t,e⟩:=Value.isStrOf_shape (x:=x) (v:=v) h;exact .inr ⟨x,t,rfl,e⟩
def yCL(i:Int)(t:Tok):zPU (.inl i) (.int i t)=true:=by simp [zPU,Value.isInt]
def yCM(x:Str)(t:Tok):zPU (.inr x) (.str x t)=true:=by simp [zPU,Value.isStrOf]
def yOP(a b:Int):decide ((Sum.inl a:Key)=Sum.inl b)=(a==b):=by
 by_cases e:a=b
 ·subst e;simp
 ·have h: ¬(Sum.inl a:Key)=Sum.inl b:=λq=>e (Sum.inl.inj q);rw [dF0 h];exact(beq_eq_false_iff_ne.mpr e).symm
def yOQ(a b:Str):decide ((Sum.inr a:Key)=Sum.inr b)=decide (a=b):=by
 by_cases e:a=b
 ·subst e;simp
 ·have h: ¬(Sum.inr a:Key)=Sum.inr b:=λq=>e (Sum.inr.inj q);rw [dF0 h,dF0 e]
def yOR(a:Int)(b:Str):decide ((Sum.inl a:Key)=Sum.inr b)=false:=dF0 (λq=>nomatch q)
def yOS(a:Str)(b:Int):decide ((Sum.inr a:Key)=Sum.inl b)=false:=dF0 (λq=>nomatch q)
def wA(prog:Program)(w:World):PySem.KeyKind prog w Key where
 is:=zPU
 hash:=keyH w
 inj:=λv a b ha hb=>by
  rcases yZ ha with⟨i,t,rfl,rfl⟩|⟨x,t,rfl,rfl⟩
  ·rcases yZ hb with⟨j,u,rfl,e⟩|⟨y,u,rfl,e⟩
   ·injection e with e1 _;rw [e1]
   ·exact nomatch e
  ·rcases yZ hb with⟨j,u,rfl,e⟩|⟨y,u,rfl,e⟩
   ·exact nomatch e
   ·injection e with e1 _;rw [e1]
 byValue:=λk v h=>by rcases yZ h with⟨i,t,rfl,rfl⟩|⟨x,t,rfl,rfl⟩<;>rfl
 pyHash:=λhv h=>by
  rcases yZ hv with⟨i,t,rfl,rfl⟩|⟨x,t,rfl,rfl⟩
  ·exact wpAny_pyHash_int h
  ·exact wpAny_pyHash_str h
 eqBool:=λhu hv h=>by
  rcases yZ hu with⟨i,t,rfl,rfl⟩|⟨x,t,rfl,rfl⟩
  ·rcases yZ hv with⟨j,u,rfl,rfl⟩|⟨y,u,rfl,rfl⟩
   ·rw [yOP]at h;exact wpAny_eqBool_int h
   ·rw [yOR]at h;exact SeqAt.EqAt.int_str i t y u _ _ _ _ h
  ·rcases yZ hv with⟨j,u,rfl,rfl⟩|⟨y,u,rfl,rfl⟩
   ·rw [yOS]at h;exact SeqAt.EqAt.str_int x t j u _ _ _ _ h
   ·rw [yOQ]at h;exact wpAny_eqBool_str h
 «strs»:=λk x t v h=>by
  rcases yZ h with⟨i,u,rfl,e⟩|⟨y,u,rfl,e⟩
  ·exact nomatch e
  ·injection e with e1 _
   subst e1;cases v<;>rfl
def zKH(prog:Program)(w:World)(i:Int)(t:Tok):(wA prog w).is (.inl i) (.int i t)=true:=yCL i t
def zDT(prog:Program)(w:World)(x:Str)(t:Tok):(wA prog w).is (.inr x) (.str x t)=true:=yCM x t
inductive V where
 |non|bl (b:Bool)|int (i:Int)|str (x:Str)|byt (b:Array UInt8)|flt (b:UInt64)|ref (a:Addr)|ty (n:String)
 deriving DecidableEq
def RelV:V->Value->Prop
 |.non,u=>u=Value.none
 |.bl b,u=>u=Value.bool b
 |.int i,u=> ∃t,u=Value.int i t
 |.str x,u=> ∃t,u=Value.str x t
 |.byt b,u=> ∃t,u=Value.bytes b t
 |.flt b,u=> ∃t,u=Value.float b t
 |.ref a,u=>u=Value.ref a
 |.ty n,u=>u=Value.type n
abbrev Vals:List V->List Value->Prop:=Paired RelV
def Vals.length{xs:List V}{us:Ae}(r:Vals xs us):xs.length=us.length:=Paired.length r
theorem Vals.get: ∀{xs:List V}{us:Ae}{i:Nat}{x:V},Vals xs us->xs[i]? =some x-> ∃u,us[i]? =some u/\RelV x u
 |_,_,_,_,.nil,e=>by simp at e
 |_,_,0,_,.cons r _,e=>by simp at e;subst e;exact⟨_,rfl,r⟩
 |_,_,i+1,x,.cons _ t,e=>by obtain⟨u,h1,h2⟩:=Vals.get (i:=i) (x:=x) t (by simpa using e);exact⟨u,by simpa using h1,h2⟩
theorem Vals.set{x:V}{u:Value}(r:RelV x u): ∀{xs:List V}{us:Ae}(i:Nat),Vals xs us->Vals (xs.set i x) (us.set i u)
 |_,_,_,.nil=>.nil
 |_,_,0,.cons _ t=>.cons r t
 |_,_,i+1,.cons q t=>.cons q (Vals.set r i t)
theorem Vals.append: ∀{xs ys:List V}{us ws:Ae},Vals xs us->Vals ys ws->Vals (xs++ys) (us++ws)
 |_,_,_,_,.nil,s=>s
 |_,_,_,_,.cons r t,s=>.cons r (Vals.append t s)
theorem Vals.take: ∀{xs:List V}{us:Ae}(n:Nat),Vals xs us->Vals (xs.take n) (us.take n)
 |_,_,0,_=>.nil
 |_,_,_+1,.nil=>.nil
 |_,_,n+1,.cons r t=>.cons r (Vals.take n t)
theorem Vals.drop: ∀{xs:List V}{us:Ae}(n:Nat),Vals xs us->Vals (xs.drop n) (us.drop n)
 |_,_,0,r=>r
 |_,_,_+1,.nil=>.nil
 |_,_,n+1,.cons _ t=>Vals.drop n t
def Vals.none_of: ∀{xs:List V}{us:Ae}{i:Nat},Vals xs us->xs[i]? =none->us[i]? =none:=λ{xs us i} r e=>by have h1:=r.length;have h2:xs.length<=i:=List.getElem?_eq_none_iff.mp e;exact List.getElem?_eq_none_iff.mpr (by omega)
def RelO:Option V->Option Value->Prop
 |some v,some u=>RelV v u
 |none,none=>True
 |_,_=>False
def KV{κ:Type}:List (κ×V)->List (κ×Value)->Prop:=Paired λ(p:κ×V) (q:κ×Value)=>p.1=q.1/\RelV p.2 q.2
def kV:Key->V
 |.inl i=>.int i
 |.inr x=>.str x
inductive HO where
 |lst (xs:List V)
 |tup (xs:List V)
 |dK (kvs:List (Key×V))|dT (kvs:List (List Key×V))
 |set (S:Int->Bool) (n:Nat)
 |ins (C dx:Addr) (fs:List (Str×V))
 |own (x:Addr)
 |xd (fs:List (Str×V))
 |met (f x:Addr)
 |rng (lo hi:Int)
 |frz (o:Obj) (u:HO)
 |tbl (ps:Ag)
 |ext (φ:Heap->Prop)
abbrev Hp:=Addr->Option HO
def upd(H:Hp)(a:Addr)(o:HO):Hp:=λb=>if b=a then some o else H b
def yR{H:Hp}{a:Addr}{o:HO}:upd H a o a=some o:=by unfold upd;rw [iP rfl]
def zR{H:Hp}{a b:Addr}{o:HO}(h:b≠a):upd H a o b=H b:=by unfold upd;rw [iN h]
theorem zZU{H:Hp}{a:Addr}{o u:HO}:upd (upd H a o) a u=upd H a u:=by funext b;unfold upd;split<;>rfl
def zY{H:Hp}{a b:Addr}{o:HO}(h:H a=some o)(h':H b=none):a≠b:=by intro e;subst e;rw [h]at h';cases h'
section
variable(P:Program)(w:World)
def ObjOk(H:Hp)(h:Heap)(a:Addr):HO->Prop
 |.lst xs=>xs.length<=sizeLine/\ ∃(its:Ae)(n:Nat),Vals xs its/\h.get? a=some {cls:=.type "list",data:=.seq its.toArray n}
 |.tup xs=>xs.length<=sizeLine/\ ∃its:List Value,Vals xs its/\IsTup h a its.toArray
 |.dK kvs=>kvs.length<=sizeLine/\(a==sysModules)=false/\ ∃vs,KV kvs vs/\h.DictOf (wA P w) a vs
 |.dT kvs=>kvs.length<=sizeLine/\(a==sysModules)=false/\ ∃xs:List (List Key×Addr×Value),
   Paired (λ(p:List Key×V) (q:List Key×Addr×Value)=>p.1=q.1/\H q.2.1=some (.tup (p.1.map kV))/\RelV p.2 q.2.2) kvs xs/\
   ∃o es ep,h.get? a=some o/\o.ExactDict/\o.data=.dict es ep/\es.toList=xs.map (entryOfKey (tupleKind (wA P w)))/\(xs.map (·.1)).Nodup
 |.set S n=>h.SetOf (intKind P w) a S n
 |.ins C dx fs=>H dx=some (.own a)/\fs.length<=1000/\dx≠a/\h.get? a=some (PySem.W.instObj C dx)/\
   ∃mA,h.Ns1 dx mA/\(∀f,RelO (fs.lookup f) (mA f))/\PySem.Within mA (fs.map (·.1))
 |.own _=> ∃o,h.get? a=some o
 |.xd fs=> ∃mA,h.Ns1 a mA/\ ∀f,RelO (fs.lookup f) (mA f)
 |.rng lo hi=> ∃t u v,h.get? a=some {cls:=.type "range",data:=.fields #[.int lo t,.int hi u,.int 1 v]}
 |.frz o u=>h.get? a=some o/\ObjOk H h a u
 |.tbl ps=>h.get? a=some {cls:=.none,data:=.fields ps}
 |.met f x=>h.get? a=some (PySem.W.methodObj (.ref f) (.ref x))
 |.ext φ=>φ h/\(∃o,h.get? a=some o)/\ ∀h1 h2:Heap,φ h1->(∀o,h1.get? a=some o->h2.get? a=some o)->φ h2
def HOk(H:Hp)(h:Heap):Prop:= ∀a o,H a=some o->ObjOk P w H h a o
end
section
variable{P:Program}{w:World}{H H':Hp}{h h':Heap}{a:Addr}{o:HO}
def ObjOk.lt(x:ObjOk P w H h a o):a<h.objs.size:=by
 cases o with
 |lst xs=>obtain⟨_,_,_,_,e⟩:=x;exact Heap.lt_size e
 |tup xs=>obtain⟨_,_,_,p⟩:=x;exact p.lt
 |dK kvs=>obtain⟨_,_,_,_,o,_,_,e,_⟩:=x;exact Heap.lt_size e
 |dT kvs=>obtain⟨_,_,_,_,o,_,_,e,_⟩:=x;exact Heap.lt_size e
 |set S n=>obtain⟨o,_,_,_,e,_⟩:=x;exact Heap.lt_size e
 |ins C dx fs=>obtain⟨_,_,_,e,_⟩:=x;exact Heap.lt_size e
 |own y=>obtain⟨_,e⟩:=x;exact Heap.lt_size e
 |xd fs=>obtain⟨_,⟨_,_,_,e,_⟩,_⟩:=x;exact Heap.lt_size e
 |rng lo hi=>obtain⟨_,_,_,e⟩:=x;exact Heap.lt_size e
 |frz ob u=>obtain⟨e,_⟩:=x;exact Heap.lt_size e
 |tbl ps=>exact Heap.lt_size (show h.get? a=some _ from x)
 |met f y=>exact Heap.lt_size (show h.get? a=some _ from x)
 |ext φ=>obtain⟨_,⟨_,e⟩,_⟩:=x;exact Heap.lt_size e
theorem Paired.mapP{α β:Type}{F G:α->β->Prop}: ∀{l₁:List α}{l₂:List β},Paired F l₁ l₂->(∀a b,F a b->G a b)->Paired G l₁ l₂
 |_,_,.nil,_=>.nil
 |_,_,.cons r t,f=>.cons (f _ _ r) (Paired.mapP t f)
def ObjOk.stay(x:ObjOk P w H h a o)(k: ∀b u,(b=a\/H b=some (.own a))->h.get? b=some u->h'.get? b=some u)
  (ho: ∀b,H b=some (.own a)->H' b=some (.own a)) (ht: ∀b xs,H b=some (.tup xs)->H' b=some (.tup xs)):ObjOk P w H' h' a o:=by
 induction o with
 |lst xs=>obtain⟨z,its,n,r,e⟩:=x;exact⟨z,its,n,r,k _ _ (.inl rfl) e⟩
 |tup xs=>obtain⟨z,its,r,ob,e,c⟩:=x;exact⟨z,its,r,ob,k _ _ (.inl rfl) e,c⟩
 |dK kvs=>obtain⟨z,y,vs,r,ob,es,ep,e,c⟩:=x;exact⟨z,y,vs,r,ob,es,ep,k _ _ (.inl rfl) e,c⟩
 |dT kvs=>
  obtain⟨z,y,xs,r,ob,es,ep,e,c⟩:=x;exact⟨z,y,xs,Paired.mapP r λp q z=>⟨z.1,ht _ _ z.2.1,z.2.2⟩,ob,es,ep,k _ _ (.inl rfl) e,c⟩
 |set S n=>obtain⟨ob,es,ep,t,e,c⟩:=x;exact⟨ob,es,ep,t,k _ _ (.inl rfl) e,c⟩
 |ins C dx fs=>
  obtain⟨d,z,ne,e,mA,⟨od,es,ep,e2,c⟩,r⟩:=x;exact⟨ho _ d,z,ne,k _ _ (.inl rfl) e,mA,⟨od,es,ep,k _ _ (.inr d) e2,c⟩,r⟩
 |own y=>obtain⟨ob,e⟩:=x;exact⟨ob,k _ _ (.inl rfl) e⟩
 |xd fs=>obtain⟨mA,⟨od,es,ep,e,c⟩,r⟩:=x;exact⟨mA,⟨od,es,ep,k _ _ (.inl rfl) e,c⟩,r⟩
 |rng lo hi=>obtain⟨t,u,v,e⟩:=x;exact⟨t,u,v,k _ _ (.inl rfl) e⟩
 |frz ob u ih=>obtain⟨e,q⟩:=x;exact⟨k _ _ (.inl rfl) e,ih q⟩
 |tbl ps=>
  have e:h.get? a=some {cls:=.none,data:=.fields ps}:=x;show h'.get? a=some {cls:=.none,data:=.fields ps};exact k a _ (.inl rfl) e
 |met f y=>
  have e:h.get? a=some (PySem.W.methodObj (.ref f) (.ref y)):=x;show h'.get? a=some (PySem.W.methodObj (.ref f) (.ref y));exact k a _ (.inl rfl) e
 |ext φ=>obtain⟨p,⟨o,e⟩,st⟩:=x;exact⟨st _ _ p λo q=>k _ _ (.inl rfl) q,⟨o,k _ _ (.inl rfl) e⟩,st⟩
def HOk.lt(x:HOk P w H h)(e:H a=some o):a<h.objs.size:=(x a o e).lt
def HOk.fresh(x:HOk P w H h)(e:h.objs.size<=a):H a=none:=by
 cases q:H a with
 |none=>rfl
 |some u=>exact absurd (lt_of_lt_of_le (x.lt q) e) (lt_irrefl _)
def HOk.kept(x:HOk P w H h)(k: ∀b u,h.get? b=some u->h'.get? b=some u):HOk P w H h':=λa o e=>
 (x a o e).stay (λb u _ q=>k b u q) (λ_ q=>q) λ_ _ q=>q
def HOk.laid(x:HOk P w H h)(k: ∀b u,h.get? b=some u->h'.get? b=some u)(hp:h.objs.size<=a)(new:ObjOk P w (upd H a o) h' a o):HOk P w (upd H a o) h':=λb u e=>by
 have hn:=x.fresh hp;by_cases hb:b=a
 ·subst hb;rw [yR]at e;cases e;exact new
 ·rw [zR hb]at e;exact(x b u e).stay (λc v _ q=>k c v q) (λc q=>by rw [zR (zY q hn)];exact q) λc xs q=>by rw [zR (zY q hn)];exact q
end
def Rd(H:Hp)(a:Addr)(u:HO):Prop:=H a=some u\/ ∃o,H a=some (.frz o u)
def Rd.ok{P:Program}{w:World}{H:Hp}{h:Heap}{a:Addr}{u:HO}(r:Rd H a u)(x:HOk P w H h):ObjOk P w H h a u:=by
 rcases r with r|⟨o,r⟩
 ·exact x a u r
 ·obtain⟨_,q⟩:=x a _ r;exact q
def Mut:Option HO->Prop
 |some (.lst _)=>True
 |some (.dK _)=>True
 |some (.dT _)=>True
 |some (.set _ _)=>True
 |some (.ins _ _ _)=>True
 |some (.ext _)=>True
 |_=>False
section
variable{P:Program}{w:World}{H:Hp}{h h':Heap}{x e:Addr}{o':HO}
theorem HOk.write(ok:HOk P w H h)(mu:Mut (H x))(he:e=x\/H e=some (.own x))(k: ∀b u,b≠e->h.get? b=some u->h'.get? b=some u)(heo: ∃u,h'.get? e=some u)
  (new:ObjOk P w (upd H x o') h' x o'):HOk P w (upd H x o') h':=λb u q=>by
 have nown: ∀c y,H c=some (.own y)->c≠x:=λc y r z=>by subst z;rw [r]at mu;exact mu
 have ntup: ∀c xs,H c=some (.tup xs)->c≠x:=λc xs r z=>by subst z;rw [r]at mu;exact mu
 by_cases hb:b=x
 ·subst hb;rw [yR]at q;cases q;exact new
 ·rw [zR hb]at q;by_cases hbe:b=e
  ·have q':H b=some (.own x):=by
    rcases he with z|z
    ·exact absurd (hbe.trans z) hb
    ·rw [hbe];exact z
   rw [q]at q';cases q';obtain⟨v,hv⟩:=heo;exact⟨v,by rw [hbe];exact hv⟩
  ·refine(ok b u q).stay (λc v hc r=>k c v ?_ r) (λc r=>by rw [zR (nown c b r)];exact r) λc xs r=>by rw [zR (ntup c xs r)];exact r
   rcases hc with rfl|hc
   ·exact hbe
   ·rintro rfl;rcases he with z|z
    ·exact nown c b hc z
    ·rw [hc]at z;cases z;exact hb rfl
end
structure Un(fs ex:Ah)(H H':Hp)(h h':Heap):Prop where
 keep: ∀b o,h.get? b=some o->H b=none->b∉fs->b∉ex->h'.get? b=some o
 slot: ∀b o,h.get? b=some o->H b=none->b∈fs->b∉ex-> ∃sl,h'.get? b=some {o with slots:=sl}
 free: ∀b o,h.get? b=some o->H b=none->b∉ex->H' b=none
 there: ∀b o,h.get? b=some o->b∉ex-> ∃o',h'.get? b=some o'
 tups: ∀b xs,H b=some (.tup xs)->H' b=some (.tup xs)
 frzs: ∀b o u,H b=some (.frz o u)->H' b=some (.frz o u)
 tbls: ∀b ps,H b=some (.tbl ps)-> ∃more,H' b=some (.tbl (ps++more))
section
variable{fs fs' ex ex':Ah}{H H1 H2:Hp}{h h1 h2 h':Heap}{a x e:Addr}{o:HO}
def Un.any(u:Un fs ex H H1 h h1){b:Addr}{ob:Obj}(q:h.get? b=some ob)(n:H b=none)(hx:b∉ex): ∃sl,h1.get? b=some {ob with slots:=sl}:=by
 by_cases hb:b∈fs
 ·exact u.slot b ob q n hb hx
 ·exact⟨ob.slots,u.keep b ob q n hb hx⟩
def Un.kept(k: ∀b u,h.get? b=some u->h'.get? b=some u):Un fs ex H H h h':=
 ⟨λb ob q _ _ _=>k b ob q,λb ob q _ _ _=>⟨ob.slots,k b ob q⟩,λ_ _ _ n _=>n,λb ob q _=>⟨ob,k b ob q⟩,λ_ _ q=>q,λ_ _ _ q=>q,λ_ ps q=>⟨#[],by rw [q];simp⟩⟩
def Un.refl:Un fs ex H H h h:=Un.kept λ_ _ q=>q
def Un.laid(k: ∀b u,h.get? b=some u->h'.get? b=some u)(hp:h.objs.size<=a)(hn:H a=none):Un fs ex H (upd H a o) h h' where
 keep:=λb u q _ _ _=>k b u q
 slot:=λb u q _ _ _=>⟨u.slots,k b u q⟩
 free:=λb u q n _=>by rw [zR (ne_of_lt (lt_of_lt_of_le (Heap.lt_size q) hp))];exact n
 there:=λb u q _=>⟨u,k b u q⟩
 tups:=λb xs q=>by rw [zR (zY q hn)];exact q
 frzs:=λb u xs q=>by rw [zR (zY q hn)];exact q
 tbls:=λb ps q=>⟨#[],by rw [zR (zY q hn),q];simp⟩
def Un.write(mu:Mut (H x))(he:e=x\/H e=some (.own x))(k: ∀b u,b≠e->h.get? b=some u->h'.get? b=some u)(heo: ∃u,h'.get? e=some u):Un fs ex H (upd H x o) h h':=by
 have hx: ∀b,H b=none->b≠x:=λb n z=>by subst z;rw [n]at mu;exact mu
 have hb: ∀b,H b=none->b≠e:=λb n z=>by
  subst z;rcases he with r|r
  ·exact hx b n r
  ·rw [n]at r;cases r
 have hm: ∀b u,H b=some u-> ¬Mut (some u)->b≠x:=λb u q nm z=>by subst z;rw [q]at mu;exact nm mu
 refine⟨λb u q n _ _=>k b u (hb b n) q,λb u q n _ _=>⟨u.slots,k b u (hb b n) q⟩,λb u q n _=>by rw [zR (hx b n)];exact n,λb u q _=>?_,
  λb xs q=>by rw [zR (hm b _ q λz=>z)];exact q,λb u xs q=>by rw [zR (hm b _ q λz=>z)];exact q,λb ps q=>⟨#[],by rw [zR (hm b _ q λz=>z),q];simp⟩⟩
 by_cases hbe:b=e
 ·subst hbe;exact heo
 ·exact⟨u,k b u hbe q⟩
end
def trk(h:Heap)(H:Hp):List Addr:=(List.range h.objs.size).filter λa=>(H a).isSome
def zRH(h:Heap)(H:Hp):Heap:=PySem.W.hideAll h (trk h H)
def yCN(h:Heap)(H:Hp):(zRH h H).objs.size=h.objs.size:=PySem.W.hideAll_size _ _
def yFD{h:Heap}{H:Hp}{b:Addr}{o:Obj}(e:h.get? b=some o)(n:H b=none):(zRH h H).get? b=some o:=
 PySem.W.hideAll_get _ e λhm=>by have q:(H b).isSome=true:=(mem_filter.mp hm).2;rw [n]at q;simp at q
def yJL{h:Heap}{H:Hp}{b:Addr}{o:Obj}(e:(zRH h H).get? b=some o):h.get? b=some o/\H b=none:=by
 have e':h.get? b=some o:=PySem.W.of_hideAll (trk h H) e;refine⟨e',?_⟩
 cases q:H b with
 |none=>rfl
 |some x=>
  have hm:b∈trk h H:=mem_filter.mpr ⟨mem_range.mpr (Heap.lt_size e'),by simp [q]⟩;have z:(zRH h H).get? b=none:=PySem.W.hideAll_none (trk h H) hm;rw [z]at e;cases e
def yJM(g h:Heap)(L:Addr):List (Addr×Obj):=(List.range h.objs.size).filterMap λa=>if a=L\/(g.get? a).isSome=true then none else(h.get? a).map λo=>(a,o)
def rest(g h:Heap)(L d:Addr):List (Addr×Obj):=(yJM g h L).filter λp=>decide (p.1≠d)
structure Mod(K:Be)(mg:Aj)(base:Heap):Prop where
 kin:K.In base
 glob:base.Ns mainGlobals mg
 blt: ∃mb,base.Ns builtinsNs mb/\ ∀x:Str,x≠"__name__"->mb x=bootBuiltins x
 nolimit:base.NoLimit
structure Cx where
 prog:Program
 w:World
 K:PySem.W.Frag
 mg:Str->Option Value
 base:Heap
 A:Around
 N:List Str
 s₀:Shared
 H₀:Hp
 env:Env
 outer:List Env
 stack:List Env
 ex:List Addr
 fn:Str->Bool
 calm:Bool
 pn:List (Addr×Obj)
 xe:VP
def frs(l:List Env):List Addr:=l.filterMap (·.frame)
abbrev Cx.fs(X:Cx):List Addr:=frs X.outer
def Vis(sc:Scope)(x:Str):Prop:=sc.names.lookup x=some .local\/sc.names.lookup x=some .cell\/sc.names.lookup x=some .free
def Loc(sc:Scope)(x:Str):Prop:=sc.names.lookup x=some .local\/sc.names.lookup x=some .cell
def Look(env:Env)(h:Heap)(m:Aj)(x:Str)(u:Value):Prop:=
 (env.kindOf x=some .local/\m x=some u)\/((env.kindOf x=some .cell\/env.kindOf x=some .free)/\ ∃c,env.cells.lookup x=some c/\h.IsCell c (some u))
structure Cx.Ok(X:Cx):Prop where
 mod:Mod X.K X.mg X.base
 kind:X.env.scope.kind=.function
 glob:X.env.globals=mainGlobals
 blt:X.env.builtins=builtinsNs
 above:X.s₀.heap.objs.size<=X.env.locals
 inj: ∀x y c,X.env.cells.lookup x=some c->X.env.cells.lookup y=some c->x=y
 has: ∀x,(X.env.kindOf x=some .cell\/X.env.kindOf x=some .free)-> ∃c,X.env.cells.lookup x=some c
 cab: ∀x c,X.fn x=true->X.env.cells.lookup x=some c->X.s₀.heap.objs.size<=c
 hd:X.calm=true->X.A.handled=none
 frames:X.A.frames=some X.stack
 stk:X.stack=X.outer\/(X.stack=X.env::X.outer/\X.env.frame=some X.env.locals)
 exf: ∀b∈X.ex,b≠X.env.locals/\ ∀x c,X.env.cells.lookup x=some c->c≠b
 bs: ∀b o,X.base.get? b=some o->X.s₀.heap.get? b=some o/\X.H₀ b=none
 bsz:X.base.objs.size<=X.s₀.heap.objs.size
 noex: ∀b o,X.base.get? b=some o->b∉X.ex
 exfs: ∀b∈X.ex,b∉X.fs
 funs:X.s₀.heap.FunFrames X.base X.outer
 frf: ∀b∈X.fs,X.H₀ b=none
structure Inv(X:Cx)(pins:Ba)(σ:List (Option V))(H:Hp)(s:Shared):Prop where
 ok:X.Ok
 os:s.os=X.s₀.os
 bare:AllBare s.gens
 base:Un X.fs X.ex X.H₀ H X.s₀.heap s.heap
 loc: ∃m,s.heap.Ns X.env.locals m/\ ∀(i:Nat)(x:Str)(v:V),X.N[i]? =some x->σ[i]? =some (some v)->Vis X.env.scope x-> ∃u,RelV v u/\Look X.env s.heap m x u
 cell: ∀x c,X.env.cells.lookup x=some c-> ∃v,s.heap.IsCell c v
 free:H X.env.locals=none
 freeC: ∀x c,X.env.cells.lookup x=some c->H c=none
 pin: ∀p∈X.pn++pins,s.heap.get? p.1=some p.2/\H p.1=none/\p.1≠X.env.locals/\p.1∉X.fs/\ ∀v,p.2.data≠.cell v
 hok:HOk X.prog X.w H s.heap
 len:σ.length=X.N.length
section
variable{X:Cx}{pins:Ba}{σ:List (Option V)}{H H':Hp}{s:Shared}{h':Heap}
def Cx.Ok.nofr(ok:X.Ok){b:Addr}{o:Obj}(e:X.base.get? b=some o):b∉X.fs:=λhb=>by have:=(ok.funs.mem hb).1;rw [e]at this;cases this
def Inv.bs(I:Inv X pins σ H s): ∀b o,X.base.get? b=some o->s.heap.get? b=some o/\H b=none:=λb o e=>
 ⟨I.base.keep b o (I.ok.bs b o e).1 (I.ok.bs b o e).2 (I.ok.nofr e) (I.ok.noex b o e),I.base.free b o (I.ok.bs b o e).1 (I.ok.bs b o e).2 (I.ok.noex b o e)⟩
def Inv.bk(I:Inv X pins σ H s): ∀b o,X.base.get? b=some o->s.heap.get? b=some o:=λb o e=>(I.bs b o e).1
def Inv.mod(I:Inv X pins σ H s):Mod X.K X.mg X.base:=I.ok.mod
def Inv.kIn(I:Inv X pins σ H s):X.K.In s.heap:=I.ok.mod.kin.keeps I.bk
def Inv.lt(I:Inv X pins σ H s):X.env.locals<s.heap.objs.size:=let ⟨_,hn,_⟩:=I.loc;hn.lt
def Inv.sz(I:Inv X pins σ H s):X.s₀.heap.objs.size<=s.heap.objs.size:=le_trans I.ok.above (le_of_lt I.lt)
def Inv.nofs(I:Inv X pins σ H s){a:Addr}(h:s.heap.objs.size<=a):a∉X.fs:=λhb=>by obtain⟨_,o,ho,_⟩:=I.ok.funs.mem hb;exact absurd (lt_of_lt_of_le (Heap.lt_size ho) (le_trans I.sz h)) (lt_irrefl _)
def Inv.cne(I:Inv X pins σ H s): ∀x c,X.env.cells.lookup x=some c->c≠X.env.locals:=λx c e z=>by obtain⟨v,o,ho,hd⟩:=I.cell x c e;obtain⟨m,⟨o',es,ep,ho',hd',_⟩,_⟩:=I.loc;rw [z,ho']at ho;cases ho;rw [hd']at hd;cases hd
def Inv.funs(I:Inv X pins σ H s):s.heap.FunFrames X.base X.outer:=by
 have all: ∀(l:List Env),(∀b∈frs l,b∈X.fs)->X.s₀.heap.FunFrames X.base l->s.heap.FunFrames X.base l:=by
  intro l
  induction l with
  |nil=>intro _ _;trivial
  |cons env r ih=>
   intro hs hl;obtain⟨hk,⟨L,o,hf,hn,ho,hd⟩,hr⟩:=hl;have hL:L∈X.fs:=hs L (by unfold frs;rw [filterMap_cons,hf];exact mF0);obtain⟨sl,e⟩:=I.base.slot L o ho (I.ok.frf L hL) hL λz=>I.ok.exfs L z hL;exact⟨hk,⟨L,_,hf,hn,e,hd⟩,ih (λb hb=>hs b (by unfold frs;rw [filterMap_cons,hf];exact mO _ hb)) hr⟩
 exact all X.outer (λ_ hb=>hb) I.ok.funs
def Inv.stack(I:Inv X pins σ H s):s.heap.FunFrames X.base X.stack:=by
 rcases I.ok.stk with e|⟨e,hf⟩
 ·rw [e];exact I.funs
 ·rw [e];obtain⟨m,hn,_⟩:=I.loc;refine .cons (by rw [I.ok.kind];decide) hf hn ?_ I.funs;exact Heap.get?_none_of_le (le_trans I.ok.bsz I.ok.above)
def Inv.stkSub(I:Inv X pins σ H s): ∀b∈frs X.stack,b∈X.env.locals::X.fs:=λb hb=>by
 rcases I.ok.stk with e|⟨e,hf⟩
 ·rw [e]at hb;exact mO _ hb
 ·rw [e]at hb;unfold frs at hb;rw [filterMap_cons,hf]at hb;exact hb
def Inv.stkFree(I:Inv X pins σ H s): ∀b∈frs X.stack,H b=none:=λb hb=>by
 rcases mC.mp (I.stkSub b hb)with e|hb
 ·rw [e];exact I.free
 ·obtain⟨_,o,ho,_⟩:=I.ok.funs.mem hb;exact I.base.free b o ho (I.ok.frf b hb) λz=>I.ok.exfs b z hb
def Inv.step{g':Array GenState}{t':Nat}{d':Drawn}{ch:Ah}(I:Inv X pins σ H s)
  (hch: ∀b∈ch,(b∈X.ex\/X.s₀.heap.objs.size<=b)/\b≠X.env.locals/\(∀x c,X.env.cells.lookup x=some c->c≠b)/\ ∀p∈X.pn++pins,p.1≠b)
  (keep: ∀b o,b≠X.env.locals->b∉X.fs->b∉ch->s.heap.get? b=some o->H b=none->h'.get? b=some o)
  (slot: ∀b o,b≠X.env.locals->b∈X.fs->b∉ch->s.heap.get? b=some o->H b=none-> ∃sl,h'.get? b=some {o with slots:=sl}) (free: ∀b o,b∉ch->s.heap.get? b=some o->H b=none->H' b=none)
  (there: ∀b o,b∉ch->s.heap.get? b=some o-> ∃o',h'.get? b=some o')
  (tups: ∀b xs,H b=some (.tup xs)->H' b=some (.tup xs)) (frzs: ∀b o u,H b=some (.frz o u)->H' b=some (.frz o u)) (tbls: ∀b ps,H b=some (.tbl ps)-> ∃more,H' b=some (.tbl (ps++more)))
  (ns: ∀m,s.heap.Ns X.env.locals m->h'.Ns X.env.locals m) (hok:HOk X.prog X.w H' h') (hg:AllBare g'):
  Inv X pins σ H' {s with heap:=h',gens:=g',drawn:=d',toks:=t'}:=by
 have neL: ∀b o,X.s₀.heap.get? b=some o->b≠X.env.locals:=λb o e=>ne_of_lt (lt_of_lt_of_le (Heap.lt_size e) I.ok.above)
 have neC: ∀b o,X.s₀.heap.get? b=some o->b∉X.ex->b∉ch:=λb o e hx hb=>by
  rcases (hch b hb).1 with z|z
  ·exact hx z
  ·exact absurd (lt_of_lt_of_le (Heap.lt_size e) z) (lt_irrefl _)
 have cellK: ∀x c,X.env.cells.lookup x=some c-> ∀v,s.heap.IsCell c v->h'.IsCell c v:=λx c e v ⟨o,ho,hd⟩=>by
  have nch:c∉ch:=λz=>(hch c z).2.2.1 x c e rfl;by_cases hc:c∈X.fs
  ·obtain⟨sl,q⟩:=slot c o (I.cne x c e) hc nch ho (I.freeC x c e);exact⟨_,q,hd⟩
  ·exact⟨o,keep c o (I.cne x c e) hc nch ho (I.freeC x c e),hd⟩
 refine⟨I.ok,I.os,hg,⟨λb o e n hb hx=>?_,λb o e n hb hx=>?_,λb o e n hx=>?_,λb o e hx=>?_,λb xs e=>tups b xs (I.base.tups b xs e),λb o xs e=>frzs b o xs (I.base.frzs b o xs e),λb ps e=>?_⟩,?_,λx c e=>?_,?_,λx c e=>?_,λp hp=>?_,hok,I.len⟩
 ·exact keep b o (neL b o e) hb (neC b o e hx) (I.base.keep b o e n hb hx) (I.base.free b o e n hx)
 ·obtain⟨sl,e1⟩:=I.base.slot b o e n hb hx;obtain⟨sl',e2⟩:=slot b _ (neL b o e) hb (neC b o e hx) e1 (I.base.free b o e n hx);exact⟨sl',e2⟩
 ·obtain⟨o',e1⟩:=I.base.there b o e hx;exact free b o' (neC b o e hx) e1 (I.base.free b o e n hx)
 ·obtain⟨o',e1⟩:=I.base.there b o e hx;exact there b o' (neC b o e hx) e1
 ·obtain⟨m1,e1⟩:=I.base.tbls b ps e;obtain⟨m2,e2⟩:=tbls b _ e1;exact⟨m1++m2,by rw [e2,Array.append_assoc]⟩
 ·obtain⟨m,hn,hl⟩:=I.loc;refine⟨m,ns m hn,λi x v e1 e2 e3=>?_⟩;obtain⟨u,r,l⟩:=hl i x v e1 e2 e3;refine⟨u,r,?_⟩;rcases l with l|⟨k,c,e,z⟩
  ·exact .inl l
  ·exact .inr ⟨k,c,e,cellK x c e _ z⟩
 ·obtain⟨v,z⟩:=I.cell x c e;exact⟨v,cellK x c e v z⟩
 ·obtain⟨m,⟨o,_,_,ho,_⟩,_⟩:=I.loc;exact free _ o (λz=>(hch _ z).2.1 rfl) ho I.free
 ·obtain⟨v,o,ho,hd⟩:=I.cell x c e;exact free c o (λz=>(hch c z).2.2.1 x c e rfl) ho (I.freeC x c e)
 ·obtain⟨e,n,ne,nf,d⟩:=I.pin p hp;have nch:p.1∉ch:=λz=>(hch p.1 z).2.2.2 p hp rfl;exact⟨keep p.1 p.2 ne nf nch e n,free p.1 p.2 nch e n,ne,nf,d⟩
def Inv.un{t':Nat}(I:Inv X pins σ H s)(u:Un X.fs [] H H' s.heap h')(hok:HOk X.prog X.w H' h'):Inv X pins σ H' {s with heap:=h',toks:=t'}:=by obtain⟨m,⟨o,es,ep,ho,r⟩,_⟩:=id I.loc;obtain⟨sl,hL⟩:=u.any ho I.free (by simp);exact I.step (g':=s.gens) (d':=s.drawn) (ch:=[]) (λ_ z=>nomatch z) (λb o _ hb _ e n=>u.keep b o e n hb (by simp)) (λb o _ hb _ e n=>u.slot b o e n hb (by simp)) (λb o _ e n=>u.free b o e n (by simp)) (λb o _ e=>u.there b o e (by simp)) u.tups u.frzs u.tbls (λm' hm=>by obtain⟨o',es',ep',ho',r'⟩:=hm;rw [ho]at ho';cases ho';exact⟨_,es',ep',hL,r'⟩) hok I.bare
def Inv.call{g':Array GenState}{t':Nat}{d':Drawn}{ch:Ah}(I:Inv X pins σ H s)(u:Un (frs X.stack) ch H H' s.heap h')(hok:HOk X.prog X.w H' h')(hg:AllBare g')
  (hch: ∀b∈ch,(b∈X.ex\/X.s₀.heap.objs.size<=b)/\b≠X.env.locals/\(∀x c,X.env.cells.lookup x=some c->c≠b)/\ ∀p∈X.pn++pins,p.1≠b):
  Inv X pins σ H' {s with heap:=h',gens:=g',drawn:=d',toks:=t'}:=by
 obtain⟨m,⟨o,es,ep,ho,r⟩,_⟩:=id I.loc;obtain⟨sl,hL⟩:=u.any ho I.free λz=>(hch _ z).2.1 rfl;exact I.step (ch:=ch) hch (λb o hL hb hc e n=>u.keep b o e n (λz=>(mC.mp (I.stkSub b z)).elim hL hb) hc) (λb o _ _ hc e n=>u.any e n hc) (λb o hc e n=>u.free b o e n hc) (λb o hc e=>u.there b o e hc) u.tups u.frzs u.tbls (λm' hm=>by obtain⟨o',es',ep',ho',r'⟩:=hm;rw [ho]at ho';cases ho';exact⟨_,es',ep',hL,r'⟩) hok hg
def Inv.turned{t':Nat}{it:Addr}(I:Inv X pins σ H s)(k: ∀b o,b≠it->s.heap.get? b=some o->h'.get? b=some o)(hn:H it=none)(hL:it≠X.env.locals)
  (h1:it∈X.ex\/X.s₀.heap.objs.size<=it) (h2: ∀x c,X.env.cells.lookup x=some c->c≠it) (h3: ∀p∈X.pn++pins,p.1≠it):Inv X pins σ H {s with heap:=h',toks:=t'}:=by
 have nit: ∀b u,H b=some u->b≠it:=λb u e z=>by rw [z,hn]at e;cases e
 refine I.step (g':=s.gens) (d':=s.drawn) (ch:=[it]) (λb hb=>?_) (λb o _ _ hc e _=>k b o (λz=>hc (by simp [z])) e) (λb o _ _ hc e _=>⟨o.slots,k b o (λz=>hc (by simp [z])) e⟩) (λ_ _ _ _ n=>n)
  (λb o hc e=>⟨o,k b o (λz=>hc (by simp [z])) e⟩) (λ_ _ e=>e) (λ_ _ _ e=>e) (λb ps e=>⟨#[],by rw [e];simp⟩) (λm hm=>?_) (λb u e=>?_) I.bare
 ·have e:b=it:=by simpa using hb
  subst e;exact⟨h1,hL,h2,h3⟩
 ·obtain⟨o,es,ep,ho,r⟩:=hm;exact⟨o,es,ep,k _ o (Ne.symm hL) ho,r⟩
 ·refine(I.hok b u e).stay (λc v hc q=>k c v ?_ q) (λ_ q=>q) λ_ _ q=>q;rcases hc with z|z
  ·rw [z];exact nit b u e
  ·exact nit c _ z
def Inv.tok(I:Inv X pins σ H s)(t:Nat):Inv X pins σ H {s with toks:=t}:=I.un (h':=s.heap) (t':=t) Un.refl I.hok
def Inv.kept{t':Nat}(I:Inv X pins σ H s)(k: ∀b u,s.heap.get? b=some u->h'.get? b=some u):Inv X pins σ H {s with heap:=h',toks:=t'}:=I.un (Un.kept k) (I.hok.kept k)
def Inv.laid{a:Addr}{o:HO}{t':Nat}(I:Inv X pins σ H s)(k: ∀b u,s.heap.get? b=some u->h'.get? b=some u)(hp:s.heap.objs.size<=a)(new:ObjOk X.prog X.w (upd H a o) h' a o):
  Inv X pins σ (upd H a o) {s with heap:=h',toks:=t'}:=I.un (Un.laid k hp (I.hok.fresh hp)) (I.hok.laid k hp new)
def Inv.write{x e:Addr}{o:HO}{t':Nat}(I:Inv X pins σ H s)(mu:Mut (H x))(he:e=x\/H e=some (.own x))(k: ∀b u,b≠e->s.heap.get? b=some u->h'.get? b=some u)(heo: ∃u,h'.get? e=some u)
  (new:ObjOk X.prog X.w (upd H x o) h' x o):Inv X pins σ (upd H x o) {s with heap:=h',toks:=t'}:=I.un (Un.write mu he k heo) (I.hok.write mu he k heo new)
def Inv.pins_of{pins':Ba}(I:Inv X pins σ H s)(h: ∀p∈pins',s.heap.get? p.1=some p.2/\H p.1=none/\p.1≠X.env.locals/\p.1∉X.fs/\ ∀v,p.2.data≠.cell v):Inv X pins' σ H s:=
 ⟨I.ok,I.os,I.bare,I.base,I.loc,I.cell,I.free,I.freeC,λp hp=>(mem_append.mp hp).elim (λz=>I.pin p (mem_append_left _ z)) (h p),I.hok,I.len⟩
def zUI{N:Ai}(hN:N.Nodup){i j:Nat}{x:Str}(a:N[i]? =some x)(b:N[j]? =some x):i=j:=by obtain⟨h1,e1⟩:=gS0.mp a;obtain⟨h2,e2⟩:=gS0.mp b;exact(getElem_inj hN).mp (e1.trans e2.symm)
def zPV{M:Model}{A:Around}{E:VP}{i:Nat}{x:Str}{v:V}{u:Value}{Q:Unit->Shared->Prop}(I:Inv X pins σ H s)(hN:X.N.Nodup)(hi:X.N[i]? =some x)(hx:Loc X.env.scope x)(r:RelV v u)
  (h: ∀s',Inv X pins (σ.set i (some v)) H s'->(∃a,Heap.SameBut a s.heap s'.heap/\(a=X.env.locals\/X.env.cells.lookup x=some a))->Q () s') (hf:X.fn x=true\/X.env.scope.names.lookup x=some .local:=by first |exact .inl rfl|exact .inr rfl|assumption):wpAny M A (storeName X.env x u) Q E s:=by
 obtain⟨m,hn,hl⟩:=id I.loc;have hcls:(X.env.scope.kind==.class || (X.env.scope.kind==.module&&X.env.locals !=X.env.globals))=false:=by rw [I.ok.kind];rfl
 have hiσ:i<σ.length:=by rw [I.len];exact(gS0.mp hi).1
 have cne:=I.cne
 have tracked: ∀{a:Addr}{h':Heap},(∃o,s.heap.get? a=some o/\H a=none)->Heap.SameBut a s.heap h'->HOk X.prog X.w H h':=λ{a h'} ha hs b ob e=>by
  obtain⟨_,_,hfree⟩:=ha;refine(I.hok b ob e).stay (λc w' hc q=>(hs.2 c ?_).trans q) (λ_ q=>q) λ_ _ q=>q;rintro rfl;rcases hc with rfl|hc
  ·rw [hfree]at e;cases e
  ·rw [hfree]at hc;cases hc
 rcases hx with hk|hk
 ·refine wpAny_storeName_local hk hn (λh' hn' hs=>?_) hcls;obtain⟨oL,_,_,hoL,_⟩:=id hn;refine h _ ⟨I.ok,I.os,I.bare,⟨λb o e n hb hx=>?_,λb o e n hb hx=>?_,I.base.free,λb o e hx=>?_,I.base.tups,I.base.frzs,I.base.tbls⟩,⟨_,hn',λj y v' e1 e2 e3=>?_⟩,λy c e=>?_,I.free,I.freeC,λp hp=>?_,tracked ⟨oL,hoL,I.free⟩ hs,by simpa using I.len⟩ ⟨_,hs,.inl rfl⟩
  ·exact(hs.2 b (ne_of_lt (lt_of_lt_of_le (Heap.lt_size e) I.ok.above))).trans (I.base.keep b o e n hb hx)
  ·obtain⟨sl,e1⟩:=I.base.slot b o e n hb hx;exact⟨sl,(hs.2 b (ne_of_lt (lt_of_lt_of_le (Heap.lt_size e) I.ok.above))).trans e1⟩
  ·obtain⟨o',e1⟩:=I.base.there b o e hx;exact⟨o',(hs.2 b (ne_of_lt (lt_of_lt_of_le (Heap.lt_size e) I.ok.above))).trans e1⟩
  ·by_cases hj:j=i
   ·subst hj;rw [hi]at e1;cases e1;rw [getElem?_set_self hiσ]at e2;cases e2;exact⟨u,r,.inl ⟨hk,by simp⟩⟩
   ·rw [getElem?_set_ne (Ne.symm hj)]at e2;obtain⟨u',r',q⟩:=hl j y v' e1 e2 e3;refine⟨u',r',?_⟩;rcases q with⟨k,e⟩|⟨k,c,e,z⟩
    ·refine .inl ⟨k,?_⟩;have:y≠x:=λe=>hj (zUI hN e1 (e▸hi));simp [this,e]
    ·exact .inr ⟨k,c,e,z.sameBut hs (cne y c e)⟩
  ·obtain⟨w',z⟩:=I.cell y c e;exact⟨w',z.sameBut hs (cne y c e)⟩
  ·obtain⟨e,n,ne,nf,d⟩:=I.pin p hp;exact⟨(hs.2 p.1 ne).trans e,n,ne,nf,d⟩
 ·have hfn:X.fn x=true:=by
   rcases hf with z|z
   ·exact z
   ·rw [z]at hk;cases hk
  obtain⟨c,hc⟩:=I.ok.has x (.inl hk);obtain⟨w',z⟩:=I.cell x c hc;refine wpAny_storeName_cell I.ok.kind hk hc z (λh' hc' hs=>?_);obtain⟨oc,hoc,hocd⟩:=id z;refine h {s with heap:=h'} ⟨I.ok,I.os,I.bare,⟨λb o e n hb hx=>?_,λb o e n hb hx=>?_,I.base.free,λb o e hx=>?_,I.base.tups,I.base.frzs,I.base.tbls⟩,⟨m,hn.sameBut hs (Ne.symm (cne x c hc)),λj y v' e1 e2 e3=>?_⟩,λy c' e=>?_,I.free,I.freeC,λp hp=>?_,tracked ⟨oc,hoc,I.freeC x c hc⟩ hs,by simpa using I.len⟩ ⟨c,hs,.inr hc⟩
  ·exact(hs.2 b (ne_of_lt (lt_of_lt_of_le (Heap.lt_size e) (I.ok.cab x c hfn hc)))).trans (I.base.keep b o e n hb hx)
  ·obtain⟨sl,e1⟩:=I.base.slot b o e n hb hx;exact⟨sl,(hs.2 b (ne_of_lt (lt_of_lt_of_le (Heap.lt_size e) (I.ok.cab x c hfn hc)))).trans e1⟩
  ·obtain⟨o',e1⟩:=I.base.there b o e hx;exact⟨o',(hs.2 b (ne_of_lt (lt_of_lt_of_le (Heap.lt_size e) (I.ok.cab x c hfn hc)))).trans e1⟩
  ·by_cases hj:j=i
   ·subst hj;rw [hi]at e1;cases e1;rw [getElem?_set_self hiσ]at e2;cases e2;exact⟨u,r,.inr ⟨.inl hk,c,hc,hc'⟩⟩
   ·rw [getElem?_set_ne (Ne.symm hj)]at e2;obtain⟨u',r',q⟩:=hl j y v' e1 e2 e3;refine⟨u',r',?_⟩;rcases q with q|⟨k,c',e,z'⟩
    ·exact .inl q
    ·refine .inr ⟨k,c',e,z'.sameBut hs ?_⟩;rintro rfl;exact hj (zUI hN e1 (I.ok.inj _ _ _ e hc▸hi))
  ·by_cases hcc:c'=c
   ·subst hcc;exact⟨_,hc'⟩
   ·obtain⟨w2,z2⟩:=I.cell y c' e;exact⟨w2,z2.sameBut hs hcc⟩
  ·obtain⟨e,n,ne,nf,d⟩:=I.pin p hp;refine⟨(hs.2 p.1 ?_).trans e,n,ne,nf,d⟩;intro q;rw [q,hoc]at e;have q':oc=p.2:=Option.some.inj e;exact d w' (by rw [<-q'];exact hocd)
def zUJ{M:Model}{A:Around}{E:VP}{i:Nat}{x:Str}{v:V}{u:Value}{Q:Unit->Shared->Prop}(I:Inv X pins σ H s)(hN:X.N.Nodup)(hi:X.N[i]? =some x)(hx:Loc X.env.scope x)(r:RelV v u)
  (h: ∀s',Inv X pins (σ.set i (some v)) H s'->Q () s') (hf:X.fn x=true\/X.env.scope.names.lookup x=some .local:=by first |exact .inl rfl|exact .inr rfl|assumption):wpAny M A (storeName X.env x u) Q E s:=
 zPV I hN hi hx r (λs' I' _=>h s' I') hf
def Inv.call'{s':Shared}{ch:Ah}(I:Inv X pins σ H s)(ho:s'.os=s.os)(u:Un (frs X.stack) ch H H' s.heap s'.heap)(hok:HOk X.prog X.w H' s'.heap)(hg:AllBare s'.gens)
  (hch: ∀b∈ch,(b∈X.ex\/X.s₀.heap.objs.size<=b)/\b≠X.env.locals/\(∀x c,X.env.cells.lookup x=some c->c≠b)/\ ∀p∈X.pn++pins,p.1≠b):Inv X pins σ H' s':=by
 obtain⟨h',g',d',t',o'⟩:=s';have e:o'=s.os:=ho;subst e;exact I.call (g':=g') (t':=t') (d':=d') u hok hg hch
end
abbrev XK:=Value->Option Addr->Hp->Prop
abbrev St:=List (Option V)
abbrev VK:=V->Hp->Prop
abbrev TE:=St->Hp->VK->Prop
abbrev TT:=St->Hp->(Bool->Hp->Prop)->Prop
abbrev TA:=St->Hp->(List V->Hp->Prop)->Prop
structure Ends where
 nx:St->Hp->Prop
 rt:VK
 bk:St->Hp->Prop:=λ_ _=>False
 ct:St->Hp->Prop:=λ_ _=>False
abbrev TS:=Ends->St->Hp->Prop
def EP(X:Cx)(pins:Ba)(σ:St)(Q:VK)(u:Value)(s':Shared):Prop:= ∃v H',Inv X pins σ H' s'/\RelV v u/\Q v H'
def TP(X:Cx)(pins:Ba)(σ:St)(Q:Bool->Hp->Prop)(b:Bool)(s':Shared):Prop:= ∃H',Inv X pins σ H' s'/\Q b H'
def AP(X:Cx)(pins:Ba)(σ:St)(Q:List V->Hp->Prop)(us:Ae)(s':Shared):Prop:= ∃vs H',Inv X pins σ H' s'/\Vals vs us/\Q vs H'
def SP(X:Cx)(pins:Ba)(D:Ends)(f:Flow)(s':Shared):Prop:=
 match f with
 |.next=> ∃σ' H',Inv X pins σ' H' s'/\D.nx σ' H'
 |.brk=> ∃σ' H',Inv X pins σ' H' s'/\D.bk σ' H'
 |.cont=> ∃σ' H',Inv X pins σ' H' s'/\D.ct σ' H'
 |.ret u=> ∃v σ' H',Inv X pins σ' H' s'/\RelV v u/\D.rt v H'
def PE(X:Cx)(e:Expr)(t:TE):Prop:=
 ∀(pins:Ba)(s:Shared)(σ:St)(H:Hp)(Q:VK),Inv X pins σ H s->t σ H Q->wpAny (model X.prog X.w) X.A (eval e X.env) (EP X pins σ Q) X.xe s
def PT(X:Cx)(e:Expr)(t:TT):Prop:=
 ∀(pins:Ba)(s:Shared)(σ:St)(H:Hp)(Q:Bool->Hp->Prop),Inv X pins σ H s->t σ H Q->wpAny (model X.prog X.w) X.A (isTrue e X.env (eval e X.env)) (TP X pins σ Q) X.xe s
def PW(X:Cx)(e:Expr)(t:TT):Prop:=
 ∀(whole:Sem Value)(pins:Ba)(s:Shared)(σ:St)(H:Hp)(Q:Bool->Hp->Prop),Inv X pins σ H s->t σ H Q->wpAny (model X.prog X.w) X.A (isTrue e X.env whole) (TP X pins σ Q) X.xe s
def PW.pt{X:Cx}{e:Expr}{t:TT}(h:PW X e t):PT X e t:=h _
def PA(X:Cx)(es:Bd)(t:TA):Prop:=
 ∀(pos:Pos)(pins:Ba)(s:Shared)(σ:St)(H:Hp)(Q:List V->Hp->Prop),Inv X pins σ H s->t σ H Q->wpAny (model X.prog X.w) X.A (spliced (backTo pos (starEach es X.env))) (AP X pins σ Q) X.xe s
def PS(X:Cx)(st:Stmt)(t:TS):Prop:=
 ∀(pins:Ba)(s:Shared)(σ:St)(H:Hp)(D:Ends),Inv X pins σ H s->t D σ H->wpAny (model X.prog X.w) X.A (exec st X.env) (SP X pins D) X.xe s
def PSs(X:Cx)(st:List Stmt)(t:TS):Prop:=
 ∀(pins:Ba)(s:Shared)(σ:St)(H:Hp)(D:Ends),Inv X pins σ H s->t D σ H->wpAny (model X.prog X.w) X.A (execs st X.env) (SP X pins D) X.xe s
def thn{α:Type}{t:Sem α}{Q Q':α->Shared->Prop}{M:Model}{A:Around}{E:VP}{s:Shared}(h:wpAny M A t Q E s)(hQ: ∀a s,Q a s->Q' a s):wpAny M A t Q' E s:=wpAny_mono h hQ λ_ _ x=>x
section
variable{X:Cx}
def tVar(i:Nat):TE:=λσ H Q=> ∃v,σ[i]? =some (some v)/\Q v H
def tC(v:V):TE:=λ_ H Q=>Q v H
def yOT{i:Nat}{x:Str}{pos:Pos}(hN:X.N[i]? =some x)(hv:Vis X.env.scope x)(hd:(x==("__debug__":Str))=false:=by decide)(hcd:(x==("__classdict__":Str))=false:=by decide):PE X (.Name x pos) (tVar i):=by
 intro pins s σ H Q I h;obtain⟨v,e,h⟩:=h;obtain⟨m,hn,hl⟩:=I.loc;obtain⟨u,r,l⟩:=hl i x v hN e hv;have fin:EP X pins σ Q u s:=⟨v,H,I,r,h⟩
 rcases l with⟨hk,hm⟩|⟨hk,c,hc,hcell⟩
 ·exact wpAny_Name (wpAny_loadName_local I.ok.kind hk hn hm fin) hd
 ·rcases hk with hk|hk
  ·exact wpAny_Name (wpAny_loadName_cell I.ok.kind hk hc hcell fin) hd
  ·exact wpAny_Name (wpAny_loadName_free I.ok.kind hk hc hcell fin hcd) hd
def yFE{i j pos}:PE X (.Constant (.int i) j pos) (tC (.int i)):=λ_ _ _ H _ I h=>wpAny_Constant_int ⟨.int i,H,I.tok _,⟨_,rfl⟩,h⟩
def pe_bl{b j pos}:PE X (.Constant (.bool b) j pos) (tC (.bl b)):=λ_ _ _ H _ I h=>Constant_bool ⟨.bl b,H,I,rfl,h⟩
def yOU{j pos}:PE X (.Constant .none j pos) (tC .non):=λ_ _ _ H _ I h=>Constant_none ⟨.non,H,I,rfl,h⟩
def yOV{x j pos}:PE X (.Constant (.str x) j pos) (tC (.str x)):=λ_ _ _ H _ I h=>Calls.Constant_str ⟨.str x,H,I.tok _,⟨_,rfl⟩,h⟩
def Gl(X:Cx)(x:Str):Prop:=X.env.kindOf x=some .globalImplicit
def zZV{E:VP}{pins:Ba}{s:Shared}{σ:St}{H:Hp}{x:Str}{u:Value}{pos:Pos}{Q:VP}(I:Inv X pins σ H s)(hg:Gl X x)(hm:X.mg x=some u)(h:Q u s)
  (hd:(x==("__debug__":Str))=false:=by decide):wpAny (model X.prog X.w) X.A (eval (.Name x pos) X.env) Q E s:=
 Calls.Name_function_global I.ok.kind hg (Calls.loadGlobal_global (by rw [I.ok.glob];exact I.mod.glob.keeps I.bk) hm h) hd
def zIP{E:VP}{pins:Ba}{s:Shared}{σ:St}{H:Hp}{x:Str}{u:Value}{pos:Pos}{Q:VP}(I:Inv X pins σ H s)(hg:Gl X x)(hm:X.mg x=none)(hv:bootBuiltins x=some u)(h:Q u s)
  (hn:x≠"__name__":=by decide) (hd:(x==("__debug__":Str))=false:=by decide):wpAny (model X.prog X.w) X.A (eval (.Name x pos) X.env) Q E s:=by
 obtain⟨mb,h1,h2⟩:=I.mod.blt;exact Calls.Name_function_global I.ok.kind hg (Calls.loadGlobal_builtin (by rw [I.ok.glob];exact I.mod.glob.keeps I.bk) hm (by rw [I.ok.blt];exact h1.keeps I.bk) ((h2 x hn).trans hv) h) hd
def yJN{x:Str}{v:V}{u:Value}{pos:Pos}(hg:Gl X x)(hm:X.mg x=none)(hv:bootBuiltins x=some u)(r:RelV v u)(hn:x≠"__name__":=by decide)(hd:(x==("__debug__":Str))=false:=by decide):PE X (.Name x pos) (tC v):=
 λ_ _ _ H _ I h=>zIP I hg hm hv ⟨v,H,I,r,h⟩ hn hd
variable{a b:Expr}{ta tb:TE}{pos:Pos}
variable{tA tB':TT}{rest:Bd}
def tAnd(t u:TT):TT:=λσ H Q=>t σ H λc H1=>if c=true then u σ H1 Q else Q false H1
def tOr(t u:TT):TT:=λσ H Q=>t σ H λc H1=>if c=true then Q true H1 else u σ H1 Q
def tNot(t:TT):TT:=λσ H Q=>t σ H λc H1=>Q (!c) H1
def yJO(ha:PT X a tA):PW X (.BoolOp .And [a] pos) tA:=by
 intro wh pins s σ H Q I h;refine isTrue_and (thn (ha pins s σ H Q I h) λc s1 e=>?_)
 cases c with
 |true=>exact isTrue_and_nil e
 |false=>exact e
def yOW(ha:PT X a tA):PW X (.BoolOp .Or [a] pos) tA:=by
 intro wh pins s σ H Q I h;refine isTrue_or (thn (ha pins s σ H Q I h) λc s1 e=>?_)
 cases c with
 |false=>exact isTrue_or_nil e
 |true=>exact e
def yOX(ha:PT X a tA)(hb:PW X (.BoolOp .And (b::rest) pos) tB'):PW X (.BoolOp .And (a::b::rest) pos) (tAnd tA tB'):=by
 intro wh pins s σ H Q I h;refine isTrue_and (thn (ha pins s σ H _ I h) λc s1 ⟨H1,I1,q1⟩=>?_)
 cases c with
 |true=>exact hb wh pins s1 σ H1 Q I1 q1
 |false=>exact⟨H1,I1,q1⟩
def pw_or(ha:PT X a tA)(hb:PW X (.BoolOp .Or (b::rest) pos) tB'):PW X (.BoolOp .Or (a::b::rest) pos) (tOr tA tB'):=by
 intro wh pins s σ H Q I h;refine isTrue_or (thn (ha pins s σ H _ I h) λc s1 ⟨H1,I1,q1⟩=>?_)
 cases c with
 |true=>exact⟨H1,I1,q1⟩
 |false=>exact hb wh pins s1 σ H1 Q I1 q1
def yOY(ha:PT X a tA):PT X (.UnaryOp .Not a pos) (tNot tA):=by intro pins s σ H Q I h;exact isTrue_not (ha pins s σ H (λc H1=>Q (!c) H1) I h)
def tAndV(ta tb:TE):TE:=λσ H Q=>ta σ H λx H1=> ∃c,x=.bl c/\if c=true then tb σ H1 Q else Q (.bl false) H1
def tNotV(ta:TE):TE:=λσ H Q=>ta σ H λx H1=> ∃c,x=.bl c/\Q (.bl (!c)) H1
def yOZ{op}{t:TE}(h:PE X a t):PE X (.BoolOp op [a] pos) t:=λpins s σ H Q I hw=>BoolOp_one (h pins s σ H Q I hw)
def yPA(ha:PE X a ta)(hb:PE X (.BoolOp .And (b::rest) pos) tb):PE X (.BoolOp .And (a::b::rest) pos) (tAndV ta tb):=by
 intro pins s σ H Q I h;refine BoolOp_and (thn (ha pins s σ H _ I h) λv s1 ⟨x,H1,I1,r1,q1⟩=>?_);obtain⟨c,rfl,q1⟩:=q1;cases r1;refine wpAny_truthy_bool ?_
 cases c with
 |true=>exact hb pins s1 σ H1 Q I1 q1
 |false=>exact⟨.bl false,H1,I1,rfl,q1⟩
def yPB(ha:PE X a ta):PE X (.UnaryOp .Not a pos) (tNotV ta):=by intro pins s σ H Q I h;refine UnaryOp_ (thn (ha pins s σ H _ I h) λv s1 ⟨x,H1,I1,r1,q1⟩=>?_);obtain⟨c,rfl,q1⟩:=q1;cases r1;exact not_of (wpAny_truthy_bool ⟨.bl (!c),H1,I1,rfl,q1⟩)
end
def SqL(K:Be)(H:Hp)(a:Addr)(xs:List V):Prop:=
 Rd H a (.lst xs)\/
  ∃(o:Obj)(its:Ag)(n:Nat),K.lookup a=some o/\o.cls=.type "list"/\o.dict=none/\o.data=.seq its n/\its.size<=sizeLine/\Vals xs its.toList
def SqT(K:Be)(H:Hp)(a:Addr)(xs:List V):Prop:=
 Rd H a (.tup xs)\/
  ∃(o:Obj)(its:Ag)(n:Nat),K.lookup a=some o/\o.cls=.type "tuple"/\o.data=.seq its n/\its.size<=sizeLine/\Vals xs its.toList
def absV:Value->Option V
 |.none=>some .non
 |.bool b=>some (.bl b)
 |.int i _=>some (.int i)
 |.str x _=>some (.str x)
 |.bytes b _=>some (.byt b)
 |.float b _=>some (.flt b)
 |.ref a=>some (.ref a)
 |.type n=>some (.ty n)
 |_=>none
theorem RelV.abs{x:V}{u:Value}(r:RelV x u):absV u=some x:=by
 cases x with
 |non=>cases r;rfl
 |bl _=>cases r;rfl
 |int _=>obtain⟨t,rfl⟩:=r;rfl
 |str _=>obtain⟨t,rfl⟩:=r;rfl
 |byt _=>obtain⟨t,rfl⟩:=r;rfl
 |flt _=>obtain⟨t,rfl⟩:=r;rfl
 |ref _=>cases r;rfl
 |ty _=>cases r;rfl
def RelV.inj{x y:V}{u:Value}(r:RelV x u)(q:RelV y u):x=y:=Option.some.inj (r.abs.symm.trans q.abs)
theorem Vals.inj: ∀{xs ys:List V}{us:Ae},Vals xs us->Vals ys us->xs=ys
 |_,_,_,.nil,.nil=>rfl
 |_,_,_,.cons r t,.cons r' t'=>by rw [r.inj r',Vals.inj t t']
section
variable{X:Cx}{pins:Ba}{σ:St}{H:Hp}{s:Shared}{a:Addr}{xs ys:List V}
def SqL.of{K:Be}(h:H a=some (.lst xs)):SqL K H a xs:=.inl (.inl h)
def SqT.of{K:Be}(h:H a=some (.tup xs)):SqT K H a xs:=.inl (.inl h)
def Inv.list(I:Inv X pins σ H s)(h:SqL X.K H a xs): ∃its:List Value,Vals xs its/\PlainL s.heap a its.toArray/\xs.length<=sizeLine:=by
 rcases h with h|⟨o,its,n,hk,hc,hd,hs,hz,r⟩
 ·obtain⟨z,its,n,r,e⟩:=h.ok I.hok;exact⟨its,r,⟨_,n,e,rfl,rfl,rfl⟩,z⟩
 ·refine⟨its.toList,r,⟨o,n,I.kIn a o hk,hc,hd,by simpa using hs⟩,?_⟩;have e:=r.length;simp only [Array.length_toList]at e;omega
def Inv.tuple(I:Inv X pins σ H s)(h:SqT X.K H a xs): ∃its:List Value,Vals xs its/\IsTup s.heap a its.toArray/\xs.length<=sizeLine:=by
 rcases h with h|⟨o,its,n,hk,hc,hs,hz,r⟩
 ·obtain⟨z,its,r,p⟩:=h.ok I.hok;exact⟨its,r,p,z⟩
 ·refine⟨its.toList,r,⟨o,I.kIn a o hk,hc,n,by simpa using hs⟩,?_⟩;have e:=r.length;simp only [Array.length_toList]at e;omega
def Inv.list_inj(I:Inv X pins σ H s)(h:SqL X.K H a xs)(h':SqL X.K H a ys):xs=ys:=by
 obtain⟨its,r,⟨o,n,e,_,_,d⟩,_⟩:=I.list h;obtain⟨its',r',⟨o',n',e',_,_,d'⟩,_⟩:=I.list h';rw [e]at e';cases e';rw [d]at d';injection d' with d1 _
 have:its=its':=by simpa using congrArg Array.toList d1
 subst this;exact r.inj r'
def Inv.tuple_inj(I:Inv X pins σ H s)(h:SqT X.K H a xs)(h':SqT X.K H a ys):xs=ys:=by
 obtain⟨its,r,⟨o,e,_,n,d⟩,_⟩:=I.tuple h;obtain⟨its',r',⟨o',e',_,n',d'⟩,_⟩:=I.tuple h';rw [e]at e';cases e';rw [d]at d';injection d' with d1 _
 have:its=its':=by simpa using congrArg Array.toList d1
 subst this;exact r.inj r'
end
abbrev Cx.wish(X:Cx)(E:VP):Cx:={X with xe:=E}
abbrev Cx.nox(X:Cx):Cx:=X.wish λ_ _=>False
def Cx.Ok.wish{X:Cx}(ok:X.Ok)(E:VP):(X.wish E).Ok:=
 ⟨ok.mod,ok.kind,ok.glob,ok.blt,ok.above,ok.inj,ok.has,ok.cab,ok.hd,ok.frames,ok.stk,ok.exf,ok.bs,ok.bsz,ok.noex,ok.exfs,ok.funs,ok.frf⟩
def Cx.Ok.unwish{X:Cx}{E:VP}(ok:(X.wish E).Ok):X.Ok:=
 ⟨ok.mod,ok.kind,ok.glob,ok.blt,ok.above,ok.inj,ok.has,ok.cab,ok.hd,ok.frames,ok.stk,ok.exf,ok.bs,ok.bsz,ok.noex,ok.exfs,ok.funs,ok.frf⟩
section
variable{X:Cx}{pins:Ba}{σ:St}{H:Hp}{s:Shared}{E:VP}
def Inv.wish(I:Inv X pins σ H s)(E:VP):Inv (X.wish E) pins σ H s:=⟨I.ok.wish E,I.os,I.bare,I.base,I.loc,I.cell,I.free,I.freeC,I.pin,I.hok,I.len⟩
def Inv.unwish(I:Inv (X.wish E) pins σ H s):Inv X pins σ H s:=⟨I.ok.unwish,I.os,I.bare,I.base,I.loc,I.cell,I.free,I.freeC,I.pin,I.hok,I.len⟩
def SP.unwish{D:Ends}{f:Flow}{s':Shared}(h:SP (X.wish E) pins D f s'):SP X pins D f s':=by
 cases f with
 |next=>obtain⟨σ',H',I,q⟩:=h;exact⟨σ',H',I.unwish,q⟩
 |brk=>obtain⟨σ',H',I,q⟩:=h;exact⟨σ',H',I.unwish,q⟩
 |cont=>obtain⟨σ',H',I,q⟩:=h;exact⟨σ',H',I.unwish,q⟩
 |ret u=>obtain⟨v,σ',H',I,r,q⟩:=h;exact⟨v,σ',H',I.unwish,r,q⟩
def PSs.nox{st:List Stmt}{t:TS}(h:PSs X.nox st t):PSs X st t:=λpins s σ H D I hw=>
 wpAny_mono (h pins s σ H D (I.wish _) hw) (λ_ _ q=>q.unwish) λ_ _ z=>False.elim z
end
section
variable{X:Cx}{st:Stmt}{rest:List Stmt}{t u:TS}{e:Expr}{te:TE}{pos:Pos}
def tNext:TS:=λD σ H=>D.nx σ H
def tSeq(t u:TS):TS:=λD σ H=>t {D with nx:=u D} σ H
def yJP:PSs X [] tNext:=λ_ _ σ H _ I h=>wpAny_execs_nil ⟨σ,H,I,h⟩
def yFF(h1:PS X st t)(h2:PSs X rest u):PSs X (st::rest) (tSeq t u):=by
 intro pins s σ H D I h;refine wpAny_execs_cons (thn (h1 pins s σ H {D with nx:=u D} I h) λf s1 q=>?_)
 cases f with
 |next=>
  obtain⟨σ',H',I',q⟩:=q;exact h2 pins s1 σ' H' D I' q
 |ret v=>exact q
 |brk=>exact q
 |cont=>exact q
def zZW(h1:PS X st t):PSs X [st] t:=by
 intro pins s σ H D I h;refine wpAny_execs_cons (thn (h1 pins s σ H D I h) λf s1 q=>?_)
 cases f with
 |next=>exact wpAny_execs_nil q
 |ret v=>exact q
 |brk=>exact q
 |cont=>exact q
def Inv.quiet{pins:Ba}{σ:St}{H:Hp}{s:Shared}(I:Inv X pins σ H s):interactive X.env=false:=by simp [interactive,I.ok.kind]
def tDrop(te:TE):TS:=λD σ H=>te σ H λ_ H1=>D.nx σ H1
def yJQ(he:PE X e te)(hs:swapsWith e none pos.line X.env=pure false:=by rfl):PS X (.Expr e pos) (tDrop te):=by intro pins s σ H D I h;exact wpAny_Expr_any (thn (he pins s σ H _ I h) λv s1 ⟨x,H1,I1,r1,q1⟩=>⟨σ,H1,I1,q1⟩) I.quiet hs
def tRet(te:TE):TS:=λD σ H=>te σ H D.rt
def yPC(he:PE X e te):PS X (.Return (some e) pos) (tRet te):=by intro pins s σ H D I h;exact wpAny_Return_some (thn (he pins s σ H _ I h) λv s1 ⟨x,H1,I1,r1,q1⟩=>⟨x,σ,H1,I1,r1,q1⟩)
def tIfS(c:TT)(t u:TS):TS:=λD σ H=>c σ H λb H1=>if b=true then t D σ H1 else u D σ H1
def ps_if{c:Expr}{a b:List Stmt}{tc:TT}(hc:PT X c tc)(ha:PSs X a t)(hb:PSs X b u):PS X (.If c a b pos) (tIfS tc t u):=by
 intro pins s σ H D I h;refine wpAny_If (thn (hc pins s σ H _ I h) λd s1 ⟨H1,I1,q1⟩=>?_)
 cases d with
 |true=>exact ha pins s1 σ H1 D I1 q1
 |false=>exact hb pins s1 σ H1 D I1 q1
def yPD:TS:=λ_ _ _=>False
def yFG:PS X st yPD:=λ_ _ _ _ _ _ h=>h.elim
end
abbrev TG:=V->St->Hp->(St->Hp->Prop)->Prop
abbrev TGs:=List V->St->Hp->(St->Hp->Prop)->Prop
def PG(X:Cx)(target:Expr)(t:TG):Prop:=
 ∀(pins:Ba)(s:Shared)(σ:St)(H:Hp)(v:V)(u:Value)(Q:St->Hp->Prop),Inv X pins σ H s->RelV v u->t v σ H Q->
  wpAny (model X.prog X.w) X.A (assign target X.env u) (λ_ s'=> ∃σ' H',Inv X pins σ' H' s'/\Q σ' H') X.xe s
def PGs(X:Cx)(ts:Bd)(t:TGs):Prop:=
 ∀(pins:Ba)(s:Shared)(σ:St)(H:Hp)(vs:List V)(us:Ae)(Q:St->Hp->Prop),Inv X pins σ H s->Vals vs us->t vs σ H Q->
  wpAny (model X.prog X.w) X.A (assignInOrder ((assignEach ts X.env).map (·.2)) us) (λ_ s'=> ∃σ' H',Inv X pins σ' H' s'/\Q σ' H') X.xe s
abbrev TSet:=V->V->V->Hp->(Hp->Prop)->Prop
def PSet(X:Cx)(t:TSet):Prop:=
 ∀(pins:Ba)(s:Shared)(σ:St)(H:Hp)(o i v:V)(ov iv u:Value)(Q:Hp->Prop),Inv X pins σ H s->RelV o ov->RelV i iv->RelV v u->t o i v H Q->
  wpAny (model X.prog X.w) X.A (setItem ov iv u) (λ_ s'=> ∃H',Inv X pins σ H' s'/\Q H') X.xe s
section
variable{X:Cx}{pos:Pos}
def yFH(i:Nat):TG:=λv σ H Q=>Q (σ.set i (some v)) H
def zZX{i:Nat}{x:Str}(hN:X.N.Nodup)(hi:X.N[i]? =some x)(hx:Loc X.env.scope x)(hf:X.fn x=true\/X.env.scope.names.lookup x=some .local:=by first |exact .inl rfl|exact .inr rfl|assumption):PG X (.Name x pos) (yFH i):=by intro pins s σ H v u Q I r h;exact wpAny_assign_Name (zUJ I hN hi hx r (λs' I'=>⟨_,H,I',h⟩) hf)
def gNil:TGs:=λvs σ H Q=>vs=[]/\Q σ H
def gCons(t:TG)(u:TGs):TGs:=λvs σ H Q=> ∃v r,vs=v::r/\t v σ H λσ' H'=>u r σ' H' Q
def zZY:PGs X [] gNil:=by intro pins s σ H vs us Q I r h;obtain⟨e,h⟩:=h;subst e;cases r;exact assignInOrder_nil ⟨σ,H,I,h⟩
def zUK{e:Expr}{es:Bd}{t:TG}{u:TGs}(h1:PG X e t)(h2:PGs X es u)
  (hs:(assignEach (e::es) X.env).map (·.2)=assign e X.env::(assignEach es X.env).map (·.2):=by rfl):PGs X (e::es) (gCons t u):=by
 intro pins s σ H vs us Q I r h;obtain⟨v,vr,e1,h⟩:=h;subst e1
 cases r with
 |cons r rr=>
  rw [hs];refine assignInOrder_cons (thn (h1 pins s σ H _ _ _ I r h) λ_ s1 ⟨σ1,H1,I1,q1⟩=>?_);exact h2 pins s1 σ1 H1 _ _ Q I1 rr q1
def gTup(K:Be)(n:Nat)(t:TGs):TG:=λv σ H Q=> ∃a xs,v=.ref a/\SqT K H a xs/\xs.length=n/\t xs σ H Q
def yFI{es:Bd}{k:Nat}{t:TGs}{n:Nat}(hc:X.calm=true)(h:PGs X es t)
  (hn:(assignEach es X.env).length=n:=by rfl) (hst:(assignEach es X.env).findIdx? (·.1)=none:=by rfl):PG X (.Tuple es k pos) (gTup X.K n t):=by
 intro pins s σ H v u Q I r hw;obtain⟨a,xs,e1,hq,hl,hw⟩:=hw;subst e1;cases r;obtain⟨its,rv,ht,hz⟩:=I.tuple hq;refine assign_Tuple_tuple (I.ok.hd hc) ht (by simp [hn, <-hl,rv.length]) hst λh' hx=>?_;have I1:Inv X pins σ H {s with heap:=h'}:=I.kept (t':=s.toks) λb o e=>hx b o (ne_of_lt (Heap.lt_size e)) e;exact h pins _ σ H xs _ Q I1 (by simpa using rv) hw
def gSub(to ti:TE)(t:TSet):TG:=λv σ H Q=>to σ H λo H1=>ti σ H1 λi H2=>t o i v H2 λH3=>Q σ H3
def yPE{o i:Expr}{to ti:TE}{t:TSet}(ho:PE X o to)(hi:PE X i ti)(hs:PSet X t)
  (ha: ∀v,assign (.Subscript o i pos) X.env v=(do
   let ov <-holding [v] (eval o X.env);let iv <-holding [v,ov] (eval i X.env)
   standAt pos
   holding [v,ov,iv] (setItem ov iv v)
   release [v,ov,iv] []):=by intro _;rfl):PG X (.Subscript o i pos) (gSub to ti t):=by
 intro pins s σ H v u Q I r h;rw [ha];refine wB0 (wpAny_holding (thn (ho pins s σ H _ I h) λov s1 ⟨x,H1,I1,r1,q1⟩=>?_));refine wB0 (wpAny_holding (thn (hi pins s1 σ H1 _ I1 q1) λiv s2 ⟨y,H2,I2,r2,q2⟩=>?_));refine wB0 (wpAny_standAt (wB0 (wpAny_holding (thn (hs pins s2 σ H2 x y v ov iv u _ I2 r1 r2 r q2) λ_ s3 ⟨H3,I3,q3⟩=>?_))));exact wpAny_release ⟨σ,H3,I3,q3⟩
def tAsg(te:TE)(g:TG):TS:=λD σ H=>te σ H λx H1=>g x σ H1 D.nx
def yPF{tg e:Expr}{te:TE}{g:TG}(he:PE X e te)(hg:PG X tg g)(hs:swapsWithSole [tg] e pos.line X.env=pure false:=by rfl)(hw:swappedStores [tg] e X.env=pure none:=by rfl)
  (h1:(assignEach [tg] X.env).map (·.2)=[assign tg X.env]:=by rfl):PS X (.Assign [tg] e pos) (tAsg te g):=by
 intro pins s σ H D I h;refine wpAny_Assign_stores (thn (he pins s σ H _ I h) λv s1 ⟨x,H1,I1,r1,q1⟩=>?_) hs hw;rw [h1];exact thn (hg pins s1 σ H1 x v _ I1 r1 q1) λ_ s2 q=>q
def yPG{i:Nat}{x:Str}{e:Expr}{te:TE}{pos':Pos}(hN:X.N.Nodup)(hi:X.N[i]? =some x)(hx:Loc X.env.scope x)(he:PE X e te)(hs:swapsWith e (some (.Name x pos')) pos.line X.env=pure false:=by rfl)(hf:X.fn x=true\/X.env.scope.names.lookup x=some .local:=by first |exact .inl rfl|exact .inr rfl|assumption):
  PS X (.Assign [.Name x pos'] e pos) (tAsg te (yFH i)):=by
 intro pins s σ H D I h;refine wpAny_Assign_Name (thn (he pins s σ H _ I h) λv s1 ⟨y,H1,I1,r1,q1⟩=>?_) hs;exact zUJ I1 hN hi hx r1 (λs2 I2=>⟨_,H1,I2,q1⟩) hf
end
section
variable{X:Cx}{pos:Pos}
def yPH(c:TT)(tb:TS):TS:=λD σ H=> ∃W:Nat->St->Hp->Prop,(∃m,W m σ H)/\ ∀m σ H,W m σ H->
 c σ H λb H1=>if b=true then∃N:St->Hp->Prop,(∀σ' H',N σ' H'-> ∃m',m'<m/\W m' σ' H')/\tb {D with nx:=N,ct:=N,bk:=D.nx} σ H1 else D.nx σ H1
def yFJ{c:Expr}{body:List Stmt}{tc:TT}{tb:TS}(hp:PassesOwn (model X.prog X.w) X.A X.env X.xe)(hc:PT X c tc)(hb:PSs X body tb):PS X (.While c body [] pos) (yPH tc tb):=by
 intro pins s σ H D I h;obtain⟨W,⟨m0,w0⟩,turn⟩:=h;refine wpAny_While (codeAny_whileLoop (λn s'=> ∃σ' H',Inv X pins σ' H' s'/\W n σ' H') ?_ m0 ⟨σ,H,I,w0⟩);rintro n s1 ⟨σ1,H1,I1,w1⟩;refine wpAny_passesOwn hp (thn (hc pins s1 σ1 H1 _ I1 (turn n σ1 H1 w1)) λb s2 ⟨H2,I2,q2⟩=>?_)
 cases b with
 |true=>
  obtain⟨N,hN,q2⟩:=q2;rw [iP rfl];refine wpAny_passesOwn hp (thn (hb pins s2 σ1 H2 _ I2 q2) λf s3 q3=>?_)
  cases f with
  |next=>
   obtain⟨σ3,H3,I3,n3⟩:=q3;obtain⟨m',hm,w3⟩:=hN σ3 H3 n3;exact⟨m',hm,σ3,H3,I3,w3⟩
  |cont=>
   obtain⟨σ3,H3,I3,n3⟩:=q3;obtain⟨m',hm,w3⟩:=hN σ3 H3 n3;exact⟨m',hm,σ3,H3,I3,w3⟩
  |brk=>exact q3
  |ret v=>exact q3
 |false=>
  rw [iN xF0];exact wpAny_execs_nil ⟨σ1,H2,I2,q2⟩
end
structure It where
 go:Nat->Hp->Prop
 yld:Nat->Hp->V->Hp->Prop
 stop:Nat->Hp->Prop
def zGJ(X:Cx)(pins:Ba)(H:Hp)(b:Addr):Prop:=
 H b=none/\b≠X.env.locals/\b∉X.fs/\(b∈X.ex\/X.s₀.heap.objs.size<=b)/\(∀x c,X.env.cells.lookup x=some c->c≠b)/\ ∀p∈X.pn++pins,p.1≠b
def Inv.fpOk{X:Cx}{pins:Ba}{σ:St}{H H':Hp}{s:Shared}{b:Addr}(I:Inv X pins σ H s)(hb:s.heap.objs.size<=b)(hn:H' b=none):zGJ X pins H' b:=by
 refine⟨hn,ne_of_gt (lt_of_lt_of_le I.lt hb),I.nofs hb,.inr (le_trans I.sz hb),λx c e z=>?_,λp hp z=>?_⟩
 ·obtain⟨v,q⟩:=I.cell x c e;exact absurd (lt_of_lt_of_le q.lt (by rw [z];exact hb)) (lt_irrefl _)
 ·exact absurd (lt_of_lt_of_le (Heap.lt_size (I.pin p hp).1) (by rw [z];exact hb)) (lt_irrefl _)
structure Turn(P:Program)(w:World)(K:Be)(tg:Expr)(J:It)(fp:Ah)(it:Addr)(tn:Nat->Heap->Prop):Prop where
 mem:it∈fp
 obj: ∀i h,tn i h-> ∀b∈fp, ∃o,h.get? b=some o/\ ∀v,o.data≠.cell v
 keep: ∀i h h',tn i h->(∀b∈fp, ∀o,h.get? b=some o->h'.get? b=some o)->tn i h'
 item: ∀(X:Cx),X.prog=P->X.w=w->X.K=K->X.calm=true-> ∀(i:Nat)(pins:Ba)(s:Shared)(σ:St)(H:Hp)(E:VP),Inv X pins σ H s->(∀b∈fp,zGJ X pins H b)->tn i s.heap->J.go i H->
  wpAny (model P w) X.A (pyNext (.ref it)) (λr s1=> ∃u,r=some u/\
   wpAny (model P w) X.A (letOwnedTupleGo tg (.ref it) u) (λ_ s2=> ∃x H',Inv X pins σ H' s2/\RelV x u/\J.yld i H x H'/\tn (i+1) s2.heap/\ ∀b∈fp,H' b=none) E s1) E s
 done: ∀(X:Cx),X.prog=P->X.w=w->X.K=K->X.calm=true-> ∀(i:Nat)(pins:Ba)(s:Shared)(σ:St)(H:Hp)(E:VP),Inv X pins σ H s->(∀b∈fp,zGJ X pins H b)->tn i s.heap->J.stop i H->
  wpAny (model P w) X.A (pyNext (.ref it)) (λr s1=>r=none/\Inv X pins σ H s1) E s
 self: ∀(A:Around)(i:Nat)(s:Shared)(Q:VP)(E:VP),tn i s.heap->Q (.ref it) s->wpAny (model P w) A (pyIter (.ref it)) Q E s
abbrev TI:=St->Hp->(It->Hp->Prop)->Prop
def PIE(X:Cx)(pins:Ba)(σ:St)(tg:Expr)(R:It->Hp->Prop)(itv:Value)(s2:Shared):Prop:=
 ∃(it:Addr)(fp:Ah)(tn:Nat->Heap->Prop)(J:It)(H':Hp),itv=.ref it/\Inv X pins σ H' s2/\Turn X.prog X.w X.K tg J fp it tn/\tn 0 s2.heap/\(∀b∈fp,zGJ X pins H' b)/\R J H'
def PI(X:Cx)(tg iter:Expr)(wi:TI):Prop:=
 ∀(pins:Ba)(s:Shared)(σ:St)(H:Hp)(R:It->Hp->Prop),Inv X pins σ H s->wi σ H R->
  wpAny (model X.prog X.w) X.A (eval iter X.env) (λv s1=>wpAny (model X.prog X.w) X.A (pyIter v) (PIE X pins σ tg R) X.xe s1) X.xe s
def yFK{M:Model}{A:Around}{E:VP}{s:Shared}{tg:Expr}{it:Addr}{u:Value}{o:Obj}{n:String}{vs:Ag}{Q:Unit->Shared->Prop}(ho:s.heap.get? it=some o)(hc:o.cls=.type n)(hd:o.data=.fields vs)
  (hn:["enumerate","zip","dict_itemiterator","dict_reverseitemiterator","odict_iterator","itertools.zip_longest","itertools.pairwise"].contains n=false) (hQ:Q () s):wpAny M A (letOwnedTupleGo tg (.ref it) u) Q E s:=by
 unfold letOwnedTupleGo
 cases tg<;>first
  |exact wP0 hQ
  |(cases u<;>first
    |exact wP0 hQ
    |(refine wB0 (wpAny_load ho ?_)
      rw [hc,hd];show wpAny M A (if(["enumerate","zip","dict_itemiterator","dict_reverseitemiterator","odict_iterator","itertools.zip_longest","itertools.pairwise"].contains n&&vs[0]? ==some (rawInt _))=true then _ else _) Q E s;rw [iN (by intro h;rw [hn,Bool.false_and]at h;cases h)];exact wP0 hQ))
def Itl(K:Be)(a:Addr):It:=
 ⟨λi H=> ∃xs x,SqL K H a xs/\xs[i]? =some x,λi H x H'=>H'=H/\ ∀xs,SqL K H a xs->xs[i]? =some x,λi H=> ∃xs,SqL K H a xs/\xs.length<=i⟩
def Itt(K:Be)(a:Addr):It:=
 ⟨λi H=> ∃xs x,SqT K H a xs/\xs[i]? =some x,λi H x H'=>H'=H/\ ∀xs,SqT K H a xs->xs[i]? =some x,λi H=> ∃xs,SqT K H a xs/\xs.length<=i⟩
def Itr(lo:Int)(n:Nat):It:=⟨λi _=>i<n,λi H x H'=>H'=H/\x=.int (lo+i),λi _=>n<=i⟩
def yCO{P:Program}{w:World}{K:Be}{tg:Expr}(a it:Addr):Turn P w K tg (Itl K a) [it] it (λi h=>h.IsListIter it a i) where
 mem:=by simp
 obj:=λi h st b hb=>by
  have e:b=it:=by simpa using hb
  subst e;obtain⟨o,e,c,d⟩:=st;exact⟨o,e,λv z=>by rw [d]at z;cases z⟩
 keep:=λi h h' st k=>st.at λo e=>k it (by simp) o e
 item:=by intro X hP hw hK hc i pins s σ H E I hf st hg;subst hP hw hK;obtain⟨xs,x,hq,hx⟩:=hg;obtain⟨its,rv,p,hz⟩:=I.list hq;obtain⟨u,hu,ru⟩:=rv.get hx;obtain⟨f0,f1,f2,f3,f4,f5⟩:=hf it (by simp);refine wpAny_pyNext_list_item st p.isList (x:=u) (by simpa using hu) λh' st' sb=>?_;have I1:Inv X pins σ H {s with heap:=h'}:=I.turned (t':=s.toks) (λb o hb e=>(sb.2 b hb).trans e) f0 f1 f3 f4 f5;obtain⟨o,e,c,d⟩:=id st';exact⟨u,rfl,yFK (s:={s with heap:=h'}) e c d (by decide) ⟨x,H,I1,ru,⟨rfl,λys hy=>by rw [I.list_inj hy hq];exact hx⟩,st',λb hb=>(hf b hb).1⟩⟩
 done:=by intro X hP hw hK hc i pins s σ H E I hf st hg;subst hP hw hK;obtain⟨xs,hq,hx⟩:=hg;obtain⟨its,rv,p,hz⟩:=I.list hq;obtain⟨f0,f1,f2,f3,f4,f5⟩:=hf it (by simp);have hl:=rv.length;exact wpAny_pyNext_list_end (I.ok.hd hc) st p.isList (by simp;omega) λh' eb=>⟨rfl,I.turned (t':=s.toks) (λb o hb e=>eb b o hb e) f0 f1 f3 f4 f5⟩
 self:=λ_ _ _ _ _ st h=>wpAny_pyIter_listiter st h
def zXN{P:Program}{w:World}{K:Be}{tg:Expr}(a it:Addr):Turn P w K tg (Itt K a) [it] it (λi h=>h.IsTupleIter it a i) where
 mem:=by simp
 obj:=λi h st b hb=>by
  have e:b=it:=by simpa using hb
  subst e;obtain⟨o,e,c,d⟩:=st;exact⟨o,e,λv z=>by rw [d]at z;cases z⟩
 keep:=λi h h' st k=>st.at λo e=>k it (by simp) o e
 item:=by intro X hP hw hK hc i pins s σ H E I hf st hg;subst hP hw hK;obtain⟨xs,x,hq,hx⟩:=hg;obtain⟨its,rv,p,hz⟩:=I.tuple hq;obtain⟨u,hu,ru⟩:=rv.get hx;obtain⟨f0,f1,f2,f3,f4,f5⟩:=hf it (by simp);refine wpAny_pyNext_tuple_item st (show s.heap.IsTuple a its.toArray from p) (x:=u) (by simpa using hu) λh' st' sb=>?_;have I1:Inv X pins σ H {s with heap:=h'}:=I.turned (t':=s.toks) (λb o hb e=>(sb.2 b hb).trans e) f0 f1 f3 f4 f5;obtain⟨o,e,c,d⟩:=id st';exact⟨u,rfl,yFK (s:={s with heap:=h'}) e c d (by decide) ⟨x,H,I1,ru,⟨rfl,λys hy=>by rw [I.tuple_inj hy hq];exact hx⟩,st',λb hb=>(hf b hb).1⟩⟩
 done:=by intro X hP hw hK hc i pins s σ H E I hf st hg;subst hP hw hK;obtain⟨xs,hq,hx⟩:=hg;obtain⟨its,rv,p,hz⟩:=I.tuple hq;obtain⟨f0,f1,f2,f3,f4,f5⟩:=hf it (by simp);have hl:=rv.length;exact wpAny_pyNext_tuple_end (I.ok.hd hc) st (show s.heap.IsTuple a its.toArray from p) (by simp;omega) λh' eb=>⟨rfl,I.turned (t':=s.toks) (λb o hb e=>eb b o hb e) f0 f1 f3 f4 f5⟩
 self:=λ_ _ _ _ _ st h=>wpAny_pyIter_tupleiter st h
def zXO{P:Program}{w:World}{K:Be}{tg:Expr}(it:Addr)(lo:Int)(n:Nat):Turn P w K tg (Itr lo n) [it] it (λi h=>IsRangeIter h it (lo+(i:Nat) * 1) ((n:Int) - (i:Nat)) 1) where
 mem:=by simp
 obj:=λi h st b hb=>by
  have e:b=it:=by simpa using hb
  subst e;exact⟨_,st,λv z=>by have z':Data.fields _=Data.cell v:=z;cases z'⟩
 keep:=λi h h' st k=>k it (by simp) _ st
 item:=by intro X hP hw hK hc i pins s σ H E I hf st hg;subst hP hw hK;obtain⟨f0,f1,f2,f3,f4,f5⟩:=hf it (by simp);have W:=Walks.range (prog:=X.prog) (w:=X.w) (I.ok.hd hc) it lo 1 n;refine W.item i s _ _ hg st λv h' tk hv st' kk=>?_;obtain⟨t,rfl⟩:=hv;have I1:Inv X pins σ H {s with heap:=h',toks:=tk}:=I.turned (λb o hb e=>kk b o (by simpa using hb) e) f0 f1 f3 f4 f5;refine⟨_,rfl,yFK (s:={s with heap:=h',toks:=tk}) (n:="range_iterator") st' rfl rfl (by decide) ⟨.int (lo+i),H,I1,⟨t,?_⟩,⟨rfl,rfl⟩,st',λb hb=>(hf b hb).1⟩⟩;rw [Int.mul_one]
 done:=by intro X hP hw hK hc i pins s σ H E I hf st hg;subst hP hw hK;obtain⟨f0,f1,f2,f3,f4,f5⟩:=hf it (by simp);exact wpAny_pyNext_range_end (I.ok.hd hc) st (by have:n<=i:=hg;omega) λh' eb=>⟨rfl,I.turned (t':=s.toks) (λb o hb e=>eb b o hb e) f0 f1 f3 f4 f5⟩
 self:=λ_ _ _ _ _ st h=>wpAny_pyIter_rangeiter st h
section
variable{X:Cx}{tg:Expr}
def iList(K:Be)(tl:TE):TI:=λσ H R=>tl σ H λx H1=> ∃a,x=.ref a/\(∃xs,SqL K H1 a xs)/\R (Itl K a) H1
def iTup(K:Be)(tl:TE):TI:=λσ H R=>tl σ H λx H1=> ∃a,x=.ref a/\(∃xs,SqT K H1 a xs)/\R (Itt K a) H1
def yJR{l:Expr}{tl:TE}(hl:PE X l tl):PI X tg l (iList X.K tl):=by
 intro pins s σ H R I h;refine thn (hl pins s σ H _ I h) λv s1 ⟨x,H1,I1,r1,q1⟩=>?_;obtain⟨a,e,⟨xs,hq⟩,q⟩:=q1;subst e;cases r1;obtain⟨its,rv,p,hz⟩:=I1.list hq;refine wpAny_pyIter_list p.isList ?_;refine⟨s1.heap.objs.size,[s1.heap.objs.size],_,_,H1,rfl,I1.kept (t':=s1.toks) λb o e=>hP0 _ e,yCO a _,⟨_,Heap.get?_push_size _ rfl,rfl,rfl⟩,λb hb=>?_,q⟩;have e:b=s1.heap.objs.size:=by simpa using hb
 subst e;exact I1.fpOk (le_refl _) (I1.hok.fresh (le_refl _))
def yPI{l:Expr}{tl:TE}(hl:PE X l tl):PI X tg l (iTup X.K tl):=by
 intro pins s σ H R I h;refine thn (hl pins s σ H _ I h) λv s1 ⟨x,H1,I1,r1,q1⟩=>?_;obtain⟨a,e,⟨xs,hq⟩,q⟩:=q1;subst e;cases r1;obtain⟨its,rv,p,hz⟩:=I1.tuple hq;refine wpAny_pyIter_tuple (show s1.heap.IsTuple a its.toArray from p) ?_;refine⟨s1.heap.objs.size,[s1.heap.objs.size],_,_,H1,rfl,I1.kept (t':=s1.toks) λb o e=>hP0 _ e,zXN a _,⟨_,Heap.get?_push_size _ rfl,rfl,rfl⟩,λb hb=>?_,q⟩;have e:b=s1.heap.objs.size:=by simpa using hb
 subst e;exact I1.fpOk (le_refl _) (I1.hok.fresh (le_refl _))
def yFL{pins:Ba}{σ:St}{H:Hp}{s:Shared}{R:It->Hp->Prop}{E:VP}{lo hi:Int}{t u v:Tok}{tk:Nat}(I:Inv X pins σ H s)(h1: -(2 ^ 62)<=lo)(h2:lo<2 ^ 62)(h3: -(2 ^ 62)<=hi)(h4:hi<2 ^ 62)
  (q:R (Itr lo (hi - lo).toNat) H):wpAny (model X.prog X.w) X.A (pyIter (.ref s.heap.objs.size)) (PIE X pins σ tg R) E {s with heap:=s.heap.push {cls:=.type "range",data:=.fields #[.int lo t,.int hi u,.int 1 v]},toks:=tk}:=by
 refine wpAny_pyIter_range (IsRange.new ..) (small_one h1 h2 h3 h4) ?_;have I1:Inv X pins σ H {s with heap:=s.heap.push {cls:=.type "range",data:=.fields #[.int lo t,.int hi u,.int 1 v]},toks:=tk}:=I.kept λb o e=>hP0 _ e
 refine⟨(s.heap.push {cls:=.type "range",data:=.fields #[.int lo t,.int hi u,.int 1 v]}).objs.size,[(s.heap.push {cls:=.type "range",data:=.fields #[.int lo t,.int hi u,.int 1 v]}).objs.size],_,_,H,rfl,
  I1.kept (t':=tk) λb o e=>hP0 _ e,zXO _ lo (hi - lo).toNat,?_,λb hb=>?_,q⟩
 ·have e1:lo+((0:Nat):Int) * 1=lo:=by simp
  have e2:(((hi - lo).toNat:Nat):Int) - ((0:Nat):Int)=Builtin.Range.rangeSize lo hi 1:=by rw [rangeSize_one];split<;>omega
  show IsRangeIter _ _ (lo+((0:Nat):Int) * 1) ((((hi - lo).toNat:Nat):Int) - ((0:Nat):Int)) 1;rw [e1,e2];exact Heap.get?_push_size _ rfl
 ·have e:b=(s.heap.push {cls:=.type "range",data:=.fields #[.int lo t,.int hi u,.int 1 v]}).objs.size:=by simpa using hb
  subst e;exact I1.fpOk (le_refl _) (I1.hok.fresh (le_refl _))
def iRng1(ta:TA):TI:=λσ H R=>ta σ H λvs H1=> ∃j:Int,vs=[.int j]/\ -(2 ^ 62)<=j/\j<2 ^ 62/\R (Itr 0 j.toNat) H1
def yCP{a:Expr}{ta:TA}{p pos:Pos}(hg:Gl X "range")(hm:X.mg "range"=none)(ha:PA X [a] ta)(hs:starEach [a] X.env=[(false,eval a X.env)]:=by rfl):PI X tg (.Call (.Name "range" p) [a] [] pos) (iRng1 ta):=by
 intro pins s σ H R I h;refine Call_ (zIP I hg hm boot_range (PyProof.Rows.callWith_type1 (thn (ha pos pins s σ H _ I h) λus s1 ⟨vs,H1,I1,r1,q1⟩=>?_) hs rfl));obtain⟨j,e,q1,q2,q⟩:=q1;subst e
 cases r1 with
 |cons r rr=>
  cases rr;obtain⟨t,rfl⟩:=r;exact call_range_1 (yFL I1 (by omega) (by omega) q1 q2 (by simpa using q))
def tFor(wi:TI)(g:TG)(tb:TS):TS:=λD σ H=>wi σ H λJ H1=> ∃W:Nat->Nat->St->Hp->Prop,(∃m,W 0 m σ H1)/\ ∀i m σ H,W i m σ H->
 (J.stop i H/\D.nx σ H)\/(J.go i H/\ ∃N:St->Hp->Prop,(∀σ' H',N σ' H'-> ∃m',m'<m/\W (i+1) m' σ' H')/\ ∀x H',J.yld i H x H'->g x σ H' λσ2 H2=>tb {D with nx:=N,ct:=N,bk:=D.nx} σ2 H2)
def zIQ(fp:Ah)(h:Heap):List (Addr×Obj):=fp.filterMap λb=>(h.get? b).map λo=>(b,o)
def zGK{fp:Ah}{h:Heap}{b:Addr}{o:Obj}(hb:b∈fp)(e:h.get? b=some o):(b,o)∈zIQ fp h:=mem_filterMap.mpr ⟨b,hb,by rw [e];rfl⟩
def yCQ{fp:Ah}{h:Heap}{p:Addr×Obj}(hp:p∈zIQ fp h):p.1∈fp/\h.get? p.1=some p.2:=by
 obtain⟨b,hb,e⟩:=mem_filterMap.mp hp
 cases q:h.get? b with
 |none=>rw [q]at e;cases e
 |some o=>
  rw [q]at e;have e':(b,o)=p:=Option.some.inj e;subst e';exact⟨hb,q⟩
def Inv.pinned{pins:Ba}{σ:St}{H:Hp}{s:Shared}{fp:Ah}(I:Inv X pins σ H s)(hf: ∀b∈fp,zGJ X pins H b)(ho: ∀b∈fp, ∃o,s.heap.get? b=some o/\ ∀v,o.data≠.cell v):Inv X (pins++zIQ fp s.heap) σ H s:=
 I.pins_of λp hp=>(mem_append.mp hp).elim (λz=>I.pin p (mem_append_right _ z)) λz=>by obtain⟨hb,e⟩:=yCQ z;obtain⟨f0,f1,f2,_⟩:=hf p.1 hb;obtain⟨o,e',d⟩:=ho p.1 hb;rw [e]at e';cases e';exact⟨e,f0,f1,f2,d⟩
def Inv.unpinned{pins pl:Ba}{σ:St}{H:Hp}{s:Shared}(I:Inv X (pins++pl) σ H s):Inv X pins σ H s:=I.pins_of λp hp=>I.pin p (mem_append_right _ (mem_append_left _ hp))
def yPJ{iter:Expr}{body:List Stmt}{wi:TI}{g:TG}{tb:TS}{pos:Pos}(hp:PassesOwn (model X.prog X.w) X.A X.env X.xe)(hc:X.calm=true)(hi:PI X tg iter wi)(hg:PG X tg g)(hb:PSs X body tb)
  (hs: ∀x,foldedSetIterable iter X.env x=pure x:=by intro _;rfl):PS X (.For tg iter body [] pos) (tFor wi g tb):=by
 intro pins s σ H D I h;refine wpAny_For (thn (hi pins s σ H _ I h) λv s1 h1=>thn h1 λitv s2 h2=>?_) hs;obtain⟨it,fp,tn,J,H2,e,I2,T,st2,f2,W,⟨m0,w0⟩,turn⟩:=h2;subst e;have stat: ∀{H':Hp},(∀b∈fp,H' b=none)-> ∀b∈fp,zGJ X pins H' b:=λhn b hb=>⟨hn b hb,(f2 b hb).2⟩
 refine codeAny_forLoop_any (λn s'=> ∃i σ' H',Inv X pins σ' H' s'/\tn i s'.heap/\(∀b∈fp,H' b=none)/\W i n σ' H') ?_ m0 ⟨0,σ,H2,I2,st2,λb hb=>(f2 b hb).1,w0⟩;rintro n s3 ⟨i,σ3,H3,I3,st3,fr3,w3⟩;rcases turn i n σ3 H3 w3 with⟨stop,qn⟩|⟨go,N,hN,step⟩
 ·refine wpAny_passesOwn hp (thn (T.done X rfl rfl rfl hc i pins s3 σ3 H3 X.xe I3 (stat fr3) st3 stop) λr s4 ⟨hr,I4⟩=>?_);subst hr;exact wpAny_execs_nil ⟨σ3,H3,I4,qn⟩
 ·refine wpAny_passesOwn hp (thn (T.item X rfl rfl rfl hc i pins s3 σ3 H3 X.xe I3 (stat fr3) st3 go) λr s4 ⟨u,hr,h4⟩=>?_);subst hr;refine wpAny_passesOwn hp (thn h4 λ_ s5 ⟨x,H5,I5,r5,y5,st5,fr5⟩=>?_);have I5':=I5.pinned (stat fr5) (T.obj _ _ st5);refine wpAny_passesOwn hp (thn (hg _ s5 σ3 H5 x u _ I5' r5 (step x H5 y5)) λ_ s6 ⟨σ6,H6,I6,q6⟩=>?_);refine wpAny_passesOwn hp (thn (hb _ s6 σ6 H6 _ I6 q6) λf s7 q7=>?_);have again: ∀{σ7:St}{H7:Hp},Inv X (pins++zIQ fp s5.heap) σ7 H7 s7->N σ7 H7-> ∃m,m<n/\ ∃i σ' H',Inv X pins σ' H' s7/\tn i s7.heap/\(∀b∈fp,H' b=none)/\W i m σ' H':=λ{σ7 H7} I7 n7=>by obtain⟨m',hm,w7⟩:=hN σ7 H7 n7;refine⟨m',hm,i+1,σ7,H7,I7.unpinned,T.keep _ _ _ st5 λb hb o e=>(I7.pin (b,o) (mem_append_right _ (mem_append_right _ (zGK hb e)))).1,λb hb=>?_,w7⟩;obtain⟨o,e,d⟩:=T.obj _ _ st5 b hb;exact(I7.pin (b,o) (mem_append_right _ (mem_append_right _ (zGK hb e)))).2.1
  cases f with
  |next=>obtain⟨σ7,H7,I7,n7⟩:=q7;exact again I7 n7
  |cont=>obtain⟨σ7,H7,I7,n7⟩:=q7;exact again I7 n7
  |brk=>obtain⟨σ7,H7,I7,q7⟩:=q7;exact⟨σ7,H7,I7.unpinned,q7⟩
  |ret v=>obtain⟨x7,σ7,H7,I7,r7,q7⟩:=q7;exact⟨x7,σ7,H7,I7.unpinned,r7,q7⟩
end
abbrev R2:=V->V->Hp->VK->Prop
def OpR(X:Cx)(f:Value->Value->Sem Value)(r:R2):Prop:=
 ∀(pins:Ba)(s:Shared)(σ:St)(H:Hp)(x y:V)(v u:Value)(Q:VK),Inv X pins σ H s->RelV x v->RelV y u->r x y H Q->
  wpAny (model X.prog X.w) X.A (f v u) (EP X pins σ Q) X.xe s
def UnR(X:Cx)(f:Value->Sem Value)(r:V->Hp->VK->Prop):Prop:=
 ∀(pins:Ba)(s:Shared)(σ:St)(H:Hp)(x:V)(v:Value)(Q:VK),Inv X pins σ H s->RelV x v->r x H Q->
  wpAny (model X.prog X.w) X.A (f v) (EP X pins σ Q) X.xe s
def CallR(X:Cx)(f:Value)(r:List V->Hp->VK->Prop):Prop:=
 ∀(pins:Ba)(s:Shared)(σ:St)(H:Hp)(xs:List V)(us:Ae)(Q:VK),Inv X pins σ H s->Vals xs us->r xs H Q->
  wpAny (model X.prog X.w) X.A (call f us) (EP X pins σ Q) X.xe s
def TruR(X:Cx)(r:V->Hp->(Bool->Hp->Prop)->Prop):Prop:=
 ∀(pins:Ba)(s:Shared)(σ:St)(H:Hp)(x:V)(v:Value)(Q:Bool->Hp->Prop),Inv X pins σ H s->RelV x v->r x H Q->
  wpAny (model X.prog X.w) X.A (truthy v) (TP X pins σ Q) X.xe s
def tOp(r:R2)(ta tb:TE):TE:=λσ H Q=>ta σ H λx H1=>tb σ H1 λy H2=>r x y H2 Q
def tUn(r:V->Hp->VK->Prop)(ta:TE):TE:=λσ H Q=>ta σ H λx H1=>r x H1 Q
def rI(C:Int->Int->Prop)(g:Int->Int->V):R2:=λx y H Q=> ∃i j,x=.int i/\y=.int j/\C i j/\Q (g i j) H
def rI0(g:Int->Int->V):R2:=λx y H Q=> ∃i j,x=.int i/\y=.int j/\Q (g i j) H
def rU(g:Int->V):V->Hp->VK->Prop:=λx H Q=> ∃i,x=.int i/\Q (g i) H
section
variable{X:Cx}{a b c:Expr}{ta tb tc:TE}{pos:Pos}
def binT(ha:PE X a ta)(hb:PE X b tb){pins:Ba}{s:Shared}{σ:St}{H:Hp}{R:V->V->Hp->Prop}(I:Inv X pins σ H s)
  (h:ta σ H λx H1=>tb σ H1 λy H2=>R x y H2) {Q:VP} {f:Value->Value->Sem Value}
  (hf: ∀v u s2 x y H2,Inv X pins σ H2 s2->RelV x v->RelV y u->R x y H2->wpAny (model X.prog X.w) X.A (f v u) Q X.xe s2):
  wpAny (model X.prog X.w) X.A (eval a X.env) (λv s₁=>wpAny (model X.prog X.w) X.A (eval b X.env) (λu s₂=>wpAny (model X.prog X.w) X.A (f v u) Q X.xe s₂) X.xe s₁) X.xe s:=by
 refine thn (ha pins s σ H _ I h) λv s1 ⟨x,H1,I1,r1,q1⟩=>?_;refine thn (hb pins s1 σ H1 _ I1 q1) λu s2 ⟨y,H2,I2,r2,q2⟩=>?_;exact hf v u s2 x y H2 I2 r1 r2 q2
def pe_op{op:Operator}{r:R2}(ho:OpR X (binaryOp op) r)(ha:PE X a ta)(hb:PE X b tb):PE X (.BinOp a op b pos) (tOp r ta tb):=by intro pins s σ H Q I h;exact wpAny_BinOp (binT ha hb I h λv u s2 x y H2 I2 rx ry q=>ho pins s2 σ H2 x y v u Q I2 rx ry q)
def pe_un{op:UnaryOp}{r:V->Hp->VK->Prop}(ho:UnR X (unaryOp op) r)(ha:PE X a ta):PE X (.UnaryOp op a pos) (tUn r ta):=by intro pins s σ H Q I h;exact UnaryOp_ (thn (ha pins s σ H _ I h) λv s1 ⟨x,H1,I1,r1,q1⟩=>ho pins s1 σ H1 x v Q I1 r1 q1)
def opI{f:Value->Value->Sem Value}{C:Int->Int->Prop}{g:Int->Int->Int}
  (rule: ∀(i j:Int)(t u:Tok)(s:Shared)(Q:VP)(E:VP),C i j->Q (.int (g i j) s.toks) {s with toks:=s.toks+1}->wpAny (model X.prog X.w) X.A (f (.int i t) (.int j u)) Q E s):
  OpR X f (rI C λi j=>.int (g i j)):=by
 intro pins s σ H x y v u Q I rx ry h;obtain⟨i,j,rfl,rfl,hc,q⟩:=h;obtain⟨t,rfl⟩:=rx;obtain⟨t',rfl⟩:=ry;exact rule i j t t' s _ _ hc ⟨.int (g i j),H,I.tok _,⟨_,rfl⟩,q⟩
def opI0{f:Value->Value->Sem Value}{g:Int->Int->Int}
  (rule: ∀(i j:Int)(t u:Tok)(s:Shared)(Q:VP)(E:VP),Q (.int (g i j) s.toks) {s with toks:=s.toks+1}->wpAny (model X.prog X.w) X.A (f (.int i t) (.int j u)) Q E s):
  OpR X f (rI0 λi j=>.int (g i j)):=by
 intro pins s σ H x y v u Q I rx ry h;obtain⟨i,j,rfl,rfl,q⟩:=h;obtain⟨t,rfl⟩:=rx;obtain⟨t',rfl⟩:=ry;exact rule i j t t' s _ _ ⟨.int (g i j),H,I.tok _,⟨_,rfl⟩,q⟩
def CMul(i j:Int):Prop:=(-(2 ^ 64)<i/\i<2 ^ 64)\/(-(2 ^ 64)<j/\j<2 ^ 64)
def CMul.ok{i j:Int}(h:CMul i j):IntMulOk i j:=by
 rcases h with⟨h1,h2⟩|⟨h1,h2⟩
 ·exact .of_left (intBits_le_64 h1 h2)
 ·exact .of_right (intBits_le_64 h1 h2)
def yPK:OpR X (binaryOp .Add) (rI0 λi j=>.int (i+j)):=opI0 λ_ _ _ _ _ _ _ q=>add_int q
def yPL:OpR X (binaryOp .Sub) (rI0 λi j=>.int (i - j)):=opI0 λ_ _ _ _ _ _ _ q=>sub_int q
def yPM:OpR X (binaryOp .Mod) (rI (λ_ j=>0<j) λi j=>.int (i % j)):=opI λi j _ _ _ _ _ hc q=>by have h1:(0:Int)<j:=hc;exact mod_int' (by omega) (by rw [Int.fmod_eq_emod_of_nonneg i (by omega)];exact q)
def unI{f:Value->Sem Value}{g:Int->Int}
  (rule: ∀(i:Int)(t:Tok)(s:Shared)(Q:VP)(E:VP),Q (.int (g i) s.toks) {s with toks:=s.toks+1}->wpAny (model X.prog X.w) X.A (f (.int i t)) Q E s):
  UnR X f (rU λi=>.int (g i)):=by
 intro pins s σ H x v Q I rx h;obtain⟨i,rfl,q⟩:=h;obtain⟨t,rfl⟩:=rx;exact rule i t s _ _ ⟨.int (g i),H,I.tok _,⟨_,rfl⟩,q⟩
def yPN:UnR X (unaryOp .USub) (rU λi=>.int (-i)):=unI λ_ _ _ _ _ q=>neg_int q
end
section
variable{X:Cx}{a b c:Expr}{ta tb tc:TE}{pos:Pos}
def yFM{pins:Ba}{σ:St}{H:Hp}{s:Shared}{Q:VK}{k k':Bool}(I:Inv X pins σ H s)(q:Q (.bl k) H)(e:k=k'):EP X pins σ Q (.bool k') s:=by subst e;exact⟨.bl k,H,I,rfl,q⟩
def yCR:OpR X (compareOp .In) (λx y H Q=> ∃i j,x=.str i/\y=.str j/\Q (.bl (!(Builtin.Str.occurrences j i 0 j.length 1).isEmpty)) H):=by intro pins s σ H x y v u Q I rx ry h;obtain⟨i,j,rfl,rfl,q⟩:=h;obtain⟨t,rfl⟩:=rx;obtain⟨t',rfl⟩:=ry;exact in_str (yFM I q rfl)
def zZZ:OpR X (compareOp .IsNot) (λx y H Q=>y=.non/\Q (.bl (!decide (x=.non))) H):=by
 intro pins s σ H x y v u Q I rx ry h;obtain⟨rfl,q⟩:=h;cases ry;refine isnot_none_gen (yFM I q ?_)
 cases x<;>first
  |(cases rx;rfl)
  |(obtain⟨t,rfl⟩:=rx;rfl)
def OpR.or{f:Value->Value->Sem Value}{r r':R2}(h:OpR X f r)(h':OpR X f r'):OpR X f (λx y H Q=>r x y H Q\/r' x y H Q):=by
 intro pins s σ H x y v u Q I rx ry q;rcases q with q|q
 ·exact h pins s σ H x y v u Q I rx ry q
 ·exact h' pins s σ H x y v u Q I rx ry q
def yFN(b:Expr){op:CmpOp}(h:op≠.In:=by decide)(h2:op≠.NotIn:=by decide):behindInMarks op b=false:=by
 have e1:(op==CmpOp.In)=false:=by cases op<;>first |rfl|exact absurd rfl h
 have e2:(op==CmpOp.NotIn)=false:=by cases op<;>first |rfl|exact absurd rfl h2
 cases b<;>simp [behindInMarks,e1,e2]
def yJS{op:CmpOp}{r:R2}(ho:OpR X (compareOp op) r)(ha:PE X a ta)(hb:PE X b tb)(hm:behindInMarks op b=false):PE X (.Compare a [op] [b] pos) (tOp r ta tb):=by intro pins s σ H Q I h;exact wpAny_Compare1 (binT ha hb I h λv u s2 x y H2 I2 rx ry q=>ho pins s2 σ H2 x y v u Q I2 rx ry q) hm
def tTest(t:TE):TT:=λσ H Q=>t σ H λx H'=> ∃k,x=.bl k/\Q k H'
def yJT{op:CmpOp}{r:R2}(ho:OpR X (compareOp op) r)(ha:PE X a ta)(hb:PE X b tb)(hm:behindInMarks op b=false):PT X (.Compare a [op] [b] pos) (tTest (tOp r ta tb)):=by
 intro pins s σ H Q I h
 refine wpAny_isTrue_Compare1 (thn (ha pins s σ H _ I h) λv s1 ⟨x,H1,I1,r1,q1⟩=>thn (hb pins s1 σ H1 _ I1 q1) λu s2 ⟨y,H2,I2,r2,q2⟩=>
  thn (ho pins s2 σ H2 x y v u _ I2 r1 r2 q2) λc s3 ⟨z,H3,I3,r3,k,e,q3⟩=>?_) hm
 subst e;cases r3;exact wpAny_truthy_bool ⟨H3,I3,q3⟩
def TruV(K:Be)(x:V)(H:Hp)(k:Bool):Prop:=
 match x with
 |.non=>k=false
 |.bl b=>k=b
 |.int i=>k=(i !=0)
 |.str y=>y.length<=sizeLine/\k=((y.length:Int) !=0)
 |.byt y=>y.size<=sizeLine/\k=((y.size:Int) !=0)
 |.ref p=>(∃xs,SqL K H p xs/\k= !xs.isEmpty)\/(∃xs,SqT K H p xs/\k= !xs.isEmpty)\/ ∃kvs,H p=some (.dK kvs)/\k= !kvs.isEmpty
 |_=>False
theorem zXP{κ:Type}{kvs:List (κ×V)}{vs:List (κ×Value)}(r:KV kvs vs):(!vs.isEmpty)= !kvs.isEmpty:=by cases r<;>rfl
def zLW{xs:List V}{its:Ae}(r:Vals xs its):(!its.toArray.isEmpty)= !xs.isEmpty:=by cases r<;>simp
def zGL:(sizeLine:Nat)<2 ^ 63:=by rw [sizeLine_eq];decide
def yPO:TruR X (λx H Q=> ∃k,TruV X.K x H k/\Q k H):=by
 intro pins s σ H x v Q I rx h;obtain⟨k,e,q⟩:=h;have hl:=zGL;have hs:sizeLine=16777216:=sizeLine_eq
 cases x with
 |non=>
  cases rx;have e':k=false:=e;subst e';exact truthy_none ⟨H,I,q⟩
 |bl b=>
  cases rx;have e':k=b:=e;subst e';exact wpAny_truthy_bool ⟨H,I,q⟩
 |int i=>
  obtain⟨t,rfl⟩:=rx;have e':k=(i !=0):=e;subst e';exact PySem.P.truthy_int ⟨H,I,q⟩
 |str y=>
  obtain⟨t,rfl⟩:=rx;obtain⟨hy,e'⟩:y.length<=sizeLine/\k=((y.length:Int) !=0):=e;subst e';exact PySem.P.truthy_str (by omega) ⟨H,I.tok _,q⟩
 |byt y=>
  obtain⟨t,rfl⟩:=rx;obtain⟨hy,e'⟩:y.size<=sizeLine/\k=((y.size:Int) !=0):=e;subst e';exact PySem.W.truthy_bytes (by omega) ⟨H,I.tok _,q⟩
 |ref p=>
  cases rx;have e':(∃xs,SqL X.K H p xs/\k= !xs.isEmpty)\/(∃xs,SqT X.K H p xs/\k= !xs.isEmpty)\/ ∃kvs,H p=some (.dK kvs)/\k= !kvs.isEmpty:=e;rcases e' with⟨xs,hx,e'⟩|⟨xs,hx,e'⟩|⟨kvs,hx,e'⟩
  ·subst e';obtain⟨its,r,pl,hz⟩:=I.list hx;have hlen:=r.length;exact wpAny_truthy_list pl.isList (by simp only [sA];omega) ⟨H,I.tok _,by rw [zLW r];exact q⟩
  ·subst e';obtain⟨its,r,pl,hz⟩:=I.tuple hx;have hlen:=r.length;exact truthy_tuple pl (by simp only [sA];omega) ⟨H,I.tok _,by rw [zLW r];exact q⟩
  ·subst e';obtain⟨hz,hS,vs,r,m⟩:kvs.length<=sizeLine/\(p==sysModules)=false/\ ∃vs,KV kvs vs/\s.heap.DictOf (wA X.prog X.w) p vs:=I.hok p _ hx;have hlen:kvs.length=vs.length:=Paired.length r;exact wpAny_truthy_dict hS m (by omega) ⟨H,I.tok _,by rw [zXP r];exact q⟩
 |_=>exact(show False from e).elim
def yFO(ha:PE X a ta)(he: ∀whole,isTrue a X.env whole=(do let v <-whole;standAt a.pos;holding [v] (truthy v))):
  PT X a (λσ H Q=>ta σ H λx H'=> ∃k,TruV X.K x H' k/\Q k H'):=by
 intro pins s σ H Q I h;exact isTrue_plain (thn (ha pins s σ H _ I h) λv s1 ⟨x,H1,I1,r1,q1⟩=>yPO pins s1 σ H1 x v Q I1 r1 q1) (he _)
def zXQ:OpR X (binaryOp .Add) (λx y H Q=> ∃i j,x=.str i/\y=.str j/\i.length+j.length<=sizeLine/\Q (.str (i++j)) H):=by intro pins s σ H x y v u Q I rx ry h;obtain⟨i,j,rfl,rfl,hz,q⟩:=h;obtain⟨t,rfl⟩:=rx;obtain⟨t',rfl⟩:=ry;exact add_str (λt' tk=>⟨.str (i++j),H,I.tok _,⟨_,rfl⟩,q⟩) hz
def vals1{x:V}{us:Ae}(r:Vals [x] us): ∃u,us=[u]/\RelV x u:=by
 cases r with
 |cons r1 r2=>cases r2;exact⟨_,rfl,r1⟩
def vals2{x y:V}{us:Ae}(r:Vals [x,y] us): ∃u w',us=[u,w']/\RelV x u/\RelV y w':=by
 cases r with
 |cons r1 r2=>
  cases r2 with
  |cons r3 r4=>cases r4;exact⟨_,_,rfl,r1,r3⟩
def zPW(hc:X.calm=true):CallR X (.builtin "min") (λxs H Q=> ∃i j,xs=[.int i,.int j]/\Q (.int (if j<i then j else i)) H):=by
 intro pins s σ H xs us Q I r h;obtain⟨i,j,rfl,q⟩:=h;obtain⟨u,w',rfl,⟨t,rfl⟩,⟨t',rfl⟩⟩:=vals2 r;refine min_two_ints (I.ok.hd hc) λh' tk k=>⟨_,H,I.kept k,?_,q⟩
 by_cases hj:j<i
 ·rw [iP hj,iP hj];exact⟨_,rfl⟩
 ·rw [iN hj,iN hj];exact⟨_,rfl⟩
def yCS:CallR X (.type "int") (λxs H Q=>(∃i,xs=[.int i]/\Q (.int i) H)\/ ∃k,xs=[.bl k]/\Q (.int (if k then 1 else 0)) H):=by
 intro pins s σ H xs us Q I r h;rcases h with⟨i,rfl,q⟩|⟨k,rfl,q⟩
 ·obtain⟨u,rfl,t,rfl⟩:=vals1 r;exact call_int_int ⟨.int i,H,I,⟨_,rfl⟩,q⟩
 ·obtain⟨u,rfl,r1⟩:=vals1 r;cases r1;exact call_int_bool ⟨.int (if k then 1 else 0),H,I.tok _,⟨_,rfl⟩,q⟩
end
structure ObjM(h:Heap)(x dx C:Addr)(mA:Aj):Prop where
 obj:h.get? x=some (PySem.W.instObj C dx)
 ns:h.Ns1 dx mA
 ne:dx≠x
def yCT{h:Heap}{dx:Addr}{mA:Aj}(n:h.Ns1 dx mA): ∃od,h.get? dx=some od/\ ∀name,PySem.W.lookIn name od=some (mA name):=by
 obtain⟨o,es,ep,ho,hd,hk,_,hm⟩:=n;refine⟨o,ho,λname=>?_⟩;have e:=hm name;unfold nsFind findBy at e;rw [<-Array.find?_toList]at e;unfold PySem.W.lookIn;rw [hd];dsimp only;split
 ·rename_i y q;rw [q]at e;exact congrArg some e
 ·rename_i q;rw [q]at e;have a:es.toList.any (·.refKey)=false:=by rw [any_eq_false];intro y hy;obtain⟨z,t,hkey⟩:=hk y (Array.mem_toList_iff.mp hy);simp [DictEntry.refKey,hkey]
  have a': ¬es.toList.any (·.refKey)=true:=by rw [a];exact xF0
  rw [iN a'];exact congrArg some e
def ObjM.look{h:Heap}{x dx C:Addr}{mA:Aj}(I:ObjM h x dx C mA): ∃od,PySem.W.InstAt h x (PySem.W.instObj C dx) C (some od)/\ ∀name,PySem.W.lookIn name od=some (mA name):=
 let ⟨od,ho,hl⟩:=yCT I.ns
 ⟨od,⟨I.obj,rfl,rfl,ho⟩,hl⟩
section
variable{prog:Program}{w:World}{A:Around}{E:VP}{s:Shared}{K:Be}{x dx C f:Addr}{mA:Aj}{name:Str}{v:Value}
def yJU{expr:Bool}{Q:VP}(X:K.In s.heap)(I:ObjM s.heap x dx C mA)(hg:PySem.W.plainGet K C name=true)(hh:PySem.W.hasDictIn K C=true)
  (ha:PySem.W.findIn K (.ref C) name=some none) (hv:mA name=some v) (hv':PySem.W.handedIn v=true) (h:Q v {s with toks:=s.toks+1}):
  wpAny (model prog w) A (getAttr (.ref x) name expr) Q E s:=by
 obtain⟨od,J,hl⟩:=I.look;exact PySem.W.get_value X J (PySem.W.plainGet_of hg).1 (PySem.W.findObj_own hh ha rfl (by rw [hl,hv])) hv' h
def yFP{pl:Sem Bool}{Q:Value×List Value->Shared->Prop}(X:K.In s.heap)(I:ObjM s.heap x dx C mA)(hg:PySem.W.plainGet K C name=true)
  (hf:PySem.W.findIn K (.ref C) name=some (some (.ref f))) (ht:PySem.W.isFn K (.ref f)=true) (hv:mA name=none) (h:Q (.ref f,[.ref x]) s):
  wpAny (model prog w) A (getMethod (.ref x) name pl) Q E s:=by
 obtain⟨od,J,hl⟩:=I.look;exact PySem.W.method_fn X J (PySem.W.plainGet_of hg).1 (PySem.W.plainGet_of hg).2 hf (beq_iff_eq.mp ht) (by show(PySem.W.lookIn name od).map (·.isSome)=some false;rw [hl,hv];rfl) h
def yJV{ns:Ai}{Q:Unit->Shared->Prop}(X:K.In s.heap)(I:ObjM s.heap x dx C mA)
  (hs:PySem.W.findIn K (.ref C) "__setattr__"=some (some (.builtin "object.__setattr__"))) (hp:PySem.W.plainOver K C=true) (ht:PySem.W.takerIn K C name=some none) (hh:PySem.W.hasDictIn K C=true)
  (hw:PySem.Within mA ns) (hsz:ns.length<=sizeLine)
  (h: ∀h',ObjM h' x dx C (λy=>if y=name then some v else mA y)->Heap.SameBut dx s.heap h'->Q () {s with heap:=h',toks:=s.toks+2}):
  wpAny (model prog w) A (setAttr (.ref x) name v) Q E s:=by
 obtain⟨od,J,hl⟩:=I.look;refine PySem.W.set_plain X J hs (PySem.W.osa_open (s:={s with toks:=s.toks+1}) (r:=none) X J hp ht λb=>?_);obtain⟨cd,hc,hd'⟩:=PySem.W.any_some hh;have hx:s.heap.get? x=some ⟨.ref C,some dx,.plain,#[]⟩:=I.obj;refine wB0 (wP0 (wB0 (wB0 (wpAny_loadPart hx (wB0 (PySem.W.Looks.here (s:={s with toks:=s.toks+1}) (PySem.W.looks_clsIn X hc) ?_))))));rw [hd'];refine wP0 (a:=some dx) (wB0 (wP0 (wB0 ?_)));refine wpAny_nsSet1 (s:={s with toks:=s.toks+1}) I.ns λh' hn2 hs2=>?_;obtain⟨oD,esD,epD,hoD,hdD,hcD⟩:=hn2.count (PySem.Within.cons name v hw);refine wB0 (wpAny_lookBehind hoD (by rw [hdD];exact pastItsLine_dict (le_trans hcD (by rw [lC];omega))) ?_);exact wP0 (h _ ⟨(hs2.2 _ (Ne.symm I.ne)).trans I.obj,hn2,I.ne⟩ hs2)
def yFQ{R:Result->Shared->Prop}{vs:Ae}{kw:List (Str×Value)}(X:K.In s.heap)(hm:PySem.W.makesIn K C=true)
  (hi:PySem.W.findIn K (.ref C) "__init__"=some (some (.ref f))) (hf:PySem.W.typeIn K (.ref f)=some (.type "function"))
  (h:codeAny (model prog w) (A.under (.builtin "type.__call__" ⟨.ref C::vs,kw⟩)) (.call (.ref f) ⟨.ref (s.heap.objs.size+1)::vs,kw⟩) (PySem.W.InitBack (s.heap.objs.size+1) R)
   {s with heap:=(s.heap.push PySem.W.emptyDict).push (PySem.W.instObj C s.heap.objs.size)}):
  codeAny (model prog w) A (.call (.ref C) ⟨vs,kw⟩) R s:=by
 obtain⟨hh,g,d,t,os⟩:=s;exact PySem.W.make_core (PySem.W.makes_of X hm) (PySem.W.looks_findIn X hi) (λself=>PySem.W.bind_fn X self hf) (.inl rfl) h
end
def zDU(f:Str)(v:V):List (Str×V)->List (Str×V)
 |[]=>[(f,v)]
 |(g,x)::r=>if g=f then(g,v)::r else(g,x)::zDU f v r
theorem zKI(f g:Str)(v:V): ∀fs:List (Str×V),(zDU f v fs).lookup g=if g=f then some v else fs.lookup g
 |[]=>by
  show List.lookup g [(f,v)]=_;by_cases h:g=f
  ·have hb:(g==f)=true:=beq_iff_eq.mpr h;simp only [List.lookup,hb,iP h]
  ·have hb:(g==f)=false:=beq_eq_false_iff_ne.mpr h;simp only [List.lookup,hb,iN h]
 |(k,x)::r=>by
  have ih:=zKI f g v r;rw [show zDU f v ((k,x)::r)=(if k=f then(k,v)::r else(k,x)::zDU f v r)from rfl];by_cases hk:k=f
  ·rw [iP hk];by_cases h:g=k
   ·have hb:(g==k)=true:=beq_iff_eq.mpr h;simp only [List.lookup,hb,iP (h.trans hk)]
   ·have hb:(g==k)=false:=beq_eq_false_iff_ne.mpr h;simp only [List.lookup,hb,iN (λe:g=f=>h (e.trans hk.symm))]
  ·rw [iN hk];by_cases h:g=k
   ·have hb:(g==k)=true:=beq_iff_eq.mpr h;simp only [List.lookup,hb,iN (λe:g=f=>hk (h.symm.trans e))]
   ·have hb:(g==k)=false:=beq_eq_false_iff_ne.mpr h;simp only [List.lookup,hb];exact ih
theorem zIR(f:Str)(v:V): ∀fs:List (Str×V),f∈(zDU f v fs).map (·.1)/\ ∀g,g∈fs.map (·.1)->g∈(zDU f v fs).map (·.1)
 |[]=>⟨by simp [zDU],λg h=>by simp at h⟩
 |(k,x)::r=>by
  obtain⟨i1,i2⟩:=zIR f v r;rw [show zDU f v ((k,x)::r)=(if k=f then(k,v)::r else(k,x)::zDU f v r)from rfl];by_cases hk:k=f
  ·rw [iP hk];subst hk;exact⟨by simp,λg h=>by simpa using h⟩
  ·rw [iN hk];refine⟨?_,λg h=>?_⟩
   ·rw [map_cons];exact mO _ i1
   ·rw [map_cons]at h ⊢;rcases mC.mp h with e|e
    ·exact mC.mpr (.inl e)
    ·exact mO _ (i2 g e)
theorem zKJ(f:Str)(v:V): ∀fs:List (Str×V),(zDU f v fs).length<=fs.length+1
 |[]=>by simp [zDU]
 |(k,x)::r=>by
  have ih:=zKJ f v r;rw [show zDU f v ((k,x)::r)=(if k=f then(k,v)::r else(k,x)::zDU f v r)from rfl];by_cases hk:k=f
  ·rw [iP hk,lC,lC];omega
  ·rw [iN hk,lC,lC];omega
def RelO.some_of{v:V}{o:Option Value}(r:RelO (some v) o): ∃u,o=some u/\RelV v u:=by
 cases o with
 |none=>exact(show False from r).elim
 |some u=>exact⟨u,rfl,r⟩
def RelO.none_of{o:Option Value}(r:RelO none o):o=none:=by
 cases o with
 |none=>rfl
 |some u=>exact(show False from r).elim
theorem yCU{v:V}{u:Value}(r:RelV v u):PySem.W.handedIn u=true:=by
 cases v with
 |non=>cases (show u=Value.none from r);rfl
 |bl b=>cases (show u=Value.bool b from r);rfl
 |int i=>obtain⟨t,e⟩:=(show∃t,u=Value.int i t from r);cases e;rfl
 |str x=>obtain⟨t,e⟩:=(show∃t,u=Value.str x t from r);cases e;rfl
 |byt b=>obtain⟨t,e⟩:=(show∃t,u=Value.bytes b t from r);cases e;rfl
 |flt b=>obtain⟨t,e⟩:=(show∃t,u=Value.float b t from r);cases e;rfl
 |ref a=>cases (show u=Value.ref a from r);rfl
 |ty n=>cases (show u=Value.type n from r);rfl
section
variable{P:Program}{w:World}{H H':Hp}{h h':Heap}{a C dx:Addr}{fs fs':List (Str×V)}
def yJW(hok:HOk P w H h)(e:H a=some (.ins C dx fs)): ∃mA,ObjM h a dx C mA/\(∀f,RelO (fs.lookup f) (mA f))/\PySem.Within mA (fs.map (·.1))/\fs.length<=1000/\H dx=some (.own a):=by
 obtain⟨d,z,ne,ob,mA,n,r,q⟩:=(show ObjOk P w H h a (.ins C dx fs)from hok a _ e)
 exact⟨mA,⟨ob,n,ne⟩,r,q,z,d⟩
end
structure Cls(K:Be)(C:Addr):Prop where
 pg:PySem.W.plainGet K C Str.empty=true
 hd:PySem.W.hasDictIn K C=true
 po:PySem.W.plainOver K C=true
 sa:PySem.W.findIn K (.ref C) "__setattr__"=some (some (.builtin "object.__setattr__"))
def Cls.get{K:Be}{C:Addr}(c:Cls K C)(f:Str):PySem.W.plainGet K C f=true:=c.pg
def NoAttr(K:Be)(C:Addr)(f:Str):Prop:=PySem.W.findIn K (.ref C) f=some none
theorem NoAttr.taker{K:Be}{C:Addr}{f:Str}(n:NoAttr K C f):PySem.W.takerIn K C f=some none:=by unfold PySem.W.takerIn;rw [show PySem.W.findIn K (.ref C) f=some none from n];rfl
structure Meth(K:Be)(C:Addr)(m:Str)(f:Addr):Prop where
 at_:PySem.W.findIn K (.ref C) m=some (some (.ref f))
 fn:PySem.W.isFn K (.ref f)=true
 kp:PySem.W.keepIn K (.ref f)=true
section
variable{X:Cx}{pins:Ba}{σ:St}{H:Hp}{s:Shared}{a C dx:Addr}{fs:List (Str×V)}{f:Str}{v:V}{A:Around}{E:VP}
def zXR{y:V}{u:Value}{Q:Unit->Shared->Prop}(I:Inv X pins σ H s)(e:H a=some (.ins C dx fs))(c:Cls X.K C)(n:NoAttr X.K C f)(hl:fs.length<1000)(ry:RelV y u)
  (h: ∀s',Inv X pins σ (upd H a (.ins C dx (zDU f y fs))) s'->Q () s'):wpAny (model X.prog X.w) A (setAttr (.ref a) f u) Q E s:=by
 obtain⟨mA,O,r,wi,_,ho⟩:=yJW I.hok e;have hz:(fs.map (·.1)).length<=sizeLine:=by rw [lM,sizeLine_eq];omega
 refine yJV I.kIn O c.sa c.po n.taker c.hd wi hz λh' O' sb=>h _ ?_;have hd: ∃o,h'.get? dx=some o:=let ⟨o,_,_,e',_⟩:=O'.ns;⟨o,e'⟩;refine I.write (x:=a) (e:=dx) (by rw [e];exact True.intro) (.inr ho) (λb q hb z=>(sb.2 b hb).trans z) hd ?_;refine⟨by rw [zR O.ne];exact ho,?_,O.ne,O'.obj,_,O'.ns,λg=>?_,λg hg=>?_⟩
 ·have:=zKJ f y fs;omega
 ·show RelO ((zDU f y fs).lookup g) (if g=f then some u else mA g);rw [zKI];by_cases q:g=f
  ·rw [iP q,iP q];exact ry
  ·rw [iN q,iN q];exact r g
 ·by_cases q:g=f
  ·rw [q];exact(zIR f y fs).1
  ·refine(zIR f y fs).2 g (wi g λz=>hg ?_);show(if g=f then some u else mA g)=none;rw [iN q];exact z
def Inv.made(I:Inv X pins σ H s):Inv X pins σ (upd (upd H s.heap.objs.size (.own (s.heap.objs.size+1))) (s.heap.objs.size+1) (.ins C s.heap.objs.size []))
  {s with heap:=(s.heap.push PySem.W.emptyDict).push (PySem.W.instObj C s.heap.objs.size)}:=by
 have e1:(s.heap.push PySem.W.emptyDict).get? s.heap.objs.size=some PySem.W.emptyDict:=Heap.get?_push_size s.heap rfl;have e2:((s.heap.push PySem.W.emptyDict).push (PySem.W.instObj C s.heap.objs.size)).get? (s.heap.objs.size+1)=some (PySem.W.instObj C s.heap.objs.size):=by have:=Heap.get?_push_size (s.heap.push PySem.W.emptyDict) (o:=PySem.W.instObj C s.heap.objs.size) rfl;rwa [Heap.size_push]at this
 have e3:(s.heap.push PySem.W.emptyDict).Ns s.heap.objs.size (λ_=>none):=⟨PySem.W.emptyDict,#[],_,e1,rfl,(λe he=>absurd he (by simp)),λ_=>rfl⟩
 have I1:=I.laid (a:=s.heap.objs.size) (o:=.own (s.heap.objs.size+1)) (h':=s.heap.push PySem.W.emptyDict) (t':=s.toks) (λb u q=>hP0 _ q) (le_refl _) ⟨_,e1⟩;refine I1.laid (a:=s.heap.objs.size+1) (o:=.ins C s.heap.objs.size []) (t':=s.toks) (λb u q=>hP0 _ q) (le_of_eq (Heap.size_push _ _)) ?_;have ne:s.heap.objs.size≠s.heap.objs.size+1:=ne_of_lt (lt_succ_self _);refine⟨by rw [zR ne,yR],zero_le _,ne,e2,λ_=>none,(Heap.Ns1.of_empty e3).at λo q=>hP0 _ q,λ_=>True.intro,λy hy=>absurd rfl hy⟩
def yJX{prog:Program}{w:World}{env:Env}{e:Expr}{f:Str}{pos:Pos}{s:Shared}{Q:VP}(hb:attributeBase e f env (eval e env)=eval e env)
  (h:wpAny (model prog w) A (eval e env) (λo s₁=>wpAny (model prog w) A (getAttr o f true) Q E s₁) E s):wpAny (model prog w) A (eval (.Attribute e f pos) env) Q E s:=
 Attribute_any_ h (by rw [arm_eval_Attribute,hb])
end
def sFld(K:Be)(ta tv:TE)(f:Str):TS:=λD σ H=>tv σ H λy H1=>ta σ H1 λx H2=> ∃a C dx fs,x=.ref a/\H2 a=some (.ins C dx fs)/\Cls K C/\NoAttr K C f/\fs.length<1000/\
 D.nx σ (upd H2 a (.ins C dx (zDU f y fs)))
section
variable{X:Cx}{o e value:Expr}{f:Str}{pos pos' tpos:Pos}{ta tv:TE}
def yPP(ha:PE X o ta)(hv:PE X value tv)(hs:swapsWith value (some (.Attribute o f pos')) pos.line X.env=pure false):PS X (.Assign [.Attribute o f pos'] value pos) (sFld X.K ta tv f):=by intro pins s σ H D I h;refine plainObj_wpAny_Assign_Attribute (thn (hv pins s σ H _ I h) λu s1 ⟨y,H1,I1,ry,q⟩=>thn (ha pins s1 σ H1 _ I1 q) λov s2 ⟨x,H2,I2,rx,a,C,dx,fs,ex,ea,c,n,l,q2⟩=>?_) hs;subst ex;obtain rfl:ov=Value.ref a:=rx;exact zXR I2 ea c n l ry λs3 I3=>⟨σ,_,I3,q2⟩
end
section
variable{X:Cx}{pins:Ba}{σ:St}{H:Hp}{s:Shared}{A:Around}{E:VP}{Q:VP}{c:Value}{b:Bool}
inductive zIB(K:Be)(H:Hp):V->Value->Prop where
 |non:zIB K H .non (.type "NoneType")
 |bl (x:Bool):zIB K H (.bl x) (.type "bool")
 |int (i:Int):zIB K H (.int i) (.type "int")
 |str (x:Str):zIB K H (.str x) (.type "str")
 |flt (x:UInt64):zIB K H (.flt x) (.type "float")
 |lst {a:Addr} {xs:List V} (e:H a=some (.lst xs)):zIB K H (.ref a) (.type "list")
 |frz {a:Addr} {o:Obj} {xs:List V} (e:H a=some (.frz o (.lst xs))):zIB K H (.ref a) (.type "list")
 |tup {a:Addr} {xs:List V} (e:H a=some (.tup xs)):zIB K H (.ref a) (.type "tuple")
 |dK {a:Addr} {kvs:List (Key×V)} (e:H a=some (.dK kvs)):zIB K H (.ref a) (.type "dict")
 |dT {a:Addr} {kvs:List (List Key×V)} (e:H a=some (.dT kvs)):zIB K H (.ref a) (.type "dict")
 |ins {a C dx:Addr} {fs:List (Str×V)} (e:H a=some (.ins C dx fs)) (cl:Cls K C) (ha:PySem.W.findIn K (.ref C) "__class__"=some (some (.builtin "object.__class__")))
   (hn:PySem.W.specialIn K (.builtin "object.__class__") "__get__"=some (some (.builtin "getset_descriptor.__get__"))) (htk:PySem.W.takesIn K (.builtin "object.__class__")=some true)
   (hm:PySem.W.mroIn K C (.type "object")=some true):zIB K H (.ref a) (.ref C)
end
structure Room(k:Nat)(A:Around):Prop where
 hd:A.handled=none
 dp:A.depth+3 * k+5<recursionLimit
 un:A.units+16 * k+200<cLine
def Room.mono{j k:Nat}{A:Around}(r:Room k A)(h:j<=k):Room j A:=⟨r.hd,by have:=r.dp;omega,by have:=r.un;omega⟩
def Room.deeper{k:Nat}{A:Around}(r:Room (k+1) A)(env:Env):Room k (A.deeper env):=
 ⟨r.hd,by have:=r.dp;show A.depth+1+3 * k+5<_;omega,by have:=r.un;show A.units+3+16 * k+200<_;omega⟩
def Room.in1{k:Nat}{A:Around}(r:Room (k+1) A):Room k A.in1:=
 ⟨r.hd,by have:=r.dp;show A.depth+3 * k+5<_;omega,by have:=r.un;show A.units+1+16 * k+200<_;omega⟩
def zXS{A:Around}{C:Addr}{us:Ae}{kw:List (Str×Value)}:(A.under (.builtin "type.__call__" ⟨.ref C::us,kw⟩)).depth=A.depth+1:=by
 first |rfl|simp [Around.under,Code.weight,Code.isCreation,Code.isGuard,Code.isCaller,Code.frames,Code.isFrame,guardIds]
def zXT{A:Around}{C:Addr}{us:Ae}{kw:List (Str×Value)}:(A.under (.builtin "type.__call__" ⟨.ref C::us,kw⟩)).units=A.units+1:=by
 first |rfl|simp [Around.under,Code.cUnits,Code.frames,Code.isFrame]
def Room.make{k:Nat}{A:Around}(r:Room (k+1) A)(C:Addr)(us:Ae)(kw:List (Str×Value)):Room k (A.under (.builtin "type.__call__" ⟨.ref C::us,kw⟩)):=
 ⟨r.hd,by have:=r.dp;rw [zXS];omega,by have:=r.un;rw [zXT];omega⟩
def Room.depth{k:Nat}{A:Around}(r:Room k A):A.depth<recursionLimit:=by have:=r.dp;omega
def Room.units{k:Nat}{A:Around}(r:Room k A):A.units+64<cLine:=by have:=r.un;omega
def tNil:TA:=λ_ H Q=>Q [] H
def yNZ(ta:TE)(tr:TA):TA:=λσ H Q=>ta σ H λx H1=>tr σ H1 λxs H2=>Q (x::xs) H2
section
variable{X:Cx}{e:Expr}{es:Bd}{te:TE}{t:TA}{pos:Pos}
def zXU:PA X [] tNil:=λ_ _ _ _ H Q I h=>Calls.spliced_nil ⟨[],H,I,.nil,h⟩
def zRI(ha:PE X e te)(hr:PA X es t)(hs:starEach (e::es) X.env=(false,eval e X.env)::starEach es X.env:=by rfl):PA X (e::es) (yNZ te t):=by intro pos pins s σ H Q I h;rw [hs];show wpAny _ _ (spliced ((false,eval e X.env)::backTo pos (starEach es X.env))) _ _ s;refine Calls.spliced_cons (thn (ha pins s σ H _ I h) λu s1 ⟨x,H1,I1,r1,q1⟩=>?_);exact thn (hr pos pins s1 σ H1 _ I1 q1) λus s2 ⟨xs,H2,I2,r2,q2⟩=>⟨x::xs,H2,I2,.cons r1 r2,q2⟩
def tTup(t:TA):TE:=λσ H Q=>t σ H λxs H1=>xs.length<=sizeLine/\ ∀p,H1 p=none->Q (.ref p) (upd H1 p (.tup xs))
def tLst(t:TA):TE:=λσ H Q=>t σ H λxs H1=>xs.length<=sizeLine/\ ∀p,H1 p=none->Q (.ref p) (upd H1 p (.lst xs))
def yPQ{x1}(h:PA X es t):PE X (.Tuple es x1 pos) (tTup t):=by intro pins s σ H Q I hq;refine wpAny_Tuple_spliced (thn (h pos pins s σ H _ I hq) λus s1 ⟨xs,H1,I1,r,z,q⟩=>⟨by rw [<-r.length];exact z,?_⟩);have hf:H1 s1.heap.objs.size=none:=I1.hok.fresh (le_refl _);refine⟨.ref s1.heap.objs.size,upd H1 s1.heap.objs.size (.tup xs),I1.laid (t':=s1.toks) (λb u e=>hP0 _ e) (le_refl _) ?_,rfl,q _ hf⟩;exact⟨z,us,r,⟨_,Heap.get?_push_size _ rfl,rfl,_,rfl⟩⟩
def yPR(h:PA X es t):PE X (.List es pos) (tLst t):=by intro pins s σ H Q I hq;refine wpAny_List_spliced (thn (h pos pins s σ H _ I hq) λus s1 ⟨xs,H1,I1,r,z,q⟩=>⟨by rw [<-r.length];exact z,?_⟩);have hf:H1 s1.heap.objs.size=none:=I1.hok.fresh (le_refl _);refine⟨.ref s1.heap.objs.size,upd H1 s1.heap.objs.size (.lst xs),I1.laid (t':=s1.toks) (λb u e=>hP0 _ e) (le_refl _) ?_,rfl,q _ hf⟩;exact⟨z,us,0,r,Heap.get?_push_size _ rfl⟩
end
abbrev Sp:=List V->Hp->VK->XK->Prop
abbrev CXT:=List Env->Hp->Shared->XK->VP
structure Env0(P:Program)(w:World)(K:Be)(mg:Aj)(base:Heap)(A:Around)(outer:List Env)(s:Shared)(H:Hp):Prop where
 frames:A.frames=some outer
 mod:Mod K mg base
 bs: ∀b o,base.get? b=some o->s.heap.get? b=some o/\H b=none
 bsz:base.objs.size<=s.heap.objs.size
 funs:s.heap.FunFrames base outer
 frf: ∀b∈frs outer,H b=none
 hok:HOk P w H s.heap
 bare:AllBare s.gens
def CE(outer:List Env)(P:Program)(w:World)(H:Hp)(s:Shared)(Q:VK)(u:Value)(s':Shared):Prop:=
 ∃v H',s'.os=s.os/\AllBare s'.gens/\Un (frs outer) [] H H' s.heap s'.heap/\HOk P w H' s'.heap/\RelV v u/\Q v H'
def CR(CX:CXT)(outer:List Env)(P:Program)(w:World)(H:Hp)(s:Shared)(Q:VK)(E:XK)(r:Result)(s':Shared):Prop:=
 match r with
 |.ok (.ret u)=>CE outer P w H s Q u s'
 |.ok _=>False
 |.error e=>CX outer H s E e s'
structure FnOk(P:Program)(w:World)(K:Be)(mg:Aj)(base:Heap)(CX:CXT)(k:Nat)(f:Addr)(fd:FuncData)(ps:Ai)(sp:Sp):Prop where
 len: ∀vs H Q E,sp vs H Q E->vs.length=ps.length
 run: ∀(A:Around)(outer:List Env)(s:Shared)(H:Hp)(args:Args)(us:Ae)(vs:List V)(Q:VK)(E:XK),Room k A->Env0 P w K mg base A outer s H->BindsTo s fd args (ps.zip us)->Vals vs us->sp vs H Q E->
  codeAny (model P w) A (.call (.ref f) args) (CR CX outer P w H s Q E) s
def FnOk.mono{P:Program}{w:World}{K:Be}{mg:Aj}{base:Heap}{CX:CXT}{j k:Nat}{f:Addr}{fd:FuncData}{ps:Ai}{sp:Sp}(F:FnOk P w K mg base CX j f fd ps sp)(h:j<=k):
  FnOk P w K mg base CX k f fd ps sp:=⟨F.len,λA outer s H args us vs Q E hr=>F.run A outer s H args us vs Q E (hr.mono h)⟩
def FnOk.imp{P:Program}{w:World}{K:Be}{mg:Aj}{base:Heap}{CX:CXT}{k:Nat}{f:Addr}{fd:FuncData}{ps:Ai}{sp sp':Sp}(F:FnOk P w K mg base CX k f fd ps sp)
  (h: ∀vs H Q E,sp' vs H Q E->sp vs H Q E):FnOk P w K mg base CX k f fd ps sp':=
 ⟨λvs H Q E q=>F.len vs H Q E (h _ _ _ _ q),λA outer s H args us vs Q E hr he hb hv hs=>F.run A outer s H args us vs Q E hr he hb hv (h _ _ _ _ hs)⟩
def Env0.make{P:Program}{w:World}{K:Be}{mg:Aj}{base:Heap}{A:Around}{outer:List Env}{s:Shared}{H:Hp}(e:Env0 P w K mg base A outer s H)(C:Addr)(us:Ae)(kw:List (Str×Value)):
  Env0 P w K mg base (A.under (.builtin "type.__call__" ⟨.ref C::us,kw⟩)) outer s H:=⟨by first |exact e.frames|(simpa [Around.under,Code.envs,Code.isFrame,pushEnvs]using e.frames),e.mod,e.bs,e.bsz,e.funs,e.frf,e.hok,e.bare⟩
def Env0.in1{P:Program}{w:World}{K:Be}{mg:Aj}{base:Heap}{A:Around}{outer:List Env}{s:Shared}{H:Hp}(e:Env0 P w K mg base A outer s H):
  Env0 P w K mg base A.in1 outer s H:=⟨e.frames,e.mod,e.bs,e.bsz,e.funs,e.frf,e.hok,e.bare⟩
section
variable{X:Cx}{pins:Ba}{σ:St}{H:Hp}{s s':Shared}
def Inv.env0(I:Inv X pins σ H s):Env0 X.prog X.w X.K X.mg X.base X.A X.stack s H:=
 ⟨I.ok.frames,I.ok.mod,I.bs,le_trans I.ok.bsz I.sz,I.stack,I.stkFree,I.hok,I.bare⟩
def Inv.after{Q:VK}{u:Value}(I:Inv X pins σ H s)(h:CE X.stack X.prog X.w H s Q u s'):EP X pins σ Q u s':=by obtain⟨v,H',os,bare,un,hok,r,q⟩:=h;obtain⟨hh,g,d,t,os'⟩:=s';obtain rfl:os'=s.os:=os;exact⟨v,H',I.call (h':=hh) (g':=g) (d':=d) (t':=t) (ch:=[]) un hok bare (λb z=>absurd z (by simp)),r,q⟩
end
def tCall(sp:Sp)(dvs:List V)(E:XK)(t:TA):TE:=λσ H Q=>t σ H λvs H1=>sp (vs++dvs) H1 Q E
def yOA(C:Addr)(sp:Sp)(dvs:List V)(E:XK)(t:TA):TE:=λσ H Q=>t σ H λvs H1=> ∀x dx,H1 x=none->H1 dx=none->dx≠x->
 sp (.ref x::(vs++dvs)) (upd (upd H1 dx (.own x)) x (.ins C dx [])) (λv H2=>v=.non/\Q (.ref x) H2) E
def Binds(K:Be)(fd:FuncData)(ps:Ai)(ds:Ae):Prop:=
 ∀(s:Shared)(us:Ae),K.In s.heap->(us++ds).length=ps.length->BindsTo s fd ⟨us,[]⟩ (ps.zip (us++ds))
def Binds.all{K:Be}{fd:FuncData}{ps:Ai}(h: ∀us:List Value,us.length=ps.length->bindArgs fd ⟨us,[]⟩=pure (ps.zip us)):Binds K fd ps []:=λs us _ hl=>by rw [aN]at hl ⊢;exact .of_eq (h us hl)
def zLX(CX:CXT)(X:Cx)(E:XK):Prop:= ∀(pins:Ba)(σ:St)(H:Hp)(s:Shared)(e:Value)(s':Shared),Inv X pins σ H s->CX X.stack H s E e s'->X.xe e s'
section
variable{X:Cx}{CX:CXT}{k:Nat}{f C:Addr}{fd:FuncData}{ps:Ai}{sp:Sp}{dvs:List V}{ds:Ae}{E:XK}{x m:Str}{p pos apos:Pos}{e o:Expr}{es:Bd}{ta:TE}{t:TA}
def yFR{pins:Ba}{σ:St}{H:Hp}{s:Shared}{Q:VK}{us:Ae}{vs:List V}(F:FnOk X.prog X.w X.K X.mg X.base CX k f fd ps sp)(hr:Room k X.A)(hb:Binds X.K fd ps ds)(hd:Vals dvs ds)(hx:zLX CX X E)
  (I:Inv X pins σ H s) (r:Vals vs us) (h:sp (vs++dvs) H Q E):wpAny (model X.prog X.w) X.A (call (.ref f) us) (EP X pins σ Q) X.xe s:=by
 have r2:Vals (vs++dvs) (us++ds):=r.append hd;have hl:(us++ds).length=ps.length:=by rw [<-r2.length];exact F.len _ _ _ _ h
 refine wpAny_call (codeAny_mono (F.run X.A X.stack s H ⟨us,[]⟩ (us++ds) (vs++dvs) Q E hr I.env0 (hb s us I.kIn hl) r2 h) λr s' hq=>?_)
 cases r with
 |error e=>exact hx pins σ H s e s' I hq
 |ok fl=>
  cases fl with
  |ret u=>exact I.after hq
  |next=>exact False.elim hq
  |brk=>exact False.elim hq
  |cont=>exact False.elim hq
def yJY(F:FnOk X.prog X.w X.K X.mg X.base CX k f fd ps sp)(hr:Room k X.A)(hg:Gl X x)(hm:X.mg x=some (.ref f))(hk:PySem.W.keepIn X.K (.ref f)=true)(hb:Binds X.K fd ps ds)(hd:Vals dvs ds)(hx:zLX CX X E)
  (ha:PA X (e::es) t) (hdb:(x==("__debug__":Str))=false:=by decide) (he:starEach (e::es) X.env=(false,eval e X.env)::starEach es X.env:=by rfl) (hpl:(backTo pos (starEach es X.env)).any (·.1)=false:=by rfl):
  PE X (.Call (.Name x p) (e::es) [] pos) (tCall sp dvs E t):=by
 intro pins s σ H Q I h;refine wpAny_Call_Name_kw (zZV I hg hm ?_ hdb);refine PySem.W.callWith_K (h₀:=X.base) I.ok.mod.kin hk (thn (ha pos pins s σ H _ I h) λus s1 ⟨vs,H1,I1,r,q⟩=>⟨I1.kIn,?_⟩) he hpl;exact yFR F hr hb hd hx I1 r q
structure Mk(K:Be)(C f:Addr):Prop where
 makes:PySem.W.makesIn K C=true
 init:PySem.W.findIn K (.ref C) "__init__"=some (some (.ref f))
 fn:PySem.W.isFn K (.ref f)=true
 kp:PySem.W.keepIn K (.ref C)=true
def yFS{pins:Ba}{σ:St}{H:Hp}{s:Shared}{Q:VK}{us:Ae}{vs:List V}(M:Mk X.K C f)(F:FnOk X.prog X.w X.K X.mg X.base CX k f fd ps sp)(hr:Room (k+1) X.A)(hb:Binds X.K fd ps ds)(hd:Vals dvs ds)
  (hx:zLX CX X E) (I:Inv X pins σ H s) (r:Vals vs us)
  (h: ∀x dx,H x=none->H dx=none->dx≠x->sp (.ref x::(vs++dvs)) (upd (upd H dx (.own x)) x (.ins C dx [])) (λv H2=>v=.non/\Q (.ref x) H2) E):
  wpAny (model X.prog X.w) X.A (call (.ref C) us) (EP X pins σ Q) X.xe s:=by
 have hq:=h (s.heap.objs.size+1) s.heap.objs.size (I.hok.fresh (le_succ _)) (I.hok.fresh (le_refl _)) (ne_of_lt (lt_succ_self _));have I2:=Inv.made (C:=C) I;have r2:Vals (V.ref (s.heap.objs.size+1)::(vs++dvs)) (Value.ref (s.heap.objs.size+1)::(us++ds)):=.cons rfl (r.append hd);have hl:(Value.ref (s.heap.objs.size+1)::us++ds).length=ps.length:=by have e:=r2.length;rw [F.len _ _ _ _ hq]at e;exact e.symm
 refine wpAny_call (yFQ (f:=f) I.kIn M.makes M.init (beq_iff_eq.mp M.fn) (codeAny_mono (F.run _ X.stack _ _ ⟨Value.ref (s.heap.objs.size+1)::us,[]⟩ (Value.ref (s.heap.objs.size+1)::(us++ds)) _ _ E (hr.make C us [])
  (I2.env0.make C us []) (hb _ (Value.ref (s.heap.objs.size+1)::us) I2.kIn hl) r2 hq) λr s' hq'=>?_))
 cases r with
 |error e=>exact hx pins σ _ _ e s' I2 hq'
 |ok fl=>
  cases fl with
  |ret u=>
   obtain⟨v,H',I3,rv,ev,q3⟩:=I2.after hq';subst ev;exact⟨rv,⟨V.ref (s.heap.objs.size+1),H',I3,rfl,q3⟩⟩
  |next=>exact False.elim hq'
  |brk=>exact False.elim hq'
  |cont=>exact False.elim hq'
def yJZ(M:Mk X.K C f)(F:FnOk X.prog X.w X.K X.mg X.base CX k f fd ps sp)(hr:Room (k+1) X.A)(hg:Gl X x)(hm:X.mg x=some (.ref C))(hb:Binds X.K fd ps ds)(hd:Vals dvs ds)(hx:zLX CX X E)
  (ha:PA X (e::es) t) (hdb:(x==("__debug__":Str))=false:=by decide) (he:starEach (e::es) X.env=(false,eval e X.env)::starEach es X.env:=by rfl) (hpl:(backTo pos (starEach es X.env)).any (·.1)=false:=by rfl):
  PE X (.Call (.Name x p) (e::es) [] pos) (yOA C sp dvs E t):=by
 intro pins s σ H Q I h;refine wpAny_Call_Name_kw (zZV I hg hm ?_ hdb);refine PySem.W.callWith_K (h₀:=X.base) I.ok.mod.kin M.kp (thn (ha pos pins s σ H _ I h) λus s1 ⟨vs,H1,I1,r,q⟩=>⟨I1.kIn,?_⟩) he hpl;exact yFS M F hr hb hd hx I1 r q
end
structure FnScope(N P:Ai)(sc:Scope):Prop where
 kind:sc.kind=.function
 co:sc.isCoroutine=false
 gen:sc.isGenerator=false
 nd:N.Nodup
 pre:N.take P.length=P
 par: ∀x∈P,sc.names.lookup x=some .local\/sc.names.lookup x=some .cell
 nofree: ∀y∈sc.names,y.2≠.free
def fsK{N P:Ai}{sc:Scope}(h:N.Nodup/\N.take P.length=P/\(∀x∈P,sc.names.lookup x=some .local\/sc.names.lookup x=some .cell)/\∀y∈sc.names,y.2≠.free)(a:sc.kind=.function:=by rfl)(b:sc.isCoroutine=false:=by rfl)(c:sc.isGenerator=false:=by rfl):FnScope N P sc:=⟨a,b,c,h.1,h.2.1,h.2.2.1,h.2.2.2⟩
theorem zPX{kindOf:Str->Option NameKind}{x:Str}: ∀{binds:List (Str×Value)}{m:Aj},(∀v,(x,v)∉binds)->bindL kindOf binds m x=m x
 |[],_,_=>rfl
 |(n,v)::r,m,h=>by
  unfold bindL;rw [zPX λw hw=>h w (mO _ hw)];split
  ·have:x≠n:=by rintro rfl;exact h v mF0
   simp [this]
  ·rfl
theorem zPY{kindOf:Str->Option NameKind}{x:Str}: ∀{binds:List (Str×Value)}{m:Aj},(∀v,(x,v)∉binds)->bindC kindOf binds m x=m x
 |[],_,_=>rfl
 |(n,v)::r,m,h=>by
  unfold bindC;rw [zPY λw hw=>h w (mO _ hw)];split
  ·rfl
  ·have:x≠n:=by rintro rfl;exact h v mF0
   simp [this]
theorem zPZ{kindOf:Str->Option NameKind}{x:Str}{v:Value}: ∀{P:Ai}{vs:Ae}{i:Nat}{m:Aj},P.Nodup->P[i]? =some x->vs[i]? =some v->kindOf x=some .local->
  bindL kindOf (P.zip vs) m x=some v
 |[],_,_,_,_,h,_,_=>by simp at h
 |_::_,[],_,_,_,_,h,_=>by simp at h
 |p::P,w::vs,0,m,nd,h1,h2,hk=>by simp at h1 h2;subst h1;subst h2;show bindL kindOf ((p,w)::P.zip vs) m p=_;unfold bindL;rw [zPX λv hv=>(nodup_cons.mp nd).1 (of_mem_zip hv).1,iP hk];simp
 |p::P,w::vs,i+1,m,nd,h1,h2,hk=>by show bindL kindOf ((p,w)::P.zip vs) m x=_;unfold bindL;exact zPZ (i:=i) (nodup_cons.mp nd).2 (by simpa using h1) (by simpa using h2) hk
theorem zQA{kindOf:Str->Option NameKind}{x:Str}{v:Value}: ∀{P:Ai}{vs:Ae}{i:Nat}{m:Aj},P.Nodup->P[i]? =some x->vs[i]? =some v->kindOf x≠some .local->
  bindC kindOf (P.zip vs) m x=some v
 |[],_,_,_,_,h,_,_=>by simp at h
 |_::_,[],_,_,_,_,h,_=>by simp at h
 |p::P,w::vs,0,m,nd,h1,h2,hk=>by simp at h1 h2;subst h1;subst h2;show bindC kindOf ((p,w)::P.zip vs) m p=_;unfold bindC;rw [zPY λv hv=>(nodup_cons.mp nd).1 (of_mem_zip hv).1,iN hk];simp
 |p::P,w::vs,i+1,m,nd,h1,h2,hk=>by show bindC kindOf ((p,w)::P.zip vs) m x=_;unfold bindC;exact zQA (i:=i) (nodup_cons.mp nd).2 (by simpa using h1) (by simpa using h2) hk
def start(N:Ai)(vs:List V):St:=vs.map some++List.replicate (N.length - vs.length) none
def zUL(CX:CXT)(P:Program)(w:World)(K:Be)(mg:Aj)(base:Heap)(N:Ai)(qual:Str)(scope:Scope)(f:Addr)(cd:Value)(A:Around)(outer:List Env)(s:Shared)(H:Hp)(E:XK):Cx where
 prog:=P
 w:=w
 K:=K
 mg:=mg
 base:=base
 A:=A.deeper (envOfC qual scope s.heap.objs.size f cd)
 N:=N
 s₀:=s
 H₀:=H
 env:=envOfC qual scope s.heap.objs.size f cd
 outer:=outer
 stack:=envOfC qual scope s.heap.objs.size f cd::outer
 ex:=[]
 calm:=true
 fn:=λ_=>true
 pn:=[]
 xe:=λe s'=>wpAny (model P w) (A.deeper (envOfC qual scope s.heap.objs.size f cd)) (leaving (envOfC qual scope s.heap.objs.size f cd) e) (λ_ s''=>CX outer H s E e s'') (λe' s''=>CX outer H s E e' s'') s'
def zUM{sc:Scope}{n:Nat}{x:Str}(h:sc.names.lookup x=some .cell): ∃c,(cellsFrom n sc.names []).lookup x=some c:=by have q:=PySem.W.cellsFrom_some sc.names n [] (.inl h);exact Option.isSome_iff_exists.mp q
def yCV{CX:CXT}{P:Program}{w:World}{K:Be}{mg:Aj}{base:Heap}{N ps:Ai}{qual:Str}{scope:Scope}{f:Addr}{cd:Value}{A:Around}{outer:List Env}{s s1:Shared}{H:Hp}{E:XK}{us:Ae}{vs:List V}
  (S:FnScope N ps scope) (hd:A.handled=none) (e0:Env0 P w K mg base A outer s H) (hl:vs.length=ps.length) (r:Vals vs us)
  (x:InCallC s s.heap.objs.size (bindL (envOfC qual scope s.heap.objs.size f cd).kindOf (ps.zip us) λ_=>none) (cellsFrom (s.heap.objs.size+1) scope.names []) (bindC (envOfC qual scope s.heap.objs.size f cd).kindOf (ps.zip us) λ_=>none) s1):
  Inv (zUL CX P w K mg base N qual scope f cd A outer s H E) [] (start N vs) H s1:=by
 have hpl:ps.length<=N.length:=by have:=congrArg List.length S.pre;rw [lT]at this;omega
 obtain⟨h1,tk,rfl,hk⟩:=x.done;have noA: ∀b:Addr,b∉(zUL CX P w K mg base N qual scope f cd A outer s H E).ex:=λb z=>absurd (show b∈([]:Ah)from z) (by simp)
 refine⟨⟨e0.mod,S.kind,rfl,rfl,le_refl _,λy z c h1 h2=>?_,λy hy=>?_,λy c _ h=>?_,λ_=>hd,Around.frames_deeper e0.frames,.inr ⟨rfl,rfl⟩,λb z=>absurd z (noA b),e0.bs,e0.bsz,λb _ _=>noA b,λb z=>absurd z (noA b),e0.funs,e0.frf⟩,
  rfl,e0.bare,Un.kept hk,⟨_,x.toInCall.ns,λi y v h1 h2 h3=>?_⟩,λy c h=>⟨_,x.cell y c h⟩,e0.hok.fresh (le_refl _),λy c h=>?_,λp hp=>absurd (show p∈([]:Ba)from hp) (by simp),e0.hok.kept hk,?_⟩
 ·exact name_of_addr x.apart (PySem.mem_of_lookup h1) (PySem.mem_of_lookup h2)
 ·have hy:scope.names.lookup y=some .cell\/scope.names.lookup y=some .free:=hy;rcases hy with hy|hy
  ·exact zUM hy
  ·exact absurd rfl (S.nofree _ (PySem.mem_of_lookup hy))
 ·exact le_of_lt (x.above y c (PySem.mem_of_lookup h))
 ·have hi:i<vs.length:=by
   unfold start at h2;by_cases hi:i<vs.length
   ·exact hi
   ·rw [getElem?_append_right (by simpa using hi)]at h2;rw [List.getElem?_replicate]at h2;split at h2<;>cases h2
  have ha:vs[i]? =some v:=by
   unfold start at h2;rw [getElem?_append_left (by simpa using hi),getElem?_map]at h2
   cases e:vs[i]? with
   |none=>rw [e]at h2;cases h2
   |some a=>rw [e]at h2;cases h2;rfl
  obtain⟨u,hu,rv⟩:=r.get ha;have hp:ps[i]? =some y:=by rw [<-S.pre,getElem?_take_of_lt (by omega)];exact h1
  have ndP:ps.Nodup:=by rw [<-S.pre];exact S.nd.sublist (List.take_sublist _ _)
  refine⟨u,rv,?_⟩;rcases S.par y (mem_of_getElem? hp)with k|k
  ·exact .inl ⟨k,zPZ ndP hp hu k⟩
  ·obtain⟨c,e⟩:=zUM (n:=s.heap.objs.size+1) k;refine .inr ⟨.inl k,c,e,?_⟩;have q:=x.cell y c e;rw [zQA ndP hp hu (by show scope.names.lookup y≠_;rw [k];decide)]at q;exact q
 ·exact e0.hok.fresh (le_of_lt (x.above y c (PySem.mem_of_lookup h)))
 ·unfold start;show _=N.length;rw [lA,lM,length_replicate];omega
def fn_of{CX:CXT}{P:Program}{w:World}{K:Be}{mg:Aj}{base:Heap}{k:Nat}{f:Addr}{name qual:Str}{params:Arguments}{body:List Stmt}{scope:Scope}{dV kV doc pm cdv ct oc:Value}{an od:Option Addr}
  {osl:Array (Option Value)} {N ps:Ai} {sp:Sp} (lk:K.lookup f=some ⟨oc,od,.func (PySem.W.fnOf name qual params body scope dV kV doc pm an cdv ct),osl⟩) (hcd:PySem.W.codeIn K cdv qual=true) (S:FnScope N ps scope)
  (len: ∀vs H Q E,sp vs H Q E->vs.length=ps.length)
  (hbody: ∀(A:Around)(outer:List Env)(s:Shared)(H:Hp)(vs:List V)(Q:VK)(E:XK),Room k (A.deeper (envOfC qual scope s.heap.objs.size f cdv))->sp vs H Q E->
   ∃t,PSs (zUL CX P w K mg base N qual scope f cdv A outer s H E) body t/\t {nx:=λ_ H'=>Q .non H',rt:=Q} (start N vs) H):
  FnOk P w K mg base CX (k+1) f (PySem.W.fnOf name qual params body scope dV kV doc pm an cdv ct) ps sp:=by
 refine⟨len,λA outer s H args us vs Q E hr e0 hb r hsp=>?_⟩;have hl:=len _ _ _ _ hsp;have KX:K.In s.heap:=e0.mod.kin.keeps λb o e=>(e0.bs b o e).1;have lim:s.heap.NoLimit:=e0.mod.nolimit.keeps λb o e=>(e0.bs b o e).1
 have hkind: ∀y∈ps.zip us,scope.names.lookup y.1=some .local\/(scope.names.lookup y.1=some .cell/\((cellsFrom (s.heap.objs.size+1) scope.names []).lookup y.1).isSome=true):=λ⟨n,v⟩ hy=>by
  rcases S.par n (of_mem_zip hy).1 with q|q
  ·exact .inl q
  ·exact .inr ⟨q,PySem.W.cellsFrom_some _ _ _ (.inl q)⟩
 refine codeAny_call_function hr.depth (KX _ _ lk) rfl S.co S.gen rfl (PySem.W.codeRec_of KX hcd) (hb _ _ _ _ ?_);refine wpAny_newFunctionEnv_cells S.kind hkind λenv he s1 x=>?_;subst he;refine⟨lim.keeps x.toInCall.keep,codeAny_func ?_⟩;obtain⟨t,ht,hq⟩:=hbody A outer s H vs Q E (hr.deeper _) hsp;have I:Inv (zUL CX P w K mg base N qual scope f cdv A outer s H E) [] (start N vs) H s1:=yCV S hr.hd e0 hl r x;refine wpAny_mono (ht [] s1 (start N vs) H _ I hq) (λfl s' hs=>?_) λe s' hs=>hs
 have fin: ∀{σ':St}{H':Hp}{v:V}{u:Value},Inv (zUL CX P w K mg base N qual scope f cdv A outer s H E) [] σ' H' s'->RelV v u->Q v H'->CE outer P w H s Q u s':=
  λ{σ' H' v u} J rv q=>⟨v,H',J.os,J.bare,J.base,J.hok,rv,q⟩
 cases fl with
 |ret u=>
  obtain⟨v,σ',H',J,rv,q⟩:=hs;exact fin J rv q
 |next=>
  obtain⟨σ',H',J,q⟩:=hs;exact fin (v:=V.non) (u:=Value.none) J rfl q
 |brk=>
  obtain⟨_,_,_,q⟩:=hs;exact False.elim q
 |cont=>
  obtain⟨_,_,_,q⟩:=hs;exact False.elim q
section
variable{X:Cx}{x:Str}{p pos:Pos}{e:Expr}{es:Bd}{t:TA}{id T:String}{r:List V->Hp->VK->Prop}
def tCB(r:List V->Hp->VK->Prop)(t:TA):TE:=λσ H Q=>t σ H λvs H1=>r vs H1 Q
def yFT(hc:CallR X (.builtin id) r)(hg:Gl X x)(hm:X.mg x=none)(hv:bootBuiltins x=some (.builtin id))(ha:PA X (e::es) t)(hn:x≠"__name__":=by decide)(hdb:(x==("__debug__":Str))=false:=by decide)
  (he:starEach (e::es) X.env=(false,eval e X.env)::starEach es X.env:=by rfl) (hpl:(backTo pos (starEach es X.env)).any (·.1)=false:=by rfl):PE X (.Call (.Name x p) (e::es) [] pos) (tCB r t):=by
 intro pins s σ H Q I h;refine wpAny_Call_Name_kw (zIP I hg hm hv ?_ hn hdb);exact PyProof.Rows.callWith_builtin1 (thn (ha pos pins s σ H _ I h) λus s1 ⟨vs,H1,I1,r1,q1⟩=>hc pins s1 σ H1 vs us Q I1 r1 q1) he hpl
def zQB(hc:CallR X (.type T) r)(hg:Gl X x)(hm:X.mg x=none)(hv:bootBuiltins x=some (.type T))(ha:PA X (e::es) t)(hn:x≠"__name__":=by decide)(hdb:(x==("__debug__":Str))=false:=by decide)
  (he:starEach (e::es) X.env=(false,eval e X.env)::starEach es X.env:=by rfl) (hpl:(backTo pos (starEach es X.env)).any (·.1)=false:=by rfl):PE X (.Call (.Name x p) (e::es) [] pos) (tCB r t):=by
 intro pins s σ H Q I h;refine wpAny_Call_Name_kw (zIP I hg hm hv ?_ hn hdb);exact PyProof.Rows.callWith_type1 (thn (ha pos pins s σ H _ I h) λus s1 ⟨vs,H1,I1,r1,q1⟩=>hc pins s1 σ H1 vs us Q I1 r1 q1) he hpl
end
end L2
namespace HT
open PySem PyProof.Rows
section
variable{prog:Program}{w:World}{A:Around}{E:VP}{s:Shared}
def cat_tup{t b:Addr}{vs ws:Ae}{Q:VP}(ht:IsTup s.heap t vs.toArray)(hb:IsTup s.heap b ws.toArray)(hv:vs≠[])
  (h1:ws=[]->Q (.ref t) s) (h2:ws≠[]->Q (.ref s.heap.objs.size) {s with heap:=s.heap.push {cls:=.type "tuple",data:=.seq (vs++ws).toArray}})
  (hsz:vs.length+ws.length<=sizeLine):wpAny (model prog w) A (binaryOp .Add (.ref t) (.ref b)) Q E s:=by
 obtain⟨⟨cls,dd,data,sl⟩,ho,hc,n,hd⟩:=id ht;obtain⟨⟨cls2,dd2,data2,sl2⟩,ho2,hc2,n2,hd2⟩:=id hb;simp only at hc hd hc2 hd2;subst hc hd hc2 hd2;have e:vs.toArray++ws.toArray=(vs++ws).toArray:=by simp
 by_cases hw:ws=[]
 ·exact concat_meets ⟨_,ho,rfl⟩ ⟨_,ho2,rfl⟩ noFill_tuple_add seq_tuple_add PySem.F.slot_tuple_add PySem.F.entry_tuple_add (PySem.F.args_tuple_add_2 _ _)
   (tuple_addW1 t b vs.toArray ws.toArray n n2 dd dd2 sl sl2 (by simpa using hv) (by simp [hw])) ⟨ho,ho2,h1 hw⟩
 ·refine concat_meets ⟨_,ho,rfl⟩ ⟨_,ho2,rfl⟩ noFill_tuple_add seq_tuple_add PySem.F.slot_tuple_add PySem.F.entry_tuple_add (PySem.F.args_tuple_add_2 _ _)
   (tuple_addW2 t b vs.toArray ws.toArray n n2 dd dd2 sl sl2 (by simpa using hv) (by simpa using hw) (by rw [sA,sA];exact hsz)) ⟨ho,ho2,?_⟩
  rw [e];exact h2 hw
def sIx(n d:Nat):Option Int->Nat
 |none=>d
 |some v=>if v<0 then(v+(n:Int)).toNat else min v.toNat n
def sIx_nat(n d k:Nat):sIx n d (some (k:Int))=min k n:=by show(if(k:Int)<0 then((k:Int)+(n:Int)).toNat else min (k:Int).toNat n)=min k n;rw [iN (by omega),toNat_natCast]
def sIx_le(n d:Nat)(hd:d<=n)(o:Bc):sIx n d o<=n:=by
 cases o with
 |none=>exact hd
 |some v=>
  show(if v<0 then(v+(n:Int)).toNat else min v.toNat n)<=n;by_cases hv:v<0
  ·rw [iP hv];omega
  ·rw [iN hv];exact Nat.min_le_right _ _
def yAA(v:Int)(n d:Nat):(if v<0 then max (v+(n:Int)) 0 else min v (n:Int))=((sIx n d (some v):Nat):Int):=by
 show(if v<0 then max (v+(n:Int)) 0 else min v (n:Int))=(((if v<0 then(v+(n:Int)).toNat else min v.toNat n):Nat):Int)
 by_cases hv:v<0
 ·simp only [iP hv];omega
 ·simp only [iN hv];omega
def zXV(lo hi:Bc)(n:Nat):Builtin.Slice.sliceAdjust lo hi 1 (n:Int)=(((sIx n 0 lo:Nat):Int),((sIx n n hi:Nat):Int)):=by
 have h1: ¬((1:Int)<0):=by omega
 unfold Builtin.Slice.sliceAdjust;simp only [h1,iF];refine Prod.ext ?_ ?_
 ·cases lo with
  |none=>rfl
  |some v=>exact yAA v n 0
 ·cases hi with
  |none=>rfl
  |some v=>exact yAA v n n
def zXW(i j:Nat):Builtin.Slice.slicePlaces (i:Int) (j:Int) 1=j - i:=by
 unfold Builtin.Slice.slicePlaces;have h1:(1:Int)>0:=by omega
 simp only [h1,if_true,Int.ediv_one];split<;>omega
def zLY{v:Value}{o:Bc}{Q:Option Int->Shared->Prop}(p:IsPart v o)(h:Q o s):wpAny (model prog w) A (Builtin.Slice.slicePartIndex v) Q E s:=by
 cases p with
 |none=>exact slicePart_none h
 |int i t=>exact slicePart_int h
def sliceApplied_gen{sl:Addr}{vl vu:Value}{lo hi:Bc}{n:Nat}{Q:Int×Int×Nat->Shared->Prop}(hs:s.heap.IsSliceOf sl vl vu .none)(pl:IsPart vl lo)(pu:IsPart vu hi)
  (h:Q (((sIx n 0 lo:Nat):Int),1,sIx n n hi - sIx n 0 lo) s):wpAny (model prog w) A (Builtin.Slice.sliceApplied (.ref sl) (pure (n:Int))) Q E s:=by
 obtain⟨os,hos,hcs,hds⟩:=id hs;unfold Builtin.Slice.sliceApplied Builtin.Slice.sliceFields;refine wB0 (wB0 (wpAny_field hos hds (x:=vl) rfl (wB0 (wpAny_field hos hds (x:=vu) rfl (wB0 (wpAny_field hos hds (x:=.none) rfl (wP0 ?_)))))));refine wB0 (slicePart_none ?_);show wpAny _ _ (if((1:Int)==0)=true then _ else _) _ _ s;rw [iN (by decide)];refine wB0 (zLY pl (wB0 (zLY pu (wB0 (wP0 ?_)))));show wpAny _ _ (match Builtin.Slice.sliceAdjust lo hi 1 (n:Int)with |(lo,hi)=>pure (lo,(1:Int),Builtin.Slice.slicePlaces lo hi 1)) _ _ s;rw [zXV lo hi n];show wpAny _ _ (pure (((sIx n 0 lo:Nat):Int),(1:Int),Builtin.Slice.slicePlaces ((sIx n 0 lo:Nat):Int) ((sIx n n hi:Nat):Int) 1)) _ _ s;rw [zXW];exact wP0 h
def yFU(xs:Ag)(i k:Nat):((List.range k).filterMap λ(m:Nat)=>xs[((i:Int)+(m:Int) * 1).toNat]?).toArray=((xs.toList.drop i).take k).toArray:=by
 have e:(λ(m:Nat)=>xs[((i:Int)+(m:Int) * 1).toNat]?)=λm=>xs[i+m]? :=by
  funext m;have:((i:Int)+(m:Int) * 1).toNat=i+m:=by omega
  rw [this]
 rw [e];have:=pick_run xs i k;rw [List.filterMap_map]at this;have e2:((λx=>xs[x]?)∘λx=>i+x)=λm=>xs[i+m]? :=rfl;rw [e2]at this;rw [this]
def getItem_tuple_cut{t sl:Addr}{items:Ag}{vl vu:Value}{lo hi:Bc}{Q:VP}(ht:IsTup s.heap t items)(hs:s.heap.IsSliceOf sl vl vu .none)(pl:IsPart vl lo)(pu:IsPart vu hi)
  (hw: ¬(sIx items.size 0 lo=0/\sIx items.size items.size hi=items.size))
  (h:Q (.ref s.heap.objs.size) {s with heap:=s.heap.push {cls:=.type "tuple",data:=.seq ((items.toList.drop (sIx items.size 0 lo)).take (sIx items.size items.size hi - sIx items.size 0 lo)).toArray}})
  (hsz:items.size<=sizeLine):wpAny (model prog w) A (getItem (.ref t) (.ref sl)) Q E s:=by
 have htake:sizeOk (.seq ((items.toList.drop (sIx items.size 0 lo)).take (sIx items.size items.size hi - sIx items.size 0 lo)).toArray):=by show((items.toList.drop (sIx items.size 0 lo)).take (sIx items.size items.size hi - sIx items.size 0 lo)).toArray.size<=sizeLine;rw [sA,lT,length_drop,Array.length_toList];omega
 have hj:sIx items.size items.size hi<=items.size:=sIx_le _ _ (le_refl _) hi;obtain⟨os,hos,hcs,hds⟩:=id hs;have hTs:s.TypeIs (.ref sl) "slice":=⟨os,hos,hcs⟩
 unfold getItem
 try with_reducible refine wpAny_holding ?_
 first |refine wB0 (wP0 ?_)|skip
 refine wB0 (wpAny_sequenceKey ht.typeIs (by decide) ?_)
 refine wB0 (wpAny_callSpecial?_slot (name:=Str.ofString "__getitem__") ht.typeIs PyProof.Rows.slot_tuple_getitem
  (wpAny_call_entry PyProof.Rows.slot_tuple_getitem ht.typeIs entry_tuple_getitem ?_ (args_tuple_getitem _ _)))
 show wpAny _ _ (Builtin.Tuple.tupleItemsOf (.ref t) >>= _) _ _ s;refine wB0 (tupleItemsOf_ ht ?_);refine wB0 (wpAny_typeOf hTs ?_);rw [iP (by decide)];refine wB0 (sliceApplied_gen hs pl pu ?_);have hno: ¬((((sIx items.size 0 lo:Nat):Int)==0&&(1:Int)==1&&(sIx items.size items.size hi - sIx items.size 0 lo)==items.size)=true):=by intro q;rw [aE,aE]at q;have q1:((sIx items.size 0 lo:Nat):Int)=0:=eq_of_beq q.1.1;have q2:sIx items.size items.size hi - sIx items.size 0 lo=items.size:=eq_of_beq q.2;exact hw ⟨by omega,by omega⟩
 show wpAny _ _ (if(((sIx items.size 0 lo:Nat):Int)==0&&(1:Int)==1&&(sIx items.size items.size hi - sIx items.size 0 lo)==items.size)=true then _ else _) _ _ s;rw [iN hno,yFU]
 first
  |exact wB0 (m:=Builtin.Tuple.tupleExact _) (wpAny_newObj_type (wP0 ⟨_,rfl,wP0 h⟩) htake)
  |exact wB0 (m:=Builtin.Tuple.tupleExact _) (wpAny_newObj_type (wB0 (wP0 (wP0 ⟨_,rfl,wP0 h⟩))) htake)
  |exact wB0 (wB0 (m:=Builtin.Tuple.tupleExact _) (wpAny_newObj_type (wP0 (wP0 ⟨_,rfl,wP0 h⟩)) htake))
  |exact wB0 (wB0 (m:=Builtin.Tuple.tupleExact _) (wpAny_newObj_type (wP0 ⟨_,rfl,wP0 h⟩) htake))
end
end HT
namespace L2
open PySem PySem.Spec PyProof.Rows
abbrev TO:=St->Hp->(Option Int->Hp->Prop)->Prop
def PO(X:Cx)(e:Option Expr)(t:TO):Prop:=
 ∀(pins:Ba)(s:Shared)(σ:St)(H:Hp)(Q:Option Int->Hp->Prop),Inv X pins σ H s->t σ H Q->
  wpAny (model X.prog X.w) X.A (evalPart e X.env) (λu s'=> ∃o H',Inv X pins σ H' s'/\IsPart u o/\Q o H') X.xe s
def yKA:TO:=λ_ H Q=>Q none H
def tPart(t:TE):TO:=λσ H Q=>t σ H λx H1=> ∃i,x=.int i/\Q (some i) H1
section
variable{X:Cx}{e:Expr}{te:TE}{lo hi:Option Expr}{tl th:TO}{pos p2:Pos}
def yKB:PO X none yKA:=by intro pins s σ H Q I h;rw [evalPart_none];exact wP0 ⟨none,H,I,.none,h⟩
def yKC(h:PE X e te):PO X (some e) (tPart te):=by intro pins s σ H Q I hw;rw [evalPart_some];refine thn (h pins s σ H _ I hw) λu s1 ⟨x,H1,I1,r1,q1⟩=>?_;obtain⟨i,rfl,q⟩:=q1;obtain⟨t,rfl⟩:=r1;exact⟨some i,H1,I1,.int i t,q⟩
def SlR(X:Cx)(r:V->Option Int->Option Int->Hp->VK->Prop):Prop:=
 ∀(pins:Ba)(s:Shared)(σ:St)(H:Hp)(x:V)(v vl vu:Value)(lo hi:Bc)(sl:Addr)(Q:VK),Inv X pins σ H s->RelV x v->s.heap.IsSliceOf sl vl vu .none->IsPart vl lo->IsPart vu hi->r x lo hi H Q->
  ∃T id,typeLookup (.type T) "__getitem__"=pure (some (.builtin id))/\s.TypeIs v T/\wpAny (model X.prog X.w) X.A (getItem v (.ref sl)) (EP X pins σ Q) X.xe s
def SlR.or{r r':V->Option Int->Option Int->Hp->VK->Prop}(h:SlR X r)(h':SlR X r'):SlR X (λx lo hi H Q=>r x lo hi H Q\/r' x lo hi H Q):=by
 intro pins s σ H x v vl vu lo hi sl Q I rx hs pl pu q;rcases q with q|q
 ·exact h pins s σ H x v vl vu lo hi sl Q I rx hs pl pu q
 ·exact h' pins s σ H x v vl vu lo hi sl Q I rx hs pl pu q
def tSl(r:V->Option Int->Option Int->Hp->VK->Prop)(te:TE)(tl th:TO):TE:=λσ H Q=>te σ H λx H1=>tl σ H1 λl H2=>th σ H2 λu H3=>r x l u H3 Q
def yFV{r:V->Option Int->Option Int->Hp->VK->Prop}(hr:SlR X r)(he:PE X e te)(hl:PO X lo tl)(hu:PO X hi th):PE X (.Subscript e (.Slice lo hi none p2) pos) (tSl r te tl th):=by intro pins s σ H Q I h;refine Subscript_ (thn (he pins s σ H _ I h) λv s1 ⟨x,H1,I1,r1,q1⟩=>?_);refine wpAny_Slice (thn (hl pins s1 σ H1 _ I1 q1) λvl s2 ⟨l,H2,I2,pl,q2⟩=>thn (hu pins s2 σ H2 _ I2 q2) λvu s3 ⟨u,H3,I3,pu,q3⟩=>?_);rw [evalPart_none];refine wP0 ?_;have I4:Inv X pins σ H3 {s3 with heap:=s3.heap.push {cls:=.type "slice",data:=.fields #[vl,vu,.none]}}:=I3.kept (t':=s3.toks) λb ob q=>hP0 _ q;obtain⟨T,id,hT,ht,hg⟩:=hr pins {s3 with heap:=s3.heap.push {cls:=.type "slice",data:=.fields #[vl,vu,.none]}} σ H3 x v vl vu l u s3.heap.objs.size Q I4 r1 (Heap.IsSliceOf.new ..) pl pu q3;show wpAny (model X.prog X.w) X.A (subscriptTail e (.Slice lo hi none p2) v (.ref s3.heap.objs.size)) (EP X pins σ Q) X.xe {s3 with heap:=s3.heap.push {cls:=.type "slice",data:=.fields #[vl,vu,.none]}};exact tail_any (ops:=[.ref s3.heap.objs.size,v]) ht hT hg (by with_unfolding_all rfl)
def zUN(xs:List V)(lo hi:Bc):List V:=(xs.drop (HT.sIx xs.length 0 lo)).take (HT.sIx xs.length xs.length hi - HT.sIx xs.length 0 lo)
def zKK(xs:List V)(lo hi:Bc):(zUN xs lo hi).length<=xs.length:=by unfold zUN;rw [lT,length_drop];omega
def rSlT(K:Be):V->Option Int->Option Int->Hp->VK->Prop:=λx lo hi H Q=> ∃a xs,x=.ref a/\SqT K H a xs/\
 ¬(HT.sIx xs.length 0 lo=0/\HT.sIx xs.length xs.length hi=xs.length)/\ ∀p,H p=none->Q (.ref p) (upd H p (.tup (zUN xs lo hi)))
def yPS:SlR X (rSlT X.K):=by
 intro pins s σ H x v vl vu lo hi sl Q I rx hs pl pu h;obtain⟨a,xs,rfl,hx,hw,q⟩:=h;cases rx;obtain⟨its,r,ht,hz⟩:=I.tuple hx;have hlen:its.toArray.size=xs.length:=by rw [sA];exact r.length.symm
 refine⟨"tuple",_,PyProof.Rows.slot_tuple_getitem.lookup,ht.typeIs,?_⟩;refine HT.getItem_tuple_cut ht hs pl pu (by rw [hlen];exact hw) ?_ (by rw [hlen];exact hz);rw [hlen];refine⟨.ref s.heap.objs.size,_,I.laid (t':=s.toks) (o:=.tup (zUN xs lo hi)) (λb ob q=>hP0 _ q) (le_refl _) ?_,rfl,q _ (I.hok.fresh (le_refl _))⟩;exact⟨le_trans (zKK xs lo hi) hz,_,(r.drop (HT.sIx xs.length 0 lo)).take (HT.sIx xs.length xs.length hi - HT.sIx xs.length 0 lo),IsTup.new _ _⟩
def rCatT(K:Be):R2:=λx y H Q=> ∃a b xs ys,x=.ref a/\y=.ref b/\SqT K H a xs/\SqT K H b ys/\xs≠[]/\xs.length+ys.length<=sizeLine/\
 (ys=[]->Q (.ref a) H)/\(ys≠[]-> ∀p,H p=none->Q (.ref p) (upd H p (.tup (xs++ys))))
def Vals.nil_iff{xs:List V}{us:Ae}(r:Vals xs us):us=[]↔xs=[]:=by
 cases r with
 |nil=>simp
 |cons _ _=>simp
def yKD:OpR X (binaryOp .Add) (rCatT X.K):=by intro pins s σ H x y v u Q I rx ry h;obtain⟨a,b,xs,ys,rfl,rfl,ha,hb,hx,hz,q1,q2⟩:=h;cases rx;cases ry;obtain⟨its,r1,p1,_⟩:=I.tuple ha;obtain⟨its2,r2,p2,_⟩:=I.tuple hb;refine HT.cat_tup p1 p2 (λz=>hx (r1.nil_iff.mp z)) (λz=>⟨.ref a,H,I,rfl,q1 (r2.nil_iff.mp z)⟩) (λz=>?_) (by rw [<-r1.length, <-r2.length];exact hz);refine⟨.ref s.heap.objs.size,_,I.laid (t':=s.toks) (o:=.tup (xs++ys)) (λb ob q=>hP0 _ q) (le_refl _) ?_,rfl,q2 (λw=>z (r2.nil_iff.mpr w)) _ (I.hok.fresh (le_refl _))⟩;exact⟨by rw [lA];exact hz,_,r1.append r2,IsTup.new _ _⟩
end
def ixN(n:Nat)(i:Int):Option Nat:=if 0<=i then(if i<n then some i.toNat else none)else if -(n:Int)<=i then some (i+n).toNat else none
def atI{α:Type}(xs:List α)(i:Int):Option α:=(ixN xs.length i).bind λj=>xs[j]?
def yAB{n:Nat}{i:Int}{j:Nat}(h:ixN n i=some j):seqIndex? i n=some j/\j<n/\ -(n:Int)<=i/\i<n:=by
 unfold ixN at h;by_cases h0:0<=i
 ·rw [iP h0]at h;by_cases h1:i<n
  ·rw [iP h1]at h;have e:i.toNat=j:=Option.some.inj h;exact⟨by rw [seqIndex_of h0 h1,e],by omega,by omega,h1⟩
  ·rw [iN h1]at h;cases h
 ·rw [iN h0]at h;by_cases h1: -(n:Int)<=i
  ·rw [iP h1]at h;have e:(i+n).toNat=j:=Option.some.inj h;exact⟨by rw [seqIndex_neg (by omega) h1,e],by omega,h1,by omega⟩
  ·rw [iN h1]at h;cases h
def zRJ{α:Type}{xs:List α}{i:Int}{v:α}(h:atI xs i=some v): ∃j,seqIndex? i xs.length=some j/\xs[j]? =some v/\j<xs.length/\ -(xs.length:Int)<=i/\i<xs.length:=by
 unfold atI at h
 cases e:ixN xs.length i with
 |none=>rw [e]at h;cases h
 |some j=>
  rw [e]at h;obtain⟨h1,h2,h3,h4⟩:=yAB e;exact⟨j,h1,h,h2,h3,h4⟩
def zRK(b:Expr):Prop:= ∀o i,subscripted b false o i=operate [o,i] (getItem o i)
def IxR(X:Cx)(r:R2):Prop:=
 ∀(value slice:Expr)(pins:Ba)(s:Shared)(σ:St)(H:Hp)(x y:V)(v u:Value)(Q:VK),Inv X pins σ H s->RelV x v->RelV y u->r x y H Q->
  subscripted slice false v u=operate [v,u] (getItem v u)->wpAny (model X.prog X.w) X.A (subscriptTail value slice v u) (EP X pins σ Q) X.xe s
def MtR(X:Cx)(id:String)(r:V->List V->Hp->VK->Prop):Prop:=
 ∀(pins:Ba)(s:Shared)(σ:St)(H:Hp)(x:V)(xs:List V)(v:Value)(us:Ae)(Q:VK),Inv X pins σ H s->RelV x v->Vals xs us->r x xs H Q->
  wpAny (model X.prog X.w) X.A (call (.builtin id) (v::us)) (EP X pins σ Q) X.xe s
section
variable{X:Cx}{a b:Expr}{ta tb:TE}{pos:Pos}
def IxR.or{r r':R2}(h:IxR X r)(h':IxR X r'):IxR X (λx y H Q=>r x y H Q\/r' x y H Q):=by
 intro value slice pins s σ H x y v u Q I rx ry q hs;rcases q with q|q
 ·exact h value slice pins s σ H x y v u Q I rx ry q hs
 ·exact h' value slice pins s σ H x y v u Q I rx ry q hs
def pe_ix{r:R2}(hr:IxR X r)(ha:PE X a ta)(hb:PE X b tb)(hs:zRK b):PE X (.Subscript a b pos) (tOp r ta tb):=by intro pins s σ H Q I h;exact Subscript_ (binT ha hb I h λv u s2 x y H2 I2 rx ry q=>hr a b pins s2 σ H2 x y v u Q I2 rx ry q (hs _ _))
def rIxL(K:Be):R2:=λx y H Q=> ∃p xs i v,x=.ref p/\y=.int i/\SqL K H p xs/\atI xs i=some v/\Q v H
def rIxT(K:Be):R2:=λx y H Q=> ∃p xs i v,x=.ref p/\y=.int i/\SqT K H p xs/\atI xs i=some v/\Q v H
def rIxS:R2:=λx y H Q=> ∃z i c,x=.str z/\y=.int i/\z.length<=sizeLine/\atI z.cps.toList i=some c/\Q (.str ⟨#[c]⟩) H
def yKE:IxR X (rIxL X.K):=by
 intro value slice pins s σ H x y v u Q I rx ry h hs;obtain⟨p,xs,i,z,rfl,rfl,hq,he,q⟩:=h;cases rx;obtain⟨t,rfl⟩:=ry;obtain⟨its,r,pl,hz⟩:=I.list hq;obtain⟨j,h1,h2,h3,h4,h5⟩:=zRJ he;obtain⟨w,ew,rw'⟩:=r.get h2;have hl:=r.length;have hn:=zGL;have fin:EP X pins σ Q w s:=⟨z,H,I,rw',q⟩
 by_cases h0:0<=i
 ·have hj:i.toNat=j:=by rw [seqIndex_of h0 h5]at h1;exact Option.some.inj h1
  exact item_listR pl.isList h0 (by omega) (by rw [hj];simpa using ew) fin hs
 ·have hj:(i+(its.toArray.size:Int)).toNat=j:=by rw [seqIndex_neg (by omega) h4]at h1;rw [sA, <-hl];exact Option.some.inj h1
  exact subscriptTail_builtinR (x:=w) pl.isList.typeIs slot_list_getitem.lookup
   (wpAny_getItem_list_neg (Q:=λr s'=>r=w/\EP X pins σ Q r s') pl.isList (by omega) (by rw [sA]<;>omega) (by omega) (by rw [hj];simpa using ew) ⟨rfl,fin⟩) hs
def ix_tup:IxR X (rIxT X.K):=by
 intro value slice pins s σ H x y v u Q I rx ry h hs;obtain⟨p,xs,i,z,rfl,rfl,hq,he,q⟩:=h;cases rx;obtain⟨t,rfl⟩:=ry;obtain⟨its,r,pl,hz⟩:=I.tuple hq;obtain⟨j,h1,h2,h3,h4,h5⟩:=zRJ he;obtain⟨w,ew,rw'⟩:=r.get h2;have hl:=r.length;have hn:=zGL;have fin:EP X pins σ Q w s:=⟨z,H,I,rw',q⟩
 exact subscriptTail_builtinR (x:=w) pl.typeIs slot_tuple_getitem.lookup
  (getItem_tuple (j:=j) (Q:=λr s'=>r=w/\EP X pins σ Q r s') pl (by omega) (by omega) (by rw [sA, <-hl];exact h1) (by simpa using ew) ⟨rfl,fin⟩) hs
def yPT:IxR X rIxS:=by
 intro value slice pins s σ H x y v u Q I rx ry h hs;obtain⟨z,i,c,rfl,rfl,hz,he,q⟩:=h;obtain⟨t,rfl⟩:=rx;obtain⟨t',rfl⟩:=ry;obtain⟨j,h1,h2,h3,h4,h5⟩:=zRJ he;have hl:z.cps.toList.length=z.length:=by simp [Str.length]
 rw [hl]at h1 h4 h5;have hn:=zGL;exact tail_any (typeIs_str s z t) slot_str_getitem.lookup (getItem_str (c:=c) (by have e1:decide (i< -(2 ^ 63:Int))=false:=dF0 (by omega);have e2:decide (i>=2 ^ 63)=false:=dF0 (by omega);rw [e1,e2,Bool.or_false]) (by rw [h1];simpa using h2) ⟨.str ⟨#[c]⟩,H,I.tok _,⟨_,rfl⟩,q⟩) hs
def rIx(K:Be):R2:=λx y H Q=>rIxL K x y H Q\/rIxT K x y H Q\/rIxS x y H Q
def yPU:IxR X (rIx X.K):=yKE.or (ix_tup.or yPT)
def zXX(its:Ae)(n j:Nat)(u:Value):Obj.mapSeq (·.setIfInBounds j u) {cls:=.type "list",data:=.seq its.toArray n}={cls:=.type "list",data:=.seq (its.set j u).toArray n}:=by simp [Obj.mapSeq]
def Inv.lst{pins:Ba}{σ:St}{H:Hp}{s:Shared}{p:Addr}{xs:List V}(I:Inv X pins σ H s)(h:H p=some (.lst xs)):
  ∃(its:Ae)(n:Nat),Vals xs its/\s.heap.get? p=some {cls:=.type "list",data:=.seq its.toArray n}/\xs.length<=sizeLine:=by
 obtain⟨z,its,n,r,e⟩:=I.hok p _ h;exact⟨its,n,r,e,z⟩
def Inv.lstUpd{pins:Ba}{σ:St}{H:Hp}{s:Shared}{p:Addr}{xs ys:List V}{its its':Ae}{n n':Nat}{f:Obj->Obj}(I:Inv X pins σ H s)(h:H p=some (.lst xs))
  (ho:s.heap.get? p=some {cls:=.type "list",data:=.seq its.toArray n}) (hf:f {cls:=.type "list",data:=.seq its.toArray n}={cls:=.type "list",data:=.seq its'.toArray n'}) (r:Vals ys its') (hz:ys.length<=sizeLine) (t:Nat):
  Inv X pins σ (upd H p (.lst ys)) {s with heap:=s.heap.update p f,toks:=t}:=by
 have e:(s.heap.update p f).get? p=some {cls:=.type "list",data:=.seq its'.toArray n'}:=by rw [Heap.get?_update_self f ho (by rw [hf]<;>rfl),hf]
 refine I.write (x:=p) (e:=p) (by rw [h];trivial) (.inl rfl) (λb u hb q=>(Heap.get?_update_other _ _ (Ne.symm hb)).trans q) ⟨_,e⟩ ?_;exact⟨hz,its',n',r,e⟩
def rSetL:V->V->V->Hp->(Hp->Prop)->Prop:=λo i v H Q=> ∃p xs k j,o=.ref p/\i=.int k/\H p=some (.lst xs)/\ixN xs.length k=some j/\Q (upd H p (.lst (xs.set j v)))
def set_list:PSet X rSetL:=by
 intro pins s σ H o i v ov iv u Q I ro ri rv h;obtain⟨p,xs,k,j,rfl,rfl,hp,hj,q⟩:=h;cases ro;obtain⟨t,rfl⟩:=ri;obtain⟨its,n,r,ho,hz⟩:=I.lst hp;obtain⟨h1,h2,h3,h4⟩:=yAB hj;have hl:=r.length;have hn:=zGL
 have I':Inv X pins σ (upd H p (.lst (xs.set j v))) {s with heap:=s.heap.update p (Obj.mapSeq (·.setIfInBounds j u))}:=
  I.lstUpd hp ho (zXX its n j u) (r.set rv j) (by rw [length_set];exact hz) s.toks
 by_cases h0:0<=k
 ·have hk:k.toNat=j:=by rw [seqIndex_of h0 h4]at h1;exact Option.some.inj h1
  exact PySem.W.ki_setAt ho h0 (by omega) (by rw [sA, <-hl];exact h4) (by rw [hk];exact⟨_,I',q⟩)
 ·have hk:(k+(its.toArray.size:Int)).toNat=j:=by rw [seqIndex_neg (by omega) h3]at h1;rw [sA, <-hl];exact Option.some.inj h1
  exact PySem.W.ki_setBack ho (by omega) (by rw [sA, <-hl];exact h3) (by omega) (by rw [hk];exact⟨_,I',q⟩)
def zRL(lo hi:Bc)(n:Nat):(sliceBounds lo hi none n).1=((HT.sIx n 0 lo:Nat):Int)/\(sliceBounds lo hi none n).2.1=((HT.sIx n n hi:Nat):Int)/\(sliceBounds lo hi none n).2.2=1:=by
 refine⟨?_,?_,rfl⟩
 ·cases lo with
  |none=>simp [sliceBounds,HT.sIx]
  |some i=>
   simp only [sliceBounds,HT.sIx,Option.getD_none,show(1:Int)>0 by decide,if_true];by_cases h:i<0
   ·simp only [h,if_true]<;>omega
   ·simp only [h,iF]<;>omega
 ·cases hi with
  |none=>simp [sliceBounds,HT.sIx]
  |some i=>
   simp only [sliceBounds,HT.sIx,Option.getD_none,show(1:Int)>0 by decide,if_true];by_cases h:i<0
   ·simp only [h,if_true]<;>omega
   ·simp only [h,iF]<;>omega
theorem zOW(its:Ae)(lo hi:Bc):slicePick its.toArray lo hi none=((its.drop (HT.sIx its.length 0 lo)).take (HT.sIx its.length its.length hi - HT.sIx its.length 0 lo)).toArray:=by obtain⟨h1,h2,h3⟩:=zRL lo hi its.toArray.size;unfold slicePick;rw [h1,h2,h3];simp only [sliceRange_one,pick_run,sA]<;>rfl
def rSlL(K:Be):V->Option Int->Option Int->Hp->VK->Prop:=λx lo hi H Q=> ∃a xs,x=.ref a/\SqL K H a xs/\ ∀p,H p=none->Q (.ref p) (upd H p (.lst (zUN xs lo hi)))
def yKF:SlR X (rSlL X.K):=by intro pins s σ H x v vl vu lo hi sl Q I rx hs pl pu h;obtain⟨a,xs,rfl,hx,q⟩:=h;cases rx;obtain⟨its,r,ht,hz⟩:=I.list hx;have hlen:=r.length;refine⟨"list",_,slot_list_getitem.lookup,ht.isList.typeIs,?_⟩;refine wpAny_getItem_list_slice ht.isList hs pl pu .none (by simp) ?_ (by rw [sA]<;>omega);rw [zOW, <-hlen];refine⟨.ref s.heap.objs.size,_,I.laid (t':=s.toks) (o:=.lst (zUN xs lo hi)) (λb ob q=>hP0 _ q) (le_refl _) ?_,rfl,q _ (I.hok.fresh (le_refl _))⟩;exact⟨le_trans (zKK xs lo hi) hz,_,0,(r.drop (HT.sIx xs.length 0 lo)).take (HT.sIx xs.length xs.length hi - HT.sIx xs.length 0 lo),Heap.get?_push_size _ rfl⟩
def wN:V->Bool
 |.non=>true
 |.bl _=>true
 |.int _=>true
 |.str _=>true
 |_=>false
def eqV:V->V->Bool
 |.non,.non=>true
 |.bl a,.bl b=>a==b
 |.bl a,.int b=>(if a then 1 else 0)==b
 |.int a,.bl b=>a==(if b then 1 else 0)
 |.int a,.int b=>a==b
 |.str a,.str b=>a==b
 |_,_=>false
def yPV{A:Around}{s:Shared}{y x:V}{u v:Value}(ry:RelV y u)(rx:RelV x v)(fy:wN y=true)(fx:wN x=true):SeqAt.EqAt A s u v (eqV y x):=by
 cases y with
 |non=>
  cases ry
  cases x with
  |non=>cases rx;exact SeqAt.EqAt.same _
  |bl b=>cases rx;exact SeqAt.EqAt.none_bool b
  |int b=>obtain⟨t,rfl⟩:=rx;exact SeqAt.EqAt.none_int b t
  |str b=>obtain⟨t,rfl⟩:=rx;exact SeqAt.EqAt.none_str b t
  |_=>exact absurd (show false=true from fx) xF0
 |bl a=>
  cases ry
  cases x with
  |non=>cases rx;exact SeqAt.EqAt.bool_none a
  |bl b=>cases rx;exact SeqAt.EqAt.bool_bool a b
  |int b=>obtain⟨t,rfl⟩:=rx;exact SeqAt.EqAt.bool_int a b t
  |str b=>obtain⟨t,rfl⟩:=rx;exact SeqAt.EqAt.bool_str a b t
  |_=>exact absurd (show false=true from fx) xF0
 |int a=>
  obtain⟨t',rfl⟩:=ry
  cases x with
  |non=>cases rx;exact SeqAt.EqAt.int_none a t'
  |bl b=>cases rx;exact SeqAt.EqAt.int_bool a t' b
  |int b=>obtain⟨t,rfl⟩:=rx;exact SeqAt.EqAt.int_int a t' b t
  |str b=>obtain⟨t,rfl⟩:=rx;exact SeqAt.EqAt.int_str a t' b t
  |_=>exact absurd (show false=true from fx) xF0
 |str a=>
  obtain⟨t',rfl⟩:=ry
  cases x with
  |non=>cases rx;exact SeqAt.EqAt.str_none a t'
  |bl b=>cases rx;exact SeqAt.EqAt.str_bool a t' b
  |int b=>obtain⟨t,rfl⟩:=rx;exact SeqAt.EqAt.str_int a t' b t
  |str b=>obtain⟨t,rfl⟩:=rx;exact SeqAt.EqAt.str_str a t' b t
  |_=>exact absurd (show false=true from fx) xF0
 |_=>exact absurd (show false=true from fy) xF0
def zRM:CallR X (.builtin "len") (λxs H Q=> ∃p ys,xs=[.ref p]/\(SqL X.K H p ys\/SqT X.K H p ys)/\Q (.int ys.length) H):=by
 intro pins s σ H xs us Q I r h;obtain⟨p,ys,rfl,hq,q⟩:=h;obtain⟨u,rfl,rx⟩:=vals1 r;cases rx;have hn:=zGL;rcases hq with hq|hq
 ·obtain⟨its,r',pl,hz⟩:=I.list hq;have hlen:=r'.length;exact Calls.call_len_list pl.isList (by simp only [sA]<;>omega) ⟨.int ys.length,H,I.tok _,⟨s.toks+1,by rw [sA,hlen]⟩,q⟩
 ·obtain⟨its,r',pl,hz⟩:=I.tuple hq;have hlen:=r'.length;exact len_tuple pl (by simp only [sA]<;>omega) ⟨.int ys.length,H,I.tok _,⟨s.toks+1,by rw [sA,hlen]⟩,q⟩
def zRN:CallR X (.builtin "len") (λxs H Q=> ∃z,xs=[.str z]/\z.length<=sizeLine/\Q (.int z.length) H):=by intro pins s σ H xs us Q I r h;obtain⟨z,rfl,hz,q⟩:=h;obtain⟨u,rfl,t,rfl⟩:=vals1 r;have hn:=zGL;exact len_str (by omega) ⟨.int z.length,H,I.tok _,⟨_,rfl⟩,q⟩
def CallR.or{f:Value}{r r':List V->Hp->VK->Prop}(h:CallR X f r)(h':CallR X f r'):CallR X f (λxs H Q=>r xs H Q\/r' xs H Q):=by
 intro pins s σ H xs us Q I rs q;rcases q with q|q
 ·exact h pins s σ H xs us Q I rs q
 ·exact h' pins s σ H xs us Q I rs q
def kR:CallR X (.type "tuple") (λxs H Q=> ∃p ys,xs=[.ref p]/\((SqL X.K H p ys/\ ∀l,H l=none->Q (.ref l) (upd H l (.tup ys)))\/(SqT X.K H p ys/\Q (.ref p) H))):=by
 intro pins s σ H xs us Q I r h;obtain⟨p,ys,rfl,h⟩:=h;obtain⟨u,rfl,rx⟩:=vals1 r;cases rx;rcases h with⟨hq,q⟩|⟨hq,q⟩
 ·obtain⟨its,r',pl,hz⟩:=I.list hq;have hlen:=r'.length;refine call_tuple_list pl.isList (λh' kp=>?_) (by simp only [sA]<;>omega);have I1:Inv X pins σ H {s with heap:=h'}:=I.kept (t':=s.toks) kp
  have I2:Inv X pins σ (upd H h'.objs.size (.tup ys)) {s with heap:=h'.push {cls:=.type "tuple",data:=.seq its.toArray}}:=
   I1.laid (t':=s.toks) (λb o e=>hP0 _ e) (le_refl _) (show ObjOk X.prog X.w _ _ _ (.tup ys)from⟨hz,its,r',IsTup.new _ _⟩)
  exact⟨.ref h'.objs.size,_,I2,rfl,q _ (I1.hok.fresh (le_refl _))⟩
 ·obtain⟨its,r',pl,hz⟩:=I.tuple hq;exact call_tuple_same pl ⟨.ref p,H,I,rfl,q⟩
def tyV(K:Be)(T:String)(x:V)(H:Hp):Prop:=match x with
 |.str _=>T="str"
 |.int _=>T="int"
 |.ref p=>(T="list"/\ ∃xs,SqL K H p xs)\/(T="tuple"/\ ∃o,K.lookup p=some o/\o.cls=.type "tuple"/\o.dict=none)\/
   (T="dict"/\((∃kvs,H p=some (.dK kvs))\/ ∃kvs,H p=some (.dT kvs)))\/(T="set"/\ ∃S n,H p=some (.set S n))
 |_=>False
def yPW{pins:Ba}{σ:St}{H:Hp}{s:Shared}{T:String}{x:V}{v:Value}(I:Inv X pins σ H s)(r:RelV x v)(ty:tyV X.K T x H):
  s.TypeIs v T/\ ∀a,v=.ref a-> ∃ob,s.heap.get? a=some ob/\ob.dict=none:=by
 cases x with
 |str z=>
  obtain⟨t,rfl⟩:=r;cases (show T="str" from ty);exact⟨typeIs_str s z t,λ_ e=>nomatch e⟩
 |int i=>
  obtain⟨t,rfl⟩:=r;cases (show T="int" from ty);exact⟨typeIs_int s i t,λ_ e=>nomatch e⟩
 |ref p=>
  cases r;rcases ty with⟨rfl,xs,hq⟩|⟨rfl,o,hk,hc,hd⟩|⟨rfl,hk⟩|⟨rfl,S,n,hk⟩
  ·obtain⟨its,_,pl,_⟩:=I.list hq;refine⟨pl.isList.typeIs,λa e=>?_⟩;cases e;obtain⟨o,n,e,c,hd,_⟩:=pl;exact⟨o,e,hd⟩
  ·refine⟨⟨o,I.kIn p o hk,hc⟩,λa e=>?_⟩;cases e;exact⟨o,I.kIn _ o hk,hd⟩
  ·have z: ∃o,s.heap.get? p=some o/\o.ExactDict:=by
    rcases hk with⟨kvs,hk⟩|⟨kvs,hk⟩
    ·obtain⟨_,_,_,_,o,_,_,e,ex,_⟩:=I.hok p _ hk;exact⟨o,e,ex⟩
    ·obtain⟨_,_,_,_,o,_,_,e,ex,_⟩:=I.hok p _ hk;exact⟨o,e,ex⟩
   obtain⟨o,e,ex⟩:=z;refine⟨⟨o,e,ex.1⟩,λa e2=>?_⟩;cases e2;exact⟨o,e,ex.2.1⟩
  ·obtain⟨o,_,_,_,e,ex,_⟩:=I.hok p _ hk;refine⟨⟨o,e,ex.1⟩,λa e2=>?_⟩;cases e2;exact⟨o,e,ex.2.1⟩
 |_=>exact False.elim ty
def tBM(K:Be)(T:String)(r:V->List V->Hp->VK->Prop)(to:TE)(t:TA):TE:=λσ H Q=>to σ H λx H1=>tyV K T x H1/\t σ H1 λxs H2=>r x xs H2 Q
variable{o e:Expr}{es:Bd}{to:TE}{t:TA}{name:Str}{apos cpos:Pos}{T id:String}{r:V->List V->Hp->VK->Prop}
def pe_bm(pa:PlainAttrs T)(slot:Slot T name id)(hty:typeOf (.builtin id)=pure (.type "method_descriptor"))(hm:MtR X id r)(ho:PE X o to)(ha:PA X (e::es) t)
  (hbase:attributeBase o name X.env (eval o X.env)=eval o X.env:=by rfl)
  (hfew:((backTo cpos (starEach (e::es) X.env)).all (λx=>!x.1)&&(backToKw cpos (keywordEach [] X.env)).all (λx=>x.1.isSome)
   &&decide ((e::es).length+([]:List Keyword).length+(if([]:List Keyword).isEmpty then 0 else 1)<30))=true:=by rfl)
  (hline:(apos.endLine==cpos.line)=true:=by rfl) (hs:starEach (e::es) X.env=(false,eval e X.env)::starEach es X.env:=by rfl) (hplain:(backTo cpos (starEach es X.env)).any (·.1)=false:=by rfl):
  PE X (.Call (.Attribute o name apos) (e::es) [] cpos) (tBM X.K T r to t):=by
 intro pins s σ H Q I h;refine wpAny_Call_method_late hbase hfew hline rfl (thn (ho pins s σ H _ I h) λv s1 ⟨x,H1,I1,r1,ty,q1⟩=>?_);obtain⟨h1,h2⟩:=yPW I1 r1 ty;refine⟨T,id,pa,slot,hty,h1,h2,?_⟩;have hA:=ha cpos pins s1 σ H1 _ I1 q1;rw [hs]at hA ⊢;refine Calls.callWith_builtin (by show(false || (backTo cpos (starEach es X.env)).any (·.1))=false;rw [hplain]<;>rfl) (Calls.evalArgs_plain ?_);exact thn hA λus s2 ⟨vs,H2,I2,r2,q2⟩=>hm pins s2 σ H2 x vs v us Q I2 r1 r2 q2
end
def MtM(X:Cx)(id:String)(r:V->List V->Hp->VK->Prop):Prop:=
 ∀(pins:Ba)(s:Shared)(σ:St)(H:Hp)(x:V)(xs:List V)(v:Value)(us:Ae)(Q:VK),Inv X pins σ H s->RelV x v->Vals xs us->r x xs H Q->
  wpAny (model X.prog X.w) X.A (call (.builtin id) (v::us)) (EP X pins σ Q) X.xe s
def Vals.one: ∀{x:V}{us:Ae},Vals [x] us-> ∃u,us=[u]/\RelV x u
 |_,_,.cons r .nil=>⟨_,rfl,r⟩
def Vals.reverse{xs:List V}{us:Ae}(h:Vals xs us):Vals xs.reverse us.reverse:=by
 induction h with
 |nil=>exact .nil
 |cons r t ih=>rw [reverse_cons,reverse_cons];exact Vals.append ih (.cons r .nil)
theorem Vals.rep{xs:List V}{us:Ae}(h:Vals xs us): ∀k:Nat,Vals (List.replicate k xs).flatten (List.replicate k us).flatten
 |0=>.nil
 |k+1=>by rw [replicate_succ,replicate_succ,flatten_cons,flatten_cons];exact Vals.append h (Vals.rep h k)
theorem foldl_rep(its:Ae): ∀(k:Nat)(acc:Ae),
  List.foldl (λx1 x2=>x1++x2) acc.toArray (List.replicate k its.toArray)=(acc++(List.replicate k its).flatten).toArray
 |0,acc=>by simp
 |k+1,acc=>by
  have e:acc.toArray++its.toArray=(acc++its).toArray:=by simp
  have e2:(acc++its)++(List.replicate k its).flatten=acc++(List.replicate (k+1) its).flatten:=by rw [replicate_succ,flatten_cons,aA]
  rw [<-e2, <-foldl_rep its k (acc++its), <-e,replicate_succ,foldl_cons]
section
variable{X:Cx}{pins:Ba}{σ:St}{H:Hp}{s:Shared}{l b:Addr}{xs ys zs:List V}
def Inv.lset{its its':Ae}{n:Nat}{f:Array Value->Array Value}{t':Nat}(I:Inv X pins σ H s)(hH:H l=some (.lst xs))
  (e:s.heap.get? l=some {cls:=.type "list",data:=.seq its.toArray n}) (hf:f its.toArray=its'.toArray) (hv:Vals ys its') (hz:ys.length<=sizeLine):
  Inv X pins σ (upd H l (.lst ys)) {s with heap:=s.heap.update l (Obj.mapSeq f),toks:=t'}:=by
 have q:=PySem.IsL.update e f;rw [hf]at q;refine I.write (x:=l) (e:=l) (by rw [hH];exact trivial) (.inl rfl) (λb' u hb hu=>(Heap.get?_update_other s.heap (Obj.mapSeq f) (Ne.symm hb)).trans hu) ⟨_,q⟩ ?_;exact⟨hz,its',_,hv,q⟩
def Inv.lnew{its:Ae}{t':Nat}(I:Inv X pins σ H s)(hv:Vals ys its)(hz:ys.length<=sizeLine):
  Inv X pins σ (upd H s.heap.objs.size (.lst ys)) {s with heap:=s.heap.push {cls:=.type "list",data:=.seq its.toArray},toks:=t'}:=
 I.laid (λ_ _ q=>hP0 _ q) (le_refl _) ⟨hz,its,0,hv,Heap.get?_push_size _ rfl⟩
def Inv.fresh(I:Inv X pins σ H s):H s.heap.objs.size=none:=I.hok.fresh (le_refl _)
def Inv.lstM(I:Inv X pins σ H s)(hH:H l=some (.lst xs)):xs.length<=sizeLine/\ ∃(its:Ae)(n:Nat),Vals xs its/\xs.length=its.length/\s.heap.get? l=some {cls:=.type "list",data:=.seq its.toArray n}:=by obtain⟨z,its,n,r,e⟩:=I.hok l _ hH;exact⟨z,its,n,r,r.length,e⟩
def zUO{n:Nat}(h:n<=sizeLine):Builtin.List.listTooLong n=false:=by unfold Builtin.List.listTooLong;exact dF0 (by omega)
end
section
variable{X:Cx}
def yAC:V->List V->Hp->VK->Prop:=λx vs H Q=> ∃l xs y,x=.ref l/\vs=[y]/\H l=some (.lst xs)/\xs.length<sizeLine/\Q .non (upd H l (.lst (xs++[y])))
def yCW:MtM X "list.append" yAC:=by intro pins s σ H x vs v us Q I rx rv h;obtain⟨l,xs,y,rfl,rfl,hH,hz,q⟩:=h;cases rx;obtain⟨u,rfl,ru⟩:=rv.one;obtain⟨z,its,n,r,hl,e⟩:=I.lstM hH;refine call_meets F.slot_list_append ⟨_,e,rfl⟩ F.entry_list_append (F.args_list_append_2 _ _) (PySem.list_append l its.toArray n u (by rw [sA];omega)) ⟨e,?_⟩;refine⟨.non,_,I.lset (its':=its++[u]) hH e (by simp) (r.append (.cons ru .nil)) ?_,rfl,q⟩;rw [lA,lS];omega
def yAD:V->List V->Hp->VK->Prop:=λx vs H Q=> ∃l b xs zs,x=.ref l/\vs=[.ref b]/\H l=some (.lst xs)/\H b=some (.lst zs)/\xs.length+zs.length<=sizeLine/\Q .non (upd H l (.lst (xs++zs)))
def yCX:MtM X "list.extend" yAD:=by
 intro pins s σ H x vs v us Q I rx rv h;obtain⟨l,b,xs,zs,rfl,rfl,hH,hB,hz,q⟩:=h;cases rx;obtain⟨u,rfl,ru⟩:=rv.one;cases ru;obtain⟨z,its,n,r,hl,e⟩:=I.lstM hH;obtain⟨z2,its2,n2,r2,hl2,e2⟩:=I.lstM hB;have hsz:its.toArray.size+its2.toArray.size<=sizeLine:=by rw [sA,sA];omega
 have hlong: ¬(!its.toArray.isEmpty&&Builtin.List.listTooLong (its.toArray.size+its2.toArray.size))=true:=by rw [zUO hsz,Bool.and_false];exact xF0
 refine call_meets F.slot_list_extend ⟨_,e,rfl⟩ F.entry_list_extend (F.args_list_extend_2 _ _)
  (AutoSeq1.list_extend_list_list_0 l its.toArray n b its2.toArray n2 hlong (by rw [sA];omega) (by omega)) ⟨e,e2,?_⟩
 refine⟨.non,_,I.lset (its':=its++its2) hH e (by simp) (r.append r2) ?_,rfl,q⟩;rw [lA];omega
def rCat:R2:=λx y H Q=> ∃l b xs zs,x=.ref l/\y=.ref b/\H l=some (.lst xs)/\H b=some (.lst zs)/\xs.length+zs.length<=sizeLine/\ ∀p,H p=none->Q (.ref p) (upd H p (.lst (xs++zs)))
def yPX:OpR X (binaryOp .Add) rCat:=by
 intro pins s σ H x y v u Q I rx ry h;obtain⟨l,b,xs,zs,rfl,rfl,hH,hB,hz,q⟩:=h;cases rx;cases ry;obtain⟨z,its,n,r,hl,e⟩:=I.lstM hH;obtain⟨z2,its2,n2,r2,hl2,e2⟩:=I.lstM hB;refine PySem.P.add_list e e2 ?_ (by rw [sA,sA];omega);have ea:its.toArray++its2.toArray=(its++its2).toArray:=by simp
 rw [ea];exact⟨.ref _,_,I.lnew (t':=s.toks) (r.append r2) (by rw [lA];omega),rfl,q _ I.fresh⟩
def rRep:R2:=λx y H Q=> ∃l k xs,x=.ref l/\y=.int k/\H l=some (.lst xs)/\ -(2 ^ 63)<=k/\k<2 ^ 63/\xs.length * k.toNat<=sizeLine/\
 ∀p,H p=none->Q (.ref p) (upd H p (.lst (List.replicate k.toNat xs).flatten))
def len_rep{α:Type}(xs:List α)(k:Nat):(List.replicate k xs).flatten.length=k * xs.length:=by
 induction k with
 |zero=>simp
 |succ k ih=>rw [replicate_succ,flatten_cons,lA,ih,Nat.succ_mul,Nat.add_comm]
def yPY:OpR X (binaryOp .Mult) rRep:=by
 intro pins s σ H x y v u Q I rx ry h;obtain⟨l,k,xs,rfl,rfl,hH,h1,h2,hz,q⟩:=h;cases rx;obtain⟨t,rfl⟩:=ry;obtain⟨z,its,n,r,hl,e⟩:=I.lstM hH;have hlen:its.toArray.size * k.toNat<=sizeLine:=by rw [sA, <-hl];exact hz
 have hcap: ¬its.toArray.size * k.toNat>(2 ^ 63 - 1) / 8:=by
  have:(sizeLine:Nat)<=(2 ^ 63 - 1) / 8:=by decide
  omega
 have hfit: ¬(!Builtin.List.listFitsIndex k)=true:=by rw [fitsIndex_both h1 h2];exact xF0
 have hlong: ¬Builtin.List.listTooLong (its.toArray.size * k.toNat)=true:=by rw [zUO hlen];exact xF0
 have hnew:List.foldl (λx1 x2=>x1++x2) #[] (List.replicate (if its.toArray.isEmpty=true then 0 else k.toNat) its.toArray)=(List.replicate k.toNat its).flatten.toArray:=by
  have f0: ∀m:Nat,List.foldl (λx1 x2=>x1++x2) #[] (List.replicate m its.toArray)=(List.replicate m its).flatten.toArray:=λm=>by have:=foldl_rep its m [];rw [nil_append]at this;exact this
  rw [f0]
  cases its with
  |nil=>simp
  |cons a r'=>rw [iN (by simp)]
 refine wpAny_binaryOp_repeat_ref (T:="list") (U:="int") (by decide) ⟨_,e,rfl⟩ (λs'=>typeIs_int s' k t) noFill_list_mul F.fills_int_mul F.slot_int_rmul repeat_list F.slot_int_index.lookup
  (call_meets F.slot_int_rmul (typeIs_int s k t) F.entry_int_rmul (F.args_int_rmul_2 _ _) (int___rmul___int_list k t l its.toArray n)
   ⟨e,rfl,⟨_,e,rfl⟩,call_meets F.slot_list_mul ⟨_,e,rfl⟩ F.entry_list_mul (F.args_list_mul_2 _ _) (AutoListH.list___mul___list_int_3 l its.toArray n k t hfit hcap hlong) ⟨e,?_⟩⟩)
 rw [hnew];exact⟨.ref _,_,I.lnew (t':=s.toks) (r.rep k.toNat) (by rw [len_rep,Nat.mul_comm];exact hz),rfl,q _ I.fresh⟩
end
end L2
namespace Att
open PySem PySem.W PySem.Calls PyProof.Rows
def zKV{P:Params}{h:Heap}: ∀(ns:Ad)(vs:Ae),WellAll P h vs (ns.map WData.int)->IntsAre vs ns:=by
 intro ns
 induction ns with
 |nil=>
  intro vs w;rw [List.map_nil]at w;cases w;exact .nil
 |cons n ns ih=>
  intro vs w;rw [map_cons]at w
  cases w with
  |cons a b=>
   cases a;exact .cons _ _ (ih _ b)
def yCY{l:OpenLaw}{n:Nat}(hn:l.most=some n){P:Params}{h:Heap}{args:List WData}{vals:Ae}
  (hpre:l.row.toRowW.claim.pre args=true) (hwl:WellAll P h vals args):
  ∃a vs ns,vals=[Value.ref a]/\args=[WData.list (ns.map WData.int)]/\h.get? a=some {cls:=.type "list",data:=.seq vs.toArray}/\IntsAre vs ns/\ns.length<=n:=by
 have hsh:WShape.hasAll [] args [.list .int]=true:=(pre_splitW hpre).1;have hc:l.pre.holds [] {args:=args}=true:=(pre_splitW hpre).2;obtain⟨d,r,rfl,h1,h2⟩:=hasAllW_cons hsh;obtain rfl:=hasAllW_nil h2;obtain⟨xs,rfl,h3⟩:=hasW_list h1;obtain⟨ns,rfl⟩:=items_int h3
 have hlen:ns.length<=n:=by
  unfold OpenLaw.pre at hc;have h4:(WTm.not (.lt (.lit (.int (n:Int))) (.len (.arg 0)))).holds [] {args:=[.list (ns.map .int)]}=true:=by have h4:=(holds_andW hc).1;rw [hn]at h4;exact h4
  have h5:=condW_of h4 (w_not (w_lt w_lit (w_len_list (w_arg rfl))));rw [lM]at h5;refine Nat.le_of_not_lt λq=>?_;have q':(n:Int)<((ns.length:Nat):Int):=by omega
  first
   |(rw [dT0 q']at h5;exact absurd h5 (by decide))
   |(simp at h5;omega)
 cases hwl with
 |cons w1 w2=>
  cases w2
  cases w1 with
  |list ho hall=>exact⟨_,_,ns,rfl,rfl,ho,zKV ns _ hall,hlen⟩
theorem yCZ(l:OpenLaw)(args:List WData):l.row.toRowW.claim.post args (.bool true) args=true:=
 postW_of (r:=l.row.toRowW) (X:=(true==true))
  (show WShape.has [] (.bool true) .bool=true by first |rfl|decide|simp [WShape.has,WShape.arms,WShape.armsAll])
  (show(WTm.eq .res (.lit (.bool true))).value [] {args:=args,res:=some (.bool true),after:=args}=some (.bool (true==true))from w_eq_bool (w_res rfl) w_lit) rfl
def attach_call{l:OpenLaw}{n:Nat}{q:Program}{loose:Ai}{XP:(Str->Option Value)->Heap->Prop}{YP:World->Heap->Prop}{d:DefRec}
  (hn:l.most=some n) (hdf:d.params.defaults=[])
  (call: ∀(w:World)(s₀ s₁:Shared)(mg mb:Aj)(fa:Addr)(o:Obj)(pm cd doc:Value)(a:Addr)(vs:Ae)(ns:Ad),
   Ground q loose [] XP w s₀ mg mb s₁.heap->YP w s₁.heap->
   s₁.heap.get? fa=some o->o.data=.func (docDef d.name d.params d.body d.scope pm cd doc)->s₁.heap.CodeRec cd d.name->mg d.name=some (.ref fa)->
   s₁.heap.get? a=some {cls:=.type "list",data:=.seq vs.toArray}->IntsAre vs ns->ns.length<=n->s₁.gens=#[]->
   codeAny (model l.prog w) callerA (.call (.ref fa) ⟨[.ref a],[]⟩) (λr s'=>r=.ok (.ret (.bool true))/\OldK s₁.heap s'.heap/\s'.os=s₁.os/\AllBare s'.gens) s₁):
  WalkO q loose XP YP l.row.toRowW d [] (λf vs=>PySem.call f vs):=by
 intro w s₀ s₁ mg mb G Y fa o pm cd doc dV kV ho hd hcd hD hmg hg args vals as hpre hlay hrd hwl hlo;obtain rfl:dV=.none:=Dflts.none hD hdf;obtain rfl:kV=.none:=Dflts.noKw hD;obtain⟨a,vs,ns,rfl,rfl,hobj,hints,hlen⟩:=yCY hn hpre hwl;refine enter_call (codeAny_mono (call w s₀ s₁ mg mb fa o pm cd doc a vs ns G Y ho (fd_plain hd) hcd hmg hobj hints hlen hg) λr s' hq=>?_);obtain⟨rfl,h2,h3,h4⟩:=hq;exact⟨.inl ⟨.bool true,.bool true,[],rfl,λ_=>rfl,.bool true,yCZ l _,λ_=>⟨List.Pairwise.nil,λ_ hm=>(nomatch hm)⟩⟩,h2,h3,h4⟩
end Att
namespace L2
open PySem PySem.Spec PyProof.Rows
theorem zQC: ∀{vs:Ae}{ns:Ad},IntsAre vs ns->Vals (ns.map V.int) vs
 |_,_,.nil=>.nil
 |_,_,.cons n t h=>.cons ⟨t,rfl⟩ (zQC h)
def yFW(H:Hp):Prop:= ∀b,H b=none\/ ∃o xs,H b=some (.frz o (.lst xs))
def yFX{P:Program}{w:World}{K:Be}{mg mb:Aj}{CX:CXT}{k:Nat}{fa a:Addr}{fd:FuncData}{x:Str}{sp:Sp}{s₁:Shared}{vs:Ae}{ns:Ad}
  (KX:K.In s₁.heap) (hns:s₁.heap.Ns mainGlobals mg) (hb:s₁.heap.Ns builtinsNs mb) (hbb: ∀x:Str,x≠"__name__"->mb x=bootBuiltins x) (hlim:s₁.heap.NoLimit) (hg:s₁.gens=#[])
  (ha:s₁.heap.get? a=some {cls:=.type "list",data:=.seq vs.toArray}) (hi:IntsAre vs ns) (hl:ns.length<=sizeLine) (hr:Room k callerA)
  (F: ∀base:Heap,K.In base->base.Ns mainGlobals mg->FnOk P w K mg base CX k fa fd [x] sp) (hbind: ∀(s:Shared)(u:Value),BindsTo s fd ⟨[u],[]⟩ [(x,u)])
  (hsp: ∀H:Hp,yFW H->SqL K H a (ns.map V.int)->sp [.ref a] H (λv _=>v=.bl true) λ_ _ _=>False)
  (hCX: ∀H e s',CX [] H s₁ (λ_ _ _=>False) e s'->False):
  codeAny (model P w) callerA (.call (.ref fa) ⟨[.ref a],[]⟩) (λr s'=>r=.ok (.ret (.bool true))/\OldK s₁.heap s'.heap/\s'.os=s₁.os/\AllBare s'.gens) s₁:=by
 have rv:=zQC hi;have lenV:=hi.length
 have core: ∀H:Hp,yFW H->SqL K H a (ns.map V.int)->HOk P w H s₁.heap->(∀b,H b≠none->b=a)->(H a≠none->K.lookup a=none)->
   codeAny (model P w) callerA (.call (.ref fa) ⟨[.ref a],[]⟩) (λr s'=>r=.ok (.ret (.bool true))/\OldK s₁.heap s'.heap/\s'.os=s₁.os/\AllBare s'.gens) s₁:=by
  intro H hO hS hok hA hK;have base_of: ∀{b:Addr}{o:Obj},s₁.heap.get? b=some o->H b=none->(zRH s₁.heap H).get? b=some o:=λe n=>yFD e n
  have noA: ∀{b:Addr}{o:Obj}{es:Array DictEntry}{ep:Nat},s₁.heap.get? b=some o->o.data=.dict es ep->H b=none:=λ{b o es ep} e d=>by
   cases q:H b with
   |none=>rfl
   |some u=>
    have e':b=a:=hA b (by rw [q];simp);subst e';rw [ha]at e;cases e;have d':Data.seq vs.toArray _=Data.dict es ep:=d;cases d'
  have nsK: ∀{b:Addr}{m:Aj},s₁.heap.Ns b m->(zRH s₁.heap H).Ns b m:=λ{b m} ⟨o,es,ep,e,d,r⟩=>⟨o,es,ep,base_of e (noA e d),d,r⟩
  have hKb:K.In (zRH s₁.heap H):=λb o e=>base_of (KX b o e) (by
   cases q:H b with
   |none=>rfl
   |some u=>
    have e':b=a:=hA b (by rw [q];simp);subst e';rw [hK (by rw [q];simp)]at e;cases e)
  have hM:Mod K mg (zRH s₁.heap H):=⟨hKb,nsK hns,⟨mb,nsK hb,hbb⟩,let ⟨mc,h1,h2⟩:=hlim;⟨mc,nsK h1,h2⟩⟩
  have e0:Env0 P w K mg (zRH s₁.heap H) callerA [] s₁ H:=⟨rfl,hM,λb o e=>yJL e,le_of_eq (yCN _ _),trivial,λb hb=>absurd (show b∈([]:Ah)from hb) (by simp),hok,.of_eq hg⟩
  refine codeAny_mono ((F _ hKb (nsK hns)).run callerA [] s₁ H ⟨[.ref a],[]⟩ [.ref a] [.ref a] _ _ hr e0 (hbind s₁ (.ref a)) (.cons rfl .nil) (hsp H hO hS)) λr s' h=>?_
  cases r with
  |error e=>exact(hCX H e s' h).elim
  |ok fl=>
   cases fl with
   |next=>exact False.elim h
   |brk=>exact False.elim h
   |cont=>exact False.elim h
   |ret u=>
    obtain⟨v,H',os,bare,un,hok',r',q⟩:=h;have q':v=.bl true:=q;subst q';obtain rfl:u=Value.bool true:=r';refine⟨rfl,OldK.of_keep λb o e=>?_,os,bare⟩
    cases q:H b with
    |none=>exact un.keep b o e q (by intro z;exact absurd (show b∈([]:Ah)from z) (by simp)) (by simp)
    |some u=>
     rcases hO b with z|⟨ob,xs,z⟩
     ·rw [q]at z;cases z
     ·have z2:=un.frzs b ob _ z;obtain⟨e1,_⟩:=hok b _ z;obtain⟨e2,_⟩:=hok' b _ z2;rw [e]at e1;cases e1;exact e2
 cases hk:K.lookup a with
 |some o=>
  have e:=KX a o hk;rw [ha]at e;cases e;refine core (λ_=>none) (λ_=>.inl rfl) (.inr ⟨_,vs.toArray,_,hk,rfl,rfl,rfl,by rw [sA,lenV];exact hl,by simpa using rv⟩) (λb u z=>by have z':(none:Option HO)=some u:=z;cases z') (λb z=>absurd rfl z) λz=>absurd rfl z
 |none=>
  refine core (λb=>if b=a then some (.frz {cls:=.type "list",data:=.seq vs.toArray} (.lst (ns.map V.int)))else none) (λb=>?_) (.inl (.inr ⟨{cls:=.type "list",data:=.seq vs.toArray},iP rfl⟩)) (λb u z=>?_) (λb z=>?_) λ_=>hk
  ·by_cases hb:b=a
   ·exact .inr ⟨_,_,iP hb⟩
   ·exact .inl (iN hb)
  ·by_cases hb:b=a
   ·have z':=(iP hb).symm.trans z;cases z';subst hb;exact⟨ha,by rw [lM];exact hl,vs,_,rv,ha⟩
   ·have z':=(iN hb).symm.trans z;cases z'
  ·by_cases hb:b=a
   ·exact hb
   ·exact absurd (iN hb) z
def walk_of{l:PySem.W.OpenLaw}{n k:Nat}{q:Program}{loose:Ai}{XP:(Str->Option Value)->Heap->Prop}{YP:World->Heap->Prop}{d:DefRec}{K:Params->PySem.W.Frag}{CX:World->CXT}{sp:World->Sp}{x:Str}
  (hn:l.most=some n) (hn2:n<=sizeLine) (hdf:d.params.defaults=[]) (hr:Room k callerA)
  (hY: ∀(w:World)(h:Heap),YP w h->(K w.params).In h)
  (F: ∀(w:World)(mg:Aj)(fa:Addr)(h:Heap),(K w.params).In h->h.Ns mainGlobals mg->mg d.name=some (.ref fa)->
   ∃fd:FuncData,(∀(s:Shared)(u:Value),BindsTo s fd ⟨[u],[]⟩ [(x,u)])/\
    ∀base:Heap,(K w.params).In base->base.Ns mainGlobals mg->FnOk l.prog w (K w.params) mg base (CX w) k fa fd [x] (sp w))
  (hsp: ∀(w:World)(H:Hp)(a:Addr)(ns:Ad),ns.length<=n->yFW H->SqL (K w.params) H a (ns.map V.int)->sp w [.ref a] H (λv _=>v=.bl true) λ_ _ _=>False)
  (hCX: ∀(w:World)(H:Hp)(s:Shared)(e:Value)(s':Shared),CX w [] H s (λ_ _ _=>False) e s'->False):
  PySem.W.WalkO q loose XP YP l.row.toRowW d [] (λf vs=>PySem.call f vs):=by
 refine Att.attach_call hn hdf λw s₀ s₁ mg mb fa o pm cd doc a vs ns G Y ho hd hcd hmg hobj hints hlen hg=>?_;have KX:=hY w _ Y;obtain⟨fd,hb,hF⟩:=F w mg fa _ KX G.T.g hmg;exact yFX KX G.T.g G.T.b G.T.builtins G.T.nolimit hg hobj hints (le_trans hlen hn2) hr hF hb (λH hO hS=>hsp w H a ns hlen hO hS) λH e s'=>hCX w H s₁ e s'
def inClass(s:Stmt)(j:Nat):Stmt:=match s with
 |.ClassDef _ _ _ body _ _ _ _ _ _ _=>body.getD j (.Pass ⟨0,0,0,0⟩)
 |_=>.Pass ⟨0,0,0,0⟩
def wB(s:Stmt):Arguments:=match s with
 |.FunctionDef _ a _ _ _ _ _ _ _ _=>a
 |_=>{posonlyargs:=[],args:=[],vararg:=none,kwonlyargs:=[],kw_defaults:=[],kwarg:=none,defaults:=[]}
def xE(s:Stmt):List Stmt:=match s with
 |.FunctionDef _ _ b _ _ _ _ _ _ _=>b
 |_=>[]
def zE(s:Stmt):Scope:=match s with
 |.FunctionDef _ _ _ _ _ _ sc _ _ _=>sc
 |_=>{kind:=.function,names:=[],isGenerator:=false,isCoroutine:=false}
abbrev CX0:CXT:=λ_ _ _ _ _ _=>False
abbrev E0:XK:=λ_ _ _=>False
def yFY{X:Cx}:zLX CX0 X E0:=λ_ _ _ _ _ _ _ h=>h.elim
structure Fun(K:Be)(x qual:Str)(st:Stmt)(f:Addr)(fd:FuncData):Prop where
 ex: ∃(oc:Value)(od:Option Addr)(kV doc pm:Value)(an:Option Addr)(cdv ct:Value)(osl:Array (Option Value)),
  fd=PySem.W.fnOf x qual (wB st) (xE st) (zE st) .none kV doc pm an cdv ct/\K.lookup f=some ⟨oc,od,.func fd,osl⟩/\PySem.W.codeIn K cdv qual=true
 kp:PySem.W.keepIn K (.ref f)=true
section
variable{P:Program}{w:World}{K:Be}{mg:Aj}{base:Heap}
def Fun.ok{x qual:Str}{st:Stmt}{f:Addr}{fd:FuncData}{N ps:Ai}{k:Nat}{sp:Sp}(F:Fun K x qual st f fd)(S:FnScope N ps (zE st))(len: ∀vs H Q E,sp vs H Q E->vs.length=ps.length)
  (hbody: ∀(cdv:Value)(A:Around)(outer:List Env)(s:Shared)(H:Hp)(vs:List V)(Q:VK)(E:XK),Room k (A.deeper (envOfC qual (zE st) s.heap.objs.size f cdv))->sp vs H Q E->
   ∃t,PSs (zUL CX0 P w K mg base N qual (zE st) f cdv A outer s H E).nox (xE st) t/\t {nx:=λ_ H'=>Q .non H',rt:=Q} (start N vs) H):FnOk P w K mg base CX0 (k+1) f fd ps sp:=by
 obtain⟨oc,od,kV,doc,pm,an,cdv,ct,osl,rfl,lk,hcd⟩:=F.ex;refine fn_of lk hcd S len λA outer s H vs Q E hr hsp=>?_;obtain⟨t,h,q⟩:=hbody cdv A outer s H vs Q E hr hsp;exact⟨t,h.nox,q⟩
def Fun.binds{x qual:Str}{st:Stmt}{f:Addr}{fd:FuncData}{ps:Ai}(F:Fun K x qual st f fd)
  (h: ∀(kV doc pm:Value)(an:Option Addr)(cdv ct:Value)(us:Ae),us.length=ps.length->bindArgs (PySem.W.fnOf x qual (wB st) (xE st) (zE st) .none kV doc pm an cdv ct) ⟨us,[]⟩=pure (ps.zip us)):Binds K fd ps []:=by
 obtain⟨oc,od,kV,doc,pm,an,cdv,ct,osl,rfl,lk,hcd⟩:=F.ex;exact .all (h kV doc pm an cdv ct)
def zBL{x qual:Str}{st:Stmt}{f:Addr}{oc:Value}{od an:Option Addr}{osl:Array (Option Value)}{kV doc pm cdv ct:Value}(l:K.lookup f=some ⟨oc,od,.func (PySem.W.fnOf x qual (wB st) (xE st) (zE st) .none kV doc pm an cdv ct),osl⟩)
  (c:PySem.W.codeIn K cdv qual=true) (k:PySem.W.keepIn K (.ref f)=true):Fun K x qual st f (PySem.W.fnOf x qual (wB st) (xE st) (zE st) .none kV doc pm an cdv ct):=⟨⟨oc,od,kV,doc,pm,an,cdv,ct,osl,rfl,l,c⟩,k⟩
end
section
variable{X:Cx}
def pv(i:Nat){x:Str}{pos:Pos}(hN:X.N[i]? =some x:=by rfl)(hv:Vis X.env.scope x:=by first |exact Or.inl rfl|exact Or.inr (Or.inl rfl)|exact Or.inr (Or.inr rfl))(hd:(x==("__debug__":Str))=false:=by decide)
  (hcd:(x==("__classdict__":Str))=false:=by decide):PE X (.Name x pos) (tVar i):=yOT hN hv hd hcd
end
end L2
set_option maxHeartbeats 4000000
namespace L2
open PySem PySem.Spec PyProof.Rows
def zDG(env:Env)(l:List (Str×NameKind))(cs:List (Str×Addr)):List (Str×Addr):=
 l.foldl (λc y=>if y.2==.free then(y.1,(env.cells.lookup y.1).getD 0)::c else c) cs
def zRO{α β:Type}{l:List α}{f:α->β->Sem (ForInStep β)}{g:β->α->β}: ∀(c:β),(∀x∈l, ∀c,f x c=pure (.yield (g c x)))->
  forIn l c f=pure (l.foldl g c):=by
 induction l with
 |nil=>intro c _;rfl
 |cons x l ih=>
  intro c h;rw [forIn_cons,h x mF0,pure_bind];exact ih _ λy hy=>h y (mO _ hy)
def zOX{scope:Scope}{env:Env}(h: ∀y∈scope.names,y.2=.free-> ∃c,env.cells.lookup y.1=some c):closureFor scope env=pure (zDG env scope.names []):=by
 unfold closureFor zDG;dsimp only;rw [zRO (g:=λc y=>if y.2==.free then(y.1,(env.cells.lookup y.1).getD 0)::c else c) [] ?_]
 ·rfl
 ·intro y hy c;obtain⟨n,k⟩:=y;by_cases hk:k=.free
  ·subst hk;obtain⟨a,ha⟩:=h _ hy rfl;have ha':env.cells.lookup n=some a:=ha;simp [cellOf,ha']
  ·have e:(k==NameKind.free)=false:=by simpa using hk
   simp [e]
theorem zKL{env:Env}: ∀(l:List (Str×NameKind))(cs:List (Str×Addr)),(∀y∈l,y.2=.free-> ∃c,env.cells.lookup y.1=some c)->(∀p∈cs,env.cells.lookup p.1=some p.2)->
  ∀p∈zDG env l cs,env.cells.lookup p.1=some p.2
 |[],_,_,h=>h
 |(n,k)::l,cs,hl,h=>by
  refine zKL l _ (λy hy=>hl y (mO _ hy)) λp hp=>?_;by_cases hk:k=.free
  ·subst hk;obtain⟨c,hc⟩:=hl _ mF0 rfl;have hc':env.cells.lookup n=some c:=hc;have hp':p∈(n,(env.cells.lookup n).getD 0)::cs:=hp;rcases mC.mp hp' with rfl|hp
   ·show env.cells.lookup n=some ((env.cells.lookup n).getD 0);rw [hc'];rfl
   ·exact h p hp
  ·have hp':p∈(if(k==NameKind.free)=true then(n,(env.cells.lookup n).getD 0)::cs else cs):=hp;rw [iN (by simpa using hk)]at hp';exact h p hp'
theorem zLZ{env:Env}: ∀(l:List (Str×NameKind))(cs:List (Str×Addr))(p:Str×Addr),p∈cs->p∈zDG env l cs
 |[],_,_,h=>h
 |(n,k)::l,cs,p,h=>by
  refine zLZ l _ p ?_;show p∈(if(k==.free)=true then(n,(env.cells.lookup n).getD 0)::cs else cs);split
  ·exact mO _ h
  ·exact h
theorem zDV{env:Env}: ∀(l:List (Str×NameKind))(cs:List (Str×Addr))(n:Str),(n,NameKind.free)∈l-> ∃c,(n,c)∈zDG env l cs
 |[],_,_,h=>nomatch h
 |(m,k)::l,cs,n,h=>by
  rcases mC.mp h with e|h
  ·have e1:n=m:=congrArg Prod.fst e;have e2:NameKind.free=k:=congrArg Prod.snd e;subst e1 e2;exact⟨(env.cells.lookup n).getD 0,zLZ l _ _ mF0⟩
  ·exact zDV l _ n h
theorem kS{β:Type}: ∀{l:List (Str×β)}{n:Str},(∃c,(n,c)∈l)-> ∃c,l.lookup n=some c
 |[],_,h=>let ⟨_,z⟩:=h;nomatch z
 |(m,b)::l,n,h=>by
  by_cases e:n=m
  ·subst e;exact⟨b,by simp [lookup_cons]⟩
  ·obtain⟨c,hc⟩:=h;rcases mC.mp hc with z|z
   ·cases z;exact absurd rfl e
   ·obtain⟨c',h'⟩:=kS ⟨c,z⟩;refine⟨c',?_⟩;have e':(n==m)=false:=by simpa using e
    simp [lookup_cons,e',h']
def zXY(scope osc:Scope):List (Str×NameKind):=scope.names.map λ(n,k)=>if(k==.free&&osc.kind==.function&&osc.names.lookup n==some .cell)then(n,.cell)else(n,k)
def zKM(osc:Scope)(N:Ai)(sc:Scope)(idx:Ab):Bool:=
 decide (sc.kind=.function)&&sc.names.all (λy=>decide (sc.names.lookup y.1=some y.2))&&
 sc.names.all (λy=>decide (y.2≠.free) || decide (osc.names.lookup y.1=some .cell) || decide (osc.names.lookup y.1=some .free))&&
 idx.all (λi=>match N[i]? with
  |some y=>(decide (osc.names.lookup y=some .cell) || decide (osc.names.lookup y=some .free))&&decide (sc.names.lookup y=some .free)
  |none=>false)
def rlS(sc osc:Scope):Scope:={sc with names:=zXY sc osc}
abbrev clC(env:Env)(sc:Scope)(C:Addr):List (Str×Addr):=cellsFrom (C+1) sc.names (zDG env sc.names [])
theorem xW: ∀(l:List (Str×NameKind))(n:Nat)(acc:List (Str×Addr)),cellsFrom n l acc=cellsFrom n l []++acc
 |[],n,acc=>rfl
 |(x,k)::l,n,acc=>by
  unfold cellsFrom;split
  ·rw [xW l (n+1) ((x,n)::acc),xW l (n+1) [(x,n)],aA];rfl
  ·exact xW l n acc
theorem zHP: ∀(l:List (Str×NameKind))(n:Nat){x:Str}{c:Addr},(x,c)∈cellsFrom n l []->(x,NameKind.cell)∈l/\n<=c
 |[],n,x,c,h=>nomatch h
 |(y,k)::l,n,x,c,h=>by
  unfold cellsFrom at h;split at h
  ·rename_i hk;rw [xW]at h;rcases mem_append.mp h with h|h
   ·obtain⟨h1,h2⟩:=zHP l (n+1) h;exact⟨mO _ h1,by omega⟩
   ·have e:=mS.mp h;cases e;have hk':k=.cell:=by simpa using hk
    subst hk';exact⟨mF0,le_refl _⟩
  ·obtain⟨h1,h2⟩:=zHP l n h;exact⟨mO _ h1,h2⟩
def zGM{l:List (Str×NameKind)}{C:Nat}{x:Str}{c:Addr}(h:(x,c)∈cellsFrom (C+1) l []){n:Nat}(hC:n<=C):n<c:=Nat.lt_of_le_of_lt hC (zHP l (C+1) h).2
theorem zFG: ∀(l:List (Str×NameKind))(n:Nat){x:Str},(x,NameKind.cell)∈l-> ∃c,(x,c)∈cellsFrom n l []
 |[],n,x,h=>nomatch h
 |(y,k)::l,n,x,h=>by
  unfold cellsFrom;rcases mC.mp h with e|h
  ·cases e;rw [iP (by decide),xW];exact⟨n,mem_append_right _ mF0⟩
  ·split
   ·obtain⟨c,hc⟩:=zFG l (n+1) h;rw [xW];exact⟨c,mem_append_left _ hc⟩
   ·exact zFG l n h
theorem own_apart: ∀(l:List (Str×NameKind))(n:Nat),(cellsFrom n l []).Pairwise λx y=>x.2≠y.2
 |[],n=>List.Pairwise.nil
 |(y,k)::l,n=>by
  unfold cellsFrom;split
  ·rw [xW];refine List.pairwise_append.mpr ⟨own_apart l (n+1),pairwise_singleton _ _,λa ha b hb e=>?_⟩;rw [mS.mp hb]at e;have:=(zHP l (n+1) (x:=a.1) (c:=a.2) ha).2;exact ne_of_gt this e
  ·exact own_apart l n
theorem zBM{β:Type}(x:Str): ∀(l m:List (Str×β)),(l++m).lookup x=(l.lookup x).or (m.lookup x)
 |[],m=>rfl
 |(y,b)::l,m=>by
  rw [List.cons_append,lookup_cons,lookup_cons]
  cases x==y with
  |true=>rfl
  |false=>exact zBM x l m
theorem zQD{β:Type}{x:Str}: ∀{l:List (Str×β)},(∀c,(x,c)∉l)->l.lookup x=none
 |[],_=>rfl
 |(y,b)::l,h=>by
  rw [lookup_cons]
  cases e:x==y with
  |true=>rw [beq_iff_eq.mp e]at h;exact absurd mF0 (h b)
  |false=>exact zQD λc hc=>h c (mO _ hc)
def cR{env:Env}{sc:Scope}{C:Addr}{x:Str}{c:Addr}(e:(clC env sc C).lookup x=some c):(x,c)∈cellsFrom (C+1) sc.names []\/(zDG env sc.names []).lookup x=some c:=by
 unfold clC at e;rw [xW,zBM]at e
 cases z:(cellsFrom (C+1) sc.names []).lookup x with
 |some c'=>rw [z]at e;cases e;exact .inl (PySem.mem_of_lookup z)
 |none=>rw [z]at e;exact .inr e
def yPZ{env:Env}{sc:Scope}{C:Addr}{x:Str}{c:Addr}(h:(x,NameKind.cell)∈sc.names)(e:(clC env sc C).lookup x=some c):(x,c)∈cellsFrom (C+1) sc.names []:=by unfold clC at e;rw [xW,zBM]at e;obtain⟨c',h'⟩:=kS (zFG sc.names (C+1) h);rw [h']at e;cases e;exact PySem.mem_of_lookup h'
theorem yKG{env:Env}{sc:Scope}{C:Addr}{x:Str}(h:(x,NameKind.cell)∉sc.names):(clC env sc C).lookup x=(zDG env sc.names []).lookup x:=by unfold clC;rw [xW,zBM,zQD λc hc=>h (zHP _ _ hc).1];rfl
def zIS(σ:St)(idx:Ab):St:=idx.map λi=>(σ[i]?).join
def nI(σ:St)(idx:Ab):(zIS σ idx).length=idx.length:=by unfold zIS;rw [lM]
def yC(X:Cx)(sc:Scope)(T:Ai)(idx:Ab)(C:Addr)(s₂:Shared)(H1:Hp)(fp:Ah):Cx where
 prog:=X.prog
 w:=X.w
 K:=X.K
 mg:=X.mg
 base:=X.base
 A:=X.A
 N:=T++idx.map λi=>(X.N[i]?).getD Str.empty
 s₀:=s₂
 H₀:=H1
 env:=compEnvC sc (clC X.env sc C) C X.env
 outer:=X.stack
 stack:=X.stack
 ex:=fp
 fn:=λx=>sc.names.lookup x==some .cell
 calm:=X.calm
 pn:=[]
 xe:=λ_ _=>False
def yFZ(wi:TI)(g:TG)(tc:Addr->Shared->Hp->List Addr->TT)(te:Addr->Shared->Hp->List Addr->TE)(nt:Nat)(idx:Ab):TE:=λσ H Q=>wi σ H λJ H1=> ∃W:Nat->Nat->List V->Hp->Prop,(∃m,W 0 m [] H1)/\ ∀i m ys H2,W i m ys H2->ys.length<=sizeLine/\
 ((J.stop i H2/\ ∀D,H2 D=none->Q (.ref D) (upd H2 D (.lst ys)))\/
   (J.go i H2/\ys.length<sizeLine/\ ∀x H3,J.yld i H2 x H3-> ∀τ:St,τ.length=nt->g x (τ++zIS σ idx) H3 λσ4 H4=>(∃τ',σ4=τ'++zIS σ idx/\τ'.length=nt)/\
    ∀C s₂ fp,tc C s₂ H1 fp σ4 H4 λb H5=>if b=true then te C s₂ H1 fp σ4 H5 λy H6=> ∃m',m'<m/\W (i+1) m' (ys++[y]) H6 else∃m',m'<m/\W (i+1) m' ys H5))
section
variable{prog:Program}{w:World}{A:Around}{R:Result->Shared->Prop}{s:Shared}
def zRP{elt target iter:Expr}{ifs:Bd}{scope:Scope}{pos:Pos}{it acc:Value}{env:Env}(I:Nat->Shared->Prop)
  (turn: ∀n s,I n s->wpAny (model prog w) A (pyNext it) (λr s₁=>match r with
   |none=>R (.ok .next) s₁
   |some v=>wpAny (model prog w) A (letOwnedTupleGo target it v) (λ_ s₁'=>wpAny (model prog w) A (assign target env v) (λ_ s₂=>
     wpAny (model prog w) A (forIn ifs true λc r=>if r=true then do let ok <-isTrue c env (eval c env);pure (ForInStep.yield ok)else pure (ForInStep.yield r)) (λok s₃=>
      if ok=true then wpAny (model prog w) A (eval elt env) (λx s₄=>
       wpAny (model prog w) A (call (.builtin "list.append") [acc,x]) (λ_ s₅=> ∃m,m<n/\I m s₅) (λ_ _=>False) s₄) (λ_ _=>False) s₃
      else∃m,m<n/\I m s₃) (λ_ _=>False) s₂) (λ_ _=>False) s₁') (λ_ _=>False) s₁) (λ_ _=>False) s)
  (n:Nat) (h:I n s):codeAny (model prog w) A (.compLoop (.ListComp elt [⟨target,iter,ifs,0⟩] scope pos) 0 it acc env) R s:=by
 refine codeAny_loop rfl I (λn s hI=>?_) n h;show wpAny _ A ((compTurn (.ListComp elt [⟨target,iter,ifs,0⟩] scope pos) 0 it acc env).onRaise (λx=>do noteFrame x env;theTreesLotGoes x)) _ _ s;refine wpAny_noted ?_;rw [compTurn_list];have no: ∀{E':VP}(v:Value)(s':Shared),False->E' v s':=λ_ _ z=>z.elim;refine wB0 (wpAny_standAt (wB0 (wpAny_mono (turn n s hI) (λr s₁ h₁=>?_) (no))))
 cases r with
 |none=>exact wP0 h₁
 |some v=>
  refine wB0 (wpAny_mono h₁ (λ_ s₁' h₁'=>wB0 (wpAny_mono h₁' (λ_ s₂ h₂=>wB0 (wpAny_mono h₂ (λok s₃ h₃=>?_) no)) no)) no)
  cases ok with
  |false=>exact wP0 ⟨rfl,h₃⟩
  |true=>
   exact wB0 (wB0 (wpAny_mono h₃ (λx s₄ h₄=>wB0 (wpAny_mono h₄ (λ_ s₅ h₅=>wP0 (wP0 ⟨rfl,h₅⟩)) no)) no))
end
def yDA(X:Cx)(ifs:Bd)(t:TT):Prop:=
 ∀(pins:Ba)(s:Shared)(σ:St)(H:Hp)(Q:Bool->Hp->Prop),Inv X pins σ H s->t σ H Q->
  wpAny (model X.prog X.w) X.A (forIn ifs true λc r=>if r=true then do let ok <-isTrue c X.env (eval c X.env);pure (ForInStep.yield ok)else pure (ForInStep.yield r)) (TP X pins σ Q) X.xe s
def tNoIf:TT:=λ_ H Q=>Q true H
def yGA{X:Cx}:yDA X [] tNoIf:=λ_ _ _ H _ I h=>wpAny_tests_nil ⟨H,I,h⟩
def yGB{X:Cx}{c:Expr}{t:TT}(h:PT X c t):yDA X [c] t:=λpins s σ H Q I q=>wpAny_tests_one (h pins s σ H Q I q)
structure CompF(osc:Scope)(N:Ai)(sc:Scope)(idx:Ab):Prop where
 kind:sc.kind=.function
 uni: ∀y∈sc.names,sc.names.lookup y.1=some y.2
 frees: ∀y∈sc.names,y.2=.free->osc.names.lookup y.1=some .cell\/osc.names.lookup y.1=some .free
 cap: ∀i∈idx, ∃y,N[i]? =some y/\(osc.names.lookup y=some .cell\/osc.names.lookup y=some .free)/\sc.names.lookup y=some .free
def CompF.locs{osc:Scope}{N:Ai}{sc:Scope}{idx:Ab}(F:CompF osc N sc idx): ∀y∈sc.names,y.2=.local->sc.names.lookup y.1=some .local:=λy hy e=>by rw [F.uni y hy,e]
def yKH{osc:Scope}{N:Ai}{sc:Scope}{idx:Ab}(h:zKM osc N sc idx=true):CompF osc N sc idx:=by
 unfold zKM at h;simp only [aE,all_eq_true,decide_eq_true_eq,or_eq_true]at h;obtain⟨⟨⟨h1,h2⟩,h4⟩,h5⟩:=h;refine⟨h1,λy hy=>h2 y hy,λy hy e=>?_,λi hi=>?_⟩
 ·rcases h4 y hy with(z|z)|z
  ·exact absurd e z
  ·exact .inl z
  ·exact .inr z
 ·have q:=h5 i hi
  cases e:N[i]? with
  |none=>rw [e]at q;cases q
  |some y=>
   rw [e]at q;simp only [aE,decide_eq_true_eq,or_eq_true]at q;exact⟨y,rfl,q.1,q.2⟩
def yGC{sc osc:Scope}{x:Str}(h:(zXY sc osc).lookup x=some .cell\/(zXY sc osc).lookup x=some .free):(x,NameKind.free)∈sc.names\/(x,NameKind.cell)∈sc.names:=by
 have key: ∀k',(k'=.cell\/k'=.free)->(x,k')∈zXY sc osc->(x,NameKind.free)∈sc.names\/(x,NameKind.cell)∈sc.names:=by
  intro k' hk' hm;unfold zXY at hm;obtain⟨⟨n,k⟩,hy,e⟩:=mM.mp hm;dsimp only at e;split at e
  ·rename_i hc;cases e;rw [aE,aE]at hc;have:k=.free:=by simpa using hc.1.1
   subst this;exact .inl hy
  ·cases e;rcases hk' with rfl|rfl
   ·exact .inr hy
   ·exact .inl hy
 rcases h with h|h
 ·exact key _ (.inl rfl) (PySem.mem_of_lookup h)
 ·exact key _ (.inr rfl) (PySem.mem_of_lookup h)
theorem zQE{osc:Scope}{x:Str}: ∀{l:List (Str×NameKind)},l.lookup x=some .free->(l.map λ(n,k)=>if(k==NameKind.free&&osc.kind==.function&&osc.names.lookup n==some .cell)then(n,NameKind.cell)else(n,k)).lookup x=some .cell\/(l.map λ(n,k)=>if(k==NameKind.free&&osc.kind==.function&&osc.names.lookup n==some .cell)then(n,NameKind.cell)else(n,k)).lookup x=some .free
 |[],h=>by simp at h
 |(n,k)::l,h=>by
  have ih:=@zQE osc x l;rw [lookup_cons]at h;rw [map_cons];by_cases hc:(k==NameKind.free&&osc.kind==.function&&osc.names.lookup n==some .cell)=true
  ·dsimp only;rw [iP hc,lookup_cons]
   cases hx:x==n with
   |true=>exact .inl rfl
   |false=>rw [hx]at h;exact ih h
  ·dsimp only;rw [iN hc,lookup_cons]
   cases hx:x==n with
   |true=>rw [hx]at h;exact .inr h
   |false=>rw [hx]at h;exact ih h
section
variable{X:Cx}{pins:Ba}{σ:St}{H1:Hp}{s₂:Shared}{sc:Scope}{T:Ai}{idx:Ab}{C:Addr}{fp:Ah}
def zUP(I:Inv X pins σ H1 s₂)(F:CompF X.env.scope X.N sc idx): ∀y∈sc.names,y.2=.free-> ∃c,X.env.cells.lookup y.1=some c:=
 λy hy e=>I.ok.has y.1 (F.frees y hy e)
def wY(I:Inv X pins σ H1 s₂)(F:CompF X.env.scope X.N sc idx){x:Str}{c:Addr}(e:(zDG X.env sc.names []).lookup x=some c):X.env.cells.lookup x=some c:=
 zKL sc.names [] (zUP I F) (λ_ z=>nomatch z) (x,c) (PySem.mem_of_lookup e)
def yKI(I:Inv X pins σ H1 s₂)(F:CompF X.env.scope X.N sc idx){x:Str}{c:Addr}(hx:(x,NameKind.free)∈sc.names)(e:X.env.cells.lookup x=some c):(zDG X.env sc.names []).lookup x=some c:=by obtain⟨c',h'⟩:=kS (zDV (env:=X.env) sc.names [] x hx);rw [h'];rw [wY I F h']at e;exact e
def yDB(I:Inv X pins σ H1 s₂)(F:CompF X.env.scope X.N sc idx)(hC:s₂.heap.objs.size<=C)(hfp: ∀b∈fp,zGJ X pins H1 b)(hlt: ∀b∈fp,b<s₂.heap.objs.size):(yC X sc T idx C s₂ H1 fp).Ok where
 mod:=I.ok.mod
 kind:=F.kind
 glob:=I.ok.glob
 blt:=I.ok.blt
 above:=hC
 inj:=λx y c h1 h2=>by
  have low: ∀z,(zDG X.env sc.names []).lookup z=some c->c<s₂.heap.objs.size:=λz h=>let ⟨v,q⟩:=I.cell z c (wY I F h);q.lt;rcases cR h1 with z1|z1<;>rcases cR h2 with z2|z2
  ·exact PySem.name_of_addr (own_apart sc.names (C+1)) z1 z2
  ·exact absurd (low y z2) (not_lt.mpr (le_of_lt (zGM z1 hC)))
  ·exact absurd (low x z1) (not_lt.mpr (le_of_lt (zGM z2 hC)))
  ·exact I.ok.inj x y c (wY I F z1) (wY I F z2)
 has:=λx hx=>by
  have hx':(zXY sc X.env.scope).lookup x=some .cell\/(zXY sc X.env.scope).lookup x=some .free:=hx;show∃c,(clC X.env sc C).lookup x=some c;unfold clC;rw [xW];rcases yGC hx' with z|z
  ·obtain⟨c,hc⟩:=zDV (env:=X.env) sc.names [] x z;exact kS ⟨c,mem_append_right _ hc⟩
  ·obtain⟨c,hc⟩:=zFG sc.names (C+1) z;exact kS ⟨c,mem_append_left _ hc⟩
 cab:=λx c h e=>by have h':sc.names.lookup x=some .cell:=beq_iff_eq.mp h;exact le_of_lt (zGM (yPZ (PySem.mem_of_lookup h') e) hC)
 hd:=I.ok.hd
 frames:=I.ok.frames
 stk:=.inl rfl
 exf:=λb hb=>⟨ne_of_lt (lt_of_lt_of_le (hlt b hb) hC),λx c e=>by
  rcases cR e with z|z
  ·exact ne_of_gt (lt_trans (hlt b hb) (zGM z hC))
  ·exact(hfp b hb).2.2.2.2.1 x c (wY I F z)⟩
 bs:=I.bs
 bsz:=le_trans I.ok.bsz I.sz
 noex:=λb o e hb=>by
  rcases (hfp b hb).2.2.2.1 with z|z
  ·exact I.ok.noex b o e z
  ·exact absurd (lt_of_lt_of_le (Heap.lt_size e) (le_trans I.ok.bsz z)) (lt_irrefl _)
 exfs:=λb hb z=>by
  rcases mC.mp (I.stkSub b z)with e|e
  ·exact(hfp b hb).2.1 e
  ·exact(hfp b hb).2.2.1 e
 funs:=I.stack
 frf:=I.stkFree
def zXZ{s₄:Shared}{m:Aj}(I:Inv X pins σ H1 s₂)(F:CompF X.env.scope X.N sc idx)(hC:s₂.heap.objs.size<=C)(hfp: ∀b∈fp,zGJ X pins H1 b)(hlt: ∀b∈fp,b<s₂.heap.objs.size)
  (kp: ∀b o,s₂.heap.get? b=some o->s₄.heap.get? b=some o) (ho:s₄.os=s₂.os) (hg:s₄.gens=s₂.gens) (hn:s₄.heap.Ns C m) (hcl: ∀x c,(x,c)∈cellsFrom (C+1) sc.names []->s₄.heap.IsCell c none):
  Inv (yC X sc T idx C s₂ H1 fp) [] (T.map (λ_=>none)++zIS σ idx) H1 s₄:=by
 have cellK: ∀c v,s₂.heap.IsCell c v->s₄.heap.IsCell c v:=λc v ⟨o,h1,h2⟩=>⟨o,kp c o h1,h2⟩
 refine⟨yDB I F hC hfp hlt,ho,by rw [hg];exact I.bare,Un.kept kp,⟨m,hn,λi x v e1 e2 e3=>?_⟩,λx c e=>?_,I.hok.fresh hC,λx c e=>?_,λp hp=>absurd (show p∈([]:Ba)from hp) (by simp),I.hok.kept kp,?_⟩
 ·have e1':(T++idx.map λi=>(X.N[i]?).getD Str.empty)[i]? =some x:=e1;by_cases hi:i<T.length
  ·rw [getElem?_append_left (by simpa using hi),getElem?_map]at e2
   cases z:T[i]? with
   |none=>rw [z]at e2;cases e2
   |some y=>rw [z]at e2;cases e2
  ·rw [getElem?_append_right (by simpa using hi)]at e2;rw [getElem?_append_right (by omega)]at e1';rw [lM]at e2;unfold zIS at e2;rw [getElem?_map]at e1' e2
   cases z:idx[i - T.length]? with
   |none=>rw [z]at e2;cases e2
   |some j=>
    rw [z]at e1' e2;have hj:j∈idx:=mem_of_getElem? z;obtain⟨y,hy,k1,k2⟩:=F.cap j hj;have ex:y=x:=by have q:(X.N[j]?).getD Str.empty=x:=Option.some.inj e1';rw [hy]at q;exact q
    subst ex
    have ev:σ[j]? =some (some v):=by
     have q:(σ[j]?).join=some v:=Option.some.inj e2
     cases w':σ[j]? with
     |none=>rw [w']at q;cases q
     |some a=>rw [w']at q;have q':a=some v:=q;rw [q']
    obtain⟨m0,hn0,hl0⟩:=I.loc;have vis:Vis X.env.scope y:=k1.elim (λz=>.inr (.inl z)) λz=>.inr (.inr z);obtain⟨u,r,l⟩:=hl0 j y v hy ev vis;refine⟨u,r,?_⟩;rcases l with⟨kl,_⟩|⟨_,c,hc,q⟩
    ·have kl':X.env.scope.names.lookup y=some .local:=kl;rcases k1 with z|z<;>rw [z]at kl'<;>cases kl'
    ·have nc:(y,NameKind.cell)∉sc.names:=λz=>by have:=F.uni _ z;rw [k2]at this;cases this
     refine .inr ⟨zQE (osc:=X.env.scope) k2,c,?_,cellK c _ q⟩;show(clC X.env sc C).lookup y=some c;rw [yKG nc];exact yKI I F (PySem.mem_of_lookup k2) hc
 ·rcases cR e with z|z
  ·exact⟨none,hcl x c z⟩
  ·obtain⟨v,q⟩:=I.cell x c (wY I F z);exact⟨v,cellK c v q⟩
 ·rcases cR e with z|z
  ·exact I.hok.fresh (le_of_lt (zGM z hC))
  ·exact I.freeC x c (wY I F z)
 ·show(T.map (λ_=>(none:Option V))++zIS σ idx).length=(T++idx.map λi=>(X.N[i]?).getD Str.empty).length;rw [lA,lA,lM,lM,nI]
def zYA{σ1:St}{H':Hp}{s':Shared}{h':Heap}{D:Addr}{ys:List V}{its:Ae}{n:Nat}(I:Inv X pins σ H1 s₂)(hC:s₂.heap.objs.size<=C)(hfp: ∀b∈fp,zGJ X pins H1 b)
  (J:Inv (yC X sc T idx C s₂ H1 fp) [] σ1 H' s') (hs:Heap.SameBut C s'.heap h') (hD:s₂.heap.objs.size<=D) (hDC:D≠C) (eD:s'.heap.get? D=some {cls:=.type "list",data:=.seq its.toArray n}) (nD:H' D=none) (r:Vals ys its) (hz:ys.length<=sizeLine):
  Inv X pins σ (upd H' D (.lst ys)) {s' with heap:=h'}:=by
 have old: ∀b o,s₂.heap.get? b=some o->b≠C/\b≠D:=λb o e=>⟨ne_of_lt (lt_of_lt_of_le (Heap.lt_size e) hC),ne_of_lt (lt_of_lt_of_le (Heap.lt_size e) hD)⟩
 have oldH: ∀b u,H1 b=some u->b≠D:=λb u e=>ne_of_lt (lt_of_lt_of_le (I.hok.lt e) hD);have nC:H' C=none:=J.free;have B:Un (frs X.stack) fp H1 H' s₂.heap s'.heap:=J.base;have mv: ∀b o,b≠C->s'.heap.get? b=some o->h'.get? b=some o:=λb o hb e=>(hs.2 b hb).trans e;refine I.call' (s':={s' with heap:=h'}) (ch:=fp) J.os ⟨λb o e q hb hx=>?_,λb o e q hb hx=>?_,λb o e q hx=>?_,λb o e hx=>?_,λb xs e=>?_,λb o u e=>?_,λb ps e=>?_⟩ ?_ J.bare λb hb=>⟨(hfp b hb).2.2.2.1,(hfp b hb).2.1,(hfp b hb).2.2.2.2.1,(hfp b hb).2.2.2.2.2⟩
 ·exact mv b o (old b o e).1 (B.keep b o e q hb hx)
 ·obtain⟨sl,z⟩:=B.slot b o e q hb hx;exact⟨sl,mv b _ (old b o e).1 z⟩
 ·rw [zR (old b o e).2];exact B.free b o e q hx
 ·obtain⟨o',z⟩:=B.there b o e hx;exact⟨o',mv b o' (old b o e).1 z⟩
 ·rw [zR (oldH b _ e)];exact B.tups b xs e
 ·rw [zR (oldH b _ e)];exact B.frzs b o u e
 ·obtain⟨more,z⟩:=B.tbls b ps e;exact⟨more,by rw [zR (oldH b _ e)];exact z⟩
 ·intro b u e;by_cases hb:b=D
  ·subst hb;rw [yR]at e;cases e;exact⟨hz,its,n,r,mv b _ hDC eD⟩
  ·rw [zR hb]at e;refine(J.hok b u e).stay (λc v hc q=>mv c v ?_ q) (λc q=>by rw [zR (zY q nD)];exact q) λc xs q=>by rw [zR (zY q nD)];exact q
   rcases hc with z|z
   ·rw [z];exact zY e nC
   ·exact zY z nC
end
section
variable{X:Cx}
def zOY{M:Model}{A:Around}{E:VP}{s:Shared}{scope:Scope}{globals:Addr}{closure:List (Str×Addr)}{qual:Str}{outer:Env}{Q:Env->Shared->Prop}
  (hQ:Q (newEnv scope s.heap.objs.size globals (cellsFrom (s.heap.objs.size+1) scope.names closure) qual none .none (some outer) builtinsNs) {s with heap:=pushCells (s.heap.push {cls:=.type "dict",data:=.dict #[]}) scope.names}):
  wpAny M A (newFunctionEnv scope globals closure [] qual none .none (some outer)) Q E s:=by
 simp only [newFunctionEnv,Option.isSome_some,if_true];refine wB0 (wpAny_alloc ?_);refine wB0 (wpAny_layCells _ (λname kind cells=>by cases hkc:kind==NameKind.cell<;>simp [hkc]) _ _ _ _ ?_);rw [show({s with heap:=s.heap.push {cls:=.type "dict",data:=.dict #[]}}:Shared).heap.objs.size=s.heap.objs.size+1 from Heap.size_push ..];simp only [forIn_nil];exact wB0 (wP0 (wP0 hQ))
def zUQ{elt tg iter:Expr}{ifs:Bd}{pos:Pos}{sc:Scope}{wi:TI}{g:TG}{tc:Addr->Shared->Hp->List Addr->TT}{te:Addr->Shared->Hp->List Addr->TE}(T:Ai)(idx:Ab)
  (hi:PI X tg iter wi) (hcalm:X.calm=true) (hB:zKM X.env.scope X.N sc idx=true)
  (hg: ∀C s₂ H1 fp,PG (yC X sc T idx C s₂ H1 fp) tg g)
  (hc: ∀C s₂ H1 fp,yDA (yC X sc T idx C s₂ H1 fp) ifs (tc C s₂ H1 fp))
  (he: ∀C s₂ H1 fp,PE (yC X sc T idx C s₂ H1 fp) elt (te C s₂ H1 fp))
  (hs: ∀x,foldedSetIterable iter X.env x=pure x:=by intro _;rfl)
  {pins:Ba} {s:Shared} {σ:St} {H:Hp} {Q:VK} {use:Option (Value->Sem Unit)} {Q':VP} (I:Inv X pins σ H s) (h:yFZ wi g tc te T.length idx σ H Q)
  (fin: ∀(D C:Addr)(s4:Shared)(H':Hp)(r:_),(∀h',Heap.SameBut C s4.heap h'->Inv X pins σ H' {s4 with heap:=h'})->zGJ X pins H' C->(∃m,s4.heap.Ns C m)->Q (.ref D) H'->
   compPost (model X.prog X.w) X.A X.xe use Q' (.ref D) C (.ok r) s4):
  wpAny (model X.prog X.w) X.A (comprehension (.ListComp elt [⟨tg,iter,ifs,0⟩] sc pos) sc X.env (firstIterPos [⟨tg,iter,ifs,0⟩] pos) (newList []) false (eval iter X.env) use) Q' X.xe s:=by
 have cf:=yKH hB;refine wpAny_comprehension_free (use:=use) (cl:=zDG X.env sc.names []) rfl hs (zOX (zUP I cf)) cf.kind cf.locs ?_;refine thn (hi pins s σ H _ I h) λv s1 h1=>thn h1 λitv s2 h2=>?_;obtain⟨it,fp,tn,J,H2,e,I2,Tn,st2,f2,W,⟨m0,w0⟩,turn⟩:=h2;subst e;have hlt: ∀b∈fp,b<s2.heap.objs.size:=λb hb=>let ⟨o,e,_⟩:=Tn.obj _ _ st2 b hb;Heap.lt_size e;refine wpAny_newObj_type (zOY ?_);dsimp only;generalize hH2:s2.heap.push {cls:=.type "list",dict:=none,data:=.seq ([]:Ae).toArray}=HH;generalize hh1:pushCells (HH.push {cls:=.type "dict",data:=.dict #[]}) sc.names=h₁;have hns₁:h₁.Ns HH.objs.size (λ_=>none):=hh1▸(Heap.Ns.new HH (.type "dict")).keeps (pushCells_keeps _ _);have hC:HH.objs.size=s2.heap.objs.size+1:=by rw [<-hH2,Heap.size_push]
 have hDC:s2.heap.objs.size≠HH.objs.size:=by rw [hC];exact ne_of_lt (lt_succ_self _)
 have hCle:s2.heap.objs.size<=HH.objs.size:=by rw [hC];exact le_succ _
 have up1: ∀b o,HH.get? b=some o->h₁.get? b=some o:=λb o e=>hh1▸pushCells_keeps _ _ b o (hP0 _ e);have old: ∀b o,s2.heap.get? b=some o->h₁.get? b=some o:=λb o e=>up1 b o (hH2▸hP0 _ e);have eD0:h₁.get? s2.heap.objs.size=some {cls:=.type "list",data:=.seq ([]:Ae).toArray 0}:=up1 _ _ (hH2▸Heap.get?_push_size _ rfl);have hcl: ∀x c,(x,c)∈cellsFrom (HH.objs.size+1) sc.names []->h₁.IsCell c none:=λx c hm=>by have ok:=cellsFrom_ok sc.names (HH.push {cls:=.type "dict",data:=.dict #[]}) 0 [] ⟨λ_ _ hm=>(nomatch hm),List.Pairwise.nil⟩ (zero_le _);rw [Heap.size_push,hh1]at ok;exact(ok.empty x c hm).1
 have nD0:H2 s2.heap.objs.size=none:=I2.hok.fresh (le_refl _)
 have cD: ∀x c,(clC X.env sc HH.objs.size).lookup x=some c->c≠s2.heap.objs.size:=λx c e=>by
  rcases cR e with z|z
  ·exact ne_of_gt (zGM z hCle)
  ·obtain⟨v,q⟩:=I2.cell x c (wY I2 cf z);exact ne_of_lt q.lt
 have loop: ∀s4:Shared,s4={s2 with heap:=h₁}->
   codeAny (model X.prog X.w) X.A (.compLoop (.ListComp elt [⟨tg,iter,ifs,0⟩] sc pos) 0 (.ref it) (.ref s2.heap.objs.size) (compEnvC sc (clC X.env sc HH.objs.size) HH.objs.size X.env))
    (compPost (model X.prog X.w) X.A X.xe use Q' (.ref s2.heap.objs.size) HH.objs.size) s4:=by
  rintro s4 rfl
  have J0:Inv (yC X sc T idx HH.objs.size s2 H2 fp) [] (T.map (λ_=>none)++zIS σ idx) H2 {s2 with heap:=h₁}:=
   zXZ I2 cf hCle f2 hlt old rfl rfl hns₁ hcl
  refine zRP (λk s'=> ∃(i:Nat)(ys:List V)(its:Ae)(n:Nat)(H':Hp)(τ:St),Inv (yC X sc T idx HH.objs.size s2 H2 fp) [] (τ++zIS σ idx) H' s'/\τ.length=T.length/\tn i s'.heap/\(∀b∈fp,H' b=none)/\
   s'.heap.get? s2.heap.objs.size=some {cls:=.type "list",data:=.seq its.toArray n}/\H' s2.heap.objs.size=none/\Vals ys its/\W i k ys H') ?_ m0
   ⟨0,[],[],0,H2,T.map (λ_=>none),J0,by rw [lM],Tn.keep _ _ _ st2 λb _ o e=>old b o e,λb hb=>(f2 b hb).1,eD0,nD0,.nil,w0⟩
  rintro k s3 ⟨i,ys,its,n,H3,τ,I3,hτ,st3,fr3,eD3,nD3,r3,w3⟩;obtain⟨hz,alt⟩:=turn i k ys H3 w3;have hDfs:s2.heap.objs.size∉(yC X sc T idx HH.objs.size s2 H2 fp).fs:=λz=>by obtain⟨_,o,ho,_⟩:=I2.stack.mem (show s2.heap.objs.size∈frs X.stack from z);exact absurd (Heap.lt_size ho) (lt_irrefl _)
  have pinD: ∀{H':Hp}{s':Shared},s'.heap.get? s2.heap.objs.size=some {cls:=.type "list",data:=.seq its.toArray n}->H' s2.heap.objs.size=none->
    ∀p∈[(s2.heap.objs.size,({cls:=.type "list",data:=.seq its.toArray n}:Obj))],s'.heap.get? p.1=some p.2/\H' p.1=none/\p.1≠(yC X sc T idx HH.objs.size s2 H2 fp).env.locals/\p.1∉(yC X sc T idx HH.objs.size s2 H2 fp).fs/\ ∀v,p.2.data≠.cell v:=
   λ{H' s'} e1 e2 p hp=>by
    have ep:p=(s2.heap.objs.size,{cls:=.type "list",data:=.seq its.toArray n}):=by simpa using hp
    subst ep;exact⟨e1,e2,hDC,hDfs,λv z=>by cases z⟩
  have P3:Inv (yC X sc T idx HH.objs.size s2 H2 fp) [(s2.heap.objs.size,{cls:=.type "list",data:=.seq its.toArray n})] (τ++zIS σ idx) H3 s3:=I3.pins_of (pinD eD3 nD3)
  have stat: ∀{H':Hp},(∀b∈fp,H' b=none)-> ∀b∈fp,zGJ (yC X sc T idx HH.objs.size s2 H2 fp) [(s2.heap.objs.size,{cls:=.type "list",data:=.seq its.toArray n})] H' b:=λ{H'} hn b hb=>by
   have hb2:=hlt b hb;refine⟨hn b hb,ne_of_lt (lt_of_lt_of_le hb2 hCle),I3.ok.exfs b hb,.inl hb,λx c e=>?_,λp hp=>?_⟩
   ·rcases cR e with z|z
    ·exact ne_of_gt (lt_trans hb2 (zGM z hCle))
    ·exact(f2 b hb).2.2.2.2.1 x c (wY I2 cf z)
   have ep:p=(s2.heap.objs.size,({cls:=.type "list",data:=.seq its.toArray n}:Obj)):=by simpa [yC]using hp
   subst ep;exact ne_of_gt hb2
  rcases alt with⟨stop,q⟩|⟨go,hl2,step⟩
  ·refine thn (Tn.done (yC X sc T idx HH.objs.size s2 H2 fp) rfl rfl rfl hcalm i _ s3 _ H3 (λ_ _=>False) P3 (stat fr3) st3 stop) λr s4 ⟨hr,I4⟩=>?_;subst hr;obtain⟨m,hn,_⟩:=id I4.loc;have eD4:=(I4.pin (s2.heap.objs.size,{cls:=.type "list",data:=.seq its.toArray n}) (by simp)).1;exact fin _ _ s4 _ _ (λh' hs'=>zYA I2 hCle f2 (I4.pins_of (λp hp=>nomatch hp)) hs' (le_refl _) hDC eD4 nD3 r3 hz) (I2.fpOk hCle (by rw [zR (Ne.symm hDC)];exact I4.free)) ⟨m,hn⟩ (q _ nD3)
  ·refine thn (Tn.item (yC X sc T idx HH.objs.size s2 H2 fp) rfl rfl rfl hcalm i _ s3 _ H3 (λ_ _=>False) P3 (stat fr3) st3 go) λr s4 ⟨u,hr,h4⟩=>?_;subst hr;refine thn h4 λ_ s5 ⟨x,H5,I5,r5,y5,st5,fr5⟩=>?_;have I5':=I5.pinned (stat fr5) (Tn.obj _ _ st5);refine thn (hg HH.objs.size s2 H2 fp _ s5 _ H5 x u _ I5' r5 (step x H5 y5 τ hτ)) λ_ s6 ⟨σ6,H6,I6,⟨τ',e6,l6⟩,q6⟩=>?_;subst e6;refine thn (hc HH.objs.size s2 H2 fp _ s6 _ H6 _ I6 (q6 HH.objs.size s2 fp)) λok s7 ⟨H7,I7,q7⟩=>?_
   have mD:(s2.heap.objs.size,({cls:=.type "list",data:=.seq its.toArray n}:Obj))∈(yC X sc T idx HH.objs.size s2 H2 fp).pn++([(s2.heap.objs.size,{cls:=.type "list",data:=.seq its.toArray n})]++zIQ fp s5.heap):=
    mem_append_right _ (mem_append_left _ (by simp))
   have mF: ∀b∈fp, ∀o,s5.heap.get? b=some o->(b,o)∈(yC X sc T idx HH.objs.size s2 H2 fp).pn++([(s2.heap.objs.size,{cls:=.type "list",data:=.seq its.toArray n})]++zIQ fp s5.heap):=λb hb o e=>
    mem_append_right _ (mem_append_right _ (zGK hb e))
   cases ok with
   |false=>
    rw [iN xF0]at q7 ⊢;obtain⟨m',hm',w7⟩:=q7;refine⟨m',hm',i+1,ys,its,n,H7,τ',I7.pins_of (λp hp=>nomatch hp),l6,Tn.keep _ _ _ st5 λb hb o e=>(I7.pin _ (mF b hb o e)).1,λb hb=>?_,(I7.pin _ mD).1,(I7.pin _ mD).2.1,r3,w7⟩;obtain⟨o,e,d⟩:=Tn.obj _ _ st5 b hb;exact(I7.pin _ (mF b hb o e)).2.1
   |true=>
    rw [iP rfl]at q7 ⊢;refine thn (he HH.objs.size s2 H2 fp _ s7 _ H7 _ I7 q7) λy s8 ⟨yv,H8,I8,r8,m',hm',w8⟩=>?_;have eD8:=(I8.pin _ mD).1;have nD8:=(I8.pin _ mD).2.1;have hl:=r3.length;have q:=PySem.IsL.update eD8 (λz=>z.push y);rw [show its.toArray.push y=(its++[y]).toArray by simp]at q;refine call_meets PySem.F.slot_list_append ⟨_,eD8,rfl⟩ PySem.F.entry_list_append (PySem.F.args_list_append_2 _ _) (PySem.list_append s2.heap.objs.size its.toArray n y (by rw [sA];omega)) ⟨eD8,?_⟩;have I9:Inv (yC X sc T idx HH.objs.size s2 H2 fp) [] (τ'++zIS σ idx) H8 s8:=I8.pins_of (λp hp=>nomatch hp);have up: ∀b o,b≠s2.heap.objs.size->s8.heap.get? b=some o->(s8.heap.update s2.heap.objs.size (Obj.mapSeq λz=>z.push y)).get? b=some o:=λb o hb e=>(Heap.get?_update_other s8.heap _ (Ne.symm hb)).trans e;refine⟨m',hm',i+1,ys++[yv],its++[y],_,H8,τ',I9.turned (t':=s8.toks) up nD8 hDC (.inr (le_refl _)) cD (λp hp=>nomatch hp),l6,?_,λb hb=>?_,q,nD8,r3.append (.cons r8 .nil),w8⟩
    ·exact Tn.keep _ _ _ st5 λb hb o e=>up b o (ne_of_lt (hlt b hb)) (I8.pin _ (mF b hb o e)).1
    ·obtain⟨o,e,d⟩:=Tn.obj _ _ st5 b hb;exact(I8.pin _ (mF b hb o e)).2.1
 exact codeAny_compStart_list (loop _ rfl) (Tn.self X.A 0 _ _ _ (Tn.keep _ _ _ st2 λb _ o e=>old b o e) (loop _ rfl))
def yKJ{elt tg iter:Expr}{ifs:Bd}{pos:Pos}{sc:Scope}{wi:TI}{g:TG}{tc:Addr->Shared->Hp->List Addr->TT}{te:Addr->Shared->Hp->List Addr->TE}(T:Ai)(idx:Ab)
  (hi:PI X tg iter wi) (hcalm:X.calm=true) (hB:zKM X.env.scope X.N sc idx=true)
  (hg: ∀C s₂ H1 fp,PG (yC X sc T idx C s₂ H1 fp) tg g)
  (hc: ∀C s₂ H1 fp,yDA (yC X sc T idx C s₂ H1 fp) ifs (tc C s₂ H1 fp))
  (he: ∀C s₂ H1 fp,PE (yC X sc T idx C s₂ H1 fp) elt (te C s₂ H1 fp))
  (hs: ∀x,foldedSetIterable iter X.env x=pure x:=by intro _;rfl):
  PE X (.ListComp elt [⟨tg,iter,ifs,0⟩] sc pos) (yFZ wi g tc te T.length idx):=by
 intro pins s σ H Q I h;rw [eval_ListComp];exact zUQ T idx hi hcalm hB hg hc he hs (use:=none) I h λD C s4 H' r J _ ⟨m,hn⟩ q=>⟨m,hn,λh' hs'=>⟨.ref D,H',J h' hs',rfl,q⟩⟩
end
def mkS(x:Ab):Str:=⟨x.toArray⟩
def wZ(x:Ab):(mkS x).length=x.length:=by simp [mkS,Str.length]
def zBN(x:Ab):(mkS x).cps.toList=x:=by simp [mkS]
def zLG{x y:Ab}(h:mkS x=mkS y):x=y:=by have:=congrArg (λs=>s.cps.toList) h;simpa [mkS]using this
def yKK(x y:Ab):mkS x++mkS y=mkS (x++y):=by show Str.append (mkS x) (mkS y)=_;simp [Str.append,mkS]
theorem yKL(c:Nat):(⟨#[c]⟩:Str)=mkS [c]:=rfl
def wG{α:Type}(xs:List α)(lo hi:Bc):List α:=(xs.drop (HT.sIx xs.length 0 lo)).take (HT.sIx xs.length xs.length hi - HT.sIx xs.length 0 lo)
theorem strIdx(lo hi:Bc)(n:Nat):Builtin.Str.strSliceIndices lo hi 1 n=(List.range (HT.sIx n n hi - HT.sIx n 0 lo)).map (HT.sIx n 0 lo+·):=by
 have e1:(match lo with |none=>(if(1:Int)>0 then(0:Int)else(n:Int) - 1)|some i=>if(1:Int)>0 then max 0 (min (if i<0 then i+(n:Int)else i) (n:Int))else max (-1) (min (if i<0 then i+(n:Int)else i) ((n:Int) - 1)))=((HT.sIx n 0 lo:Nat):Int):=by
  cases lo with
  |none=>simp [HT.sIx]
  |some i=>
   simp only [HT.sIx,show(1:Int)>0 by decide,if_true];by_cases h:i<0
   ·simp only [h,if_true];omega
   ·simp only [h,iF];omega
 have e2:(match hi with |none=>(if(1:Int)>0 then(n:Int)else -1)|some i=>if(1:Int)>0 then max 0 (min (if i<0 then i+(n:Int)else i) (n:Int))else max (-1) (min (if i<0 then i+(n:Int)else i) ((n:Int) - 1)))=((HT.sIx n n hi:Nat):Int):=by
  cases hi with
  |none=>simp [HT.sIx]
  |some i=>
   simp only [HT.sIx,show(1:Int)>0 by decide,if_true];by_cases h:i<0
   ·simp only [h,if_true];omega
   ·simp only [h,iF];omega
 rw [<-sliceRange_one];unfold Builtin.Str.strSliceIndices;dsimp only;rw [<-e1, <-e2];cases lo<;>cases hi<;>rfl
theorem yDC(x:Ab)(lo hi:Bc):Txt.slice (mkS x) lo hi=mkS (wG x lo hi):=by
 unfold Txt.slice;rw [strIdx,wZ];have hp:((List.range (HT.sIx x.length x.length hi - HT.sIx x.length 0 lo)).map (HT.sIx x.length 0 lo+·)).filterMap ((mkS x).cps[·]?)=wG x lo hi:=by have:=pick_run (mkS x).cps (HT.sIx x.length 0 lo) (HT.sIx x.length x.length hi - HT.sIx x.length 0 lo);rw [zBN]at this;exact this
 rw [hp];split
 ·rename_i hc;rw [aE]at hc;have hl:HT.sIx x.length x.length hi - HT.sIx x.length 0 lo=x.length:=by simpa using hc.2
  have h2:HT.sIx x.length x.length hi<=x.length:=HT.sIx_le _ _ (le_refl _) _;have h3:HT.sIx x.length 0 lo<=x.length:=HT.sIx_le _ _ (zero_le _) _;have e:HT.sIx x.length 0 lo=0:=by omega
  unfold wG;rw [hl,e];simp
 ·rfl
section
variable{X:Cx}
def rSlS:V->Option Int->Option Int->Hp->VK->Prop:=λx lo hi H Q=> ∃cs,x=.str (mkS cs)/\cs.length<=sizeLine/\Q (.str (mkS (wG cs lo hi))) H
def yQA:SlR X rSlS:=by
 intro pins s σ H x v vl vu lo hi sl Q I rx hs pl pu h;obtain⟨cs,rfl,hz,q⟩:=h;obtain⟨t,rfl⟩:=rx;have hl:(Txt.slice (mkS cs) lo hi).length<=sizeLine:=le_trans (Txt.slice_le _ _ _) (by rw [wZ];exact hz);rw [<-yDC]at q;refine⟨"str",_,slot_str_getitem.lookup,typeIs_str _ _ _,?_⟩;obtain⟨o,ho,hc,hd⟩:=hs
 cases pl with
 |none=>
  cases pu with
  |none=>exact wpAny_getItem_str_slice (l:=none) (u:=none) (st:=none) ⟨o,ho,hc,hd⟩ rfl (post_val_or_str ⟨hl,λt' k=>⟨.str _,H,I.tok _,⟨_,rfl⟩,q⟩⟩)
  |int j uj=>exact wpAny_getItem_str_slice (l:=none) (u:=some (j,uj)) (st:=none) ⟨o,ho,hc,hd⟩ rfl (post_val_or_str ⟨hl,λt' k=>⟨.str _,H,I.tok _,⟨_,rfl⟩,q⟩⟩)
 |int i ui=>
  cases pu with
  |none=>exact wpAny_getItem_str_slice (l:=some (i,ui)) (u:=none) (st:=none) ⟨o,ho,hc,hd⟩ rfl (post_val_or_str ⟨hl,λt' k=>⟨.str _,H,I.tok _,⟨_,rfl⟩,q⟩⟩)
  |int j uj=>exact wpAny_getItem_str_slice (l:=some (i,ui)) (u:=some (j,uj)) (st:=none) ⟨o,ho,hc,hd⟩ rfl (post_val_or_str ⟨hl,λt' k=>⟨.str _,H,I.tok _,⟨_,rfl⟩,q⟩⟩)
def zMA(cs:Ab)(k:Int):List Nat:=(List.replicate k.toNat cs).flatten
theorem zIT(cs:Ab): ∀(k:Nat)(acc:Ab),List.foldl (λx1 x2=>x1++x2) acc.toArray (List.replicate k cs.toArray)=(acc++(List.replicate k cs).flatten).toArray
 |0,acc=>by simp
 |k+1,acc=>by rw [replicate_succ,foldl_cons,replicate_succ,flatten_cons, <-aA, <-zIT cs k (acc++cs)];simp
def zYB:OpR X (binaryOp .Mult) (λx y H Q=> ∃cs k,x=.str (mkS cs)/\y=.int k/\0<=k/\k<1000/\cs.length<=1000/\Q (.str (mkS (zMA cs k))) H):=by
 intro pins s σ H x y v u Q I rx ry h;obtain⟨cs,k,rfl,rfl,h0,h1,hc,q⟩:=h;obtain⟨t,rfl⟩:=rx;obtain⟨t',rfl⟩:=ry;have hs:sizeLine=16777216:=sizeLine_eq;have hprod:cs.length * k.toNat<=1000 * 1000:=mul_le_mul hc (by omega);have e: ∀b,Q (.str b) H->b=mkS (zMA cs k)->True:=λ_ _ _=>trivial;refine PySem.P.mul_str (by rw [dF0 (by omega),dF0 (by omega)];rfl) (λh2 _=>?_) (λ_ _=>?_) ?_
 ·rw [wZ];have hk:1<=k:=by omega
  have:(1000:Int)<=(2 ^ 63 - 1) / k:=by rw [Int.le_ediv_iff_mul_le (by omega)];omega
  omega
 ·rw [wZ];unfold PySem.Builtin.Str.tooLong;exact dF0 (by omega)
 ·have made: ∀(z:Str),z=mkS (zMA cs k)->z.length<=sizeLine->(Made.str z).post (EP X pins σ Q) s:=λz ez hz=>⟨hz,by rw [ez];exact⟨.str _,H,I.tok _,⟨_,rfl⟩,q⟩⟩
  have hlen:(zMA cs k).length=k.toNat * cs.length:=by unfold zMA;rw [len_rep]
  by_cases hn:k<1
  ·rw [iP hn];have hk:k.toNat=0:=by omega
   refine made _ ?_ (by decide);unfold zMA;rw [hk];rfl
  ·rw [iN hn];by_cases h3:(k==1 || (mkS cs).length==0)=true
   ·rw [iP h3];refine⟨.str (mkS cs),H,I,⟨_,rfl⟩,?_⟩
    have:zMA cs k=cs:=by
     unfold zMA;rw [or_eq_true]at h3;rcases h3 with h3|h3
     ·have:k=1:=by simpa using h3
      subst this;simp
     ·rw [wZ]at h3;have:cs=[]:=by cases cs with |nil=>rfl|cons _ _=>simp at h3
      subst this;simp
    rw [this]at q;exact q
   ·rw [iN h3];refine made _ ?_ ?_
    ·unfold zMA mkS;have:=zIT cs k.toNat [];rw [nil_append]at this;exact congrArg Str.mk this
    ·have e3:(List.foldl (λx1 x2=>x1++x2) #[] (List.replicate k.toNat (mkS cs).cps))=(zMA cs k).toArray:=by have:=zIT cs k.toNat [];rw [nil_append]at this;exact this
     show(List.foldl (λx1 x2=>x1++x2) #[] (List.replicate k.toNat (mkS cs).cps)).size<=sizeLine;rw [e3,sA,hlen,Nat.mul_comm];omega
def zRQ:CallR X (.builtin "all") (λxs H Q=> ∃(a:Addr)(bs:Bb),xs=[.ref a]/\SqL X.K H a (bs.map V.bl)/\X.calm=true/\Q (.bl (bs.all id)) H):=by
 intro pins s σ H xs us Q I r h;obtain⟨a,bs,rfl,hq,hc,q⟩:=h;obtain⟨u,rfl,ru⟩:=vals1 r;cases ru;obtain⟨its,rv,pl,hz⟩:=I.list hq;have hlen:its.length=bs.length:=by rw [<-rv.length,lM]
 refine PySem.call_all_walk (wpAny_pyIter_list pl.isList ?_);have hI:a≠s.heap.objs.size:=by obtain⟨o,ho,_⟩:=pl.isList;exact ne_of_lt (Heap.lt_size ho)
 have I1: ∀(h':Heap)(tk:Nat),(∀b o,b∉[s.heap.objs.size]->(s.heap.push {cls:=.type "list_iterator",data:=.fields #[.ref a,.int 0 0]}).get? b=some o->h'.get? b=some o)->Inv X pins σ H {s with heap:=h',toks:=tk}:=λh' tk k=>
  I.kept λb o e=>k b o (by simpa using ne_of_lt (Heap.lt_size e)) (hP0 _ e)
 refine⟨s.heap.objs.size,[s.heap.objs.size,a],[s.heap.objs.size],its.toArray.size,_,_,λi=>bs.getD i false,rfl,PySem.Walks.list (by first |exact I.ok.hd hc|exact(show X.A.in1.handled=none from I.ok.hd hc)) _ a hI its.toArray,⟨⟨_,Heap.get?_push_size _ rfl,rfl,rfl⟩,pl.isList.at λo e=>hP0 _ e⟩,?_,λh' tk k=>?_⟩
 ·intro i v s' Q' E' hv hQ';have hv':its[i]? =some v:=by simpa using hv
  have hi:i<bs.length:=by rw [<-hlen];exact(gS0.mp hv').1
  have hb:(bs.map V.bl)[i]? =some (V.bl (bs.getD i false)):=by rw [getElem?_map,gE0 hi];simp [getD_eq_getElem?_getD,hi]
  obtain⟨u',hu',rv'⟩:=rv.get hb;rw [hv']at hu';cases hu';cases rv';exact wpAny_truthy_bool hQ'
 ·refine⟨.bl (bs.all id),H,I1 h' tk k,?_,q⟩;show Value.bool _=Value.bool _;congr 1;rw [sA,hlen]
  have: ∀(l:Bb),(List.range l.length).all (λi=>l.getD i false)=l.all id:=by
   intro l;rw [Bool.eq_iff_iff,all_eq_true,all_eq_true];constructor
   ·intro h x hx;obtain⟨i,hi,rfl⟩:=getElem_of_mem hx;have:=h i (mem_range.mpr hi);simpa [getD_eq_getElem?_getD,hi]using this
   ·intro h i hi;have hi':=mem_range.mp hi;have:=h l[i] (getElem_mem hi');simpa [getD_eq_getElem?_getD,hi']using this
  exact this bs
end
section
variable{X:Cx}
def PU(X:Cx)(e:Expr)(t:TE):Prop:= ∀(i:Nat)(x:Str)(pos' pos:Pos),X.N.Nodup->X.N[i]? =some x->Loc X.env.scope x->(X.fn x=true\/X.env.scope.names.lookup x=some .local)->
 swapsWith e (some (.Name x pos')) pos.line X.env=pure true->PS X (.Assign [.Name x pos'] e pos) (tAsg t (yFH i))
def yKM{elt tg iter:Expr}{ifs:Bd}{pos:Pos}{sc:Scope}{wi:TI}{g:TG}{tc:Addr->Shared->Hp->List Addr->TT}{te:Addr->Shared->Hp->List Addr->TE}(T:Ai)(idx:Ab)
  (hi:PI X tg iter wi) (hcalm:X.calm=true) (hB:zKM X.env.scope X.N sc idx=true)
  (hg: ∀C s₂ H1 fp,PG (yC X sc T idx C s₂ H1 fp) tg g)
  (hc: ∀C s₂ H1 fp,yDA (yC X sc T idx C s₂ H1 fp) ifs (tc C s₂ H1 fp))
  (he: ∀C s₂ H1 fp,PE (yC X sc T idx C s₂ H1 fp) elt (te C s₂ H1 fp))
  (hs: ∀x,foldedSetIterable iter X.env x=pure x:=by intro _;rfl):
  PU X (.ListComp elt [⟨tg,iter,ifs,0⟩] sc pos) (yFZ wi g tc te T.length idx):=by
 intro i x pos' spos hN hix hx hf hsw pins s σ H D I h;rw [exec_Assign_Name_used _ _ _ _ hsw];refine wB0 (wpAny_standAt (wB0 ?_));rw [arm_evalThenUse_ListComp];refine wB0 (thn (zUQ T idx hi hcalm hB hg hc he hs (use:=some (assign (.Name x pos') X.env)) (Q':=λ_ s'=> ∃σ' H',Inv X pins σ' H' s'/\D.nx σ' H') I h λDd C s4 H' _ J4 fo hm q=>?_) λ_ s' hq=>wP0 (wP0 hq));have I4:=J4 s4.heap (Heap.SameBut.refl _ _);refine wpAny_assign_Name (zPV I4 hN hix hx (show RelV (.ref Dd) (.ref Dd)from rfl) (λs' I' ⟨a,hs',ha⟩=>?_) hf);obtain⟨m,hm⟩:=hm
 have hCa:C≠a:=by
  rintro rfl;rcases ha with ha|ha
  ·exact fo.2.1 ha
  ·exact fo.2.2.2.2.1 x _ ha rfl
 refine⟨m,hm.sameBut hs' hCa,λh' hs''=>⟨_,H',?_,q⟩⟩;exact I'.turned (t':=s'.toks) (λb o hb e=>(hs''.2 b hb).trans e) fo.1 fo.2.1 fo.2.2.2.1 fo.2.2.2.2.1 fo.2.2.2.2.2
end
end L2
namespace L2
namespace M
open PySem PySem.Spec PyProof.Rows
def yQB{A:Around}{s:Shared}{y x:V}{u v:Value}(ry:RelV y u)(rx:RelV x v)(fy:wN y=true)(fx:wN x=true):SeqAt.RcAt A s u v (eqV y x):=by
 cases y with
 |non=>
  cases ry
  cases x with
  |non=>cases rx;exact SeqAt.RcAt.none_none
  |bl b=>cases rx;exact SeqAt.RcAt.none_bool b
  |int b=>obtain⟨t,rfl⟩:=rx;exact SeqAt.RcAt.none_int b t
  |str b=>obtain⟨t,rfl⟩:=rx;exact SeqAt.RcAt.none_str b t
  |_=>exact absurd (show false=true from fx) xF0
 |bl a=>
  cases ry
  cases x with
  |non=>cases rx;exact SeqAt.RcAt.bool_none a
  |bl b=>cases rx;exact SeqAt.RcAt.bool_bool a b
  |int b=>obtain⟨t,rfl⟩:=rx;exact SeqAt.RcAt.bool_int a b t
  |str b=>obtain⟨t,rfl⟩:=rx;exact SeqAt.RcAt.bool_str a b t
  |_=>exact absurd (show false=true from fx) xF0
 |int a=>
  obtain⟨t',rfl⟩:=ry
  cases x with
  |non=>cases rx;exact SeqAt.RcAt.int_none a t'
  |bl b=>cases rx;exact SeqAt.RcAt.int_bool a t' b
  |int b=>obtain⟨t,rfl⟩:=rx;exact SeqAt.RcAt.int_int a t' b t
  |str b=>obtain⟨t,rfl⟩:=rx;exact SeqAt.RcAt.int_str a t' b t
  |_=>exact absurd (show false=true from fx) xF0
 |str a=>
  obtain⟨t',rfl⟩:=ry
  cases x with
  |non=>cases rx;exact SeqAt.RcAt.str_none a t'
  |bl b=>cases rx;exact SeqAt.RcAt.str_bool a t' b
  |int b=>obtain⟨t,rfl⟩:=rx;exact SeqAt.RcAt.str_int a t' b t
  |str b=>obtain⟨t,rfl⟩:=rx;exact SeqAt.RcAt.str_str a t' b t
  |_=>exact absurd (show false=true from fx) xF0
 |_=>exact absurd (show false=true from fy) xF0
def yQC{A:Around}{s:Shared}{y x:V}{u v:Value}(ry:RelV y u)(rx:RelV x v)(fy:wN y=true)(fx:wN x=true):SeqAt.RcNeAt A s u v (!eqV y x):=by
 cases y with
 |non=>
  cases ry
  cases x with
  |non=>cases rx;exact SeqAt.RcNeAt.none_none
  |bl b=>cases rx;exact SeqAt.RcNeAt.none_bool b
  |int b=>obtain⟨t,rfl⟩:=rx;exact SeqAt.RcNeAt.none_int b t
  |str b=>obtain⟨t,rfl⟩:=rx;exact SeqAt.RcNeAt.none_str b t
  |_=>exact absurd (show false=true from fx) xF0
 |bl a=>
  cases ry
  cases x with
  |non=>cases rx;exact SeqAt.RcNeAt.bool_none a
  |bl b=>cases rx;exact SeqAt.RcNeAt.bool_bool a b
  |int b=>obtain⟨t,rfl⟩:=rx;exact SeqAt.RcNeAt.bool_int a b t
  |str b=>obtain⟨t,rfl⟩:=rx;exact SeqAt.RcNeAt.bool_str a b t
  |_=>exact absurd (show false=true from fx) xF0
 |int a=>
  obtain⟨t',rfl⟩:=ry
  cases x with
  |non=>cases rx;exact SeqAt.RcNeAt.int_none a t'
  |bl b=>cases rx;exact SeqAt.RcNeAt.int_bool a t' b
  |int b=>obtain⟨t,rfl⟩:=rx;exact SeqAt.RcNeAt.int_int a t' b t
  |str b=>obtain⟨t,rfl⟩:=rx;exact SeqAt.RcNeAt.int_str a t' b t
  |_=>exact absurd (show false=true from fx) xF0
 |str a=>
  obtain⟨t',rfl⟩:=ry
  cases x with
  |non=>cases rx;exact SeqAt.RcNeAt.str_none a t'
  |bl b=>cases rx;exact SeqAt.RcNeAt.str_bool a t' b
  |int b=>obtain⟨t,rfl⟩:=rx;exact SeqAt.RcNeAt.str_int a t' b t
  |str b=>obtain⟨t,rfl⟩:=rx;exact SeqAt.RcNeAt.str_str a t' b t
  |_=>exact absurd (show false=true from fx) xF0
 |_=>exact absurd (show false=true from fy) xF0
def eq_ll{A:Around}{s:Shared}{x:V}{v:Value}{l:Addr}{items:Ag}(rx:RelV x v)(fx:wN x=true)(hl:s.heap.IsList l items)(hu:A.units<cLine):SeqAt.EqAt A s (.ref l) v false:=by
 cases x with
 |non=>cases rx;exact SeqAt.EqAt.list_none hl hu
 |bl b=>cases rx;exact SeqAt.EqAt.list_bool b hl hu
 |int b=>obtain⟨t,rfl⟩:=rx;exact SeqAt.EqAt.list_int b t hl hu
 |str b=>obtain⟨t,rfl⟩:=rx;exact SeqAt.EqAt.list_str b t hl hu
 |_=>exact absurd (show false=true from fx) xF0
def eq_lr{A:Around}{s:Shared}{x:V}{v:Value}{l:Addr}{items:Ag}(rx:RelV x v)(fx:wN x=true)(hl:s.heap.IsList l items)(hu:A.units<cLine):SeqAt.EqAt A s v (.ref l) false:=by
 cases x with
 |non=>cases rx;exact SeqAt.EqAt.none_list hl hu
 |bl b=>cases rx;exact SeqAt.EqAt.bool_list b hl hu
 |int b=>obtain⟨t,rfl⟩:=rx;exact SeqAt.EqAt.int_list b t hl hu
 |str b=>obtain⟨t,rfl⟩:=rx;exact SeqAt.EqAt.str_list b t hl hu
 |_=>exact absurd (show false=true from fx) xF0
def eq_tl{A:Around}{s:Shared}{x:V}{v:Value}{l:Addr}{items:Ag}(rx:RelV x v)(fx:wN x=true)(hl:s.heap.IsTuple l items)(hu:A.units<cLine):SeqAt.EqAt A s (.ref l) v false:=by
 cases x with
 |non=>cases rx;exact SeqAt.EqAt.tuple_none hl hu
 |bl b=>cases rx;exact SeqAt.EqAt.tuple_bool b hl hu
 |int b=>obtain⟨t,rfl⟩:=rx;exact SeqAt.EqAt.tuple_int b t hl hu
 |str b=>obtain⟨t,rfl⟩:=rx;exact SeqAt.EqAt.tuple_str b t hl hu
 |_=>exact absurd (show false=true from fx) xF0
def eq_tr{A:Around}{s:Shared}{x:V}{v:Value}{l:Addr}{items:Ag}(rx:RelV x v)(fx:wN x=true)(hl:s.heap.IsTuple l items)(hu:A.units<cLine):SeqAt.EqAt A s v (.ref l) false:=by
 cases x with
 |non=>cases rx;exact SeqAt.EqAt.none_tuple hl hu
 |bl b=>cases rx;exact SeqAt.EqAt.bool_tuple b hl hu
 |int b=>obtain⟨t,rfl⟩:=rx;exact SeqAt.EqAt.int_tuple b t hl hu
 |str b=>obtain⟨t,rfl⟩:=rx;exact SeqAt.EqAt.str_tuple b t hl hu
 |_=>exact absurd (show false=true from fx) xF0
def rc_ll{A:Around}{s:Shared}{x:V}{v:Value}{l:Addr}{items:Ag}(rx:RelV x v)(fx:wN x=true)(hl:s.heap.IsList l items)(hu:A.units<cLine):SeqAt.RcAt A s (.ref l) v false:=by
 cases x with
 |non=>cases rx;exact SeqAt.RcAt.list_none hl hu
 |bl b=>cases rx;exact SeqAt.RcAt.list_bool b hl hu
 |int b=>obtain⟨t,rfl⟩:=rx;exact SeqAt.RcAt.list_int b t hl hu
 |str b=>obtain⟨t,rfl⟩:=rx;exact SeqAt.RcAt.list_str b t hl hu
 |_=>exact absurd (show false=true from fx) xF0
def rc_lr{A:Around}{s:Shared}{x:V}{v:Value}{l:Addr}{items:Ag}(rx:RelV x v)(fx:wN x=true)(hl:s.heap.IsList l items)(hu:A.units<cLine):SeqAt.RcAt A s v (.ref l) false:=by
 cases x with
 |non=>cases rx;exact SeqAt.RcAt.none_list hl hu
 |bl b=>cases rx;exact SeqAt.RcAt.bool_list b hl hu
 |int b=>obtain⟨t,rfl⟩:=rx;exact SeqAt.RcAt.int_list b t hl hu
 |str b=>obtain⟨t,rfl⟩:=rx;exact SeqAt.RcAt.str_list b t hl hu
 |_=>exact absurd (show false=true from fx) xF0
def rc_tl{A:Around}{s:Shared}{x:V}{v:Value}{l:Addr}{items:Ag}(rx:RelV x v)(fx:wN x=true)(hl:s.heap.IsTuple l items)(hu:A.units<cLine):SeqAt.RcAt A s (.ref l) v false:=by
 cases x with
 |non=>cases rx;exact SeqAt.RcAt.tuple_none hl hu
 |bl b=>cases rx;exact SeqAt.RcAt.tuple_bool b hl hu
 |int b=>obtain⟨t,rfl⟩:=rx;exact SeqAt.RcAt.tuple_int b t hl hu
 |str b=>obtain⟨t,rfl⟩:=rx;exact SeqAt.RcAt.tuple_str b t hl hu
 |_=>exact absurd (show false=true from fx) xF0
def rc_tr{A:Around}{s:Shared}{x:V}{v:Value}{l:Addr}{items:Ag}(rx:RelV x v)(fx:wN x=true)(hl:s.heap.IsTuple l items)(hu:A.units<cLine):SeqAt.RcAt A s v (.ref l) false:=by
 cases x with
 |non=>cases rx;exact SeqAt.RcAt.none_tuple hl hu
 |bl b=>cases rx;exact SeqAt.RcAt.bool_tuple b hl hu
 |int b=>obtain⟨t,rfl⟩:=rx;exact SeqAt.RcAt.int_tuple b t hl hu
 |str b=>obtain⟨t,rfl⟩:=rx;exact SeqAt.RcAt.str_tuple b t hl hu
 |_=>exact absurd (show false=true from fx) xF0
def rn_ll{A:Around}{s:Shared}{x:V}{v:Value}{l:Addr}{items:Ag}(rx:RelV x v)(fx:wN x=true)(hl:s.heap.IsList l items)(hu:A.units<cLine):SeqAt.RcNeAt A s (.ref l) v true:=by
 cases x with
 |non=>cases rx;exact SeqAt.RcNeAt.list_none hl hu
 |bl b=>cases rx;exact SeqAt.RcNeAt.list_bool b hl hu
 |int b=>obtain⟨t,rfl⟩:=rx;exact SeqAt.RcNeAt.list_int b t hl hu
 |str b=>obtain⟨t,rfl⟩:=rx;exact SeqAt.RcNeAt.list_str b t hl hu
 |_=>exact absurd (show false=true from fx) xF0
def rn_lr{A:Around}{s:Shared}{x:V}{v:Value}{l:Addr}{items:Ag}(rx:RelV x v)(fx:wN x=true)(hl:s.heap.IsList l items)(hu:A.units<cLine):SeqAt.RcNeAt A s v (.ref l) true:=by
 cases x with
 |non=>cases rx;exact SeqAt.RcNeAt.none_list hl hu
 |bl b=>cases rx;exact SeqAt.RcNeAt.bool_list b hl hu
 |int b=>obtain⟨t,rfl⟩:=rx;exact SeqAt.RcNeAt.int_list b t hl hu
 |str b=>obtain⟨t,rfl⟩:=rx;exact SeqAt.RcNeAt.str_list b t hl hu
 |_=>exact absurd (show false=true from fx) xF0
def rn_tl{A:Around}{s:Shared}{x:V}{v:Value}{l:Addr}{items:Ag}(rx:RelV x v)(fx:wN x=true)(hl:s.heap.IsTuple l items)(hu:A.units<cLine):SeqAt.RcNeAt A s (.ref l) v true:=by
 cases x with
 |non=>cases rx;exact SeqAt.RcNeAt.tuple_none hl hu
 |bl b=>cases rx;exact SeqAt.RcNeAt.tuple_bool b hl hu
 |int b=>obtain⟨t,rfl⟩:=rx;exact SeqAt.RcNeAt.tuple_int b t hl hu
 |str b=>obtain⟨t,rfl⟩:=rx;exact SeqAt.RcNeAt.tuple_str b t hl hu
 |_=>exact absurd (show false=true from fx) xF0
def rn_tr{A:Around}{s:Shared}{x:V}{v:Value}{l:Addr}{items:Ag}(rx:RelV x v)(fx:wN x=true)(hl:s.heap.IsTuple l items)(hu:A.units<cLine):SeqAt.RcNeAt A s v (.ref l) true:=by
 cases x with
 |non=>cases rx;exact SeqAt.RcNeAt.none_tuple hl hu
 |bl b=>cases rx;exact SeqAt.RcNeAt.bool_tuple b hl hu
 |int b=>obtain⟨t,rfl⟩:=rx;exact SeqAt.RcNeAt.int_tuple b t hl hu
 |str b=>obtain⟨t,rfl⟩:=rx;exact SeqAt.RcNeAt.str_tuple b t hl hu
 |_=>exact absurd (show false=true from fx) xF0
def yGD{y:V}(h:wN y=true):eqV y y=true:=by cases y<;>first |rfl|(simp [eqV];done)|exact absurd (show false=true from h) xF0
section
variable{prog:Program}{w:World}(knd:KeyKind prog w Key)




variable{knd}


end
section
variable{prog:Program}{w:World}
abbrev mk(prog:Program)(w:World):KeyKind prog w Key:=wA prog w
end
end M
end L2
namespace L2
open PySem PySem.Spec PyProof.Rows
def Fly(h:Heap)(e T:Addr)(cls:Value)(d:Option Addr)(fl:Value):Prop:=
 ∃oe vs oT ts,h.get? e=some oe/\oe.cls=cls/\oe.dict=d/\oe.data=.fields vs/\vs[1]? =some (.ref T)/\T≠e/\h.get? T=some oT/\oT.data=.fields ts/\ts[3]? =some fl
structure Mvd(fs:Ah)(e T:Addr)(h h':Heap):Prop where
 keep: ∀b o,b≠e->b≠T->b∉fs->h.get? b=some o->h'.get? b=some o
 slot: ∀b o,b≠e->b≠T->h.get? b=some o-> ∃sl,h'.get? b=some {o with slots:=sl}
 there: ∀b o,h.get? b=some o-> ∃o',h'.get? b=some o'
def Mvd.new{fs:Ah}{e T T':Addr}{h h1 h2:Heap}(a:Mvd fs e T h h1)(n:h.get? T'=none)(b:Mvd fs e T' h1 h2):Mvd fs e T h h2:=by
 have ne: ∀c o,h.get? c=some o->c≠T':=λc o q z=>by rw [z,n]at q;cases q
 exact⟨λc o h1 h2 h3 q=>b.keep c o h1 (ne c o q) h3 (a.keep c o h1 h2 h3 q),λc o h1 h2 q=>by obtain⟨sl,e1⟩:=a.slot c o h1 h2 q;obtain⟨sl',e2⟩:=b.slot c _ h1 (ne c o q) e1;exact⟨sl',e2⟩,λc o q=>let ⟨o',e1⟩:=a.there c o q;b.there c o' e1⟩
def CXe(P:Program)(w:World):CXT:=λouter H s E x s'=> ∃e T C d H',x=.ref e/\s'.os=s.os/\AllBare s'.gens/\Un (frs outer) [] H H' s.heap s'.heap/\HOk P w H' s'.heap/\Fly s'.heap e T (.ref C) d .none/\
 s.heap.get? e=none/\s.heap.get? T=none/\H' e=none/\H' T=none/\E (.ref C) d H'
abbrev bmV:List Value:=[.type "ValueError",.type "Exception",.type "BaseException",.type "object"]
def qn:List Str:=["__class__","__getattribute__","__getattr__","__setattr__","place","number"]
end L2
namespace L2
namespace M
open PySem PySem.Spec PyProof.Rows
inductive MV where
 |non|bl (b:Bool)|int (i:Int)|str (x:Ab)|tup (ds:List MV)|scr (ds:List MV)|loc (l:Nat)|typ (n:String)|obj (c:Str) (ns:Ai) (ds:List MV)
abbrev Bh:=List MV
abbrev Bi:=Option MV
abbrev Ca:=List (Nat×List MV)
abbrev Cb:=List (MV×MV)
instance:Inhabited MV:=⟨.non⟩
inductive MO where
 |lst (ds:Bh)|dic (kvs:Cb)|ins (c:Str) (fs:List (Str×MV))
abbrev Sto:=List MO
def SqF(K:Be)(H:Hp)(a:Addr)(xs:List V):Prop:=
 (∃o,H a=some (.frz o (.lst xs)))\/
  ∃(o:Obj)(its:Ag)(n:Nat),K.lookup a=some o/\o.cls=.type "list"/\o.dict=none/\o.data=.seq its n/\its.size<=sizeLine/\Vals xs its.toList
def SqF.l{K:Be}{H:Hp}{a:Addr}{xs:List V}(h:SqF K H a xs):SqL K H a xs:=by
 rcases h with⟨o,h⟩|h
 ·exact .inl (.inr ⟨o,h⟩)
 ·exact .inr h
mutual
def Den(K:Be)(α:Ah)(H:Hp):MV->V->Prop
 |.non,v=>v=.non
 |.bl b,v=>v=.bl b
 |.int i,v=>v=.int i
 |.str x,v=>v=.str (mkS x)
 |.tup ds,v=> ∃a vs,v=.ref a/\SqT K H a vs/\DenL K α H ds vs
 |.scr ds,v=> ∃a vs,v=.ref a/\SqF K H a vs/\DenL K α H ds vs
 |.loc l,v=> ∃a,v=.ref a/\α[l]? =some a
 |.typ n,v=>v=.ty n
 |.obj c ns ds,v=> ∃a C dx vs o,v=.ref a/\H a=some (.frz o (.ins C dx (ns.zip vs)))/\PySem.W.nsIn K mainGlobals c=some (some (.ref C))/\(PySem.W.clsIn K C).map (·.name)=some c/\ns.length=vs.length/\DenL K α H ds vs
def DenL(K:Be)(α:Ah)(H:Hp):List MV->List V->Prop
 |[],vs=>vs=[]
 |d::ds,vs=> ∃v r,vs=v::r/\Den K α H d v/\DenL K α H ds r
end

structure Ex0(α:Ah)(H:Hp)(α':Ah)(H':Hp):Prop where
 pre: ∃t,α'=α++t
 tup: ∀b xs,H b=some (.tup xs)->H' b=some (.tup xs)
 frz: ∀b o u,H b=some (.frz o u)->H' b=some (.frz o u)
structure Ext(α:Ah)(H:Hp)(α':Ah)(H':Hp):Prop extends Ex0 α H α' H' where
 new: ∀b∈α',b∈α\/H b=none
 keep: ∀b o,H b=some o->b∉α->H' b=some o
 has: ∀b o,H b=some o-> ∃o',H' b=some o'
section
variable{K:Be}{α α' α'':Ah}{H H' H'':Hp}
def Ext.refl(α:Ah)(H:Hp):Ext α H α H:=⟨⟨⟨[],by simp⟩,λ_ _ h=>h,λ_ _ _ h=>h⟩,λb h=>.inl h,λ_ _ h _=>h,λ_ o h=>⟨o,h⟩⟩
def Ex0.grow(α t:Ah)(H:Hp):Ex0 α H (α++t) H:=⟨⟨t,rfl⟩,λ_ _ h=>h,λ_ _ _ h=>h⟩
def Ext.free(x:Ext α H α' H'){b:Addr}(h:H' b=none):H b=none:=by
 cases e:H b with
 |none=>rfl
 |some o=>obtain⟨o',h'⟩:=x.has b o e;rw [h]at h';cases h'
def Ext.out(x:Ext α H α' H'){b:Addr}{o:HO}(h:H b=some o)(n:b∉α):b∉α':=λz=>by
 rcases x.new b z with z|z
 ·exact n z
 ·rw [h]at z;cases z
def Ext.trans(x:Ext α H α' H')(y:Ext α' H' α'' H''):Ext α H α'' H'' where
 pre:=by obtain⟨t,rfl⟩:=x.pre;obtain⟨u,rfl⟩:=y.pre;exact⟨t++u,by rw [aA]⟩
 new:=λb h=>(y.new b h).elim (x.new b) λz=>.inr (x.free z)
 keep:=λb o h n=>y.keep b o (x.keep b o h n) (x.out h n)
 has:=λb o h=>let ⟨o',h'⟩:=x.has b o h;y.has b o' h'
 tup:=λb xs h=>y.tup b xs (x.tup b xs h)
 frz:=λb o u h=>y.frz b o u (x.frz b o u h)
def Ex0.at(x:Ex0 α H α' H'){l:Nat}{a:Addr}(h:α[l]? =some a):α'[l]? =some a:=by obtain⟨t,rfl⟩:=x.pre;rw [getElem?_append_left (gS0.mp h).1];exact h
def Ex0.sqT(x:Ex0 α H α' H'){a:Addr}{vs:List V}(q:SqT K H a vs):SqT K H' a vs:=by
 rcases q with(q|⟨o,q⟩)|q
 ·exact .inl (.inl (x.tup a vs q))
 ·exact .inl (.inr ⟨o,x.frz a o _ q⟩)
 ·exact .inr q
def Ex0.sqF(x:Ex0 α H α' H'){a:Addr}{vs:List V}(q:SqF K H a vs):SqF K H' a vs:=by
 rcases q with⟨o,q⟩|q
 ·exact .inl ⟨o,x.frz a o _ q⟩
 ·exact .inr q
mutual
theorem Den.ex0(x:Ex0 α H α' H'): ∀{d:MV}{v:V},Den K α H d v->Den K α' H' d v
 |.non,_,q=>by unfold Den at q ⊢; exact q
 |.bl _,_,q=>by unfold Den at q ⊢; exact q
 |.int _,_,q=>by unfold Den at q ⊢; exact q
 |.str _,_,q=>by unfold Den at q ⊢; exact q
 |.typ _,_,q=>by unfold Den at q ⊢; exact q
 |.obj c ns ds,_,q=>by unfold Den at q ⊢;obtain⟨a,C,dx,vs,o,e,h,hn,hc,hl,l⟩:=q;exact⟨a,C,dx,vs,o,e,x.frz a _ _ h,hn,hc,hl,DenL.ex0 x l⟩
 |.loc _,_,q=>by unfold Den at q ⊢;obtain⟨a,e,h⟩:=q;exact⟨a,e,x.at h⟩
 |.tup ds,_,q=>by unfold Den at q ⊢;obtain⟨a,vs,e,s,l⟩:=q;exact⟨a,vs,e,x.sqT s,DenL.ex0 x l⟩
 |.scr ds,_,q=>by unfold Den at q ⊢;obtain⟨a,vs,e,s,l⟩:=q;exact⟨a,vs,e,x.sqF s,DenL.ex0 x l⟩
theorem DenL.ex0(x:Ex0 α H α' H'): ∀{ds:Bh}{vs:List V},DenL K α H ds vs->DenL K α' H' ds vs
 |[],_,q=>by unfold DenL at q ⊢; exact q
 |d::ds,_,q=>by unfold DenL at q ⊢;obtain⟨v,r,e,a,l⟩:=q;exact⟨v,r,e,Den.ex0 x a,DenL.ex0 x l⟩
end

def Den.ext(x:Ext α H α' H'){d:MV}{v:V}(q:Den K α H d v):Den K α' H' d v:=q.ex0 x.toEx0
def DenL.ext(x:Ext α H α' H'){d:Bh}{v:List V}(q:DenL K α H d v):DenL K α' H' d v:=q.ex0 x.toEx0
theorem zLH:Den K α H .non .non:=by unfold Den;rfl
theorem kH(b:Bool):Den K α H (.bl b) (.bl b):=by unfold Den;rfl
theorem xF(i:Int):Den K α H (.int i) (.int i):=by unfold Den;rfl
theorem zBO(x:Ab):Den K α H (.str x) (.str (mkS x)):=by unfold Den;rfl
theorem yAE(n:String):Den K α H (.typ n) (.ty n):=by unfold Den;rfl
def zBP{ds:Bh}{a:Addr}{vs:List V}(s:SqT K H a vs)(l:DenL K α H ds vs):Den K α H (.tup ds) (.ref a):=by unfold Den;exact⟨a,vs,rfl,s,l⟩
def yAF{ds:Bh}{a:Addr}{vs:List V}(s:SqF K H a vs)(l:DenL K α H ds vs):Den K α H (.scr ds) (.ref a):=by unfold Den;exact⟨a,vs,rfl,s,l⟩
def zLI{l:Nat}{a:Addr}(h:α[l]? =some a):Den K α H (.loc l) (.ref a):=by unfold Den;exact⟨a,rfl,h⟩
def cS{v:V}(d:Den K α H .non v):v=.non:=by unfold Den at d;exact d
def zAQ{b:Bool}{v:V}(d:Den K α H (.bl b) v):v=.bl b:=by unfold Den at d;exact d
def yV{i:Int}{v:V}(d:Den K α H (.int i) v):v=.int i:=by unfold Den at d;exact d
def xG{x:Ab}{v:V}(d:Den K α H (.str x) v):v=.str (mkS x):=by unfold Den at d;exact d
def yAG{c:Str}{ns:Ai}{ds:Bh}{a C dx:Addr}{vs:List V}{o:Obj}(h:H a=some (.frz o (.ins C dx (ns.zip vs))))(hn:PySem.W.nsIn K mainGlobals c=some (some (.ref C)))(hc:(PySem.W.clsIn K C).map (·.name)=some c)(hl:ns.length=vs.length)(l:DenL K α H ds vs):Den K α H (.obj c ns ds) (.ref a):=by unfold Den;exact⟨a,C,dx,vs,o,rfl,h,hn,hc,hl,l⟩
def gF{c:Str}{ns:Ai}{ds:Bh}{v:V}(d:Den K α H (.obj c ns ds) v): ∃a C dx vs o,v=.ref a/\H a=some (.frz o (.ins C dx (ns.zip vs)))/\PySem.W.nsIn K mainGlobals c=some (some (.ref C))/\(PySem.W.clsIn K C).map (·.name)=some c/\ns.length=vs.length/\DenL K α H ds vs:=by unfold Den at d;exact d
def bR{n:String}{v:V}(d:Den K α H (.typ n) v):v=.ty n:=by unfold Den at d;exact d
def xC{ds:Bh}{v:V}(d:Den K α H (.tup ds) v): ∃a vs,v=.ref a/\SqT K H a vs/\DenL K α H ds vs:=by unfold Den at d;exact d
def gG{ds:Bh}{v:V}(d:Den K α H (.scr ds) v): ∃a vs,v=.ref a/\SqF K H a vs/\DenL K α H ds vs:=by unfold Den at d;exact d
def jM{l:Nat}{v:V}(d:Den K α H (.loc l) v): ∃a,v=.ref a/\α[l]? =some a:=by unfold Den at d;exact d
theorem yI:DenL K α H [] []:=by unfold DenL;rfl
def yB{d:MV}{v:V}{ds:Bh}{vs:List V}(a:Den K α H d v)(l:DenL K α H ds vs):DenL K α H (d::ds) (v::vs):=by unfold DenL;exact⟨v,vs,rfl,a,l⟩
def DenL.uncons{d:MV}{ds:Bh}{vs:List V}(l:DenL K α H (d::ds) vs): ∃v r,vs=v::r/\Den K α H d v/\DenL K α H ds r:=by unfold DenL at l;exact l
def DenL.isnil{vs:List V}(l:DenL K α H [] vs):vs=[]:=by unfold DenL at l;exact l
theorem DenL.length: ∀{ds:Bh}{vs:List V},DenL K α H ds vs->vs.length=ds.length
 |[],_,q=>by rw [q.isnil];rfl
 |d::ds,_,q=>by obtain⟨v,r,rfl,_,l⟩:=q.uncons;rw [lC,lC,DenL.length l]
theorem DenL.append: ∀{ds es:Bh}{vs us:List V},DenL K α H ds vs->DenL K α H es us->DenL K α H (ds++es) (vs++us)
 |[],_,_,_,q,l=>by rw [q.isnil];exact l
 |d::ds,_,_,_,q,l=>by obtain⟨v,r,rfl,a,l'⟩:=q.uncons;exact yB a (DenL.append l' l)
theorem DenL.drop: ∀{ds:Bh}{vs:List V}(n:Nat),DenL K α H ds vs->DenL K α H (ds.drop n) (vs.drop n)
 |_,_,0,q=>q
 |[],_,n+1,q=>by rw [q.isnil];exact yI
 |d::ds,_,n+1,q=>by obtain⟨v,r,rfl,_,l⟩:=q.uncons;exact DenL.drop n l
theorem DenL.take: ∀{ds:Bh}{vs:List V}(n:Nat),DenL K α H ds vs->DenL K α H (ds.take n) (vs.take n)
 |_,_,0,q=>yI
 |[],_,n+1,q=>by rw [q.isnil];exact yI
 |d::ds,_,n+1,q=>by obtain⟨v,r,rfl,a,l⟩:=q.uncons;exact yB a (DenL.take n l)
theorem DenL.reverse: ∀{ds:Bh}{vs:List V},DenL K α H ds vs->DenL K α H ds.reverse vs.reverse
 |[],_,q=>by rw [q.isnil];exact yI
 |d::ds,_,q=>by obtain⟨v,r,rfl,a,l⟩:=q.uncons;rw [reverse_cons,reverse_cons];exact(DenL.reverse l).append (yB a yI)
theorem DenL.set{d:MV}{v:V}(a:Den K α H d v): ∀{ds:Bh}{vs:List V}(n:Nat),DenL K α H ds vs->DenL K α H (ds.set n d) (vs.set n v)
 |[],_,_,q=>by rw [q.isnil];exact yI
 |e::ds,_,0,q=>by obtain⟨v',r,rfl,a',l⟩:=q.uncons;exact yB a l
 |e::ds,_,n+1,q=>by obtain⟨v',r,rfl,a',l⟩:=q.uncons;exact yB a' (DenL.set a n l)
theorem DenL.get: ∀{ds:Bh}{vs:List V}{i:Nat}{v:V},DenL K α H ds vs->vs[i]? =some v-> ∃d,ds[i]? =some d/\Den K α H d v
 |[],_,_,_,q,e=>by rw [q.isnil]at e;simp at e
 |d::ds,_,0,_,q,e=>by obtain⟨v,r,rfl,a,l⟩:=q.uncons;simp at e;subst e;exact⟨d,rfl,a⟩
 |d::ds,_,i+1,_,q,e=>by obtain⟨v,r,rfl,a,l⟩:=q.uncons;obtain⟨d',h1,h2⟩:=DenL.get (i:=i) l (by simpa using e);exact⟨d',by simpa using h1,h2⟩
def DenL.at{ds:Bh}{vs:List V}{i:Nat}{d:MV}(q:DenL K α H ds vs)(e:ds[i]? =some d): ∃v,vs[i]? =some v/\Den K α H d v:=by
 have hi:i<ds.length:=(gS0.mp e).1;have hv:i<vs.length:=by rw [q.length];exact hi
 obtain⟨d',h1,h2⟩:=q.get (gE0 hv);rw [e]at h1;cases h1;exact⟨_,gE0 hv,h2⟩
def DenL.cut{ds:Bh}{vs:List V}(q:DenL K α H ds vs)(lo hi:Bc):DenL K α H (wG ds lo hi) (zUN vs lo hi):=by unfold wG zUN;rw [q.length];exact(q.drop _).take _
theorem zFH: ∀(ns:Ad),DenL K α H (ns.map MV.int) (ns.map V.int)
 |[]=>yI
 |b::bs=>yB (xF b) (zFH bs)
end
structure Gm where
 K:PySem.W.Frag
 mg:Str->Option Value
 P:Program
 w:World
abbrev _root_.L2.Cx.g(X:Cx):Gm:=⟨X.K,X.mg,X.prog,X.w⟩
inductive DenF(K:Be)(α:Ah)(H:Hp):List (Str×MV)->List (Str×V)->Prop
 |nil:DenF K α H [] []
 |cons {x:Str} {d:MV} {v:V} {fs gs}:Den K α H d v->DenF K α H fs gs->DenF K α H ((x,d)::fs) ((x,v)::gs)
theorem DenF.ex0{K:Be}{α α':Ah}{H H':Hp}(x:Ex0 α H α' H'): ∀{fs gs},DenF K α H fs gs->DenF K α' H' fs gs
 |_,_,.nil=>.nil
 |_,_,.cons a l=>.cons (a.ex0 x) (DenF.ex0 x l)
def KeyD:MV->Key->Prop
 |.int i,k=>k=.inl i
 |.str x,k=>k=.inr (mkS x)
 |_,_=>False
inductive DenK(K:Be)(α:Ah)(H:Hp):List (MV×MV)->List (Key×V)->Prop
 |nil:DenK K α H [] []
 |cons {k:MV} {k':Key} {d:MV} {v:V} {fs gs}:KeyD k k'->Den K α H d v->DenK K α H fs gs->DenK K α H ((k,d)::fs) ((k',v)::gs)
theorem DenK.ex0{K:Be}{α α':Ah}{H H':Hp}(x:Ex0 α H α' H'): ∀{fs gs},DenK K α H fs gs->DenK K α' H' fs gs
 |_,_,.nil=>.nil
 |_,_,.cons k a l=>.cons k (a.ex0 x) (DenK.ex0 x l)

def ObD(g:Gm)(α:Ah)(H:Hp)(a:Addr):MO->Prop
 |.lst ds=> ∃vs,H a=some (.lst vs)/\DenL g.K α H ds vs
 |.dic kvs=>(∃ks,H a=some (.dK ks)/\DenK g.K α H kvs ks)\/False
 |.ins c fs=> ∃C gs,g.mg c=some (.ref C)/\DenF g.K α H fs gs/\
   ∃oe,H a=some (.ext λh=>h.get? a=some oe)/\oe.cls=.ref C/\(fs=[]\/ ∃dx od,oe.dict=some dx/\H dx=some (.frz od (.xd gs))/\ ∃vs,oe.data=.fields vs)
def ObD.there{g:Gm}{α:Ah}{H:Hp}{a:Addr}{o:MO}(h:ObD g α H a o): ∃ho,H a=some ho/\(∀xs,ho≠.tup xs)/\ ∀ob u,ho≠.frz ob u:=by
 cases o with
 |lst ds=>obtain⟨vs,h,_⟩:=h;exact⟨_,h,(λxs z=>by cases z),λ_ _ z=>by cases z⟩
 |dic ds=>
  rcases h with⟨vs,h,_⟩|z
  ·exact⟨_,h,(λxs z=>by cases z),λ_ _ z=>by cases z⟩
  ·exact False.elim z
 |ins c ds=>
  obtain⟨_,_,_,_,_,h,_⟩:=h;exact⟨_,h,(λxs z=>by cases z),λ_ _ z=>by cases z⟩
def ObD.move{g:Gm}{α α':Ah}{H H':Hp}{a:Addr}{o:MO}(h:ObD g α H a o)(x:Ex0 α H α' H')(e:H' a=H a):ObD g α' H' a o:=by
 cases o with
 |lst ds=>obtain⟨vs,h,l⟩:=h;exact⟨vs,e.trans h,l.ex0 x⟩
 |dic ds=>
  rcases h with⟨vs,h,l⟩|z
  ·exact .inl ⟨vs,e.trans h,l.ex0 x⟩
  ·exact False.elim z
 |ins c ds=>
  obtain⟨C,gs,m,l,oe,h,hc,hf⟩:=h;exact⟨C,gs,m,l.ex0 x,oe,e.trans h,hc,hf.imp id λ⟨dx,od,h1,h2,h3⟩=>⟨dx,od,h1,x.frz _ _ _ h2,h3⟩⟩
structure Wd(g:Gm)(α:Ah)(S:Sto)(H:Hp):Prop where
 len:α.length=S.length
 nd:α.Nodup
 obj: ∀(l:Nat)(a:Addr)(o:MO),α[l]? =some a->S[l]? =some o->ObD g α H a o
section
variable{g:Gm}{α α':Ah}{S S':Sto}{H H':Hp}
def Wd.at(w:Wd g α S H){l:Nat}{o:MO}(h:S[l]? =some o): ∃a,α[l]? =some a/\ObD g α H a o:=by
 have hl:l<α.length:=by rw [w.len];exact(gS0.mp h).1
 exact⟨α[l],gE0 hl,w.obj l _ o (gE0 hl) h⟩
def Wd.of(w:Wd g α S H){l:Nat}{a:Addr}(h:α[l]? =some a): ∃o,S[l]? =some o/\ObD g α H a o:=by
 have hl:l<S.length:=by rw [<-w.len];exact(gS0.mp h).1
 exact⟨S[l],gE0 hl,w.obj l a _ h (gE0 hl)⟩
def Wd.mem(w:Wd g α S H){a:Addr}(h:a∈α): ∃ho,H a=some ho/\(∀xs,ho≠.tup xs)/\ ∀ob u,ho≠.frz ob u:=by obtain⟨l,hl⟩:=getElem?_of_mem h;obtain⟨o,_,q⟩:=w.of hl;exact q.there
def Wd.newx(w:Wd g α S H){p:Addr}{o:HO}(hp:H p=none):Ext α H α (upd H p o) where
 pre:=⟨[],by simp⟩
 new:=λb h=>.inl h
 keep:=λb o h _=>by rw [zR (zY h hp)];exact h
 has:=λb o h=>⟨o,by rw [zR (zY h hp)];exact h⟩
 tup:=λb o h=>by rw [zR (zY h hp)];exact h
 frz:=λb o u h=>by rw [zR (zY h hp)];exact h
def Wd.fresh(w:Wd g α S H){p:Addr}(hp:H p=none):p∉α:=λz=>by obtain⟨_,h,_⟩:=w.mem z;rw [hp]at h;cases h
def Wd.new(w:Wd g α S H){p:Addr}{o:HO}(hp:H p=none):Wd g α S (upd H p o):=
 ⟨w.len,w.nd,λl a ob h1 h2=>(w.obj l a ob h1 h2).move (w.newx hp).toEx0 (zR λz=>w.fresh hp (by rw [<-z];exact mem_of_getElem? h1))⟩
def Wd.writex(w:Wd g α S H){l:Nat}{a:Addr}{o:HO}(h:α[l]? =some a):Ext α H α (upd H a o) where
 pre:=⟨[],by simp⟩
 new:=λb h=>.inl h
 keep:=λb o e n=>by rw [zR λz=>n (by rw [z];exact mem_of_getElem? h)];exact e
 has:=λb o e=>by
  by_cases z:b=a
  ·subst z;exact⟨_,yR⟩
  ·exact⟨o,by rw [zR z];exact e⟩
 tup:=λb xs e=>by obtain⟨ho,h1,h2,_⟩:=w.mem (mem_of_getElem? h);rw [zR λz=>h2 xs (by subst z;rw [e]at h1;exact(Option.some.inj h1).symm)];exact e
 frz:=λb ob u e=>by obtain⟨ho,h1,_,h2⟩:=w.mem (mem_of_getElem? h);rw [zR λz=>h2 ob u (by subst z;rw [e]at h1;exact(Option.some.inj h1).symm)];exact e
def Wd.ne(w:Wd g α S H){l m:Nat}{a b:Addr}(h:α[l]? =some a)(h':α[m]? =some b)(n:l≠m):a≠b:=by rintro rfl;obtain⟨h1,e1⟩:=gS0.mp h;obtain⟨h2,e2⟩:=gS0.mp h';exact n ((getElem_inj w.nd).mp (e1.trans e2.symm))
def Wd.write(w:Wd g α S H){l:Nat}{a:Addr}{o:HO}{ob:MO}(h:α[l]? =some a)(q:ObD g α (upd H a o) a ob):Wd g α (S.set l ob) (upd H a o) where
 len:=by rw [length_set];exact w.len
 nd:=w.nd
 obj:=λm b ob' h1 h2=>by
  by_cases e:l=m
  ·subst e;rw [h]at h1;have hl:l<S.length:=by rw [<-w.len];exact(gS0.mp h).1
   rw [getElem?_set_self hl]at h2;rw [<-Option.some.inj h1, <-Option.some.inj h2];exact q
  ·rw [getElem?_set_ne e]at h2;exact(w.obj m b ob' h1 h2).move (w.writex h).toEx0 (zR (w.ne h1 h λz=>e z.symm))
def Wd.enterx(w:Wd g α S H){H0:Hp}{α0:Ah}(x:Ext α0 H0 α H){b:Addr}(h0:H0 b=none)(n:b∉α):Ext α0 H0 (α++[b]) H where
 pre:=let ⟨t,e⟩:=x.pre;⟨t++[b],by rw [e,aA]⟩
 new:=λc hc=>(mem_append.mp hc).elim (x.new c) λz=>.inr (by rw [mS.mp z];exact h0)
 keep:=x.keep
 has:=x.has
 tup:=x.tup
 frz:=x.frz
def Wd.enter(w:Wd g α S H){b:Addr}{ds:Bh}{vs:List V}(h:H b=some (.lst vs))(n:b∉α)(l:DenL g.K α H ds vs):Wd g (α++[b]) (S++[.lst ds]) H where
 len:=by rw [lA,lA,w.len];rfl
 nd:=nodup_append.mpr ⟨w.nd,by simp,λa ha c hc=>by rw [mS.mp hc];rintro rfl;exact n ha⟩
 obj:=λm a o h1 h2=>by
  by_cases hm:m<α.length
  ·rw [getElem?_append_left hm]at h1;rw [getElem?_append_left (by rw [<-w.len];exact hm)]at h2;exact(w.obj m a o h1 h2).move (Ex0.grow α [b] H) rfl
  ·have hm':m=α.length:=by have:=(gS0.mp h1).1;rw [lA,lS]at this;omega
   subst hm';rw [getElem?_append_right (le_refl _),sub_self]at h1;rw [getElem?_append_right (by rw [w.len];exact le_refl _),w.len,sub_self]at h2;cases h1;cases h2;exact⟨vs,h,l.ex0 (Ex0.grow α [b] H)⟩
end
inductive R(β:Type) where
 |ok (b:β) (S:Sto)|exc (c:Str) (fs:List (Str×MV)) (S:Sto)|no
def R.bind{β γ:Type}:R β->(β->Sto->R γ)->R γ
 |.ok b S,k=>k b S
 |.exc c fs S,_=>.exc c fs S
 |.no,_=>.no
theorem R.bind_ok{β γ:Type}(b:β)(S:Sto)(k:β->Sto->R γ):(R.ok b S).bind k=k b S:=rfl
inductive Er where
 |val (d:MV)|new (ds:Bh)
instance:Inhabited Er:=⟨.val .non⟩
def DenX(K:Be)(α:Ah)(H:Hp):Er->V->Prop
 |.val d,v=>Den K α H d v
 |.new ds,v=> ∃b vs,v=.ref b/\H b=some (.lst vs)/\b∉α/\DenL K α H ds vs
def DenE(K:Be)(H:Hp)(α':Ah)(H':Hp)(r:Er)(v:V):Prop:=DenX K α' H' r v/\match r with |.new _=> ∀a,v=.ref a->H a=none|_=>True
section
variable{K:Be}{α α':Ah}{H H0 H':Hp}
def DenX.ext(x:Ext α H α' H'): ∀{r:Er}{v:V},DenX K α H r v->DenX K α' H' r v
 |.val d,_,q=>Den.ext x q
 |.new ds,_,⟨b,vs,e,h,n,l⟩=>⟨b,vs,e,x.keep b _ h n,x.out h n,l.ext x⟩
def DenE.val{d:MV}{v:V}(q:Den K α' H' d v):DenE K H α' H' (.val d) v:=⟨q,trivial⟩
def DenE.back(hf: ∀b,H b=none->H0 b=none){r:Er}{v:V}(q:DenE K H α' H' r v):DenE K H0 α' H' r v:=by
 refine⟨q.1,?_⟩
 cases r with
 |new ds=>exact λa e=>hf a (q.2 a e)
 |_=>trivial
def DenE.ext{α'':Ah}{H'':Hp}(x:Ext α' H' α'' H''){r:Er}{v:V}(q:DenE K H α' H' r v):DenE K H α'' H'' r v:=⟨q.1.ext x,q.2⟩
end
section
variable{K:Be}{α:Ah}{H:Hp}{v:V}
def zIU(d:DenX K α H (.val .non) v):v=.non:=cS (K:=K) (α:=α) (H:=H) d
def zDW{b:Bool}(d:DenX K α H (.val (.bl b)) v):v=.bl b:=zAQ (K:=K) (α:=α) (H:=H) d
def yW{b:Int}(d:DenX K α H (.val (.int b)) v):v=.int b:=yV (K:=K) (α:=α) (H:=H) d
def gH{b:Ab}(d:DenX K α H (.val (.str b)) v):v=.str (mkS b):=xG (K:=K) (α:=α) (H:=H) d
def yGE{b:String}(d:DenX K α H (.val (.typ b)) v):v=.ty b:=bR (K:=K) (α:=α) (H:=H) d
def zYC{c:Str}{ns:Ai}{ds:Bh}(d:DenX K α H (.val (.obj c ns ds)) v): ∃a C dx vs o,v=.ref a/\H a=some (.frz o (.ins C dx (ns.zip vs)))/\PySem.W.nsIn K mainGlobals c=some (some (.ref C))/\(PySem.W.clsIn K C).map (·.name)=some c/\ns.length=vs.length/\DenL K α H ds vs:=gF (K:=K) (α:=α) (H:=H) d
def bS{ds:Bh}(d:DenX K α H (.val (.tup ds)) v): ∃a vs,v=.ref a/\SqT K H a vs/\DenL K α H ds vs:=xC (K:=K) (α:=α) (H:=H) d
def zMB{ds:Bh}(d:DenX K α H (.val (.scr ds)) v): ∃a vs,v=.ref a/\SqF K H a vs/\DenL K α H ds vs:=gG (K:=K) (α:=α) (H:=H) d
def zBQ{l:Nat}(d:DenX K α H (.val (.loc l)) v): ∃a,v=.ref a/\α[l]? =some a:=jM (K:=K) (α:=α) (H:=H) d
end
def zGB:List Er->List V->List Addr
 |.new _::rs,.ref b::vs=>b::zGB rs vs
 |_::rs,_::vs=>zGB rs vs
 |_,_=>[]
inductive ArgsE(K:Be)(H:Hp)(α':Ah)(H':Hp):List Er->List V->Prop
 |nil:ArgsE K H α' H' [] []
 |cons {r v rs vs}:DenE K H α' H' r v->(∀ds b,r=.new ds->v=.ref b->b∉zGB rs vs)->ArgsE K H α' H' rs vs->ArgsE K H α' H' (r::rs) (v::vs)
theorem ArgsE.nones{K:Be}{H:Hp}{α':Ah}{H':Hp}: ∀{rs vs},ArgsE K H α' H' rs vs-> ∀b∈zGB rs vs,H b=none
 |_,_,.nil=>λb h=>by simp [zGB]at h
 |.val d::_,v::_,.cons a n l=>λb h=>ArgsE.nones l b (by simpa [zGB]using h)
 |.new ds::_,v::_,.cons a n l=>λb h=>by
  obtain⟨c,vs,rfl,_⟩:=a.1;rcases mC.mp (show b∈c::zGB _ _ from h)with rfl|h
  ·exact a.2 _ rfl
  ·exact ArgsE.nones l b h
theorem ArgsE.back{K:Be}{H H0:Hp}{α':Ah}{H':Hp}(hf: ∀b,H b=none->H0 b=none): ∀{rs vs},ArgsE K H α' H' rs vs->ArgsE K H0 α' H' rs vs
 |_,_,.nil=>.nil
 |_,_,.cons a n l=>.cons (a.back hf) n (ArgsE.back hf l)
theorem ArgsE.length{K:Be}{H:Hp}{α':Ah}{H':Hp}: ∀{rs vs},ArgsE K H α' H' rs vs->vs.length=rs.length
 |_,_,.nil=>rfl
 |_,_,.cons _ _ l=>by rw [lC,lC,ArgsE.length l]
class Dn (β:Type) (τ:outParam Type) where
 d:Gm->Hp->List Addr->Sto->Hp->β->τ->Prop
 back: ∀{g:Gm}{H H0:Hp}{α':Ah}{S':Sto}{H':Hp}{b:β}{u:τ},(∀b,H b=none->H0 b=none)->d g H α' S' H' b u->d g H0 α' S' H' b u
instance:Dn Er V:=⟨λg H α' _ H' r v=>DenE g.K H α' H' r v,λhf q=>q.back hf⟩
instance:Dn Bool Bool:=⟨λ_ _ _ _ _ b u=>u=b,λ_ q=>q⟩
instance:Dn (List Er) (List V):=⟨λg H α' _ H' r v=>ArgsE g.K H α' H' r v,λhf q=>q.back hf⟩
instance:Dn (Option Int) (Option Int):=⟨λ_ _ _ _ _ b u=>u=b,λ_ q=>q⟩
abbrev XW:=Str->List (Str×MV)->Sto->List Addr->Hp->Prop
abbrev W0:XW:=λ_ _ _ _ _=>False
def Post{β τ:Type}[Dn β τ](g:Gm)(W:XW)(α:Ah)(H:Hp):R β->(τ->Hp->Prop)->Prop
 |.ok b S,Q=> ∀u α' H',Ext α H α' H'->Wd g α' S H'->Dn.d g H α' S H' b u->Q u H'
 |.exc c fs S,_=> ∀α' H',Ext α H α' H'->Wd g α' S H'->W c fs S α' H'
 |.no,_=>False
section
variable{β τ γ υ:Type}[Dn β τ][Dn γ υ]{g:Gm}{W:XW}{α α':Ah}{H H':Hp}
def Post.shift(x:Ext α H α' H'): ∀{m:R β}{Q:τ->Hp->Prop},Post g W α H m Q->Post g W α' H' m Q
 |.ok b S,Q,q=>λu α2 H2 x2 w2 d2=>q u α2 H2 (x.trans x2) w2 (Dn.back (λb h=>x.free h) d2)
 |.exc c fs S,_,q=>λα2 H2 x2 w2=>q α2 H2 (x.trans x2) w2
 |.no,_,q=>q
def Post.bind{m:R β}{k:β->Sto->R γ}{Q:υ->Hp->Prop}{Q':τ->Hp->Prop}(q:Post g W α H (m.bind k) Q)
  (f: ∀u b S1 α1 H1,m=.ok b S1->Ext α H α1 H1->Wd g α1 S1 H1->Dn.d g H α1 S1 H1 b u->Post g W α H (k b S1) Q->Q' u H1):Post g W α H m Q':=by
 cases m with
 |ok b S=>exact λu α1 H1 x w d=>f u b S α1 H1 rfl x w d q
 |exc c fs S=>exact q
 |no=>exact q
def Post.here{b:β}{S:Sto}{Q:τ->Hp->Prop}{u:τ}(q:Post g W α H (.ok b S) Q)(w:Wd g α S H)(d:Dn.d g H α S H b u):Q u H:=q u α H (Ext.refl α H) w d
end
def Post.val{g:Gm}{W:XW}{α:Ah}{H:Hp}{d:MV}{S:Sto}{Q:VK}{v:V}(q:Post g W α H (.ok (Er.val d) S) Q)(w:Wd g α S H)(k:Den g.K α H d v):Q v H:=q.here w (DenE.val k)
def Post.newl{g:Gm}{W:XW}{α:Ah}{H:Hp}{ds:Bh}{S:Sto}{Q:VK}{vs:List V}{p:Addr}(q:Post g W α H (.ok (Er.new ds) S) Q)(w:Wd g α S H)(hp:H p=none)(l:DenL g.K α H ds vs):Q (.ref p) (upd H p (.lst vs)):=
 q (.ref p) α _ (w.newx hp) (w.new hp) ⟨⟨p,vs,rfl,yR,w.fresh hp,l.ext (w.newx hp)⟩,λa e=>by cases e;exact hp⟩
def Post.newt{g:Gm}{W:XW}{α:Ah}{H:Hp}{ds:Bh}{S:Sto}{Q:VK}{vs:List V}{p:Addr}(q:Post g W α H (.ok (Er.val (.tup ds)) S) Q)(w:Wd g α S H)(hp:H p=none)(l:DenL g.K α H ds vs):Q (.ref p) (upd H p (.tup vs)):=
 q (.ref p) α _ (w.newx hp) (w.new hp) (.val (zBP (.of yR) (l.ext (w.newx hp))))
abbrev Rho:=List (Option MV)
structure Slots(K:Be)(α:Ah)(H:Hp)(ρ:Rho)(σ:St):Prop where
 len:σ.length=ρ.length
 slot: ∀(i:Nat)(d:MV),ρ[i]? =some (some d)-> ∃v,σ[i]? =some (some v)/\Den K α H d v
section
variable{K:Be}{α α':Ah}{H H':Hp}{ρ:Rho}{σ:St}
def Slots.ex0(q:Slots K α H ρ σ)(x:Ex0 α H α' H'):Slots K α' H' ρ σ:=⟨q.len,λi d e=>let ⟨v,h1,h2⟩:=q.slot i d e;⟨v,h1,h2.ex0 x⟩⟩
def Slots.ext(q:Slots K α H ρ σ)(x:Ext α H α' H'):Slots K α' H' ρ σ:=q.ex0 x.toEx0
def yKN{α:Type}{l:List α}{i j:Nat}{x y:α}(h:(l.set i x)[j]? =some y):(j=i/\y=x/\i<l.length)\/(j≠i/\l[j]? =some y):=by
 by_cases hj:i=j
 ·subst hj;by_cases hl:i<l.length
  ·rw [getElem?_set_self hl]at h;exact .inl ⟨rfl,(Option.some.inj h).symm,hl⟩
  ·rw [getElem?_eq_none (by rw [length_set];omega)]at h;cases h
 ·rw [getElem?_set_ne hj]at h;exact .inr ⟨λz=>hj z.symm,h⟩
def Slots.set(q:Slots K α H ρ σ){i:Nat}{d:MV}{v:V}(h:Den K α H d v):Slots K α H (ρ.set i (some d)) (σ.set i (some v)):=by
 refine⟨by rw [length_set,length_set];exact q.len,λj e z=>?_⟩;rcases yKN z with⟨rfl,e',hl⟩|⟨hj,e'⟩
 ·cases e';exact⟨v,by rw [getElem?_set_self (by rw [q.len];exact hl)],h⟩
 ·obtain⟨u,h1,h2⟩:=q.slot j e e';exact⟨u,by rw [getElem?_set_ne (Ne.symm hj)];exact h1,h2⟩
end
def Jd(X:Cx)(W:XW){β τ:Type}[Dn β τ](P:(St->Hp->(τ->Hp->Prop)->Prop)->Prop)(f:Rho->Sto->R β):Prop:=
 ∃t,P t/\ ∀α ρ S σ H Q,Wd X.g α S H->Slots X.K α H ρ σ->Post X.g W α H (f ρ S) Q->t σ H Q
abbrev PEm(X:Cx)(W:XW)(e:Expr)(f:Rho->Sto->R Er):Prop:=Jd X W (PE X e) f
abbrev PTm(X:Cx)(W:XW)(e:Expr)(f:Rho->Sto->R Bool):Prop:=Jd X W (PT X e) f
abbrev PWm(X:Cx)(W:XW)(e:Expr)(f:Rho->Sto->R Bool):Prop:=Jd X W (PW X e) f
abbrev PAm(X:Cx)(W:XW)(es:Bd)(f:Rho->Sto->R (List Er)):Prop:=Jd X W (PA X es) f
abbrev POm(X:Cx)(W:XW)(e:Option Expr)(f:Rho->Sto->R (Option Int)):Prop:=Jd X W (PO X e) f
section
variable{X:Cx}{W:XW}{a b c e:Expr}{es:Bd}{f g h:Rho->Sto->R Er}{tf tg:Rho->Sto->R Bool}{af:Rho->Sto->R (List Er)}{pos:Pos}
def rdSl:Option (Option MV)->Sto->R Er
 |some (some d),S=>.ok (.val d) S
 |_,_=>.no
def zA(i:Nat){x:Str}(hN:X.N[i]? =some x:=by rfl)(hv:Vis X.env.scope x:=by first |exact Or.inl rfl|exact Or.inr (Or.inl rfl)|exact Or.inr (Or.inr rfl))(hd:(x==("__debug__":Str))=false:=by decide)
  (hcd:(x==("__classdict__":Str))=false:=by decide):PEm X W (.Name x pos) (λρ S=>rdSl (ρ[i]?) S):=by
 refine⟨_,pv i hN hv hd hcd,λα ρ S σ H Q wd sl q=>?_⟩;dsimp only at q
 cases z:ρ[i]? with
 |none=>rw [z]at q;exact q.elim
 |some o=>
  cases o with
  |none=>rw [z]at q;exact q.elim
  |some d=>
   rw [z]at q;obtain⟨v,h1,h2⟩:=sl.slot i d z;exact⟨v,h1,Post.val q wd h2⟩
def zF{i:Int}{j:Nat}:PEm X W (.Constant (.int i) j pos) (λ_ S=>.ok (.val (.int i)) S):=⟨_,yFE,λα ρ S σ H Q wd sl q=>Post.val q wd (xF i)⟩
def cT{i:Bool}{j:Nat}:PEm X W (.Constant (.bool i) j pos) (λ_ S=>.ok (.val (.bl i)) S):=⟨_,pe_bl,λα ρ S σ H Q wd sl q=>Post.val q wd (kH i)⟩
def zMC{j:Nat}:PEm X W (.Constant .none j pos) (λ_ S=>.ok (.val .non) S):=⟨_,yOU,λα ρ S σ H Q wd sl q=>Post.val q wd zLH⟩
def jF{x:Str}{j:Nat}(cs:Ab)(hx:x=mkS cs:=by rfl):PEm X W (.Constant (.str x) j pos) (λ_ S=>.ok (.val (.str cs)) S):=
 ⟨_,yOV,λα ρ S σ H Q wd sl q=>Post.val q wd (by rw [hx];exact zBO cs)⟩
def yGF{x:Str}{T:String}(hg:Gl X x)(hm:X.mg x=none)(hv:bootBuiltins x=some (.type T))(hn:x≠"__name__":=by decide)(hd:(x==("__debug__":Str))=false:=by decide):PEm X W (.Name x pos) (λ_ S=>.ok (.val (.typ T)) S):=
 ⟨_,yJN (v:=.ty T) hg hm hv rfl hn hd,λα ρ S σ H Q wd sl q=>Post.val q wd (yAE T)⟩
def yGG{i:Int}{j:Nat}{p3:Pos}:PEm X W (.UnaryOp .USub (.Constant (.int i) j p3) pos) (λ_ S=>.ok (.val (.int (-i))) S):=
 ⟨_,pe_un yPN yFE,λα ρ S σ H Q wd sl q=>⟨i,rfl,Post.val q wd (xF (-i))⟩⟩
def Op2(X:Cx)(W:XW)(r:R2)(F:Er->Er->Sto->R Er):Prop:= ∀p q x y α S H Q,Wd X.g α S H->DenX X.K α H p x->DenX X.K α H q y->Post X.g W α H (F p q S) Q->r x y H Q
def two{r:R2}{F:Er->Er->Sto->R Er}(hF:Op2 X W r F){ta tb:TE}(fa: ∀α ρ S σ H Q,Wd X.g α S H->Slots X.K α H ρ σ->Post X.g W α H (f ρ S) Q->ta σ H Q)
  (fb: ∀α ρ S σ H Q,Wd X.g α S H->Slots X.K α H ρ σ->Post X.g W α H (g ρ S) Q->tb σ H Q) {α:Ah} {ρ:Rho} {S:Sto} {σ:St} {H:Hp} {Q:VK} (wd:Wd X.g α S H) (sl:Slots X.K α H ρ σ)
  (q:Post X.g W α H ((f ρ S).bind λp S1=>(g ρ S1).bind λq S2=>F p q S2) Q):ta σ H λx H1=>tb σ H1 λy H2=>r x y H2 Q:=
 fa α ρ S σ H _ wd sl (q.bind λu p S1 α1 H1 e1 x1 w1 d1 q1=>fb α1 ρ S1 σ H1 _ w1 (sl.ext x1) ((q1.shift x1).bind λu2 p2 S2 α2 H2 e2 x2 w2 d2 q2=>
  hF p p2 u u2 α2 S2 H2 Q w2 (d1.1.ext x2) d2.1 (q2.shift x2)))
def zQF{op:Operator}{r:R2}{F:Er->Er->Sto->R Er}(ho:OpR X (binaryOp op) r)(hF:Op2 X W r F)(ha:PEm X W a f)(hb:PEm X W b g):PEm X W (.BinOp a op b pos) (λρ S=>(f ρ S).bind λp S1=>(g ρ S1).bind λq S2=>F p q S2):=by obtain⟨ta,ha,fa⟩:=ha;obtain⟨tb,hb,fb⟩:=hb;exact⟨_,pe_op ho ha hb,λα ρ S σ H Q wd sl q=>two hF fa fb wd sl q⟩
def zRR{op:CmpOp}{r:R2}{F:Er->Er->Sto->R Er}(ho:OpR X (compareOp op) r)(hF:Op2 X W r F)(ha:PEm X W a f)(hb:PEm X W b g)(hm:behindInMarks op b=false:=by first |exact yFN _|with_unfolding_all rfl):
  PEm X W (.Compare a [op] [b] pos) (λρ S=>(f ρ S).bind λp S1=>(g ρ S1).bind λq S2=>F p q S2):=by
 obtain⟨ta,ha,fa⟩:=ha;obtain⟨tb,hb,fb⟩:=hb;exact⟨_,yJS ho ha hb hm,λα ρ S σ H Q wd sl q=>two hF fa fb wd sl q⟩
def pm_ix{r:R2}{F:Er->Er->Sto->R Er}(ho:IxR X r)(hF:Op2 X W r F)(ha:PEm X W a f)(hb:PEm X W b g)(hs:zRK b:=by exact λ_ _=>rfl):
  PEm X W (.Subscript a b pos) (λρ S=>(f ρ S).bind λp S1=>(g ρ S1).bind λq S2=>F p q S2):=by
 obtain⟨ta,ha,fa⟩:=ha;obtain⟨tb,hb,fb⟩:=hb;exact⟨_,pe_ix ho ha hb hs,λα ρ S σ H Q wd sl q=>two hF fa fb wd sl q⟩
def asB:Er->Sto->R Bool
 |.val (.bl b),S=>.ok b S
 |_,_=>.no
def yGH{p:Er}{S:Sto}{α:Ah}{H:Hp}{Q:Bool->Hp->Prop}(q:Post X.g W α H (asB p S) Q): ∃k,p=.val (.bl k)/\Post X.g W α H (.ok k S) Q:=by
 unfold asB at q;split at q
 ·exact⟨_,rfl,q⟩
 ·exact q.elim
def zUR{β τ:Type}[Dn β τ]{p:Er}{S:Sto}{α:Ah}{H:Hp}{k:Bool->Sto->R β}{Q:τ->Hp->Prop}(q:Post X.g W α H ((asB p S).bind k) Q): ∃c,p=.val (.bl c)/\Post X.g W α H (k c S) Q:=by
 unfold asB at q;split at q
 ·exact⟨_,rfl,q⟩
 ·exact q.elim
def zGN{op:CmpOp}{r:R2}{F:Er->Er->Sto->R Er}(ho:OpR X (compareOp op) r)(hF:Op2 X W r F)(ha:PEm X W a f)(hb:PEm X W b g)(hm:behindInMarks op b=false:=by first |exact yFN _|with_unfolding_all rfl):
  PTm X W (.Compare a [op] [b] pos) (λρ S=>((f ρ S).bind λp S1=>(g ρ S1).bind λq S2=>F p q S2).bind asB):=by
 obtain⟨ta,ha,fa⟩:=ha;obtain⟨tb,hb,fb⟩:=hb;refine⟨_,yJT ho ha hb hm,λα ρ S σ H Q wd sl q=>?_⟩;refine two hF fa fb wd sl (Q:=λx H'=> ∃k,x=.bl k/\Q k H') (q.bind λu p S1 α1 H1 e1 x1 w1 d1 q1=>?_);obtain⟨k,rfl,q2⟩:=yGH (q1.shift x1);exact⟨k,zDW d1.1,q2.here w1 rfl⟩
def chF(F G:Er->Er->Sto->R Er)(p q:Er)(S:Sto)(k:Sto->R Er):R Er:=(F p q S).bind λz S1=>(asB z S1).bind λc S2=>if c=true then(k S2).bind λr S3=>G q r S3 else .ok (.val (.bl false)) S2
def zFU:Er->Sto->R Bool
 |.val .non,S=>.ok false S
 |.val (.bl b),S=>.ok b S
 |.val (.int i),S=>.ok (i !=0) S
 |.val (.str x),S=>if x.length<=sizeLine then .ok (!x.isEmpty) S else .no
 |.val (.tup ds),S=>.ok (!ds.isEmpty) S
 |.val (.scr ds),S=>.ok (!ds.isEmpty) S
 |.val (.loc l),S=>match S[l]? with
  |some (.lst ds)=>.ok (!ds.isEmpty) S
  |_=>.no
 |.val (.typ _),_=>.no
 |.val (.obj _ _ _),_=>.no
 |.new ds,S=>.ok (!ds.isEmpty) S
def zFI{ds:Bh}{vs:List V}{K:Be}{α:Ah}{H:Hp}(l:DenL K α H ds vs):(!vs.isEmpty)= !ds.isEmpty:=by have:=l.length;cases ds<;>cases vs<;>simp_all
def yGI{p:Er}{x:V}{S:Sto}{α:Ah}{H:Hp}{Q:Bool->Hp->Prop}(wd:Wd X.g α S H)(d:DenX X.K α H p x)(q:Post X.g W α H (zFU p S) Q): ∃k,TruV X.K x H k/\Q k H:=by
 match p,d,q with
 |.val .non,d,q=>cases zIU d;exact⟨_,rfl,q.here wd rfl⟩
 |.val (.bl b),d,q=>cases zDW d;exact⟨_,rfl,q.here wd rfl⟩
 |.val (.int i),d,q=>cases yW d;exact⟨_,rfl,q.here wd rfl⟩
 |.val (.typ n),d,q=>exact q.elim
 |.val (.obj _ _ _),d,q=>exact q.elim
 |.val (.str z),d,q=>
  cases gH d;have q':Post X.g W α H (if z.length<=sizeLine then R.ok (!z.isEmpty) S else R.no) Q:=q;split at q'
  ·rename_i hz;refine⟨_,⟨by rw [wZ];exact hz,?_⟩,q'.here wd rfl⟩;rw [wZ]
   cases z with
   |nil=>rfl
   |cons c r=>
    have h0:((r.length:Int)+1)≠0:=by omega
    simp [h0]
  ·exact q'.elim
 |.val (.tup ds),d,q=>
  obtain⟨a,vs,rfl,s,l⟩:=bS d;exact⟨_,.inr (.inl ⟨vs,s,(zFI l).symm⟩),q.here wd rfl⟩
 |.val (.scr ds),d,q=>
  obtain⟨a,vs,rfl,s,l⟩:=zMB d;exact⟨_,.inl ⟨vs,s.l,(zFI l).symm⟩,q.here wd rfl⟩
 |.val (.loc n),d,q=>
  obtain⟨a,rfl,h⟩:=zBQ d;obtain⟨o,h1,h2⟩:=wd.of h;have q':Post X.g W α H (match S[n]? with |some (.lst ds)=>R.ok (!ds.isEmpty) S|_=>R.no) Q:=q;rw [h1]at q'
  cases o with
  |lst ds=>
   obtain⟨vs,h3,l⟩:=h2;exact⟨_,.inl ⟨vs,.of h3,(zFI l).symm⟩,q'.here wd rfl⟩
  |dic ds=>exact q'.elim
  |ins c fs=>exact q'.elim
 |.new ds,⟨a,vs,ex,s,n,l⟩,q=>subst ex;exact⟨_,.inl ⟨vs,.of s,(zFI l).symm⟩,q.here wd rfl⟩
def wR(ha:PEm X W a f)(he: ∀whole,isTrue a X.env whole=(do let v <-whole;standAt a.pos;holding [v] (truthy v)):=by intro _;rfl):PTm X W a (λρ S=>(f ρ S).bind zFU):=by obtain⟨ta,ha,fa⟩:=ha;exact⟨_,yFO ha he,λα ρ S σ H Q wd sl q=>fa α ρ S σ H _ wd sl (q.bind λu p S1 α1 H1 e1 x1 w1 d1 q1=>yGI w1 d1.1 (q1.shift x1))⟩
end
section
variable{X:Cx}{W:XW}{a b c e:Expr}{es:Bd}{f g h:Rho->Sto->R Er}{tf tg:Rho->Sto->R Bool}{af:Rho->Sto->R (List Er)}{pos:Pos}
def zUS(p:Er)(S:Sto)(k:Sto->R Er):R Er:=(asB p S).bind λc S1=>if c=true then k S1 else .ok (.val (.bl false)) S1
def orF(p:Er)(S:Sto)(k:Sto->R Er):R Er:=(asB p S).bind λc S1=>if c=true then .ok (.val (.bl true)) S1 else k S1
def zRS{op}(ha:PEm X W a f):PEm X W (.BoolOp op [a] pos) f:=let ⟨t,h,k⟩:=ha;⟨t,yOZ h,k⟩
def zMD(ha:PEm X W a f)(hb:PEm X W (.BoolOp .And (b::es) pos) g):PEm X W (.BoolOp .And (a::b::es) pos) (λρ S=>(f ρ S).bind λp S1=>zUS p S1 λS2=>g ρ S2):=by
 obtain⟨ta,ha,fa⟩:=ha;obtain⟨tb,hb,fb⟩:=hb;refine⟨_,yPA ha hb,λα ρ S σ H Q wd sl q=>fa α ρ S σ H _ wd sl (q.bind λu p S1 α1 H1 e1 x1 w1 d1 q1=>?_)⟩;obtain⟨k,rfl,q2⟩:=zUR (q1.shift x1);refine⟨k,zDW d1.1,?_⟩
 cases k with
 |true=>rw [iP rfl]at q2 ⊢; exact fb α1 ρ S1 σ H1 _ w1 (sl.ext x1) q2
 |false=>rw [iN xF0]at q2 ⊢; exact Post.val q2 w1 (kH false)
def yQD(ha:PEm X W a f):PEm X W (.UnaryOp .Not a pos) (λρ S=>(f ρ S).bind λp S1=>(asB p S1).bind λk S2=>.ok (.val (.bl !k)) S2):=by obtain⟨ta,ha,fa⟩:=ha;refine⟨_,yPB ha,λα ρ S σ H Q wd sl q=>fa α ρ S σ H _ wd sl (q.bind λu p S1 α1 H1 e1 x1 w1 d1 q1=>?_)⟩;obtain⟨k,rfl,q2⟩:=zUR (q1.shift x1);exact⟨k,zDW d1.1,Post.val q2 w1 (kH _)⟩
def zRT(ha:PTm X W a tf):PWm X W (.BoolOp .And [a] pos) tf:=let ⟨t,h,k⟩:=ha;⟨t,yJO h,k⟩
def yQE(ha:PTm X W a tf):PWm X W (.BoolOp .Or [a] pos) tf:=let ⟨t,h,k⟩:=ha;⟨t,yOW h,k⟩
theorem zYD(ha:PTm X W a tf)(hb:PWm X W (.BoolOp .And (b::es) pos) tg):PWm X W (.BoolOp .And (a::b::es) pos) (λρ S=>(tf ρ S).bind λk S1=>if k=true then tg ρ S1 else .ok false S1):=by
 obtain⟨ta,ha,fa⟩:=ha;obtain⟨tb,hb,fb⟩:=hb;refine⟨_,yOX ha hb,λα ρ S σ H Q wd sl q=>fa α ρ S σ H _ wd sl (q.bind λu p S1 α1 H1 e1 x1 w1 d1 q1=>?_)⟩;cases d1
 cases u with
 |true=>rw [iP rfl]at q1 ⊢; exact fb α1 ρ S1 σ H1 _ w1 (sl.ext x1) (q1.shift x1)
 |false=>rw [iN xF0]at q1 ⊢; exact(q1.shift x1).here w1 rfl
def wm_or(ha:PTm X W a tf)(hb:PWm X W (.BoolOp .Or (b::es) pos) tg):PWm X W (.BoolOp .Or (a::b::es) pos) (λρ S=>(tf ρ S).bind λk S1=>if k=true then .ok true S1 else tg ρ S1):=by
 obtain⟨ta,ha,fa⟩:=ha;obtain⟨tb,hb,fb⟩:=hb;refine⟨_,pw_or ha hb,λα ρ S σ H Q wd sl q=>fa α ρ S σ H _ wd sl (q.bind λu p S1 α1 H1 e1 x1 w1 d1 q1=>?_)⟩;cases d1
 cases u with
 |true=>rw [iP rfl]at q1 ⊢; exact(q1.shift x1).here w1 rfl
 |false=>rw [iN xF0]at q1 ⊢; exact fb α1 ρ S1 σ H1 _ w1 (sl.ext x1) (q1.shift x1)
def yAH(h:PWm X W a tf):PTm X W a tf:=let ⟨t,h,k⟩:=h;⟨t,h.pt,k⟩
theorem zIV(ha:PTm X W a tf):PTm X W (.UnaryOp .Not a pos) (λρ S=>(tf ρ S).bind λk S1=>.ok (!k) S1):=by obtain⟨ta,ha,fa⟩:=ha;refine⟨_,yOY ha,λα ρ S σ H Q wd sl q=>fa α ρ S σ H _ wd sl (q.bind λu p S1 α1 H1 e1 x1 w1 d1 q1=>?_)⟩;cases d1;exact(q1.shift x1).here w1 rfl
end
section
variable{K:Be}{H0:Hp}
def zQ:List Er->Sto->List MV×Sto
 |[],S=>([],S)
 |.val d::rs,S=>((d::(zQ rs S).1),(zQ rs S).2)
 |.new xs::rs,S=>((.loc S.length::(zQ rs (S++[.lst xs])).1),(zQ rs (S++[.lst xs])).2)
def ArgsE.grow{H0:Hp}{α:Ah}{H:Hp}{b:Addr}{rs:List Er}{vs:List V}(q:ArgsE K H0 α H rs vs)(n:b∉zGB rs vs):ArgsE K H0 (α++[b]) H rs vs:=by
 induction q with
 |nil=>exact .nil
 |@cons r v rs vs a m l ih=>
  cases r with
  |val d=>exact .cons ⟨Den.ex0 (Ex0.grow α [b] H) a.1,trivial⟩ m (ih (by simpa [zGB]using n))
  |new ds=>
   obtain⟨⟨c,us,rfl,h1,h2,h3⟩,h4⟩:=a;have n':b∉c::zGB rs vs:=n;refine .cons ⟨⟨c,us,rfl,h1,λz=>?_,h3.ex0 (Ex0.grow α [b] H)⟩,h4⟩ m (ih λz=>n' (mO _ z));rcases mem_append.mp z with z|z
   ·exact h2 z
   ·exact n' (by rw [mS.mp z];exact mF0)
theorem zDX{g:Gm}{H0:Hp}{α0:Ah}{H:Hp}: ∀{rs:List Er}{vs:List V}{α:Ah}{S:Sto},Wd g α S H->Ext α0 H0 α H->ArgsE g.K H0 α H rs vs->
  ∃α',Ext α0 H0 α' H/\Ex0 α H α' H/\Wd g α' (zQ rs S).2 H/\DenL g.K α' H (zQ rs S).1 vs
 |_,_,α,S,w,x,.nil=>⟨α,x,⟨⟨[],by simp⟩,λ_ _ h=>h,λ_ _ _ h=>h⟩,w,yI⟩
 |.val d::rs,v::vs,α,S,w,x,.cons a n l=>by obtain⟨α',x',y',w',l'⟩:=zDX w x l;exact⟨α',x',y',w',yB (Den.ex0 y' a.1) l'⟩
 |.new ds::rs,v::vs,α,S,w,x,.cons a n l=>by
  obtain⟨⟨c,us,rfl,h1,h2,h3⟩,h4⟩:=a;obtain⟨α',x',y',w',l'⟩:=zDX (w.enter h1 h2 h3) (w.enterx x (h4 c rfl) h2) (l.grow (n ds c rfl rfl));refine⟨α',x',⟨?_,y'.tup,y'.frz⟩,w',yB (zLI (y'.at ?_)) l'⟩
  ·obtain⟨t,e⟩:=y'.pre;exact⟨[c]++t,by rw [e,aA]⟩
  ·rw [<-w.len,getElem?_append_right (le_refl _),sub_self];rfl
theorem zIW: ∀(rs:List Er)(S:Sto),(zQ rs S).1.length=rs.length
 |[],S=>rfl
 |.val d::rs,S=>by show(d::(zQ rs S).1).length=_;rw [lC,zIW rs S];rfl
 |.new ds::rs,S=>by show(_::(zQ rs _).1).length=_;rw [lC,zIW rs _];rfl
end
section
variable{X:Cx}{W:XW}{a b c e:Expr}{es:Bd}{f g h:Rho->Sto->R Er}{tf tg:Rho->Sto->R Bool}{af:Rho->Sto->R (List Er)}{pos:Pos}
def zD:PAm X W [] (λ_ S=>.ok [] S):=⟨_,zXU,λα ρ S σ H Q wd sl q=>q.here wd .nil⟩
def zB(ha:PEm X W a f)(hr:PAm X W es af)(hs:starEach (a::es) X.env=(false,eval a X.env)::starEach es X.env:=by rfl):PAm X W (a::es) (λρ S=>(f ρ S).bind λp S1=>(af ρ S1).bind λps S2=>.ok (p::ps) S2):=by
 obtain⟨ta,ha,fa⟩:=ha;obtain⟨tr,hr,fr⟩:=hr;refine⟨_,zRI ha hr hs,λα ρ S σ H Q wd sl q=>fa α ρ S σ H _ wd sl (q.bind λu p S1 α1 H1 e1 x1 w1 d1 q1=>fr α1 ρ S1 σ H1 _ w1 (sl.ext x1) ?_)⟩;have q1':Post X.g W α H ((af ρ S1).bind λps S2=>.ok (p::ps) S2) Q:=q1
 cases z:af ρ S1 with
 |ok ps S2=>
  rw [z]at q1';intro vs α2 H2 x2 w2 d2;refine q1' (u::vs) α2 H2 (x1.trans x2) w2 (ArgsE.cons (DenE.ext x2 d1) (λds b er eu hb=>?_) (ArgsE.back (λb h=>x1.free h) d2));subst er eu;obtain⟨⟨c,us,ec,h1,_⟩,_⟩:=d1;cases ec;have:=ArgsE.nones d2 _ hb;rw [h1]at this;cases this
 |exc c fs S2=>rw [z]at q1';exact λα2 H2 x2 w2=>q1' α2 H2 (x1.trans x2) w2
 |no=>rw [z]at q1';exact q1'
def xO(rs:List Er)(S:Sto):R Er:=if rs.length<=sizeLine then .ok (.val (.tup (zQ rs S).1)) (zQ rs S).2 else .no
def zDQ(rs:List Er)(S:Sto):R Er:=if rs.length<=sizeLine then .ok (.new (zQ rs S).1) (zQ rs S).2 else .no
def yO{x1}(h:PAm X W es af):PEm X W (.Tuple es x1 pos) (λρ S=>(af ρ S).bind xO):=by
 obtain⟨t,h,k⟩:=h;refine⟨_,yPQ h,λα ρ S σ H Q wd sl q=>k α ρ S σ H _ wd sl (q.bind λvs rs S1 α1 H1 e1 x1 w1 d1 q1=>?_)⟩;have q1':Post X.g W α H (if rs.length<=sizeLine then R.ok (Er.val (.tup (zQ rs S1).1)) (zQ rs S1).2 else R.no) Q:=q1;split at q1'
 ·rename_i hz;obtain⟨α2,x2,y2,w2,l2⟩:=zDX w1 x1 d1;exact⟨by rw [ArgsE.length d1];exact hz,λp hp=>(q1'.shift x2).newt w2 hp l2⟩
 ·exact q1'.elim
def cU(h:PAm X W es af):PEm X W (.List es pos) (λρ S=>(af ρ S).bind zDQ):=by
 obtain⟨t,h,k⟩:=h;refine⟨_,yPR h,λα ρ S σ H Q wd sl q=>k α ρ S σ H _ wd sl (q.bind λvs rs S1 α1 H1 e1 x1 w1 d1 q1=>?_)⟩;have q1':Post X.g W α H (if rs.length<=sizeLine then R.ok (Er.new (zQ rs S1).1) (zQ rs S1).2 else R.no) Q:=q1;split at q1'
 ·rename_i hz;obtain⟨α2,x2,y2,w2,l2⟩:=zDX w1 x1 d1;exact⟨by rw [ArgsE.length d1];exact hz,λp hp=>(q1'.shift x2).newl w2 hp l2⟩
 ·exact q1'.elim
inductive ArgsX(K:Be)(α:Ah)(H:Hp):List Er->List V->Prop
 |nil:ArgsX K α H [] []
 |cons {r v rs vs}:DenX K α H r v->ArgsX K α H rs vs->ArgsX K α H (r::rs) (v::vs)
theorem ArgsE.x{K:Be}{H0:Hp}{α:Ah}{H:Hp}: ∀{rs vs},ArgsE K H0 α H rs vs->ArgsX K α H rs vs
 |_,_,.nil=>.nil
 |_,_,.cons a _ l=>.cons a.1 (ArgsE.x l)
def nK(X:Cx)(W:XW)(r:List V->Hp->VK->Prop)(F:List Er->Sto->R Er):Prop:= ∀rs vs α S H Q,Wd X.g α S H->ArgsX X.K α H rs vs->Post X.g W α H (F rs S) Q->r vs H Q
def yM{id:String}{r:List V->Hp->VK->Prop}{F:List Er->Sto->R Er}{x:Str}{p:Pos}(hc:CallR X (.builtin id) r)(hF:nK X W r F)(hg:Gl X x)(hm:X.mg x=none)(hv:bootBuiltins x=some (.builtin id))(ha:PAm X W (e::es) af)
  (hn:x≠"__name__":=by decide) (hdb:(x==("__debug__":Str))=false:=by decide)
  (he:starEach (e::es) X.env=(false,eval e X.env)::starEach es X.env:=by rfl) (hpl:(backTo pos (starEach es X.env)).any (·.1)=false:=by rfl):PEm X W (.Call (.Name x p) (e::es) [] pos) (λρ S=>(af ρ S).bind F):=by
 obtain⟨t,ha,k⟩:=ha;exact⟨_,yFT hc hg hm hv ha hn hdb he hpl,λα ρ S σ H Q wd sl q=>k α ρ S σ H _ wd sl (q.bind λvs rs S1 α1 H1 e1 x1 w1 d1 q1=>hF rs vs α1 S1 H1 Q w1 (ArgsE.x d1) (q1.shift x1))⟩
def kA{T:String}{r:List V->Hp->VK->Prop}{F:List Er->Sto->R Er}{x:Str}{p:Pos}(hc:CallR X (.type T) r)(hF:nK X W r F)(hg:Gl X x)(hm:X.mg x=none)(hv:bootBuiltins x=some (.type T))(ha:PAm X W (e::es) af)
  (hn:x≠"__name__":=by decide) (hdb:(x==("__debug__":Str))=false:=by decide)
  (he:starEach (e::es) X.env=(false,eval e X.env)::starEach es X.env:=by rfl) (hpl:(backTo pos (starEach es X.env)).any (·.1)=false:=by rfl):PEm X W (.Call (.Name x p) (e::es) [] pos) (λρ S=>(af ρ S).bind F):=by
 obtain⟨t,ha,k⟩:=ha;exact⟨_,zQB hc hg hm hv ha hn hdb he hpl,λα ρ S σ H Q wd sl q=>k α ρ S σ H _ wd sl (q.bind λvs rs S1 α1 H1 e1 x1 w1 d1 q1=>hF rs vs α1 S1 H1 Q w1 (ArgsE.x d1) (q1.shift x1))⟩
def yDD(X:Cx)(W:XW)(r:V->List V->Hp->VK->Prop)(F:Er->List Er->Sto->R Er):Prop:= ∀p rs x vs α S H0 H Q α0,Wd X.g α S H->Ext α0 H0 α H->DenX X.K α H p x->ArgsE X.K H0 α H rs vs->Post X.g W α0 H0 (F p rs S) Q->r x vs H Q
def TyM(X:Cx)(T:String)(ty:Er->Sto->Bool):Prop:= ∀p x α S H,Wd X.g α S H->DenX X.K α H p x->ty p S=true->tyV X.K T x H
def zLJ{T:String}{name:Str}{id:String}{r:V->List V->Hp->VK->Prop}{F:Er->List Er->Sto->R Er}{ty:Er->Sto->Bool}{apos:Pos}(pa:PlainAttrs T)(slot:Slot T name id)(hty:typeOf (.builtin id)=pure (.type "method_descriptor"))(hm:MtR X id r)(hF:yDD X W r F)(hT:TyM X T ty)
  (ho:PEm X W a f) (ha:PAm X W (e::es) af)
  (hbase:attributeBase a name X.env (eval a X.env)=eval a X.env:=by rfl)
  (hfew:((backTo pos (starEach (e::es) X.env)).all (λx=>!x.1)&&(backToKw pos (keywordEach [] X.env)).all (λx=>x.1.isSome)
   &&decide ((e::es).length+([]:List Keyword).length+(if([]:List Keyword).isEmpty then 0 else 1)<30))=true:=by rfl)
  (hline:(apos.endLine==pos.line)=true:=by rfl) (hs:starEach (e::es) X.env=(false,eval e X.env)::starEach es X.env:=by rfl) (hplain:(backTo pos (starEach es X.env)).any (·.1)=false:=by rfl):
  PEm X W (.Call (.Attribute a name apos) (e::es) [] pos) (λρ S=>(f ρ S).bind λp S1=>if ty p S1=true then(af ρ S1).bind λrs S2=>F p rs S2 else .no):=by
 obtain⟨to,ho,fo⟩:=ho;obtain⟨t,ha,k⟩:=ha;refine⟨_,pe_bm pa slot hty hm ho ha hbase hfew hline hs hplain,λα ρ S σ H Q wd sl q=>fo α ρ S σ H _ wd sl (q.bind λu p S1 α1 H1 e1 x1 w1 d1 q1=>?_)⟩;split at q1
 ·rename_i hz;exact⟨hT p u α1 S1 H1 w1 d1.1 hz,k α1 ρ S1 σ H1 _ w1 (sl.ext x1) ((q1.shift x1).bind λvs rs S2 α2 H2 e2 x2 w2 d2 q2=>hF p rs u vs α2 S2 H1 H2 Q α1 w2 x2 (d1.1.ext x2) d2 q2)⟩
 ·exact q1.elim
def zHQ:POm X W none (λ_ S=>.ok none S):=⟨_,yKB,λα ρ S σ H Q wd sl q=>q.here wd rfl⟩
def asI:Er->Sto->R (Option Int)
 |.val (.int i),S=>.ok (some i) S
 |_,_=>.no
def zBR(ha:PEm X W a f):POm X W (some a) (λρ S=>(f ρ S).bind asI):=by
 obtain⟨ta,ha,fa⟩:=ha;refine⟨_,yKC ha,λα ρ S σ H Q wd sl q=>fa α ρ S σ H _ wd sl (q.bind λu p S1 α1 H1 e1 x1 w1 d1 q1=>?_)⟩;unfold asI at q1;split at q1
 ·exact⟨_,yW d1.1,(q1.shift x1).here w1 rfl⟩
 ·exact q1.elim
def Sl3(X:Cx)(W:XW)(r:V->Option Int->Option Int->Hp->VK->Prop)(F:Er->Option Int->Option Int->Sto->R Er):Prop:= ∀p lo hi x α S H Q,Wd X.g α S H->DenX X.K α H p x->Post X.g W α H (F p lo hi S) Q->r x lo hi H Q
def yGJ{lo hi:Option Expr}{r:V->Option Int->Option Int->Hp->VK->Prop}{F:Er->Option Int->Option Int->Sto->R Er}{lf hf:Rho->Sto->R (Option Int)}{p2:Pos}(hr:SlR X r)(hF:Sl3 X W r F)(ha:PEm X W a f)(hl:POm X W lo lf)(hh:POm X W hi hf):
  PEm X W (.Subscript a (.Slice lo hi none p2) pos) (λρ S=>(f ρ S).bind λp S1=>(lf ρ S1).bind λl S2=>(hf ρ S2).bind λu S3=>F p l u S3):=by
 obtain⟨ta,ha,fa⟩:=ha;obtain⟨tl,hl,fl⟩:=hl;obtain⟨th,hh,fh⟩:=hh
 refine⟨_,yFV hr ha hl hh,λα ρ S σ H Q wd sl q=>fa α ρ S σ H _ wd sl (q.bind λu p S1 α1 H1 e1 x1 w1 d1 q1=>fl α1 ρ S1 σ H1 _ w1 (sl.ext x1) ((q1.shift x1).bind λu2 l S2 α2 H2 e2 x2 w2 d2 q2=>
  fh α2 ρ S2 σ H2 _ w2 ((sl.ext x1).ext x2) ((q2.shift x2).bind λu3 m S3 α3 H3 e3 x3 w3 d3 q3=>?_)))⟩
 cases d2;cases d3;exact hF p u2 u3 u α3 S3 H3 Q w3 ((d1.1.ext x2).ext x3) (q3.shift x3)
end
inductive Fl where
 |next (ρ:Rho)|ret (r:Er)|brk (ρ:Rho)|cont (ρ:Rho)
abbrev AX:=Rho->Sto->R Er
abbrev AY:=Rho->Sto->R Fl
abbrev AZ:=Rho->Sto->R Bool
def PostS(g:Gm)(W:XW)(α:Ah)(H:Hp)(D:Ends):R Fl->Prop
 |.ok (.next ρ) S=> ∀σ α' H',Ext α H α' H'->Wd g α' S H'->Slots g.K α' H' ρ σ->D.nx σ H'
 |.ok (.ret r) S=> ∀v α' H',Ext α H α' H'->Wd g α' S H'->DenE g.K H α' H' r v->D.rt v H'
 |.ok (.brk ρ) S=> ∀σ α' H',Ext α H α' H'->Wd g α' S H'->Slots g.K α' H' ρ σ->D.bk σ H'
 |.ok (.cont ρ) S=> ∀σ α' H',Ext α H α' H'->Wd g α' S H'->Slots g.K α' H' ρ σ->D.ct σ H'
 |.exc c fs S=> ∀α' H',Ext α H α' H'->Wd g α' S H'->W c fs S α' H'
 |.no=>False
section
variable{g:Gm}{W:XW}{α α':Ah}{H H':Hp}{D D':Ends}
def PostS.shift(x:Ext α H α' H'): ∀{m:R Fl},PostS g W α H D m->PostS g W α' H' D m
 |.ok (.next ρ) S,q=>λσ α2 H2 x2 w2 s2=>q σ α2 H2 (x.trans x2) w2 s2
 |.ok (.ret r) S,q=>λv α2 H2 x2 w2 d2=>q v α2 H2 (x.trans x2) w2 (d2.back λb h=>x.free h)
 |.ok (.brk ρ) S,q=>λσ α2 H2 x2 w2 s2=>q σ α2 H2 (x.trans x2) w2 s2
 |.ok (.cont ρ) S,q=>λσ α2 H2 x2 w2 s2=>q σ α2 H2 (x.trans x2) w2 s2
 |.exc c fs S,q=>λα2 H2 x2 w2=>q α2 H2 (x.trans x2) w2
 |.no,q=>q
def PostS.expr{β τ:Type}[Dn β τ]{m:R β}{k:β->Sto->R Fl}{Q':τ->Hp->Prop}(q:PostS g W α H D (m.bind k))
  (f: ∀u b S1 α1 H1,m=.ok b S1->Ext α H α1 H1->Wd g α1 S1 H1->Dn.d g H α1 S1 H1 b u->PostS g W α H D (k b S1)->Q' u H1):Post g W α H m Q':=by
 cases m with
 |ok b S=>exact λu α1 H1 x w d=>f u b S α1 H1 rfl x w d q
 |exc c fs S=>exact q
 |no=>exact q
def PostS.stmt{m:R Fl}{k:Fl->Sto->R Fl}(q:PostS g W α H D (m.bind k))
  (hn: ∀ρ S σ α1 H1,m=.ok (.next ρ) S->Ext α H α1 H1->Wd g α1 S H1->Slots g.K α1 H1 ρ σ->PostS g W α H D (k (.next ρ) S)->D'.nx σ H1)
  (hr: ∀r S v α1 H1,m=.ok (.ret r) S->Ext α H α1 H1->Wd g α1 S H1->DenE g.K H α1 H1 r v->PostS g W α H D (k (.ret r) S)->D'.rt v H1)
  (hb: ∀ρ S σ α1 H1,m=.ok (.brk ρ) S->Ext α H α1 H1->Wd g α1 S H1->Slots g.K α1 H1 ρ σ->PostS g W α H D (k (.brk ρ) S)->D'.bk σ H1)
  (hc: ∀ρ S σ α1 H1,m=.ok (.cont ρ) S->Ext α H α1 H1->Wd g α1 S H1->Slots g.K α1 H1 ρ σ->PostS g W α H D (k (.cont ρ) S)->D'.ct σ H1):PostS g W α H D' m:=by
 cases m with
 |ok fl S=>
  cases fl with
  |next ρ=>exact λσ α1 H1 x w s=>hn ρ S σ α1 H1 rfl x w s q
  |ret r=>exact λv α1 H1 x w d=>hr r S v α1 H1 rfl x w d q
  |brk ρ=>exact λσ α1 H1 x w s=>hb ρ S σ α1 H1 rfl x w s q
  |cont ρ=>exact λσ α1 H1 x w s=>hc ρ S σ α1 H1 rfl x w s q
 |exc c fs S=>exact q
 |no=>exact q
end
def PSm(X:Cx)(W:XW)(st:Stmt)(F:AY):Prop:=
 ∃t,PS X st t/\ ∀α ρ S σ H D,Wd X.g α S H->Slots X.K α H ρ σ->PostS X.g W α H D (F ρ S)->t D σ H
def zRU(X:Cx)(W:XW)(st:List Stmt)(F:AY):Prop:=
 ∃t,PSs X st t/\ ∀α ρ S σ H D,Wd X.g α S H->Slots X.K α H ρ σ->PostS X.g W α H D (F ρ S)->t D σ H
def zZ(F G:AY):AY:=λρ S=>(F ρ S).bind λfl S1=>match fl with
 |.next ρ'=>G ρ' S1
 |.ret r=>.ok (.ret r) S1
 |.brk ρ'=>.ok (.brk ρ') S1
 |.cont ρ'=>.ok (.cont ρ') S1
section
variable{X:Cx}{W:XW}{st:Stmt}{sts as bs:List Stmt}{F G:AY}{f g:AX}{tf:AZ}{e c:Expr}{pos:Pos}
def wK:zRU X W [] (λρ S=>.ok (.next ρ) S):=⟨_,yJP,λα ρ S σ H D wd sl q=>q σ α H (Ext.refl α H) wd sl⟩
def zN(h:PSm X W st F):zRU X W [st] F:=let ⟨t,h,k⟩:=h;⟨t,zZW h,k⟩
def zH(h1:PSm X W st F)(h2:zRU X W sts G):zRU X W (st::sts) (zZ F G):=by
 obtain⟨t,h1,k1⟩:=h1;obtain⟨u,h2,k2⟩:=h2;refine⟨_,yFF h1 h2,λα ρ S σ H D wd sl q=>k1 α ρ S σ H _ wd sl (q.stmt ?_ ?_ ?_ ?_)⟩
 ·intro ρ1 S1 σ1 α1 H1 e x1 w1 s1 q1;exact k2 α1 ρ1 S1 σ1 H1 D w1 s1 (PostS.shift x1 q1)
 ·intro r S1 v α1 H1 e x1 w1 d1 q1;exact q1 v α1 H1 x1 w1 d1
 ·intro ρ1 S1 σ1 α1 H1 e x1 w1 s1 q1;exact q1 σ1 α1 H1 x1 w1 s1
 ·intro ρ1 S1 σ1 α1 H1 e x1 w1 s1 q1;exact q1 σ1 α1 H1 x1 w1 s1
def zT(he:PEm X W e f):PSm X W (.Return (some e) pos) (λρ S=>(f ρ S).bind λr S1=>.ok (.ret r) S1):=by obtain⟨t,he,k⟩:=he;exact⟨_,yPC he,λα ρ S σ H D wd sl q=>k α ρ S σ H _ wd sl (q.expr λu r S1 α1 H1 e x1 w1 d1 q1=>q1 u α1 H1 x1 w1 d1)⟩
def zME:PSm X W st (λ_ _=>.no):=⟨_,yFG,λα ρ S σ H D wd sl q=>q.elim⟩
def nL(he:PEm X W e f)(hs:swapsWith e none pos.line X.env=pure false:=by rfl):PSm X W (.Expr e pos) (λρ S=>(f ρ S).bind λ_ S1=>.ok (.next ρ) S1):=by obtain⟨t,he,k⟩:=he;exact⟨_,yJQ he hs,λα ρ S σ H D wd sl q=>k α ρ S σ H _ wd sl (q.expr λu r S1 α1 H1 e x1 w1 d1 q1=>q1 σ α1 H1 x1 w1 (sl.ext x1))⟩
def gD(hc:PTm X W c tf)(ha:zRU X W as F)(hb:zRU X W bs G):PSm X W (.If c as bs pos) (λρ S=>(tf ρ S).bind λk S1=>if k=true then F ρ S1 else G ρ S1):=by
 obtain⟨tc,hc,kc⟩:=hc;obtain⟨ta,ha,ka⟩:=ha;obtain⟨tb,hb,kb⟩:=hb;refine⟨_,ps_if hc ha hb,λα ρ S σ H D wd sl q=>kc α ρ S σ H _ wd sl (q.expr λu p S1 α1 H1 e x1 w1 d1 q1=>?_)⟩;cases d1
 cases u with
 |true=>rw [iP rfl]at q1 ⊢; exact ka α1 ρ S1 σ H1 D w1 (sl.ext x1) (PostS.shift x1 q1)
 |false=>rw [iN xF0]at q1 ⊢; exact kb α1 ρ S1 σ H1 D w1 (sl.ext x1) (PostS.shift x1 q1)
instance:Dn Rho St:=⟨λg _ α' _ H' ρ σ=>Slots g.K α' H' ρ σ,λ_ q=>q⟩
def PGm(X:Cx)(W:XW)(tg:Expr)(gf:MV->Rho->Sto->R Rho):Prop:=
 ∃t,PG X tg t/\ ∀α ρ S σ H d v Q,Wd X.g α S H->Slots X.K α H ρ σ->Den X.K α H d v->Post X.g W α H (gf d ρ S) Q->t v σ H Q
def PGsm(X:Cx)(W:XW)(tgs:Bd)(gf:List MV->Rho->Sto->R Rho):Prop:=
 ∃t,PGs X tgs t/\ ∀α ρ S σ H ds vs Q,Wd X.g α S H->Slots X.K α H ρ σ->DenL X.K α H ds vs->Post X.g W α H (gf ds ρ S) Q->t vs σ H Q
def gNm(i:Nat):MV->Rho->Sto->R Rho:=λd ρ S=>.ok (ρ.set i (some d)) S
def xK(i:Nat){x:Str}(hN:X.N.Nodup)(hi:X.N[i]? =some x:=by rfl)(hx:Loc X.env.scope x:=by first |exact Or.inl rfl|exact Or.inr rfl)(hf:X.fn x=true\/X.env.scope.names.lookup x=some .local:=by first |exact .inl rfl|exact .inr rfl|assumption):
  PGm X W (.Name x pos) (gNm i):=⟨_,zZX hN hi hx hf,λα ρ S σ H d v Q wd sl de q=>Post.here (b:=ρ.set i (some d)) q wd (sl.set de)⟩
def xY:List MV->Rho->Sto->R Rho
 |[],ρ,S=>.ok ρ S
 |_,_,_=>.no
def zP(g1:MV->Rho->Sto->R Rho)(g2:List MV->Rho->Sto->R Rho):List MV->Rho->Sto->R Rho
 |d::ds,ρ,S=>(g1 d ρ S).bind λρ1 S1=>g2 ds ρ1 S1
 |_,_,_=>.no
def zRV:PGsm X W [] xY:=⟨_,zZY,λα ρ S σ H ds vs Q wd sl de q=>by
 cases ds with
 |nil=>exact⟨de.isnil,Post.here (b:=ρ) q wd sl⟩
 |cons d ds=>exact q.elim⟩
def cF{es:Bd}{g1:MV->Rho->Sto->R Rho}{g2:List MV->Rho->Sto->R Rho}(h1:PGm X W e g1)(h2:PGsm X W es g2)(hs:(assignEach (e::es) X.env).map (·.2)=assign e X.env::(assignEach es X.env).map (·.2):=by rfl):PGsm X W (e::es) (zP g1 g2):=by
 obtain⟨t1,h1,k1⟩:=h1;obtain⟨t2,h2,k2⟩:=h2;refine⟨_,zUK h1 h2 hs,λα ρ S σ H ds vs Q wd sl de q=>?_⟩
 cases ds with
 |nil=>exact q.elim
 |cons d ds=>
  obtain⟨v,r,rfl,a,l⟩:=de.uncons;refine⟨v,r,rfl,k1 α ρ S σ H d v _ wd sl a (Post.bind q λu p S1 α1 H1 e x1 w1 d1 q1=>k2 α1 p S1 u H1 ds r Q w1 d1 (l.ext x1) (q1.shift x1))⟩
def gTp(n:Nat)(g2:List MV->Rho->Sto->R Rho):MV->Rho->Sto->R Rho
 |.tup ds,ρ,S=>if ds.length=n then g2 ds ρ S else .no
 |_,_,_=>.no
def zRW{es:Bd}{k n:Nat}{g2:List MV->Rho->Sto->R Rho}(hc:X.calm=true)(h:PGsm X W es g2)
  (hn:(assignEach es X.env).length=n:=by rfl) (hst:(assignEach es X.env).findIdx? (·.1)=none:=by rfl):PGm X W (.Tuple es k pos) (gTp n g2):=by
 obtain⟨t,h,k⟩:=h;refine⟨_,yFI hc h hn hst,λα ρ S σ H d v Q wd sl de q=>?_⟩;unfold gTp at q;split at q
 ·split at q
  ·rename_i hl;obtain⟨a,vs,rfl,s,l⟩:=xC de;exact⟨a,vs,rfl,s,by rw [l.length];exact hl,k α ρ S σ H _ vs Q wd sl l q⟩
  ·exact q.elim
 ·exact q.elim
def gI(r:Er)(S:Sto):R MV:=match r with
 |.val d=>.ok d S
 |.new ds=>.ok (.loc S.length) (S++[.lst ds])
def zAR{g:Gm}{H0:Hp}{α0 α:Ah}{H:Hp}{S:Sto}{r:Er}{v:V}(w:Wd g α S H)(x:Ext α0 H0 α H)(d:DenE g.K H0 α H r v):
  ∃d' S' α',gI r S=.ok d' S'/\Ext α0 H0 α' H/\Ex0 α H α' H/\Wd g α' S' H/\Den g.K α' H d' v:=by
 cases r with
 |val d'=>exact⟨d',S,α,rfl,x,⟨⟨[],by simp⟩,λ_ _ h=>h,λ_ _ _ h=>h⟩,w,d.1⟩
 |new ds=>
  obtain⟨⟨c,us,rfl,h1,h2,h3⟩,h4⟩:=d;exact⟨.loc S.length,S++[.lst ds],α++[c],rfl,w.enterx x (h4 c rfl) h2,Ex0.grow α [c] H,w.enter h1 h2 h3,zLI (by rw [<-w.len,getElem?_append_right (le_refl _),sub_self];rfl)⟩
def zRX(ρ:Rho)(i:Nat)(r:Er)(S:Sto):R Fl:=(gI r S).bind λd S1=>.ok (.next (ρ.set i (some d))) S1
def yA(i:Nat){x:Str}{pos':Pos}(hN:X.N.Nodup)(he:PEm X W e f)(hi:X.N[i]? =some x:=by rfl)(hx:Loc X.env.scope x:=by first |exact Or.inl rfl|exact Or.inr rfl)
  (hs:swapsWith e (some (.Name x pos')) pos.line X.env=pure false:=by rfl) (hf:X.fn x=true\/X.env.scope.names.lookup x=some .local:=by first |exact .inl rfl|exact .inr rfl|assumption):
  PSm X W (.Assign [.Name x pos'] e pos) (λρ S=>(f ρ S).bind (zRX ρ i)):=by
 obtain⟨t,he,k⟩:=he;refine⟨_,yPG hN hi hx he hs hf,λα ρ S σ H D wd sl q=>k α ρ S σ H _ wd sl (q.expr λu r S1 α1 H1 e x1 w1 d1 q1=>?_)⟩;obtain⟨d',S',α',e1,x',y',w',de⟩:=zAR w1 x1 d1;unfold zRX at q1;rw [e1]at q1;exact q1 _ α' H1 x' w' (((sl.ext x1).ex0 y').set de)
def asgF(gf:MV->Rho->Sto->R Rho)(ρ:Rho)(r:Er)(S:Sto):R Fl:=(gI r S).bind λd S1=>(gf d ρ S1).bind λρ' S2=>.ok (.next ρ') S2
def yGK{tg:Expr}{gf:MV->Rho->Sto->R Rho}(he:PEm X W e f)(hg:PGm X W tg gf)(hs:swapsWithSole [tg] e pos.line X.env=pure false:=by rfl)(hw:swappedStores [tg] e X.env=pure none:=by rfl)
  (h1:(assignEach [tg] X.env).map (·.2)=[assign tg X.env]:=by rfl):PSm X W (.Assign [tg] e pos) (λρ S=>(f ρ S).bind (asgF gf ρ)):=by
 obtain⟨t,he,k⟩:=he;obtain⟨tg',hg,kg⟩:=hg;refine⟨_,yPF he hg hs hw h1,λα ρ S σ H D wd sl q=>k α ρ S σ H _ wd sl (q.expr λu r S1 α1 H1 e x1 w1 d1 q1=>?_)⟩;obtain⟨d',S',α',e1,x',y',w',de⟩:=zAR w1 x1 d1;unfold asgF at q1;rw [e1]at q1;have q1:PostS X.g W α H D ((gf d' ρ S').bind λρ' S2=>.ok (.next ρ') S2):=q1;exact kg α' ρ S' σ H1 d' u _ w' ((sl.ext x1).ex0 y') de ((PostS.shift x' q1).expr λσ2 ρ2 S2 α2 H2 e2 x2 w2 s2 q2=>q2 σ2 α2 H2 x2 w2 s2)
structure Wk where
 ds:List MV
 gs:List (Nat×List MV)
def stay(gs:Ca)(S:Sto):Prop:= ∀p∈gs,S[p.1]? =some (.lst p.2)
def ItM(g:Gm)(J:It)(P:List Addr->Sto->Hp->Prop)(ds:Bh):Prop:= ∀i α S H,P α S H->Wd g α S H->(i<ds.length->J.go i H/\ ∀x H',J.yld i H x H'->Ext α H α H'/\Wd g α S H'/\P α S H'/\ ∃d,ds[i]? =some d/\Den g.K α H' d x)/\(ds.length<=i->J.stop i H)
structure WkD(g:Gm)(α:Ah)(S:Sto)(H:Hp)(k:Wk)(J:It)(P:List Addr->Sto->Hp->Prop):Prop where
 it:ItM g J P k.ds
 here:P α S H
 stays: ∀α1 S1 H1 α2 S2 H2,P α1 S1 H1->Ext α1 H1 α2 H2->Wd g α2 S2 H2->stay k.gs S2->P α2 S2 H2
 st:stay k.gs S
instance:Dn Wk It:=⟨λg _ α S H k J=> ∃P,WkD g α S H k J P,λ_ q=>q⟩
abbrev PIm(X:Cx)(W:XW)(tg iter:Expr)(f:Rho->Sto->R Wk):Prop:=Jd X W (PI X tg iter) f
variable{tg iter:Expr}
def zMF{a:Addr}{ds:Bh}:ItM X.g (Itl X.K a) (λα S H=> ∃vs,SqL X.K H a vs/\DenL X.K α H ds vs) ds:=by
 intro i α S H ⟨vs,s,l⟩ w;have hl:=l.length;refine⟨λhi=>?_,λhi=>⟨vs,s,by omega⟩⟩;have hv:i<vs.length:=by omega
 refine⟨⟨vs,vs[i],s,gE0 hv⟩,λx H' y=>?_⟩;obtain⟨rfl,y⟩:=y;obtain⟨d,h1,h2⟩:=l.get (y vs s);exact⟨Ext.refl _ _,w,⟨vs,s,l⟩,d,h1,h2⟩
def yKO{a:Addr}{ds:Bh}:ItM X.g (Itt X.K a) (λα S H=> ∃vs,SqT X.K H a vs/\DenL X.K α H ds vs) ds:=by
 intro i α S H ⟨vs,s,l⟩ w;have hl:=l.length;refine⟨λhi=>?_,λhi=>⟨vs,s,by omega⟩⟩;have hv:i<vs.length:=by omega
 refine⟨⟨vs,vs[i],s,gE0 hv⟩,λx H' y=>?_⟩;obtain⟨rfl,y⟩:=y;obtain⟨d,h1,h2⟩:=l.get (y vs s);exact⟨Ext.refl _ _,w,⟨vs,s,l⟩,d,h1,h2⟩
def yDE{lo:Int}{n:Nat}:ItM X.g (Itr lo n) (λ_ _ _=>True) ((List.range n).map λk=>.int (lo+(k:Nat))):=by
 intro i α S H _ w;refine⟨λhi=>⟨show i<n by simpa using hi,λv H' y=>?_⟩,λhi=>by show n<=i;simpa using hi⟩;obtain⟨rfl,y⟩:=y;have hi':i<n:=by simpa using hi
 refine⟨Ext.refl _ _,w,trivial,.int (lo+i),by rw [getElem?_map,getElem?_range hi'];rfl,?_⟩;rw [y];exact xF _
def itL:Er->Sto->R Wk
 |.new ds,S=>.ok ⟨ds,[]⟩ S
 |.val (.scr ds),S=>.ok ⟨ds,[]⟩ S
 |.val (.loc l),S=>match S[l]? with
  |some (.lst ds)=>.ok ⟨ds,[(l,ds)]⟩ S
  |_=>.no
 |_,_=>.no
def bI{S:Sto}:stay [] S:=λp h=>by simp at h
def xL(he:PEm X W iter f):PIm X W tg iter (λρ S=>(f ρ S).bind itL):=by
 obtain⟨t,he,k⟩:=he;refine⟨_,yJR he,λα ρ S σ H Rc wd sl q=>k α ρ S σ H _ wd sl (q.bind λu p S1 α1 H1 e x1 w1 d1 q1=>?_)⟩
 replace q1:=q1.shift x1
 unfold itL at q1;split at q1
 ·rename_i S0 ds;obtain⟨⟨b,vs,rfl,h1,h2,h3⟩,h4⟩:=d1;refine⟨b,rfl,⟨vs,.of h1⟩,q1.here (u:=Itl X.K b) w1 ⟨λα2 S2 H2=> ∃vs,SqL X.K H2 b vs/\DenL X.K α2 H2 ds vs/\H2 b=some (.lst vs)/\b∉α2,?_,⟨vs,.of h1,h3,h1,h2⟩,?_,bI⟩⟩
  ·intro i α2 S2 H2 ⟨vs2,a1,a2,a3,a4⟩ w2;obtain⟨i1,i2⟩:=zMF (X:=X) (a:=b) (ds:=ds) i α2 S2 H2 ⟨vs2,a1,a2⟩ w2;refine⟨λhi=>⟨(i1 hi).1,λx H' y=>?_⟩,i2⟩;obtain⟨j1,j2,j3,j4⟩:=(i1 hi).2 x H' y;obtain⟨rfl,_⟩:=y;exact⟨j1,j2,⟨vs2,a1,a2,a3,a4⟩,j4⟩
  ·intro α2 S2 H2 α3 S3 H3 ⟨vs2,a1,a2,a3,a4⟩ x w3 _;exact⟨vs2,.of (x.keep b _ a3 a4),a2.ext x,x.keep b _ a3 a4,x.out a3 a4⟩
 ·rename_i S0 ds;obtain⟨a,vs,rfl,s,l⟩:=zMB d1.1;refine⟨a,rfl,⟨vs,s.l⟩,q1.here (u:=Itl X.K a) w1 ⟨λα2 S2 H2=> ∃vs,SqL X.K H2 a vs/\DenL X.K α2 H2 ds vs/\SqF X.K H2 a vs,?_,⟨vs,s.l,l,s⟩,?_,bI⟩⟩
  ·intro i α2 S2 H2 ⟨vs2,a1,a2,a3⟩ w2;obtain⟨i1,i2⟩:=zMF (X:=X) (a:=a) (ds:=ds) i α2 S2 H2 ⟨vs2,a1,a2⟩ w2;refine⟨λhi=>⟨(i1 hi).1,λx H' y=>?_⟩,i2⟩;obtain⟨j1,j2,j3,j4⟩:=(i1 hi).2 x H' y;obtain⟨rfl,_⟩:=y;exact⟨j1,j2,⟨vs2,a1,a2,a3⟩,j4⟩
  ·intro α2 S2 H2 α3 S3 H3 ⟨vs2,a1,a2,a3⟩ x w3 _;exact⟨vs2,(x.sqF a3).l,a2.ext x,x.sqF a3⟩
 ·rename_i S0 n;obtain⟨a,rfl,h⟩:=zBQ d1.1;obtain⟨o,h1,h2⟩:=w1.of h;rw [h1]at q1
  cases o with
  |lst ds=>
   obtain⟨vs,h3,l⟩:=h2;refine⟨a,rfl,⟨vs,.of h3⟩,Post.here (b:=(⟨ds,[(n,ds)]⟩:Wk)) q1 (u:=Itl X.K a) w1 ⟨λα2 S2 H2=> ∃vs,SqL X.K H2 a vs/\DenL X.K α2 H2 ds vs/\α2[n]? =some a,?_,⟨vs,.of h3,l,h⟩,?_,?_⟩⟩
   ·intro i α2 S2 H2 ⟨vs2,a1,a2,a3⟩ w2;obtain⟨i1,i2⟩:=zMF (X:=X) (a:=a) (ds:=ds) i α2 S2 H2 ⟨vs2,a1,a2⟩ w2;refine⟨λhi=>⟨(i1 hi).1,λx H' y=>?_⟩,i2⟩;obtain⟨j1,j2,j3,j4⟩:=(i1 hi).2 x H' y;obtain⟨rfl,_⟩:=y;exact⟨j1,j2,⟨vs2,a1,a2,a3⟩,j4⟩
   ·intro α2 S2 H2 α3 S3 H3 ⟨vs2,a1,a2,a3⟩ x w3 hs;have a3':=x.at a3;have:=w3.obj n a _ a3' (hs (n,ds) (by simp));obtain⟨vs3,b1,b2⟩:=this;exact⟨vs3,.of b1,b2,a3'⟩
   ·intro p hp;have:p=(n,ds):=by simpa using hp
    subst this;exact h1
  |dic ds=>exact q1.elim
  |ins c fs=>exact q1.elim
 ·exact q1.elim
def itT:Er->Sto->R Wk
 |.val (.tup ds),S=>.ok ⟨ds,[]⟩ S
 |_,_=>.no
def zDY(he:PEm X W iter f):PIm X W tg iter (λρ S=>(f ρ S).bind itT):=by
 obtain⟨t,he,k⟩:=he;refine⟨_,yPI he,λα ρ S σ H Rc wd sl q=>k α ρ S σ H _ wd sl (q.bind λu p S1 α1 H1 e x1 w1 d1 q1=>?_)⟩
 replace q1:=q1.shift x1
 unfold itT at q1;split at q1
 ·rename_i S0 ds;obtain⟨a,vs,rfl,s,l⟩:=bS d1.1;exact⟨a,rfl,⟨vs,s⟩,q1.here (u:=Itt X.K a) w1 ⟨_,yKO,⟨vs,s,l⟩,λα2 S2 H2 α3 S3 H3 ⟨vs2,a1,a2⟩ x w3 _=>⟨vs2,x.sqT a1,a2.ext x⟩,bI⟩⟩
 ·exact q1.elim
def zAS:List Er->Sto->R Wk
 |[.val (.int j)],S=>if -(2 ^ 62)<=j/\j<2 ^ 62 then .ok ⟨(List.range j.toNat).map λk=>.int (k:Nat),[]⟩ S else .no
 |_,_=>.no
variable{af:Rho->Sto->R (List Er)}{p:Pos}{a b:Expr}
def zQG{K:Be}{H0:Hp}{α:Ah}{H:Hp}{r:Er}{vs:List V}(d:ArgsE K H0 α H [r] vs): ∃v,vs=[v]/\DenX K α H r v:=by
 cases d with
 |cons a n l=>cases l;exact⟨_,rfl,a.1⟩
def args2{K:Be}{H0:Hp}{α:Ah}{H:Hp}{r r':Er}{vs:List V}(d:ArgsE K H0 α H [r,r'] vs): ∃v u,vs=[v,u]/\DenX K α H r v/\DenX K α H r' u:=by
 cases d with
 |cons a n l=>obtain⟨u,rfl,l'⟩:=zQG l;exact⟨_,u,rfl,a.1,l'⟩
def gK(hg:Gl X "range")(hm:X.mg "range"=none)(ha:PAm X W [a] af)(hs:starEach [a] X.env=[(false,eval a X.env)]:=by rfl):PIm X W tg (.Call (.Name "range" p) [a] [] pos) (λρ S=>(af ρ S).bind zAS):=by
 obtain⟨t,ha,k⟩:=ha;refine⟨_,yCP hg hm ha hs,λα ρ S σ H Rc wd sl q=>k α ρ S σ H _ wd sl (q.bind λvs rs S1 α1 H1 e x1 w1 d1 q1=>?_)⟩
 replace q1:=q1.shift x1
 unfold zAS at q1;split at q1
 ·split at q1
  ·rename_i S0 j hj;obtain⟨v,rfl,dv⟩:=zQG d1;cases yW dv;have:=yDE (X:=X) (lo:=0) (n:=j.toNat);simp only [Int.zero_add]at this;exact⟨j,rfl,hj.1,hj.2,q1.here (u:=Itr 0 j.toNat) w1 ⟨_,this,trivial,λ_ _ _ _ _ _ _ _ _ _=>trivial,bI⟩⟩
  ·exact q1.elim
 ·exact q1.elim
open Classical in
def bT(gf:MV->Rho->Sto->R Rho)(body:AY)(gs:Ca):List MV->AY
 |[],ρ,S=>.ok (.next ρ) S
 |d::ds,ρ,S=>(gf d ρ S).bind λρ0 S0=>(body ρ0 S0).bind λfl S1=>match fl with
  |.next ρ'=>if stay gs S1 then bT gf body gs ds ρ' S1 else .no
  |.cont ρ'=>if stay gs S1 then bT gf body gs ds ρ' S1 else .no
  |.brk ρ'=>.ok (.next ρ') S1
  |.ret r=>.ok (.ret r) S1
open Classical in
def cV{itf:Rho->Sto->R Wk}{gf:MV->Rho->Sto->R Rho}(hp:PassesOwn (model X.prog X.w) X.A X.env X.xe)(hc:X.calm=true)(hi:PIm X W tg iter itf)(hg:PGm X W tg gf)(hb:zRU X W as F)
  (hs: ∀y,foldedSetIterable iter X.env y=pure y:=by intro _;rfl):PSm X W (.For tg iter as [] pos) (λρ S=>(itf ρ S).bind λk S1=>bT gf F k.gs k.ds ρ S1):=by
 obtain⟨wi,hi,ki⟩:=hi;obtain⟨tg',hg,kg⟩:=hg;obtain⟨tb,hb,kb⟩:=hb;refine⟨_,yPJ hp hc hi hg hb hs,λα ρ S σ H D wd sl q=>ki α ρ S σ H _ wd sl (q.expr λJ k S1 α1 H1 e x1 w1 d1 q1=>?_)⟩;obtain⟨P,hP⟩:=d1;have sl1:=sl.ext x1
 replace q1:=PostS.shift x1 q1
 refine⟨λn m σ2 H2=>m=k.ds.length - n/\n<=k.ds.length/\ ∃α2 ρ2 S2,Wd X.g α2 S2 H2/\Slots X.K α2 H2 ρ2 σ2/\P α2 S2 H2/\PostS X.g W α2 H2 D (bT gf F k.gs (k.ds.drop n) ρ2 S2),⟨_,rfl,zero_le _,α1,ρ,S1,w1,sl1,hP.here,by simpa using q1⟩,?_⟩;rintro n m σ2 H2 ⟨rfl,hn,α2,ρ2,S2,w2,sl2,p2,q2⟩;obtain⟨i1,i2⟩:=hP.it n α2 S2 H2 p2 w2;by_cases hlt:n<k.ds.length
 ·obtain⟨go,yl⟩:=i1 hlt;refine .inr ⟨go,λσ3 H3=> ∃α3 ρ3 S3,Wd X.g α3 S3 H3/\Slots X.K α3 H3 ρ3 σ3/\P α3 S3 H3/\PostS X.g W α3 H3 D (bT gf F k.gs (k.ds.drop (n+1)) ρ3 S3),λσ3 H3 ⟨α3,ρ3,S3,h3⟩=>⟨k.ds.length - (n+1),by omega,rfl,hlt,α3,ρ3,S3,h3⟩,λv H3 y=>?_⟩;obtain⟨x3,w3,p3,d,hd,dv⟩:=yl v H3 y;have hdrop:k.ds.drop n=d::k.ds.drop (n+1):=by rw [List.drop_eq_getElem_cons hlt];have:=gE0 hlt;rw [hd]at this;rw [<-Option.some.inj this]
  rw [hdrop]at q2;unfold bT at q2
  replace q2:=PostS.shift x3 q2
  refine kg α2 ρ2 S2 σ2 H3 d v _ w3 (sl2.ext x3) dv (q2.expr λσ4 ρ4 S4 α4 H4 e4 x4 w4 s4 q4=>?_);have p4: ∀α5 S5 H5,Ext α4 H4 α5 H5->Wd X.g α5 S5 H5->stay k.gs S5->P α5 S5 H5:=λα5 S5 H5 x5 w5 s5=>hP.stays α2 S2 H3 α5 S5 H5 p3 (x4.trans x5) w5 s5;refine kb α4 ρ4 S4 σ4 H4 _ w4 s4 ((PostS.shift x4 q4).stmt ?_ ?_ ?_ ?_)
  ·intro ρ5 S5 σ5 α5 H5 e5 x5 w5 s5 q5;have q5':PostS X.g W α4 H4 D (if stay k.gs S5 then bT gf F k.gs (k.ds.drop (n+1)) ρ5 S5 else .no):=q5;split at q5'
   ·rename_i hst;exact⟨α5,ρ5,S5,w5,s5,p4 α5 S5 H5 x5 w5 hst,PostS.shift x5 q5'⟩
   ·exact q5'.elim
  ·intro r S5 v5 α5 H5 e5 x5 w5 d5 q5;exact q5 v5 α5 H5 x5 w5 d5
  ·intro ρ5 S5 σ5 α5 H5 e5 x5 w5 s5 q5;exact q5 σ5 α5 H5 x5 w5 s5
  ·intro ρ5 S5 σ5 α5 H5 e5 x5 w5 s5 q5;have q5':PostS X.g W α4 H4 D (if stay k.gs S5 then bT gf F k.gs (k.ds.drop (n+1)) ρ5 S5 else .no):=q5;split at q5'
   ·rename_i hst;exact⟨α5,ρ5,S5,w5,s5,p4 α5 S5 H5 x5 w5 hst,PostS.shift x5 q5'⟩
   ·exact q5'.elim
 ·have e:n=k.ds.length:=by omega
  subst e;refine .inl ⟨i2 (le_refl _),?_⟩;rw [List.drop_length]at q2;exact q2 σ2 α2 H2 (Ext.refl _ _) w2 sl2
def gM(t:AZ)(b:AY):Nat->AY
 |0,_,_=>.no
 |n+1,ρ,S=>(t ρ S).bind λk S1=>if k=true then(b ρ S1).bind λfl S2=>match fl with
   |.next ρ'=>gM t b n ρ' S2
   |.cont ρ'=>gM t b n ρ' S2
   |.brk ρ'=>.ok (.next ρ') S2
   |.ret r=>.ok (.ret r) S2
  else .ok (.next ρ) S1
def yGL(N:Nat)(hp:PassesOwn (model X.prog X.w) X.A X.env X.xe)(hc:PTm X W c tf)(hb:zRU X W as F):PSm X W (.While c as [] pos) (λρ S=>gM tf F N ρ S):=by
 obtain⟨tc,hc,kc⟩:=hc;obtain⟨tb,hb,kb⟩:=hb;refine⟨_,yFJ hp hc hb,λα ρ S σ H D wd sl q=>⟨λm σ1 H1=> ∃α1 ρ1 S1,Wd X.g α1 S1 H1/\Slots X.K α1 H1 ρ1 σ1/\PostS X.g W α1 H1 D (gM tf F m ρ1 S1),⟨N,α,ρ,S,wd,sl,q⟩,?_⟩⟩;rintro m σ1 H1 ⟨α1,ρ1,S1,w1,sl1,q1⟩
 cases m with
 |zero=>exact q1.elim
 |succ n=>
  unfold gM at q1;refine kc α1 ρ1 S1 σ1 H1 _ w1 sl1 (q1.expr λu p S2 α2 H2 e2 x2 w2 d2 q2=>?_);cases d2
  replace q2:=PostS.shift x2 q2
  cases u with
  |false=>rw [iN xF0]at q2 ⊢; exact q2 σ1 α2 H2 (Ext.refl _ _) w2 (sl1.ext x2)
  |true=>
   rw [iP rfl]at q2 ⊢;refine⟨λσ3 H3=> ∃α3 ρ3 S3,Wd X.g α3 S3 H3/\Slots X.K α3 H3 ρ3 σ3/\PostS X.g W α3 H3 D (gM tf F n ρ3 S3),λσ' H' h=>⟨n,lt_succ_self n,h⟩,kb α2 ρ1 S2 σ1 H2 _ w2 (sl1.ext x2) (q2.stmt ?_ ?_ ?_ ?_)⟩
   ·intro ρ5 S5 σ5 α5 H5 e5 x5 w5 s5 q5;exact⟨α5,ρ5,S5,w5,s5,PostS.shift x5 q5⟩
   ·intro r S5 v5 α5 H5 e5 x5 w5 d5 q5;exact q5 v5 α5 H5 x5 w5 d5
   ·intro ρ5 S5 σ5 α5 H5 e5 x5 w5 s5 q5;exact q5 σ5 α5 H5 x5 w5 s5
   ·intro ρ5 S5 σ5 α5 H5 e5 x5 w5 s5 q5;exact⟨α5,ρ5,S5,w5,s5,PostS.shift x5 q5⟩
end
def noX{β:Type}:R β->R β
 |.ok b S=>.ok b S
 |_=>.no
theorem yL{β:Type}(b:β)(S:Sto):noX (R.ok b S)=.ok b S:=rfl
def Post.bindY{β τ γ υ:Type}[Dn β τ][Dn γ υ]{g:Gm}{W:XW}{α α':Ah}{H H':Hp}(x:Ext α H α' H'){m:R β}{k:β->Sto->R γ}{Q:υ->Hp->Prop}{Q':τ->Hp->Prop}(q:Post g W α H ((noX m).bind k) Q)
  (f: ∀u b S1 α1 H1,m=.ok b S1->Ext α' H' α1 H1->Wd g α1 S1 H1->Dn.d g H' α1 S1 H1 b u->Post g W α H (k b S1) Q->Q' u H1):Post g W0 α' H' m Q':=by
 cases m with
 |ok b S=>exact λu α1 H1 x w d=>f u b S α1 H1 rfl x w d q
 |exc c fs S=>exact q.elim
 |no=>exact q
theorem R.bind_assoc{β γ δ:Type}(m:R β)(k1:β->Sto->R γ)(k2:γ->Sto->R δ):(m.bind k1).bind k2=m.bind λb S=>(k1 b S).bind k2:=by cases m<;>rfl
def blk(nt:Nat)(idx:Ab)(ρ:Rho):Rho:=List.replicate nt none++idx.map λi=>(ρ[i]?).join
open Classical in
def yD(gf:MV->Rho->Sto->R Rho)(cf:AZ)(ef:AX)(ρb:Rho)(gs:Ca):List MV->Sto->R (List MV)
 |[],S=>.ok [] S
 |d::ds,S=>(noX (gf d ρb S)).bind λρ1 S0=>(noX (cf ρ1 S0)).bind λk S1=>
  if k=true then(noX (ef ρ1 S1)).bind λr S2=>(gI r S2).bind λy S3=>if stay gs S3 then(yD gf cf ef ρb gs ds S3).bind λout S4=>.ok (y::out) S4 else .no
  else if stay gs S1 then yD gf cf ef ρb gs ds S1 else .no
theorem yDF{K:Be}{α:Ah}{H:Hp}{ρ:Rho}{σ:St}(q:Slots K α H ρ σ)(nt:Nat)(idx:Ab)(τ:St)(hτ:τ.length=nt):Slots K α H (blk nt idx ρ) (τ++zIS σ idx):=by
 refine⟨by unfold blk;rw [lA,lA,nI,lM,length_replicate,hτ],λi d e=>?_⟩;unfold blk at e;by_cases hi:i<nt
 ·rw [getElem?_append_left (by rw [length_replicate];exact hi),List.getElem?_replicate]at e;split at e<;>cases e
 ·rw [getElem?_append_right (by rw [length_replicate];omega),length_replicate,getElem?_map]at e
  cases z:idx[i - nt]? with
  |none=>rw [z]at e;cases e
  |some k=>
   rw [z]at e;have e2:(ρ[k]?).join=some d:=Option.some.inj e
   cases z2:ρ[k]? with
   |none=>rw [z2]at e2;cases e2
   |some o=>
    rw [z2]at e2;have e3:o=some d:=e2;subst e3;obtain⟨v,h1,h2⟩:=q.slot k d z2;refine⟨v,?_,h2⟩;rw [getElem?_append_right (by omega),hτ];unfold zIS;rw [getElem?_map,z];show some (σ[k]?).join=some (some v);rw [h1];rfl
def Keeps(nt:Nat)(σ:St)(Q:St->Hp->Prop):St->Hp->Prop:=λσ' H'=>σ'.length=σ.length->(∀j,nt<=j->σ'[j]? =σ[j]?)->Q σ' H'
def PGn(nt:Nat)(X:Cx)(W:XW)(tg:Expr)(gf:MV->Rho->Sto->R Rho):Prop:=
 ∃t,PG X tg t/\ ∀α ρ S σ H d v Q,Wd X.g α S H->Slots X.K α H ρ σ->Den X.K α H d v->Post X.g W α H (gf d ρ S) (Keeps nt σ Q)->t v σ H Q
def PGsn(nt:Nat)(X:Cx)(W:XW)(tgs:Bd)(gf:List MV->Rho->Sto->R Rho):Prop:=
 ∃t,PGs X tgs t/\ ∀α ρ S σ H ds vs Q,Wd X.g α S H->Slots X.K α H ρ σ->DenL X.K α H ds vs->Post X.g W α H (gf ds ρ S) (Keeps nt σ Q)->t vs σ H Q
section
variable{X:Cx}{W:XW}{e:Expr}{pos:Pos}{nt:Nat}
def zW(i:Nat){x:Str}(hN:X.N.Nodup)(hi:X.N[i]? =some x:=by rfl)(hx:Loc X.env.scope x:=by first |exact Or.inl rfl|exact Or.inr rfl)(hf:X.fn x=true\/X.env.scope.names.lookup x=some .local:=by first |exact .inl rfl|exact .inr rfl|assumption)(hlt:i<nt:=by decide):
  PGn nt X W (.Name x pos) (gNm i):=⟨_,zZX hN hi hx hf,λα ρ S σ H d v Q wd sl de q=>Post.here (b:=ρ.set i (some d)) q wd (sl.set de) (by rw [length_set]) λj hj=>by rw [getElem?_set_ne (by omega)]⟩
def zIX:PGsn nt X W [] xY:=⟨_,zZY,λα ρ S σ H ds vs Q wd sl de q=>by
 cases ds with
 |nil=>exact⟨de.isnil,Post.here (b:=ρ) q wd sl rfl λ_ _=>rfl⟩
 |cons d ds=>exact q.elim⟩
def Post.keeps{g:Gm}{W:XW}{α:Ah}{H:Hp}{m:R Rho}{σ σ1:St}{Q:St->Hp->Prop}(h1:σ1.length=σ.length)(h2: ∀j,nt<=j->σ1[j]? =σ[j]?)(q:Post g W α H m (Keeps nt σ Q)):Post g W α H m (Keeps nt σ1 Q):=by
 cases m with
 |ok b S=>exact λu α1 H1 x w d k1 k2=>q u α1 H1 x w d (k1.trans h1) λj hj=>(k2 j hj).trans (h2 j hj)
 |exc c fs S=>exact q
 |no=>exact q
def kZ{es:Bd}{g1:MV->Rho->Sto->R Rho}{g2:List MV->Rho->Sto->R Rho}(h1:PGn nt X W e g1)(h2:PGsn nt X W es g2)(hs:(assignEach (e::es) X.env).map (·.2)=assign e X.env::(assignEach es X.env).map (·.2):=by rfl):PGsn nt X W (e::es) (zP g1 g2):=by
 obtain⟨t1,h1,k1⟩:=h1;obtain⟨t2,h2,k2⟩:=h2;refine⟨_,zUK h1 h2 hs,λα ρ S σ H ds vs Q wd sl de q=>?_⟩
 cases ds with
 |nil=>exact q.elim
 |cons d ds=>
  obtain⟨v,r,rfl,a,l⟩:=de.uncons;refine⟨v,r,rfl,k1 α ρ S σ H d v _ wd sl a (Post.bind q λu p S1 α1 H1 e x1 w1 d1 q1 k1 k2'=>k2 α1 p S1 u H1 ds r Q w1 d1 (l.ext x1) (Post.keeps k1 k2' (q1.shift x1)))⟩
def zIY{es:Bd}{k n:Nat}{g2:List MV->Rho->Sto->R Rho}(hc:X.calm=true)(h:PGsn nt X W es g2)
  (hn:(assignEach es X.env).length=n:=by rfl) (hst:(assignEach es X.env).findIdx? (·.1)=none:=by rfl):PGn nt X W (.Tuple es k pos) (gTp n g2):=by
 obtain⟨t,h,k⟩:=h;refine⟨_,yFI hc h hn hst,λα ρ S σ H d v Q wd sl de q=>?_⟩;unfold gTp at q;split at q
 ·split at q
  ·rename_i hl;obtain⟨a,vs,rfl,s,l⟩:=xC de;exact⟨a,vs,rfl,s,by rw [l.length];exact hl,k α ρ S σ H _ vs Q wd sl l q⟩
  ·exact q.elim
 ·exact q.elim
end
abbrev yGM(X:Cx)(W:XW)(ifs:Bd)(f:AZ):Prop:=Jd X W (yDA X ifs) f
section
variable{X:Cx}{W:XW}{iter:Expr}{c:Expr}{tf:AZ}{pos:Pos}
def xU:yGM X W [] (λ_ S=>.ok true S):=⟨_,yGA,λα ρ S σ H Q wd sl q=>q.here wd rfl⟩
def jN(h:PTm X W c tf):yGM X W [c] tf:=let ⟨t,h,k⟩:=h;⟨t,yGB h,k⟩
open Classical in
def yAI{elt tg:Expr}{ifs:Bd}{sc:Scope}{itf:Rho->Sto->R Wk}{cf:AZ}{ef:AX}{gf:MV->Rho->Sto->R Rho}(osc:Scope)(N:Ai)(T:Ai)(idx:Ab)
  (hi:PIm X W tg iter itf) (hcalm:X.calm=true)
  (hg: ∀C s₂ H1 fp,([]++T++idx.map λi=>(N[i]?).getD Str.empty).Nodup->PGn T.length (yC X sc T idx C s₂ H1 fp) W0 tg gf)
  (hc: ∀C s₂ H1 fp,yGM (yC X sc T idx C s₂ H1 fp) W0 ifs cf) (he: ∀C s₂ H1 fp,PEm (yC X sc T idx C s₂ H1 fp) W0 elt ef)
  (e1:X.env.scope=osc:=by rfl) (e2:X.N=N:=by rfl) (hB:zKM osc N sc idx=true:=by decide+kernel) (hN:([]++T++idx.map λi=>(N[i]?).getD Str.empty).Nodup:=by decide+kernel)
  (hs: ∀y,foldedSetIterable iter X.env y=pure y:=by intro _;rfl):
  Jd (β:=Er) (τ:=V) X W (λt=>PE X (.ListComp elt [⟨tg,iter,ifs,0⟩] sc pos) t/\PU X (.ListComp elt [⟨tg,iter,ifs,0⟩] sc pos) t) (λρ S=>(itf ρ S).bind λk S1=>if k.ds.length<1000000 then(yD gf cf ef (blk T.length idx ρ) k.gs k.ds S1).bind λout S2=>.ok (.new out) S2 else .no):=by
 obtain⟨wi,hi,ki⟩:=hi;subst e1 e2;have big:(1000000:Nat)<sizeLine:=by rw [sizeLine_eq];decide
 have hg': ∃t,(∀C s₂ H1 fp,PG (yC X sc T idx C s₂ H1 fp) tg t)/\ ∀α ρ S σ H d v Q,Wd X.g α S H->Slots X.K α H ρ σ->Den X.K α H d v->Post X.g W0 α H (gf d ρ S) (Keeps T.length σ Q)->t v σ H Q:=by refine⟨λv σ H Q=> ∃α ρ S d,Wd X.g α S H/\Slots X.K α H ρ σ/\Den X.K α H d v/\Post X.g W0 α H (gf d ρ S) (Keeps T.length σ Q),λC s₂ H1 fp pins s σ H v u Q I r ⟨α,ρ,S,d,h1,h2,h3,h4⟩=>?_,λα ρ S σ H d v Q h1 h2 h3 h4=>⟨α,ρ,S,d,h1,h2,h3,h4⟩⟩;obtain⟨t,ht,kt⟩:=hg C s₂ H1 fp hN;exact ht pins s σ H v u Q I r (kt α ρ S σ H d v Q h1 h2 h3 h4)
 obtain⟨tg',hg1,kg⟩:=hg';refine⟨_,⟨yKJ T idx hi hcalm hB hg1 (λC s₂ H1 fp=>(Classical.choose_spec (hc C s₂ H1 fp)).1) (λC s₂ H1 fp=>(Classical.choose_spec (he C s₂ H1 fp)).1) hs,yKM T idx hi hcalm hB hg1 (λC s₂ H1 fp=>(Classical.choose_spec (hc C s₂ H1 fp)).1) (λC s₂ H1 fp=>(Classical.choose_spec (he C s₂ H1 fp)).1) hs⟩,λα ρ S σ H Q wd sl q=>ki α ρ S σ H _ wd sl (q.bind λJ k S1 α1 H1 e1 x1 w1 d1 q1=>?_)⟩;obtain⟨P,hP⟩:=d1;split at q1
 ·rename_i hlen
  refine⟨λn m ys H2=>m=k.ds.length - n/\n<=k.ds.length/\ys.length<=n/\ ∃α2 S2,Ext α H α2 H2/\Wd X.g α2 S2 H2/\P α2 S2 H2/\ ∃outs,DenL X.K α2 H2 outs ys/\Post X.g W α H ((yD gf cf ef (blk T.length idx ρ) k.gs (k.ds.drop n) S2).bind λo S'=>.ok (Er.new (outs++o)) S') Q,
   ⟨_,rfl,zero_le _,le_refl _,α1,S1,x1,w1,hP.here,[],yI,by simpa using q1⟩,?_⟩
  rintro n m ys H2 ⟨rfl,hn,hy,α2,S2,x2,w2,p2,outs,l,q2⟩;obtain⟨i1,i2⟩:=hP.it n α2 S2 H2 p2 w2;refine⟨by omega,?_⟩;by_cases hlt:n<k.ds.length
  ·obtain⟨go,yl⟩:=i1 hlt;refine .inr ⟨go,by omega,λv H3 y τ hτ=>?_⟩;obtain⟨x3,w3,p3,d,hd,dv⟩:=yl v H3 y;have hdrop:k.ds.drop n=d::k.ds.drop (n+1):=by rw [List.drop_eq_getElem_cons hlt];have:=gE0 hlt;rw [hd]at this;rw [<-Option.some.inj this]
   rw [hdrop]at q2;unfold yD at q2;have slb:=yDF (sl.ext (x2.trans x3)) T.length idx τ hτ;refine kg α2 (blk T.length idx ρ) S2 _ H3 d v _ w3 slb dv ?_;rw [R.bind_assoc]at q2;refine q2.bindY (x2.trans x3) λσ4 ρ4 S4 α4 H4 e4 x4 w4 s4 q4 len4 kp4=>⟨⟨σ4.take T.length,?_,?_⟩,λC s₂ fp=>?_⟩
   ·refine ext_getElem? λj=>?_;have hl4:σ4.length=T.length+idx.length:=by rw [len4,lA,nI,hτ]
    by_cases hj:j<T.length
    ·rw [getElem?_append_left (by rw [lT];omega),getElem?_take_of_lt hj]
    ·rw [kp4 j (by omega),getElem?_append_right (by omega),getElem?_append_right (by rw [lT];omega),hτ,lT,min_eq_left (by omega)]
   ·rw [lT,len4,lA,nI,hτ];omega
   have x34:Ext α H α4 H4:=(x2.trans x3).trans x4;have p4: ∀α5 S5 H5,Ext α4 H4 α5 H5->Wd X.g α5 S5 H5->stay k.gs S5->P α5 S5 H5:=λα5 S5 H5 x5 w5 s5=>hP.stays α2 S2 H3 α5 S5 H5 p3 (x4.trans x5) w5 s5;rw [R.bind_assoc]at q4;refine(Classical.choose_spec (hc C s₂ H1 fp)).2 α4 ρ4 S4 σ4 H4 _ w4 s4 (q4.bindY x34 λb5 b5' S5 α5 H5 e5 x5 w5 d5 q5=>?_);cases d5
   cases b5 with
   |false=>
    rw [iN xF0]at q5 ⊢;split at q5
    ·rename_i hst;exact⟨k.ds.length - (n+1),by omega,rfl,hlt,by omega,α5,S5,x34.trans x5,w5,p4 α5 S5 H5 x5 w5 hst,outs,(l.ext (x3.trans x4)).ext x5,q5⟩
    ·exact q5.elim
   |true=>
    rw [iP rfl,R.bind_assoc]at q5;rw [iP rfl];refine(Classical.choose_spec (he C s₂ H1 fp)).2 α5 ρ4 S5 σ4 H5 _ w5 (s4.ext x5) (q5.bindY (x34.trans x5) λy6 r6 S6 α6 H6 e6 x6 w6 d6 q6=>?_);obtain⟨d',S',α',e7,x7,y7,w7,de⟩:=zAR w6 x6 d6;rw [e7]at q6;have q6:Post X.g W α H ((if stay k.gs S' then(yD gf cf ef (blk T.length idx ρ) k.gs (k.ds.drop (n+1)) S').bind λout S4=>.ok (d'::out) S4 else .no).bind λo S'=>.ok (Er.new (outs++o)) S') Q:=q6;split at q6
    ·rename_i hst;refine⟨k.ds.length - (n+1),by omega,rfl,hlt,by rw [lA,lS];omega,α',S',(x34.trans x5).trans x7,w7,p4 α' S' H6 (x5.trans x7) w7 hst,outs++[d'],((l.ext (x3.trans x4)).ext (x5.trans x7)).append (yB de yI),?_⟩;rw [R.bind_assoc]at q6;have e8:(λ(o:Bh) (S':Sto)=>R.ok (Er.new ((outs++[d'])++o)) S')=(λ(b:Bh) S=>(R.ok (d'::b) S).bind λo S'=>.ok (Er.new (outs++o)) S'):=by funext o S';show _=R.ok (Er.new (outs++(d'::o))) S';rw [aA];rfl
     rw [e8];exact q6
    ·exact q6.elim
  ·have e:n=k.ds.length:=by omega
   subst e;rw [List.drop_length]at q2;have q3:Post X.g W α H (.ok (Er.new (outs++[])) S2) Q:=q2;rw [aN]at q3;exact .inl ⟨i2 (le_refl _),λD hD=>(q3.shift x2).newl w2 hD l⟩
 ·exact q1.elim
open Classical in
def yX{elt tg:Expr}{ifs:Bd}{sc:Scope}{itf:Rho->Sto->R Wk}{cf:AZ}{ef:AX}{gf:MV->Rho->Sto->R Rho}(osc:Scope)(N:Ai)(T:Ai)(idx:Ab)
  (hi:PIm X W tg iter itf) (hcalm:X.calm=true)
  (hg: ∀C s₂ H1 fp,([]++T++idx.map λi=>(N[i]?).getD Str.empty).Nodup->PGn T.length (yC X sc T idx C s₂ H1 fp) W0 tg gf)
  (hc: ∀C s₂ H1 fp,yGM (yC X sc T idx C s₂ H1 fp) W0 ifs cf) (he: ∀C s₂ H1 fp,PEm (yC X sc T idx C s₂ H1 fp) W0 elt ef)
  (e1:X.env.scope=osc:=by rfl) (e2:X.N=N:=by rfl) (hB:zKM osc N sc idx=true:=by decide+kernel) (hN:([]++T++idx.map λi=>(N[i]?).getD Str.empty).Nodup:=by decide+kernel)
  (hs: ∀y,foldedSetIterable iter X.env y=pure y:=by intro _;rfl):
  PEm X W (.ListComp elt [⟨tg,iter,ifs,0⟩] sc pos) (λρ S=>(itf ρ S).bind λk S1=>if k.ds.length<1000000 then(yD gf cf ef (blk T.length idx ρ) k.gs k.ds S1).bind λout S2=>.ok (.new out) S2 else .no):=let ⟨t,h,k⟩:=(yAI osc N T idx hi hcalm hg hc he e1 e2 hB hN hs);⟨t,h.1,k⟩
open Classical in
def nM{x:Str}{pos' spos:Pos}(i:Nat)(hNN:X.N.Nodup){elt tg:Expr}{ifs:Bd}{sc:Scope}{itf:Rho->Sto->R Wk}{cf:AZ}{ef:AX}{gf:MV->Rho->Sto->R Rho}(osc:Scope)(N:Ai)(T:Ai)(idx:Ab)
  (hi:PIm X W tg iter itf) (hcalm:X.calm=true)
  (hg: ∀C s₂ H1 fp,([]++T++idx.map λi=>(N[i]?).getD Str.empty).Nodup->PGn T.length (yC X sc T idx C s₂ H1 fp) W0 tg gf)
  (hc: ∀C s₂ H1 fp,yGM (yC X sc T idx C s₂ H1 fp) W0 ifs cf) (he: ∀C s₂ H1 fp,PEm (yC X sc T idx C s₂ H1 fp) W0 elt ef)
  (e1:X.env.scope=osc:=by rfl) (e2:X.N=N:=by rfl) (hB:zKM osc N sc idx=true:=by decide+kernel) (hN:([]++T++idx.map λi=>(N[i]?).getD Str.empty).Nodup:=by decide+kernel)
  (hs: ∀y,foldedSetIterable iter X.env y=pure y:=by intro _;rfl)
  (hi2:X.N[i]? =some x:=by rfl) (hx:Loc X.env.scope x:=by first |exact Or.inl rfl|exact Or.inr rfl)
  (hsw:swapsWith (.ListComp elt [⟨tg,iter,ifs,0⟩] sc pos) (some (.Name x pos')) spos.line X.env=pure true:=by with_unfolding_all rfl) (hf:X.fn x=true\/X.env.scope.names.lookup x=some .local:=by first |exact .inl rfl|exact .inr rfl|assumption):
  PSm X W (.Assign [.Name x pos'] (.ListComp elt [⟨tg,iter,ifs,0⟩] sc pos) spos) (λρ S=>((itf ρ S).bind λk S1=>if k.ds.length<1000000 then(yD gf cf ef (blk T.length idx ρ) k.gs k.ds S1).bind λout S2=>.ok (.new out) S2 else .no).bind (zRX ρ i)):=by
 obtain⟨t,h,k⟩:=(yAI osc N T idx hi hcalm hg hc he e1 e2 hB hN hs)
 refine⟨_,h.2 i x pos' spos hNN hi2 hx hf hsw,λα ρ S σ H D wd sl q=>k α ρ S σ H _ wd sl (q.expr λu r S1 α1 H1 e x1 w1 d1 q1=>?_)⟩;obtain⟨d',S',α',e1,x',y',w',de⟩:=zAR w1 x1 d1;unfold zRX at q1;rw [e1]at q1;exact q1 _ α' H1 x' w' (((sl.ext x1).ex0 y').set de)
end
mutual
def lo(n:Nat):MV->Prop
 |.loc l=>l<n
 |.tup ds=>loL n ds
 |.scr ds=>loL n ds
 |.obj _ _ ds=>loL n ds
 |_=>True
def loL(n:Nat):List MV->Prop
 |[]=>True
 |d::ds=>lo n d/\loL n ds
end

def loO(n:Nat):MO->Prop
 |.lst ds=>loL n ds
 |.dic kvs=> ∀p∈kvs,lo n p.1/\lo n p.2
 |.ins _ fs=> ∀p∈fs,lo n p.2
section
variable{K:Be}{α t:Ah}{H:Hp}
mutual
theorem Den.back: ∀{d:MV}{v:V},Den K (α++t) H d v->lo α.length d->Den K α H d v
 |.non,_,q,_=>by cases cS q;exact zLH
 |.bl _,_,q,_=>by cases zAQ q;exact kH _
 |.int _,_,q,_=>by cases yV q;exact xF _
 |.str _,_,q,_=>by cases xG q;exact zBO _
 |.typ _,_,q,_=>by cases bR q;exact yAE _
 |.obj c ns ds,_,q,h=>by obtain⟨a,C,dx,vs,o,rfl,e,hn,hc,hl,l⟩:=gF q;exact yAG e hn hc hl (DenL.back l (by unfold lo at h;exact h))
 |.loc l,_,q,h=>by
  obtain⟨a,rfl,e⟩:=jM q;have hl:l<α.length:=by unfold lo at h;exact h
  rw [getElem?_append_left hl]at e;exact zLI e
 |.tup ds,_,q,h=>by obtain⟨a,vs,rfl,s,l⟩:=xC q;exact zBP s (DenL.back l (by unfold lo at h;exact h))
 |.scr ds,_,q,h=>by obtain⟨a,vs,rfl,s,l⟩:=gG q;exact yAF s (DenL.back l (by unfold lo at h;exact h))
theorem DenL.back: ∀{ds:Bh}{vs:List V},DenL K (α++t) H ds vs->loL α.length ds->DenL K α H ds vs
 |[],_,q,_=>by rw [q.isnil];exact yI
 |d::ds,_,q,h=>by obtain⟨v,r,rfl,a,l⟩:=q.uncons;unfold loL at h;exact yB (Den.back a h.1) (DenL.back l h.2)
end

mutual
theorem Den.lo: ∀{d:MV}{v:V},Den K α H d v->lo α.length d
 |.non,_,q=>by unfold M.lo;trivial
 |.bl _,_,q=>by unfold M.lo;trivial
 |.int _,_,q=>by unfold M.lo;trivial
 |.str _,_,q=>by unfold M.lo;trivial
 |.typ _,_,q=>by unfold M.lo;trivial
 |.obj c ns ds,_,q=>by obtain⟨a,C,dx,vs,o,rfl,e,hn,hc,hl,l⟩:=gF q;unfold M.lo;exact DenL.lo l
 |.loc l,_,q=>by obtain⟨a,rfl,e⟩:=jM q;unfold M.lo;exact(gS0.mp e).1
 |.tup ds,_,q=>by obtain⟨a,vs,rfl,s,l⟩:=xC q;unfold M.lo;exact DenL.lo l
 |.scr ds,_,q=>by obtain⟨a,vs,rfl,s,l⟩:=gG q;unfold M.lo;exact DenL.lo l
theorem DenL.lo: ∀{ds:Bh}{vs:List V},DenL K α H ds vs->loL α.length ds
 |[],_,q=>by unfold loL;trivial
 |d::ds,_,q=>by obtain⟨v,r,rfl,a,l⟩:=q.uncons;unfold loL;exact⟨Den.lo a,DenL.lo l⟩
end

theorem DenK.back: ∀{fs gs},DenK K (α++t) H fs gs->(∀p∈fs,M.lo α.length p.1/\M.lo α.length p.2)->DenK K α H fs gs
 |_,_,.nil,_=>.nil
 |_,_,.cons k a l,h=>.cons k (a.back (h _ mF0).2) (DenK.back l λp hp=>h p (mO _ hp))
def KeyD.lo{n:Nat}{k:MV}{k':Key}(h:KeyD k k'):M.lo n k:=by
 unfold KeyD at h;split at h
 ·unfold M.lo;trivial
 ·unfold M.lo;trivial
 ·exact h.elim
theorem DenK.lo: ∀{fs gs},DenK K α H fs gs-> ∀p∈fs,M.lo α.length p.1/\M.lo α.length p.2
 |_,_,.nil=>λp h=>by simp at h
 |_,_,.cons k a l=>λp h=>(mC.mp h).elim (λe=>by subst e;exact⟨k.lo,a.lo⟩) (DenK.lo l p)
theorem DenF.back: ∀{fs gs},DenF K (α++t) H fs gs->(∀p∈fs,M.lo α.length p.2)->DenF K α H fs gs
 |_,_,.nil,_=>.nil
 |_,_,.cons a l,h=>.cons (a.back (h _ mF0)) (DenF.back l λp hp=>h p (mO _ hp))
theorem DenF.lo: ∀{fs gs},DenF K α H fs gs-> ∀p∈fs,M.lo α.length p.2
 |_,_,.nil=>λp h=>by simp at h
 |_,_,.cons a l=>λp h=>(mC.mp h).elim (λe=>by subst e;exact a.lo) (DenF.lo l p)
def ObD.back{g:Gm}{a:Addr}{o:MO}(q:ObD g (α++t) H a o)(h:loO α.length o):ObD g α H a o:=by
 cases o with
 |lst ds=>obtain⟨vs,h1,l⟩:=q;exact⟨vs,h1,l.back h⟩
 |dic ds=>
  rcases q with⟨vs,h1,l⟩|z
  ·exact .inl ⟨vs,h1,l.back h⟩
  ·exact False.elim z
 |ins c fs=>obtain⟨C,gs,m,l,r⟩:=q;exact⟨C,gs,m,l.back h,r⟩
def ObD.lo{g:Gm}{a:Addr}{o:MO}(q:ObD g α H a o):loO α.length o:=by
 cases o with
 |lst ds=>obtain⟨vs,h1,l⟩:=q;exact l.lo
 |dic ds=>
  rcases q with⟨vs,h1,l⟩|z
  ·exact l.lo
  ·exact False.elim z
 |ins c fs=>obtain⟨C,gs,m,l,r⟩:=q;exact l.lo
end
def yAJ(S S2:Sto):Prop:=S.length<=S2.length/\ ∀l,l<S.length->S2[l]? =S[l]? \/ ∃o,S2[l]? =some o/\loO S.length o
open Classical in
def bK(S:Sto)(r:Er)(S2:Sto):R Er:=
 if yAJ S S2 then match r with
  |.val (.loc l)=>if l<S.length then .ok r (S2.take S.length)else match S2[l]? with
   |some (.lst ds)=>if loL S.length ds then .ok (.new ds) (S2.take S.length)else .ok r S2
   |_=>.ok r S2
  |.val d=>if lo S.length d then .ok r (S2.take S.length)else .ok r S2
  |.new ds=>if loL S.length ds then .ok r (S2.take S.length)else .ok r S2
 else .ok r S2
def yKP{g:Gm}{α α1 α2 α3:Ah}{H H1 H3:Hp}{S1 S3:Sto}{r:Er}{v:V}(x1:Ext α H α1 H1)(w1:Wd g α1 S1 H1)(h12: ∃t,α2=α1++t)(x2:Ext α H α2 H1)(x3:Ext α2 H1 α3 H3)(w3:Wd g α3 S3 H3)(d:DenE g.K H1 α3 H3 r v):
  ∃r' S' α',bK S1 r S3=.ok r' S'/\Ext α H α' H3/\Wd g α' S' H3/\DenE g.K H α' H3 r' v:=by
 have x23:=x2.trans x3;have dfull:DenE g.K H α3 H3 r v:=d.back λb h=>x1.free h;unfold bK;by_cases hc:yAJ S1 S3
 ·rw [iP hc];obtain⟨t,ht⟩: ∃t,α3=α1++t:=by obtain⟨t,e⟩:=h12;obtain⟨u,e'⟩:=x3.pre;exact⟨t++u,by rw [e',e,aA]⟩
  have hn:α1.length=S1.length:=w1.len;have xc:Ext α H α1 H3:=⟨⟨x1.pre,x23.tup,x23.frz⟩,x1.new,x23.keep,x23.has⟩
  have wc:Wd g α1 (S3.take S1.length) H3:=by
   refine⟨by rw [lT,hn,min_eq_left hc.1],w1.nd,λl a o h1 h2=>?_⟩;have hl:l<S1.length:=by rw [<-hn];exact(gS0.mp h1).1
   rw [getElem?_take_of_lt hl]at h2;have h1':α3[l]? =some a:=by rw [ht,getElem?_append_left (by rw [hn];exact hl)];exact h1
   have q:=w3.obj l a o h1' h2;rw [ht]at q;refine q.back ?_;rcases hc.2 l hl with e|⟨o',e,lo'⟩
   ·rw [e]at h2;exact(w1.obj l a o h1 h2).lo
   ·rw [h2]at e;cases e;rw [hn];exact lo'
  have dlo: ∀d,lo S1.length d->Den g.K α3 H3 d v->DenE g.K H α1 H3 (.val d) v:=λd hd q=>.val ((ht▸q:Den g.K (α1++t) H3 d v).back (by rw [hn];exact hd))
  cases r with
  |new ds=>
   dsimp only;split
   ·rename_i hl;obtain⟨⟨b,vs,rfl,h1,h2,h3⟩,h4⟩:=dfull;exact⟨_,_,α1,rfl,xc,wc,⟨b,vs,rfl,h1,λz=>h2 (by rw [ht];exact mem_append_left _ z),(ht▸h3:DenL g.K (α1++t) H3 ds vs).back (by rw [hn];exact hl)⟩,h4⟩
   ·exact⟨_,_,α3,rfl,x23,w3,dfull⟩
  |val mv=>
   have dd:Den g.K α3 H3 mv v:=dfull.1
   cases mv with
   |loc l=>
    dsimp only;split
    ·rename_i hl;exact⟨_,_,α1,rfl,xc,wc,dlo _ (by unfold lo;exact hl) dd⟩
    ·rename_i hl;obtain⟨a,rfl,ha⟩:=jM dd;split
     ·rename_i ds hS;split
      ·rename_i hlo;obtain⟨vs,h1,h2⟩:=w3.obj l a _ ha hS
       have hna:a∉α1:=λz=>by
        obtain⟨m,hm⟩:=getElem?_of_mem z;have hml:m<α1.length:=(gS0.mp hm).1;have hm':α3[m]? =some a:=by rw [ht,getElem?_append_left hml];exact hm
        obtain⟨u1,e1⟩:=gS0.mp hm';obtain⟨u2,e2⟩:=gS0.mp ha;have:=(getElem_inj w3.nd).mp (e1.trans e2.symm);omega
       refine⟨_,_,α1,rfl,xc,wc,⟨a,vs,rfl,h1,hna,(ht▸h2:DenL g.K (α1++t) H3 ds vs).back (by rw [hn];exact hlo)⟩,λb e=>?_⟩;cases e;rcases x23.new a (mem_of_getElem? ha)with z|z
       ·obtain⟨u,eu⟩:=x1.pre;exact absurd (by rw [eu];exact mem_append_left _ z) hna
       ·exact z
      ·exact⟨_,_,α3,rfl,x23,w3,dfull⟩
     ·exact⟨_,_,α3,rfl,x23,w3,dfull⟩
   |non=>dsimp only;split;(· rename_i hl;exact⟨_,_,α1,rfl,xc,wc,dlo _ hl dd⟩);(· exact⟨_,_,α3,rfl,x23,w3,dfull⟩)
   |bl b=>dsimp only;split;(· rename_i hl;exact⟨_,_,α1,rfl,xc,wc,dlo _ hl dd⟩);(· exact⟨_,_,α3,rfl,x23,w3,dfull⟩)
   |int b=>dsimp only;split;(· rename_i hl;exact⟨_,_,α1,rfl,xc,wc,dlo _ hl dd⟩);(· exact⟨_,_,α3,rfl,x23,w3,dfull⟩)
   |str b=>dsimp only;split;(· rename_i hl;exact⟨_,_,α1,rfl,xc,wc,dlo _ hl dd⟩);(· exact⟨_,_,α3,rfl,x23,w3,dfull⟩)
   |typ b=>dsimp only;split;(· rename_i hl;exact⟨_,_,α1,rfl,xc,wc,dlo _ hl dd⟩);(· exact⟨_,_,α3,rfl,x23,w3,dfull⟩)
   |obj b b' b''=>dsimp only;split;(· rename_i hl;exact⟨_,_,α1,rfl,xc,wc,dlo _ hl dd⟩);(· exact⟨_,_,α3,rfl,x23,w3,dfull⟩)
   |tup b=>dsimp only;split;(· rename_i hl;exact⟨_,_,α1,rfl,xc,wc,dlo _ hl dd⟩);(· exact⟨_,_,α3,rfl,x23,w3,dfull⟩)
   |scr b=>dsimp only;split;(· rename_i hl;exact⟨_,_,α1,rfl,xc,wc,dlo _ hl dd⟩);(· exact⟨_,_,α3,rfl,x23,w3,dfull⟩)
 ·rw [iN hc];exact⟨_,_,α3,rfl,x23,w3,dfull⟩
def spM(g:Gm)(n:Nat)(F:List MV->Sto->R Er):Sp:=λvs H Q _=> ∃α S ds,Wd g α S H/\DenL g.K α H ds vs/\ds.length=n/\Post g W0 α H (F ds S) Q
def zU(n:Nat)(F:List MV->Sto->R Er)(rs:List Er)(S:Sto):R Er:=if rs.length=n then(noX (F (zQ rs S).1 (zQ rs S).2)).bind λr S2=>bK S r S2 else .no
section
variable{X:Cx}{W:XW}{e:Expr}{es:Bd}{af:Rho->Sto->R (List Er)}{pos:Pos}
def zQH{n:Nat}{F:List MV->Sto->R Er}{rs:List Er}{vs:List V}{α α1:Ah}{H H1:Hp}{S1:Sto}{Q:VK}(x1:Ext α H α1 H1)(w1:Wd X.g α1 S1 H1)(d1:ArgsE X.K H α1 H1 rs vs)(q:Post X.g W α H (zU n F rs S1) Q):
  spM X.g n F vs H1 Q E0:=by
 unfold zU at q;split at q
 ·rename_i hl;obtain⟨α2,x2,y2,w2,l2⟩:=zDX w1 x1 d1;refine⟨α2,_,_,w2,l2,by rw [zIW];exact hl,?_⟩
  cases z:F (zQ rs S1).1 (zQ rs S1).2 with
  |ok r S3=>
   rw [z]at q;intro v α3 H3 x3 w3 d3;obtain⟨r',S',α',e',x',w',d'⟩:=yKP x1 w1 y2.pre x2 x3 w3 d3;have q:Post X.g W α H (bK S1 r S3) Q:=q;rw [e']at q;exact q v α' H3 x' w' d'
  |exc c fs S3=>rw [z]at q;exact q.elim
  |no=>rw [z]at q;exact q.elim
 ·exact q.elim
def yKQ{k n:Nat}{fa:Addr}{fd:FuncData}{ps:Ai}{F:List MV->Sto->R Er}{x:Str}{p:Pos}(G:FnOk X.prog X.w X.K X.mg X.base CX0 k fa fd ps (spM X.g n F))(hr:Room k X.A)(hg:Gl X x)(hm:X.mg x=some (.ref fa))
  (hk:PySem.W.keepIn X.K (.ref fa)=true) (hb:Binds X.K fd ps []) (ha:PAm X W (e::es) af) (hdb:(x==("__debug__":Str))=false:=by decide)
  (he:starEach (e::es) X.env=(false,eval e X.env)::starEach es X.env:=by rfl) (hpl:(backTo pos (starEach es X.env)).any (·.1)=false:=by rfl):
  PEm X W (.Call (.Name x p) (e::es) [] pos) (λρ S=>(af ρ S).bind λrs S1=>zU n F rs S1):=by
 obtain⟨t,ha,kk⟩:=ha;refine⟨_,yJY G hr hg hm hk hb .nil yFY ha hdb he hpl,λα ρ S σ H Q wd sl q=>kk α ρ S σ H _ wd sl (q.bind λvs rs S1 α1 H1 e1 x1 w1 d1 q1=>?_)⟩;rw [aN];exact zQH x1 w1 d1 q1
end
def zV(N:Ai)(ds:Bh):Rho:=ds.map some++List.replicate (N.length - ds.length) none
def yE:R Fl->R Er
 |.ok (.next _) S=>.ok (.val .non) S
 |.ok (.ret r) S=>.ok r S
 |.exc c fs S=>.exc c fs S
 |_=>.no
def zUT{K:Be}{α:Ah}{N:Ai}{H:Hp}{ds:Bh}{vs:List V}(l:DenL K α H ds vs):Slots K α H (zV N ds) (start N vs):=by
 have hlen:=l.length;refine⟨?_,λi d e=>?_⟩
 ·unfold start zV;rw [lA,lA,lM,lM,length_replicate,length_replicate,hlen]
 ·unfold zV at e;by_cases hi:i<ds.length
  ·rw [getElem?_append_left (by simpa using hi),getElem?_map]at e
   cases z:ds[i]? with
   |none=>rw [z]at e;cases e
   |some d'=>
    rw [z]at e;obtain⟨v,h1,h2⟩:=l.at z;have e':d'=d:=Option.some.inj (Option.some.inj e);subst e';refine⟨v,?_,h2⟩;unfold start;rw [getElem?_append_left (by rw [lM,hlen];exact hi),getElem?_map,h1];rfl
  ·rw [getElem?_append_right (by simpa using hi),List.getElem?_replicate]at e;split at e<;>cases e
section
variable{P:Program}{w:World}{K:Be}{mg:Aj}{base:Heap}
def okM{x qual:Str}{st:Stmt}{f:Addr}{fd:FuncData}{N ps:Ai}{k:Nat}(Fb:AY)(F:Fun K x qual st f fd)(Sc:FnScope N ps (zE st))
  (hbody: ∀(cdv:Value)(A:Around)(outer:List Env)(s:Shared)(H:Hp)(E:XK),Room k (A.deeper (envOfC qual (zE st) s.heap.objs.size f cdv))->
   zRU (zUL CX0 P w K mg base N qual (zE st) f cdv A outer s H E).nox W0 (xE st) Fb):
  FnOk P w K mg base CX0 (k+1) f fd ps (spM ⟨K,mg,P,w⟩ ps.length λds S=>yE (Fb (zV N ds) S)):=by
 refine F.ok Sc (λvs H Q E h=>?_) (λcdv A outer s H vs Q E hr h=>?_)
 ·obtain⟨α,S,ds,_,l,hl,_⟩:=h;rw [l.length,hl]
 ·obtain⟨α,S,ds,wd,l,hl,q⟩:=h;obtain⟨t,ht,kk⟩:=hbody cdv A outer s H E hr;refine⟨t,ht,kk α (zV N ds) S (start N vs) H _ wd (zUT l) ?_⟩;dsimp only at q
  cases z:Fb (zV N ds) S with
  |ok fl S'=>
   rw [z]at q
   cases fl with
   |next ρ=>exact λσ α' H' x' w' s'=>q .non α' H' x' w' (DenE.val zLH)
   |ret r=>exact λv α' H' x' w' d'=>q v α' H' x' w' d'
   |brk ρ=>exact q.elim
   |cont ρ=>exact q.elim
  |exc c fs S'=>rw [z]at q;exact λα' H' x' w'=>q α' H' x' w'
  |no=>rw [z]at q;exact q
end
inductive Vw where
 |fl (v:V)|tp (ds:Bh)|ls (ds:Bh)
def xX(S:Sto):Er->Option (List MV)
 |.new ds=>some ds
 |.val (.scr ds)=>some ds
 |.val (.loc l)=>match S[l]? with
  |some (.lst ds)=>some ds
  |_=>none
 |_=>none
def vwE(S:Sto):Er->Option Vw
 |.val .non=>some (.fl .non)
 |.val (.bl b)=>some (.fl (.bl b))
 |.val (.int i)=>some (.fl (.int i))
 |.val (.str x)=>some (.fl (.str (mkS x)))
 |.val (.tup ds)=>some (.tp ds)
 |.val (.typ _)=>none
 |.val (.obj _ _ _)=>none
 |r=>(xX S r).map .ls
def prs(e:MV->MV->Option Bool):List MV->List MV->Option (List Bool)
 |d::ds,f::fs=>(e d f).bind λk=>(prs e ds fs).map (k::·)
 |_,_=>some []
def eqW(e:MV->MV->Option Bool):Vw->Vw->Option Bool
 |.fl x,.fl y=>some (eqV x y)
 |.tp ds,.tp es=>(prs e ds es).map λbs=>bs.all id&&ds.length==es.length
 |.ls ds,.ls es=>if ds.length=es.length then(prs e ds es).map λbs=>bs.all id else some false
 |_,_=>some false
theorem zYE(e:MV->MV->Option Bool)(ds es:Bh):eqW e (.tp ds) (.tp es)=(prs e ds es).map λbs=>bs.all id&&ds.length==es.length:=rfl
theorem zRY(e:MV->MV->Option Bool)(ds es:Bh):eqW e (.ls ds) (.ls es)=if ds.length=es.length then(prs e ds es).map λbs=>bs.all id else some false:=rfl
def eqv(S:Sto):Nat->MV->MV->Option Bool
 |0,_,_=>none
 |n+1,a,b=>(vwE S (.val a)).bind λx=>(vwE S (.val b)).bind λy=>eqW (eqv S n) x y
def zKW(S:Sto)(n:Nat)(a b:Er):Option Bool:=(vwE S a).bind λx=>(vwE S b).bind λy=>eqW (eqv S n) x y
section
variable{X:Cx}{α:Ah}{S:Sto}{H:Hp}
def nN{K:Be}{g:Gm}(hK:g.K=K)(wd:Wd g α S H){r:Er}{ds:Bh}{x:V}(e:xX S r=some ds)(d:DenX K α H r x): ∃a vs,x=.ref a/\SqL K H a vs/\DenL K α H ds vs:=by
 subst hK;unfold xX at e;split at e
 ·cases e;obtain⟨b,vs,rfl,h,_,l⟩:=d;exact⟨b,vs,rfl,.of h,l⟩
 ·cases e;obtain⟨a,vs,rfl,s,l⟩:=zMB d;exact⟨a,vs,rfl,s.l,l⟩
 ·rename_i n;obtain⟨a,rfl,h⟩:=zBQ d;split at e
  ·rename_i es hS;cases e;obtain⟨vs,h1,l⟩:=wd.obj n a _ h hS;exact⟨a,vs,rfl,.of h1,l⟩
  ·cases e
 ·cases e
def zDH{r:Er}{x y:V}(e:vwE S r=some (.fl y))(d:DenX X.K α H r x):x=y/\wN y=true:=by
 unfold vwE at e;split at e
 ·cases e;exact⟨zIU d,rfl⟩
 ·cases e;exact⟨zDW d,rfl⟩
 ·cases e;exact⟨yW d,rfl⟩
 ·cases e;exact⟨gH d,rfl⟩
 ·cases e
 ·cases e
 ·cases e
 ·cases z:xX S r<;>rw [z]at e<;>cases e
def zDI{r:Er}{x:V}{ds:Bh}(e:vwE S r=some (.tp ds))(d:DenX X.K α H r x): ∃a vs,x=.ref a/\SqT X.K H a vs/\DenL X.K α H ds vs:=by
 unfold vwE at e;split at e
 ·cases e
 ·cases e
 ·cases e
 ·cases e
 ·cases e;exact bS d
 ·cases e
 ·cases e
 ·cases z:xX S r<;>rw [z]at e<;>cases e
def zDJ(wd:Wd X.g α S H){r:Er}{x:V}{ds:Bh}(e:vwE S r=some (.ls ds))(d:DenX X.K α H r x): ∃a vs,x=.ref a/\SqL X.K H a vs/\DenL X.K α H ds vs:=by
 unfold vwE at e;split at e
 ·cases e
 ·cases e
 ·cases e
 ·cases e
 ·cases e
 ·cases e
 ·cases e
 ·cases z:xX S r with
  |none=>rw [z]at e;cases e
  |some es=>rw [z]at e;cases e;exact nN rfl wd z d
theorem zFJ{e:MV->MV->Option Bool}: ∀{ds es:Bh}{bs:Bb},prs e ds es=some bs->bs.length=min ds.length es.length
 |[],_,_,h=>by simp [prs]at h;subst h;simp
 |_::_,[],_,h=>by simp [prs]at h;subst h;simp
 |d::ds,f::fs,bs,h=>by
  unfold prs at h
  cases z:e d f with
  |none=>rw [z]at h;cases h
  |some k=>
   rw [z]at h
   cases z2:prs e ds fs with
   |none=>simp [z2]at h
   |some cs=>
    simp [z2]at h;subst h;simp [zFJ z2]
theorem zRZ{e:MV->MV->Option Bool}: ∀{ds es:Bh}{bs:Bb}{j:Nat}{d f:MV},prs e ds es=some bs->ds[j]? =some d->es[j]? =some f->e d f=some (bs.getD j true)
 |[],_,_,_,_,_,h,h1,_=>by simp at h1
 |_::_,[],_,_,_,_,h,_,h2=>by simp at h2
 |d::ds,f::fs,bs,j,d',f',h,h1,h2=>by
  unfold prs at h
  cases z:e d f with
  |none=>rw [z]at h;cases h
  |some k=>
   rw [z]at h
   cases z2:prs e ds fs with
   |none=>simp [z2]at h
   |some cs=>
    simp [z2]at h;subst h
    cases j with
    |zero=>simp at h1 h2;subst h1 h2;simpa using z
    |succ j=>simpa using zRZ z2 (by simpa using h1) (by simpa using h2)
def range_all{bs:Bb}{n:Nat}(h:bs.length=n):(List.range n).all (λj=>bs.getD j true)=bs.all id:=by
 subst h;rw [Bool.eq_iff_iff,all_eq_true,all_eq_true];constructor
 ·intro h x hx;obtain⟨i,hi,rfl⟩:=getElem_of_mem hx;have:=h i (mem_range.mpr hi);simpa [getD_eq_getElem?_getD,hi]using this
 ·intro h i hi;have hi':=mem_range.mp hi;have:=h bs[i] (getElem_mem hi');simpa [getD_eq_getElem?_getD,hi']using this
variable{pins:Ba}{σ:St}{s:Shared}
def zHR(I:Inv X pins σ H s){a:Addr}{xs ys:List V}(h:SqL X.K H a xs)(h':SqT X.K H a ys):False:=by obtain⟨_,_,pl,_⟩:=I.list h;obtain⟨_,_,pt,_⟩:=I.tuple h';obtain⟨o,n,e,c,_,_⟩:=pl;obtain⟨o',e',c',_⟩:=pt;rw [e]at e';cases e';rw [c]at c';exact absurd c' (by simp)
def yGN(I:Inv X pins σ H s)(wd:Wd X.g α S H){e:MV->MV->Option Bool}(he: ∀d f v k,Den X.K α H d v->Den X.K α H f v->e d f=some k->k=true){a b:Er}{x:V}{p q:Vw}{k:Bool}
  (ha:vwE S a=some p) (hb:vwE S b=some q) (da:DenX X.K α H a x) (db:DenX X.K α H b x) (h:eqW e p q=some k):k=true:=by
 have hp: ∀{ds es:Bh}{vs:List V}{bs:Bb},DenL X.K α H ds vs->DenL X.K α H es vs->prs e ds es=some bs->bs.all id=true:=by
  intro ds es vs bs l1 l2 z;rw [all_eq_true];intro k hk;obtain⟨i,hi,rfl⟩:=getElem_of_mem hk;have hl:=zFJ z;have h1:i<ds.length:=by omega
  have h2:i<es.length:=by omega
  obtain⟨v,g1,g2⟩:=l1.at (gE0 h1);obtain⟨v',g3,g4⟩:=l2.at (gE0 h2);rw [g1]at g3;cases g3;have:=he _ _ _ _ g2 g4 (zRZ z (gE0 h1) (gE0 h2));simpa [getD_eq_getElem?_getD,hi]using this
 cases p with
 |fl y=>
  obtain⟨rfl,f1⟩:=zDH ha da
  cases q with
  |fl z=>obtain⟨rfl,f2⟩:=zDH hb db;cases h;exact yGD f1
  |tp ds=>obtain⟨a,vs,rfl,_⟩:=zDI hb db;exact absurd (show false=true from f1) xF0
  |ls ds=>obtain⟨a,vs,rfl,_⟩:=zDJ wd hb db;exact absurd (show false=true from f1) xF0
 |tp ds=>
  obtain⟨a1,vs,rfl,s1,l1⟩:=zDI ha da
  cases q with
  |fl z=>obtain⟨rfl,f2⟩:=zDH hb db;exact absurd (show false=true from f2) xF0
  |tp es=>
   obtain⟨a2,us,e2,s2,l2⟩:=zDI hb db;cases e2;cases I.tuple_inj s1 s2;rw [zYE]at h
   cases z:prs e ds es with
   |none=>rw [z]at h;cases h
   |some bs=>
    rw [z]at h;cases h;show(bs.all id&&ds.length==es.length)=true;rw [hp l1 l2 z, <-l1.length, <-l2.length];simp
  |ls es=>obtain⟨a2,us,e2,s2,l2⟩:=zDJ wd hb db;cases e2;exact(zHR I s2 s1).elim
 |ls ds=>
  obtain⟨a1,vs,rfl,s1,l1⟩:=zDJ wd ha da
  cases q with
  |fl z=>obtain⟨rfl,f2⟩:=zDH hb db;exact absurd (show false=true from f2) xF0
  |tp es=>obtain⟨a2,us,e2,s2,l2⟩:=zDI hb db;cases e2;exact(zHR I s1 s2).elim
  |ls es=>
   obtain⟨a2,us,e2,s2,l2⟩:=zDJ wd hb db;cases e2;cases I.list_inj s1 s2;rw [zRY]at h;rw [iP (by rw [<-l1.length, <-l2.length])]at h
   cases z:prs e ds es with
   |none=>rw [z]at h;cases h
   |some bs=>rw [z]at h;cases h;exact hp l1 l2 z
theorem zMG(I:Inv X pins σ H s)(wd:Wd X.g α S H): ∀(n:Nat)(d f:MV)(v:V)(k:Bool),Den X.K α H d v->Den X.K α H f v->eqv S n d f=some k->k=true
 |0,_,_,_,_,_,_,h=>by cases h
 |n+1,d,f,v,k,h1,h2,h=>by
  unfold eqv at h
  cases za:vwE S (.val d)with
  |none=>rw [za]at h;cases h
  |some p=>
   cases zb:vwE S (.val f)with
   |none=>rw [za,zb]at h;cases h
   |some q=>
    rw [za,zb]at h;exact yGN I wd (zMG I wd n) za zb (a:=.val d) (b:=.val f) h1 h2 h
def zHS{e:MV->MV->Option Bool}{A:Around}(he: ∀d f x y u v k,Den X.K α H d x->Den X.K α H f y->RelV x u->RelV y v->e d f=some k->SeqAt.EqAt A s u v k)
  {ds es:Bh} {vs us:List V} {its its2:Ae} {bs:Bb} (l1:DenL X.K α H ds vs) (l2:DenL X.K α H es us) (r1:Vals vs its) (r2:Vals us its2) (z:prs e ds es=some bs):
  ∀j (h1:j<its.toArray.size) (h2:j<its2.toArray.size),SeqAt.EqAt A s its.toArray[j] its2.toArray[j] (bs.getD j true):=by
 intro j h1 h2;have g1:j<vs.length:=by rw [r1.length];simpa using h1
 have g2:j<us.length:=by rw [r2.length];simpa using h2
 obtain⟨d,d1,d2⟩:=l1.get (gE0 g1);obtain⟨f,f1,f2⟩:=l2.get (gE0 g2);obtain⟨u,u1,u2⟩:=r1.get (gE0 g1);obtain⟨v,v1,v2⟩:=r2.get (gE0 g2);have e1:its.toArray[j]=u:=by have:its[j]? =some (its[j]'(by simpa using h1)):=gE0 _;rw [u1]at this;simpa using(Option.some.inj this).symm
 have e2:its2.toArray[j]=v:=by have:its2[j]? =some (its2[j]'(by simpa using h2)):=gE0 _;rw [v1]at this;simpa using(Option.some.inj this).symm
 rw [e1,e2];exact he d f _ _ u v _ d2 f2 u2 v2 (zRZ z d1 f1)
theorem zBS(I:Inv X pins σ H s)(wd:Wd X.g α S H): ∀(n:Nat)(A:Around)(d f:MV)(x y:V)(u v:Value)(k:Bool),A.units+n<cLine->Den X.K α H d x->Den X.K α H f y->RelV x u->RelV y v->eqv S n d f=some k->SeqAt.EqAt A s u v k
 |0,_,_,_,_,_,_,_,_,_,_,_,_,_,h=>by cases h
 |n+1,A,d,f,x,y,u,v,k,hu,h1,h2,rx,ry,h=>by
  have hu0:A.units<cLine:=by omega
  have hsame:=h;unfold eqv at h
  cases za:vwE S (.val d)with
  |none=>rw [za]at h;cases h
  |some p=>
   cases zb:vwE S (.val f)with
   |none=>rw [za,zb]at h;cases h
   |some q=>
    rw [za,zb]at h;have h:eqW (eqv S n) p q=some k:=h;have he:=λd f x y u v k a b c d' e=>zBS I wd n A.in1 d f x y u v k (show A.units+1+n<cLine by omega) a b c d' e
    cases p with
    |fl x'=>
     obtain⟨rfl,fx⟩:=zDH za (α:=α) (H:=H) (X:=X) h1
     cases q with
     |fl y'=>obtain⟨rfl,fy⟩:=zDH zb (α:=α) (H:=H) (X:=X) h2;cases h;exact yPV rx ry fx fy
     |tp es=>
      obtain⟨b,us,rfl,s2,l2⟩:=zDI zb (α:=α) (H:=H) (X:=X) h2;cases ry;cases h;obtain⟨its,_,pt,_⟩:=I.tuple s2;exact eq_tr rx fx pt hu0
     |ls es=>
      obtain⟨b,us,rfl,s2,l2⟩:=zDJ wd zb h2;cases ry;cases h;obtain⟨its,_,pl,_⟩:=I.list s2;exact eq_lr rx fx pl.isList hu0
    |tp ds=>
     obtain⟨a,vs,rfl,s1,l1⟩:=zDI za (α:=α) (H:=H) (X:=X) h1;cases rx;obtain⟨its,r1,pt,_⟩:=I.tuple s1
     cases q with
     |fl y'=>obtain⟨rfl,fy⟩:=zDH zb (α:=α) (H:=H) (X:=X) h2;cases h;exact eq_tl ry fy pt hu0
     |tp es=>
      obtain⟨b,us,rfl,s2,l2⟩:=zDI zb (α:=α) (H:=H) (X:=X) h2;cases ry;by_cases hab:a=b
      ·subst hab;rw [zMG I wd (n+1) d f _ k h1 h2 hsame];exact SeqAt.EqAt.same _
      ·obtain⟨its2,r2,pt2,_⟩:=I.tuple s2;rw [zYE]at h
       cases z:prs (eqv S n) ds es with
       |none=>rw [z]at h;cases h
       |some bs=>
        rw [z]at h;cases h;have:=SeqAt.RcAt.tuples pt pt2 hu0 (zHS he l1 l2 r1 r2 z);have hl:=zFJ z;rw [range_all (by rw [hl];simp [<-r1.length, <-r2.length,l1.length,l2.length])]at this;have e3:(its.toArray.size==its2.toArray.size)=(ds.length==es.length):=by simp [<-r1.length, <-r2.length,l1.length,l2.length]
        rw [e3]at this;exact SeqAt.EqAt.of_refs hab this
     |ls es=>
      obtain⟨b,us,rfl,s2,l2⟩:=zDJ wd zb h2;cases ry;cases h;obtain⟨its2,_,pl,_⟩:=I.list s2;exact SeqAt.EqAt.tuple_list pt pl.isList hu0
    |ls ds=>
     obtain⟨a,vs,rfl,s1,l1⟩:=zDJ wd za h1;cases rx;obtain⟨its,r1,pl,_⟩:=I.list s1
     cases q with
     |fl y'=>obtain⟨rfl,fy⟩:=zDH zb (α:=α) (H:=H) (X:=X) h2;cases h;exact eq_ll ry fy pl.isList hu0
     |tp es=>
      obtain⟨b,us,rfl,s2,l2⟩:=zDI zb (α:=α) (H:=H) (X:=X) h2;cases ry;cases h;obtain⟨its2,_,pt,_⟩:=I.tuple s2;exact SeqAt.EqAt.list_tuple pl.isList pt hu0
     |ls es=>
      obtain⟨b,us,rfl,s2,l2⟩:=zDJ wd zb h2;cases ry;by_cases hab:a=b
      ·subst hab;rw [zMG I wd (n+1) d f _ k h1 h2 hsame];exact SeqAt.EqAt.same _
      ·obtain⟨its2,r2,pl2,_⟩:=I.list s2;rw [zRY]at h;by_cases hl:ds.length=es.length
       ·rw [iP hl]at h
        cases z:prs (eqv S n) ds es with
        |none=>rw [z]at h;cases h
        |some bs=>
         rw [z]at h;cases h;have hs:its.toArray.size=its2.toArray.size:=by simp [<-r1.length, <-r2.length,l1.length,l2.length,hl]
         have:=SeqAt.RcAt.lists pl.isList pl2.isList hs hu0 (zHS he l1 l2 r1 r2 z);have hl':=zFJ z;rw [range_all (by rw [hl'];simp [<-r1.length,l1.length,hl])]at this;exact SeqAt.EqAt.of_refs hab this
       ·rw [iN hl]at h;cases h;exact SeqAt.EqAt.of_refs hab (SeqAt.RcAt.lists_lengths pl.isList pl2.isList (by simpa [<-r1.length, <-r2.length,l1.length,l2.length]using hl) hu0)
def yOB{RC:Around->Shared->Value->Value->Bool->Prop}{tr:Bool->Bool}{A:Around}
  (hff: ∀x y u v,RelV x u->RelV y v->wN x=true->wN y=true->RC A s u v (tr (eqV x y)))
  (hfl: ∀x v l items,RelV x v->wN x=true->s.heap.IsList l items->A.units<cLine->RC A s v (.ref l) (tr false)/\RC A s (.ref l) v (tr false))
  (hft: ∀x v l items,RelV x v->wN x=true->s.heap.IsTuple l items->A.units<cLine->RC A s v (.ref l) (tr false)/\RC A s (.ref l) v (tr false))
  (hlt: ∀l b items items2,s.heap.IsList l items->s.heap.IsTuple b items2->A.units<cLine->RC A s (.ref l) (.ref b) (tr false)/\RC A s (.ref b) (.ref l) (tr false))
  (htt: ∀(l b:Addr)(items items2:Ag)(e:Nat->Bool),s.heap.IsTuple l items->s.heap.IsTuple b items2->A.units<cLine->(∀j (h1:j<items.size) (h2:j<items2.size),SeqAt.EqAt A.in1 s items[j] items2[j] (e j))->RC A s (.ref l) (.ref b) (tr ((List.range (min items.size items2.size)).all e&&items.size==items2.size)))
  (hll: ∀(l b:Addr)(items items2:Ag)(e:Nat->Bool),s.heap.IsList l items->s.heap.IsList b items2->items.size=items2.size->A.units<cLine->(∀j (h1:j<items.size) (h2:j<items2.size),SeqAt.EqAt A.in1 s items[j] items2[j] (e j))->RC A s (.ref l) (.ref b) (tr ((List.range items.size).all e)))
  (hln: ∀(l b:Addr)(items items2:Ag),s.heap.IsList l items->s.heap.IsList b items2->(items.size !=items2.size)=true->A.units<cLine->RC A s (.ref l) (.ref b) (tr false))
  (I:Inv X pins σ H s) (wd:Wd X.g α S H) (n:Nat) {a b:Er} {x y:V} {u v:Value} {k:Bool} (hu:A.units+(n+1)<cLine) (h1:DenX X.K α H a x) (h2:DenX X.K α H b y) (rx:RelV x u) (ry:RelV y v) (h:zKW S n a b=some k):RC A s u v (tr k):=by
 have hu0:A.units<cLine:=by omega
 unfold zKW at h
 cases za:vwE S a with
 |none=>rw [za]at h;cases h
 |some p=>
  cases zb:vwE S b with
  |none=>rw [za,zb]at h;cases h
  |some q=>
   rw [za,zb]at h;have h:eqW (eqv S n) p q=some k:=h;have he:=λd f x y u v k a b c d' e=>zBS I wd n A.in1 d f x y u v k (show A.units+1+n<cLine by omega) a b c d' e
   cases p with
   |fl x'=>
    obtain⟨rfl,fx⟩:=zDH za h1
    cases q with
    |fl y'=>obtain⟨rfl,fy⟩:=zDH zb h2;cases h;exact hff _ _ _ _ rx ry fx fy
    |tp es=>
     obtain⟨b,us,rfl,s2,l2⟩:=zDI zb h2;cases ry;cases h;obtain⟨its,_,pt,_⟩:=I.tuple s2;exact(hft _ _ _ _ rx fx pt hu0).1
    |ls es=>
     obtain⟨b,us,rfl,s2,l2⟩:=zDJ wd zb h2;cases ry;cases h;obtain⟨its,_,pl,_⟩:=I.list s2;exact(hfl _ _ _ _ rx fx pl.isList hu0).1
   |tp ds=>
    obtain⟨a,vs,rfl,s1,l1⟩:=zDI za h1;cases rx;obtain⟨its,r1,pt,_⟩:=I.tuple s1
    cases q with
    |fl y'=>obtain⟨rfl,fy⟩:=zDH zb h2;cases h;exact(hft _ _ _ _ ry fy pt hu0).2
    |tp es=>
     obtain⟨b,us,rfl,s2,l2⟩:=zDI zb h2;cases ry;obtain⟨its2,r2,pt2,_⟩:=I.tuple s2;rw [zYE]at h
     cases z:prs (eqv S n) ds es with
     |none=>rw [z]at h;cases h
     |some bs=>
      rw [z]at h;cases h;have:=htt _ _ _ _ _ pt pt2 hu0 (zHS he l1 l2 r1 r2 z);have hl:=zFJ z;rw [range_all (by rw [hl];simp [<-r1.length, <-r2.length,l1.length,l2.length])]at this;have e3:(its.toArray.size==its2.toArray.size)=(ds.length==es.length):=by simp [<-r1.length, <-r2.length,l1.length,l2.length]
      rw [e3]at this;exact this
    |ls es=>
     obtain⟨b,us,rfl,s2,l2⟩:=zDJ wd zb h2;cases ry;cases h;obtain⟨its2,_,pl,_⟩:=I.list s2;exact(hlt _ _ _ _ pl.isList pt hu0).2
   |ls ds=>
    obtain⟨a,vs,rfl,s1,l1⟩:=zDJ wd za h1;cases rx;obtain⟨its,r1,pl,_⟩:=I.list s1
    cases q with
    |fl y'=>obtain⟨rfl,fy⟩:=zDH zb h2;cases h;exact(hfl _ _ _ _ ry fy pl.isList hu0).2
    |tp es=>
     obtain⟨b,us,rfl,s2,l2⟩:=zDI zb h2;cases ry;cases h;obtain⟨its2,_,pt,_⟩:=I.tuple s2;exact(hlt _ _ _ _ pl.isList pt hu0).1
    |ls es=>
     obtain⟨b,us,rfl,s2,l2⟩:=zDJ wd zb h2;cases ry;obtain⟨its2,r2,pl2,_⟩:=I.list s2;rw [zRY]at h;by_cases hl:ds.length=es.length
     ·rw [iP hl]at h
      cases z:prs (eqv S n) ds es with
      |none=>rw [z]at h;cases h
      |some bs=>
       rw [z]at h;cases h;have hs:its.toArray.size=its2.toArray.size:=by simp [<-r1.length, <-r2.length,l1.length,l2.length,hl]
       have:=hll _ _ _ _ _ pl.isList pl2.isList hs hu0 (zHS he l1 l2 r1 r2 z);have hl':=zFJ z;rw [range_all (by rw [hl'];simp [<-r1.length,l1.length,hl])]at this;exact this
     ·rw [iN hl]at h;cases h;exact hln _ _ _ _ pl.isList pl2.isList (by simpa [<-r1.length, <-r2.length,l1.length,l2.length]using hl) hu0
def yQF(I:Inv X pins σ H s)(wd:Wd X.g α S H)(n:Nat){A:Around}{a b:Er}{x y:V}{u v:Value}{k:Bool}(hu:A.units+(n+1)<cLine)(h1:DenX X.K α H a x)(h2:DenX X.K α H b y)(rx:RelV x u)(ry:RelV y v)(h:zKW S n a b=some k):SeqAt.RcAt A s u v k:=
 yOB (RC:=SeqAt.RcAt) (tr:=id) (λ_ _ _ _ a b c d=>yQB a b c d) (λ_ _ _ _ a b c d=>⟨rc_lr a b c d,rc_ll a b c d⟩) (λ_ _ _ _ a b c d=>⟨rc_tr a b c d,rc_tl a b c d⟩)
  (λ_ _ _ _ a b c=>⟨SeqAt.RcAt.list_tuple a b c,SeqAt.RcAt.tuple_list b a c⟩) (λ_ _ _ _ _ a b c d=>SeqAt.RcAt.tuples a b c d) (λ_ _ _ _ _ a b c d e=>SeqAt.RcAt.lists a b c d e) (λ_ _ _ _ a b c d=>SeqAt.RcAt.lists_lengths a b c d)
  I wd n hu h1 h2 rx ry h
def yQG(I:Inv X pins σ H s)(wd:Wd X.g α S H)(n:Nat){A:Around}{a b:Er}{x y:V}{u v:Value}{k:Bool}(hu:A.units+(n+1)<cLine)(h1:DenX X.K α H a x)(h2:DenX X.K α H b y)(rx:RelV x u)(ry:RelV y v)(h:zKW S n a b=some k):SeqAt.RcNeAt A s u v (!k):=
 yOB (RC:=SeqAt.RcNeAt) (tr:=λb=>!b) (λ_ _ _ _ a b c d=>yQC a b c d) (λ_ _ _ _ a b c d=>⟨rn_lr a b c d,rn_ll a b c d⟩) (λ_ _ _ _ a b c d=>⟨rn_tr a b c d,rn_tl a b c d⟩)
  (λ_ _ _ _ a b c=>⟨SeqAt.RcNeAt.list_tuple a b c,SeqAt.RcNeAt.tuple_list b a c⟩) (λ_ _ _ _ _ a b c d=>SeqAt.RcNeAt.tuples a b c d) (λ_ _ _ _ _ a b c d e=>SeqAt.RcNeAt.lists a b c d e) (λ_ _ _ _ a b c d=>SeqAt.RcNeAt.lists_lengths a b c d)
  I wd n hu h1 h2 rx ry h
theorem yAK{α β:Type}: ∀{a c:List α}{b d:List β},a.length=b.length->c.length=d.length->a.zip b=c.zip d->a=c/\b=d
 |[],[],[],[],_,_,_=>⟨rfl,rfl⟩
 |[],_::_,[],_::_,_,_,e=>by simp at e
 |_::_,[],_::_,[],_,_,e=>by simp at e
 |x::a,y::c,z::b,w::d,h1,h2,e=>by simp only [zip_cons_cons,List.cons.injEq,Prod.mk.injEq]at e;obtain⟨rfl,rfl⟩:=yAK (by simpa using h1) (by simpa using h2) e.2;exact⟨by rw [e.1.1],by rw [e.1.2]⟩
mutual
theorem Den.inj(I:Inv X pins σ H s)(wd:Wd X.g α S H): ∀{d f:MV}{v:V},Den X.K α H d v->Den X.K α H f v->d=f
 |.non,f,v,h,h'=>by cases cS h;cases f<;>first |rfl|(have:=zAQ h';cases this;done)|(have:=yV h';cases this;done)|(have:=xG h';cases this;done)|(have:=bR h';cases this;done)|(obtain⟨_,_,e,_⟩:=xC h';cases e;done)|(obtain⟨_,_,e,_⟩:=gG h';cases e;done)|(obtain⟨_,e,_⟩:=jM h';cases e;done)|(obtain⟨_,_,_,_,_,e,_⟩:=gF h';cases e;done)
 |.bl b,f,v,h,h'=>by cases zAQ h;cases f<;>first |(have:=zAQ h';cases this;rfl;done)|(have:=cS h';cases this;done)|(have:=yV h';cases this;done)|(have:=xG h';cases this;done)|(have:=bR h';cases this;done)|(obtain⟨_,_,e,_⟩:=xC h';cases e;done)|(obtain⟨_,_,e,_⟩:=gG h';cases e;done)|(obtain⟨_,e,_⟩:=jM h';cases e;done)|(obtain⟨_,_,_,_,_,e,_⟩:=gF h';cases e;done)
 |.int b,f,v,h,h'=>by cases yV h;cases f<;>first |(have:=yV h';cases this;rfl;done)|(have:=cS h';cases this;done)|(have:=zAQ h';cases this;done)|(have:=xG h';cases this;done)|(have:=bR h';cases this;done)|(obtain⟨_,_,e,_⟩:=xC h';cases e;done)|(obtain⟨_,_,e,_⟩:=gG h';cases e;done)|(obtain⟨_,e,_⟩:=jM h';cases e;done)|(obtain⟨_,_,_,_,_,e,_⟩:=gF h';cases e;done)
 |.str b,f,v,h,h'=>by cases xG h;cases f<;>first |(have:=xG h';rw [zLG (V.str.inj this)];done)|(have:=cS h';cases this;done)|(have:=zAQ h';cases this;done)|(have:=yV h';cases this;done)|(have:=bR h';cases this;done)|(obtain⟨_,_,e,_⟩:=xC h';cases e;done)|(obtain⟨_,_,e,_⟩:=gG h';cases e;done)|(obtain⟨_,e,_⟩:=jM h';cases e;done)|(obtain⟨_,_,_,_,_,e,_⟩:=gF h';cases e;done)
 |.typ b,f,v,h,h'=>by cases bR h;cases f<;>first |(have:=bR h';cases this;rfl;done)|(have:=cS h';cases this;done)|(have:=zAQ h';cases this;done)|(have:=yV h';cases this;done)|(have:=xG h';cases this;done)|(obtain⟨_,_,e,_⟩:=xC h';cases e;done)|(obtain⟨_,_,e,_⟩:=gG h';cases e;done)|(obtain⟨_,e,_⟩:=jM h';cases e;done)|(obtain⟨_,_,_,_,_,e,_⟩:=gF h';cases e;done)
 |.tup ds,f,v,h,h'=>by
  obtain⟨a,vs,rfl,s1,l1⟩:=xC h
  cases f with
  |tup es=>
   obtain⟨a2,us,e2,s2,l2⟩:=xC h';cases e2;cases I.tuple_inj s1 s2;rw [DenL.inj I wd l1 l2]
  |scr es=>obtain⟨a2,us,e2,s2,l2⟩:=gG h';cases e2;exact(zHR I s2.l s1).elim
  |loc l=>
   obtain⟨a2,e2,h2⟩:=jM h';cases e2;obtain⟨ho,k1,k2,k3⟩:=wd.mem (mem_of_getElem? h2);rcases s1 with(s1|⟨o,s1⟩)|⟨o,its,n,s1,_⟩
   ·rw [k1]at s1;exact absurd (Option.some.inj s1) (k2 _)
   ·rw [k1]at s1;exact absurd (Option.some.inj s1) (k3 _ _)
   ·have:=(I.bs a o (I.mod.kin a o s1)).2;rw [k1]at this;cases this
  |non=>cases cS h'
  |bl b=>cases zAQ h'
  |int b=>cases yV h'
  |str b=>cases xG h'
  |typ b=>cases bR h'
  |obj c ns es=>
   obtain⟨a2,C,dx,us,o2,e2,h2,_⟩:=gF h';cases e2;rcases s1 with(s1|⟨o,s1⟩)|⟨o,its,n,s1,_⟩
   ·rw [h2]at s1;cases s1
   ·rw [h2]at s1;cases s1
   ·have:=(I.bs a o (I.mod.kin a o s1)).2;rw [h2]at this;cases this
 |.scr ds,f,v,h,h'=>by
  obtain⟨a,vs,rfl,s1,l1⟩:=gG h
  cases f with
  |scr es=>
   obtain⟨a2,us,e2,s2,l2⟩:=gG h';cases e2;cases I.list_inj s1.l s2.l;rw [DenL.inj I wd l1 l2]
  |tup es=>obtain⟨a2,us,e2,s2,l2⟩:=xC h';cases e2;exact(zHR I s1.l s2).elim
  |loc l=>
   obtain⟨a2,e2,h2⟩:=jM h';cases e2;obtain⟨ho,k1,k2,k3⟩:=wd.mem (mem_of_getElem? h2);rcases s1 with⟨o,s1⟩|⟨o,its,n,s1,_⟩
   ·rw [k1]at s1;exact absurd (Option.some.inj s1) (k3 _ _)
   ·have:=(I.bs a o (I.mod.kin a o s1)).2;rw [k1]at this;cases this
  |non=>cases cS h'
  |bl b=>cases zAQ h'
  |int b=>cases yV h'
  |str b=>cases xG h'
  |typ b=>cases bR h'
  |obj c ns es=>
   obtain⟨a2,C,dx,us,o2,e2,h2,_⟩:=gF h';cases e2;rcases s1 with⟨o,s1⟩|⟨o,its,n,s1,_⟩
   ·rw [h2]at s1;cases s1
   ·have:=(I.bs a o (I.mod.kin a o s1)).2;rw [h2]at this;cases this
 |.loc l,f,v,h,h'=>by
  obtain⟨a,rfl,h1⟩:=jM h;obtain⟨ho,k1,k2,k3⟩:=wd.mem (mem_of_getElem? h1)
  cases f with
  |loc m=>
   obtain⟨a2,e2,h2⟩:=jM h';cases e2;by_cases hlm:l=m
   ·rw [hlm]
   ·exact absurd rfl (wd.ne h1 h2 hlm)
  |tup es=>
   obtain⟨a2,us,e2,s1,l2⟩:=xC h';cases e2;rcases s1 with(s1|⟨o,s1⟩)|⟨o,its,n,s1,_⟩
   ·rw [k1]at s1;exact absurd (Option.some.inj s1) (k2 _)
   ·rw [k1]at s1;exact absurd (Option.some.inj s1) (k3 _ _)
   ·have:=(I.bs a o (I.mod.kin a o s1)).2;rw [k1]at this;cases this
  |scr es=>
   obtain⟨a2,us,e2,s1,l2⟩:=gG h';cases e2;rcases s1 with⟨o,s1⟩|⟨o,its,n,s1,_⟩
   ·rw [k1]at s1;exact absurd (Option.some.inj s1) (k3 _ _)
   ·have:=(I.bs a o (I.mod.kin a o s1)).2;rw [k1]at this;cases this
  |non=>cases cS h'
  |bl b=>cases zAQ h'
  |int b=>cases yV h'
  |str b=>cases xG h'
  |typ b=>cases bR h'
  |obj c ns es=>
   obtain⟨a2,C,dx,us,o2,e2,h2,_⟩:=gF h';cases e2;rw [k1]at h2;exact absurd (Option.some.inj h2) (k3 _ _)
 |.obj c ns ds,f,v,h,h'=>by
  obtain⟨a,C,dx,us,o2,rfl,h2,hn,hc,hl,l1⟩:=gF h
  cases f with
  |obj c' ns' es=>
   obtain⟨a2,C2,dx2,us2,o3,e2,h3,hn2,hc2,hl2,l2⟩:=gF h';cases e2;rw [h2]at h3;injection h3 with h3
   injection h3 with _ h3
   injection h3 with e1 e2 e3
   subst e1;rw [hc]at hc2;cases hc2;obtain⟨rfl,rfl⟩:=yAK hl hl2 e3;rw [DenL.inj I wd l1 l2]
  |tup es=>
   obtain⟨a2,us,e2,s1,l2⟩:=xC h';cases e2;rcases s1 with(s1|⟨o,s1⟩)|⟨o,its,n,s1,_⟩
   ·rw [h2]at s1;cases s1
   ·rw [h2]at s1;cases s1
   ·have:=(I.bs a o (I.mod.kin a o s1)).2;rw [h2]at this;cases this
  |scr es=>
   obtain⟨a2,us,e2,s1,l2⟩:=gG h';cases e2;rcases s1 with⟨o,s1⟩|⟨o,its,n,s1,_⟩
   ·rw [h2]at s1;cases s1
   ·have:=(I.bs a o (I.mod.kin a o s1)).2;rw [h2]at this;cases this
  |loc l=>
   obtain⟨a2,e2,h1⟩:=jM h';cases e2;obtain⟨ho,k1,k2,k3⟩:=wd.mem (mem_of_getElem? h1);rw [k1]at h2;exact absurd (Option.some.inj h2) (k3 _ _)
  |non=>cases cS h'
  |bl b=>cases zAQ h'
  |int b=>cases yV h'
  |str b=>cases xG h'
  |typ b=>cases bR h'
theorem DenL.inj(I:Inv X pins σ H s)(wd:Wd X.g α S H): ∀{ds fs:Bh}{vs:List V},DenL X.K α H ds vs->DenL X.K α H fs vs->ds=fs
 |[],fs,vs,h,h'=>by
  cases h.isnil
  cases fs with
  |nil=>rfl
  |cons f fs=>obtain⟨_,_,e,_⟩:=h'.uncons;cases e
 |d::ds,fs,vs,h,h'=>by
  obtain⟨v,r,rfl,a,l⟩:=h.uncons
  cases fs with
  |nil=>cases h'.isnil
  |cons f fs=>
   obtain⟨v',r',e,a',l'⟩:=h'.uncons;cases e;rw [Den.inj I wd a a',DenL.inj I wd l l']
end

end
inductive LexR(A:Around)(s:Shared):List Value->List Value->Bool->Prop
 |nn:LexR A s [] [] false
 |nc (x xs):LexR A s [] (x::xs) true
 |cn (y ys):LexR A s (y::ys) [] false
 |eq {y x ys xs k}:SeqAt.EqAt A s y x true->LexR A s ys xs k->LexR A s (y::ys) (x::xs) k
 |ne {y x ys xs k}:SeqAt.EqAt A s y x false->(∀(prog:Program)(w:World)(E Q:VP),Q (.bool k) s->wpAny (model prog w) A (richCompare .Lt y x) Q E s)->LexR A s (y::ys) (x::xs) k
section
open PySem.SeqAt
open PySem.AutoSeq1 (wpAny_loadPart')
open PySem.MeetsSeq PySem.MeetsSeq2 PySem.MeetsSeq3
def zYF(l b:Addr)(its its2:Ag)(n n2:Nat)(dd dd2:Option Addr)(sl sl2:Array (Option Value))(k:Bool):
  Meets (Builtin.«tuple.__lt__» ⟨[.ref l,.ref b],[]⟩)
   (λA R s=>s.heap.get? l=some {cls:=.type "tuple",dict:=dd,data:=.seq its n,slots:=sl}/\s.heap.get? b=some {cls:=.type "tuple",dict:=dd2,data:=.seq its2 n2,slots:=sl2}/\
    LexR A.in1 s its.toList its2.toList k/\R (.ok (.ret (.bool k))) s):=
 .of_wp λprog w A R s h=>by
  obtain⟨hp,g,d,tk,os⟩:=s;obtain⟨hl,hb,hx,h⟩:=h;have f2:=AutoSeq1.sub_tuple_tuple
  wp_walk using wpAny_loadPart' hl,wpAny_loadPart' hb,wpAny_forIn_list _ (λrest b s'=>b.1=none/\s'=⟨hp,g,d,tk,os⟩/\ ∃(vs ws:Ae),rest=vs.zip ws/\
   LexR A.in1 ⟨hp,g,d,tk,os⟩ vs ws k/\vs.length+its2.size=ws.length+its.size) _
  case turn=>
   rintro⟨y,x⟩ rest b s' ⟨hb',rfl,vs,ws,hz,hlx,hlen⟩
   cases hlx with
   |nn=>rw [zip_nil_left]at hz;cases hz
   |nc x xs=>rw [zip_nil_left]at hz;cases hz
   |cn y ys=>rw [List.zip_nil_right]at hz;cases hz
   |@eq y' x' ys xs k' he hr=>
    rw [zip_cons_cons]at hz;injection hz with hyx hrest
    injection hyx with hy hx
    subst hy hx;simp only [lC]at hlen;refine wB0 (he prog w _ _ ?_)
    wp_walk
    exact⟨rfl,rfl,_,_,hrest,hr,by omega⟩
   |@ne y' x' ys xs k' he hr=>
    rw [zip_cons_cons]at hz;injection hz with hyx hrest
    injection hyx with hy hx
    subst hy hx;refine wB0 (he prog w _ _ ?_);have hri:=hr prog w
    wp_walk using hri
    exact⟨_,rfl,by simpa using h⟩
  case fin=>
   rintro⟨b1,b2⟩ s' ⟨hb',rfl,vs,ws,hz,hlx,hlen⟩;simp only at hb';subst hb'
   have hv:k=decide (its.size<its2.size):=by
    cases hlx with
    |nn=>simp only [length_nil]at hlen;exact(dF0 (by omega)).symm
    |nc x xs=>simp only [length_nil,lC]at hlen;exact(dT0 (by omega)).symm
    |cn y ys=>simp only [length_nil,lC]at hlen;exact(dF0 (by omega)).symm
    |eq he hr=>rw [zip_cons_cons]at hz;cases hz
    |ne he hr=>rw [zip_cons_cons]at hz;cases hz
   rw [hv]at h
   wp_walk
   exact⟨_,rfl,by simpa [Builtin.Tuple.tupleCompareSizes]using h⟩
  case h=>
   exact⟨rfl,rfl,its.toList,its2.toList,rfl,hx,by simp;omega⟩
end
def yGO{A:Around}{s:Shared}{l b:Addr}{its its2:Ag}{k:Bool}(hl:IsTup s.heap l its)(hb:IsTup s.heap b its2)(hx:LexR A.in1 s its.toList its2.toList k)(hu:A.units<cLine)(prog:Program)(w:World)(E Q:VP)(h:Q (.bool k) s):
  wpAny (model prog w) A (richCompare .Lt (.ref l) (.ref b)) Q E s:=by
 obtain⟨⟨cls,dd,data,sl⟩,ho,hc,n,hd⟩:=id hl;obtain⟨⟨cls2,dd2,data2,sl2⟩,ho2,hc2,n2,hd2⟩:=id hb;simp only at hc hd hc2 hd2;subst hc hd hc2 hd2
 exact richCompare_meets_room (op:=.Lt) ⟨_,ho,rfl⟩ ⟨_,ho2,rfl⟩ PySem.F.slot_tuple_lt PySem.F.entry_tuple_lt (PySem.F.args_tuple_lt_2 _ _) (zYF l b its its2 n n2 dd dd2 sl sl2 k)
  ⟨ho,ho2,hx,show Value.bool k≠Value.notImplemented/\Q (.bool k) s from⟨(λx=>nomatch x),h⟩⟩ hu
def zIZ(e l:MV->MV->Option Bool):List MV->List MV->Option Bool
 |[],[]=>some false
 |[],_::_=>some true
 |_::_,[]=>some false
 |d::ds,f::fs=>(e d f).bind λk=>if k=true then zIZ e l ds fs else l d f
def ltv(S:Sto):Nat->MV->MV->Option Bool
 |0,_,_=>none
 |n+1,.int i,.int j=>some (decide (i<j))
 |n+1,.str x,.str y=>some (decide (x<y))
 |n+1,.tup ds,.tup es=>zIZ (eqv S n) (ltv S n) ds es
 |_,_,_=>none
section
variable{X:Cx}{α:Ah}{S:Sto}{H:Hp}{pins:Ba}{σ:St}{s:Shared}
theorem yAL{A:Around}{e l:MV->MV->Option Bool}(he: ∀d f x y u v k,Den X.K α H d x->Den X.K α H f y->RelV x u->RelV y v->e d f=some k->SeqAt.EqAt A s u v k)
  (hl: ∀d f x y u v k,Den X.K α H d x->Den X.K α H f y->RelV x u->RelV y v->l d f=some k-> ∀(prog:Program)(w:World)(E Q:VP),Q (.bool k) s->wpAny (model prog w) A (richCompare .Lt u v) Q E s):
  ∀{ds fs:Bh}{vs us:List V}{its its2:Ae}{k:Bool},DenL X.K α H ds vs->DenL X.K α H fs us->Vals vs its->Vals us its2->zIZ e l ds fs=some k->LexR A s its its2 k
 |[],[],_,_,_,_,k,l1,l2,r1,r2,h=>by cases l1.isnil;cases l2.isnil;cases r1;cases r2;cases h;exact .nn
 |[],f::fs,_,_,_,_,k,l1,l2,r1,r2,h=>by
  cases l1.isnil;obtain⟨v,r,rfl,a,l⟩:=l2.uncons;cases r1
  cases r2 with
  |cons a b=>cases h;exact .nc _ _
 |d::ds,[],_,_,_,_,k,l1,l2,r1,r2,h=>by
  cases l2.isnil;obtain⟨v,r,rfl,a,l⟩:=l1.uncons;cases r2
  cases r1 with
  |cons a b=>cases h;exact .cn _ _
 |d::ds,f::fs,_,_,_,_,k,l1,l2,r1,r2,h=>by
  obtain⟨v,r,rfl,a,l1'⟩:=l1.uncons;obtain⟨v2,r3,rfl,a2,l2'⟩:=l2.uncons
  cases r1 with
  |cons b1 c1=>
   cases r2 with
   |cons b2 c2=>
    unfold zIZ at h
    cases z:e d f with
    |none=>rw [z]at h;cases h
    |some kk=>
     rw [z]at h;have h:(if kk=true then zIZ e l ds fs else l d f)=some k:=h
     cases kk with
     |true=>
      rw [iP rfl]at h;exact .eq (he d f _ _ _ _ _ a a2 b1 b2 z) (yAL he hl l1' l2' c1 c2 h)
     |false=>
      rw [iN xF0]at h;exact .ne (he d f _ _ _ _ _ a a2 b1 b2 z) (hl d f _ _ _ _ _ a a2 b1 b2 h)
theorem zSA(I:Inv X pins σ H s)(wd:Wd X.g α S H): ∀(n:Nat)(A:Around)(d f:MV)(x y:V)(u v:Value)(k:Bool),A.units+n<cLine->Den X.K α H d x->Den X.K α H f y->RelV x u->RelV y v->ltv S n d f=some k->
  ∀(prog:Program)(w:World)(E Q:VP),Q (.bool k) s->wpAny (model prog w) A (richCompare .Lt u v) Q E s
 |0,_,_,_,_,_,_,_,_,_,_,_,_,_,h=>by cases h
 |n+1,A,d,f,x,y,u,v,k,hu,h1,h2,rx,ry,h=>by
  intro prog w E Q hq;unfold ltv at h;split at h
  ·cases h
  ·cases h;cases yV h1;cases yV h2;obtain⟨t,rfl⟩:=rx;obtain⟨t',rfl⟩:=ry;exact(PyProof.Rows.lt_int hq:wpAny (model prog w) A (compareOp .Lt _ _) Q E s)
  ·cases h;cases xG h1;cases xG h2;obtain⟨t,rfl⟩:=rx;obtain⟨t',rfl⟩:=ry;refine(PySem.P.lt_str ?_:wpAny (model prog w) A (compareOp .Lt _ _) Q E s);rw [zBN,zBN];exact hq
  ·rename_i n' ds es hn;obtain⟨a,vs,rfl,s1,l1⟩:=xC h1;obtain⟨b,us,rfl,s2,l2⟩:=xC h2;cases rx;cases ry;obtain⟨its,r1,pt,_⟩:=I.tuple s1;obtain⟨its2,r2,pt2,_⟩:=I.tuple s2;cases hn;refine yGO pt pt2 ?_ (by omega) prog w E Q hq
   exact yAL (λd f x y u v k a b c d' e=>zBS I wd n A.in1 d f x y u v k (show A.units+1+n<cLine by omega) a b c d' e)
    (λd f x y u v k a b c d' e=>zSA I wd n A.in1 d f x y u v k (show A.units+1+n<cLine by omega) a b c d' e) l1 l2 r1 r2 h
  ·cases h
end
section
variable{X:Cx}{W:XW}{a b c e:Expr}{es:Bd}{f g h:AX}{af:Rho->Sto->R (List Er)}{pos:Pos}
def iiF(C:Int->Int->Prop)[∀i j,Decidable (C i j)](g:Int->Int->Int):Er->Er->Sto->R Er
 |.val (.int i),.val (.int j),S=>if C i j then .ok (.val (.int (g i j))) S else .no
 |_,_,_=>.no
def ibF(g:Int->Int->Bool):Er->Er->Sto->R Er
 |.val (.int i),.val (.int j),S=>.ok (.val (.bl (g i j))) S
 |_,_,_=>.no
def zYG{C C':Int->Int->Prop}[∀i j,Decidable (C i j)]{g:Int->Int->Int}(h: ∀i j,C i j->C' i j):Op2 X W (rI C' λi j=>.int (g i j)) (iiF C g):=by
 intro p q x y α S H Q wd dp dq post;unfold iiF at post;split at post
 ·split at post
  ·rename_i hc;exact⟨_,_,yW dp,yW dq,h _ _ hc,Post.val post wd (xF _)⟩
  ·exact post.elim
 ·exact post.elim
def yKR{g:Int->Int->Int}:Op2 X W (rI0 λi j=>.int (g i j)) (iiF (λ_ _=>True) g):=by
 intro p q x y α S H Q wd dp dq post;unfold iiF at post;split at post
 ·rw [iP trivial]at post;exact⟨_,_,yW dp,yW dq,Post.val post wd (xF _)⟩
 ·exact post.elim
abbrev yDG:=iiF (λ_ _=>True) λi j=>i - j
def zSB(ha:PEm X W a f)(hb:PEm X W b g):PEm X W (.BinOp a .Sub b pos) (λρ S=>(f ρ S).bind λp S1=>(g ρ S1).bind λq S2=>yDG p q S2):=zQF yPL yKR ha hb
def divC(_ j:Int):Prop:=0<j/\j.natAbs.log2<9000
instance(i j:Int):Decidable (divC i j):=inferInstanceAs (Decidable (_/\_))
abbrev divF:=iiF divC λi j=>i / j
def yGP:OpR X (binaryOp .FloorDiv) (rI divC λi j=>.int (i / j)):=opI λi j _ _ _ _ _ hc q=>by have e:i.fdiv j=i / j:=Int.fdiv_eq_ediv_of_nonneg i (Int.le_of_lt hc.1);refine floordiv_int (by have:=hc.1;omega) ?_ (.inl (PyProof.noPylong_of_log2 hc.2));rw [e];exact q
def yQH(ha:PEm X W a f)(hb:PEm X W b g):PEm X W (.BinOp a .FloorDiv b pos) (λρ S=>(f ρ S).bind λp S1=>(g ρ S1).bind λq S2=>divF p q S2):=zQF yGP (zYG λi j h=>h) ha hb
abbrev zBT:=iiF (λ_ j=>0<j) λi j=>i % j
def jG(ha:PEm X W a f)(hb:PEm X W b g):PEm X W (.BinOp a .Mod b pos) (λρ S=>(f ρ S).bind λp S1=>(g ρ S1).bind λq S2=>zBT p q S2):=zQF yPM (zYG λi j h=>h) ha hb
def yGQ(i j:Int):Prop:=0<=j/\(Builtin.Int.intBits i:Int) * j<=2 ^ 27
instance(i j:Int):Decidable (yGQ i j):=inferInstanceAs (Decidable (_/\_))
abbrev powF:=iiF yGQ λi j=>i ^ j.toNat
def yKS:OpR X (binaryOp .Pow) (rI yGQ λi j=>.int (i ^ j.toNat)):=opI λ_ _ _ _ _ _ _ hc q=>pow_int hc.1 hc.2 q
def yQI(ha:PEm X W a f)(hb:PEm X W b g):PEm X W (.BinOp a .Pow b pos) (λρ S=>(f ρ S).bind λp S1=>(g ρ S1).bind λq S2=>powF p q S2):=zQF yKS (zYG λi j h=>h) ha hb
def shlC(i j:Int):Prop:=0<=j/\j<=1000000/\i.natAbs<2 ^ 64
instance(i j:Int):Decidable (shlC i j):=inferInstanceAs (Decidable (_/\_/\_))
def usubF:Er->Sto->R Er
 |.val (.int i),S=>.ok (.val (.int (-i))) S
 |_,_=>.no
def lsW(S:Sto):Er->Option (List MV)
 |.new ds=>some ds
 |.val (.loc l)=>match S[l]? with
  |some (.lst ds)=>some ds
  |_=>none
 |_=>none
def zSC{α:Ah}{S:Sto}{H:Hp}(wd:Wd X.g α S H){r:Er}{ds:Bh}{x:V}(e:lsW S r=some ds)(d:DenX X.K α H r x): ∃a vs,x=.ref a/\H a=some (.lst vs)/\DenL X.K α H ds vs:=by
 unfold lsW at e;split at e
 ·cases e;obtain⟨b,vs,rfl,h,_,l⟩:=d;exact⟨b,vs,rfl,h,l⟩
 ·rename_i n;obtain⟨a,rfl,h⟩:=zBQ d;split at e
  ·rename_i es hS;cases e;obtain⟨vs,h1,l⟩:=wd.obj n a _ h hS;exact⟨a,vs,rfl,h1,l⟩
  ·cases e
 ·cases e
def yAM(p q:Er)(S:Sto):R Er:=match lsW S p,lsW S q with
 |some x,some y=>if x.length+y.length<=sizeLine then .ok (.new (x++y)) S else .no
 |_,_=>.no
def jH:Er->Er->Sto->R Er
 |.val (.int i),.val (.int j),S=>.ok (.val (.int (i+j))) S
 |.val (.str x),.val (.str y),S=>if x.length+y.length<=sizeLine then .ok (.val (.str (x++y))) S else .no
 |.val (.tup x),.val (.tup y),S=>if x.length+y.length<=sizeLine then .ok (.val (.tup (x++y))) S else .no
 |p,q,S=>yAM p q S
def yGR:OpR X (binaryOp .Add) (λx y H Q=> ∃a b ys,x=.ref a/\y=.ref b/\SqT X.K H a []/\SqT X.K H b ys/\Q (.ref b) H):=by
 intro pins s σ H x y v u Q I rx ry h;obtain⟨a,b,ys,rfl,rfl,ha,hb,q⟩:=h;cases rx;cases ry;obtain⟨its,r1,p1,_⟩:=I.tuple ha;obtain⟨its2,r2,p2,_⟩:=I.tuple hb;have e0:its=[]:=r1.nil_iff.mpr rfl;subst e0;obtain⟨⟨cls,dd,data,sl⟩,ho,hc,n,hd⟩:=id p1;obtain⟨⟨cls2,dd2,data2,sl2⟩,ho2,hc2,n2,hd2⟩:=id p2;simp only at hc hd hc2 hd2;subst hc hd hc2 hd2
 exact concat_meets ⟨_,ho,rfl⟩ ⟨_,ho2,rfl⟩ noFill_tuple_add seq_tuple_add PySem.F.slot_tuple_add PySem.F.entry_tuple_add (PySem.F.args_tuple_add_2 _ _)
  (tuple_addW0 a b _ _ n n2 dd dd2 sl sl2 rfl) ⟨ho,ho2,⟨.ref b,H,I,rfl,q⟩⟩
def xH(ha:PEm X W a f)(hb:PEm X W b g):PEm X W (.BinOp a .Add b pos) (λρ S=>(f ρ S).bind λp S1=>(g ρ S1).bind λq S2=>jH p q S2):=by
 refine zQF (yPK.or (zXQ.or (yPX.or (yKD.or yGR)))) ?_ ha hb;intro p q x y α S H Q wd dp dq post;unfold jH at post;split at post
 ·exact .inl ⟨_,_,yW dp,yW dq,Post.val post wd (xF _)⟩
 ·split at post
  ·rename_i hz;refine .inr (.inl ⟨_,_,gH dp,gH dq,by rw [wZ,wZ];exact hz,?_⟩);rw [yKK];exact Post.val post wd (zBO _)
  ·exact post.elim
 ·split at post
  ·rename_i xx yy hz;obtain⟨a1,vs,rfl,s1,l1⟩:=bS dp;obtain⟨a2,us,rfl,s2,l2⟩:=bS dq;by_cases h0:vs=[]
   ·subst h0;have e0:=l1.length;refine .inr (.inr (.inr (.inr ⟨a1,a2,us,rfl,rfl,s1,s2,?_⟩)));have:xx=[]:=by cases xx with |nil=>rfl|cons _ _=>simp at e0
    subst this;exact Post.val post wd (zBP s2 l2)
   ·refine .inr (.inr (.inr (.inl ⟨a1,a2,vs,us,rfl,rfl,s1,s2,h0,by rw [l1.length,l2.length];exact hz,λh1=>?_,λh1 p hp=>Post.newt post wd hp (l1.append l2)⟩)));subst h1;have e0:=l2.length;have:yy=[]:=by cases yy with |nil=>rfl|cons _ _=>simp at e0
    subst this;rw [aN]at post;exact Post.val post wd (zBP s1 l1)
  ·exact post.elim
 ·unfold yAM at post;split at post
  ·rename_i ds1 ds2 e1 e2;split at post
   ·rename_i hz;obtain⟨a1,vs,rfl,h1,l1⟩:=zSC wd e1 dp;obtain⟨a2,us,rfl,h2,l2⟩:=zSC wd e2 dq;exact .inr (.inr (.inl ⟨a1,a2,vs,us,rfl,rfl,h1,h2,by rw [l1.length,l2.length];exact hz,λp hp=>Post.newl post wd hp (l1.append l2)⟩))
   ·exact post.elim
  ·exact post.elim
def mulC(i j:Int):Prop:=(-(2 ^ 64)<i/\i<2 ^ 64)\/(-(2 ^ 64)<j/\j<2 ^ 64)\/(i.natAbs.log2<4000/\j.natAbs.log2<4000)
def yAN{i:Int}(h:i.natAbs.log2<4000):Builtin.Int.intBits i<=2 ^ 20:=by
 have e:(2:Nat) ^ 20=1048576:=by decide
 unfold Builtin.Int.intBits;split<;>omega
def mulC.ok{i j:Int}(h:mulC i j):IntMulOk i j:=by
 rcases h with h|h|⟨h1,h2⟩
 ·exact CMul.ok (.inl h)
 ·exact CMul.ok (.inr h)
 ·exact .of_bits (yAN h1) (yAN h2)
def yKT{X:Cx}:OpR X (binaryOp .Mult) (rI mulC λi j=>.int (i * j)):=opI λ_ _ _ _ _ _ _ hc q=>mul_int q hc.ok
instance(i j:Int):Decidable (mulC i j):=inferInstanceAs (Decidable (_\/_\/_))
def yOC(p:Er)(k:Int)(S:Sto):R Er:=match lsW S p with
 |some x=>if 0<=k/\k<100000/\x.length * k.toNat<=sizeLine then .ok (.new (List.replicate k.toNat x).flatten) S else .no
 |none=>.no
def zMH:Er->Er->Sto->R Er
 |.val (.int i),.val (.int j),S=>if mulC i j then .ok (.val (.int (i * j))) S else .no
 |.val (.str x),.val (.int k),S=>if 0<=k/\k<1000/\x.length<=1000 then .ok (.val (.str (zMA x k))) S else .no
 |p,.val (.int k),S=>yOC p k S
 |_,_,_=>.no
theorem DenL.rep{K:Be}{α:Ah}{H:Hp}{ds:Bh}{vs:List V}(l:DenL K α H ds vs): ∀k:Nat,DenL K α H (List.replicate k ds).flatten (List.replicate k vs).flatten
 |0=>yI
 |k+1=>by rw [replicate_succ,flatten_cons,replicate_succ,flatten_cons];exact l.append (DenL.rep l k)
def zGO(ha:PEm X W a f)(hb:PEm X W b g):PEm X W (.BinOp a .Mult b pos) (λρ S=>(f ρ S).bind λp S1=>(g ρ S1).bind λq S2=>zMH p q S2):=by
 refine zQF (yKT.or (zYB.or yPY)) ?_ ha hb;intro p q x y α S H Q wd dp dq post;unfold zMH at post;split at post
 ·split at post
  ·rename_i hc;exact .inl ⟨_,_,yW dp,yW dq,hc,Post.val post wd (xF _)⟩
  ·exact post.elim
 ·split at post
  ·rename_i hc;exact .inr (.inl ⟨_,_,gH dp,yW dq,hc.1,hc.2.1,hc.2.2,Post.val post wd (zBO _)⟩)
  ·exact post.elim
 ·unfold yOC at post;split at post
  ·rename_i ds e1;split at post
   ·rename_i hc;obtain⟨a1,vs,rfl,h1,l1⟩:=zSC wd e1 dp;exact .inr (.inr ⟨a1,_,vs,rfl,yW dq,h1,by omega,by omega,by rw [l1.length];exact hc.2.2,λp hp=>Post.newl post wd hp (l1.rep _)⟩)
   ·exact post.elim
  ·exact post.elim
 ·exact post.elim
def zI:Nat:=40
def eqF(p q:Er)(S:Sto):R Er:=match zKW S zI p q with
 |some k=>.ok (.val (.bl k)) S
 |none=>.no
def neF(p q:Er)(S:Sto):R Er:=match zKW S zI p q with
 |some k=>.ok (.val (.bl !k)) S
 |none=>.no
def yGS(hu:X.A.units+64<cLine):OpR X (compareOp .Eq) (λx y H Q=> ∃α S p q k,Wd X.g α S H/\DenX X.K α H p x/\DenX X.K α H q y/\zKW S zI p q=some k/\Q (.bl k) H):=by intro pins s σ H x y v u Q I rx ry h;obtain⟨α,S,p,q,k,wd,dp,dq,e,hq⟩:=h;exact yQF I wd zI (by unfold zI;omega) dp dq rx ry e X.prog X.w _ _ ⟨.bl k,H,I,rfl,hq⟩
def yGT(hu:X.A.units+64<cLine):OpR X (compareOp .NotEq) (λx y H Q=> ∃α S p q k,Wd X.g α S H/\DenX X.K α H p x/\DenX X.K α H q y/\zKW S zI p q=some k/\Q (.bl (!k)) H):=by intro pins s σ H x y v u Q I rx ry h;obtain⟨α,S,p,q,k,wd,dp,dq,e,hq⟩:=h;exact yQG I wd zI (by unfold zI;omega) dp dq rx ry e X.prog X.w _ _ ⟨.bl (!k),H,I,rfl,hq⟩
def yAO:Op2 X W (λx y H Q=> ∃α S p q k,Wd X.g α S H/\DenX X.K α H p x/\DenX X.K α H q y/\zKW S zI p q=some k/\Q (.bl k) H) eqF:=by
 intro p q x y α S H Q wd dp dq post;unfold eqF at post;split at post
 ·rename_i k e;exact⟨α,S,p,q,k,wd,dp,dq,e,Post.val post wd (kH _)⟩
 ·exact post.elim
def yAP:Op2 X W (λx y H Q=> ∃α S p q k,Wd X.g α S H/\DenX X.K α H p x/\DenX X.K α H q y/\zKW S zI p q=some k/\Q (.bl (!k)) H) neF:=by
 intro p q x y α S H Q wd dp dq post;unfold neF at post;split at post
 ·rename_i k e;exact⟨α,S,p,q,k,wd,dp,dq,e,Post.val post wd (kH _)⟩
 ·exact post.elim
def zKN(hu:X.A.units+64<cLine)(ha:PEm X W a f)(hb:PEm X W b g):PEm X W (.Compare a [.Eq] [b] pos) (λρ S=>(f ρ S).bind λp S1=>(g ρ S1).bind λq S2=>eqF p q S2):=zRR (yGS hu) yAO ha hb
def zDZ(hu:X.A.units+64<cLine)(ha:PEm X W a f)(hb:PEm X W b g):PTm X W (.Compare a [.Eq] [b] pos) (λρ S=>((f ρ S).bind λp S1=>(g ρ S1).bind λq S2=>eqF p q S2).bind asB):=zGN (yGS hu) yAO ha hb
def pm_ne(hu:X.A.units+64<cLine)(ha:PEm X W a f)(hb:PEm X W b g):PEm X W (.Compare a [.NotEq] [b] pos) (λρ S=>(f ρ S).bind λp S1=>(g ρ S1).bind λq S2=>neF p q S2):=zRR (yGT hu) yAP ha hb
def zQI(hu:X.A.units+64<cLine)(ha:PEm X W a f)(hb:PEm X W b g):PTm X W (.Compare a [.NotEq] [b] pos) (λρ S=>((f ρ S).bind λp S1=>(g ρ S1).bind λq S2=>neF p q S2).bind asB):=zGN (yGT hu) yAP ha hb
def ltF:Er->Er->Sto->R Er
 |.val d,.val f,S=>match ltv S zI d f with
  |some k=>.ok (.val (.bl k)) S
  |none=>.no
 |_,_,_=>.no
def yGU(hu:X.A.units+64<cLine):OpR X (compareOp .Lt) (λx y H Q=> ∃α S d f k,Wd X.g α S H/\Den X.K α H d x/\Den X.K α H f y/\ltv S zI d f=some k/\Q (.bl k) H):=by intro pins s σ H x y v u Q I rx ry h;obtain⟨α,S,d,f,k,wd,dp,dq,e,hq⟩:=h;exact zSA I wd zI X.A d f x y v u k (by unfold zI;omega) dp dq rx ry e X.prog X.w _ _ ⟨.bl k,H,I,rfl,hq⟩
def yAQ:Op2 X W (λx y H Q=> ∃α S d f k,Wd X.g α S H/\Den X.K α H d x/\Den X.K α H f y/\ltv S zI d f=some k/\Q (.bl k) H) ltF:=by
 intro p q x y α S H Q wd dp dq post;unfold ltF at post;split at post
 ·split at post
  ·rename_i k e;exact⟨α,S,_,_,k,wd,dp,dq,e,Post.val post wd (kH _)⟩
  ·exact post.elim
 ·exact post.elim
def pm_lt(hu:X.A.units+64<cLine)(ha:PEm X W a f)(hb:PEm X W b g):PEm X W (.Compare a [.Lt] [b] pos) (λρ S=>(f ρ S).bind λp S1=>(g ρ S1).bind λq S2=>ltF p q S2):=zRR (yGU hu) yAQ ha hb
def tm_lt(hu:X.A.units+64<cLine)(ha:PEm X W a f)(hb:PEm X W b g):PTm X W (.Compare a [.Lt] [b] pos) (λρ S=>((f ρ S).bind λp S1=>(g ρ S1).bind λq S2=>ltF p q S2).bind asB):=zGN (yGU hu) yAQ ha hb
def isNF:Er->Er->Sto->R Er
 |.val .non,.val .non,S=>.ok (.val (.bl true)) S
 |_,.val .non,S=>.ok (.val (.bl false)) S
 |_,_,_=>.no
def zHT:Er->Er->Sto->R Er
 |.val .non,.val .non,S=>.ok (.val (.bl false)) S
 |_,.val .non,S=>.ok (.val (.bl true)) S
 |_,_,_=>.no
theorem yGV{α:Ah}{H:Hp}{p:Er}{x:V}(d:DenX X.K α H p x)(n:p≠.val .non):decide (x=.non)=false:=by
 cases p with
 |new ds=>obtain⟨b,vs,rfl,_⟩:=d;rfl
 |val m=>
  cases m with
  |non=>exact absurd rfl n
  |bl b=>cases zDW d;rfl
  |int b=>cases yW d;rfl
  |str b=>cases gH d;rfl
  |typ b=>cases yGE d;rfl
  |obj b b' b''=>obtain⟨_,_,_,_,_,rfl,_⟩:=zYC d;rfl
  |tup b=>obtain⟨_,_,rfl,_⟩:=bS d;rfl
  |scr b=>obtain⟨_,_,rfl,_⟩:=zMB d;rfl
  |loc b=>obtain⟨_,rfl,_⟩:=zBQ d;rfl
def zUU:Op2 X W (λx y H Q=>y=.non/\Q (.bl (!decide (x=.non))) H) zHT:=by
 intro p q x y α S H Q wd dp dq post;unfold zHT at post;split at post
 ·cases zIU dp;exact⟨zIU dq,Post.val post wd (kH _)⟩
 ·rename_i p' S' hn;rw [yGV dp (λz=>by first |exact hn z|exact hn z rfl|exact hn _ z|exact hn rfl z)];exact⟨zIU dq,Post.val post wd (kH _)⟩
 ·exact post.elim
def yGW(ha:PEm X W a f)(hb:PEm X W b g):PEm X W (.Compare a [.IsNot] [b] pos) (λρ S=>(f ρ S).bind λp S1=>(g ρ S1).bind λq S2=>zHT p q S2):=zRR zZZ zUU ha hb
def yGX(ha:PEm X W a f)(hb:PEm X W b g):PTm X W (.Compare a [.IsNot] [b] pos) (λρ S=>((f ρ S).bind λp S1=>(g ρ S1).bind λq S2=>zHT p q S2).bind asB):=zGN zZZ zUU ha hb
def getL(ds:Bh):Er->Sto->R Er
 |.val (.int i),S=>match atI ds i with |some d=>.ok (.val d) S|none=>.no
 |_,_=>.no
def ixF:Er->Er->Sto->R Er
 |.val (.str x),.val (.int i),S=>if x.length<=sizeLine then match atI x i with |some c=>.ok (.val (.str [c])) S|none=>.no else .no
 |.val (.tup ds),q,S=>getL ds q S
 |p,q,S=>match xX S p with |some ds=>getL ds q S|none=>.no
def yKU{K:Be}{α:Ah}{H:Hp}{ds:Bh}{vs:List V}{i:Int}{d:MV}(l:DenL K α H ds vs)(e:atI ds i=some d): ∃v,atI vs i=some v/\Den K α H d v:=by
 unfold atI at e ⊢;rw [l.length]
 cases z:ixN ds.length i with
 |none=>rw [z]at e;cases e
 |some j=>
  rw [z]at e;obtain⟨v,h1,h2⟩:=l.at (show ds[j]? =some d from e);exact⟨v,h1,h2⟩
def zS(ha:PEm X W a f)(hb:PEm X W b g)(hs:zRK b:=by exact λ_ _=>rfl):PEm X W (.Subscript a b pos) (λρ S=>(f ρ S).bind λp S1=>(g ρ S1).bind λq S2=>ixF p q S2):=by
 refine pm_ix yPU ?_ ha hb hs;intro p q x y α S H Q wd dp dq post;have key: ∀{ds:Bh}{vs:List V}{i:Int}{d:MV},DenL X.K α H ds vs->atI ds i=some d->Post X.g W α H (.ok (Er.val d) S) Q-> ∃v,atI vs i=some v/\Q v H:=λl e post=>by obtain⟨v,h1,h2⟩:=yKU l e;exact⟨v,h1,Post.val post wd h2⟩
 unfold ixF at post;split at post
 ·split at post
  ·rename_i hz;split at post
   ·rename_i ch e;refine .inr (.inr ⟨_,_,ch,gH dp,yW dq,by rw [wZ];exact hz,by rw [zBN];exact e,?_⟩);exact Post.val post wd (zBO [ch])
   ·exact post.elim
  ·exact post.elim
 ·unfold getL at post;split at post
  ·split at post
   ·rename_i d e;obtain⟨a1,vs,rfl,s1,l1⟩:=bS dp;obtain⟨v,h1,h2⟩:=key l1 e post;exact .inr (.inl ⟨a1,vs,_,v,rfl,yW dq,s1,h1,h2⟩)
   ·exact post.elim
  ·exact post.elim
 ·split at post
  ·rename_i ds el;unfold getL at post;split at post
   ·split at post
    ·rename_i d e;obtain⟨a1,vs,rfl,s1,l1⟩:=nN rfl wd el dp;obtain⟨v,h1,h2⟩:=key l1 e post;exact .inl ⟨a1,vs,_,v,rfl,yW dq,s1,h1,h2⟩
    ·exact post.elim
   ·exact post.elim
  ·exact post.elim
end
def zOZ{prog:Program}{w:World}{A:Around}{E:VP}{s:Shared}{t sl:Addr}{its:Ag}{vl vu:Value}{lo hi:Bc}{Q:VP}(ht:IsTup s.heap t its)(hs:s.heap.IsSliceOf sl vl vu .none)(pl:IsPart vl lo)(pu:IsPart vu hi)
  (h0:HT.sIx its.size 0 lo=0) (h1:HT.sIx its.size its.size hi=its.size) (h:Q (.ref t) s):wpAny (model prog w) A (getItem (.ref t) (.ref sl)) Q E s:=by
 have hTs:s.TypeIs (.ref sl) "slice":=by obtain⟨os,hos,hcs,_⟩:=id hs;exact⟨os,hos,hcs⟩
 have hTt:=ht.typeIs;unfold getItem
 try with_reducible refine wpAny_holding ?_
 first |refine wB0 (wP0 ?_)|skip
 refine wB0 (wpAny_sequenceKey hTt (by decide) ?_);refine wB0 (wpAny_callSpecial?_slot (name:=Str.ofString "__getitem__") hTt PyProof.Rows.slot_tuple_getitem (wpAny_call_entry PyProof.Rows.slot_tuple_getitem hTt entry_tuple_getitem ?_ (args_tuple_getitem _ _)));show wpAny _ _ (Builtin.Tuple.tupleItemsOf (.ref t) >>= _) _ _ s;refine wB0 (tupleItemsOf_ ht (wB0 (wpAny_typeOf hTs ?_)));rw [iP (by decide)];refine wB0 (HT.sliceApplied_gen hs pl pu ?_);show wpAny _ _ (if(((HT.sIx its.size 0 lo:Nat):Int)==0&&(1:Int)==1&&(HT.sIx its.size its.size hi - HT.sIx its.size 0 lo)==its.size)=true then _ else _) _ _ s;rw [iP (by rw [h0,h1];simp)];unfold Builtin.Tuple.tupleIsExact;refine wB0 (wB0 (wpAny_typeOf hTt (wP0 ?_)));rw [iP (by decide)];refine wB0 (wpAny_rule ?_)
 first
  |exact wP0 ⟨_,rfl,wP0 h⟩
  |exact wB0 (wP0 (wP0 ⟨_,rfl,wP0 h⟩))
  |exact wB0 (wP0 ⟨_,rfl,wP0 h⟩)
section
variable{X:Cx}{W:XW}{a b c e:Expr}{es:Bd}{f g h:AX}{af:Rho->Sto->R (List Er)}{pos:Pos}
def yKV:SlR X (λx lo hi H Q=> ∃a xs,x=.ref a/\SqT X.K H a xs/\HT.sIx xs.length 0 lo=0/\HT.sIx xs.length xs.length hi=xs.length/\Q (.ref a) H):=by
 intro pins s σ H x v vl vu lo hi sl Q I rx hs pl pu h;obtain⟨a,xs,rfl,hx,h0,h1,q⟩:=h;cases rx;obtain⟨its,r,ht,hz⟩:=I.tuple hx;have hlen:its.toArray.size=xs.length:=by rw [sA];exact r.length.symm
 exact⟨"tuple",_,PyProof.Rows.slot_tuple_getitem.lookup,ht.typeIs,zOZ ht hs pl pu (by rw [hlen];exact h0) (by rw [hlen];exact h1) ⟨.ref a,H,I,rfl,q⟩⟩
def zMI:Er->Option Int->Option Int->Sto->R Er
 |.val (.str x),lo,hi,S=>if x.length<=sizeLine then .ok (.val (.str (wG x lo hi))) S else .no
 |.val (.tup ds),lo,hi,S=>.ok (.val (.tup (wG ds lo hi))) S
 |p,lo,hi,S=>match xX S p with |some ds=>.ok (.new (wG ds lo hi)) S|none=>.no
def yDH{α:Type}{ds:List α}{lo hi:Bc}(h0:HT.sIx ds.length 0 lo=0)(h1:HT.sIx ds.length ds.length hi=ds.length):wG ds lo hi=ds:=by unfold wG;rw [h0,h1];simp
def zJA{lo hi:Option Expr}{lf hf:Rho->Sto->R (Option Int)}{p2:Pos}(ha:PEm X W a f)(hl:POm X W lo lf)(hh:POm X W hi hf):PEm X W (.Subscript a (.Slice lo hi none p2) pos) (λρ S=>(f ρ S).bind λp S1=>(lf ρ S1).bind λl S2=>(hf ρ S2).bind λu S3=>zMI p l u S3):=by
 refine yGJ (yQA.or (yKF.or (yPS.or yKV))) ?_ ha hl hh;intro p lo hi x α S H Q wd dp post;unfold zMI at post;split at post
 ·split at post
  ·rename_i hz;exact .inl ⟨_,gH dp,hz,Post.val post wd (zBO _)⟩
  ·exact post.elim
 ·rename_i _ _ _ ds;obtain⟨a1,vs,rfl,s1,l1⟩:=bS dp;by_cases hw:HT.sIx vs.length 0 lo=0/\HT.sIx vs.length vs.length hi=vs.length
  ·have e:wG ds lo hi=ds:=yDH (by rw [<-l1.length];exact hw.1) (by rw [<-l1.length];exact hw.2);rw [e]at post;exact .inr (.inr (.inr ⟨a1,vs,rfl,s1,hw.1,hw.2,Post.val post wd (zBP s1 l1)⟩))
  ·exact .inr (.inr (.inl ⟨a1,vs,rfl,s1,hw,λp hp=>Post.newt post wd hp (l1.cut lo hi)⟩))
 ·split at post
  ·rename_i ds el;obtain⟨a1,vs,rfl,s1,l1⟩:=nN rfl wd el dp;exact .inr (.inl ⟨a1,vs,rfl,s1,λp hp=>Post.newl post wd hp (l1.cut lo hi)⟩)
  ·exact post.elim
theorem DenL.pick{K:Be}{α:Ah}{H:Hp}{ds:Bh}{vs:List V}(l:DenL K α H ds vs): ∀idx:List Nat,DenL K α H (idx.filterMap (ds[·]?)) (idx.filterMap (vs[·]?))
 |[]=>yI
 |i::idx=>by
  cases z:ds[i]? with
  |none=>
   have z2:vs[i]? =none:=by rw [List.getElem?_eq_none_iff,l.length];exact List.getElem?_eq_none_iff.mp z
   rw [List.filterMap_cons_none z,List.filterMap_cons_none z2];exact DenL.pick l idx
  |some d=>
   obtain⟨v,h1,h2⟩:=l.at z;rw [filterMap_cons_some z,filterMap_cons_some h1];exact yB h2 (DenL.pick l idx)
theorem Vals.pick{xs:List V}{us:Ae}(r:Vals xs us): ∀idx:List Nat,Vals (idx.filterMap (xs[·]?)) (idx.filterMap (us[·]?))
 |[]=>.nil
 |i::idx=>by
  cases z:xs[i]? with
  |none=>rw [List.filterMap_cons_none z,List.filterMap_cons_none (r.none_of z)];exact Vals.pick r idx
  |some d=>
   obtain⟨v,h1,h2⟩:=r.get z;rw [filterMap_cons_some z,filterMap_cons_some h1];exact .cons h2 (Vals.pick r idx)
end
section
variable{X:Cx}{W:XW}{a b c e:Expr}{es:Bd}{f g h:AX}{af:Rho->Sto->R (List Er)}{pos:Pos}
def zUV(S:Sto)(n:Nat)(d:MV):List MV->Option (List Bool)
 |[]=>some []
 |y::ys=>(eqv S n y d).bind λk=>(zUV S n d ys).map (k::·)
section
variable{α:Ah}{S:Sto}{H:Hp}{pins:Ba}{σ:St}{s:Shared}
def yDI(X:Cx)(α:Ah)(S:Sto)(H:Hp)(n:Nat)(d:MV)(u:Value):Bool:=open Classical in decide (∃y x,Den X.K α H y x/\RelV x u/\eqv S n y d=some true)
open Classical in
def yKW(I:Inv X pins σ H s)(wd:Wd X.g α S H){n:Nat}{d y:MV}{x:V}{u:Value}{k:Bool}(dy:Den X.K α H y x)(r:RelV x u)(e:eqv S n y d=some k):yDI X α S H n d u=k:=by
 unfold yDI
 cases k with
 |true=>exact dT0 ⟨y,x,dy,r,e⟩
 |false=>
  refine dF0 λ⟨y',x',dy',r',e'⟩=>?_;have ex:=r.inj r';subst ex;rw [dy.inj I wd dy']at e;rw [e]at e';cases e'
theorem zSD(I:Inv X pins σ H s)(wd:Wd X.g α S H){n:Nat}{A:Around}{d:MV}{x:V}{v:Value}(hu:A.units+n<cLine)(dd:Den X.K α H d x)(rx:RelV x v): ∀{ys:Bh}{vs:List V}{us:Ae}{bs:Bb},DenL X.K α H ys vs->Vals vs us->zUV S n d ys=some bs->
  us.map (yDI X α S H n d)=bs/\ ∀u∈us,SeqAt.EqAt A s u v (yDI X α S H n d u)
 |[],_,_,bs,l,r,e=>by cases l.isnil;cases r;cases e;exact⟨rfl,λu hu=>by cases hu⟩
 |y::ys,_,_,bs,l,r,e=>by
  obtain⟨v',r',rfl,dy,l'⟩:=l.uncons
  cases r with
  |cons r1 r2=>
   unfold zUV at e
   cases z:eqv S n y d with
   |none=>rw [z]at e;cases e
   |some k=>
    rw [z]at e
    cases z2:zUV S n d ys with
    |none=>simp [z2]at e
    |some cs=>
     simp [z2]at e;subst e;obtain⟨h1,h2⟩:=zSD I wd hu dd rx l' r2 z2;have h3:=yKW I wd dy r1 z;refine⟨by rw [map_cons,h1,h3],λu hu'=>?_⟩;rcases mC.mp hu' with rfl|hu'
     ·rw [h3];exact zBS I wd n A y d _ _ _ _ k hu dy dd r1 rx z
     ·exact h2 u hu'
end
theorem any_map{us:Ae}{f:Value->Bool}{bs:Bb}(h:us.map f=bs):us.toArray.any f=bs.any id:=by subst h;simp [List.any_map]
def itemsOf(S:Sto):Er->Option (List MV)
 |.val (.tup ds)=>some ds
 |r=>xX S r
def zUW{α:Ah}{S:Sto}{H:Hp}(wd:Wd X.g α S H){r:Er}{ds:Bh}{x:V}(e:itemsOf S r=some ds)(d:DenX X.K α H r x): ∃a vs,x=.ref a/\(SqL X.K H a vs\/SqT X.K H a vs)/\DenL X.K α H ds vs:=by
 unfold itemsOf at e;split at e
 ·cases e;obtain⟨a,vs,rfl,s,l⟩:=bS d;exact⟨a,vs,rfl,.inr s,l⟩
 ·obtain⟨a,vs,rfl,s,l⟩:=nN rfl wd e d;exact⟨a,vs,rfl,.inl s,l⟩
def zSE(neg:Bool)(p q:Er)(S:Sto):R Er:=match p with
 |.val d=>match itemsOf S q with
  |some ys=>match zUV S zI d ys with
   |some bs=>.ok (.val (.bl (if neg=true then !bs.any id else bs.any id))) S
   |none=>.no
  |none=>.no
 |.new _=>.no
def inF(neg:Bool):Er->Er->Sto->R Er
 |.val (.str [c]),.val (.str y),S=>.ok (.val (.bl (if neg=true then !decide (c∈y)else decide (c∈y)))) S
 |p,q,S=>zSE neg p q S
abbrev rInM(X:Cx)(neg:Bool):R2:=λx y H Q=> ∃α S d q ys bs,Wd X.g α S H/\Den X.K α H d x/\DenX X.K α H q y/\itemsOf S q=some ys/\zUV S zI d ys=some bs/\Q (.bl (if neg=true then !bs.any id else bs.any id)) H
def yQJ(hu:X.A.units+64<cLine):OpR X (compareOp .In) (rInM X false):=by
 intro pins s σ H x y v u Q I rx ry h;obtain⟨α,S,d,q,ys,bs,wd,dd,dq,ei,ea,hq⟩:=h;obtain⟨a,vs,rfl,sq,l⟩:=zUW wd ei dq;cases ry;rcases sq with sq|sq
 ·obtain⟨its,r,pl,_⟩:=I.list sq;obtain⟨h1,h2⟩:=zSD I wd (A:=X.A.in1) (by show X.A.units+1+zI<cLine;unfold zI;omega) dd rx l r ea;refine SeqAt.in_listAt (yDI X α S H zI d) pl.isList (λw hw=>h2 w (by simpa using hw)) ⟨.bl _,H,I,rfl,?_⟩;rw [any_map h1];exact hq
 ·obtain⟨its,r,pl,_⟩:=I.tuple sq;obtain⟨h1,h2⟩:=zSD I wd (A:=X.A.in1) (by show X.A.units+1+zI<cLine;unfold zI;omega) dd rx l r ea;refine SeqAt.in_tupleAt (yDI X α S H zI d) pl (λw hw=>h2 w (by simpa using hw)) ⟨.bl _,H,I,rfl,?_⟩;rw [any_map h1];exact hq
def yKX{neg:Bool}:Op2 X W (λx y H Q=>(∃i j,x=.str i/\y=.str j/\Q (.bl (if neg=true then !(!(Builtin.Str.occurrences j i 0 j.length 1).isEmpty)else !(Builtin.Str.occurrences j i 0 j.length 1).isEmpty)) H)\/rInM X neg x y H Q) (inF neg):=by
 intro p q x y α S H Q wd dp dq post;unfold inF at post;split at post
 ·refine .inl ⟨_,_,gH dp,gH dq,?_⟩;rw [<-yKL,PySem.StrLaws.found_one,zBN];exact Post.val post wd (kH _)
 ·unfold zSE at post;split at post
  ·rename_i d _;split at post
   ·rename_i ys ei;split at post
    ·rename_i bs ea;exact .inr ⟨α,S,_,q,ys,bs,wd,dp,dq,ei,ea,Post.val post wd (kH _)⟩
    ·exact post.elim
   ·exact post.elim
  ·exact post.elim
def OpR.imp{f:Value->Value->Sem Value}{r r':R2}(h:OpR X f r)(i: ∀x y H Q,r' x y H Q->r x y H Q):OpR X f r':=λpins s σ H x y v u Q I rx ry q=>h pins s σ H x y v u Q I rx ry (i x y H Q q)
def yQK(hu:X.A.units+64<cLine):OpR X (compareOp .In) (λx y H Q=>(∃i j,x=.str i/\y=.str j/\Q (.bl (if(false:Bool)=true then !(!(Builtin.Str.occurrences j i 0 j.length 1).isEmpty)else !(Builtin.Str.occurrences j i 0 j.length 1).isEmpty)) H)\/rInM X false x y H Q):=
 OpR.imp (yCR.or (yQJ hu)) λx y H Q q=>q.imp (λq=>q) λq=>q
def tm_in(hu:X.A.units+64<cLine)(ha:PEm X W a f)(hb:PEm X W b g)(hm:behindInMarks .In b=false:=by with_unfolding_all rfl):PTm X W (.Compare a [.In] [b] pos) (λρ S=>((f ρ S).bind λp S1=>(g ρ S1).bind λq S2=>inF false p q S2).bind asB):=zGN (yQK hu) yKX ha hb hm
def cW{K:Be}{α:Ah}{H:Hp}{r:Er}{vs:List V}(d:ArgsX K α H [r] vs): ∃v,vs=[v]/\DenX K α H r v:=by
 cases d with
 |cons a l=>cases l;exact⟨_,rfl,a⟩
def yOD{K:Be}{α:Ah}{H:Hp}{r r':Er}{vs:List V}(d:ArgsX K α H [r,r'] vs): ∃v u,vs=[v,u]/\DenX K α H r v/\DenX K α H r' u:=by
 cases d with
 |cons a l=>obtain⟨u,rfl,l'⟩:=cW l;exact⟨_,u,rfl,a,l'⟩
def zFV:List Er->Sto->R Er
 |[.val (.str x)],S=>if x.length<=sizeLine then .ok (.val (.int x.length)) S else .no
 |[r],S=>match itemsOf S r with |some ds=>.ok (.val (.int ds.length)) S|none=>.no
 |_,_=>.no
def zGP:nK X W (λxs H Q=>(∃z,xs=[.str z]/\z.length<=sizeLine/\Q (.int z.length) H)\/ ∃p ys,xs=[.ref p]/\(SqL X.K H p ys\/SqT X.K H p ys)/\Q (.int ys.length) H) zFV:=by
 intro rs vs α S H Q wd d post;unfold zFV at post;split at post
 ·split at post
  ·rename_i hz;obtain⟨v,rfl,dv⟩:=cW d;cases gH dv;refine .inl ⟨_,rfl,by rw [wZ];exact hz,?_⟩;rw [wZ];exact Post.val post wd (xF _)
  ·exact post.elim
 ·split at post
  ·rename_i ds e;obtain⟨v,rfl,dv⟩:=cW d;obtain⟨a,us,rfl,sq,l⟩:=zUW wd e dv;refine .inr ⟨a,us,rfl,sq,?_⟩;rw [l.length];exact Post.val post wd (xF _)
  ·exact post.elim
 ·exact post.elim
def gN:CallR X (.builtin "len") (λxs H Q=>(∃z,xs=[.str z]/\z.length<=sizeLine/\Q (.int z.length) H)\/ ∃p ys,xs=[.ref p]/\(SqL X.K H p ys\/SqT X.K H p ys)/\Q (.int ys.length) H):=zRN.or zRM
def nO:List MV->Option (List Bool)
 |[]=>some []
 |.bl b::r=>(nO r).map (b::·)
 |_::_=>none
theorem zJB{K:Be}{α:Ah}{H:Hp}: ∀{ds:Bh}{bs:Bb}{vs:List V},nO ds=some bs->DenL K α H ds vs->vs=bs.map V.bl
 |[],_,_,e,l=>by cases e;exact l.isnil
 |d::r,bs,_,e,l=>by
  cases d with
  |bl b=>
   unfold nO at e
   cases z:nO r with
   |none=>rw [z]at e;cases e
   |some cs=>
    rw [z]at e;cases e;obtain⟨v,us,rfl,dv,l'⟩:=l.uncons;rw [zAQ dv,zJB z l'];rfl
  |_=>cases e
def allF:List Er->Sto->R Er
 |[r],S=>match (xX S r).bind nO with |some bs=>.ok (.val (.bl (bs.all id))) S|none=>.no
 |_,_=>.no
def anyF:List Er->Sto->R Er
 |[r],S=>match (xX S r).bind nO with |some bs=>.ok (.val (.bl (bs.any id))) S|none=>.no
 |_,_=>.no
def yQL(hc:X.calm=true):nK X W (λxs H Q=> ∃(a:Addr)(bs:Bb),xs=[.ref a]/\SqL X.K H a (bs.map V.bl)/\X.calm=true/\Q (.bl (bs.all id)) H) allF:=by
 intro rs vs α S H Q wd d post;unfold allF at post;split at post
 ·split at post
  ·rename_i bs e;obtain⟨v,rfl,dv⟩:=cW d
   cases z:xX S _ with
   |none=>rw [z]at e;cases e
   |some ds=>
    rw [z]at e;obtain⟨a1,us,rfl,s,l⟩:=nN rfl wd z dv;refine⟨a1,bs,rfl,?_,hc,Post.val post wd (kH _)⟩;rw [<-zJB e l];exact s
  ·exact post.elim
 ·exact post.elim
def zSF(S:Sto):Er->Option String
 |.val .non=>some "NoneType"
 |.val (.bl _)=>some "bool"
 |.val (.int _)=>some "int"
 |.val (.str _)=>some "str"
 |.val (.tup _)=>some "tuple"
 |.val (.typ _)=>none
 |.val (.obj _ _ _)=>none
 |r=>(xX S r).map λ_=>"list"
def yGY(t T:String):Bool:=t==T || (t=="bool"&&T=="int")
def known(T:String):Bool:=T=="int" || T=="bool" || T=="str" || T=="tuple" || T=="list"
def zHU:List Er->Sto->R Er
 |[r,.val (.typ T)],S=>match zSF S r with
  |some t=>if known T=true then .ok (.val (.bl (yGY t T))) S else .no
  |none=>.no
 |_,_=>.no
theorem cO(K:Be){t T:String}(ht:t="NoneType"\/t="bool"\/t="int"\/t="str"\/t="tuple"\/t="list")(hT:known T=true):PySem.W.kitOne K (.type t) (.type T)=some (yGY t T):=by
 have hT':T="int"\/T="bool"\/T="str"\/T="tuple"\/T="list":=by
  unfold known at hT;simp only [or_eq_true,beq_iff_eq]at hT;rcases hT with(((h|h)|h)|h)|h
  ·exact .inl h
  ·exact .inr (.inl h)
  ·exact .inr (.inr (.inl h))
  ·exact .inr (.inr (.inr (.inl h)))
  ·exact .inr (.inr (.inr (.inr h)))
 rcases ht with rfl|rfl|rfl|rfl|rfl|rfl<;>rcases hT' with rfl|rfl|rfl|rfl|rfl<;>kernel_rfl
def zMJ:CallR X (.builtin "isinstance") (λxs H Q=> ∃α S r x t T,xs=[x,.ty T]/\Wd X.g α S H/\DenX X.K α H r x/\zSF S r=some t/\known T=true/\Q (.bl (yGY t T)) H):=by
 intro pins s σ H xs us Q I rr h;obtain⟨α,S,r,x,t,T,rfl,wd,d,et,hk,q⟩:=h;obtain⟨u,w',rfl,rx,rT⟩:=vals2 rr;cases rT;have fin: ∀tk,EP X pins σ Q (.bool (yGY t T)) {s with toks:=tk}:=λtk=>⟨.bl _,H,I.tok _,rfl,q⟩
 unfold zSF at et;split at et
 ·cases et;cases zIU d;cases rx;exact PySem.W.kia_one PySem.W.kitx_none I.kIn True.intro (cO X.K (.inl rfl) hk) (λz=>nomatch z) fin
 ·cases et;cases zDW d;cases rx;exact PySem.W.kia_one PySem.W.kitx_bool I.kIn True.intro (cO X.K (.inr (.inl rfl)) hk) (λz=>nomatch z) fin
 ·cases et;cases yW d;obtain⟨t,rfl⟩:=rx;exact PySem.W.kia_one PySem.W.kitx_int I.kIn True.intro (cO X.K (.inr (.inr (.inl rfl))) hk) (λz=>nomatch z) fin
 ·cases et;cases gH d;obtain⟨t,rfl⟩:=rx;exact PySem.W.kia_one PySem.W.kitx_str I.kIn True.intro (cO X.K (.inr (.inr (.inr (.inl rfl)))) hk) (λz=>nomatch z) fin
 ·cases et;obtain⟨a,vs,rfl,sq,l⟩:=bS d;cases rx;obtain⟨its,r1,p1,_⟩:=I.tuple sq;obtain⟨o,h1,h2,_⟩:=p1;exact PySem.W.kia_one PySem.W.kitx_tuple I.kIn ⟨o,h1,h2⟩ (cO X.K (.inr (.inr (.inr (.inr (.inl rfl))))) hk) (λz=>nomatch z) fin
 ·cases et
 ·cases et
 ·cases z:xX S r with
  |none=>rw [z]at et;cases et
  |some ds=>
   rw [z]at et;cases et;obtain⟨a,vs,rfl,sq,l⟩:=nN rfl wd z d;cases rx;obtain⟨its,r1,p1,_⟩:=I.list sq;obtain⟨o,h1,h2,_⟩:=p1.isList;exact PySem.W.kia_one PySem.W.kitx_list I.kIn ⟨o,h1,h2⟩ (cO X.K (.inr (.inr (.inr (.inr (.inr rfl))))) hk) (λz=>nomatch z) fin
def zYH:nK X W (λxs H Q=> ∃α S r x t T,xs=[x,.ty T]/\Wd X.g α S H/\DenX X.K α H r x/\zSF S r=some t/\known T=true/\Q (.bl (yGY t T)) H) zHU:=by
 intro rs vs α S H Q wd d post;unfold zHU at post;split at post
 ·split at post
  ·rename_i t et;split at post
   ·rename_i hk;obtain⟨v,u,rfl,d1,d2⟩:=yOD d;cases yGE d2;exact⟨α,S,_,v,t,_,rfl,wd,d1,et,hk,Post.val post wd (kH _)⟩
   ·exact post.elim
  ·exact post.elim
 ·exact post.elim
def zAB:List Er->Sto->R Er
 |[.val (.tup ds)],S=>.ok (.val (.tup ds)) S
 |[r],S=>match xX S r with |some ds=>.ok (.val (.tup ds)) S|none=>.no
 |_,_=>.no
def zEA:nK X W (λxs H Q=> ∃p ys,xs=[.ref p]/\((SqL X.K H p ys/\ ∀l,H l=none->Q (.ref l) (upd H l (.tup ys)))\/(SqT X.K H p ys/\Q (.ref p) H))) zAB:=by
 intro rs vs α S H Q wd d post;unfold zAB at post;split at post
 ·obtain⟨v,rfl,dv⟩:=cW d;obtain⟨a,us,rfl,sq,l⟩:=bS dv;exact⟨a,us,rfl,.inr ⟨sq,Post.val post wd (zBP sq l)⟩⟩
 ·split at post
  ·rename_i ds e;obtain⟨v,rfl,dv⟩:=cW d;obtain⟨a,us,rfl,sq,l⟩:=nN rfl wd e dv;exact⟨a,us,rfl,.inl ⟨sq,λp hp=>Post.newt post wd hp l⟩⟩
  ·exact post.elim
 ·exact post.elim
def zGQ:bootBuiltins "len"=some (.builtin "len"):=by decide+kernel
def yQM:bootBuiltins "all"=some (.builtin "all"):=by decide+kernel
def yQN:bootBuiltins "any"=some (.builtin "any"):=by decide+kernel
def zAC:bootBuiltins "isinstance"=some (.builtin "isinstance"):=by decide+kernel
def zYI:bootBuiltins "int"=some (.type "int"):=by decide+kernel
def yAR:bootBuiltins "bool"=some (.type "bool"):=by decide+kernel
def cX:bootBuiltins "tuple"=some (.type "tuple"):=by decide+kernel
end
def digN(n:Nat):List Nat:=(Nat.toDigits 10 n).map Char.toNat
def decL(i:Int):List Nat:=if i<0 then 45::digN i.natAbs else digN i.natAbs
section
variable{X:Cx}{W:XW}{a b c e o i:Expr}{es:Bd}{f g h:AX}{af:Rho->Sto->R (List Er)}{pos apos:Pos}
def strF:List Er->Sto->R Er
 |[.val (.int i)],S=>if i.natAbs.log2<1920 then .ok (.val (.str (decL i))) S else .no
 |[.val (.str x)],S=>.ok (.val (.str x)) S
 |_,_=>.no
def zKO:CallR X (.type "int") (λxs H Q=>((∃i,xs=[.int i]/\Q (.int i) H)\/ ∃k,xs=[.bl k]/\Q (.int (if k then 1 else 0)) H)\/ ∃x n,xs=[.str x]/\PySem.intText? x=some n/\x.length<=640/\Q (.int n) H):=by refine yCS.or ?_;intro pins s σ H xs us Q I r h;obtain⟨x,n,rfl,hn,hl,q⟩:=h;obtain⟨u,rfl,t,rfl⟩:=vals1 r;exact PySem.W.KIN.call_text hn hl ⟨.int n,H,I.tok _,⟨_,rfl⟩,q⟩
def yGZ:List Er->Sto->R Er
 |[.val (.int i)],S=>.ok (.val (.int i)) S
 |[.val (.bl k)],S=>.ok (.val (.int (if k then 1 else 0))) S
 |[.val (.str x)],S=>match PySem.intText? (mkS x)with
  |some n=>if x.length<=640 then .ok (.val (.int n)) S else .no
  |none=>.no
 |_,_=>.no
def yHA:nK X W (λxs H Q=>((∃i,xs=[.int i]/\Q (.int i) H)\/ ∃k,xs=[.bl k]/\Q (.int (if k then 1 else 0)) H)\/ ∃x n,xs=[.str x]/\PySem.intText? x=some n/\x.length<=640/\Q (.int n) H) yGZ:=by
 intro rs vs α S H Q wd d post;unfold yGZ at post;split at post
 ·obtain⟨v,rfl,dv⟩:=cW d;cases yW dv;exact .inl (.inl ⟨_,rfl,Post.val post wd (xF _)⟩)
 ·obtain⟨v,rfl,dv⟩:=cW d;cases zDW dv;exact .inl (.inr ⟨_,rfl,Post.val post wd (xF _)⟩)
 ·obtain⟨v,rfl,dv⟩:=cW d;cases gH dv;split at post
  ·rename_i n hn;split at post
   ·rename_i hz;exact .inr ⟨_,n,rfl,hn,by rw [wZ];exact hz,Post.val post wd (xF _)⟩
   ·exact post.elim
  ·exact post.elim
 ·exact post.elim
def bL(p:Er)(S:Sto):Bool:=(xX S p).isSome
def zSG:TyM X "list" bL:=by
 intro p x α S H wd d h;unfold bL at h
 cases z:xX S p with
 |none=>rw [z]at h;cases h
 |some ds=>
  obtain⟨a,vs,rfl,s,l⟩:=nN rfl wd z d;exact .inl ⟨rfl,vs,s⟩
def strIdx(x y:Ab):Option Nat:=(Builtin.Str.occurrences (mkS x) (mkS y) 0 (mkS x).length 1).head?
def sidxF:Er->List Er->Sto->R Er
 |.val (.str x),[.val (.str y)],S=>match strIdx x y with |some i=>.ok (.val (.int (i:Nat))) S|none=>.no
 |_,_,_=>.no
def zHV(p:Er)(S:Sto)(G:List MV->Option (List MV)):R Er:=match p with
 |.val (.loc l)=>match S[l]? with
  |some (.lst ds)=>match G ds with
   |some es=>.ok (.val .non) (S.set l (.lst es))
   |none=>.no
  |_=>.no
 |_=>.no
def zJC{α0 α:Ah}{H0 H:Hp}{S:Sto}{p:Er}{x:V}{G:List MV->Option (List MV)}{Q:VK}(wd:Wd X.g α S H)(x0:Ext α0 H0 α H)(dp:DenX X.K α H p x)(post:Post X.g W α0 H0 (zHV p S G) Q):
  ∃a vs ds es,x=.ref a/\H a=some (.lst vs)/\DenL X.K α H ds vs/\G ds=some es/\ ∀us,DenL X.K α H es us->Q .non (upd H a (.lst us)):=by
 unfold zHV at post;split at post
 ·rename_i l;obtain⟨a,rfl,h⟩:=zBQ dp;obtain⟨ob,h1,h2⟩:=wd.of h;rw [h1]at post
  cases ob with
  |lst ds=>
   obtain⟨vs,h3,l1⟩:=h2;have post:Post X.g W α0 H0 (match G ds with |some es=>R.ok (Er.val .non) (S.set l (.lst es))|none=>R.no) Q:=post;split at post
   ·rename_i es eg;refine⟨a,vs,ds,es,rfl,h3,l1,eg,λus lu=>?_⟩;have xw:=wd.writex h (o:=.lst us);exact(post.shift (x0.trans xw)).val (wd.write h ⟨us,yR,lu.ext xw⟩) zLH
   ·exact post.elim
  |dic _=>exact post.elim
  |ins _ _=>exact post.elim
 ·exact post.elim
def yDJ:Er->List Er->Sto->R Er
 |p,[r],S=>(gI r S).bind λy S1=>zHV p S1 λds=>if ds.length<sizeLine then some (ds++[y])else none
 |_,_,_=>.no
def yDK:yDD X W yAC yDJ:=by
 intro p rs x vs α S H0 H Q α0 wd x0 dp da post
 match rs,da,post with
 |[],_,post=>exact post.elim
 |_::_::_,_,post=>exact post.elim
 |[r],da,post=>
  cases da with
  |cons d n l=>
   cases l;obtain⟨d',S',α',e',x',y',w',dd⟩:=zAR wd x0 d;have post:Post X.g W α0 H0 ((gI r S).bind λy S1=>zHV p S1 λds=>if ds.length<sizeLine then some (ds++[y])else none) Q:=post;rw [e']at post
   have dp':DenX X.K α' H p x:=by
    cases p with
    |val m=>exact Den.ex0 y' dp
    |new ds=>exact post.elim
   obtain⟨a,us,ds,es,rfl,h1,l1,eg,k⟩:=zJC w' x' dp' post;split at eg
   ·rename_i hz;cases eg;exact⟨a,us,_,rfl,rfl,h1,by rw [l1.length];exact hz,k _ (l1.append (yB dd yI))⟩
   ·cases eg
def zJD(ho:PEm X W a f)(ha:PAm X W (e::es) af)
  (hbase:attributeBase a "append" X.env (eval a X.env)=eval a X.env:=by rfl)
  (hfew:((backTo pos (starEach (e::es) X.env)).all (λx=>!x.1)&&(backToKw pos (keywordEach [] X.env)).all (λx=>x.1.isSome)
   &&decide ((e::es).length+([]:List Keyword).length+(if([]:List Keyword).isEmpty then 0 else 1)<30))=true:=by rfl)
  (hline:(apos.endLine==pos.line)=true:=by rfl) (hs:starEach (e::es) X.env=(false,eval e X.env)::starEach es X.env:=by rfl) (hplain:(backTo pos (starEach es X.env)).any (·.1)=false:=by rfl):
  PEm X W (.Call (.Attribute a "append" apos) (e::es) [] pos) (λρ S=>(f ρ S).bind λp S1=>if bL p S1=true then(af ρ S1).bind λrs S2=>yDJ p rs S2 else .no):=
 zLJ PySem.F.plainAttrs_list PySem.F.slot_list_append PySem.F.type_list_append yCW yDK zSG ho ha hbase hfew hline hs hplain
def zUX(p q:Er)(d:MV)(ρ:Rho)(S:Sto):R Rho:=match p,q with
 |.val (.loc l),.val (.int k)=>match S[l]? with
  |some (.lst ds)=>match ixN ds.length k with
   |some j=>.ok ρ (S.set l (.lst (ds.set j d)))
   |none=>.no
  |_=>.no
 |_,_=>.no
def yQO(ho:PEm X W o f)(hi:PEm X W i g)
  (ha: ∀v,assign (.Subscript o i pos) X.env v=(do
   let ov <-holding [v] (eval o X.env);let iv <-holding [v,ov] (eval i X.env)
   standAt pos
   holding [v,ov,iv] (setItem ov iv v)
   release [v,ov,iv] []):=by intro _;rfl):PGm X W (.Subscript o i pos) (λd ρ S=>(f ρ S).bind λp S1=>(g ρ S1).bind λq S2=>zUX p q d ρ S2):=by
 obtain⟨to,ho,fo⟩:=ho;obtain⟨ti,hi,fi⟩:=hi;refine⟨_,yPE ho hi set_list ha,λα ρ S σ H d v Q wd sl de q=>fo α ρ S σ H _ wd sl (q.bind λu p S1 α1 H1 e1 x1 w1 d1 q1=>fi α1 ρ S1 σ H1 _ w1 (sl.ext x1) ((q1.shift x1).bind λu2 p2 S2 α2 H2 e2 x2 w2 d2 q2=>?_))⟩
 replace q2:=q2.shift x2
 have d1':=DenX.ext x2 d1.1;unfold zUX at q2;split at q2
 ·rename_i l k;obtain⟨a,rfl,h⟩:=zBQ d1';cases yW d2.1;obtain⟨ob,h1,h2⟩:=w2.of h;rw [h1]at q2
  cases ob with
  |lst ds=>
   obtain⟨vs,h3,l1⟩:=h2;have q2:Post X.g W α2 H2 (match ixN ds.length k with |some j=>R.ok ρ (S2.set l (.lst (ds.set j d)))|none=>R.no) Q:=q2;split at q2
   ·rename_i j ej;have xw:=w2.writex h (o:=.lst (vs.set j v));have sl2:=((sl.ext x1).ext x2).ext xw;exact⟨a,vs,k,j,rfl,rfl,h3,by rw [l1.length];exact ej,q2 σ α2 _ xw (w2.write h ⟨_,yR,(l1.set ((de.ext x1).ext x2) j).ext xw⟩) sl2⟩
   ·exact q2.elim
  |dic _=>exact q2.elim
  |ins _ _=>exact q2.elim
 ·exact q2.elim
end
def _root_.L2.Inv.turnedL{X:Cx}{pins:Ba}{σ:St}{H:Hp}{s:Shared}{h':Heap}{t':Nat}{fp:Ah}(I:Inv X pins σ H s)(k: ∀b o,b∉fp->s.heap.get? b=some o->h'.get? b=some o)
  (hf: ∀b∈fp,zGJ X pins H b):Inv X pins σ H {s with heap:=h',toks:=t'}:=by
 have nit: ∀b u,H b=some u->b∉fp:=λb u e z=>by rw [(hf b z).1]at e;cases e
 refine I.step (g':=s.gens) (d':=s.drawn) (ch:=fp) (λb hb=>⟨(hf b hb).2.2.2.1,(hf b hb).2.1,(hf b hb).2.2.2.2.1,(hf b hb).2.2.2.2.2⟩) (λb o _ _ hc e _=>k b o hc e) (λb o _ _ hc e _=>⟨o.slots,k b o hc e⟩) (λ_ _ _ _ n=>n)
  (λb o hc e=>⟨o,k b o hc e⟩) (λ_ _ e=>e) (λ_ _ _ e=>e) (λb ps e=>⟨#[],by rw [e];simp⟩) (λm hm=>?_) (λb u e=>?_) I.bare
 ·obtain⟨o,es,ep,ho,r⟩:=hm;exact⟨o,es,ep,k _ o (λz=>(hf _ z).2.1 rfl) ho,r⟩
 ·refine(I.hok b u e).stay (λc v hc q=>k c v ?_ q) (λ_ q=>q) λ_ _ q=>q;rcases hc with z|z
  ·rw [z];exact nit b u e
  ·exact nit c _ z
def IsSub(k:Bool)(h:Heap)(it l:Addr)(i:Nat):Prop:=if k=true then h.IsListIter it l i else h.IsTupleIter it l i
def zKP(k:Bool)(h:Heap)(l:Addr)(its:Ag):Prop:=if k=true then h.IsList l its else h.IsTuple l its
def zJE(k:Bool)(l:Addr):Obj:={cls:=.type (if k=true then "list_iterator" else "tuple_iterator"),data:=.fields #[.ref l,.int 0 0]}
def IsSub.mk'{k:Bool}{h:Heap}{it l:Addr}(e:h.get? it=some (zJE k l)):IsSub k h it l 0:=by
 cases k with
 |true=>exact⟨_,e,rfl,rfl⟩
 |false=>exact⟨_,e,rfl,rfl⟩
def IsSub.there{k:Bool}{h:Heap}{it l:Addr}{i:Nat}(x:IsSub k h it l i): ∃o,h.get? it=some o/\ ∀v,o.data≠.cell v:=by
 cases k with
 |true=>obtain⟨o,e,_,d⟩:=(x:h.IsListIter it l i);exact⟨o,e,λv z=>by rw [d]at z;cases z⟩
 |false=>obtain⟨o,e,_,d⟩:=(x:h.IsTupleIter it l i);exact⟨o,e,λv z=>by rw [d]at z;cases z⟩
def IsSub.move{k:Bool}{h h':Heap}{it l:Addr}{i:Nat}(x:IsSub k h it l i)(f: ∀o,h.get? it=some o->h'.get? it=some o):IsSub k h' it l i:=by
 cases k with
 |true=>obtain⟨o,e,r⟩:=(x:h.IsListIter it l i);exact⟨o,f o e,r⟩
 |false=>obtain⟨o,e,r⟩:=(x:h.IsTupleIter it l i);exact⟨o,f o e,r⟩
section
variable{prog:Program}{w:World}{A:Around}{E:VP}{s:Shared}
def zMK{k:Bool}{l:Addr}{its:Ag}{Q:VP}(hl:zKP k s.heap l its)(h:Q (.ref s.heap.objs.size) {s with heap:=s.heap.push (zJE k l)}):wpAny (model prog w) A (pyIter (.ref l)) Q E s:=by
 cases k with
 |true=>exact wpAny_pyIter_list hl h
 |false=>exact wpAny_pyIter_tuple hl h
def yHB{k:Bool}{it l:Addr}{i:Nat}{its:Ag}{x:Value}{Q:VP}(hit:IsSub k s.heap it l i)(hl:zKP k s.heap l its)(hx:its[i]? =some x)
  (hQ: ∀h',IsSub k h' it l (i+1)->Heap.SameBut it s.heap h'->Q x {s with heap:=h'}):wpAny (model prog w) A (Builtin.SmallTypes.nextOf (.ref it)) Q E s:=by
 cases k with
 |true=>exact wpAny_nextOf_list_item hit hl hx hQ
 |false=>
  have hit':s.heap.IsTupleIter it l i:=hit;obtain⟨o,ho,hc,hd⟩:=id hit';obtain⟨ol,hol,_,nl,hdl⟩:=(hl:s.heap.IsTuple l its)
  unfold Builtin.SmallTypes.nextOf;refine wB0 (wpAny_callSpecial?_slot (name:=Str.ofString "__next__") hit'.typeIs F.slot_tuple_iterator_next (wpAny_call_entry F.slot_tuple_iterator_next hit'.typeIs F.entry_tuple_iterator_next ?_ (F.args_tuple_iterator_next_1 _)));show wpAny _ _ (field (.ref it) 0 >>= _) _ _ s;refine wB0 (wpAny_field ho hd (x:=.ref l) rfl ?_);show wpAny _ _ (if(Value.ref l==Value.none)=true then _ else _) _ _ s;rw [iN (show¬((Value.ref l==Value.none)=true)from xF0)];show wpAny _ _ (field (.ref it) 1 >>= _) _ _ s;refine wB0 (wpAny_field ho hd (x:=.int i 0) rfl ?_);show wpAny _ _ (seqItems? (.ref l) >>= _) _ _ s;refine wB0 (wpAny_seqItems hol hdl ?_);simp only [toNat_natCast,hx];refine wB0 (wpAny_setField ho hd (by simp) (wP0 ⟨x,rfl,wP0 (hQ _ ?_ (Heap.SameBut.update ..))⟩));exact⟨_,Heap.get?_update_self _ ho (Obj.isFreed_of_fields (Obj.data_mapFields hd _)),(Obj.cls_mapFields ..).trans hc,by rw [Obj.data_mapFields hd];simp [rawInt]⟩
def yKY{k:Bool}{it l:Addr}{i:Nat}{its:Ag}{Q:VP}(hh:A.handled=none)(hit:IsSub k s.heap it l i)(hl:zKP k s.heap l its)(hx:its[i]? =none)
  (hE: ∀h' e,Heap.ExtBut it s.heap h'->(∃o,h'.get? e=some o/\o.cls=.type "StopIteration")->E (.ref e) {s with heap:=h'}):wpAny (model prog w) A (Builtin.SmallTypes.nextOf (.ref it)) Q E s:=by
 cases k with
 |true=>exact wpAny_nextOf_list_end hh hit hl hx hE
 |false=>
  have hit':s.heap.IsTupleIter it l i:=hit;obtain⟨o,ho,hc,hd⟩:=id hit';obtain⟨ol,hol,_,nl,hdl⟩:=(hl:s.heap.IsTuple l its)
  unfold Builtin.SmallTypes.nextOf;refine wB0 (wpAny_callSpecial?_slot (name:=Str.ofString "__next__") hit'.typeIs F.slot_tuple_iterator_next (wpAny_call_entry F.slot_tuple_iterator_next hit'.typeIs F.entry_tuple_iterator_next ?_ (F.args_tuple_iterator_next_1 _)));show wpAny _ _ (field (.ref it) 0 >>= _) _ _ s;refine wB0 (wpAny_field ho hd (x:=.ref l) rfl ?_);show wpAny _ _ (if(Value.ref l==Value.none)=true then _ else _) _ _ s;rw [iN (show¬((Value.ref l==Value.none)=true)from xF0)];show wpAny _ _ (field (.ref it) 1 >>= _) _ _ s;refine wB0 (wpAny_field ho hd (x:=.int i 0) rfl ?_);show wpAny _ _ (seqItems? (.ref l) >>= _) _ _ s;refine wB0 (wpAny_seqItems hol hdl ?_);simp only [toNat_natCast,hx];refine wB0 (wpAny_rule (wB0 (wpAny_setField ho hd (by simp) ?_)));show wpAny _ _ (newExc (.type "StopIteration") [] >>= _) _ _ _;refine wB0 ?_;simp only [newExc,newTuple];refine wB0 (wpAny_newObj_type ?_ (by size_fits));refine wB0 (m:=firstArgMember _ _) (wpAny_of_eq (a:=Value.none) (by first |rfl|(simp only [firstArgMember];rfl)) ?_);refine wpAny_newObj_type ?_ (by size_fits);simp only [raiseNew];refine wB0 (wpAny_handled ?_)
  first |rw [show A.in1.handled=none from hh]|rw [hh]
  refine wB0 (wP0 (wpAny_throw ?_));exact hE _ _ (((Heap.SameBut.update ..).extBut.push _).push _) ⟨_,Heap.get?_push_size _ rfl,rfl⟩
end
def SqK(k:Bool)(K:Be)(H:Hp)(a:Addr)(xs:List V):Prop:=if k=true then SqL K H a xs else SqT K H a xs
section
variable{X:Cx}{pins:Ba}{σ:St}{H:Hp}{s:Shared}
def _root_.L2.Inv.seqK(I:Inv X pins σ H s){k:Bool}{a:Addr}{xs:List V}(h:SqK k X.K H a xs): ∃its:List Value,Vals xs its/\zKP k s.heap a its.toArray/\xs.length<=sizeLine:=by
 cases k with
 |true=>obtain⟨its,r,p,z⟩:=I.list h;exact⟨its,r,p.isList,z⟩
 |false=>obtain⟨its,r,p,z⟩:=I.tuple h;exact⟨its,r,p,z⟩
def _root_.L2.Inv.seqK_inj(I:Inv X pins σ H s){k:Bool}{a:Addr}{xs ys:List V}(h:SqK k X.K H a xs)(h':SqK k X.K H a ys):xs=ys:=by
 cases k with
 |true=>exact I.list_inj h h'
 |false=>exact I.tuple_inj h h'
end
structure Sr where
 k:Bool
 ds:List MV
 gs:List (Nat×List MV)
def srcOf(S:Sto):Er->Option Sr
 |.val (.tup ds)=>some ⟨false,ds,[]⟩
 |.new ds=>some ⟨true,ds,[]⟩
 |.val (.scr ds)=>some ⟨true,ds,[]⟩
 |.val (.loc l)=>match S[l]? with
  |some (.lst ds)=>some ⟨true,ds,[(l,ds)]⟩
  |_=>none
 |_=>none
structure SrcD(X:Cx)(q:Sr)(l:Addr)(P:List Addr->Sto->Hp->Prop):Prop where
 get: ∀α S H,P α S H-> ∃vs,SqK q.k X.K H l vs/\DenL X.K α H q.ds vs
 stays: ∀α1 S1 H1 α2 S2 H2,P α1 S1 H1->Ext α1 H1 α2 H2->Wd X.g α2 S2 H2->stay q.gs S2->P α2 S2 H2
 st: ∀α S H,P α S H->stay q.gs S
def yQP{X:Cx}{α:Ah}{S:Sto}{H:Hp}(wd:Wd X.g α S H){r:Er}{x:V}{q:Sr}(e:srcOf S r=some q)(d:DenX X.K α H r x): ∃l P,x=.ref l/\P α S H/\SrcD X q l P:=by
 unfold srcOf at e;split at e
 ·rename_i ds;cases e;obtain⟨a,vs,rfl,s,l⟩:=bS d;exact⟨a,λα S H=> ∃vs,SqT X.K H a vs/\DenL X.K α H ds vs,rfl,⟨vs,s,l⟩,λα S H h=>h,λα1 S1 H1 α2 S2 H2 ⟨vs,h1,h2⟩ x w _=>⟨vs,x.sqT h1,h2.ext x⟩,λ_ _ _ _=>bI⟩
 ·rename_i ds;cases e;obtain⟨b,vs,rfl,h,n,l⟩:=d
  exact⟨b,λα S H=> ∃vs,H b=some (.lst vs)/\b∉α/\DenL X.K α H ds vs,rfl,⟨vs,h,n,l⟩,λα S H ⟨vs,h1,_,h2⟩=>⟨vs,(SqL.of h1:SqL X.K H b vs),h2⟩,
   λα1 S1 H1 α2 S2 H2 ⟨vs,h1,h2,h3⟩ x w _=>⟨vs,x.keep b _ h1 h2,x.out h1 h2,h3.ext x⟩,λ_ _ _ _=>bI⟩
 ·rename_i ds;cases e;obtain⟨a,vs,rfl,s,l⟩:=zMB d;exact⟨a,λα S H=> ∃vs,SqF X.K H a vs/\DenL X.K α H ds vs,rfl,⟨vs,s,l⟩,λα S H ⟨vs,h1,h2⟩=>⟨vs,h1.l,h2⟩,λα1 S1 H1 α2 S2 H2 ⟨vs,h1,h2⟩ x w _=>⟨vs,x.sqF h1,h2.ext x⟩,λ_ _ _ _=>bI⟩
 ·rename_i n;split at e
  ·rename_i ds hS;cases e;obtain⟨a,rfl,h⟩:=zBQ d;obtain⟨vs,h1,h2⟩:=wd.obj n a _ h hS;refine⟨a,λα S H=> ∃vs,H a=some (.lst vs)/\DenL X.K α H ds vs/\α[n]? =some a/\S[n]? =some (.lst ds),rfl,⟨vs,h1,h2,h,hS⟩,λα S H ⟨vs,h1,h2,_⟩=>⟨vs,(SqL.of h1:SqL X.K H a vs),h2⟩,?_,?_⟩
   ·intro α1 S1 H1 α2 S2 H2 ⟨vs,a1,a2,a3,a4⟩ x w hs;have hs':=hs (n,ds) (by simp);obtain⟨us,b1,b2⟩:=w.obj n a _ (x.at a3) hs';exact⟨us,b1,b2,x.at a3,hs'⟩
   ·intro α S H ⟨vs,_,_,_,a4⟩ p hp;have:p=(n,ds):=by simpa using hp
    subst this;exact a4
  ·cases e
 ·cases e
section
variable{X:Cx}{W:XW}{a b:Expr}{elts:Bd}{kt:Nat}{pt p pos:Pos}{ta:TA}{af:Rho->Sto->R (List Er)}
def yKZ:bootBuiltins "enumerate"=some (.type "enumerate"):=by decide+kernel
def pairs(xs ys:Bh):List MV:=List.zipWith (λx y=>.tup [x,y]) xs ys
end
structure EnSt(k:Bool)(e it l:Addr)(i:Nat)(h:Heap):Prop where
 e: ∃old,IsEnum h e it i old
 s:IsSub k h it l i
section
variable{prog:Program}{w:World}{A:Around}{E:VP}{s:Shared}{k:Bool}{e it l:Addr}{i:Nat}{its:Ag}
def yLA{x old:Value}{Q:VP}(he:IsEnum s.heap e it i old)(hit:IsSub k s.heap it l i)(hl:zKP k s.heap l its)(hx:its[i]? =some x)(hne:e≠it)
  (hQ: ∀h',IsEnumOut h' e it ((i:Int)+1) x s.heap.objs.size->IsSub k h' it l (i+1)->h'.get? s.heap.objs.size=some {cls:=.type "tuple",data:=.seq #[.int i s.toks,x]}->
   (∀b o,b≠e->b≠it->s.heap.get? b=some o->h'.get? b=some o)->Q (.ref s.heap.objs.size) {s with heap:=h',toks:=s.toks+1}):
  wpAny (model prog w) A (Builtin.«enumerate.__next__» ⟨[.ref e],[]⟩) (λfin s'=> ∃v,fin=.done (.ret v)/\Q v s') E s:=by
 obtain⟨hp,g,d,tk,os⟩:=s;show wpAny _ _ (field (.ref e) 2 >>= _) _ _ _;refine wB0 (wpAny_field he rfl (x:=.ref it) rfl (wB0 (yHB hit hl hx λha ita hsa=>?_)))
 replace hsa:Heap.SameBut it hp ha:=hsa
 have ea:IsEnum ha e it i old:=(hsa.2 e hne).trans he;show wpAny _ _ (field (.ref e) 3 >>= _) _ _ ⟨ha,g,d,tk,os⟩;refine wB0 (wpAny_field ea rfl (x:=rawInt i) rfl ?_);show wpAny _ _ (field (.ref e) 4 >>= _) _ _ ⟨ha,g,d,tk,os⟩;refine wB0 (wpAny_field ea rfl (x:=.none) rfl ?_);show wpAny _ _ (mkInt i >>= _) _ _ ⟨ha,g,d,tk,os⟩;refine wB0 (wpAny_mkInt ?_);show wpAny _ _ (setField (.ref e) 3 (rawInt ((i:Int)+1)) >>= _) _ _ ⟨ha,g,d,tk+1,os⟩;refine wB0 (wpAny_setField_rec ea (by simp) λhb eb hsb=>?_)
 replace hsb:Heap.SameBut e ha hb:=hsb
 replace eb:IsEnum hb e it ((i:Int)+1) old:=eb
 show wpAny _ _ (setField (.ref e) 4 .none >>= _) _ _ ⟨hb,g,d,tk+1,os⟩;refine wB0 (wpAny_setField_rec eb (by simp) λhc ec hsc=>?_)
 replace hsc:Heap.SameBut e hb hc:=hsc
 replace ec:IsEnum hc e it ((i:Int)+1) old:=ec
 show wpAny _ _ (newTuple [.int i tk,x] >>= _) _ _ ⟨hc,g,d,tk+1,os⟩;refine wB0 (wpAny_newTuple ?_);have hsz:hc.objs.size=hp.objs.size:=by rw [hsc.1,hsb.1,hsa.1]
 have hel:e<hp.objs.size:=Heap.lt_size he;have ed:IsEnum (hc.push {cls:=.type "tuple",data:=.seq #[.int i tk,x]}) e it ((i:Int)+1) old:=hP0 _ ec;have td:(hc.push {cls:=.type "tuple",data:=.seq #[.int i tk,x]}).get? hp.objs.size=some {cls:=.type "tuple",data:=.seq #[.int i tk,x]}:=by rw [<-hsz];exact Heap.get?_push_size _ rfl
 have kd: ∀b o,b≠e->b≠it->hp.get? b=some o->(hc.push {cls:=.type "tuple",data:=.seq #[.int i tk,x]}).get? b=some o:=λb o n1 n2 q=>
  hP0 _ (hsc.extBut b o n1 (hsb.extBut b o n1 (hsa.extBut b o n2 q)))
 have sd:IsSub k (hc.push {cls:=.type "tuple",data:=.seq #[.int i tk,x]}) it l (i+1):=ita.move λo q=>hP0 _ (hsc.extBut _ o (Ne.symm hne) (hsb.extBut _ o (Ne.symm hne) q));generalize hc.push {cls:=.type "tuple",data:=.seq #[.int i tk,x]}=hd at ed td kd sd ⊢;show wpAny _ _ (Builtin.SmallTypes.ownedTupleIsFree (.ref e) >>= _) _ _ ⟨hd,g,d,tk+1,os⟩;rw [hsz];refine wB0 ?_;unfold Builtin.SmallTypes.ownedTupleIsFree;refine wB0 (wpAny_field ed rfl (x:=.none) rfl (wP0 ?_));simp only [if_true];refine wB0 (wpAny_rule (wB0 (wpAny_field ed rfl (x:=old) rfl (wB0 (wpAny_setField_rec ed (by simp) λhf ef hsf=>?_)))))
 replace hsf:Heap.SameBut e hd hf:=hsf
 replace ef:IsEnum hf e it ((i:Int)+1) x:=ef
 show wpAny _ _ (Builtin.SmallTypes.ownedTupleHandOut (.ref e) (.ref hp.objs.size) >>= _) _ _ ⟨hf,g,d,tk+1,os⟩;refine wB0 ?_;unfold Builtin.SmallTypes.ownedTupleHandOut;refine wB0 (wpAny_setField_rec ef (by simp) λhg' eg hsg=>?_)
 replace hsg:Heap.SameBut e hf hg':=hsg
 replace eg:IsEnumOut hg' e it ((i:Int)+1) x hp.objs.size:=eg
 refine wpAny_setField_rec eg (by simp) λhh' eh hsh=>?_
 replace hsh:Heap.SameBut e hg' hh':=hsh
 replace eh:IsEnumOut hh' e it ((i:Int)+1) x hp.objs.size:=eh
 have up: ∀b o,b≠e->hd.get? b=some o->hh'.get? b=some o:=λb o n q=>hsh.extBut b o n (hsg.extBut b o n (hsf.extBut b o n q));exact wB0 (wpAny_letGo (wP0 ⟨_,rfl,hQ hh' eh (sd.move λo q=>up _ o (Ne.symm hne) q) (up _ _ (ne_of_gt hel) td) λb o n1 n2 q=>up b o n1 (kd b o n1 n2 q)⟩))
def zYJ(k:Bool)(l:Addr)(its:Ag):
  Meets (Builtin.«enumerate.__new__» ⟨[.type "enumerate",.ref l],[]⟩) (λ_ R s=>zKP k s.heap l its/\
   R (.ok (.ret (.ref (s.heap.objs.size+1)))) {s with heap:=(s.heap.push (zJE k l)).push {cls:=.type "enumerate",data:=.fields #[.none,.bool false,.ref s.heap.objs.size,rawInt 0,.none,.none]}}):=
 .of_wp λprog w A R s h=>by
  obtain⟨hp,g,d,tk,os⟩:=s;obtain⟨hl,h⟩:=h;have hsub:=sub_enumerate;have hL:zKP k (Shared.heap ⟨hp,g,d,tk,os⟩) l its:=hl;have z1: ∀(h:Heap)(o:Obj),(h.push o).objs.size=h.objs.size+1:=λh o=>Heap.size_push ..
  wp_walk
  refine wpAny_stack_any λst=>wP0 ?_;split
  ·rename_i c _ _ _ _ _;cases (c==Value.type "enumerate")
   ·wp_walk using zMK hL
    exact⟨_,rfl,by simp only [z1];exact h⟩
   ·wp_walk using zMK hL
    exact⟨_,rfl,by simp only [z1];exact h⟩
  ·wp_walk using zMK hL
   exact⟨_,rfl,by simp only [z1];exact h⟩
end
def zQJ(K:Be)(F:List MV->Sto->R Er):Sp:=λvs H Q _=> ∃ds,DenL K [] H ds vs/\ds.length=1/\ ∀g:Gm,g.K=K->Post g W0 [] H (F ds []) Q
def yHC{g:Gm}{F:List MV->Sto->R Er}: ∀vs H Q E,zQJ g.K F vs H Q E->spM g 1 F vs H Q E:=λvs H Q E ⟨ds,l,hl,q⟩=>⟨[],[],ds,⟨rfl,by simp,λl a o h=>by simp at h⟩,l,hl,q g rfl⟩
def yQQ{K:Be}{H:Hp}{a:Addr}{xs:List V}(hO:yFW H)(h:SqL K H a xs):SqF K H a xs:=by
 rcases h with(h|⟨o,h⟩)|h
 ·rcases hO a with z|⟨o,ys,z⟩
  ·rw [z]at h;cases h
  ·rw [z]at h;cases h
 ·exact .inl ⟨o,h⟩
 ·exact .inr h
def yHD{K:Be}{F:List MV->Sto->R Er}{H:Hp}{a:Addr}{ns:Ad}(hO:yFW H)(hS:SqL K H a (ns.map V.int))(h: ∃S,F [.scr (ns.map MV.int)] []=.ok (.val (.bl true)) S):zQJ K F [.ref a] H (λv _=>v=.bl true) λ_ _ _=>False:=by obtain⟨S,h⟩:=h;refine⟨_,yB (yAF (yQQ hO hS) (zFH ns)) yI,rfl,λg _=>?_⟩;rw [h];exact λv α' H' x w d=>zDW d.1
theorem bok{β γ:Type}(b:β)(S:Sto)(k:β->Sto->R γ):(R.ok b S).bind k=k b S:=by have h:=R.bind_ok b S k;exact Eq.trans h rfl
theorem yLB(d:MV)(S:Sto):rdSl (some (some d)) S=.ok (.val d) S:=rfl
def zML{S T:Sto}:yAJ S (S++T):=⟨by rw [lA];omega,λl hl=>.inl (getElem?_append_left hl)⟩
def gO(n:Nat)(i:Int):lo n (.int i):=by unfold lo;trivial
def zEB(n:Nat)(i:Ab):lo n (.str i):=by unfold lo;trivial
def yHE(n:Nat)(i:Bool):lo n (.bl i):=by unfold lo;trivial
def gP{n:Nat}{ds:Bh}(h:loL n ds):lo n (.tup ds):=by unfold lo;exact h
theorem wC{n:Nat}: ∀{ds:Bh},(∀d∈ds,lo n d)->loL n ds
 |[],_=>by unfold loL;trivial
 |d::ds,h=>by unfold loL;exact⟨h d mF0,wC λe he=>h e (mO _ he)⟩
def yHF{S T:Sto}{d:MV}(h:lo S.length d)(hn: ∀l,d≠.loc l):bK S (.val d) (S++T)=.ok (.val d) S:=by
 unfold bK;rw [iP zML];have e:(S++T).take S.length=S:=by simp
 cases d with
 |loc l=>exact absurd rfl (hn l)
 |_=>dsimp only;rw [iP h,e]
def yHG{S T:Sto}{ds:Bh}(h:loL S.length ds):bK S (.new ds) (S++T)=.ok (.new ds) S:=by
 unfold bK;rw [iP zML];have e:(S++T).take S.length=S:=by simp
 dsimp only;rw [iP h,e]
def yHH{S T:Sto}{l:Nat}{ds:Bh}(hl:S.length<=l)(hS:(S++T)[l]? =some (.lst ds))(h:loL S.length ds):bK S (.val (.loc l)) (S++T)=.ok (.new ds) S:=by
 unfold bK;rw [iP zML];have e:(S++T).take S.length=S:=by simp
 dsimp only;rw [iN (by omega),hS];dsimp only;rw [iP h,e]
def zAT{n:Nat}{F:List MV->Sto->R Er}{rs:List Er}{S T:Sto}{d:MV}(hn:rs.length=n)(hF:F (zQ rs S).1 (zQ rs S).2=.ok (.val d) (S++T))(h:lo S.length d)(hd: ∀l,d≠.loc l):zU n F rs S=.ok (.val d) S:=by unfold zU;rw [iP hn,hF];exact yHF h hd
def cY{n:Nat}{F:List MV->Sto->R Er}{rs:List Er}{S T:Sto}{ds:Bh}(hn:rs.length=n)(hF:F (zQ rs S).1 (zQ rs S).2=.ok (.new ds) (S++T))(h:loL S.length ds):zU n F rs S=.ok (.new ds) S:=by unfold zU;rw [iP hn,hF];exact yHG h
def zMM{n:Nat}{F:List MV->Sto->R Er}{rs:List Er}{S T:Sto}{l:Nat}{ds:Bh}(hn:rs.length=n)(hF:F (zQ rs S).1 (zQ rs S).2=.ok (.val (.loc l)) (S++T))(hl:S.length<=l)(hS:(S++T)[l]? =some (.lst ds))(h:loL S.length ds):zU n F rs S=.ok (.new ds) S:=by unfold zU;rw [iP hn,hF];exact yHH hl hS h
def cP{n:Nat}{F:List MV->Sto->R Er}{rs:List Er}{S:Sto}{d:MV}(hn:rs.length=n)(hF:F (zQ rs S).1 (zQ rs S).2=.ok (.val d) S)(h:lo S.length d)(hd: ∀l,d≠.loc l):zU n F rs S=.ok (.val d) S:=zAT (T:=[]) hn (by rw [aN];exact hF) h hd
section
variable{S:Sto}
theorem as_bl(b:Bool)(S:Sto):asB (.val (.bl b)) S=.ok b S:=rfl
theorem as_int(i:Int)(S:Sto):asI (.val (.int i)) S=.ok (some i) S:=rfl
theorem yQR(b:Bool)(S:Sto):zFU (.val (.bl b)) S=.ok b S:=rfl
theorem add_int(i j:Int)(S:Sto):jH (.val (.int i)) (.val (.int j)) S=.ok (.val (.int (i+j))) S:=rfl
theorem sub_int(i j:Int)(S:Sto):yDG (.val (.int i)) (.val (.int j)) S=.ok (.val (.int (i - j))) S:=rfl
def yHI{p q:Er}{x y:Bh}(h1:lsW S p=some x)(h2:lsW S q=some y)(h:x.length+y.length<=sizeLine):jH p q S=.ok (.new (x++y)) S:=by
 have e:yAM p q S=.ok (.new (x++y)) S:=by unfold yAM;rw [h1,h2];exact iP h
 unfold jH;split
 ·cases h1
 ·cases h1
 ·cases h1
 ·exact e
theorem yQS{g:Int->Int->Bool}(i j:Int)(S:Sto):ibF g (.val (.int i)) (.val (.int j)) S=.ok (.val (.bl (g i j))) S:=rfl
def yLC(i j:Int):eqV (.int i) (.int j)=decide (i=j):=by
 show(i==j)=_;by_cases h:i=j
 ·subst h;simp
 ·rw [dF0 h];simpa using h
def yLD(x y:Ab):eqV (.str (mkS x)) (.str (mkS y))=decide (x=y):=by
 show(mkS x==mkS y)=_;by_cases h:x=y
 ·subst h;simp
 ·rw [dF0 h];have:mkS x≠mkS y:=λz=>h (zLG z);simpa using this
theorem zBU(n:Nat)(i j:Int):eqv S (n+1) (.int i) (.int j)=some (decide (i=j)):=by rw [<-yLC];rfl
theorem zLK(n:Nat)(x y:Ab):eqv S (n+1) (.str x) (.str y)=some (decide (x=y)):=by rw [<-yLD];rfl
theorem yQT(n:Nat)(x:Int)(y:Ab):eqv S (n+1) (.int x) (.str y)=some false:=rfl
theorem yQU(n:Nat)(x:Ab)(y:Int):eqv S (n+1) (.str x) (.int y)=some false:=rfl
theorem yQV(n:Nat)(x y:Bool):eqv S (n+1) (.bl x) (.bl y)=some (x==y):=rfl
theorem yLE(d f:MV):eqF (.val d) (.val f) S=match eqv S (zI+1) d f with |some k=>.ok (.val (.bl k)) S|none=>.no:=rfl
theorem yLF(d f:MV):neF (.val d) (.val f) S=match eqv S (zI+1) d f with |some k=>.ok (.val (.bl !k)) S|none=>.no:=rfl
def zMN{d f:MV}{k:Bool}(h:eqv S (zI+1) d f=some k):eqF (.val d) (.val f) S=.ok (.val (.bl k)) S:=by rw [yLE,h]
def zYK{d f:MV}{k:Bool}(h:eqv S (zI+1) d f=some k):neF (.val d) (.val f) S=.ok (.val (.bl !k)) S:=by rw [yLF,h]
def eq_int(i j:Int)(S:Sto):eqF (.val (.int i)) (.val (.int j)) S=.ok (.val (.bl (decide (i=j)))) S:=zMN (zBU _ i j)
def ne_int(i j:Int)(S:Sto):neF (.val (.int i)) (.val (.int j)) S=.ok (.val (.bl (!decide (i=j)))) S:=zYK (zBU _ i j)
theorem lt_int(i j:Int)(S:Sto):ltF (.val (.int i)) (.val (.int j)) S=.ok (.val (.bl (decide (i<j)))) S:=rfl
theorem lt_str(i j:Ab)(S:Sto):ltF (.val (.str i)) (.val (.str j)) S=.ok (.val (.bl (decide (i<j)))) S:=rfl
def yLG{b:Int}(h:0<b)(h2:b<1073741824)(a:Int)(S:Sto):divF (.val (.int a)) (.val (.int b)) S=.ok (.val (.int (a / b))) S:=by
 refine iP ⟨h,?_⟩;have h3:b.natAbs<2 ^ 30:=by omega
 have:=(Nat.log2_lt (by omega:b.natAbs≠0)).mpr h3;omega
def mod_lit{b:Int}(h:0<b)(a:Int)(S:Sto):zBT (.val (.int a)) (.val (.int b)) S=.ok (.val (.int (a % b))) S:=iP h
def yLH{b:Int}(h: -(2 ^ 64)<b/\b<2 ^ 64)(a:Int)(S:Sto):zMH (.val (.int a)) (.val (.int b)) S=.ok (.val (.int (a * b))) S:=iP (Or.inr (Or.inl h))
def yLI{a b:Int}(h:yGQ a b)(S:Sto):powF (.val (.int a)) (.val (.int b)) S=.ok (.val (.int (a ^ b.toNat))) S:=iP h
theorem yLJ(ρ:Rho)(i:Nat)(d:MV)(S:Sto):zRX ρ i (.val d) S=.ok (.next (ρ.set i (some d))) S:=rfl
theorem yLK(ρ:Rho)(i:Nat)(ds:Bh)(S:Sto):zRX ρ i (.new ds) S=.ok (.next (ρ.set i (some (.loc S.length)))) (S++[.lst ds]):=rfl
theorem yLL(S:Sto):zQ [] S=([],S):=rfl
theorem yLM(d:MV)(rs:List Er)(S:Sto):zQ (.val d::rs) S=(d::(zQ rs S).1,(zQ rs S).2):=rfl
theorem zG{F G:AY}{ρ ρ':Rho}{S S':Sto}(h:F ρ S=.ok (.next ρ') S'):zZ F G ρ S=G ρ' S':=by unfold zZ;rw [h];rfl
theorem cG{F G:AY}{ρ:Rho}{S S':Sto}{r:Er}(h:F ρ S=.ok (.ret r) S'):zZ F G ρ S=.ok (.ret r) S':=by unfold zZ;rw [h];rfl
def wO(S:Sto):stay [] S:=bI
def bM{gf:MV->Rho->Sto->R Rho}{b:AY}{gs:Ca}{d:MV}{ds:Bh}{ρ ρ0 ρ':Rho}{S0 S':Sto}(hg:gf d ρ S=.ok ρ0 S0)(h:b ρ0 S0=.ok (.next ρ') S')(hs:stay gs S'):bT gf b gs (d::ds) ρ S=bT gf b gs ds ρ' S':=by
 conv=>lhs;unfold bT
 rw [hg,bok,h,bok];dsimp only;rw [iP hs]
def yAS{gf:MV->Rho->Sto->R Rho}{b:AY}{gs:Ca}{d:MV}{ds:Bh}{ρ ρ0:Rho}{S0 S':Sto}{r:Er}(hg:gf d ρ S=.ok ρ0 S0)(h:b ρ0 S0=.ok (.ret r) S'):bT gf b gs (d::ds) ρ S=.ok (.ret r) S':=by
 conv=>lhs;unfold bT
 rw [hg,bok,h,bok]
def zYL{t:AZ}{b:AY}{n:Nat}{ρ ρ':Rho}{S1 S2:Sto}(h1:t ρ S=.ok true S1)(h2:b ρ S1=.ok (.next ρ') S2):gM t b (n+1) ρ S=gM t b n ρ' S2:=by
 conv=>lhs;unfold gM
 rw [h1,bok,iP rfl,h2,bok]
def yDL{t:AZ}{b:AY}{n:Nat}{ρ:Rho}{S1:Sto}(h1:t ρ S=.ok false S1):gM t b (n+1) ρ S=.ok (.next ρ) S1:=by
 conv=>lhs;unfold gM
 rw [h1,bok,iN xF0]
def yLN{α:Type}{xs:List α}{i:Int}(h0:0<=i)(h1:i<xs.length): ∃c,atI xs i=some c:=by refine⟨xs[i.toNat]'(by omega),?_⟩;unfold atI ixN;rw [iP h0,iP h1];exact gE0 _
def yLO{α:Type}{P:α->Prop}{xs:List α}{i:Int}{e:α}(h: ∀e∈xs,P e)(z:atI xs i=some e):P e:=by
 unfold atI at z
 cases q:ixN xs.length i with
 |none=>rw [q]at z;cases z
 |some j=>rw [q]at z;exact h e (mem_of_getElem? (show xs[j]? =some e from z))
def ix_tup{ds:Bh}{i:Int}{d:MV}(hk:atI ds i=some d):ixF (.val (.tup ds)) (.val (.int i)) S=.ok (.val d) S:=by show(match atI ds i with |some d=>R.ok (Er.val d) S|none=>.no)=_;rw [hk]
def zSH{ds:Bh}{i:Int}{d:MV}(hk:atI ds i=some d):ixF (.new ds) (.val (.int i)) S=.ok (.val d) S:=by show(match atI ds i with |some d=>R.ok (Er.val d) S|none=>.no)=_;rw [hk]
def zJF{l:Nat}{ds:Bh}{i:Int}{d:MV}(hS:S[l]? =some (.lst ds))(hk:atI ds i=some d):ixF (.val (.loc l)) (.val (.int i)) S=.ok (.val d) S:=by
 have e:xX S (.val (.loc l))=some ds:=by unfold xX;dsimp only;rw [hS]
 show(match xX S (.val (.loc l))with |some ds=>getL ds (.val (.int i)) S|none=>.no)=_;rw [e];show(match atI ds i with |some d=>R.ok (Er.val d) S|none=>.no)=_;rw [hk]
def zLL{l:Nat}{ds:Bh}(hS:S[l]? =some (.lst ds)):zFV [.val (.loc l)] S=.ok (.val (.int ds.length)) S:=by
 have e:xX S (.val (.loc l))=some ds:=by unfold xX;dsimp only;rw [hS]
 have e2:itemsOf S (.val (.loc l))=some ds:=by unfold itemsOf;exact e
 show(match itemsOf S (.val (.loc l))with |some ds=>R.ok (Er.val (.int ds.length)) S|none=>.no)=_;rw [e2]
def bN{l:Nat}{ds:Bh}(hS:S[l]? =some (.lst ds)):xX S (.val (.loc l))=some ds:=by unfold xX;dsimp only;rw [hS]
def kB{l:Nat}{ds:Bh}(hS:S[l]? =some (.lst ds)):itL (.val (.loc l)) S=.ok ⟨ds,[(l,ds)]⟩ S:=by unfold itL;dsimp only;rw [hS]
def xD{l:Nat}{ds:Bh}(hS:S[l]? =some (.lst ds)):stay [(l,ds)] S:=λp hp=>by
 have:p=(l,ds):=by simpa using hp
 subst this;exact hS
def yQW{j:Int}(h: -(2 ^ 62)<=j/\j<2 ^ 62):zAS [.val (.int j)] S=.ok ⟨(List.range j.toNat).map λk=>.int (k:Nat),[]⟩ S:=iP h
def cutL_mem{α:Type}{x:List α}{lo hi:Bc}{a:α}(h:a∈wG x lo hi):a∈x:=List.mem_of_mem_drop (List.mem_of_mem_take h)
def cutL_map{α β:Type}(f:α->β)(x:List α)(lo hi:Bc):wG (x.map f) lo hi=(wG x lo hi).map f:=by unfold wG;rw [lM,map_take,map_drop]
def fits{n:Nat}(h:n<=1000000):n<=sizeLine:=by rw [sizeLine_eq];exact le_trans h (by decide)
def zMO{rs:List Er}(h:rs.length<=1000000):zDQ rs S=.ok (.new (zQ rs S).1) (zQ rs S).2:=iP (fits h)
def zBV{rs:List Er}(h:rs.length<=1000000):xO rs S=.ok (.val (.tup (zQ rs S).1)) (zQ rs S).2:=iP (fits h)
def yDM(S:Sto):zDQ [] S=.ok (.new []) S:=zMO (by simp)
def lst1(a:MV)(S:Sto):zDQ [.val a] S=.ok (.new [a]) S:=zMO (by simp)
def yDN(a b:MV)(S:Sto):zDQ [.val a,.val b] S=.ok (.new [a,b]) S:=zMO (by simp)
def lst3(a b c:MV)(S:Sto):zDQ [.val a,.val b,.val c] S=.ok (.new [a,b,c]) S:=zMO (by simp)
def lst6(a b c d e f:MV)(S:Sto):zDQ [.val a,.val b,.val c,.val d,.val e,.val f] S=.ok (.new [a,b,c,d,e,f]) S:=zMO (by simp)
def tup2(a b:MV)(S:Sto):xO [.val a,.val b] S=.ok (.val (.tup [a,b])) S:=zBV (by simp)
def tup3(a b c:MV)(S:Sto):xO [.val a,.val b,.val c] S=.ok (.val (.tup [a,b,c])) S:=zBV (by simp)
theorem yQX(i:Int)(S:Sto):zHU [.val (.int i),.val (.typ "str")] S=.ok (.val (.bl false)) S:=rfl
theorem yQY(i:Ab)(S:Sto):zHU [.val (.str i),.val (.typ "str")] S=.ok (.val (.bl true)) S:=rfl
theorem yQZ(i:Int)(S:Sto):zHU [.val (.int i),.val (.typ "tuple")] S=.ok (.val (.bl false)) S:=rfl
theorem yRA(i:Ab)(S:Sto):zHU [.val (.str i),.val (.typ "tuple")] S=.ok (.val (.bl false)) S:=rfl
theorem yRB(i:Bh)(S:Sto):zHU [.val (.tup i),.val (.typ "tuple")] S=.ok (.val (.bl true)) S:=rfl
theorem yRC(i:Bool)(S:Sto):zHU [.val (.bl i),.val (.typ "bool")] S=.ok (.val (.bl true)) S:=rfl
theorem zUY{gf:MV->Rho->Sto->R Rho}{cf:AZ}{ef:AX}{ρb:Rho}{gs:Ca}{P:MV->Prop}(hs:stay gs S):
  ∀{ds:Bh},(∀d∈ds, ∃ρ1 y,gf d ρb S=.ok ρ1 S/\cf ρ1 S=.ok true S/\ef ρ1 S=.ok (.val y) S/\P y)-> ∃out,yD gf cf ef ρb gs ds S=.ok out S/\out.length=ds.length/\ ∀o∈out,P o
 |[],_=>⟨[],rfl,rfl,λo h=>by simp at h⟩
 |d::ds,st=>by obtain⟨ρ1,y,h1,h2,h3,h4⟩:=st d mF0;obtain⟨out,e,hl,hp⟩:=zUY hs (ds:=ds) λd hd=>st d (mO _ hd);refine⟨y::out,?_,by rw [lC,lC,hl],λo ho=>(mC.mp ho).elim (λz=>z▸h4) (hp o)⟩;unfold yD;rw [h1,yL,bok,h2,yL,bok,iP rfl,h3,yL,bok];unfold gI;rw [bok,iP hs,e];rfl
def Nm(x:Ab):Prop:=1<=x.length/\x.length<=8/\ ∀c∈x,97<=c/\c<=122
def Vl:MV->Prop
 |.int i=> -(10 ^ 30)<i/\i<10 ^ 30
 |.str x=>Nm x
 |_=>False
def Vl.cases{d:MV}(h:Vl d):(∃i,d=.int i/\ -(10 ^ 30)<i/\i<10 ^ 30)\/ ∃x,d=.str x/\Nm x:=by
 cases d with
 |int i=>exact .inl ⟨i,rfl,h⟩
 |str x=>exact .inr ⟨x,rfl,h⟩
 |_=>exact h.elim
def Vl.lo{d:MV}(h:Vl d)(n:Nat):lo n d:=by
 rcases h.cases with⟨i,rfl,_⟩|⟨x,rfl,_⟩
 ·exact gO n i
 ·exact zEB n x
end
def Ite(K:Be)(k:Bool)(l:Addr):It:=
 ⟨λi H=> ∃xs x,SqK k K H l xs/\xs[i]? =some x,
   λi H v H'=> ∃p x,H p=none/\v=.ref p/\H'=upd H p (.tup [.int (i:Nat),x])/\(∀xs,SqK k K H l xs->xs[i]? =some x),
   λi H=> ∃xs,SqK k K H l xs/\xs.length<=i⟩
section
variable{prog:Program}{w:World}{A:Around}{E:VP}{s:Shared}{k:Bool}{e it l:Addr}{i:Nat}{its:Ag}
def yDO(hl:zKP k s.heap l its){Q:VP}
  (h: ∀h',EnSt k (s.heap.objs.size+1) s.heap.objs.size l 0 h'->(∀c o,s.heap.get? c=some o->h'.get? c=some o)->Q (.ref (s.heap.objs.size+1)) {s with heap:=h'}):
  wpAny (model prog w) A (call (.type "enumerate") [.ref l]) Q E s:=by
 refine callType_new F.called_enumerate (by decide) (F.typeCall_enumerate_1 _) (F.newCall_enumerate_1 _) (λobj=>F.args_object_init_2 obj _) F.entry_enumerate_new (zYJ k l its) ⟨hl,?_⟩;have hz:(s.heap.push (zJE k l)).objs.size=s.heap.objs.size+1:=Heap.size_push ..;show _/\_;have he:IsEnum ((s.heap.push (zJE k l)).push {cls:=.type "enumerate",data:=.fields #[.none,.bool false,.ref s.heap.objs.size,rawInt 0,.none,.none]}) (s.heap.objs.size+1) s.heap.objs.size 0 .none:=by have:=Heap.get?_push_size (s.heap.push (zJE k l)) (o:={cls:=.type "enumerate",data:=.fields #[.none,.bool false,.ref s.heap.objs.size,rawInt 0,.none,.none]}) rfl;rw [hz]at this;exact this
 refine⟨⟨_,he,rfl⟩,h _ ⟨⟨.none,he⟩,IsSub.mk' (hP0 _ (Heap.get?_push_size _ rfl))⟩ λb o x=>hP0 _ (hP0 _ x)⟩
end
def yDP{P:Program}{w:World}{K:Be}{elts:Bd}{kt:Nat}{pt:Pos}{k:Bool}{e it l:Addr}(hne:e≠it):
  Turn P w K (.Tuple elts kt pt) (Ite K k l) [e,it] e (λi h=>EnSt k e it l i h) where
 mem:=by simp
 obj:=λi h st b hb=>by
  obtain⟨⟨old,he⟩,hs⟩:=st;have hb':b=e\/b=it:=by simpa using hb
  rcases hb' with rfl|rfl
  ·exact⟨_,he,λv q=>by cases q⟩
  ·exact hs.there
 keep:=λi h h' st kk=>by obtain⟨⟨old,he⟩,hs⟩:=st;exact⟨⟨old,kk e (by simp) _ he⟩,hs.move λo q=>kk it (by simp) o q⟩
 item:=by
  intro X hP hw hK hc i pins s σ H E I hf st hg;subst hP hw hK;obtain⟨xs,x,q1,hx⟩:=hg;obtain⟨its,r1,p1,_⟩:=I.seqK q1;obtain⟨u,hu,ru⟩:=r1.get hx;obtain⟨⟨old,he⟩,hs⟩:=st;have hT:s.TypeIs (.ref e) "enumerate":=⟨_,he,rfl⟩
  unfold pyNext
  refine wB0 (wpAny_attempt (wpAny_callSpecial?_slot (name:=Str.ofString "__next__") hT F.slot_enumerate_next (wpAny_call_entry F.slot_enumerate_next hT F.entry_enumerate_next
   (yLA he hs p1 (x:=u) (by simpa using hu) hne λh' a1 a2 a3 a4=>wP0 ⟨_,rfl,?_⟩) (F.args_enumerate_next_1 _))))
  refine wpAny_letOwnedTupleGo_enum a1 λh2 z2 sb2=>?_;have hpn:H s.heap.objs.size=none:=I.hok.fresh (le_refl _)
  have I0:Inv X pins σ (upd H s.heap.objs.size (.tup [.int (i:Nat),x])) {s with heap:=s.heap.push {cls:=.type "tuple",data:=.seq #[.int i s.toks,u]},toks:=s.toks+1}:=
   I.laid (t':=s.toks+1) (o:=.tup [.int (i:Nat),x]) (λb o e=>hP0 _ e) (le_refl _) ⟨by show 2<=sizeLine;decide,[.int i s.toks,u],.cons ⟨_,rfl⟩ (.cons ru .nil),⟨_,Heap.get?_push_size _ rfl,rfl,_,rfl⟩⟩
  have lt: ∀b∈[e,it],b<s.heap.objs.size:=λb hb=>by
   have hb':b=e\/b=it:=by simpa using hb
   rcases hb' with rfl|rfl
   ·exact Heap.lt_size he
   ·obtain⟨o,eo,_⟩:=hs.there;exact Heap.lt_size eo
  have fr: ∀b∈[e,it],upd H s.heap.objs.size (.tup [.int (i:Nat),x]) b=none:=λb hb=>by rw [zR (ne_of_lt (lt b hb))];exact(hf b hb).1
  have mv: ∀b o,b∉[e,it]->(s.heap.push {cls:=.type "tuple",data:=.seq #[.int i s.toks,u]}).get? b=some o->h2.get? b=some o:=λb o hb eo=>by
   simp only [mC,nM0,or_false,not_or]at hb;refine sb2.extBut _ _ hb.1 ?_;by_cases hbs:b=s.heap.objs.size
   ·subst hbs;rw [Heap.get?_push_size _ rfl]at eo;cases eo;exact a3
   ·rw [Heap.get?_push_ne _ _ _ hbs]at eo;exact a4 b o hb.1 hb.2 eo
  have I2:=I0.turnedL (h':=h2) (t':=s.toks+1) mv λb hb=>let ⟨_,c2,c3,c4,c5,c6⟩:=hf b hb;⟨fr b hb,c2,c3,c4,c5,c6⟩;refine⟨.ref s.heap.objs.size,_,I2,rfl,⟨s.heap.objs.size,x,hpn,rfl,rfl,λzs hz=>?_⟩,⟨⟨u,?_⟩,?_⟩,fr⟩
  ·rw [I.seqK_inj hz q1];exact hx
  ·simpa using z2
  ·exact a2.move λo eo=>sb2.extBut _ _ (Ne.symm hne) eo
 done:=by
  intro X hP hw hK hc i pins s σ H E I hf st hg;subst hP hw hK;obtain⟨xs,q1,hx⟩:=hg;obtain⟨its,r1,p1,_⟩:=I.seqK q1;obtain⟨⟨old,he⟩,hs⟩:=st;have hT:s.TypeIs (.ref e) "enumerate":=⟨_,he,rfl⟩
  have e1:=r1.length;unfold pyNext;refine wB0 (wpAny_attempt (wpAny_callSpecial?_slot (name:=Str.ofString "__next__") hT F.slot_enumerate_next (wpAny_call_entry F.slot_enumerate_next hT F.entry_enumerate_next ?_ (F.args_enumerate_next_1 _))));show wpAny _ _ (field (.ref e) 2 >>= _) _ _ _;refine wB0 (wpAny_field he rfl (x:=.ref it) rfl ?_);refine wB0 (yKY (I.ok.hd hc) hs p1 (by simp;omega) λh' x hk hx'=>?_);obtain⟨o,ho,hcl⟩:=hx';refine wB0 (wpAny_isInstance (T:="StopIteration") (b:=true) ⟨o,ho,hcl⟩ isSubtype_stop (wP0 ⟨rfl,?_⟩));refine I.turnedL (h':=h') (t':=s.toks) (λb o hb eo=>?_) hf;simp only [mC,nM0,or_false,not_or]at hb;exact hk b o hb.2 eo
 self:=λ_ _ _ _ _ st h=>let ⟨⟨_,he⟩,_⟩:=st;wpAny_pyIter_enum he h
def iEnum(K:Be)(ta:TA):TI:=λσ H R=>ta σ H λvs H1=> ∃k l,vs=[.ref l]/\(∃xs,SqK k K H1 l xs)/\R (Ite K k l) H1
section
variable{X:Cx}{W:XW}{a:Expr}{elts:Bd}{kt:Nat}{pt p pos:Pos}{ta:TA}{af:Rho->Sto->R (List Er)}
def yLP(hg:Gl X "enumerate")(hm:X.mg "enumerate"=none)(ha:PA X [a] ta)(hs:starEach [a] X.env=[(false,eval a X.env)]:=by rfl):
  PI X (.Tuple elts kt pt) (.Call (.Name "enumerate" p) [a] [] pos) (iEnum X.K ta):=by
 intro pins s σ H R I h;refine Call_ (zIP I hg hm yKZ (PyProof.Rows.callWith_type1 (thn (ha pos pins s σ H _ I h) λus s1 ⟨vs,H1,I1,r1,q1⟩=>?_) (by rw [hs];rfl) (by rfl)));obtain⟨k,l,rfl,⟨xs,c1⟩,q⟩:=q1
 cases r1 with
 |cons r rr=>
  cases rr;cases r;obtain⟨its,v1,p1,_⟩:=I1.seqK c1;refine yDO p1 λh' st hk=>let ⟨⟨_,he⟩,_⟩:=id st;wpAny_pyIter_enum he ?_;have I2:Inv X pins σ H1 {s1 with heap:=h'}:=I1.kept (t':=s1.toks) hk;refine⟨_,_,_,_,H1,rfl,I2,yDP (ne_of_gt (lt_succ_self _)),st,λb hb=>?_,q⟩
  have hle:s1.heap.objs.size<=b:=by
   have hb':b=s1.heap.objs.size+1\/b=s1.heap.objs.size:=by simpa using hb
   rcases hb' with h|h<;>rw [h]<;>(first |exact le_refl _|exact Nat.le_add_right _ _)
  exact I1.fpOk hle (I1.hok.fresh hle)
def zJG(xs:Bh):List MV:=xs.zipIdx.map λp=>.tup [.int (p.2:Nat),p.1]
def itE(rs:List Er)(S:Sto):R Wk:=match rs with
 |[p]=>match srcOf S p with
  |some a=>.ok ⟨zJG a.ds,a.gs⟩ S
  |none=>.no
 |_=>.no
def zFK(hg:Gl X "enumerate")(hm:X.mg "enumerate"=none)(ha:PAm X W [a] af)(hs:starEach [a] X.env=[(false,eval a X.env)]:=by rfl):
  PIm X W (.Tuple elts kt pt) (.Call (.Name "enumerate" p) [a] [] pos) (λρ S=>(af ρ S).bind itE):=by
 obtain⟨t,ha,k⟩:=ha;refine⟨_,yLP hg hm ha hs,λα ρ S σ H Rc wd sl q=>k α ρ S σ H _ wd sl (q.bind λvs rs S1 α1 H1 e x1 w1 d1 q1=>?_)⟩
 replace q1:=q1.shift x1
 unfold itE at q1;split at q1
 ·rename_i r1;split at q1
  ·rename_i s1 e1;obtain⟨u,rfl,du⟩:=zQG d1;obtain⟨l1,P1,rfl,p1,D1⟩:=yQP w1 e1 du;have g1:=D1.get _ _ _ p1;have hlen:(zJG s1.ds).length=s1.ds.length:=by unfold zJG;rw [lM,length_zipIdx]
   refine⟨s1.k,l1,rfl,⟨_,g1.choose_spec.1⟩,q1.here (u:=Ite X.K s1.k l1) w1 ⟨λα S H=>P1 α S H,?_,p1,?_,?_⟩⟩
   ·intro i α2 S2 H2 b1 w2;obtain⟨us,c1,c2⟩:=D1.get _ _ _ b1;have hl:=c2.length;refine⟨λhi=>?_,λhi=>?_⟩
    ·have hi:i<(zJG s1.ds).length:=hi;have h1:i<us.length:=by omega
     refine⟨⟨us,us[i],c1,gE0 h1⟩,?_⟩;rintro x H' ⟨pp,xx,hp,rfl,rfl,hx⟩;obtain⟨d,hd,dd⟩:=c2.get (hx us c1);have xn:=w2.newx (o:=.tup [.int (i:Nat),xx]) hp;have wn:=w2.new (o:=.tup [.int (i:Nat),xx]) hp;refine⟨xn,wn,D1.stays _ _ _ _ _ _ b1 xn wn (D1.st _ _ _ b1),.tup [.int (i:Nat),d],?_,?_⟩
     ·unfold zJG;rw [getElem?_map,List.getElem?_zipIdx,hd];simp
     ·exact zBP (.of yR) (yB (xF _) (yB (dd.ext xn) yI))
    ·have hi:(zJG s1.ds).length<=i:=hi;exact⟨us,c1,by omega⟩
   ·intro α1 S1 H1 α2 S2 H2 b1 x w hs;exact D1.stays _ _ _ _ _ _ b1 x w hs
   ·exact D1.st _ _ _ p1
  ·exact q1.elim
 ·exact q1.elim
end
instance:DecidableEq MV:=λ_ _=>Classical.propDecidable _
def look(kvs:Cb)(k:MV):Option MV:=(kvs.find? λp=>decide (p.1=k)).map (·.2)
def putK(kvs:Cb)(k d:MV):List (MV×MV):=if(look kvs k).isSome=true then kvs.map (λp=>if p.1=k then(p.1,d)else p)else kvs++[(k,d)]
section
variable{X:Cx}{pins:Ba}{σ:St}{H:Hp}{s:Shared}{α:Ah}
def zJH(p:MV×MV)(kvs:Cb)(k:MV):look (p::kvs) k=if p.1=k then some p.2 else look kvs k:=by
 unfold look;rw [find?_cons];by_cases h:p.1=k
 ·rw [dT0 h,iP h];rfl
 ·rw [dF0 h,iN h]
end
section
variable{X:Cx}{W:XW}{a b o i:Expr}{f g:AX}{pos:Pos}
def yRD{pins:Ba}{σ:St}{H:Hp}{s:Shared}(I:Inv X pins σ H s):sysModules<s.heap.objs.size:=lt_trans (by decide) ((I.mod.glob.keeps I.bk).lt)
def Wd.put{gg:Gm}{α:Ah}{S:Sto}{H:Hp}{p:Addr}{ho:HO}{m:MO}(w:Wd gg α S H)(hp:H p=none)(q:ObD gg (α++[p]) (upd H p ho) p m):Ext α H (α++[p]) (upd H p ho)/\Wd gg (α++[p]) (S++[m]) (upd H p ho):=by
 have x:=w.newx (o:=ho) hp;have nw:=w.new (o:=ho) hp;have np:=w.fresh hp;refine⟨⟨⟨⟨[p],rfl⟩,x.tup,x.frz⟩,λb hb=>?_,x.keep,x.has⟩,⟨?_,?_,λl c ob h1 h2=>?_⟩⟩
 ·rcases mem_append.mp hb with h|h
  ·exact .inl h
  ·rw [mS.mp h];exact .inr hp
 ·rw [lA,lA,w.len];rfl
 ·exact nodup_append.mpr ⟨w.nd,by simp,λa ha c hc=>by rw [mS.mp hc];rintro rfl;exact np ha⟩
 ·by_cases hl:l<α.length
  ·rw [getElem?_append_left hl]at h1;rw [getElem?_append_left (by rw [<-w.len];exact hl)]at h2;exact(nw.obj l c ob h1 h2).move (Ex0.grow α [p] _) rfl
  ·have hl':l=α.length:=by have:=(gS0.mp h1).1;rw [lA,lS]at this;omega
   subst hl';rw [getElem?_append_right (le_refl _),sub_self]at h1;rw [getElem?_append_right (by rw [w.len];exact le_refl _),w.len,sub_self]at h2;cases h1;cases h2;exact q
def newDF(S:Sto):R Er:=.ok (.val (.loc S.length)) (S++[.dic []])
end
def FsD(g:Gm)(α:Ah)(H:Hp)(d:Option Addr)(fs:List (Str×MV)):Prop:=fs=[]\/ ∃dx gs od,d=some dx/\H dx=some (.frz od (.xd gs))/\DenF g.K α H fs gs
abbrev WE(g:Gm)(E:XK):XW:=λc fs _ α H=> ∀C d,g.mg c=some (.ref C)->FsD g α H d fs->E (.ref C) d H
def yRE:MV->Bool
 |.non=>true
 |.bl _=>true
 |.int _=>true
 |.str _=>true
 |_=>false
def Post.wmono{β τ:Type}[Dn β τ]{g:Gm}{W W':XW}{α:Ah}{H:Hp}(f: ∀c fs S α' H',W c fs S α' H'->W' c fs S α' H'): ∀{m:R β}{Q:τ->Hp->Prop},Post g W α H m Q->Post g W' α H m Q
 |.ok b S,Q,q=>q
 |.exc c fs S,_,q=>λα' H' x w=>f _ _ _ _ _ (q α' H' x w)
 |.no,_,q=>q
def XCl(K:Be)(C:Addr)(bm:Ae)(init:Option Value):Prop:=
 ∃nm q N bs hd sn sub ab col dd k0 k1 k2 k3 k5,K.lookup C=some (excClassObj nm q C N bs bm hd sn sub ab col dd k0 k1 k2 k3 k5 "ValueError.__new__")/\PySem.W.nsOkIn K N=true/\PySem.W.nsIn K N "__init__"=some init/\(∀n∈qn,PySem.W.nsIn K N n=some none)/\hd=true
def XEach(K:Be)(mg:Aj)(M:Addr):List (Str×Addr)->Prop
 |[]=>True
 |(c,C)::r=>(mg c=some (.ref C)/\ ∃i,XCl K C (.ref M::bmV) i)/\XEach K mg M r
theorem XEach.at{K:Be}{mg:Aj}{M:Addr}: ∀{cs:List (Str×Addr)},XEach K mg M cs-> ∀{c C},(c,C)∈cs->mg c=some (.ref C)/\ ∃i,XCl K C (.ref M::bmV) i
 |(c,C)::r,h,c',C',z=>by
  rcases mC.mp z with z|z
  ·cases z;exact h.1
  ·exact XEach.at h.2 z
def spX(g:Gm)(n:Nat)(F:List MV->Sto->R Er):Sp:=λvs H Q E=> ∃α S ds,Wd g α S H/\DenL g.K α H ds vs/\ds.length=n/\Post g (WE g E) α H (F ds S) Q
def yAT(n:Nat)(F:List MV->Sto->R Er)(rs:List Er)(S:Sto):R Er:=if rs.length=n then(match F (zQ rs S).1 (zQ rs S).2 with
 |.ok r S2=>bK S r S2
 |.exc c fs S2=>if fs.all (λp=>yRE p.2)=true then(bK S (.val .non) S2).bind λ_ S3=>.exc c fs S3 else .no
 |.no=>.no)else .no
section
variable{P:Program}{w:World}{K:Be}{mg:Aj}{base:Heap}
def _root_.L2.FnOk.noX{k n:Nat}{f:Addr}{fd:FuncData}{ps:Ai}{g:Gm}{F:List MV->Sto->R Er}(G:FnOk P w K mg base (CXe P w) k f fd ps (spX g n F)):FnOk P w K mg base CX0 k f fd ps (spM g n F):=by
 have up: ∀{vs H Q}, ∀{E},spM g n F vs H Q E->spX g n F vs H Q E0:=λ⟨α,S,ds,h1,h2,h3,h4⟩=>⟨α,S,ds,h1,h2,h3,h4.wmono λ_ _ _ _ _ z=>z.elim⟩
 refine⟨λvs H Q E h=>G.len vs H Q E0 (up h),λA outer s H args us vs Q E hr e0 hb hv h=>codeAny_mono (G.run A outer s H args us vs Q E0 hr e0 hb hv (up h)) λr s' hq=>?_⟩
 cases r with
 |error e=>
  obtain⟨_,_,_,_,_,_,_,_,_,_,_,_,_,_,_,z⟩:=hq;exact z
 |ok fl=>cases fl<;>exact hq
end
end M
end L2
namespace L2
open PySem PySem.Spec PyProof.Rows
structure Out(X:Cx)(pins:Ba)(H:Hp)(s:Shared)(b:Addr):Prop where
 s0:X.s₀.heap.get? b=none
 h:H b=none
 pin: ∀p∈X.pn++pins,p.1≠b
 fld: ∃o vs,s.heap.get? b=some o/\o.data=.fields vs
section
variable{X:Cx}{pins:Ba}{σ:St}{H:Hp}{s:Shared}{e T b:Addr}{h':Heap}
def Out.ne(o:Out X pins H s b){c:Addr}{oc:Obj}(hc:s.heap.get? c=some oc)(nf: ∀vs,oc.data≠.fields vs):c≠b:=λz=>by obtain⟨ob,vs,h1,h2⟩:=o.fld;rw [z,h1]at hc;cases hc;exact nf vs h2
def Out.loc(o:Out X pins H s b)(I:Inv X pins σ H s):X.env.locals≠b:=by obtain⟨m,⟨oL,es,ep,h1,h2,_⟩,_⟩:=I.loc;exact o.ne h1 λvs z=>by rw [h2]at z;cases z
end
end L2
namespace L2
namespace M
open PySem PySem.Spec PyProof.Rows
def endF(i:Nat):Fl->Sto->R Fl
 |.next ρ,S=>.ok (.next (ρ.set i none)) S
 |.ret r,S=>.ok (.ret r) S
 |.brk ρ,S=>.ok (.brk (ρ.set i none)) S
 |.cont ρ,S=>.ok (.cont (ρ.set i none)) S
def tryF(ns:Ai)(i:Nat)(kn:Er->Sto->R Fl)(Fh:AY)(ρ:Rho):R Er->R Fl
 |.ok r S=>kn r S
 |.exc c fs S=>if c∈ns then(noX (Fh (ρ.set i (some (.loc S.length))) (S++[.ins c fs]))).bind (endF i)else .no
 |.no=>.no
end M
end L2
namespace Srt
open PySem PyProof.Rows
section
variable{M:Model}{A:Around}{E:VP}{s:Shared}{σ:Type}
def zUZ{x:String}{Q:Unit->σ->Prop}{st:σ}(h:Q () st):wpS M A E s (liftM (rule x):StateT σ Sem Unit) Q st:=wpS_lift (wpAny_rule ⟨rfl,h⟩)
end
end Srt
set_option autoImplicit false
namespace Srt
variable{β:Type}{le:β->β->Prop}
structure Two(le:β->β->Prop)(T out xs ys:List β):Prop where
 hx:(out++xs).Pairwise le
 hy:(out++ys).Pairwise le
 pm:(out++(xs++ys)).Perm T
structure TwoR(le:β->β->Prop)(T xs ys R:List β):Prop where
 hx:(xs++R).Pairwise le
 hy:(ys++R).Pairwise le
 pm:(xs++ys++R).Perm T
end Srt
set_option autoImplicit false
namespace Srt
open PySem PyProof.Rows
abbrev SM:=StateT SortSt Sem
abbrev G3:=Option (Option Nat)×Nat×Nat
end Srt
set_option autoImplicit false
namespace Srt
open PySem PyProof.Rows
section
variable{M:Model}{A:Around}{E:VP}{s:Shared}
structure Cmp(M:Model)(A:Around)(E:VP)(s:Shared)(kd:SortKind)(D:Keyed->Prop)(lt:Keyed->Keyed->Bool):Prop where
 go: ∀x y,D x->D y-> ∀st:SortSt,kindOf st=kd-> ∀Q:Option Bool->SortSt->Prop,Q (some (lt x y)) st->wpS M A E s (lt' x y) Q st
 tr: ∀x y z,lt y x=false->lt z y=false->lt z x=false
 as: ∀x y,lt x y=true->lt y x=false
variable{kd:SortKind}{D:Keyed->Prop}{lt:Keyed->Keyed->Bool}
abbrev Le(lt:Keyed->Keyed->Bool)(x y:Keyed):Prop:=lt y x=false
def Cmp.rf(C:Cmp M A E s kd D lt)(x:Keyed):Le lt x x:=by
 show lt x x=false
 cases h:lt x x with
 |false=>rfl
 |true=>exact absurd h (by rw [C.as x x h];simp)
def SL(lt:Keyed->Keyed->Bool)(l:List Keyed)(b n:Nat):Prop:= ∀i j x y,i<=j->j<n->l[b+i]? =some x->l[b+j]? =some y->lt y x=false
def yAU{st:SortSt}{v:Array Keyed}{i:Nat}{Q:Keyed->SortSt->Prop}{x:Keyed}(e:v.toList[i]? =some x)(h:Q x st):wpS M A E s (elem' v i) Q st:=by
 rw [elem'_eq];have:v[i]? =some x:=by rw [<-Array.getElem?_toList];exact e
 rw [this];exact wpS_pure h
def yOE{v:Array Keyed}{i:Nat}(h:i<v.size): ∃x,v.toList[i]? =some x:=⟨v.toList[i]'(by simpa using h),gE0 _⟩
end
end Srt
set_option autoImplicit false
namespace Srt
open PySem PyProof.Rows
abbrev V:=Array Keyed
abbrev L6:=Option V×V×Nat×Nat×Nat×Nat
abbrev L7:=Option V×V×Nat×Nat×Nat×Nat×Nat
abbrev dnL(a b o:V)(i j:Nat):V:=o++a.extract i a.size++b.extract j b.size
abbrev laL(a b o:V)(i j:Nat):V:=o++b.extract j b.size++a.extract i a.size
def one1(a b:V)(g:Nat)(c:L6):SM (ForInStep L6):=
 elem' b c.2.2.2.1 >>= λy=>elem' a c.2.2.1 >>= λx=>lt' y x >>= λr=>match r with
  |some q=>if q=true then elem' b c.2.2.2.1 >>= λy=>
     if(c.2.2.2.1+1==b.size)=true then pure (.done (some (dnL a b (c.2.1.push y) c.2.2.1 (c.2.2.2.1+1)),c.2.1.push y,c.2.2.1,c.2.2.2.1+1,0,c.2.2.2.2.2+1))
     else if c.2.2.2.2.2+1>=g then pure (.done (none,c.2.1.push y,c.2.2.1,c.2.2.2.1+1,0,c.2.2.2.2.2+1))
     else pure (.yield (none,c.2.1.push y,c.2.2.1,c.2.2.2.1+1,0,c.2.2.2.2.2+1))
    else elem' a c.2.2.1 >>= λx=>
     if(c.2.2.1+1+1==a.size)=true then pure (.done (some (laL a b (c.2.1.push x) (c.2.2.1+1) c.2.2.2.1),c.2.1.push x,c.2.2.1+1,c.2.2.2.1,c.2.2.2.2.1+1,0))
     else if c.2.2.2.2.1+1>=g then pure (.done (none,c.2.1.push x,c.2.2.1+1,c.2.2.2.1,c.2.2.2.2.1+1,0))
     else pure (.yield (none,c.2.1.push x,c.2.2.1+1,c.2.2.2.1,c.2.2.2.2.1+1,0))
  |_=>pure (.done (some (dnL a b c.2.1 c.2.2.1 c.2.2.2.1),c.2.1,c.2.2.1,c.2.2.2.1,c.2.2.2.2.1,c.2.2.2.2.2))
def in1(a b:V)(t g:Nat)(c:L6):SM L6:=forIn [0:t] c λ_ c=>one1 a b g c
end Srt
set_option autoImplicit false
namespace Srt
open PySem PyProof.Rows
def Sg(st st':SortSt):Prop:= ∃g,st'=SortSt.mk' (kindOf st) (arrOf st) (pendingOf st) g (failedOf st)
theorem Sg.kind{st st':SortSt}(h:Sg st st'):kindOf st'=kindOf st:=by obtain⟨g,rfl⟩:=h;rfl
section
variable{M:Model}{A:Around}{E:VP}{s:Shared}{kd:SortKind}{D:Keyed->Prop}{lt:Keyed->Keyed->Bool}{a b:V}
abbrev TwoA(lt:Keyed->Keyed->Bool)(a b o:V)(i j:Nat):Prop:=Two (Le lt) (a.toList++b.toList) o.toList (a.toList.drop i) (b.toList.drop j)
def FinA(lt:Keyed->Keyed->Bool)(a b r:V):Prop:=r.toList.Pairwise (Le lt)/\r.toList.Perm (a.toList++b.toList)
def TwoA.len{o:V}{i j:Nat}(h:TwoA lt a b o i j):o.size+((a.size - i)+(b.size - j))=a.size+b.size:=by have:=h.pm.length_eq;simpa [lA,length_drop]using this
def I1(lt:Keyed->Keyed->Bool)(a b o:V)(i j:Nat):Prop:=i+1<a.size/\j<b.size/\TwoA lt a b o i j
def N7(lt:Keyed->Keyed->Bool)(a b:V)(n:Nat)(c:L7):Prop:= ∃o i j g p q,c=(none,o,i,j,g,p,q)/\I1 lt a b o i j/\n<=o.size
def P7(lt:Keyed->Keyed->Bool)(a b:V)(n:Nat)(c:L7):Prop:=(∃r e,c=(some r,e)/\FinA lt a b r)\/N7 lt a b n c
end
end Srt
set_option autoImplicit false
namespace Srt
open PySem PyProof.Rows
abbrev H5:=Option V×Nat×Nat×V×Nat
abbrev H6:=Option V×Nat×Nat×V×Nat×Nat
abbrev H7:=Option V×Nat×Nat×V×Nat×Nat×Nat
section
variable{M:Model}{A:Around}{E:VP}{s:Shared}{kd:SortKind}{D:Keyed->Prop}{lt:Keyed->Keyed->Bool}{a b:V}
abbrev TwoH(lt:Keyed->Keyed->Bool)(a b o:V)(i j:Nat):Prop:=TwoR (Le lt) (a.toList++b.toList) (a.toList.take i) (b.toList.take j) o.toList.reverse
def TwoH.len{o:V}{i j:Nat}(h:TwoH lt a b o i j)(h1:i<=a.size)(h2:j<=b.size):o.size+(i+j)=a.size+b.size:=by have:=h.pm.length_eq;simp only [lA,lT,List.length_reverse,Array.length_toList]at this;omega
def J1(lt:Keyed->Keyed->Bool)(a b o:V)(i j:Nat):Prop:=1<=i/\i<=a.size/\2<=j/\j<=b.size/\TwoH lt a b o i j
def R6(lt:Keyed->Keyed->Bool)(a b:V)(n:Nat)(c:H6):Prop:= ∃i j o p q,c=(none,i,j,o,p,q)/\J1 lt a b o i j/\n<=o.size
def S6(lt:Keyed->Keyed->Bool)(a b:V)(n:Nat)(c:H6):Prop:=(∃r e,c=(some r,e)/\FinA lt a b r)\/R6 lt a b n c
end
end Srt
set_option autoImplicit false
namespace Srt
open PySem PyProof.Rows
abbrev C2:=Option (Option Nat)×Nat
abbrev C3:=Option (Option Nat)×Nat×Nat
def ascL(lo a n:Nat):SM C2:=forIn [a:n] ((none,a):C2) λ_ c=>ltAt' (lo+c.2) (lo+c.2 - 1) >>= λo=>match o with
 |some q=>if q=true then pure (.done (none,c.2))else pure (.yield (none,c.2+1))
 |_=>pure (.done (some none,c.2))
def tl3(lo m n:Nat):SM (Option Nat):=reverseSlice' lo (lo+m) >>= λ_=>ascL lo m n >>= λc=>match c.1 with
 |some r=>pure r
 |none=>pure (some c.2)
def dscL(lo a n:Nat):SM C3:=forIn [a:n] ((none,a,0):C3) λ_ c=>ltAt' (lo+c.2.1) (lo+c.2.1 - 1) >>= λo=>match o with
 |some q=>if q=true then
    if c.2.2>0 then reverseSlice' (lo+c.2.1 - (c.2.2+1)) (lo+c.2.1) >>= λ_=>pure (.yield (none,c.2.1+1,0))else pure (.yield (none,c.2.1+1,0))
   else ltAt' (lo+c.2.1 - 1) (lo+c.2.1) >>= λo=>match o with
    |some q=>if q=true then pure (.done (none,c.2.1,c.2.2))else pure (.yield (none,c.2.1+1,c.2.2+1))
    |_=>pure (.done (some none,c.2.1,c.2.2))
 |_=>pure (.done (some none,c.2.1,c.2.2))
def dscP(lo m n:Nat):SM (Option Nat):=liftM (rule "list.sort.descending-run") >>= λ_=>dscL lo (m+1) n >>= λc=>match c.1 with
 |some r=>pure r
 |none=>if c.2.2>0 then reverseSlice' (lo+c.2.1 - (c.2.2+1)) (lo+c.2.1) >>= λ_=>tl3 lo c.2.1 n else tl3 lo c.2.1 n
def cntR(lo n:Nat):SM (Option Nat):=ascL lo 1 n >>= λc=>match c.1 with
 |some r=>pure r
 |none=>if(c.2==n)=true then pure (some c.2)else if c.2>1 then ltAt' lo (lo+c.2 - 1) >>= λo=>(match o with
    |some q=>if q=true then pure (some c.2)else reverseSlice' lo (lo+c.2) >>= λ_=>dscP lo c.2 n
    |_=>pure none)
   else dscP lo c.2 n
theorem zPA(lo n:Nat):countRun' lo n=cntR lo n:=by kernel_rfl
def binI(lo k:Nat):SM (Option Bool×Nat×Nat):=forIn [0:k] ((none,0,k):Option Bool×Nat×Nat) λ_ c=>
 if c.2.1>=c.2.2 then pure (.done (none,c.2.1,c.2.2))else ltAt' (lo+k) (lo+(c.2.1+c.2.2) / 2) >>= λo=>match o with
  |some q=>if q=true then pure (.yield (none,c.2.1,(c.2.1+c.2.2) / 2))else pure (.yield (none,(c.2.1+c.2.2) / 2+1,c.2.2))
  |_=>pure (.done (some false,c.2.1,c.2.2))
def binS(lo n ok:Nat):SM Bool:=(forIn [max ok 1:n] ((none,()):Option Bool×Unit) λk _=>binI lo k >>= λc=>match c.1 with
  |some r=>pure (.done (some r,()))
  |none=>moveDown' (lo+k) (lo+c.2.1) >>= λ_=>pure (.yield (none,()))) >>= λc=>match c.1 with
 |some r=>pure r
 |none=>pure true
theorem zKX(lo n ok:Nat):binarySort' lo n ok=binS lo n ok:=by kernel_rfl
def Kx(d:Keyed)(v:V)(i:Nat):Keyed:=(v[i]?).getD d
def zEC{d:Keyed}{v u:V}{i j:Nat}(h:v[i]? =u[j]?):Kx d v i=Kx d u j:=by unfold Kx;rw [h]
def zJI{d:Keyed}{v:V}{i j:Nat}(hj:j<=v.size)(k:Nat):Kx d (mirror v i j ((j - i) / 2)) k=if i<=k/\k<j then Kx d v (i+j - 1 - k)else Kx d v k:=by
 have e:=getElem?_mirror_all (i:=i) hj k;by_cases h1:i<=k/\k<j
 ·rw [iP h1]at e ⊢; exact zEC e
 ·rw [iN h1]at e ⊢; exact zEC e
def zQK{d:Keyed}{v:V}{src m:Nat}(hs:src<v.size)(hm:m<=src)(k:Nat):
  Kx d (bubble v src m) k=if k=src - m then Kx d v src else if src - m<k/\k<=src then Kx d v (k - 1)else Kx d v k:=by
 have e:=getElem?_bubble hs m hm k;by_cases h1:k=src - m
 ·rw [iP h1]at e ⊢; exact zEC e
 ·rw [iN h1]at e ⊢;by_cases h2:src - m<k/\k<=src
  ·rw [iP h2]at e ⊢; exact zEC e
  ·rw [iN h2]at e ⊢; exact zEC e
structure SB(a₀:V)(kd:SortKind)(pd:Array (Nat×Nat×Nat))(f:V)(lo:Nat)(st:SortSt):Prop where
 pm:(arrOf st).Perm a₀
 kind:kindOf st=kd
 fl:failedOf st=none
 pd:pendingOf st=pd
 fx: ∀i,i<lo->(arrOf st)[i]? =f[i]?
section
variable{M:Model}{A:Around}{E:VP}{s:Shared}{kd:SortKind}{D:Keyed->Prop}{lt:Keyed->Keyed->Bool}{a₀ f:V}{pd:Array (Nat×Nat×Nat)}{lo:Nat}{st:SortSt}{d:Keyed}
def SB.size(h:SB a₀ kd pd f lo st):(arrOf st).size=a₀.size:=h.pm.size_eq
def SB.rev(h:SB a₀ kd pd f lo st){i j:Nat}(hi:lo<=i)(hj:j<=a₀.size):SB a₀ kd pd f lo (setArr st (mirror (arrOf st) i j ((j - i) / 2))):=
 ⟨(mirror_perm _ _ _ _).trans h.pm,h.kind,h.fl,h.pd,λk hk=>by show(mirror (arrOf st) i j ((j - i) / 2))[k]? =_;rw [getElem?_mirror_all (by rw [h.size];exact hj),iN (by omega)];exact h.fx k hk⟩
def SB.bub(h:SB a₀ kd pd f lo st){i m:Nat}(hi:lo+m<=i)(hj:i<a₀.size):SB a₀ kd pd f lo (setArr st (bubble (arrOf st) i m)):=
 ⟨(bubble_perm _ _ _).trans h.pm,h.kind,h.fl,h.pd,λk hk=>by show(bubble (arrOf st) i m)[k]? =_;rw [getElem?_bubble (by rw [h.size];exact hj) _ (by omega),iN (by omega),iN (by omega)];exact h.fx k hk⟩
def zHW(C:Cmp M A E s kd D lt)(h:SB a₀ kd pd f lo st)(hD: ∀x,x∈a₀.toList->D x){i j:Nat}(hi:i<a₀.size)(hj:j<a₀.size){Q:Option Bool->SortSt->Prop}
  (hq:Q (some (lt (Kx d (arrOf st) i) (Kx d (arrOf st) j))) st):wpS M A E s (ltAt' i j) Q st:=by
 obtain⟨x,ex⟩:=yOE (v:=arrOf st) (i:=i) (by rw [h.size];exact hi);obtain⟨y,ey⟩:=yOE (v:=arrOf st) (i:=j) (by rw [h.size];exact hj);have mx:x∈a₀.toList:=(Array.perm_iff_toList_perm.mp h.pm).mem_iff.mp (mem_of_getElem? ex);have my:y∈a₀.toList:=(Array.perm_iff_toList_perm.mp h.pm).mem_iff.mp (mem_of_getElem? ey);have e1:Kx d (arrOf st) i=x:=by unfold Kx;rw [<-Array.getElem?_toList,ex];rfl
 have e2:Kx d (arrOf st) j=y:=by unfold Kx;rw [<-Array.getElem?_toList,ey];rfl
 rw [e1,e2]at hq;rw [ltAt'_eq];refine wpS_bind (wpS_get ?_);exact wpS_bind (yAU ex (wpS_bind (yAU ey (C.go x y (hD x mx) (hD y my) st h.kind _ hq))))
def zSI{i j:Nat}{Q:Unit->SortSt->Prop}(h:Q () (setArr st (mirror (arrOf st) i j ((j - i) / 2)))):wpS M A E s (reverseSlice' i j) Q st:=by rw [reverseSlice'_eq];exact wpS_modify h
def Up(lt:Keyed->Keyed->Bool)(d:Keyed)(v:V)(lo n:Nat):Prop:= ∀i j,i<=j->j<n->Le lt (Kx d v (lo+i)) (Kx d v (lo+j))
def Dn(lt:Keyed->Keyed->Bool)(d:Keyed)(v:V)(lo n:Nat):Prop:= ∀i j,i<=j->j<n->Le lt (Kx d v (lo+j)) (Kx d v (lo+i))
def Up.step(C:Cmp M A E s kd D lt){v:V}{x:Nat}(hs:Up lt d v lo x)(hx:1<=x)(hl:lt (Kx d v (lo+x)) (Kx d v (lo+x - 1))=false):Up lt d v lo (x+1):=by
 intro i j hij hj;by_cases hjx:j<x
 ·exact hs i j hij hjx
 ·have hj':j=x:=by omega
  subst hj';by_cases hi':i=j
  ·subst hi';exact C.rf _
  ·have:=hs i (j - 1) (by omega) (by omega);rw [show lo+(j - 1)=lo+j - 1 by omega]at this;exact C.tr _ _ _ this hl
def yAV(C:Cmp M A E s kd D lt)(hD: ∀x,x∈a₀.toList->D x)(h:SB a₀ kd pd f lo st){a n:Nat}(hn:lo+n<=a₀.size)(ha:1<=a)(han:a<=n)(hs:Up lt d (arrOf st) lo a){Q:C2->SortSt->Prop}
  (hq: ∀m,a<=m->m<=n->Up lt d (arrOf st) lo m->(m=n\/lt (Kx d (arrOf st) (lo+m)) (Kx d (arrOf st) (lo+m - 1))=true)->Q (none,m) st):wpS M A E s (ascL lo a n) Q st:=by
 unfold ascL;refine wpS_forRange (I:=λx c st'=>st'=st/\c=(none,x)/\Up lt d (arrOf st) lo x) ?_ ?_ ⟨rfl,rfl,hs⟩
 ·rintro x c st' hax hxn ⟨rfl,rfl,hs'⟩;dsimp only;refine wpS_bind (zHW (d:=d) C h hD (by omega) (by omega) ?_)
  cases hl:lt (Kx d (arrOf st') (lo+x)) (Kx d (arrOf st') (lo+x - 1))with
  |true=>exact wpS_pure (hq x hax (by omega) hs' (.inr hl))
  |false=>exact wpS_pure ⟨rfl,rfl,hs'.step C (by omega) hl⟩
 ·rintro c st' ⟨rfl,rfl,hs'⟩;rw [show max a n=n by omega]at hs' ⊢;exact hq n han (le_refl _) hs' (.inl rfl)
def Up.of_mirror(h:SB a₀ kd pd f lo st){m:Nat}(hm:lo+m<=a₀.size)(hs:Dn lt d (arrOf st) lo m):Up lt d (mirror (arrOf st) lo (lo+m) ((lo+m - lo) / 2)) lo m:=by intro i j hij hj;rw [zJI (by rw [h.size];exact hm),zJI (by rw [h.size];exact hm),iP (by omega),iP (by omega)];have:=hs (m - 1 - j) (m - 1 - i) (by omega) (by omega);rw [show lo+(m - 1 - j)=lo+(lo+m) - 1 - (lo+j) by omega,show lo+(m - 1 - i)=lo+(lo+m) - 1 - (lo+i) by omega]at this;exact this
def yHJ(C:Cmp M A E s kd D lt)(hD: ∀x,x∈a₀.toList->D x)(h:SB a₀ kd pd f lo st){m n:Nat}(hn:lo+n<=a₀.size)(h1:1<=m)(hm:m<=n)(hs:Dn lt d (arrOf st) lo m){Q:Option Nat->SortSt->Prop}
  (hq: ∀m st',SB a₀ kd pd f lo st'->1<=m->m<=n->Up lt d (arrOf st') lo m->Q (some m) st'):wpS M A E s (tl3 lo m n) Q st:=by
 unfold tl3;refine wpS_bind (zSI ?_);have h':=h.rev (i:=lo) (j:=lo+m) (le_refl _) (by omega);exact wpS_bind (yAV C hD h' hn h1 hm (Up.of_mirror h (by omega) hs) λk k1 k2 k3 _=>wpS_pure (hq k _ h' (by omega) k2 k3))
def Eqs(lt:Keyed->Keyed->Bool)(d:Keyed)(v:V)(i j:Nat):Prop:= ∀k l,i<=k->k<j->i<=l->l<j->Le lt (Kx d v k) (Kx d v l)
def Dn.mirror(C:Cmp M A E s kd D lt)(h:SB a₀ kd pd f lo st){i j n:Nat}(hj:j<=a₀.size)(he:Eqs lt d (arrOf st) i j)(hs:Dn lt d (arrOf st) lo n):Dn lt d (mirror (arrOf st) i j ((j - i) / 2)) lo n:=by
 have key: ∀k,Le lt (Kx d (PyProof.Rows.mirror (arrOf st) i j ((j - i) / 2)) k) (Kx d (arrOf st) k)/\Le lt (Kx d (arrOf st) k) (Kx d (PyProof.Rows.mirror (arrOf st) i j ((j - i) / 2)) k):=by
  intro k;rw [zJI (by rw [h.size];exact hj)];split
  ·exact⟨he _ _ (by omega) (by omega) (by omega) (by omega),he _ _ (by omega) (by omega) (by omega) (by omega)⟩
  ·exact⟨C.rf _,C.rf _⟩
 intro p q hpq hq;exact C.tr _ _ _ (key _).1 (C.tr _ _ _ (hs p q hpq hq) (key _).2)
def yLQ(C:Cmp M A E s kd D lt)(hD: ∀x,x∈a₀.toList->D x)(h:SB a₀ kd pd f lo st){a n:Nat}(hn:lo+n<=a₀.size)(h1:1<=a)(han:a<=n)(hs:Dn lt d (arrOf st) lo a){Q:C3->SortSt->Prop}
  (hq: ∀m e st',SB a₀ kd pd f lo st'->a<=m->m<=n->Dn lt d (arrOf st') lo m->e+1<=m->Eqs lt d (arrOf st') (lo+m - (e+1)) (lo+m)->Q (none,m,e) st'):wpS M A E s (dscL lo a n) Q st:=by
 unfold dscL
 refine wpS_forRange (I:=λx c st'=> ∃e,c=(none,x,e)/\SB a₀ kd pd f lo st'/\Dn lt d (arrOf st') lo x/\e+1<=x/\Eqs lt d (arrOf st') (lo+x - (e+1)) (lo+x)) ?_ ?_
  ⟨0,rfl,h,hs,by omega,λk l h1 h2 h3 h4=>by rw [show k=l by omega];exact C.rf _⟩
 ·rintro x c st' hax hxn ⟨e,rfl,hB,hs',hq',he⟩;dsimp only;have one: ∀v:V,Eqs lt d v (lo+(x+1) - (0+1)) (lo+(x+1)):=λv k l h1 h2 h3 h4=>by rw [show k=l by omega];exact C.rf _
  refine wpS_bind (zHW (d:=d) C hB hD (by omega) (by omega) ?_)
  cases hl:lt (Kx d (arrOf st') (lo+x)) (Kx d (arrOf st') (lo+x - 1))with
  |true=>
   have nx:Dn lt d (arrOf st') lo (x+1):=by
    intro i j hij hj;by_cases hjx:j<x
    ·exact hs' i j hij hjx
    ·have hj':j=x:=by omega
     subst hj';by_cases hi':i=j
     ·subst hi';exact C.rf _
     ·have:=hs' i (j - 1) (by omega) (by omega);rw [show lo+(j - 1)=lo+j - 1 by omega]at this;exact C.tr _ _ _ (C.as _ _ hl) this
   dsimp only;rw [iP rfl];by_cases ce:e>0
   ·rw [iP ce];refine wpS_bind (zSI (wpS_pure ⟨0,rfl,hB.rev (by omega) (by omega),nx.mirror C hB (by omega) he,by omega,one _⟩))
   ·rw [iN ce];exact wpS_pure ⟨0,rfl,hB,nx,by omega,one _⟩
  |false=>
   dsimp only;rw [iN (by simp)];refine wpS_bind (zHW (d:=d) C hB hD (by omega) (by omega) ?_)
   cases hr:lt (Kx d (arrOf st') (lo+x - 1)) (Kx d (arrOf st') (lo+x))with
   |true=>exact wpS_pure (hq x e st' hB hax (by omega) hs' hq' he)
   |false=>
    refine wpS_pure ⟨e+1,rfl,hB,λi j hij hj=>?_,by omega,λk l k1 k2 k3 k4=>?_⟩
    ·by_cases hjx:j<x
     ·exact hs' i j hij hjx
     ·have hj':j=x:=by omega
      subst hj';by_cases hi':i=j
      ·subst hi';exact C.rf _
      ·have:=hs' i (j - 1) (by omega) (by omega);rw [show lo+(j - 1)=lo+j - 1 by omega]at this;exact C.tr _ _ _ hr this
    ·by_cases ck:k=lo+x
     ·subst ck;by_cases cl:l=lo+x
      ·subst cl;exact C.rf _
      ·exact C.tr _ _ _ hr (he _ _ (by omega) (by omega) (by omega) (by omega))
     ·by_cases cl:l=lo+x
      ·subst cl;exact C.tr _ _ _ (he k (lo+x - 1) (by omega) (by omega) (by omega) (by omega)) hl
      ·exact he _ _ (by omega) (by omega) (by omega) (by omega)
 ·rintro c st' ⟨e,rfl,hB,hs',hq',he⟩;rw [show max a n=n by omega]at hs' hq' he ⊢;exact hq n e st' hB han (le_refl _) hs' hq' he
def yAW(C:Cmp M A E s kd D lt)(hD: ∀x,x∈a₀.toList->D x)(h:SB a₀ kd pd f lo st){m n:Nat}(hn:lo+n<=a₀.size)(hm:m+1<=n)(hs:Dn lt d (arrOf st) lo (m+1)){Q:Option Nat->SortSt->Prop}
  (hq: ∀m st',SB a₀ kd pd f lo st'->1<=m->m<=n->Up lt d (arrOf st') lo m->Q (some m) st'):wpS M A E s (dscP lo m n) Q st:=by
 unfold dscP;refine wpS_bind (zUZ ?_);refine wpS_bind (yLQ C hD h hn (by omega) hm hs λk e st' hB k1 k2 k3 k4 k5=>?_);dsimp only;by_cases ce:e>0
 ·rw [iP ce];exact wpS_bind (zSI (yHJ C hD (hB.rev (by omega) (by omega)) hn (by omega) k2 (k3.mirror C hB (by omega) k5) hq))
 ·rw [iN ce];exact yHJ C hD hB hn (by omega) k2 k3 hq
def yLR(C:Cmp M A E s kd D lt)(hD: ∀x,x∈a₀.toList->D x)(h:SB a₀ kd pd f lo st){n:Nat}(hn:lo+n<=a₀.size)(h1:1<=n){Q:Option Nat->SortSt->Prop}
  (hq: ∀m st',SB a₀ kd pd f lo st'->1<=m->m<=n->Up lt d (arrOf st') lo m->Q (some m) st'):wpS M A E s (countRun' lo n) Q st:=by
 rw [zPA];unfold cntR;refine wpS_bind (yAV (d:=d) C hD h hn (le_refl 1) h1 (λi j hij hj=>by rw [show i=j by omega];exact C.rf _) λm m1 m2 hs hor=>?_);dsimp only;by_cases cm:m=n
 ·rw [iP (by simpa using cm)];exact wpS_pure (hq m st h m1 m2 hs)
 ·rw [iN (by simpa using cm)];have hlt:=hor.resolve_left cm;by_cases cg:m>1
  ·rw [iP cg];refine wpS_bind (zHW (d:=d) C h hD (by omega) (by omega) ?_)
   cases hr:lt (Kx d (arrOf st) lo) (Kx d (arrOf st) (lo+m - 1))with
   |true=>exact wpS_pure (hq m st h m1 m2 hs)
   |false=>
    have all:Eqs lt d (arrOf st) lo (lo+m):=by intro k l k1 k2 k3 k4;have a1:=hs 0 (l - lo) (by omega) (by omega);have a2:=hs (k - lo) (m - 1) (by omega) (by omega);rw [show lo+0=lo by omega,show lo+(l - lo)=l by omega]at a1;rw [show lo+(k - lo)=k by omega,show lo+(m - 1)=lo+m - 1 by omega]at a2;exact C.tr _ _ _ a2 (C.tr _ _ _ hr a1)
    have dn:Dn lt d (arrOf st) lo (m+1):=by
     intro i j hij hj;by_cases hjm:j<m
     ·exact all _ _ (by omega) (by omega) (by omega) (by omega)
     ·have hj':j=m:=by omega
      subst hj';by_cases hi':i=j
      ·subst hi';exact C.rf _
      ·exact C.tr _ _ _ (C.as _ _ hlt) (all _ _ (by omega) (by omega) (by omega) (by omega))
    dsimp only;rw [iN (by simp)];exact wpS_bind (zSI (yAW C hD (h.rev (le_refl _) (by omega)) hn (by omega) (dn.mirror C h (by omega) all) hq))
  ·rw [iN cg];have:m=1:=by omega
   subst this;refine yAW C hD h hn (by omega) (λi j hij hj=>?_) hq;by_cases hi':i=j
   ·subst hi';exact C.rf _
   ·rw [show i=0 by omega,show j=1 by omega];exact C.as _ _ hlt
def yLS(C:Cmp M A E s kd D lt)(hD: ∀x,x∈a₀.toList->D x)(h:SB a₀ kd pd f lo st){n ok:Nat}(hn:lo+n<=a₀.size)(hok:ok<=n)(hs:Up lt d (arrOf st) lo ok){Q:Bool->SortSt->Prop}
  (hq: ∀st',SB a₀ kd pd f lo st'->Up lt d (arrOf st') lo n->Q true st'):wpS M A E s (binarySort' lo n ok) Q st:=by
 rw [zKX];unfold binS
 refine wpS_bind (wpS_mono (wpS_forRange (I:=λk c st'=>c=(none,())/\SB a₀ kd pd f lo st'/\Up lt d (arrOf st') lo (min k n))
  (Q:=λc st'=>c=(none,())/\SB a₀ kd pd f lo st'/\Up lt d (arrOf st') lo n) ?_ ?_ ?_) ?_)
 ·rintro k c st' hak hkn ⟨rfl,hB,hs'⟩;rw [show min k n=k by omega]at hs';unfold binI
  refine wpS_bind (wpS_mono (wpS_forRange (I:=λx c st''=>st''=st'/\ ∃l r,c=(none,l,r)/\l<=r/\r<=k/\r - l<=k - x/\
    (∀i,i<l->Le lt (Kx d (arrOf st') (lo+i)) (Kx d (arrOf st') (lo+k)))/\(∀i,r<=i->i<k->Le lt (Kx d (arrOf st') (lo+k)) (Kx d (arrOf st') (lo+i))))
   (Q:=λc st''=>st''=st'/\ ∃l r,c=(none,l,r)/\l<=k/\
    (∀i,i<l->Le lt (Kx d (arrOf st') (lo+i)) (Kx d (arrOf st') (lo+k)))/\(∀i,l<=i->i<k->Le lt (Kx d (arrOf st') (lo+k)) (Kx d (arrOf st') (lo+i)))) ?_ ?_ ?_) ?_)
  ·rintro x c st'' _ hxk ⟨rfl,l,r,rfl,hlr,hrk,hm,hlo,hhi⟩;dsimp only;by_cases hge:l>=r
   ·rw [iP hge];have:l=r:=by omega
    subst this;exact wpS_pure ⟨rfl,l,l,rfl,hrk,hlo,hhi⟩
   ·rw [iN hge];refine wpS_bind (zHW (d:=d) C hB hD (by omega) (by omega) ?_)
    cases hl:lt (Kx d (arrOf st'') (lo+k)) (Kx d (arrOf st'') (lo+(l+r) / 2))with
    |true=>exact wpS_pure ⟨rfl,l,(l+r) / 2,rfl,by omega,by omega,by omega,hlo,λi h1 h2=>C.tr _ _ _ (C.as _ _ hl) (hs' _ _ h1 h2)⟩
    |false=>exact wpS_pure ⟨rfl,(l+r) / 2+1,r,rfl,by omega,by omega,by omega,λi h1=>C.tr _ _ _ (hs' i ((l+r) / 2) (by omega) (by omega)) hl,hhi⟩
  ·rintro c st'' ⟨rfl,l,r,rfl,hlr,hrk,hm,hlo,hhi⟩;have:l=r:=by omega
   subst this;exact⟨rfl,l,l,rfl,hrk,hlo,hhi⟩
  ·exact⟨rfl,0,k,rfl,by omega,by omega,by omega,λi hi=>by omega,λi h1 h2=>by omega⟩
  ·rintro c st'' ⟨rfl,l,r,rfl,hlk,hlo,hhi⟩;dsimp only;rw [moveDown'_eq];have hks:lo+k<(arrOf st'').size:=by rw [hB.size];omega
   refine wpS_bind (wpS_modify (wpS_pure ⟨rfl,?_,?_⟩))
   ·exact hB.bub (by omega) (by omega)
   ·rw [show min (k+1) n=k+1 by omega];intro i j hij hj;show Le lt (Kx d (bubble (arrOf st'') (lo+k) (lo+k - (lo+l))) (lo+i)) (Kx d (bubble (arrOf st'') (lo+k) (lo+k - (lo+l))) (lo+j));rw [zQK hks (by omega),zQK hks (by omega),show lo+k - (lo+k - (lo+l))=lo+l by omega];have sh: ∀i,1<=i->lo+i - 1=lo+(i - 1):=λi hi=>by omega
    repeat' split
    all_goals first
     |(exfalso;omega)
     |exact C.rf _
     |exact hlo _ (by omega)
     |(rw [sh _ (by omega)];exact hhi _ (by omega) (by omega))
     |exact hhi _ (by omega) (by omega)
     |exact hs' _ _ (by omega) (by omega)
     |(rw [sh i (by omega)];exact hs' _ _ (by omega) (by omega))
     |(rw [sh j (by omega)];exact hs' _ _ (by omega) (by omega))
     |(rw [sh i (by omega),sh j (by omega)];exact hs' _ _ (by omega) (by omega))
     |(rw [sh i (by omega)];exact hlo _ (by omega))
 ·rintro c st' ⟨hc,hB,hs'⟩;refine⟨hc,hB,?_⟩;rwa [show min (max (max ok 1) n) n=n by omega]at hs'
 ·refine⟨rfl,h,λi j hij hj=>?_⟩;by_cases h1:ok=0
  ·rw [show i=j by omega];exact C.rf _
  ·exact hs i j hij (by omega)
 ·rintro c st' ⟨rfl,hB,hs'⟩;exact wpS_pure (hq st' hB hs')
end
end Srt
set_option autoImplicit false
namespace Srt
open PySem PyProof.Rows
section
variable{M:Model}{A:Around}{E:VP}{s:Shared}{kd:SortKind}{D:Keyed->Prop}{lt:Keyed->Keyed->Bool}{a₀ f:V}{pd:Array (Nat×Nat×Nat)}{lo:Nat}{st:SortSt}{d:Keyed}
def Up.sl{v:V}{n:Nat}(h:Up lt d v lo n):SL lt v.toList lo n:=by
 intro i j x y h1 h2 hx hy;have e1:Kx d v (lo+i)=x:=by unfold Kx;rw [<-Array.getElem?_toList,hx];rfl
 have e2:Kx d v (lo+j)=y:=by unfold Kx;rw [<-Array.getElem?_toList,hy];rfl
 have:=h i j h1 h2;rw [e1,e2]at this;exact this
def SL.pw{l:List Keyed}{n:Nat}(h:SL lt l lo n):((l.drop lo).take n).Pairwise (Le lt):=by rw [List.pairwise_iff_getElem];intro i j hi hj hij;rw [lT,length_drop]at hi hj;rw [List.getElem_take,List.getElem_take,List.getElem_drop,List.getElem_drop];exact h i j _ _ (by omega) (by omega) (gE0 _) (gE0 _)
structure Out(a₀:V)(kd:SortKind)(lt:Keyed->Keyed->Bool)(n:Nat)(st:SortSt):Prop where
 pm:(arrOf st).toList.Perm a₀.toList
 kind:kindOf st=kd
 fl:failedOf st=none
 pd: ∃w,pendingOf st=#[(0,n,w)]
 so:(arrOf st).toList.Pairwise (Le lt)
end
end Srt
set_option autoImplicit false
namespace Srt
open PySem PyProof.Rows
abbrev U2:=Option Unit×Nat
abbrev U1:=Option Unit×Unit
def psh(lo n:Nat):SM (ForInStep U2):=(modify λs=>setPending s ((pendingOf s).push (lo,n,0))) >>= λ_=>pure (.yield (none,lo+n))
def nxt(N lo n:Nat):SM (ForInStep U2):=get >>= λst=>match (pendingOf st).back? with
 |some (a,b,_)=>(forIn [0:N] ((none,()):U1) λ_ _=>get >>= λst=>(match (if(pendingOf st).size>1 then(pendingOf st)[(pendingOf st).size - 2]? else none)with
   |some (_,_,z)=>if z<=power' N (2 * a+b) (2 * a+b+b+n) N then pure (.done (none,()))else mergeAt' ((pendingOf st).size - 2) >>= λq=>if(!q)=true then pure (.done (some (),()))else pure (.yield (none,()))
   |_=>pure (.done (none,())))) >>= λc=>(match c.1 with
  |some r=>pure (.done (some r,lo))
  |none=>(modify λs=>setPending s ((pendingOf s).modify ((pendingOf s).size - 1) λ(u,v,_)=>(u,v,power' N (2 * a+b) (2 * a+b+b+n) N))) >>= λ_=>psh lo n)
 |_=>psh lo n
def runs(N r:Nat):SM U2:=forIn [0:N] ((none,0):U2) λ_ c=>if c.2>=N then pure (.done (none,c.2))else countRun' c.2 (N - c.2) >>= λo=>match o with
 |some m=>if m<r then liftM (rule "list.sort.binary-insertion") >>= λ_=>binarySort' c.2 (min (N - c.2) r) m >>= λq=>if(!q)=true then pure (.done (some (),c.2))else nxt N c.2 (min (N - c.2) r)
   else nxt N c.2 m
 |_=>pure (.done (some (),c.2))
def colp(N:Nat):SM U1:=forIn [0:N] ((none,()):U1) λ_ _=>get >>= λst=>if(pendingOf st).size<=1 then pure (.done (none,()))else
 mergeAt' (if Option.any (λx=>decide (x<((pendingOf st)[(pendingOf st).size - 2+1]?).elim 0 λx=>x.2.1)) (if(pendingOf st).size - 2>0 then Option.map (λx=>x.2.1) (pendingOf st)[(pendingOf st).size - 2 - 1]? else none)=true
  then(pendingOf st).size - 2 - 1 else(pendingOf st).size - 2) >>= λq=>if(!q)=true then pure (.done (some (),()))else pure (.yield (none,()))
def sRun:SM Unit:=get >>= λst=>runs (arrOf st).size (minRun' (arrOf st).size (arrOf st).size 0) >>= λc=>match c.1 with
 |some r=>pure r
 |none=>colp (arrOf st).size >>= λc=>match c.1 with
  |some r=>pure r
  |none=>pure ()
theorem zPB:sortRuns'=sRun:=by kernel_rfl
section
variable{M:Model}{A:Around}{E:VP}{s:Shared}{kd:SortKind}{D:Keyed->Prop}{lt:Keyed->Keyed->Bool}{a₀ f:V}{pd:Array (Nat×Nat×Nat)}{lo:Nat}{st:SortSt}{d:Keyed}
def SB.free{pd':Array (Nat×Nat×Nat)}(h:SB a₀ kd pd f lo st)(g:V):SB a₀ kd pd' g 0 (setPending st pd'):=⟨h.pm,h.kind,h.fl,rfl,λ_ hi=>by omega⟩
def yRF{lo n:Nat}{Q:ForInStep U2->SortSt->Prop}(h:Q (.yield (none,lo+n)) (setPending st ((pendingOf st).push (lo,n,0)))):wpS M A E s (psh lo n) Q st:=
 wpS_bind (wpS_modify (wpS_pure h))
def Dun(a₀:V)(lt:Keyed->Keyed->Bool)(st:SortSt):Prop:=(arrOf st).toList.Perm a₀.toList/\failedOf st=none/\(arrOf st).toList.Pairwise (Le lt)
end
end Srt
set_option autoImplicit false
namespace Srt
open PySem PyProof.Rows
section
variable{M:Model}{A:Around}{E:VP}{s:Shared}{kd:SortKind}{D:Keyed->Prop}{lt:Keyed->Keyed->Bool}{a₀ f:V}{pd:Array (Nat×Nat×Nat)}{lo:Nat}{st:SortSt}{d:Keyed}
def yHK{N:Nat}(h2:2<=N)(h:N<64):minRun' N N 0=N:=by
 obtain⟨g,rfl⟩: ∃g,N=g+1:=⟨N - 1,by omega⟩
 rw [minRun'_succ,iP h]
def PhS(a₀:V)(kd:SortKind)(lt:Keyed->Keyed->Bool)(st:SortSt):Prop:=SB a₀ kd #[(0,a₀.size,0)] a₀ 0 st/\SL lt (arrOf st).toList 0 a₀.size
def yHL(C:Cmp M A E s kd D lt)(hD: ∀x,x∈a₀.toList->D x)(d:Keyed)(h2:2<=a₀.size)(h:SB a₀ kd #[] a₀ 0 st){Q:U2->SortSt->Prop}
  (hq: ∀st',PhS a₀ kd lt st'->Q (none,a₀.size) st'):wpS M A E s (runs a₀.size a₀.size) Q st:=by
 unfold runs;refine wpS_forRange (I:=λx c st'=>(x=0/\c=(none,0)/\SB a₀ kd #[] a₀ 0 st')\/(1<=x/\c=(none,a₀.size)/\PhS a₀ kd lt st')) ?_ ?_ (.inl ⟨rfl,rfl,h⟩)
 ·rintro x c st' _ hx (⟨rfl,rfl,hB⟩|⟨hx1,rfl,hC⟩)
  ·dsimp only;rw [iN (by omega)]
   have go: ∀st2,SB a₀ kd #[] a₀ 0 st2->Up lt d (arrOf st2) 0 a₀.size-> ∀R:ForInStep U2->SortSt->Prop,(∀st',PhS a₀ kd lt st'->R (.yield (none,a₀.size)) st')->wpS M A E s (nxt a₀.size 0 a₀.size) R st2:=by
    intro st2 hB2 hu R hR;unfold nxt;refine wpS_bind (wpS_get ?_);have hb:(pendingOf st2).back? =none:=by rw [hB2.pd];rfl
    rw [hb];dsimp only;refine yRF ?_;have e:(pendingOf st2).push (0,a₀.size,0)=#[(0,a₀.size,0)]:=by rw [hB2.pd];rfl
    rw [e,zero_add];exact hR _ ⟨hB2.free a₀,hu.sl⟩
   refine wpS_bind (yLR (d:=d) C hD hB (by omega) (by omega) λm st2 hB2 hm1 hm2 hu=>?_);dsimp only;by_cases cm:m<a₀.size
   ·rw [iP cm];refine wpS_bind (zUZ ?_);rw [Nat.sub_zero,Nat.min_self];refine wpS_bind (yLS C hD hB2 (by omega) (by omega) hu λst3 hB3 hu3=>?_);rw [iN (by simp)];exact go st3 hB3 hu3 _ λ_ q=>.inr ⟨by omega,rfl,q⟩
   ·rw [iN cm];obtain rfl:m=a₀.size:=by omega
    exact go st2 hB2 hu _ λ_ q=>.inr ⟨by omega,rfl,q⟩
  ·dsimp only;rw [iP (le_refl _)];exact wpS_pure (hq st' hC)
 ·rintro c st' (⟨hx,_⟩|⟨_,rfl,hC⟩)
  ·omega
  ·exact hq st' hC
def yHM(h2:2<=a₀.size)(h:PhS a₀ kd lt st){Q:U1->SortSt->Prop}(hq: ∀st',Dun a₀ lt st'->Q (none,()) st'):wpS M A E s (colp a₀.size) Q st:=by
 have hd:Dun a₀ lt st:=⟨Array.perm_iff_toList_perm.mp h.1.pm,h.1.fl,by have:=h.2.pw;rwa [List.drop_zero,List.take_of_length_le (by rw [Array.length_toList,h.1.size];omega)]at this⟩
 unfold colp;refine wpS_forRange (I:=λ_ c st'=>c=(none,())/\st'=st) ?_ ?_ ⟨rfl,rfl⟩
 ·rintro x c st' _ _ ⟨rfl,rfl⟩;refine wpS_bind (wpS_get ?_);rw [iP (by rw [h.1.pd];simp)];exact wpS_pure (hq _ hd)
 ·rintro c st' ⟨rfl,rfl⟩;exact hq _ hd
def zSJ(C:Cmp M A E s kd D lt)(hD: ∀x,x∈(arrOf st).toList->D x)(d:Keyed)(h2:2<=(arrOf st).size)(h64:(arrOf st).size<64)(hk:kindOf st=kd)(hp:pendingOf st=#[])(hf:failedOf st=none)
  {Q:Unit->SortSt->Prop} (hq: ∀st',Dun (arrOf st) lt st'->Q () st'):wpS M A E s sortRuns' Q st:=by
 rw [zPB];unfold sRun;refine wpS_bind (wpS_get ?_);rw [yHK h2 h64];refine wpS_bind (yHL C hD d h2 ⟨Array.Perm.refl _,hk,hf,hp,λ_ hi=>by omega⟩ λst1 hC=>?_);dsimp only;refine wpS_bind (yHM h2 hC λst2 hd=>?_);exact wpS_pure (hq st2 hd)
end
end Srt
set_option autoImplicit false
set_option autoImplicit false
namespace Srt
open PySem PyProof.Rows
abbrev Rn:=Nat×Nat×Nat
def RunsOk(lt:Keyed->Keyed->Bool)(l:List Keyed):Nat->List Rn->Nat->Prop
 |p,[],q=>p=q
 |p,r::rs,q=>r.1=p/\1<=r.2.1/\SL lt l p r.2.1/\RunsOk lt l (p+r.2.1) rs q
section
variable{lt:Keyed->Keyed->Bool}{l l':List Keyed}
theorem RunsOk.le: ∀{rs:List Rn}{p q:Nat},RunsOk lt l p rs q->p+rs.length<=q
 |[],p,q,h=>by cases h;exact le_refl _
 |r::rs,p,q,h=>by have:=RunsOk.le h.2.2.2;have:=h.2.1;rw [lC];omega
end
section
variable{M:Model}{A:Around}{E:VP}{s:Shared}{kd:SortKind}{D:Keyed->Prop}{lt:Keyed->Keyed->Bool}{a₀ f:V}{lo:Nat}{st:SortSt}{d:Keyed}
structure ST(a₀:V)(kd:SortKind)(lt:Keyed->Keyed->Bool)(rs:List Rn)(q:Nat)(st:SortSt):Prop where
 pm:(arrOf st).toList.Perm a₀.toList
 kind:kindOf st=kd
 fl:failedOf st=none
 pd:pendingOf st=rs.toArray
 ok:RunsOk lt (arrOf st).toList 0 rs q
 le:q<=a₀.size
def ST.size{rs:List Rn}{q:Nat}(h:ST a₀ kd lt rs q st):(arrOf st).size=a₀.size:=by have:=h.pm.length_eq;simpa using this
end
end Srt
set_option autoImplicit false
set_option autoImplicit false
namespace Srt
open PySem PyProof.Rows
section
variable{prog:Program}{w:World}{A:Around}{E:VP}{s:Shared}
def yLT{α β:Type}{f:α->Sem β}{g:α->β}{M:Model}(l:List α)(h: ∀x,x∈l->wpAny M A (f x) (λr s'=>s'=s/\r=g x) E s):wpAny M A (l.mapM f) (λr s'=>s'=s/\r=l.map g) E s:=by
 induction l with
 |nil=>rw [List.mapM_nil];exact wP0 ⟨rfl,rfl⟩
 |cons x l ih=>
  rw [List.mapM_cons];refine wB0 (wpAny_mono (h x mF0) (λr s' hr=>?_) λ_ _ e=>e);rw [hr.1,hr.2];refine wB0 (wpAny_mono (ih λy hy=>h y (mO _ hy)) (λr s' hr=>?_) λ_ _ e=>e);rw [hr.1,hr.2];exact wP0 ⟨rfl,rfl⟩
def zHX{α β:Type}{f:α->Sem β}{g:α->β}{M:Model}{l:List α}(h: ∀x,x∈l->wpAny M A (f x) (λr s'=>s'=s/\r=g x) E s):wpAny M A (l.toArray.mapM f) (λr s'=>s'=s/\r=(l.map g).toArray) E s:=by rw [List.mapM_toArray];show wpAny M A (List.toArray<$>l.mapM f) _ E s;rw [map_eq_pure_bind];refine wB0 (wpAny_mono (yLT l h) (λr s' hr=>?_) λ_ _ e=>e);obtain⟨rfl,rfl⟩:=hr;exact wP0 ⟨rfl,rfl⟩
def TupAt(h:Heap)(a:Addr)(its:Ae):Prop:= ∃o n,h.get? a=some o/\o.cls=.type "tuple"/\o.data=.seq its.toArray n
theorem zJJ(v:Value):firstOfTuple' v=(do
  if(<-typeOf v) !=.type "tuple" then return none
  return (<-Builtin.List.listItems v)[0]?):=rfl
def zVA{M:Model}{a:Addr}{its:Ae}(h:TupAt s.heap a its):wpAny M A (firstOfTuple' (.ref a)) (λr s'=>s'=s/\r=its[0]?) E s:=by obtain⟨o,n,h1,h2,h3⟩:=h;rw [zJJ];refine wB0 (wpAny_typeOf (T:="tuple") ⟨o,h1,h2⟩ ?_);rw [iN (by simp)];refine wB0 (listItems_at h1 h3 ?_);exact wP0 ⟨rfl,by simp⟩
end
end Srt
set_option autoImplicit false
namespace Srt
open PySem PyProof.Rows
inductive LexS(A:Around)(s:Shared):List Value->List Value->Bool->Prop
 |nn:LexS A s [] [] false
 |nc (x xs):LexS A s [] (x::xs) true
 |cn (y ys):LexS A s (y::ys) [] false
 |eq {y x ys xs k}:SeqAt.EqAt A s y x true->LexS A s ys xs k->LexS A s (y::ys) (x::xs) k
 |ne {y x ys xs k}:SeqAt.EqAt A s y x false->(∀(prog:Program)(w:World)(E Q:VP),Q (.bool k) s->wpAny (model prog w) A (richCompare .Lt y x) Q E s)->LexS A s (y::ys) (x::xs) k
section
variable{prog:Program}{w:World}{A:Around}{E:VP}{s:Shared}
theorem yHN(c:Bool)(x y:Value):keyLt' (tuples' c) x y=(Builtin.List.listItems x >>= λxs=>Builtin.List.listItems y >>= λys=>
  (forIn (xs.toList.zip ys.toList).zipIdx ((none,()):Option Bool×Unit) λz _=>eqBool z.1.1 z.1.2 >>= λe=>if(!e)=true then oneLt' (c&&z.2==0) z.1.1 z.1.2 >>= λr=>pure (.done (some r,()))else pure (.yield (none,()))) >>= λr=>
  match r.1 with
  |some r=>pure r
  |none=>pure (decide (xs.size<ys.size))):=by kernel_rfl
theorem yRG(x y:Value):oneLt' false x y=richCompare .Lt x y >>= λv=>truthOfDropped v:=by rw [oneLt'_eq];rfl
def zYM{b:Bool}{Q:Bool->Shared->Prop}(h:Q b s):wpAny (model prog w) A (truthOfDropped (.bool b)) Q E s:=wpAny_truthy_bool h
def wp_lt{kd:SortKind}{x y:Keyed}{k:Bool}{st:SortSt}(hk:kindOf st=kd)(h: ∀(E:VP)(Q:Bool->Shared->Prop),Q k s->wpAny (model prog w) A (keyLt' kd x.1 y.1) Q E s){Q:Option Bool->SortSt->Prop}(hq:Q (some k) st):
  wpS (model prog w) A E s (lt' x y) Q st:=by
 rw [lt'_eq];refine wpS_bind (wpS_get ?_);rw [hk];refine wpS_bind (wpS_lift (wpAny_attempt (h _ _ ⟨rfl,?_⟩)));exact wpS_pure hq
end
end Srt
set_option autoImplicit false
namespace Srt
open PySem PyProof.Rows
section
variable{prog:Program}{w:World}{A:Around}{E:VP}{s:Shared}
def zVB{M:Model}{l:Ae}(hl:l≠[])(h: ∀x,x∈l-> ∃z tk,x=.str z tk):wpAny M A (oneTypeOnly' l.toArray) (λr s'=>s'=s/\r=some (.type "str")) E s:=by
 rw [oneTypeOnly'_eq];refine wB0 (wpAny_mono (zHX (g:=λ_=>Value.type "str") λx hx=>?_) (λr s' hr=>?_) λ_ _ e=>e)
 ·obtain⟨z,tk,rfl⟩:=h x hx;exact wP0 ⟨rfl,rfl⟩
 ·obtain⟨rfl,rfl⟩:=hr
  match l,hl with
  |x::l,_=>
   have h0:(List.map (λ_=>Value.type "str") (x::l)).toArray[0]? =some (Value.type "str"):=by simp
   have hall:((List.map (λ_=>Value.type "str") (x::l)).toArray.all λx=>x==Value.type "str")=true:=by simp only [all_toArray,all_map,all_eq_true];intro _ _;rfl
   rw [h0];dsimp only;rw [hall];exact wP0 ⟨rfl,rfl⟩
def wp_kindS{M:Model}{keys:Ae}(hl:keys≠[])(h: ∀x,x∈keys-> ∃a its z tk r,x=.ref a/\TupAt s.heap a its/\its=.str z tk::r):
  wpAny M A (keyKind' keys.toArray) (λk s'=>s'=s/\k=tuples' true) E s:=by
 rw [keyKind'_eq]
 have hg: ∀x, ∃y:Option Value,x∈keys->(∃z tk,y=some (.str z tk))/\ ∀M:Model,wpAny M A (firstOfTuple' x) (λr s'=>s'=s/\r=y) E s:=by
  intro x;by_cases hx:x∈keys
  ·obtain⟨a,its,z,tk,r,rfl,h1,rfl⟩:=h x hx;exact⟨some (.str z tk),λ_=>⟨⟨z,tk,rfl⟩,λM=>zVA h1⟩⟩
  ·exact⟨none,λz=>absurd z hx⟩
 let g:=λx=>Classical.choose (hg x);have gs: ∀x,x∈keys->(∃z tk,g x=some (.str z tk))/\ ∀M:Model,wpAny M A (firstOfTuple' x) (λr s'=>s'=s/\r=g x) E s:=λx hx=>Classical.choose_spec (hg x) hx;refine wB0 (wpAny_mono (zHX (g:=g) λx hx=>(gs x hx).2 M) (λr s' hr=>?_) λ_ _ e=>e);obtain⟨rfl,rfl⟩:=hr;rw [iP (by simp only [all_toArray,all_map,all_eq_true];intro x hx;obtain⟨⟨b,jts,e⟩,_⟩:=gs x hx;show(g x).isSome=true;rw [e];rfl)];refine wB0 (wpAny_rule ?_);have ef:(keys.map g).toArray.filterMap id=((keys.map g).filterMap id).toArray:=by simp
 rw [ef];refine wB0 (wpAny_mono (zVB (l:=(keys.map g).filterMap id) ?_ ?_) (λr s' hr=>?_) λ_ _ e=>e)
 ·match keys,hl,gs with
  |x::l,_,gs=>
   obtain⟨⟨b,jts,e⟩,_⟩:=gs x mF0;rw [map_cons,e];simp
 ·intro x hx;obtain⟨y,hy,e⟩:=mem_filterMap.mp hx;obtain⟨z,hz,e'⟩:=mM.mp hy;obtain⟨⟨b,jts,e2⟩,_⟩:=gs z hz;have:some x=some (Value.str b jts):=by rw [<-e2,e'];exact e.symm
  cases this;exact⟨b,jts,rfl⟩
 ·obtain⟨rfl,rfl⟩:=hr;refine wP0 ⟨rfl,?_⟩;have:((some (Value.type "str")).any λx=>x !=Value.type "tuple")=true:=by rfl
  rw [this]
end
end Srt
set_option autoImplicit false
namespace Srt
open PySem PyProof.Rows
section
variable{prog:Program}{w:World}{A:Around}{E:VP}{s:Shared}
def zVC{m n:Nat}{k:Bool}(vs ws:Ae)(i:Nat)(hx:LexS A s vs ws k):1<=i->vs.length+n=ws.length+m->
   wpAny (model prog w) A (forIn ((vs.zip ws).zipIdx i) ((none,()):Option Bool×Unit) λz _=>eqBool z.1.1 z.1.2 >>= λe=>if(!e)=true then oneLt' (true&&z.2==0) z.1.1 z.1.2 >>= λr=>pure (.done (some r,()))else pure (.yield (none,())))
    (λr s'=>s'=s/\(r=(some k,())\/(r=(none,())/\k=decide (m<n)))) E s:=by
 induction hx generalizing i with
 |nn=>intro hi h;rw [zip_nil_left,zipIdx_nil,forIn_nil];exact wP0 ⟨rfl,.inr ⟨rfl,(dF0 (by simp at h;omega)).symm⟩⟩
 |nc x xs=>intro hi h;rw [zip_nil_left,zipIdx_nil,forIn_nil];exact wP0 ⟨rfl,.inr ⟨rfl,(dT0 (by simp at h;omega)).symm⟩⟩
 |cn y ys=>intro hi h;rw [List.zip_nil_right,zipIdx_nil,forIn_nil];exact wP0 ⟨rfl,.inr ⟨rfl,(dF0 (by simp at h;omega)).symm⟩⟩
 |eq he hr ih=>
  intro hi h;rw [zip_cons_cons,zipIdx_cons,forIn_cons];refine wB0 (wB0 (he prog w E _ ?_));rw [iN (by simp)];exact wP0 (ih (i+1) (by omega) (by simpa using(by simp at h;omega)))
 |ne he hr=>
  intro hi h;rw [zip_cons_cons,zipIdx_cons,forIn_cons];refine wB0 (wB0 (he prog w E _ ?_));rw [iP (by simp)];simp only [Bool.true_and];rw [show(i==0)=false by simp;omega,yRG];refine wB0 (wB0 (hr prog w E _ (zYM ?_)));exact wP0 (wP0 ⟨rfl,.inl rfl⟩)
def wp_keyLtS{l b:Addr}{x y:Str}{t u:Tok}{r r2:Ae}{e k:Bool}{Q:Bool->Shared->Prop}(hl:TupAt s.heap l (.str x t::r))(hb:TupAt s.heap b (.str y u::r2))(he:SeqAt.EqAt A s (.str x t) (.str y u) e)
  (hx:if e=true then LexS A s r r2 k else k=decide (x.cps.toList<y.cps.toList)) (hq:Q k s):
  wpAny (model prog w) A (keyLt' (tuples' true) (.ref l) (.ref b)) Q E s:=by
 obtain⟨o1,n1,a1,_,a3⟩:=hl;obtain⟨o2,n2,b1,_,b3⟩:=hb;rw [yHN];refine wB0 (listItems_at a1 a3 (wB0 (listItems_at b1 b3 ?_)));simp only [sA];refine wB0 ?_;rw [zip_cons_cons,zipIdx_cons,forIn_cons];refine wB0 (wB0 (he prog w E _ ?_))
 cases e with
 |true=>
  rw [iP rfl]at hx;rw [iN (by simp)];refine wP0 ?_;refine wpAny_mono (zVC r r2 1 hx (m:=(Value.str x t::r).length) (n:=(Value.str y u::r2).length) (le_refl _) (by simp only [lC];omega)) (λq s' h=>?_) λ_ _ e=>e;obtain⟨rfl,rfl|⟨rfl,e⟩⟩:=h
  ·exact wP0 hq
  ·dsimp only;rw [<-e];exact wP0 hq
 |false=>
  rw [iN xF0]at hx;subst hx;rw [iP (by simp)];refine wB0 (oneLt_str ?_);exact wP0 (wP0 (wP0 hq))
end
end Srt
set_option autoImplicit false
set_option autoImplicit false
namespace Srt
open PySem PyProof.Rows
section
variable{prog:Program}{w:World}{A:Around}{E:VP}{s:Shared}
def sort_plainS{a:Addr}{vs:Ae}{n0:Nat}{P:PySem.Fin->Shared->Prop}(ho:s.heap.get? a=some (seqObj "list" vs.toArray n0))(hl:vs.length<64)
  (hk: ∀s2:Shared,s2={s with heap:=((s.heap.update a (Obj.mapSeq λ_=>#[])).push (seqObj "tuple" vs.toArray 0)).push (seqObj "list" #[] 0)}-> ∃(kd:SortKind)(D:Keyed->Prop)(lt:Keyed->Keyed->Bool),
   (2<=vs.length->wpAny (model prog w) A (keyKind' vs.toArray) (λk s'=>s'=s2/\k=kd) E s2/\Cmp (model prog w) A E s2 kd D lt/\ ∀p,p∈vs.zip vs->D p)/\
   ∀out:List Keyed,out.Perm (vs.zip vs)->out.Pairwise (Le lt)->P (.done (.ret .none)) {s2 with heap:=s2.heap.update a (Obj.mapSeq λ_=>(out.map (·.2)).toArray)}):
  wpAny (model prog w) A (Builtin.«list.sort» ⟨[.ref a],[]⟩) P E s:=by
 unfold Builtin.«list.sort»;dsimp only;rw [iN (by simp),iN (by simp)];rw [forIn_nil];refine wB0 (wP0 ?_);have e1:List.lookup (Str.ofString "key") ([]:List (Str×Value))=none:=rfl;have e2:List.lookup (Str.ofString "reverse") ([]:List (Str×Value))=none:=rfl;rw [e1,e2];refine wB0 (wP0 ?_);have ha:a<s.heap.objs.size:=Heap.lt_size ho;refine wB0 (listItems_at ho rfl ?_);refine wB0 (listUpdate_at ho rfl ?_);obtain⟨q,hq⟩: ∃q,(s.heap.update a (Obj.mapSeq λ_=>#[])).get? a=some (seqObj "list" #[] q):=⟨_,get?_update_seq ho (λ_=>#[])⟩
 dsimp only;refine wB0 (seqEpoch_at hq rfl ?_);refine wB0 (wpAny_newTuple ?_);refine wB0 (wpAny_newList ?_);refine wpAny_holding ?_;rw [iN (by simp)];dsimp only;generalize hs2:({s with heap:=((s.heap.update a (Obj.mapSeq λ_=>#[])).push (seqObj "tuple" vs.toArray 0)).push (seqObj "list" #[] 0)}:Shared)=s2;have g1:s2.heap.get? a=some (seqObj "list" #[] q):=by rw [<-hs2];exact hP0 _ (hP0 _ hq)
 obtain⟨kd,D,lt,g4,g5⟩:=hk s2 hs2.symm;rw [iN (by simp)];refine wB0 (wP0 ?_);rw [iN (by simp)]
 have fin: ∀st:SortSt,failedOf st=none->(arrOf st).toList.Perm (vs.zip vs)->(arrOf st).toList.Pairwise (Le lt)->
   wpAny (model prog w) A (do
    let e <-seqEpoch a
    Builtin.List.listUpdate (.ref a) λ_=>(arrOf st).map (·.2)
    if(e !=q)=true then rule "list.sort.modified" >>= λ_=>raiseErrorWords "ValueError" "list modified during sort" >>= λ(_:Unit)=>ret .none else ret .none) P E s2:=by
  intro st hf hp hs;refine wB0 (seqEpoch_at g1 rfl ?_);have hlen:((arrOf st).map (·.2)).size<=sizeLine+1:=by rw [Array.size_map, <-Array.length_toList,hp.length_eq,length_zip];have:=sizeLine_eq;omega
  refine wB0 (listUpdate_at g1 rfl ?_ (hsz2:=hlen));rw [iN (by simp)];have e3:(arrOf st).map (·.2)=((arrOf st).toList.map (·.2)).toArray:=by rw [<-Array.toList_map]
  rw [e3];exact wP0 (g5 _ hp hs)
 by_cases h2':vs.toArray.size<2
 ·rw [iP h2',iP h2'];refine wB0 (wP0 ?_);rw [StateT.run_pure];refine wB0 (wP0 ?_);rw [iN (by simp)];have hz:(vs.zip vs).length<=1:=by rw [length_zip];simp at h2';omega
  refine fin (SortSt.mk' general' (vs.toArray.zip vs.toArray) #[] 7 none) rfl ?_ ?_
  ·show(vs.toArray.zip vs.toArray).toList.Perm _;simp
  ·show(vs.toArray.zip vs.toArray).toList.Pairwise _;have:(vs.toArray.zip vs.toArray).toList=vs.zip vs:=by simp
   rw [this]
   match vs.zip vs,hz with
   |[],_=>exact .nil
   |[x],_=>exact pairwise_singleton _ _
   |x::y::r,h=>simp at h
 ·rw [iN h2',iN h2'];obtain⟨k1,k2,k3⟩:=g4 (by simp at h2';omega);refine wB0 (wpAny_mono k1 (λk s' hk'=>?_) λ_ _ e=>e);obtain⟨rfl,rfl⟩:=hk';have za:(arrOf (SortSt.mk' k (vs.toArray.zip vs.toArray) #[] 7 none)).toList=vs.zip vs:=by show(vs.toArray.zip vs.toArray).toList=_;simp
  have zs:(arrOf (SortSt.mk' k (vs.toArray.zip vs.toArray) #[] 7 none)).size=vs.length:=by rw [<-Array.length_toList,za,length_zip,Nat.min_self]
  refine wB0 (wpAny_mono (zSJ (st:=SortSt.mk' k (vs.toArray.zip vs.toArray) #[] 7 none) k2 (λp hp=>k3 p (by rw [za]at hp;exact hp)) (.none,.none) (by rw [zs];simp at h2';omega) (by rw [zs];exact hl) rfl rfl rfl
   (Q:=λ_ st'=>Dun (arrOf (SortSt.mk' k (vs.toArray.zip vs.toArray) #[] 7 none)) lt st') λst' h=>h) (λr s3 hr=>?_) λ_ _ e=>e)
  obtain⟨⟨⟩,st'⟩:=r;obtain⟨rfl,d1,d2,d3⟩:=hr;dsimp only;rw [iN (by simp)];have F:=fin st' d2 (by rw [<-za];exact d1) d3;have d4:failedOf st'=none:=d2;unfold failedOf at d4;rw [d4];exact F
end
end Srt
set_option autoImplicit false
namespace Srt
open PySem PyProof.Rows
section
variable{prog:Program}{w:World}{A:Around}{E:VP}{s:Shared}
def zVD{M:Model}{l:Ae}(hl:l≠[])(h: ∀x,x∈l-> ∃z tk,x=.int z tk):wpAny M A (oneTypeOnly' l.toArray) (λr s'=>s'=s/\r=some (.type "int")) E s:=by
 rw [oneTypeOnly'_eq];refine wB0 (wpAny_mono (zHX (g:=λ_=>Value.type "int") λx hx=>?_) (λr s' hr=>?_) λ_ _ e=>e)
 ·obtain⟨z,tk,rfl⟩:=h x hx;exact wP0 ⟨rfl,rfl⟩
 ·obtain⟨rfl,rfl⟩:=hr
  match l,hl with
  |x::l,_=>
   have h0:(List.map (λ_=>Value.type "int") (x::l)).toArray[0]? =some (Value.type "int"):=by simp
   have hall:((List.map (λ_=>Value.type "int") (x::l)).toArray.all λx=>x==Value.type "int")=true:=by simp only [all_toArray,all_map,all_eq_true];intro _ _;rfl
   rw [h0];dsimp only;rw [hall];exact wP0 ⟨rfl,rfl⟩
def wp_kindI{M:Model}{keys:Ae}(hl:keys≠[])(h: ∀x,x∈keys-> ∃a its z tk r,x=.ref a/\TupAt s.heap a its/\its=.int z tk::r):
  wpAny M A (keyKind' keys.toArray) (λk s'=>s'=s/\k=tuples' true) E s:=by
 rw [keyKind'_eq]
 have hg: ∀x, ∃y:Option Value,x∈keys->(∃z tk,y=some (.int z tk))/\ ∀M:Model,wpAny M A (firstOfTuple' x) (λr s'=>s'=s/\r=y) E s:=by
  intro x;by_cases hx:x∈keys
  ·obtain⟨a,its,z,tk,r,rfl,h1,rfl⟩:=h x hx;exact⟨some (.int z tk),λ_=>⟨⟨z,tk,rfl⟩,λM=>zVA h1⟩⟩
  ·exact⟨none,λz=>absurd z hx⟩
 let g:=λx=>Classical.choose (hg x);have gs: ∀x,x∈keys->(∃z tk,g x=some (.int z tk))/\ ∀M:Model,wpAny M A (firstOfTuple' x) (λr s'=>s'=s/\r=g x) E s:=λx hx=>Classical.choose_spec (hg x) hx;refine wB0 (wpAny_mono (zHX (g:=g) λx hx=>(gs x hx).2 M) (λr s' hr=>?_) λ_ _ e=>e);obtain⟨rfl,rfl⟩:=hr;rw [iP (by simp only [all_toArray,all_map,all_eq_true];intro x hx;obtain⟨⟨b,jts,e⟩,_⟩:=gs x hx;show(g x).isSome=true;rw [e];rfl)];refine wB0 (wpAny_rule ?_);have ef:(keys.map g).toArray.filterMap id=((keys.map g).filterMap id).toArray:=by simp
 rw [ef];refine wB0 (wpAny_mono (zVD (l:=(keys.map g).filterMap id) ?_ ?_) (λr s' hr=>?_) λ_ _ e=>e)
 ·match keys,hl,gs with
  |x::l,_,gs=>
   obtain⟨⟨b,jts,e⟩,_⟩:=gs x mF0;rw [map_cons,e];simp
 ·intro x hx;obtain⟨y,hy,e⟩:=mem_filterMap.mp hx;obtain⟨z,hz,e'⟩:=mM.mp hy;obtain⟨⟨b,jts,e2⟩,_⟩:=gs z hz;have:some x=some (Value.int b jts):=by rw [<-e2,e'];exact e.symm
  cases this;exact⟨b,jts,rfl⟩
 ·obtain⟨rfl,rfl⟩:=hr;refine wP0 ⟨rfl,?_⟩;have:((some (Value.type "int")).any λx=>x !=Value.type "tuple")=true:=by rfl
  rw [this]
end
end Srt
set_option autoImplicit false
namespace Srt
open PySem PyProof.Rows
section
variable{prog:Program}{w:World}{A:Around}{E:VP}{s:Shared}
def wp_keyLtI{l b:Addr}{x y:Int}{t u:Tok}{r r2:Ae}{e k:Bool}{Q:Bool->Shared->Prop}(hl:TupAt s.heap l (.int x t::r))(hb:TupAt s.heap b (.int y u::r2))(he:SeqAt.EqAt A s (.int x t) (.int y u) e)
  (hx:if e=true then LexS A s r r2 k else k=decide (x<y)) (hq:Q k s):
  wpAny (model prog w) A (keyLt' (tuples' true) (.ref l) (.ref b)) Q E s:=by
 obtain⟨o1,n1,a1,_,a3⟩:=hl;obtain⟨o2,n2,b1,_,b3⟩:=hb;rw [yHN];refine wB0 (listItems_at a1 a3 (wB0 (listItems_at b1 b3 ?_)));simp only [sA];refine wB0 ?_;rw [zip_cons_cons,zipIdx_cons,forIn_cons];refine wB0 (wB0 (he prog w E _ ?_))
 cases e with
 |true=>
  rw [iP rfl]at hx;rw [iN (by simp)];refine wP0 ?_;refine wpAny_mono (zVC r r2 1 hx (m:=(Value.int x t::r).length) (n:=(Value.int y u::r2).length) (le_refl _) (by simp only [lC];omega)) (λq s' h=>?_) λ_ _ e=>e;obtain⟨rfl,rfl|⟨rfl,e⟩⟩:=h
  ·exact wP0 hq
  ·dsimp only;rw [<-e];exact wP0 hq
 |false=>
  rw [iN xF0]at hx;subst hx;rw [iP (by simp)];refine wB0 (oneLt_int ?_);exact wP0 (wP0 (wP0 hq))
end
end Srt
namespace L2
namespace M
open PySem PySem.Spec PyProof.Rows
mutual
def xZ:MV->Bool
 |.int _=>true
 |.str _=>true
 |.tup ds=>zHY ds
 |_=>false
def zHY:List MV->Bool
 |[]=>true
 |d::ds=>xZ d&&zHY ds
end

def zFL{α β:Type}{g:α->β}{p m:List β}(h:p.Perm m): ∀l:List α,l.map g=p-> ∃l':List α,l'.Perm l/\l'.map g=m:=by
 induction h with
 |nil=>intro l e;exact⟨l,.refl _,e⟩
 |cons x _ ih=>
  intro l e
  cases l with
  |nil=>cases e
  |cons a l=>
   rw [map_cons]at e;injection e with e1 e2
   obtain⟨l',p',q'⟩:=ih l e2;exact⟨a::l',p'.cons a,by rw [map_cons,e1,q']⟩
 |swap x y t=>
  intro l e
  match l,e with
  |a::b::l,e=>
   rw [map_cons,map_cons]at e;injection e with e1 e2
   injection e2 with e2 e3
   exact⟨b::a::l,.swap _ _ _,by rw [map_cons,map_cons,e1,e2,e3]⟩
 |trans _ _ ih1 ih2=>
  intro l e;obtain⟨l1,p1,q1⟩:=ih1 l e;obtain⟨l2,p2,q2⟩:=ih2 l1 q1;exact⟨l2,p2.trans p1,q2⟩
section
variable{X:Cx}{α:Ah}{S:Sto}{H:Hp}{pins:Ba}{σ:St}{s:Shared}
mutual
theorem yAX(I:Inv X pins σ H s): ∀{d d':MV}{v:V},xZ d=true->xZ d'=true->Den X.K α H d v->Den X.K α H d' v->d=d'
 |.int i,d',v,_,h',q,q'=>by
  cases yV q
  cases d' with
  |int j=>cases yV q';rfl
  |str x=>cases xG q'
  |tup ds=>obtain⟨a,vs,e,_⟩:=xC q';cases e
  |_=>simp [xZ]at h'
 |.str x,d',v,_,h',q,q'=>by
  have e:=xG q
  cases d' with
  |int j=>rw [yV q']at e;cases e
  |str y=>rw [xG q']at e;injection e with e;rw [zLG e]
  |tup ds=>obtain⟨a,vs,e',_⟩:=xC q';rw [e']at e;cases e
  |_=>simp [xZ]at h'
 |.tup ds,d',v,h,h',q,q'=>by
  obtain⟨a,vs,e,t,l⟩:=xC q
  cases d' with
  |int j=>rw [yV q']at e;cases e
  |str y=>rw [xG q']at e;cases e
  |tup es=>
   obtain⟨a',vs',e',t',l'⟩:=xC q';rw [e]at e';cases e';have:=I.tuple_inj t t';subst this;rw [zVE I (by unfold xZ at h;exact h) (by unfold xZ at h';exact h') l l']
  |_=>simp [xZ]at h'
theorem zVE(I:Inv X pins σ H s): ∀{ds es:Bh}{vs:List V},zHY ds=true->zHY es=true->DenL X.K α H ds vs->DenL X.K α H es vs->ds=es
 |[],[],_,_,_,_,_=>rfl
 |[],e::es,_,_,_,q,q'=>by obtain⟨v,r,e,_⟩:=q'.uncons;rw [q.isnil]at e;cases e
 |d::ds,[],_,_,_,q,q'=>by obtain⟨v,r,e,_⟩:=q.uncons;rw [q'.isnil]at e;cases e
 |d::ds,e::es,_,h,h',q,q'=>by obtain⟨v,r,rfl,a,l⟩:=q.uncons;obtain⟨v',r',e',a',l'⟩:=q'.uncons;cases e';unfold zHY at h h';rw [aE]at h h';rw [yAX I h.1 h'.1 a a',zVE I h.2 h'.2 l l']
end

def yOF{A:Around}{xs ys:Ae}{k:Bool}(h:LexR A s xs ys k):Srt.LexS A s xs ys k:=by
 induction h with
 |nn=>exact .nn
 |nc x xs=>exact .nc x xs
 |cn x xs=>exact .cn x xs
 |eq a _ ih=>exact .eq a ih
 |ne a b=>exact .ne a b
inductive KindD:Bool->MV->Prop
 |t (es r):KindD true (.tup (.tup es::r))
 |e:KindD false (.tup [])
def zJK(I:Inv X pins σ H s){ds:Bh}{x:V}{u:Value}(d:Den X.K α H (.tup ds) x)(r:RelV x u): ∃a vs its,u=.ref a/\DenL X.K α H ds vs/\Vals vs its/\Srt.TupAt s.heap a its/\IsTup s.heap a its.toArray:=by obtain⟨a,vs,rfl,t,l⟩:=xC d;cases r;obtain⟨its,r1,pt,_⟩:=I.tuple t;obtain⟨o,h1,h2,n,h3⟩:=id pt;exact⟨a,vs,its,rfl,l,r1,⟨o,n,h1,h2,h3⟩,pt⟩
end
structure OrdD(S:Sto)(ks:Bh):Prop where
 any: ∀a,a∈ks-> ∀b,b∈ks-> ∃t,ltv S zI a b=some t
 tr: ∀a,a∈ks-> ∀b,b∈ks-> ∀c,c∈ks->ltv S zI b a=some false->ltv S zI c b=some false->ltv S zI c a=some false
 as: ∀a,a∈ks-> ∀b,b∈ks->ltv S zI a b=some true->ltv S zI b a=some false
section
variable{X:Cx}{α:Ah}{S:Sto}{H:Hp}{pins:Ba}{σ:St}{s:Shared}{k:Nat}{fa:Addr}{fd:FuncData}{ps:Ai}{Fd:List MV->Sto->R Er}
def zQL{e:Addr}{ys:List V}{its:Ae}{n:Nat}(J:Inv X pins σ H s)(f:zGJ X pins H e)(h0:X.s₀.heap.objs.size<=e)(he:s.heap.get? e=some (seqObj "list" its.toArray n))(hv:Vals ys its)(hz:ys.length<=sizeLine):Inv X pins σ (upd H e (.lst ys)) s:=by
 have s0: ∀o,X.s₀.heap.get? e≠some o:=λo z=>absurd (lt_of_lt_of_le (Heap.lt_size z) h0) (lt_irrefl _);refine⟨J.ok,J.os,J.bare,⟨J.base.keep,J.base.slot,λb ob' q n hx=>?_,J.base.there,λb xs q=>?_,λb o' u q=>?_,λb ps q=>?_⟩,J.loc,J.cell,?_,λx c hc=>?_,λp hp=>?_,λb u q=>?_,J.len⟩
 ·rw [zR λz=>s0 ob' (by rw [<-z];exact q)];exact J.base.free b ob' q n hx
 ·rw [zR (zY (J.base.tups b xs q) f.1)];exact J.base.tups b xs q
 ·rw [zR (zY (J.base.frzs b o' u q) f.1)];exact J.base.frzs b o' u q
 ·obtain⟨mo,z⟩:=J.base.tbls b ps q;exact⟨mo,by rw [zR (zY z f.1)];exact z⟩
 ·rw [zR (Ne.symm f.2.1)];exact J.free
 ·rw [zR (f.2.2.2.2.1 x c hc)];exact J.freeC x c hc
 ·obtain⟨e1,n,ne,nf,dd⟩:=J.pin p hp;exact⟨e1,by rw [zR (f.2.2.2.2.2 p hp)];exact n,ne,nf,dd⟩
 ·by_cases z:b=e
  ·subst z;rw [yR]at q;cases q;exact⟨hz,its,n,hv,he⟩
  ·rw [zR z]at q;exact(J.hok b u q).stay (λ_ _ _ r=>r) (λc r=>by rw [zR (zY r f.1)];exact r) λc xs r=>by rw [zR (zY r f.1)];exact r
def zFW(K:Be)(α:Ah)(H:Hp)(kds:Bh)(u:Value):MV:=
 open Classical in if h: ∃d v,d∈kds/\Den K α H d v/\RelV v u then Classical.choose h else kds.headD .non
def ltV(K:Be)(α:Ah)(H:Hp)(S:Sto)(kds:Bh)(p q:Keyed):Bool:=(ltv S zI (zFW K α H kds p.1) (zFW K α H kds q.1)).getD false
def yY{K:Be}{kds:Bh}(hne:kds≠[])(u:Value):zFW K α H kds u∈kds:=by
 unfold zFW;split
 ·rename_i h;obtain⟨v,h1,_⟩:=Classical.choose_spec h;exact h1
 ·match kds,hne with
  |x::l,_=>exact mF0
def zED{K:Be}{kds:Bh}{u:Value}(h: ∃d v,d∈kds/\Den K α H d v/\RelV v u): ∃v,Den K α H (zFW K α H kds u) v/\RelV v u:=by unfold zFW;rw [dif_pos h];obtain⟨v,_,h2,h3⟩:=Classical.choose_spec h;exact⟨v,h2,h3⟩
def zMP(I:Inv X pins σ H s){kds:Bh}{kvs:List V}{ks:Ae}(hpu: ∀d,d∈kds->xZ d=true)(dk:DenL X.K α H kds kvs)(vk:Vals kvs ks){i:Nat}{u:Value}{a:MV}(hu:ks[i]? =some u)(ha:kds[i]? =some a):
  zFW X.K α H kds u=a:=by
 obtain⟨v,hv,da⟩:=dk.at ha;obtain⟨u',hu',r⟩:=vk.get hv;rw [hu]at hu';cases hu';have ma:a∈kds:=mem_of_getElem? ha;have ne:kds≠[]:=λz=>by rw [z]at ma;cases ma
 obtain⟨v',d',r'⟩:=zED (K:=X.K) (α:=α) (H:=H) ⟨a,v,ma,da,r⟩;rw [r'.inj r]at d';exact yAX I (hpu _ (yY ne u)) (hpu a ma) d' da
end
section
variable{X:Cx}{α:Ah}{S:Sto}{H:Hp}{pins:Ba}{σ:St}{s:Shared}{k:Nat}{fa:Addr}{fd:FuncData}{ps:Ai}{Fd:List MV->Sto->R Er}
theorem zQM{ks its:Ae}{N:Nat}(h1:ks.length=N)(h2:its.length=N):(List.range N).map (λi=>((ks[i]?).getD .none,(its[i]?).getD .none))=ks.zip its:=by
 apply ext_getElem?;intro i;rw [getElem?_map];by_cases hi:i<N
 ·have e:(ks.zip its)[i]? =some (ks[i]'(by omega),its[i]'(by omega)):=by rw [List.getElem?_zip_eq_some];exact⟨gE0 _,gE0 _⟩
  rw [getElem?_range hi,e];show some ((ks[i]?).getD .none,(its[i]?).getD .none)=_;rw [gE0 (by omega),gE0 (by omega)];rfl
 ·rw [getElem?_eq_none (by rw [length_range];omega),getElem?_eq_none (by rw [length_zip];omega)];rfl
theorem zAU{β:Type}{l:List β}{d:β}{idx:Ab}(h: ∀i,i∈idx->i<l.length):idx.map (λi=>(l[i]?).getD d)=idx.filterMap (l[·]?):=by
 induction idx with
 |nil=>rfl
 |cons i idx ih=>
  have hi:=h i mF0;rw [map_cons,filterMap_cons_some (gE0 hi),ih λj hj=>h j (mO _ hj),gE0 hi];rfl
end
structure SrtOk(Fd:List MV->Sto->R Er)(S:Sto)(ds kds:Bh)(b:Bool):Prop where
 len:ds.length<128
 kl:kds.length=ds.length
 call: ∀(m:Nat) d kd,ds[m]? =some d->kds[m]? =some kd->zU 1 Fd [.val d] S=.ok (.val kd) S
 pu: ∀d,d∈kds->xZ d=true
 kind: ∀d,d∈kds->KindD b d
 ord:OrdD S kds
def zHZ(S:Sto)(ds kds r:Bh):Prop:= ∃idx:List Nat,idx.Perm (List.range ds.length)/\idx.Pairwise (λi j=> ∀a c,kds[i]? =some a->kds[j]? =some c->ltv S zI c a=some false)/\r=idx.filterMap (ds[·]?)
open Classical in
def srtF(Fd:List MV->Sto->R Er)(rs:List Er)(S:Sto):R Er:=match rs with
 |[p]=>match xX S p with
  |some ds=>if h: ∃r, ∃kds b,SrtOk Fd S ds kds b/\ ∀r',zHZ S ds kds r'->r'=r then .ok (.new (Classical.choose h)) S else .no
  |none=>.no
 |_=>.no
def zMQ(S:Sto)(d:MV):List MV->Option Nat
 |[]=>none
 |x::xs=>(eqv S zI x d).bind λk=>if k=true then some 0 else(zMQ S d xs).map (· +1)
open Classical in
def zQN(p:Er)(rs:List Er)(S:Sto):R Er:=match rs with
 |[.val d]=>match xX S p with
  |some ds=>if∀x,x∈ds->xZ x=true/\(eqv S zI x d).isSome=true then(match zMQ S d ds with |some j=>.ok (.val (.int (j:Nat))) S|none=>.no)else .no
  |none=>.no
 |_=>.no
theorem zQO{S:Sto}{d:MV}: ∀{ds:Bh}{j:Nat},zMQ S d ds=some j->(∃x,ds[j]? =some x/\eqv S zI x d=some true)/\ ∀m x,m<j->ds[m]? =some x->eqv S zI x d=some false
 |[],j,h=>by cases h
 |x::xs,j,h=>by
  unfold zMQ at h
  cases z:eqv S zI x d with
  |none=>rw [z]at h;cases h
  |some k=>
   rw [z]at h;have h:(if k=true then some 0 else(zMQ S d xs).map (· +1))=some j:=h
   cases k with
   |true=>
    rw [iP rfl]at h;cases h;exact⟨⟨x,rfl,z⟩,λm y hm _=>by omega⟩
   |false=>
    rw [iN xF0]at h
    cases zz:zMQ S d xs with
    |none=>rw [zz]at h;cases h
    |some i=>
     rw [zz]at h;cases h;obtain⟨⟨y,h1,h2⟩,h3⟩:=zQO zz;refine⟨⟨y,by simpa using h1,h2⟩,λm w hm hw=>?_⟩
     cases m with
     |zero=>simp at hw;subst hw;exact z
     |succ m=>exact h3 m w (Nat.lt_of_succ_lt_succ hm) (by simpa using hw)
section
variable{X:Cx}{W:XW}{a e:Expr}{es:Bd}{f:AX}{af:Rho->Sto->R (List Er)}{pos apos:Pos}
def yLU(hu:X.A.units+64<cLine):MtR X "list.index" (λx xs H Q=> ∃α S l vs ds d y j,x=.ref l/\xs=[y]/\Wd X.g α S H/\SqL X.K H l vs/\DenL X.K α H ds vs/\Den X.K α H d y/\(∀x,x∈ds->xZ x=true/\(eqv S zI x d).isSome=true)/\zMQ S d ds=some j/\Q (.int (j:Nat)) H):=by
 intro pins s σ H x xs v us Q I rx rs h;obtain⟨α,S,l,vs,ds,d,y,j,rfl,rfl,wd,sq,dl,dd,hp,hj,q⟩:=h;cases rx;obtain⟨u,rfl,ru⟩:=rs.one;obtain⟨its,rv,⟨o,n,e0,hc,hd0,hd⟩,hz⟩:=I.list sq;obtain⟨cls,dct,dat,slt⟩:=o;simp only at hc hd hd0;subst hc hd hd0;obtain⟨⟨x,hx,ex⟩,hno⟩:=zQO hj;have hln:=sizeLine_eq;have hjl:j<its.length:=by rw [<-rv.length,dl.length];exact(gS0.mp hx).1
 have hpu: ∀x,x∈ds->xZ x=true:=λx hx=>(hp x hx).1
 have at_: ∀m (hm:m<its.length), ∃x,ds[m]? =some x/\zFW X.K α H ds its[m]=x:=λm hm=>by
  have hm':m<ds.length:=by rw [<-dl.length,rv.length];exact hm
  exact⟨ds[m],gE0 hm',zMP I hpu dl rv (gE0 hm) (gE0 hm')⟩
 refine call_meets PySem.F.slot_list_index ⟨_,e0,rfl⟩ PySem.F.entry_list_index (PySem.F.args_list_index_2 _ _)
  (SeqAt.list_indexAt l its.toArray n _ _ u (λw=>(eqv S zI (zFW X.K α H ds w) d).getD false) j (by simpa using hjl) (by have:=rv.length;omega) ?_ ?_) ⟨e0,λw hw=>?_,?_⟩
 ·obtain⟨x',h1,h2⟩:=at_ j hjl;show(eqv S zI (zFW X.K α H ds its[j]) d).getD false=true;rw [h2];rw [hx]at h1;cases h1;rw [ex];rfl
 ·intro m hm hlt;have hm':m<its.length:=by simpa using hm
  obtain⟨x',h1,h2⟩:=at_ m hm';show(eqv S zI (zFW X.K α H ds its[m]) d).getD false=false;rw [h2,hno m x' hlt h1];rfl
 ·have hw':w∈its:=by simpa using hw
  obtain⟨m,hm,rfl⟩:=List.mem_iff_getElem.mp hw';obtain⟨x',h1,h2⟩:=at_ m hm;obtain⟨xv,h3,h4⟩:=dl.at h1;obtain⟨w',h5,h6⟩:=rv.get h3;rw [gE0 hm]at h5;cases h5;have hs:=(hp x' (mem_of_getElem? h1)).2;obtain⟨kk,hk⟩:=Option.isSome_iff_exists.mp hs;show SeqAt.EqAt _ _ _ _ ((eqv S zI (zFW X.K α H ds its[m]) d).getD false);rw [h2,hk];exact zBS I wd zI X.A.in1 x' d xv y _ _ kk (by unfold zI;show X.A.units+1+40<cLine;omega) h4 dd h6 ru hk
 ·exact⟨.int _,H,I.tok _,⟨_,rfl⟩,q⟩
def yLV:yDD X W (λx xs H Q=> ∃α S l vs ds d y j,x=.ref l/\xs=[y]/\Wd X.g α S H/\SqL X.K H l vs/\DenL X.K α H ds vs/\Den X.K α H d y/\(∀x,x∈ds->xZ x=true/\(eqv S zI x d).isSome=true)/\zMQ S d ds=some j/\Q (.int (j:Nat)) H) zQN:=by
 intro p rs x vs α S H0 H Q α0 wd x0 dp da post
 replace post:=post.shift x0
 unfold zQN at post;split at post
 ·split at post
  ·rename_i ds el;split at post
   ·rename_i hp;split at post
    ·rename_i j hj;obtain⟨v,rfl,dv⟩:=zQG da;obtain⟨l,xs,rfl,sq,dl⟩:=nN rfl wd el dp;exact⟨α,S,l,xs,ds,_,v,j,rfl,rfl,wd,sq,dl,dv,hp,hj,Post.val post wd (xF _)⟩
    ·exact post.elim
   ·exact post.elim
  ·exact post.elim
 ·exact post.elim
def yLW(hu:X.A.units+64<cLine)(ho:PEm X W a f)(ha:PAm X W (e::es) af)
  (hbase:attributeBase a "index" X.env (eval a X.env)=eval a X.env:=by rfl)
  (hfew:((backTo pos (starEach (e::es) X.env)).all (λx=>!x.1)&&(backToKw pos (keywordEach [] X.env)).all (λx=>x.1.isSome)
   &&decide ((e::es).length+([]:List Keyword).length+(if([]:List Keyword).isEmpty then 0 else 1)<30))=true:=by rfl)
  (hline:(apos.endLine==pos.line)=true:=by rfl) (hs:starEach (e::es) X.env=(false,eval e X.env)::starEach es X.env:=by rfl) (hplain:(backTo pos (starEach es X.env)).any (·.1)=false:=by rfl):
  PEm X W (.Call (.Attribute a "index" apos) (e::es) [] pos) (λρ S=>(f ρ S).bind λp S1=>if bL p S1=true then(af ρ S1).bind λrs S2=>zQN p rs S2 else .no):=
 zLJ PySem.F.plainAttrs_list PySem.F.slot_list_index PySem.F.type_list_index (yLU hu) yLV zSG ho ha hbase hfew hline hs hplain
end
section
variable{X:Cx}{W:XW}{a b o i:Expr}{f g:AX}{pos:Pos}{pins:Ba}{σ:St}{H:Hp}{s:Shared}{α:Ah}
def zMR(kvs:List (Key×V))(k:Key)(v:V):List (Key×V):=if(kvs.any λkv=>decide (kv.1=k))=true then kvs.map (λkv=>if kv.1=k then(kv.1,v)else kv)else kvs++[(k,v)]
def yHO(kvs:List (Key×V))(k:Key)(v:V):(zMR kvs k v).length<=kvs.length+1:=by
 unfold zMR;split
 ·rw [lM];exact le_succ _
 ·rw [lA];exact le_refl _
def yRH{kvs:List (Key×V)}{vs:List (Key×Value)}(r:KV kvs vs)(k:Key):(kvs.any λkv=>decide (kv.1=k))=vs.any λkv=>decide (kv.1=k):=by
 unfold KV at r
 induction r with
 |nil=>rfl
 |cons h t ih=>rw [any_cons,any_cons,ih,h.1]
def yLX{kvs:List (Key×V)}{vs:List (Key×Value)}(r:KV kvs vs)(k:Key){y:V}{u:Value}(ry:RelV y u):KV (kvs.map λkv=>if kv.1=k then(kv.1,y)else kv) (vs.map λkv=>if kv.1=k then(kv.1,u)else kv):=by
 unfold KV at r ⊢
 induction r with
 |nil=>exact .nil
 |@cons p q ps qs h t ih=>
  rw [map_cons,map_cons];refine .cons ?_ ih;by_cases e:p.1=k
  ·rw [iP e,iP (h.1.symm.trans e)];exact⟨h.1,ry⟩
  ·rw [iN e,iN λz=>e (h.1.trans z)];exact h
def yLY{kvs:List (Key×V)}{vs:List (Key×Value)}(r:KV kvs vs){p:Key×V}{q:Key×Value}(h:p.1=q.1/\RelV p.2 q.2):KV (kvs++[p]) (vs++[q]):=by
 unfold KV at r ⊢
 induction r with
 |nil=>exact .cons h .nil
 |cons h' t ih=>exact .cons h' ih
def yRI{kvs:List (Key×V)}{vs:List (Key×Value)}(r:KV kvs vs)(k:Key){y:V}{u:Value}(ry:RelV y u):KV (zMR kvs k y) (stored vs k u):=by
 unfold zMR stored;rw [yRH r k];by_cases e:(vs.any λkv=>decide (kv.1=k))=true
 ·rw [iP e,iP e];exact yLX r k ry
 ·rw [iN e,iN e];exact yLY r ⟨rfl,ry⟩
def zLM{k:MV}{a b:Key}(h:KeyD k a)(h':KeyD k b):a=b:=by
 cases k with
 |int i=>exact Eq.trans (show a=.inl i from h) (show b=.inl i from h').symm
 |str x=>exact Eq.trans (show a=.inr (mkS x)from h) (show b=.inr (mkS x)from h').symm
 |_=>exact False.elim h
def zIA{k k':MV}{a:Key}(h:KeyD k a)(h':KeyD k' a):k=k':=by
 cases k with
 |int i=>
  have e:a=.inl i:=h;subst e
  cases k' with
  |int j=>have e':(Sum.inl i:Key)=.inl j:=h';cases e';rfl
  |str y=>have e':(Sum.inl i:Key)=.inr (mkS y):=h';cases e'
  |_=>exact False.elim h'
 |str x=>
  have e:a=.inr (mkS x):=h;subst e
  cases k' with
  |int j=>have e':(Sum.inr (mkS x):Key)=.inl j:=h';cases e'
  |str y=>
   have e':(Sum.inr (mkS x):Key)=.inr (mkS y):=h';injection e' with e'
   rw [zLG e']
  |_=>exact False.elim h'
 |_=>exact False.elim h
theorem zVF: ∀{kvs:Cb}{ks:List (Key×V)}{k:MV}{k':Key},DenK X.K α H kvs ks->KeyD k k'->(ks.any λkv=>decide (kv.1=k'))=(look kvs k).isSome
 |_,_,k,k',.nil,hk=>rfl
 |_,_,k,k',.cons (k:=c) (k':=c') hc a l,hk=>by
  rw [zJH,any_cons];by_cases h:c=k
  ·subst h;rw [iP rfl,dT0 (zLM hc hk)];rfl
  ·have hn: ¬c'=k':=λz=>h (zIA hc (z.symm▸hk));rw [iN h,dF0 hn,Bool.false_or];exact zVF l hk
theorem zMS: ∀{kvs:Cb}{ks:List (Key×V)}{k d:MV}{k':Key}{v:V},DenK X.K α H kvs ks->KeyD k k'->Den X.K α H d v->DenK X.K α H (kvs.map λp=>if p.1=k then(p.1,d)else p) (ks.map λkv=>if kv.1=k' then(kv.1,v)else kv)
 |_,_,k,d,k',v,.nil,hk,hd=>.nil
 |_,_,k,d,k',v,.cons (k:=c) (k':=c') hc a l,hk,hd=>by
  rw [map_cons,map_cons];by_cases h:c=k
  ·subst h;rw [iP rfl,iP (zLM hc hk)];exact .cons hc hd (zMS l hk hd)
  ·have hn: ¬c'=k':=λz=>h (zIA hc (z.symm▸hk));rw [iN h,iN hn];exact .cons hc a (zMS l hk hd)
theorem DenK.append: ∀{kvs kvs':Cb}{xs xs':List (Key×V)},DenK X.K α H kvs xs->DenK X.K α H kvs' xs'->DenK X.K α H (kvs++kvs') (xs++xs')
 |_,_,_,_,.nil,h=>h
 |_,_,_,_,.cons hk a l,h=>.cons hk a (DenK.append l h)
theorem DenK.length: ∀{kvs:Cb}{xs:List (Key×V)},DenK X.K α H kvs xs->xs.length=kvs.length
 |_,_,.nil=>rfl
 |_,_,.cons _ _ l=>by rw [lC,lC,DenK.length l]
def yHP{kvs:Cb}{ks:List (Key×V)}{k d:MV}{k':Key}{v:V}(l:DenK X.K α H kvs ks)(hk:KeyD k k')(hd:Den X.K α H d v):DenK X.K α H (putK kvs k d) (zMR ks k' v):=by
 unfold putK zMR;rw [zVF l hk];by_cases h:(look kvs k).isSome=true
 ·rw [iP h,iP h];exact zMS l hk hd
 ·rw [iN h,iN h];exact l.append (.cons hk hd .nil)
def DK(X:Cx)(H:Hp)(d:Addr)(ks:List (Key×V)):Prop:=H d=some (.dK ks)\/False
def zLN(I:Inv X pins σ H s){ks:List (Key×V)}{d:Addr}(h:DK X H d ks):ks.length<=sizeLine/\(d==sysModules)=false/\ ∃vs,KV ks vs/\s.heap.DictOf (wA X.prog X.w) d vs:=by
 rcases h with h|z
 ·exact(show ObjOk X.prog X.w H s.heap d (.dK ks)from I.hok d _ h)
 ·exact False.elim z
theorem zQP: ∀{kvs:Cb}{ks:List (Key×V)},DenK X.K α H kvs ks->DenL X.K α H (kvs.map (·.1)) (ks.map λp=>kV p.1)
 |_,_,.nil=>yI
 |_,_,.cons (k:=c) (k':=c') hc a l=>by
  refine yB ?_ (zQP l)
  cases c with
  |int i=>rw [show c'=.inl i from hc];exact xF i
  |str x=>rw [show c'=.inr (mkS x)from hc];exact zBO x
  |_=>exact False.elim hc
end
def StrAt(val:Nat->Key)(i:Nat)(v:Value):Prop:=(∃x t,val i=.inr x/\v=.str x t)\/ ∃x t,val i=.inl x/\v=.int x t
def StrAt.is{P:Program}{w:World}{val:Nat->Key}{i:Nat}{v:Value}(h:StrAt val i v):(wA P w).is (val i) v=true/\v.scannable=true:=by
 rcases h with⟨x,t,e,rfl⟩|⟨x,t,e,rfl⟩<;>rw [e]
 ·exact⟨zDT P w x t,rfl⟩
 ·exact⟨zKH P w x t,rfl⟩
section
variable{X:Cx}{W:XW}{o e:Expr}{es:Bd}{f:AX}{af:Rho->Sto->R (List Er)}{apos pos:Pos}{to:TE}{t:TA}{T:String}{name:Str}{id:String}{r:V->List V->Hp->VK->Prop}
def zIB(X:Cx)(T:String)(TY:V->Hp->Prop):Prop:= ∀(pins:Ba)(s:Shared)(σ:St)(H:Hp)(x:V)(v:Value),Inv X pins σ H s->RelV x v->TY x H->s.TypeIs v T/\ ∀a,v=.ref a-> ∃ob,s.heap.get? a=some ob/\ob.dict=none
def yRJ{TY:V->Hp->Prop}(hTY:zIB X T TY)(pa:PlainAttrs T)(slot:Slot T name id)(hty:typeOf (.builtin id)=pure (.type "method_descriptor"))(hm:MtR X id r)(ho:PE X o to)(ha:PA X (e::es) t)
  (hbase:attributeBase o name X.env (eval o X.env)=eval o X.env)
  (hfew:((backTo pos (starEach (e::es) X.env)).all (λx=>!x.1)&&(backToKw pos (keywordEach [] X.env)).all (λx=>x.1.isSome)
   &&decide ((e::es).length+([]:List Keyword).length+(if([]:List Keyword).isEmpty then 0 else 1)<30))=true)
  (hline:(apos.endLine==pos.line)=true) (hs:starEach (e::es) X.env=(false,eval e X.env)::starEach es X.env) (hplain:(backTo pos (starEach es X.env)).any (·.1)=false):
  PE X (.Call (.Attribute o name apos) (e::es) [] pos) (λσ H Q=>to σ H λx H1=>TY x H1/\t σ H1 λvs H2=>r x vs H2 Q):=by
 intro pins s σ H Q I h;refine wpAny_Call_method_late hbase hfew hline rfl (thn (ho pins s σ H _ I h) λv s1 ⟨x,H1,I1,r1,ty,q1⟩=>?_);obtain⟨h1,h2⟩:=hTY pins s1 σ H1 x v I1 r1 ty;refine⟨T,id,pa,slot,hty,h1,h2,?_⟩;have hA:=ha pos pins s1 σ H1 _ I1 q1;rw [hs]at hA ⊢;refine Calls.callWith_builtin (by show(false || (backTo pos (starEach es X.env)).any (·.1))=false;rw [hplain]<;>rfl) (Calls.evalArgs_plain ?_);exact thn hA λus s2 ⟨vs,H2,I2,r2,q2⟩=>hm pins s2 σ H2 x vs v us Q I2 r1 r2 q2
end
def VAt(d:Addr)(us:Ae)(ep:Nat)(h:Heap):Prop:= ∃o es,h.get? d=some o/\o.ExactDict/\o.data=.dict es ep/\es.toList.map (·.val)=us
def VAt.at{d:Addr}{us:Ae}{ep:Nat}{h h':Heap}(x:VAt d us ep h)(m: ∀o,h.get? d=some o->h'.get? d=some o):VAt d us ep h':=let ⟨o,es,ho,r⟩:=x;⟨o,es,m o ho,r⟩
theorem VAt.size{d:Addr}{us:Ae}{ep:Nat}{h:Heap}(x:VAt d us ep h): ∃o es,h.get? d=some o/\o.ExactDict/\o.data=.dict es ep/\es.size=us.length/\ ∀i (hi:i<es.size),us[i]? =some es[i].val:=by obtain⟨o,es,ho,hc,hd,e⟩:=x;refine⟨o,es,ho,hc,hd,by rw [<-e,lM,Array.length_toList],λi hi=>?_⟩;rw [<-e,getElem?_map,Array.getElem?_toList,Array.getElem?_eq_getElem hi];rfl
section
variable{X:Cx}{W:XW}{a b:Expr}{f g:AX}{pos:Pos}
def yHQ(neg:Bool)(p q:Er)(S:Sto):R Er:=match p,q with
 |.val (.bl x),.val (.bl y)=>.ok (.val (.bl (if neg=true then !(x==y)else x==y))) S
 |_,_=>.no
abbrev rIsB(neg:Bool):R2:=λx y H Q=> ∃c d,x=.bl c/\y=.bl d/\Q (.bl (if neg=true then !(c==d)else c==d)) H
theorem yHR(c d:Bool):(Value.bool c==Value.bool d)=(c==d):=by cases c<;>cases d<;>rfl
theorem yDQ:OpR X (compareOp .IsNot) (rIsB true):=by intro pins s σ H x y v u Q I rx ry h;obtain⟨c,d,rfl,rfl,q⟩:=h;cases rx;cases ry;refine wpAny_isNot_plain rfl ⟨.bl (!(c==d)),H,I,?_,q⟩;rw [yHR];rfl
def yLZ{neg:Bool}:Op2 X W (rIsB neg) (yHQ neg):=by
 intro p q x y α S H Q wd dp dq post;unfold yHQ at post;split at post
 ·exact⟨_,_,zDW dp,zDW dq,Post.val post wd (kH _)⟩
 ·exact post.elim
def yDR(ha:PEm X W a f)(hb:PEm X W b g):PTm X W (.Compare a [.IsNot] [b] pos) (λρ S=>((f ρ S).bind λp S1=>(g ρ S1).bind λq S2=>yHQ true p q S2).bind asB):=zGN yDQ yLZ ha hb
end
end M
end L2
namespace L2
open PySem PySem.Spec PyProof.Rows
open Builtin Builtin.ObjectAttr
section
variable{prog:Program}{w:World}{A:Around}{E:VP}{h:Heap}{g:Array GenState}{d:Drawn}{t:Nat}{os:OsState}{C M x:Addr}{o:Obj}{v:Value}{name:Str}
variable{nm q:Str}{N:Addr}{bs bm:Ae}{sn:Ai}{sub:Ae}{ab:Bool}{col:Option Bool}{dd:Option Addr}{k0 k1 k2 k3 k5:Option Value}{newId:String}
def SetAt(h h':Heap)(x:Addr)(o:Obj)(name:Str)(v:Value)(dx:Addr):Prop:=
 h.get? dx=none/\dx≠x/\h'.get? x=some {cls:=o.cls,dict:=some dx,data:=o.data,slots:=o.slots}/\h'.Ns1 dx (λy=>if y=name then some v else none)/\ ∀b ob,b≠x->h.get? b=some ob->h'.get? b=some ob
end
abbrev BIG:Nat:=10 ^ 100
section
variable{X:Cx}{par:Str}{i:Nat}{pins:Ba}{σ:St}{H:Hp}
def tJ(i:Nat):TE:=λσ H Q=> ∃n,σ[i]? =some (some (.int n))/\n.natAbs<BIG/\ ∀y:Str,Q (.str y) H
end
namespace M
structure XIn(K:Be)(M C f:Addr):Prop where
 ex: ∃nm q N bs sn sub ab col dd k0 k1 k2 k3 k5,K.lookup C=some (excClassObj nm q C N bs (.ref M::bmV) true sn sub ab col dd k0 k1 k2 k3 k5 "ValueError.__new__")/\PySem.W.nsOkIn K N=true/\PySem.W.nsIn K N "__init__"=some (some (.ref f))/\ ∀n∈qn,PySem.W.nsIn K N n=some none
 fo: ∃o,K.lookup f=some o/\o.cls=.type "function"
def XIn.cl{K:Be}{M C f:Addr}(x:XIn K M C f):XCl K C (.ref M::bmV) (some (.ref f)):=by obtain⟨nm,q,N,bs,sn,sub,ab,col,dd,k0,k1,k2,k3,k5,a,b,c,d⟩:=x.ex;exact⟨nm,q,N,bs,true,sn,sub,ab,col,dd,k0,k1,k2,k3,k5,a,b,c,d,rfl⟩
structure DefM(K:Be)(mg:Aj)(x:Str)(st:Stmt):Prop where
 ex: ∃f fd,mg x=some (.ref f)/\Fun K x x st f fd
def def_mk{K:Be}{mg:Aj}{h:Heap}{x:Str}{st:Stmt}{g:Addr}{od an:Option Addr}{sl:Array (Option Value)}{oc kV dc pm cd ct:Value}(a:PySem.W.nsIn K mainGlobals x=some (some (.ref g)))
  (l:K.lookup g=some ⟨oc,od,.func (PySem.W.fnOf x x (wB st) (xE st) (zE st) .none kV dc pm an cd ct),sl⟩) (c:PySem.W.codeIn K cd x=true) (k:PySem.W.keepIn K (.ref g)=true) (X:K.In h) (GG:h.Ns mainGlobals mg):DefM K mg x st:=⟨_,_,PySem.W.mg_of X GG a,zBL l c k⟩
structure Cal(P:Program)(w:World)(K:Be)(mg:Aj)(base:Heap)(CX:CXT)(x:Str)(k:Nat)(ps:Ai)(sp:Sp):Prop where
 ex: ∃fa fd,FnOk P w K mg base CX k fa fd ps sp/\mg x=some (.ref fa)/\PySem.W.keepIn K (.ref fa)=true/\Binds K fd ps []
abbrev CalM(P:Program)(w:World)(K:Be)(mg:Aj)(base:Heap)(x:Str)(k n:Nat)(ps:Ai)(F:List MV->Sto->R Er):Prop:=Cal P w K mg base CX0 x k ps (spM ⟨K,mg,P,w⟩ n F)
abbrev CalX(P:Program)(w:World)(K:Be)(mg:Aj)(base:Heap)(x:Str)(k n:Nat)(ps:Ai)(F:List MV->Sto->R Er):Prop:=Cal P w K mg base (CXe P w) x k ps (spX ⟨K,mg,P,w⟩ n F)
section
variable{P:Program}{w:World}{K:Be}{mg:Aj}{base:Heap}{x:Str}{st:Stmt}{N ps:Ai}{k n:Nat}{F:List MV->Sto->R Er}
abbrev yRK(x:Str)(st:Stmt)(ps:Ai):Prop:= ∀(kV doc pm:Value)(an:Option Addr)(cdv ct:Value)(us:Ae),us.length=ps.length->bindArgs (PySem.W.fnOf x x (wB st) (xE st) (zE st) .none kV doc pm an cdv ct) ⟨us,[]⟩=pure (ps.zip us)
def okC(D:DefM K mg x st)(hb:yRK x st ps)(h: ∀f fd,Fun K x x st f fd->FnOk P w K mg base CX0 k f fd ps (spM ⟨K,mg,P,w⟩ n F)):CalM P w K mg base x k n ps F:=
 let ⟨f,fd,m,Fu⟩:=D.ex;⟨f,fd,h f fd Fu,m,Fu.kp,Fu.binds hb⟩
def Cal.noX(G:CalX P w K mg base x k n ps F):CalM P w K mg base x k n ps F:=let ⟨fa,fd,G,m,kp,b⟩:=G.ex;⟨fa,fd,G.noX,m,kp,b⟩
def yRL{l:PySem.W.OpenLaw}{fa:Addr}{p:Str}(D:DefM K mg x st)(hfa:mg x=some (.ref fa))(hb: ∀(kV doc pm:Value)(an:Option Addr)(cdv ct:Value)(s:Shared)(v:Value),BindsTo s (PySem.W.fnOf x x (wB st) (xE st) (zE st) .none kV doc pm an cdv ct) ⟨[v],[]⟩ [(p,v)])
  (h: ∀base f fd,Fun K x x st f fd->FnOk l.prog w K mg base CX0 k f fd [p] (spM ⟨K,mg,l.prog,w⟩ 1 F)):
  ∃fd:FuncData,(∀(s:Shared)(v:Value),BindsTo s fd ⟨[v],[]⟩ [(p,v)])/\ ∀base:Heap,K.In base->base.Ns mainGlobals mg->FnOk l.prog w K mg base CX0 k fa fd [p] (zQJ K F):=by
 obtain⟨f,fd,m,Fu⟩:=D.ex;rw [hfa]at m;cases m;refine⟨fd,?_,λbase _ _=>(h base fa fd Fu).imp λvs H Q E=>yHC (g:=⟨K,mg,l.prog,w⟩) vs H Q E⟩;obtain⟨_,_,_,_,_,_,_,_,_,rfl,_,_⟩:=Fu.ex;exact hb _ _ _ _ _ _
end
section
variable{X:Cx}{W:XW}{E:XK}{e:Expr}{es:Bd}{af:Rho->Sto->R (List Er)}{k n:Nat}{ps:Ai}{F:List MV->Sto->R Er}{x:Str}{p pos:Pos}
def zL(G:CalM X.prog X.w X.K X.mg X.base x k n ps F)(hr:Room k X.A)(hg:Gl X x)(ha:PAm X W (e::es) af)(hdb:(x==("__debug__":Str))=false:=by decide)
  (he:starEach (e::es) X.env=(false,eval e X.env)::starEach es X.env:=by rfl) (hpl:(backTo pos (starEach es X.env)).any (·.1)=false:=by rfl):PEm X W (.Call (.Name x p) (e::es) [] pos) (λρ S=>(af ρ S).bind λrs S1=>zU n F rs S1):=
 let ⟨_,_,G,m,kp,b⟩:=G.ex;yKQ G hr hg m kp b ha hdb he hpl
variable{M:Addr}{cs:List (Str×Addr)}{i j:Nat}{nm y:Str}{Fh:AY}{b0:Stmt}{suite:List Stmt}{mp hpos cpos epos pos':Pos}{ns:Ai}
end
end M
end L2
namespace L2
open PySem PySem.Spec PyProof.Rows
structure RoomH(k:Nat)(A:Around):Prop where
 dp:A.depth+3 * k+5<recursionLimit
 un:A.units+16 * k+200<cLine
def RoomH.depth{k:Nat}{A:Around}(r:RoomH k A):A.depth<recursionLimit:=by have:=r.dp;omega
def RoomH.units{k:Nat}{A:Around}(r:RoomH k A):A.units+64<cLine:=by have:=r.un;omega
structure FnOkH(P:Program)(w:World)(K:Be)(mg:Aj)(base:Heap)(k:Nat)(f:Addr)(fd:FuncData)(ps:Ai)(sp:Sp):Prop where
 len: ∀vs H Q E,sp vs H Q E->vs.length=ps.length
 run: ∀(A:Around)(outer:List Env)(s:Shared)(H:Hp)(args:Args)(us:Ae)(vs:List V)(Q:VK)(E:XK),RoomH k A->Env0 P w K mg base A outer s H->BindsTo s fd args (ps.zip us)->Vals vs us->sp vs H Q E->
  codeAny (model P w) A (.call (.ref f) args) (CR CX0 outer P w H s Q E) s
namespace M
section
variable{P:Program}{w:World}{K:Be}{mg:Aj}{base:Heap}{x:Str}{st:Stmt}{N ps:Ai}{k n:Nat}{F:List MV->Sto->R Er}
structure CalH(P:Program)(w:World)(K:Be)(mg:Aj)(base:Heap)(x:Str)(k n:Nat)(ps:Ai)(F:List MV->Sto->R Er):Prop where
 ex: ∃fa fd,FnOkH P w K mg base k fa fd ps (spM ⟨K,mg,P,w⟩ n F)/\mg x=some (.ref fa)/\PySem.W.keepIn K (.ref fa)=true/\Binds K fd ps []
end
def maxF:List Er->Sto->R Er
 |[.val (.int i),.val (.int j)],S=>.ok (.val (.int (if j>i then j else i))) S
 |_,_=>.no
def yDS:List Er->Sto->R Er
 |[.val (.int i),.val (.int j)],S=>.ok (.val (.int (if j<i then j else i))) S
 |_,_=>.no
section
variable{X:Cx}{W:XW}
def yHS:nK X W (λxs H Q=> ∃i j,xs=[.int i,.int j]/\Q (.int (if j<i then j else i)) H) yDS:=by
 intro rs vs α S H Q wd d post;unfold yDS at post;split at post
 ·obtain⟨v,u,rfl,dv,du⟩:=yOD d;cases yW dv;cases yW du;exact⟨_,_,rfl,Post.val post wd (xF _)⟩
 ·exact post.elim
end
def yHT:bootBuiltins "min"=some (.builtin "min"):=by decide+kernel
section
variable{X:Cx}{W:XW}{o e:Expr}{es:Bd}{f:AX}{af:Rho->Sto->R (List Er)}{apos pos:Pos}
def lit3F(kvs:Cb)(S:Sto):R Er:=.ok (.val (.loc S.length)) (S++[.dic kvs])
end
section
variable{X:Cx}{W:XW}{o e:Expr}{es:Bd}{f:AX}{af:Rho->Sto->R (List Er)}{apos pos:Pos}
def cZ(ks:List (Key×V))(k:Key):Option V:=(ks.find? λp=>decide (p.1=k)).map (·.2)
theorem zSK: ∀{ks:List (Key×V)}{vs:List (Key×Value)}(r:KV ks vs)(k:Key),(∀v,cZ ks k=some v-> ∃u,valueAt vs k=some u/\RelV v u)/\(cZ ks k=none->valueAt vs k=none)
 |_,_,.nil,k=>⟨λv h=>(nomatch h),λ_=>rfl⟩
 |(a,x)::ks,(b,u)::vs,.cons ⟨h1,h2⟩ l,k=>by
  cases (show a=b from h1);have ih:=zSK l k;unfold cZ valueAt;by_cases c:a=k
  ·simp only [find?_cons,c,decide_true,Option.map_some];exact⟨λv h=>⟨u,rfl,by cases h;exact h2⟩,λh=>nomatch h⟩
  ·simp only [find?_cons,c,decide_false];exact ih
theorem zJL{α:Ah}{H:Hp}: ∀{kvs:Cb}{ks:List (Key×V)}{k:MV}{k':Key},DenK X.K α H kvs ks->KeyD k k'->(∀d,look kvs k=some d-> ∃v,cZ ks k'=some v/\Den X.K α H d v)/\(look kvs k=none->cZ ks k'=none)
 |_,_,_,_,.nil,_=>⟨λd h=>(nomatch h),λ_=>rfl⟩
 |_,_,k,k',.cons (k:=k0) (k':=k0') (d:=d0) (v:=v0) h1 h2 l,hk=>by
  have ih:=zJL l hk;rw [zJH];unfold cZ;by_cases c:k0=k
  ·subst c;have:=zLM h1 hk;simp only [find?_cons,this,decide_true,Option.map_some,iP rfl];exact⟨λd h=>⟨v0,rfl,by cases h;exact h2⟩,λh=>nomatch h⟩
  ·have hn: ¬k0'=k':=λz=>c (zIA h1 (z▸hk));simp only [find?_cons,hn,decide_false,iN c];exact ih
def TyK(X:Cx)(x:V)(H:Hp):Prop:= ∃d ks,x=.ref d/\DK X H d ks
def yHU:zIB X "dict" (TyK X):=by intro pins s σ H x v I rx ⟨d,ks,e,dd⟩;subst e;cases rx;obtain⟨_,hs,vs,kv,o,es,ep,ho,hc,_⟩:=zLN I dd;exact⟨⟨o,ho,hc.1⟩,λa e=>by cases e;exact⟨o,ho,hc.2.1⟩⟩
end
section
variable{α β:Type}
def vJ(i:Nat)(ρ:Rho)(S:Sto):R Er:=rdSl (ρ[i]?) S
def kJ(d:MV)(_:Rho)(S:Sto):R Er:=.ok (.val d) S
def bJ(f:Rho->Sto->R α)(F:α->Sto->R β)(ρ:Rho)(S:Sto):R β:=(f ρ S).bind F
def dJ(F:Er->Er->Sto->R Er)(f g:AX)(ρ:Rho)(S:Sto):R Er:=(f ρ S).bind λp S=>(g ρ S).bind λq S=>F p q S
def nJ(f:AX)(ρ:Rho)(S:Sto):R Er:=(f ρ S).bind λp S=>(asB p S).bind λk S=>.ok (.val (.bl !k)) S
def aJ(f g:AX)(ρ:Rho)(S:Sto):R Er:=(f ρ S).bind λp S=>zUS p S λS=>g ρ S
def oJ(f g:AX)(ρ:Rho)(S:Sto):R Er:=(f ρ S).bind λp S=>orF p S λS=>g ρ S
def iJ(c:AZ)(f g:Rho->Sto->R α)(ρ:Rho)(S:Sto):R α:=(c ρ S).bind λk S=>if k=true then f ρ S else g ρ S
def mJ(_:Rho)(S:Sto):R (Option Int):=.ok none S
def tJ(F:Er->Option Int->Option Int->Sto->R Er)(f:AX)(g h:Rho->Sto->R (Option Int))(ρ:Rho)(S:Sto):R Er:=(f ρ S).bind λp S=>(g ρ S).bind λl S=>(h ρ S).bind λu S=>F p l u S
def lJ(k:Cb)(_:Rho)(S:Sto):R Er:=lit3F k S
def zJ(_:Rho)(S:Sto):R Er:=newDF S
def fJ(n:Nat)(F:List MV->Sto->R Er)(a:Rho->Sto->R (List Er))(ρ:Rho)(S:Sto):R Er:=(a ρ S).bind λr S=>zU n F r S
def xJ(n:Nat)(F:List MV->Sto->R Er)(a:Rho->Sto->R (List Er))(ρ:Rho)(S:Sto):R Er:=(a ρ S).bind λr S=>yAT n F r S
def hJ(F:List MV->Sto->R Er)(_:Rho)(S:Sto):R Er:=zU 0 F [] S
def eJ(t:Er->Sto->Bool)(F:Er->List Er->Sto->R Er)(f:AX)(a:Rho->Sto->R (List Er))(ρ:Rho)(S:Sto):R Er:=(f ρ S).bind λp S=>if t p S=true then(a ρ S).bind λr S=>F p r S else .no
def gJ(t:Er->Sto->Bool)(F:Er->List Er->Sto->R Er)(f:AX)(ρ:Rho)(S:Sto):R Er:=(f ρ S).bind λp S=>if t p S=true then F p [] S else .no
def uJ(_:Rho)(S:Sto):R Bool:=.ok true S
def pJ(i:Rho->Sto->R Wk)(g:MV->Rho->Sto->R Rho)(c:AZ)(e:AX)(n:Nat)(I:Ab)(ρ:Rho)(S:Sto):R Er:=(i ρ S).bind λk S=>if k.ds.length<1000000 then(yD g c e (blk n I ρ) k.gs k.ds S).bind λo S=>.ok (.new o) S else .no
def jJ(F G:Er->Er->Sto->R Er)(f g h:AX)(ρ:Rho)(S:Sto):R Er:=(f ρ S).bind λp S=>(g ρ S).bind λq S=>chF F G p q S λS=>h ρ S
def qJ(f:AZ)(ρ:Rho)(S:Sto):R Bool:=(f ρ S).bind λk S=>.ok (!k) S
def rJ(f g:AZ)(ρ:Rho)(S:Sto):R Bool:=(f ρ S).bind λk S=>if k=true then g ρ S else .ok false S
def sJ(f g:AZ)(ρ:Rho)(S:Sto):R Bool:=(f ρ S).bind λk S=>if k=true then .ok true S else g ρ S
def wJ(_:Rho)(S:Sto):R (List Er):=.ok [] S
def yJ(f:AX)(g:Rho->Sto->R (List Er))(ρ:Rho)(S:Sto):R (List Er):=(f ρ S).bind λp S=>(g ρ S).bind λl S=>.ok (p::l) S
def AJ(f:AX)(ρ:Rho)(S:Sto):R Fl:=(f ρ S).bind λr S=>.ok (.ret r) S
def BJ(f:AX)(ρ:Rho)(S:Sto):R Fl:=(f ρ S).bind λ_ S=>.ok (.next ρ) S
def CJ(f:AX)(i:Nat)(ρ:Rho)(S:Sto):R Fl:=(f ρ S).bind (zRX ρ i)
def DJ(F:Er->Er->MV->Rho->Sto->R Rho)(f g:AX)(d:MV)(ρ:Rho)(S:Sto):R Rho:=(f ρ S).bind λp S=>(g ρ S).bind λq S=>F p q d ρ S
def EJ(f:AX)(g:MV->Rho->Sto->R Rho)(ρ:Rho)(S:Sto):R Fl:=(f ρ S).bind (asgF g ρ)
def FJ(i:Rho->Sto->R Wk)(g:MV->Rho->Sto->R Rho)(b:AY)(ρ:Rho)(S:Sto):R Fl:=(i ρ S).bind λk S=>bT g b k.gs k.ds ρ S
def GJ(a:Rho->Sto->R (List Er))(c:Str)(ρ:Rho)(S:Sto):R Fl:=(a ρ S).bind λr S=>if r.length<=10 then .exc c [] S else .no
def HJ(cs:Ai)(i:Nat)(h:AY)(n:Nat)(F:List MV->Sto->R Er)(a:Rho->Sto->R (List Er))(ρ:Rho)(S:Sto):R Fl:=(noX (a ρ S)).bind λr S=>tryF cs i (λ_ S=>.ok (.next ρ) S) h ρ (yAT n F r S)
def IJ(cs:Ai)(i j:Nat)(h:AY)(n:Nat)(F:List MV->Sto->R Er)(a:Rho->Sto->R (List Er))(ρ:Rho)(S:Sto):R Fl:=(noX (a ρ S)).bind λr S=>tryF cs i (zRX ρ j) h ρ (yAT n F r S)
def JJ(ρ:Rho)(S:Sto):R Fl:=.ok (.next ρ) S
end
section
variable{X:Cx}{W:XW}{a e:Expr}{tg:Expr}{p pos:Pos}{ta:TA}{f:AX}{af:Rho->Sto->R (List Er)}
def itV(rs:List Er)(S:Sto):R Wk:=match rs with
 |[p]=>match srcOf S p with
  |some a=>if a.k=true then .ok ⟨a.ds.reverse,a.gs⟩ S else .no
  |none=>.no
 |_=>.no
def augF(F:Er->Er->Sto->R Er)(i:Nat)(f:AX)(ρ:Rho)(S:Sto):R Fl:=(rdSl (ρ[i]?) S).bind λp S1=>(f ρ S1).bind λq S2=>(F p q S2).bind (zRX ρ i)
def intsOf:List MV->Option (List Int)
 |[]=>some []
 |.int i::ds=>(intsOf ds).map (i::·)
 |_::_=>none
theorem ints_of{K:Be}{α:Ah}{H:Hp}: ∀{ds:Bh}{ns:Ad}{vs:List V}{us:Ae},intsOf ds=some ns->DenL K α H ds vs->Vals vs us->IntsAre us ns
 |[],ns,vs,us,e,d,r=>by cases e;rw [d.isnil]at r;cases r;exact .nil
 |x::ds,ns,vs,us,e,d,r=>by
  obtain⟨v,r',rfl,d1,d2⟩:=d.uncons
  cases r with
  |cons a b=>
   cases x<;>first |(cases e)|skip
   rename_i i;unfold intsOf at e
   cases z:intsOf ds with
   |none=>rw [z]at e;cases e
   |some ms=>
    rw [z]at e;cases e;cases yV d1;obtain⟨t,rfl⟩:=a;exact .cons _ _ (ints_of z d2 b)
theorem zFM: ∀{us:Ae}{ns:Ad},IntsAre us ns->Vals (ns.map V.int) us
 |_,_,.nil=>.nil
 |_,_,.cons n t h=>.cons ⟨t,rfl⟩ (zFM h)
def zQQ:CallR X (.builtin "sorted") (λxs H Q=> ∃l vs ds ns α,xs=[.ref l]/\SqL X.K H l vs/\intsOf ds=some ns/\DenL X.K α H ds vs/\ds.length<64/\ ∀p,H p=none->Q (.ref p) (upd H p (.lst ((PySem.W.sortI ns).map V.int)))):=by
 intro pins s σ H xs us Q I r h;obtain⟨l,vs,ds,ns,α,rfl,hl,hi,hd,hz,q⟩:=h;obtain⟨u,rfl,rx⟩:=vals1 r;cases rx;obtain⟨its,rv,p,_⟩:=I.list hl;have ia:=ints_of hi hd rv;have hlen:its.length<64:=by have:=rv.length;have:=hd.length;omega
 refine sorted_ints p.isList ia hlen λout ns' a1 a2 a3=>?_;obtain⟨e,he⟩:=sortedAll_at s.heap its out;have en:=PySem.W.eq_sortI a2 a3;subst en;refine⟨.ref (s.heap.objs.size+1),_,I.laid (t':=s.toks) (λb o e=>sortedAll_old e) (le_succ _) (show ObjOk X.prog X.w _ _ _ (.lst ((PySem.W.sortI ns).map V.int))from⟨?_,out.toList,e,zFM a1,?_⟩),rfl,q _ (I.hok.fresh (le_succ _))⟩
 ·have e1:=(zFM a1).length;have e2:=a2.length_eq;have e3:=(zFM ia).length;have:=sizeLine_eq;rw [lM]at e1 e3 ⊢;omega
 ·rw [Array.toArray_toList];exact he
def zBW:bootBuiltins "sorted"=some (.builtin "sorted"):=by decide+kernel
def zVG(rs:List Er)(S:Sto):R Er:=match rs with
 |[p]=>match xX S p with
  |some ds=>if ds.length<64 then(match intsOf ds with |some ns=>.ok (.new ((PySem.W.sortI ns).map MV.int)) S|none=>.no)else .no
  |none=>.no
 |_=>.no
def yAY:nK X W (λxs H Q=> ∃l vs ds ns α,xs=[.ref l]/\SqL X.K H l vs/\intsOf ds=some ns/\DenL X.K α H ds vs/\ds.length<64/\ ∀p,H p=none->Q (.ref p) (upd H p (.lst ((PySem.W.sortI ns).map V.int)))) zVG:=by
 intro rs vs α S H Q wd d post;unfold zVG at post;split at post
 ·split at post
  ·rename_i ds e;split at post
   ·rename_i hz;split at post
    ·rename_i ns hi;obtain⟨v,rfl,dv⟩:=cW d;obtain⟨l,us,rfl,h1,h2⟩:=nN rfl wd e dv;exact⟨l,us,ds,ns,α,rfl,h1,hi,h2,hz,λp hp=>Post.newl post wd hp (zFH _)⟩
    ·exact post.elim
   ·exact post.elim
  ·exact post.elim
 ·exact post.elim
end
section
def KJ(n:Nat)(F:List MV->Sto->R Er)(a:Rho->Sto->R (List Er))(ρ:Rho)(S:Sto):R Er:=(noX (a ρ S)).bind λr S=>yAT n F r S
def LJ(c:AZ)(f g:AX)(ρ:Rho)(S:Sto):R Er:=(noX (c ρ S)).bind λk S=>if k=true then f ρ S else g ρ S
def MJ(cs:Ai)(i:Nat)(h:AY)(f:AX)(ρ:Rho)(S:Sto):R Fl:=tryF cs i (λ_ S=>.ok (.next ρ) S) h ρ (f ρ S)
end
section
variable{X:Cx}{W:XW}{a:Expr}{af:Rho->Sto->R (List Er)}{ta:TA}{pos pos2 p2 p3:Pos}
def yDT(r:Addr)(j:Int):HO:=.ext λh=> ∃t u v,IsRange h r 0 j 1 t u v
def yRM(hg:Gl X "range")(hm:X.mg "range"=none)(ha:PA X [a] ta)(hs:starEach [a] X.env=[(false,eval a X.env)]:=by rfl):
  PE X (.Call (.Name "range" p3) [a] [] pos2) (λσ H Q=>ta σ H λvs H1=> ∃j:Int,vs=[.int j]/\ ∀r,H1 r=none->Q (.ref r) (upd H1 r (yDT r j))):=by
 intro pins s σ H Q I h;refine Call_ (zIP I hg hm boot_range (PyProof.Rows.callWith_type1 (thn (ha pos2 pins s σ H _ I h) λus s1 ⟨vs,H1,I1,r1,q1⟩=>?_) hs rfl));obtain⟨j,rfl,q⟩:=q1;obtain⟨u,rfl,t,rfl⟩:=vals1 r1;refine call_range_1 ?_;have hlt:H1 s1.heap.objs.size=none:=I1.hok.fresh (le_refl _);refine⟨.ref s1.heap.objs.size,_,I1.laid (o:=yDT s1.heap.objs.size j) (t':=s1.toks+1+1) (λb o e=>hP0 _ e) (le_refl _) ⟨⟨_,_,_,IsRange.new ..⟩,⟨_,Heap.get?_push_size _ rfl⟩,?_⟩,rfl,q _ hlt⟩;rintro h1 h2 ⟨t,u,v,hr⟩ mv;exact⟨t,u,v,mv _ hr⟩
def zPC{prog:Program}{w:World}{A:Around}{E:VP}{s:Shared}{Q:List Value->Shared->Prop}{r:Addr}{a b c:Int}{t u v:Tok}{n:Nat}(hh:A.handled=none)(hr:IsRange s.heap r a b c t u v)(hsmall:Builtin.Range.small a b c=true)
  (hn:Builtin.Range.rangeSize a b c=n) (hlen:n<=2 ^ 24) (hQ: ∀h' tk acc',(∀b o,s.heap.get? b=some o->h'.get? b=some o)->ItemsOf (λi v=> ∃t,v=.int (a+i * c) t) acc' n->Q acc'.toList {s with heap:=h',toks:=tk}):
  wpAny (model prog w) A (collect (.ref r)) Q E s:=by
 unfold collect;refine wB0 (wpAny_runValue (codeAny_builtin F.entry_proto_collect ?_));rw [Around.under_plainId F.plain_proto_collect _];show wpAny _ A.in1 (newList [] >>= λl=>again (.builtin "list.__iadd__" ⟨[l,.ref r],[]⟩)) _ _ s;refine wB0 (wpAny_newObj_type ?_);refine wP0 ⟨plainId_quiet F.plain_list_iadd _,codeAny_builtin F.entry_list_iadd ?_⟩;rw [Around.under_plainId F.plain_list_iadd _];show wpAny _ A.in1 (Builtin.List.listExtendWith (.ref s.heap.objs.size) (.ref r) (.ref s.heap.objs.size)) _ _ _;have hS:(s.heap.push {cls:=.type "list",data:=.seq ([]:Ae).toArray}).get? s.heap.objs.size=some {cls:=.type "list",data:=.seq #[] 0}:=Heap.get?_push_size _ rfl
 have fin': ∀h' tk acc' c',(∀b o,b≠s.heap.objs.size->(s.heap.push {cls:=.type "list",data:=.seq ([]:Ae).toArray}).get? b=some o->h'.get? b=some o)->h'.get? s.heap.objs.size=some {cls:=.type "list",dict:=none,data:=.seq acc' c',slots:=#[]}->ItemsOf (λi v=> ∃t,v=.int (a+i * c) t) acc' n->
   wpAny (model prog w) A (match Value.ref s.heap.objs.size with
   |Value.ref a=>do
    match (<-load a).data with
     |Data.seq xs _=>pure xs.toList
     |_=>unsupported "internal:collect"
   |_=>unsupported "internal:collect") Q E {s with heap:=h',toks:=tk}:=by
  intro h' tk acc' c' hk hS' hacc;show wpAny _ A (load s.heap.objs.size >>= _) _ _ _;refine wB0 (wpAny_load hS' ?_);refine wP0 ?_;exact hQ h' tk acc' (λb o e=>hk b o (ne_of_lt (Heap.lt_size e)) (hP0 _ e)) hacc
 refine wpAny_mono (wpAny_extend_range (A:=A) (s:={s with heap:=s.heap.push {cls:=.type "list",data:=.seq ([]:Ae).toArray}}) (R:=λres s'=>res=.ok (.ret (.ref s.heap.objs.size))/\ ∃h' tk acc' c',s'={s with heap:=h',toks:=tk}/\(∀b o,b≠s.heap.objs.size->(s.heap.push {cls:=.type "list",data:=.seq ([]:Ae).toArray}).get? b=some o->h'.get? b=some o)/\h'.get? s.heap.objs.size=some {cls:=.type "list",dict:=none,data:=.seq acc' c',slots:=#[]}/\ItemsOf (λi v=> ∃t,v=.int (a+i * c) t) acc' n)
  hh (hP0 _ hr) hsmall hn hlen s.heap.objs.size (.ref s.heap.objs.size) 0 hS λh' tk acc' c' a1 a2 a3=>⟨rfl,h',tk,acc',c',rfl,a1,a2,a3⟩) (λfin s' h=>?_) (λe s' h=>?_)
 ·cases fin with
  |done f=>
   obtain⟨e,h',tk,acc',c',rfl,a1,a2,a3⟩:=h;cases e;exact fin' h' tk acc' c' a1 a2 a3
  |again c'=>exact⟨h.1,codeAny_mono h.2 λr s'' hr=>by obtain⟨rfl,h',tk,acc',c',rfl,a1,a2,a3⟩:=hr;exact fin' h' tk acc' c' a1 a2 a3⟩
 ·exact absurd h.1 (by simp)
end
section
variable{prog:Program}{w:World}{A:Around}{E:VP}{s:Shared}{r:Addr}{a b c:Int}{t u v:Tok}{n:Nat}
def zVH{Q₁:VP}(hh:A.handled=none)(hr:IsRange s.heap r a b c t u v)(hsmall:Builtin.Range.small a b c=true)(hn:Builtin.Range.rangeSize a b c=n)(hlen:n<=2 ^ 24)
  (h: ∀(h':Heap)(tk:Nat)(acc':Ag),(∀b o,s.heap.get? b=some o->h'.get? b=some o)->ItemsOf (λi v=> ∃t,v=.int (a+i * c) t) acc' n->Q₁ (.ref h'.objs.size) {s with heap:=h'.push {cls:=.type "tuple",data:=.seq acc'},toks:=tk}):
  codeAny (model prog w) A (.call (.builtin "tuple.__new__") ⟨[.type "tuple",.ref r],[]⟩) (wants Q₁ E) s:=by
 refine codeAny_of_tree ?_;show wpAny _ A.in1 (do checkBuiltinCall "tuple.__new__" ⟨[.type "tuple",.ref r],[]⟩;again (.builtin "tuple.__new__" ⟨[.type "tuple",.ref r],[]⟩)) _ _ s;refine wB0 (wpAny_of_eq (F.newCall_tuple_1 _) (wP0 ⟨plainId_quiet F.plain_tuple_new _,codeAny_builtin F.entry_tuple_new ?_⟩));rw [Around.under_plainId F.plain_tuple_new _];have hsub:=sub_tuple_self;have hinit:=init_tuple_lookup;have hmh:=madeHere_tuple;have hTI:s.TypeIs (.ref r) "range":=⟨_,hr,rfl⟩
 wp_walk using wpAny_typeOf hTI,zPC (A:=A.in1) hh hr hsmall hn hlen
 intro h' tk acc hk hacc;show wpAny _ _ (Builtin.Tuple.tupleExact acc.toList.toArray >>= λv=>ret v) _ _ _;unfold Builtin.Tuple.tupleExact;refine wB0 (wpAny_newObj_type ?_ (by show acc.toList.toArray.size<=sizeLine;simp only [Array.toArray_toList];rw [hacc.1,sizeLine_eq];omega));refine wP0 ?_;have e:acc.toList.toArray=acc:=by simp
 rw [e];exact h h' tk acc hk hacc
def zJM{Q:VP}(hh:A.handled=none)(hr:IsRange s.heap r a b c t u v)(hsmall:Builtin.Range.small a b c=true)(hn:Builtin.Range.rangeSize a b c=n)(hlen:n<=2 ^ 24)
  (hQ: ∀(h':Heap)(tk:Nat)(acc':Ag),(∀b o,s.heap.get? b=some o->h'.get? b=some o)->ItemsOf (λi v=> ∃t,v=.int (a+i * c) t) acc' n->Q (.ref h'.objs.size) {s with heap:=h'.push {cls:=.type "tuple",data:=.seq acc'},toks:=tk}):
  wpAny (model prog w) A (call (.type "tuple") [.ref r]) Q E s:=by
 refine callType_codes (Q₁:=λobj s₁=>s₁.TypeIs obj "tuple"/\Q obj s₁) F.called_tuple (F.typeCall_tuple_1 _) F.entry_object_init
  (zVH (A:=A.in1) hh hr hsmall hn hlen λh' tk acc hk hacc=>⟨⟨_,Heap.get?_push_size _ rfl,rfl⟩,hQ h' tk acc hk hacc⟩) λobj s₁ h₁=>?_
 exact⟨h₁.1,F.args_object_init_2 obj _,object_init_meets F.called_tuple.init.lookup F.called_tuple.made (by decide) prog w A.in1 _ s₁ ⟨h₁.1,rfl,h₁.2⟩⟩
end
section
variable{X:Cx}{W:XW}{a:Expr}{af:Rho->Sto->R (List Er)}{ta:TA}{pos pos2 p2 p3:Pos}
abbrev zVI(j:Int):List Int:=(List.range j.toNat).map Int.ofNat
def zYN{acc:Ag}{j:Int}(h:ItemsOf (λi v=> ∃t,v=Value.int (0+i * 1) t) acc j.toNat):Vals ((zVI j).map V.int) acc.toList:=by
 obtain⟨h1,h2⟩:=h;refine ?_
 have key: ∀(l:Ae)(k:Nat),(∀i v,l[i]? =some v-> ∃t,v=Value.int ((k+i:Nat):Int) t)->Vals (((List.range' k l.length).map Int.ofNat).map V.int) l:=by
  intro l
  induction l with
  |nil=>intro k _;exact .nil
  |cons x l ih=>
   intro k hh;obtain⟨t,rfl⟩:=hh 0 x rfl;rw [lC,List.range'_succ];refine .cons ⟨t,rfl⟩ (ih (k+1) λi v hv=>?_);obtain⟨t',e⟩:=hh (i+1) v hv;exact⟨t',by rw [e,show k+(i+1)=k+1+i by omega]⟩
 have:=key acc.toList 0 λi v hv=>by obtain⟨t,e⟩:=h2 i v (by rw [<-Array.getElem?_toList];exact hv);refine⟨t,e.trans ?_⟩;congr 1;omega
 rw [Array.length_toList,h1, <-List.range_eq_range']at this;exact this
def yHV{j:Int}:Builtin.Range.rangeSize 0 j 1=j.toNat:=by rw [rangeSize_one];split<;>omega
def yDU:CallR X (.type "tuple") (λxs H Q=> ∃r j,xs=[.ref r]/\H r=some (yDT r j)/\ -1000000<=j/\j<=1000000/\X.calm=true/\ ∀p,H p=none->Q (.ref p) (upd H p (.tup ((zVI j).map V.int)))):=by
 intro pins s σ H xs us Q I r h;obtain⟨r1,j,rfl,hr,j0,j1,hc,q⟩:=h;obtain⟨_,rfl,rx⟩:=vals1 r;cases rx;obtain⟨⟨t,u,v,hR⟩,_⟩:=(show ObjOk X.prog X.w H s.heap r1 (yDT r1 j)from I.hok r1 _ hr)
 refine zJM (I.ok.hd hc) hR (small_one (by decide) (by decide) (by omega) (by omega)) yHV (by omega) λh' tk acc hk hacc=>?_;have I1:Inv X pins σ H {s with heap:=h',toks:=tk}:=I.kept hk
 have I2:Inv X pins σ (upd H h'.objs.size (.tup ((zVI j).map V.int))) {s with heap:=h'.push {cls:=.type "tuple",data:=.seq acc},toks:=tk}:=
  I1.laid (t':=tk) (λb o e=>hP0 _ e) (le_refl _) (show ObjOk X.prog X.w _ _ _ (.tup ((zVI j).map V.int))from⟨?_,acc.toList,zYN hacc,?_⟩)
 ·exact⟨.ref h'.objs.size,_,I2,rfl,q _ (I1.hok.fresh (le_refl _))⟩
 ·rw [lM,lM,length_range,sizeLine_eq];omega
 ·have:=IsTup.new h' acc;simpa using this
def yAZ(rs:List Er)(S:Sto):R Er:=match rs with
 |[.val (.int j)]=>if -1000000<=j/\j<=1000000 then .ok (.val (.tup ((zVI j).map MV.int))) S else .no
 |_=>.no
def yMA(hc:X.calm=true)(hg:Gl X "tuple")(hm:X.mg "tuple"=none)(hgr:Gl X "range")(hmr:X.mg "range"=none)(ha:PAm X W [a] af)(hs:starEach [a] X.env=[(false,eval a X.env)]:=by rfl)
  (he1:starEach [.Call (.Name "range" p3) [a] [] pos2] X.env=(false,eval (.Call (.Name "range" p3) [a] [] pos2) X.env)::starEach [] X.env:=by rfl) (hpl1:(backTo pos (starEach [] X.env)).any (·.1)=false:=by rfl):
  PEm X W (.Call (.Name "tuple" p2) [.Call (.Name "range" p3) [a] [] pos2] [] pos) (λρ S=>(af ρ S).bind yAZ):=by
 obtain⟨t,ha,k⟩:=ha;refine⟨_,zQB yDU hg hm cX (zRI (yRM hgr hmr ha hs) zXU he1) (by decide) (by decide) he1 hpl1,λα ρ S σ H Q wd sl q=>k α ρ S σ H _ wd sl (q.bind λvs rs S1 α1 H1 e1 x1 w1 d1 q1=>?_)⟩
 replace q1:=q1.shift x1
 unfold yAZ at q1;split at q1
 ·split at q1
  ·rename_i j hj;obtain⟨u,rfl,du⟩:=zQG d1;cases yW du;refine⟨j,rfl,λv hv=>?_⟩;have xn:=w1.newx (o:=yDT v j) hv;have wn:=w1.new (o:=yDT v j) hv;exact⟨v,j,rfl,yR,hj.1,hj.2,hc,λp hp=>(q1.shift xn).newt wn hp (zFH _)⟩
  ·exact q1.elim
 ·exact q1.elim
end
end M
end L2
namespace L2
open PySem PySem.Spec PyProof.Rows
section
variable{X:Cx}{pins:Ba}{σ:St}{H:Hp}{s:Shared}{a C dx:Addr}{fs:List (Str×V)}{f:Str}{v:V}{A:Around}{E:VP}{o:Obj}
def yBA(I:Inv X pins σ H s)(e:H a=some (.frz o (.ins C dx fs))): ∃mA,ObjM s.heap a dx C mA/\ ∀f,RelO (fs.lookup f) (mA f):=by
 obtain⟨_,d,z,ne,ob,mA,n,r,q⟩:=(show ObjOk X.prog X.w H s.heap a (.frz o (.ins C dx fs))from I.hok a _ e)
 exact⟨mA,⟨ob,n,ne⟩,r⟩
def zVJ{b:Bool}{Q:VP}(I:Inv X pins σ H s)(e:H a=some (.frz o (.ins C dx fs)))(c:Cls X.K C)(n:NoAttr X.K C f)(l:fs.lookup f=some v)
  (h: ∀u s',Inv X pins σ H s'->RelV v u->Q u s'):wpAny (model X.prog X.w) A (getAttr (.ref a) f b) Q E s:=by
 obtain⟨mA,O,r⟩:=yBA I e;obtain⟨u,hu,ru⟩:=RelO.some_of (v:=v) (o:=mA f) (by rw [<-l];exact r f);exact yJU I.kIn O (c.get f) c.hd n hu (yCU ru) (h u _ (I.tok _) ru)
def zVK{m:Str}{g:Addr}{pl:Sem Bool}{Q:Value×List Value->Shared->Prop}(I:Inv X pins σ H s)(e:H a=some (.frz o (.ins C dx fs)))(c:Cls X.K C)(k:Meth X.K C m g)(l:fs.lookup m=none)
  (h:Q (.ref g,[.ref a]) s):wpAny (model X.prog X.w) A (getMethod (.ref a) m pl) Q E s:=by
 obtain⟨mA,O,r⟩:=yBA I e;have hn:mA m=none:=RelO.none_of (by rw [<-l];exact r m);exact yFP I.kIn O (c.get m) k.at_ k.fn hn h
def Inv.freeze(I:Inv X pins σ H s)(e:H a=some (.ins C dx fs)):Inv X pins σ (upd H a (.frz (PySem.W.instObj C dx) (.ins C dx fs))) s:=by
 obtain⟨d,z,ne,ob,mA,n,r,q⟩:=(show ObjOk X.prog X.w H s.heap a (.ins C dx fs)from I.hok a _ e)
 exact I.write (x:=a) (e:=a) (h':=s.heap) (t':=s.toks) (o:=.frz (PySem.W.instObj C dx) (.ins C dx fs)) (by rw [e];exact True.intro) (.inl rfl) (λ_ _ _ q=>q) ⟨_,ob⟩ ⟨ob,by rw [zR ne];exact d,z,ne,ob,mA,n,r,q⟩
end
namespace M
structure OC(K:Be)(c:Str)(C:Addr):Prop where
 ns:PySem.W.nsIn K mainGlobals c=some (some (.ref C))
 nm:(PySem.W.clsIn K C).map (·.name)=some c
 cl:Cls K C
theorem OC.eq{K:Be}{c:Str}{C C':Addr}(o:OC K c C)(h:PySem.W.nsIn K mainGlobals c=some (some (.ref C'))):C'=C:=by have:=o.ns;rw [h]at this;cases this;rfl
section
variable{X:Cx}{W:XW}{a e:Expr}{es:Bd}{f g:AX}{af:Rho->Sto->R (List Er)}{pos apos p p2:Pos}{fld m:Str}
def zGC(cs:Ai)(fld:Str):Er->Sto->R Er
 |.val (.obj c ns ds),S=>if c∈cs then(match (ns.zip ds).lookup fld with |some d=>.ok (.val d) S|none=>.no)else .no
 |_,_=>.no
theorem zMT{K:Be}{α:Ah}{H:Hp}{fld:Str}{d:MV}: ∀{ns:Ai}{ds:Bh}{vs:List V},DenL K α H ds vs->(ns.zip ds).lookup fld=some d-> ∃v,(ns.zip vs).lookup fld=some v/\Den K α H d v
 |[],_,_,_,h=>by simp at h
 |n::ns,[],_,_,h=>by simp at h
 |n::ns,x::ds,vs,l,h=>by
  obtain⟨v,r,rfl,a,l'⟩:=l.uncons;rw [zip_cons_cons,lookup_cons]at h;rw [zip_cons_cons];by_cases e:fld==n
  ·rw [e]at h;cases h;exact⟨v,by rw [lookup_cons,e],a⟩
  ·have e:(fld==n)=false:=by simpa using e
   rw [e]at h;obtain⟨w,h1,h2⟩:=zMT l' h;exact⟨w,by rw [lookup_cons,e];exact h1,h2⟩
def zFN{cs:Ai}(T: ∀c∈cs, ∃C,OC X.K c C/\NoAttr X.K C fld)(he:PEm X W e f)(hb:attributeBase e fld X.env (eval e X.env)=eval e X.env:=by rfl):PEm X W (.Attribute e fld pos) (λρ S=>(f ρ S).bind (zGC cs fld)):=by
 obtain⟨t,he,k⟩:=he;refine⟨λσ H Q=>t σ H λx H1=> ∃a o C dx fs v,x=.ref a/\H1 a=some (.frz o (.ins C dx fs))/\Cls X.K C/\NoAttr X.K C fld/\fs.lookup fld=some v/\Q v H1,λpins s σ H Q I h=>?_,λα ρ S σ H Q wd sl q=>k α ρ S σ H _ wd sl (q.bind λu r S1 α1 H1 e1 x1 w1 d1 q1=>?_)⟩
 ·refine yJX hb (thn (he pins s σ H _ I h) λu s1 ⟨x,H1,I1,rx,a,o,C,dx,fs,v,ex,ea,c,n,l,q⟩=>?_);subst ex;obtain rfl:u=Value.ref a:=rx;exact zVJ I1 ea c n l λu' s2 I2 ru=>⟨v,H1,I2,ru,q⟩
 ·replace q1:=q1.shift x1
  unfold zGC at q1;split at q1
  ·rename_i c ns ds;split at q1
   ·rename_i hc;split at q1
    ·rename_i d hd;obtain⟨a,C,dx,vs,o,rfl,h1,h2,h3,h4,h5⟩:=zYC d1.1;obtain⟨C',oc,na⟩:=T c hc;cases oc.eq h2;obtain⟨v,l1,l2⟩:=zMT h5 hd;exact⟨a,o,C,dx,_,v,rfl,h1,oc.cl,na,l1,Post.val q1 w1 l2⟩
    ·exact q1.elim
   ·exact q1.elim
  ·exact q1.elim
def spO(K:Be)(fld:Str):Sp:=λvs H Q _=> ∃x C dx fs v,vs=[.ref x,v]/\H x=some (.ins C dx fs)/\Cls K C/\NoAttr K C fld/\fs.length<1000/\Q .non (upd H x (.ins C dx (zDU fld v fs)))
def yDV(c fld:Str):Er->Sto->R Er
 |.val d,S=>.ok (.val (.obj c [fld] [d])) S
 |_,_=>.no
def yMB{C fi:Addr}{fd:FuncData}{par x:Str}{k:Nat}(oc:OC X.K x C)(na:NoAttr X.K C fld)(Mk':Mk X.K C fi)(F:FnOk X.prog X.w X.K X.mg X.base CX0 k fi fd ["self",par] (spO X.K fld))(hb:Binds X.K fd ["self",par] [])(hr:Room (k+1) X.A)(hg:Gl X x)(hm:X.mg x=some (.ref C))(he:PEm X W e f)(hdb:(x==("__debug__":Str))=false:=by decide)
  (hs:starEach [e] X.env=(false,eval e X.env)::starEach [] X.env:=by rfl) (hpl:(backTo pos (starEach [] X.env)).any (·.1)=false:=by rfl):PEm X W (.Call (.Name x p) [e] [] pos) (λρ S=>(f ρ S).bind (yDV x fld)):=by
 obtain⟨t,he,kk⟩:=he;refine⟨λσ H Q=>yOA C (spO X.K fld) [] E0 (yNZ t tNil) σ H λy H2=> ∃x dx v,y=.ref x/\H2 x=some (.ins C dx [(fld,v)])/\Q (.ref x) (upd H2 x (.frz (PySem.W.instObj C dx) (.ins C dx [(fld,v)]))),λpins s σ H Q I h=>?_,λα ρ S σ H Q wd sl q=>kk α ρ S σ H _ wd sl (q.bind λu r S1 α1 H1 e1 x1 w1 d1 q1=>?_)⟩
 ·refine thn (yJZ Mk' F hr hg hm hb .nil yFY (zRI he zXU hs) hdb hs hpl pins s σ H _ I h) λu s' ⟨y,H2,I2,ry,x,dx,v,ex,e,q⟩=>?_;subst ex;exact⟨.ref x,_,I2.freeze e,ry,q⟩
 ·replace q1:=q1.shift x1
  unfold yDV at q1;split at q1
  ·rename_i d;intro y dx hy hdx hne;refine⟨y,C,dx,[],u,rfl,yR,oc.cl,na,by decide,rfl,y,dx,u,rfl,yR,?_⟩;rw [zZU,zZU];have xa:=w1.newx (o:=.own y) hdx;have wa:=w1.new (o:=.own y) hdx;have hy':(upd H1 dx (.own y)) y=none:=by rw [zR (Ne.symm hne)];exact hy
   have xb:=wa.newx (o:=.frz (PySem.W.instObj C dx) (.ins C dx [(fld,u)])) hy';have wb:=wa.new (o:=.frz (PySem.W.instObj C dx) (.ins C dx [(fld,u)])) hy';exact Post.val (q1.shift (xa.trans xb)) wb (yAG (ns:=[fld]) (vs:=[u]) yR oc.ns oc.nm rfl (yB ((d1.1.ext xa).ext xb) yI))
  ·exact q1.elim
def zVL(m:Str)(l:List (Str×(List MV->Sto->R Er))):Er->Option (List MV->Sto->R Er)
 |.val (.obj c ns _)=>if m∈ns then none else l.lookup c
 |_=>none
def NJ(m:Str)(n:Nat)(l:List (Str×(List MV->Sto->R Er)))(f:AX)(af:Rho->Sto->R (List Er))(ρ:Rho)(S:Sto):R Er:=(f ρ S).bind λp S=>match zVL m l p with
 |some F=>(af ρ S).bind λr S=>zU n F (p::r) S
 |none=>.no
theorem lookup_mem{β:Type}{c:Str}{b:β}: ∀{l:List (Str×β)},l.lookup c=some b->(c,b)∈l
 |[],h=>by simp at h
 |(d,x)::l,h=>by
  rw [lookup_cons]at h;by_cases e:c==d
  ·rw [e]at h;cases h;have:c=d:=by simpa using e
   rw [this];exact mF0
  ·have e:(c==d)=false:=by simpa using e
   rw [e]at h;exact mO _ (lookup_mem h)
theorem zMU{β:Type}{m:Str}: ∀{ns:Ai}{vs:List β},m∉ns->(ns.zip vs).lookup m=none
 |[],_,_=>by simp
 |n::ns,[],_=>by simp
 |n::ns,v::vs,h=>by
  rw [zip_cons_cons,lookup_cons];have e:(m==n)=false:=by have:m≠n:=λz=>h (by rw [z];exact mF0);simpa using this
  rw [e];exact zMU λz=>h (mO _ z)
def MtOk(X:Cx)(m:Str)(k n:Nat)(c:Str)(F:List MV->Sto->R Er):Prop:= ∃C fa fd ps,OC X.K c C/\Meth X.K C m fa/\FnOk X.prog X.w X.K X.mg X.base CX0 k fa fd ps (spM X.g n F)/\Binds X.K fd ps []
def zAV{o:Expr}{pl:Sem Bool}{k n:Nat}{l:List (Str×(List MV->Sto->R Er))}(T: ∀q∈l,MtOk X m k n q.1 q.2)(hr:Room k X.A)(he:PEm X W o f)(ha:PAm X W (e::es) af)
  (hst:starEach (e::es) X.env=(false,eval e X.env)::starEach es X.env:=by rfl) (hpl:(backTo pos (starEach es X.env)).any (·.1)=false:=by rfl)
  (ht:eval (.Call (.Attribute o m apos) (e::es) [] pos) X.env=(do
   let ov <-eval o X.env
   standAt apos.atName
   let (f,first) <-holding [ov] (getMethod ov m pl)
   callWith pos f first (backTo pos (starEach (e::es) X.env)) (backToKw pos (keywordEach [] X.env))):=by rfl):
  PEm X W (.Call (.Attribute o m apos) (e::es) [] pos) (NJ m n l f af):=by
 obtain⟨to,he,ko⟩:=he;obtain⟨ta,ha,ka⟩:=ha;refine⟨λσ H Q=>to σ H λx H1=> ∃a ob C dx fs g fd ps sp,x=.ref a/\H1 a=some (.frz ob (.ins C dx fs))/\Cls X.K C/\Meth X.K C m g/\fs.lookup m=none/\FnOk X.prog X.w X.K X.mg X.base CX0 k g fd ps sp/\Binds X.K fd ps []/\ta σ H1 λvs H2=>sp (x::vs) H2 Q E0,λpins s σ H Q I h=>?_,λα ρ S σ H Q wd sl q=>ko α ρ S σ H _ wd sl (Post.bind q λu r S1 α1 H1 e1 x1 w1 d1 q1=>?_)⟩
 ·refine PySem.W.methodCall_KW (pl:=pl) (thn (he pins s σ H _ I h) λu s1 ⟨x,H1,I1,rx,a,ob,C,dx,fs,g,fd,ps,sp,ex,ea,c,hm,l,F,hb,q⟩=>?_) ht;subst ex;obtain rfl:u=Value.ref a:=rx;refine zVK I1 ea c hm l ?_;refine PySem.W.callWith_K (first:=[.ref a]) (h₀:=X.base) I.ok.mod.kin hm.kp (thn (ha pos pins s1 σ H1 _ I1 q) λus s2 ⟨vs,H2,I2,r,q2⟩=>⟨I2.kIn,?_⟩) hst hpl;exact yFR (us:=.ref a::us) (vs:=.ref a::vs) F hr hb .nil yFY I2 (.cons rfl r) (by rw [aN];exact q2)
 ·unfold zVL at q1
  cases r with
  |new ds=>exact q1.elim
  |val d=>
   cases d with
   |obj c ns ds=>
    dsimp only at q1;by_cases hmn:m∈ns
    ·rw [iP hmn]at q1;exact q1.elim
    ·rw [iN hmn]at q1
     cases z:l.lookup c with
     |none=>rw [z]at q1;exact q1.elim
     |some F=>
      rw [z]at q1;dsimp only at q1;obtain⟨a,C,dx,vs,ob,rfl,h1,h2,h3,h4,h5⟩:=zYC d1.1;obtain⟨C',g,fd,ps,oc,hm,hF,hb⟩:=T (c,F) (lookup_mem z);cases oc.eq h2;refine⟨a,ob,C,dx,_,g,fd,ps,_,rfl,h1,oc.cl,hm,zMU hmn,hF,hb,ka α1 ρ S1 σ H1 _ w1 (sl.ext x1) ?_⟩;refine(Post.shift x1 q1).bind λus rs S2 α2 H2 e2 x2 w2 d2 q2=>?_;exact zQH x2 w2 (ArgsE.cons (DenE.val (d1.1.ext x2)) (λds b er=>by cases er) d2) q2
   |_=>exact q1.elim
structure OI(K:Be)(C:Addr):Prop where
 ha:PySem.W.findIn K (.ref C) "__class__"=some (some (.builtin "object.__class__"))
 hn:PySem.W.specialIn K (.builtin "object.__class__") "__get__"=some (some (.builtin "getset_descriptor.__get__"))
 htk:PySem.W.takesIn K (.builtin "object.__class__")=some true
 hm:PySem.W.mroIn K C (.type "object")=some true
end
section
variable(P:Program)(w:World)(K:Be)(mg:Aj)(base:Heap)
def MkB(x fld:Str):Prop:= ∃C fi fd par,OC K x C/\NoAttr K C fld/\Mk K C fi/\FnOk P w K mg base CX0 1 fi fd ["self",par] (spO K fld)/\Binds K fd ["self",par] []/\mg x=some (.ref C)
def MtB(m:Str)(k n:Nat)(l:List (Str×(List MV->Sto->R Er))):Prop:= ∀q∈l, ∃C fa fd ps,OC K q.1 C/\Meth K C m fa/\FnOk P w K mg base CX0 k fa fd ps (spM ⟨K,mg,P,w⟩ n q.2)/\Binds K fd ps []
def FlB(cs:Ai)(fld:Str):Prop:= ∀c∈cs, ∃C,OC K c C/\NoAttr K C fld
end
section
variable{X:Cx}{W:XW}{a e o:Expr}{es:Bd}{f:AX}{af:Rho->Sto->R (List Er)}{pos apos p p2:Pos}{fld m x:Str}
def zMV(B:MkB X.prog X.w X.K X.mg X.base x fld)(hr:Room 2 X.A)(hg:Gl X x)(he:PEm X W e f)(hdb:(x==("__debug__":Str))=false:=by decide)
  (hs:starEach [e] X.env=(false,eval e X.env)::starEach [] X.env:=by rfl) (hpl:(backTo pos (starEach [] X.env)).any (·.1)=false:=by rfl):PEm X W (.Call (.Name x p) [e] [] pos) (λρ S=>(f ρ S).bind (yDV x fld)):=by
 obtain⟨C,fi,fd,par,oc,na,mk,F,hb,hm⟩:=B;exact yMB oc na mk F hb hr hg hm he hdb hs hpl
def yMC{P:Program}{w:World}{K:Be}{mg:Aj}{base:Heap}{qual:Str}{st:Stmt}{f:Addr}{fd:FuncData}{par:Str}(F:Fun K "__init__" qual st f fd)(Sc:FnScope ["self",par] ["self",par] (zE st))
  (hbody: ∀(cdv:Value)(A:Around)(outer:List Env)(s:Shared)(H:Hp)(E:XK),PSs (zUL CX0 P w K mg base ["self",par] qual (zE st) f cdv A outer s H E).nox (xE st) (sFld K (λσ H Q=> ∃v,σ[0]? =some (some v)/\Q v H) (λσ H Q=> ∃v,σ[1]? =some (some v)/\Q v H) fld)):
  FnOk P w K mg base CX0 1 f fd ["self",par] (spO K fld):=by
 refine F.ok (k:=0) Sc (λvs H Q E h=>?_) λcdv A outer s H vs Q E hr h=>?_
 ·obtain⟨_,_,_,_,_,rfl,_⟩:=h;rfl
 ·obtain⟨x,C,dx,fs,v,rfl,h1,h2,h3,h4,q⟩:=h;exact⟨_,hbody cdv A outer s H E,v,rfl,.ref x,rfl,x,C,dx,fs,rfl,h1,h2,h3,h4,q⟩
end
def nm_of{K:Be}{C:Addr}{cd:ClassData}{c:Str}(e:PySem.W.clsIn K C=some cd)(h:cd.name=c):(PySem.W.clsIn K C).map (·.name)=some c:=by rw [e];exact congrArg some h
section
variable{X:Cx}{W:XW}{a e:Expr}{es:Bd}{pos apos:Pos}{f:AX}{af:Rho->Sto->R (List Er)}
def yDW:Er->List Er->Sto->R Er
 |p,[r],S=>match lsW S r with
  |some zs=>zHV p S λds=>if ds.length+zs.length<=sizeLine then some (ds++zs)else none
  |none=>.no
 |_,_,_=>.no
def yDX:yDD X W yAD yDW:=by
 intro p rs x vs α S H0 H Q α0 wd x0 dp da post
 match rs,da,post with
 |[],_,post=>exact post.elim
 |_::_::_,_,post=>exact post.elim
 |[r],da,post=>
  have post:Post X.g W α0 H0 (match lsW S r with |some zs=>zHV p S λds=>if ds.length+zs.length<=sizeLine then some (ds++zs)else none|none=>.no) Q:=post;split at post
  ·rename_i zs hz;obtain⟨v,rfl,dv⟩:=zQG da;obtain⟨b,us,rfl,hb,lb⟩:=zSC wd hz dv;obtain⟨c,ws,ds,es,rfl,h1,l1,eg,k⟩:=zJC wd x0 dp post;split at eg
   ·rename_i hl;cases eg;exact⟨c,b,ws,us,rfl,rfl,h1,hb,by rw [l1.length,lb.length];exact hl,k _ (l1.append lb)⟩
   ·cases eg
  ·exact post.elim
def zJN(ho:PEm X W a f)(ha:PAm X W (e::es) af)
  (hbase:attributeBase a "extend" X.env (eval a X.env)=eval a X.env:=by rfl)
  (hfew:((backTo pos (starEach (e::es) X.env)).all (λx=>!x.1)&&(backToKw pos (keywordEach [] X.env)).all (λx=>x.1.isSome)
   &&decide ((e::es).length+([]:List Keyword).length+(if([]:List Keyword).isEmpty then 0 else 1)<30))=true:=by rfl)
  (hline:(apos.endLine==pos.line)=true:=by rfl) (hs:starEach (e::es) X.env=(false,eval e X.env)::starEach es X.env:=by rfl) (hplain:(backTo pos (starEach es X.env)).any (·.1)=false:=by rfl):
  PEm X W (.Call (.Attribute a "extend" apos) (e::es) [] pos) (λρ S=>(f ρ S).bind λp S1=>if bL p S1=true then(af ρ S1).bind λrs S2=>yDW p rs S2 else .no):=
 zLJ PySem.F.plainAttrs_list PySem.F.slot_list_extend PySem.F.type_list_extend yCX yDX zSG ho ha hbase hfew hline hs hplain
end
section
variable{X:Cx}{α:Ah}{S:Sto}{H:Hp}{pins:Ba}{σ:St}{s:Shared}{k:Nat}{fa:Addr}{fd:FuncData}{ps:Ai}{Fd:List MV->Sto->R Er}
def zMW(d:MV):Prop:= ∃x r,d=.tup (.str x::r)
def yMD(I:Inv X pins σ H s)(wd:Wd X.g α S H){A:Around}(hu:A.units+64<cLine){d f:MV}{x y:V}{u v:Value}{k:Bool}(kd:zMW d)(kf:zMW f)(h1:Den X.K α H d x)(h2:Den X.K α H f y)(rx:RelV x u)(ry:RelV y v)
  (h:ltv S zI d f=some k) (prog:Program) (w:World) (E:VP) (Q:Bool->Shared->Prop) (hq:Q k s):wpAny (model prog w) A (keyLt' (tuples' true) u v) Q E s:=by
 obtain⟨x1,r1,rfl⟩:=kd;obtain⟨x2,r2,rfl⟩:=kf;obtain⟨a1,vs1,its1,rfl,l1,v1,t1,_⟩:=zJK I h1 rx;obtain⟨a2,vs2,its2,rfl,l2,v2,t2,_⟩:=zJK I h2 ry;obtain⟨w1,q1,rfl,d1,m1⟩:=l1.uncons;obtain⟨w2,q2,rfl,d2,m2⟩:=l2.uncons
 cases v1 with
 |@cons _ u1 _ us1 rv1 rr1=>
  cases v2 with
  |@cons _ u2 _ us2 rv2 rr2=>
   have h':(eqv S 39 (.str x1) (.str x2)).bind (λk=>if k=true then zIZ (eqv S 39) (ltv S 39) r1 r2 else ltv S 39 (.str x1) (.str x2))=some k:=h;have he:eqv S 39 (.str x1) (.str x2)=some (decide (x1=x2)):=zLK 38 x1 x2;have ea:=zBS I wd 39 A _ _ _ _ _ _ _ (by omega) d1 d2 rv1 rv2 he;cases xG d1;cases xG d2;obtain⟨tk1,rfl⟩:=rv1;obtain⟨tk2,rfl⟩:=rv2;rw [he]at h';refine Srt.wp_keyLtS t1 t2 ea ?_ hq
   cases hd:decide (x1=x2)with
   |true=>
    rw [hd]at h';rw [iP rfl];have h'':zIZ (eqv S 39) (ltv S 39) r1 r2=some k:=h'
    exact yOF (yAL (λd f x y u v k a b c d' e=>zBS I wd 39 A d f x y u v k (by omega) a b c d' e)
     (λd f x y u v k a b c d' e=>zSA I wd 39 A d f x y u v k (by omega) a b c d' e) m1 m2 rr1 rr2 h'')
   |false=>
    rw [hd]at h';rw [iN xF0];have h'':(some (decide (x1<x2)):Option Bool)=some k:=h';cases h'';rw [zBN,zBN]
theorem cmp_s(I:Inv X pins σ H s)(wd:Wd X.g α S H){A:Around}(hu:A.units+64<cLine){kds:Bh}(hne:kds≠[])(hkind: ∀d,d∈kds->zMW d)(ho:OrdD S kds){E':VP}:
  Srt.Cmp (model X.prog X.w) A E' s (tuples' true) (λp=> ∃d v,d∈kds/\Den X.K α H d v/\RelV v p.1) (ltV X.K α H S kds) where
 go x y hx hy st hk Q hq:=by
  obtain⟨v1,d1,r1⟩:=zED hx;obtain⟨v2,d2,r2⟩:=zED hy;obtain⟨t,ht⟩:=ho.any _ (yY (K:=X.K) (α:=α) (H:=H) hne x.1) _ (yY (K:=X.K) (α:=α) (H:=H) hne y.1);have e:ltV X.K α H S kds x y=t:=by unfold ltV;rw [ht];rfl
  rw [e]at hq;exact Srt.wp_lt hk (λE Q hq=>yMD I wd hu (hkind _ (yY hne x.1)) (hkind _ (yY hne y.1)) d1 d2 r1 r2 ht X.prog X.w E Q hq) hq
 tr x y z h1 h2:=by unfold ltV at h1 h2 ⊢;have mx:=yY (K:=X.K) (α:=α) (H:=H) hne x.1;have my:=yY (K:=X.K) (α:=α) (H:=H) hne y.1;have mz:=yY (K:=X.K) (α:=α) (H:=H) hne z.1;obtain⟨t1,e1⟩:=ho.any _ my _ mx;obtain⟨t2,e2⟩:=ho.any _ mz _ my;rw [e1]at h1;rw [e2]at h2;have h1:t1=false:=h1;have h2:t2=false:=h2;subst h1 h2;rw [ho.tr _ mx _ my _ mz e1 e2];rfl
 as x y h:=by unfold ltV at h ⊢;have mx:=yY (K:=X.K) (α:=α) (H:=H) hne x.1;have my:=yY (K:=X.K) (α:=α) (H:=H) hne y.1;obtain⟨t1,e1⟩:=ho.any _ mx _ my;rw [e1]at h;have h:t1=true:=h;subst h;rw [ho.as _ mx _ my e1];rfl
def yRN(I:Inv X pins σ H s){A:Around}{kds:Bh}{kvs:List V}{ks:Ae}(hne:kds≠[])(hkind: ∀d,d∈kds->zMW d)(dk:DenL X.K α H kds kvs)(vk:Vals kvs ks){E':VP}:
  wpAny (model X.prog X.w) A (keyKind' ks.toArray) (λq s'=>s'=s/\q=tuples' true) E' s:=by
 have ne:ks≠[]:=λz=>by have h1:=vk.length;have h2:=dk.length;rw [z]at h1;exact hne (List.length_eq_zero_iff.mp (by rw [<-h2,h1];rfl))
 have all: ∀u,u∈ks-> ∃d v,d∈kds/\Den X.K α H d v/\RelV v u:=by
  intro u hu;obtain⟨i,hi⟩:=getElem?_of_mem hu;have hl:i<kvs.length:=by rw [vk.length];exact(gS0.mp hi).1
  obtain⟨u',h1,r⟩:=vk.get (gE0 hl);rw [hi]at h1;cases h1;obtain⟨d,h2,h3⟩:=dk.get (gE0 hl);exact⟨d,_,mem_of_getElem? h2,h3,r⟩
 refine Srt.wp_kindS ne λu hu=>?_;obtain⟨d,v,md,dd,r⟩:=all u hu;obtain⟨x,rr,rfl⟩:=hkind d md;obtain⟨a,vs,its,rfl,l,vv,t,_⟩:=zJK I dd r;obtain⟨v1,r1,rfl,d1,_⟩:=l.uncons
 cases vv with
 |@cons _ u1 _ us1 rv rr'=>
  cases xG d1;obtain⟨tk,rfl⟩:=rv;exact⟨a,_,_,tk,us1,rfl,t,rfl⟩
end
section
variable{X:Cx}{α:Ah}{S:Sto}{H:Hp}{pins:Ba}{σ:St}{s:Shared}{k:Nat}{fa:Addr}{fd:FuncData}{ps:Ai}{Fd:List MV->Sto->R Er}
theorem args_sorted1(a:Value):argsOk "sorted" ⟨[a],[]⟩:=by unfold argsOk;kernel_rfl
theorem zMX(a:Value):argsOk "list.sort" ⟨[a],[]⟩:=by unfold argsOk;kernel_rfl
end
open Classical in
def _root_.L2.Room.u128{k:Nat}{A:Around}(r:Room k A):A.units+128<cLine:=by have:=r.un;omega
section
variable{X:Cx}{α:Ah}{S:Sto}{H:Hp}{pins:Ba}{σ:St}{s:Shared}{k:Nat}{fa:Addr}{fd:FuncData}{ps:Ai}{Fd:List MV->Sto->R Er}
def zQR(d:MV):Prop:= ∃x r,d=.tup (.int x::r)
theorem yME(I:Inv X pins σ H s)(wd:Wd X.g α S H){A:Around}(hu:A.units+64<cLine){d f:MV}{x y:V}{u v:Value}{k:Bool}(kd:zQR d)(kf:zQR f)(h1:Den X.K α H d x)(h2:Den X.K α H f y)(rx:RelV x u)(ry:RelV y v)
  (h:ltv S zI d f=some k) (prog:Program) (w:World) (E:VP) (Q:Bool->Shared->Prop) (hq:Q k s):wpAny (model prog w) A (keyLt' (tuples' true) u v) Q E s:=by
 obtain⟨x1,r1,rfl⟩:=kd;obtain⟨x2,r2,rfl⟩:=kf;obtain⟨a1,vs1,its1,rfl,l1,v1,t1,_⟩:=zJK I h1 rx;obtain⟨a2,vs2,its2,rfl,l2,v2,t2,_⟩:=zJK I h2 ry;obtain⟨w1,q1,rfl,d1,m1⟩:=l1.uncons;obtain⟨w2,q2,rfl,d2,m2⟩:=l2.uncons
 cases v1 with
 |@cons _ u1 _ us1 rv1 rr1=>
  cases v2 with
  |@cons _ u2 _ us2 rv2 rr2=>
   have h':(eqv S 39 (.int x1) (.int x2)).bind (λk=>if k=true then zIZ (eqv S 39) (ltv S 39) r1 r2 else ltv S 39 (.int x1) (.int x2))=some k:=h;have he:eqv S 39 (.int x1) (.int x2)=some (decide (x1=x2)):=zBU 38 x1 x2;have ea:=zBS I wd 39 A _ _ _ _ _ _ _ (by omega) d1 d2 rv1 rv2 he;cases yV d1;cases yV d2;obtain⟨tk1,rfl⟩:=rv1;obtain⟨tk2,rfl⟩:=rv2;rw [he]at h';refine Srt.wp_keyLtI t1 t2 ea ?_ hq
   cases hd:decide (x1=x2)with
   |true=>
    rw [hd]at h';rw [iP rfl];have h'':zIZ (eqv S 39) (ltv S 39) r1 r2=some k:=h'
    exact yOF (yAL (λd f x y u v k a b c d' e=>zBS I wd 39 A d f x y u v k (by omega) a b c d' e)
     (λd f x y u v k a b c d' e=>zSA I wd 39 A d f x y u v k (by omega) a b c d' e) m1 m2 rr1 rr2 h'')
   |false=>
    rw [hd]at h';rw [iN xF0];have h'':(some (decide (x1<x2)):Option Bool)=some k:=h';cases h'';rfl
theorem cmp_i(I:Inv X pins σ H s)(wd:Wd X.g α S H){A:Around}(hu:A.units+64<cLine){kds:Bh}(hne:kds≠[])(hkind: ∀d,d∈kds->zQR d)(ho:OrdD S kds){E':VP}:
  Srt.Cmp (model X.prog X.w) A E' s (tuples' true) (λp=> ∃d v,d∈kds/\Den X.K α H d v/\RelV v p.1) (ltV X.K α H S kds) where
 go x y hx hy st hk Q hq:=by
  obtain⟨v1,d1,r1⟩:=zED hx;obtain⟨v2,d2,r2⟩:=zED hy;obtain⟨t,ht⟩:=ho.any _ (yY (K:=X.K) (α:=α) (H:=H) hne x.1) _ (yY (K:=X.K) (α:=α) (H:=H) hne y.1);have e:ltV X.K α H S kds x y=t:=by unfold ltV;rw [ht];rfl
  rw [e]at hq;exact Srt.wp_lt hk (λE Q hq=>yME I wd hu (hkind _ (yY hne x.1)) (hkind _ (yY hne y.1)) d1 d2 r1 r2 ht X.prog X.w E Q hq) hq
 tr x y z h1 h2:=by unfold ltV at h1 h2 ⊢;have mx:=yY (K:=X.K) (α:=α) (H:=H) hne x.1;have my:=yY (K:=X.K) (α:=α) (H:=H) hne y.1;have mz:=yY (K:=X.K) (α:=α) (H:=H) hne z.1;obtain⟨t1,e1⟩:=ho.any _ my _ mx;obtain⟨t2,e2⟩:=ho.any _ mz _ my;rw [e1]at h1;rw [e2]at h2;have h1:t1=false:=h1;have h2:t2=false:=h2;subst h1 h2;rw [ho.tr _ mx _ my _ mz e1 e2];rfl
 as x y h:=by unfold ltV at h ⊢;have mx:=yY (K:=X.K) (α:=α) (H:=H) hne x.1;have my:=yY (K:=X.K) (α:=α) (H:=H) hne y.1;obtain⟨t1,e1⟩:=ho.any _ mx _ my;rw [e1]at h;have h:t1=true:=h;subst h;rw [ho.as _ mx _ my e1];rfl
def yRO(I:Inv X pins σ H s){A:Around}{kds:Bh}{kvs:List V}{ks:Ae}(hne:kds≠[])(hkind: ∀d,d∈kds->zQR d)(dk:DenL X.K α H kds kvs)(vk:Vals kvs ks){E':VP}:
  wpAny (model X.prog X.w) A (keyKind' ks.toArray) (λq s'=>s'=s/\q=tuples' true) E' s:=by
 have ne:ks≠[]:=λz=>by have h1:=vk.length;have h2:=dk.length;rw [z]at h1;exact hne (List.length_eq_zero_iff.mp (by rw [<-h2,h1];rfl))
 have all: ∀u,u∈ks-> ∃d v,d∈kds/\Den X.K α H d v/\RelV v u:=by
  intro u hu;obtain⟨i,hi⟩:=getElem?_of_mem hu;have hl:i<kvs.length:=by rw [vk.length];exact(gS0.mp hi).1
  obtain⟨u',h1,r⟩:=vk.get (gE0 hl);rw [hi]at h1;cases h1;obtain⟨d,h2,h3⟩:=dk.get (gE0 hl);exact⟨d,_,mem_of_getElem? h2,h3,r⟩
 refine Srt.wp_kindI ne λu hu=>?_;obtain⟨d,v,md,dd,r⟩:=all u hu;obtain⟨x,rr,rfl⟩:=hkind d md;obtain⟨a,vs,its,rfl,l,vv,t,_⟩:=zJK I dd r;obtain⟨v1,r1,rfl,d1,_⟩:=l.uncons
 cases vv with
 |@cons _ u1 _ us1 rv rr'=>
  cases yV d1;obtain⟨tk,rfl⟩:=rv;exact⟨a,_,_,tk,us1,rfl,t,rfl⟩
end
section
variable{X:Cx}{α:Ah}{S:Sto}{H:Hp}{pins:Ba}{σ:St}{s:Shared}{k:Nat}{fa:Addr}{fd:FuncData}{ps:Ai}{Fd:List MV->Sto->R Er}
def yDY(hu:X.A.units+128<cLine)(I:Inv X pins σ H s)(wd:Wd X.g α S H){l:Addr}{xs:List V}{ds:Bh}(hl:SqL X.K H l xs)(dl:DenL X.K α H ds xs)
  (hlen:ds.length<64) (hpu: ∀d,d∈ds->xZ d=true) (hkind: ∀d,d∈ds->zQR d) (hord:OrdD S ds) {Q:VK}
  (hQ: ∀(idx:Ab)(p:Addr)(ys:List V),idx.Perm (List.range ds.length)->idx.Pairwise (λi j=> ∀a c,ds[i]? =some a->ds[j]? =some c->ltv S zI c a=some false)->H p=none->
   DenL X.K α H (idx.filterMap (ds[·]?)) ys->Q (.ref p) (upd H p (.lst ys))):wpAny (model X.prog X.w) X.A (call (.builtin "sorted") [.ref l]) (EP X pins σ Q) X.xe s:=by
 obtain⟨its,rv,⟨o,n0,e0,hc0,_,hd0⟩,_⟩:=I.list hl;have isl:s.heap.IsList l its.toArray:=⟨o,e0,hc0,n0,hd0⟩
 have hil:its.length=ds.length:=by rw [<-rv.length,dl.length]
 have hln:=sizeLine_eq;refine call_function_entry_kw kind_sorted plain_sorted entry_sorted (args_sorted1 _) ?_;unfold Builtin.«sorted»;refine wB0 (m:=checkCount "sorted" 1 1 _) (wP0 ?_);refine wB0 (collect_list isl ?_ (by omega));refine wB0 (wpAny_newList ?_);generalize hh1:(s.heap.push (seqObj "list" #[] 0)).update s.heap.objs.size (Obj.mapSeq (· ++its.toArray))=h1;have hsz:h1.objs.size=s.heap.objs.size+1:=by rw [<-hh1,Heap.size_update,size_push']
 have k1: ∀b u,s.heap.get? b=some u->h1.get? b=some u:=λb u e=>by rw [<-hh1,Heap.get?_update_other _ _ (ne_of_gt (Heap.lt_size e))];exact hP0 _ e
 have hoL:(h1.push (seqObj "list" its.toArray 0)).get? h1.objs.size=some (seqObj "list" its.toArray 0):=Heap.get?_push_size _ rfl;show wpAny _ _ _ _ _ {s with heap:=h1.push (seqObj "list" its.toArray 0)};dsimp only;generalize hL:h1.objs.size=L at *;have sL:s.heap.objs.size<=L:=by omega
 refine wB0 (wpAny_holding (wpAny_call_entry_kw slot_list_sort ⟨_,hoL,rfl⟩ entry_list_sort (Srt.sort_plainS hoL (by omega) λs2 he2=>?_) (zMX _)));dsimp only at he2;generalize hh2:h1.push (seqObj "list" its.toArray 0)=h2 at *;have fL:zGJ X pins H L:=I.fpOk sL (I.hok.fresh sL);have k3: ∀b u,s.heap.get? b=some u->s2.heap.get? b=some u:=λb u e=>by rw [he2];refine hP0 _ (hP0 _ ?_);rw [Heap.get?_update_other _ _ (ne_of_gt (lt_of_lt_of_le (Heap.lt_size e) sL)), <-hh2];exact hP0 _ (k1 b u e)
 have I3:Inv X pins σ H s2:=by have:=I.kept (h':=s2.heap) (t':=s.toks) k3;rw [he2]at this ⊢;exact this
 have hu':X.A.in1.in1.units+64<cLine:=by show X.A.units+1+1+64<cLine;omega
 obtain⟨q,gL⟩: ∃q,s2.heap.get? L=some (seqObj "list" #[] q):=by rw [he2];exact⟨_,hP0 _ (hP0 _ (get?_update_seq hoL (λ_=>#[])))⟩
 refine⟨tuples' true,(λp=> ∃d v,d∈ds/\Den X.K α H d v/\RelV v p.1),ltV X.K α H S ds,λhge=>?_,λout op os=>?_⟩
 ·have ne:ds≠[]:=λz=>by rw [hil,z]at hge;exact absurd hge (by decide)
  refine⟨yRO I3 ne hkind dl rv,cmp_i I3 wd hu' ne hkind hord,λp hp=>?_⟩;have hp1:p.1∈its:=(of_mem_zip hp).1;obtain⟨i,hi⟩:=getElem?_of_mem hp1;have hl':i<xs.length:=by rw [rv.length];exact(gS0.mp hi).1
  obtain⟨u',h1',r⟩:=rv.get (gE0 hl');rw [hi]at h1';cases h1';obtain⟨d,h2',h3'⟩:=dl.get (gE0 hl');exact⟨d,_,mem_of_getElem? h2',h3',r⟩
 ·obtain⟨idx,ip,ie⟩:=zFL op.symm (List.range ds.length) (zQM hil hil);have ib: ∀i,i∈idx->i<ds.length:=λi hi=>mem_range.mp (ip.mem_iff.mp hi);have eo:out.map (·.2)=idx.filterMap (its[·]?):=by rw [<-ie,map_map];exact zAU λi hi=>by rw [hil];exact ib i hi
  have po:idx.Pairwise (λi j=> ∀a c,ds[i]? =some a->ds[j]? =some c->ltv S zI c a=some false):=by rw [<-ie,pairwise_map]at os;refine List.Pairwise.imp_of_mem (λ{i j} hi hj h a c ha hc=>?_) os;have ui:its[i]? =some (its[i]'(by rw [hil];exact ib i hi)):=gE0 _;have uj:its[j]? =some (its[j]'(by rw [hil];exact ib j hj)):=gE0 _;have h':(ltv S zI (zFW X.K α H ds ((its[j]?).getD .none)) (zFW X.K α H ds ((its[i]?).getD .none))).getD false=false:=h;rw [ui,uj]at h';simp only [Option.getD_some]at h';rw [zMP I3 hpu dl rv ui ha,zMP I3 hpu dl rv uj hc]at h';obtain⟨t,ht⟩:=hord.any c (mem_of_getElem? hc) a (mem_of_getElem? ha);rw [ht]at h';have h':t=false:=h';rw [ht,h']
  have vy:=Vals.pick rv idx;refine⟨_,rfl,wP0 ⟨_,rfl,.ref L,upd H L (.lst (idx.filterMap (xs[·]?))),?_,rfl,hQ idx L _ ip po (I.hok.fresh sL) (dl.pick idx)⟩⟩;obtain⟨f0,f1,f2,f3,f4,f5⟩:=fL
  have I6:Inv X pins σ H {s2 with heap:=s2.heap.update L (Obj.mapSeq λ_=>(out.map (·.2)).toArray)}:=
   I3.turned (t':=s2.toks) (λb o hb e=>(Heap.get?_update_other _ _ (Ne.symm hb)).trans e) f0 f1 f3 f4 f5
  obtain⟨n',gL2⟩: ∃n',(s2.heap.update L (Obj.mapSeq λ_=>(out.map (·.2)).toArray)).get? L=some (seqObj "list" (idx.filterMap (its[·]?)).toArray n'):=⟨_,by have:=get?_update_seq gL (λ_=>(out.map (·.2)).toArray);rw [eo]at this ⊢;exact this⟩
  refine zQL (its:=idx.filterMap (its[·]?)) I6 ⟨f0,f1,f2,f3,f4,f5⟩ (le_trans I.sz sL) gL2 vy ?_
  ·have:=List.length_filterMap_le (xs[·]?) idx;have h3:=ip.length_eq;rw [length_range]at h3;omega
end
structure SrtJ(S:Sto)(ds:Bh):Prop where
 len:ds.length<64
 pu: ∀d,d∈ds->xZ d=true
 kind: ∀d,d∈ds->zQR d
 ord:OrdD S ds
open Classical in
def zQS(rs:List Er)(S:Sto):R Er:=match rs with
 |[p]=>match xX S p with
  |some ds=>if h: ∃r,SrtJ S ds/\ ∀r',zHZ S ds ds r'->r'=r then .ok (.new (Classical.choose h)) S else .no
  |none=>.no
 |_=>.no
def yBB{p:Er}{S:Sto}{ds r:Bh}(e:xX S p=some ds)(ok:SrtJ S ds)(u: ∀r',zHZ S ds ds r'->r'=r)(ex:zHZ S ds ds r):zQS [p] S=.ok (.new r) S:=by
 unfold zQS;dsimp only;rw [e];dsimp only;have h: ∃r,SrtJ S ds/\ ∀r',zHZ S ds ds r'->r'=r:=⟨r,ok,u⟩
 rw [dif_pos h];obtain⟨_,u'⟩:=Classical.choose_spec h;rw [<-u' r ex]
section
variable{X:Cx}{W:XW}
def yDZ(hu:X.A.units+128<cLine):CallR X (.builtin "sorted") (λxs H Q=> ∃α S l vs ds,xs=[.ref l]/\Wd X.g α S H/\SqL X.K H l vs/\DenL X.K α H ds vs/\SrtJ S ds/\
  ∀(idx:Ab)(p:Addr)(ys:List V),idx.Perm (List.range ds.length)->idx.Pairwise (λi j=> ∀a c,ds[i]? =some a->ds[j]? =some c->ltv S zI c a=some false)->H p=none->DenL X.K α H (idx.filterMap (ds[·]?)) ys->Q (.ref p) (upd H p (.lst ys))):=by
 intro pins s σ H xs us Q I r h;obtain⟨α,S,l,vs,ds,rfl,wd,hl,dl,ok,q⟩:=h;obtain⟨u,rfl,rx⟩:=vals1 r;cases rx;exact yDY hu I wd hl dl ok.len ok.pu ok.kind ok.ord q
def yMF:nK X W (λxs H Q=> ∃α S l vs ds,xs=[.ref l]/\Wd X.g α S H/\SqL X.K H l vs/\DenL X.K α H ds vs/\SrtJ S ds/\
  ∀(idx:Ab)(p:Addr)(ys:List V),idx.Perm (List.range ds.length)->idx.Pairwise (λi j=> ∀a c,ds[i]? =some a->ds[j]? =some c->ltv S zI c a=some false)->H p=none->DenL X.K α H (idx.filterMap (ds[·]?)) ys->Q (.ref p) (upd H p (.lst ys))) zQS:=by
 intro rs vs α S H Q wd d post;unfold zQS at post;split at post
 ·split at post
  ·rename_i ds e;split at post
   ·rename_i h;obtain⟨v,rfl,dv⟩:=cW d;obtain⟨l,us,rfl,h1,h2⟩:=nN rfl wd e dv;obtain⟨ok,u⟩:=Classical.choose_spec h;refine⟨α,S,l,us,ds,rfl,wd,h1,h2,ok,λidx p ys i1 i2 hp hd=>?_⟩;have er:=u _ ⟨idx,i1,i2,rfl⟩;rw [er]at hd;exact Post.newl post wd hp hd
   ·exact post.elim
  ·exact post.elim
 ·exact post.elim
end
section
variable{X:Cx}{α:Ah}{S:Sto}{H:Hp}{pins:Ba}{σ:St}{s:Shared}{k:Nat}{fa:Addr}{fd:FuncData}{ps:Ai}{Fd:List MV->Sto->R Er}
def yEA(hu:X.A.units+128<cLine)(I:Inv X pins σ H s)(wd:Wd X.g α S H){l:Addr}{xs:List V}{ds:Bh}(hl:SqL X.K H l xs)(dl:DenL X.K α H ds xs)
  (hlen:ds.length<64) (hpu: ∀d,d∈ds->xZ d=true) (hkind: ∀d,d∈ds->zMW d) (hord:OrdD S ds) {Q:VK}
  (hQ: ∀(idx:Ab)(p:Addr)(ys:List V),idx.Perm (List.range ds.length)->idx.Pairwise (λi j=> ∀a c,ds[i]? =some a->ds[j]? =some c->ltv S zI c a=some false)->H p=none->
   DenL X.K α H (idx.filterMap (ds[·]?)) ys->Q (.ref p) (upd H p (.lst ys))):wpAny (model X.prog X.w) X.A (call (.builtin "sorted") [.ref l]) (EP X pins σ Q) X.xe s:=by
 obtain⟨its,rv,⟨o,n0,e0,hc0,_,hd0⟩,_⟩:=I.list hl;have isl:s.heap.IsList l its.toArray:=⟨o,e0,hc0,n0,hd0⟩
 have hil:its.length=ds.length:=by rw [<-rv.length,dl.length]
 have hln:=sizeLine_eq;refine call_function_entry_kw kind_sorted plain_sorted entry_sorted (args_sorted1 _) ?_;unfold Builtin.«sorted»;refine wB0 (m:=checkCount "sorted" 1 1 _) (wP0 ?_);refine wB0 (collect_list isl ?_ (by omega));refine wB0 (wpAny_newList ?_);generalize hh1:(s.heap.push (seqObj "list" #[] 0)).update s.heap.objs.size (Obj.mapSeq (· ++its.toArray))=h1;have hsz:h1.objs.size=s.heap.objs.size+1:=by rw [<-hh1,Heap.size_update,size_push']
 have k1: ∀b u,s.heap.get? b=some u->h1.get? b=some u:=λb u e=>by rw [<-hh1,Heap.get?_update_other _ _ (ne_of_gt (Heap.lt_size e))];exact hP0 _ e
 have hoL:(h1.push (seqObj "list" its.toArray 0)).get? h1.objs.size=some (seqObj "list" its.toArray 0):=Heap.get?_push_size _ rfl;show wpAny _ _ _ _ _ {s with heap:=h1.push (seqObj "list" its.toArray 0)};dsimp only;generalize hL:h1.objs.size=L at *;have sL:s.heap.objs.size<=L:=by omega
 refine wB0 (wpAny_holding (wpAny_call_entry_kw slot_list_sort ⟨_,hoL,rfl⟩ entry_list_sort (Srt.sort_plainS hoL (by omega) λs2 he2=>?_) (zMX _)));dsimp only at he2;generalize hh2:h1.push (seqObj "list" its.toArray 0)=h2 at *;have fL:zGJ X pins H L:=I.fpOk sL (I.hok.fresh sL);have k3: ∀b u,s.heap.get? b=some u->s2.heap.get? b=some u:=λb u e=>by rw [he2];refine hP0 _ (hP0 _ ?_);rw [Heap.get?_update_other _ _ (ne_of_gt (lt_of_lt_of_le (Heap.lt_size e) sL)), <-hh2];exact hP0 _ (k1 b u e)
 have I3:Inv X pins σ H s2:=by have:=I.kept (h':=s2.heap) (t':=s.toks) k3;rw [he2]at this ⊢;exact this
 have hu':X.A.in1.in1.units+64<cLine:=by show X.A.units+1+1+64<cLine;omega
 obtain⟨q,gL⟩: ∃q,s2.heap.get? L=some (seqObj "list" #[] q):=by rw [he2];exact⟨_,hP0 _ (hP0 _ (get?_update_seq hoL (λ_=>#[])))⟩
 refine⟨tuples' true,(λp=> ∃d v,d∈ds/\Den X.K α H d v/\RelV v p.1),ltV X.K α H S ds,λhge=>?_,λout op os=>?_⟩
 ·have ne:ds≠[]:=λz=>by rw [hil,z]at hge;exact absurd hge (by decide)
  refine⟨yRN I3 ne hkind dl rv,cmp_s I3 wd hu' ne hkind hord,λp hp=>?_⟩;have hp1:p.1∈its:=(of_mem_zip hp).1;obtain⟨i,hi⟩:=getElem?_of_mem hp1;have hl':i<xs.length:=by rw [rv.length];exact(gS0.mp hi).1
  obtain⟨u',h1',r⟩:=rv.get (gE0 hl');rw [hi]at h1';cases h1';obtain⟨d,h2',h3'⟩:=dl.get (gE0 hl');exact⟨d,_,mem_of_getElem? h2',h3',r⟩
 ·obtain⟨idx,ip,ie⟩:=zFL op.symm (List.range ds.length) (zQM hil hil);have ib: ∀i,i∈idx->i<ds.length:=λi hi=>mem_range.mp (ip.mem_iff.mp hi);have eo:out.map (·.2)=idx.filterMap (its[·]?):=by rw [<-ie,map_map];exact zAU λi hi=>by rw [hil];exact ib i hi
  have po:idx.Pairwise (λi j=> ∀a c,ds[i]? =some a->ds[j]? =some c->ltv S zI c a=some false):=by rw [<-ie,pairwise_map]at os;refine List.Pairwise.imp_of_mem (λ{i j} hi hj h a c ha hc=>?_) os;have ui:its[i]? =some (its[i]'(by rw [hil];exact ib i hi)):=gE0 _;have uj:its[j]? =some (its[j]'(by rw [hil];exact ib j hj)):=gE0 _;have h':(ltv S zI (zFW X.K α H ds ((its[j]?).getD .none)) (zFW X.K α H ds ((its[i]?).getD .none))).getD false=false:=h;rw [ui,uj]at h';simp only [Option.getD_some]at h';rw [zMP I3 hpu dl rv ui ha,zMP I3 hpu dl rv uj hc]at h';obtain⟨t,ht⟩:=hord.any c (mem_of_getElem? hc) a (mem_of_getElem? ha);rw [ht]at h';have h':t=false:=h';rw [ht,h']
  have vy:=Vals.pick rv idx;refine⟨_,rfl,wP0 ⟨_,rfl,.ref L,upd H L (.lst (idx.filterMap (xs[·]?))),?_,rfl,hQ idx L _ ip po (I.hok.fresh sL) (dl.pick idx)⟩⟩;obtain⟨f0,f1,f2,f3,f4,f5⟩:=fL
  have I6:Inv X pins σ H {s2 with heap:=s2.heap.update L (Obj.mapSeq λ_=>(out.map (·.2)).toArray)}:=
   I3.turned (t':=s2.toks) (λb o hb e=>(Heap.get?_update_other _ _ (Ne.symm hb)).trans e) f0 f1 f3 f4 f5
  obtain⟨n',gL2⟩: ∃n',(s2.heap.update L (Obj.mapSeq λ_=>(out.map (·.2)).toArray)).get? L=some (seqObj "list" (idx.filterMap (its[·]?)).toArray n'):=⟨_,by have:=get?_update_seq gL (λ_=>(out.map (·.2)).toArray);rw [eo]at this ⊢;exact this⟩
  refine zQL (its:=idx.filterMap (its[·]?)) I6 ⟨f0,f1,f2,f3,f4,f5⟩ (le_trans I.sz sL) gL2 vy ?_
  ·have:=List.length_filterMap_le (xs[·]?) idx;have h3:=ip.length_eq;rw [length_range]at h3;omega
end
structure SrtQ(S:Sto)(ds:Bh):Prop where
 len:ds.length<64
 pu: ∀d,d∈ds->xZ d=true
 kind: ∀d,d∈ds->zMW d
 ord:OrdD S ds
open Classical in
def zQT(rs:List Er)(S:Sto):R Er:=match rs with
 |[p]=>match xX S p with
  |some ds=>if h: ∃r,SrtQ S ds/\ ∀r',zHZ S ds ds r'->r'=r then .ok (.new (Classical.choose h)) S else .no
  |none=>.no
 |_=>.no
def yBC{p:Er}{S:Sto}{ds r:Bh}(e:xX S p=some ds)(ok:SrtQ S ds)(u: ∀r',zHZ S ds ds r'->r'=r)(ex:zHZ S ds ds r):zQT [p] S=.ok (.new r) S:=by
 unfold zQT;dsimp only;rw [e];dsimp only;have h: ∃r,SrtQ S ds/\ ∀r',zHZ S ds ds r'->r'=r:=⟨r,ok,u⟩
 rw [dif_pos h];obtain⟨_,u'⟩:=Classical.choose_spec h;rw [<-u' r ex]
section
variable{X:Cx}{W:XW}
def yEB(hu:X.A.units+128<cLine):CallR X (.builtin "sorted") (λxs H Q=> ∃α S l vs ds,xs=[.ref l]/\Wd X.g α S H/\SqL X.K H l vs/\DenL X.K α H ds vs/\SrtQ S ds/\
  ∀(idx:Ab)(p:Addr)(ys:List V),idx.Perm (List.range ds.length)->idx.Pairwise (λi j=> ∀a c,ds[i]? =some a->ds[j]? =some c->ltv S zI c a=some false)->H p=none->DenL X.K α H (idx.filterMap (ds[·]?)) ys->Q (.ref p) (upd H p (.lst ys))):=by
 intro pins s σ H xs us Q I r h;obtain⟨α,S,l,vs,ds,rfl,wd,hl,dl,ok,q⟩:=h;obtain⟨u,rfl,rx⟩:=vals1 r;cases rx;exact yEA hu I wd hl dl ok.len ok.pu ok.kind ok.ord q
def yMG:nK X W (λxs H Q=> ∃α S l vs ds,xs=[.ref l]/\Wd X.g α S H/\SqL X.K H l vs/\DenL X.K α H ds vs/\SrtQ S ds/\
  ∀(idx:Ab)(p:Addr)(ys:List V),idx.Perm (List.range ds.length)->idx.Pairwise (λi j=> ∀a c,ds[i]? =some a->ds[j]? =some c->ltv S zI c a=some false)->H p=none->DenL X.K α H (idx.filterMap (ds[·]?)) ys->Q (.ref p) (upd H p (.lst ys))) zQT:=by
 intro rs vs α S H Q wd d post;unfold zQT at post;split at post
 ·split at post
  ·rename_i ds e;split at post
   ·rename_i h;obtain⟨v,rfl,dv⟩:=cW d;obtain⟨l,us,rfl,h1,h2⟩:=nN rfl wd e dv;obtain⟨ok,u⟩:=Classical.choose_spec h;refine⟨α,S,l,us,ds,rfl,wd,h1,h2,ok,λidx p ys i1 i2 hp hd=>?_⟩;have er:=u _ ⟨idx,i1,i2,rfl⟩;rw [er]at hd;exact Post.newl post wd hp hd
   ·exact post.elim
  ·exact post.elim
 ·exact post.elim
end
section
variable{X:Cx}{W:XW}{a b o i e:Expr}{es:Bd}{f g:AX}{af:Rho->Sto->R (List Er)}{apos pos:Pos}{α:Ah}{H:Hp}{pins:Ba}{σ:St}{s:Shared}
def kyOf:MV->Option Key
 |.int i=>some (.inl i)
 |.str x=>some (.inr (mkS x))
 |_=>none
def ky_D: ∀{k:MV}{k':Key},kyOf k=some k'->KeyD k k'
 |.int i,_,h=>by cases h;exact rfl
 |.str x,_,h=>by cases h;exact rfl
 |.non,_,h=>nomatch h
 |.bl _,_,h=>nomatch h
 |.tup _,_,h=>nomatch h
 |.scr _,_,h=>nomatch h
 |.loc _,_,h=>nomatch h
 |.typ _,_,h=>nomatch h
 |.obj _ _ _,_,h=>nomatch h
def ky_V: ∀{k:MV}{k':Key}{v:V},kyOf k=some k'->Den X.K α H k v->v=kV k'
 |.int i,_,_,h,d=>by cases h;exact yV d
 |.str x,_,_,h,d=>by cases h;exact xG d
 |.non,_,_,h,_=>nomatch h
 |.bl _,_,_,h,_=>nomatch h
 |.tup _,_,_,h,_=>nomatch h
 |.scr _,_,_,h,_=>nomatch h
 |.loc _,_,_,h,_=>nomatch h
 |.typ _,_,_,h,_=>nomatch h
 |.obj _ _ _,_,_,h,_=>nomatch h
def yHW: ∀{k:Key}{u:Value},RelV (kV k) u->(wA X.prog X.w).is k u=true
 |.inl i,_,h=>by obtain⟨t,rfl⟩:=(h: ∃t,_=_);exact zKH _ _ i t
 |.inr x,_,h=>by obtain⟨t,rfl⟩:=(h: ∃t,_=_);exact zDT _ _ x t
theorem yMH: ∀{k:Key}{u:Value},RelV (kV k) u->(keyPart u).isSome=true
 |.inl i,_,h=>by obtain⟨t,rfl⟩:=(h: ∃t,_=_);rfl
 |.inr x,_,h=>by obtain⟨t,rfl⟩:=(h: ∃t,_=_);rfl
def zMY(k:MV):Bool:=(kyOf k).isSome
def dx_of{kvs:Cb}{d:Addr}(ob:ObD X.g α H d (.dic kvs))(hk:kvs.all (λp=>zMY p.1)=true): ∃ks,DK X H d ks/\DenK X.K α H kvs ks:=by
 rcases ob with⟨ks,h,l⟩|z
 ·exact⟨ks,.inl h,l⟩
 ·exact False.elim z
def zSL(S:Sto):Er->Option (Nat×List (MV×MV))
 |.val (.loc l)=>match S[l]? with
  |some (.dic kvs)=>if kvs.all (λp=>zMY p.1)=true then some (l,kvs)else none
  |_=>none
 |_=>none
def dxo{S:Sto}(wd:Wd X.g α S H){r:Er}{x:V}{l:Nat}{kvs:Cb}(e:zSL S r=some (l,kvs))(d:DenX X.K α H r x):
  ∃c ks,x=.ref c/\α[l]? =some c/\S[l]? =some (.dic kvs)/\DK X H c ks/\DenK X.K α H kvs ks/\kvs.all (λp=>zMY p.1)=true:=by
 unfold zSL at e;split at e
 ·rename_i n;obtain⟨c,rfl,h⟩:=zBQ d;split at e
  ·rename_i ks hS;split at e
   ·rename_i hk;obtain⟨rfl,rfl⟩:=Prod.mk.inj (Option.some.inj e);obtain⟨xs,dd,l⟩:=dx_of (wd.obj _ c _ h hS) hk;exact⟨c,xs,rfl,h,hS,dd,l,hk⟩
   ·cases e
  ·cases e
 ·cases e
def yRP{ks:List (Key×V)}{d:Addr}(dd:DK X H d ks):Mut (H d):=by
 rcases dd with z|z
 ·rw [z];exact trivial
 ·exact False.elim z
def setXF(p q:Er)(d:MV)(ρ:Rho)(S:Sto):R Rho:=match q with
 |.val k=>match zSL S p with
  |some (l,kvs)=>if zMY k=true/\kvs.length<1000000 then .ok ρ (S.set l (.dic (putK kvs k d)))else .no
  |none=>.no
 |_=>.no
abbrev rInX(X:Cx)(neg:Bool):R2:=λx y H Q=> ∃(ks:List (Key×V))(d:Addr)(k:Key),x=kV k/\y=.ref d/\DK X H d ks/\
 Q (.bl (if neg=true then !(cZ ks k).isSome else(cZ ks k).isSome)) H
theorem look_same{ks:List (Key×V)}{vs:List (Key×Value)}(r:KV ks vs)(k:Key):(valueAt vs k).isSome=(cZ ks k).isSome:=by
 obtain⟨l1,l2⟩:=zSK r k
 cases h:cZ ks k with
 |none=>rw [l2 h];rfl
 |some v=>obtain⟨u,e,_⟩:=l1 v h;rw [e];rfl
def yRQ:OpR X (compareOp .In) (rInX X false):=by intro pins s σ H x y v u Q I rx ry h;obtain⟨ks,d,k,rfl,rfl,dd,q⟩:=h;cases ry;obtain⟨_,hs,vs,rel,dm⟩:=zLN I dd;refine wpAny_in_of (knd:=wA X.prog X.w) (yHW rx) hs dm.mapOf ?_;rw [look_same rel k];exact⟨.bl (cZ ks k).isSome,H,I.kept (t':=_) (λ_ _ z=>z),rfl,q⟩
def zYO(neg:Bool)(p q:Er)(S:Sto):R Er:=match p with
 |.val k=>match zSL S q with
  |some (_,kvs)=>if zMY k=true then .ok (.val (.bl (if neg=true then !(look kvs k).isSome else(look kvs k).isSome))) S else .no
  |none=>.no
 |_=>.no
theorem yEC{kvs:Cb}{ks:List (Key×V)}{k:MV}{k':Key}(l:DenK X.K α H kvs ks)(hk:KeyD k k'):(cZ ks k').isSome=(look kvs k).isSome:=by
 obtain⟨g1,g2⟩:=zJL l hk
 cases h:look kvs k with
 |none=>rw [g2 h];rfl
 |some v=>obtain⟨u,e,_⟩:=g1 v h;rw [e];rfl
def yMI{neg:Bool}:Op2 X W (rInX X neg) (zYO neg):=by
 intro p q x y α S H Q wd dp dq post;unfold zYO at post;split at post
 ·rename_i k;split at post
  ·rename_i l kvs e;split at post
   ·rename_i hk;obtain⟨c,ks,rfl,_,_,dd,dl,_⟩:=dxo wd e dq;obtain⟨k',hk'⟩:=Option.isSome_iff_exists.mp hk;refine⟨ks,c,k',ky_V (X:=X) (α:=α) (H:=H) hk' dp,rfl,dd,?_⟩;rw [yEC dl (ky_D hk')];exact Post.val post wd (kH _)
   ·exact post.elim
  ·exact post.elim
 ·exact post.elim
def yHX(ha:PEm X W a f)(hb:PEm X W b g)(hm:behindInMarks .In b=false:=by with_unfolding_all rfl):PTm X W (.Compare a [.In] [b] pos) (λρ S=>((f ρ S).bind λp S1=>(g ρ S1).bind λq S2=>zYO false p q S2).bind asB):=zGN yRQ yMI ha hb hm
end
section
variable{X:Cx}{W:XW}{a b o i e:Expr}{es:Bd}{f g:AX}{af:Rho->Sto->R (List Er)}{apos pos:Pos}{α:Ah}{H:Hp}{pins:Ba}{σ:St}{s:Shared}
def zMZ(ks:List (Key×V))(k:Key):List (Key×V):=ks.filter λkv=>decide (kv.1≠k)
def yED(ks:List (Key×V))(k:Key):(zMZ ks k).length<=ks.length:=length_filter_le _ _
theorem yBD: ∀{ks:List (Key×V)}{vs:List (Key×Value)},KV ks vs-> ∀(k:Key),KV (zMZ ks k) (without vs k)
 |_,_,.nil,k=>.nil
 |(a,x)::ks,(b,u)::vs,.cons ⟨h1,h2⟩ l,k=>by
  cases (show a=b from h1);have ih:=yBD l k;unfold zMZ without at ih ⊢;by_cases c:a=k
  ·simp only [filter_cons,c,ne_eq,not_true_eq_false,decide_false,fT0,iF];exact ih
  ·simp only [filter_cons,c,ne_eq,not_false_eq_true,decide_true,if_true];exact .cons ⟨rfl,h2⟩ ih
def yHY(kvs:Cb)(k:MV):List (MV×MV):=kvs.filter λp=>!decide (p.1=k)
theorem zQU: ∀{kvs:Cb}{ks:List (Key×V)}{k:MV}{k':Key},DenK X.K α H kvs ks->KeyD k k'->DenK X.K α H (yHY kvs k) (zMZ ks k')
 |_,_,_,_,.nil,_=>.nil
 |_,_,k,k',.cons (k:=k0) (k':=k0') (d:=d0) (v:=v0) h1 h2 l,hk=>by
  have ih:=zQU l hk;unfold yHY zMZ at ih ⊢;by_cases c:k0=k
  ·subst c;have e:=zLM h1 hk;simp only [filter_cons,e,decide_true,Bool.not_true,ne_eq,not_true_eq_false,decide_false,fT0,iF];exact ih
  ·have hn: ¬k0'=k':=λz=>c (zIA h1 (z▸hk));simp only [filter_cons,c,hn,decide_false,Bool.not_false,ne_eq,not_false_eq_true,decide_true,if_true];exact .cons h1 h2 ih
def yOG(X:Cx):V->List V->Hp->VK->Prop:=λx vs H Q=> ∃(ks:List (Key×V))(d:Addr)(k:Key)(y:V),x=.ref d/\vs=[kV k,y]/\DK X H d ks/\
 (∀v,cZ ks k=some v->Q v (upd H d (.dK (zMZ ks k))))/\(cZ ks k=none->Q y H)
def yMJ:MtR X "dict.pop" (yOG X):=by
 intro pins s σ H x vs v us Q I rx rv h;obtain⟨ks,d,k,y,rfl,rfl,dd,q1,q2⟩:=h;obtain⟨u1,u2,rfl,r1,r2⟩:=vals2 rv;cases rx;have hT:s.TypeIs (.ref d) "dict":=(yHU pins s σ H (.ref d) (.ref d) I rfl ⟨d,ks,rfl,dd⟩).1;obtain⟨z,hs,vs,kv,dm⟩:=zLN I dd;have hl:ks.length=vs.length:=Paired.length kv;obtain⟨l1,l2⟩:=zSK kv k;have hkey:=yHW (X:=X) r1;have hpart:=yMH r1;refine wpAny_call_entry PySem.F.slot_dict_pop hT PySem.F.entry_dict_pop ?_ (PySem.F.args_dict_pop_3 _ _ _);unfold Builtin.«dict.pop»;refine wB0 ?_;unfold Builtin.Dict.keyAndDefault;refine wB0 (wpAny_notOrdered_dict dm.typeIs ?_);show wpAny _ _ (pure (d,u1,some u2)) _ _ s;refine wP0 ?_;simp only [hpart,if_true];refine wB0 (wP0 ?_);simp only [fT0,iF]
 cases hv:cZ ks k with
 |some v=>
  obtain⟨u,e,ru⟩:=l1 v hv;refine wB0 (wpAny_takeOut_pairs (hsz:=by omega) hkey dm (λhn=>by rw [hn]at e;exact nomatch e) λen _ he h' hm' hs'=>?_);have hev:en.val=u:=by rw [e]at he;injection he with he;exact he.symm
  simp only [Option.isNone_some,fT0,iF];refine wB0 (wpAny_letGo (wP0 ⟨en.val,rfl,v,_,?_,by rw [hev];exact ru,q1 v hv⟩));have he': ∃q,h'.get? d=some q:=let ⟨q,_,_,hq,_⟩:=hm';⟨q,hq⟩;exact I.write (t':=_) (x:=d) (e:=d) (yRP dd) (.inl rfl) (λb uo hb eo=>(hs'.2 b hb).trans eo) he' ⟨by have:=yED ks k;omega,hs,_,yBD kv k,hm'⟩
 |none=>
  have e:=l2 hv;refine wB0 (wpAny_takeOut_pairs_none hkey dm e ?_);simp only [Option.isNone_none,if_true];refine wB0 (wpAny_missedRemoval_other hs ?_);exact wB0 (wpAny_rule (wP0 ⟨u2,rfl,y,H,I.tok _,r2,q2 hv⟩))
def zQV(p:Er)(rs:List Er)(S:Sto):R Er:=match rs with
 |[.val k,.val y]=>match zSL S p with
  |some (l,kvs)=>if zMY k=true then(match look kvs k with |some d=>.ok (.val d) (S.set l (.dic (yHY kvs k)))|none=>.ok (.val y) S)else .no
  |none=>.no
 |_=>.no
def yMK:yDD X W (yOG X) zQV:=by
 intro p rs x vs α S H0 H Q α0 wd x0 dp da post;unfold zQV at post;split at post
 ·rename_i k y
  cases da with
  |cons dk n1 l1=>
   cases l1 with
   |cons dy n2 l2=>
    cases l2;split at post
    ·rename_i l kvs ed;split at post
     ·rename_i hky;obtain⟨c,ks,rfl,hc,hS,DDx,dl,_⟩:=dxo wd ed dp;obtain⟨k',hk'⟩:=Option.isSome_iff_exists.mp hky;have hk:=ky_D hk';obtain⟨g1,g2⟩:=zJL dl hk;have ek:=ky_V (X:=X) (α:=α) (H:=H) hk' dk.1;subst ek;refine⟨ks,c,k',_,rfl,rfl,DDx,λv hv=>?_,λhv=>?_⟩
      ·cases hl:look kvs k with
       |some d=>
        obtain⟨v',e1,e2⟩:=g1 d hl;rw [e1]at hv;cases hv;rw [hl]at post;have xw:=wd.writex hc (o:=.dK (zMZ ks k'));exact(Post.shift (x0.trans xw) post).val (wd.write hc (.inl ⟨_,yR,(zQU dl hk).ex0 xw.toEx0⟩)) (e2.ext xw)
       |none=>rw [g2 hl]at hv;cases hv
      ·cases hl:look kvs k with
       |some d=>obtain⟨v',e1,e2⟩:=g1 d hl;rw [e1]at hv;cases hv
       |none=>
        rw [hl]at post;exact(Post.shift x0 post).val wd dy.1
     ·exact post.elim
    ·exact post.elim
 ·exact post.elim
def isDx(p:Er)(S:Sto):Bool:=(zSL S p).isSome
def yML(ho:PEm X W o f)(ha:PAm X W (e::es) af)
  (hbase:attributeBase o "pop" X.env (eval o X.env)=eval o X.env:=by rfl)
  (hfew:((backTo pos (starEach (e::es) X.env)).all (λx=>!x.1)&&(backToKw pos (keywordEach [] X.env)).all (λx=>x.1.isSome)
   &&decide ((e::es).length+([]:List Keyword).length+(if([]:List Keyword).isEmpty then 0 else 1)<30))=true:=by rfl)
  (hline:(apos.endLine==pos.line)=true:=by rfl) (hs:starEach (e::es) X.env=(false,eval e X.env)::starEach es X.env:=by rfl) (hplain:(backTo pos (starEach es X.env)).any (·.1)=false:=by rfl):
  PEm X W (.Call (.Attribute o "pop" apos) (e::es) [] pos) (λρ S=>(f ρ S).bind λp S1=>if isDx p S1=true then(af ρ S1).bind λrs S2=>zQV p rs S2 else .no):=by
 obtain⟨to,ho,fo⟩:=ho;obtain⟨t,ha,k⟩:=ha;refine⟨_,yRJ yHU PySem.F.plainAttrs_dict PySem.F.slot_dict_pop PySem.F.type_dict_pop yMJ ho ha hbase hfew hline hs hplain,λα ρ S σ H Q wd sl q=>fo α ρ S σ H _ wd sl (q.bind λu p S1 α1 H1 e1 x1 w1 d1 q1=>?_)⟩;split at q1
 ·rename_i hz;obtain⟨⟨l,kvs⟩,hz⟩:=Option.isSome_iff_exists.mp hz;obtain⟨c,xs,rfl,_,_,dd,_⟩:=dxo w1 hz d1.1;exact⟨⟨c,xs,rfl,dd⟩,k α1 ρ S1 σ H1 _ w1 (sl.ext x1) ((q1.shift x1).bind λvs rs S2 α2 H2 e2 x2 w2 d2 q2=>yMK p rs _ vs α2 S2 H1 H2 Q α1 w2 x2 (d1.1.ext x2) d2 q2)⟩
 ·exact q1.elim
def yEE{ks:List (Key×V)}{vs:List (Key×Value)}: ∀{us:Ae},KV ks vs->us.length=vs.length->(∀(j:Nat)(v:Value),us[j]? =some v-> ∃(k:Key)(x:Value),vs[j]? =some (k,x)/\(wA X.prog X.w).is k v=true)->Vals (ks.map λp=>kV p.1) us:=by
 intro us kv;unfold KV at kv
 induction kv generalizing us with
 |nil=>intro hl _;cases us with
  |nil=>exact .nil
  |cons a b=>simp at hl
 |@cons p q ps qs h t ih=>
  intro hl hv
  cases us with
  |nil=>simp at hl
  |cons a b=>
   obtain⟨k,x,e,hi⟩:=hv 0 a rfl;simp only [List.getElem?_cons_zero,Option.some.injEq]at e;subst e;rw [map_cons];refine .cons ?_ (ih (by simpa using hl) λj v hj=>by simpa using hv (j+1) v (by simpa using hj));rw [h.1];rcases yZ hi with⟨i,t,e1,e2⟩|⟨i,t,e1,e2⟩
   ·subst e2;rw [show k=.inl i from e1];exact⟨t,rfl⟩
   ·subst e2;rw [show k=.inr i from e1];exact⟨t,rfl⟩
end
section
variable{prog:Program}{w:World}{A:Around}{E:VP}{s:Shared}{T:String}{r d:Addr}{n:Nat}{P:Nat->Value->Prop}{OK:Heap->Prop}
def yEF{Q₁:VP}(K:PySem.W.KdlSrc prog w "dict" r d n P OK)(hh:A.handled=none)(hok:OK s.heap)(hn:n<=sizeLine)
  (h: ∀(h':Heap)(tk:Nat)(acc':Ag),(∀b o,s.heap.get? b=some o->h'.get? b=some o)->ItemsOf P acc' n->Q₁ (.ref h'.objs.size) {s with heap:=h'.push {cls:=.type "tuple",data:=.seq acc'},toks:=tk}):
  codeAny (model prog w) A (.call (.builtin "tuple.__new__") ⟨[.type "tuple",.ref r],[]⟩) (wants Q₁ E) s:=by
 refine codeAny_of_tree ?_;show wpAny _ A.in1 (do checkBuiltinCall "tuple.__new__" ⟨[.type "tuple",.ref r],[]⟩;again (.builtin "tuple.__new__" ⟨[.type "tuple",.ref r],[]⟩)) _ _ s;refine wB0 (wpAny_of_eq (F.newCall_tuple_1 _) (wP0 ⟨plainId_quiet F.plain_tuple_new _,codeAny_builtin F.entry_tuple_new ?_⟩));rw [Around.under_plainId F.plain_tuple_new _];have hsub:=sub_tuple_self;have hinit:=init_tuple_lookup;have hmh:=madeHere_tuple;have hTI:s.TypeIs (.ref r) "dict":=K.type s hok
 wp_walk using wpAny_typeOf hTI,PySem.W.kdu_collect (A:=A.in1) K hh hok hn
 intro h' tk acc hk hacc;show wpAny _ _ (Builtin.Tuple.tupleExact acc.toList.toArray >>= λv=>ret v) _ _ _;unfold Builtin.Tuple.tupleExact;refine wB0 (wpAny_newObj_type ?_ (by show acc.toList.toArray.size<=sizeLine;simp only [Array.toArray_toList];rw [hacc.1];exact hn));refine wP0 ?_;have e:acc.toList.toArray=acc:=by simp
 rw [e];exact h h' tk acc hk hacc
def zNA{Q:VP}(K:PySem.W.KdlSrc prog w "dict" r d n P OK)(hh:A.handled=none)(hok:OK s.heap)(hn:n<=sizeLine)
  (hQ: ∀(h':Heap)(tk:Nat)(acc':Ag),(∀b o,s.heap.get? b=some o->h'.get? b=some o)->ItemsOf P acc' n->Q (.ref h'.objs.size) {s with heap:=h'.push {cls:=.type "tuple",data:=.seq acc'},toks:=tk}):
  wpAny (model prog w) A (call (.type "tuple") [.ref r]) Q E s:=by
 refine callType_codes (Q₁:=λobj s₁=>s₁.TypeIs obj "tuple"/\Q obj s₁) F.called_tuple (F.typeCall_tuple_1 _) F.entry_object_init
  (yEF (A:=A.in1) K hh hok hn λh' tk acc hk hacc=>⟨⟨_,Heap.get?_push_size _ rfl,rfl⟩,hQ h' tk acc hk hacc⟩) λobj s₁ h₁=>?_
 exact⟨h₁.1,F.args_object_init_2 obj _,object_init_meets F.called_tuple.init.lookup F.called_tuple.made (by decide) prog w A.in1 _ s₁ ⟨h₁.1,rfl,h₁.2⟩⟩
end
section
variable{X:Cx}{W:XW}{α:Ah}{H:Hp}
def yEG:CallR X (.type "tuple") (λxs H Q=> ∃d ks,xs=[.ref d]/\DK X H d ks/\X.calm=true/\ ∀l,H l=none->Q (.ref l) (upd H l (.tup (ks.map λp=>kV p.1)))):=by
 intro pins s σ H xs us Q I r h;obtain⟨d,ks,rfl,dd,hc,q⟩:=h;obtain⟨u,rfl,rx⟩:=vals1 r;cases rx;obtain⟨z,hd,vs,rel,dm⟩:=zLN I dd;obtain⟨ep,hat⟩:=dm.dictAt;have hl:ks.length=vs.length:=Paired.length rel;refine zNA (PySem.W.kdl_dict (knd:=wA X.prog X.w) (kvs:=vs) (ep:=ep) hd) (I.ok.hd hc) hat (by omega) λh' tk acc hk hacc=>?_;have rv:Vals (ks.map λp=>kV p.1) acc.toList:=yEE (X:=X) rel (by rw [Array.length_toList];exact hacc.1) λj v e=>hacc.2 j v (by rw [<-Array.getElem?_toList];exact e);have I1:Inv X pins σ H {s with heap:=h',toks:=tk}:=I.kept hk
 have I2:Inv X pins σ (upd H h'.objs.size (.tup (ks.map λp=>kV p.1))) {s with heap:=h'.push {cls:=.type "tuple",data:=.seq acc},toks:=tk}:=
  I1.laid (t':=tk) (λb o e=>hP0 _ e) (le_refl _) (show ObjOk X.prog X.w _ _ _ (.tup (ks.map λp=>kV p.1))from⟨by rw [lM];exact z,acc.toList,rv,by have:=IsTup.new h' acc;simpa using this⟩)
 exact⟨.ref h'.objs.size,_,I2,rfl,q _ (I1.hok.fresh (le_refl _))⟩
def zVM:List Er->Sto->R Er
 |[r],S=>match zSL S r with |some (_,kvs)=>.ok (.val (.tup (kvs.map (·.1)))) S|none=>.no
 |_,_=>.no
def yMM(hc:X.calm=true):nK X W (λxs H Q=> ∃d ks,xs=[.ref d]/\DK X H d ks/\X.calm=true/\ ∀l,H l=none->Q (.ref l) (upd H l (.tup (ks.map λp=>kV p.1)))) zVM:=by
 intro rs vs α S H Q wd d post;unfold zVM at post;split at post
 ·split at post
  ·rename_i n kvs e;obtain⟨v,rfl,dv⟩:=cW d;obtain⟨c,ks,rfl,h1,h2,dd,dl,_⟩:=dxo wd e dv;exact⟨c,ks,rfl,dd,hc,λl hl=>Post.newt post wd hl (zQP dl)⟩
  ·exact post.elim
 ·exact post.elim
def yRR(hc:X.calm=true):nK X W (λxs H Q=> ∃(a:Addr)(bs:Bb),xs=[.ref a]/\SqL X.K H a (bs.map V.bl)/\X.calm=true/\Q (.bl (bs.any id)) H) anyF:=by
 intro rs vs α S H Q wd d post;unfold anyF at post;split at post
 ·split at post
  ·rename_i bs e;obtain⟨v,rfl,dv⟩:=cW d
   cases z:xX S _ with
   |none=>rw [z]at e;cases e
   |some ds=>
    rw [z]at e;obtain⟨a1,us,rfl,s,l⟩:=nN rfl wd z dv;refine⟨a1,bs,rfl,?_,hc,Post.val post wd (kH _)⟩;rw [<-zJB e l];exact s
  ·exact post.elim
 ·exact post.elim
end
section
variable{X:Cx}{W:XW}{a b:Expr}{f g:AX}{pos:Pos}
def zSM:CallR X (.builtin "any") (λxs H Q=> ∃(a:Addr)(bs:Bb),xs=[.ref a]/\SqL X.K H a (bs.map V.bl)/\X.calm=true/\Q (.bl (bs.any id)) H):=by
 intro pins s σ H xs us Q I r h;obtain⟨a,bs,rfl,hq,hc,q⟩:=h;obtain⟨u,rfl,ru⟩:=vals1 r;cases ru;obtain⟨its,rv,pl,hz⟩:=I.list hq;have hlen:its.length=bs.length:=by rw [<-rv.length,lM]
 refine PySem.call_any_walk (wpAny_pyIter_list pl.isList ?_);have hI:a≠s.heap.objs.size:=by obtain⟨o,ho,_⟩:=pl.isList;exact ne_of_lt (Heap.lt_size ho)
 have I1: ∀(h':Heap)(tk:Nat),(∀b o,b∉[s.heap.objs.size]->(s.heap.push {cls:=.type "list_iterator",data:=.fields #[.ref a,.int 0 0]}).get? b=some o->h'.get? b=some o)->Inv X pins σ H {s with heap:=h',toks:=tk}:=λh' tk k=>
  I.kept λb o e=>k b o (by simpa using ne_of_lt (Heap.lt_size e)) (hP0 _ e)
 refine⟨s.heap.objs.size,[s.heap.objs.size,a],[s.heap.objs.size],its.toArray.size,_,_,λi=>bs.getD i false,rfl,PySem.Walks.list (by first |exact I.ok.hd hc|exact(show X.A.in1.handled=none from I.ok.hd hc)) _ a hI its.toArray,⟨⟨_,Heap.get?_push_size _ rfl,rfl,rfl⟩,pl.isList.at λo e=>hP0 _ e⟩,?_,λh' tk k=>?_⟩
 ·intro i v s' Q' E' hv hQ';have hv':its[i]? =some v:=by simpa using hv
  have hi:i<bs.length:=by rw [<-hlen];exact(gS0.mp hv').1
  have hb:(bs.map V.bl)[i]? =some (V.bl (bs.getD i false)):=by rw [getElem?_map,gE0 hi];simp [getD_eq_getElem?_getD,hi]
  obtain⟨u',hu',rv'⟩:=rv.get hb;rw [hv']at hu';cases hu';cases rv';exact wpAny_truthy_bool hQ'
 ·refine⟨.bl (bs.any id),H,I1 h' tk k,?_,q⟩;show Value.bool _=Value.bool _;congr 1;rw [sA,hlen]
  have: ∀(l:Bb),(List.range l.length).any (λi=>l.getD i false)=l.any id:=by
   intro l;rw [Bool.eq_iff_iff,any_eq_true,any_eq_true];constructor
   ·rintro⟨i,hi,h⟩;have hi':=mem_range.mp hi;exact⟨l[i],getElem_mem hi',by simpa [getD_eq_getElem?_getD,hi']using h⟩
   ·rintro⟨x,hx,h⟩;obtain⟨i,hi,rfl⟩:=getElem_of_mem hx;exact⟨i,mem_range.mpr hi,by simpa [getD_eq_getElem?_getD,hi]using h⟩
  exact this bs
def shrC(i j:Int):Prop:=0<=j
instance(i j:Int):Decidable (shrC i j):=inferInstanceAs (Decidable (_<=_))
end
end M
end L2
namespace PySem
def zSN:typeLookup (.type "list") "keys"=pure none:=am_miss_of_fast (by decide+kernel)
def getAttr?_miss_list{prog:Program}{w:World}{A:Around}{E:VP}{s:Shared}{a:Addr}{o:Obj}{xs:Ag}{k:Nat}{name:Str}{Q:Option Value->Shared->Prop}
  (hx:s.heap.get? a=some o) (hc:o.cls=.type "list") (hdat:o.data=.seq xs k) (hd:o.dict=none) (hmiss:typeLookup (.type "list") name=pure none) (hname:(["__module__","__name__","__qualname__","__doc__","__annotations__"]:Ai).contains name=false) (hA:A.handled=none)
  (h: ∀h' tk,(∀b o,s.heap.get? b=some o->h'.get? b=some o)->Q none {s with heap:=h',toks:=tk}) (hsz:name.length+100<=sizeLine:=by size_fits):
  wpAny (model prog w) A (getAttr? (.ref a) name) Q E s:=by
 obtain⟨c,dct,dat,sl⟩:=o;simp only at hc hdat hd;subst hc hdat hd;obtain⟨hp,g,d,tk,os⟩:=s;have hT: ∀tk',(⟨hp,g,d,tk',os⟩:Shared).TypeIs (.ref a) "list":=λ_=>⟨_,hx,rfl⟩
 have f1:=sub_AttributeError;have f3:=F.slot_list_getattribute.lookup;have f4:=F.slot_list_getattribute.bind (.ref a);have f5:=am_list_getattr_none;unfold getAttr? getAttrBy? getAttrBy
 repeat (any_goals (first |assumption|exact hT _|((with_reducible show wpAny _ _ (call (Value.builtin "list.__getattribute__") _ _) _ _ _);refine call_meets F.slot_list_getattribute (hT _) am_entry_list_getattribute (F.args_list_getattribute_2 _ _) (meets_getattribute_miss_list a xs k sl name _ hmiss hname hsz) ⟨hx,hA,λh' tk' e hx'=>?_⟩)|wp_step))
 obtain⟨t',u',he⟩:=hx'.there;show wpAny _ _ (getattributeRaised _ _ _ _ _ _ _) _ _ _;unfold getattributeRaised
 repeat (any_goals (first |assumption|wp_step))
 exact h _ _ hx'.keeps
namespace F
def entry_dict_update_loop:entryFor table "dict.update.loop"=some Builtin.«dict.update.loop»:=entryFor_of_tree (by kernel_rfl)
def plain_dict_update_loop:plainId "dict.update.loop"=true:=by decide+kernel
end F
open PyProof.Rows
section
variable{prog:Program}{w:World}{K:Type}[DecidableEq K]{knd:KeyKind prog w K}{A:Around}{E:VP}{s:Shared}{R:Result->Shared->Prop}
def zYP(knd:KeyKind prog w K)(h:Heap)(kv:K×Value)(v:Value):Prop:= ∃a key,v=.ref a/\IsTup h a #[key,kv.2]/\knd.is kv.1 key=true
def zIC{I D:Addr}{fp:Ah}{n:Nat}{P:Nat->Value->Prop}{St:Nat->Heap->Prop}(W:Walks prog w A.in1 I fp [I] n P St)(hDf:D∉fp)(kvs:List (K×Value))(hn:kvs.length=n)(hz:n<=sizeLine){h₀:Heap}
  (hP: ∀i v,P i v-> ∃kv,kvs[i]? =some kv/\zYP knd h₀ kv v) (hI:h₀.get? I=none) (hD:h₀.get? D=none):
  ∀(k i:Nat)(j:Int)(s:Shared),n - i=k->i<=n->St i s.heap->s.heap.DictOf knd D (merged [] (kvs.take i))->(∀b o,h₀.get? b=some o->s.heap.get? b=some o)->
   (∀h' tk,(∀b o,h₀.get? b=some o->h'.get? b=some o)->h'.DictOf knd D (merged [] kvs)->R (.ok (.ret .none)) {s with heap:=h',toks:=tk})->
   codeAny (model prog w) A (.builtin "dict.update.loop" ⟨[.ref D,.ref I,rawInt j,.none],[]⟩) R s:=by
 have hDI:D≠I:=λe=>hDf (e▸W.sub _ (mS.mpr rfl));intro k
 induction k with
 |zero=>
  intro i j s hk hi hst hS hkeep hR;have hin:i=n:=by omega
  subst hin;refine codeAny_builtin F.entry_dict_update_loop ?_;rw [Around.under_plainId F.plain_dict_update_loop _];show wpAny _ A.in1 (pyNext (.ref I) >>= _) _ _ s;refine wB0 (W.done s _ _ hst λh' tk hk'=>?_);show wpAny _ A.in1 (Builtin.Dict.addKeywords D [] >>= λ_=>ret Value.none) _ _ _;refine wB0 (wP0 ?_);rw [<-hn,List.take_length]at hS;refine wP0 (hR h' tk (λb o e=>?_) ?_)
  ·exact hk' b o (λh=>by rw [mS.mp h,hI]at e;cases e) (hkeep b o e)
  ·obtain⟨o,es,ep,ho,rest⟩:=hS;exact⟨o,es,ep,hk' D o (λh=>hDI (mS.mp h)) ho,rest⟩
 |succ k ih=>
  intro i j s hk hi hst hS hkeep hR;have hlt:i<n:=by omega
  refine codeAny_builtin F.entry_dict_update_loop ?_;rw [Around.under_plainId F.plain_dict_update_loop _];show wpAny _ A.in1 (pyNext (.ref I) >>= _) _ _ s;refine wB0 (W.item i s _ _ hlt hst λv h' tk hPv hst' hk'=>?_);obtain⟨kv,hkv,a,key,rfl,hT,hkey⟩:=hP i v hPv;have hkeep': ∀b o,h₀.get? b=some o->h'.get? b=some o:=λb o e=>hk' b o (λh=>by rw [mS.mp h,hI]at e;cases e) (hkeep b o e);have hS':h'.DictOf knd D (merged [] (kvs.take i)):=by obtain⟨o,es,ep,ho,rest⟩:=hS;exact⟨o,es,ep,hk' D o (λh=>hDI (mS.mp h)) ho,rest⟩
  obtain⟨o,ho,hc,nn,hdat⟩:=hT.keeps hkeep';have hTI:Shared.TypeIs {s with heap:=h',toks:=tk} (.ref a) "tuple":=⟨o,ho,hc⟩
  refine wB0 (wpAny_holding ?_);refine wB0 (wpAny_tryCatch ?_);unfold Builtin.Dict.pairItems;refine wB0 (wpAny_typeOf hTI ?_);rw [iP (by decide)];refine wB0 ?_;show wpAny _ _ (do match (<-load a).data with |.seq xs _=>pure (some xs)|_=>pure none) _ _ _;refine wB0 (wpAny_load ho ?_);rw [hdat];refine wP0 (wP0 ?_);show wpAny _ _ (holding [key,kv.2] (dictSet D key kv.2)) _ _ _;refine wpAny_holding ?_;have hlen:=merged_length_le [] (kvs.take i);have hl2:(kvs.take i).length<=n:=by rw [<-hn];exact List.length_take_le' i kvs
  refine wpAny_dictSet_pairs (s:={s with heap:=h',toks:=tk}) (hsz:=by rw [length_nil]at hlen;omega) hkey hS' λh2 hd2 hs2=>?_;have hkeep2: ∀b o,h₀.get? b=some o->h2.get? b=some o:=λb o e=>by rw [hs2.2 b (λh=>by rw [h,hD]at e;cases e)];exact hkeep' b o e
  refine wP0 ⟨plainId_quiet F.plain_dict_update_loop _,ih (i+1) (j+1) _ (by omega) hlt (W.frame _ _ _ hst' λb hb o e=>?_) ?_ hkeep2 λh3 tk3 k3 d3=>hR h3 tk3 k3 d3⟩
  ·rw [hs2.2 b (λh=>hDf (h▸hb))];exact e
  ·rw [merged_take_succ _ _ _ _ hkv];exact hd2
def zKY{l:Addr}{its:Ag}{o:Obj}{c:Nat}{kvs:List (K×Value)}{Q:VP}(hA:A.handled=none)(ho:s.heap.get? l=some o)(hc:o.cls=.type "list")(hd:o.dict=none)(hdat:o.data=.seq its c)(hlen:its.size=kvs.length)(hz:its.size<=sizeLine)
  (hP: ∀(i:Nat) v,its[i]? =some v-> ∃kv,kvs[i]? =some kv/\zYP knd s.heap kv v)
  (h: ∀h' tk,(∀b o,s.heap.get? b=some o->h'.get? b=some o)->h'.DictOf knd s.heap.objs.size (merged [] kvs)->Q (.ref s.heap.objs.size) {s with heap:=h',toks:=tk}):
  wpAny (model prog w) A (call (.type "dict") [.ref l]) Q E s:=by
 refine callType_codes (Q₁:=λobj s₁=>obj=.ref s.heap.objs.size/\s₁={s with heap:=s.heap.push {cls:=.type "dict",data:=.dict #[]}}) F.kt_called_dict (F.kt_typeCall_dict_1 _) F.entry_dict_init (kt_code_dict_new _ ⟨rfl,rfl⟩) ?_;rintro obj s₁ ⟨rfl,rfl⟩;have hnew:(s.heap.push {cls:=.type "dict",data:=.dict #[]}).DictOf knd s.heap.objs.size []:=Heap.DictOf.new s.heap;have ho':(s.heap.push {cls:=.type "dict",data:=.dict #[]}).get? l=some o:=hP0 _ ho;have hl0:=Heap.lt_size ho;refine⟨hnew.typeIs,F.args_dict_init_2 _ _,?_⟩;unfold Builtin.«dict.__init__»;refine wB0 ?_;unfold Builtin.Dict.selfAndRest;refine wB0 (wpAny_notOrdered_dict hnew.typeIs ?_);show wpAny _ _ (pure (s.heap.objs.size,[Value.ref l])) _ _ _;refine wP0 ?_;show wpAny _ _ (Builtin.Dict.updateFrom "dict.__init__" s.heap.objs.size (.ref l) [] .none) _ _ _;unfold Builtin.Dict.updateFrom;refine wB0 (wpAny_typeOf (T:="list") ⟨o,ho',hc⟩ ?_);rw [iP (by decide)];refine wB0 (getAttr?_miss_list ho' hc hdat hd zSN (by decide+kernel) hA (λh1 tk1 k1=>?_) (by decide+kernel));rw [iP (show(none:Option Value).isNone=true from rfl)];refine wB0 (wpAny_rule ?_);have ho1:=k1 l o ho';refine wB0 (wpAny_pyIter_list (items:=its) ⟨o,ho1,hc,c,hdat⟩ ?_);have hI:l≠h1.objs.size:=ne_of_lt (Heap.lt_size ho1);have hsz:s.heap.objs.size<h1.objs.size:=by obtain⟨oo,_,_,hg,_⟩:=hnew;exact Heap.lt_size (k1 _ _ hg)
 refine wP0 ⟨plainId_quiet F.plain_dict_update_loop _,zIC (knd:=knd) (h₀:=s.heap) (D:=s.heap.objs.size) (Walks.list (by first |exact hA|exact(show A.in1.in1.handled=none from hA)) h1.objs.size l hI its) ?_ kvs hlen.symm hz hP ?_ ?_ _ 0 0 _ rfl (zero_le _) ⟨⟨_,Heap.get?_push_size _ rfl,rfl,rfl⟩,⟨o,hP0 _ ho1,hc,c,hdat⟩⟩ ?_ ?_ λh' tk hk hd'=>?_⟩
 ·rw [mC,mS];rintro(e|e)
  ·exact ne_of_lt hsz e
  ·exact ne_of_lt hl0 e.symm
 ·cases hg:s.heap.get? h1.objs.size with
  |none=>rfl
  |some oo=>exact absurd (Heap.lt_size hg) (Nat.lt_asymm hsz)
 ·cases hg:s.heap.get? s.heap.objs.size with
  |none=>rfl
  |some oo=>exact absurd (Heap.lt_size hg) (lt_irrefl _)
 ·obtain⟨oo,es,ep,hg,rest⟩:=hnew;exact⟨oo,es,ep,hP0 _ (k1 _ _ hg),rest⟩
 ·intro b oo e;exact hP0 _ (k1 _ _ (hP0 _ e))
 ·exact⟨rfl,h h' tk hk hd'⟩
end
end PySem
namespace L2
namespace M
open PySem PySem.Spec PyProof.Rows
section
variable{X:Cx}{W:XW}{α:Ah}{H:Hp}{pins:Ba}{σ:St}{s:Shared}
def zQW(ps:List (Key×V)):List (Key×V):=ps.foldl (λacc p=>zMR acc p.1 p.2) []
inductive PairsV(K:Be)(H:Hp):List V->List (Key×V)->Prop
 |nil:PairsV K H [] []
 |cons {a:Addr} {k:Key} {v:V} {vs ps}:SqT K H a [kV k,v]->PairsV K H vs ps->PairsV K H (.ref a::vs) ((k,v)::ps)
def yMN{ps:List (Key×V)}{qs:List (Key×Value)}(r:KV ps qs): ∀{as:List (Key×V)}{bs:List (Key×Value)},KV as bs->KV (ps.foldl (λacc p=>zMR acc p.1 p.2) as) (merged bs qs):=by
 unfold KV at r
 induction r with
 |nil=>intro as bs h;exact h
 |@cons p q ps qs h t ih=>
  intro as bs hb;rw [foldl_cons];show KV _ (merged (stored bs q.1 q.2) qs);rw [h.1];exact ih (yRI hb _ h.2)
def pairs_of(I:Inv X pins σ H s){vs:List V}{ps:List (Key×V)}(r:PairsV X.K H vs ps): ∀{us:Ae},Vals vs us-> ∃qs:List (Key×Value),KV ps qs/\qs.length=us.length/\ ∀(i:Nat) v,us[i]? =some v-> ∃kv,qs[i]? =some kv/\zYP (wA X.prog X.w) s.heap kv v:=by
 induction r with
 |nil=>intro us h;cases h;exact⟨[],.nil,rfl,λi v h=>by simp at h⟩
 |@cons a k v vs ps hq t ih=>
  intro us h
  cases h with
  |@cons _ u _ us ru rt=>
   cases ru;obtain⟨qs,h1,h2,h3⟩:=ih rt;obtain⟨its,r',pl,hz⟩:=I.tuple hq;obtain⟨u1,u2,rfl,q1,q2⟩:=vals2 r';refine⟨(k,u2)::qs,.cons ⟨rfl,q2⟩ h1,by rw [lC,lC,h2],λi w hw=>?_⟩
   cases i with
   |zero=>
    cases hw;exact⟨_,rfl,a,u1,rfl,pl,yHW q1⟩
   |succ i=>exact h3 i w hw
def yEH(ps:List (Key×V)):(zQW ps).length<=ps.length:=by
 have: ∀(ps as:List (Key×V)),(ps.foldl (λacc p=>zMR acc p.1 p.2) as).length<=as.length+ps.length:=by
  intro ps
  induction ps with
  |nil=>intro as;exact le_refl _
  |cons p ps ih=>
   intro as;rw [foldl_cons,lC];have:=ih (zMR as p.1 p.2);have:=yHO as p.1 p.2;omega
 have:=this ps [];rw [length_nil,zero_add]at this;exact this
def zYQ{K:Be}{vs:List V}{ps:List (Key×V)}(r:PairsV K H vs ps):ps.length=vs.length:=by
 induction r with
 |nil=>rfl
 |cons _ _ ih=>rw [lC,lC,ih]
def yEI:CallR X (.type "dict") (λxs H Q=> ∃l vs ps,xs=[.ref l]/\SqL X.K H l vs/\PairsV X.K H vs ps/\X.calm=true/\ ∀d,H d=none->Q (.ref d) (upd H d (.dK (zQW ps)))):=by intro pins s σ H xs us Q I r h;obtain⟨l,vs,ps,rfl,hq,hp,hc,q⟩:=h;obtain⟨u,rfl,rx⟩:=vals1 r;cases rx;obtain⟨its,rv,⟨o,n,ho,hcl,hd,hdat⟩,hz⟩:=I.list hq;obtain⟨qs,h1,h2,h3⟩:=pairs_of I hp rv;have hl:=rv.length;refine zKY (knd:=wA X.prog X.w) (kvs:=qs) (I.ok.hd hc) ho hcl hd hdat (by rw [sA,h2]) (by rw [sA];omega) (λi v e=>h3 i v (by simpa using e)) λh' tk hk hdd=>?_;have hpl:=zYQ hp;have hf:=yEH ps;refine⟨.ref s.heap.objs.size,_,I.laid (t':=tk) hk (le_refl _) (show ObjOk X.prog X.w _ h' _ (.dK (zQW ps))from⟨by omega,beq_eq_false_iff_ne.mpr (Ne.symm (ne_of_lt (yRD I))),_,yMN h1 .nil,hdd⟩),rfl,q _ (I.hok.fresh (le_refl _))⟩
def zBX:List MV->Option (List (MV×MV))
 |[]=>some []
 |.tup [k,v]::r=>if zMY k=true then(zBX r).map ((k,v)::·)else none
 |_::_=>none
def zVN(ps:Cb):List (MV×MV):=ps.foldl (λacc p=>putK acc p.1 p.2) []
theorem zNB{K:Be}: ∀{ds:Bh}{kvs:Cb}{vs:List V},zBX ds=some kvs->DenL X.K α H ds vs-> ∃ps,PairsV X.K H vs ps/\DenK X.K α H kvs ps
 |[],kvs,vs,e,l=>by cases e;rw [l.isnil];exact⟨[],.nil,.nil⟩
 |d::ds,kvs,vs,e,l=>by
  obtain⟨v,r,rfl,dv,l'⟩:=l.uncons;unfold zBX at e;split at e
  ·cases (by assumption:d::ds=[])
  ·rename_i k y r' hd;obtain⟨rfl,rfl⟩:=List.cons.inj hd;split at e
   ·rename_i hk
    cases z:zBX ds with
    |none=>rw [z]at e;cases e
    |some ms=>
     rw [z]at e;cases e;obtain⟨ps,p1,p2⟩:=zNB (K:=K) z l';obtain⟨a,us,rfl,hs,hl⟩:=xC dv;obtain⟨v1,r1,rfl,d1,l1⟩:=hl.uncons;obtain⟨v2,r2,rfl,d2,l2⟩:=l1.uncons;have e2:=l2.isnil;subst e2;obtain⟨k',hk'⟩:=Option.isSome_iff_exists.mp hk;have e1:=ky_V (X:=X) hk' d1;subst e1;exact⟨(k',v2)::ps,.cons hs p1,.cons (ky_D hk') d2 p2⟩
   ·cases e
  ·cases e
theorem zQX: ∀{kvs:Cb}{ps:List (Key×V)},DenK X.K α H kvs ps-> ∀{as:Cb}{bs:List (Key×V)},DenK X.K α H as bs->DenK X.K α H (kvs.foldl (λacc p=>putK acc p.1 p.2) as) (ps.foldl (λacc p=>zMR acc p.1 p.2) bs)
 |_,_,.nil,as,bs,h=>h
 |_,_,.cons (k:=k) (k':=k') hk a l,as,bs,h=>by rw [foldl_cons,foldl_cons];exact zQX l (yHP h hk a)
def yBE:List Er->Sto->R Er
 |[r],S=>match (xX S r).bind zBX with |some kvs=>.ok (.val (.loc S.length)) (S++[.dic (zVN kvs)])|none=>.no
 |_,_=>.no
def yMO:bootBuiltins "dict"=some (.type "dict"):=by decide+kernel
def yMP(hc:X.calm=true):nK X W (λxs H Q=> ∃l vs ps,xs=[.ref l]/\SqL X.K H l vs/\PairsV X.K H vs ps/\X.calm=true/\ ∀d,H d=none->Q (.ref d) (upd H d (.dK (zQW ps)))) yBE:=by
 intro rs vs α S H Q wd d post;unfold yBE at post;split at post
 ·split at post
  ·rename_i kvs e;obtain⟨v,rfl,dv⟩:=cW d
   cases z:xX S _ with
   |none=>rw [z]at e;cases e
   |some ds=>
    rw [z]at e;obtain⟨a1,us,rfl,sq,l⟩:=nN rfl wd z dv;obtain⟨ps,p1,p2⟩:=zNB (X:=X) (K:=X.K) e l;refine⟨a1,us,ps,rfl,sq,p1,hc,λp hp=>?_⟩;have xn:=wd.newx (o:=.dK (zQW ps)) hp;obtain⟨x,w'⟩:=wd.put (ho:=.dK (zQW ps)) (m:=.dic (zVN kvs)) hp (.inl ⟨_,yR,(zQX p2 .nil).ex0 ⟨⟨[p],rfl⟩,xn.tup,xn.frz⟩⟩);exact post (.ref p) (α++[p]) _ x w' (DenE.val (zLI (by rw [<-wd.len,getElem?_append_right (le_refl _),sub_self];rfl)))
  ·exact post.elim
 ·exact post.elim
end
def cB{α:Type}(xs:List α)(k:Nat)(y:α):List α:=xs.take (min k xs.length)++y::xs.drop (min k xs.length)
section
variable{X:Cx}{W:XW}{a e:Expr}{es:Bd}{f:AX}{af:Rho->Sto->R (List Er)}{pos apos:Pos}
def rIns:V->List V->Hp->VK->Prop:=λx vs H Q=> ∃l xs i y,x=.ref l/\vs=[.int i,y]/\H l=some (.lst xs)/\0<=i/\i<1000000/\xs.length<sizeLine/\Q .non (upd H l (.lst (cB xs i.toNat y)))
def yHZ: ∀{xs:List V}{us:Ae}(k:Nat){y:V}{u:Value},Vals xs us->RelV y u->Vals (cB xs k y) (cB us k u):=by
 intro xs us k y u r ry;unfold cB;rw [r.length]
 have go: ∀(n:Nat){xs:List V}{us:Ae},Vals xs us->Vals (xs.take n++y::xs.drop n) (us.take n++u::us.drop n):=by
  intro n
  induction n with
  |zero=>intro xs us r;exact .cons ry r
  |succ n ih=>
   intro xs us r
   cases r with
   |nil=>exact .cons ry .nil
   |cons r1 r2=>exact .cons r1 (ih r2)
 exact go _ r
def yRS:MtR X "list.insert" rIns:=by
 intro pins s σ H x vs v us Q I rx rv h;obtain⟨l,xs,i,y,rfl,rfl,hH,h0,h1,hz,q⟩:=h;cases rx;obtain⟨u1,u2,rfl,r1,r2⟩:=vals2 rv;obtain⟨t,rfl⟩:=r1;obtain⟨z,its,n,r,hl,e⟩:=I.lstM hH
 refine call_meets F.slot_list_insert ⟨_,e,rfl⟩ F.entry_list_insert (F.args_list_insert_3 _ _ _)
  (AutoSeq1.list_insert_list_int_val_1 l its.toArray n i t u2 (by unfold Builtin.List.listFitsIndex;simp;omega) (by rw [sA];omega)) ⟨e,?_⟩
 refine⟨.non,_,I.lset (its':=cB its i.toNat u2) hH e ?_ (yHZ i.toNat r r2) ?_,rfl,q⟩
 ·show(its.toArray.extract 0 (if i<0 then(i+(its.toArray.size:Int)).toNat else min i.toNat its.toArray.size)).push u2++its.toArray.extract (if i<0 then(i+(its.toArray.size:Int)).toNat else min i.toNat its.toArray.size)=(cB its i.toNat u2).toArray;rw [iN (by omega),sA];unfold cB;apply Array.ext';simp;exact List.take_of_length_le (by simp)
 ·unfold cB;rw [lA,lC,lT,length_drop];omega
def yEJ:Er->List Er->Sto->R Er
 |p,[.val (.int i),.val d],S=>zHV p S λds=>if 0<=i/\i<1000000/\ds.length<sizeLine then some (cB ds i.toNat d)else none
 |_,_,_=>.no
def yIA{K:Be}{α:Ah}{H:Hp}{d:MV}{y:V}(dy:Den K α H d y){ds:Bh}{vs:List V}(l:DenL K α H ds vs)(k:Nat):DenL K α H (cB ds k d) (cB vs k y):=by
 unfold cB;rw [l.length]
 have go: ∀(n:Nat){ds:Bh}{vs:List V},DenL K α H ds vs->DenL K α H (ds.take n++d::ds.drop n) (vs.take n++y::vs.drop n):=by
  intro n
  induction n with
  |zero=>intro ds vs l;exact yB dy l
  |succ n ih=>
   intro ds vs l
   cases ds with
   |nil=>
    cases l.isnil;exact yB dy yI
   |cons a ds=>
    obtain⟨v,r,rfl,dv,l2⟩:=l.uncons;exact yB dv (ih l2)
 exact go _ l
def yRT:yDD X W rIns yEJ:=by
 intro p rs x vs α S H0 H Q α0 wd x0 dp da post;unfold yEJ at post;split at post
 ·rename_i i d;obtain⟨u,v,rfl,du,dv⟩:=args2 da;obtain⟨a,us,ds,es,rfl,h1,l1,eg,k⟩:=zJC wd x0 dp post;split at eg
  ·rename_i hz;cases eg;have du:Den X.K α H (.int i) u:=du;have dv:Den X.K α H d v:=dv;obtain rfl:u=.int i:=yV du;exact⟨a,us,i,v,rfl,rfl,h1,hz.1,hz.2.1,by rw [l1.length];exact hz.2.2,k _ (yIA dv l1 i.toNat)⟩
  ·cases eg
 ·exact post.elim
def yRU(ho:PEm X W a f)(ha:PAm X W (e::es) af)
  (hbase:attributeBase a "insert" X.env (eval a X.env)=eval a X.env:=by rfl)
  (hfew:((backTo pos (starEach (e::es) X.env)).all (λx=>!x.1)&&(backToKw pos (keywordEach [] X.env)).all (λx=>x.1.isSome)
   &&decide ((e::es).length+([]:List Keyword).length+(if([]:List Keyword).isEmpty then 0 else 1)<30))=true:=by rfl)
  (hline:(apos.endLine==pos.line)=true:=by rfl) (hs:starEach (e::es) X.env=(false,eval e X.env)::starEach es X.env:=by rfl) (hplain:(backTo pos (starEach es X.env)).any (·.1)=false:=by rfl):
  PEm X W (.Call (.Attribute a "insert" apos) (e::es) [] pos) (λρ S=>(f ρ S).bind λp S1=>if bL p S1=true then(af ρ S1).bind λrs S2=>yEJ p rs S2 else .no):=
 zLJ PySem.F.plainAttrs_list PySem.F.slot_list_insert PySem.F.type_list_insert yRS yRT zSG ho ha hbase hfew hline hs hplain
end
section
variable{prog:Program}{w:World}{K:Type}[DecidableEq K]{knd:KeyKind prog w K}{A:Around}{E:VP}{s:Shared}
def TSet(knd:KeyKind prog w K)(h:Heap)(a:Addr)(S:K->Bool)(n:Nat)(b:Bool):Prop:=
 ∃o es ep t,h.get? a=some o/\o.ExactSet/\o.data=.set es ep t/\ElemsOf knd es.toList/\(∀k,S k=true↔ ∃e∈es.toList,knd.is k e.2=true)
  /\es.size<scanBound/\t.fits es.size=true/\es.size=n/\t.led=b/\(es.size=0\/t.plain=false)/\(es.toList.map (·.2)).Pairwise (λx y=> ∀k,knd.is k x=true-> ¬knd.is k y=true)
end
def StrT(val:Nat->Key)(i:Nat)(v:Value):Prop:= ∃x t,val i=.inr x/\v=.str x t
def StrT.is{P:Program}{w:World}{val:Nat->Key}{i:Nat}{v:Value}(h:StrT val i v):(wA P w).is (val i) v=true/\v.scannable=true/\plainKind v=false:=by obtain⟨x,t,e,rfl⟩:=h;rw [e];exact⟨zDT P w x t,rfl,rfl⟩
section
variable{α:Type}{prog:Program}{w:World}{A:Around}{E:VP}{s:Shared}
def SetAt(h:Heap)(D:Addr)(es:Array (Int×Value))(ep:Nat)(t:SetTable):Prop:= ∃o,h.get? D=some o/\o.ExactSet/\o.data=.set es ep t/\t.fits es.size=true
end
section
variable{prog:Program}{w:World}{A:Around}{E:VP}{s:Shared}
def SetAt.keep{h h':Heap}{D:Addr}{es:Array (Int×Value)}{ep:Nat}{t:SetTable}(x:SetAt h D es ep t)(m: ∀o,h.get? D=some o->h'.get? D=some o):SetAt h' D es ep t:=by obtain⟨o,ho,r⟩:=x;exact⟨o,m o ho,r⟩
end
end M
end L2
namespace L2
namespace M
namespace My
open PySem PySem.Spec PyProof.Rows
local macro_rules
 | `(tactic|simp? [$xs,*] $[$l:location]?)=>`(tactic|simp only [List.getElem?_cons_zero,List.getElem?_cons_succ,yLB,bok,as_int,as_bl,yQR,add_int,sub_int,eq_int,yQS,yDM,lst1,yDN,lst3,lst6,tup2,tup3,yQX,yQY,yQZ,yRA,yRB,yRC,yLJ,yLK,List.set_cons_zero,List.set_cons_succ,if_true,yLM,yLL,vJ,kJ,bJ,dJ,nJ,aJ,oJ,iJ,mJ,tJ,lJ,zJ,fJ,xJ,hJ,eJ,gJ,uJ,pJ,jJ,qJ,rJ,sJ,wJ,yJ,AJ,BJ,CJ,DJ,EJ,FJ,GJ,HJ,IJ,JJ,KJ,LJ,MJ,NJ,$xs,*] $[$l:location]?)
abbrev zQY:List Str:=["looked_at","test","left","right"]
abbrev zKQ:List Str:=["self","row","rows","asked","other"]
abbrev zGR:List Str:=["rows","pairs","place","i"]
abbrev wH:List Str:=["book","rules","rows","i","row","within","barred"]
abbrev bU:List Str:=["book","rules","i","j","row","other","parted"]
abbrev zVO:List Str:=["book","rows","rules","found","i","j"]
abbrev zJO:List Str:=["book","ties","rule","i","row"]
abbrev zID:List Str:=["kept","some","number"]
abbrev zAD:List Str:=["ties","rows","kept","untied","i"]
abbrev zYR:List Str:=["book","rows","rules","allowed"]
abbrev zGS:List Str:=["_law_cell","_law_k","_law_number"]
abbrev wD:List Str:=["_law_cell","_law_many"]
abbrev zBY:List Str:=["_law_many","_law_ends","_law_two","_law_nexts_here"]
abbrev zEE:List Str:=["_law_low","_law_nexts_here","_law_barred","_law_two","_law_rules","_law_test","_law_rows"]
abbrev zBZ:List Str:=["_law_nexts_here","_law_barred","_law_missing","_law_left","_law_turn"]
abbrev jO:List Str:=["_law_found","_law_due_here"]
abbrev kC:List Str:=["_law_book_here","_law_place","_law_due_here","_law_some","_law_nexts_here","_law_kept_rows","_law_half","_law_k","_law_less","_law_stands"]
abbrev zQZ:List Str:=["_law_script","_law_cells","_law_many","_law_two","_law_ends","_law_low","_law_barred","_law_nexts_here","_law_tables","_law_rules","_law_rows","_law_order_here","_law_book_here","_law_place","_law_missing","_law_whole","_law_out","_law_some"]
abbrev OCS:List Str:=["Rule","Never","Apart","Tie"]
section
abbrev AF:=AY
abbrev AE:=AX
def zCA:AF:=(AJ (aJ (bJ (yJ (vJ 0) (yJ (kJ (.typ "int")) wJ)) zHU) (nJ (bJ (yJ (vJ 0) (yJ (kJ (.typ "bool")) wJ)) zHU))))
def dA:AF:=(zCA)
def dB(ds:Bh)(S:Sto):R Er:=yE (dA (zV ["thing"] ds) S)
def wS:AF:=(iJ (bJ (dJ eqF (dJ ixF (vJ 0) (kJ (.int 0))) (kJ (.str [105,115]))) asB) ((AJ (dJ ixF (vJ 0) (kJ (.int 1))))) (JJ))
def dC:AF:=(AJ (dJ ixF (dJ ixF (dJ ixF (vJ 1) (dJ ixF (vJ 0) (kJ (.int 1)))) (kJ (.int 1))) (dJ ixF (vJ 0) (kJ (.int 2)))))
def zCB:AF:=zZ (wS) ((dC))
def jP(ds:Bh)(S:Sto):R Er:=yE (zCB (zV ["side","looked_at"] ds) S)
def zEF:AF:=(CJ (fJ 2 jP (yJ (dJ ixF (vJ 1) (kJ (.int 0))) (yJ (vJ 0) wJ))) 2)
def zEG:AF:=(CJ (fJ 2 jP (yJ (dJ ixF (vJ 1) (kJ (.int 2))) (yJ (vJ 0) wJ))) 3)
def zEH:AF:=(iJ (bJ (dJ eqF (dJ ixF (vJ 1) (kJ (.int 1))) (kJ (.str [115,97,109,101]))) asB) ((AJ (dJ eqF (vJ 2) (vJ 3)))) (JJ))
def zEI:AF:=(iJ (bJ (dJ eqF (dJ ixF (vJ 1) (kJ (.int 1))) (kJ (.str [117,110,108,105,107,101]))) asB) ((AJ (dJ neF (vJ 2) (vJ 3)))) (JJ))
def zEJ:AF:=(AJ (aJ (fJ 1 dB (yJ (vJ 2) wJ)) (aJ (fJ 1 dB (yJ (vJ 3) wJ)) (dJ ltF (vJ 2) (vJ 3)))))
def zJP:AF:=zZ (zEF) (zZ (zEG) (zZ (zEH) (zZ (zEI) ((zEJ)))))
def zFO(ds:Bh)(S:Sto):R Er:=yE (zJP (zV zQY ds) S)
def nP:AZ:=uJ
def jQ:AE:=(fJ 2 zFO (yJ (vJ 1) (yJ (vJ 0) wJ)))
def zDK:AF:=(AJ (bJ (yJ (pJ (bJ (vJ 1) itT) (gNm 0) (nP) (jQ) 1 [0]) wJ) allF))
def zAE:AF:=(zDK)
def kT(ds:Bh)(S:Sto):R Er:=yE (zAE (zV ["looked_at","tests"] ds) S)
def zEK:AZ:=uJ
def dD:AE:=(dJ ixF (dJ ixF (vJ 1) (kJ (.int 1))) (vJ 0))
def zIE:AF:=(AJ (pJ (bJ (vJ 1) itT) (gNm 0) (zEK) (dD) 1 [0]))
def zGT:AF:=(zIE)
def dE(ds:Bh)(S:Sto):R Er:=yE (zGT (zV ["row","columns"] ds) S)
def zPD:AF:=(AJ (kJ (.bl false)))
def xA:AF:=(zPD)
def jK(ds:Bh)(S:Sto):R Er:=yE (xA (zV ["self","row"] ds) S)
def zFX:AF:=(AJ (kJ (.bl false)))
def zX:AF:=(zFX)
def yS(ds:Bh)(S:Sto):R Er:=yE (zX (zV ["self","row","other"] ds) S)
def zNC:AF:=(AJ (kJ (.bl false)))
def yQ:AF:=(zNC)
def kD(ds:Bh)(S:Sto):R Er:=yE (yQ (zV ["self","row","rows"] ds) S)
def zEL:AF:=(AJ (aJ (dJ eqF (dJ ixF (vJ 1) (kJ (.int 0))) (dJ ixF (bJ (vJ 0) (zGC OCS "parts")) (kJ (.int 1)))) (fJ 2 kT (yJ (bJ (yJ (vJ 1) wJ) zDQ) (yJ (dJ ixF (bJ (vJ 0) (zGC OCS "parts")) (kJ (.int 2))) wJ)))))
def xM:AF:=(zEL)
def zCC(ds:Bh)(S:Sto):R Er:=yE (xM (zV ["self","row"] ds) S)
def zAW:AF:=(λ_ _=>R.no)
def zAX:AF:=(λ_ _=>R.no)
def yN:AF:=zZ (zAW) ((zAX))
def zDR(ds:Bh)(S:Sto):R Er:=yE (yN (zV ["self","row","other"] ds) S)
def zEM:AF:=(λ_ _=>R.no)
def yP:AF:=(zEM)
def dF(ds:Bh)(S:Sto):R Er:=yE (yP (zV ["self","row","other"] ds) S)
def zDL:AY:=(iJ (rJ (bJ (dJ eqF (dJ ixF (vJ 4) (kJ (.int 0))) (dJ ixF (bJ (vJ 0) (zGC OCS "parts")) (kJ (.int 3)))) asB) (bJ (dJ eqF (fJ 2 dE (yJ (vJ 4) (yJ (dJ ixF (bJ (vJ 0) (zGC OCS "parts")) (kJ (.int 4))) wJ))) (vJ 3)) asB)) ((AJ (kJ (.bl false)))) (JJ))
def bD:AY:=(zDL)
def kU:AF:=(iJ (bJ (dJ neF (dJ ixF (vJ 1) (kJ (.int 0))) (dJ ixF (bJ (vJ 0) (zGC OCS "parts")) (kJ (.int 1)))) asB) ((AJ (kJ (.bl false)))) (JJ))
def zAF:AF:=(CJ (fJ 2 dE (yJ (vJ 1) (yJ (dJ ixF (bJ (vJ 0) (zGC OCS "parts")) (kJ (.int 2))) wJ))) 3)
def zAG:AF:=(FJ (bJ (vJ 2) itL) (gNm 4) (bD))
def zPE:AF:=(AJ (kJ (.bl true)))
def xB:AF:=zZ (kU) (zZ (zAF) (zZ (zAG) ((zPE))))
def nQ(ds:Bh)(S:Sto):R Er:=yE (xB (zV zKQ ds) S)
def wT:AF:=(iJ (bJ (dJ eqF (dJ ixF (vJ 0) (kJ (.int 0))) (kJ (.str [110,101,118,101,114]))) asB) ((AJ (bJ (vJ 0) (yDV "Never" "parts")))) (JJ))
def bO:AF:=(iJ (bJ (dJ eqF (dJ ixF (vJ 0) (kJ (.int 0))) (kJ (.str [97,112,97,114,116]))) asB) ((AJ (bJ (vJ 0) (yDV "Apart" "parts")))) (JJ))
def zVP:AF:=(AJ (bJ (vJ 0) (yDV "Tie" "parts")))
def zAY:AF:=zZ (wT) (zZ (bO) ((zVP)))
def zFP(ds:Bh)(S:Sto):R Er:=yE (zAY (zV ["parts"] ds) S)
def zEN:AZ:=uJ
def dG:AE:=(fJ 1 zFP (yJ (vJ 0) wJ))
def zCD:AF:=(AJ (pJ (bJ (dJ ixF (vJ 0) (kJ (.int 1))) itT) (gNm 0) (zEN) (dG) 1 []))
def zGU:AF:=(zCD)
def wU(ds:Bh)(S:Sto):R Er:=yE (zGU (zV ["book"] ds) S)
def zEO:AZ:=uJ
def dH:AE:=(bJ (yJ (vJ 1) (yJ (vJ 0) wJ)) xO)
def zEP:AY:=(BJ (eJ bL yDW (vJ 1) (yJ (pJ (bJ (tJ zMI (vJ 0) (bJ (dJ jH (vJ 2) (kJ (.int 1))) asI) mJ) itT) (gNm 0) (zEO) (dH) 1 [3]) wJ)))
def zCE:AY:=(zEP)
def zCF:AF:=(CJ (bJ wJ zDQ) 1)
def zCG:AF:=(FJ (bJ (yJ (vJ 0) wJ) itE) (gTp 2 (zP (gNm 2) (zP (gNm 3) xY))) (zCE))
def zSO:AF:=(AJ (vJ 1))
def zGV:AF:=zZ (zCF) (zZ (zCG) ((zSO)))
def zCH(ds:Bh)(S:Sto):R Er:=yE (zGV (zV zGR ds) S)
def zND:AF:=(AJ (bJ (yJ (dJ ixF (vJ 1) (kJ (.int 0))) (yJ (tJ zMI (dJ ixF (vJ 1) (kJ (.int 1))) mJ (bJ (dJ ixF (dJ ixF (vJ 0) (dJ ixF (vJ 1) (kJ (.int 0)))) (kJ (.int 1))) asI)) wJ)) xO))
def zNE:AF:=(zND)
def zEQ(ds:Bh)(S:Sto):R Er:=yE (zNE (zV ["tables","row"] ds) S)
def bE:List (Str×(List MV->Sto->R Er)):=[("Rule",jK),("Never",zCC),("Apart",jK),("Tie",jK)]
def kW:List (Str×(List MV->Sto->R Er)):=[("Rule",kD),("Never",kD),("Apart",kD),("Tie",nQ)]
def cC:AZ:=uJ
def kI:AE:=(dJ ixF (dJ ixF (vJ 1) (kJ (.int 2))) (vJ 0))
def kK:AZ:=(bJ (NJ "bars" 2 bE (vJ 1) (yJ (vJ 3) wJ)) zFU)
def kL:AE:=(bJ (yJ (kJ (.str [110,101,118,101,114])) (yJ (vJ 2) (yJ (vJ 0) wJ))) xO)
def kM:AZ:=(bJ (NJ "lacks" 3 kW (vJ 1) (yJ (vJ 3) (yJ (vJ 4) wJ))) zFU)
def kN:AE:=(bJ (yJ (kJ (.str [116,105,101])) (yJ (vJ 2) (yJ (vJ 0) wJ))) xO)
def jR:AF:=(CJ (dJ ixF (dJ ixF (vJ 0) (kJ (.int 2))) (vJ 3)) 4)
def jS:AF:=(CJ (pJ (bJ (vJ 2) itT) (gNm 0) (cC) (kI) 1 [0]) 5)
def jT:AF:=(CJ (pJ (bJ (yJ (vJ 1) wJ) itE) (gTp 2 (zP (gNm 0) (zP (gNm 1) xY))) (kK) (kL) 2 [3,4]) 6)
def jU:AF:=(AJ (dJ jH (vJ 6) (pJ (bJ (yJ (vJ 1) wJ) itE) (gTp 2 (zP (gNm 0) (zP (gNm 1) xY))) (kM) (kN) 2 [3,4,5])))
def bV:AF:=zZ (jR) (zZ (jS) (zZ (jT) ((jU))))
def jA(ds:Bh)(S:Sto):R Er:=yE (bV (zV wH ds) S)
def xP:List (Str×(List MV->Sto->R Er)):=[("Rule",yS),("Never",yS),("Apart",dF),("Tie",yS)]
def kO:AZ:=(bJ (NJ "parts_them" 3 xP (vJ 1) (yJ (vJ 4) (yJ (vJ 5) wJ))) zFU)
def kP:AE:=(bJ (yJ (kJ (.str [97,112,97,114,116])) (yJ (vJ 2) (yJ (vJ 3) (yJ (vJ 0) wJ)))) xO)
def jV:AF:=(CJ (dJ ixF (dJ ixF (vJ 0) (kJ (.int 2))) (vJ 2)) 4)
def jW:AF:=(CJ (dJ ixF (dJ ixF (vJ 0) (kJ (.int 2))) (vJ 3)) 5)
def jX:AF:=(CJ (pJ (bJ (yJ (vJ 1) wJ) itE) (gTp 2 (zP (gNm 0) (zP (gNm 1) xY))) (kO) (kP) 2 [2,3,4,5]) 6)
def jY:AF:=(iJ (bJ (dJ eqF (fJ 2 zEQ (yJ (dJ ixF (vJ 0) (kJ (.int 0))) (yJ (vJ 4) wJ))) (fJ 2 zEQ (yJ (dJ ixF (vJ 0) (kJ (.int 0))) (yJ (vJ 5) wJ)))) asB) ((BJ (eJ bL yDJ (vJ 6) (yJ (bJ (yJ (kJ (.str [107,101,121])) (yJ (vJ 2) (yJ (vJ 3) wJ))) xO) wJ)))) (JJ))
def zIF:AF:=(AJ (vJ 6))
def bW:AF:=zZ (jV) (zZ (jW) (zZ (jX) (zZ (jY) ((zIF)))))
def jB(ds:Bh)(S:Sto):R Er:=yE (bW (zV bU ds) S)
def zIG:AY:=(BJ (eJ bL yDW (vJ 3) (yJ (fJ 4 jA (yJ (vJ 0) (yJ (vJ 2) (yJ (vJ 1) (yJ (vJ 4) wJ))))) wJ)))
def zGW:AY:=(zIG)
def zIH:AY:=(BJ (eJ bL yDW (vJ 3) (yJ (fJ 4 jB (yJ (vJ 0) (yJ (vJ 2) (yJ (vJ 4) (yJ (vJ 5) wJ))))) wJ)))
def zGX:AY:=(zIH)
def zGY:AF:=(CJ (fJ 1 wU (yJ (vJ 0) wJ)) 2)
def zGZ:AF:=(CJ (bJ wJ zDQ) 3)
def zHA:AF:=(FJ (bJ (vJ 1) itT) (gNm 4) (zGW))
def zHB:AF:=(FJ (bJ (fJ 1 zCH (yJ (vJ 1) wJ)) itL) (gTp 2 (zP (gNm 4) (zP (gNm 5) xY))) (zGX))
def zHC:AF:=(AJ (bJ (yJ (vJ 3) wJ) zQT))
def zNF:AF:=zZ (zGY) (zZ (zGZ) (zZ (zHA) (zZ (zHB) ((zHC)))))
def dI(ds:Bh)(S:Sto):R Er:=yE (zNF (zV zVO ds) S)
def zVQ:AF:=(AJ (dJ eqF (bJ (yJ (fJ 2 dI (yJ (vJ 0) (yJ (vJ 1) wJ))) wJ) zFV) (kJ (.int 0))))
def zYS:AF:=(zVQ)
def zHD(ds:Bh)(S:Sto):R Er:=yE (zYS (zV ["book","rows"] ds) S)
def zAH:AZ:=(qJ (bJ (NJ "lacks" 3 kW (vJ 2) (yJ (vJ 3) (yJ (bJ (yJ (vJ 1) wJ) zDQ) wJ))) zFU))
def zGD:AE:=(vJ 0)
def zAI:AY:=(iJ (bJ (NJ "lacks" 3 kW (vJ 2) (yJ (vJ 4) (yJ (bJ wJ zDQ) wJ))) zFU) ((BJ (eJ bL yDJ (vJ 1) (yJ (bJ (yJ (vJ 3) (yJ (pJ (bJ (yJ (dJ ixF (vJ 0) (kJ (.int 2))) wJ) itE) (gTp 2 (zP (gNm 0) (zP (gNm 1) xY))) (zAH) (zGD) 2 [2,4]) wJ)) xO) wJ)))) (JJ))
def jL:AY:=(zAI)
def zGE:AY:=(FJ (bJ (yJ (dJ ixF (vJ 0) (kJ (.int 2))) wJ) itE) (gTp 2 (zP (gNm 3) (zP (gNm 4) xY))) (jL))
def zER:AY:=(zGE)
def zES:AF:=(CJ (bJ wJ zDQ) 1)
def zET:AF:=(FJ (bJ (fJ 1 wU (yJ (vJ 0) wJ)) itL) (gNm 2) (zER))
def zEU:AF:=(AJ (vJ 1))
def zJQ:AF:=zZ (zES) (zZ (zET) ((zEU)))
def gQ(ds:Bh)(S:Sto):R Er:=yE (zJQ (zV zJO ds) S)
def gR:AY:=(iJ (bJ (dJ (zYO false) (vJ 2) (vJ 0)) asB) ((AJ (kJ (.bl true)))) (JJ))
def jZ:AY:=(gR)
def wV:AF:=(FJ (bJ (vJ 1) itL) (gNm 2) (jZ))
def zNG:AF:=(AJ (kJ (.bl false)))
def zCI:AF:=zZ (wV) ((zNG))
def cH(ds:Bh)(S:Sto):R Er:=yE (zCI (zV zID ds) S)
def wE:AZ:=(rJ (bJ (dJ (zYO false) (vJ 0) (vJ 2)) asB) (qJ (bJ (fJ 2 cH (yJ (vJ 2) (yJ (vJ 1) wJ))) zFU)))
def jI:AE:=(vJ 0)
def gS:AF:=(AJ (pJ (bJ (vJ 0) itL) (gTp 2 (zP (gNm 0) (zP (gNm 1) xY))) (wE) (jI) 2 [1]))
def dL:AF:=(gS)
def wW(ds:Bh)(S:Sto):R Er:=yE (dL (zV ["ties","kept"] ds) S)
def nR:AZ:=uJ
def hG:AE:=(bJ (yJ (vJ 0) (yJ (kJ (.bl true)) wJ)) xO)
def nS:AY:=(BJ (eJ isDx zQV (vJ 2) (yJ (vJ 4) (yJ (kJ .non) wJ))))
def jC:AY:=(nS)
def hV:AY:=(FJ (bJ (vJ 3) itL) (gNm 4) (jC))
def hX:AY:=(CJ (fJ 2 wW (yJ (vJ 0) (yJ (vJ 2) wJ))) 3)
def jD:AY:=zZ (hV) ((hX))
def kE:AZ:=(bJ (vJ 3) zFU)
def bX:AF:=(CJ (bJ (yJ (pJ (bJ (vJ 1) itL) (gNm 0) (nR) (hG) 1 []) wJ) yBE) 2)
def bY:AF:=(CJ (fJ 2 wW (yJ (vJ 0) (yJ (vJ 2) wJ))) 3)
def zDM:AF:=(λρ S=>gM (kE) (jD) 10000 ρ S)
def bZ:AF:=(AJ (bJ (yJ (vJ 2) wJ) zVM))
def zAJ:AF:=zZ (bX) (zZ (bY) (zZ (zDM) ((bZ))))
def wI(ds:Bh)(S:Sto):R Er:=yE (zAJ (zV zAD ds) S)
def zNH:AZ:=uJ
def zHE:AE:=(NJ "bars" 2 bE (vJ 0) (yJ (dJ ixF (dJ ixF (vJ 2) (kJ (.int 2))) (vJ 1)) wJ))
def zHF:AZ:=(qJ (bJ (bJ (yJ (pJ (bJ (vJ 2) itL) (gNm 0) (zNH) (zHE) 1 [0,1]) wJ) anyF) zFU))
def zNI:AE:=(vJ 0)
def zNJ:AF:=(CJ (fJ 1 wU (yJ (vJ 0) wJ)) 2)
def zNK:AF:=(CJ (pJ (bJ (vJ 1) itT) (gNm 0) (zHF) (zNI) 1 [0,2]) 3)
def zNL:AF:=(AJ (fJ 2 wI (yJ (fJ 1 gQ (yJ (vJ 0) wJ)) (yJ (vJ 3) wJ))))
def zYT:AF:=zZ (zNJ) (zZ (zNK) ((zNL)))
def zNM(ds:Bh)(S:Sto):R Er:=yE (zYT (zV zYR ds) S)
def gT:AF:=(iJ (bJ (dJ ltF (vJ 1) (bJ (yJ (vJ 0) wJ) zFV)) asB) ((AJ (dJ ixF (vJ 0) (vJ 1)))) (JJ))
def zJR:AF:=(AJ (kJ (.int 0)))
def dM:AF:=zZ (gT) ((zJR))
def yK(ds:Bh)(S:Sto):R Er:=yE (dM (zV ["_law_script","_law_k"] ds) S)
def zCJ:AF:=(CJ (dJ zBT (dJ jH (dJ jH (dJ jH (dJ zBT (vJ 0) (kJ (.int 2147483647))) (dJ zMH (dJ zMH (kJ (.int 7919)) (vJ 1)) (vJ 1))) (dJ zMH (kJ (.int 101)) (vJ 1))) (kJ (.int 11))) (kJ (.int 2147483647))) 2)
def zCK:AF:=(CJ (dJ zBT (dJ jH (dJ jH (dJ zMH (vJ 2) (vJ 2)) (dJ zMH (kJ (.int 48271)) (vJ 2))) (kJ (.int 13))) (kJ (.int 2147483647))) 2)
def zCL:AF:=(AJ (dJ zBT (dJ jH (dJ jH (dJ zMH (vJ 2) (vJ 2)) (dJ zMH (kJ (.int 69621)) (vJ 2))) (kJ (.int 7))) (kJ (.int 2147483629))))
def zNN:AF:=zZ (zCJ) (zZ (zCK) ((zCL)))
def yF(ds:Bh)(S:Sto):R Er:=yE (zNN (zV zGS ds) S)
def zAZ:AZ:=uJ
def gU:AE:=(bJ (yJ (fJ 2 yF (yJ (vJ 1) (yJ (dJ jH (kJ (.int 50)) (vJ 0)) wJ))) (yJ (vJ 0) wJ)) xO)
def zBA:AZ:=uJ
def zBB:AE:=(vJ 1)
def zEV:AF:=(AJ (pJ (bJ (bJ (yJ (pJ (bJ (yJ (vJ 1) wJ) zAS) (gNm 0) (zAZ) (gU) 1 [0]) wJ) zQS) itL) (gTp 2 (zP (gNm 0) (zP (gNm 1) xY))) (zBA) (zBB) 2 []))
def zCM:AF:=(zEV)
def cI(ds:Bh)(S:Sto):R Er:=yE (zCM (zV wD ds) S)
def zBC:AZ:=uJ
def gV:AE:=(dJ jH (vJ 0) (kJ (.int 1)))
def dN:AF:=(CJ (pJ (bJ (yJ (vJ 0) wJ) zAS) (gNm 0) (zBC) (gV) 1 []) 3)
def dO:AF:=(iJ (bJ (dJ eqF (vJ 1) (kJ (.int 1))) asB) ((EJ (dJ yDG (dJ yDG (vJ 0) (kJ (.int 1))) (vJ 2)) (DJ zUX (vJ 3) (kJ (.int (-1)))))) (JJ))
def zNO:AF:=(AJ (vJ 3))
def zCN:AF:=zZ (dN) (zZ (dO) ((zNO)))
def cJ(ds:Bh)(S:Sto):R Er:=yE (zCN (zV zBY ds) S)
def zDN:AZ:=uJ
def cA:AE:=(bJ (yJ (dJ zBT (vJ 0) (dJ jH (kJ (.int 1)) (vJ 3))) (yJ (bJ (yJ (dJ jH (vJ 1) (vJ 0)) (yJ (dJ jH (vJ 1) (dJ ixF (vJ 2) (vJ 0))) wJ)) xO) wJ)) xO)
def zAK:AF:=(CJ (bJ (yJ (bJ (yJ (kJ (.str [116,105,101])) (yJ (kJ (.int 0)) (yJ (bJ (yJ (kJ (.int 1)) wJ) xO) (yJ (vJ 3) (yJ (bJ (yJ (kJ (.int 0)) wJ) xO) wJ))))) xO) wJ) zDQ) 4)
def zAL:AF:=(iJ (bJ (dJ eqF (vJ 3) (kJ (.int 1))) asB) ((BJ (eJ bL yDJ (vJ 4) (yJ (bJ (yJ (kJ (.str [116,105,101])) (yJ (kJ (.int 1)) (yJ (bJ (yJ (kJ (.int 1)) wJ) xO) (yJ (kJ (.int 0)) (yJ (bJ (yJ (kJ (.int 0)) wJ) xO) wJ))))) xO) wJ)))) (JJ))
def zAM:AF:=(iJ (bJ (dJ zHT (vJ 2) (kJ .non)) asB) (zZ (CJ (bJ (yJ (bJ (yJ (kJ (.str [99,101,108,108])) (yJ (kJ (.int 0)) (yJ (kJ (.int 0)) wJ))) xO) (yJ (kJ (.str [115,97,109,101])) (yJ (bJ (yJ (kJ (.str [105,115])) (yJ (dJ jH (vJ 0) (vJ 2)) wJ)) xO) wJ))) xO) 5) ((BJ (eJ bL yEJ (vJ 4) (yJ (dJ zBT (vJ 0) (kJ (.int 2))) (yJ (bJ (yJ (kJ (.str [110,101,118,101,114])) (yJ (dJ zBT (vJ 2) (dJ jH (kJ (.int 1)) (vJ 3))) (yJ (bJ (yJ (vJ 5) wJ) xO) wJ))) xO) wJ)))))) (JJ))
def zAN:AF:=(CJ (pJ (bJ (yJ (bJ (yJ (vJ 1) wJ) zFV) wJ) zAS) (gNm 0) (zDN) (cA) 1 [0,1,3]) 6)
def zAO:AF:=(AJ (bJ (yJ (tJ zMI (bJ (yJ (bJ (yJ (kJ (.int 2)) (yJ (kJ (.int 1)) wJ)) xO) (yJ (bJ (yJ (kJ (.int 2)) (yJ (kJ (.int 1)) wJ)) xO) wJ)) xO) mJ (bJ (dJ jH (kJ (.int 1)) (vJ 3)) asI)) (yJ (bJ (yJ (vJ 4) wJ) zAB) (yJ (vJ 6) wJ))) xO))
def zEW:AF:=zZ (zAK) (zZ (zAL) (zZ (zAM) (zZ (zAN) ((zAO)))))
def nT(ds:Bh)(S:Sto):R Er:=yE (zEW (zV zEE ds) S)
def dP:AZ:=(rJ (bJ (dJ neF (vJ 0) (vJ 1)) asB) (bJ (dJ neF (vJ 0) (vJ 2)) asB))
def zEX:AE:=(vJ 0)
def dQ:AZ:=(bJ (dJ (inF false) (dJ ixF (vJ 1) (vJ 0)) (vJ 2)) asB)
def zEY:AE:=(vJ 0)
def zEZ:AY:=(CJ (pJ (bJ (vJ 3) itL) (gNm 0) (dQ) (zEY) 1 [0,3]) 3)
def cK:AY:=(zEZ)
def zCO:AF:=(CJ (pJ (bJ (yJ (bJ (yJ (vJ 0) wJ) zFV) wJ) zAS) (gNm 0) (dP) (zEX) 1 [1,2]) 3)
def zCP:AF:=(FJ (bJ (yJ (bJ (yJ (vJ 0) wJ) zFV) wJ) zAS) (gNm 4) (cK))
def zSP:AF:=(AJ (vJ 3))
def zHG:AF:=zZ (zCO) (zZ (zCP) ((zSP)))
def zCQ(ds:Bh)(S:Sto):R Er:=yE (zHG (zV zBZ ds) S)
def zFA:AF:=(AJ (aJ (bJ (yJ (vJ 0) (yJ (kJ (.typ "bool")) wJ)) zHU) (dJ eqF (vJ 0) (vJ 1))))
def zCR:AF:=(zFA)
def hZ(ds:Bh)(S:Sto):R Er:=yE (zCR (zV jO ds) S)
def zBD:AZ:=uJ
def gW:AE:=(dJ ixF (vJ 1) (vJ 0))
def gX:AZ:=(bJ (dJ neF (vJ 0) (vJ 1)) asB)
def zBE:AE:=(vJ 0)
def gY:AZ:=(bJ (dJ eqF (dJ ixF (vJ 1) (vJ 0)) (vJ 2)) asB)
def zBF:AE:=(vJ 0)
def zBG:AZ:=uJ
def gZ:AE:=(dJ ixF (vJ 1) (vJ 0))
def bA:AY:=(CJ (pJ (bJ (vJ 2) itL) (gNm 0) (gX) (zBE) 1 [7]) 8)
def bB:AY:=(CJ (dJ eqF (pJ (bJ (vJ 8) itL) (gNm 0) (gY) (zBF) 1 [4,7]) (bJ wJ zDQ)) 9)
def bC:AY:=(CJ (bJ (yJ (bJ (yJ (pJ (bJ (vJ 8) itL) (gNm 0) (zBG) (gZ) 1 [1]) wJ) zVG) wJ) zAB) 3)
def zBH:AY:=(iJ (qJ (bJ (fJ 2 hZ (yJ (fJ 2 zHD (yJ (vJ 0) (yJ (vJ 3) wJ))) (yJ (vJ 9) wJ))) zFU)) ((AJ (kJ (.bl false)))) (JJ))
def gA:AY:=zZ (bA) (zZ (bB) (zZ (bC) ((zBH))))
def dR:AF:=(CJ (bJ (yJ (bJ (yJ (pJ (bJ (vJ 2) itL) (gNm 0) (zBD) (gW) 1 [1]) wJ) zVG) wJ) zAB) 5)
def dS:AF:=(iJ (sJ (bJ (dJ neF (fJ 2 zNM (yJ (vJ 0) (yJ (vJ 3) wJ))) (vJ 5)) asB) (bJ (dJ (yHQ true) (fJ 2 zHD (yJ (vJ 0) (yJ (vJ 5) wJ))) (kJ (.bl true))) asB)) ((AJ (kJ (.bl false)))) (JJ))
def dU:AF:=(iJ (qJ (bJ (fJ 2 hZ (yJ (fJ 2 zHD (yJ (vJ 0) (yJ (vJ 3) wJ))) (yJ (dJ eqF (vJ 5) (vJ 3)) wJ))) zFU)) ((AJ (kJ (.bl false)))) (JJ))
def dW:AF:=(CJ (dJ divF (bJ (yJ (vJ 2) wJ) zFV) (kJ (.int 2))) 6)
def dX:AF:=(FJ (bJ (dJ jH (dJ jH (tJ zMI (vJ 2) mJ (bJ (kJ (.int 1)) asI)) (tJ zMI (vJ 2) (bJ (vJ 6) asI) (bJ (dJ jH (vJ 6) (kJ (.int 1))) asI))) (tJ zMI (vJ 2) (bJ (kJ (.int (-1))) asI) mJ)) itL) (gNm 7) (gA))
def zNP:AF:=(AJ (kJ (.bl true)))
def zCS:AF:=zZ (dR) (zZ (dS) (zZ (dU) (zZ (dW) (zZ (dX) ((zNP))))))
def cL(ds:Bh)(S:Sto):R Er:=yE (zCS (zV kC ds) S)
def zRA:AZ:=uJ
def zJS:AE:=(fJ 2 yK (yJ (vJ 1) (yJ (vJ 0) wJ)))
def zRB:AZ:=uJ
def zJT:AE:=(dJ ixF (vJ 1) (vJ 0))
def zRC:AZ:=uJ
def zJU:AE:=(eJ bL zQN (vJ 1) (yJ (vJ 0) wJ))
def zJV:AZ:=(bJ (dJ neF (dJ ixF (vJ 1) (vJ 0)) (vJ 2)) asB)
def zRD:AE:=(vJ 0)
def zJW:AY:=(CJ (bJ (yJ (pJ (bJ (vJ 15) itT) (gNm 0) (zJV) (zRD) 1 [11,16]) wJ) zAB) 17)
def zRE:AY:=(iJ (qJ (bJ (fJ 5 cL (yJ (vJ 12) (yJ (vJ 13) (yJ (fJ 3 zCQ (yJ (vJ 7) (yJ (vJ 6) (yJ (vJ 16) wJ)))) (yJ (vJ 17) (yJ (vJ 7) wJ)))))) zFU)) ((AJ (kJ (.bl false)))) (JJ))
def zFQ:AY:=zZ (zJW) ((zRE))
def zSQ:AF:=(CJ (pJ (bJ (yJ (kJ (.int 4)) wJ) zAS) (gNm 0) (zRA) (zJS) 1 [0]) 1)
def zSR:AF:=(CJ (dJ jH (kJ (.int 1)) (dJ zBT (fJ 2 yF (yJ (dJ ixF (vJ 1) (kJ (.int 1))) (yJ (kJ (.int 4)) wJ))) (kJ (.int 30)))) 2)
def zSS:AF:=(CJ (bJ (yJ (dJ zBT (fJ 2 yF (yJ (dJ ixF (vJ 1) (kJ (.int 1))) (yJ (kJ (.int 5)) wJ))) (kJ (.int 2))) (yJ (dJ yDG (vJ 2) (kJ (.int 1))) wJ)) yDS) 3)
def zST:AF:=(CJ (bJ (yJ (kJ (.int 1)) (yJ (dJ zBT (fJ 2 yF (yJ (dJ ixF (vJ 1) (kJ (.int 1))) (yJ (kJ (.int 6)) wJ))) (kJ (.int 4))) wJ)) yDS) 4)
def zSU:AF:=(CJ (dJ yDG (dJ zBT (fJ 2 yF (yJ (dJ ixF (vJ 1) (kJ (.int 0))) (yJ (kJ (.int 1)) wJ))) (dJ ixF (bJ (yJ (kJ (.int 9)) (yJ (dJ powF (kJ (.int 10)) (kJ (.int 9))) wJ)) zDQ) (dJ zBT (fJ 2 yF (yJ (dJ ixF (vJ 1) (kJ (.int 0))) (yJ (kJ (.int 2)) wJ))) (kJ (.int 2))))) (kJ (.int 4))) 5)
def zSV:AF:=(CJ (dJ ixF (bJ (yJ (kJ .non) (yJ (dJ zBT (fJ 2 yF (yJ (dJ ixF (vJ 1) (kJ (.int 2))) (yJ (kJ (.int 7)) wJ))) (vJ 2)) wJ)) zDQ) (dJ zBT (fJ 2 yF (yJ (dJ ixF (vJ 1) (kJ (.int 2))) (yJ (kJ (.int 8)) wJ))) (kJ (.int 2)))) 6)
def zSW:AF:=(CJ (fJ 3 cJ (yJ (vJ 2) (yJ (vJ 4) (yJ (vJ 3) wJ)))) 7)
def zSX:AF:=(EJ (fJ 4 nT (yJ (vJ 5) (yJ (vJ 7) (yJ (vJ 6) (yJ (vJ 3) wJ))))) (gTp 3 (zP (gNm 8) (zP (gNm 9) (zP (gNm 10) xY)))))
def zSY:AF:=(CJ (fJ 2 cI (yJ (dJ ixF (vJ 1) (kJ (.int 3))) (yJ (vJ 2) wJ))) 11)
def zNQ:AF:=(CJ (bJ (yJ (vJ 8) (yJ (vJ 9) (yJ (bJ (yJ (pJ (bJ (vJ 11) itL) (gNm 0) (zRB) (zJT) 1 [10]) wJ) zAB) wJ))) xO) 12)
def zNR:AF:=(CJ (pJ (bJ (yJ (vJ 2) wJ) zAS) (gNm 0) (zRC) (zJU) 1 [11]) 13)
def zNS:AF:=(CJ (dJ zBT (fJ 2 yF (yJ (dJ ixF (vJ 1) (kJ (.int 3))) (yJ (kJ (.int 9)) wJ))) (vJ 2)) 14)
def zNT:AF:=(CJ (bJ (yJ (vJ 2) wJ) yAZ) 15)
def zFB:AF:=(FJ (bJ (bJ (yJ (kJ .non) (yJ (vJ 14) wJ)) zDQ) itL) (gNm 16) (zFQ))
def zNU:AF:=(AJ (dJ eqF (bJ (yJ (fJ 2 dI (yJ (vJ 12) (yJ (vJ 15) wJ))) wJ) zFV) (dJ jH (bJ (yJ (dJ zHT (vJ 6) (kJ .non)) wJ) yGZ) (bJ (yJ (dJ eqF (vJ 4) (kJ (.int 0))) wJ) yGZ))))
def yIB:AF:=zZ (zSQ) (zZ (zSR) (zZ (zSS) (zZ (zST) (zZ (zSU) (zZ (zSV) (zZ (zSW) (zZ (zSX) (zZ (zSY) (zZ (zNQ) (zZ (zNR) (zZ (zNS) (zZ (zNT) (zZ (zFB) ((zNU)))))))))))))))
def zVR(ds:Bh)(S:Sto):R Er:=yE (yIB (zV zQZ ds) S)
end
def zSZ{S:Sto}{l:Nat}{ds:Bh}{d:MV}(hS:S[l]? =some (.lst ds))(hz:ds.length<1000000):yDJ (.val (.loc l)) [.val d] S=.ok (.val .non) (S.set l (.lst (ds++[d]))):=by show zHV (.val (.loc l)) S (λds=>if ds.length<sizeLine then some (ds++[d])else none)=_;unfold zHV;dsimp only;rw [hS];dsimp only;rw [iP (lt_of_lt_of_le hz (fits (le_refl _)))]
theorem nU{S:Sto}{l:Nat}{ds:Bh}(hS:S[l]? =some (.lst ds)):bL (.val (.loc l)) S=true:=by unfold bL;rw [bN hS];rfl
def yIC{S:Sto}{l:Nat}{ds:Bh}{k:Int}{j:Nat}{d:MV}{ρ:Rho}(hS:S[l]? =some (.lst ds))(hj:ixN ds.length k=some j):zUX (.val (.loc l)) (.val (.int k)) d ρ S=.ok ρ (S.set l (.lst (ds.set j d))):=by unfold zUX;dsimp only;rw [hS];dsimp only;rw [hj]
def get_set{S:Sto}{l:Nat}{o o':MO}(h:S[l]? =some o):(S.set l o')[l]? =some o':=getElem?_set_self (gS0.mp h).1
def zYU{S:Sto}{l m:Nat}{o':MO}(h:l≠m):(S.set l o')[m]? =S[m]? :=getElem?_set_ne h
def yEK{S:Sto}{l:Nat}{ds:Bh}(hS:S[l]? =some (.lst ds)):zAB [.val (.loc l)] S=.ok (.val (.tup ds)) S:=by show(match xX S (.val (.loc l))with |some ds=>R.ok (Er.val (.tup ds)) S|none=>.no)=_;rw [bN hS]
theorem yBF(gf:MV->Rho->Sto->R Rho)(ρ:Rho)(d:MV)(S:Sto):asgF gf ρ (.val d) S=(gf d ρ S).bind λρ' S2=>.ok (.next ρ') S2:=rfl
def zYV{a:Int}(h:0<=a/\a<4294967296)(b:Int)(S:Sto):zMH (.val (.int b)) (.val (.int a)) S=.ok (.val (.int (b * a))) S:=
 yLH ⟨Int.lt_of_lt_of_le (by decide) h.1,Int.lt_trans h.2 (by decide)⟩ b S
theorem zCT(c k:Int)(hk:0<=k/\k<100000)(S:Sto): ∃n,0<=n/\zU 2 yF [.val (.int c),.val (.int k)] S=.ok (.val (.int n)) S:=by
 have hs:zV zGS [.int c,.int k]=[some (.int c),some (.int k),none]:=rfl;have hk':0<=k/\k<4294967296:=⟨hk.1,by omega⟩
 have e1:zCJ [some (.int c),some (.int k),none] S=.ok (.next [some (.int c),some (.int k),some (.int ((c % 2147483647+7919 * k * k+101 * k+11) % 2147483647))]) S:=by unfold zCJ;simp? [mod_lit (show(0:Int)<2147483647 by decide),zYV hk']
 have h0:0<=(c % 2147483647+7919 * k * k+101 * k+11) % 2147483647:=eN _ (by decide);have h1:(c % 2147483647+7919 * k * k+101 * k+11) % 2147483647<2147483647:=eL _ (by decide);generalize (c % 2147483647+7919 * k * k+101 * k+11) % 2147483647=m at h0 h1 e1;have e2:zCK [some (.int c),some (.int k),some (.int m)] S=.ok (.next [some (.int c),some (.int k),some (.int ((m * m+48271 * m+13) % 2147483647))]) S:=by unfold zCK;simp? [mod_lit (show(0:Int)<2147483647 by decide),zYV (a:=m) ⟨h0,by omega⟩]
 have h2:0<=(m * m+48271 * m+13) % 2147483647:=eN _ (by decide);have h3:(m * m+48271 * m+13) % 2147483647<2147483647:=eL _ (by decide);generalize (m * m+48271 * m+13) % 2147483647=p at h2 h3 e2;have e3:zCL [some (.int c),some (.int k),some (.int p)] S=.ok (.ret (.val (.int ((p * p+69621 * p+7) % 2147483629)))) S:=by unfold zCL;simp? [mod_lit (show(0:Int)<2147483629 by decide),zYV (a:=p) ⟨h2,by omega⟩]
 refine⟨(p * p+69621 * p+7) % 2147483629,eN _ (by decide),cP rfl ?_ (gO _ _) (λl=>by simp)⟩;show yF [.int c,.int k] S=_;unfold yF zNN;rw [hs,zG e1,zG e2,e3];rfl
mutual
def pd:MV->Bool
 |.int _=>true
 |.str _=>true
 |.tup ds=>pdL ds
 |_=>false
def pdL:List MV->Bool
 |[]=>true
 |d::ds=>pd d&&pdL ds
end

mutual
def dpt:MV->Nat
 |.tup ds=>zKZ ds+1
 |_=>0
def zKZ:List MV->Nat
 |[]=>0
 |d::ds=>max (dpt d) (zKZ ds)
end

def zTA(ds:Bh):pd (.tup ds)=pdL ds:=by rw [pd]
def yBG:pdL []=true:=by rw [pdL]
def zII(d:MV)(ds:Bh):pdL (d::ds)=(pd d&&pdL ds):=by rw [pdL]
def zLO(ds:Bh):dpt (.tup ds)=zKZ ds+1:=by rw [dpt]
def zFR(d:MV)(ds:Bh):zKZ (d::ds)=max (dpt d) (zKZ ds):=by rw [zKZ]
def zVS:zKZ []=0:=by rw [zKZ]
def zNV(i:Int):pd (.int i)=true:=by rw [pd]
def yRV(i:Ab):pd (.str i)=true:=by rw [pd]
def zLP(i:Int):dpt (.int i)=0:=by simp [dpt]
def yMQ(i:Ab):dpt (.str i)=0:=by simp [dpt]
theorem zTB: ∀{ds:Bh},(∀d∈ds,pd d=true)->pdL ds=true
 |[],_=>yBG
 |d::ds,h=>by rw [zII,h d mF0,zTB λe he=>h e (mO _ he)];rfl
theorem zTC: ∀{ds:Bh},pdL ds=true-> ∀d∈ds,pd d=true
 |[],_,d,h=>by simp at h
 |e::ds,hp,d,h=>by
  rw [zII,aE]at hp;rcases mC.mp h with rfl|h
  ·exact hp.1
  ·exact zTC hp.2 d h
theorem zTD: ∀{ds:Bh}{n:Nat},(∀d∈ds,dpt d<=n)->zKZ ds<=n
 |[],n,_=>by rw [zVS];exact zero_le _
 |d::ds,n,h=>by rw [zFR];have h1:=h d mF0;have h2:=zTD λe he=>h e (mO _ he);omega
theorem zVT: ∀{ds:Bh}, ∀d∈ds,dpt d<=zKZ ds
 |[],d,h=>by simp at h
 |e::ds,d,h=>by
  rw [zFR];rcases mC.mp h with rfl|h
  ·exact Nat.le_max_left _ _
  ·exact le_trans (zVT d h) (Nat.le_max_right _ _)
def zVU{d:MV}(h:pd d=true):(∃i,d=.int i)\/(∃x,d=.str x)\/ ∃ds,d=.tup ds/\pdL ds=true:=by
 cases d with
 |int i=>exact .inl ⟨i,rfl⟩
 |str x=>exact .inr (.inl ⟨x,rfl⟩)
 |tup ds=>exact .inr (.inr ⟨ds,rfl,by rw [<-zTA];exact h⟩)
 |_=>rw [pd]at h<;>first |cases h|(intros;simp)
def dec_is{p:Prop}[Decidable p]{q:Prop}[Decidable q](h:p↔q):decide p=decide q:=by
 by_cases hq:q
 ·rw [dT0 hq,dT0 (h.mpr hq)]
 ·rw [dF0 hq,dF0 λz=>hq (h.mp z)]
theorem zNW{e:MV->MV->Option Bool}: ∀{ds es:Bh},(∀d∈ds, ∀f∈es,e d f=some (decide (d=f)))-> ∃bs,prs e ds es=some bs/\(bs.all id&&ds.length==es.length)=decide (ds=es)
 |[],[],_=>⟨[],rfl,by simp⟩
 |[],_::_,_=>⟨[],rfl,by simp⟩
 |_::_,[],_=>⟨[],rfl,by simp⟩
 |d::ds,f::es,h=>by
  obtain⟨bs,h1,h2⟩:=zNW (e:=e) (ds:=ds) (es:=es) λa ha b hb=>h a (mO _ ha) b (mO _ hb);refine⟨decide (d=f)::bs,?_,?_⟩
  ·unfold prs;rw [h d mF0 f mF0,h1];rfl
  ·by_cases hd:d=f
   ·subst hd;rw [all_cons,dT0 rfl];simp only [id,Bool.true_and,lC];rw [show(ds.length+1==es.length+1)=(ds.length==es.length) by simp,h2];exact dec_is (by simp)
   ·rw [all_cons,dF0 hd];rw [dF0 (show¬(d::ds=f::es)from λz=>hd (List.cons.inj z).1)];rfl
theorem bP{S:Sto}: ∀(n:Nat){d e:MV},pd d=true->pd e=true->dpt d<n->eqv S n d e=some (decide (d=e))
 |0,d,e,_,_,h=>by omega
 |n+1,d,e,hd,he,h=>by
  rcases zVU hd with⟨i,rfl⟩|⟨x,rfl⟩|⟨ds,rfl,pds⟩<;>rcases zVU he with⟨j,rfl⟩|⟨y,rfl⟩|⟨es,rfl,pes⟩
  ·rw [zBU];exact congrArg some (dec_is (by simp))
  ·rw [yQT,dF0 (by simp)]
  ·rw [dF0 (by simp)];rfl
  ·rw [yQU,dF0 (by simp)]
  ·rw [zLK];exact congrArg some (dec_is (by simp))
  ·rw [dF0 (by simp)];rfl
  ·rw [dF0 (by simp)];rfl
  ·rw [dF0 (by simp)];rfl
  ·rw [zLO]at h;obtain⟨bs,h1,h2⟩:=zNW (e:=eqv S n) (ds:=ds) (es:=es) λa ha b hb=>bP n (zTC pds a ha) (zTC pes b hb) (by have:=zVT a ha;omega);show((prs (eqv S n) ds es).map λbs=>bs.all id&&ds.length==es.length)=_;rw [h1];show some (bs.all id&&ds.length==es.length)=_;rw [h2];exact congrArg some (dec_is (by simp))
def yBH{S:Sto}{d e:MV}(hd:pd d=true)(he:pd e=true)(h:dpt d<40):eqF (.val d) (.val e) S=.ok (.val (.bl (decide (d=e)))) S:=zMN (bP (zI+1) hd he (by unfold zI;omega))
theorem zVV{S:Sto}{d:MV}(hd:pd d=true): ∀{ys:Bh},(∀y∈ys,pd y=true/\dpt y<40)->zUV S zI d ys=some (ys.map λy=>decide (y=d))
 |[],_=>rfl
 |y::ys,h=>by have h1:=h y mF0;unfold zUV;rw [bP zI h1.1 hd (by unfold zI;exact h1.2),zVV hd λz hz=>h z (mO _ hz)];rfl
theorem yMR(neg:Bool)(p:Er)(l:Nat)(S:Sto):inF neg p (.val (.loc l)) S=zSE neg p (.val (.loc l)) S:=by
 unfold inF;split
 ·rename_i h;cases h
 ·rfl
def yMS{S:Sto}{l:Nat}{d:MV}{ys:Bh}(neg:Bool)(hS:S[l]? =some (.lst ys))(hd:pd d=true)(h: ∀y∈ys,pd y=true/\dpt y<40):inF neg (.val d) (.val (.loc l)) S=.ok (.val (.bl (if neg=true then !decide (d∈ys)else decide (d∈ys)))) S:=by
 have e1:itemsOf S (.val (.loc l))=some ys:=by unfold itemsOf;exact bN hS
 rw [yMR];unfold zSE;dsimp only;rw [e1];dsimp only;rw [zVV hd h];dsimp only
 have ha:(ys.map λy=>decide (y=d)).any id=decide (d∈ys):=by
  rw [List.any_map];by_cases hm:d∈ys
  ·rw [dT0 hm,any_eq_true];exact⟨d,hm,by simp⟩
  ·rw [dF0 hm];rw [any_eq_false];intro y hy;simp only [Function.comp,id,decide_eq_true_eq];rintro rfl;exact hm hy
 rw [ha]
def yEL{α:Type}(ds:List α)(j:Nat):wG ds (some (j:Int)) none=ds.drop j:=by
 unfold wG;rw [HT.sIx_nat,show HT.sIx ds.length ds.length none=ds.length from rfl];by_cases h:j<=ds.length
 ·rw [min_eq_left h,List.take_of_length_le (by rw [length_drop];exact le_refl _)]
 ·rw [Nat.min_eq_right (by omega),List.drop_of_length_le (le_refl _),List.drop_of_length_le (show ds.length<=j by omega),List.take_nil]
def zVW{n:Nat}{F:List MV->Sto->R Er}{rs:List Er}{S T:Sto}{r:Er}{ds:Bh}{as:Bh}{S2:Sto}(hn:rs.length=n)(hE:zQ rs S=(as,S2))(hF:F as S2=.ok r (S++T))(hr:r=.new ds\/ ∃l,r=.val (.loc l)/\S.length<=l/\(S++T)[l]? =some (.lst ds))(h:loL S.length ds):zU n F rs S=.ok (.new ds) S:=by
 have hF':F (zQ rs S).1 (zQ rs S).2=.ok r (S++T):=by rw [hE];exact hF
 rcases hr with rfl|⟨l,rfl,h1,h2⟩
 ·exact cY hn hF' h
 ·exact zMM hn hF' h1 h2 h
def zFC{d:MV}(h:Vl d):pd d=true/\dpt d=0:=by
 rcases h.cases with⟨i,rfl,_⟩|⟨x,rfl,_⟩
 ·exact⟨zNV i,zLP i⟩
 ·exact⟨yRV x,yMQ x⟩
theorem yID(S:Sto)(a b:MO):(S++[a,b])[S.length+1]? =some b:=by rw [getElem?_append_right (by omega),show S.length+1 - S.length=1 by omega];rfl
def tbl(p:Int×Int):MV:=.tup [.int p.1,.int p.2]
def zK(r:Nat×List MV):MV:=.tup [.int r.1,.tup r.2]
def ROk(ts:Ac)(r:Nat×List MV):Prop:= ∃p,ts[r.1]? =some p/\(r.2.length:Int)=p.1/\ ∀d∈r.2,Vl d
def SqM(S:Sto)(m:MV)(ds:Bh):Prop:=m=.tup ds\/ ∃l,m=.loc l/\S[l]? =some (.lst ds)
def SqM.ix{S:Sto}{m:MV}{ds:Bh}{i:Int}{d:MV}(h:SqM S m ds)(hk:atI ds i=some d):ixF (.val m) (.val (.int i)) S=.ok (.val d) S:=by
 rcases h with rfl|⟨l,rfl,hS⟩
 ·exact ix_tup hk
 ·exact zJF hS hk
def SqM.len{S:Sto}{m:MV}{ds:Bh}(h:SqM S m ds):zFV [.val m] S=.ok (.val (.int ds.length)) S:=by
 rcases h with rfl|⟨l,rfl,hS⟩
 ·rfl
 ·exact zLL hS
def wid(ts:Ac)(t:Nat):Int:=((ts[t]?).map (·.1)).getD 0
theorem zTE{ts:Ac}{t:Nat}{p:Int×Int}(h:ts[t]? =some p):wid ts t=p.1:=by unfold wid;rw [h];rfl
inductive Side where
 |isv (v:MV)|cell (k j:Nat)
def sIs:List Nat:=[105,115]
def yOH:List Nat:=[99,101,108,108]
def zBI:Side->MV
 |.isv v=>.tup [.str sIs,v]
 |.cell k j=>.tup [.str yOH,.int k,.int j]
def yEM(ws:Ad):Side->Prop
 |.isv v=>Vl v
 |.cell k j=> ∃w,ws[k]? =some w/\(j:Int)<w
def zC(t:Nat):MV:=.int (t:Nat)
def yBI{ws:Ad}{sd:Side}(h:yEM ws sd)(n:Nat):lo n (zBI sd):=by
 cases sd with
 |isv v=>exact gP (wC λe he=>by simp at he;rcases he with rfl|rfl;(exact zEB _ _);exact Vl.lo h n)
 |cell k j=>exact gP (wC λe he=>by simp at he;rcases he with rfl|rfl|rfl<;>first |exact zEB _ _|exact gO _ _)
structure Test where
 l:Side
 w:List Nat
 r:Side
def yIE:List (List Nat):=[[115,97,109,101],[117,110,108,105,107,101],[108,101,115,115]]
def testM(t:Test):MV:=.tup [zBI t.l,.str t.w,zBI t.r]
def TsOk(ws:Ad)(t:Test):Prop:=yEM ws t.l/\t.w∈yIE/\yEM ws t.r
def yMT{ws:Ad}{t:Test}(h:TsOk ws t)(n:Nat):lo n (testM t):=gP (wC λe he=>by
 simp only [mC,nM0,or_false]at he;rcases he with rfl|rfl|rfl
 ·exact yBI h.1 n
 ·exact zEB _ _
 ·exact yBI h.2.2 n)
inductive Rule where
 |never (t:Nat) (qs:List Test)|apart (t u:Nat) (qs:List Test)|tie (t:Nat) (cs:Ab) (u:Nat) (ds:Ab)
def zCU:List Nat:=[110,101,118,101,114]
def zHH:List Nat:=[97,112,97,114,116]
def zTF:List Nat:=[116,105,101]
def zM:Rule->MV
 |.never t qs=>.tup [.str zCU,.int (t:Nat),.tup (qs.map testM)]
 |.apart t u qs=>.tup [.str zHH,.int (t:Nat),.int (u:Nat),.tup (qs.map testM)]
 |.tie t cs u ds=>.tup [.str zTF,.int (t:Nat),.tup (cs.map zC),.int (u:Nat),.tup (ds.map zC)]
def dY(ts:Ac):Rule->Prop
 |.never t qs=>t<ts.length/\1<=qs.length/\qs.length<=3/\ ∀q∈qs,TsOk [wid ts t] q
 |.apart _ _ _=>False
 |.tie t cs u ds=>t<ts.length/\u<ts.length/\1<=cs.length/\cs.length<=3/\ds.length=cs.length/\(∀c∈cs,(c:Int)<wid ts t)/\ ∀d∈ds,(d:Int)<wid ts u
def yBJ{ts:Ac}{r:Rule}(h:dY ts r)(n:Nat):lo n (zM r):=by
 have nm: ∀(cs:Ab),lo n (.tup (cs.map zC)):=λcs=>gP (wC λe he=>by obtain⟨c,_,rfl⟩:=mM.mp he;exact gO _ _)
 cases r with
 |never t qs=>
  refine gP (wC λe he=>?_);simp only [mC,nM0,or_false]at he;rcases he with rfl|rfl|rfl
  ·exact zEB _ _
  ·exact gO _ _
  ·exact gP (wC λe he=>by obtain⟨q,hq,rfl⟩:=mM.mp he;exact yMT (h.2.2.2 q hq) n)
 |apart t u qs=>exact h.elim
 |tie t cs u ds=>
  refine gP (wC λe he=>?_);simp only [mC,nM0,or_false]at he;rcases he with rfl|rfl|rfl|rfl|rfl
  ·exact zEB _ _
  ·exact gO _ _
  ·exact nm cs
  ·exact gO _ _
  ·exact nm ds
def tup1(a:MV)(S:Sto):xO [.val a] S=.ok (.val (.tup [a])) S:=zBV (by simp)
def tup4(a b c d:MV)(S:Sto):xO [.val a,.val b,.val c,.val d] S=.ok (.val (.tup [a,b,c,d])) S:=zBV (by simp)
def tup5(a b c d e:MV)(S:Sto):xO [.val a,.val b,.val c,.val d,.val e] S=.ok (.val (.tup [a,b,c,d,e])) S:=zBV (by simp)
def dZ(rs:Ca):Side->MV
 |.isv v=>v
 |.cell k j=>((rs[k]?).bind λr=>r.2[j]?).getD .non
def yEN(ws:Ad)(rs:Ca):Prop:= ∀(k:Nat)(w:Int),ws[k]? =some w-> ∃r:Nat×List MV,rs[k]? =some r/\(r.2.length:Int)=w/\ ∀d∈r.2,Vl d
def bF{α:Type}{xs:List α}{k:Nat}{x:α}(h:xs[k]? =some x):atI xs (k:Int)=some x:=by have hl:k<xs.length:=(gS0.mp h).1;unfold atI ixN;rw [iP (by omega),iP (by omega)];show xs[(k:Int).toNat]? =_;rw [toNat_natCast,h]
theorem yBK{ws:Ad}{rs:Ca}(hR:yEN ws rs){k j:Nat}(h:yEM ws (.cell k j)): ∃(r:Nat×List MV)(v:MV),rs[k]? =some r/\r.2[j]? =some v/\Vl v/\dZ rs (.cell k j)=v:=by
 obtain⟨w,h1,h2⟩:=h;obtain⟨r,h3,h4,h5⟩:=hR k w h1;have hj:j<r.2.length:=by omega
 refine⟨r,r.2[j],h3,gE0 hj,h5 _ (getElem_mem hj),?_⟩;show((rs[k]?).bind λr=>r.2[j]?).getD .non=_;rw [h3];show(r.2[j]?).getD .non=_;rw [gE0 hj];rfl
def zNX{ws:Ad}{rs:Ca}(hR:yEN ws rs){sd:Side}(h:yEM ws sd):Vl (dZ rs sd):=by
 cases sd with
 |isv v=>exact h
 |cell k j=>obtain⟨r,v,_,_,h3,h4⟩:=yBK hR h;rw [h4];exact h3
def yIF{d:MV}(h:Vl d)(l:Nat):d≠.loc l:=by rcases h.cases with⟨i,rfl,_⟩|⟨x,rfl,_⟩<;>simp
def est(x y:Ab)(S:Sto):eqF (.val (.str x)) (.val (.str y)) S=.ok (.val (.bl (decide (x=y)))) S:=zMN (zLK _ x y)
def eqV{a b:MV}(ha:Vl a)(hb:Vl b)(S:Sto):eqF (.val a) (.val b) S=.ok (.val (.bl (decide (a=b)))) S:=yBH (zFC ha).1 (zFC hb).1 (by rw [(zFC ha).2];decide)
def neV{a b:MV}(ha:Vl a)(hb:Vl b)(S:Sto):neF (.val a) (.val b) S=.ok (.val (.bl (!decide (a=b)))) S:=zYK (bP (zI+1) (zFC ha).1 (zFC hb).1 (by rw [(zFC ha).2];exact Nat.succ_pos _))
theorem zIJ{ws:Ad}{rs:Ca}(hR:yEN ws rs){sd:Side}(h:yEM ws sd){m:MV}{S:Sto}(hm:SqM S m (rs.map zK)):zU 2 jP [.val (zBI sd),.val m] S=.ok (.val (dZ rs sd)) S:=by
 have hv:=zNX hR h;refine cP rfl ?_ (hv.lo _) (yIF hv);show yE (zCB [some (zBI sd),some m] S)=_;unfold zCB
 cases sd with
 |isv v=>
  have e1:wS [some (zBI (.isv v)),some m] S=.ok (.ret (.val v)) S:=by unfold wS;simp? [ix_tup (S:=S) (ds:=[.str sIs,v]) (i:=0) rfl,ix_tup (S:=S) (ds:=[.str sIs,v]) (i:=1) rfl,est];rfl
  rw [cG e1];rfl
 |cell k j=>
  obtain⟨r,v,h1,h2,h3,h4⟩:=yBK hR h;have e1:wS [some (zBI (.cell k j)),some m] S=.ok (.next [some (zBI (.cell k j)),some m]) S:=by unfold wS;simp? [ix_tup (S:=S) (ds:=[.str yOH,.int k,.int j]) (i:=0) rfl,est];rfl
  have hk:atI (rs.map zK) (k:Int)=some (zK r):=bF (by rw [getElem?_map,h1];rfl);have e2:dC [some (zBI (.cell k j)),some m] S=.ok (.ret (.val v)) S:=by unfold dC;simp? [show ixF (.val (zBI (.cell k j))) (.val (.int 1)) S=.ok (.val (.int (k:Nat))) S from ix_tup rfl,show ixF (.val (zBI (.cell k j))) (.val (.int 2)) S=.ok (.val (.int (j:Nat))) S from ix_tup rfl,hm.ix hk,show ixF (.val (zK r)) (.val (.int 1)) S=.ok (.val (.tup r.2)) S from ix_tup rfl,ix_tup (S:=S) (bF h2)]
  rw [zG e1,e2,h4];rfl
def ltV:MV->MV->Bool
 |.int i,.int j=>decide (i<j)
 |_,_=>false
def zBJ:List Nat:=[115,97,109,101]
def zTG:List Nat:=[117,110,108,105,107,101]
def zDO(rs:Ca)(q:Test):Bool:=if q.w=zBJ then decide (dZ rs q.l=dZ rs q.r)else if q.w=zTG then !decide (dZ rs q.l=dZ rs q.r)else ltV (dZ rs q.l) (dZ rs q.r)
theorem yRW(i:Int)(S:Sto):zHU [.val (.int i),.val (.typ "int")] S=.ok (.val (.bl true)) S:=rfl
theorem yRX(i:Int)(S:Sto):zHU [.val (.int i),.val (.typ "bool")] S=.ok (.val (.bl false)) S:=rfl
theorem yRY(i:Ab)(S:Sto):zHU [.val (.str i),.val (.typ "int")] S=.ok (.val (.bl false)) S:=rfl
def zTH{n:Nat}{F:List MV->Sto->R Er}{rs:List Er}{S T:Sto}{b:Bool}(hn:rs.length=n)(hF:F (zQ rs S).1 (zQ rs S).2=.ok (.val (.bl b)) (S++T)):zU n F rs S=.ok (.val (.bl b)) S:=zAT hn hF (yHE _ _) (λl=>by simp)
def bQ{n:Nat}{F:List MV->Sto->R Er}{rs:List Er}{S:Sto}{b:Bool}(hn:rs.length=n)(hF:F (zQ rs S).1 (zQ rs S).2=.ok (.val (.bl b)) S):zU n F rs S=.ok (.val (.bl b)) S:=cP hn hF (yHE _ _) (λl=>by simp)
def yBL{d:MV}(h:Vl d)(S:Sto):zU 1 dB [.val d] S=.ok (.val (.bl (match d with |.int _=>true|_=>false))) S:=bQ rfl (by
 rcases h.cases with⟨i,rfl,_⟩|⟨x,rfl,_⟩
 ·show yE (dA [some (.int i)] S)=_;unfold dA zCA;simp? [yRW,yRX,zUS];rfl
 ·show yE (dA [some (.str x)] S)=_;unfold dA zCA;simp? [yRY,zUS];rfl)
def yEO{ws:Ad}{rs:Ca}(hR:yEN ws rs){q:Test}(h:TsOk ws q){m:MV}{S:Sto}(hm:SqM S m (rs.map zK)):zU 2 zFO [.val m,.val (testM q)] S=.ok (.val (.bl (zDO rs q))) S:=bQ rfl (by
 have ha:=zNX hR h.1;have hb:=zNX hR h.2.2;have t0: ∀S,ixF (.val (testM q)) (.val (.int 0)) S=.ok (.val (zBI q.l)) S:=λS=>ix_tup rfl;have t1: ∀S,ixF (.val (testM q)) (.val (.int 1)) S=.ok (.val (.str q.w)) S:=λS=>ix_tup rfl;have t2: ∀S,ixF (.val (testM q)) (.val (.int 2)) S=.ok (.val (zBI q.r)) S:=λS=>ix_tup rfl;show yE (zJP [some m,some (testM q),none,none] S)=_;have e1:zEF [some m,some (testM q),none,none] S=.ok (.next [some m,some (testM q),some (dZ rs q.l),none]) S:=by unfold zEF;simp? [t0,zIJ hR h.1 hm]
 have e2:zEG [some m,some (testM q),some (dZ rs q.l),none] S=.ok (.next [some m,some (testM q),some (dZ rs q.l),some (dZ rs q.r)]) S:=by unfold zEG;simp? [t2,zIJ hR h.2.2 hm]
 unfold zDO;generalize dZ rs q.l=a at ha e1 e2;generalize dZ rs q.r=b at hb e2;have e3:zEH [some m,some (testM q),some a,some b] S=if decide (q.w=zBJ)=true then .ok (.ret (.val (.bl (decide (a=b))))) S else .ok (.next [some m,some (testM q),some a,some b]) S:=by unfold zEH;simp? [t1,est,eqV ha hb];rfl
 have e4:zEI [some m,some (testM q),some a,some b] S=if decide (q.w=zTG)=true then .ok (.ret (.val (.bl (!decide (a=b))))) S else .ok (.next [some m,some (testM q),some a,some b]) S:=by unfold zEI;simp? [t1,est,neV ha hb];rfl
 have e5:zEJ [some m,some (testM q),some a,some b] S=.ok (.ret (.val (.bl (ltV a b)))) S:=by unfold zEJ;rcases ha.cases with⟨i,rfl,_⟩|⟨x,rfl,_⟩<;>rcases hb.cases with⟨j,rfl,_⟩|⟨y,rfl,_⟩<;>(simp? [yBL ha,yBL hb,zUS,lt_int];rfl)
 unfold zJP;rw [zG e1,zG e2];by_cases h1:q.w=zBJ
 ·rw [dT0 h1,iP rfl]at e3;rw [cG e3,iP h1];rfl
 ·rw [dF0 h1,iN xF0]at e3;rw [zG e3,iN h1];by_cases h2:q.w=zTG
  ·rw [dT0 h2,iP rfl]at e4;rw [cG e4,iP h2];rfl
  ·rw [dF0 h2,iN xF0]at e4;rw [zG e4,iN h2,e5];rfl)
theorem yT{α:Type}{f g:α->MV}{S:Sto}{gf:MV->Rho->Sto->R Rho}{cf:AZ}{ef:AX}{ρb:Rho}{gs:Ca}(hs:stay gs S):
  ∀{ds:List α},(∀d∈ds, ∃ρ1,gf (f d) ρb S=.ok ρ1 S/\cf ρ1 S=.ok true S/\ef ρ1 S=.ok (.val (g d)) S)->yD gf cf ef ρb gs (ds.map f) S=.ok (ds.map g) S
 |[],_=>rfl
 |d::ds,st=>by obtain⟨ρ1,h1,h2,h3⟩:=st d mF0;have e:=yT hs (f:=f) (g:=g) (ds:=ds) λd hd=>st d (mO _ hd);rw [map_cons];unfold yD;rw [h1,yL,bok,h2,yL,bok,iP rfl,h3,yL,bok];unfold gI;rw [bok,iP hs,e];rfl
theorem yMU{α:Type}(f:α->Bool)(xs:List α)(S:Sto):allF [.new (xs.map λx=>.bl (f x))] S=.ok (.val (.bl (xs.all f))) S:=by
 have h: ∀xs:List α,nO (xs.map λx=>.bl (f x))=some (xs.map f):=by
  intro xs
  induction xs with
  |nil=>rfl
  |cons x xs ih=>rw [map_cons,map_cons];unfold nO;rw [ih];rfl
 show(match (some (xs.map λx=>MV.bl (f x))).bind nO with |some bs=>R.ok (Er.val (.bl (bs.all id))) S|none=>.no)=_;rw [show(some (xs.map λx=>MV.bl (f x))).bind nO=some (xs.map f)from h xs];show R.ok (Er.val (.bl ((xs.map f).all id))) S=_;rw [all_map];rfl
theorem nV(ds:Bh)(S:Sto):itT (.val (.tup ds)) S=.ok ⟨ds,[]⟩ S:=rfl
def c_all{ws:Ad}{rs:Ca}(hR:yEN ws rs){qs:List Test}(hl:qs.length<=3)(h: ∀q∈qs,TsOk ws q)(S:Sto):zU 2 kT [.new (rs.map zK),.val (.tup (qs.map testM))] S=.ok (.val (.bl (qs.all (zDO rs)))) S:=zTH (T:=[.lst (rs.map zK)]) rfl (by
 show yE (zAE [some (.loc S.length),some (.tup (qs.map testM))] (S++[.lst (rs.map zK)]))=_;have hm:SqM (S++[.lst (rs.map zK)]) (.loc S.length) (rs.map zK):=.inr ⟨_,rfl,by simp⟩;have hc:yD (gNm 0) nP jQ [none,some (.loc S.length)] [] (qs.map testM) (S++[.lst (rs.map zK)])=.ok (qs.map λq=>.bl (zDO rs q)) (S++[.lst (rs.map zK)]):=yT (wO _) λq hq=>⟨[some (testM q),some (.loc S.length)],rfl,rfl,by unfold jQ;simp? [yEO hR (h q hq) hm]⟩
 unfold zAE zDK;simp? [nV,show((qs.map testM).length<1000000)=True from eq_true (by rw [lM];omega),show blk 1 [0] [some (.loc S.length),some (.tup (qs.map testM))]=[none,some (.loc S.length)]from rfl,hc,yMU];rfl)
abbrev H7(ts rw:MV)(a b c d e:Bi):Rho:=[some ts,some rw,a,b,c,d,e]
def rs1{ts:Ac}{a:Nat×List MV}(h:ROk ts a){t:Nat}(e:a.1=t):yEN [wid ts t] [a]:=λk w hk=>by
 obtain⟨p,h1,h2,h3⟩:=h
 match k,hk with
 |0,hk=>
  cases hk;subst e;exact⟨a,rfl,by rw [zTE h1];exact h2,h3⟩
abbrev ob(c:Str)(d:MV):MV:=.obj c ["parts"] [d]
theorem zYW(a:Nat×List MV)(S:Sto):ixF (.val (zK a)) (.val (.int 0)) S=.ok (.val (.int (a.1:Nat))) S:=ix_tup rfl
theorem row1(a:Nat×List MV)(S:Sto):ixF (.val (zK a)) (.val (.int 1)) S=.ok (.val (.tup a.2)) S:=ix_tup rfl
theorem fN(d:MV)(S:Sto):zGC OCS "parts" (.val (ob "Never" d)) S=.ok (.val d) S:=rfl
theorem fT(d:MV)(S:Sto):zGC OCS "parts" (.val (ob "Tie" d)) S=.ok (.val d) S:=rfl
abbrev yIG(m:Str)(n:Nat)(tM:List (Str×(List MV->Sto->R Er)))(d:MV)(xs:List Er)(b:Bool)(S:Sto):Prop:=
 ∃F,zVL m tM (.val d)=some F/\zU n F (.val d::xs) S=.ok (.val (.bl b)) S/\True
theorem zYX{ts:Ac}{t:Nat}{qs:List Test}(h:dY ts (.never t qs)){a:Nat×List MV}(ha:ROk ts a)(S:Sto):yIG "bars" 2 bE (ob "Never" (zM (.never t qs))) [.val (zK a)] (decide ((a.1:Int)=t)&&qs.all (zDO [a])) S:=by
 have r0: ∀S,ixF (.val (zM (.never t qs))) (.val (.int 0)) S=.ok (.val (.str zCU)) S:=λS=>ix_tup rfl;have r1: ∀S,ixF (.val (zM (.never t qs))) (.val (.int 1)) S=.ok (.val (.int (t:Nat))) S:=λS=>ix_tup rfl;have r2: ∀S,ixF (.val (zM (.never t qs))) (.val (.int 2)) S=.ok (.val (.tup (qs.map testM))) S:=λS=>ix_tup rfl;refine⟨zCC,rfl,bQ rfl ?_,trivial⟩
 ·show yE (xM [some (ob "Never" (zM (.never t qs))),some (zK a)] S)=_;unfold xM zEL
  cases hd:decide ((a.1:Int)=t)with
  |false=>simp? [zYW,fN,r1,hd,zUS];rfl
  |true=>
   have e:a.1=t:=by have:=of_decide_eq_true hd;omega
   have hc:zU 2 kT [.new [zK a],.val (.tup (qs.map testM))] S=.ok (.val (.bl (qs.all (zDO [a])))) S:=c_all (rs:=[a]) (rs1 ha e) h.2.2.1 h.2.2.2 S;simp? [zYW,fN,r1,hd,zUS,r2,hc];rfl
def yBM{x:Ab}{more:Bh}{c:Str}(hs:zVL "bars" bE (.val (ob c (.tup (.str x::more))))=some jK)(a:MV)(S:Sto):yIG "bars" 2 bE (ob c (.tup (.str x::more))) [.val a] false S:=by exact⟨jK,hs,bQ rfl rfl,trivial⟩
def yIH{S:Sto}{l:Nat}{xs ys:Bh}(hS:S[l]? =some (.lst ys))(hx: ∀d∈xs,Vl d)(hy: ∀d∈ys,Vl d):eqF (.new xs) (.val (.loc l)) S=.ok (.val (.bl (decide (xs=ys)))) S:=by
 have hv:vwE S (.val (.loc l))=some (.ls ys):=by show(xX S (.val (.loc l))).map Vw.ls=_;rw [bN hS];rfl
 have e:zKW S zI (.new xs) (.val (.loc l))=some (decide (xs=ys)):=by
  unfold zKW;rw [hv,show vwE S (.new xs)=some (.ls xs)from rfl];show eqW (eqv S zI) (.ls xs) (.ls ys)=_;obtain⟨bs,h1,h2⟩:=zNW (e:=eqv S zI) (ds:=xs) (es:=ys) λa ha b hb=>bP zI (zFC (hx a ha)).1 (zFC (hy b hb)).1 (by rw [(zFC (hx a ha)).2];decide);rw [zRY];by_cases hl:xs.length=ys.length
  ·rw [iP hl,h1];show some (bs.all id)=_;rw [<-h2,hl];simp
  ·rw [iN hl,dF0 λz=>hl (by rw [z])]
 unfold eqF;rw [e]
def yH(a:Nat×List MV)(cs:Ab):List MV:=cs.map λc=>(a.2[c]?).getD .non
def yBN{a:Nat×List MV}(hv: ∀d∈a.2,Vl d){c:Nat}(h:c<a.2.length):atI a.2 (c:Int)=some ((a.2[c]?).getD .non)/\Vl ((a.2[c]?).getD .non):=by have e:=gE0 h;rw [e];exact⟨bF e,hv _ (getElem_mem h)⟩
def zNY{a:Nat×List MV}(hv: ∀d∈a.2,Vl d){cs:Ab}(h: ∀c∈cs,c<a.2.length): ∀d∈yH a cs,Vl d:=λd hd=>by obtain⟨c,hc,rfl⟩:=mM.mp hd;exact(yBN hv (h c hc)).2
def zYY{a:Nat×List MV}(hv: ∀d∈a.2,Vl d){cs:Ab}(h: ∀c∈cs,c<a.2.length)(S:Sto){cf:AZ}{ef:AX}(hcf:cf=λ_ S=>.ok true S)(hef: ∀(c:Nat),ef [some (zC c),some (zK a)] S=ixF (.val (.tup a.2)) (.val (zC c)) S):yD (gNm 0) cf ef [none,some (zK a)] [] (cs.map zC) S=.ok (yH a cs) S:=yT (wO S) λc hc=>⟨[some (zC c),some (zK a)],rfl,by rw [hcf],by rw [hef];exact ix_tup (yBN hv (h c hc)).1⟩
def yBO{a:Nat×List MV}(hv: ∀d∈a.2,Vl d){cs:Ab}(hl:cs.length<=3)(h: ∀c∈cs,c<a.2.length)(S:Sto):zU 2 dE [.val (zK a),.val (.tup (cs.map zC))] S=.ok (.new (yH a cs)) S:=cY (T:=[]) rfl (by
 show yE (zGT [some (zK a),some (.tup (cs.map zC))] S)=_;have hc:=zYY hv h S (cf:=zEK) (ef:=dD) rfl λc=>by unfold dD;simp? [row1]
 unfold zGT zIE;simp? [nV,show((cs.map zC).length<1000000)=True from eq_true (by rw [lM];omega),show blk 1 [0] [some (zK a),some (.tup (cs.map zC))]=[none,some (zK a)]from rfl,hc];rw [aN];rfl) (wC λd hd=>(zNY hv h d hd).lo _)
theorem zNZ{α:Type}{f:α->MV}{p:α->Bool}{S:Sto}{gf:MV->Rho->Sto->R Rho}{cf:AZ}{ef:AX}{ρb:Rho}{gs:Ca}(hs:stay gs S):
  ∀{ds:List α},(∀d∈ds, ∃ρ1,gf (f d) ρb S=.ok ρ1 S/\cf ρ1 S=.ok (p d) S/\ef ρ1 S=.ok (.val (f d)) S)->yD gf cf ef ρb gs (ds.map f) S=.ok ((ds.filter p).map f) S
 |[],_=>rfl
 |d::ds,st=>by
  obtain⟨ρ1,h1,h2,h3⟩:=st d mF0;have e:=zNZ hs (f:=f) (p:=p) (ds:=ds) λd hd=>st d (mO _ hd);rw [map_cons];unfold yD
  cases hp:p d with
  |true=>
   rw [h1,yL,bok,h2,yL,bok,hp,iP rfl,h3,yL,bok];unfold gI;rw [bok,iP hs,e,filter_cons_of_pos hp];rfl
  |false=>
   rw [h1,yL,bok,h2,yL,bok,hp,iN xF0,iP hs,e,filter_cons_of_neg (by rw [hp];exact xF0)]
theorem yMV(ds:Bh)(S:Sto):eqF (.new ds) (.new []) S=.ok (.val (.bl ds.isEmpty)) S:=by cases ds<;>rfl
section
variable{ts:Ac}{t u:Nat}{cs ds:Ab}
def zVX(h:dY ts (.tie t cs u ds)){a:Nat×List MV}(ha:ROk ts a):(a.1=t-> ∀c∈cs,c<a.2.length)/\(a.1=u-> ∀c∈ds,c<a.2.length):=by
 obtain⟨p,h1,h2,_⟩:=ha;refine⟨λe c hc=>?_,λe c hc=>?_⟩
 ·have:=h.2.2.2.2.2.1 c hc;rw [<-e,zTE h1]at this;omega
 ·have:=h.2.2.2.2.2.2 c hc;rw [<-e,zTE h1]at this;omega
def mtc(u:Nat)(ds:Ab)(due:Bh)(o:Nat×List MV):Bool:=decide ((o.1:Int)=u)&&decide (yH o ds=due)
abbrev LkB(d a:MV)(l1 l2:Nat)(b:Bool)(S:Sto):Prop:=
 ∃F,zVL "lacks" kW (.val d)=some F/\(∃T,F [d,a,.loc l1] S=.ok (.val (.bl b)) (S++T))/\True
abbrev K5(d a:MV)(l:Nat)(x y:Bi):Rho:=[some d,some a,some (.loc l),x,y]
theorem yEP(h:dY ts (.tie t cs u ds)){a:Nat×List MV}(ha:ROk ts a){os:Ca}(ho: ∀o∈os,ROk ts o)(hol:os.length<1000){l1 l2:Nat}{S:Sto}(hS1:S[l1]? =some (.lst (os.map zK)))(hS2:S[l2]? =some (.lst (os.map zK))):
  LkB (ob "Tie" (zM (.tie t cs u ds))) (zK a) l1 l2 (decide ((a.1:Int)=t)&& !os.any (mtc u ds (yH a cs))) S:=by
 have r0: ∀S,ixF (.val (zM (.tie t cs u ds))) (.val (.int 0)) S=.ok (.val (.str zTF)) S:=λS=>ix_tup rfl;have r1: ∀S,ixF (.val (zM (.tie t cs u ds))) (.val (.int 1)) S=.ok (.val (.int (t:Nat))) S:=λS=>ix_tup rfl;have r2: ∀S,ixF (.val (zM (.tie t cs u ds))) (.val (.int 2)) S=.ok (.val (.tup (cs.map zC))) S:=λS=>ix_tup rfl;have r3: ∀S,ixF (.val (zM (.tie t cs u ds))) (.val (.int 3)) S=.ok (.val (.int (u:Nat))) S:=λS=>ix_tup rfl;have r4: ∀S,ixF (.val (zM (.tie t cs u ds))) (.val (.int 4)) S=.ok (.val (.tup (ds.map zC))) S:=λS=>ix_tup rfl;have hv: ∀{o:Nat×List MV},ROk ts o-> ∀d∈o.2,Vl d:=λ⟨_,_,_,z⟩=>z;have hcl:cs.length<=3:=h.2.2.2.1;have hdl:ds.length<=3:=by have:=h.2.2.2.2.1;omega
 have hl1:l1<S.length:=(gS0.mp hS1).1;have hl2:l2<S.length:=(gS0.mp hS2).1
 cases hd:decide ((a.1:Int)=t)with
 |false=>
  rw [Bool.false_and];refine⟨nQ,rfl,⟨[],?_⟩,trivial⟩
  ·rw [aN];show yE (xB (K5 (ob "Tie" (zM (.tie t cs u ds))) (zK a) l1 none none) S)=_;have e1:kU (K5 (ob "Tie" (zM (.tie t cs u ds))) (zK a) l1 none none) S=.ok (.ret (.val (.bl false))) S:=by unfold kU;simp? [zYW,fT,r1,ne_int,hd];rfl
   unfold xB;rw [cG e1];rfl
 |true=>
  have ea:a.1=t:=by have:=of_decide_eq_true hd;omega
  have hca:=(zVX h ha).1 ea;have hdue:=zNY (hv ha) hca;have g1:(S++[MO.lst (yH a cs)])[l1]? =some (.lst (os.map zK)):=by rw [getElem?_append_left hl1];exact hS1
  have g2:(S++[MO.lst (yH a cs)])[l2]? =some (.lst (os.map zK)):=by rw [getElem?_append_left hl2];exact hS2
  have gd:(S++[MO.lst (yH a cs)])[S.length]? =some (.lst (yH a cs)):=by simp
  rw [Bool.true_and];refine⟨nQ,rfl,⟨[.lst (yH a cs)],?_⟩,trivial⟩
  ·show yE (xB (K5 (ob "Tie" (zM (.tie t cs u ds))) (zK a) l1 none none) S)=_;have e1:kU (K5 (ob "Tie" (zM (.tie t cs u ds))) (zK a) l1 none none) S=.ok (.next (K5 (ob "Tie" (zM (.tie t cs u ds))) (zK a) l1 none none)) S:=by unfold kU;simp? [zYW,fT,r1,ne_int,hd];rfl
   have e2:zAF (K5 (ob "Tie" (zM (.tie t cs u ds))) (zK a) l1 none none) S=.ok (.next (K5 (ob "Tie" (zM (.tie t cs u ds))) (zK a) l1 (some (.loc S.length)) none)) (S++[.lst (yH a cs)]):=by unfold zAF;simp? [fT,r2,yBO (hv ha) hcl hca]
   have turn: ∀{o:Nat×List MV},ROk ts o->bD (K5 (ob "Tie" (zM (.tie t cs u ds))) (zK a) l1 (some (.loc S.length)) (some (zK o))) (S++[.lst (yH a cs)])=if mtc u ds (yH a cs) o=true then .ok (.ret (.val (.bl false))) (S++[.lst (yH a cs)])else .ok (.next (K5 (ob "Tie" (zM (.tie t cs u ds))) (zK a) l1 (some (.loc S.length)) (some (zK o)))) (S++[.lst (yH a cs)]):=λ{o} hr=>by
    unfold bD zDL mtc
    cases h1:decide ((o.1:Int)=u)with
    |false=>simp? [zYW,fT,r3,h1];rfl
    |true=>
     have eo:o.1=u:=by have:=of_decide_eq_true h1;omega
     have hco:=(zVX h hr).2 eo;simp? [zYW,fT,r3,h1,r4,yBO (hv hr) hdl hco,yIH gd (zNY (hv hr) hco) hdue];cases decide (yH o ds=yH a cs)<;>rfl
   have loop: ∀(l:Ca)(y:Bi),(∀o∈l,ROk ts o)-> ∃ρ,bT (gNm 4) bD [(l1,os.map zK)] (l.map zK) (K5 (ob "Tie" (zM (.tie t cs u ds))) (zK a) l1 (some (.loc S.length)) y) (S++[.lst (yH a cs)])=if l.any (mtc u ds (yH a cs))=true then .ok (.ret (.val (.bl false))) (S++[.lst (yH a cs)])else .ok (.next ρ) (S++[.lst (yH a cs)]):=by
    intro l
    induction l with
    |nil=>exact λy _=>⟨_,rfl⟩
    |cons o l ih=>
     intro y hl;have ht:=turn (hl o mF0)
     cases ho':mtc u ds (yH a cs) o with
     |true=>
      rw [ho',iP rfl]at ht;refine⟨[],?_⟩;rw [map_cons,yAS rfl ht,any_cons,ho',Bool.true_or,iP rfl]
     |false=>
      rw [ho',iN xF0]at ht;obtain⟨ρ,hρ⟩:=ih (some (zK o)) λz hz=>hl z (mO _ hz);refine⟨ρ,?_⟩;rw [map_cons,bM rfl ht (xD g1),hρ,any_cons,ho',Bool.false_or]
   obtain⟨ρ,hl⟩:=loop os none ho;have e3:zAG (K5 (ob "Tie" (zM (.tie t cs u ds))) (zK a) l1 (some (.loc S.length)) none) (S++[.lst (yH a cs)])=if os.any (mtc u ds (yH a cs))=true then .ok (.ret (.val (.bl false))) (S++[.lst (yH a cs)])else .ok (.next ρ) (S++[.lst (yH a cs)]):=by unfold zAG;simp? [kB g1];exact hl
   unfold xB;rw [zG e1,zG e2]
   cases hx:os.any (mtc u ds (yH a cs))with
   |true=>rw [hx,iP rfl]at e3;rw [cG e3];rfl
   |false=>rw [hx,iN xF0]at e3;rw [zG e3];rfl
end
def zVY{x:Ab}{more:Bh}{c:Str}(hs:zVL "lacks" kW (.val (ob c (.tup (.str x::more))))=some kD)(a:MV)(l1 l2:Nat)(S:Sto):
  LkB (ob c (.tup (.str x::more))) a l1 l2 false S:=by
 exact⟨kD,hs,⟨[],by rw [aN];rfl⟩,trivial⟩
theorem yMW(ns:Ad)(k:Int)(hk:0<=k)(S:Sto): ∃c,zU 2 yK [.val (.scr (ns.map MV.int)),.val (.int k)] S=.ok (.val (.int c)) S:=by
 have hlen:zFV [.val (.scr (ns.map MV.int))] S=.ok (.val (.int ns.length)) S:=by show R.ok (Er.val (.int (((ns.map MV.int).length:Nat):Int))) S=_;rw [lM]
 have e1:gT [some (.scr (ns.map MV.int)),some (.int k)] S=if decide (k<ns.length)=true then(ixF (.val (.scr (ns.map MV.int))) (.val (.int k)) S).bind λr S1=>.ok (.ret r) S1 else .ok (.next [some (.scr (ns.map MV.int)),some (.int k)]) S:=by unfold gT;simp? [hlen,lt_int]
 have fin: ∀c,yK [.scr (ns.map MV.int),.int k] S=.ok (.val (.int c)) S-> ∃c,zU 2 yK [.val (.scr (ns.map MV.int)),.val (.int k)] S=.ok (.val (.int c)) S:=λc h=>⟨c,cP rfl h (gO _ _) (λl=>by simp)⟩
 have hs:zV ["_law_script","_law_k"] [.scr (ns.map MV.int),.int k]=[some (.scr (ns.map MV.int)),some (.int k)]:=rfl;by_cases hlt:k<ns.length
 ·obtain⟨d,hd⟩:=yLN (xs:=ns.map MV.int) (i:=k) hk (by rw [lM];exact hlt);obtain⟨c,rfl⟩: ∃c,d=.int c:=yLO (P:=λd=> ∃c,d=.int c) (λe he=>by obtain⟨c,_,rfl⟩:=mM.mp he;exact⟨c,rfl⟩) hd;have hix:ixF (.val (.scr (ns.map MV.int))) (.val (.int k)) S=.ok (.val (.int c)) S:=by show(match atI (ns.map MV.int) k with |some d=>R.ok (Er.val d) S|none=>.no)=_;rw [hd]
  refine fin c ?_;rw [dT0 hlt,iP rfl,hix,bok]at e1;unfold yK dM;rw [hs,cG e1];rfl
 ·refine fin 0 ?_;rw [dF0 hlt,iN xF0]at e1;unfold yK dM;rw [hs,zG e1];rfl
def clsN:Rule->Str
 |.never _ _=>"Never"
 |.apart _ _ _=>"Apart"
 |.tie _ _ _ _=>"Tie"
def yOI{c:Str}{d:MV}{n:Nat}(h:lo n d):lo n (ob c d):=by unfold ob lo;exact wC λe he=>by rw [mS.mp he];exact h
theorem made{ts:Ac}{r:Rule}(h:dY ts r)(S:Sto):zU 1 zFP [.val (zM r)] S=.ok (.val (ob (clsN r) (zM r))) S:=by
 refine cP rfl ?_ (yOI (yBJ h _)) (λl=>by simp)
 ·show yE (zAY [some (zM r)] S)=_
  cases r with
  |never t qs=>
   have r0: ∀S,ixF (.val (zM (.never t qs))) (.val (.int 0)) S=.ok (.val (.str zCU)) S:=λS=>ix_tup rfl;have e1:wT [some (zM (.never t qs))] S=.ok (.ret (.val (ob "Never" (zM (.never t qs))))) S:=by unfold wT;simp? [r0,est];rfl
   unfold zAY;rw [cG e1];rfl
  |apart t u qs=>
   have r0: ∀S,ixF (.val (zM (.apart t u qs))) (.val (.int 0)) S=.ok (.val (.str zHH)) S:=λS=>ix_tup rfl;have e1:wT [some (zM (.apart t u qs))] S=.ok (.next [some (zM (.apart t u qs))]) S:=by unfold wT;simp? [r0,est];rfl
   have e2:bO [some (zM (.apart t u qs))] S=.ok (.ret (.val (ob "Apart" (zM (.apart t u qs))))) S:=by unfold bO;simp? [r0,est];rfl
   unfold zAY;rw [zG e1,cG e2];rfl
  |tie t cs u ds=>
   have r0: ∀S,ixF (.val (zM (.tie t cs u ds))) (.val (.int 0)) S=.ok (.val (.str zTF)) S:=λS=>ix_tup rfl;have e1:wT [some (zM (.tie t cs u ds))] S=.ok (.next [some (zM (.tie t cs u ds))]) S:=by unfold wT;simp? [r0,est];rfl
   have e2:bO [some (zM (.tie t cs u ds))] S=.ok (.next [some (zM (.tie t cs u ds))]) S:=by unfold bO;simp? [r0,est];rfl
   unfold zAY;rw [zG e1,zG e2];rfl
theorem zTI(ds:Bh)(a b:Bc)(S:Sto):zMI (.val (.tup ds)) a b S=.ok (.val (.tup (wG ds a b))) S:=rfl
abbrev Row:=Nat×List MV
def nA:Rule->Row->Bool
 |.never t qs,a=>decide ((a.1:Int)=t)&&qs.all (zDO [a])
 |_,_=>false
def zGF:Rule->Row->Bool
 |.tie t _ _ _,a=>decide ((a.1:Int)=t)
 |_,_=>false
def zOA:Rule->Row->Row->Bool
 |.tie _ cs u ds,a,o=>mtc u ds (yH a cs) o
 |_,_,_=>false
def yU(r:Rule)(a:Row)(os:List Row):Bool:=zGF r a&& !os.any (zOA r a)
abbrev obR(r:Rule):MV:=ob (clsN r) (zM r)
def yBP{ts:Ac}{r:Rule}(h:dY ts r){a:Row}(ha:ROk ts a)(S:Sto):yIG "bars" 2 bE (obR r) [.val (zK a)] (nA r a) S:=by
 cases r with
 |never t qs=>exact zYX h ha S
 |apart t u qs=>exact yBM (x:=zHH) rfl (zK a) S
 |tie t cs u ds=>exact yBM (x:=zTF) rfl (zK a) S
def zVZ{ts:Ac}{r:Rule}(h:dY ts r){a:Row}(ha:ROk ts a){os:List Row}(ho: ∀o∈os,ROk ts o)(hol:os.length<1000){l1 l2:Nat}{S:Sto}(hS1:S[l1]? =some (.lst (os.map zK)))(hS2:S[l2]? =some (.lst (os.map zK))):
  LkB (obR r) (zK a) l1 l2 (yU r a os) S:=by
 cases r with
 |never t qs=>exact zVY (x:=zCU) rfl (zK a) l1 l2 S
 |apart t u qs=>exact zVY (x:=zHH) rfl (zK a) l1 l2 S
 |tie t cs u ds=>exact yEP h ha ho hol hS1 hS2
abbrev kd(K:Ab):List (MV×MV):=K.map λi=>(zC i,MV.bl true)
theorem zTJ(k:Nat)(K:Ab):kd (k::K)=(zC k,.bl true)::kd K:=rfl
def yRZ(A B:Ab):kd (A++B)=kd A++kd B:=map_append
theorem yMX(K:Ab):(kd K).map (·.1)=K.map zC:=by show(K.map λi=>(zC i,MV.bl true)).map (·.1)=_;rw [map_map];rfl
theorem ky(i:Nat):zMY (zC i)=true:=rfl
def zIK{a b:Nat}(h:zC a=zC b):a=b:=by
 unfold zC at h;injection h with h
 omega
theorem kd_all(K:Ab):(kd K).all (λp=>zMY p.1)=true:=by rw [all_eq_true];intro p hp;obtain⟨i,_,rfl⟩:=mM.mp hp;rfl
def yBQ{S:Sto}{l:Nat}{K:Ab}(h:S[l]? =some (.dic (kd K))):zSL S (.val (.loc l))=some (l,kd K):=by unfold zSL;dsimp only;rw [h];exact iP (kd_all K)
theorem zTK: ∀(K:Ab)(i:Nat),look (kd K) (zC i)=if i∈K then some (.bl true)else none
 |[],i=>by rw [iN (by simp)];rfl
 |k::K,i=>by
  rw [zTJ,zJH];dsimp only;by_cases h:k=i
  ·subst h;rw [iP rfl,iP (by simp)]
  ·rw [iN (λz=>h (zIK z)),zTK K i];by_cases h2:i∈K
   ·rw [iP h2,iP (mO _ h2)]
   ·rw [iN h2,iN (λz=>(mC.mp z).elim (λe=>h e.symm) h2)]
theorem zWA(K:Ab)(i:Nat):(look (kd K) (zC i)).isSome=decide (i∈K):=by
 rw [zTK];by_cases h:i∈K
 ·rw [iP h,dT0 h];rfl
 ·rw [iN h,dF0 h];rfl
def yBR{S:Sto}{l:Nat}{K:Ab}(h:S[l]? =some (.dic (kd K)))(neg:Bool)(i:Nat):zYO neg (.val (zC i)) (.val (.loc l)) S=.ok (.val (.bl (if neg=true then !decide (i∈K)else decide (i∈K)))) S:=by unfold zYO;dsimp only;rw [yBQ h];show(if zMY (zC i)=true then _ else _)=_;rw [iP (ky i),zWA]
theorem ySA(K:Ab)(i:Nat):putK (kd K) (zC i) (.bl true)=kd (if i∈K then K else K++[i]):=by
 unfold putK;rw [zWA];by_cases h:i∈K
 ·rw [dT0 h,iP rfl,iP h];show((K.map λi=>(zC i,MV.bl true)).map _)=_;rw [map_map];refine List.map_congr_left λk _=>?_;show(if zC k=zC i then(zC k,MV.bl true)else(zC k,MV.bl true))=_;split<;>rfl
 ·rw [dF0 h,iN xF0,iN h,yRZ];rfl
def ySB(K:Ab)(i:Nat):yHY (kd K) (zC i)=kd (K.filter λk=>!decide (k=i)):=by
 unfold yHY;show((K.map λi=>(zC i,MV.bl true)).filter _)=_;rw [filter_map];congr 1;refine filter_congr λk _=>?_;show(!decide (zC k=zC i))=_;by_cases h:k=i
 ·subst h;rw [dT0 rfl,dT0 rfl]
 ·rw [dF0 h,dF0 λz=>h (zIK z)]
def set_same{S:Sto}{l:Nat}{o:MO}(h:S[l]? =some o):S.set l o=S:=by obtain⟨hl,rfl⟩:=gS0.mp h;exact List.set_getElem_self hl
def ySC{S:Sto}{l:Nat}{K:Ab}(h:S[l]? =some (.dic (kd K)))(i:Nat): ∃d,zQV (.val (.loc l)) [.val (zC i),.val .non] S=.ok (.val d) (S.set l (.dic (kd (K.filter λk=>!decide (k=i))))):=by
 unfold zQV;dsimp only;rw [yBQ h];show∃d,(if zMY (zC i)=true then _ else _)=_;rw [iP (ky i),zTK,ySB];by_cases hi:i∈K
 ·rw [iP hi];exact⟨_,rfl⟩
 ·rw [iN hi];have e:(K.filter λk=>!decide (k=i))=K:=filter_eq_self.mpr λk hk=>by rw [dF0 (show¬k=i from λz=>hi (z▸hk))];rfl
  rw [e,set_same h];exact⟨_,rfl⟩
theorem yMY{S:Sto}{l:Nat}{K:Ab}(h:S[l]? =some (.dic (kd K))):isDx (.val (.loc l)) S=true:=by unfold isDx;rw [yBQ h];rfl
theorem zWB: ∀(K:Ab),zBX (K.map λi=>.tup [zC i,.bl true])=some (kd K)
 |[]=>rfl
 |k::K=>by rw [map_cons,zTJ];unfold zBX;rw [iP (ky k),zWB K];rfl
theorem yBS: ∀(K A:Ab),(A++K).Nodup->(kd K).foldl (λacc p=>putK acc p.1 p.2) (kd A)=kd (A++K)
 |[],A,_=>by rw [aN];rfl
 |k::K,A,h=>by
  rw [zTJ,foldl_cons];show(kd K).foldl _ (putK (kd A) (zC k) (.bl true))=_;have hk:k∉A:=λhm=>by have:=(nodup_append.mp h).2.2 k hm k mF0;exact this rfl
  rw [ySA,iN hk,yBS K (A++[k]) (by rw [aA];exact h),aA];rfl
theorem ySD{K:Ab}(h:K.Nodup)(S:Sto):yBE [.new (K.map λi=>.tup [zC i,.bl true])] S=.ok (.val (.loc S.length)) (S++[.dic (kd K)]):=by show(match (xX S (.new (K.map λi=>.tup [zC i,.bl true]))).bind zBX with |some kvs=>R.ok (Er.val (.loc S.length)) (S++[MO.dic (zVN kvs)])|none=>.no)=_;rw [show(xX S (.new (K.map λi=>.tup [zC i,.bl true]))).bind zBX=some (kd K)from zWB K];show R.ok (Er.val (.loc S.length)) (S++[MO.dic (zVN (kd K))])=_;unfold zVN;rw [show((kd K).foldl (λacc p=>putK acc p.1 p.2) [])=kd ([]++K)from yBS K [] (by simpa using h)];rfl
def ySE{S:Sto}{l:Nat}{K:Ab}(h:S[l]? =some (.dic (kd K))):zVM [.val (.loc l)] S=.ok (.val (.tup (K.map zC))) S:=by unfold zVM;dsimp only;rw [yBQ h];show R.ok (Er.val (.tup ((kd K).map (·.1)))) S=_;rw [yMX]
theorem zWC: ∀(K:Ab),intsOf (K.map zC)=some (K.map Int.ofNat)
 |[]=>rfl
 |k::K=>by rw [map_cons];show(intsOf (K.map zC)).map _=_;rw [zWC K];rfl
def zO(ts:Ac)(rls:List Rule)(rs:List Row):MV:=.tup [.tup (ts.map tbl),.tup (rls.map zM),.tup (rs.map zK)]
def tup3(a b c:MV)(S:Sto):xO [.val a,.val b,.val c] S=.ok (.val (.tup [a,b,c])) S:=zBV (by simp)
theorem zWD{α:Type}{f:α->MV}{p:α->Bool}{gf:MV->Rho->Sto->R Rho}{body:AY}{gs:Ca}{S:Sto}{r:Er}(I:Rho->Prop)(hs:stay gs S):
  ∀{ds:List α},(∀d∈ds, ∀ρ,I ρ-> ∃ρ0,gf (f d) ρ S=.ok ρ0 S/\(p d=true->body ρ0 S=.ok (.ret r) S)/\(p d=false-> ∃ρ',I ρ'/\body ρ0 S=.ok (.next ρ') S))-> ∀ρ,I ρ->
   (ds.any p=true->bT gf body gs (ds.map f) ρ S=.ok (.ret r) S)/\(ds.any p=false-> ∃ρ',I ρ'/\bT gf body gs (ds.map f) ρ S=.ok (.next ρ') S)
 |[],_,ρ,h=>⟨(λz=>nomatch z),λ_=>⟨ρ,h,rfl⟩⟩
 |d::ds,st,ρ,h=>by
  obtain⟨ρ0,g,y,n⟩:=st d mF0 ρ h;rw [any_cons,map_cons]
  cases hp:p d with
  |true=>exact⟨λ_=>yAS g (y hp),λz=>nomatch z⟩
  |false=>
   obtain⟨ρ',h',b⟩:=n hp;rw [Bool.false_or,bM g b hs];exact zWD I hs (λd hd=>st d (mO _ hd)) ρ' h'
section
variable{ts:Ac}{rls:List Rule}{rs:List Row}
def atR(rs:List Row)(i:Nat):Row:=(rs[i]?).getD (0,[])
def nW{i:Nat}(h:i<rs.length):atR rs i∈rs:=by unfold atR;rw [gE0 h];exact getElem_mem h
def zOB{i:Nat}(h:i<rs.length)(S:Sto):ixF (.val (.tup (rs.map zK))) (.val (zC i)) S=.ok (.val (zK (atR rs i))) S:=ix_tup (bF (by unfold atR;rw [getElem?_map,gE0 h];rfl))
theorem book1(S:Sto):ixF (.val (zO ts rls rs)) (.val (.int 1)) S=.ok (.val (.tup (rls.map zM))) S:=ix_tup rfl
theorem zOC(S:Sto):ixF (.val (zO ts rls rs)) (.val (.int 2)) S=.ok (.val (.tup (rs.map zK))) S:=ix_tup rfl
end
def yMZ{S S':Sto}(h: ∀(m:Nat)(o:MO),S[m]? =some o->S'[m]? =some o):S.length<=S'.length:=by
 by_cases z:S.length=0
 ·omega
 ·have hl:S.length - 1<S.length:=by omega
  have:=(gS0.mp (h _ _ (gE0 hl))).1;omega
def yNA{S S':Sto}(h: ∀(m:Nat)(o:MO),S[m]? =some o->S'[m]? =some o):yAJ S S':=⟨yMZ h,λl hl=>.inl (by rw [h l _ (gE0 hl),gE0 hl])⟩
def yII{S S':Sto}(h: ∀(m:Nat)(o:MO),S[m]? =some o->S'[m]? =some o): ∀(m:Nat)(o:MO),S[m]? =some o->(S'.take S.length)[m]? =some o:=λm o hm=>by rw [getElem?_take_of_lt (gS0.mp hm).1];exact h m o hm
abbrev Old(S S':Sto):Prop:= ∀(m:Nat)(o:MO),S[m]? =some o->S'[m]? =some o
def Old.app(S T:Sto):Old S (S++T):=λm o h=>by rw [getElem?_append_left (gS0.mp h).1];exact h
def Old.set{S S':Sto}(h:Old S S'){l:Nat}(hl:S.length<=l)(o:MO):Old S (S'.set l o):=λm u hm=>by have:=(gS0.mp hm).1;rw [getElem?_set_ne (by omega)];exact h m u hm
def Old.trans{S S' S'':Sto}(h:Old S S')(h':Old S' S''):Old S S'':=λm o e=>h' m o (h m o e)
def Old.is{S S':Sto}(h:Old S S'): ∃T,S'=S++T:=by
 refine⟨S'.drop S.length,?_⟩
 have e:S'.take S.length=S:=by
  apply ext_getElem?;intro m;by_cases hm:m<S.length
  ·rw [getElem?_take_of_lt hm,h m _ (gE0 hm),gE0 hm]
  ·rw [getElem?_eq_none (by rw [lT];omega),getElem?_eq_none (by omega)]
 conv=>lhs;rw [<-List.take_append_drop S.length S',e]
inductive TsAt(S:Sto):List MV->List (Nat×List Nat)->Prop
 |nil:TsAt S [] []
 |cons {p i:Nat} {srv:Ab} {ms:Bh} {tk:List (Nat×List Nat)}:S[p]? =some (.lst (srv.map zC))->srv.length<=100->TsAt S ms tk->TsAt S (.tup [zC i,.loc p]::ms) ((i,srv)::tk)
def TsAt.mono{S S':Sto}{ms:Bh}{tk:List (Nat×List Nat)}(h:TsAt S ms tk)(o: ∀(m:Nat)(ds:Bh),S[m]? =some (.lst ds)->(∃i,MV.tup [i,.loc m]∈ms)->S'[m]? =some (.lst ds)):TsAt S' ms tk:=by
 induction h with
 |nil=>exact .nil
 |@cons p i srv ms tk h1 h2 _ ih=>exact .cons (o _ _ h1 ⟨zC i,mF0⟩) h2 (ih λm ds e ⟨j,hj⟩=>o m ds e ⟨j,mO _ hj⟩)
def TsAt.snoc{S:Sto}{ms:Bh}{tk:List (Nat×List Nat)}(h:TsAt S ms tk){p i:Nat}{srv:Ab}(hp:S[p]? =some (.lst (srv.map zC)))(hl:srv.length<=100):TsAt S (ms++[.tup [zC i,.loc p]]) (tk++[(i,srv)]):=by
 induction h with
 |nil=>exact .cons hp hl .nil
 |cons h1 h2 _ ih=>exact .cons h1 h2 ih
def TsAt.length{S:Sto}{ms:Bh}{tk:List (Nat×List Nat)}(h:TsAt S ms tk):ms.length=tk.length:=by
 induction h with
 |nil=>rfl
 |cons _ _ _ ih=>rw [lC,lC,ih]
def TsAt.shape{S:Sto}{ms:Bh}{tk:List (Nat×List Nat)}(h:TsAt S ms tk): ∀d∈ms, ∃i p,d=.tup [zC i,.loc p]:=by
 induction h with
 |nil=>intro d hd;cases hd
 |@cons p i srv ms tk h1 h2 _ ih=>intro d hd;rcases mC.mp hd with e|e;(· exact⟨i,p,e⟩);(· exact ih d e)
theorem zBK{α β:Type}{f:α->MV}{gf:MV->Rho->Sto->R Rho}{body:AY}{gs:Ca}(J:Nat->β->Rho->Sto->Prop)(step:β->α->β):
  ∀{ds:List α}(k:Nat),(∀j d,ds[j]? =some d-> ∀b ρ S,J (k+j) b ρ S-> ∃ρ' S',((gf (f d) ρ S).bind λρ0 S0=>body ρ0 S0)=.ok (.next ρ') S'/\stay gs S'/\J (k+j+1) (step b d) ρ' S')-> ∀b ρ S,J k b ρ S->
   ∃ρ' S',bT gf body gs (ds.map f) ρ S=.ok (.next ρ') S'/\J (k+ds.length) (ds.foldl step b) ρ' S'
 |[],k,_,b,ρ,S,h=>⟨ρ,S,rfl,h⟩
 |d::ds,k,st,b,ρ,S,h=>by
  obtain⟨ρ1,S1,e1,s1,j1⟩:=st 0 d rfl b ρ S h;obtain⟨ρ2,S2,e2,j2⟩:=zBK J step (ds:=ds) (k+1) (λj d' hd b ρ S hj=>by have:=st (j+1) d' hd b ρ S (by rw [show k+(j+1)=k+1+j by omega];exact hj);rw [show k+(j+1)=k+1+j by omega]at this;exact this) (step b d) ρ1 S1 j1;refine⟨ρ2,S2,?_,by rw [lC,foldl_cons,show k+(ds.length+1)=k+1+ds.length by omega];exact j2⟩;rw [map_cons]
  cases z:gf (f d) ρ S with
  |ok ρ0 S0=>
   rw [z,bok]at e1;rw [bM z e1 s1,e2]
  |exc c fs S0=>rw [z]at e1;cases e1
  |no=>rw [z]at e1;cases e1
section
variable{ts:Ac}{rls:List Rule}{rs:List Row}
def ySF(h: ∀r∈rls,dY ts r)(n:Nat):loL n (rls.map obR):=wC λd hd=>by obtain⟨r,hr,rfl⟩:=mM.mp hd;exact yOI (yBJ (h r hr) _)
def zTL(h: ∀r∈rls,dY ts r)(hl:rls.length<=100)(S:Sto):zU 1 wU [.val (zO ts rls rs)] S=.ok (.new (rls.map obR)) S:=cY (T:=[]) rfl (by
 show yE (zGU [some (zO ts rls rs)] S)=_;have hc:yD (gNm 0) zEN dG [none] [] (rls.map zM) S=.ok (rls.map obR) S:=yT (wO _) λr hr=>⟨[some (zM r)],rfl,rfl,by unfold dG;simp? [made (h r hr)]⟩
 have e1:zCD [some (zO ts rls rs)] S=.ok (.ret (.new (rls.map obR))) S:=by unfold zCD;simp? [book1,nV,show((rls.map zM).length<1000000)=True from eq_true (by rw [lM];omega),show blk 1 [] [some (zO ts rls rs)]=[none]from rfl,hc]
 unfold zGU;rw [e1,aN];rfl) (ySF h _)
def yEQ:zJG (rs.map zK)=(List.range rs.length).map λi=>.tup [zC i,zK (atR rs i)]:=by
 unfold zJG;apply ext_getElem?;intro m;by_cases hm:m<rs.length
 ·simp only [getElem?_map,List.getElem?_zipIdx,getElem?_range hm,Option.map_some,gE0 hm,zero_add];unfold atR;rw [gE0 hm];rfl
 ·rw [getElem?_eq_none (by rw [lM,length_zipIdx,lM];omega),getElem?_eq_none (by rw [lM,length_range];omega)]
def yIJ(hRl: ∀r∈rls,dY ts r){r:Rule}(hr:r∈rls){a:Row}(ha:ROk ts a){os:List Row}(ho: ∀o∈os,ROk ts o)(hl:os.length<1000)(S:Sto):
  ∃F,zVL "lacks" kW (.val (obR r))=some F/\zU 3 F [.val (obR r),.val (zK a),.new (os.map zK)] S=.ok (.val (.bl (yU r a os))) S:=by
 have g:(S++[MO.lst (os.map zK)])[S.length]? =some (.lst (os.map zK)):=by simp
 obtain⟨F,h1,⟨T,h2⟩,_⟩:=zVZ (hRl r hr) ha ho hl g g;exact⟨F,h1,zTH (T:=[.lst (os.map zK)]++T) rfl (by show F [obR r,zK a,.loc S.length] (S++[.lst (os.map zK)])=_;rw [h2,aA])⟩
def zJX(rs:List Row)(r:Rule)(i:Nat):List Nat:=(List.range rs.length).filter λj=>!yU r (atR rs i) [atR rs j]
def zOD(rs:List Row)(r:Rule)(i:Nat):List (Nat×List Nat):=if yU r (atR rs i) []=true then [(i,zJX rs r i)]else []
end
theorem xQ{α:Type}{f g:α->MV}{p:α->Bool}{S:Sto}{gf:MV->Rho->Sto->R Rho}{cf:AZ}{ef:AX}{ρb:Rho}{gs:Ca}(hs:stay gs S):
  ∀{ds:List α},(∀d∈ds, ∃ρ1,gf (f d) ρb S=.ok ρ1 S/\cf ρ1 S=.ok (p d) S/\ef ρ1 S=.ok (.val (g d)) S)->yD gf cf ef ρb gs (ds.map f) S=.ok ((ds.filter p).map g) S
 |[],_=>rfl
 |d::ds,st=>by
  obtain⟨ρ1,h1,h2,h3⟩:=st d mF0;have e:=xQ hs (f:=f) (g:=g) (p:=p) (ds:=ds) λd hd=>st d (mO _ hd);rw [map_cons];unfold yD
  cases hp:p d with
  |true=>
   rw [h1,yL,bok,h2,yL,bok,hp,iP rfl,h3,yL,bok];unfold gI;rw [bok,iP hs,e,filter_cons_of_pos hp];rfl
  |false=>
   rw [h1,yL,bok,h2,yL,bok,hp,iN xF0,iP hs,e,filter_cons_of_neg (by rw [hp];exact xF0)]
section
variable{ts:Ac}{rls:List Rule}{rs:List Row}
structure TI(S0:Sto)(tk:List (Nat×List Nat))(c:Nat)(S':Sto):Prop where
 ex: ∃ms,S'[S0.length]? =some (.lst ms)/\TsAt S' ms tk/\ ∀p i,MV.tup [i,.loc p]∈ms->S0.length<p
 old:Old S0 S'
 len:tk.length<=c
abbrev T5(b:MV)(l:Nat)(x y z:Bi):Rho:=[some b,some (.loc l),x,y,z]
def zWE(S:Sto):itE [.val (.tup (rs.map zK))] S=.ok ⟨(List.range rs.length).map λi=>.tup [zC i,zK (atR rs i)],[]⟩ S:=by show R.ok (⟨zJG (rs.map zK),[]⟩:Wk) S=_;rw [yEQ]
def yIK(hRl: ∀r∈rls,dY ts r)(hR: ∀r∈rs,ROk ts r){r:Rule}(hr:r∈rls){i:Nat}(hi:i<rs.length)(S:Sto):
  yD (gTp 2 (zP (gNm 0) (zP (gNm 1) xY))) zAH zGD [none,none,some (obR r),some (zK (atR rs i))] [] ((List.range rs.length).map λi=>.tup [zC i,zK (atR rs i)]) S=.ok ((zJX rs r i).map zC) S:=
 xQ (wO _) λj hj=>by rw [mem_range]at hj;obtain⟨F,h1,h2⟩:=yIJ hRl hr (hR _ (nW hi)) (os:=[atR rs j]) (λo h=>by rw [mS.mp h];exact hR _ (nW hj)) (show 1<1000 by decide) S;refine⟨[some (zC j),some (zK (atR rs j)),some (obR r),some (zK (atR rs i))],rfl,?_,rfl⟩;have h2':zU 3 F [.val (obR r),.val (zK (atR rs i)),.new [zK (atR rs j)]] S=.ok (.val (.bl (yU r (atR rs i) [atR rs j]))) S:=h2;unfold zAH;simp? [lst1,h1,h2']
def yIL(hRl: ∀r∈rls,dY ts r)(hR: ∀r∈rs,ROk ts r)(hn:rs.length<=100){r:Rule}(hr:r∈rls){i:Nat}(hi:i<rs.length){S0 S:Sto}{tk:List (Nat×List Nat)}{c:Nat}(hc:c<100000)(h:TI S0 tk c S):
  ∃S',jL (T5 (zO ts rls rs) S0.length (some (obR r)) (some (zC i)) (some (zK (atR rs i)))) S=.ok (.next (T5 (zO ts rls rs) S0.length (some (obR r)) (some (zC i)) (some (zK (atR rs i))))) S'/\TI S0 (tk++zOD rs r i) (c+1) S':=by
 obtain⟨F,h1,h2⟩:=yIJ hRl hr (hR _ (nW hi)) (os:=[]) (λo h=>by cases h) (by decide) S;have h2':zU 3 F [.val (obR r),.val (zK (atR rs i)),.new []] S=.ok (.val (.bl (yU r (atR rs i) []))) S:=h2;unfold zOD
 cases hb:yU r (atR rs i) []with
 |false=>
  rw [hb]at h2';refine⟨S,?_,by rw [iN xF0,aN];exact⟨h.ex,h.old,by have:=h.len;omega⟩⟩;unfold jL zAI;simp? [yDM,h1,h2'];rfl
 |true=>
  rw [hb]at h2';rw [iP rfl];obtain⟨ms,g1,g2,g3⟩:=h.ex;have hl0:S0.length<S.length:=(gS0.mp g1).1;have hsl:(zJX rs r i).length<=100:=le_trans (length_filter_le _ _) (by rw [length_range];exact hn);have g1':(S++[MO.lst ((zJX rs r i).map zC)])[S0.length]? =some (.lst ms):=by rw [getElem?_append_left hl0];exact g1
  refine⟨(S++[MO.lst ((zJX rs r i).map zC)]).set S0.length (.lst (ms++[.tup [zC i,.loc S.length]])),?_,?_⟩
  ·unfold jL zAI;simp? [yDM,h1,h2',nU g1,zOC,zWE,show(((List.range rs.length).map λi=>MV.tup [zC i,zK (atR rs i)]).length<1000000)=True from eq_true (by rw [lM,length_range];omega),show blk 2 [2,4] (T5 (zO ts rls rs) S0.length (some (obR r)) (some (zC i)) (some (zK (atR rs i))))=[none,none,some (obR r),some (zK (atR rs i))]from rfl,yIK hRl hR hr hi];rw [show xO [.val (zC i),.new ((zJX rs r i).map zC)] S=.ok (.val (.tup [zC i,.loc S.length])) (S++[.lst ((zJX rs r i).map zC)])from zBV (by simp)];simp? [zSZ g1' (by rw [g2.length];have:=h.len;omega)]
  ·have o1:Old S (S++[MO.lst ((zJX rs r i).map zC)]):=Old.app _ _;refine⟨⟨ms++[.tup [zC i,.loc S.length]],getElem?_set_self (by rw [lA];omega),?_,λp j hm=>?_⟩,(h.old.trans o1).set (le_refl _) _,by rw [lA,lS];have:=h.len;omega⟩
   ·refine TsAt.snoc (g2.mono λm ds e ⟨j,hj⟩=>?_) ?_ hsl
    ·rw [getElem?_set_ne (by have:=g3 m j hj;omega)];exact o1 m _ e
    ·rw [getElem?_set_ne (by omega)];simp
   ·rcases mem_append.mp hm with hm|hm
    ·exact g3 p j hm
    ·have:=mS.mp hm;injection this with this
     injection this with _ this
     injection this with this _
     injection this with this
     omega
end
section
variable{ts:Ac}{rls:List Rule}{rs:List Row}
def zKR(rls:List Rule)(rs:List Row):List (Nat×List Nat):=rls.foldl (λb r=>(List.range rs.length).foldl (λb i=>b++zOD rs r i) b) []
def yOJ(S:Sto)(r:Er)(tk:List (Nat×List Nat)):Prop:=(r=.new []/\tk=[])\/ ∃l ms,r=.val (.loc l)/\S[l]? =some (.lst ms)/\TsAt S ms tk
def ySG(hRl: ∀r∈rls,dY ts r)(hR: ∀r∈rs,ROk ts r)(hn:rs.length<=100)(hrl:rls.length<=100)(S:Sto):
  ∃r S',zU 1 gQ [.val (zO ts rls rs)] S=.ok r S'/\Old S S'/\yOJ S' r (zKR rls rs)/\(zKR rls rs).length<=100000:=by
 have e1:zES [some (zO ts rls rs),none,none,none,none] S=.ok (.next (T5 (zO ts rls rs) S.length none none none)) (S++[.lst []]):=by unfold zES;simp? [yDM]
 have inner: ∀{r:Rule},r∈rls-> ∀(c:Nat),c<=50000-> ∀(b:List (Nat×List Nat))(ρ:Rho)(S1:Sto),(∃y z,ρ=T5 (zO ts rls rs) S.length (some (obR r)) y z)/\TI S b c S1->
   ∃ρ' S',bT (gTp 2 (zP (gNm 3) (zP (gNm 4) xY))) jL [] ((List.range rs.length).map λi=>MV.tup [zC i,zK (atR rs i)]) ρ S1=.ok (.next ρ') S'/\(∃y z,ρ'=T5 (zO ts rls rs) S.length (some (obR r)) y z)/\TI S ((List.range rs.length).foldl (λb i=>b++zOD rs r i) b) (c+rs.length) S':=λ{r} hr c hc b ρ S1 h=>by
  have:=zBK (f:=λi=>MV.tup [zC i,zK (atR rs i)]) (gf:=gTp 2 (zP (gNm 3) (zP (gNm 4) xY))) (body:=jL) (gs:=[]) (λk b ρ S1=>(∃y z,ρ=T5 (zO ts rls rs) S.length (some (obR r)) y z)/\TI S b k S1) (λb i=>b++zOD rs r i) (ds:=List.range rs.length) c (λj i hj b ρ S1 ⟨⟨y,z,hρ⟩,hT⟩=>by subst hρ;obtain⟨hj1,hj2⟩:=gS0.mp hj;rw [length_range]at hj1;rw [List.getElem_range]at hj2;subst hj2;obtain⟨S',t1,t2⟩:=yIL hRl hR hn hr hj1 (by omega) hT;refine⟨T5 (zO ts rls rs) S.length (some (obR r)) (some (zC j)) (some (zK (atR rs j))),S',?_,wO _,⟨_,_,rfl⟩,t2⟩;rw [show gTp 2 (zP (gNm 3) (zP (gNm 4) xY)) (.tup [zC j,zK (atR rs j)]) (T5 (zO ts rls rs) S.length (some (obR r)) y z) S1=.ok (T5 (zO ts rls rs) S.length (some (obR r)) (some (zC j)) (some (zK (atR rs j)))) S1 from rfl,bok];exact t1) b ρ S1 h;obtain⟨ρ',S',f1,f2,f3⟩:=this;rw [length_range]at f3;exact⟨ρ',S',f1,f2,f3⟩
 obtain⟨ρ',S',f1,⟨x,y,z,hρ⟩,f3⟩:=zBK (f:=obR) (gf:=gNm 2) (body:=zER) (gs:=[]) (λk b ρ S1=>(∃x y z,ρ=T5 (zO ts rls rs) S.length x y z)/\TI S b (k * rs.length) S1) (λb r=>(List.range rs.length).foldl (λb i=>b++zOD rs r i) b) (ds:=rls) 0 (λj r hj b ρ S1 ⟨⟨x,y,z,hρ⟩,hT⟩=>by subst hρ;have hr:r∈rls:=mem_of_getElem? hj;have hj1:=(gS0.mp hj).1;have hb:(0+j) * rs.length<=50000:=le_trans (mul_le_mul (show 0+j<=100 by omega) hn) (by decide);obtain⟨ρ',S',f1,⟨y',z',rfl⟩,f3⟩:=inner hr ((0+j) * rs.length) hb b (T5 (zO ts rls rs) S.length (some (obR r)) y z) S1 ⟨⟨_,_,rfl⟩,hT⟩;refine⟨T5 (zO ts rls rs) S.length (some (obR r)) y' z',S',?_,wO _,⟨_,_,_,rfl⟩,by rw [show(0+j+1) * rs.length=(0+j) * rs.length+rs.length by rw [Nat.add_mul,Nat.one_mul]];exact f3⟩;rw [show gNm 2 (obR r) (T5 (zO ts rls rs) S.length x y z) S1=.ok (T5 (zO ts rls rs) S.length (some (obR r)) y z) S1 from rfl,bok];unfold zER zGE;simp? [zOC,zWE];exact f1) [] (T5 (zO ts rls rs) S.length none none none) (S++[.lst []]) ⟨⟨_,_,_,rfl⟩,⟨⟨[],by simp,.nil,λp i h=>by cases h⟩,Old.app _ _,zero_le _⟩⟩;subst hρ;have e2:zET (T5 (zO ts rls rs) S.length none none none) (S++[.lst []])=.ok (.next (T5 (zO ts rls rs) S.length x y z)) S':=by unfold zET;simp? [zTL hRl hrl,show∀ds S,itL (.new ds) S=.ok ⟨ds,[]⟩ S from λ_ _=>rfl];exact f1
 have e3:zEU (T5 (zO ts rls rs) S.length x y z) S'=.ok (.ret (.val (.loc S.length))) S':=by unfold zEU;simp? [bok]
 have hF:gQ [zO ts rls rs] S=.ok (.val (.loc S.length)) S':=by show yE (zJQ [some (zO ts rls rs),none,none,none,none] S)=_;unfold zJQ;rw [zG e1,zG e2,e3];rfl
 have hlen:(zKR rls rs).length<=100000:=le_trans f3.len (le_trans (mul_le_mul (show 0+rls.length<=100 by omega) hn) (by decide));obtain⟨ms,g1,g2,g3⟩:=f3.ex;have hcall:zU 1 gQ [.val (zO ts rls rs)] S=bK S (.val (.loc S.length)) S':=by unfold zU;rw [iP (show [Er.val (zO ts rls rs)].length=1 from rfl)];show((noX (gQ [zO ts rls rs] S)).bind λr S2=>bK S r S2)=_;rw [hF,yL,bok]
 rw [hcall];unfold bK;rw [iP (yNA f3.old)];dsimp only;rw [iN (lt_irrefl _),g1];dsimp only;by_cases hm:ms=[]
 ·subst hm;refine⟨.new [],S'.take S.length,by rw [iP (wC λd hd=>by cases hd)],yII f3.old,.inl ⟨rfl,?_⟩,hlen⟩;have:=g2.length;exact List.eq_nil_of_length_eq_zero this.symm
 ·refine⟨.val (.loc S.length),S',by
   rw [iN];intro hlo
   cases ms with
   |nil=>exact hm rfl
   |cons d r=>
    obtain⟨i,p,rfl⟩:=g2.shape d mF0;have hp:=g3 p _ mF0;unfold loL at hlo;have h1:=hlo.1;unfold lo at h1;unfold loL at h1;have h2:=h1.2;unfold loL at h2;have h3:=h2.1;unfold lo at h3;omega,f3.old,.inr ⟨S.length,ms,rfl,g1,g2⟩,hlen⟩
end
def unT(tk:List (Nat×List Nat))(K:Ab):List Nat:=(tk.filter λt=>decide (t.1∈K)&& !t.2.any λj=>decide (j∈K)).map (·.1)
theorem c_has{S:Sto}{lk p:Nat}{K srv:Ab}(hk:S[lk]? =some (.dic (kd K)))(hp:S[p]? =some (.lst (srv.map zC))):zU 2 cH [.val (.loc lk),.val (.loc p)] S=.ok (.val (.bl (srv.any λj=>decide (j∈K)))) S:=by
 refine bQ rfl ?_;show yE (zCI [some (.loc lk),some (.loc p),none] S)=_
 obtain⟨o1,o2⟩:=zWD (f:=zC) (p:=λj=>decide (j∈K)) (gf:=gNm 2) (body:=jZ) (gs:=[(p,srv.map zC)]) (S:=S) (r:=.val (.bl true)) (λρ=> ∃y,ρ=[some (.loc lk),some (.loc p),y]) (xD hp) (ds:=srv) (λj _ ρ ⟨y,hρ⟩=>by
  subst hρ;refine⟨[some (.loc lk),some (.loc p),some (zC j)],rfl,λh=>?_,λh=>⟨[some (.loc lk),some (.loc p),some (zC j)],⟨_,rfl⟩,?_⟩⟩
  ·unfold jZ gR;simp? [yBR hk,h];rfl
  ·unfold jZ gR;simp? [yBR hk,h];rfl) [some (.loc lk),some (.loc p),none] ⟨_,rfl⟩
 unfold zCI
 cases hb:srv.any λj=>decide (j∈K)with
 |true=>
  have e1:wV [some (.loc lk),some (.loc p),none] S=.ok (.ret (.val (.bl true))) S:=by unfold wV;simp? [kB hp];exact o1 hb
  rw [cG e1];rfl
 |false=>
  obtain⟨ρ',_,o2⟩:=o2 hb;have e1:wV [some (.loc lk),some (.loc p),none] S=.ok (.next ρ') S:=by unfold wV;simp? [kB hp];exact o2
  rw [zG e1];rfl
def yNB{S:Sto}{lk:Nat}{K:Ab}(hk:S[lk]? =some (.dic (kd K))){gs:Ca}(hs:stay gs S){ms:Bh}{tk:List (Nat×List Nat)}(h:TsAt S ms tk):
  yD (gTp 2 (zP (gNm 0) (zP (gNm 1) xY))) wE jI [none,none,some (.loc lk)] gs ms S=.ok ((unT tk K).map zC) S:=by
 induction h with
 |nil=>rfl
 |@cons p i srv ms tk h1 h2 _ ih=>
  have hg:gTp 2 (zP (gNm 0) (zP (gNm 1) xY)) (.tup [zC i,.loc p]) [none,none,some (.loc lk)] S=.ok [some (zC i),some (.loc p),some (.loc lk)] S:=rfl
  have hc:wE [some (zC i),some (.loc p),some (.loc lk)] S=.ok (decide (i∈K)&& !srv.any λj=>decide (j∈K)) S:=by
   unfold wE
   cases hi:decide (i∈K)with
   |false=>simp? [yBR hk,hi];rfl
   |true=>
    simp? [yBR hk,hi,c_has hk h1];rfl
  unfold unT at ih ⊢;unfold yD
  cases hb:(decide (i∈K)&& !srv.any λj=>decide (j∈K))with
  |true=>
   rw [hg,yL,bok,hc,yL,bok,hb,iP rfl,show jI [some (zC i),some (.loc p),some (.loc lk)] S=.ok (.val (zC i)) S from rfl,yL,bok];unfold gI;rw [bok,iP hs,ih,filter_cons_of_pos (by exact hb)];rfl
  |false=>
   rw [hg,yL,bok,hc,yL,bok,hb,iN xF0,iP hs,ih,filter_cons_of_neg (by rw [hb];exact xF0)]
def zFS(K:Ab)(n:Nat):loL n (K.map zC):=wC λd hd=>by obtain⟨i,_,rfl⟩:=mM.mp hd;exact gO _ _
def zWF{S:Sto}{lt lk:Nat}{K:Ab}{ms:Bh}{tk:List (Nat×List Nat)}(hk:S[lk]? =some (.dic (kd K)))(ht:S[lt]? =some (.lst ms))(h:TsAt S ms tk)(hl:tk.length<=100000):zU 2 wW [.val (.loc lt),.val (.loc lk)] S=.ok (.new ((unT tk K).map zC)) S:=cY (T:=[]) rfl (by
 show yE (dL [some (.loc lt),some (.loc lk)] S)=_;have e1:gS [some (.loc lt),some (.loc lk)] S=.ok (.ret (.new ((unT tk K).map zC))) S:=by unfold gS;simp? [kB ht,show(ms.length<1000000)=True from eq_true (by rw [h.length];omega),show blk 2 [1] [some (.loc lt),some (.loc lk)]=[none,none,some (.loc lk)]from rfl,yNB hk (xD ht) h]
 unfold dL;rw [e1,aN];rfl) (zFS _ _)
def zYZ{tk:List (Nat×List Nat)}{K:Ab}{i:Nat}:i∈unT tk K↔i∈K/\ ∃srv,(i,srv)∈tk/\ ∀j∈srv,j∉K:=by
 unfold unT;rw [mM];constructor
 ·rintro⟨⟨k,srv⟩,ht,rfl⟩;rw [mem_filter,aE,decide_eq_true_eq,not_eq_true',any_eq_false]at ht;exact⟨ht.2.1,srv,ht.1,λj hj=>by have:=ht.2.2 j hj;rwa [decide_eq_true_eq]at this⟩
 ·rintro⟨hi,srv,ht,hs⟩;refine⟨(i,srv),?_,rfl⟩;rw [mem_filter,aE,decide_eq_true_eq,not_eq_true',any_eq_false];exact⟨ht,hi,λj hj=>by rw [decide_eq_true_eq];exact hs j hj⟩
abbrev W5(a b:MV)(lk:Nat)(u x:Bi):Rho:=[some a,some b,some (.loc lk),u,x]
theorem pops{a b:MV}{lk lu:Nat}{U:Ab}(hne:lk≠lu): ∀(us:Ab)(K:Ab)(S:Sto)(x:Bi),S[lk]? =some (.dic (kd K))->S[lu]? =some (.lst (U.map zC))->
  ∃x',bT (gNm 4) jC [(lu,U.map zC)] (us.map zC) (W5 a b lk (some (.loc lu)) x) S=.ok (.next (W5 a b lk (some (.loc lu)) x')) (S.set lk (.dic (kd (K.filter λk=>!decide (k∈us)))))
 |[],K,S,x,hk,hu=>by
  refine⟨x,?_⟩;have e:(K.filter λk=>!decide (k∈([]:Ab)))=K:=filter_eq_self.mpr λk _=>by simp
  rw [e,set_same hk];rfl
 |u::us,K,S,x,hk,hu=>by
  obtain⟨d,hd⟩:=ySC hk u;have hb:jC (W5 a b lk (some (.loc lu)) (some (zC u))) S=.ok (.next (W5 a b lk (some (.loc lu)) (some (zC u)))) (S.set lk (.dic (kd (K.filter λk=>!decide (k=u))))):=by unfold jC nS;simp? [yMY hk,hd]
  have hk':(S.set lk (.dic (kd (K.filter λk=>!decide (k=u)))))[lk]? =some (.dic (kd (K.filter λk=>!decide (k=u)))):=get_set hk;have hu':(S.set lk (.dic (kd (K.filter λk=>!decide (k=u)))))[lu]? =some (.lst (U.map zC)):=by rw [zYU hne];exact hu
  obtain⟨x',h'⟩:=pops hne us (K.filter λk=>!decide (k=u)) _ (some (zC u)) hk' hu';refine⟨x',?_⟩;rw [map_cons,bM (ρ0:=W5 a b lk (some (.loc lu)) (some (zC u))) rfl hb (xD hu'),h',List.set_set,filter_filter];congr 5;funext k;by_cases h1:k=u
  ·subst h1;simp
  ·by_cases h2:k∈us<;>simp [h1,h2]
def zTM(tk:List (Nat×List Nat))(A K:Ab):Prop:=(∃p,K=A.filter p)/\unT tk K=[]/\ ∀P:Nat->Prop,(∀i,P i->i∈A)->(∀t∈tk,P t.1-> ∃j∈t.2,P j)-> ∀i,P i->i∈K
def yNC{S:Sto}{l:Nat}{ds:Bh}(h:S[l]? =some (.lst ds)):zFU (.val (.loc l)) S=.ok (!ds.isEmpty) S:=by unfold zFU;dsimp only;rw [h]
def yER{tk:List (Nat×List Nat)}{S3:Sto}{lt:Nat}{b:MV}{ms:Bh}(ht:S3[lt]? =some (.lst ms))(hT:TsAt S3 ms tk)(hl:tk.length<=100000):
  ∀(n:Nat)(K:Ab)(S:Sto)(lu:Nat)(x:Bi),K.length<n->Old S3 S->S[S3.length]? =some (.dic (kd K))->S3.length<lu->S[lu]? =some (.lst ((unT tk K).map zC))->
   ∃K' u' x' S',gM kE jD n (W5 (.loc lt) b S3.length (some (.loc lu)) x) S=.ok (.next (W5 (.loc lt) b S3.length u' x')) S'/\Old S3 S'/\S'[S3.length]? =some (.dic (kd K'))/\zTM tk K K':=by
 intro n
 induction n with
 |zero=>intro K S lu x h;omega
 |succ n ih=>
  intro K S lu x hn hO hk hlu hu;have hW:kE (W5 (.loc lt) b S3.length (some (.loc lu)) x) S=.ok (!((unT tk K).map zC).isEmpty) S:=by unfold kE;simp? [yNC hu]
  cases hU:unT tk K with
  |nil=>
   rw [hU]at hW;refine⟨K,some (.loc lu),x,S,yDL hW,hO,hk,⟨λ_=>true,(filter_eq_self.mpr λ_ _=>rfl).symm⟩,hU,λP h1 _ i hi=>h1 i hi⟩
  |cons u us=>
   rw [hU]at hW;obtain⟨x',hp⟩:=pops (a:=.loc lt) (b:=b) (U:=unT tk K) (show S3.length≠lu by omega) (unT tk K) K S x hk hu;have hk1:(S.set S3.length (.dic (kd (K.filter λk=>!decide (k∈unT tk K)))))[S3.length]? =some (.dic (kd (K.filter λk=>!decide (k∈unT tk K)))):=get_set hk;have hO1:Old S3 (S.set S3.length (.dic (kd (K.filter λk=>!decide (k∈unT tk K))))):=hO.set (le_refl _) _;generalize hK1:(K.filter λk=>!decide (k∈unT tk K))=K1 at hp hk1 hO1;generalize hS1:S.set S3.length (.dic (kd K1))=S1 at hp hk1 hO1;have ht1:=hO1 _ _ ht;have hT1:TsAt S1 ms tk:=hT.mono λm ds e _=>hO1 m _ e;have b1:hV (W5 (.loc lt) b S3.length (some (.loc lu)) x) S=.ok (.next (W5 (.loc lt) b S3.length (some (.loc lu)) x')) S1:=by unfold hV;simp? [kB hu];exact hp
   have b2:hX (W5 (.loc lt) b S3.length (some (.loc lu)) x') S1=.ok (.next (W5 (.loc lt) b S3.length (some (.loc S1.length)) x')) (S1++[.lst ((unT tk K1).map zC)]):=by unfold hX;simp? [zWF hk1 ht1 hT1 hl]
   have hB:jD (W5 (.loc lt) b S3.length (some (.loc lu)) x) S=.ok (.next (W5 (.loc lt) b S3.length (some (.loc S1.length)) x')) (S1++[.lst ((unT tk K1).map zC)]):=by unfold jD;rw [zG b1,b2]
   have hlk1:S3.length<S1.length:=(gS0.mp hk1).1;have hmu: ∀i∈unT tk K,i∈K:=λi hi=>(zYZ.mp hi).1
   have hlen:K1.length<K.length:=by
    rw [<-hK1];have huK:u∈K:=hmu u (by rw [hU];exact mF0);have huU:u∈unT tk K:=by rw [hU];exact mF0
    refine Nat.lt_of_le_of_ne (length_filter_le _ _) λe=>?_;have:=List.length_filter_eq_length_iff.mp e u huK;rw [dT0 huU]at this;cases this
   obtain⟨K',u',x'',S',w1,w2,w3,⟨p,hpK⟩,w5,w6⟩:=ih K1 (S1++[.lst ((unT tk K1).map zC)]) S1.length x' (by omega) (hO1.trans (Old.app _ _)) (Old.app _ _ _ _ hk1) hlk1 (by simp);refine⟨K',u',x'',S',?_,w2,w3,⟨λk=>(!decide (k∈unT tk K))&&p k,?_⟩,w5,λP h1 h2 i hi=>w6 P (λj hj=>?_) h2 i hi⟩
   ·rw [zYL hW hB];exact w1
   ·rw [hpK, <-hK1,filter_filter];congr 1;funext k;exact Bool.and_comm _ _
   ·rw [<-hK1,mem_filter];refine⟨h1 j hj,?_⟩;rw [not_eq_true',decide_eq_false_iff_not];intro hm;obtain⟨_,srv,ht,hs⟩:=zYZ.mp hm;obtain⟨q,hq,hPq⟩:=h2 (j,srv) ht hj;exact hs q hq (h1 q hPq)
theorem zWG{tk:List (Nat×List Nat)}{S3:Sto}{lt la:Nat}{ms:Bh}{A:Ab}(ht:S3[lt]? =some (.lst ms))(hT:TsAt S3 ms tk)(hl:tk.length<=100000)(ha:S3[la]? =some (.lst (A.map zC)))(hn:A.Nodup)(hal:A.length<=100):
  ∃K T,wI [.loc lt,.loc la] S3=.ok (.val (.tup (K.map zC))) (S3++T)/\zTM tk A K:=by
 have hc:yD (gNm 0) nR hG [none] [(la,A.map zC)] (A.map zC) S3=.ok (A.map λi=>.tup [zC i,.bl true]) S3:=yT (xD ha) λi _=>⟨[some (zC i)],rfl,rfl,by unfold hG;simp? [show∀a b S,xO [.val a,.val b] S=.ok (.val (.tup [a,b])) S from λa b S=>zBV (by simp)]⟩
 have e1:bX [some (.loc lt),some (.loc la),none,none,none] S3=.ok (.next (W5 (.loc lt) (.loc la) S3.length none none)) (S3++[.dic (kd A)]):=by unfold bX;simp? [kB ha,show((A.map zC).length<1000000)=True from eq_true (by rw [lM];omega),show blk 1 [] [some (.loc lt),some (.loc la),none,none,none]=[none]from rfl,hc,ySD hn]
 have hO:Old S3 (S3++[.dic (kd A)]):=Old.app _ _;have hk:(S3++[MO.dic (kd A)])[S3.length]? =some (.dic (kd A)):=by simp
 have e2:bY (W5 (.loc lt) (.loc la) S3.length none none) (S3++[.dic (kd A)])=.ok (.next (W5 (.loc lt) (.loc la) S3.length (some (.loc (S3++[MO.dic (kd A)]).length)) none)) (S3++[.dic (kd A)]++[.lst ((unT tk A).map zC)]):=by unfold bY;simp? [zWF hk (hO _ _ ht) (hT.mono λm ds e _=>hO m _ e) hl]
 obtain⟨K,u',x',S',w1,w2,w3,w4⟩:=yER (b:=.loc la) ht hT hl 10000 A (S3++[.dic (kd A)]++[.lst ((unT tk A).map zC)]) (S3++[MO.dic (kd A)]).length none (by omega) (hO.trans (Old.app _ _)) (Old.app _ _ _ _ hk) (by rw [lA];exact lt_succ_self _) (by simp);obtain⟨T,rfl⟩:=w2.is;refine⟨K,T,?_,w4⟩;show yE (zAJ [some (.loc lt),some (.loc la),none,none,none] S3)=_;have e4:bZ (W5 (.loc lt) (.loc la) S3.length u' x') (S3++T)=.ok (.ret (.val (.tup (K.map zC)))) (S3++T):=by unfold bZ;simp? [ySE w3]
 unfold zAJ;rw [zG e1,zG e2,zG (show zDM _ _=_ from w1),e4];rfl
def ySH{tk:List (Nat×List Nat)}{S:Sto}{r:Er}{la:Nat}{A:Ab}(hr:yOJ S r tk)(hl:tk.length<=100000)(ha:S[la]? =some (.lst (A.map zC)))(hn:A.Nodup)(hal:A.length<=100):
  ∃K,zU 2 wI [r,.val (.loc la)] S=.ok (.val (.tup (K.map zC))) S/\zTM tk A K:=by
 have hlo: ∀K:List Nat,lo S.length (.tup (K.map zC)):=λK=>gP (zFS K _);rcases hr with⟨rfl,rfl⟩|⟨l,ms,rfl,g1,g2⟩
 ·obtain⟨K,T,h1,h2⟩:=zWG (S3:=S++[.lst []]) (lt:=S.length) (la:=la) (A:=A) (ms:=[]) (by simp) .nil (zero_le _) (Old.app _ _ _ _ ha) hn hal;refine⟨K,zAT (T:=[.lst []]++T) rfl ?_ (hlo K) (λl=>by simp),h2⟩;show wI [.loc S.length,.loc la] (S++[.lst []])=_;rw [h1,aA]
 ·obtain⟨K,T,h1,h2⟩:=zWG g1 g2 hl ha hn hal;exact⟨K,zAT (T:=T) rfl h1 (hlo K) (λl=>by simp),h2⟩
theorem yND{α:Type}(f:α->Bool)(xs:List α)(S:Sto):anyF [.new (xs.map λx=>.bl (f x))] S=.ok (.val (.bl (xs.any f))) S:=by
 have h: ∀xs:List α,nO (xs.map λx=>.bl (f x))=some (xs.map f):=by
  intro xs
  induction xs with
  |nil=>rfl
  |cons x xs ih=>rw [map_cons,map_cons];unfold nO;rw [ih];rfl
 show(match (some (xs.map λx=>MV.bl (f x))).bind nO with |some bs=>R.ok (Er.val (.bl (bs.any id))) S|none=>.no)=_;rw [show(some (xs.map λx=>MV.bl (f x))).bind nO=some (xs.map f)from h xs];show R.ok (Er.val (.bl ((xs.map f).any id))) S=_;rw [List.any_map];rfl
section
variable{ts:Ac}{rls:List Rule}{rs:List Row}
def kX(rls:List Rule)(rs:List Row)(some:Ab):List Nat:=some.filter λi=>!rls.any λr=>nA r (atR rs i)
abbrev U4(b m:MV)(x y:Bi):Rho:=[some b,some m,x,y]
theorem ySI(hRl: ∀r∈rls,dY ts r)(hR: ∀r∈rs,ROk ts r)(hn:rs.length<=100)(hrl:rls.length<=100){sm:Ab}(hs: ∀i∈sm,i<rs.length)(hd:sm.Nodup)(hl:sm.length<=100)(S:Sto):
  ∃K,zU 2 zNM [.val (zO ts rls rs),.val (.tup (sm.map zC))] S=.ok (.val (.tup (K.map zC))) S/\zTM (zKR rls rs) (kX rls rs sm) K:=by
 have e1:zNJ (U4 (zO ts rls rs) (.tup (sm.map zC)) none none) S=.ok (.next (U4 (zO ts rls rs) (.tup (sm.map zC)) (some (.loc S.length)) none)) (S++[.lst (rls.map obR)]):=by unfold zNJ;simp? [zTL hRl hrl]
 have gr:(S++[MO.lst (rls.map obR)])[S.length]? =some (.lst (rls.map obR)):=by simp
 have inner: ∀{i:Nat},i<rs.length->yD (gNm 0) zNH zHE [none,some (zC i),some (zO ts rls rs)] [(S.length,rls.map obR)] (rls.map obR) (S++[.lst (rls.map obR)])=.ok (rls.map λr=>.bl (nA r (atR rs i))) (S++[.lst (rls.map obR)]):=λ{i} hi=>
  yT (xD gr) λr hr=>by obtain⟨F,h1,h2,_⟩:=yBP (hRl r hr) (hR _ (nW hi)) (S++[.lst (rls.map obR)]);refine⟨[some (obR r),some (zC i),some (zO ts rls rs)],rfl,rfl,?_⟩;unfold zHE;simp? [zOC,zOB hi,h1,h2]
 have outer:yD (gNm 0) zHF zNI [none,some (zO ts rls rs),some (.loc S.length)] [] (sm.map zC) (S++[.lst (rls.map obR)])=.ok ((kX rls rs sm).map zC) (S++[.lst (rls.map obR)]):=zNZ (wO _) λi hi=>by refine⟨[some (zC i),some (zO ts rls rs),some (.loc S.length)],rfl,?_,rfl⟩;unfold zHF;simp? [kB gr,show((rls.map obR).length<1000000)=True from eq_true (by rw [lM];omega),show blk 1 [0,1] [some (zC i),some (zO ts rls rs),some (.loc S.length)]=[none,some (zC i),some (zO ts rls rs)]from rfl,inner (hs i hi),yND]
 have e2:zNK (U4 (zO ts rls rs) (.tup (sm.map zC)) (some (.loc S.length)) none) (S++[.lst (rls.map obR)])=.ok (.next (U4 (zO ts rls rs) (.tup (sm.map zC)) (some (.loc S.length)) (some (.loc (S++[MO.lst (rls.map obR)]).length)))) (S++[.lst (rls.map obR)]++[.lst ((kX rls rs sm).map zC)]):=by unfold zNK;simp? [nV,show((sm.map zC).length<1000000)=True from eq_true (by rw [lM];omega),show blk 1 [0,2] (U4 (zO ts rls rs) (.tup (sm.map zC)) (some (.loc S.length)) none)=[none,some (zO ts rls rs),some (.loc S.length)]from rfl,outer]
 generalize hS2:S++[.lst (rls.map obR)]++[.lst ((kX rls rs sm).map zC)]=S2 at e2;have hO:Old S S2:=by rw [<-hS2,aA];exact Old.app _ _
 have ga:S2[(S++[MO.lst (rls.map obR)]).length]? =some (.lst ((kX rls rs sm).map zC)):=by rw [<-hS2];simp
 obtain⟨r,S3,t1,t2,t3,t4⟩:=ySG hRl hR hn hrl S2;obtain⟨K,k1,k2⟩:=ySH t3 t4 (t2 _ _ ga) (hd.sublist List.filter_sublist) (le_trans (length_filter_le _ _) hl);obtain⟨T,hT⟩:=(hO.trans t2).is;have e3:zNL (U4 (zO ts rls rs) (.tup (sm.map zC)) (some (.loc S.length)) (some (.loc (S++[MO.lst (rls.map obR)]).length))) S2=.ok (.ret (.val (.tup (K.map zC)))) S3:=by unfold zNL;simp? [t1,k1]
 refine⟨K,zAT (T:=T) rfl ?_ (gP (zFS K _)) (λl=>by simp),k2⟩;show yE (zYT (U4 (zO ts rls rs) (.tup (sm.map zC)) none none) S)=_;unfold zYT;rw [zG e1,zG e2,e3,hT];rfl
theorem yBT{t:Nat×List Nat}:t∈zKR rls rs↔ ∃r∈rls, ∃i,i<rs.length/\yU r (atR rs i) []=true/\t=(i,zJX rs r i):=by
 have f1: ∀{α β:Type}(g:α->List β)(l:List α)(b:List β),l.foldl (λb i=>b++g i) b=b++l.flatMap g:=by
  intro α β g l
  induction l with
  |nil=>intro b;simp
  |cons x l ih=>intro b;rw [foldl_cons,ih,flatMap_cons,aA]
 have e:zKR rls rs=rls.flatMap λr=>(List.range rs.length).flatMap (zOD rs r):=by unfold zKR;rw [show(λ(b:List (Nat×List Nat)) r=>(List.range rs.length).foldl (λb i=>b++zOD rs r i) b)=λb r=>b++(List.range rs.length).flatMap (zOD rs r)from funext λb=>funext λr=>f1 _ _ _,f1];rfl
 rw [e,mem_flatMap];constructor
 ·rintro⟨r,hr,h⟩;obtain⟨i,hi,h⟩:=mem_flatMap.mp h;rw [mem_range]at hi;unfold zOD at h;split at h
  ·rename_i hb;exact⟨r,hr,i,hi,hb,mS.mp h⟩
  ·cases h
 ·rintro⟨r,hr,i,hi,hb,rfl⟩;refine⟨r,hr,mem_flatMap.mpr ⟨i,mem_range.mpr hi,?_⟩⟩;unfold zOD;rw [iP hb];exact mS.mpr rfl
def yBU{r:Rule}{i j:Nat}(h:zGF r (atR rs i)=true):j∈zJX rs r i↔j<rs.length/\zOA r (atR rs i) (atR rs j)=true:=by unfold zJX yU;rw [mem_filter,mem_range,h];simp
end
def zWH{x:Ab}{more:Bh}{c:Str}(hs:zVL "parts_them" xP (.val (ob c (.tup (.str x::more))))=some yS)(a b:MV)(S:Sto):yIG "parts_them" 3 xP (ob c (.tup (.str x::more))) [.val a,.val b] false S:=by exact⟨yS,hs,bQ rfl rfl,trivial⟩
def zJY:Rule->Row->Row->Bool
 |.apart t u qs,a,b=>(decide ((a.1:Int)=t)&&decide ((b.1:Int)=u)&&qs.all (zDO [a,b])) || (decide ((b.1:Int)=t)&&decide ((a.1:Int)=u)&&qs.all (zDO [b,a]))
 |_,_,_=>false
def yIM{ts:Ac}{r:Rule}(h:dY ts r){a b:Row}(ha:ROk ts a)(hb:ROk ts b)(S:Sto):yIG "parts_them" 3 xP (obR r) [.val (zK a),.val (zK b)] (zJY r a b) S:=by
 cases r with
 |never t qs=>exact zWH (x:=zCU) rfl (zK a) (zK b) S
 |apart t u qs=>exact h.elim
 |tie t cs u ds=>exact zWH (x:=zTF) rfl (zK a) (zK b) S
theorem zFD{α:Type}{le:α->α->Prop}: ∀{l1 l2:List α},l1.Perm l2->l1.Pairwise le->l2.Pairwise le->(∀a∈l1, ∀b∈l1,le a b->le b a->a=b)->l1=l2
 |[],l2,p,_,_,_=>p.nil_eq
 |a::l1,[],p,_,_,_=>by have:=p.length_eq;simp at this
 |a::l1,b::l2,p,h1,h2,u=>by
  have c1:=pairwise_cons.mp h1;have c2:=pairwise_cons.mp h2
  have e:a=b:=by
   rcases mC.mp (p.mem_iff.mp (mF0 (a:=a) (l:=l1)))with e|m2
   ·exact e
   ·rcases mC.mp (p.mem_iff.mpr (mF0 (a:=b) (l:=l2)))with e|m1
    ·exact e.symm
    ·exact u a mF0 b (mO _ m1) (c1.1 b m1) (c2.1 a m2)
  subst e;rw [zFD (p.cons_inv) c1.2 c2.2 λx hx y hy=>u x (mO _ hx) y (mO _ hy)]
def zCV{β:Type}(T:List β):(List.range T.length).filterMap (T[·]?)=T:=by
 induction T with
 |nil=>rfl
 |cons t T ih=>
  rw [lC,List.range_succ_eq_map,filterMap_cons,List.filterMap_map];show t::List.filterMap (λi=>(t::T)[i+1]?) (List.range T.length)=_;simp only [List.getElem?_cons_succ];rw [ih]
theorem zRF: ∀{ds:Bh},(∀d∈ds,xZ d=true)->zHY ds=true
 |[],_=>by unfold zHY;rfl
 |d::ds,h=>by unfold zHY;rw [h d mF0,zRF λx hx=>h x (mO _ hx)];rfl
structure OrdB{β:Type}(f:β->MV)(lt:β->β->Bool):Prop where
 kind: ∀a,zMW (f a)
 pu: ∀a,xZ (f a)=true
 is: ∀S a b,ltv S zI (f a) (f b)=some (lt a b)
 tr: ∀a b c,lt b a=false->lt c b=false->lt c a=false
 as: ∀a b,lt a b=true->lt b a=false
 tri: ∀a b,lt a b=false->lt b a=false->a=b
section
variable{β:Type}{f:β->MV}{lt:β->β->Bool}
theorem yBV(O:OrdB f lt)(t:β): ∀{R:List β},R.Pairwise (λa b=>lt b a=false)-> ∃R':List β,R'.Perm (t::R)/\R'.Pairwise (λa b=>lt b a=false)
 |[],_=>⟨[t],.refl _,pairwise_singleton _ _⟩
 |a::l,hp=>by
  have c:=pairwise_cons.mp hp
  cases z:lt a t with
  |false=>
   refine⟨t::a::l,.refl _,pairwise_cons.mpr ⟨λx hx=>?_,hp⟩⟩;rcases mC.mp hx with e|hx
   ·rw [e];exact z
   ·exact O.tr t a x z (c.1 x hx)
  |true=>
   obtain⟨R',p,q⟩:=yBV O t c.2;refine⟨a::R',(p.cons a).trans (.swap _ _ _),pairwise_cons.mpr ⟨λx hx=>?_,q⟩⟩;rcases mC.mp (p.mem_iff.mp hx)with e|hx
   ·rw [e];exact O.as a t z
   ·exact c.1 x hx
theorem zTN(O:OrdB f lt): ∀(T:List β), ∃R:List β,R.Perm T/\R.Pairwise (λa b=>lt b a=false)
 |[]=>⟨[],.refl _,.nil⟩
 |t::T=>by obtain⟨R,p,q⟩:=zTN O T;obtain⟨R',p',q'⟩:=yBV O t q;exact⟨R',p'.trans (p.cons t),q'⟩
def yNE(O:OrdB f lt){T R:List β}(pR:R.Perm T)(qR:R.Pairwise (λa b=>lt b a=false))(hl:T.length<64){p:Er}{S:Sto}(hp:xX S p=some (T.map f)):zQT [p] S=.ok (.new (R.map f)) S:=by
 cases hT:T with
 |nil=>
  subst hT;have e:R=[]:=pR.eq_nil;subst e;refine yBC hp ⟨by simp,λd hd=>by simp at hd,λd hd=>by simp at hd,⟨λa ha=>by simp at ha,λa ha=>by simp at ha,λa ha=>by simp at ha⟩⟩ (λr' h=>?_) ⟨[],by simp,.nil,rfl⟩;obtain⟨idx,ip,_,rfl⟩:=h;have:=ip.length_eq;have e2:idx=[]:=List.eq_nil_of_length_eq_zero (by simpa using this);rw [e2];rfl
 |cons t0 T0=>
 have mem: ∀k∈T.map f, ∃t,k=f t:=λk hk=>by obtain⟨t,_,h2⟩:=mM.mp hk;exact⟨t,h2.symm⟩
 have ok:SrtQ S (T.map f):=by
  refine⟨by rw [lM];exact hl,λd hd=>?_,λd hd=>?_,⟨λa ha b hb=>?_,λa ha b hb c hc h1 h2=>?_,λa ha b hb h1=>?_⟩⟩
  ·obtain⟨t,rfl⟩:=mem d hd;exact O.pu t
  ·obtain⟨t,rfl⟩:=mem d hd;exact O.kind t
  ·obtain⟨t,rfl⟩:=mem a ha;obtain⟨u,rfl⟩:=mem b hb;exact⟨_,O.is S t u⟩
  ·obtain⟨t,rfl⟩:=mem a ha;obtain⟨u,rfl⟩:=mem b hb;obtain⟨v,rfl⟩:=mem c hc;rw [O.is]at h1 h2 ⊢;rw [O.tr t u v (Option.some.inj h1) (Option.some.inj h2)]
  ·obtain⟨t,rfl⟩:=mem a ha;obtain⟨u,rfl⟩:=mem b hb;rw [O.is]at h1 ⊢;rw [O.as t u (Option.some.inj h1)]
 refine yBC hp ok (λr' h=>?_) ?_
 ·obtain⟨idx,p',q',rfl⟩:=h;rw [lM]at p';have e1:(idx.filterMap (T[·]?)).Perm T:=by have:=p'.filterMap (T[·]?);rwa [zCV]at this
  have e2:(idx.filterMap (T[·]?)).Pairwise (λa b=>lt b a=false):=by rw [List.pairwise_filterMap];refine q'.imp λ{i j} h b hb c hc=>?_;have h':=h (f b) (f c) (by rw [getElem?_map,hb];rfl) (by rw [getElem?_map,hc];rfl);rw [O.is]at h';exact Option.some.inj h'
  have e3:idx.filterMap ((T.map f)[·]?)=(idx.filterMap (T[·]?)).map f:=by rw [map_filterMap];congr 1;funext i;rw [getElem?_map]
  rw [e3,zFD (e1.trans pR.symm) e2 qR λa _ b _ h1 h2=>O.tri a b h2 h1]
 ·have g:(List.range T.length).map (λi=>(T[i]?).getD t0)=T:=by rw [zAU λi hi=>mem_range.mp hi,zCV]
  obtain⟨idx,ip,ie⟩:=zFL pR.symm (List.range T.length) g;have ib: ∀i,i∈idx->i<T.length:=λi hi=>mem_range.mp (ip.mem_iff.mp hi);refine⟨idx,by rw [lM];exact ip,?_,?_⟩
  ·rw [<-ie,pairwise_map]at qR;refine List.Pairwise.imp_of_mem (λ{i j} hi hj h a c ha hc=>?_) qR;have zi:T[i]? =some (T[i]'(ib i hi)):=gE0 _;have zj:T[j]? =some (T[j]'(ib j hj)):=gE0 _;rw [getElem?_map,zi]at ha;rw [getElem?_map,zj]at hc;cases ha;cases hc;rw [zi,zj]at h;rw [O.is];exact congrArg some h
  ·have e2:idx.map (λi=>(T[i]?).getD t0)=idx.filterMap (T[·]?):=zAU ib;rw [<-ie,e2,map_filterMap];congr 1;funext i;rw [getElem?_map]
end
abbrev Bk:=List Nat×List Nat
def bkM(b:Bk):MV:=.tup (.str b.1::b.2.map zC)
def zZA(a b:Bk):Bool:=decide (a.1<b.1) || (decide (a.1=b.1)&&decide (a.2<b.2))
theorem zWI{S:Sto}{n:Nat}: ∀(ks ms:Ab),zIZ (eqv S (n+1)) (ltv S (n+1)) (ks.map zC) (ms.map zC)=some (decide (ks<ms))
 |[],[]=>rfl
 |[],m::ms=>by rw [dT0 (List.nil_lt_cons m ms)];rfl
 |k::ks,[]=>by rw [dF0 (List.not_lt_nil (k::ks))];rfl
 |k::ks,m::ms=>by
  rw [map_cons,map_cons];show((eqv S (n+1) (zC k) (zC m)).bind λz=>if z=true then zIZ (eqv S (n+1)) (ltv S (n+1)) (ks.map zC) (ms.map zC)else ltv S (n+1) (zC k) (zC m))=_;rw [show eqv S (n+1) (zC k) (zC m)=some (decide ((k:Int)=m))from zBU n k m];show(if decide ((k:Int)=m)=true then _ else _)=_;rw [decide_eq_decide.mpr (show k::ks<m::ms↔k<m\/k=m/\ks<ms from List.cons_lt_cons_iff)];by_cases h:k=m
  ·subst h;rw [iP (by simp),zWI ks ms];congr 1;simp
  ·rw [iN (by rw [decide_eq_true_eq];omega)];show some (decide ((k:Int)<m))=_;congr 1;exact dec_is (by omega)
def zZB:OrdB bkM zZA where
 kind:=λa=>⟨a.1,a.2.map zC,rfl⟩
 pu:=λa=>by
  unfold bkM xZ
  exact zRF λx hx=>by
   rcases mC.mp hx with rfl|hx
   ·unfold xZ;rfl
   ·obtain⟨i,_,rfl⟩:=mM.mp hx;unfold zC xZ;rfl
 is:=λS a b=>by
  have e:zI=38+1+1:=rfl;rw [e];show zIZ (eqv S (38+1)) (ltv S (38+1)) (.str a.1::a.2.map zC) (.str b.1::b.2.map zC)=_;show((eqv S (38+1) (.str a.1) (.str b.1)).bind λz=>if z=true then zIZ (eqv S (38+1)) (ltv S (38+1)) (a.2.map zC) (b.2.map zC)else ltv S (38+1) (.str a.1) (.str b.1))=_;rw [zLK,zWI];unfold zZA;show(if decide (a.1=b.1)=true then _ else _)=_;by_cases h:a.1=b.1
  ·rw [iP (by simpa using h),dT0 h,h,dF0 (show¬b.1<b.1 from lt_irrefl b.1)];rfl
  ·rw [iN (by simpa using h),dF0 h];show some (decide (a.1<b.1))=_;simp
 tr:=λa b c h1 h2=>by
  unfold zZA at *;simp only [Bool.or_eq_false_iff,Bool.and_eq_false_iff,decide_eq_false_iff_not]at *
  have t1: ¬c.1<a.1:=λh=>by
   rcases Classical.em (b.1<a.1)with h'|h'
   ·exact h1.1 h'
   ·rcases Classical.em (c.1<b.1)with h''|h''
    ·exact h2.1 h''
    ·exact not_lt.mpr (le_trans (not_lt.mp h') (not_lt.mp h'')) h
  refine⟨t1,?_⟩;by_cases e:c.1=a.1
  ·refine .inr λh=>?_;have e1:b.1=a.1:=le_antisymm (by rw [<-e];exact not_lt.mp h2.1) (not_lt.mp h1.1);have e2:c.1=b.1:=by rw [e1,e]
   have g1: ¬b.2<a.2:=h1.2.resolve_left (λz=>z e1);have g2: ¬c.2<b.2:=h2.2.resolve_left (λz=>z e2);exact not_lt.mpr (le_trans (not_lt.mp g1) (not_lt.mp g2)) h
  ·exact .inl e
 as:=λa b h=>by
  unfold zZA at *;simp only [or_eq_true,aE,decide_eq_true_eq,Bool.or_eq_false_iff,Bool.and_eq_false_iff,decide_eq_false_iff_not]at *;rcases h with h|⟨e,h⟩
  ·exact⟨lt_asymm h,.inl λe=>by rw [e]at h;exact lt_irrefl _ h⟩
  ·exact⟨by rw [e];exact lt_irrefl _,.inr (lt_asymm h)⟩
 tri:=λa b h1 h2=>by unfold zZA at *;simp only [Bool.or_eq_false_iff,Bool.and_eq_false_iff,decide_eq_false_iff_not]at *;have e:a.1=b.1:=le_antisymm (not_lt.mp h2.1) (not_lt.mp h1.1);have e2:a.2=b.2:=le_antisymm (not_lt.mp (h2.2.resolve_left (λz=>z e.symm))) (not_lt.mp (h1.2.resolve_left (λz=>z e)));exact Prod.ext e e2
section
variable{ts:Ac}{rls:List Rule}{rs:List Row}
def kyT(ts:Ac)(t:Nat):Int:=((ts[t]?).getD (0,0)).2
def zOE(ts:Ac)(a:Row):MV:=.tup [zC a.1,.tup (wG a.2 none (some (kyT ts a.1)))]
def zZC{a:Row}(h:ROk ts a):pd (zOE ts a)=true/\dpt (zOE ts a)<=2:=by
 obtain⟨p,_,_,hv⟩:=h;have hm: ∀d∈wG a.2 none (some (kyT ts a.1)),Vl d:=λd hd=>hv d (cutL_mem hd);have h1:pdL (wG a.2 none (some (kyT ts a.1)))=true:=zTB λd hd=>(zFC (hm d hd)).1;have h2:zKZ (wG a.2 none (some (kyT ts a.1)))<=0:=zTD λd hd=>by rw [(zFC (hm d hd)).2];exact le_refl _
 unfold zOE zC;refine⟨by rw [zTA,zII,zII,yBG,zNV,zTA,h1];rfl,?_⟩;rw [zLO,zFR,zFR,zVS,zLP,zLO];omega
def ySJ{a:Row}(h:ROk ts a)(n:Nat):lo n (zOE ts a):=gP (wC λd hd=>by
 obtain⟨p,_,_,hv⟩:=h;simp only [mC,nM0,or_false]at hd;rcases hd with rfl|rfl
 ·exact gO _ _
 ·exact gP (wC λd hd=>by
   have:=hv d (cutL_mem hd);rcases this.cases with⟨i,rfl,_⟩|⟨x,rfl,_⟩
   ·exact gO _ _
   ·exact zEB _ _))
theorem ySK{a:Row}(h:ROk ts a)(S:Sto):ixF (.val (.tup (ts.map tbl))) (.val (.int (a.1:Nat))) S=.ok (.val (.tup [.int ((ts[a.1]?).getD (0,0)).1,.int (kyT ts a.1)])) S:=by obtain⟨p,hp,_,_⟩:=h;refine ix_tup (bF ?_);rw [getElem?_map,hp];unfold kyT;rw [hp];rfl
theorem yOK(S:Sto):ixF (.val (zO ts rls rs)) (.val (.int 0)) S=.ok (.val (.tup (ts.map tbl))) S:=ix_tup rfl
def tup2(a b:MV)(S:Sto):xO [.val a,.val b] S=.ok (.val (.tup [a,b])) S:=zBV (by simp)
theorem yBW{a:Row}(h:ROk ts a)(S:Sto):zU 2 zEQ [.val (.tup (ts.map tbl)),.val (zK a)] S=.ok (.val (zOE ts a)) S:=by refine cP rfl ?_ (ySJ h _) (λl=>by simp [zOE]);show yE (zNE [some (.tup (ts.map tbl)),some (zK a)] S)=_;unfold zNE zND;simp? [zYW,row1,ySK h,ix_tup (S:=S) (ds:=[.int ((ts[a.1]?).getD (0,0)).1,.int (kyT ts a.1)]) (i:=1) (d:=.int (kyT ts a.1)) rfl,zTI,tup2];rfl
def keyB(ts:Ac)(a b:Row):Bool:=decide (zOE ts a=zOE ts b)
def yBX{a b:Row}(ha:ROk ts a)(hb:ROk ts b)(S:Sto):eqF (.val (zOE ts a)) (.val (zOE ts b)) S=.ok (.val (.bl (keyB ts a b))) S:=yBH (zZC ha).1 (zZC hb).1 (by have:=(zZC ha).2;omega)
def atL(rls:List Rule)(k:Nat):Rule:=(rls[k]?).getD (.tie 0 [] 0 [])
def zLQ{k:Nat}(h:k<rls.length):atL rls k∈rls:=by unfold atL;rw [gE0 h];exact getElem_mem h
def yBY{α:Type}(f:α->MV)(l:List α)(g:Nat->α)(hg: ∀k (h:k<l.length),g k=l[k]):zJG (l.map f)=(List.range l.length).map λi=>.tup [zC i,f (g i)]:=by
 unfold zJG;apply ext_getElem?;intro m;by_cases hm:m<l.length
 ·simp only [getElem?_map,List.getElem?_zipIdx,getElem?_range hm,Option.map_some,gE0 hm,zero_add];rw [hg m hm];rfl
 ·rw [getElem?_eq_none (by rw [lM,length_zipIdx,lM];omega),getElem?_eq_none (by rw [lM,length_range];omega)]
theorem zTO(k:Nat)(h:k<rls.length):atL rls k=rls[k]:=by unfold atL;rw [gE0 h];rfl
end
def zTP{S:Sto}{l:Nat}{ds zs:Bh}(hS:S[l]? =some (.lst ds))(hz:ds.length+zs.length<=1000000):yDW (.val (.loc l)) [.new zs] S=.ok (.val .non) (S.set l (.lst (ds++zs))):=by show(match lsW S (.new zs)with |some zs=>zHV (.val (.loc l)) S λds=>if ds.length+zs.length<=sizeLine then some (ds++zs)else none|none=>.no)=_;show zHV (.val (.loc l)) S (λds=>if ds.length+zs.length<=sizeLine then some (ds++zs)else none)=_;unfold zHV;dsimp only;rw [hS];dsimp only;rw [iP (fits hz)]
def bk_lo(b:Bk)(n:Nat):lo n (bkM b):=gP (wC λd hd=>by
 rcases mC.mp hd with rfl|hd
 ·exact zEB _ _
 ·obtain⟨i,_,rfl⟩:=mM.mp hd;exact gO _ _)
def zZD(l:List Bk)(n:Nat):loL n (l.map bkM):=wC λd hd=>by obtain⟨b,_,rfl⟩:=mM.mp hd;exact bk_lo b n
def zTQ{α:Type}{f:α->MV}{l:List α}{g:Nat->α}(hg: ∀k (h:k<l.length),g k=l[k]){S:Sto}{p:Nat}(h:S[p]? =some (.lst (l.map f))):itE [.val (.loc p)] S=.ok ⟨(List.range l.length).map λi=>.tup [zC i,f (g i)],[(p,l.map f)]⟩ S:=by
 have e:srcOf S (.val (.loc p))=some ⟨true,l.map f,[(p,l.map f)]⟩:=by unfold srcOf;dsimp only;rw [h]
 unfold itE;dsimp only;rw [e];show R.ok (⟨zJG (l.map f),[(p,l.map f)]⟩:Wk) S=_;rw [yBY f l g hg]
def yNF{α:Type}{f:α->MV}{l:List α}{g:Nat->α}(hg: ∀k (h:k<l.length),g k=l[k])(S:Sto):itE [.val (.tup (l.map f))] S=.ok ⟨(List.range l.length).map λi=>.tup [zC i,f (g i)],[]⟩ S:=by show R.ok (⟨zJG (l.map f),[]⟩:Wk) S=_;rw [yBY f l g hg]
def sKey:List Nat:=[107,101,121]
section
variable{ts:Ac}{rls:List Rule}{rs:List Row}
def zCW(rls:List Rule)(rs:List Row)(sm:Ab)(i:Nat):List Bk:=((List.range rls.length).filter λk=>nA (atL rls k) (atR rs i)).map (λk=>(zCU,[i,k]))++((List.range rls.length).filter λk=>yU (atL rls k) (atR rs i) (sm.map (atR rs))).map λk=>(zTF,[i,k])
def zFY(ts:Ac)(rls:List Rule)(rs:List Row)(i j:Nat):List Bk:=((List.range rls.length).filter λk=>zJY (atL rls k) (atR rs i) (atR rs j)).map (λk=>(zHH,[i,j,k]))++if keyB ts (atR rs i) (atR rs j)=true then [(sKey,[i,j])]else []
def yNG(sm:Ab)(i:Nat):(zCW rls rs sm i).length<=2 * rls.length:=by unfold zCW;rw [lA,lM,lM];have h1:=length_filter_le (λk=>nA (atL rls k) (atR rs i)) (List.range rls.length);have h2:=length_filter_le (λk=>yU (atL rls k) (atR rs i) (sm.map (atR rs))) (List.range rls.length);rw [length_range]at h1 h2;omega
def yNH(i j:Nat):(zFY ts rls rs i j).length<=rls.length+1:=by
 unfold zFY;rw [lA,lM];have h1:=length_filter_le (λk=>zJY (atL rls k) (atR rs i) (atR rs j)) (List.range rls.length);rw [length_range]at h1;split
 ·simp;omega
 ·simp;omega
abbrev O7(ts:Ac)(rls:List Rule)(rs:List Row)(sm:Ab)(lr i:Nat)(x y z:Bi):Rho:=[some (zO ts rls rs),some (.loc lr),some (.tup (sm.map zC)),some (zC i),x,y,z]
theorem c_one(hRl: ∀r∈rls,dY ts r)(hR: ∀r∈rs,ROk ts r)(hrl:rls.length<=100){sm:Ab}(hs: ∀i∈sm,i<rs.length)(hl:sm.length<=200){i:Nat}(hi:i<rs.length){lr:Nat}{S:Sto}(hr:S[lr]? =some (.lst (rls.map obR))):
  zU 4 jA [.val (zO ts rls rs),.val (.loc lr),.val (.tup (sm.map zC)),.val (zC i)] S=.ok (.new ((zCW rls rs sm i).map bkM)) S:=by
 have ha:=hR _ (nW hi);have hlr:lr<S.length:=(gS0.mp hr).1;have e1:jR (O7 ts rls rs sm lr i none none none) S=.ok (.next (O7 ts rls rs sm lr i (some (zK (atR rs i))) none none)) S:=by unfold jR;simp? [zOC,zOB hi]
 have hc1:yD (gNm 0) cC kI [none,some (zO ts rls rs)] [] (sm.map zC) S=.ok ((sm.map (atR rs)).map zK) S:=by rw [map_map];exact yT (g:=λj=>zK (atR rs j)) (wO _) λj hj=>⟨[some (zC j),some (zO ts rls rs)],rfl,rfl,by unfold kI;simp? [zOC,zOB (hs j hj)]⟩
 have e2:jS (O7 ts rls rs sm lr i (some (zK (atR rs i))) none none) S=.ok (.next (O7 ts rls rs sm lr i (some (zK (atR rs i))) (some (.loc S.length)) none)) (S++[.lst ((sm.map (atR rs)).map zK)]):=by unfold jS;simp? [nV,show((sm.map zC).length<1000000)=True from eq_true (by rw [lM];omega),show blk 1 [0] (O7 ts rls rs sm lr i (some (zK (atR rs i))) none none)=[none,some (zO ts rls rs)]from rfl,hc1]
 have gw:(S++[MO.lst ((sm.map (atR rs)).map zK)])[S.length]? =some (.lst ((sm.map (atR rs)).map zK)):=by simp
 have gr:(S++[MO.lst ((sm.map (atR rs)).map zK)])[lr]? =some (.lst (rls.map obR)):=by rw [getElem?_append_left hlr];exact hr
 have ho: ∀o∈sm.map (atR rs),ROk ts o:=λo h=>by obtain⟨j,hj,rfl⟩:=mM.mp h;exact hR _ (nW (hs j hj))
 generalize hS1:S++[MO.lst ((sm.map (atR rs)).map zK)]=S1 at e2 gw gr;have hlen:(((List.range rls.length).map λk=>MV.tup [zC k,obR (atL rls k)]).length<1000000)=True:=eq_true (by rw [lM,length_range];omega)
 have hc2:yD (gTp 2 (zP (gNm 0) (zP (gNm 1) xY))) kK kL [none,none,some (zC i),some (zK (atR rs i))] [(lr,rls.map obR)] ((List.range rls.length).map λk=>MV.tup [zC k,obR (atL rls k)]) S1=.ok (((List.range rls.length).filter λk=>nA (atL rls k) (atR rs i)).map λk=>bkM (zCU,[i,k])) S1:=xQ (xD gr) λk hk=>by
  rw [mem_range]at hk;obtain⟨F,h1,h2,_⟩:=yBP (hRl _ (zLQ hk)) ha S1;refine⟨[some (zC k),some (obR (atL rls k)),some (zC i),some (zK (atR rs i))],rfl,?_,?_⟩
  ·unfold kK;simp? [h1,h2]
  ·unfold kL;simp? [tup3];rfl
 have e3:jT (O7 ts rls rs sm lr i (some (zK (atR rs i))) (some (.loc S.length)) none) S1=.ok (.next (O7 ts rls rs sm lr i (some (zK (atR rs i))) (some (.loc S.length)) (some (.loc S1.length)))) (S1++[.lst (((List.range rls.length).filter λk=>nA (atL rls k) (atR rs i)).map λk=>bkM (zCU,[i,k]))]):=by unfold jT;simp? [zTQ (g:=atL rls) zTO gr,hlen,show blk 2 [3,4] (O7 ts rls rs sm lr i (some (zK (atR rs i))) (some (.loc S.length)) none)=[none,none,some (zC i),some (zK (atR rs i))]from rfl,hc2]
 generalize hb:(((List.range rls.length).filter λk=>nA (atL rls k) (atR rs i)).map λk=>bkM (zCU,[i,k]))=bs at e3;have hbl:bs.length<=100:=by rw [<-hb,lM];exact le_trans (length_filter_le _ _) (by rw [length_range];exact hrl)
 have gb:(S1++[MO.lst bs])[S1.length]? =some (.lst bs):=by simp
 have up: ∀{m:Nat}{o:MO},S1[m]? =some o->(S1++[MO.lst bs])[m]? =some o:=λ{m o} h=>by rw [getElem?_append_left (gS0.mp h).1];exact h
 generalize hS2:S1++[MO.lst bs]=S2 at e3 gb up
 have hc3:yD (gTp 2 (zP (gNm 0) (zP (gNm 1) xY))) kM kN [none,none,some (zC i),some (zK (atR rs i)),some (.loc S.length)] [(lr,rls.map obR)] ((List.range rls.length).map λk=>MV.tup [zC k,obR (atL rls k)]) S2=.ok (((List.range rls.length).filter λk=>yU (atL rls k) (atR rs i) (sm.map (atR rs))).map λk=>bkM (zTF,[i,k])) S2:=xQ (xD (up gr)) λk hk=>by
  rw [mem_range]at hk;obtain⟨F,h1,⟨T,h2⟩,_⟩:=zVZ (hRl _ (zLQ hk)) ha ho (by rw [lM];omega) (up gw) (up gw);have h2':zU 3 F [.val (obR (atL rls k)),.val (zK (atR rs i)),.val (.loc S.length)] S2=.ok (.val (.bl (yU (atL rls k) (atR rs i) (sm.map (atR rs))))) S2:=zTH (T:=T) rfl h2;refine⟨[some (zC k),some (obR (atL rls k)),some (zC i),some (zK (atR rs i)),some (.loc S.length)],rfl,?_,?_⟩
  ·unfold kM;simp? [h1,h2']
  ·unfold kN;simp? [tup3];rfl
 have hr2:(zCW rls rs sm i).map bkM=bs++((List.range rls.length).filter λk=>yU (atL rls k) (atR rs i) (sm.map (atR rs))).map λk=>bkM (zTF,[i,k]):=by unfold zCW;rw [map_append,map_map,map_map, <-hb];rfl
 have e4:jU (O7 ts rls rs sm lr i (some (zK (atR rs i))) (some (.loc S.length)) (some (.loc S1.length))) S2=.ok (.ret (.new ((zCW rls rs sm i).map bkM))) S2:=by rw [hr2];unfold jU;simp? [zTQ (g:=atL rls) zTO (up gr),hlen,show blk 2 [3,4,5] (O7 ts rls rs sm lr i (some (zK (atR rs i))) (some (.loc S.length)) (some (.loc S1.length)))=[none,none,some (zC i),some (zK (atR rs i)),some (.loc S.length)]from rfl,hc3,yHI (S:=S2) (p:=.val (.loc S1.length)) (q:=.new (((List.range rls.length).filter λk=>yU (atL rls k) (atR rs i) (sm.map (atR rs))).map λk=>bkM (zTF,[i,k]))) (x:=bs) (bN gb) rfl (fits (by rw [lM];have:=length_filter_le (λk=>yU (atL rls k) (atR rs i) (sm.map (atR rs))) (List.range rls.length);rw [length_range]at this;omega))]
 refine cY (T:=[.lst ((sm.map (atR rs)).map zK),.lst bs]) rfl ?_ (zZD _ _);show yE (bV (O7 ts rls rs sm lr i none none none) S)=_;unfold bV;rw [zG e1,zG e2,zG e3,e4, <-hS2, <-hS1,aA];rfl
abbrev P7(ts:Ac)(rls:List Rule)(rs:List Row)(lr i j:Nat)(x y z:Bi):Rho:=[some (zO ts rls rs),some (.loc lr),some (zC i),some (zC j),x,y,z]
theorem c_two(hRl: ∀r∈rls,dY ts r)(hR: ∀r∈rs,ROk ts r)(hrl:rls.length<=100){i j:Nat}(hi:i<rs.length)(hj:j<rs.length){lr:Nat}{S:Sto}(hr:S[lr]? =some (.lst (rls.map obR))):
  zU 4 jB [.val (zO ts rls rs),.val (.loc lr),.val (zC i),.val (zC j)] S=.ok (.new ((zFY ts rls rs i j).map bkM)) S:=by
 have ha:=hR _ (nW hi);have hb:=hR _ (nW hj);have e1:jV (P7 ts rls rs lr i j none none none) S=.ok (.next (P7 ts rls rs lr i j (some (zK (atR rs i))) none none)) S:=by unfold jV;simp? [zOC,zOB hi]
 have e2:jW (P7 ts rls rs lr i j (some (zK (atR rs i))) none none) S=.ok (.next (P7 ts rls rs lr i j (some (zK (atR rs i))) (some (zK (atR rs j))) none)) S:=by unfold jW;simp? [zOC,zOB hj]
 have hlen:(((List.range rls.length).map λk=>MV.tup [zC k,obR (atL rls k)]).length<1000000)=True:=eq_true (by rw [lM,length_range];omega)
 have hc:yD (gTp 2 (zP (gNm 0) (zP (gNm 1) xY))) kO kP [none,none,some (zC i),some (zC j),some (zK (atR rs i)),some (zK (atR rs j))] [(lr,rls.map obR)] ((List.range rls.length).map λk=>MV.tup [zC k,obR (atL rls k)]) S=.ok (((List.range rls.length).filter λk=>zJY (atL rls k) (atR rs i) (atR rs j)).map λk=>bkM (zHH,[i,j,k])) S:=xQ (xD hr) λk hk=>by
  rw [mem_range]at hk;obtain⟨F,h1,h2,_⟩:=yIM (hRl _ (zLQ hk)) ha hb S;refine⟨[some (zC k),some (obR (atL rls k)),some (zC i),some (zC j),some (zK (atR rs i)),some (zK (atR rs j))],rfl,?_,?_⟩
  ·unfold kO;simp? [h1,h2]
  ·unfold kP;simp? [tup4];rfl
 generalize hps:(((List.range rls.length).filter λk=>zJY (atL rls k) (atR rs i) (atR rs j)).map λk=>bkM (zHH,[i,j,k]))=ps at hc;have hpl:ps.length<=100:=by rw [<-hps,lM];exact le_trans (length_filter_le _ _) (by rw [length_range];exact hrl)
 have e3:jX (P7 ts rls rs lr i j (some (zK (atR rs i))) (some (zK (atR rs j))) none) S=.ok (.next (P7 ts rls rs lr i j (some (zK (atR rs i))) (some (zK (atR rs j))) (some (.loc S.length)))) (S++[.lst ps]):=by unfold jX;simp? [zTQ (g:=atL rls) zTO hr,hlen,show blk 2 [2,3,4,5] (P7 ts rls rs lr i j (some (zK (atR rs i))) (some (zK (atR rs j))) none)=[none,none,some (zC i),some (zC j),some (zK (atR rs i)),some (zK (atR rs j))]from rfl,hc]
 have gp:(S++[MO.lst ps])[S.length]? =some (.lst ps):=by simp
 have e4:jY (P7 ts rls rs lr i j (some (zK (atR rs i))) (some (zK (atR rs j))) (some (.loc S.length))) (S++[.lst ps])=.ok (.next (P7 ts rls rs lr i j (some (zK (atR rs i))) (some (zK (atR rs j))) (some (.loc S.length)))) (S++[.lst ((zFY ts rls rs i j).map bkM)]):=by
  unfold jY
  cases hk:keyB ts (atR rs i) (atR rs j)with
  |false=>
   have e:(zFY ts rls rs i j).map bkM=ps:=by unfold zFY;rw [hk,iN xF0,aN,map_map, <-hps];rfl
   rw [e];simp? [yOK,yBW ha,yBW hb,yBX ha hb,hk];rfl
  |true=>
   have e:(zFY ts rls rs i j).map bkM=ps++[bkM (sKey,[i,j])]:=by unfold zFY;rw [hk,iP rfl,map_append,map_map, <-hps];rfl
   rw [e];simp? [yOK,yBW ha,yBW hb,yBX ha hb,hk,nU gp,tup3,zSZ gp (by omega)];rw [show List.set (S++[MO.lst ps]) S.length (MO.lst (ps++[MV.tup [.str [107,101,121],zC i,zC j]]))=S++[MO.lst (ps++[bkM (sKey,[i,j])])] by simp [bkM,sKey]]
 refine zVW (T:=[.lst ((zFY ts rls rs i j).map bkM)]) (as:=[zO ts rls rs,.loc lr,zC i,zC j]) (S2:=S) rfl rfl (r:=.val (.loc S.length)) ?_ (.inr ⟨S.length,rfl,le_refl _,by simp⟩) (zZD _ _);show yE (bW (P7 ts rls rs lr i j none none none) S)=_;unfold bW;rw [zG e1,zG e2,zG e3,zG e4];rfl
end
def zDS(sm:Ab)(k:Nat):Nat:=(sm[k]?).getD 0
def zJZ{α β:Type}(g:α->List β)(l:List α): ∀(b:List β),l.foldl (λb i=>b++g i) b=b++l.flatMap g:=by
 induction l with
 |nil=>intro b;simp
 |cons x l ih=>intro b;rw [foldl_cons,ih,flatMap_cons,aA]
def wL:List Nat->List (Nat×Nat)
 |[]=>[]
 |x::t=>t.map (λj=>(x,j))++wL t
theorem zWJ: ∀(sm:Ab),(List.range sm.length).flatMap (λp=>(sm.drop (p+1)).map λj=>(zDS sm p,j))=wL sm
 |[]=>rfl
 |x::t=>by rw [lC,List.range_succ_eq_map,flatMap_cons,List.flatMap_map];show t.map (λj=>(x,j))++_=_;rw [show wL (x::t)=t.map (λj=>(x,j))++wL t from rfl, <-zWJ t];rfl
theorem pairs_len: ∀(sm:Ab),(wL sm).length<=sm.length * sm.length
 |[]=>le_refl _
 |x::t=>by have ih:=pairs_len t;rw [show wL (x::t)=t.map (λj=>(x,j))++wL t from rfl,lA,lM,lC];rw [Nat.add_mul,Nat.mul_add];omega
theorem zKA: ∀{sm:Ab}{p:Nat×Nat},p∈wL sm->p.1∈sm/\p.2∈sm
 |x::t,p,h=>by
  rcases mem_append.mp h with h|h
  ·obtain⟨j,hj,rfl⟩:=mM.mp h;exact⟨mF0,mO _ hj⟩
  ·have:=zKA h;exact⟨mO _ this.1,mO _ this.2⟩
def prM(p:Nat×Nat):MV:=.tup [zC p.1,zC p.2]
abbrev G4(sm:Ab)(l:Nat)(x y:Bi):Rho:=[some (.tup (sm.map zC)),some (.loc l),x,y]
theorem yNI{sm:Ab}(hl:sm.length<=200)(S:Sto):zU 1 zCH [.val (.tup (sm.map zC))] S=.ok (.new ((wL sm).map prM)) S:=by
 have e1:zCF [some (.tup (sm.map zC)),none,none,none] S=.ok (.next (G4 sm S.length none none)) (S++[.lst []]):=by unfold zCF;simp? [yDM]
 obtain⟨ρ',S',f,⟨x,y,hρ⟩,hS',_⟩:=zBK (f:=λp=>MV.tup [zC p,zC (zDS sm p)]) (gf:=gTp 2 (zP (gNm 2) (zP (gNm 3) xY))) (body:=zCE) (gs:=[]) (λk (b:List (Nat×Nat)) ρ S'=>(∃x y,ρ=G4 sm S.length x y)/\S'=S++[.lst (b.map prM)]/\b.length<=k * 200) (λb p=>b++(sm.drop (p+1)).map λj=>(zDS sm p,j)) (ds:=List.range sm.length) 0 (λj p hj b ρ S1 ⟨⟨x,y,hρ⟩,hS1,hbl⟩=>by
  subst hρ hS1;obtain⟨hj1,hj2⟩:=gS0.mp hj;rw [length_range]at hj1;rw [List.getElem_range]at hj2;subst hj2;have gb:(S++[MO.lst (b.map prM)])[S.length]? =some (.lst (b.map prM)):=by simp
  have hc:yD (gNm 0) zEO dH [none,some (zC (zDS sm j))] [] ((sm.drop (j+1)).map zC) (S++[.lst (b.map prM)])=.ok ((sm.drop (j+1)).map λq=>prM (zDS sm j,q)) (S++[.lst (b.map prM)]):=yT (wO _) λq _=>⟨[some (zC q),some (zC (zDS sm j))],rfl,rfl,by unfold dH;simp? [tup2];rfl⟩
  have hcut:wG (sm.map zC) (some ((j:Nat)+1)) none=(sm.drop (j+1)).map zC:=by rw [cutL_map,show((j:Nat):Int)+1=((j+1:Nat):Int)from rfl,yEL]
  have hdl:((sm.drop (j+1)).map λq=>prM (zDS sm j,q)).length<=200:=by rw [lM,length_drop];omega
  refine⟨G4 sm S.length (some (zC j)) (some (zC (zDS sm j))),S++[.lst ((b++(sm.drop (j+1)).map λq=>(zDS sm j,q)).map prM)],?_,wO _,⟨_,_,rfl⟩,rfl,by rw [lA,lM,length_drop];rw [show(0+j+1) * 200=(0+j) * 200+200 by omega];omega⟩;rw [show gTp 2 (zP (gNm 2) (zP (gNm 3) xY)) (.tup [zC j,zC (zDS sm j)]) (G4 sm S.length x y) (S++[.lst (b.map prM)])=.ok (G4 sm S.length (some (zC j)) (some (zC (zDS sm j)))) (S++[.lst (b.map prM)])from rfl,bok];unfold zCE zEP;simp? [nU gb,show∀S,jH (.val (zC j)) (.val (.int 1)) S=.ok (.val (.int ((j:Nat)+1))) S from λ_=>rfl,zTI,hcut,nV,show(((sm.drop (j+1)).map zC).length<1000000)=True from eq_true (by rw [lM,length_drop];omega),show blk 1 [3] (G4 sm S.length (some (zC j)) (some (zC (zDS sm j))))=[none,some (zC (zDS sm j))]from rfl,hc,zTP (zs:=(sm.drop (j+1)).map λq=>prM (zDS sm j,q)) gb (by rw [lM (as:=b)];omega)];rw [map_append,map_map];rw [show List.set (S++[MO.lst (b.map prM)]) S.length (MO.lst (b.map prM++(sm.drop (j+1)).map λq=>prM (zDS sm j,q)))=S++[MO.lst (b.map prM++(sm.drop (j+1)).map λq=>prM (zDS sm j,q))] by simp];rfl) [] (G4 sm S.length none none) (S++[.lst []]) ⟨⟨_,_,rfl⟩,rfl,zero_le _⟩
 subst hρ hS';rw [zJZ,nil_append,zWJ]at f;have e2:zCG (G4 sm S.length none none) (S++[.lst []])=.ok (.next (G4 sm S.length x y)) (S++[.lst ((wL sm).map prM)]):=by unfold zCG;simp? [yNF (f:=zC) (l:=sm) (g:=zDS sm) (λk h=>by unfold zDS;rw [gE0 h];rfl)];exact f
 refine zVW (T:=[.lst ((wL sm).map prM)]) (as:=[.tup (sm.map zC)]) (S2:=S) rfl rfl (r:=.val (.loc S.length)) ?_ (.inr ⟨S.length,rfl,le_refl _,by simp⟩) (wC λd hd=>by obtain⟨p,_,rfl⟩:=mM.mp hd;exact gP (wC λe he=>by simp only [mC,nM0,or_false]at he;rcases he with rfl|rfl<;>exact gO _ _));show yE (zGV [some (.tup (sm.map zC)),none,none,none] S)=_;unfold zGV;rw [zG e1,zG e2];rfl
section
variable{ts:Ac}{rls:List Rule}{rs:List Row}
def kQ(ts:Ac)(rls:List Rule)(rs:List Row)(sm:Ab):List Bk:=sm.flatMap (zCW rls rs sm)++(wL sm).flatMap λp=>zFY ts rls rs p.1 p.2
abbrev Z6(ts:Ac)(rls:List Rule)(rs:List Row)(sm:Ab)(l:Nat)(x y:Bi):Rho:=[some (zO ts rls rs),some (.tup (sm.map zC)),some (.loc l),some (.loc (l+1)),x,y]
theorem zWK(hRl: ∀r∈rls,dY ts r)(hR: ∀r∈rs,ROk ts r)(hrl:rls.length<=6){sm:Ab}(hs: ∀i∈sm,i<rs.length)(hl:sm.length<=120)(h64:(kQ ts rls rs sm).length<64){R:List Bk}(pR:R.Perm (kQ ts rls rs sm))(qR:R.Pairwise λa b=>zZA b a=false)(S:Sto):
  zU 2 dI [.val (zO ts rls rs),.val (.tup (sm.map zC))] S=.ok (.new (R.map bkM)) S:=by
 have e1:zGY [some (zO ts rls rs),some (.tup (sm.map zC)),none,none,none,none] S=.ok (.next [some (zO ts rls rs),some (.tup (sm.map zC)),some (.loc S.length),none,none,none]) (S++[.lst (rls.map obR)]):=by unfold zGY;simp? [zTL hRl (by omega)]
 have e2:zGZ [some (zO ts rls rs),some (.tup (sm.map zC)),some (.loc S.length),none,none,none] (S++[.lst (rls.map obR)])=.ok (.next (Z6 ts rls rs sm S.length none none)) (S++[.lst (rls.map obR),.lst []]):=by unfold zGZ;simp? [yDM];rw [lA,aA];rfl
 have gr: ∀ds,(S++[MO.lst (rls.map obR),MO.lst ds])[S.length]? =some (.lst (rls.map obR)):=λds=>by simp
 have gf: ∀ds,(S++[MO.lst (rls.map obR),MO.lst ds])[S.length+1]? =some (.lst ds):=λds=>yID S _ _;have gs': ∀ds es,List.set (S++[MO.lst (rls.map obR),MO.lst ds]) (S.length+1) (MO.lst es)=S++[MO.lst (rls.map obR),MO.lst es]:=λds es=>by simp
 obtain⟨ρ',S',f,⟨x,y,hρ⟩,hS',hl1⟩:=zBK (f:=zC) (gf:=gNm 4) (body:=zGW) (gs:=[]) (λk (b:List Bk) ρ S'=>(∃x y,ρ=Z6 ts rls rs sm S.length x y)/\S'=S++[.lst (rls.map obR),.lst (b.map bkM)]/\b.length<=k * 12) (λb i=>b++zCW rls rs sm i) (ds:=sm) 0 (λj i hj b ρ S1 ⟨⟨x,y,hρ⟩,hS1,hbl⟩=>by subst hρ hS1;have hi:i<rs.length:=hs i (mem_of_getElem? hj);have hj1:=(gS0.mp hj).1;have h1:=yNG (rls:=rls) (rs:=rs) sm i;refine⟨Z6 ts rls rs sm S.length (some (zC i)) y,S++[.lst (rls.map obR),.lst ((b++zCW rls rs sm i).map bkM)],?_,wO _,⟨_,_,rfl⟩,rfl,by rw [lA];omega⟩;rw [show gNm 4 (zC i) (Z6 ts rls rs sm S.length x y) (S++[.lst (rls.map obR),.lst (b.map bkM)])=.ok (Z6 ts rls rs sm S.length (some (zC i)) y) (S++[.lst (rls.map obR),.lst (b.map bkM)])from rfl,bok];unfold zGW zIG;simp? [nU (gf (b.map bkM)),c_one hRl hR (by omega) hs (by omega) hi (gr (b.map bkM)),zTP (zs:=(zCW rls rs sm i).map bkM) (gf (b.map bkM)) (by rw [lM,lM];omega)];rw [map_append,gs']) [] (Z6 ts rls rs sm S.length none none) (S++[.lst (rls.map obR),.lst []]) ⟨⟨_,_,rfl⟩,rfl,zero_le _⟩;subst hρ hS';rw [zJZ,nil_append]at f hl1;have e3:zHA (Z6 ts rls rs sm S.length none none) (S++[.lst (rls.map obR),.lst []])=.ok (.next (Z6 ts rls rs sm S.length x y)) (S++[.lst (rls.map obR),.lst ((sm.flatMap (zCW rls rs sm)).map bkM)]):=by unfold zHA;simp? [nV];exact f
 have hpl:(wL sm).length<=14400:=le_trans (pairs_len sm) (le_trans (mul_le_mul hl hl) (by decide));obtain⟨ρ',S',f2,⟨x2,y2,hρ⟩,hS',hl2⟩:=zBK (f:=prM) (gf:=gTp 2 (zP (gNm 4) (zP (gNm 5) xY))) (body:=zGX) (gs:=[]) (λk (b:List Bk) ρ S'=>(∃x y,ρ=Z6 ts rls rs sm S.length x y)/\S'=S++[.lst (rls.map obR),.lst (b.map bkM)]/\b.length<=1440+k * 7) (λb p=>b++zFY ts rls rs p.1 p.2) (ds:=wL sm) 0 (λj p hj b ρ S1 ⟨⟨x,y,hρ⟩,hS1,hbl⟩=>by subst hρ hS1;obtain⟨hp1,hp2⟩:=zKA (mem_of_getElem? hj);have hj1:=(gS0.mp hj).1;have h1:=yNH (ts:=ts) (rls:=rls) (rs:=rs) p.1 p.2;refine⟨Z6 ts rls rs sm S.length (some (zC p.1)) (some (zC p.2)),S++[.lst (rls.map obR),.lst ((b++zFY ts rls rs p.1 p.2).map bkM)],?_,wO _,⟨_,_,rfl⟩,rfl,by rw [lA];omega⟩;rw [show gTp 2 (zP (gNm 4) (zP (gNm 5) xY)) (prM p) (Z6 ts rls rs sm S.length x y) (S++[.lst (rls.map obR),.lst (b.map bkM)])=.ok (Z6 ts rls rs sm S.length (some (zC p.1)) (some (zC p.2))) (S++[.lst (rls.map obR),.lst (b.map bkM)])from rfl,bok];unfold zGX zIH;simp? [nU (gf (b.map bkM)),c_two hRl hR (by omega) (hs _ hp1) (hs _ hp2) (gr (b.map bkM)),zTP (zs:=(zFY ts rls rs p.1 p.2).map bkM) (gf (b.map bkM)) (by rw [lM,lM];omega)];rw [map_append,gs']) (sm.flatMap (zCW rls rs sm)) (Z6 ts rls rs sm S.length x y) (S++[.lst (rls.map obR),.lst ((sm.flatMap (zCW rls rs sm)).map bkM)]) ⟨⟨_,_,rfl⟩,rfl,by omega⟩;subst hρ hS';rw [zJZ]at f2 hl2;have e4:zHB (Z6 ts rls rs sm S.length x y) (S++[.lst (rls.map obR),.lst ((sm.flatMap (zCW rls rs sm)).map bkM)])=.ok (.next (Z6 ts rls rs sm S.length x2 y2)) (S++[.lst (rls.map obR),.lst ((kQ ts rls rs sm).map bkM)]):=by unfold zHB;simp? [yNI (sm:=sm) (by omega),show∀ds S,itL (.new ds) S=.ok ⟨ds,[]⟩ S from λ_ _=>rfl];exact f2
 have e5:zHC (Z6 ts rls rs sm S.length x2 y2) (S++[.lst (rls.map obR),.lst ((kQ ts rls rs sm).map bkM)])=.ok (.ret (.new (R.map bkM))) (S++[.lst (rls.map obR),.lst ((kQ ts rls rs sm).map bkM)]):=by have:=yNE zZB pR qR h64 (p:=.val (.loc (S.length+1))) (S:=S++[.lst (rls.map obR),.lst ((kQ ts rls rs sm).map bkM)]) (bN (gf _));unfold zHC;simp? [this]
 refine cY (T:=[.lst (rls.map obR),.lst ((kQ ts rls rs sm).map bkM)]) rfl ?_ (zZD _ _);show yE (zNF [some (zO ts rls rs),some (.tup (sm.map zC)),none,none,none,none] S)=_;unfold zNF;rw [zG e1,zG e2,zG e3,zG e4,e5];rfl
end
section
variable{ts:Ac}{rls:List Rule}{rs:List Row}
theorem ySL(hRl: ∀r∈rls,dY ts r)(hR: ∀r∈rs,ROk ts r)(hrl:rls.length<=6){sm:Ab}(hs: ∀i∈sm,i<rs.length)(hl:sm.length<=120)(h64:(kQ ts rls rs sm).length<64){R:List Bk}(pR:R.Perm (kQ ts rls rs sm))(qR:R.Pairwise λa b=>zZA b a=false)(S:Sto):
  zU 2 zHD [.val (zO ts rls rs),.val (.tup (sm.map zC))] S=.ok (.val (.bl (R.map bkM).isEmpty)) S:=by
 refine bQ rfl ?_;show yE (zYS [some (zO ts rls rs),some (.tup (sm.map zC))] S)=_;unfold zYS zVQ;simp? [zWK hRl hR hrl hs hl h64 pR qR,show∀ds S,zFV [.new ds] S=.ok (.val (.int (ds.length:Nat))) S from λ_ _=>rfl]
 have e:decide ((((R.map bkM).length:Nat):Int)=0)=(R.map bkM).isEmpty:=by
  cases R with
  |nil=>rfl
  |cons b R=>exact dF0 (show¬((((b::R).map bkM).length:Nat):Int)=0 from by rw [map_cons,lC];omega)
 rw [e];rfl
end
structure Ch where
 n:Nat
 two:Nat
 ends:Nat
 low:Int
 bar:Option Nat
section
variable(c:Ch)
def nxH(k:Nat):Nat:=if k+1=c.n/\c.ends=1 then c.n - 1 - c.two else k+1
def rwH(k:Nat):Row:=(k % (1+c.two),[.int (c.low+k),.int (c.low+nxH c k)])
def tsH:List (Int×Int):=if c.two=1 then [(2,1),(2,1)]else [(2,1)]
def t0H:Rule:=.tie 0 [1] c.two [0]
def t1H:Rule:=.tie 1 [1] 0 [0]
def nvH(b:Nat):Rule:=.never (b % (1+c.two)) [⟨.cell 0 0,zBJ,.isv (.int (c.low+b))⟩]
def tiH:List Rule:=if c.two=1 then [t0H c,t1H]else [t0H c]
def rlH:List Rule:=match c.bar with
 |none=>tiH c
 |some b=>(tiH c).take (c.low % 2).toNat++nvH c b::(tiH c).drop (c.low % 2).toNat
structure OkH:Prop where
 n1:1<=c.n
 n30:c.n<=30
 t1:c.two<=1
 tn:c.two<c.n
 e1:c.ends<=1
 l0: -4<=c.low
 l1:c.low<1000000000
 br: ∀b,c.bar=some b->b<c.n
end
section
variable{c:Ch}
def zKB(h:OkH c):c.two=0\/c.two=1:=by have:=h.t1;omega
def nx_le(h:OkH c){k:Nat}(hk:k<c.n):nxH c k<=c.n:=by unfold nxH;split<;>omega
theorem yIN(h:OkH c)(k:Nat):(tsH c)[k % (1+c.two)]? =some (2,1):=by
 unfold tsH;rcases zKB h with e|e
 ·rw [e,iN (by decide),mod_one];rfl
 ·rw [e,iP rfl];have:k % (1+1)=0\/k % (1+1)=1:=by omega
  rcases this with z|z<;>rw [z]<;>rfl
theorem yIO(h:OkH c):(tsH c).length=1+c.two:=by unfold tsH;rcases zKB h with e|e<;>rw [e]<;>rfl
def zZE(h:OkH c){t:Nat}(ht:t<1+c.two):wid (tsH c) t=2:=by have:=yIN h t;rw [Nat.mod_eq_of_lt ht]at this;rw [zTE this]
def rw_ok(h:OkH c){k:Nat}(hk:k<c.n):ROk (tsH c) (rwH c k):=by
 refine⟨(2,1),yIN h k,rfl,λd hd=>?_⟩;have:=nx_le h hk;have h1:=h.l0;have h2:=h.l1;have h3:=h.n30;rcases mC.mp hd with rfl|hd
 ·exact⟨by omega,by omega⟩
 ·rw [mS.mp hd];exact⟨by omega,by omega⟩
def ti_ok(h:OkH c): ∀r∈tiH c,dY (tsH c) r:=λr hr=>by
 have hl:=yIO h;have w: ∀t,t<1+c.two-> ∀x∈([1]:Ab),(x:Int)<wid (tsH c) t:=λt ht x hx=>by rw [zZE h ht,mS.mp hx];decide
 have w0: ∀t,t<1+c.two-> ∀x∈([0]:Ab),(x:Int)<wid (tsH c) t:=λt ht x hx=>by rw [zZE h ht,mS.mp hx];decide
 have z0:dY (tsH c) (t0H c):=⟨by omega,by omega,by decide,by decide,rfl,w 0 (by omega),w0 c.two (by omega)⟩
 unfold tiH at hr;split at hr
 ·rename_i e;rcases mC.mp hr with rfl|hr
  ·exact z0
  ·rw [mS.mp hr];exact⟨by omega,by omega,by decide,by decide,rfl,w 1 (by omega),w0 0 (by omega)⟩
 ·rw [mS.mp hr];exact z0
def nv_ok(h:OkH c){b:Nat}(hb:b<c.n):dY (tsH c) (nvH c b):=by have hl:=yIO h;have hm:b % (1+c.two)<1+c.two:=Nat.mod_lt _ (by omega);have h1:=h.l0;have h2:=h.l1;have h3:=h.n30;refine⟨by omega,le_refl 1,show 1<=3 by decide,λq hq=>?_⟩;rw [mS.mp hq];exact⟨⟨2,by rw [zZE h hm];rfl,by decide⟩,show zBJ∈yIE by decide,⟨by omega,by omega⟩⟩
def zLR(c:Ch):(rlH c).Perm ((c.bar.map (nvH c)).toList++tiH c):=by
 unfold rlH
 cases c.bar with
 |none=>exact .refl _
 |some b=>
  refine List.perm_middle.trans ?_;rw [List.take_append_drop];exact .refl _
def zKC(r:Rule):r∈rlH c↔(∃b,c.bar=some b/\r=nvH c b)\/r∈tiH c:=by
 rw [(zLR c).mem_iff,mem_append]
 cases c.bar with
 |none=>simp
 |some b=>simp
def yIP(h:OkH c): ∀r∈rlH c,dY (tsH c) r:=λr hr=>by
 rcases (zKC r).mp hr with⟨b,hb,rfl⟩|hr
 ·exact nv_ok h (h.br b hb)
 ·exact ti_ok h r hr
def zZF(h:OkH c):(rlH c).length<=3:=by
 rw [(zLR c).length_eq,lA];have h1:(tiH c).length<=2:=by unfold tiH;split<;>simp
 have h2:((c.bar.map (nvH c)).toList).length<=1:=by cases c.bar<;>simp
 omega
def zLS(b k:Nat):nA (nvH c b) (rwH c k)=decide (b=k):=by
 show(decide (((k % (1+c.two):Nat):Int)=((b % (1+c.two):Nat):Int))&&(zDO [rwH c k] ⟨.cell 0 0,zBJ,.isv (.int (c.low+b))⟩&&true))=_
 have e:zDO [rwH c k] ⟨.cell 0 0,zBJ,.isv (.int (c.low+b))⟩=decide (b=k):=by
  unfold zDO;rw [iP rfl];show decide (MV.int (c.low+k)=MV.int (c.low+b))=_;refine dec_is ?_;constructor
  ·intro h;injection h with h
   omega
  ·rintro rfl;rfl
 rw [e,Bool.and_true];by_cases hb:b=k
 ·subst hb;rw [dT0 rfl,dT0 rfl];rfl
 ·rw [dF0 hb,Bool.and_false]
theorem yBZ{r:Rule}(hr:r∈tiH c)(a:Row):nA r a=false:=by
 unfold tiH at hr;split at hr
 ·rcases mC.mp hr with rfl|hr
  ·rfl
  ·rw [mS.mp hr];rfl
 ·rw [mS.mp hr];rfl
def yIQ(k:Nat):((rlH c).any λr=>nA r (rwH c k))=decide (c.bar=some k):=by
 by_cases h:c.bar=some k
 ·rw [dT0 h,any_eq_true];exact⟨nvH c k,(zKC _).mpr (.inl ⟨k,h,rfl⟩),by rw [zLS,dT0 rfl]⟩
 ·rw [dF0 h,any_eq_false];intro r hr;rcases (zKC r).mp hr with⟨b,hb,rfl⟩|hr
  ·rw [zLS,dF0 λz=>h (by rw [hb,z])];exact xF0
  ·rw [yBZ hr];exact xF0
def ySM(u k j:Nat):mtc u [0] (yH (rwH c k) [1]) (rwH c j)=(decide (j % (1+c.two)=u)&&decide (j=nxH c k)):=by
 unfold mtc;show(decide (((j % (1+c.two):Nat):Int)=(u:Int))&&decide ([MV.int (c.low+j)]=[MV.int (c.low+nxH c k)]))=_
 rw [dec_is (show((j % (1+c.two):Nat):Int)=(u:Int)↔j % (1+c.two)=u by omega),dec_is (show [MV.int (c.low+j)]=[MV.int (c.low+nxH c k)]↔j=nxH c k from⟨λh=>by
  injection h with h _
  injection h with h
  omega,λh=>by rw [h]⟩)]
def ySN(h:OkH c){k:Nat}(hk:k<c.n):nxH c k % (1+c.two)=(k+c.two) % (1+c.two):=by
 have ht:=h.tn;unfold nxH;rcases zKB h with e|e
 ·rw [e,mod_one,mod_one]
 ·rw [e];split<;>omega
def zTR(h:OkH c){k:Nat}(hk:k<c.n): ∃r∈tiH c,zGF r (rwH c k)=true/\(∀q∈tiH c,zGF q (rwH c k)=true->q=r)/\ ∀j,zOA r (rwH c k) (rwH c j)=decide (j=nxH c k):=by
 have hm:=ySN h hk;have td: ∀(t:Nat)(cs:Ab)(u:Nat)(ds:Ab),zGF (.tie t cs u ds) (rwH c k)=decide (k % (1+c.two)=t):=λt cs u ds=>by show decide (((k % (1+c.two):Nat):Int)=(t:Int))=_;exact dec_is (by omega)
 have sv: ∀(t u:Nat),(k+c.two) % (1+c.two)=u-> ∀j,zOA (.tie t [1] u [0]) (rwH c k) (rwH c j)=decide (j=nxH c k):=λt u hu j=>by
  show mtc u [0] (yH (rwH c k) [1]) (rwH c j)=_;rw [ySM];by_cases hj:j=nxH c k
  ·rw [dT0 hj,Bool.and_true];exact dT0 (by rw [hj,hm,hu])
  ·rw [dF0 hj,Bool.and_false]
 rcases zKB h with e|e
 ·have hti:tiH c=[t0H c]:=by unfold tiH;rw [iN (by omega)]
  rw [hti];refine⟨t0H c,mF0,?_,λq hq _=>mS.mp hq,sv 0 c.two (by rw [e,mod_one])⟩;unfold t0H;rw [td,e,mod_one];rfl
 ·have hti:tiH c=[t0H c,t1H]:=by unfold tiH;rw [iP e]
  rw [hti];have d0:zGF (t0H c) (rwH c k)=decide (k % 2=0):=by unfold t0H;rw [td,e]
  have d1:zGF t1H (rwH c k)=decide (k % 2=1):=by unfold t1H;rw [td,e]
  have h01:k % 2=0\/k % 2=1:=by omega
  rcases h01 with z|z
  ·refine⟨t0H c,mF0,by rw [d0];exact dT0 z,λq hq ht=>?_,sv 0 c.two (by rw [e];omega)⟩;rcases mC.mp hq with hq|hq
   ·exact hq
   ·rw [mS.mp hq,d1,dF0 (by omega)]at ht;cases ht
  ·refine⟨t1H,mO _ mF0,by rw [d1];exact dT0 z,λq hq ht=>?_,sv 1 0 (by rw [e];omega)⟩;rcases mC.mp hq with hq|hq
   ·rw [hq,d0,dF0 (by omega)]at ht;cases ht
   ·exact mS.mp hq
theorem yNJ(b:Nat)(a:Row):zGF (nvH c b) a=false:=rfl
def ti_nd(c:Ch):(tiH c).Nodup:=by
 unfold tiH;split
 ·refine nodup_cons.mpr ⟨λz=>?_,by simp⟩;have:=mS.mp z;unfold t0H t1H at this;injection this with h
  cases h
 ·simp
end
theorem yIR{α:Type}[DecidableEq α]: ∀{ks U:List α},ks.Nodup->(∀x∈ks,x∈U)->ks.length<=U.length
 |[],_,_,_=>zero_le _
 |x::ks,U,hn,h=>by rw [nodup_cons]at hn;have hx:=h x mF0;have ih:=yIR (ks:=ks) (U:=U.erase x) hn.2 λy hy=>(List.mem_erase_of_ne (show y≠x from λe=>hn.1 (e▸hy))).mpr (h y (mO _ hy));rw [List.length_erase_of_mem hx]at ih;have:=List.length_pos_of_mem hx;rw [lC];omega
def zOF{α:Type}{l:List α}{f:α->Bool}{r:α}(hn:l.Nodup)(hr:r∈l)(hf:f r=true)(hu: ∀q∈l,f q=true->q=r):(l.filter f).length=1:=by
 have hm:r∈l.filter f:=mem_filter.mpr ⟨hr,hf⟩;have hN:(l.filter f).Nodup:=List.Pairwise.filter f hn;have hA: ∀q∈l.filter f,q=r:=λq hq=>hu q (mem_filter.mp hq).1 (mem_filter.mp hq).2
 match hL:l.filter f with
 |[]=>rw [hL]at hm;simp at hm
 |[_]=>rfl
 |a::b::t=>
  rw [hL]at hN hA;have h1:=hA a mF0;have h2:=hA b (mO _ mF0);exact absurd mF0 (by rw [h1,h2]at hN;exact(nodup_cons.mp hN).1)
theorem yNK(l:List Rule):(List.range l.length).map (atL l)=l:=by
 refine ext_getElem? λi=>?_;rw [getElem?_map];by_cases h:i<l.length
 ·rw [getElem?_range h,gE0 h];show some (atL l i)=_;rw [zTO i h]
 ·rw [getElem?_eq_none (by rw [length_range];omega),getElem?_eq_none (by omega)];rfl
def zWL(p:Rule->Bool)(l:List Rule):((List.range l.length).filter λk=>p (atL l k)).length=(l.filter p).length:=by
 have h:(((List.range l.length).map (atL l)).filter p).length=((List.range l.length).filter λk=>p (atL l k)).length:=by rw [filter_map,lM];rfl
 rw [<-h,yNK]
abbrev oA(ord:Ab)(i:Nat):Nat:=(ord[i]?).getD 0
section
variable{c:Ch}{ord:Ab}
def zWM(hp:ord.Perm (List.range c.n)):ord.length=c.n:=by rw [hp.length_eq,length_range]
def o_nd(hp:ord.Perm (List.range c.n)):ord.Nodup:=hp.nodup_iff.mpr nodup_range
theorem zWN(hp:ord.Perm (List.range c.n)){i:Nat}(hi:i<c.n):ord[i]? =some (oA ord i):=by have:=zWM hp;unfold oA;rw [gE0 (show i<ord.length by omega)];rfl
def yES(hp:ord.Perm (List.range c.n)){i:Nat}(hi:i<c.n):oA ord i<c.n:=mem_range.mp (hp.mem_iff.mp (mem_of_getElem? (zWN hp hi)))
def yOL(hp:ord.Perm (List.range c.n)){i j:Nat}(hi:i<c.n)(hj:j<c.n)(e:oA ord i=oA ord j):i=j:=by have h1:=zWN hp hi;have h2:=zWN hp hj;rw [e]at h1;obtain⟨a1,a2⟩:=gS0.mp h1;obtain⟨b1,b2⟩:=gS0.mp h2;exact(getElem_inj (o_nd hp)).mp (a2.trans b2.symm)
def zWO(hp:ord.Perm (List.range c.n)){k:Nat}(hk:k<c.n): ∃i,i<c.n/\oA ord i=k:=by obtain⟨i,hi⟩:=List.mem_iff_getElem?.mp (hp.mem_iff.mpr (mem_range.mpr hk));have hl:=(gS0.mp hi).1;rw [zWM hp]at hl;have:=zWN hp hl;rw [hi]at this;exact⟨i,hl,(Option.some.inj this).symm⟩
abbrev rsH(c:Ch)(ord:Ab):List Row:=ord.map (rwH c)
def zZG(hp:ord.Perm (List.range c.n)):(rsH c ord).length=c.n:=by rw [lM,zWM hp]
def yIS(h:OkH c)(hp:ord.Perm (List.range c.n)): ∀r∈rsH c ord,ROk (tsH c) r:=λr hr=>by obtain⟨k,hk,rfl⟩:=mM.mp hr;exact rw_ok h (mem_range.mp (hp.mem_iff.mp hk))
theorem zDP(hp:ord.Perm (List.range c.n)){i:Nat}(hi:i<c.n):atR (rsH c ord) i=rwH c (oA ord i):=by unfold atR;rw [getElem?_map,zWN hp hi];rfl
def nxI(c:Ch)(ord sm:Ab)(k:Nat):Bool:=sm.any λj=>decide (oA ord j=nxH c k)
def yIT(hp:ord.Perm (List.range c.n)){sm:Ab}(hs: ∀i∈sm,i<c.n){k:Nat}{r:Rule}(hr: ∀j,zOA r (rwH c k) (rwH c j)=decide (j=nxH c k)):((sm.map (atR (rsH c ord))).any (zOA r (rwH c k)))=nxI c ord sm k:=by
 unfold nxI;rw [List.any_map]
 induction sm with
 |nil=>rfl
 |cons j sm ih=>
  rw [any_cons,any_cons,ih λi hi=>hs i (mO _ hi)];show(zOA r (rwH c k) (atR (rsH c ord) j) || _)=_;rw [zDP hp (hs j mF0),hr]
def zTS(h:OkH c)(hp:ord.Perm (List.range c.n)){sm:Ab}(hs: ∀i∈sm,i<c.n){i:Nat}(hi:i<c.n):
  (zCW (rlH c) (rsH c ord) sm i).length=(if c.bar=some (oA ord i)then 1 else 0)+(if nxI c ord sm (oA ord i)=true then 0 else 1):=by
 obtain⟨k,hk⟩: ∃k,k=oA ord i:=⟨_,rfl⟩
 have hkn:k<c.n:=by rw [hk];exact yES hp hi
 unfold zCW;rw [lA,lM,lM,zWL (λr=>nA r (atR (rsH c ord) i)),zWL (λr=>yU r (atR (rsH c ord) i) (sm.map (atR (rsH c ord)))),zDP hp hi, <-hk]
 have e1:((rlH c).filter λr=>nA r (rwH c k)).length=if c.bar=some k then 1 else 0:=by
  have z1:(tiH c).filter (λr=>nA r (rwH c k))=[]:=filter_eq_nil_iff.mpr λr hr=>by rw [yBZ hr];exact xF0
  rw [((zLR c).filter _).length_eq,List.filter_append,lA,z1]
  cases hb:c.bar with
  |none=>rw [iN (by simp)];rfl
  |some b=>
   show([nvH c b].filter λr=>nA r (rwH c k)).length+0=_;by_cases e:b=k
   ·rw [iP (by rw [e]),filter_cons_of_pos (by rw [zLS];exact dT0 e)];rfl
   ·rw [iN (λz=>e (Option.some.inj z)),filter_cons_of_neg (by rw [zLS,dF0 e];exact xF0)];rfl
 have e2:((rlH c).filter λr=>yU r (rwH c k) (sm.map (atR (rsH c ord)))).length=if nxI c ord sm k=true then 0 else 1:=by
  obtain⟨r0,m0,t0,u0,s0⟩:=zTR h hkn;have ha:=yIT hp hs s0
  have z1:((c.bar.map (nvH c)).toList).filter (λr=>yU r (rwH c k) (sm.map (atR (rsH c ord))))=[]:=filter_eq_nil_iff.mpr λr hr=>by
   cases hb:c.bar with
   |none=>rw [hb]at hr;simp at hr
   |some b=>
    rw [hb]at hr;have:r=nvH c b:=by simpa using hr
    rw [this];exact xF0
  rw [((zLR c).filter _).length_eq,List.filter_append,lA,z1,length_nil,zero_add]
  cases hn:nxI c ord sm k with
  |true=>
   rw [iP rfl,filter_eq_nil_iff.mpr λr hr=>?_]
   ·rfl
   ·unfold yU
    cases ht:zGF r (rwH c k)with
    |false=>rw [Bool.false_and];exact xF0
    |true=>rw [u0 r hr ht,ha,hn];exact xF0
  |false=>
   rw [iN xF0];refine zOF (ti_nd c) m0 ?_ λq hq hf=>?_
   ·unfold yU;rw [t0,ha,hn];rfl
   ·unfold yU at hf;rw [aE]at hf;exact u0 q hq hf.1
 rw [e1,e2]
theorem yIU{r:Rule}(hr:r∈rlH c)(a b:Row):zJY r a b=false:=by
 rcases (zKC r).mp hr with⟨x,_,rfl⟩|hr
 ·rfl
 ·unfold tiH at hr;split at hr
  ·rcases mC.mp hr with rfl|hr
   ·rfl
   ·rw [mS.mp hr];rfl
  ·rw [mS.mp hr];rfl
theorem zWP: ∀{sm:Ab},sm.Nodup-> ∀p∈wL sm,p.1≠p.2
 |[],_,p,hp=>by simp [wL]at hp
 |i::sm,hn,p,hp=>by
  have hc:=nodup_cons.mp hn;unfold wL at hp;rcases mem_append.mp hp with hp|hp
  ·obtain⟨j,hj,rfl⟩:=mM.mp hp;exact λe=>hc.1 (by rw [show i=j from e];exact hj)
  ·exact zWP hc.2 p hp
def ySO(h:OkH c){k j:Nat}(e:keyB (tsH c) (rwH c k) (rwH c j)=true):k=j:=by
 have e:=of_decide_eq_true e;have ky: ∀k,kyT (tsH c) (rwH c k).1=1:=λk=>by unfold kyT;rw [show(tsH c)[(rwH c k).1]? =some (2,1)from yIN h k];rfl
 unfold zOE at e;rw [ky,ky]at e;injection e with e
 injection e with _ e
 injection e with e _
 injection e with e
 have e:[MV.int (c.low+k)]=[MV.int (c.low+j)]:=e;injection e with e _
 injection e with e
 omega
def yNL(h:OkH c)(hp:ord.Perm (List.range c.n)){i j:Nat}(hi:i<c.n)(hj:j<c.n)(hne:i≠j):zFY (tsH c) (rlH c) (rsH c ord) i j=[]:=by
 unfold zFY;rw [filter_eq_nil_iff.mpr λk hk=>by rw [yIU (zLQ (mem_range.mp hk))];exact xF0,iN λz=>?_]
 ·rfl
 ·rw [zDP hp hi,zDP hp hj]at z;exact hne (yOL hp hi hj (ySO h z))
def zOG(h:OkH c)(hp:ord.Perm (List.range c.n)){sm:Ab}(hs: ∀i∈sm,i<c.n)(hn:sm.Nodup):kQ (tsH c) (rlH c) (rsH c ord) sm=sm.flatMap (zCW (rlH c) (rsH c ord) sm):=by
 unfold kQ;have:(wL sm).flatMap (λp=>zFY (tsH c) (rlH c) (rsH c ord) p.1 p.2)=[]:=by rw [List.flatMap_eq_nil_iff];intro p hpp;obtain⟨h1,h2⟩:=zKA hpp;exact yNL h hp (hs _ h1) (hs _ h2) (zWP hn p hpp)
 rw [this,aN]
theorem yCA{α β:Type}{f:α->List β}{m:Nat}: ∀{l:List α},(∀a∈l,(f a).length<=m)->(l.flatMap f).length<=l.length * m
 |[],_=>le_of_eq (by rw [length_nil,Nat.zero_mul];rfl)
 |a::l,h=>by rw [flatMap_cons,lA,lC,Nat.succ_mul];have h1:=h a mF0;have h2:=yCA (f:=f) (m:=m) (l:=l) λb hb=>h b (mO _ hb);omega
def zOH{sm:Ab}{n:Nat}(hs: ∀i∈sm,i<n)(hn:sm.Nodup):sm.length<=n:=by have:=yIR hn λi hi=>mem_range.mpr (hs i hi);rw [length_range]at this;exact this
def zWQ(h:OkH c)(hp:ord.Perm (List.range c.n)){sm:Ab}(hs: ∀i∈sm,i<c.n)(hn:sm.Nodup):(kQ (tsH c) (rlH c) (rsH c ord) sm).length<64:=by
 rw [zOG h hp hs hn];have h1:=yCA (f:=zCW (rlH c) (rsH c ord) sm) (m:=2) (l:=sm) λi hi=>by rw [zTS h hp hs (hs i hi)];split<;>split<;>omega
 have h2:=zOH hs hn;have h3:=h.n30;omega
def gdH(c:Ch)(ord sm:Ab):Bool:=sm.all λi=>!decide (c.bar=some (oA ord i))&&nxI c ord sm (oA ord i)
def yET(h:OkH c)(hp:ord.Perm (List.range c.n)){sm:Ab}(hs: ∀i∈sm,i<c.n)(hn:sm.Nodup):(kQ (tsH c) (rlH c) (rsH c ord) sm).isEmpty=gdH c ord sm:=by
 rw [zOG h hp hs hn]
 have key: ∀i∈sm,((zCW (rlH c) (rsH c ord) sm i)=[]↔(!decide (c.bar=some (oA ord i))&&nxI c ord sm (oA ord i))=true):=λi hi=>by
  rw [<-List.length_eq_zero_iff,zTS h hp hs (hs i hi)];by_cases hb:c.bar=some (oA ord i)
  ·rw [iP hb,dT0 hb];constructor
   ·intro z;omega
   ·intro z;cases z
  ·rw [iN hb,dF0 hb];cases nxI c ord sm (oA ord i)<;>simp
 cases hg:gdH c ord sm with
 |true=>
  rw [isEmpty_iff,List.flatMap_eq_nil_iff];exact λi hi=>(key i hi).mpr (all_eq_true.mp hg i hi)
 |false=>
  refine Bool.eq_false_iff.mpr λz=>?_;rw [isEmpty_iff,List.flatMap_eq_nil_iff]at z;have:gdH c ord sm=true:=all_eq_true.mpr λi hi=>(key i hi).mp (z i hi);rw [hg]at this;cases this
def zTT(h:OkH c)(hp:ord.Perm (List.range c.n)){sm:Ab}(hs: ∀i∈sm,i<c.n)(hn:sm.Nodup)(S:Sto):zU 2 zHD [.val (zO (tsH c) (rlH c) (rsH c ord)),.val (.tup (sm.map zC))] S=.ok (.val (.bl (gdH c ord sm))) S:=by
 obtain⟨R,pR,qR⟩:=zTN zZB (kQ (tsH c) (rlH c) (rsH c ord) sm);have hl:=zOH hs hn;have h3:=h.n30;have h4:=zZF h;rw [ySL (yIP h) (yIS h hp) (by omega) (λi hi=>by rw [zZG hp];exact hs i hi) (by omega) (zWQ h hp hs hn) pR qR S,List.isEmpty_map, <-yET h hp hs hn];congr 3;rw [Bool.eq_iff_iff,isEmpty_iff,isEmpty_iff];constructor
 ·intro z;rw [z]at pR;exact pR.symm.eq_nil
 ·intro z;rw [z]at pR;exact pR.eq_nil
end
theorem zWR{α β:Type}{f:α->List β}{p q:α->Bool}: ∀{l:List α},(∀a∈l,(f a).length=(if p a=true then 1 else 0)+(if q a=true then 1 else 0))->(l.flatMap f).length=(l.filter p).length+(l.filter q).length
 |[],_=>rfl
 |a::l,h=>by have h1:=h a mF0;have h2:=zWR (f:=f) (p:=p) (q:=q) (l:=l) λb hb=>h b (mO _ hb);rw [flatMap_cons,lA,h1,h2,filter_cons,filter_cons];cases p a<;>cases q a<;>simp<;>omega
section
variable{c:Ch}{ord:Ab}
theorem o_map(hp:ord.Perm (List.range c.n)):(List.range c.n).map (oA ord)=ord:=by
 refine ext_getElem? λi=>?_;rw [getElem?_map];by_cases h:i<c.n
 ·rw [getElem?_range h,zWN hp h];rfl
 ·rw [getElem?_eq_none (by rw [length_range];omega),getElem?_eq_none (by rw [zWM hp];omega)];rfl
def yIV(hp:ord.Perm (List.range c.n))(p:Nat->Bool):((List.range c.n).filter λi=>p (oA ord i)).length=((List.range c.n).filter p).length:=by
 have h:(((List.range c.n).map (oA ord)).filter p).length=((List.range c.n).filter λi=>p (oA ord i)).length:=by rw [filter_map,lM];rfl
 rw [<-h,o_map hp,(hp.filter p).length_eq]
def yNM(hp:ord.Perm (List.range c.n))(k:Nat):nxI c ord (List.range c.n) k=decide (nxH c k<c.n):=by
 unfold nxI;by_cases h:nxH c k<c.n
 ·rw [dT0 h,any_eq_true];obtain⟨i,hi,e⟩:=zWO hp h;exact⟨i,mem_range.mpr hi,dT0 e⟩
 ·rw [dF0 h,any_eq_false];intro i hi z;have z:=of_decide_eq_true z;have:=yES hp (mem_range.mp hi);omega
def yEU(h:OkH c)(hp:ord.Perm (List.range c.n)):(kQ (tsH c) (rlH c) (rsH c ord) (List.range c.n)).length=(if c.bar.isSome=true then 1 else 0)+(if c.ends=0 then 1 else 0):=by
 have hs: ∀i∈List.range c.n,i<c.n:=λi hi=>mem_range.mp hi;rw [zOG h hp hs nodup_range,zWR (p:=λi=>decide (c.bar=some (oA ord i))) (q:=λi=>!decide (nxH c (oA ord i)<c.n)) λi hi=>by rw [zTS h hp hs (hs i hi),yNM hp];by_cases h1:c.bar=some (oA ord i)<;>by_cases h2:nxH c (oA ord i)<c.n<;>simp [h1,h2],yIV hp λk=>decide (c.bar=some k),yIV hp λk=>!decide (nxH c k<c.n)]
 have e1:((List.range c.n).filter λk=>decide (c.bar=some k)).length=if c.bar.isSome=true then 1 else 0:=by
  cases hb:c.bar with
  |none=>
   rw [filter_eq_nil_iff.mpr λk _=>by simp];rfl
  |some b=>
   show _=1;exact zOF nodup_range (mem_range.mpr (h.br b hb)) (dT0 rfl) λq _ hq=>(Option.some.inj (of_decide_eq_true hq)).symm
 have e2:((List.range c.n).filter λk=>!decide (nxH c k<c.n)).length=if c.ends=0 then 1 else 0:=by
  have hn1:=h.n1;have he:=h.e1;by_cases h0:c.ends=0
  ·rw [iP h0];refine zOF (r:=c.n - 1) nodup_range (mem_range.mpr (by omega)) ?_ λq hq hf=>?_
   ·rw [dF0 (by unfold nxH;rw [iN (by omega)];omega)];rfl
   ·have hq:=mem_range.mp hq;have hx: ¬nxH c q<c.n:=λz=>by rw [dT0 z]at hf;cases hf
    unfold nxH at hx;rw [iN (by omega)]at hx;omega
  ·rw [iN h0,filter_eq_nil_iff.mpr λk hk=>?_]
   ·rfl
   ·have hk:=mem_range.mp hk;rw [dT0 (by unfold nxH;split<;>omega)];exact xF0
 rw [e1,e2]
def yEV(h:OkH c)(hp:ord.Perm (List.range c.n))(S:Sto): ∃ds:List MV,ds.length=(if c.bar.isSome=true then 1 else 0)+(if c.ends=0 then 1 else 0)/\zU 2 dI [.val (zO (tsH c) (rlH c) (rsH c ord)),.val (.tup ((List.range c.n).map zC))] S=.ok (.new ds) S:=by obtain⟨R,pR,qR⟩:=zTN zZB (kQ (tsH c) (rlH c) (rsH c ord) (List.range c.n));have hs: ∀i∈List.range c.n,i<c.n:=λi hi=>mem_range.mp hi;have h3:=h.n30;have h4:=zZF h;refine⟨R.map bkM,by rw [lM,pR.length_eq,yEU h hp],?_⟩;exact zWK (yIP h) (yIS h hp) (by omega) (λi hi=>by rw [zZG hp];exact hs i hi) (by rw [length_range];omega) (zWQ h hp hs nodup_range) pR qR S
structure DueH(c:Ch)(In:Nat->Prop)(D:Ab):Prop where
 sub: ∀k∈D,k<c.n/\In k/\c.bar≠some k
 nd:D.Nodup
 nx: ∀k∈D,nxH c k∈D
 top: ∀P:Nat->Prop,(∀k,P k->k<c.n/\In k/\c.bar≠some k)->(∀k,P k->P (nxH c k))-> ∀k,P k->k∈D
def yNN(h:OkH c)(hp:ord.Perm (List.range c.n)){sm:Ab}(hs: ∀i∈sm,i<c.n)(hn:sm.Nodup){D:Ab}(hD:DueH c (λk=> ∃i∈sm,oA ord i=k) D)(S:Sto):
  zU 2 zNM [.val (zO (tsH c) (rlH c) (rsH c ord)),.val (.tup (sm.map zC))] S=.ok (.val (.tup ((sm.filter λi=>decide (oA ord i∈D)).map zC))) S:=by
 have hl:=zOH hs hn;have h3:=h.n30;have h4:=zZF h;have hrl:=zZG (c:=c) hp;obtain⟨K,e,⟨p,hKp⟩,hun,htop⟩:=ySI (yIP h) (yIS h hp) (by omega) (by omega) (λi hi=>by rw [hrl];exact hs i hi) hn (by omega) S
 have hA: ∀i∈sm,(i∈kX (rlH c) (rsH c ord) sm↔c.bar≠some (oA ord i)):=λi hi=>by
  unfold kX;rw [mem_filter,zDP hp (hs i hi),yIQ];by_cases hb:c.bar=some (oA ord i)
  ·rw [dT0 hb];exact⟨(λz=>by cases z.2),λz=>absurd hb z⟩
  ·rw [dF0 hb];exact⟨λ_=>hb,λ_=>⟨hi,rfl⟩⟩
 have hKs: ∀i∈K,i∈sm/\c.bar≠some (oA ord i):=λi hi=>by
  rw [hKp]at hi;have h1:=(mem_filter.mp hi).1;have h2:i∈sm:=by unfold kX at h1;exact(mem_filter.mp h1).1
  exact⟨h2,(hA i h2).mp h1⟩
 have hsrv: ∀i,i<c.n-> ∃r,r∈rlH c/\yU r (atR (rsH c ord) i) []=true/\ ∀j,j∈zJX (rsH c ord) r i↔j<c.n/\oA ord j=nxH c (oA ord i):=λi hi=>by
  obtain⟨r0,m0,t0,u0,s0⟩:=zTR h (yES hp hi);refine⟨r0,(zKC r0).mpr (.inr m0),by rw [zDP hp hi];unfold yU;rw [t0];rfl,λj=>?_⟩;rw [yBU (by rw [zDP hp hi];exact t0),hrl,zDP hp hi];constructor
  ·rintro⟨hj,hv⟩;rw [zDP hp hj,s0]at hv;exact⟨hj,of_decide_eq_true hv⟩
  ·rintro⟨hj,e⟩;exact⟨hj,by rw [zDP hp hj,s0];exact dT0 e⟩
 have hcl: ∀i∈K, ∃j∈K,oA ord j=nxH c (oA ord i):=λi hi=>Classical.byContradiction λz=>by have hin:=hs i (hKs i hi).1;obtain⟨r,m,l,s⟩:=hsrv i hin;have:i∈unT (zKR (rlH c) (rsH c ord)) K:=zYZ.mpr ⟨hi,zJX (rsH c ord) r i,yBT.mpr ⟨r,m,i,by rw [hrl];exact hin,l,rfl⟩,λj hj hjK=>z ⟨j,hjK,((s j).mp hj).2⟩⟩;rw [hun]at this;simp at this
 have hKD: ∀i∈sm,(i∈K↔oA ord i∈D):=λi hi=>by
  constructor
  ·intro hiK;refine hD.top (λk=> ∃j∈K,oA ord j=k) ?_ ?_ _ ⟨i,hiK,rfl⟩
   ·rintro k ⟨j,hj,rfl⟩;exact⟨yES hp (hs j (hKs j hj).1),⟨j,(hKs j hj).1,rfl⟩,(hKs j hj).2⟩
   ·rintro k ⟨j,hj,rfl⟩;exact hcl j hj
  ·intro hiD;refine htop (λj=>j∈sm/\oA ord j∈D) ?_ ?_ i ⟨hi,hiD⟩
   ·rintro j ⟨hj,hjD⟩;exact(hA j hj).mpr (hD.sub _ hjD).2.2
   ·rintro t ht ⟨hts,htD⟩;obtain⟨r,hr,j,hj,hlk,rfl⟩:=yBT.mp ht;rw [hrl]at hj;have hnD:=hD.nx _ htD;obtain⟨hnn,⟨j2,hj2,e2⟩,_⟩:=hD.sub _ hnD;refine⟨j2,?_,hj2,by rw [e2];exact hnD⟩;have htr:zGF r (atR (rsH c ord) j)=true:=by unfold yU at hlk;rw [aE]at hlk;exact hlk.1
    rw [yBU htr,hrl];refine⟨hs j2 hj2,?_⟩;rw [zDP hp hj]at htr ⊢;rw [zDP hp (hs j2 hj2)];obtain⟨r0,m0,t0,u0,s0⟩:=zTR h (yES hp hj)
    have hrt:r∈tiH c:=by
     rcases (zKC r).mp hr with⟨b,_,rfl⟩|hr
     ·rw [yNJ]at htr;cases htr
     ·exact hr
    rw [u0 r hrt htr,s0];exact dT0 e2
 have hK:K=sm.filter λi=>decide (oA ord i∈D):=by rw [hKp];unfold kX;rw [filter_filter];refine filter_congr λi hi=>?_;have h1:=hKD i hi;rw [hKp]at h1;unfold kX at h1;rw [filter_filter,mem_filter]at h1;rw [Bool.eq_iff_iff,decide_eq_true_iff, <-h1];exact⟨λz=>⟨hi,z⟩,λz=>z.2⟩
 rw [e,hK]
def duT(c:Ch)(L:Ab):List Nat:=L.filter λk=>decide (nxH c k∈L)
def duI(c:Ch):Nat->List Nat->List Nat
 |0,L=>L
 |m+1,L=>duI c m (duT c L)
theorem yCB{L:Ab}(h:duT c L=L): ∀m,duI c m L=L
 |0=>rfl
 |m+1=>by show duI c m (duT c L)=L;rw [h];exact yCB h m
def ySP{L:Ab}(h:duT c L≠L):(duT c L).length<L.length:=by have h1:(duT c L).length<=L.length:=length_filter_le _ _;refine Nat.lt_of_le_of_ne h1 λe=>h ?_;exact filter_eq_self.mpr (List.length_filter_eq_length_iff.mp e)
theorem yCC: ∀(m:Nat)(L:Ab),L.length<=m->duT c (duI c m L)=duI c m L
 |0,L,h=>by have:L=[]:=List.eq_nil_of_length_eq_zero (by omega);rw [this];rfl
 |m+1,L,h=>by
  by_cases hz:duT c L=L
  ·rw [yCB hz];exact hz
  ·exact yCC m (duT c L) (by have:=ySP hz;omega)
theorem yCD: ∀(m:Nat)(L:Ab),(∀k∈duI c m L,k∈L)/\(L.Nodup->(duI c m L).Nodup)/\(duI c m L).length<=L.length
 |0,L=>⟨λ_ h=>h,λh=>h,le_refl _⟩
 |m+1,L=>by obtain⟨h1,h2,h3⟩:=yCD m (duT c L);exact⟨λk hk=>(mem_filter.mp (h1 k hk)).1,λhn=>h2 (List.Pairwise.filter _ hn),le_trans h3 (length_filter_le _ _)⟩
theorem yCE{P:Nat->Prop}(hP: ∀k,P k->P (nxH c k)): ∀(m:Nat)(L:Ab),(∀k,P k->k∈L)-> ∀k,P k->k∈duI c m L
 |0,_,h,k,hk=>h k hk
 |m+1,L,h,k,hk=>yCE hP m (duT c L) (λj hj=>mem_filter.mpr ⟨h j hj,dT0 (h _ (hP j hj))⟩) k hk
def lfH(c:Ch)(mi:Option Nat):List Nat:=(List.range c.n).filter λk=>!decide (c.bar=some k)&& !decide (mi=some k)
def dueH(c:Ch)(mi:Option Nat):List Nat:=duI c c.n (lfH c mi)
def yIW(c:Ch)(mi:Option Nat):(lfH c mi).length<=c.n:=by have:=length_filter_le (λk=>!decide (c.bar=some k)&& !decide (mi=some k)) (List.range c.n);rw [length_range]at this;exact this
def zZH{mi:Option Nat}{k:Nat}:k∈lfH c mi↔k<c.n/\c.bar≠some k/\mi≠some k:=by
 unfold lfH;rw [mem_filter,mem_range,aE];constructor
 ·rintro⟨h1,h2,h3⟩;exact⟨h1,(λz=>by rw [dT0 z]at h2;cases h2),(λz=>by rw [dT0 z]at h3;cases h3)⟩
 ·rintro⟨h1,h2,h3⟩;exact⟨h1,by rw [dF0 h2];rfl,by rw [dF0 h3];rfl⟩
def ySQ(mi:Option Nat){In:Nat->Prop}(hIn: ∀k,k<c.n->(In k↔mi≠some k)):DueH c In (dueH c mi):=by
 obtain⟨h1,h2,h3⟩:=yCD (c:=c) c.n (lfH c mi);refine⟨λk hk=>?_,h2 (List.Pairwise.filter _ nodup_range),λk hk=>?_,λP hP1 hP2 k hk=>?_⟩
 ·obtain⟨g1,g2,g3⟩:=zZH.mp (h1 k hk);exact⟨g1,(hIn k g1).mpr g3,g2⟩
 ·have he:=yCC (c:=c) c.n (lfH c mi) (yIW c mi);have:k∈duT c (duI c c.n (lfH c mi)):=by rw [he];exact hk
  exact of_decide_eq_true (mem_filter.mp this).2
 ·exact yCE hP2 c.n (lfH c mi) (λj hj=>zZH.mpr ⟨(hP1 j hj).1,(hP1 j hj).2.2,(hIn j (hP1 j hj).1).mp (hP1 j hj).2.1⟩) k hk
end
abbrev Pr:=Nat×Nat
def pLt(a b:Pr):Bool:=decide (a.1<b.1\/a.1=b.1/\a.2<b.2)
def zOI(S:Sto)(a b:Pr):ltv S zI (prM a) (prM b)=some (pLt a b):=by
 have e:zI=38+1+1:=rfl;rw [e];show((eqv S (38+1) (zC a.1) (zC b.1)).bind λz=>if z=true then((eqv S (38+1) (zC a.2) (zC b.2)).bind λz=>if z=true then some false else ltv S (38+1) (zC a.2) (zC b.2))else ltv S (38+1) (zC a.1) (zC b.1))=_;rw [show eqv S (38+1) (zC a.1) (zC b.1)=some (decide ((a.1:Int)=b.1))from zBU 38 a.1 b.1,show eqv S (38+1) (zC a.2) (zC b.2)=some (decide ((a.2:Int)=b.2))from zBU 38 a.2 b.2];show(if decide ((a.1:Int)=b.1)=true then(if decide ((a.2:Int)=b.2)=true then some false else some (decide ((a.2:Int)<b.2)))else some (decide ((a.1:Int)<b.1)))=_;unfold pLt;split
 ·rename_i h;have h:=of_decide_eq_true h;split
  ·rename_i h2;have h2:=of_decide_eq_true h2;rw [dF0 (by omega)]
  ·exact congrArg some (dec_is (by omega))
 ·rename_i h;have h: ¬(a.1:Int)=b.1:=λz=>h (dT0 z);exact congrArg some (dec_is (by omega))
def zGG{a b:Pr}:pLt a b=false↔ ¬(a.1<b.1\/a.1=b.1/\a.2<b.2):=by unfold pLt;exact decide_eq_false_iff_not
def yOM{a b:Pr}:pLt a b=true↔(a.1<b.1\/a.1=b.1/\a.2<b.2):=by unfold pLt;exact decide_eq_true_iff
def yNO{T R:List Pr}(pR:R.Perm T)(qR:R.Pairwise (λa b=>pLt b a=false))(hl:T.length<64){p:Er}{S:Sto}(hp:xX S p=some (T.map prM)):zQS [p] S=.ok (.new (R.map prM)) S:=by
 cases hT:T with
 |nil=>
  subst hT;have e:R=[]:=pR.eq_nil;subst e;refine yBB hp ⟨by simp,λd hd=>by simp at hd,λd hd=>by simp at hd,⟨λa ha=>by simp at ha,λa ha=>by simp at ha,λa ha=>by simp at ha⟩⟩ (λr' h=>?_) ⟨[],by simp,.nil,rfl⟩;obtain⟨idx,ip,_,rfl⟩:=h;have:=ip.length_eq;have e2:idx=[]:=List.eq_nil_of_length_eq_zero (by simpa using this);rw [e2];rfl
 |cons t0 T0=>
 have mem: ∀k∈T.map prM, ∃t,k=prM t:=λk hk=>by obtain⟨t,_,h2⟩:=mM.mp hk;exact⟨t,h2.symm⟩
 have ok:SrtJ S (T.map prM):=by
  refine⟨by rw [lM];exact hl,λd hd=>?_,λd hd=>?_,⟨λa ha b hb=>?_,λa ha b hb c hc h1 h2=>?_,λa ha b hb h1=>?_⟩⟩
  ·obtain⟨t,rfl⟩:=mem d hd;simp [prM,zC,xZ,zHY]
  ·obtain⟨t,rfl⟩:=mem d hd;exact⟨_,_,rfl⟩
  ·obtain⟨t,rfl⟩:=mem a ha;obtain⟨u,rfl⟩:=mem b hb;exact⟨_,zOI S t u⟩
  ·obtain⟨t,rfl⟩:=mem a ha;obtain⟨u,rfl⟩:=mem b hb;obtain⟨v,rfl⟩:=mem c hc;rw [zOI]at h1 h2 ⊢;have h1:=zGG.mp (Option.some.inj h1);have h2:=zGG.mp (Option.some.inj h2);rw [zGG.mpr (by omega)]
  ·obtain⟨t,rfl⟩:=mem a ha;obtain⟨u,rfl⟩:=mem b hb;rw [zOI]at h1 ⊢;have h1:=yOM.mp (Option.some.inj h1);rw [zGG.mpr (by omega)]
 refine yBB hp ok (λr' h=>?_) ?_
 ·obtain⟨idx,p',q',rfl⟩:=h;rw [lM]at p';have e1:(idx.filterMap (T[·]?)).Perm T:=by have:=p'.filterMap (T[·]?);rwa [zCV]at this
  have e2:(idx.filterMap (T[·]?)).Pairwise (λa b=>pLt b a=false):=by rw [List.pairwise_filterMap];refine q'.imp λ{i j} h b hb c hc=>?_;have h':=h (prM b) (prM c) (by rw [getElem?_map,hb];rfl) (by rw [getElem?_map,hc];rfl);rw [zOI]at h';exact Option.some.inj h'
  have e3:idx.filterMap ((T.map prM)[·]?)=(idx.filterMap (T[·]?)).map prM:=by rw [map_filterMap];congr 1;funext i;rw [getElem?_map]
  rw [e3,zFD (e1.trans pR.symm) e2 qR λa _ b _ h1 h2=>by have h1:=zGG.mp h1;have h2:=zGG.mp h2;exact Prod.ext (by omega) (by omega)]
 ·have g:(List.range T.length).map (λi=>(T[i]?).getD t0)=T:=by rw [zAU λi hi=>mem_range.mp hi,zCV]
  obtain⟨idx,ip,ie⟩:=zFL pR.symm (List.range T.length) g;have ib: ∀i,i∈idx->i<T.length:=λi hi=>mem_range.mp (ip.mem_iff.mp hi);refine⟨idx,by rw [lM];exact ip,?_,?_⟩
  ·rw [<-ie,pairwise_map]at qR;refine List.Pairwise.imp_of_mem (λ{i j} hi hj h a c ha hc=>?_) qR;have zi:T[i]? =some (T[i]'(ib i hi)):=gE0 _;have zj:T[j]? =some (T[j]'(ib j hj)):=gE0 _;rw [getElem?_map,zi]at ha;rw [getElem?_map,zj]at hc;cases ha;cases hc;rw [zi,zj]at h;rw [zOI];exact congrArg some h
  ·have e2:idx.map (λi=>(T[i]?).getD t0)=idx.filterMap (T[·]?):=zAU ib;rw [<-ie,e2,map_filterMap];congr 1;funext i;rw [getElem?_map]
theorem yCF(t:Pr): ∀{R:List Pr},R.Pairwise (λa b=>pLt b a=false)-> ∃R':List Pr,R'.Perm (t::R)/\R'.Pairwise (λa b=>pLt b a=false)
 |[],_=>⟨[t],.refl _,pairwise_singleton _ _⟩
 |a::l,hp=>by
  have c:=pairwise_cons.mp hp
  cases z:pLt a t with
  |false=>
   refine⟨t::a::l,.refl _,pairwise_cons.mpr ⟨λx hx=>?_,hp⟩⟩;rcases mC.mp hx with e|hx
   ·rw [e];exact z
   ·have h1:=zGG.mp z;have h2:=zGG.mp (c.1 x hx);exact zGG.mpr (by omega)
  |true=>
   obtain⟨R',p,q⟩:=yCF t c.2;refine⟨a::R',(p.cons a).trans (.swap _ _ _),pairwise_cons.mpr ⟨λx hx=>?_,q⟩⟩;rcases mC.mp (p.mem_iff.mp hx)with e|hx
   ·rw [e];have h1:=yOM.mp z;exact zGG.mpr (by omega)
   ·exact c.1 x hx
theorem yCG: ∀(T:List Pr), ∃R:List Pr,R.Perm T/\R.Pairwise (λa b=>pLt b a=false)
 |[]=>⟨[],.refl _,.nil⟩
 |t::T=>by obtain⟨R,p,q⟩:=yCG T;obtain⟨R',p',q'⟩:=yCF t q;exact⟨R',p'.trans (p.cons t),q'⟩
theorem zWS{S:Sto}{gf:MV->Rho->Sto->R Rho}{cf:AZ}{ef:AX}{ρb:Rho}{gs:Ca}(hs:stay gs S):
  ∀{ks:Ab},(∀k∈ks, ∃ρ1 m,gf (zC k) ρb S=.ok ρ1 S/\cf ρ1 S=.ok true S/\ef ρ1 S=.ok (.val (prM (m,k))) S)-> ∃T:List Pr,T.map (·.2)=ks/\yD gf cf ef ρb gs (ks.map zC) S=.ok (T.map prM) S
 |[],_=>⟨[],rfl,rfl⟩
 |k::ks,st=>by obtain⟨ρ1,m,h1,h2,h3⟩:=st k mF0;obtain⟨T,hT,e⟩:=zWS hs (ks:=ks) λd hd=>st d (mO _ hd);refine⟨(m,k)::T,by rw [map_cons,hT],?_⟩;rw [map_cons];unfold yD;rw [h1,yL,bok,h2,yL,bok,iP rfl,h3,yL,bok];unfold gI;rw [bok,iP hs,e];rfl
theorem zZI(ds:Bh)(S:Sto):itL (.new ds) S=.ok ⟨ds,[]⟩ S:=rfl
theorem zZJ{n:Nat}(h:n<=1000)(S:Sto):zAS [.val (zC n)] S=.ok ⟨(List.range n).map zC,[]⟩ S:=by show zAS [.val (.int (n:Int))] S=_;rw [yQW (by omega),toNat_natCast];rfl
theorem yIX(x:Int){n:Nat}(hn:n<=30)(S:Sto): ∃ord:List Nat,ord.Perm (List.range n)/\zU 2 cI [.val (.int x),.val (zC n)] S=.ok (.new (ord.map zC)) S:=by
 obtain⟨T,hT,e1⟩:=zWS (S:=S) (gf:=gNm 0) (cf:=zAZ) (ef:=gU) (ρb:=[none,some (.int x)]) (gs:=[]) (wO _) (ks:=List.range n) λk hk=>by have hk:=mem_range.mp hk;obtain⟨m,hm,e⟩:=zCT x (50+(k:Int)) ⟨by omega,by omega⟩ S;refine⟨[some (zC k),some (.int x)],m.toNat,rfl,rfl,?_⟩;unfold gU;simp? [show zC k=.int (k:Int)from rfl,e,tup2];show R.ok (Er.val (.tup [.int m,.int (k:Int)])) S=R.ok (Er.val (.tup [.int (m.toNat:Int),.int (k:Int)])) S;rw [Int.toNat_of_nonneg hm]
 have hTl:T.length=n:=by have:=congrArg List.length hT;rw [lM,length_range]at this;exact this
 obtain⟨R,pR,qR⟩:=yCG T;have es:=yNO pR qR (by omega) (p:=.new (T.map prM)) (S:=S) rfl;have e2:yD (gTp 2 (zP (gNm 0) (zP (gNm 1) xY))) zBA zBB [none,none] [] (R.map prM) S=.ok (R.map λp=>zC p.2) S:=yT (wO _) λp _=>⟨[some (zC p.1),some (zC p.2)],rfl,rfl,rfl⟩
 refine⟨R.map (·.2),by rw [<-hT];exact pR.map _,?_⟩;refine cY (T:=[]) rfl ?_ (zFS _ _);rw [aN];show yE (zCM [some (.int x),some (zC n)] S)=_;have hl1:((List.range n).map zC).length<1000000:=by rw [lM,length_range];omega
 have hl2:(R.map prM).length<1000000:=by rw [lM,pR.length_eq];omega
 unfold zCM zEV;simp? [zZJ (n:=n) (by omega),hl1,show∀a b:Option MV,blk 1 [0] [a,b]=[none,a]from λ_ _=>rfl,e1,es,zZI,hl2,show∀a b:Option MV,blk 2 [] [a,b]=[none,none]from λ_ _=>rfl,e2];rw [map_map];rfl
def wP(S:Sto)(o:MO):(S++[o])[S.length]? =some o:=by simp
def zOJ(S:Sto)(o o':MO):(S++[o]).set S.length o'=S++[o']:=by simp
def xR{S X:Sto}{k:Nat}{o:MO}(h:S[k]? =some o):(S++X)[k]? =some o:=by rw [getElem?_append_left (gS0.mp h).1];exact h
theorem yIY{c:Ch}(h:OkH c)(S:Sto):zU 3 cJ [.val (zC c.n),.val (zC c.ends),.val (zC c.two)] S=.ok (.new (((List.range c.n).map (nxH c)).map zC)) S:=by
 have hn:=h.n30;have hn1:=h.n1;have ht:=h.tn
 have hco:yD (gNm 0) zBC gV [none] [] ((List.range c.n).map zC) S=.ok (((List.range c.n).map (· +1)).map zC) S:=by
  rw [map_map];refine yT (wO _) λk _=>⟨[some (zC k)],rfl,rfl,?_⟩
  unfold gV;simp? [show zC k=.int (k:Int)from rfl];rfl
 have hl:((List.range c.n).map zC).length<1000000:=by rw [lM,length_range];omega
 have f1:dN [some (zC c.n),some (zC c.ends),some (zC c.two),none] S=.ok (.next [some (zC c.n),some (zC c.ends),some (zC c.two),some (.loc S.length)]) (S++[.lst (((List.range c.n).map (· +1)).map zC)]):=by unfold dN;simp? [zZJ (n:=c.n) (by omega),hl,show∀a b d e:Option MV,blk 1 [] [a,b,d,e]=[none]from λ_ _ _ _=>rfl,hco]
 have f2:dO [some (zC c.n),some (zC c.ends),some (zC c.two),some (.loc S.length)] (S++[.lst (((List.range c.n).map (· +1)).map zC)])=.ok (.next [some (zC c.n),some (zC c.ends),some (zC c.two),some (.loc S.length)]) (S++[.lst (((List.range c.n).map (nxH c)).map zC)]):=by
  unfold dO;by_cases he:c.ends=1
  ·have e1:decide ((c.ends:Int)=1)=true:=dT0 (by omega)
   have hset:((((List.range c.n).map (· +1)).map zC).set (c.n - 1) (zC (c.n - 1 - c.two)))=((List.range c.n).map (nxH c)).map zC:=by
    refine ext_getElem? λi=>?_;rw [getElem?_map,getElem?_map];by_cases hi:i<c.n
    ·rw [getElem?_range hi];by_cases h1:i=c.n - 1
     ·subst h1;rw [getElem?_set_self (by rw [lM,lM,length_range];omega)];show _=some (zC (nxH c (c.n - 1)));unfold nxH;rw [iP ⟨by omega,he⟩]
     ·rw [getElem?_set_ne (λz=>h1 z.symm),getElem?_map,getElem?_map,getElem?_range hi];show some (zC (i+1))=some (zC (nxH c i));unfold nxH;rw [iN (by omega)]
    ·rw [getElem?_eq_none (by rw [length_set,lM,lM,length_range];omega),getElem?_eq_none (by rw [length_range];omega)];rfl
   have hix:ixN (((List.range c.n).map (· +1)).map zC).length (-1)=some (c.n - 1):=by rw [lM,lM,length_range];unfold ixN;rw [iN (by decide),iP (by omega)];exact congrArg some (by omega)
   have hs:=λρ=>yIC (k:= -1) (d:=zC (c.n - 1 - c.two)) (ρ:=ρ) (wP S (.lst (((List.range c.n).map (· +1)).map zC))) hix;have hv:(MV.int ((c.n:Int) - 1 - (c.two:Int)))=zC (c.n - 1 - c.two):=by exact congrArg MV.int (by omega)
   simp? [show zC c.ends=.int (c.ends:Int)from rfl,e1,show zC c.n=.int (c.n:Int)from rfl,show zC c.two=.int (c.two:Int)from rfl,hv,yBF,hs,zOJ,hset]
  ·have e1:decide ((c.ends:Int)=1)=false:=dF0 (by omega);have hsame:(List.range c.n).map (· +1)=(List.range c.n).map (nxH c):=List.map_congr_left λk _=>by unfold nxH;rw [iN (λz=>he z.2)]
   simp? [show zC c.ends=.int (c.ends:Int)from rfl,e1,fT0,iF];rw [hsame]
 refine zMM (T:=[.lst (((List.range c.n).map (nxH c)).map zC)]) rfl ?_ (le_refl _) (wP _ _) (zFS _ _);show yE (zCN [some (zC c.n),some (zC c.ends),some (zC c.two),none] S)=_;unfold zCN;rw [zG f1,zG f2];rfl
def oM:Option Nat->MV
 |none=>.non
 |some k=>zC k
def yON(k:Nat)(o:Option Nat)(S:Sto):neF (.val (zC k)) (.val (oM o)) S=.ok (.val (.bl (!decide (o=some k)))) S:=by
 cases o with
 |none=>rfl
 |some j=>
  show neF (.val (.int (k:Int))) (.val (.int (j:Int))) S=_;rw [ne_int,dec_is (show(k:Int)=j↔some j=some k from⟨λh=>by congr 1;omega,λh=>by have:=Option.some.inj h;omega⟩)]
def zWT(rs:Ab): ∀y∈rs.map zC,pd y=true/\dpt y<40:=λy hy=>by obtain⟨k,_,rfl⟩:=mM.mp hy;unfold zC;exact⟨zNV _,by rw [zLP];decide⟩
def yCH{j:Nat}{rs:Ab}:zC j∈rs.map zC↔j∈rs:=⟨λh=>by obtain⟨k,hk,e⟩:=mM.mp h;rw [<-zIK e];exact hk,λh=>mM.mpr ⟨j,h,rfl⟩⟩
section
variable{c:Ch}
def yIZ{S:Sto}{l:Nat}(hl:S[l]? =some (.lst (((List.range c.n).map (nxH c)).map zC))){k:Nat}(hk:k<c.n):ixF (.val (.loc l)) (.val (zC k)) S=.ok (.val (zC (nxH c k))) S:=
 zJF hl (bF (by rw [getElem?_map,getElem?_map,getElem?_range hk];rfl))
abbrev DUr(l:Nat)(b m:MV)(x y:Bi):Rho:=[some (.loc l),some b,some m,x,y]
theorem yJA(h:OkH c){ln:Nat}{b m:MV}: ∀(ds:Bh)(S:Sto)(L:Ab)(ll:Nat)(y:Bi),S[ln]? =some (.lst (((List.range c.n).map (nxH c)).map zC))->S[ll]? =some (.lst (L.map zC))->(∀k∈L,k<c.n)->L.length<=30->
  ∃T ll' y',bT (gNm 4) cK [] ds (DUr ln b m (some (.loc ll)) y) S=.ok (.next (DUr ln b m (some (.loc ll')) y')) (S++T)/\(S++T)[ll']? =some (.lst ((duI c ds.length L).map zC))/\(ll'=ll\/S.length<=ll')
 |[],S,L,ll,y,_,hL,_,_=>⟨[],ll,y,by rw [aN];rfl,by rw [aN];exact hL,.inl rfl⟩
 |d::ds,S,L,ll,y,hln,hL,hk,hl=>by
  have hc:yD (gNm 0) dQ zEY [none,some (.loc ln),some (.loc ll)] [(ll,L.map zC)] (L.map zC) S=.ok ((duT c L).map zC) S:=xQ (xD hL) λk hkL=>⟨[some (zC k),some (.loc ln),some (.loc ll)],rfl,by have hin:=yMS false hL (d:=zC (nxH c k)) (zNV _) (zWT L);rw [iN xF0,dec_is (yCH (j:=nxH c k) (rs:=L))]at hin;unfold dQ;simp? [yIZ hln (hk k hkL),hin],rfl⟩
  have hll:(L.map zC).length<1000000:=by rw [lM];omega
  have eb:cK (DUr ln b m (some (.loc ll)) (some d)) S=.ok (.next (DUr ln b m (some (.loc S.length)) (some d))) (S++[.lst ((duT c L).map zC)]):=by unfold cK zEZ;simp? [kB hL,hll,show∀a b c d e:Option MV,blk 1 [0,3] [a,b,c,d,e]=[none,a,d]from λ_ _ _ _ _=>rfl,hc]
  have hdl:(duT c L).length<=30:=le_trans (length_filter_le _ _) hl;obtain⟨T,ll',y',e,g1,g2⟩:=yJA h ds (S++[.lst ((duT c L).map zC)]) (duT c L) S.length (some d) (xR hln) (wP _ _) (λk hk'=>hk k (mem_filter.mp hk').1) hdl;rw [aA]at e g1;refine⟨_,ll',y',?_,g1,.inr ?_⟩
  ·rw [bM (ρ0:=DUr ln b m (some (.loc ll)) (some d)) rfl eb (wO _)];exact e
  ·rcases g2 with g2|g2
   ·omega
   ·rw [lA]at g2;omega
theorem yNP(h:OkH c)(mi:Option Nat){S:Sto}{ln:Nat}(hln:S[ln]? =some (.lst (((List.range c.n).map (nxH c)).map zC))):zU 3 zCQ [.val (.loc ln),.val (oM c.bar),.val (oM mi)] S=.ok (.new ((dueH c mi).map zC)) S:=by
 have hn:=h.n30;have hlen: ∀T:Sto,zFV [.val (.loc ln)] (S++T)=.ok (.val (zC c.n)) (S++T):=λT=>by have:=zLL (S:=S++T) (xR hln);rw [lM,lM,length_range]at this;exact this
 have hlen0:=hlen [];rw [aN]at hlen0;have hco:yD (gNm 0) dP zEX [none,some (oM c.bar),some (oM mi)] [] ((List.range c.n).map zC) S=.ok ((lfH c mi).map zC) S:=xQ (wO _) λk _=>⟨[some (zC k),some (oM c.bar),some (oM mi)],rfl,by unfold dP;simp? [yON];cases decide (c.bar=some k)<;>rfl,rfl⟩
 have hl:((List.range c.n).map zC).length<1000000:=by rw [lM,length_range];omega
 have f1:zCO [some (.loc ln),some (oM c.bar),some (oM mi),none,none] S=.ok (.next (DUr ln (oM c.bar) (oM mi) (some (.loc S.length)) none)) (S++[.lst ((lfH c mi).map zC)]):=by unfold zCO;simp? [hlen0,zZJ (n:=c.n) (by omega),hl,show∀a b c d e:Option MV,blk 1 [1,2] [a,b,c,d,e]=[none,b,c]from λ_ _ _ _ _=>rfl,hco]
 have hlf:=yIW c mi;obtain⟨T,ll,y,e,g1,g2⟩:=yJA h (b:=oM c.bar) (m:=oM mi) ((List.range c.n).map zC) (S++[.lst ((lfH c mi).map zC)]) (lfH c mi) S.length none (xR hln) (wP _ _) (λk hk=>(zZH.mp hk).1) (by omega);rw [lM,length_range]at g1;rw [aA]at e g1;have f2:zCP (DUr ln (oM c.bar) (oM mi) (some (.loc S.length)) none) (S++[.lst ((lfH c mi).map zC)])=.ok (.next (DUr ln (oM c.bar) (oM mi) (some (.loc ll)) y)) (S++([.lst ((lfH c mi).map zC)]++T)):=by unfold zCP;simp? [hlen,zZJ (n:=c.n) (by omega)];exact e
 have hll:S.length<=ll:=by
  rcases g2 with g2|g2
  ·omega
  ·rw [lA]at g2;omega
 refine zMM (T:=[.lst ((lfH c mi).map zC)]++T) rfl ?_ hll g1 (zFS _ _);show yE (zHG [some (.loc ln),some (oM c.bar),some (oM mi),none,none] S)=_;unfold zHG;rw [zG f1,zG f2];rfl
end
theorem yEW{n:Nat}{F:List MV->Sto->R Er}{rs:List Er}{S S2:Sto}{d:MV}(hn:rs.length=n)(hF:F (zQ rs S).1 (zQ rs S).2=.ok (.val d) S2)(hd: ∀l,d≠.loc l)(h: ¬lo S.length d):zU n F rs S=.ok (.val d) S2:=by
 unfold zU;rw [iP hn,hF];show bK S (.val d) S2=_;unfold bK;split
 ·split
  ·rename_i l e;cases e;exact absurd rfl (hd l)
  ·rename_i e;cases e;rw [iN h]
  ·rename_i e;cases e
 ·rfl
def yNQ{S:Sto}{l:Nat}{ds:Bh}{i:Int}{d:MV}(hS:S[l]? =some (.lst ds))(h0:0<=i)(h1:i<1000000)(hl:ds.length<1000000):yEJ (.val (.loc l)) [.val (.int i),.val d] S=.ok (.val .non) (S.set l (.lst (cB ds i.toNat d))):=by show zHV (.val (.loc l)) S (λds=>if 0<=i/\i<1000000/\ds.length<sizeLine then some (cB ds i.toNat d)else none)=_;unfold zHV;dsimp only;rw [hS];dsimp only;rw [iP ⟨h0,h1,lt_of_lt_of_le hl (fits (le_refl _))⟩]
abbrev BKr(c:Ch)(ln:Nat)(a b d:Bi):Rho:=[some (.int c.low),some (.loc ln),some (oM c.bar),some (zC c.two),a,b,d]
section
variable{c:Ch}
def yJB(h:OkH c){S:Sto}{ln:Nat}(hln:S[ln]? =some (.lst (((List.range c.n).map (nxH c)).map zC))):zU 4 nT [.val (.int c.low),.val (.loc ln),.val (oM c.bar),.val (zC c.two)] S=.ok (.val (.tup [.tup ((tsH c).map tbl),.tup ((rlH c).map zM),.loc (S.length+1)])) (S++[.lst ((rlH c).map zM),.lst (((List.range c.n).map (rwH c)).map zK)]):=by
 have hn:=h.n30;have ht1:=h.t1;have f1:zAK (BKr c ln none none none) S=.ok (.next (BKr c ln (some (.loc S.length)) none none)) (S++[.lst ([t0H c].map zM)]):=by unfold zAK;simp? [tup1,tup5];rfl
 have f2:zAL (BKr c ln (some (.loc S.length)) none none) (S++[.lst ([t0H c].map zM)])=.ok (.next (BKr c ln (some (.loc S.length)) none none)) (S++[.lst ((tiH c).map zM)]):=by
  unfold zAL tiH;rcases zKB h with e|e
  ·have e1:decide ((c.two:Int)=1)=false:=dF0 (by omega);rw [iN (by omega)];simp? [show zC c.two=.int (c.two:Int)from rfl,e1,fT0,iF]
  ·have e1:decide ((c.two:Int)=1)=true:=dT0 (by omega);rw [iP e];simp? [show zC c.two=.int (c.two:Int)from rfl,e1,tup1,tup5,nU (wP S (.lst ([t0H c].map zM))),zSZ (wP S (.lst ([t0H c].map zM))) (show([t0H c].map zM).length<1000000 by rw [lM,lS];decide),zOJ];rfl
 obtain⟨te,f3⟩: ∃te,zAM (BKr c ln (some (.loc S.length)) none none) (S++[.lst ((tiH c).map zM)])=.ok (.next (BKr c ln (some (.loc S.length)) te none)) (S++[.lst ((rlH c).map zM)]):=by
  unfold zAM
  cases hb:c.bar with
  |none=>
   refine⟨none,?_⟩;have hr:rlH c=tiH c:=by unfold rlH;rw [hb]
   rw [hr];unfold BKr;rw [hb];simp? [show zHT (.val (oM none)) (.val .non) (S++[.lst ((tiH c).map zM)])=.ok (.val (.bl false)) (S++[.lst ((tiH c).map zM)])from rfl,fT0,iF]
  |some b=>
   have hj0:=eN c.low (show(2:Int)≠0 by decide);have hj1:=eL c.low (show(0:Int)<2 by decide);have htl:1<=(tiH c).length/\(tiH c).length<=2:=by unfold tiH;split<;>simp
   have hr:cB ((tiH c).map zM) (c.low % 2).toNat (zM (nvH c b))=(rlH c).map zM:=by unfold cB rlH;rw [hb,lM,min_eq_left (by omega),map_append,map_cons,map_take,map_drop]
   have em:(b:Int) % (1+(c.two:Int))=((b % (1+c.two):Nat):Int):=by push_cast;rfl
   refine⟨some (testM ⟨.cell 0 0,zBJ,.isv (.int (c.low+b))⟩),?_⟩;have e1:(CJ (bJ (yJ (bJ (yJ (kJ (.str [99,101,108,108])) (yJ (kJ (.int 0)) (yJ (kJ (.int 0)) wJ))) xO) (yJ (kJ (.str [115,97,109,101])) (yJ (bJ (yJ (kJ (.str [105,115])) (yJ (dJ jH (vJ 0) (vJ 2)) wJ)) xO) wJ))) xO) 5) [some (.int c.low),some (.loc ln),some (oM (some b)),some (zC c.two),some (.loc S.length),none,none] (S++[.lst ((tiH c).map zM)])=.ok (.next [some (.int c.low),some (.loc ln),some (oM (some b)),some (zC c.two),some (.loc S.length),some (testM ⟨.cell 0 0,zBJ,.isv (.int (c.low+b))⟩),none]) (S++[.lst ((tiH c).map zM)]):=by simp? [show oM (some b)=.int (b:Int)from rfl,tup2,tup3];rfl
   have e2:(BJ (eJ bL yEJ (vJ 4) (yJ (dJ zBT (vJ 0) (kJ (.int 2))) (yJ (bJ (yJ (kJ (.str [110,101,118,101,114])) (yJ (dJ zBT (vJ 2) (dJ jH (kJ (.int 1)) (vJ 3))) (yJ (bJ (yJ (vJ 5) wJ) xO) wJ))) xO) wJ)))) [some (.int c.low),some (.loc ln),some (oM (some b)),some (zC c.two),some (.loc S.length),some (testM ⟨.cell 0 0,zBJ,.isv (.int (c.low+b))⟩),none] (S++[.lst ((tiH c).map zM)])=.ok (.next [some (.int c.low),some (.loc ln),some (oM (some b)),some (zC c.two),some (.loc S.length),some (testM ⟨.cell 0 0,zBJ,.isv (.int (c.low+b))⟩),none]) (S++[.lst ((rlH c).map zM)]):=by simp? [nU (wP S (.lst ((tiH c).map zM))),mod_lit (show(0:Int)<2 by decide),show oM (some b)=.int (b:Int)from rfl,show zC c.two=.int (c.two:Int)from rfl,mod_lit (b:=1+(c.two:Int)) (by omega),em,tup1,tup3,yNQ (d:=.tup [.str [110,101,118,101,114],.int ((b % (1+c.two):Nat):Int),.tup [testM ⟨.cell 0 0,zBJ,.isv (.int (c.low+b))⟩]]) (wP S (.lst ((tiH c).map zM))) hj0 (by omega) (by rw [lM];omega),zOJ];rw [show(MV.tup [.str [110,101,118,101,114],.int ((b % (1+c.two):Nat):Int),.tup [testM ⟨.cell 0 0,zBJ,.isv (.int (c.low+b))⟩]])=zM (nvH c b)from rfl,hr]
   unfold BKr;rw [hb];simp? [show zHT (.val (oM (some b))) (.val .non) (S++[.lst ((tiH c).map zM)])=.ok (.val (.bl true)) (S++[.lst ((tiH c).map zM)])from rfl];rw [zG e1,e2]
 obtain⟨S1,hS1⟩: ∃S1:Sto,S1=S++[.lst ((rlH c).map zM)]:=⟨_,rfl⟩
 have hln1:S1[ln]? =some (.lst (((List.range c.n).map (nxH c)).map zC)):=by rw [hS1];exact xR hln
 have hlen:zFV [.val (.loc ln)] S1=.ok (.val (zC c.n)) S1:=by have:=zLL hln1;rw [lM,lM,length_range]at this;exact this
 have hco:yD (gNm 0) zDN cA [none,some (.int c.low),some (.loc ln),some (zC c.two)] [] ((List.range c.n).map zC) S1=.ok (((List.range c.n).map (rwH c)).map zK) S1:=by
  rw [map_map];refine yT (wO _) λk hk=>⟨[some (zC k),some (.int c.low),some (.loc ln),some (zC c.two)],rfl,rfl,?_⟩
  have em:(k:Int) % (1+(c.two:Int))=((k % (1+c.two):Nat):Int):=by push_cast;rfl
  have hix:=yIZ hln1 (mem_range.mp hk);unfold zC at hix;unfold cA zC;simp? [mod_lit (b:=1+(c.two:Int)) (by omega),em,hix,tup2];rfl
 have hl:((List.range c.n).map zC).length<1000000:=by rw [lM,length_range];omega
 have f4:zAN (BKr c ln (some (.loc S.length)) te none) S1=.ok (.next (BKr c ln (some (.loc S.length)) te (some (.loc S1.length)))) (S1++[.lst (((List.range c.n).map (rwH c)).map zK)]):=by unfold zAN;simp? [hlen,zZJ (n:=c.n) (by omega),hl,show∀a b c d e f g:Option MV,blk 1 [0,1,3] [a,b,c,d,e,f,g]=[none,a,b,d]from λ_ _ _ _ _ _ _=>rfl,hco]
 have hl1:S1.length=S.length+1:=by rw [hS1,lA];rfl
 obtain⟨S2,hS2⟩: ∃S2:Sto,S2=S1++[.lst (((List.range c.n).map (rwH c)).map zK)]:=⟨_,rfl⟩
 have hcut:wG [MV.tup [.int 2,.int 1],.tup [.int 2,.int 1]] none (some (1+(c.two:Int)))=(tsH c).map tbl:=by unfold tsH;rcases zKB h with e|e<;>rw [e]<;>rfl
 have htu:zAB [.val (.loc S.length)] S2=.ok (.val (.tup ((rlH c).map zM))) S2:=yEK (by rw [hS2,hS1];exact xR (wP _ _));have f5:zAO (BKr c ln (some (.loc S.length)) te (some (.loc S1.length))) S2=.ok (.ret (.val (.tup [.tup ((tsH c).map tbl),.tup ((rlH c).map zM),.loc (S.length+1)]))) S2:=by unfold zAO;simp? [tup2,show zC c.two=.int (c.two:Int)from rfl,zTI,hcut,htu,tup3,hl1]
 have hS2e:S2=S++[.lst ((rlH c).map zM),.lst (((List.range c.n).map (rwH c)).map zK)]:=by rw [hS2,hS1,aA];rfl
 rw [<-hS2e];refine yEW rfl ?_ (λl=>by simp) (λz=>?_)
 ·show yE (zEW (BKr c ln none none none) S)=_;unfold zEW;rw [zG f1,zG f2,zG f3, <-hS1,zG f4, <-hS2,f5];rfl
 ·unfold lo loL at z;have z2:=z.2;unfold loL at z2;have z3:=z2.2;unfold loL at z3;have z4:=z3.1;unfold lo at z4;omega
end
def plS(c:Ch)(ord E:Ab):List Nat:=(List.range c.n).filter λi=>decide (oA ord i∈E)
section
variable{c:Ch}{ord:Ab}
def zAP{E:Ab}{i:Nat}:i∈plS c ord E↔i<c.n/\oA ord i∈E:=by unfold plS;rw [mem_filter,mem_range,decide_eq_true_iff]
def zWU(E:Ab):(plS c ord E).Nodup:=List.Pairwise.filter _ nodup_range
def yCI(E:Ab): ∀i∈plS c ord E,i<c.n:=λi hi=>(zAP.mp hi).1
def yJC(hp:ord.Perm (List.range c.n)){E:Ab}(hE: ∀k∈E,k<c.n):gdH c ord (plS c ord E)=E.all λk=>!decide (c.bar=some k)&&decide (nxH c k∈E):=by
 have hx: ∀k,nxI c ord (plS c ord E) k=decide (nxH c k∈E):=λk=>by
  unfold nxI;by_cases h:nxH c k∈E
  ·rw [dT0 h,any_eq_true];obtain⟨i,hi,e⟩:=zWO hp (hE _ h);exact⟨i,zAP.mpr ⟨hi,by rw [e];exact h⟩,dT0 e⟩
  ·rw [dF0 h,any_eq_false];intro i hi z;have z:=of_decide_eq_true z;exact h (by rw [<-z];exact(zAP.mp hi).2)
 unfold gdH;rw [Bool.eq_iff_iff,all_eq_true,all_eq_true];constructor
 ·intro h k hk;obtain⟨i,hi,e⟩:=zWO hp (hE k hk);have:=h i (zAP.mpr ⟨hi,by rw [e];exact hk⟩);rw [hx,e]at this;exact this
 ·intro h i hi;rw [hx];exact h _ (zAP.mp hi).2
structure PlH(c:Ch)(ord:Ab)(pl:Nat->Nat):Prop where
 lt: ∀k,k<c.n->pl k<c.n
 at': ∀k,k<c.n->oA ord (pl k)=k
theorem yJD(h:OkH c)(hp:ord.Perm (List.range c.n)){pl:Nat->Nat}(P:PlH c ord pl){E:Ab}(hE: ∀k∈E,k<c.n)(hn:E.Nodup)(S:Sto):zVG [.new ((E.map pl).map zC)] S=.ok (.new ((plS c ord E).map zC)) S:=by
 have hl:=zOH hE hn;have h30:=h.n30
 have hperm:(plS c ord E).Perm (E.map pl):=by
  refine(List.perm_ext_iff_of_nodup (zWU E) ?_).mpr λi=>?_
  ·unfold List.Nodup;rw [pairwise_map];refine List.Pairwise.imp_of_mem (λ{a b} ha hb hne e=>hne ?_) hn;rw [<-P.at' a (hE a ha), <-P.at' b (hE b hb),e]
  ·rw [zAP,mM];constructor
   ·rintro⟨hi,hm⟩;exact⟨oA ord i,hm,yOL hp (P.lt _ (hE _ hm)) hi (P.at' _ (hE _ hm))⟩
   ·rintro⟨k,hk,rfl⟩;exact⟨P.lt k (hE k hk),by rw [P.at' k (hE k hk)];exact hk⟩
 show(if((E.map pl).map zC).length<64 then(match intsOf ((E.map pl).map zC)with |some ns=>R.ok (Er.new ((PySem.W.sortI ns).map MV.int)) S|none=>.no)else .no)=_;rw [iP (by rw [lM,lM];omega),zWC];dsimp only;rw [<-PySem.W.eq_sortI (hperm.map Int.ofNat) (pairwise_map.mpr ((List.Pairwise.filter _ List.pairwise_lt_range).imp λ{a b} h=>by show(a:Int)<=b;omega)),map_map];rfl
theorem zLT(ds:Bh)(S:Sto):zAB [.new ds] S=.ok (.val (.tup ds)) S:=rfl
def zWV(A B:Ab)(S:Sto):eqv S (zI+1) (.tup (A.map zC)) (.tup (B.map zC))=some (decide (A=B)):=by
 have hA: ∀A:List Nat,pd (.tup (A.map zC))=true/\dpt (.tup (A.map zC))<=1:=λA=>by
  rw [zTA,zLO];refine⟨zTB λd hd=>?_,?_⟩
  ·obtain⟨k,_,rfl⟩:=mM.mp hd;exact zNV _
  ·have:zKZ (A.map zC)<=0:=zTD λd hd=>by obtain⟨k,_,rfl⟩:=mM.mp hd;unfold zC;rw [zLP];exact le_refl _
   omega
 rw [bP (zI+1) (hA A).1 (hA B).1 (by have:=(hA A).2;unfold zI;omega)];refine congrArg some (dec_is ⟨λe=>?_,λe=>by rw [e]⟩);injection e with e
 have inj: ∀{A B:Ab},A.map zC=B.map zC->A=B:=λ{A}=>by
  induction A with
  |nil=>intro B e;cases B with
   |nil=>rfl
   |cons=>cases e
  |cons a A ih=>intro B e;cases B with
   |nil=>cases e
   |cons b B=>
    rw [map_cons,map_cons]at e;injection e with e1 e2
    rw [zIK e1,ih e2]
 exact inj e
def zWW(x y:Bool)(S:Sto):zU 2 hZ [.val (.bl x),.val (.bl y)] S=.ok (.val (.bl (x==y))) S:=bQ rfl (by show yE (zCR [some (.bl x),some (.bl y)] S)=_;unfold zCR zFA;simp? [zUS,show eqF (.val (.bl x)) (.val (.bl y)) S=.ok (.val (.bl (x==y))) S from zMN (yQV _ x y)];rfl)
end
def yNR(a b:Nat)(S:Sto):eqF (.val (zC a)) (.val (zC b)) S=.ok (.val (.bl (decide (a=b)))) S:=by show eqF (.val (.int (a:Int))) (.val (.int (b:Int))) S=_;rw [eq_int,dec_is (show(a:Int)=b↔a=b by omega)]
def yNS(a b:Nat)(S:Sto):neF (.val (zC a)) (.val (zC b)) S=.ok (.val (.bl (!decide (a=b)))) S:=by show neF (.val (.int (a:Int))) (.val (.int (b:Int))) S=_;rw [ne_int,dec_is (show(a:Int)=b↔a=b by omega)]
theorem zWX{α:Type}(p:α->Bool): ∀xs:List α,(xs.filter p).isEmpty= !xs.any p
 |[]=>rfl
 |x::xs=>by
  rw [filter_cons,any_cons]
  cases p x with
  |true=>rfl
  |false=>exact zWX p xs
def cutL_map{α β:Type}(f:α->β)(xs:List α)(a b:Bc):wG (xs.map f) a b=(wG xs a b).map f:=by unfold wG;rw [lM,map_take,map_drop]
def cutL_mem{α:Type}{xs:List α}{a b:Bc}{x:α}(h:x∈wG xs a b):x∈xs:=by unfold wG at h;exact List.mem_of_mem_drop (List.mem_of_mem_take h)
def yJE{S:Sto}{l:Nat}{ds:Bh}(hS:S[l]? =some (.lst ds))(a b:Bc):zMI (.val (.loc l)) a b S=.ok (.new (wG ds a b)) S:=by unfold zMI;dsimp only;rw [bN hS]
abbrev RTr(b:MV)(lp ld:Nat)(so:MV)(ln:Nat)(ke ha k le st:Bi):Rho:=[some b,some (.loc lp),some (.loc ld),some so,some (.loc ln),ke,ha,k,le,st]
section
variable{c:Ch}{ord:Ab}{pl:Nat->Nat}
structure StH(c:Ch)(pl:Nat->Nat)(lp ln:Nat)(S:Sto):Prop where
 p:S[lp]? =some (.lst (((List.range c.n).map pl).map zC))
 n:S[ln]? =some (.lst (((List.range c.n).map (nxH c)).map zC))
def yOO{S:Sto}{lp ln:Nat}(H:StH c pl lp ln S){k:Nat}(hk:k<c.n):ixF (.val (.loc lp)) (.val (zC k)) S=.ok (.val (zC (pl k))) S:=
 zJF H.p (bF (by rw [getElem?_map,getElem?_map,getElem?_range hk];rfl))
def yNT(h:OkH c)(hp:ord.Perm (List.range c.n))(P:PlH c ord pl){D:Ab}{In:Nat->Prop}(hD:DueH c In D){S:Sto}{lp ld ln:Nat}(H:StH c pl lp ln S)(hd:S[ld]? =some (.lst (D.map zC))){k:Nat}(hk:k∈D)(so:MV)(ke ha le st:Bi):
  ∃so' le' st' T,gA (RTr (zO (tsH c) (rlH c) (rsH c ord)) lp ld so ln ke ha (some (zC k)) le st) S=.ok (.next (RTr (zO (tsH c) (rlH c) (rsH c ord)) lp ld so' ln ke ha (some (zC k)) le' st')) (S++T):=by
 have h30:=h.n30;have hDn: ∀j∈D,j<c.n:=λj hj=>(hD.sub j hj).1;have hDl:=zOH hDn hD.nd;obtain⟨L,hL⟩: ∃L,L=D.filter λj=>!decide (j=k):=⟨_,rfl⟩
 have hLD: ∀j,j∈L↔j∈D/\j≠k:=λj=>by
  rw [hL,mem_filter];constructor
  ·rintro⟨h1,h2⟩;exact⟨h1,λz=>by rw [dT0 z]at h2;cases h2⟩
  ·rintro⟨h1,h2⟩;exact⟨h1,by rw [dF0 h2];rfl⟩
 have hLn: ∀j∈L,j<c.n:=λj hj=>hDn j ((hLD j).mp hj).1;have hLnd:L.Nodup:=by rw [hL];exact List.Pairwise.filter _ hD.nd
 have hLl:L.length<=c.n:=zOH hLn hLnd;have hc1:yD (gNm 0) gX zBE [none,some (zC k)] [(ld,D.map zC)] (D.map zC) S=.ok (L.map zC) S:=by rw [hL];exact xQ (xD hd) λj _=>⟨[some (zC j),some (zC k)],rfl,by unfold gX;simp? [yNS],rfl⟩
 obtain⟨S1,hS1⟩: ∃S1:Sto,S1=S++[.lst (L.map zC)]:=⟨_,rfl⟩
 have hl1:(D.map zC).length<1000000:=by rw [lM];omega
 have f1:bA (RTr (zO (tsH c) (rlH c) (rsH c ord)) lp ld so ln ke ha (some (zC k)) le st) S=.ok (.next (RTr (zO (tsH c) (rlH c) (rsH c ord)) lp ld so ln ke ha (some (zC k)) (some (.loc S.length)) st)) S1:=by unfold bA;simp? [kB hd,hl1,show∀a b c d e f g h i j:Option MV,blk 1 [7] [a,b,c,d,e,f,g,h,i,j]=[none,h]from λ_ _ _ _ _ _ _ _ _ _=>rfl,hc1];rw [hS1]
 have H1:StH c pl lp ln S1:=by rw [hS1];exact⟨xR H.p,xR H.n⟩
 have hle:S1[S.length]? =some (.lst (L.map zC)):=by rw [hS1];exact wP _ _
 have hl2:(L.map zC).length<1000000:=by rw [lM];omega
 have hc2:yD (gNm 0) gY zBF [none,some (.loc ln),some (zC k)] [(S.length,L.map zC)] (L.map zC) S1=.ok ((L.filter λj=>decide (nxH c j=k)).map zC) S1:=xQ (xD hle) λj hj=>⟨[some (zC j),some (.loc ln),some (zC k)],rfl,by unfold gY;simp? [yIZ H1.n (hLn j hj),yNR],rfl⟩
 have f2:bB (RTr (zO (tsH c) (rlH c) (rsH c ord)) lp ld so ln ke ha (some (zC k)) (some (.loc S.length)) st) S1=.ok (.next (RTr (zO (tsH c) (rlH c) (rsH c ord)) lp ld so ln ke ha (some (zC k)) (some (.loc S.length)) (some (.bl (!L.any λj=>decide (nxH c j=k)))))) S1:=by unfold bB;simp? [kB hle,hl2,show∀a b c d e f g h i j:Option MV,blk 1 [4,7] [a,b,c,d,e,f,g,h,i,j]=[none,e,h]from λ_ _ _ _ _ _ _ _ _ _=>rfl,hc2,yMV,List.isEmpty_map,zWX]
 have hc3:yD (gNm 0) zBG gZ [none,some (.loc lp)] [(S.length,L.map zC)] (L.map zC) S1=.ok ((L.map pl).map zC) S1:=by rw [map_map];exact yT (xD hle) λj hj=>⟨[some (zC j),some (.loc lp)],rfl,rfl,by unfold gZ;simp? [yOO H1 (hLn j hj)];rfl⟩
 have f3:bC (RTr (zO (tsH c) (rlH c) (rsH c ord)) lp ld so ln ke ha (some (zC k)) (some (.loc S.length)) (some (.bl (!L.any λj=>decide (nxH c j=k))))) S1=.ok (.next (RTr (zO (tsH c) (rlH c) (rsH c ord)) lp ld (.tup ((plS c ord L).map zC)) ln ke ha (some (zC k)) (some (.loc S.length)) (some (.bl (!L.any λj=>decide (nxH c j=k)))))) S1:=by unfold bC;simp? [kB hle,hl2,show∀a b c d e f g h i j:Option MV,blk 1 [1] [a,b,c,d,e,f,g,h,i,j]=[none,b]from λ_ _ _ _ _ _ _ _ _ _=>rfl,hc3,yJD h hp P hLn hLnd,zLT]
 have hg:gdH c ord (plS c ord L)= !L.any λj=>decide (nxH c j=k):=by
  rw [yJC hp hLn,Bool.eq_iff_iff,all_eq_true,not_eq_true',any_eq_false];constructor
  ·intro hh j hj z;have:=hh j hj;rw [aE]at this;exact((hLD _).mp (of_decide_eq_true this.2)).2 (of_decide_eq_true z)
  ·intro hh j hj;have hjD:=((hLD j).mp hj).1;rw [aE];exact⟨by rw [dF0 (hD.sub j hjD).2.2];rfl,dT0 ((hLD _).mpr ⟨hD.nx j hjD,λz=>hh j hj (dT0 z)⟩)⟩
 have hgo:=zTT h hp (yCI (c:=c) (ord:=ord) L) (zWU L) S1;rw [hg]at hgo;refine⟨.tup ((plS c ord L).map zC),some (.loc S.length),some (.bl (!L.any λj=>decide (nxH c j=k))),[.lst (L.map zC)],?_⟩;rw [<-hS1];unfold gA;rw [zG f1,zG f2,zG f3];unfold zBH;simp? [hgo,zWW,beq_self_eq_true,Bool.not_true,fT0,iF]
theorem yJF(h:OkH c)(hp:ord.Perm (List.range c.n))(P:PlH c ord pl){D:Ab}{In:Nat->Prop}(hD:DueH c In D){lp ld ln:Nat}{ke ha:Bi}: ∀(ks:Ab),(∀k∈ks,k∈D)-> ∀(S:Sto)(so:MV)(k le st:Bi),StH c pl lp ln S->S[ld]? =some (.lst (D.map zC))->
  ∃so' k' le' st' T,bT (gNm 7) gA [] (ks.map zC) (RTr (zO (tsH c) (rlH c) (rsH c ord)) lp ld so ln ke ha k le st) S=.ok (.next (RTr (zO (tsH c) (rlH c) (rsH c ord)) lp ld so' ln ke ha k' le' st')) (S++T)
 |[],_,S,so,k,le,st,_,_=>⟨so,k,le,st,[],by rw [aN];rfl⟩
 |j::ks,hk,S,so,k,le,st,H,hd=>by obtain⟨so1,le1,st1,T1,e1⟩:=yNT h hp P hD H hd (hk j mF0) so ke ha le st;obtain⟨so',k',le',st',T,e⟩:=yJF h hp P hD ks (λi hi=>hk i (mO _ hi)) (S++T1) so1 (some (zC j)) le1 st1 ⟨xR H.p,xR H.n⟩ (xR hd);refine⟨so',k',le',st',T1++T,?_⟩;rw [map_cons,bM (ρ0:=RTr (zO (tsH c) (rlH c) (rsH c ord)) lp ld so ln ke ha (some (zC j)) le st) rfl e1 (wO _),e,aA]
def e0H(c:Ch)(mi:Option Nat):List Nat:=(List.range c.n).filter λk=>!decide (mi=some k)
def zHI{mi:Option Nat}{k:Nat}:k∈e0H c mi↔k<c.n/\mi≠some k:=by
 unfold e0H;rw [mem_filter,mem_range];constructor
 ·rintro⟨h1,h2⟩;exact⟨h1,λz=>by rw [dT0 z]at h2;cases h2⟩
 ·rintro⟨h1,h2⟩;exact⟨h1,by rw [dF0 h2];rfl⟩
theorem yJG(h:OkH c)(hp:ord.Perm (List.range c.n))(P:PlH c ord pl)(mi:Option Nat){S:Sto}{lp ln:Nat}(H:StH c pl lp ln S):
  zU 5 cL [.val (zO (tsH c) (rlH c) (rsH c ord)),.val (.loc lp),.new ((dueH c mi).map zC),.val (.tup ((plS c ord (e0H c mi)).map zC)),.val (.loc ln)] S=.ok (.val (.bl true)) S:=by
 have h30:=h.n30;obtain⟨D,hDe⟩: ∃D,D=dueH c mi:=⟨_,rfl⟩
 obtain⟨E,hEe⟩: ∃E,E=e0H c mi:=⟨_,rfl⟩
 have hE: ∀k∈E,k<c.n:=λk hk=>by rw [hEe]at hk;exact(zHI.mp hk).1
 have hIn: ∀k,k<c.n->((∃i∈plS c ord E,oA ord i=k)↔mi≠some k):=λk hk=>by
  constructor
  ·rintro⟨i,hi,e⟩;have:=(zAP.mp hi).2;rw [e,hEe]at this;exact(zHI.mp this).2
  ·intro hm;obtain⟨i,hi,e⟩:=zWO hp hk;exact⟨i,zAP.mpr ⟨hi,by rw [e,hEe];exact zHI.mpr ⟨hk,hm⟩⟩,e⟩
 have hD:DueH c (λk=> ∃i∈plS c ord E,oA ord i=k) D:=by rw [hDe];exact ySQ mi hIn
 have hDE: ∀k∈D,k∈E:=λk hk=>by obtain⟨h1,h2,_⟩:=hD.sub k hk;rw [hEe];exact zHI.mpr ⟨h1,(hIn k h1).mp h2⟩
 have hDn: ∀j∈D,j<c.n:=λj hj=>(hD.sub j hj).1;have hDl:=zOH hDn hD.nd;rw [<-hDe, <-hEe];obtain⟨S1,hS1⟩: ∃S1:Sto,S1=S++[.lst (D.map zC)]:=⟨_,rfl⟩
 have H1:StH c pl lp ln S1:=by rw [hS1];exact⟨xR H.p,xR H.n⟩
 have hd:S1[S.length]? =some (.lst (D.map zC)):=by rw [hS1];exact wP _ _
 have hl1:(D.map zC).length<1000000:=by rw [lM];omega
 obtain⟨b,hb⟩: ∃b,b=zO (tsH c) (rlH c) (rsH c ord):=⟨_,rfl⟩
 have hc1:yD (gNm 0) zBD gW [none,some (.loc lp)] [(S.length,D.map zC)] (D.map zC) S1=.ok ((D.map pl).map zC) S1:=by rw [map_map];exact yT (xD hd) λj hj=>⟨[some (zC j),some (.loc lp)],rfl,rfl,by unfold gW;simp? [yOO H1 (hDn j hj)];rfl⟩
 have f1:dR (RTr b lp S.length (.tup ((plS c ord E).map zC)) ln none none none none none) S1=.ok (.next (RTr b lp S.length (.tup ((plS c ord E).map zC)) ln (some (.tup ((plS c ord D).map zC))) none none none none)) S1:=by unfold dR;simp? [kB hd,hl1,show∀a b c d e f g h i j:Option MV,blk 1 [1] [a,b,c,d,e,f,g,h,i,j]=[none,b]from λ_ _ _ _ _ _ _ _ _ _=>rfl,hc1,yJD h hp P hDn hD.nd,zLT]
 have hheld:=yNN h hp (yCI (c:=c) (ord:=ord) E) (zWU E) hD S1
 have hfil:(plS c ord E).filter (λi=>decide (oA ord i∈D))=plS c ord D:=by
  unfold plS;rw [filter_filter];refine filter_congr λi _=>?_;by_cases hi:oA ord i∈D
  ·rw [dT0 hi,dT0 (hDE _ hi)];rfl
  ·rw [dF0 hi];rfl
 rw [hfil, <-hb]at hheld;have hg1:=zTT h hp (yCI (c:=c) (ord:=ord) D) (zWU D) S1;have hgd:gdH c ord (plS c ord D)=true:=by rw [yJC hp hDn,all_eq_true];intro k hk;rw [dF0 (hD.sub k hk).2.2,dT0 (hD.nx k hk)];rfl
 rw [hgd, <-hb]at hg1;have hne:neF (.val (.tup ((plS c ord D).map zC))) (.val (.tup ((plS c ord D).map zC))) S1=.ok (.val (.bl false)) S1:=by rw [zYK (zWV _ _ _),dT0 rfl];rfl
 have f2:dS (RTr b lp S.length (.tup ((plS c ord E).map zC)) ln (some (.tup ((plS c ord D).map zC))) none none none none) S1=.ok (.next (RTr b lp S.length (.tup ((plS c ord E).map zC)) ln (some (.tup ((plS c ord D).map zC))) none none none none)) S1:=by unfold dS;simp? [hheld,hne,fT0,iF,hg1,show yHQ true (.val (.bl true)) (.val (.bl true)) S1=.ok (.val (.bl false)) S1 from rfl]
 have hg2:=zTT h hp (yCI (c:=c) (ord:=ord) E) (zWU E) S1
 have heq:gdH c ord (plS c ord E)=decide (plS c ord D=plS c ord E):=by
  rw [yJC hp hE,Bool.eq_iff_iff,all_eq_true,decide_eq_true_iff];constructor
  ·intro hh
   have hED: ∀k∈E,k∈D:=λk hk=>hD.top (λk=>k∈E) (λj hj=>by
    have h1:=hh j hj;rw [aE]at h1;refine⟨hE j hj,(hIn j (hE j hj)).mpr ?_,λz=>by rw [dT0 z]at h1;cases h1.1⟩;rw [hEe]at hj;exact(zHI.mp hj).2) (λj hj=>by
    have h1:=hh j hj;rw [aE]at h1;exact of_decide_eq_true h1.2) k hk
   unfold plS;exact filter_congr λi _=>dec_is ⟨λz=>hDE _ z,λz=>hED _ z⟩
  ·intro hh k hk;obtain⟨i,hi,e⟩:=zWO hp (hE k hk);have hiD:i∈plS c ord D:=by rw [hh];exact zAP.mpr ⟨hi,by rw [e];exact hk⟩
   have hkD:=(zAP.mp hiD).2;rw [e]at hkD;rw [dF0 (hD.sub k hkD).2.2,dT0 (hDE _ (hD.nx k hkD))];rfl
 rw [heq, <-hb]at hg2;have hte:eqF (.val (.tup ((plS c ord D).map zC))) (.val (.tup ((plS c ord E).map zC))) S1=.ok (.val (.bl (decide (plS c ord D=plS c ord E)))) S1:=zMN (zWV _ _ _);have f3:dU (RTr b lp S.length (.tup ((plS c ord E).map zC)) ln (some (.tup ((plS c ord D).map zC))) none none none none) S1=.ok (.next (RTr b lp S.length (.tup ((plS c ord E).map zC)) ln (some (.tup ((plS c ord D).map zC))) none none none none)) S1:=by unfold dU;simp? [hg2,hte,zWW,beq_self_eq_true,Bool.not_true,fT0,iF]
 have f4:dW (RTr b lp S.length (.tup ((plS c ord E).map zC)) ln (some (.tup ((plS c ord D).map zC))) none none none none) S1=.ok (.next (RTr b lp S.length (.tup ((plS c ord E).map zC)) ln (some (.tup ((plS c ord D).map zC))) (some (.int (((D.map zC).length:Int) / 2))) none none none)) S1:=by unfold dW;simp? [zLL hd,yLG (b:=2) (by decide) (by decide)]
 obtain⟨hf,hhf⟩: ∃hf:Int,hf=((D.map zC).length:Int) / 2:=⟨_,rfl⟩
 rw [<-hhf]at f4;obtain⟨ks,hks⟩: ∃ks,ks=wG D none (some 1)++wG D (some hf) (some (hf+1))++wG D (some (-1)) none:=⟨_,rfl⟩
 have hkD: ∀k∈ks,k∈D:=λk hk=>by
  rw [hks]at hk;rcases mem_append.mp hk with hk|hk
  ·rcases mem_append.mp hk with hk|hk
   ·exact cutL_mem hk
   ·exact cutL_mem hk
  ·exact cutL_mem hk
 have hcl: ∀a b,(wG D a b).length<=30:=λa b=>by unfold wG;rw [lT,length_drop];omega
 have had: ∀A B:List Nat,A.length<=100->B.length<=100->jH (.new (A.map zC)) (.new (B.map zC)) S1=.ok (.new ((A++B).map zC)) S1:=λA B ha hb=>by rw [yHI (show lsW S1 (.new (A.map zC))=some (A.map zC)from rfl) (show lsW S1 (.new (B.map zC))=some (B.map zC)from rfl) (fits (by rw [lM,lM];omega)),map_append]
 obtain⟨so',k',le',st',T,e5⟩:=yJF h hp P hD (ke:=some (.tup ((plS c ord D).map zC))) (ha:=some (.int hf)) ks hkD S1 (.tup ((plS c ord E).map zC)) none none none H1 hd;rw [<-hb]at e5;have f5:dX (RTr b lp S.length (.tup ((plS c ord E).map zC)) ln (some (.tup ((plS c ord D).map zC))) (some (.int hf)) none none none) S1=.ok (.next (RTr b lp S.length so' ln (some (.tup ((plS c ord D).map zC))) (some (.int hf)) k' le' st')) (S1++T):=by unfold dX;simp? [yJE hd,cutL_map,had _ _ (le_trans (hcl _ _) (by decide)) (le_trans (hcl _ _) (by decide)),had (wG D none (some 1)++wG D (some hf) (some (hf+1))) _ (by rw [lA];have h1:=hcl none (some 1);have h2:=hcl (some hf) (some (hf+1));omega) (le_trans (hcl _ _) (by decide)),zZI];rw [<-hks];exact e5
 refine zAT (T:=[.lst (D.map zC)]++T) rfl ?_ (yHE _ _) (λl=>by simp);rw [show zQ [.val (zO (tsH c) (rlH c) (rsH c ord)),.val (.loc lp),.new (D.map zC),.val (.tup ((plS c ord E).map zC)),.val (.loc ln)] S=([zO (tsH c) (rlH c) (rsH c ord),.loc lp,.loc S.length,.tup ((plS c ord E).map zC),.loc ln],S++[.lst (D.map zC)])from rfl, <-hb, <-aA, <-hS1];show yE (zCS (RTr b lp S.length (.tup ((plS c ord E).map zC)) ln none none none none none) S1)=_;unfold zCS;rw [zG f1,zG f2,zG f3,zG f4,zG f5];rfl
end
theorem zWY{S:Sto}{d:MV}(hd:pd d=true): ∀{ds:Bh},(∀y∈ds,pd y=true/\dpt y<40)->d∈ds-> ∃j,zMQ S d ds=some j/\ds[j]? =some d
 |[],_,h=>by cases h
 |y::ys,hy,h=>by
  have h1:=hy y mF0;unfold zMQ;rw [bP zI h1.1 hd (by unfold zI;exact h1.2)];show∃j,(if decide (y=d)=true then some 0 else(zMQ S d ys).map (· +1))=some j/\_;by_cases e:y=d
  ·exact⟨0,by rw [dT0 e,iP rfl],by rw [e];rfl⟩
  ·rcases mC.mp h with e'|m
   ·exact absurd e'.symm e
   ·obtain⟨j,j1,j2⟩:=zWY hd (λz hz=>hy z (mO _ hz)) m;exact⟨j+1,by rw [dF0 e,iN xF0,j1];rfl,by simpa using j2⟩
theorem yNU{S:Sto}{l:Nat}{ks:Bh}{d:MV}(hS:S[l]? =some (.lst ks))(hk: ∀y∈ks,pd y=true/\dpt y<40)(hpu: ∀y∈ks,xZ y=true)(hd:d∈ks):
  ∃j,zQN (.val (.loc l)) [.val d] S=.ok (.val (.int (j:Nat))) S/\ks[j]? =some d:=by
 obtain⟨j,j1,j2⟩:=zWY (S:=S) (hk d hd).1 hk hd;refine⟨j,?_,j2⟩;unfold zQN;dsimp only;rw [bN hS];dsimp only;rw [iP (λx hx=>?_),j1];refine⟨hpu x hx,?_⟩;rw [bP zI (hk x hx).1 (hk d hd).1 (by have:=(hk x hx).2;unfold zI;omega)];rfl
theorem yNV(n:Nat):(zVI (n:Int)).map MV.int=(List.range n).map zC:=by unfold zVI;rw [toNat_natCast,map_map];rfl
theorem yCJ{Q:Nat->Nat->Prop}{S:Sto}{gf:MV->Rho->Sto->R Rho}{cf:AZ}{ef:AX}{ρb:Rho}{gs:Ca}(hs:stay gs S):
  ∀{ks:Ab},(∀k∈ks, ∃ρ1 j,gf (zC k) ρb S=.ok ρ1 S/\cf ρ1 S=.ok true S/\ef ρ1 S=.ok (.val (zC j)) S/\Q k j)-> ∃js:List Nat,yD gf cf ef ρb gs (ks.map zC) S=.ok (js.map zC) S/\js.length=ks.length/\ ∀(i k j:Nat),ks[i]? =some k->js[i]? =some j->Q k j
 |[],_=>⟨[],rfl,rfl,λi k j h _=>by simp at h⟩
 |k::ks,st=>by
  obtain⟨ρ1,j,h1,h2,h3,h4⟩:=st k mF0;obtain⟨js,e,hl,hq⟩:=yCJ (Q:=Q) hs (ks:=ks) λd hd=>st d (mO _ hd);refine⟨j::js,?_,by rw [lC,lC,hl],λi a b ha hb=>?_⟩
  ·rw [map_cons];unfold yD;rw [h1,yL,bok,h2,yL,bok,iP rfl,h3,yL,bok];unfold gI;rw [bok,iP hs,e];rfl
  ·cases i with
   |zero=>cases ha;cases hb;exact h4
   |succ i=>exact hq i a b ha hb
abbrev Lv(sc:Bh)(a b c d e f g h i j k l m n o p q:Bi):Rho:=[some (.scr sc),a,b,c,d,e,f,g,h,i,j,k,l,m,n,o,p,q]
theorem zWZ: ∀{o:Bh},(∀y∈o, ∃i:Int,y=.int i)-> ∃ys:List Int,o=ys.map MV.int
 |[],_=>⟨[],rfl⟩
 |a::o,h=>by obtain⟨x,rfl⟩:=h a mF0;obtain⟨ys,rfl⟩:=zWZ λy hy=>h y (mO _ hy);exact⟨x::ys,rfl⟩
theorem yJH(ns:Ad)(h:ns.length<=63): ∃S,zVR [.scr (ns.map MV.int)] []=.ok (.val (.bl true)) S:=by
 obtain⟨sc,hsc⟩: ∃sc,sc=ns.map MV.int:=⟨_,rfl⟩
 have cell: ∀(k:Int),0<=k-> ∀S, ∃c,zU 2 yK [.val (.scr sc),.val (.int k)] S=.ok (.val (.int c)) S:=λk hk S=>by rw [hsc];exact yMW ns k hk S
 rw [<-hsc];obtain⟨out,hco,hol,hom⟩:=zUY (S:=[]) (gf:=gNm 0) (cf:=zRA) (ef:=zJS) (ρb:=[none,some (.scr sc)]) (gs:=[]) (P:=λy=> ∃i:Int,y=.int i) (wO _) (ds:=(List.range 4).map zC) λd hd=>by obtain⟨k,hk,rfl⟩:=mM.mp hd;obtain⟨c,hc⟩:=cell (k:Int) (by omega) [];refine⟨[some (zC k),some (.scr sc)],.int c,rfl,rfl,?_,⟨c,rfl⟩⟩;unfold zJS;simp? [show zC k=.int (k:Int)from rfl,hc]
 obtain⟨cs,rfl⟩:=zWZ hom;rw [lM,lM,length_range]at hol;obtain⟨S1,hS1⟩: ∃S1:Sto,S1=[.lst (cs.map MV.int)]:=⟨_,rfl⟩
 have f1:zSQ (Lv sc none none none none none none none none none none none none none none none none none) []=.ok (.next (Lv sc (some (.loc 0)) none none none none none none none none none none none none none none none none)) S1:=by unfold zSQ;simp? [show zAS [.val (.int 4)] []=.ok ⟨(List.range 4).map zC,[]⟩ []from zZJ (n:=4) (by decide) [],show((List.range 4).map zC).length<1000000 by decide,show∀a b c d e f g h i j k l m n o p q r:Option MV,blk 1 [0] [a,b,c,d,e,f,g,h,i,j,k,l,m,n,o,p,q,r]=[none,a]from λ_ _ _ _ _ _ _ _ _ _ _ _ _ _ _ _ _ _=>rfl,hco];rw [hS1];rfl
 have h10:S1[0]? =some (.lst (cs.map MV.int)):=by rw [hS1];rfl
 have cAt: ∀{S:Sto},S[0]? =some (.lst (cs.map MV.int))-> ∀j:Nat,j<4->ixF (.val (.loc 0)) (.val (.int (j:Int))) S=.ok (.val (.int ((cs[j]?).getD 0))) S:=λ{S} hS j hj=>zJF hS (bF (by rw [getElem?_map,gE0 (show j<cs.length by omega)];rfl));have c1:=cAt h10 1 (by decide);have c0:=cAt h10 0 (by decide);have c2:=cAt h10 2 (by decide);obtain⟨x0,hx0⟩: ∃x,x=(cs[0]?).getD 0:=⟨_,rfl⟩
 obtain⟨x1,hx1⟩: ∃x,x=(cs[1]?).getD 0:=⟨_,rfl⟩
 obtain⟨x2,hx2⟩: ∃x,x=(cs[2]?).getD 0:=⟨_,rfl⟩
 obtain⟨x3,hx3⟩: ∃x,x=(cs[3]?).getD 0:=⟨_,rfl⟩
 rw [<-hx0]at c0;rw [<-hx1]at c1;rw [<-hx2]at c2;have c0:ixF (.val (.loc 0)) (.val (.int 0)) S1=.ok (.val (.int x0)) S1:=c0;have c1:ixF (.val (.loc 0)) (.val (.int 1)) S1=.ok (.val (.int x1)) S1:=c1;have c2:ixF (.val (.loc 0)) (.val (.int 2)) S1=.ok (.val (.int x2)) S1:=c2;obtain⟨m4,p4,e4⟩:=zCT x1 4 (by decide) S1;obtain⟨m5,p5,e5⟩:=zCT x1 5 (by decide) S1;obtain⟨m6,p6,e6⟩:=zCT x1 6 (by decide) S1;obtain⟨m1,p1,e1⟩:=zCT x0 1 (by decide) S1;obtain⟨m2,p2,e2⟩:=zCT x0 2 (by decide) S1;obtain⟨m7,p7,e7⟩:=zCT x2 7 (by decide) S1;obtain⟨m8,p8,e8⟩:=zCT x2 8 (by decide) S1;have q4a:=eN m4 (show(30:Int)≠0 by decide);have q4b:=eL m4 (show(0:Int)<30 by decide);obtain⟨n,hn⟩: ∃n:Nat,(n:Int)=1+m4 % 30:=⟨(1+m4 % 30).toNat,by omega⟩
 have f2:zSR (Lv sc (some (.loc 0)) none none none none none none none none none none none none none none none none) S1=.ok (.next (Lv sc (some (.loc 0)) (some (zC n)) none none none none none none none none none none none none none none none)) S1:=by unfold zSR;simp? [c1,e4,mod_lit (show(0:Int)<30 by decide), <-hn];rfl
 have q5a:=eN m5 (show(2:Int)≠0 by decide);have q5b:=eL m5 (show(0:Int)<2 by decide)
 obtain⟨two,htwo⟩: ∃two:Nat,(two:Int)=if(n:Int) - 1<m5 % 2 then(n:Int) - 1 else m5 % 2:=by
  split
  ·exact⟨n - 1,by omega⟩
  ·exact⟨(m5 % 2).toNat,by omega⟩
 have ht1:two<=1/\two<n:=by split at htwo<;>omega
 have f3:zSS (Lv sc (some (.loc 0)) (some (zC n)) none none none none none none none none none none none none none none none) S1=.ok (.next (Lv sc (some (.loc 0)) (some (zC n)) (some (zC two)) none none none none none none none none none none none none none none)) S1:=by unfold zSS;simp? [c1,e5,mod_lit (show(0:Int)<2 by decide),show zC n=.int (n:Int)from rfl,show∀i j:Int,yDS [.val (.int i),.val (.int j)] S1=.ok (.val (.int (if j<i then j else i))) S1 from λ_ _=>rfl, <-htwo];rfl
 have q6a:=eN m6 (show(4:Int)≠0 by decide)
 obtain⟨ends,hends⟩: ∃ends:Nat,(ends:Int)=if m6 % 4<1 then m6 % 4 else 1:=by
  split
  ·exact⟨0,by omega⟩
  ·exact⟨1,by omega⟩
 have he1:ends<=1:=by split at hends<;>omega
 have f4:zST (Lv sc (some (.loc 0)) (some (zC n)) (some (zC two)) none none none none none none none none none none none none none none) S1=.ok (.next (Lv sc (some (.loc 0)) (some (zC n)) (some (zC two)) (some (zC ends)) none none none none none none none none none none none none none)) S1:=by unfold zST;simp? [c1,e6,mod_lit (show(0:Int)<4 by decide),show∀i j:Int,yDS [.val (.int i),.val (.int j)] S1=.ok (.val (.int (if j<i then j else i))) S1 from λ_ _=>rfl, <-hends];rfl
 have hp9:powF (.val (.int 10)) (.val (.int 9)) S1=.ok (.val (.int (10 ^ 9))) S1:=yLI (by unfold yGQ;decide+kernel) S1
 obtain⟨low,f5,hl0,hl1⟩: ∃low:Int,zSU (Lv sc (some (.loc 0)) (some (zC n)) (some (zC two)) (some (zC ends)) none none none none none none none none none none none none none) S1=.ok (.next (Lv sc (some (.loc 0)) (some (zC n)) (some (zC two)) (some (zC ends)) (some (.int low)) none none none none none none none none none none none none)) S1/\ -4<=low/\low<1000000000:=by
  have q2a:=eN m2 (show(2:Int)≠0 by decide);have q2b:=eL m2 (show(0:Int)<2 by decide);have h01:m2 % 2=0\/m2 % 2=1:=by omega
  unfold zSU;rcases h01 with z|z
  ·have r1:=eN m1 (show(9:Int)≠0 by decide);have r2:=eL m1 (show(0:Int)<9 by decide);refine⟨m1 % 9 - 4,?_,by omega,by omega⟩;simp? [c0,e1,e2,hp9,yDN,mod_lit (show(0:Int)<2 by decide),z,zSH (S:=S1) (ds:=[.int 9,.int (10 ^ 9)]) (i:=0) (d:=.int 9) rfl,mod_lit (show(0:Int)<9 by decide)]
  ·have r1:=eN m1 (show(10 ^ 9:Int)≠0 by decide);have r2:=eL m1 (show(0:Int)<10 ^ 9 by decide);refine⟨m1 % 10 ^ 9 - 4,?_,by omega,by omega⟩;simp? [c0,e1,e2,hp9,yDN,mod_lit (show(0:Int)<2 by decide),z,zSH (S:=S1) (ds:=[.int 9,.int (10 ^ 9)]) (i:=1) (d:=.int (10 ^ 9)) rfl,mod_lit (show(0:Int)<10 ^ 9 by decide)]
 obtain⟨bar,f6,hbr⟩: ∃bar:Option Nat,zSV (Lv sc (some (.loc 0)) (some (zC n)) (some (zC two)) (some (zC ends)) (some (.int low)) none none none none none none none none none none none none) S1=.ok (.next (Lv sc (some (.loc 0)) (some (zC n)) (some (zC two)) (some (zC ends)) (some (.int low)) (some (oM bar)) none none none none none none none none none none none)) S1/\ ∀b,bar=some b->b<n:=by
  have q8a:=eN m8 (show(2:Int)≠0 by decide);have q8b:=eL m8 (show(0:Int)<2 by decide);have h01:m8 % 2=0\/m8 % 2=1:=by omega
  have r1:=eN m7 (show(n:Int)≠0 by omega);have r2:=eL m7 (show(0:Int)<n by omega);unfold zSV;rcases h01 with z|z
  ·refine⟨none,?_,λb hb=>by cases hb⟩;simp? [c2,e7,e8,show zC n=.int (n:Int)from rfl,mod_lit (b:=(n:Int)) (by omega),yDN,mod_lit (show(0:Int)<2 by decide),z,zSH (S:=S1) (ds:=[.non,.int (m7 % (n:Int))]) (i:=0) (d:=.non) rfl];rfl
  ·refine⟨some (m7 % (n:Int)).toNat,?_,λb hb=>by have:=Option.some.inj hb;omega⟩;simp? [c2,e7,e8,show zC n=.int (n:Int)from rfl,mod_lit (b:=(n:Int)) (by omega),yDN,mod_lit (show(0:Int)<2 by decide),z,zSH (S:=S1) (ds:=[.non,.int (m7 % (n:Int))]) (i:=1) (d:=.int (m7 % (n:Int))) rfl];rw [show oM (some (m7 % (n:Int)).toNat)=.int (m7 % (n:Int))from congrArg MV.int (Int.toNat_of_nonneg r1)]
 obtain⟨c,hc⟩: ∃c:Ch,c=⟨n,two,ends,low,bar⟩:=⟨_,rfl⟩
 have cn:n=c.n:=by rw [hc]
 have ct:two=c.two:=by rw [hc]
 have ce:ends=c.ends:=by rw [hc]
 have cl:low=c.low:=by rw [hc]
 have cb:bar=c.bar:=by rw [hc]
 have ok:OkH c:=⟨by omega,by omega,by omega,by omega,by omega,by omega,by omega,λb hb=>by rw [<-cb]at hb;rw [<-cn];exact hbr b hb⟩
 rw [cn,ct,ce,cl,cb]at f6;obtain⟨S2,hS2⟩: ∃S2:Sto,S2=S1++[.lst (((List.range c.n).map (nxH c)).map zC)]:=⟨_,rfl⟩
 have hl1':S1.length=1:=by rw [hS1];rfl
 have f7:zSW (Lv sc (some (.loc 0)) (some (zC c.n)) (some (zC c.two)) (some (zC c.ends)) (some (.int c.low)) (some (oM c.bar)) none none none none none none none none none none none) S1=.ok (.next (Lv sc (some (.loc 0)) (some (zC c.n)) (some (zC c.two)) (some (zC c.ends)) (some (.int c.low)) (some (oM c.bar)) (some (.loc 1)) none none none none none none none none none none)) S2:=by unfold zSW;simp? [yIY ok];rw [hS2,hl1']
 have hN2:S2[1]? =some (.lst (((List.range c.n).map (nxH c)).map zC)):=by rw [hS2, <-hl1'];exact wP _ _
 have hl2:S2.length=2:=by rw [hS2,lA,hl1'];rfl
 have hbk:=yJB ok hN2;rw [hl2]at hbk;obtain⟨S3,hS3⟩: ∃S3:Sto,S3=S2++[.lst ((rlH c).map zM),.lst (((List.range c.n).map (rwH c)).map zK)]:=⟨_,rfl⟩
 rw [<-hS3]at hbk;have f8:zSX (Lv sc (some (.loc 0)) (some (zC c.n)) (some (zC c.two)) (some (zC c.ends)) (some (.int c.low)) (some (oM c.bar)) (some (.loc 1)) none none none none none none none none none none) S2=.ok (.next (Lv sc (some (.loc 0)) (some (zC c.n)) (some (zC c.two)) (some (zC c.ends)) (some (.int c.low)) (some (oM c.bar)) (some (.loc 1)) (some (.tup ((tsH c).map tbl))) (some (.tup ((rlH c).map zM))) (some (.loc 3)) none none none none none none none)) S3:=by unfold zSX;simp? [hbk,yBF];rfl
 have h30:S3[0]? =some (.lst (cs.map MV.int)):=by rw [hS3,hS2];exact xR (xR h10)
 have hN3:S3[1]? =some (.lst (((List.range c.n).map (nxH c)).map zC)):=by rw [hS3];exact xR hN2
 have hR3:S3[3]? =some (.lst (((List.range c.n).map (rwH c)).map zK)):=by rw [hS3];have:=yID S2 (.lst ((rlH c).map zM)) (.lst (((List.range c.n).map (rwH c)).map zK));rw [hl2]at this;exact this
 have hl3:S3.length=4:=by rw [hS3,lA,hl2];rfl
 have c3:=cAt h30 3 (by decide);rw [<-hx3]at c3;have c3:ixF (.val (.loc 0)) (.val (.int 3)) S3=.ok (.val (.int x3)) S3:=c3;obtain⟨ord,hp,hord⟩:=yIX x3 ok.n30 S3;obtain⟨S4,hS4⟩: ∃S4:Sto,S4=S3++[.lst (ord.map zC)]:=⟨_,rfl⟩
 have f9:zSY (Lv sc (some (.loc 0)) (some (zC c.n)) (some (zC c.two)) (some (zC c.ends)) (some (.int c.low)) (some (oM c.bar)) (some (.loc 1)) (some (.tup ((tsH c).map tbl))) (some (.tup ((rlH c).map zM))) (some (.loc 3)) none none none none none none none) S3=.ok (.next (Lv sc (some (.loc 0)) (some (zC c.n)) (some (zC c.two)) (some (zC c.ends)) (some (.int c.low)) (some (oM c.bar)) (some (.loc 1)) (some (.tup ((tsH c).map tbl))) (some (.tup ((rlH c).map zM))) (some (.loc 3)) (some (.loc 4)) none none none none none none)) S4:=by unfold zSY;simp? [c3,hord];rw [hS4,hl3]
 have hO4:S4[4]? =some (.lst (ord.map zC)):=by rw [hS4, <-hl3];exact wP _ _
 have hR4:S4[3]? =some (.lst (((List.range c.n).map (rwH c)).map zK)):=by rw [hS4];exact xR hR3
 have hol:=zWM (c:=c) hp;have hn30:=ok.n30;have hn1:=ok.n1
 have hoc:yD (gNm 0) zRB zJT [none,some (.loc 3)] [(4,ord.map zC)] (ord.map zC) S4=.ok ((rsH c ord).map zK) S4:=by
  rw [map_map];refine yT (xD hO4) λk hk=>⟨[some (zC k),some (.loc 3)],rfl,rfl,?_⟩
  have hkn:=mem_range.mp (hp.mem_iff.mp hk);have:ixF (.val (.loc 3)) (.val (zC k)) S4=.ok (.val (zK (rwH c k))) S4:=zJF hR4 (bF (by rw [getElem?_map,getElem?_map,getElem?_range hkn];rfl));unfold zJT;simp? [this];rfl
 obtain⟨bk,hbke⟩: ∃bk,bk=zO (tsH c) (rlH c) (rsH c ord):=⟨_,rfl⟩
 have f10:zNQ (Lv sc (some (.loc 0)) (some (zC c.n)) (some (zC c.two)) (some (zC c.ends)) (some (.int c.low)) (some (oM c.bar)) (some (.loc 1)) (some (.tup ((tsH c).map tbl))) (some (.tup ((rlH c).map zM))) (some (.loc 3)) (some (.loc 4)) none none none none none none) S4=.ok (.next (Lv sc (some (.loc 0)) (some (zC c.n)) (some (zC c.two)) (some (zC c.ends)) (some (.int c.low)) (some (oM c.bar)) (some (.loc 1)) (some (.tup ((tsH c).map tbl))) (some (.tup ((rlH c).map zM))) (some (.loc 3)) (some (.loc 4)) (some bk) none none none none none)) S4:=by unfold zNQ;simp? [kB hO4,show(ord.map zC).length<1000000 by rw [lM];omega,show∀a b c d e f g h i j k l m n o p q r:Option MV,blk 1 [10] [a,b,c,d,e,f,g,h,i,j,k,l,m,n,o,p,q,r]=[none,k]from λ_ _ _ _ _ _ _ _ _ _ _ _ _ _ _ _ _ _=>rfl,hoc,zLT,tup3];rw [hbke];rfl
 obtain⟨js,hjc,hjl,hjq⟩:=yCJ (Q:=λk j=>j<c.n/\oA ord j=k) (S:=S4) (gf:=gNm 0) (cf:=zRC) (ef:=zJU) (ρb:=[none,some (.loc 4)]) (gs:=[]) (wO _) (ks:=List.range c.n) λk hk=>by
  obtain⟨j,j1,j2⟩:=yNU (d:=zC k) hO4 (zWT ord) (λy hy=>by obtain⟨z,_,rfl⟩:=mM.mp hy;unfold zC xZ;rfl) (yCH.mpr (hp.mem_iff.mpr hk));have hjo:j<c.n:=by have:=(gS0.mp j2).1;rw [lM]at this;omega
  refine⟨[some (zC k),some (.loc 4)],j,rfl,rfl,?_,hjo,?_⟩
  ·unfold zJU;simp? [nU hO4,j1];rfl
  ·rw [getElem?_map,zWN hp hjo]at j2;exact zIK (Option.some.inj j2)
 rw [length_range]at hjl;obtain⟨pl,hpl⟩: ∃pl:Nat->Nat,pl=λk=>(js[k]?).getD 0:=⟨_,rfl⟩
 have hpj: ∀k,k<c.n->js[k]? =some (pl k):=λk hk=>by rw [hpl];show _=some ((js[k]?).getD 0);rw [gE0 (show k<js.length by omega)];rfl
 have PL:PlH c ord pl:=⟨λk hk=>(hjq k k _ (getElem?_range hk) (hpj k hk)).1,λk hk=>(hjq k k _ (getElem?_range hk) (hpj k hk)).2⟩
 have hjm:(List.range c.n).map pl=js:=by
  refine ext_getElem? λi=>?_;rw [getElem?_map];by_cases hi:i<c.n
  ·rw [getElem?_range hi,hpj i hi];rfl
  ·rw [getElem?_eq_none (by rw [length_range];omega),getElem?_eq_none (by omega)];rfl
 obtain⟨S5,hS5⟩: ∃S5:Sto,S5=S4++[.lst (((List.range c.n).map pl).map zC)]:=⟨_,rfl⟩
 have hl4:S4.length=5:=by rw [hS4,lA,hl3];rfl
 have f11:zNR (Lv sc (some (.loc 0)) (some (zC c.n)) (some (zC c.two)) (some (zC c.ends)) (some (.int c.low)) (some (oM c.bar)) (some (.loc 1)) (some (.tup ((tsH c).map tbl))) (some (.tup ((rlH c).map zM))) (some (.loc 3)) (some (.loc 4)) (some bk) none none none none none) S4=.ok (.next (Lv sc (some (.loc 0)) (some (zC c.n)) (some (zC c.two)) (some (zC c.ends)) (some (.int c.low)) (some (oM c.bar)) (some (.loc 1)) (some (.tup ((tsH c).map tbl))) (some (.tup ((rlH c).map zM))) (some (.loc 3)) (some (.loc 4)) (some bk) (some (.loc 5)) none none none none)) S5:=by unfold zNR;simp? [zZJ (n:=c.n) (by omega),show((List.range c.n).map zC).length<1000000 by rw [lM,length_range];omega,show∀a b c d e f g h i j k l m n o p q r:Option MV,blk 1 [11] [a,b,c,d,e,f,g,h,i,j,k,l,m,n,o,p,q,r]=[none,l]from λ_ _ _ _ _ _ _ _ _ _ _ _ _ _ _ _ _ _=>rfl,hjc];rw [hS5,hjm,hl4]
 have h50:S5[0]? =some (.lst (cs.map MV.int)):=by rw [hS5,hS4];exact xR (xR h30)
 have hO5:S5[4]? =some (.lst (ord.map zC)):=by rw [hS5];exact xR hO4
 have H5:StH c pl 5 1 S5:=⟨by rw [hS5, <-hl4];exact wP _ _,by rw [hS5,hS4];exact xR (xR hN3)⟩
 have c5:=cAt h50 3 (by decide);rw [<-hx3]at c5;have c5:ixF (.val (.loc 0)) (.val (.int 3)) S5=.ok (.val (.int x3)) S5:=c5;obtain⟨m9,p9,e9⟩:=zCT x3 9 (by decide) S5;have r1:=eN m9 (show(c.n:Int)≠0 by omega);obtain⟨mi,hmi⟩: ∃mi:Nat,(mi:Int)=m9 % (c.n:Int):=⟨(m9 % (c.n:Int)).toNat,by omega⟩
 have f12:zNS (Lv sc (some (.loc 0)) (some (zC c.n)) (some (zC c.two)) (some (zC c.ends)) (some (.int c.low)) (some (oM c.bar)) (some (.loc 1)) (some (.tup ((tsH c).map tbl))) (some (.tup ((rlH c).map zM))) (some (.loc 3)) (some (.loc 4)) (some bk) (some (.loc 5)) none none none none) S5=.ok (.next (Lv sc (some (.loc 0)) (some (zC c.n)) (some (zC c.two)) (some (zC c.ends)) (some (.int c.low)) (some (oM c.bar)) (some (.loc 1)) (some (.tup ((tsH c).map tbl))) (some (.tup ((rlH c).map zM))) (some (.loc 3)) (some (.loc 4)) (some bk) (some (.loc 5)) (some (zC mi)) none none none)) S5:=by unfold zNS;simp? [c5,e9,show zC c.n=.int (c.n:Int)from rfl,mod_lit (b:=(c.n:Int)) (by omega), <-hmi];rfl
 have htr:yAZ [.val (zC c.n)] S5=.ok (.val (.tup ((List.range c.n).map zC))) S5:=by show(if -1000000<=(c.n:Int)/\(c.n:Int)<=1000000 then R.ok (Er.val (.tup ((zVI (c.n:Int)).map MV.int))) S5 else .no)=_;rw [yNV,iP ⟨by omega,by omega⟩]
 obtain⟨lw,hlw⟩: ∃lw:Option MV->Option MV->Rho,lw=λa b=>Lv sc (some (.loc 0)) (some (zC c.n)) (some (zC c.two)) (some (zC c.ends)) (some (.int c.low)) (some (oM c.bar)) (some (.loc 1)) (some (.tup ((tsH c).map tbl))) (some (.tup ((rlH c).map zM))) (some (.loc 3)) (some (.loc 4)) (some bk) (some (.loc 5)) (some (zC mi)) (some (.tup ((List.range c.n).map zC))) a b:=⟨_,rfl⟩
 have f13:zNT (Lv sc (some (.loc 0)) (some (zC c.n)) (some (zC c.two)) (some (zC c.ends)) (some (.int c.low)) (some (oM c.bar)) (some (.loc 1)) (some (.tup ((tsH c).map tbl))) (some (.tup ((rlH c).map zM))) (some (.loc 3)) (some (.loc 4)) (some bk) (some (.loc 5)) (some (zC mi)) none none none) S5=.ok (.next (lw none none)) S5:=by unfold zNT;simp? [htr];rw [hlw]
 have turn: ∀(o:Option Nat)(b:Bi),zFQ (lw (some (oM o)) b) S5=.ok (.next (lw (some (oM o)) (some (.tup ((plS c ord (e0H c o)).map zC))))) S5:=λo b=>by
  have hcs:yD (gNm 0) zJV zRD [none,some (.loc 4),some (oM o)] [] ((List.range c.n).map zC) S5=.ok ((plS c ord (e0H c o)).map zC) S5:=by
   have hpe:plS c ord (e0H c o)=(List.range c.n).filter λi=>!decide (o=some (oA ord i)):=by
    unfold plS;refine filter_congr λi hi=>?_;have hin:=yES hp (mem_range.mp hi);by_cases hz:o=some (oA ord i)
    ·rw [dT0 hz,dF0 λz=>(zHI.mp z).2 hz];rfl
    ·rw [dF0 hz,dT0 (zHI.mpr ⟨hin,hz⟩)];rfl
   rw [hpe];exact xQ (wO _) λi hi=>⟨[some (zC i),some (.loc 4),some (oM o)],rfl,by have:ixF (.val (.loc 4)) (.val (zC i)) S5=.ok (.val (zC (oA ord i))) S5:=zJF hO5 (bF (by rw [getElem?_map,zWN hp (mem_range.mp hi)];rfl));unfold zJV;simp? [this,yON],rfl⟩
  have g1:zJW (lw (some (oM o)) b) S5=.ok (.next (lw (some (oM o)) (some (.tup ((plS c ord (e0H c o)).map zC))))) S5:=by rw [hlw];unfold zJW;simp? [nV,show((List.range c.n).map zC).length<1000000 by rw [lM,length_range];omega,show∀a b c d e f g h i j k l m n o p q r:Option MV,blk 1 [11,16] [a,b,c,d,e,f,g,h,i,j,k,l,m,n,o,p,q,r]=[none,l,q]from λ_ _ _ _ _ _ _ _ _ _ _ _ _ _ _ _ _ _=>rfl,hcs,zLT]
  have hri:=yJG ok hp PL o H5;rw [<-hbke]at hri;unfold zFQ;rw [zG g1];rw [hlw];unfold zRE;simp? [yNP ok o H5.n,hri,Bool.not_true,fT0,iF]
 have f14:zFB (lw none none) S5=.ok (.next (lw (some (oM (some mi))) (some (.tup ((plS c ord (e0H c (some mi))).map zC))))) S5:=by
  have hit:bT (gNm 16) zFQ [] [oM none,oM (some mi)] (lw none none) S5=.ok (.next (lw (some (oM (some mi))) (some (.tup ((plS c ord (e0H c (some mi))).map zC))))) S5:=by rw [bM (ρ0:=lw (some (oM none)) none) (S0:=S5) (by rw [hlw];rfl) (turn none none) (wO _),bM (ρ0:=lw (some (oM (some mi))) (some (.tup ((plS c ord (e0H c none)).map zC)))) (S0:=S5) (by rw [hlw];rfl) (turn (some mi) _) (wO _)];rfl
  have hu:zFB (lw none none) S5=bT (gNm 16) zFQ [] [oM none,oM (some mi)] (lw none none) S5:=by
   have hl14: ∀ρ:Rho,ρ=lw none none->zFB ρ S5=bT (gNm 16) zFQ [] [oM none,oM (some mi)] ρ S5:=λρ hρ=>by rw [hlw]at hρ;subst hρ;unfold zFB;simp? [yDN,zZI];rfl
   exact hl14 _ rfl
  rw [hu,hit]
 obtain⟨ds,hds,hbr2⟩:=yEV ok hp S5;rw [<-hbke]at hbr2
 have f15:zNU (lw (some (oM (some mi))) (some (.tup ((plS c ord (e0H c (some mi))).map zC)))) S5=.ok (.ret (.val (.bl true))) S5:=by
  have hnb:zHT (.val (oM c.bar)) (.val .non) S5=.ok (.val (.bl c.bar.isSome)) S5:=by cases c.bar<;>rfl
  have he0:decide ((c.ends:Int)=0)=decide (c.ends=0):=dec_is (by omega);have hsum:decide (((ds.length:Nat):Int)=(if c.bar.isSome=true then 1 else 0)+(if decide (c.ends=0)=true then 1 else 0))=true:=dT0 (by rw [hds];by_cases h1:c.bar.isSome=true<;>by_cases h2:c.ends=0<;>simp [h1,h2]);rw [hlw];unfold zNU;simp? [hbr2,show zFV [.new ds] S5=.ok (.val (.int (ds.length:Nat))) S5 from rfl,hnb,show∀b:Bool,yGZ [.val (.bl b)] S5=.ok (.val (.int (if b=true then 1 else 0))) S5 from λ_=>rfl,show zC c.ends=.int (c.ends:Int)from rfl,he0,hsum]
 refine⟨S5,?_⟩;rw [cn,ct,ce,cl]at f5;rw [cn,ct,ce]at f4;rw [cn,ct]at f3;rw [cn]at f2;show yE (yIB (Lv sc none none none none none none none none none none none none none none none none none) [])=_;unfold yIB;rw [zG f1,zG f2,zG f3,zG f4,zG f5,zG f6,zG f7,zG f8,zG f9,zG f10,zG f11,zG f12,zG f13,zG f14,f15];rfl
section
variable{P:Program}{w:World}{K:Be}{mg:Aj}{base:Heap}
def top(i:Nat):Stmt:=PySem.Challenge.pw_mendsure_k14_chains_of_ties.main.body.getD i (.Pass ⟨0,0,0,0⟩)
def yJI:FnScope ["self","parts"] ["self","parts"] (zE (inClass (top 7) 0)):=fsK (by decide+kernel)
abbrev zHJ:Stmt:=top 1
def zXA:FnScope ["thing"] ["thing"] (zE zHJ):=fsK (by decide+kernel)
def zXB(D:DefM K mg "is_whole" zHJ)(zKU:mg "int"=none)(xN:mg "isinstance"=none)(zHO:mg "bool"=none):(CalM P w K mg base) "is_whole" 1 1 ["thing"] dB:=
 by have h:=okC (P:=P) (w:=w) (base:=base) D (λ_ _ _ _ _ _ us hl=>match us,hl with |[_],_=>rfl) λf fd F=>okM (k:=0) _ F zXA λcdv A outer s H E hr=>(zN (zT (zMD (yM zMJ zYH rfl xN zAC (zB (zA 0) (zB (yGF rfl zKU zYI) zD))) (zRS (yQD (yM zMJ zYH rfl xN zAC (zB (zA 0) (zB (yGF rfl zHO yAR) zD))))))))
    exact h
abbrev zCX:Stmt:=top 3
def zPF:FnScope ["side","looked_at"] ["side","looked_at"] (zE zCX):=fsK (by decide+kernel)
def zPG(D:DefM K mg "side_value" zCX):(CalM P w K mg base) "side_value" 1 2 ["side","looked_at"] jP:=
 by have h:=okC (P:=P) (w:=w) (base:=base) D (λ_ _ _ _ _ _ us hl=>match us,hl with |[_,_],_=>rfl) λf fd F=>okM (k:=0) _ F zPF λcdv A outer s H E hr=>(zH (gD (zDZ hr.units (zS (zA 0) zF) (jF [105,115])) (zN (zT (zS (zA 0) zF))) wK) (zN (zT (zS (zS (zS (zA 1) (zS (zA 0) zF)) zF) (zS (zA 0) zF)))))
    exact h
abbrev zKD:Stmt:=top 4
def zHK:FnScope zQY ["looked_at","test"] (zE zKD):=fsK (by decide+kernel)
def zZK(D:DefM K mg "fulfils" zKD)(zIO:(CalM P w K mg base) "side_value" 1 2 ["side","looked_at"] jP)(zOV:(CalM P w K mg base) "is_whole" 1 1 ["thing"] dB):(CalM P w K mg base) "fulfils" 2 2 ["looked_at","test"] zFO:=
 by have h:=okC (P:=P) (w:=w) (base:=base) D (λ_ _ _ _ _ _ us hl=>match us,hl with |[_,_],_=>rfl) λf fd F=>okM (k:=1) _ F zHK λcdv A outer s H E hr=>(zH (yA 2 zHK.nd (zL zIO (hr.mono (by decide)) rfl (zB (zS (zA 1) zF) (zB (zA 0) zD)))) (zH (yA 3 zHK.nd (zL zIO (hr.mono (by decide)) rfl (zB (zS (zA 1) zF) (zB (zA 0) zD)))) (zH (gD (zDZ hr.units (zS (zA 1) zF) (jF [115,97,109,101])) (zN (zT (zKN hr.units (zA 2) (zA 3)))) wK) (zH (gD (zDZ hr.units (zS (zA 1) zF) (jF [117,110,108,105,107,101])) (zN (zT (pm_ne hr.units (zA 2) (zA 3)))) wK) (zN (zT (zMD (zL zOV (hr.mono (by decide)) rfl (zB (zA 2) zD)) (zMD (zL zOV (hr.mono (by decide)) rfl (zB (zA 3) zD)) (zRS (pm_lt hr.units (zA 2) (zA 3)))))))))))
    exact h
abbrev bG:Stmt:=top 5
def zOK:FnScope ["looked_at","tests"] ["looked_at","tests"] (zE bG):=fsK (by decide+kernel)
def zOL(D:DefM K mg "fulfils_all" bG)(yFC:(CalM P w K mg base) "fulfils" 2 2 ["looked_at","test"] zFO)(zXM:mg "all"=none):(CalM P w K mg base) "fulfils_all" 3 2 ["looked_at","tests"] kT:=
 by have h:=okC (P:=P) (w:=w) (base:=base) D (λ_ _ _ _ _ _ us hl=>match us,hl with |[_,_],_=>rfl) λf fd F=>okM (k:=2) _ F zOK λcdv A outer s H E hr=>(zN (zT (yM zRQ (yQL rfl) rfl zXM yQM (zB (yX (zE bG) ["looked_at","tests"] ["test"] [0] (zDY (zA 1)) rfl (λ_ _ _ _ hN=>(zW 0 hN)) (λ_ _ _ _=>xU) (λ_ _ _ _=>(zL yFC (hr.mono (by decide)) rfl (zB (zA 1) (zB (zA 0) zD))))) zD))))
    exact h
abbrev zCY:Stmt:=top 6
def zXC:FnScope ["row","columns"] ["row","columns"] (zE zCY):=fsK (by decide+kernel)
def zXD(D:DefM K mg "cells_in" zCY):(CalM P w K mg base) "cells_in" 1 2 ["row","columns"] dE:=
 by have h:=okC (P:=P) (w:=w) (base:=base) D (λ_ _ _ _ _ _ us hl=>match us,hl with |[_,_],_=>rfl) λf fd F=>okM (k:=0) _ F zXC λcdv A outer s H E hr=>(zN (zT (yX (zE zCY) ["row","columns"] ["column"] [0] (zDY (zA 1)) rfl (λ_ _ _ _ hN=>(zW 0 hN)) (λ_ _ _ _=>xU) (λ_ _ _ _=>(zS (zS (zA 1) zF) (zA 0))))))
    exact h
abbrev zKS:Stmt:=inClass (top 7) 1
def zTU:FnScope ["self","row"] ["self","row"] (zE zKS):=fsK (by decide+kernel)
def zTV{f:Addr}{fd:FuncData}(F:Fun K "bars" "Rule.bars" zKS f fd):FnOk P w K mg base CX0 1 f fd ["self","row"] (spM ⟨K,mg,P,w⟩ 2 jK):=
 by have h:=okM (P:=P) (w:=w) (mg:=mg) (base:=base) (k:=0) _ F zTU λcdv A outer s H E hr=>(zN (zT cT))
    exact h
abbrev nX:Stmt:=inClass (top 7) 2
def zHL:FnScope ["self","row","other"] ["self","row","other"] (zE nX):=fsK (by decide+kernel)
def zHM{f:Addr}{fd:FuncData}(F:Fun K "parts_them" "Rule.parts_them" nX f fd):FnOk P w K mg base CX0 1 f fd ["self","row","other"] (spM ⟨K,mg,P,w⟩ 3 yS):=
 by have h:=okM (P:=P) (w:=w) (mg:=mg) (base:=base) (k:=0) _ F zHL λcdv A outer s H E hr=>(zN (zT cT))
    exact h
abbrev zIL:Stmt:=inClass (top 7) 3
def zPH:FnScope ["self","row","rows"] ["self","row","rows"] (zE zIL):=fsK (by decide+kernel)
def zPI{f:Addr}{fd:FuncData}(F:Fun K "lacks" "Rule.lacks" zIL f fd):FnOk P w K mg base CX0 1 f fd ["self","row","rows"] (spM ⟨K,mg,P,w⟩ 3 kD):=
 by have h:=okM (P:=P) (w:=w) (mg:=mg) (base:=base) (k:=0) _ F zPH λcdv A outer s H E hr=>(zN (zT cT))
    exact h
abbrev zIM:Stmt:=inClass (top 8) 0
def zPJ:FnScope ["self","row"] ["self","row"] (zE zIM):=fsK (by decide+kernel)
def zPK{f:Addr}{fd:FuncData}(F:Fun K "bars" "Never.bars" zIM f fd)(fl_parts:FlB K OCS "parts")(zPS:(CalM P w K mg base) "fulfils_all" 3 2 ["looked_at","tests"] kT):FnOk P w K mg base CX0 4 f fd ["self","row"] (spM ⟨K,mg,P,w⟩ 2 zCC):=
 by have h:=okM (P:=P) (w:=w) (mg:=mg) (base:=base) (k:=3) _ F zPJ λcdv A outer s H E hr=>(zN (zT (zMD (zKN hr.units (zS (zA 1) zF) (zS (zFN fl_parts (zA 0)) zF)) (zRS (zL zPS (hr.mono (by decide)) rfl (zB (cU (zB (zA 1) zD)) (zB (zS (zFN fl_parts (zA 0)) zF) zD)))))))
    exact h
abbrev gE:Stmt:=inClass (top 9) 0
def zCZ:FnScope ["self","row","other"] ["self","row","other"] (zE gE):=fsK (by decide+kernel)
def zDA{f:Addr}{fd:FuncData}(F:Fun K "parts_in_turn" "Apart.parts_in_turn" gE f fd):FnOk P w K mg base CX0 1 f fd ["self","row","other"] (spM ⟨K,mg,P,w⟩ 3 zDR):=
 by have h:=okM (P:=P) (w:=w) (mg:=mg) (base:=base) (k:=0) _ F zCZ λcdv A outer s H E hr=>(zH zME (zN zME))
    exact h
abbrev nB:Stmt:=inClass (top 9) 1
def zFZ:FnScope ["self","row","other"] ["self","row","other"] (zE nB):=fsK (by decide+kernel)
def zGA{f:Addr}{fd:FuncData}(F:Fun K "parts_them" "Apart.parts_them" nB f fd):FnOk P w K mg base CX0 1 f fd ["self","row","other"] (spM ⟨K,mg,P,w⟩ 3 dF):=
 by have h:=okM (P:=P) (w:=w) (mg:=mg) (base:=base) (k:=0) _ F zFZ λcdv A outer s H E hr=>(zN zME)
    exact h
abbrev zKT:Stmt:=inClass (top 10) 0
def zDB:FnScope zKQ ["self","row","rows"] (zE zKT):=fsK (by decide+kernel)
def zTW{f:Addr}{fd:FuncData}(F:Fun K "lacks" "Tie.lacks" zKT f fd)(fl_parts:FlB K OCS "parts")(zOT:(CalM P w K mg base) "cells_in" 1 2 ["row","columns"] dE):FnOk P w K mg base CX0 2 f fd ["self","row","rows"] (spM ⟨K,mg,P,w⟩ 3 nQ):=
 by have h:=okM (P:=P) (w:=w) (mg:=mg) (base:=base) (k:=1) _ F zDB λcdv A outer s H E hr=>(zH (gD (zQI hr.units (zS (zA 1) zF) (zS (zFN fl_parts (zA 0)) zF)) (zN (zT cT)) wK) (zH (yA 3 zDB.nd (zL zOT (hr.mono (by decide)) rfl (zB (zA 1) (zB (zS (zFN fl_parts (zA 0)) zF) zD)))) (zH (cV PassesOwn.never rfl (xL (zA 2)) (xK 4 zDB.nd) (zN (gD (yAH (zYD (zDZ hr.units (zS (zA 4) zF) (zS (zFN fl_parts (zA 0)) zF)) (zRT (zDZ hr.units (zL zOT (hr.mono (by decide)) rfl (zB (zA 4) (zB (zS (zFN fl_parts (zA 0)) zF) zD))) (zA 3))))) (zN (zT cT)) wK))) (zN (zT cT)))))
    exact h
abbrev zKE:Stmt:=top 11
def zZL:FnScope ["parts"] ["parts"] (zE zKE):=fsK (by decide+kernel)
def zZM(D:DefM K mg "rule_of" zKE)(mkb_Never:MkB P w K mg base "Never" "parts")(mkb_Apart:MkB P w K mg base "Apart" "parts")(mkb_Tie:MkB P w K mg base "Tie" "parts"):(CalM P w K mg base) "rule_of" 3 1 ["parts"] zFP:=
 by have h:=okC (P:=P) (w:=w) (base:=base) D (λ_ _ _ _ _ _ us hl=>match us,hl with |[_],_=>rfl) λf fd F=>okM (k:=2) _ F zZL λcdv A outer s H E hr=>(zH (gD (zDZ hr.units (zS (zA 0) zF) (jF [110,101,118,101,114])) (zN (zT (zMV mkb_Never (hr.mono (by decide)) rfl (zA 0)))) wK) (zH (gD (zDZ hr.units (zS (zA 0) zF) (jF [97,112,97,114,116])) (zN (zT (zMV mkb_Apart (hr.mono (by decide)) rfl (zA 0)))) wK) (zN (zT (zMV mkb_Tie (hr.mono (by decide)) rfl (zA 0))))))
    exact h
abbrev zDC:Stmt:=top 13
def zXE:FnScope ["book"] ["book"] (zE zDC):=fsK (by decide+kernel)
def zXF(D:DefM K mg "rules_of" zDC)(yFB:(CalM P w K mg base) "rule_of" 3 1 ["parts"] zFP):(CalM P w K mg base) "rules_of" 4 1 ["book"] wU:=
 by have h:=okC (P:=P) (w:=w) (base:=base) D (λ_ _ _ _ _ _ us hl=>match us,hl with |[_],_=>rfl) λf fd F=>okM (k:=3) _ F zXE λcdv A outer s H E hr=>(zN (zT (yX (zE zDC) ["book"] ["parts"] [] (zDY (zS (zA 0) zF)) rfl (λ_ _ _ _ hN=>(zW 0 hN)) (λ_ _ _ _=>xU) (λ_ _ _ _=>(zL yFB (hr.mono (by decide)) rfl (zB (zA 0) zD))))))
    exact h
abbrev zDD:Stmt:=top 14
def nY:FnScope zGR ["rows"] (zE zDD):=fsK (by decide+kernel)
def zXG(D:DefM K mg "pairs_of" zDD)(yG:mg "enumerate"=none):(CalM P w K mg base) "pairs_of" 1 1 ["rows"] zCH:=
 by have h:=okC (P:=P) (w:=w) (base:=base) D (λ_ _ _ _ _ _ us hl=>match us,hl with |[_],_=>rfl) λf fd F=>okM (k:=0) _ F nY λcdv A outer s H E hr=>(zH (yA 1 nY.nd (cU zD)) (zH (cV PassesOwn.never rfl (zFK rfl yG (zB (zA 0) zD)) (zRW (n:=2) rfl (cF (xK 2 nY.nd) (cF (xK 3 nY.nd) zRV))) (zN (nL (zJN (zA 1) (zB (yX (zE zDD) zGR ["j"] [3] (zDY (zJA (zA 0) (zBR (xH (zA 2) zF)) zHQ)) rfl (λ_ _ _ _ hN=>(zW 0 hN)) (λ_ _ _ _=>xU) (λ_ _ _ _=>(yO (zB (zA 1) (zB (zA 0) zD))))) zD))))) (zN (zT (zA 1)))))
    exact h
abbrev zOM:Stmt:=top 15
def yEX:FnScope ["tables","row"] ["tables","row"] (zE zOM):=fsK (by decide+kernel)
def yEY(D:DefM K mg "key_of" zOM):(CalM P w K mg base) "key_of" 1 2 ["tables","row"] zEQ:=
 by have h:=okC (P:=P) (w:=w) (base:=base) D (λ_ _ _ _ _ _ us hl=>match us,hl with |[_,_],_=>rfl) λf fd F=>okM (k:=0) _ F yEX λcdv A outer s H E hr=>(zN (zT (yO (zB (zS (zA 1) zF) (zB (zJA (zS (zA 1) zF) zHQ (zBR (zS (zS (zA 0) (zS (zA 1) zF)) zF))) zD)))))
    exact h
abbrev xI:Stmt:=top 16
def kF:FnScope wH ["book","rules","rows","i"] (zE xI):=fsK (by decide+kernel)
def zKF(D:DefM K mg "breaks_of_one" xI)(yG:mg "enumerate"=none)(T_bars:MtB P w K mg base "bars" 4 2 bE)(T_lacks:MtB P w K mg base "lacks" 2 3 kW):(CalM P w K mg base) "breaks_of_one" 5 4 ["book","rules","rows","i"] jA:=
 by have h:=okC (P:=P) (w:=w) (base:=base) D (λ_ _ _ _ _ _ us hl=>match us,hl with |[_,_,_,_],_=>rfl) λf fd F=>okM (k:=4) _ F kF λcdv A outer s H E hr=>(zH (yA 4 kF.nd (zS (zS (zA 0) zF) (zA 3))) (zH (yA 5 kF.nd (yX (zE xI) wH ["j"] [0] (zDY (zA 2)) rfl (λ_ _ _ _ hN=>(zW 0 hN)) (λ_ _ _ _=>xU) (λ_ _ _ _=>(zS (zS (zA 1) zF) (zA 0))))) (zH (nM 6 kF.nd (zE xI) wH ["k","rule"] [3,4] (zFK rfl yG (zB (zA 1) zD)) rfl (λ_ _ _ _ hN=>(zIY (n:=2) rfl (kZ (zW 0 hN) (kZ (zW 1 hN) zIX)))) (λ_ _ _ _=>(jN (wR (zAV T_bars (hr.mono (by decide)) (zA 1) (zB (zA 3) zD))))) (λ_ _ _ _=>(yO (zB (jF [110,101,118,101,114]) (zB (zA 2) (zB (zA 0) zD)))))) (zN (zT (xH (zA 6) (yX (zE xI) wH ["k","rule"] [3,4,5] (zFK rfl yG (zB (zA 1) zD)) rfl (λ_ _ _ _ hN=>(zIY (n:=2) rfl (kZ (zW 0 hN) (kZ (zW 1 hN) zIX)))) (λ_ _ _ _=>(jN (wR (zAV T_lacks (hr.mono (by decide)) (zA 1) (zB (zA 3) (zB (zA 4) zD)))))) (λ_ _ _ _=>(yO (zB (jF [116,105,101]) (zB (zA 2) (zB (zA 0) zD))))))))))))
    exact h
abbrev jE:Stmt:=top 17
def kG:FnScope bU ["book","rules","i","j"] (zE jE):=fsK (by decide+kernel)
def zKG(D:DefM K mg "breaks_of_two" jE)(yG:mg "enumerate"=none)(T_parts_them:MtB P w K mg base "parts_them" 1 3 xP)(zXL:(CalM P w K mg base) "key_of" 1 2 ["tables","row"] zEQ):(CalM P w K mg base) "breaks_of_two" 2 4 ["book","rules","i","j"] jB:=
 by have h:=okC (P:=P) (w:=w) (base:=base) D (λ_ _ _ _ _ _ us hl=>match us,hl with |[_,_,_,_],_=>rfl) λf fd F=>okM (k:=1) _ F kG λcdv A outer s H E hr=>(zH (yA 4 kG.nd (zS (zS (zA 0) zF) (zA 2))) (zH (yA 5 kG.nd (zS (zS (zA 0) zF) (zA 3))) (zH (nM 6 kG.nd (zE jE) bU ["k","rule"] [2,3,4,5] (zFK rfl yG (zB (zA 1) zD)) rfl (λ_ _ _ _ hN=>(zIY (n:=2) rfl (kZ (zW 0 hN) (kZ (zW 1 hN) zIX)))) (λ_ _ _ _=>(jN (wR (zAV T_parts_them (hr.mono (by decide)) (zA 1) (zB (zA 4) (zB (zA 5) zD)))))) (λ_ _ _ _=>(yO (zB (jF [97,112,97,114,116]) (zB (zA 2) (zB (zA 3) (zB (zA 0) zD))))))) (zH (gD (zDZ hr.units (zL zXL (hr.mono (by decide)) rfl (zB (zS (zA 0) zF) (zB (zA 4) zD))) (zL zXL (hr.mono (by decide)) rfl (zB (zS (zA 0) zF) (zB (zA 5) zD)))) (zN (nL (zJD (zA 6) (zB (yO (zB (jF [107,101,121]) (zB (zA 2) (zB (zA 3) zD)))) zD)))) wK) (zN (zT (zA 6)))))))
    exact h
abbrev zON:Stmt:=top 18
def cQ:FnScope zVO ["book","rows"] (zE zON):=fsK (by decide+kernel)
def yEZ(D:DefM K mg "breaks" zON)(nH:(CalM P w K mg base) "rules_of" 4 1 ["book"] wU)(zLF:(CalM P w K mg base) "breaks_of_one" 5 4 ["book","rules","rows","i"] jA)(zZT:(CalM P w K mg base) "pairs_of" 1 1 ["rows"] zCH)(zLE:(CalM P w K mg base) "breaks_of_two" 2 4 ["book","rules","i","j"] jB)(kY:mg "sorted"=none):(CalM P w K mg base) "breaks" 6 2 ["book","rows"] dI:=
 by have h:=okC (P:=P) (w:=w) (base:=base) D (λ_ _ _ _ _ _ us hl=>match us,hl with |[_,_],_=>rfl) λf fd F=>okM (k:=5) _ F cQ λcdv A outer s H E hr=>(zH (yA 2 cQ.nd (zL nH (hr.mono (by decide)) rfl (zB (zA 0) zD))) (zH (yA 3 cQ.nd (cU zD)) (zH (cV PassesOwn.never rfl (zDY (zA 1)) (xK 4 cQ.nd) (zN (nL (zJN (zA 3) (zB (zL zLF (hr.mono (by decide)) rfl (zB (zA 0) (zB (zA 2) (zB (zA 1) (zB (zA 4) zD))))) zD))))) (zH (cV PassesOwn.never rfl (xL (zL zZT (hr.mono (by decide)) rfl (zB (zA 1) zD))) (zRW (n:=2) rfl (cF (xK 4 cQ.nd) (cF (xK 5 cQ.nd) zRV))) (zN (nL (zJN (zA 3) (zB (zL zLE (hr.mono (by decide)) rfl (zB (zA 0) (zB (zA 2) (zB (zA 4) (zB (zA 5) zD))))) zD))))) (zN (zT (yM (yEB hr.u128) yMG rfl kY zBW (zB (zA 3) zD))))))))
    exact h
abbrev zZN:Stmt:=top 19
def yNW:FnScope ["book","rows"] ["book","rows"] (zE zZN):=fsK (by decide+kernel)
def yNX(D:DefM K mg "good" zZN)(zOU:(CalM P w K mg base) "breaks" 6 2 ["book","rows"] dI)(cE:mg "len"=none):(CalM P w K mg base) "good" 7 2 ["book","rows"] zHD:=
 by have h:=okC (P:=P) (w:=w) (base:=base) D (λ_ _ _ _ _ _ us hl=>match us,hl with |[_,_],_=>rfl) λf fd F=>okM (k:=6) _ F yNW λcdv A outer s H E hr=>(zN (zT (zKN hr.units (yM gN zGP rfl cE zGQ (zB (zL zOU (hr.mono (by decide)) rfl (zB (zA 0) (zB (zA 1) zD))) zD)) zF)))
    exact h
abbrev zFT:Stmt:=top 20
def nE:FnScope zJO ["book"] (zE zFT):=fsK (by decide+kernel)
def zZO(D:DefM K mg "ties_of" zFT)(nH:(CalM P w K mg base) "rules_of" 4 1 ["book"] wU)(yG:mg "enumerate"=none)(T_lacks:MtB P w K mg base "lacks" 2 3 kW):(CalM P w K mg base) "ties_of" 5 1 ["book"] gQ:=
 by have h:=okC (P:=P) (w:=w) (base:=base) D (λ_ _ _ _ _ _ us hl=>match us,hl with |[_],_=>rfl) λf fd F=>okM (k:=4) _ F nE λcdv A outer s H E hr=>(zH (yA 1 nE.nd (cU zD)) (zH (cV PassesOwn.never rfl (xL (zL nH (hr.mono (by decide)) rfl (zB (zA 0) zD))) (xK 2 nE.nd) (zN (cV PassesOwn.never rfl (zFK rfl yG (zB (zS (zA 0) zF) zD)) (zRW (n:=2) rfl (cF (xK 3 nE.nd) (cF (xK 4 nE.nd) zRV))) (zN (gD (wR (zAV T_lacks (hr.mono (by decide)) (zA 2) (zB (zA 4) (zB (cU zD) zD)))) (zN (nL (zJD (zA 1) (zB (yO (zB (zA 3) (zB (yX (zE zFT) zJO ["j","other"] [2,4] (zFK rfl yG (zB (zS (zA 0) zF) zD)) rfl (λ_ _ _ _ hN=>(zIY (n:=2) rfl (kZ (zW 0 hN) (kZ (zW 1 hN) zIX)))) (λ_ _ _ _=>(jN (zIV (wR (zAV T_lacks (hr.mono (by decide)) (zA 2) (zB (zA 3) (zB (cU (zB (zA 1) zD)) zD))))))) (λ_ _ _ _=>(zA 0))) zD))) zD)))) wK))))) (zN (zT (zA 1)))))
    exact h
abbrev zDE:Stmt:=top 21
def zGH:FnScope zID ["kept","some"] (zE zDE):=fsK (by decide+kernel)
def zPL(D:DefM K mg "has_one_of" zDE):(CalM P w K mg base) "has_one_of" 1 2 ["kept","some"] cH:=
 by have h:=okC (P:=P) (w:=w) (base:=base) D (λ_ _ _ _ _ _ us hl=>match us,hl with |[_,_],_=>rfl) λf fd F=>okM (k:=0) _ F zGH λcdv A outer s H E hr=>(zH (cV PassesOwn.never rfl (xL (zA 1)) (xK 2 zGH.nd) (zN (gD (yHX (zA 2) (zA 0)) (zN (zT cT)) wK))) (zN (zT cT)))
    exact h
abbrev gB:Stmt:=top 22
def zLA:FnScope ["ties","kept"] ["ties","kept"] (zE gB):=fsK (by decide+kernel)
def zLB(D:DefM K mg "untied_among" gB)(zUD:(CalM P w K mg base) "has_one_of" 1 2 ["kept","some"] cH):(CalM P w K mg base) "untied_among" 2 2 ["ties","kept"] wW:=
 by have h:=okC (P:=P) (w:=w) (base:=base) D (λ_ _ _ _ _ _ us hl=>match us,hl with |[_,_],_=>rfl) λf fd F=>okM (k:=1) _ F zLA λcdv A outer s H E hr=>(zN (zT (yX (zE gB) ["ties","kept"] ["i","servers"] [1] (xL (zA 0)) rfl (λ_ _ _ _ hN=>(zIY (n:=2) rfl (kZ (zW 0 hN) (kZ (zW 1 hN) zIX)))) (λ_ _ _ _=>(jN (yAH (zYD (yHX (zA 0) (zA 2)) (zRT (zIV (wR (zL zUD (hr.mono (by decide)) rfl (zB (zA 2) (zB (zA 1) zD)))))))))) (λ_ _ _ _=>(zA 0)))))
    exact h
abbrev bH:Stmt:=top 23
def wX:FnScope zAD ["ties","rows"] (zE bH):=fsK (by decide+kernel)
def zOO(D:DefM K mg "tied_within" bH)(zOR:mg "dict"=none)(zFF:(CalM P w K mg base) "untied_among" 2 2 ["ties","kept"] wW)(wQ:mg "tuple"=none):(CalM P w K mg base) "tied_within" 3 2 ["ties","rows"] wI:=
 by have h:=okC (P:=P) (w:=w) (base:=base) D (λ_ _ _ _ _ _ us hl=>match us,hl with |[_,_],_=>rfl) λf fd F=>okM (k:=2) _ F wX λcdv A outer s H E hr=>(zH (yA 2 wX.nd (kA yEI (yMP rfl) rfl zOR yMO (zB (yX (zE bH) zAD ["i"] [] (xL (zA 1)) rfl (λ_ _ _ _ hN=>(zW 0 hN)) (λ_ _ _ _=>xU) (λ_ _ _ _=>(yO (zB (zA 0) (zB cT zD))))) zD))) (zH (yA 3 wX.nd (zL zFF (hr.mono (by decide)) rfl (zB (zA 0) (zB (zA 2) zD)))) (zH (yGL 10000 PassesOwn.never (wR (zA 3)) (zH (cV PassesOwn.never rfl (xL (zA 3)) (xK 4 wX.nd) (zN (nL (yML (zA 2) (zB (zA 4) (zB zMC zD)))))) (zN (yA 3 wX.nd (zL zFF (hr.mono (by decide)) rfl (zB (zA 0) (zB (zA 2) zD))))))) (zN (zT (kA yEG (yMM rfl) rfl wQ cX (zB (zA 2) zD)))))))
    exact h
abbrev zOP:Stmt:=top 24
def zTX:FnScope zYR ["book","rows"] (zE zOP):=fsK (by decide+kernel)
def yNY(D:DefM K mg "held" zOP)(nH:(CalM P w K mg base) "rules_of" 4 1 ["book"] wU)(T_bars:MtB P w K mg base "bars" 4 2 bE)(zXK:mg "any"=none)(zPT:(CalM P w K mg base) "tied_within" 3 2 ["ties","rows"] wI)(yFA:(CalM P w K mg base) "ties_of" 5 1 ["book"] gQ):(CalM P w K mg base) "held" 6 2 ["book","rows"] zNM:=
 by have h:=okC (P:=P) (w:=w) (base:=base) D (λ_ _ _ _ _ _ us hl=>match us,hl with |[_,_],_=>rfl) λf fd F=>okM (k:=5) _ F zTX λcdv A outer s H E hr=>(zH (yA 2 zTX.nd (zL nH (hr.mono (by decide)) rfl (zB (zA 0) zD))) (zH (nM 3 zTX.nd (zE zOP) zYR ["i"] [0,2] (zDY (zA 1)) rfl (λ_ _ _ _ hN=>(zW 0 hN)) (λ_ _ _ _=>(jN (zIV (wR (yM zSM (yRR rfl) rfl zXK yQN (zB (yX (rlS ({kind:=PySem.ScopeKind.function,names:=[(PySem.Str.ofString ".0",PySem.NameKind.local),(PySem.Str.ofString "i",PySem.NameKind.cell),(PySem.Str.ofString "any",PySem.NameKind.globalImplicit),(PySem.Str.ofString "book",PySem.NameKind.free),(PySem.Str.ofString "rules",PySem.NameKind.free)],isGenerator:=false,isCoroutine:=false,more:=[]:PySem.Scope}) (zE zOP)) ["i","book","rules"] ["rule"] [0,1] (xL (zA 2)) rfl (λ_ _ _ _ hN=>(zW 0 hN)) (λ_ _ _ _=>xU) (λ_ _ _ _=>(zAV T_bars (hr.mono (by decide)) (zA 0) (zB (zS (zS (zA 2) zF) (zA 1)) zD)))) zD)))))) (λ_ _ _ _=>(zA 0))) (zN (zT (zL zPT (hr.mono (by decide)) rfl (zB (zL yFA (hr.mono (by decide)) rfl (zB (zA 0) zD)) (zB (zA 3) zD)))))))
    exact h
abbrev nF:Stmt:=top 26
def zLC:FnScope ["_law_script","_law_k"] ["_law_script","_law_k"] (zE nF):=fsK (by decide+kernel)
def zLD(D:DefM K mg "_law_cell_at" nF)(cE:mg "len"=none):(CalM P w K mg base) "_law_cell_at" 1 2 ["_law_script","_law_k"] yK:=
 by have h:=okC (P:=P) (w:=w) (base:=base) D (λ_ _ _ _ _ _ us hl=>match us,hl with |[_,_],_=>rfl) λf fd F=>okM (k:=0) _ F zLC λcdv A outer s H E hr=>(zH (gD (tm_lt hr.units (zA 1) (yM gN zGP rfl cE zGQ (zB (zA 0) zD))) (zN (zT (zS (zA 0) (zA 1)))) wK) (zN (zT zF)))
    exact h
abbrev zHN:Stmt:=top 27
def zFE:FnScope zGS ["_law_cell","_law_k"] (zE zHN):=fsK (by decide+kernel)
def zXH(D:DefM K mg "_law_mix" zHN):(CalM P w K mg base) "_law_mix" 1 2 ["_law_cell","_law_k"] yF:=
 by have h:=okC (P:=P) (w:=w) (base:=base) D (λ_ _ _ _ _ _ us hl=>match us,hl with |[_,_],_=>rfl) λf fd F=>okM (k:=0) _ F zFE λcdv A outer s H E hr=>(zH (yA 2 zFE.nd (jG (xH (xH (xH (jG (zA 0) zF) (zGO (zGO zF (zA 1)) (zA 1))) (zGO zF (zA 1))) zF) zF)) (zH (yA 2 zFE.nd (jG (xH (xH (zGO (zA 2) (zA 2)) (zGO zF (zA 2))) zF) zF)) (zN (zT (jG (xH (xH (zGO (zA 2) (zA 2)) (zGO zF (zA 2))) zF) zF)))))
    exact h
abbrev gC:Stmt:=top 28
def zPM:FnScope wD wD (zE gC):=fsK (by decide+kernel)
def zPN(D:DefM K mg "_law_order" gC)(xV:mg "range"=none)(xT:(CalM P w K mg base) "_law_mix" 1 2 ["_law_cell","_law_k"] yF)(kY:mg "sorted"=none):(CalM P w K mg base) "_law_order" 2 2 wD cI:=
 by have h:=okC (P:=P) (w:=w) (base:=base) D (λ_ _ _ _ _ _ us hl=>match us,hl with |[_,_],_=>rfl) λf fd F=>okM (k:=1) _ F zPM λcdv A outer s H E hr=>(zN (zT (yX (zE gC) wD ["_law_number","_law_k"] [] (xL (yM (yDZ hr.u128) yMF rfl kY zBW (zB (yX (zE gC) wD ["_law_k"] [0] (gK rfl xV (zB (zA 1) zD)) rfl (λ_ _ _ _ hN=>(zW 0 hN)) (λ_ _ _ _=>xU) (λ_ _ _ _=>(yO (zB (zL xT (hr.mono (by decide)) rfl (zB (zA 1) (zB (xH zF (zA 0)) zD))) (zB (zA 0) zD))))) zD))) rfl (λ_ _ _ _ hN=>(zIY (n:=2) rfl (kZ (zW 0 hN) (kZ (zW 1 hN) zIX)))) (λ_ _ _ _=>xU) (λ_ _ _ _=>(zA 1)))))
    exact h
abbrev cM:Stmt:=top 29
def zGI:FnScope zBY ["_law_many","_law_ends","_law_two"] (zE cM):=fsK (by decide+kernel)
def zPO(D:DefM K mg "_law_nexts" cM)(xV:mg "range"=none):(CalM P w K mg base) "_law_nexts" 1 3 ["_law_many","_law_ends","_law_two"] cJ:=
 by have h:=okC (P:=P) (w:=w) (base:=base) D (λ_ _ _ _ _ _ us hl=>match us,hl with |[_,_,_],_=>rfl) λf fd F=>okM (k:=0) _ F zGI λcdv A outer s H E hr=>(zH (nM 3 zGI.nd (zE cM) zBY ["_law_k"] [] (gK rfl xV (zB (zA 0) zD)) rfl (λ_ _ _ _ hN=>(zW 0 hN)) (λ_ _ _ _=>xU) (λ_ _ _ _=>(xH (zA 0) zF))) (zH (gD (zDZ hr.units (zA 1) zF) (zN (yGK (zSB (zSB (zA 0) zF) (zA 2)) (yQO (zA 3) yGG))) wK) (zN (zT (zA 3)))))
    exact h
abbrev nZ:Stmt:=top 30
def cN:FnScope zEE ["_law_low","_law_nexts_here","_law_barred","_law_two"] (zE nZ):=fsK (by decide+kernel)
def zTY(D:DefM K mg "_law_book" nZ)(xV:mg "range"=none)(cE:mg "len"=none)(wQ:mg "tuple"=none):(CalM P w K mg base) "_law_book" 1 4 ["_law_low","_law_nexts_here","_law_barred","_law_two"] nT:=
 by have h:=okC (P:=P) (w:=w) (base:=base) D (λ_ _ _ _ _ _ us hl=>match us,hl with |[_,_,_,_],_=>rfl) λf fd F=>okM (k:=0) _ F cN λcdv A outer s H E hr=>(zH (yA 4 cN.nd (cU (zB (yO (zB (jF [116,105,101]) (zB zF (zB (yO (zB zF zD)) (zB (zA 3) (zB (yO (zB zF zD)) zD)))))) zD))) (zH (gD (zDZ hr.units (zA 3) zF) (zN (nL (zJD (zA 4) (zB (yO (zB (jF [116,105,101]) (zB zF (zB (yO (zB zF zD)) (zB zF (zB (yO (zB zF zD)) zD)))))) zD)))) wK) (zH (gD (yGX (zA 2) zMC) (zH (yA 5 cN.nd (yO (zB (yO (zB (jF [99,101,108,108]) (zB zF (zB zF zD)))) (zB (jF [115,97,109,101]) (zB (yO (zB (jF [105,115]) (zB (xH (zA 0) (zA 2)) zD))) zD))))) (zN (nL (yRU (zA 4) (zB (jG (zA 0) zF) (zB (yO (zB (jF [110,101,118,101,114]) (zB (jG (zA 2) (xH zF (zA 3))) (zB (yO (zB (zA 5) zD)) zD)))) zD)))))) wK) (zH (nM 6 cN.nd (zE nZ) zEE ["_law_k"] [0,1,3] (gK rfl xV (zB (yM gN zGP rfl cE zGQ (zB (zA 1) zD)) zD)) rfl (λ_ _ _ _ hN=>(zW 0 hN)) (λ_ _ _ _=>xU) (λ_ _ _ _=>(yO (zB (jG (zA 0) (xH zF (zA 3))) (zB (yO (zB (xH (zA 1) (zA 0)) (zB (xH (zA 1) (zS (zA 2) (zA 0))) zD))) zD))))) (zN (zT (yO (zB (zJA (yO (zB (yO (zB zF (zB zF zD))) (zB (yO (zB zF (zB zF zD))) zD))) zHQ (zBR (xH zF (zA 3)))) (zB (kA kR zEA rfl wQ cX (zB (zA 4) zD)) (zB (zA 6) zD))))))))))
    exact h
abbrev nG:Stmt:=top 31
def zAA:FnScope zBZ ["_law_nexts_here","_law_barred","_law_missing"] (zE nG):=fsK (by decide+kernel)
def zXI(D:DefM K mg "_law_due" nG)(xV:mg "range"=none)(cE:mg "len"=none):(CalM P w K mg base) "_law_due" 1 3 ["_law_nexts_here","_law_barred","_law_missing"] zCQ:=
 by have h:=okC (P:=P) (w:=w) (base:=base) D (λ_ _ _ _ _ _ us hl=>match us,hl with |[_,_,_],_=>rfl) λf fd F=>okM (k:=0) _ F zAA λcdv A outer s H E hr=>(zH (yA 3 zAA.nd (yX (zE nG) zBZ ["_law_k"] [1,2] (gK rfl xV (zB (yM gN zGP rfl cE zGQ (zB (zA 0) zD)) zD)) rfl (λ_ _ _ _ hN=>(zW 0 hN)) (λ_ _ _ _=>(jN (yAH (zYD (zQI hr.units (zA 0) (zA 1)) (zRT (zQI hr.units (zA 0) (zA 2))))))) (λ_ _ _ _=>(zA 0)))) (zH (cV PassesOwn.never rfl (gK rfl xV (zB (yM gN zGP rfl cE zGQ (zB (zA 0) zD)) zD)) (xK 4 zAA.nd) (zN (yA 3 zAA.nd (yX (zE nG) zBZ ["_law_k"] [0,3] (xL (zA 3)) rfl (λ_ _ _ _ hN=>(zW 0 hN)) (λ_ _ _ _=>(jN (tm_in hr.units (zS (zA 1) (zA 0)) (zA 2)))) (λ_ _ _ _=>(zA 0)))))) (zN (zT (zA 3)))))
    exact h
abbrev zDF:Stmt:=top 32
def zPP:FnScope jO jO (zE zDF):=fsK (by decide+kernel)
def zPQ(D:DefM K mg "_law_truth" zDF)(zHO:mg "bool"=none)(xN:mg "isinstance"=none):(CalM P w K mg base) "_law_truth" 1 2 jO hZ:=
 by have h:=okC (P:=P) (w:=w) (base:=base) D (λ_ _ _ _ _ _ us hl=>match us,hl with |[_,_],_=>rfl) λf fd F=>okM (k:=0) _ F zPP λcdv A outer s H E hr=>(zN (zT (zMD (yM zMJ zYH rfl xN zAC (zB (zA 0) (zB (yGF rfl zHO yAR) zD))) (zRS (zKN hr.units (zA 0) (zA 1))))))
    exact h
abbrev wF:Stmt:=top 33
def xS:FnScope kC ["_law_book_here","_law_place","_law_due_here","_law_some","_law_nexts_here"] (zE wF):=fsK (by decide+kernel)
def zPR(D:DefM K mg "_law_right" wF)(kY:mg "sorted"=none)(wQ:mg "tuple"=none)(ySS:(CalM P w K mg base) "held" 6 2 ["book","rows"] zNM)(zZP:(CalM P w K mg base) "good" 7 2 ["book","rows"] zHD)(zIN:(CalM P w K mg base) "_law_truth" 1 2 jO hZ)(cE:mg "len"=none):(CalM P w K mg base) "_law_right" 8 5 ["_law_book_here","_law_place","_law_due_here","_law_some","_law_nexts_here"] cL:=
 by have h:=okC (P:=P) (w:=w) (base:=base) D (λ_ _ _ _ _ _ us hl=>match us,hl with |[_,_,_,_,_],_=>rfl) λf fd F=>okM (k:=7) _ F xS λcdv A outer s H E hr=>(zH (yA 5 xS.nd (kA kR zEA rfl wQ cX (zB (yM zQQ yAY rfl kY zBW (zB (yX (zE wF) kC ["_law_k"] [1] (xL (zA 2)) rfl (λ_ _ _ _ hN=>(zW 0 hN)) (λ_ _ _ _=>xU) (λ_ _ _ _=>(zS (zA 1) (zA 0)))) zD)) zD))) (zH (gD (yAH (wm_or (zQI hr.units (zL ySS (hr.mono (by decide)) rfl (zB (zA 0) (zB (zA 3) zD))) (zA 5)) (yQE (yDR (zL zZP (hr.mono (by decide)) rfl (zB (zA 0) (zB (zA 5) zD))) cT)))) (zN (zT cT)) wK) (zH (gD (zIV (wR (zL zIN (hr.mono (by decide)) rfl (zB (zL zZP (hr.mono (by decide)) rfl (zB (zA 0) (zB (zA 3) zD))) (zB (zKN hr.units (zA 5) (zA 3)) zD))))) (zN (zT cT)) wK) (zH (yA 6 xS.nd (yQH (yM gN zGP rfl cE zGQ (zB (zA 2) zD)) zF)) (zH (cV PassesOwn.never rfl (xL (xH (xH (zJA (zA 2) zHQ (zBR zF)) (zJA (zA 2) (zBR (zA 6)) (zBR (xH (zA 6) zF)))) (zJA (zA 2) (zBR yGG) zHQ))) (xK 7 xS.nd) (zH (nM 8 xS.nd (zE wF) kC ["_law_j"] [7] (xL (zA 2)) rfl (λ_ _ _ _ hN=>(zW 0 hN)) (λ_ _ _ _=>(jN (zQI hr.units (zA 0) (zA 1)))) (λ_ _ _ _=>(zA 0))) (zH (yA 9 xS.nd (zKN hr.units (yX (zE wF) kC ["_law_j"] [4,7] (xL (zA 8)) rfl (λ_ _ _ _ hN=>(zW 0 hN)) (λ_ _ _ _=>(jN (zDZ hr.units (zS (zA 1) (zA 0)) (zA 2)))) (λ_ _ _ _=>(zA 0))) (cU zD))) (zH (yA 3 xS.nd (kA kR zEA rfl wQ cX (zB (yM zQQ yAY rfl kY zBW (zB (yX (zE wF) kC ["_law_j"] [1] (xL (zA 8)) rfl (λ_ _ _ _ hN=>(zW 0 hN)) (λ_ _ _ _=>xU) (λ_ _ _ _=>(zS (zA 1) (zA 0)))) zD)) zD))) (zN (gD (zIV (wR (zL zIN (hr.mono (by decide)) rfl (zB (zL zZP (hr.mono (by decide)) rfl (zB (zA 0) (zB (zA 3) zD))) (zB (zA 9) zD))))) (zN (zT cT)) wK)))))) (zN (zT cT)))))))
    exact h
abbrev zOQ:Stmt:=top 34
def wM:FnScope zQZ ["_law_script"] (zE zOQ):=fsK (by decide+kernel)
def ySR{f:Addr}{fd:FuncData}(F:Fun K "law" "law" zOQ f fd)(xV:mg "range"=none)(zOS:(CalM P w K mg base) "_law_cell_at" 1 2 ["_law_script","_law_k"] yK)(xT:(CalM P w K mg base) "_law_mix" 1 2 ["_law_cell","_law_k"] yF)(zRG:mg "min"=none)(zUE:(CalM P w K mg base) "_law_nexts" 1 3 ["_law_many","_law_ends","_law_two"] cJ)(zXJ:(CalM P w K mg base) "_law_book" 1 4 ["_law_low","_law_nexts_here","_law_barred","_law_two"] nT)(zTZ:(CalM P w K mg base) "_law_order" 2 2 wD cI)(wQ:mg "tuple"=none)(zUG:(CalM P w K mg base) "_law_right" 8 5 ["_law_book_here","_law_place","_law_due_here","_law_some","_law_nexts_here"] cL)(zZQ:(CalM P w K mg base) "_law_due" 1 3 ["_law_nexts_here","_law_barred","_law_missing"] zCQ)(zOU:(CalM P w K mg base) "breaks" 6 2 ["book","rows"] dI)(cE:mg "len"=none)(zKU:mg "int"=none):FnOk P w K mg base CX0 9 f fd ["_law_script"] (spM ⟨K,mg,P,w⟩ 1 zVR):=
 by have h:=okM (P:=P) (w:=w) (mg:=mg) (base:=base) (k:=8) _ F wM λcdv A outer s H E hr=>(zH (nM 1 wM.nd (zE zOQ) zQZ ["_law_k"] [0] (gK rfl xV (zB zF zD)) rfl (λ_ _ _ _ hN=>(zW 0 hN)) (λ_ _ _ _=>xU) (λ_ _ _ _=>(zL zOS (hr.mono (by decide)) rfl (zB (zA 1) (zB (zA 0) zD))))) (zH (yA 2 wM.nd (xH zF (jG (zL xT (hr.mono (by decide)) rfl (zB (zS (zA 1) zF) (zB zF zD))) zF))) (zH (yA 3 wM.nd (yM (zPW rfl) yHS rfl zRG yHT (zB (jG (zL xT (hr.mono (by decide)) rfl (zB (zS (zA 1) zF) (zB zF zD))) zF) (zB (zSB (zA 2) zF) zD)))) (zH (yA 4 wM.nd (yM (zPW rfl) yHS rfl zRG yHT (zB zF (zB (jG (zL xT (hr.mono (by decide)) rfl (zB (zS (zA 1) zF) (zB zF zD))) zF) zD)))) (zH (yA 5 wM.nd (zSB (jG (zL xT (hr.mono (by decide)) rfl (zB (zS (zA 1) zF) (zB zF zD))) (zS (cU (zB zF (zB (yQI zF zF) zD))) (jG (zL xT (hr.mono (by decide)) rfl (zB (zS (zA 1) zF) (zB zF zD))) zF))) zF)) (zH (yA 6 wM.nd (zS (cU (zB zMC (zB (jG (zL xT (hr.mono (by decide)) rfl (zB (zS (zA 1) zF) (zB zF zD))) (zA 2)) zD))) (jG (zL xT (hr.mono (by decide)) rfl (zB (zS (zA 1) zF) (zB zF zD))) zF))) (zH (yA 7 wM.nd (zL zUE (hr.mono (by decide)) rfl (zB (zA 2) (zB (zA 4) (zB (zA 3) zD))))) (zH (yGK (zL zXJ (hr.mono (by decide)) rfl (zB (zA 5) (zB (zA 7) (zB (zA 6) (zB (zA 3) zD))))) (zRW (n:=3) rfl (cF (xK 8 wM.nd) (cF (xK 9 wM.nd) (cF (xK 10 wM.nd) zRV))))) (zH (yA 11 wM.nd (zL zTZ (hr.mono (by decide)) rfl (zB (zS (zA 1) zF) (zB (zA 2) zD)))) (zH (yA 12 wM.nd (yO (zB (zA 8) (zB (zA 9) (zB (kA kR zEA rfl wQ cX (zB (yX (zE zOQ) zQZ ["_law_k"] [10] (xL (zA 11)) rfl (λ_ _ _ _ hN=>(zW 0 hN)) (λ_ _ _ _=>xU) (λ_ _ _ _=>(zS (zA 1) (zA 0)))) zD)) zD))))) (zH (nM 13 wM.nd (zE zOQ) zQZ ["_law_k"] [11] (gK rfl xV (zB (zA 2) zD)) rfl (λ_ _ _ _ hN=>(zW 0 hN)) (λ_ _ _ _=>xU) (λ_ _ _ _=>(yLW hr.units (zA 1) (zB (zA 0) zD)))) (zH (yA 14 wM.nd (jG (zL xT (hr.mono (by decide)) rfl (zB (zS (zA 1) zF) (zB zF zD))) (zA 2))) (zH (yA 15 wM.nd (yMA rfl rfl wQ rfl xV (zB (zA 2) zD))) (zH (cV PassesOwn.never rfl (xL (cU (zB zMC (zB (zA 14) zD)))) (xK 16 wM.nd) (zH (yA 17 wM.nd (kA kR zEA rfl wQ cX (zB (yX (zE zOQ) zQZ ["_law_i"] [11,16] (zDY (zA 15)) rfl (λ_ _ _ _ hN=>(zW 0 hN)) (λ_ _ _ _=>(jN (zQI hr.units (zS (zA 1) (zA 0)) (zA 2)))) (λ_ _ _ _=>(zA 0))) zD))) (zN (gD (zIV (wR (zL zUG (hr.mono (by decide)) rfl (zB (zA 12) (zB (zA 13) (zB (zL zZQ (hr.mono (by decide)) rfl (zB (zA 7) (zB (zA 6) (zB (zA 16) zD)))) (zB (zA 17) (zB (zA 7) zD)))))))) (zN (zT cT)) wK)))) (zN (zT (zKN hr.units (yM gN zGP rfl cE zGQ (zB (zL zOU (hr.mono (by decide)) rfl (zB (zA 12) (zB (zA 15) zD))) zD)) (xH (kA zKO yHA rfl zKU zYI (zB (yGW (zA 6) zMC) zD)) (kA zKO yHA rfl zKU zYI (zB (zKN hr.units (zA 4) zF) zD))))))))))))))))))))
    exact h
end
def all_mk{l:PySem.W.OpenLaw}{w:World}{K:Be}{h:Heap}{mg:Aj}{fa:Addr}(X:K.In h)(GG:h.Ns mainGlobals mg)(hfa:mg "law"=some (.ref fa))
  (D0:DefM K mg "is_whole" zHJ)
  (D1:DefM K mg "side_value" zCX)
  (D2:DefM K mg "fulfils" zKD)
  (D3:DefM K mg "fulfils_all" bG)
  (D4:DefM K mg "cells_in" zCY)
  (D12:DefM K mg "rule_of" zKE)
  (D13:DefM K mg "rules_of" zDC)
  (D14:DefM K mg "pairs_of" zDD)
  (D15:DefM K mg "key_of" zOM)
  (D16:DefM K mg "breaks_of_one" xI)
  (D17:DefM K mg "breaks_of_two" jE)
  (D18:DefM K mg "breaks" zON)
  (D19:DefM K mg "good" zZN)
  (D20:DefM K mg "ties_of" zFT)
  (D21:DefM K mg "has_one_of" zDE)
  (D22:DefM K mg "untied_among" gB)
  (D23:DefM K mg "tied_within" bH)
  (D24:DefM K mg "held" zOP)
  (D25:DefM K mg "_law_cell_at" nF)
  (D26:DefM K mg "_law_mix" zHN)
  (D27:DefM K mg "_law_order" gC)
  (D28:DefM K mg "_law_nexts" cM)
  (D29:DefM K mg "_law_book" nZ)
  (D30:DefM K mg "_law_due" nG)
  (D31:DefM K mg "_law_truth" zDF)
  (D32:DefM K mg "_law_right" wF)
  (D33:DefM K mg "law" zOQ)
  {C_Rule:Addr} (n_Rule:PySem.W.nsIn K mainGlobals "Rule"=some (some (.ref C_Rule)))
  {C_Never:Addr} (n_Never:PySem.W.nsIn K mainGlobals "Never"=some (some (.ref C_Never)))
  {C_Apart:Addr} (n_Apart:PySem.W.nsIn K mainGlobals "Apart"=some (some (.ref C_Apart)))
  {C_Tie:Addr} (n_Tie:PySem.W.nsIn K mainGlobals "Tie"=some (some (.ref C_Tie)))
  (o_Rule:(PySem.W.clsIn K C_Rule).map (·.name)=some "Rule") (zZS:Cls K C_Rule) (zUH:NoAttr K C_Rule "parts") (i_Rule:OI K C_Rule)
  (o_Never:(PySem.W.clsIn K C_Never).map (·.name)=some "Never") (zUF:Cls K C_Never) (zLV:NoAttr K C_Never "parts") (i_Never:OI K C_Never)
  (o_Apart:(PySem.W.clsIn K C_Apart).map (·.name)=some "Apart") (zUB:Cls K C_Apart) (zLU:NoAttr K C_Apart "parts") (i_Apart:OI K C_Apart)
  (o_Tie:(PySem.W.clsIn K C_Tie).map (·.name)=some "Tie") (yJK:Cls K C_Tie) (yCK:NoAttr K C_Tie "parts") (i_Tie:OI K C_Tie)
  {F_Rule___init__:Addr} {odF_Rule___init__ anF_Rule___init__:Option Addr} {slF_Rule___init__:Array (Option Value)} {ocF_Rule___init__ kVF_Rule___init__ dcF_Rule___init__ pmF_Rule___init__ cdF_Rule___init__ ctF_Rule___init__:Value}
  (zZR:Mk K C_Rule F_Rule___init__)
  (zUA:Mk K C_Never F_Rule___init__)
  (zUC:Mk K C_Apart F_Rule___init__)
  (yJJ:Mk K C_Tie F_Rule___init__)
  (lF_Rule___init__:K.lookup F_Rule___init__=some ⟨ocF_Rule___init__,odF_Rule___init__,.func (PySem.W.fnOf "__init__" "Rule.__init__" (wB (inClass (top 7) 0)) (xE (inClass (top 7) 0)) (zE (inClass (top 7) 0)) .none kVF_Rule___init__ dcF_Rule___init__ pmF_Rule___init__ anF_Rule___init__ cdF_Rule___init__ ctF_Rule___init__),slF_Rule___init__⟩) (cF_Rule___init__:PySem.W.codeIn K cdF_Rule___init__ "Rule.__init__"=true) (kF_Rule___init__:PySem.W.keepIn K (.ref F_Rule___init__)=true)
  {xA:Addr} {odF_Rule_bars anF_Rule_bars:Option Addr} {slF_Rule_bars:Array (Option Value)} {ocF_Rule_bars kVF_Rule_bars dcF_Rule_bars pmF_Rule_bars cdF_Rule_bars ctF_Rule_bars:Value}
  (h_Rule_bars:Meth K C_Rule "bars" xA)
  (h_Apart_bars:Meth K C_Apart "bars" xA)
  (h_Tie_bars:Meth K C_Tie "bars" xA)
  (lF_Rule_bars:K.lookup xA=some ⟨ocF_Rule_bars,odF_Rule_bars,.func (PySem.W.fnOf "bars" "Rule.bars" (wB (inClass (top 7) 1)) (xE (inClass (top 7) 1)) (zE (inClass (top 7) 1)) .none kVF_Rule_bars dcF_Rule_bars pmF_Rule_bars anF_Rule_bars cdF_Rule_bars ctF_Rule_bars),slF_Rule_bars⟩) (cF_Rule_bars:PySem.W.codeIn K cdF_Rule_bars "Rule.bars"=true) (kF_Rule_bars:PySem.W.keepIn K (.ref xA)=true)
  {zX:Addr} {odF_Rule_parts_them anF_Rule_parts_them:Option Addr} {slF_Rule_parts_them:Array (Option Value)} {ocF_Rule_parts_them kVF_Rule_parts_them dcF_Rule_parts_them pmF_Rule_parts_them cdF_Rule_parts_them ctF_Rule_parts_them:Value}
  (h_Rule_parts_them:Meth K C_Rule "parts_them" zX)
  (h_Never_parts_them:Meth K C_Never "parts_them" zX)
  (h_Tie_parts_them:Meth K C_Tie "parts_them" zX)
  (lF_Rule_parts_them:K.lookup zX=some ⟨ocF_Rule_parts_them,odF_Rule_parts_them,.func (PySem.W.fnOf "parts_them" "Rule.parts_them" (wB (inClass (top 7) 2)) (xE (inClass (top 7) 2)) (zE (inClass (top 7) 2)) .none kVF_Rule_parts_them dcF_Rule_parts_them pmF_Rule_parts_them anF_Rule_parts_them cdF_Rule_parts_them ctF_Rule_parts_them),slF_Rule_parts_them⟩) (cF_Rule_parts_them:PySem.W.codeIn K cdF_Rule_parts_them "Rule.parts_them"=true) (kF_Rule_parts_them:PySem.W.keepIn K (.ref zX)=true)
  {yQ:Addr} {odF_Rule_lacks anF_Rule_lacks:Option Addr} {slF_Rule_lacks:Array (Option Value)} {ocF_Rule_lacks kVF_Rule_lacks dcF_Rule_lacks pmF_Rule_lacks cdF_Rule_lacks ctF_Rule_lacks:Value}
  (h_Rule_lacks:Meth K C_Rule "lacks" yQ)
  (h_Never_lacks:Meth K C_Never "lacks" yQ)
  (h_Apart_lacks:Meth K C_Apart "lacks" yQ)
  (lF_Rule_lacks:K.lookup yQ=some ⟨ocF_Rule_lacks,odF_Rule_lacks,.func (PySem.W.fnOf "lacks" "Rule.lacks" (wB (inClass (top 7) 3)) (xE (inClass (top 7) 3)) (zE (inClass (top 7) 3)) .none kVF_Rule_lacks dcF_Rule_lacks pmF_Rule_lacks anF_Rule_lacks cdF_Rule_lacks ctF_Rule_lacks),slF_Rule_lacks⟩) (cF_Rule_lacks:PySem.W.codeIn K cdF_Rule_lacks "Rule.lacks"=true) (kF_Rule_lacks:PySem.W.keepIn K (.ref yQ)=true)
  {xM:Addr} {odF_Never_bars anF_Never_bars:Option Addr} {slF_Never_bars:Array (Option Value)} {ocF_Never_bars kVF_Never_bars dcF_Never_bars pmF_Never_bars cdF_Never_bars ctF_Never_bars:Value}
  (h_Never_bars:Meth K C_Never "bars" xM)
  (lF_Never_bars:K.lookup xM=some ⟨ocF_Never_bars,odF_Never_bars,.func (PySem.W.fnOf "bars" "Never.bars" (wB (inClass (top 8) 0)) (xE (inClass (top 8) 0)) (zE (inClass (top 8) 0)) .none kVF_Never_bars dcF_Never_bars pmF_Never_bars anF_Never_bars cdF_Never_bars ctF_Never_bars),slF_Never_bars⟩) (cF_Never_bars:PySem.W.codeIn K cdF_Never_bars "Never.bars"=true) (kF_Never_bars:PySem.W.keepIn K (.ref xM)=true)
  {yN:Addr} {odF_Apart_parts_in_turn anF_Apart_parts_in_turn:Option Addr} {slF_Apart_parts_in_turn:Array (Option Value)} {ocF_Apart_parts_in_turn kVF_Apart_parts_in_turn dcF_Apart_parts_in_turn pmF_Apart_parts_in_turn cdF_Apart_parts_in_turn ctF_Apart_parts_in_turn:Value}
  (h_Apart_parts_in_turn:Meth K C_Apart "parts_in_turn" yN)
  (lF_Apart_parts_in_turn:K.lookup yN=some ⟨ocF_Apart_parts_in_turn,odF_Apart_parts_in_turn,.func (PySem.W.fnOf "parts_in_turn" "Apart.parts_in_turn" (wB (inClass (top 9) 0)) (xE (inClass (top 9) 0)) (zE (inClass (top 9) 0)) .none kVF_Apart_parts_in_turn dcF_Apart_parts_in_turn pmF_Apart_parts_in_turn anF_Apart_parts_in_turn cdF_Apart_parts_in_turn ctF_Apart_parts_in_turn),slF_Apart_parts_in_turn⟩) (cF_Apart_parts_in_turn:PySem.W.codeIn K cdF_Apart_parts_in_turn "Apart.parts_in_turn"=true) (kF_Apart_parts_in_turn:PySem.W.keepIn K (.ref yN)=true)
  {yP:Addr} {odF_Apart_parts_them anF_Apart_parts_them:Option Addr} {slF_Apart_parts_them:Array (Option Value)} {ocF_Apart_parts_them kVF_Apart_parts_them dcF_Apart_parts_them pmF_Apart_parts_them cdF_Apart_parts_them ctF_Apart_parts_them:Value}
  (h_Apart_parts_them:Meth K C_Apart "parts_them" yP)
  (lF_Apart_parts_them:K.lookup yP=some ⟨ocF_Apart_parts_them,odF_Apart_parts_them,.func (PySem.W.fnOf "parts_them" "Apart.parts_them" (wB (inClass (top 9) 1)) (xE (inClass (top 9) 1)) (zE (inClass (top 9) 1)) .none kVF_Apart_parts_them dcF_Apart_parts_them pmF_Apart_parts_them anF_Apart_parts_them cdF_Apart_parts_them ctF_Apart_parts_them),slF_Apart_parts_them⟩) (cF_Apart_parts_them:PySem.W.codeIn K cdF_Apart_parts_them "Apart.parts_them"=true) (kF_Apart_parts_them:PySem.W.keepIn K (.ref yP)=true)
  {xB:Addr} {odF_Tie_lacks anF_Tie_lacks:Option Addr} {slF_Tie_lacks:Array (Option Value)} {ocF_Tie_lacks kVF_Tie_lacks dcF_Tie_lacks pmF_Tie_lacks cdF_Tie_lacks ctF_Tie_lacks:Value}
  (h_Tie_lacks:Meth K C_Tie "lacks" xB)
  (lF_Tie_lacks:K.lookup xB=some ⟨ocF_Tie_lacks,odF_Tie_lacks,.func (PySem.W.fnOf "lacks" "Tie.lacks" (wB (inClass (top 10) 0)) (xE (inClass (top 10) 0)) (zE (inClass (top 10) 0)) .none kVF_Tie_lacks dcF_Tie_lacks pmF_Tie_lacks anF_Tie_lacks cdF_Tie_lacks ctF_Tie_lacks),slF_Tie_lacks⟩) (cF_Tie_lacks:PySem.W.codeIn K cdF_Tie_lacks "Tie.lacks"=true) (kF_Tie_lacks:PySem.W.keepIn K (.ref xB)=true)
  (zXM:PySem.W.nsIn K mainGlobals "all"=some none)
  (zXK:PySem.W.nsIn K mainGlobals "any"=some none)
  (zHO:PySem.W.nsIn K mainGlobals "bool"=some none)
  (zOR:PySem.W.nsIn K mainGlobals "dict"=some none)
  (yG:PySem.W.nsIn K mainGlobals "enumerate"=some none)
  (zKU:PySem.W.nsIn K mainGlobals "int"=some none)
  (xN:PySem.W.nsIn K mainGlobals "isinstance"=some none)
  (cE:PySem.W.nsIn K mainGlobals "len"=some none)
  (zRG:PySem.W.nsIn K mainGlobals "min"=some none)
  (xV:PySem.W.nsIn K mainGlobals "range"=some none)
  (kY:PySem.W.nsIn K mainGlobals "sorted"=some none)
  (wQ:PySem.W.nsIn K mainGlobals "tuple"=some none)
  : ∃fd:FuncData,(∀(s:Shared)(v:Value),BindsTo s fd ⟨[v],[]⟩ [("_law_script",v)])/\ ∀base:Heap,K.In base->base.Ns mainGlobals mg->FnOk l.prog w K mg base CX0 9 fa fd ["_law_script"] (zQJ K zVR):=by
 have Z_all:=PySem.W.mg_none_of X GG zXM;have Z_any:=PySem.W.mg_none_of X GG zXK;have Z_bool:=PySem.W.mg_none_of X GG zHO;have Z_dict:=PySem.W.mg_none_of X GG zOR;have Z_enumerate:=PySem.W.mg_none_of X GG yG;have Z_int:=PySem.W.mg_none_of X GG zKU;have Z_isinstance:=PySem.W.mg_none_of X GG xN;have Z_len:=PySem.W.mg_none_of X GG cE;have Z_min:=PySem.W.mg_none_of X GG zRG;have Z_range:=PySem.W.mg_none_of X GG xV;have Z_sorted:=PySem.W.mg_none_of X GG kY;have Z_tuple:=PySem.W.mg_none_of X GG wQ;have FF_Rule___init__:=zBL (st:=inClass (top 7) 0) lF_Rule___init__ cF_Rule___init__ kF_Rule___init__;have bF_Rule___init__:=FF_Rule___init__.binds (ps:=["self","parts"]) λ_ _ _ _ _ _ us hl=>match us,hl with |[_,_],_=>rfl
 have FF_Rule_bars:=zBL (st:=inClass (top 7) 1) lF_Rule_bars cF_Rule_bars kF_Rule_bars;have bF_Rule_bars:=FF_Rule_bars.binds (ps:=["self","row"]) λ_ _ _ _ _ _ us hl=>match us,hl with |[_,_],_=>rfl
 have FF_Rule_parts_them:=zBL (st:=inClass (top 7) 2) lF_Rule_parts_them cF_Rule_parts_them kF_Rule_parts_them;have bF_Rule_parts_them:=FF_Rule_parts_them.binds (ps:=["self","row","other"]) λ_ _ _ _ _ _ us hl=>match us,hl with |[_,_,_],_=>rfl
 have FF_Rule_lacks:=zBL (st:=inClass (top 7) 3) lF_Rule_lacks cF_Rule_lacks kF_Rule_lacks;have bF_Rule_lacks:=FF_Rule_lacks.binds (ps:=["self","row","rows"]) λ_ _ _ _ _ _ us hl=>match us,hl with |[_,_,_],_=>rfl
 have FF_Never_bars:=zBL (st:=inClass (top 8) 0) lF_Never_bars cF_Never_bars kF_Never_bars;have bF_Never_bars:=FF_Never_bars.binds (ps:=["self","row"]) λ_ _ _ _ _ _ us hl=>match us,hl with |[_,_],_=>rfl
 have FF_Apart_parts_in_turn:=zBL (st:=inClass (top 9) 0) lF_Apart_parts_in_turn cF_Apart_parts_in_turn kF_Apart_parts_in_turn;have bF_Apart_parts_in_turn:=FF_Apart_parts_in_turn.binds (ps:=["self","row","other"]) λ_ _ _ _ _ _ us hl=>match us,hl with |[_,_,_],_=>rfl
 have FF_Apart_parts_them:=zBL (st:=inClass (top 9) 1) lF_Apart_parts_them cF_Apart_parts_them kF_Apart_parts_them;have bF_Apart_parts_them:=FF_Apart_parts_them.binds (ps:=["self","row","other"]) λ_ _ _ _ _ _ us hl=>match us,hl with |[_,_,_],_=>rfl
 have FF_Tie_lacks:=zBL (st:=inClass (top 10) 0) lF_Tie_lacks cF_Tie_lacks kF_Tie_lacks;have bF_Tie_lacks:=FF_Tie_lacks.binds (ps:=["self","row","rows"]) λ_ _ _ _ _ _ us hl=>match us,hl with |[_,_,_],_=>rfl
 have OC_Rule:OC K "Rule" C_Rule:=⟨n_Rule,o_Rule,zZS⟩
 have OC_Never:OC K "Never" C_Never:=⟨n_Never,o_Never,zUF⟩
 have OC_Apart:OC K "Apart" C_Apart:=⟨n_Apart,o_Apart,zUB⟩
 have OC_Tie:OC K "Tie" C_Tie:=⟨n_Tie,o_Tie,yJK⟩
 have fl_parts:FlB K OCS "parts":=λc hc=>by
  simp only [OCS,mC,nM0,or_false]at hc;rcases hc with rfl|rfl|rfl|rfl
  ·exact⟨C_Rule,OC_Rule,zUH⟩
  ·exact⟨C_Never,OC_Never,zLV⟩
  ·exact⟨C_Apart,OC_Apart,zLU⟩
  ·exact⟨C_Tie,OC_Tie,yCK⟩
 refine yRL D33 hfa (λ_ _ _ _ _ _ s v=>.of_eq rfl) λbase f fd F=>?_;have GI_Rule:FnOk l.prog w K mg base CX0 1 F_Rule___init__ _ ["self","parts"] (spO K "parts"):=yMC FF_Rule___init__ yJI λcdv A outer s H E=>zZW (yPP (pv 0) (pv 1) rfl);have mkb_Rule:MkB l.prog w K mg base "Rule" "parts":=⟨C_Rule,F_Rule___init__,_,"parts",OC_Rule,zUH,zZR,GI_Rule,bF_Rule___init__,PySem.W.mg_of X GG n_Rule⟩
 have mkb_Never:MkB l.prog w K mg base "Never" "parts":=⟨C_Never,F_Rule___init__,_,"parts",OC_Never,zLV,zUA,GI_Rule,bF_Rule___init__,PySem.W.mg_of X GG n_Never⟩
 have mkb_Apart:MkB l.prog w K mg base "Apart" "parts":=⟨C_Apart,F_Rule___init__,_,"parts",OC_Apart,zLU,zUC,GI_Rule,bF_Rule___init__,PySem.W.mg_of X GG n_Apart⟩
 have mkb_Tie:MkB l.prog w K mg base "Tie" "parts":=⟨C_Tie,F_Rule___init__,_,"parts",OC_Tie,yCK,yJJ,GI_Rule,bF_Rule___init__,PySem.W.mg_of X GG n_Tie⟩
 have G0:=zXB (P:=l.prog) (w:=w) (base:=base) D0 Z_int Z_isinstance Z_bool;have G1:=zPG (P:=l.prog) (w:=w) (base:=base) D1;have G2:=zZK (P:=l.prog) (w:=w) (base:=base) D2 G1 G0;have G3:=zOL (P:=l.prog) (w:=w) (base:=base) D3 G2 Z_all;have G4:=zXD (P:=l.prog) (w:=w) (base:=base) D4;have GM_Rule_bars:=zTV (P:=l.prog) (w:=w) (mg:=mg) (base:=base) FF_Rule_bars;have GM_Rule_parts_them:=zHM (P:=l.prog) (w:=w) (mg:=mg) (base:=base) FF_Rule_parts_them;have GM_Rule_lacks:=zPI (P:=l.prog) (w:=w) (mg:=mg) (base:=base) FF_Rule_lacks;have GM_Never_bars:=zPK (P:=l.prog) (w:=w) (mg:=mg) (base:=base) FF_Never_bars fl_parts G3;have GM_Apart_parts_in_turn:=zDA (P:=l.prog) (w:=w) (mg:=mg) (base:=base) FF_Apart_parts_in_turn;have GM_Apart_parts_them:=zGA (P:=l.prog) (w:=w) (mg:=mg) (base:=base) FF_Apart_parts_them;have GM_Tie_lacks:=zTW (P:=l.prog) (w:=w) (mg:=mg) (base:=base) FF_Tie_lacks fl_parts G4;have G12:=zZM (P:=l.prog) (w:=w) (base:=base) D12 mkb_Never mkb_Apart mkb_Tie;have G13:=zXF (P:=l.prog) (w:=w) (base:=base) D13 G12;have G14:=zXG (P:=l.prog) (w:=w) (base:=base) D14 Z_enumerate;have G15:=yEY (P:=l.prog) (w:=w) (base:=base) D15
 have T_bars:MtB l.prog w K mg base "bars" 4 2 bE:=λq hq=>by
  simp only [bE,mC,nM0,or_false]at hq;rcases hq with rfl|rfl|rfl|rfl
  ·exact⟨C_Rule,xA,_,_,OC_Rule,h_Rule_bars,GM_Rule_bars.mono (by decide),bF_Rule_bars⟩
  ·exact⟨C_Never,xM,_,_,OC_Never,h_Never_bars,GM_Never_bars.mono (by decide),bF_Never_bars⟩
  ·exact⟨C_Apart,xA,_,_,OC_Apart,h_Apart_bars,GM_Rule_bars.mono (by decide),bF_Rule_bars⟩
  ·exact⟨C_Tie,xA,_,_,OC_Tie,h_Tie_bars,GM_Rule_bars.mono (by decide),bF_Rule_bars⟩
 have T_lacks:MtB l.prog w K mg base "lacks" 2 3 kW:=λq hq=>by
  simp only [kW,mC,nM0,or_false]at hq;rcases hq with rfl|rfl|rfl|rfl
  ·exact⟨C_Rule,yQ,_,_,OC_Rule,h_Rule_lacks,GM_Rule_lacks.mono (by decide),bF_Rule_lacks⟩
  ·exact⟨C_Never,yQ,_,_,OC_Never,h_Never_lacks,GM_Rule_lacks.mono (by decide),bF_Rule_lacks⟩
  ·exact⟨C_Apart,yQ,_,_,OC_Apart,h_Apart_lacks,GM_Rule_lacks.mono (by decide),bF_Rule_lacks⟩
  ·exact⟨C_Tie,xB,_,_,OC_Tie,h_Tie_lacks,GM_Tie_lacks.mono (by decide),bF_Tie_lacks⟩
 have G16:=zKF (P:=l.prog) (w:=w) (base:=base) D16 Z_enumerate T_bars T_lacks
 have T_parts_them:MtB l.prog w K mg base "parts_them" 1 3 xP:=λq hq=>by
  simp only [xP,mC,nM0,or_false]at hq;rcases hq with rfl|rfl|rfl|rfl
  ·exact⟨C_Rule,zX,_,_,OC_Rule,h_Rule_parts_them,GM_Rule_parts_them.mono (by decide),bF_Rule_parts_them⟩
  ·exact⟨C_Never,zX,_,_,OC_Never,h_Never_parts_them,GM_Rule_parts_them.mono (by decide),bF_Rule_parts_them⟩
  ·exact⟨C_Apart,yP,_,_,OC_Apart,h_Apart_parts_them,GM_Apart_parts_them.mono (by decide),bF_Apart_parts_them⟩
  ·exact⟨C_Tie,zX,_,_,OC_Tie,h_Tie_parts_them,GM_Rule_parts_them.mono (by decide),bF_Rule_parts_them⟩
 have G17:=zKG (P:=l.prog) (w:=w) (base:=base) D17 Z_enumerate T_parts_them G15;have G18:=yEZ (P:=l.prog) (w:=w) (base:=base) D18 G13 G16 G14 G17 Z_sorted;have G19:=yNX (P:=l.prog) (w:=w) (base:=base) D19 G18 Z_len;have G20:=zZO (P:=l.prog) (w:=w) (base:=base) D20 G13 Z_enumerate T_lacks;have G21:=zPL (P:=l.prog) (w:=w) (base:=base) D21;have G22:=zLB (P:=l.prog) (w:=w) (base:=base) D22 G21;have G23:=zOO (P:=l.prog) (w:=w) (base:=base) D23 Z_dict G22 Z_tuple;have G24:=yNY (P:=l.prog) (w:=w) (base:=base) D24 G13 T_bars Z_any G23 G20;have G25:=zLD (P:=l.prog) (w:=w) (base:=base) D25 Z_len;have G26:=zXH (P:=l.prog) (w:=w) (base:=base) D26;have G27:=zPN (P:=l.prog) (w:=w) (base:=base) D27 Z_range G26 Z_sorted;have G28:=zPO (P:=l.prog) (w:=w) (base:=base) D28 Z_range;have G29:=zTY (P:=l.prog) (w:=w) (base:=base) D29 Z_range Z_len Z_tuple;have G30:=zXI (P:=l.prog) (w:=w) (base:=base) D30 Z_range Z_len;have G31:=zPQ (P:=l.prog) (w:=w) (base:=base) D31 Z_bool Z_isinstance;have G32:=zPR (P:=l.prog) (w:=w) (base:=base) D32 Z_sorted Z_tuple G24 G19 G31 Z_len;exact ySR (P:=l.prog) (w:=w) (base:=base) F Z_range G25 G26 Z_min G28 G29 G27 Z_tuple G32 G30 G18 Z_len Z_int
def walk{l:PySem.W.OpenLaw}{q:Program}{loose:Ai}{XP:(Str->Option Value)->Heap->Prop}{YP:World->Heap->Prop}{d:DefRec}{K:Params->PySem.W.Frag}(hn:l.most=some 63)(hdf:d.params.defaults=[])
  (hY: ∀(w:World)(h:Heap),YP w h->(K w.params).In h)
  (F: ∀(w:World)(mg:Aj)(fa:Addr)(h:Heap),(K w.params).In h->h.Ns mainGlobals mg->mg d.name=some (.ref fa)->
   ∃fd:FuncData,(∀(s:Shared)(u:Value),BindsTo s fd ⟨[u],[]⟩ [("_law_script",u)])/\ ∀base:Heap,(K w.params).In base->base.Ns mainGlobals mg->FnOk l.prog w (K w.params) mg base CX0 9 fa fd ["_law_script"] (zQJ (K w.params) zVR)):
  PySem.W.WalkO q loose XP YP l.row.toRowW d [] (λf vs=>PySem.call f vs):=
 L2.walk_of (n:=63) (k:=9) (x:="_law_script") (CX:=λ_=>CX0) (sp:=λw=>zQJ (K w.params) zVR) hn (by decide) hdf ⟨rfl,by decide,by decide⟩ hY F
  (λw H a ns hl hO hS=>yHD hO hS (yJH ns hl)) λ_ _ _ _ _ z=>z
end My
end M
end L2
namespace PySem.W.Fast
def tw17886588531178951649:=0
theorem te17886588531178951649:tw17886588531178951649=0:=rfl
def tw1142102325868735165:=0
theorem te1142102325868735165:tw1142102325868735165=0:=rfl
def tw16179133435766287882:=0
theorem te16179133435766287882:tw16179133435766287882=0:=rfl
def tw12318219719432629272:=0
theorem te12318219719432629272:tw12318219719432629272=0:=rfl
def tw1748776531384047349:=0
theorem te1748776531384047349:tw1748776531384047349=0:=rfl
def tw1078428641651605909:=0
theorem te1078428641651605909:tw1078428641651605909=0:=rfl
def tw13710397068956119176:=0
theorem te13710397068956119176:tw13710397068956119176=0:=rfl
def tw13790802752841506837:=0
theorem te13790802752841506837:tw13790802752841506837=0:=rfl
def tw3940125797462175258:=0
theorem te3940125797462175258:tw3940125797462175258=0:=rfl
def tw1552497160432137780:=0
theorem te1552497160432137780:tw1552497160432137780=0:=rfl
def tw8938513528379068694:=0
theorem te8938513528379068694:tw8938513528379068694=0:=rfl
def tw12687058704263903856:=0
theorem te12687058704263903856:tw12687058704263903856=0:=rfl
def tw15840518098726091073:=0
theorem te15840518098726091073:tw15840518098726091073=0:=rfl
def tw9596885733323524099:=0
theorem te9596885733323524099:tw9596885733323524099=0:=rfl
def tw10083108559952289778:=0
theorem te10083108559952289778:tw10083108559952289778=0:=rfl
def tw1630361671131542312:=0
theorem te1630361671131542312:tw1630361671131542312=0:=rfl
def tw9600114546068954938:=0
theorem te9600114546068954938:tw9600114546068954938=0:=rfl
def tw1016293723735884417:=0
theorem te1016293723735884417:tw1016293723735884417=0:=rfl
def tw6361973628683107985:=0
theorem te6361973628683107985:tw6361973628683107985=0:=rfl
def tw6442349412399921276:=0
theorem te6442349412399921276:tw6442349412399921276=0:=rfl
def tw10589729438224015998:=0
theorem te10589729438224015998:tw10589729438224015998=0:=rfl
def tw1507186296657887603:=0
theorem te1507186296657887603:tw1507186296657887603=0:=rfl
def tw1830780049325723739:=0
theorem te1830780049325723739:tw1830780049325723739=0:=rfl
def tw14478478661550573334:=0
theorem te14478478661550573334:tw14478478661550573334=0:=rfl
end PySem.W.Fast
open PySem PySem.W PyProof.Rows
set_option maxRecDepth 100000 in
set_option maxHeartbeats 0 in
theorem PySem.Challenge.cw_mendsure_k14_chains_of_ties_holds : PySem.Challenge.rw_mendsure_k14_chains_of_ties.Holds := by
  w_on; o_law; k_head; (case hw => w_witness2)
  k_fill
  refine L2.M.My.walk (l := PySem.Challenge.rw_mendsure_k14_chains_of_ties) rfl rfl (fun w h Y => PySem.W.kIn_of Y) ?F
  case F =>
    intro w mg fa h KX G hmg
    refine' L2.M.My.all_mk KX G hmg ?D0 ?D1 ?D2 ?D3 ?D4 ?D12 ?D13 ?D14 ?D15 ?D16 ?D17 ?D18 ?D19 ?D20 ?D21 ?D22 ?D23 ?D24 ?D25 ?D26 ?D27 ?D28 ?D29 ?D30 ?D31 ?D32 ?D33 ?n_Rule ?n_Never ?n_Apart ?n_Tie ?o_Rule ?zZS ?zUH ?i_Rule ?o_Never ?zUF ?zLV ?i_Never ?o_Apart ?zUB ?zLU ?i_Apart ?o_Tie ?yJK ?yCK ?i_Tie ?zZR ?zUA ?zUC ?yJJ ?lF_Rule___init__ ?cF_Rule___init__ ?kF_Rule___init__ ?h_Rule_bars ?h_Apart_bars ?h_Tie_bars ?lF_Rule_bars ?cF_Rule_bars ?kF_Rule_bars ?h_Rule_parts_them ?h_Never_parts_them ?h_Tie_parts_them ?lF_Rule_parts_them ?cF_Rule_parts_them ?kF_Rule_parts_them ?h_Rule_lacks ?h_Never_lacks ?h_Apart_lacks ?lF_Rule_lacks ?cF_Rule_lacks ?kF_Rule_lacks ?h_Never_bars ?lF_Never_bars ?cF_Never_bars ?kF_Never_bars ?h_Apart_parts_in_turn ?lF_Apart_parts_in_turn ?cF_Apart_parts_in_turn ?kF_Apart_parts_in_turn ?h_Apart_parts_them ?lF_Apart_parts_them ?cF_Apart_parts_them ?kF_Apart_parts_them ?h_Tie_lacks ?lF_Tie_lacks ?cF_Tie_lacks ?kF_Tie_lacks ?zXM ?zXK ?zHO ?zOR ?yG ?zKU ?xN ?cE ?zRG ?xV ?kY ?wQ
    (case D0 => exact L2.M.def_mk (by k_is) (by k_is) (by k_is) (by k_is) KX G)
    (case D1 => exact L2.M.def_mk (by k_is) (by k_is) (by k_is) (by k_is) KX G)
    (case D2 => exact L2.M.def_mk (by k_is) (by k_is) (by k_is) (by k_is) KX G)
    (case D3 => exact L2.M.def_mk (by k_is) (by k_is) (by k_is) (by k_is) KX G)
    (case D4 => exact L2.M.def_mk (by k_is) (by k_is) (by k_is) (by k_is) KX G)
    (case D12 => exact L2.M.def_mk (by k_is) (by k_is) (by k_is) (by k_is) KX G)
    (case D13 => exact L2.M.def_mk (by k_is) (by k_is) (by k_is) (by k_is) KX G)
    (case D14 => exact L2.M.def_mk (by k_is) (by k_is) (by k_is) (by k_is) KX G)
    (case D15 => exact L2.M.def_mk (by k_is) (by k_is) (by k_is) (by k_is) KX G)
    (case D16 => exact L2.M.def_mk (by k_is) (by k_is) (by k_is) (by k_is) KX G)
    (case D17 => exact L2.M.def_mk (by k_is) (by k_is) (by k_is) (by k_is) KX G)
    (case D18 => exact L2.M.def_mk (by k_is) (by k_is) (by k_is) (by k_is) KX G)
    (case D19 => exact L2.M.def_mk (by k_is) (by k_is) (by k_is) (by k_is) KX G)
    (case D20 => exact L2.M.def_mk (by k_is) (by k_is) (by k_is) (by k_is) KX G)
    (case D21 => exact L2.M.def_mk (by k_is) (by k_is) (by k_is) (by k_is) KX G)
    (case D22 => exact L2.M.def_mk (by k_is) (by k_is) (by k_is) (by k_is) KX G)
    (case D23 => exact L2.M.def_mk (by k_is) (by k_is) (by k_is) (by k_is) KX G)
    (case D24 => exact L2.M.def_mk (by k_is) (by k_is) (by k_is) (by k_is) KX G)
    (case D25 => exact L2.M.def_mk (by k_is) (by k_is) (by k_is) (by k_is) KX G)
    (case D26 => exact L2.M.def_mk (by k_is) (by k_is) (by k_is) (by k_is) KX G)
    (case D27 => exact L2.M.def_mk (by k_is) (by k_is) (by k_is) (by k_is) KX G)
    (case D28 => exact L2.M.def_mk (by k_is) (by k_is) (by k_is) (by k_is) KX G)
    (case D29 => exact L2.M.def_mk (by k_is) (by k_is) (by k_is) (by k_is) KX G)
    (case D30 => exact L2.M.def_mk (by k_is) (by k_is) (by k_is) (by k_is) KX G)
    (case D31 => exact L2.M.def_mk (by k_is) (by k_is) (by k_is) (by k_is) KX G)
    (case D32 => exact L2.M.def_mk (by k_is) (by k_is) (by k_is) (by k_is) KX G)
    (case D33 => exact L2.M.def_mk (by k_is) (by k_is) (by k_is) (by k_is) KX G)
    (case n_Rule => k_is)
    (case n_Never => k_is)
    (case n_Apart => k_is)
    (case n_Tie => k_is)
    (case o_Rule => exact L2.M.nm_of (by k_is) (by rfl))
    (case zZS => exact ⟨by k_is, by k_is, by k_is, by k_is⟩)
    (case zUH => show PySem.W.findIn _ _ _ = _; k_is)
    (case i_Rule => exact ⟨by k_is, by k_is, by k_is, by k_is⟩)
    (case o_Never => exact L2.M.nm_of (by k_is) (by rfl))
    (case zUF => exact ⟨by k_is, by k_is, by k_is, by k_is⟩)
    (case zLV => show PySem.W.findIn _ _ _ = _; k_is)
    (case i_Never => exact ⟨by k_is, by k_is, by k_is, by k_is⟩)
    (case o_Apart => exact L2.M.nm_of (by k_is) (by rfl))
    (case zUB => exact ⟨by k_is, by k_is, by k_is, by k_is⟩)
    (case zLU => show PySem.W.findIn _ _ _ = _; k_is)
    (case i_Apart => exact ⟨by k_is, by k_is, by k_is, by k_is⟩)
    (case o_Tie => exact L2.M.nm_of (by k_is) (by rfl))
    (case yJK => exact ⟨by k_is, by k_is, by k_is, by k_is⟩)
    (case yCK => show PySem.W.findIn _ _ _ = _; k_is)
    (case i_Tie => exact ⟨by k_is, by k_is, by k_is, by k_is⟩)
    (case zZR => exact ⟨by k_is, by k_is, by k_is, by k_is⟩)
    (case zUA => exact ⟨by k_is, by k_is, by k_is, by k_is⟩)
    (case zUC => exact ⟨by k_is, by k_is, by k_is, by k_is⟩)
    (case yJJ => exact ⟨by k_is, by k_is, by k_is, by k_is⟩)
    (case lF_Rule___init__ => k_is)
    (case cF_Rule___init__ => k_is)
    (case kF_Rule___init__ => k_is)
    (case h_Rule_bars => exact ⟨by k_is, by k_is, by k_is⟩)
    (case h_Apart_bars => exact ⟨by k_is, by k_is, by k_is⟩)
    (case h_Tie_bars => exact ⟨by k_is, by k_is, by k_is⟩)
    (case lF_Rule_bars => k_is)
    (case cF_Rule_bars => k_is)
    (case kF_Rule_bars => k_is)
    (case h_Rule_parts_them => exact ⟨by k_is, by k_is, by k_is⟩)
    (case h_Never_parts_them => exact ⟨by k_is, by k_is, by k_is⟩)
    (case h_Tie_parts_them => exact ⟨by k_is, by k_is, by k_is⟩)
    (case lF_Rule_parts_them => k_is)
    (case cF_Rule_parts_them => k_is)
    (case kF_Rule_parts_them => k_is)
    (case h_Rule_lacks => exact ⟨by k_is, by k_is, by k_is⟩)
    (case h_Never_lacks => exact ⟨by k_is, by k_is, by k_is⟩)
    (case h_Apart_lacks => exact ⟨by k_is, by k_is, by k_is⟩)
    (case lF_Rule_lacks => k_is)
    (case cF_Rule_lacks => k_is)
    (case kF_Rule_lacks => k_is)
    (case h_Never_bars => exact ⟨by k_is, by k_is, by k_is⟩)
    (case lF_Never_bars => k_is)
    (case cF_Never_bars => k_is)
    (case kF_Never_bars => k_is)
    (case h_Apart_parts_in_turn => exact ⟨by k_is, by k_is, by k_is⟩)
    (case lF_Apart_parts_in_turn => k_is)
    (case cF_Apart_parts_in_turn => k_is)
    (case kF_Apart_parts_in_turn => k_is)
    (case h_Apart_parts_them => exact ⟨by k_is, by k_is, by k_is⟩)
    (case lF_Apart_parts_them => k_is)
    (case cF_Apart_parts_them => k_is)
    (case kF_Apart_parts_them => k_is)
    (case h_Tie_lacks => exact ⟨by k_is, by k_is, by k_is⟩)
    (case lF_Tie_lacks => k_is)
    (case cF_Tie_lacks => k_is)
    (case kF_Tie_lacks => k_is)
    (case zXM => k_is)
    (case zXK => k_is)
    (case zHO => k_is)
    (case zOR => k_is)
    (case yG => k_is)
    (case zKU => k_is)
    (case xN => k_is)
    (case cE => k_is)
    (case zRG => k_is)
    (case xV => k_is)
    (case kY => k_is)
    (case wQ => k_is)
