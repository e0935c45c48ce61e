
import PyProof.Rows.All
import Wide.All
import OpenK.AllK
import Wide.FinOn
import Lean
import PyProof.EqAt
import PyProof.EqKinds
import PyProof.TupleCall
import PySem.Challenge.RW_mendsure_k65_atoms_in_a_row
set_option Elab.async false
set_option linter.all false
set_option maxRecDepth 100000
noncomputable section
open List (all_cons all_eq_true all_map any_cons any_eq_true cons_append drop_zero ext_getElem? filterMap_cons filterMap_cons_some find?_cons flatten_cons foldl_cons forIn_cons forIn_nil getD_eq_getElem?_getD getElem?_append_left getElem?_append_right getElem?_drop getElem?_eq_none getElem?_map getElem?_of_mem getElem?_range getElem?_set_ne getElem?_set_self getElem?_take_of_lt getElem_inj getElem_mem getElem_of_mem le_trans length_drop length_nil length_range length_replicate length_set length_zip lookup_cons map_append map_cons map_drop map_id map_map map_nil map_take mem_append mem_append_left mem_append_right mem_filter mem_filterMap mem_flatMap mem_of_getElem? mem_of_mem_take mem_range nil_append nodup_append nodup_cons nodup_nil nodup_range not_lt of_mem_zip pairwise_append pairwise_cons pairwise_map range'_succ replicate_succ reverse_cons take_length take_of_length_le zipIdx_cons zipIdx_nil zip_cons_cons zip_nil_left)
open Bool (eq_false_iff or_eq_true)
open Nat (le_of_lt le_refl le_succ le_trans lt_irrefl lt_of_lt_of_le lt_succ_of_lt lt_succ_self lt_trans min_eq_left mod_lt ne_of_gt ne_of_lt not_lt sub_self sub_zero zero_add zero_le)
open Int (toNat_natCast)
def xF0:¬(false=true):=Bool.false_ne_true

abbrev dF0:=@decide_eq_false
abbrev dT0:=@decide_eq_true
abbrev iP:=@if_pos
abbrev iN:=@if_neg
abbrev mC:=@List.mem_cons
abbrev lC:=@List.length_cons
abbrev mO:=@List.mem_cons_of_mem
abbrev lM:=@List.length_map
abbrev nM0:=@List.not_mem_nil
abbrev mS:=@List.mem_singleton
abbrev mF0:=@List.mem_cons_self
abbrev fT:=@Bool.false_eq_true
abbrev sA:=@List.size_toArray
abbrev lS:=@List.length_singleton
abbrev eL:=@Int.emod_lt_of_pos
abbrev eN0:=@Int.emod_nonneg
abbrev aE:=@Bool.and_eq_true
abbrev iF:=@if_false
abbrev aN:=@List.append_nil
abbrev lA:=@List.length_append
abbrev gS0:=@List.getElem?_eq_some_iff
abbrev gE0:=@List.getElem?_eq_getElem
abbrev wB0:=@PySem.wpAny_bind
abbrev wP0:=@PySem.wpAny_pure
abbrev hP0:=@PySem.Heap.get?_push_of_some
abbrev mM:=@List.mem_map
abbrev lT:=@List.length_take
abbrev aA:=@List.append_assoc
abbrev VP:=PySem.Value->PySem.Shared->Prop
abbrev Be:=PySem.W.Frag
abbrev Bd:=List PySem.Expr
abbrev Bc:=Option Int
abbrev Bb:=List Bool
abbrev Ba:=List (PySem.Addr×PySem.Obj)
abbrev Ak:=Array (Int×PySem.Value)
abbrev Aj:=PySem.Str->Option PySem.Value
abbrev Ai:=List PySem.Str
abbrev Ah:=List PySem.Addr
abbrev Ag:=Array PySem.Value
abbrev Ae:=List PySem.Value
abbrev Ad:=List Int
abbrev Ac:=List (Int×Int)
abbrev Ab:=List Nat
abbrev Aa:=List (List Nat)
namespace L2
open PySem PySem.Spec PyProof.Rows
abbrev Key:=Sum Int Str
def zHS:Key->Value->Bool
 |.inl k,v=>Value.isInt k v
 |.inr x,v=>Value.isStrOf x v
def keyH(w:World):Key->Int
 |.inl k=>hashInt k
 |.inr x=>hashStr w x
def yA: ∀{k:Key}{v:Value},zHS k v=true->(∃i t,k=Sum.inl i/\v=Value.int i t)\/(∃x t,k=Sum.inr x/\v=Value.str x t)
 |.inl i,v,h=>by obtain⟨t,e⟩:=Value.isInt_shape (k:=i) (v:=v) h;exact .inl ⟨i,t,rfl,e⟩
 |.inr x,v,h=>by obtain⟨t,e⟩:=Value.isStrOf_shape (x:=x) (v:=v) h;exact .inr ⟨x,t,rfl,e⟩
def zXU(i:Int)(t:Tok):zHS (.inl i) (.int i t)=true:=by simp [zHS,Value.isInt]
def zXV(x:Str)(t:Tok):zHS (.inr x) (.str x t)=true:=by simp [zHS,Value.isStrOf]
def yJN(a b:Int):decide ((Sum.inl a:Key)=Sum.inl b)=(a==b):=by
 by_cases e:a=b
 ·subst e;simp
 ·have h: ¬(Sum.inl a:Key)=Sum.inl b:=λq=>e (Sum.inl.inj q);rw [dF0 h];exact(beq_eq_false_iff_ne.mpr e).symm
def yJO(a b:Str):decide ((Sum.inr a:Key)=Sum.inr b)=decide (a=b):=by
 by_cases e:a=b
 ·subst e;simp
 ·have h: ¬(Sum.inr a:Key)=Sum.inr b:=λq=>e (Sum.inr.inj q);rw [dF0 h,dF0 e]
def yJP(a:Int)(b:Str):decide ((Sum.inl a:Key)=Sum.inr b)=false:=dF0 (λq=>nomatch q)
def yJQ(a:Str)(b:Int):decide ((Sum.inr a:Key)=Sum.inl b)=false:=dF0 (λq=>nomatch q)
def zZ(prog:Program)(w:World):PySem.KeyKind prog w Key where
 is:=zHS
 hash:=keyH w
 inj:=λv a b ha hb=>by
  rcases yA ha with⟨i,t,rfl,rfl⟩|⟨x,t,rfl,rfl⟩
  ·rcases yA hb with⟨j,u,rfl,e⟩|⟨y,u,rfl,e⟩
   ·injection e with e1 _;rw [e1]
   ·exact nomatch e
  ·rcases yA hb with⟨j,u,rfl,e⟩|⟨y,u,rfl,e⟩
   ·exact nomatch e
   ·injection e with e1 _;rw [e1]
 byValue:=λk v h=>by rcases yA h with⟨i,t,rfl,rfl⟩|⟨x,t,rfl,rfl⟩<;>rfl
 pyHash:=λhv h=>by
  rcases yA hv with⟨i,t,rfl,rfl⟩|⟨x,t,rfl,rfl⟩
  ·exact wpAny_pyHash_int h
  ·exact wpAny_pyHash_str h
 eqBool:=λhu hv h=>by
  rcases yA hu with⟨i,t,rfl,rfl⟩|⟨x,t,rfl,rfl⟩
  ·rcases yA hv with⟨j,u,rfl,rfl⟩|⟨y,u,rfl,rfl⟩
   ·rw [yJN]at h;exact wpAny_eqBool_int h
   ·rw [yJP]at h;exact SeqAt.EqAt.int_str i t y u _ _ _ _ h
  ·rcases yA hv with⟨j,u,rfl,rfl⟩|⟨y,u,rfl,rfl⟩
   ·rw [yJQ]at h;exact SeqAt.EqAt.str_int x t j u _ _ _ _ h
   ·rw [yJO]at h;exact wpAny_eqBool_str h
 «strs»:=λk x t v h=>by
  rcases yA h with⟨i,u,rfl,e⟩|⟨y,u,rfl,e⟩
  ·exact nomatch e
  ·injection e with e1 _
   subst e1;cases v<;>rfl
def zQJ(prog:Program)(w:World)(i:Int)(t:Tok):(zZ prog w).is (.inl i) (.int i t)=true:=zXU i t
def bK(prog:Program)(w:World)(x:Str)(t:Tok):(zZ prog w).is (.inr x) (.str x t)=true:=zXV x t
inductive V where
 |non|bl (b:Bool)|int (i:Int)|str (x:Str)|byt (b:Array UInt8)|flt (b:UInt64)|ref (a:Addr)|ty (n:String)
 deriving DecidableEq
def RelV:V->Value->Prop
 |.non,u=>u=Value.none
 |.bl b,u=>u=Value.bool b
 |.int i,u=> ∃t,u=Value.int i t
 |.str x,u=> ∃t,u=Value.str x t
 |.byt b,u=> ∃t,u=Value.bytes b t
 |.flt b,u=> ∃t,u=Value.float b t
 |.ref a,u=>u=Value.ref a
 |.ty n,u=>u=Value.type n
abbrev Vals:List V->List Value->Prop:=Paired RelV
def Vals.length{xs:List V}{us:Ae}(r:Vals xs us):xs.length=us.length:=Paired.length r
theorem Vals.get: ∀{xs:List V}{us:Ae}{i:Nat}{x:V},Vals xs us->xs[i]? =some x-> ∃u,us[i]? =some u/\RelV x u
 |_,_,_,_,.nil,e=>by simp at e
 |_,_,0,_,.cons r _,e=>by simp at e;subst e;exact⟨_,rfl,r⟩
 |_,_,i+1,x,.cons _ t,e=>by obtain⟨u,h1,h2⟩:=Vals.get (i:=i) (x:=x) t (by simpa using e);exact⟨u,by simpa using h1,h2⟩
theorem Vals.set{x:V}{u:Value}(r:RelV x u): ∀{xs:List V}{us:Ae}(i:Nat),Vals xs us->Vals (xs.set i x) (us.set i u)
 |_,_,_,.nil=>.nil
 |_,_,0,.cons _ t=>.cons r t
 |_,_,i+1,.cons q t=>.cons q (Vals.set r i t)
theorem Vals.append: ∀{xs ys:List V}{us ws:Ae},Vals xs us->Vals ys ws->Vals (xs++ys) (us++ws)
 |_,_,_,_,.nil,s=>s
 |_,_,_,_,.cons r t,s=>.cons r (Vals.append t s)
theorem Vals.take: ∀{xs:List V}{us:Ae}(n:Nat),Vals xs us->Vals (xs.take n) (us.take n)
 |_,_,0,_=>.nil
 |_,_,_+1,.nil=>.nil
 |_,_,n+1,.cons r t=>.cons r (Vals.take n t)
theorem Vals.drop: ∀{xs:List V}{us:Ae}(n:Nat),Vals xs us->Vals (xs.drop n) (us.drop n)
 |_,_,0,r=>r
 |_,_,_+1,.nil=>.nil
 |_,_,n+1,.cons _ t=>Vals.drop n t
def Vals.none_of: ∀{xs:List V}{us:Ae}{i:Nat},Vals xs us->xs[i]? =none->us[i]? =none:=λ{xs us i} r e=>by have h1:=r.length;have h2:xs.length<=i:=List.getElem?_eq_none_iff.mp e;exact List.getElem?_eq_none_iff.mpr (by omega)
def RelO:Option V->Option Value->Prop
 |some v,some u=>RelV v u
 |none,none=>True
 |_,_=>False
def KV{κ:Type}:List (κ×V)->List (κ×Value)->Prop:=Paired λ(p:κ×V) (q:κ×Value)=>p.1=q.1/\RelV p.2 q.2
def kV:Key->V
 |.inl i=>.int i
 |.inr x=>.str x
inductive HO where
 |lst (xs:List V)
 |tup (xs:List V)
 |dK (kvs:List (Key×V))|dT (kvs:List (List Key×V))
 |set (S:Int->Bool) (n:Nat)
 |ins (C dx:Addr) (fs:List (Str×V))
 |own (x:Addr)
 |xd (fs:List (Str×V))
 |met (f x:Addr)
 |rng (lo hi:Int)
 |frz (o:Obj) (u:HO)
 |tbl (ps:Ag)
 |ext (φ:Heap->Prop)
abbrev Hp:=Addr->Option HO
def upd(H:Hp)(a:Addr)(o:HO):Hp:=λb=>if b=a then some o else H b
def yK{H:Hp}{a:Addr}{o:HO}:upd H a o a=some o:=by unfold upd;rw [iP rfl]
def zR{H:Hp}{a b:Addr}{o:HO}(h:b≠a):upd H a o b=H b:=by unfold upd;rw [iN h]
def zU{H:Hp}{a b:Addr}{o:HO}(h:H a=some o)(h':H b=none):a≠b:=by intro e;subst e;rw [h]at h';cases h'
section
variable(P:Program)(w:World)
def ObjOk(H:Hp)(h:Heap)(a:Addr):HO->Prop
 |.lst xs=>xs.length<=sizeLine/\ ∃(its:Ae)(n:Nat),Vals xs its/\h.get? a=some {cls:=.type "list",data:=.seq its.toArray n}
 |.tup xs=>xs.length<=sizeLine/\ ∃its:List Value,Vals xs its/\IsTup h a its.toArray
 |.dK kvs=>kvs.length<=sizeLine/\(a==sysModules)=false/\ ∃vs,KV kvs vs/\h.DictOf (zZ P w) a vs
 |.dT kvs=>kvs.length<=sizeLine/\(a==sysModules)=false/\ ∃xs:List (List Key×Addr×Value),
   Paired (λ(p:List Key×V) (q:List Key×Addr×Value)=>p.1=q.1/\H q.2.1=some (.tup (p.1.map kV))/\RelV p.2 q.2.2) kvs xs/\
   ∃o es ep,h.get? a=some o/\o.ExactDict/\o.data=.dict es ep/\es.toList=xs.map (entryOfKey (tupleKind (zZ P w)))/\(xs.map (·.1)).Nodup
 |.set S n=>h.SetOf (intKind P w) a S n
 |.ins C dx fs=>H dx=some (.own a)/\fs.length<=1000/\dx≠a/\h.get? a=some (PySem.W.instObj C dx)/\
   ∃mA,h.Ns1 dx mA/\(∀f,RelO (fs.lookup f) (mA f))/\PySem.Within mA (fs.map (·.1))
 |.own _=> ∃o,h.get? a=some o
 |.xd fs=> ∃mA,h.Ns1 a mA/\ ∀f,RelO (fs.lookup f) (mA f)
 |.rng lo hi=> ∃t u v,h.get? a=some {cls:=.type "range",data:=.fields #[.int lo t,.int hi u,.int 1 v]}
 |.frz o u=>h.get? a=some o/\ObjOk H h a u
 |.tbl ps=>h.get? a=some {cls:=.none,data:=.fields ps}
 |.met f x=>h.get? a=some (PySem.W.methodObj (.ref f) (.ref x))
 |.ext φ=>φ h/\(∃o,h.get? a=some o)/\ ∀h1 h2:Heap,φ h1->(∀o,h1.get? a=some o->h2.get? a=some o)->φ h2
def HOk(H:Hp)(h:Heap):Prop:= ∀a o,H a=some o->ObjOk P w H h a o
end
section
variable{P:Program}{w:World}{H H':Hp}{h h':Heap}{a:Addr}{o:HO}
def ObjOk.lt(x:ObjOk P w H h a o):a<h.objs.size:=by
 cases o with
 |lst xs=>obtain⟨_,_,_,_,e⟩:=x;exact Heap.lt_size e
 |tup xs=>obtain⟨_,_,_,p⟩:=x;exact p.lt
 |dK kvs=>obtain⟨_,_,_,_,o,_,_,e,_⟩:=x;exact Heap.lt_size e
 |dT kvs=>obtain⟨_,_,_,_,o,_,_,e,_⟩:=x;exact Heap.lt_size e
 |set S n=>obtain⟨o,_,_,_,e,_⟩:=x;exact Heap.lt_size e
 |ins C dx fs=>obtain⟨_,_,_,e,_⟩:=x;exact Heap.lt_size e
 |own y=>obtain⟨_,e⟩:=x;exact Heap.lt_size e
 |xd fs=>obtain⟨_,⟨_,_,_,e,_⟩,_⟩:=x;exact Heap.lt_size e
 |rng lo hi=>obtain⟨_,_,_,e⟩:=x;exact Heap.lt_size e
 |frz ob u=>obtain⟨e,_⟩:=x;exact Heap.lt_size e
 |tbl ps=>exact Heap.lt_size (show h.get? a=some _ from x)
 |met f y=>exact Heap.lt_size (show h.get? a=some _ from x)
 |ext φ=>obtain⟨_,⟨_,e⟩,_⟩:=x;exact Heap.lt_size e
theorem Paired.mapP{α β:Type}{F G:α->β->Prop}: ∀{l₁:List α}{l₂:List β},Paired F l₁ l₂->(∀a b,F a b->G a b)->Paired G l₁ l₂
 |_,_,.nil,_=>.nil
 |_,_,.cons r t,f=>.cons (f _ _ r) (Paired.mapP t f)
def ObjOk.stay(x:ObjOk P w H h a o)(k: ∀b u,(b=a\/H b=some (.own a))->h.get? b=some u->h'.get? b=some u)
  (ho: ∀b,H b=some (.own a)->H' b=some (.own a)) (ht: ∀b xs,H b=some (.tup xs)->H' b=some (.tup xs)):ObjOk P w H' h' a o:=by
 induction o with
 |lst xs=>obtain⟨z,its,n,r,e⟩:=x;exact⟨z,its,n,r,k _ _ (.inl rfl) e⟩
 |tup xs=>obtain⟨z,its,r,ob,e,c⟩:=x;exact⟨z,its,r,ob,k _ _ (.inl rfl) e,c⟩
 |dK kvs=>obtain⟨z,y,vs,r,ob,es,ep,e,c⟩:=x;exact⟨z,y,vs,r,ob,es,ep,k _ _ (.inl rfl) e,c⟩
 |dT kvs=>
  obtain⟨z,y,xs,r,ob,es,ep,e,c⟩:=x;exact⟨z,y,xs,Paired.mapP r λp q z=>⟨z.1,ht _ _ z.2.1,z.2.2⟩,ob,es,ep,k _ _ (.inl rfl) e,c⟩
 |set S n=>obtain⟨ob,es,ep,t,e,c⟩:=x;exact⟨ob,es,ep,t,k _ _ (.inl rfl) e,c⟩
 |ins C dx fs=>
  obtain⟨d,z,ne,e,mA,⟨od,es,ep,e2,c⟩,r⟩:=x;exact⟨ho _ d,z,ne,k _ _ (.inl rfl) e,mA,⟨od,es,ep,k _ _ (.inr d) e2,c⟩,r⟩
 |own y=>obtain⟨ob,e⟩:=x;exact⟨ob,k _ _ (.inl rfl) e⟩
 |xd fs=>obtain⟨mA,⟨od,es,ep,e,c⟩,r⟩:=x;exact⟨mA,⟨od,es,ep,k _ _ (.inl rfl) e,c⟩,r⟩
 |rng lo hi=>obtain⟨t,u,v,e⟩:=x;exact⟨t,u,v,k _ _ (.inl rfl) e⟩
 |frz ob u ih=>obtain⟨e,q⟩:=x;exact⟨k _ _ (.inl rfl) e,ih q⟩
 |tbl ps=>
  have e:h.get? a=some {cls:=.none,data:=.fields ps}:=x;show h'.get? a=some {cls:=.none,data:=.fields ps};exact k a _ (.inl rfl) e
 |met f y=>
  have e:h.get? a=some (PySem.W.methodObj (.ref f) (.ref y)):=x;show h'.get? a=some (PySem.W.methodObj (.ref f) (.ref y));exact k a _ (.inl rfl) e
 |ext φ=>obtain⟨p,⟨o,e⟩,st⟩:=x;exact⟨st _ _ p λo q=>k _ _ (.inl rfl) q,⟨o,k _ _ (.inl rfl) e⟩,st⟩
def HOk.lt(x:HOk P w H h)(e:H a=some o):a<h.objs.size:=(x a o e).lt
def HOk.fresh(x:HOk P w H h)(e:h.objs.size<=a):H a=none:=by
 cases q:H a with
 |none=>rfl
 |some u=>exact absurd (lt_of_lt_of_le (x.lt q) e) (lt_irrefl _)
def HOk.kept(x:HOk P w H h)(k: ∀b u,h.get? b=some u->h'.get? b=some u):HOk P w H h':=λa o e=>
 (x a o e).stay (λb u _ q=>k b u q) (λ_ q=>q) λ_ _ q=>q
def HOk.laid(x:HOk P w H h)(k: ∀b u,h.get? b=some u->h'.get? b=some u)(hp:h.objs.size<=a)(new:ObjOk P w (upd H a o) h' a o):HOk P w (upd H a o) h':=λb u e=>by
 have hn:=x.fresh hp;by_cases hb:b=a
 ·subst hb;rw [yK]at e;cases e;exact new
 ·rw [zR hb]at e;exact(x b u e).stay (λc v _ q=>k c v q) (λc q=>by rw [zR (zU q hn)];exact q) λc xs q=>by rw [zR (zU q hn)];exact q
end
def Rd(H:Hp)(a:Addr)(u:HO):Prop:=H a=some u\/ ∃o,H a=some (.frz o u)
def Rd.ok{P:Program}{w:World}{H:Hp}{h:Heap}{a:Addr}{u:HO}(r:Rd H a u)(x:HOk P w H h):ObjOk P w H h a u:=by
 rcases r with r|⟨o,r⟩
 ·exact x a u r
 ·obtain⟨_,q⟩:=x a _ r;exact q
def Mut:Option HO->Prop
 |some (.lst _)=>True
 |some (.dK _)=>True
 |some (.dT _)=>True
 |some (.set _ _)=>True
 |some (.ins _ _ _)=>True
 |some (.ext _)=>True
 |_=>False
section
variable{P:Program}{w:World}{H:Hp}{h h':Heap}{x e:Addr}{o':HO}
theorem HOk.write(ok:HOk P w H h)(mu:Mut (H x))(he:e=x\/H e=some (.own x))(k: ∀b u,b≠e->h.get? b=some u->h'.get? b=some u)(heo: ∃u,h'.get? e=some u)
  (new:ObjOk P w (upd H x o') h' x o'):HOk P w (upd H x o') h':=λb u q=>by
 have nown: ∀c y,H c=some (.own y)->c≠x:=λc y r z=>by subst z;rw [r]at mu;exact mu
 have ntup: ∀c xs,H c=some (.tup xs)->c≠x:=λc xs r z=>by subst z;rw [r]at mu;exact mu
 by_cases hb:b=x
 ·subst hb;rw [yK]at q;cases q;exact new
 ·rw [zR hb]at q;by_cases hbe:b=e
  ·have q':H b=some (.own x):=by
    rcases he with z|z
    ·exact absurd (hbe.trans z) hb
    ·rw [hbe];exact z
   rw [q]at q';cases q';obtain⟨v,hv⟩:=heo;exact⟨v,by rw [hbe];exact hv⟩
  ·refine(ok b u q).stay (λc v hc r=>k c v ?_ r) (λc r=>by rw [zR (nown c b r)];exact r) λc xs r=>by rw [zR (ntup c xs r)];exact r
   rcases hc with rfl|hc
   ·exact hbe
   ·rintro rfl;rcases he with z|z
    ·exact nown c b hc z
    ·rw [hc]at z;cases z;exact hb rfl
end
structure Un(fs ex:Ah)(H H':Hp)(h h':Heap):Prop where
 keep: ∀b o,h.get? b=some o->H b=none->b∉fs->b∉ex->h'.get? b=some o
 slot: ∀b o,h.get? b=some o->H b=none->b∈fs->b∉ex-> ∃sl,h'.get? b=some {o with slots:=sl}
 free: ∀b o,h.get? b=some o->H b=none->b∉ex->H' b=none
 there: ∀b o,h.get? b=some o->b∉ex-> ∃o',h'.get? b=some o'
 tups: ∀b xs,H b=some (.tup xs)->H' b=some (.tup xs)
 frzs: ∀b o u,H b=some (.frz o u)->H' b=some (.frz o u)
 tbls: ∀b ps,H b=some (.tbl ps)-> ∃more,H' b=some (.tbl (ps++more))
section
variable{fs fs' ex ex':Ah}{H H1 H2:Hp}{h h1 h2 h':Heap}{a x e:Addr}{o:HO}
def Un.any(u:Un fs ex H H1 h h1){b:Addr}{ob:Obj}(q:h.get? b=some ob)(n:H b=none)(hx:b∉ex): ∃sl,h1.get? b=some {ob with slots:=sl}:=by
 by_cases hb:b∈fs
 ·exact u.slot b ob q n hb hx
 ·exact⟨ob.slots,u.keep b ob q n hb hx⟩
def Un.kept(k: ∀b u,h.get? b=some u->h'.get? b=some u):Un fs ex H H h h':=
 ⟨λb ob q _ _ _=>k b ob q,λb ob q _ _ _=>⟨ob.slots,k b ob q⟩,λ_ _ _ n _=>n,λb ob q _=>⟨ob,k b ob q⟩,λ_ _ q=>q,λ_ _ _ q=>q,λ_ ps q=>⟨#[],by rw [q];simp⟩⟩
def Un.refl:Un fs ex H H h h:=Un.kept λ_ _ q=>q
def Un.laid(k: ∀b u,h.get? b=some u->h'.get? b=some u)(hp:h.objs.size<=a)(hn:H a=none):Un fs ex H (upd H a o) h h' where
 keep:=λb u q _ _ _=>k b u q
 slot:=λb u q _ _ _=>⟨u.slots,k b u q⟩
 free:=λb u q n _=>by rw [zR (ne_of_lt (lt_of_lt_of_le (Heap.lt_size q) hp))];exact n
 there:=λb u q _=>⟨u,k b u q⟩
 tups:=λb xs q=>by rw [zR (zU q hn)];exact q
 frzs:=λb u xs q=>by rw [zR (zU q hn)];exact q
 tbls:=λb ps q=>⟨#[],by rw [zR (zU q hn),q];simp⟩
def Un.write(mu:Mut (H x))(he:e=x\/H e=some (.own x))(k: ∀b u,b≠e->h.get? b=some u->h'.get? b=some u)(heo: ∃u,h'.get? e=some u):Un fs ex H (upd H x o) h h':=by
 have hx: ∀b,H b=none->b≠x:=λb n z=>by subst z;rw [n]at mu;exact mu
 have hb: ∀b,H b=none->b≠e:=λb n z=>by
  subst z;rcases he with r|r
  ·exact hx b n r
  ·rw [n]at r;cases r
 have hm: ∀b u,H b=some u-> ¬Mut (some u)->b≠x:=λb u q nm z=>by subst z;rw [q]at mu;exact nm mu
 refine⟨λb u q n _ _=>k b u (hb b n) q,λb u q n _ _=>⟨u.slots,k b u (hb b n) q⟩,λb u q n _=>by rw [zR (hx b n)];exact n,λb u q _=>?_,
  λb xs q=>by rw [zR (hm b _ q λz=>z)];exact q,λb u xs q=>by rw [zR (hm b _ q λz=>z)];exact q,λb ps q=>⟨#[],by rw [zR (hm b _ q λz=>z),q];simp⟩⟩
 by_cases hbe:b=e
 ·subst hbe;exact heo
 ·exact⟨u,k b u hbe q⟩
end
def trk(h:Heap)(H:Hp):List Addr:=(List.range h.objs.size).filter λa=>(H a).isSome
def zNS(h:Heap)(H:Hp):Heap:=PySem.W.hideAll h (trk h H)
def zXW(h:Heap)(H:Hp):(zNS h H).objs.size=h.objs.size:=PySem.W.hideAll_size _ _
def zZU{h:Heap}{H:Hp}{b:Addr}{o:Obj}(e:h.get? b=some o)(n:H b=none):(zNS h H).get? b=some o:=
 PySem.W.hideAll_get _ e λhm=>by have q:(H b).isSome=true:=(mem_filter.mp hm).2;rw [n]at q;simp at q
def yEU{h:Heap}{H:Hp}{b:Addr}{o:Obj}(e:(zNS h H).get? b=some o):h.get? b=some o/\H b=none:=by
 have e':h.get? b=some o:=PySem.W.of_hideAll (trk h H) e;refine⟨e',?_⟩
 cases q:H b with
 |none=>rfl
 |some x=>
  have hm:b∈trk h H:=mem_filter.mpr ⟨mem_range.mpr (Heap.lt_size e'),by simp [q]⟩;have z:(zNS h H).get? b=none:=PySem.W.hideAll_none (trk h H) hm;rw [z]at e;cases e
def yEV(g h:Heap)(L:Addr):List (Addr×Obj):=(List.range h.objs.size).filterMap λa=>if a=L\/(g.get? a).isSome=true then none else(h.get? a).map λo=>(a,o)
def rest(g h:Heap)(L d:Addr):List (Addr×Obj):=(yEV g h L).filter λp=>decide (p.1≠d)
structure Mod(K:Be)(mg:Aj)(base:Heap):Prop where
 kin:K.In base
 glob:base.Ns mainGlobals mg
 blt: ∃mb,base.Ns builtinsNs mb/\ ∀x:Str,x≠"__name__"->mb x=bootBuiltins x
 nolimit:base.NoLimit
structure Cx where
 prog:Program
 w:World
 K:PySem.W.Frag
 mg:Str->Option Value
 base:Heap
 A:Around
 N:List Str
 s₀:Shared
 H₀:Hp
 env:Env
 outer:List Env
 stack:List Env
 ex:List Addr
 fn:Str->Bool
 calm:Bool
 pn:List (Addr×Obj)
 xe:VP
def frs(l:List Env):List Addr:=l.filterMap (·.frame)
abbrev Cx.fs(X:Cx):List Addr:=frs X.outer
def Vis(sc:Scope)(x:Str):Prop:=sc.names.lookup x=some .local\/sc.names.lookup x=some .cell\/sc.names.lookup x=some .free
def Loc(sc:Scope)(x:Str):Prop:=sc.names.lookup x=some .local\/sc.names.lookup x=some .cell
def Look(env:Env)(h:Heap)(m:Aj)(x:Str)(u:Value):Prop:=
 (env.kindOf x=some .local/\m x=some u)\/((env.kindOf x=some .cell\/env.kindOf x=some .free)/\ ∃c,env.cells.lookup x=some c/\h.IsCell c (some u))
structure Cx.Ok(X:Cx):Prop where
 mod:Mod X.K X.mg X.base
 kind:X.env.scope.kind=.function
 glob:X.env.globals=mainGlobals
 blt:X.env.builtins=builtinsNs
 above:X.s₀.heap.objs.size<=X.env.locals
 inj: ∀x y c,X.env.cells.lookup x=some c->X.env.cells.lookup y=some c->x=y
 has: ∀x,(X.env.kindOf x=some .cell\/X.env.kindOf x=some .free)-> ∃c,X.env.cells.lookup x=some c
 cab: ∀x c,X.fn x=true->X.env.cells.lookup x=some c->X.s₀.heap.objs.size<=c
 hd:X.calm=true->X.A.handled=none
 frames:X.A.frames=some X.stack
 stk:X.stack=X.outer\/(X.stack=X.env::X.outer/\X.env.frame=some X.env.locals)
 exf: ∀b∈X.ex,b≠X.env.locals/\ ∀x c,X.env.cells.lookup x=some c->c≠b
 bs: ∀b o,X.base.get? b=some o->X.s₀.heap.get? b=some o/\X.H₀ b=none
 bsz:X.base.objs.size<=X.s₀.heap.objs.size
 noex: ∀b o,X.base.get? b=some o->b∉X.ex
 exfs: ∀b∈X.ex,b∉X.fs
 funs:X.s₀.heap.FunFrames X.base X.outer
 frf: ∀b∈X.fs,X.H₀ b=none
structure Inv(X:Cx)(pins:Ba)(σ:List (Option V))(H:Hp)(s:Shared):Prop where
 ok:X.Ok
 os:s.os=X.s₀.os
 bare:AllBare s.gens
 base:Un X.fs X.ex X.H₀ H X.s₀.heap s.heap
 loc: ∃m,s.heap.Ns X.env.locals m/\ ∀(i:Nat)(x:Str)(v:V),X.N[i]? =some x->σ[i]? =some (some v)->Vis X.env.scope x-> ∃u,RelV v u/\Look X.env s.heap m x u
 cell: ∀x c,X.env.cells.lookup x=some c-> ∃v,s.heap.IsCell c v
 free:H X.env.locals=none
 freeC: ∀x c,X.env.cells.lookup x=some c->H c=none
 pin: ∀p∈X.pn++pins,s.heap.get? p.1=some p.2/\H p.1=none/\p.1≠X.env.locals/\p.1∉X.fs/\ ∀v,p.2.data≠.cell v
 hok:HOk X.prog X.w H s.heap
 len:σ.length=X.N.length
section
variable{X:Cx}{pins:Ba}{σ:List (Option V)}{H H':Hp}{s:Shared}{h':Heap}
def Cx.Ok.nofr(ok:X.Ok){b:Addr}{o:Obj}(e:X.base.get? b=some o):b∉X.fs:=λhb=>by have:=(ok.funs.mem hb).1;rw [e]at this;cases this
def Inv.bs(I:Inv X pins σ H s): ∀b o,X.base.get? b=some o->s.heap.get? b=some o/\H b=none:=λb o e=>
 ⟨I.base.keep b o (I.ok.bs b o e).1 (I.ok.bs b o e).2 (I.ok.nofr e) (I.ok.noex b o e),I.base.free b o (I.ok.bs b o e).1 (I.ok.bs b o e).2 (I.ok.noex b o e)⟩
def Inv.bk(I:Inv X pins σ H s): ∀b o,X.base.get? b=some o->s.heap.get? b=some o:=λb o e=>(I.bs b o e).1
def Inv.mod(I:Inv X pins σ H s):Mod X.K X.mg X.base:=I.ok.mod
def Inv.kIn(I:Inv X pins σ H s):X.K.In s.heap:=I.ok.mod.kin.keeps I.bk
def Inv.lt(I:Inv X pins σ H s):X.env.locals<s.heap.objs.size:=let ⟨_,hn,_⟩:=I.loc;hn.lt
def Inv.sz(I:Inv X pins σ H s):X.s₀.heap.objs.size<=s.heap.objs.size:=le_trans I.ok.above (le_of_lt I.lt)
def Inv.nofs(I:Inv X pins σ H s){a:Addr}(h:s.heap.objs.size<=a):a∉X.fs:=λhb=>by obtain⟨_,o,ho,_⟩:=I.ok.funs.mem hb;exact absurd (lt_of_lt_of_le (Heap.lt_size ho) (le_trans I.sz h)) (lt_irrefl _)
def Inv.cne(I:Inv X pins σ H s): ∀x c,X.env.cells.lookup x=some c->c≠X.env.locals:=λx c e z=>by obtain⟨v,o,ho,hd⟩:=I.cell x c e;obtain⟨m,⟨o',es,ep,ho',hd',_⟩,_⟩:=I.loc;rw [z,ho']at ho;cases ho;rw [hd']at hd;cases hd
def Inv.funs(I:Inv X pins σ H s):s.heap.FunFrames X.base X.outer:=by
 have all: ∀(l:List Env),(∀b∈frs l,b∈X.fs)->X.s₀.heap.FunFrames X.base l->s.heap.FunFrames X.base l:=by
  intro l
  induction l with
  |nil=>intro _ _;trivial
  |cons env r ih=>
   intro hs hl;obtain⟨hk,⟨L,o,hf,hn,ho,hd⟩,hr⟩:=hl;have hL:L∈X.fs:=hs L (by unfold frs;rw [filterMap_cons,hf];exact mF0);obtain⟨sl,e⟩:=I.base.slot L o ho (I.ok.frf L hL) hL λz=>I.ok.exfs L z hL;exact⟨hk,⟨L,_,hf,hn,e,hd⟩,ih (λb hb=>hs b (by unfold frs;rw [filterMap_cons,hf];exact mO _ hb)) hr⟩
 exact all X.outer (λ_ hb=>hb) I.ok.funs
def Inv.stack(I:Inv X pins σ H s):s.heap.FunFrames X.base X.stack:=by
 rcases I.ok.stk with e|⟨e,hf⟩
 ·rw [e];exact I.funs
 ·rw [e];obtain⟨m,hn,_⟩:=I.loc;refine .cons (by rw [I.ok.kind];decide) hf hn ?_ I.funs;exact Heap.get?_none_of_le (le_trans I.ok.bsz I.ok.above)
def Inv.stkSub(I:Inv X pins σ H s): ∀b∈frs X.stack,b∈X.env.locals::X.fs:=λb hb=>by
 rcases I.ok.stk with e|⟨e,hf⟩
 ·rw [e]at hb;exact mO _ hb
 ·rw [e]at hb;unfold frs at hb;rw [filterMap_cons,hf]at hb;exact hb
def Inv.stkFree(I:Inv X pins σ H s): ∀b∈frs X.stack,H b=none:=λb hb=>by
 rcases mC.mp (I.stkSub b hb)with e|hb
 ·rw [e];exact I.free
 ·obtain⟨_,o,ho,_⟩:=I.ok.funs.mem hb;exact I.base.free b o ho (I.ok.frf b hb) λz=>I.ok.exfs b z hb
def Inv.step{g':Array GenState}{t':Nat}{d':Drawn}{ch:Ah}(I:Inv X pins σ H s)
  (hch: ∀b∈ch,(b∈X.ex\/X.s₀.heap.objs.size<=b)/\b≠X.env.locals/\(∀x c,X.env.cells.lookup x=some c->c≠b)/\ ∀p∈X.pn++pins,p.1≠b)
  (keep: ∀b o,b≠X.env.locals->b∉X.fs->b∉ch->s.heap.get? b=some o->H b=none->h'.get? b=some o)
  (slot: ∀b o,b≠X.env.locals->b∈X.fs->b∉ch->s.heap.get? b=some o->H b=none-> ∃sl,h'.get? b=some {o with slots:=sl}) (free: ∀b o,b∉ch->s.heap.get? b=some o->H b=none->H' b=none)
  (there: ∀b o,b∉ch->s.heap.get? b=some o-> ∃o',h'.get? b=some o')
  (tups: ∀b xs,H b=some (.tup xs)->H' b=some (.tup xs)) (frzs: ∀b o u,H b=some (.frz o u)->H' b=some (.frz o u)) (tbls: ∀b ps,H b=some (.tbl ps)-> ∃more,H' b=some (.tbl (ps++more)))
  (ns: ∀m,s.heap.Ns X.env.locals m->h'.Ns X.env.locals m) (hok:HOk X.prog X.w H' h') (hg:AllBare g'):
  Inv X pins σ H' {s with heap:=h',gens:=g',drawn:=d',toks:=t'}:=by
 have neL: ∀b o,X.s₀.heap.get? b=some o->b≠X.env.locals:=λb o e=>ne_of_lt (lt_of_lt_of_le (Heap.lt_size e) I.ok.above)
 have neC: ∀b o,X.s₀.heap.get? b=some o->b∉X.ex->b∉ch:=λb o e hx hb=>by
  rcases (hch b hb).1 with z|z
  ·exact hx z
  ·exact absurd (lt_of_lt_of_le (Heap.lt_size e) z) (lt_irrefl _)
 have cellK: ∀x c,X.env.cells.lookup x=some c-> ∀v,s.heap.IsCell c v->h'.IsCell c v:=λx c e v ⟨o,ho,hd⟩=>by
  have nch:c∉ch:=λz=>(hch c z).2.2.1 x c e rfl;by_cases hc:c∈X.fs
  ·obtain⟨sl,q⟩:=slot c o (I.cne x c e) hc nch ho (I.freeC x c e);exact⟨_,q,hd⟩
  ·exact⟨o,keep c o (I.cne x c e) hc nch ho (I.freeC x c e),hd⟩
 refine⟨I.ok,I.os,hg,⟨λb o e n hb hx=>?_,λb o e n hb hx=>?_,λb o e n hx=>?_,λb o e hx=>?_,λb xs e=>tups b xs (I.base.tups b xs e),λb o xs e=>frzs b o xs (I.base.frzs b o xs e),λb ps e=>?_⟩,?_,λx c e=>?_,?_,λx c e=>?_,λp hp=>?_,hok,I.len⟩
 ·exact keep b o (neL b o e) hb (neC b o e hx) (I.base.keep b o e n hb hx) (I.base.free b o e n hx)
 ·obtain⟨sl,e1⟩:=I.base.slot b o e n hb hx;obtain⟨sl',e2⟩:=slot b _ (neL b o e) hb (neC b o e hx) e1 (I.base.free b o e n hx);exact⟨sl',e2⟩
 ·obtain⟨o',e1⟩:=I.base.there b o e hx;exact free b o' (neC b o e hx) e1 (I.base.free b o e n hx)
 ·obtain⟨o',e1⟩:=I.base.there b o e hx;exact there b o' (neC b o e hx) e1
 ·obtain⟨m1,e1⟩:=I.base.tbls b ps e;obtain⟨m2,e2⟩:=tbls b _ e1;exact⟨m1++m2,by rw [e2,Array.append_assoc]⟩
 ·obtain⟨m,hn,hl⟩:=I.loc;refine⟨m,ns m hn,λi x v e1 e2 e3=>?_⟩;obtain⟨u,r,l⟩:=hl i x v e1 e2 e3;refine⟨u,r,?_⟩;rcases l with l|⟨k,c,e,z⟩
  ·exact .inl l
  ·exact .inr ⟨k,c,e,cellK x c e _ z⟩
 ·obtain⟨v,z⟩:=I.cell x c e;exact⟨v,cellK x c e v z⟩
 ·obtain⟨m,⟨o,_,_,ho,_⟩,_⟩:=I.loc;exact free _ o (λz=>(hch _ z).2.1 rfl) ho I.free
 ·obtain⟨v,o,ho,hd⟩:=I.cell x c e;exact free c o (λz=>(hch c z).2.2.1 x c e rfl) ho (I.freeC x c e)
 ·obtain⟨e,n,ne,nf,d⟩:=I.pin p hp;have nch:p.1∉ch:=λz=>(hch p.1 z).2.2.2 p hp rfl;exact⟨keep p.1 p.2 ne nf nch e n,free p.1 p.2 nch e n,ne,nf,d⟩
def Inv.un{t':Nat}(I:Inv X pins σ H s)(u:Un X.fs [] H H' s.heap h')(hok:HOk X.prog X.w H' h'):Inv X pins σ H' {s with heap:=h',toks:=t'}:=by obtain⟨m,⟨o,es,ep,ho,r⟩,_⟩:=id I.loc;obtain⟨sl,hL⟩:=u.any ho I.free (by simp);exact I.step (g':=s.gens) (d':=s.drawn) (ch:=[]) (λ_ z=>nomatch z) (λb o _ hb _ e n=>u.keep b o e n hb (by simp)) (λb o _ hb _ e n=>u.slot b o e n hb (by simp)) (λb o _ e n=>u.free b o e n (by simp)) (λb o _ e=>u.there b o e (by simp)) u.tups u.frzs u.tbls (λm' hm=>by obtain⟨o',es',ep',ho',r'⟩:=hm;rw [ho]at ho';cases ho';exact⟨_,es',ep',hL,r'⟩) hok I.bare
def Inv.call{g':Array GenState}{t':Nat}{d':Drawn}{ch:Ah}(I:Inv X pins σ H s)(u:Un (frs X.stack) ch H H' s.heap h')(hok:HOk X.prog X.w H' h')(hg:AllBare g')
  (hch: ∀b∈ch,(b∈X.ex\/X.s₀.heap.objs.size<=b)/\b≠X.env.locals/\(∀x c,X.env.cells.lookup x=some c->c≠b)/\ ∀p∈X.pn++pins,p.1≠b):
  Inv X pins σ H' {s with heap:=h',gens:=g',drawn:=d',toks:=t'}:=by
 obtain⟨m,⟨o,es,ep,ho,r⟩,_⟩:=id I.loc;obtain⟨sl,hL⟩:=u.any ho I.free λz=>(hch _ z).2.1 rfl;exact I.step (ch:=ch) hch (λb o hL hb hc e n=>u.keep b o e n (λz=>(mC.mp (I.stkSub b z)).elim hL hb) hc) (λb o _ _ hc e n=>u.any e n hc) (λb o hc e n=>u.free b o e n hc) (λb o hc e=>u.there b o e hc) u.tups u.frzs u.tbls (λm' hm=>by obtain⟨o',es',ep',ho',r'⟩:=hm;rw [ho]at ho';cases ho';exact⟨_,es',ep',hL,r'⟩) hok hg
def Inv.turned{t':Nat}{it:Addr}(I:Inv X pins σ H s)(k: ∀b o,b≠it->s.heap.get? b=some o->h'.get? b=some o)(hn:H it=none)(hL:it≠X.env.locals)
  (h1:it∈X.ex\/X.s₀.heap.objs.size<=it) (h2: ∀x c,X.env.cells.lookup x=some c->c≠it) (h3: ∀p∈X.pn++pins,p.1≠it):Inv X pins σ H {s with heap:=h',toks:=t'}:=by
 have nit: ∀b u,H b=some u->b≠it:=λb u e z=>by rw [z,hn]at e;cases e
 refine I.step (g':=s.gens) (d':=s.drawn) (ch:=[it]) (λb hb=>?_) (λb o _ _ hc e _=>k b o (λz=>hc (by simp [z])) e) (λb o _ _ hc e _=>⟨o.slots,k b o (λz=>hc (by simp [z])) e⟩) (λ_ _ _ _ n=>n)
  (λb o hc e=>⟨o,k b o (λz=>hc (by simp [z])) e⟩) (λ_ _ e=>e) (λ_ _ _ e=>e) (λb ps e=>⟨#[],by rw [e];simp⟩) (λm hm=>?_) (λb u e=>?_) I.bare
 ·have e:b=it:=by simpa using hb
  subst e;exact⟨h1,hL,h2,h3⟩
 ·obtain⟨o,es,ep,ho,r⟩:=hm;exact⟨o,es,ep,k _ o (Ne.symm hL) ho,r⟩
 ·refine(I.hok b u e).stay (λc v hc q=>k c v ?_ q) (λ_ q=>q) λ_ _ q=>q;rcases hc with z|z
  ·rw [z];exact nit b u e
  ·exact nit c _ z
def Inv.tok(I:Inv X pins σ H s)(t:Nat):Inv X pins σ H {s with toks:=t}:=I.un (h':=s.heap) (t':=t) Un.refl I.hok
def Inv.kept{t':Nat}(I:Inv X pins σ H s)(k: ∀b u,s.heap.get? b=some u->h'.get? b=some u):Inv X pins σ H {s with heap:=h',toks:=t'}:=I.un (Un.kept k) (I.hok.kept k)
def Inv.laid{a:Addr}{o:HO}{t':Nat}(I:Inv X pins σ H s)(k: ∀b u,s.heap.get? b=some u->h'.get? b=some u)(hp:s.heap.objs.size<=a)(new:ObjOk X.prog X.w (upd H a o) h' a o):
  Inv X pins σ (upd H a o) {s with heap:=h',toks:=t'}:=I.un (Un.laid k hp (I.hok.fresh hp)) (I.hok.laid k hp new)
def Inv.write{x e:Addr}{o:HO}{t':Nat}(I:Inv X pins σ H s)(mu:Mut (H x))(he:e=x\/H e=some (.own x))(k: ∀b u,b≠e->s.heap.get? b=some u->h'.get? b=some u)(heo: ∃u,h'.get? e=some u)
  (new:ObjOk X.prog X.w (upd H x o) h' x o):Inv X pins σ (upd H x o) {s with heap:=h',toks:=t'}:=I.un (Un.write mu he k heo) (I.hok.write mu he k heo new)
def Inv.pins_of{pins':Ba}(I:Inv X pins σ H s)(h: ∀p∈pins',s.heap.get? p.1=some p.2/\H p.1=none/\p.1≠X.env.locals/\p.1∉X.fs/\ ∀v,p.2.data≠.cell v):Inv X pins' σ H s:=
 ⟨I.ok,I.os,I.bare,I.base,I.loc,I.cell,I.free,I.freeC,λp hp=>(mem_append.mp hp).elim (λz=>I.pin p (mem_append_left _ z)) (h p),I.hok,I.len⟩
def zQK{N:Ai}(hN:N.Nodup){i j:Nat}{x:Str}(a:N[i]? =some x)(b:N[j]? =some x):i=j:=by obtain⟨h1,e1⟩:=gS0.mp a;obtain⟨h2,e2⟩:=gS0.mp b;exact(getElem_inj hN).mp (e1.trans e2.symm)
def zMD{M:Model}{A:Around}{E:VP}{i:Nat}{x:Str}{v:V}{u:Value}{Q:Unit->Shared->Prop}(I:Inv X pins σ H s)(hN:X.N.Nodup)(hi:X.N[i]? =some x)(hx:Loc X.env.scope x)(r:RelV v u)
  (h: ∀s',Inv X pins (σ.set i (some v)) H s'->(∃a,Heap.SameBut a s.heap s'.heap/\(a=X.env.locals\/X.env.cells.lookup x=some a))->Q () s') (hf:X.fn x=true\/X.env.scope.names.lookup x=some .local:=by first |exact .inl rfl|exact .inr rfl|assumption):wpAny M A (storeName X.env x u) Q E s:=by
 obtain⟨m,hn,hl⟩:=id I.loc;have hcls:(X.env.scope.kind==.class || (X.env.scope.kind==.module&&X.env.locals !=X.env.globals))=false:=by rw [I.ok.kind];rfl
 have hiσ:i<σ.length:=by rw [I.len];exact(gS0.mp hi).1
 have cne:=I.cne
 have tracked: ∀{a:Addr}{h':Heap},(∃o,s.heap.get? a=some o/\H a=none)->Heap.SameBut a s.heap h'->HOk X.prog X.w H h':=λ{a h'} ha hs b ob e=>by
  obtain⟨_,_,hfree⟩:=ha;refine(I.hok b ob e).stay (λc w' hc q=>(hs.2 c ?_).trans q) (λ_ q=>q) λ_ _ q=>q;rintro rfl;rcases hc with rfl|hc
  ·rw [hfree]at e;cases e
  ·rw [hfree]at hc;cases hc
 rcases hx with hk|hk
 ·refine wpAny_storeName_local hk hn (λh' hn' hs=>?_) hcls;obtain⟨oL,_,_,hoL,_⟩:=id hn;refine h _ ⟨I.ok,I.os,I.bare,⟨λb o e n hb hx=>?_,λb o e n hb hx=>?_,I.base.free,λb o e hx=>?_,I.base.tups,I.base.frzs,I.base.tbls⟩,⟨_,hn',λj y v' e1 e2 e3=>?_⟩,λy c e=>?_,I.free,I.freeC,λp hp=>?_,tracked ⟨oL,hoL,I.free⟩ hs,by simpa using I.len⟩ ⟨_,hs,.inl rfl⟩
  ·exact(hs.2 b (ne_of_lt (lt_of_lt_of_le (Heap.lt_size e) I.ok.above))).trans (I.base.keep b o e n hb hx)
  ·obtain⟨sl,e1⟩:=I.base.slot b o e n hb hx;exact⟨sl,(hs.2 b (ne_of_lt (lt_of_lt_of_le (Heap.lt_size e) I.ok.above))).trans e1⟩
  ·obtain⟨o',e1⟩:=I.base.there b o e hx;exact⟨o',(hs.2 b (ne_of_lt (lt_of_lt_of_le (Heap.lt_size e) I.ok.above))).trans e1⟩
  ·by_cases hj:j=i
   ·subst hj;rw [hi]at e1;cases e1;rw [getElem?_set_self hiσ]at e2;cases e2;exact⟨u,r,.inl ⟨hk,by simp⟩⟩
   ·rw [getElem?_set_ne (Ne.symm hj)]at e2;obtain⟨u',r',q⟩:=hl j y v' e1 e2 e3;refine⟨u',r',?_⟩;rcases q with⟨k,e⟩|⟨k,c,e,z⟩
    ·refine .inl ⟨k,?_⟩;have:y≠x:=λe=>hj (zQK hN e1 (e▸hi));simp [this,e]
    ·exact .inr ⟨k,c,e,z.sameBut hs (cne y c e)⟩
  ·obtain⟨w',z⟩:=I.cell y c e;exact⟨w',z.sameBut hs (cne y c e)⟩
  ·obtain⟨e,n,ne,nf,d⟩:=I.pin p hp;exact⟨(hs.2 p.1 ne).trans e,n,ne,nf,d⟩
 ·have hfn:X.fn x=true:=by
   rcases hf with z|z
   ·exact z
   ·rw [z]at hk;cases hk
  obtain⟨c,hc⟩:=I.ok.has x (.inl hk);obtain⟨w',z⟩:=I.cell x c hc;refine wpAny_storeName_cell I.ok.kind hk hc z (λh' hc' hs=>?_);obtain⟨oc,hoc,hocd⟩:=id z;refine h {s with heap:=h'} ⟨I.ok,I.os,I.bare,⟨λb o e n hb hx=>?_,λb o e n hb hx=>?_,I.base.free,λb o e hx=>?_,I.base.tups,I.base.frzs,I.base.tbls⟩,⟨m,hn.sameBut hs (Ne.symm (cne x c hc)),λj y v' e1 e2 e3=>?_⟩,λy c' e=>?_,I.free,I.freeC,λp hp=>?_,tracked ⟨oc,hoc,I.freeC x c hc⟩ hs,by simpa using I.len⟩ ⟨c,hs,.inr hc⟩
  ·exact(hs.2 b (ne_of_lt (lt_of_lt_of_le (Heap.lt_size e) (I.ok.cab x c hfn hc)))).trans (I.base.keep b o e n hb hx)
  ·obtain⟨sl,e1⟩:=I.base.slot b o e n hb hx;exact⟨sl,(hs.2 b (ne_of_lt (lt_of_lt_of_le (Heap.lt_size e) (I.ok.cab x c hfn hc)))).trans e1⟩
  ·obtain⟨o',e1⟩:=I.base.there b o e hx;exact⟨o',(hs.2 b (ne_of_lt (lt_of_lt_of_le (Heap.lt_size e) (I.ok.cab x c hfn hc)))).trans e1⟩
  ·by_cases hj:j=i
   ·subst hj;rw [hi]at e1;cases e1;rw [getElem?_set_self hiσ]at e2;cases e2;exact⟨u,r,.inr ⟨.inl hk,c,hc,hc'⟩⟩
   ·rw [getElem?_set_ne (Ne.symm hj)]at e2;obtain⟨u',r',q⟩:=hl j y v' e1 e2 e3;refine⟨u',r',?_⟩;rcases q with q|⟨k,c',e,z'⟩
    ·exact .inl q
    ·refine .inr ⟨k,c',e,z'.sameBut hs ?_⟩;rintro rfl;exact hj (zQK hN e1 (I.ok.inj _ _ _ e hc▸hi))
  ·by_cases hcc:c'=c
   ·subst hcc;exact⟨_,hc'⟩
   ·obtain⟨w2,z2⟩:=I.cell y c' e;exact⟨w2,z2.sameBut hs hcc⟩
  ·obtain⟨e,n,ne,nf,d⟩:=I.pin p hp;refine⟨(hs.2 p.1 ?_).trans e,n,ne,nf,d⟩;intro q;rw [q,hoc]at e;have q':oc=p.2:=Option.some.inj e;exact d w' (by rw [<-q'];exact hocd)
def zQL{M:Model}{A:Around}{E:VP}{i:Nat}{x:Str}{v:V}{u:Value}{Q:Unit->Shared->Prop}(I:Inv X pins σ H s)(hN:X.N.Nodup)(hi:X.N[i]? =some x)(hx:Loc X.env.scope x)(r:RelV v u)
  (h: ∀s',Inv X pins (σ.set i (some v)) H s'->Q () s') (hf:X.fn x=true\/X.env.scope.names.lookup x=some .local:=by first |exact .inl rfl|exact .inr rfl|assumption):wpAny M A (storeName X.env x u) Q E s:=
 zMD I hN hi hx r (λs' I' _=>h s' I') hf
def Inv.call'{s':Shared}{ch:Ah}(I:Inv X pins σ H s)(ho:s'.os=s.os)(u:Un (frs X.stack) ch H H' s.heap s'.heap)(hok:HOk X.prog X.w H' s'.heap)(hg:AllBare s'.gens)
  (hch: ∀b∈ch,(b∈X.ex\/X.s₀.heap.objs.size<=b)/\b≠X.env.locals/\(∀x c,X.env.cells.lookup x=some c->c≠b)/\ ∀p∈X.pn++pins,p.1≠b):Inv X pins σ H' s':=by
 obtain⟨h',g',d',t',o'⟩:=s';have e:o'=s.os:=ho;subst e;exact I.call (g':=g') (t':=t') (d':=d') u hok hg hch
end
abbrev XK:=Value->Option Addr->Hp->Prop
abbrev St:=List (Option V)
abbrev VK:=V->Hp->Prop
abbrev TE:=St->Hp->VK->Prop
abbrev TT:=St->Hp->(Bool->Hp->Prop)->Prop
abbrev TA:=St->Hp->(List V->Hp->Prop)->Prop
structure Ends where
 nx:St->Hp->Prop
 rt:VK
 bk:St->Hp->Prop:=λ_ _=>False
 ct:St->Hp->Prop:=λ_ _=>False
abbrev TS:=Ends->St->Hp->Prop
def EP(X:Cx)(pins:Ba)(σ:St)(Q:VK)(u:Value)(s':Shared):Prop:= ∃v H',Inv X pins σ H' s'/\RelV v u/\Q v H'
def TP(X:Cx)(pins:Ba)(σ:St)(Q:Bool->Hp->Prop)(b:Bool)(s':Shared):Prop:= ∃H',Inv X pins σ H' s'/\Q b H'
def AP(X:Cx)(pins:Ba)(σ:St)(Q:List V->Hp->Prop)(us:Ae)(s':Shared):Prop:= ∃vs H',Inv X pins σ H' s'/\Vals vs us/\Q vs H'
def SP(X:Cx)(pins:Ba)(D:Ends)(f:Flow)(s':Shared):Prop:=
 match f with
 |.next=> ∃σ' H',Inv X pins σ' H' s'/\D.nx σ' H'
 |.brk=> ∃σ' H',Inv X pins σ' H' s'/\D.bk σ' H'
 |.cont=> ∃σ' H',Inv X pins σ' H' s'/\D.ct σ' H'
 |.ret u=> ∃v σ' H',Inv X pins σ' H' s'/\RelV v u/\D.rt v H'
def PE(X:Cx)(e:Expr)(t:TE):Prop:=
 ∀(pins:Ba)(s:Shared)(σ:St)(H:Hp)(Q:VK),Inv X pins σ H s->t σ H Q->wpAny (model X.prog X.w) X.A (eval e X.env) (EP X pins σ Q) X.xe s
def PT(X:Cx)(e:Expr)(t:TT):Prop:=
 ∀(pins:Ba)(s:Shared)(σ:St)(H:Hp)(Q:Bool->Hp->Prop),Inv X pins σ H s->t σ H Q->wpAny (model X.prog X.w) X.A (isTrue e X.env (eval e X.env)) (TP X pins σ Q) X.xe s
def PW(X:Cx)(e:Expr)(t:TT):Prop:=
 ∀(whole:Sem Value)(pins:Ba)(s:Shared)(σ:St)(H:Hp)(Q:Bool->Hp->Prop),Inv X pins σ H s->t σ H Q->wpAny (model X.prog X.w) X.A (isTrue e X.env whole) (TP X pins σ Q) X.xe s
def PW.pt{X:Cx}{e:Expr}{t:TT}(h:PW X e t):PT X e t:=h _
def PA(X:Cx)(es:Bd)(t:TA):Prop:=
 ∀(pos:Pos)(pins:Ba)(s:Shared)(σ:St)(H:Hp)(Q:List V->Hp->Prop),Inv X pins σ H s->t σ H Q->wpAny (model X.prog X.w) X.A (spliced (backTo pos (starEach es X.env))) (AP X pins σ Q) X.xe s
def PS(X:Cx)(st:Stmt)(t:TS):Prop:=
 ∀(pins:Ba)(s:Shared)(σ:St)(H:Hp)(D:Ends),Inv X pins σ H s->t D σ H->wpAny (model X.prog X.w) X.A (exec st X.env) (SP X pins D) X.xe s
def PSs(X:Cx)(st:List Stmt)(t:TS):Prop:=
 ∀(pins:Ba)(s:Shared)(σ:St)(H:Hp)(D:Ends),Inv X pins σ H s->t D σ H->wpAny (model X.prog X.w) X.A (execs st X.env) (SP X pins D) X.xe s
def thn{α:Type}{t:Sem α}{Q Q':α->Shared->Prop}{M:Model}{A:Around}{E:VP}{s:Shared}(h:wpAny M A t Q E s)(hQ: ∀a s,Q a s->Q' a s):wpAny M A t Q' E s:=wpAny_mono h hQ λ_ _ x=>x
section
variable{X:Cx}
def tVar(i:Nat):TE:=λσ H Q=> ∃v,σ[i]? =some (some v)/\Q v H
def tC(v:V):TE:=λ_ H Q=>Q v H
def yJR{i:Nat}{x:Str}{pos:Pos}(hN:X.N[i]? =some x)(hv:Vis X.env.scope x)(hd:(x==("__debug__":Str))=false:=by decide)(hcd:(x==("__classdict__":Str))=false:=by decide):PE X (.Name x pos) (tVar i):=by
 intro pins s σ H Q I h;obtain⟨v,e,h⟩:=h;obtain⟨m,hn,hl⟩:=I.loc;obtain⟨u,r,l⟩:=hl i x v hN e hv;have fin:EP X pins σ Q u s:=⟨v,H,I,r,h⟩
 rcases l with⟨hk,hm⟩|⟨hk,c,hc,hcell⟩
 ·exact wpAny_Name (wpAny_loadName_local I.ok.kind hk hn hm fin) hd
 ·rcases hk with hk|hk
  ·exact wpAny_Name (wpAny_loadName_cell I.ok.kind hk hc hcell fin) hd
  ·exact wpAny_Name (wpAny_loadName_free I.ok.kind hk hc hcell fin hcd) hd
def zZV{i j pos}:PE X (.Constant (.int i) j pos) (tC (.int i)):=λ_ _ _ H _ I h=>wpAny_Constant_int ⟨.int i,H,I.tok _,⟨_,rfl⟩,h⟩
def pe_bl{b j pos}:PE X (.Constant (.bool b) j pos) (tC (.bl b)):=λ_ _ _ H _ I h=>Constant_bool ⟨.bl b,H,I,rfl,h⟩
def yJS{j pos}:PE X (.Constant .none j pos) (tC .non):=λ_ _ _ H _ I h=>Constant_none ⟨.non,H,I,rfl,h⟩
def yJT{x j pos}:PE X (.Constant (.str x) j pos) (tC (.str x)):=λ_ _ _ H _ I h=>Calls.Constant_str ⟨.str x,H,I.tok _,⟨_,rfl⟩,h⟩
def Gl(X:Cx)(x:Str):Prop:=X.env.kindOf x=some .globalImplicit
def yEW{E:VP}{pins:Ba}{s:Shared}{σ:St}{H:Hp}{x:Str}{u:Value}{pos:Pos}{Q:VP}(I:Inv X pins σ H s)(hg:Gl X x)(hm:X.mg x=some u)(h:Q u s)
  (hd:(x==("__debug__":Str))=false:=by decide):wpAny (model X.prog X.w) X.A (eval (.Name x pos) X.env) Q E s:=
 Calls.Name_function_global I.ok.kind hg (Calls.loadGlobal_global (by rw [I.ok.glob];exact I.mod.glob.keeps I.bk) hm h) hd
def zNT{E:VP}{pins:Ba}{s:Shared}{σ:St}{H:Hp}{x:Str}{u:Value}{pos:Pos}{Q:VP}(I:Inv X pins σ H s)(hg:Gl X x)(hm:X.mg x=none)(hv:bootBuiltins x=some u)(h:Q u s)
  (hn:x≠"__name__":=by decide) (hd:(x==("__debug__":Str))=false:=by decide):wpAny (model X.prog X.w) X.A (eval (.Name x pos) X.env) Q E s:=by
 obtain⟨mb,h1,h2⟩:=I.mod.blt;exact Calls.Name_function_global I.ok.kind hg (Calls.loadGlobal_builtin (by rw [I.ok.glob];exact I.mod.glob.keeps I.bk) hm (by rw [I.ok.blt];exact h1.keeps I.bk) ((h2 x hn).trans hv) h) hd
variable{a b:Expr}{ta tb:TE}{pos:Pos}
variable{tA tB':TT}{rest:Bd}
def tAnd(t u:TT):TT:=λσ H Q=>t σ H λc H1=>if c=true then u σ H1 Q else Q false H1
def yEX(ha:PT X a tA):PW X (.BoolOp .And [a] pos) tA:=by
 intro wh pins s σ H Q I h;refine isTrue_and (thn (ha pins s σ H Q I h) λc s1 e=>?_)
 cases c with
 |true=>exact isTrue_and_nil e
 |false=>exact e
def yJU(ha:PT X a tA)(hb:PW X (.BoolOp .And (b::rest) pos) tB'):PW X (.BoolOp .And (a::b::rest) pos) (tAnd tA tB'):=by
 intro wh pins s σ H Q I h;refine isTrue_and (thn (ha pins s σ H _ I h) λc s1 ⟨H1,I1,q1⟩=>?_)
 cases c with
 |true=>exact hb wh pins s1 σ H1 Q I1 q1
 |false=>exact⟨H1,I1,q1⟩
def tOrV(ta tb:TE):TE:=λσ H Q=>ta σ H λx H1=> ∃c,x=.bl c/\if c=true then Q (.bl true) H1 else tb σ H1 Q
def tNotV(ta:TE):TE:=λσ H Q=>ta σ H λx H1=> ∃c,x=.bl c/\Q (.bl (!c)) H1
def yJV{op}{t:TE}(h:PE X a t):PE X (.BoolOp op [a] pos) t:=λpins s σ H Q I hw=>BoolOp_one (h pins s σ H Q I hw)
def pe_or(ha:PE X a ta)(hb:PE X (.BoolOp .Or (b::rest) pos) tb):PE X (.BoolOp .Or (a::b::rest) pos) (tOrV ta tb):=by
 intro pins s σ H Q I h;refine BoolOp_or (thn (ha pins s σ H _ I h) λv s1 ⟨x,H1,I1,r1,q1⟩=>?_);obtain⟨c,rfl,q1⟩:=q1;cases r1;refine wpAny_truthy_bool ?_
 cases c with
 |false=>exact hb pins s1 σ H1 Q I1 q1
 |true=>exact⟨.bl true,H1,I1,rfl,q1⟩
def yJW(ha:PE X a ta):PE X (.UnaryOp .Not a pos) (tNotV ta):=by intro pins s σ H Q I h;refine UnaryOp_ (thn (ha pins s σ H _ I h) λv s1 ⟨x,H1,I1,r1,q1⟩=>?_);obtain⟨c,rfl,q1⟩:=q1;cases r1;exact not_of (wpAny_truthy_bool ⟨.bl (!c),H1,I1,rfl,q1⟩)
end
def SqL(K:Be)(H:Hp)(a:Addr)(xs:List V):Prop:=
 Rd H a (.lst xs)\/
  ∃(o:Obj)(its:Ag)(n:Nat),K.lookup a=some o/\o.cls=.type "list"/\o.dict=none/\o.data=.seq its n/\its.size<=sizeLine/\Vals xs its.toList
def SqT(K:Be)(H:Hp)(a:Addr)(xs:List V):Prop:=
 Rd H a (.tup xs)\/
  ∃(o:Obj)(its:Ag)(n:Nat),K.lookup a=some o/\o.cls=.type "tuple"/\o.data=.seq its n/\its.size<=sizeLine/\Vals xs its.toList
def absV:Value->Option V
 |.none=>some .non
 |.bool b=>some (.bl b)
 |.int i _=>some (.int i)
 |.str x _=>some (.str x)
 |.bytes b _=>some (.byt b)
 |.float b _=>some (.flt b)
 |.ref a=>some (.ref a)
 |.type n=>some (.ty n)
 |_=>none
theorem RelV.abs{x:V}{u:Value}(r:RelV x u):absV u=some x:=by
 cases x with
 |non=>cases r;rfl
 |bl _=>cases r;rfl
 |int _=>obtain⟨t,rfl⟩:=r;rfl
 |str _=>obtain⟨t,rfl⟩:=r;rfl
 |byt _=>obtain⟨t,rfl⟩:=r;rfl
 |flt _=>obtain⟨t,rfl⟩:=r;rfl
 |ref _=>cases r;rfl
 |ty _=>cases r;rfl
def RelV.inj{x y:V}{u:Value}(r:RelV x u)(q:RelV y u):x=y:=Option.some.inj (r.abs.symm.trans q.abs)
theorem Vals.inj: ∀{xs ys:List V}{us:Ae},Vals xs us->Vals ys us->xs=ys
 |_,_,_,.nil,.nil=>rfl
 |_,_,_,.cons r t,.cons r' t'=>by rw [r.inj r',Vals.inj t t']
section
variable{X:Cx}{pins:Ba}{σ:St}{H:Hp}{s:Shared}{a:Addr}{xs ys:List V}
def SqL.of{K:Be}(h:H a=some (.lst xs)):SqL K H a xs:=.inl (.inl h)
def SqT.of{K:Be}(h:H a=some (.tup xs)):SqT K H a xs:=.inl (.inl h)
def Inv.list(I:Inv X pins σ H s)(h:SqL X.K H a xs): ∃its:List Value,Vals xs its/\PlainL s.heap a its.toArray/\xs.length<=sizeLine:=by
 rcases h with h|⟨o,its,n,hk,hc,hd,hs,hz,r⟩
 ·obtain⟨z,its,n,r,e⟩:=h.ok I.hok;exact⟨its,r,⟨_,n,e,rfl,rfl,rfl⟩,z⟩
 ·refine⟨its.toList,r,⟨o,n,I.kIn a o hk,hc,hd,by simpa using hs⟩,?_⟩;have e:=r.length;simp only [Array.length_toList]at e;omega
def Inv.tuple(I:Inv X pins σ H s)(h:SqT X.K H a xs): ∃its:List Value,Vals xs its/\IsTup s.heap a its.toArray/\xs.length<=sizeLine:=by
 rcases h with h|⟨o,its,n,hk,hc,hs,hz,r⟩
 ·obtain⟨z,its,r,p⟩:=h.ok I.hok;exact⟨its,r,p,z⟩
 ·refine⟨its.toList,r,⟨o,I.kIn a o hk,hc,n,by simpa using hs⟩,?_⟩;have e:=r.length;simp only [Array.length_toList]at e;omega
def Inv.list_inj(I:Inv X pins σ H s)(h:SqL X.K H a xs)(h':SqL X.K H a ys):xs=ys:=by
 obtain⟨its,r,⟨o,n,e,_,_,d⟩,_⟩:=I.list h;obtain⟨its',r',⟨o',n',e',_,_,d'⟩,_⟩:=I.list h';rw [e]at e';cases e';rw [d]at d';injection d' with d1 _
 have:its=its':=by simpa using congrArg Array.toList d1
 subst this;exact r.inj r'
def Inv.tuple_inj(I:Inv X pins σ H s)(h:SqT X.K H a xs)(h':SqT X.K H a ys):xs=ys:=by
 obtain⟨its,r,⟨o,e,_,n,d⟩,_⟩:=I.tuple h;obtain⟨its',r',⟨o',e',_,n',d'⟩,_⟩:=I.tuple h';rw [e]at e';cases e';rw [d]at d';injection d' with d1 _
 have:its=its':=by simpa using congrArg Array.toList d1
 subst this;exact r.inj r'
end
abbrev Cx.wish(X:Cx)(E:VP):Cx:={X with xe:=E}
abbrev Cx.nox(X:Cx):Cx:=X.wish λ_ _=>False
def Cx.Ok.wish{X:Cx}(ok:X.Ok)(E:VP):(X.wish E).Ok:=
 ⟨ok.mod,ok.kind,ok.glob,ok.blt,ok.above,ok.inj,ok.has,ok.cab,ok.hd,ok.frames,ok.stk,ok.exf,ok.bs,ok.bsz,ok.noex,ok.exfs,ok.funs,ok.frf⟩
def Cx.Ok.unwish{X:Cx}{E:VP}(ok:(X.wish E).Ok):X.Ok:=
 ⟨ok.mod,ok.kind,ok.glob,ok.blt,ok.above,ok.inj,ok.has,ok.cab,ok.hd,ok.frames,ok.stk,ok.exf,ok.bs,ok.bsz,ok.noex,ok.exfs,ok.funs,ok.frf⟩
section
variable{X:Cx}{pins:Ba}{σ:St}{H:Hp}{s:Shared}{E:VP}
def Inv.wish(I:Inv X pins σ H s)(E:VP):Inv (X.wish E) pins σ H s:=⟨I.ok.wish E,I.os,I.bare,I.base,I.loc,I.cell,I.free,I.freeC,I.pin,I.hok,I.len⟩
def Inv.unwish(I:Inv (X.wish E) pins σ H s):Inv X pins σ H s:=⟨I.ok.unwish,I.os,I.bare,I.base,I.loc,I.cell,I.free,I.freeC,I.pin,I.hok,I.len⟩
def SP.unwish{D:Ends}{f:Flow}{s':Shared}(h:SP (X.wish E) pins D f s'):SP X pins D f s':=by
 cases f with
 |next=>obtain⟨σ',H',I,q⟩:=h;exact⟨σ',H',I.unwish,q⟩
 |brk=>obtain⟨σ',H',I,q⟩:=h;exact⟨σ',H',I.unwish,q⟩
 |cont=>obtain⟨σ',H',I,q⟩:=h;exact⟨σ',H',I.unwish,q⟩
 |ret u=>obtain⟨v,σ',H',I,r,q⟩:=h;exact⟨v,σ',H',I.unwish,r,q⟩
def PSs.nox{st:List Stmt}{t:TS}(h:PSs X.nox st t):PSs X st t:=λpins s σ H D I hw=>
 wpAny_mono (h pins s σ H D (I.wish _) hw) (λ_ _ q=>q.unwish) λ_ _ z=>False.elim z
end
section
variable{X:Cx}{st:Stmt}{rest:List Stmt}{t u:TS}{e:Expr}{te:TE}{pos:Pos}
def tNext:TS:=λD σ H=>D.nx σ H
def tSeq(t u:TS):TS:=λD σ H=>t {D with nx:=u D} σ H
def yEY:PSs X [] tNext:=λ_ _ σ H _ I h=>wpAny_execs_nil ⟨σ,H,I,h⟩
def zZW(h1:PS X st t)(h2:PSs X rest u):PSs X (st::rest) (tSeq t u):=by
 intro pins s σ H D I h;refine wpAny_execs_cons (thn (h1 pins s σ H {D with nx:=u D} I h) λf s1 q=>?_)
 cases f with
 |next=>
  obtain⟨σ',H',I',q⟩:=q;exact h2 pins s1 σ' H' D I' q
 |ret v=>exact q
 |brk=>exact q
 |cont=>exact q
def yEZ(h1:PS X st t):PSs X [st] t:=by
 intro pins s σ H D I h;refine wpAny_execs_cons (thn (h1 pins s σ H D I h) λf s1 q=>?_)
 cases f with
 |next=>exact wpAny_execs_nil q
 |ret v=>exact q
 |brk=>exact q
 |cont=>exact q
def Inv.quiet{pins:Ba}{σ:St}{H:Hp}{s:Shared}(I:Inv X pins σ H s):interactive X.env=false:=by simp [interactive,I.ok.kind]
def tDrop(te:TE):TS:=λD σ H=>te σ H λ_ H1=>D.nx σ H1
def yFA(he:PE X e te)(hs:swapsWith e none pos.line X.env=pure false:=by rfl):PS X (.Expr e pos) (tDrop te):=by intro pins s σ H D I h;exact wpAny_Expr_any (thn (he pins s σ H _ I h) λv s1 ⟨x,H1,I1,r1,q1⟩=>⟨σ,H1,I1,q1⟩) I.quiet hs
def tRet(te:TE):TS:=λD σ H=>te σ H D.rt
def yJX(he:PE X e te):PS X (.Return (some e) pos) (tRet te):=by intro pins s σ H D I h;exact wpAny_Return_some (thn (he pins s σ H _ I h) λv s1 ⟨x,H1,I1,r1,q1⟩=>⟨x,σ,H1,I1,r1,q1⟩)
def tIfS(c:TT)(t u:TS):TS:=λD σ H=>c σ H λb H1=>if b=true then t D σ H1 else u D σ H1
def ps_if{c:Expr}{a b:List Stmt}{tc:TT}(hc:PT X c tc)(ha:PSs X a t)(hb:PSs X b u):PS X (.If c a b pos) (tIfS tc t u):=by
 intro pins s σ H D I h;refine wpAny_If (thn (hc pins s σ H _ I h) λd s1 ⟨H1,I1,q1⟩=>?_)
 cases d with
 |true=>exact ha pins s1 σ H1 D I1 q1
 |false=>exact hb pins s1 σ H1 D I1 q1
def yJY:TS:=λ_ _ _=>False
def zZX:PS X st yJY:=λ_ _ _ _ _ _ h=>h.elim
end
abbrev TG:=V->St->Hp->(St->Hp->Prop)->Prop
abbrev TGs:=List V->St->Hp->(St->Hp->Prop)->Prop
def PG(X:Cx)(target:Expr)(t:TG):Prop:=
 ∀(pins:Ba)(s:Shared)(σ:St)(H:Hp)(v:V)(u:Value)(Q:St->Hp->Prop),Inv X pins σ H s->RelV v u->t v σ H Q->
  wpAny (model X.prog X.w) X.A (assign target X.env u) (λ_ s'=> ∃σ' H',Inv X pins σ' H' s'/\Q σ' H') X.xe s
def PGs(X:Cx)(ts:Bd)(t:TGs):Prop:=
 ∀(pins:Ba)(s:Shared)(σ:St)(H:Hp)(vs:List V)(us:Ae)(Q:St->Hp->Prop),Inv X pins σ H s->Vals vs us->t vs σ H Q->
  wpAny (model X.prog X.w) X.A (assignInOrder ((assignEach ts X.env).map (·.2)) us) (λ_ s'=> ∃σ' H',Inv X pins σ' H' s'/\Q σ' H') X.xe s
abbrev TSet:=V->V->V->Hp->(Hp->Prop)->Prop
def PSet(X:Cx)(t:TSet):Prop:=
 ∀(pins:Ba)(s:Shared)(σ:St)(H:Hp)(o i v:V)(ov iv u:Value)(Q:Hp->Prop),Inv X pins σ H s->RelV o ov->RelV i iv->RelV v u->t o i v H Q->
  wpAny (model X.prog X.w) X.A (setItem ov iv u) (λ_ s'=> ∃H',Inv X pins σ H' s'/\Q H') X.xe s
section
variable{X:Cx}{pos:Pos}
def zZY(i:Nat):TG:=λv σ H Q=>Q (σ.set i (some v)) H
def zVD{i:Nat}{x:Str}(hN:X.N.Nodup)(hi:X.N[i]? =some x)(hx:Loc X.env.scope x)(hf:X.fn x=true\/X.env.scope.names.lookup x=some .local:=by first |exact .inl rfl|exact .inr rfl|assumption):PG X (.Name x pos) (zZY i):=by intro pins s σ H v u Q I r h;exact wpAny_assign_Name (zQL I hN hi hx r (λs' I'=>⟨_,H,I',h⟩) hf)
def gNil:TGs:=λvs σ H Q=>vs=[]/\Q σ H
def gCons(t:TG)(u:TGs):TGs:=λvs σ H Q=> ∃v r,vs=v::r/\t v σ H λσ' H'=>u r σ' H' Q
def yFB:PGs X [] gNil:=by intro pins s σ H vs us Q I r h;obtain⟨e,h⟩:=h;subst e;cases r;exact assignInOrder_nil ⟨σ,H,I,h⟩
def zZZ{e:Expr}{es:Bd}{t:TG}{u:TGs}(h1:PG X e t)(h2:PGs X es u)
  (hs:(assignEach (e::es) X.env).map (·.2)=assign e X.env::(assignEach es X.env).map (·.2):=by rfl):PGs X (e::es) (gCons t u):=by
 intro pins s σ H vs us Q I r h;obtain⟨v,vr,e1,h⟩:=h;subst e1
 cases r with
 |cons r rr=>
  rw [hs];refine assignInOrder_cons (thn (h1 pins s σ H _ _ _ I r h) λ_ s1 ⟨σ1,H1,I1,q1⟩=>?_);exact h2 pins s1 σ1 H1 _ _ Q I1 rr q1
def gTup(K:Be)(n:Nat)(t:TGs):TG:=λv σ H Q=> ∃a xs,v=.ref a/\SqT K H a xs/\xs.length=n/\t xs σ H Q
def yJZ{es:Bd}{k:Nat}{t:TGs}{n:Nat}(hc:X.calm=true)(h:PGs X es t)
  (hn:(assignEach es X.env).length=n:=by rfl) (hst:(assignEach es X.env).findIdx? (·.1)=none:=by rfl):PG X (.Tuple es k pos) (gTup X.K n t):=by
 intro pins s σ H v u Q I r hw;obtain⟨a,xs,e1,hq,hl,hw⟩:=hw;subst e1;cases r;obtain⟨its,rv,ht,hz⟩:=I.tuple hq;refine assign_Tuple_tuple (I.ok.hd hc) ht (by simp [hn, <-hl,rv.length]) hst λh' hx=>?_;have I1:Inv X pins σ H {s with heap:=h'}:=I.kept (t':=s.toks) λb o e=>hx b o (ne_of_lt (Heap.lt_size e)) e;exact h pins _ σ H xs _ Q I1 (by simpa using rv) hw
def gSub(to ti:TE)(t:TSet):TG:=λv σ H Q=>to σ H λo H1=>ti σ H1 λi H2=>t o i v H2 λH3=>Q σ H3
def yAA{o i:Expr}{to ti:TE}{t:TSet}(ho:PE X o to)(hi:PE X i ti)(hs:PSet X t)
  (ha: ∀v,assign (.Subscript o i pos) X.env v=(do
   let ov <-holding [v] (eval o X.env);let iv <-holding [v,ov] (eval i X.env)
   standAt pos
   holding [v,ov,iv] (setItem ov iv v)
   release [v,ov,iv] []):=by intro _;rfl):PG X (.Subscript o i pos) (gSub to ti t):=by
 intro pins s σ H v u Q I r h;rw [ha];refine wB0 (wpAny_holding (thn (ho pins s σ H _ I h) λov s1 ⟨x,H1,I1,r1,q1⟩=>?_));refine wB0 (wpAny_holding (thn (hi pins s1 σ H1 _ I1 q1) λiv s2 ⟨y,H2,I2,r2,q2⟩=>?_));refine wB0 (wpAny_standAt (wB0 (wpAny_holding (thn (hs pins s2 σ H2 x y v ov iv u _ I2 r1 r2 r q2) λ_ s3 ⟨H3,I3,q3⟩=>?_))));exact wpAny_release ⟨σ,H3,I3,q3⟩
def tAsg(te:TE)(g:TG):TS:=λD σ H=>te σ H λx H1=>g x σ H1 D.nx
def yKA{tg e:Expr}{te:TE}{g:TG}(he:PE X e te)(hg:PG X tg g)(hs:swapsWithSole [tg] e pos.line X.env=pure false:=by rfl)(hw:swappedStores [tg] e X.env=pure none:=by rfl)
  (h1:(assignEach [tg] X.env).map (·.2)=[assign tg X.env]:=by rfl):PS X (.Assign [tg] e pos) (tAsg te g):=by
 intro pins s σ H D I h;refine wpAny_Assign_stores (thn (he pins s σ H _ I h) λv s1 ⟨x,H1,I1,r1,q1⟩=>?_) hs hw;rw [h1];exact thn (hg pins s1 σ H1 x v _ I1 r1 q1) λ_ s2 q=>q
def yKB{i:Nat}{x:Str}{e:Expr}{te:TE}{pos':Pos}(hN:X.N.Nodup)(hi:X.N[i]? =some x)(hx:Loc X.env.scope x)(he:PE X e te)(hs:swapsWith e (some (.Name x pos')) pos.line X.env=pure false:=by rfl)(hf:X.fn x=true\/X.env.scope.names.lookup x=some .local:=by first |exact .inl rfl|exact .inr rfl|assumption):
  PS X (.Assign [.Name x pos'] e pos) (tAsg te (zZY i)):=by
 intro pins s σ H D I h;refine wpAny_Assign_Name (thn (he pins s σ H _ I h) λv s1 ⟨y,H1,I1,r1,q1⟩=>?_) hs;exact zQL I1 hN hi hx r1 (λs2 I2=>⟨_,H1,I2,q1⟩) hf
end
section
variable{X:Cx}{pos:Pos}
def yKC(c:TT)(tb:TS):TS:=λD σ H=> ∃W:Nat->St->Hp->Prop,(∃m,W m σ H)/\ ∀m σ H,W m σ H->
 c σ H λb H1=>if b=true then∃N:St->Hp->Prop,(∀σ' H',N σ' H'-> ∃m',m'<m/\W m' σ' H')/\tb {D with nx:=N,ct:=N,bk:=D.nx} σ H1 else D.nx σ H1
def yAB{c:Expr}{body:List Stmt}{tc:TT}{tb:TS}(hp:PassesOwn (model X.prog X.w) X.A X.env X.xe)(hc:PT X c tc)(hb:PSs X body tb):PS X (.While c body [] pos) (yKC tc tb):=by
 intro pins s σ H D I h;obtain⟨W,⟨m0,w0⟩,turn⟩:=h;refine wpAny_While (codeAny_whileLoop (λn s'=> ∃σ' H',Inv X pins σ' H' s'/\W n σ' H') ?_ m0 ⟨σ,H,I,w0⟩);rintro n s1 ⟨σ1,H1,I1,w1⟩;refine wpAny_passesOwn hp (thn (hc pins s1 σ1 H1 _ I1 (turn n σ1 H1 w1)) λb s2 ⟨H2,I2,q2⟩=>?_)
 cases b with
 |true=>
  obtain⟨N,hN,q2⟩:=q2;rw [iP rfl];refine wpAny_passesOwn hp (thn (hb pins s2 σ1 H2 _ I2 q2) λf s3 q3=>?_)
  cases f with
  |next=>
   obtain⟨σ3,H3,I3,n3⟩:=q3;obtain⟨m',hm,w3⟩:=hN σ3 H3 n3;exact⟨m',hm,σ3,H3,I3,w3⟩
  |cont=>
   obtain⟨σ3,H3,I3,n3⟩:=q3;obtain⟨m',hm,w3⟩:=hN σ3 H3 n3;exact⟨m',hm,σ3,H3,I3,w3⟩
  |brk=>exact q3
  |ret v=>exact q3
 |false=>
  rw [iN xF0];exact wpAny_execs_nil ⟨σ1,H2,I2,q2⟩
end
structure It where
 go:Nat->Hp->Prop
 yld:Nat->Hp->V->Hp->Prop
 stop:Nat->Hp->Prop
def zEN(X:Cx)(pins:Ba)(H:Hp)(b:Addr):Prop:=
 H b=none/\b≠X.env.locals/\b∉X.fs/\(b∈X.ex\/X.s₀.heap.objs.size<=b)/\(∀x c,X.env.cells.lookup x=some c->c≠b)/\ ∀p∈X.pn++pins,p.1≠b
def Inv.fpOk{X:Cx}{pins:Ba}{σ:St}{H H':Hp}{s:Shared}{b:Addr}(I:Inv X pins σ H s)(hb:s.heap.objs.size<=b)(hn:H' b=none):zEN X pins H' b:=by
 refine⟨hn,ne_of_gt (lt_of_lt_of_le I.lt hb),I.nofs hb,.inr (le_trans I.sz hb),λx c e z=>?_,λp hp z=>?_⟩
 ·obtain⟨v,q⟩:=I.cell x c e;exact absurd (lt_of_lt_of_le q.lt (by rw [z];exact hb)) (lt_irrefl _)
 ·exact absurd (lt_of_lt_of_le (Heap.lt_size (I.pin p hp).1) (by rw [z];exact hb)) (lt_irrefl _)
structure Turn(P:Program)(w:World)(K:Be)(tg:Expr)(J:It)(fp:Ah)(it:Addr)(tn:Nat->Heap->Prop):Prop where
 mem:it∈fp
 obj: ∀i h,tn i h-> ∀b∈fp, ∃o,h.get? b=some o/\ ∀v,o.data≠.cell v
 keep: ∀i h h',tn i h->(∀b∈fp, ∀o,h.get? b=some o->h'.get? b=some o)->tn i h'
 item: ∀(X:Cx),X.prog=P->X.w=w->X.K=K->X.calm=true-> ∀(i:Nat)(pins:Ba)(s:Shared)(σ:St)(H:Hp)(E:VP),Inv X pins σ H s->(∀b∈fp,zEN X pins H b)->tn i s.heap->J.go i H->
  wpAny (model P w) X.A (pyNext (.ref it)) (λr s1=> ∃u,r=some u/\
   wpAny (model P w) X.A (letOwnedTupleGo tg (.ref it) u) (λ_ s2=> ∃x H',Inv X pins σ H' s2/\RelV x u/\J.yld i H x H'/\tn (i+1) s2.heap/\ ∀b∈fp,H' b=none) E s1) E s
 done: ∀(X:Cx),X.prog=P->X.w=w->X.K=K->X.calm=true-> ∀(i:Nat)(pins:Ba)(s:Shared)(σ:St)(H:Hp)(E:VP),Inv X pins σ H s->(∀b∈fp,zEN X pins H b)->tn i s.heap->J.stop i H->
  wpAny (model P w) X.A (pyNext (.ref it)) (λr s1=>r=none/\Inv X pins σ H s1) E s
 self: ∀(A:Around)(i:Nat)(s:Shared)(Q:VP)(E:VP),tn i s.heap->Q (.ref it) s->wpAny (model P w) A (pyIter (.ref it)) Q E s
abbrev TI:=St->Hp->(It->Hp->Prop)->Prop
def PIE(X:Cx)(pins:Ba)(σ:St)(tg:Expr)(R:It->Hp->Prop)(itv:Value)(s2:Shared):Prop:=
 ∃(it:Addr)(fp:Ah)(tn:Nat->Heap->Prop)(J:It)(H':Hp),itv=.ref it/\Inv X pins σ H' s2/\Turn X.prog X.w X.K tg J fp it tn/\tn 0 s2.heap/\(∀b∈fp,zEN X pins H' b)/\R J H'
def PI(X:Cx)(tg iter:Expr)(wi:TI):Prop:=
 ∀(pins:Ba)(s:Shared)(σ:St)(H:Hp)(R:It->Hp->Prop),Inv X pins σ H s->wi σ H R->
  wpAny (model X.prog X.w) X.A (eval iter X.env) (λv s1=>wpAny (model X.prog X.w) X.A (pyIter v) (PIE X pins σ tg R) X.xe s1) X.xe s
def zVE{M:Model}{A:Around}{E:VP}{s:Shared}{tg:Expr}{it:Addr}{u:Value}{o:Obj}{n:String}{vs:Ag}{Q:Unit->Shared->Prop}(ho:s.heap.get? it=some o)(hc:o.cls=.type n)(hd:o.data=.fields vs)
  (hn:["enumerate","zip","dict_itemiterator","dict_reverseitemiterator","odict_iterator","itertools.zip_longest","itertools.pairwise"].contains n=false) (hQ:Q () s):wpAny M A (letOwnedTupleGo tg (.ref it) u) Q E s:=by
 unfold letOwnedTupleGo
 cases tg<;>first
  |exact wP0 hQ
  |(cases u<;>first
    |exact wP0 hQ
    |(refine wB0 (wpAny_load ho ?_)
      rw [hc,hd];show wpAny M A (if(["enumerate","zip","dict_itemiterator","dict_reverseitemiterator","odict_iterator","itertools.zip_longest","itertools.pairwise"].contains n&&vs[0]? ==some (rawInt _))=true then _ else _) Q E s;rw [iN (by intro h;rw [hn,Bool.false_and]at h;cases h)];exact wP0 hQ))
def Itl(K:Be)(a:Addr):It:=
 ⟨λi H=> ∃xs x,SqL K H a xs/\xs[i]? =some x,λi H x H'=>H'=H/\ ∀xs,SqL K H a xs->xs[i]? =some x,λi H=> ∃xs,SqL K H a xs/\xs.length<=i⟩
def Itt(K:Be)(a:Addr):It:=
 ⟨λi H=> ∃xs x,SqT K H a xs/\xs[i]? =some x,λi H x H'=>H'=H/\ ∀xs,SqT K H a xs->xs[i]? =some x,λi H=> ∃xs,SqT K H a xs/\xs.length<=i⟩
def Itr(lo:Int)(n:Nat):It:=⟨λi _=>i<n,λi H x H'=>H'=H/\x=.int (lo+i),λi _=>n<=i⟩
def zME{P:Program}{w:World}{K:Be}{tg:Expr}(a it:Addr):Turn P w K tg (Itl K a) [it] it (λi h=>h.IsListIter it a i) where
 mem:=by simp
 obj:=λi h st b hb=>by
  have e:b=it:=by simpa using hb
  subst e;obtain⟨o,e,c,d⟩:=st;exact⟨o,e,λv z=>by rw [d]at z;cases z⟩
 keep:=λi h h' st k=>st.at λo e=>k it (by simp) o e
 item:=by intro X hP hw hK hc i pins s σ H E I hf st hg;subst hP hw hK;obtain⟨xs,x,hq,hx⟩:=hg;obtain⟨its,rv,p,hz⟩:=I.list hq;obtain⟨u,hu,ru⟩:=rv.get hx;obtain⟨f0,f1,f2,f3,f4,f5⟩:=hf it (by simp);refine wpAny_pyNext_list_item st p.isList (x:=u) (by simpa using hu) λh' st' sb=>?_;have I1:Inv X pins σ H {s with heap:=h'}:=I.turned (t':=s.toks) (λb o hb e=>(sb.2 b hb).trans e) f0 f1 f3 f4 f5;obtain⟨o,e,c,d⟩:=id st';exact⟨u,rfl,zVE (s:={s with heap:=h'}) e c d (by decide) ⟨x,H,I1,ru,⟨rfl,λys hy=>by rw [I.list_inj hy hq];exact hx⟩,st',λb hb=>(hf b hb).1⟩⟩
 done:=by intro X hP hw hK hc i pins s σ H E I hf st hg;subst hP hw hK;obtain⟨xs,hq,hx⟩:=hg;obtain⟨its,rv,p,hz⟩:=I.list hq;obtain⟨f0,f1,f2,f3,f4,f5⟩:=hf it (by simp);have hl:=rv.length;exact wpAny_pyNext_list_end (I.ok.hd hc) st p.isList (by simp;omega) λh' eb=>⟨rfl,I.turned (t':=s.toks) (λb o hb e=>eb b o hb e) f0 f1 f3 f4 f5⟩
 self:=λ_ _ _ _ _ st h=>wpAny_pyIter_listiter st h
def zIY{P:Program}{w:World}{K:Be}{tg:Expr}(a it:Addr):Turn P w K tg (Itt K a) [it] it (λi h=>h.IsTupleIter it a i) where
 mem:=by simp
 obj:=λi h st b hb=>by
  have e:b=it:=by simpa using hb
  subst e;obtain⟨o,e,c,d⟩:=st;exact⟨o,e,λv z=>by rw [d]at z;cases z⟩
 keep:=λi h h' st k=>st.at λo e=>k it (by simp) o e
 item:=by intro X hP hw hK hc i pins s σ H E I hf st hg;subst hP hw hK;obtain⟨xs,x,hq,hx⟩:=hg;obtain⟨its,rv,p,hz⟩:=I.tuple hq;obtain⟨u,hu,ru⟩:=rv.get hx;obtain⟨f0,f1,f2,f3,f4,f5⟩:=hf it (by simp);refine wpAny_pyNext_tuple_item st (show s.heap.IsTuple a its.toArray from p) (x:=u) (by simpa using hu) λh' st' sb=>?_;have I1:Inv X pins σ H {s with heap:=h'}:=I.turned (t':=s.toks) (λb o hb e=>(sb.2 b hb).trans e) f0 f1 f3 f4 f5;obtain⟨o,e,c,d⟩:=id st';exact⟨u,rfl,zVE (s:={s with heap:=h'}) e c d (by decide) ⟨x,H,I1,ru,⟨rfl,λys hy=>by rw [I.tuple_inj hy hq];exact hx⟩,st',λb hb=>(hf b hb).1⟩⟩
 done:=by intro X hP hw hK hc i pins s σ H E I hf st hg;subst hP hw hK;obtain⟨xs,hq,hx⟩:=hg;obtain⟨its,rv,p,hz⟩:=I.tuple hq;obtain⟨f0,f1,f2,f3,f4,f5⟩:=hf it (by simp);have hl:=rv.length;exact wpAny_pyNext_tuple_end (I.ok.hd hc) st (show s.heap.IsTuple a its.toArray from p) (by simp;omega) λh' eb=>⟨rfl,I.turned (t':=s.toks) (λb o hb e=>eb b o hb e) f0 f1 f3 f4 f5⟩
 self:=λ_ _ _ _ _ st h=>wpAny_pyIter_tupleiter st h
def zTD{P:Program}{w:World}{K:Be}{tg:Expr}(it:Addr)(lo:Int)(n:Nat):Turn P w K tg (Itr lo n) [it] it (λi h=>IsRangeIter h it (lo+(i:Nat) * 1) ((n:Int) - (i:Nat)) 1) where
 mem:=by simp
 obj:=λi h st b hb=>by
  have e:b=it:=by simpa using hb
  subst e;exact⟨_,st,λv z=>by have z':Data.fields _=Data.cell v:=z;cases z'⟩
 keep:=λi h h' st k=>k it (by simp) _ st
 item:=by intro X hP hw hK hc i pins s σ H E I hf st hg;subst hP hw hK;obtain⟨f0,f1,f2,f3,f4,f5⟩:=hf it (by simp);have W:=Walks.range (prog:=X.prog) (w:=X.w) (I.ok.hd hc) it lo 1 n;refine W.item i s _ _ hg st λv h' tk hv st' kk=>?_;obtain⟨t,rfl⟩:=hv;have I1:Inv X pins σ H {s with heap:=h',toks:=tk}:=I.turned (λb o hb e=>kk b o (by simpa using hb) e) f0 f1 f3 f4 f5;refine⟨_,rfl,zVE (s:={s with heap:=h',toks:=tk}) (n:="range_iterator") st' rfl rfl (by decide) ⟨.int (lo+i),H,I1,⟨t,?_⟩,⟨rfl,rfl⟩,st',λb hb=>(hf b hb).1⟩⟩;rw [Int.mul_one]
 done:=by intro X hP hw hK hc i pins s σ H E I hf st hg;subst hP hw hK;obtain⟨f0,f1,f2,f3,f4,f5⟩:=hf it (by simp);exact wpAny_pyNext_range_end (I.ok.hd hc) st (by have:n<=i:=hg;omega) λh' eb=>⟨rfl,I.turned (t':=s.toks) (λb o hb e=>eb b o hb e) f0 f1 f3 f4 f5⟩
 self:=λ_ _ _ _ _ st h=>wpAny_pyIter_rangeiter st h
section
variable{X:Cx}{tg:Expr}
def iList(K:Be)(tl:TE):TI:=λσ H R=>tl σ H λx H1=> ∃a,x=.ref a/\(∃xs,SqL K H1 a xs)/\R (Itl K a) H1
def iTup(K:Be)(tl:TE):TI:=λσ H R=>tl σ H λx H1=> ∃a,x=.ref a/\(∃xs,SqT K H1 a xs)/\R (Itt K a) H1
def yFC{l:Expr}{tl:TE}(hl:PE X l tl):PI X tg l (iList X.K tl):=by
 intro pins s σ H R I h;refine thn (hl pins s σ H _ I h) λv s1 ⟨x,H1,I1,r1,q1⟩=>?_;obtain⟨a,e,⟨xs,hq⟩,q⟩:=q1;subst e;cases r1;obtain⟨its,rv,p,hz⟩:=I1.list hq;refine wpAny_pyIter_list p.isList ?_;refine⟨s1.heap.objs.size,[s1.heap.objs.size],_,_,H1,rfl,I1.kept (t':=s1.toks) λb o e=>hP0 _ e,zME a _,⟨_,Heap.get?_push_size _ rfl,rfl,rfl⟩,λb hb=>?_,q⟩;have e:b=s1.heap.objs.size:=by simpa using hb
 subst e;exact I1.fpOk (le_refl _) (I1.hok.fresh (le_refl _))
def yKD{l:Expr}{tl:TE}(hl:PE X l tl):PI X tg l (iTup X.K tl):=by
 intro pins s σ H R I h;refine thn (hl pins s σ H _ I h) λv s1 ⟨x,H1,I1,r1,q1⟩=>?_;obtain⟨a,e,⟨xs,hq⟩,q⟩:=q1;subst e;cases r1;obtain⟨its,rv,p,hz⟩:=I1.tuple hq;refine wpAny_pyIter_tuple (show s1.heap.IsTuple a its.toArray from p) ?_;refine⟨s1.heap.objs.size,[s1.heap.objs.size],_,_,H1,rfl,I1.kept (t':=s1.toks) λb o e=>hP0 _ e,zIY a _,⟨_,Heap.get?_push_size _ rfl,rfl,rfl⟩,λb hb=>?_,q⟩;have e:b=s1.heap.objs.size:=by simpa using hb
 subst e;exact I1.fpOk (le_refl _) (I1.hok.fresh (le_refl _))
def yAC{pins:Ba}{σ:St}{H:Hp}{s:Shared}{R:It->Hp->Prop}{E:VP}{lo hi:Int}{t u v:Tok}{tk:Nat}(I:Inv X pins σ H s)(h1: -(2 ^ 62)<=lo)(h2:lo<2 ^ 62)(h3: -(2 ^ 62)<=hi)(h4:hi<2 ^ 62)
  (q:R (Itr lo (hi - lo).toNat) H):wpAny (model X.prog X.w) X.A (pyIter (.ref s.heap.objs.size)) (PIE X pins σ tg R) E {s with heap:=s.heap.push {cls:=.type "range",data:=.fields #[.int lo t,.int hi u,.int 1 v]},toks:=tk}:=by
 refine wpAny_pyIter_range (IsRange.new ..) (small_one h1 h2 h3 h4) ?_;have I1:Inv X pins σ H {s with heap:=s.heap.push {cls:=.type "range",data:=.fields #[.int lo t,.int hi u,.int 1 v]},toks:=tk}:=I.kept λb o e=>hP0 _ e
 refine⟨(s.heap.push {cls:=.type "range",data:=.fields #[.int lo t,.int hi u,.int 1 v]}).objs.size,[(s.heap.push {cls:=.type "range",data:=.fields #[.int lo t,.int hi u,.int 1 v]}).objs.size],_,_,H,rfl,
  I1.kept (t':=tk) λb o e=>hP0 _ e,zTD _ lo (hi - lo).toNat,?_,λb hb=>?_,q⟩
 ·have e1:lo+((0:Nat):Int) * 1=lo:=by simp
  have e2:(((hi - lo).toNat:Nat):Int) - ((0:Nat):Int)=Builtin.Range.rangeSize lo hi 1:=by rw [rangeSize_one];split<;>omega
  show IsRangeIter _ _ (lo+((0:Nat):Int) * 1) ((((hi - lo).toNat:Nat):Int) - ((0:Nat):Int)) 1;rw [e1,e2];exact Heap.get?_push_size _ rfl
 ·have e:b=(s.heap.push {cls:=.type "range",data:=.fields #[.int lo t,.int hi u,.int 1 v]}).objs.size:=by simpa using hb
  subst e;exact I1.fpOk (le_refl _) (I1.hok.fresh (le_refl _))
def iRng1(ta:TA):TI:=λσ H R=>ta σ H λvs H1=> ∃j:Int,vs=[.int j]/\ -(2 ^ 62)<=j/\j<2 ^ 62/\R (Itr 0 j.toNat) H1
def zXX{a:Expr}{ta:TA}{p pos:Pos}(hg:Gl X "range")(hm:X.mg "range"=none)(ha:PA X [a] ta)(hs:starEach [a] X.env=[(false,eval a X.env)]:=by rfl):PI X tg (.Call (.Name "range" p) [a] [] pos) (iRng1 ta):=by
 intro pins s σ H R I h;refine Call_ (zNT I hg hm boot_range (PyProof.Rows.callWith_type1 (thn (ha pos pins s σ H _ I h) λus s1 ⟨vs,H1,I1,r1,q1⟩=>?_) hs rfl));obtain⟨j,e,q1,q2,q⟩:=q1;subst e
 cases r1 with
 |cons r rr=>
  cases rr;obtain⟨t,rfl⟩:=r;exact call_range_1 (yAC I1 (by omega) (by omega) q1 q2 (by simpa using q))
def tFor(wi:TI)(g:TG)(tb:TS):TS:=λD σ H=>wi σ H λJ H1=> ∃W:Nat->Nat->St->Hp->Prop,(∃m,W 0 m σ H1)/\ ∀i m σ H,W i m σ H->
 (J.stop i H/\D.nx σ H)\/(J.go i H/\ ∃N:St->Hp->Prop,(∀σ' H',N σ' H'-> ∃m',m'<m/\W (i+1) m' σ' H')/\ ∀x H',J.yld i H x H'->g x σ H' λσ2 H2=>tb {D with nx:=N,ct:=N,bk:=D.nx} σ2 H2)
def zGF(fp:Ah)(h:Heap):List (Addr×Obj):=fp.filterMap λb=>(h.get? b).map λo=>(b,o)
def zEO{fp:Ah}{h:Heap}{b:Addr}{o:Obj}(hb:b∈fp)(e:h.get? b=some o):(b,o)∈zGF fp h:=mem_filterMap.mpr ⟨b,hb,by rw [e];rfl⟩
def zXY{fp:Ah}{h:Heap}{p:Addr×Obj}(hp:p∈zGF fp h):p.1∈fp/\h.get? p.1=some p.2:=by
 obtain⟨b,hb,e⟩:=mem_filterMap.mp hp
 cases q:h.get? b with
 |none=>rw [q]at e;cases e
 |some o=>
  rw [q]at e;have e':(b,o)=p:=Option.some.inj e;subst e';exact⟨hb,q⟩
def Inv.pinned{pins:Ba}{σ:St}{H:Hp}{s:Shared}{fp:Ah}(I:Inv X pins σ H s)(hf: ∀b∈fp,zEN X pins H b)(ho: ∀b∈fp, ∃o,s.heap.get? b=some o/\ ∀v,o.data≠.cell v):Inv X (pins++zGF fp s.heap) σ H s:=
 I.pins_of λp hp=>(mem_append.mp hp).elim (λz=>I.pin p (mem_append_right _ z)) λz=>by obtain⟨hb,e⟩:=zXY z;obtain⟨f0,f1,f2,_⟩:=hf p.1 hb;obtain⟨o,e',d⟩:=ho p.1 hb;rw [e]at e';cases e';exact⟨e,f0,f1,f2,d⟩
def Inv.unpinned{pins pl:Ba}{σ:St}{H:Hp}{s:Shared}(I:Inv X (pins++pl) σ H s):Inv X pins σ H s:=I.pins_of λp hp=>I.pin p (mem_append_right _ (mem_append_left _ hp))
def yKE{iter:Expr}{body:List Stmt}{wi:TI}{g:TG}{tb:TS}{pos:Pos}(hp:PassesOwn (model X.prog X.w) X.A X.env X.xe)(hc:X.calm=true)(hi:PI X tg iter wi)(hg:PG X tg g)(hb:PSs X body tb)
  (hs: ∀x,foldedSetIterable iter X.env x=pure x:=by intro _;rfl):PS X (.For tg iter body [] pos) (tFor wi g tb):=by
 intro pins s σ H D I h;refine wpAny_For (thn (hi pins s σ H _ I h) λv s1 h1=>thn h1 λitv s2 h2=>?_) hs;obtain⟨it,fp,tn,J,H2,e,I2,T,st2,f2,W,⟨m0,w0⟩,turn⟩:=h2;subst e;have stat: ∀{H':Hp},(∀b∈fp,H' b=none)-> ∀b∈fp,zEN X pins H' b:=λhn b hb=>⟨hn b hb,(f2 b hb).2⟩
 refine codeAny_forLoop_any (λn s'=> ∃i σ' H',Inv X pins σ' H' s'/\tn i s'.heap/\(∀b∈fp,H' b=none)/\W i n σ' H') ?_ m0 ⟨0,σ,H2,I2,st2,λb hb=>(f2 b hb).1,w0⟩;rintro n s3 ⟨i,σ3,H3,I3,st3,fr3,w3⟩;rcases turn i n σ3 H3 w3 with⟨stop,qn⟩|⟨go,N,hN,step⟩
 ·refine wpAny_passesOwn hp (thn (T.done X rfl rfl rfl hc i pins s3 σ3 H3 X.xe I3 (stat fr3) st3 stop) λr s4 ⟨hr,I4⟩=>?_);subst hr;exact wpAny_execs_nil ⟨σ3,H3,I4,qn⟩
 ·refine wpAny_passesOwn hp (thn (T.item X rfl rfl rfl hc i pins s3 σ3 H3 X.xe I3 (stat fr3) st3 go) λr s4 ⟨u,hr,h4⟩=>?_);subst hr;refine wpAny_passesOwn hp (thn h4 λ_ s5 ⟨x,H5,I5,r5,y5,st5,fr5⟩=>?_);have I5':=I5.pinned (stat fr5) (T.obj _ _ st5);refine wpAny_passesOwn hp (thn (hg _ s5 σ3 H5 x u _ I5' r5 (step x H5 y5)) λ_ s6 ⟨σ6,H6,I6,q6⟩=>?_);refine wpAny_passesOwn hp (thn (hb _ s6 σ6 H6 _ I6 q6) λf s7 q7=>?_);have again: ∀{σ7:St}{H7:Hp},Inv X (pins++zGF fp s5.heap) σ7 H7 s7->N σ7 H7-> ∃m,m<n/\ ∃i σ' H',Inv X pins σ' H' s7/\tn i s7.heap/\(∀b∈fp,H' b=none)/\W i m σ' H':=λ{σ7 H7} I7 n7=>by obtain⟨m',hm,w7⟩:=hN σ7 H7 n7;refine⟨m',hm,i+1,σ7,H7,I7.unpinned,T.keep _ _ _ st5 λb hb o e=>(I7.pin (b,o) (mem_append_right _ (mem_append_right _ (zEO hb e)))).1,λb hb=>?_,w7⟩;obtain⟨o,e,d⟩:=T.obj _ _ st5 b hb;exact(I7.pin (b,o) (mem_append_right _ (mem_append_right _ (zEO hb e)))).2.1
  cases f with
  |next=>obtain⟨σ7,H7,I7,n7⟩:=q7;exact again I7 n7
  |cont=>obtain⟨σ7,H7,I7,n7⟩:=q7;exact again I7 n7
  |brk=>obtain⟨σ7,H7,I7,q7⟩:=q7;exact⟨σ7,H7,I7.unpinned,q7⟩
  |ret v=>obtain⟨x7,σ7,H7,I7,r7,q7⟩:=q7;exact⟨x7,σ7,H7,I7.unpinned,r7,q7⟩
end
abbrev R2:=V->V->Hp->VK->Prop
def OpR(X:Cx)(f:Value->Value->Sem Value)(r:R2):Prop:=
 ∀(pins:Ba)(s:Shared)(σ:St)(H:Hp)(x y:V)(v u:Value)(Q:VK),Inv X pins σ H s->RelV x v->RelV y u->r x y H Q->
  wpAny (model X.prog X.w) X.A (f v u) (EP X pins σ Q) X.xe s
def UnR(X:Cx)(f:Value->Sem Value)(r:V->Hp->VK->Prop):Prop:=
 ∀(pins:Ba)(s:Shared)(σ:St)(H:Hp)(x:V)(v:Value)(Q:VK),Inv X pins σ H s->RelV x v->r x H Q->
  wpAny (model X.prog X.w) X.A (f v) (EP X pins σ Q) X.xe s
def CallR(X:Cx)(f:Value)(r:List V->Hp->VK->Prop):Prop:=
 ∀(pins:Ba)(s:Shared)(σ:St)(H:Hp)(xs:List V)(us:Ae)(Q:VK),Inv X pins σ H s->Vals xs us->r xs H Q->
  wpAny (model X.prog X.w) X.A (call f us) (EP X pins σ Q) X.xe s
def TruR(X:Cx)(r:V->Hp->(Bool->Hp->Prop)->Prop):Prop:=
 ∀(pins:Ba)(s:Shared)(σ:St)(H:Hp)(x:V)(v:Value)(Q:Bool->Hp->Prop),Inv X pins σ H s->RelV x v->r x H Q->
  wpAny (model X.prog X.w) X.A (truthy v) (TP X pins σ Q) X.xe s
def tOp(r:R2)(ta tb:TE):TE:=λσ H Q=>ta σ H λx H1=>tb σ H1 λy H2=>r x y H2 Q
def tUn(r:V->Hp->VK->Prop)(ta:TE):TE:=λσ H Q=>ta σ H λx H1=>r x H1 Q
def rI(C:Int->Int->Prop)(g:Int->Int->V):R2:=λx y H Q=> ∃i j,x=.int i/\y=.int j/\C i j/\Q (g i j) H
def rI0(g:Int->Int->V):R2:=λx y H Q=> ∃i j,x=.int i/\y=.int j/\Q (g i j) H
def rU(g:Int->V):V->Hp->VK->Prop:=λx H Q=> ∃i,x=.int i/\Q (g i) H
section
variable{X:Cx}{a b c:Expr}{ta tb tc:TE}{pos:Pos}
def binT(ha:PE X a ta)(hb:PE X b tb){pins:Ba}{s:Shared}{σ:St}{H:Hp}{R:V->V->Hp->Prop}(I:Inv X pins σ H s)
  (h:ta σ H λx H1=>tb σ H1 λy H2=>R x y H2) {Q:VP} {f:Value->Value->Sem Value}
  (hf: ∀v u s2 x y H2,Inv X pins σ H2 s2->RelV x v->RelV y u->R x y H2->wpAny (model X.prog X.w) X.A (f v u) Q X.xe s2):
  wpAny (model X.prog X.w) X.A (eval a X.env) (λv s₁=>wpAny (model X.prog X.w) X.A (eval b X.env) (λu s₂=>wpAny (model X.prog X.w) X.A (f v u) Q X.xe s₂) X.xe s₁) X.xe s:=by
 refine thn (ha pins s σ H _ I h) λv s1 ⟨x,H1,I1,r1,q1⟩=>?_;refine thn (hb pins s1 σ H1 _ I1 q1) λu s2 ⟨y,H2,I2,r2,q2⟩=>?_;exact hf v u s2 x y H2 I2 r1 r2 q2
def pe_op{op:Operator}{r:R2}(ho:OpR X (binaryOp op) r)(ha:PE X a ta)(hb:PE X b tb):PE X (.BinOp a op b pos) (tOp r ta tb):=by intro pins s σ H Q I h;exact wpAny_BinOp (binT ha hb I h λv u s2 x y H2 I2 rx ry q=>ho pins s2 σ H2 x y v u Q I2 rx ry q)
def pe_un{op:UnaryOp}{r:V->Hp->VK->Prop}(ho:UnR X (unaryOp op) r)(ha:PE X a ta):PE X (.UnaryOp op a pos) (tUn r ta):=by intro pins s σ H Q I h;exact UnaryOp_ (thn (ha pins s σ H _ I h) λv s1 ⟨x,H1,I1,r1,q1⟩=>ho pins s1 σ H1 x v Q I1 r1 q1)
def opI{f:Value->Value->Sem Value}{C:Int->Int->Prop}{g:Int->Int->Int}
  (rule: ∀(i j:Int)(t u:Tok)(s:Shared)(Q:VP)(E:VP),C i j->Q (.int (g i j) s.toks) {s with toks:=s.toks+1}->wpAny (model X.prog X.w) X.A (f (.int i t) (.int j u)) Q E s):
  OpR X f (rI C λi j=>.int (g i j)):=by
 intro pins s σ H x y v u Q I rx ry h;obtain⟨i,j,rfl,rfl,hc,q⟩:=h;obtain⟨t,rfl⟩:=rx;obtain⟨t',rfl⟩:=ry;exact rule i j t t' s _ _ hc ⟨.int (g i j),H,I.tok _,⟨_,rfl⟩,q⟩
def opI0{f:Value->Value->Sem Value}{g:Int->Int->Int}
  (rule: ∀(i j:Int)(t u:Tok)(s:Shared)(Q:VP)(E:VP),Q (.int (g i j) s.toks) {s with toks:=s.toks+1}->wpAny (model X.prog X.w) X.A (f (.int i t) (.int j u)) Q E s):
  OpR X f (rI0 λi j=>.int (g i j)):=by
 intro pins s σ H x y v u Q I rx ry h;obtain⟨i,j,rfl,rfl,q⟩:=h;obtain⟨t,rfl⟩:=rx;obtain⟨t',rfl⟩:=ry;exact rule i j t t' s _ _ ⟨.int (g i j),H,I.tok _,⟨_,rfl⟩,q⟩
def CMul(i j:Int):Prop:=(-(2 ^ 64)<i/\i<2 ^ 64)\/(-(2 ^ 64)<j/\j<2 ^ 64)
def CMul.ok{i j:Int}(h:CMul i j):IntMulOk i j:=by
 rcases h with⟨h1,h2⟩|⟨h1,h2⟩
 ·exact .of_left (intBits_le_64 h1 h2)
 ·exact .of_right (intBits_le_64 h1 h2)
def yKF:OpR X (binaryOp .Add) (rI0 λi j=>.int (i+j)):=opI0 λ_ _ _ _ _ _ _ q=>add_int q
def yKG:OpR X (binaryOp .Sub) (rI0 λi j=>.int (i - j)):=opI0 λ_ _ _ _ _ _ _ q=>sub_int q
def yKH:OpR X (binaryOp .Mod) (rI (λ_ j=>0<j) λi j=>.int (i % j)):=opI λi j _ _ _ _ _ hc q=>by have h1:(0:Int)<j:=hc;exact mod_int' (by omega) (by rw [Int.fmod_eq_emod_of_nonneg i (by omega)];exact q)
def unI{f:Value->Sem Value}{g:Int->Int}
  (rule: ∀(i:Int)(t:Tok)(s:Shared)(Q:VP)(E:VP),Q (.int (g i) s.toks) {s with toks:=s.toks+1}->wpAny (model X.prog X.w) X.A (f (.int i t)) Q E s):
  UnR X f (rU λi=>.int (g i)):=by
 intro pins s σ H x v Q I rx h;obtain⟨i,rfl,q⟩:=h;obtain⟨t,rfl⟩:=rx;exact rule i t s _ _ ⟨.int (g i),H,I.tok _,⟨_,rfl⟩,q⟩
def yKI:UnR X (unaryOp .USub) (rU λi=>.int (-i)):=unI λ_ _ _ _ _ q=>neg_int q
end
section
variable{X:Cx}{a b c:Expr}{ta tb tc:TE}{pos:Pos}
def zNU{pins:Ba}{σ:St}{H:Hp}{s:Shared}{Q:VK}{k k':Bool}(I:Inv X pins σ H s)(q:Q (.bl k) H)(e:k=k'):EP X pins σ Q (.bool k') s:=by subst e;exact⟨.bl k,H,I,rfl,q⟩
def zXZ:OpR X (compareOp .In) (λx y H Q=> ∃i j,x=.str i/\y=.str j/\Q (.bl (!(Builtin.Str.occurrences j i 0 j.length 1).isEmpty)) H):=by intro pins s σ H x y v u Q I rx ry h;obtain⟨i,j,rfl,rfl,q⟩:=h;obtain⟨t,rfl⟩:=rx;obtain⟨t',rfl⟩:=ry;exact in_str (zNU I q rfl)
def yKJ:OpR X (compareOp .Is) (λx y H Q=>y=.non/\Q (.bl (decide (x=.non))) H):=by
 intro pins s σ H x y v u Q I rx ry h;obtain⟨rfl,q⟩:=h;cases ry;refine is_none_gen (zNU I q ?_)
 cases x<;>first
  |(cases rx;rfl)
  |(obtain⟨t,rfl⟩:=rx;rfl)
def zVF:OpR X (compareOp .IsNot) (λx y H Q=>y=.non/\Q (.bl (!decide (x=.non))) H):=by
 intro pins s σ H x y v u Q I rx ry h;obtain⟨rfl,q⟩:=h;cases ry;refine isnot_none_gen (zNU I q ?_)
 cases x<;>first
  |(cases rx;rfl)
  |(obtain⟨t,rfl⟩:=rx;rfl)
def zNV:OpR X (compareOp .NotIn) (λx y H Q=> ∃i j,x=.str i/\y=.str j/\Q (.bl (!(!(Builtin.Str.occurrences j i 0 j.length 1).isEmpty))) H):=by intro pins s σ H x y v u Q I rx ry h;obtain⟨i,j,rfl,rfl,q⟩:=h;obtain⟨t,rfl⟩:=rx;obtain⟨t',rfl⟩:=ry;exact notIn_str (zNU I q rfl)
def OpR.or{f:Value->Value->Sem Value}{r r':R2}(h:OpR X f r)(h':OpR X f r'):OpR X f (λx y H Q=>r x y H Q\/r' x y H Q):=by
 intro pins s σ H x y v u Q I rx ry q;rcases q with q|q
 ·exact h pins s σ H x y v u Q I rx ry q
 ·exact h' pins s σ H x y v u Q I rx ry q
def yAD(b:Expr){op:CmpOp}(h:op≠.In:=by decide)(h2:op≠.NotIn:=by decide):behindInMarks op b=false:=by
 have e1:(op==CmpOp.In)=false:=by cases op<;>first |rfl|exact absurd rfl h
 have e2:(op==CmpOp.NotIn)=false:=by cases op<;>first |rfl|exact absurd rfl h2
 cases b<;>simp [behindInMarks,e1,e2]
def yFD{op:CmpOp}{r:R2}(ho:OpR X (compareOp op) r)(ha:PE X a ta)(hb:PE X b tb)(hm:behindInMarks op b=false):PE X (.Compare a [op] [b] pos) (tOp r ta tb):=by intro pins s σ H Q I h;exact wpAny_Compare1 (binT ha hb I h λv u s2 x y H2 I2 rx ry q=>ho pins s2 σ H2 x y v u Q I2 rx ry q) hm
def tTest(t:TE):TT:=λσ H Q=>t σ H λx H'=> ∃k,x=.bl k/\Q k H'
def yFE{op:CmpOp}{r:R2}(ho:OpR X (compareOp op) r)(ha:PE X a ta)(hb:PE X b tb)(hm:behindInMarks op b=false):PT X (.Compare a [op] [b] pos) (tTest (tOp r ta tb)):=by
 intro pins s σ H Q I h
 refine wpAny_isTrue_Compare1 (thn (ha pins s σ H _ I h) λv s1 ⟨x,H1,I1,r1,q1⟩=>thn (hb pins s1 σ H1 _ I1 q1) λu s2 ⟨y,H2,I2,r2,q2⟩=>
  thn (ho pins s2 σ H2 x y v u _ I2 r1 r2 q2) λc s3 ⟨z,H3,I3,r3,k,e,q3⟩=>?_) hm
 subst e;cases r3;exact wpAny_truthy_bool ⟨H3,I3,q3⟩
def TruV(K:Be)(x:V)(H:Hp)(k:Bool):Prop:=
 match x with
 |.non=>k=false
 |.bl b=>k=b
 |.int i=>k=(i !=0)
 |.str y=>y.length<=sizeLine/\k=((y.length:Int) !=0)
 |.byt y=>y.size<=sizeLine/\k=((y.size:Int) !=0)
 |.ref p=>(∃xs,SqL K H p xs/\k= !xs.isEmpty)\/(∃xs,SqT K H p xs/\k= !xs.isEmpty)\/ ∃kvs,H p=some (.dK kvs)/\k= !kvs.isEmpty
 |_=>False
theorem zTE{κ:Type}{kvs:List (κ×V)}{vs:List (κ×Value)}(r:KV kvs vs):(!vs.isEmpty)= !kvs.isEmpty:=by cases r<;>rfl
def zIZ{xs:List V}{its:Ae}(r:Vals xs its):(!its.toArray.isEmpty)= !xs.isEmpty:=by cases r<;>simp
def zEP:(sizeLine:Nat)<2 ^ 63:=by rw [sizeLine_eq];decide
def yKK:TruR X (λx H Q=> ∃k,TruV X.K x H k/\Q k H):=by
 intro pins s σ H x v Q I rx h;obtain⟨k,e,q⟩:=h;have hl:=zEP;have hs:sizeLine=16777216:=sizeLine_eq
 cases x with
 |non=>
  cases rx;have e':k=false:=e;subst e';exact truthy_none ⟨H,I,q⟩
 |bl b=>
  cases rx;have e':k=b:=e;subst e';exact wpAny_truthy_bool ⟨H,I,q⟩
 |int i=>
  obtain⟨t,rfl⟩:=rx;have e':k=(i !=0):=e;subst e';exact PySem.P.truthy_int ⟨H,I,q⟩
 |str y=>
  obtain⟨t,rfl⟩:=rx;obtain⟨hy,e'⟩:y.length<=sizeLine/\k=((y.length:Int) !=0):=e;subst e';exact PySem.P.truthy_str (by omega) ⟨H,I.tok _,q⟩
 |byt y=>
  obtain⟨t,rfl⟩:=rx;obtain⟨hy,e'⟩:y.size<=sizeLine/\k=((y.size:Int) !=0):=e;subst e';exact PySem.W.truthy_bytes (by omega) ⟨H,I.tok _,q⟩
 |ref p=>
  cases rx;have e':(∃xs,SqL X.K H p xs/\k= !xs.isEmpty)\/(∃xs,SqT X.K H p xs/\k= !xs.isEmpty)\/ ∃kvs,H p=some (.dK kvs)/\k= !kvs.isEmpty:=e;rcases e' with⟨xs,hx,e'⟩|⟨xs,hx,e'⟩|⟨kvs,hx,e'⟩
  ·subst e';obtain⟨its,r,pl,hz⟩:=I.list hx;have hlen:=r.length;exact wpAny_truthy_list pl.isList (by simp only [sA];omega) ⟨H,I.tok _,by rw [zIZ r];exact q⟩
  ·subst e';obtain⟨its,r,pl,hz⟩:=I.tuple hx;have hlen:=r.length;exact truthy_tuple pl (by simp only [sA];omega) ⟨H,I.tok _,by rw [zIZ r];exact q⟩
  ·subst e';obtain⟨hz,hS,vs,r,m⟩:kvs.length<=sizeLine/\(p==sysModules)=false/\ ∃vs,KV kvs vs/\s.heap.DictOf (zZ X.prog X.w) p vs:=I.hok p _ hx;have hlen:kvs.length=vs.length:=Paired.length r;exact wpAny_truthy_dict hS m (by omega) ⟨H,I.tok _,by rw [zTE r];exact q⟩
 |_=>exact(show False from e).elim
def yAE(ha:PE X a ta)(he: ∀whole,isTrue a X.env whole=(do let v <-whole;standAt a.pos;holding [v] (truthy v))):
  PT X a (λσ H Q=>ta σ H λx H'=> ∃k,TruV X.K x H' k/\Q k H'):=by
 intro pins s σ H Q I h;exact isTrue_plain (thn (ha pins s σ H _ I h) λv s1 ⟨x,H1,I1,r1,q1⟩=>yKK pins s1 σ H1 x v Q I1 r1 q1) (he _)
def zTF:OpR X (binaryOp .Add) (λx y H Q=> ∃i j,x=.str i/\y=.str j/\i.length+j.length<=sizeLine/\Q (.str (i++j)) H):=by intro pins s σ H x y v u Q I rx ry h;obtain⟨i,j,rfl,rfl,hz,q⟩:=h;obtain⟨t,rfl⟩:=rx;obtain⟨t',rfl⟩:=ry;exact add_str (λt' tk=>⟨.str (i++j),H,I.tok _,⟨_,rfl⟩,q⟩) hz
def vals1{x:V}{us:Ae}(r:Vals [x] us): ∃u,us=[u]/\RelV x u:=by
 cases r with
 |cons r1 r2=>cases r2;exact⟨_,rfl,r1⟩
def vals2{x y:V}{us:Ae}(r:Vals [x,y] us): ∃u w',us=[u,w']/\RelV x u/\RelV y w':=by
 cases r with
 |cons r1 r2=>
  cases r2 with
  |cons r3 r4=>cases r4;exact⟨_,_,rfl,r1,r3⟩
def zYA:CallR X (.type "int") (λxs H Q=>(∃i,xs=[.int i]/\Q (.int i) H)\/ ∃k,xs=[.bl k]/\Q (.int (if k then 1 else 0)) H):=by
 intro pins s σ H xs us Q I r h;rcases h with⟨i,rfl,q⟩|⟨k,rfl,q⟩
 ·obtain⟨u,rfl,t,rfl⟩:=vals1 r;exact call_int_int ⟨.int i,H,I,⟨_,rfl⟩,q⟩
 ·obtain⟨u,rfl,r1⟩:=vals1 r;cases r1;exact call_int_bool ⟨.int (if k then 1 else 0),H,I.tok _,⟨_,rfl⟩,q⟩
end
structure Cls(K:Be)(C:Addr):Prop where
 pg:PySem.W.plainGet K C Str.empty=true
 hd:PySem.W.hasDictIn K C=true
 po:PySem.W.plainOver K C=true
 sa:PySem.W.findIn K (.ref C) "__setattr__"=some (some (.builtin "object.__setattr__"))
section
variable{X:Cx}{pins:Ba}{σ:St}{H:Hp}{s:Shared}{A:Around}{E:VP}{Q:VP}{c:Value}{b:Bool}
inductive zFN(K:Be)(H:Hp):V->Value->Prop where
 |non:zFN K H .non (.type "NoneType")
 |bl (x:Bool):zFN K H (.bl x) (.type "bool")
 |int (i:Int):zFN K H (.int i) (.type "int")
 |str (x:Str):zFN K H (.str x) (.type "str")
 |flt (x:UInt64):zFN K H (.flt x) (.type "float")
 |lst {a:Addr} {xs:List V} (e:H a=some (.lst xs)):zFN K H (.ref a) (.type "list")
 |frz {a:Addr} {o:Obj} {xs:List V} (e:H a=some (.frz o (.lst xs))):zFN K H (.ref a) (.type "list")
 |tup {a:Addr} {xs:List V} (e:H a=some (.tup xs)):zFN K H (.ref a) (.type "tuple")
 |dK {a:Addr} {kvs:List (Key×V)} (e:H a=some (.dK kvs)):zFN K H (.ref a) (.type "dict")
 |dT {a:Addr} {kvs:List (List Key×V)} (e:H a=some (.dT kvs)):zFN K H (.ref a) (.type "dict")
 |ins {a C dx:Addr} {fs:List (Str×V)} (e:H a=some (.ins C dx fs)) (cl:Cls K C) (ha:PySem.W.findIn K (.ref C) "__class__"=some (some (.builtin "object.__class__")))
   (hn:PySem.W.specialIn K (.builtin "object.__class__") "__get__"=some (some (.builtin "getset_descriptor.__get__"))) (htk:PySem.W.takesIn K (.builtin "object.__class__")=some true)
   (hm:PySem.W.mroIn K C (.type "object")=some true):zFN K H (.ref a) (.ref C)
end
structure Room(k:Nat)(A:Around):Prop where
 hd:A.handled=none
 dp:A.depth+3 * k+5<recursionLimit
 un:A.units+16 * k+200<cLine
def Room.mono{j k:Nat}{A:Around}(r:Room k A)(h:j<=k):Room j A:=⟨r.hd,by have:=r.dp;omega,by have:=r.un;omega⟩
def Room.deeper{k:Nat}{A:Around}(r:Room (k+1) A)(env:Env):Room k (A.deeper env):=
 ⟨r.hd,by have:=r.dp;show A.depth+1+3 * k+5<_;omega,by have:=r.un;show A.units+3+16 * k+200<_;omega⟩
def Room.in1{k:Nat}{A:Around}(r:Room (k+1) A):Room k A.in1:=
 ⟨r.hd,by have:=r.dp;show A.depth+3 * k+5<_;omega,by have:=r.un;show A.units+1+16 * k+200<_;omega⟩
def Room.depth{k:Nat}{A:Around}(r:Room k A):A.depth<recursionLimit:=by have:=r.dp;omega
def Room.units{k:Nat}{A:Around}(r:Room k A):A.units+64<cLine:=by have:=r.un;omega
def tNil:TA:=λ_ H Q=>Q [] H
def tCons(ta:TE)(tr:TA):TA:=λσ H Q=>ta σ H λx H1=>tr σ H1 λxs H2=>Q (x::xs) H2
section
variable{X:Cx}{e:Expr}{es:Bd}{te:TE}{t:TA}{pos:Pos}
def yAF:PA X [] tNil:=λ_ _ _ _ H Q I h=>Calls.spliced_nil ⟨[],H,I,.nil,h⟩
def zVG(ha:PE X e te)(hr:PA X es t)(hs:starEach (e::es) X.env=(false,eval e X.env)::starEach es X.env:=by rfl):PA X (e::es) (tCons te t):=by intro pos pins s σ H Q I h;rw [hs];show wpAny _ _ (spliced ((false,eval e X.env)::backTo pos (starEach es X.env))) _ _ s;refine Calls.spliced_cons (thn (ha pins s σ H _ I h) λu s1 ⟨x,H1,I1,r1,q1⟩=>?_);exact thn (hr pos pins s1 σ H1 _ I1 q1) λus s2 ⟨xs,H2,I2,r2,q2⟩=>⟨x::xs,H2,I2,.cons r1 r2,q2⟩
def tTup(t:TA):TE:=λσ H Q=>t σ H λxs H1=>xs.length<=sizeLine/\ ∀p,H1 p=none->Q (.ref p) (upd H1 p (.tup xs))
def tLst(t:TA):TE:=λσ H Q=>t σ H λxs H1=>xs.length<=sizeLine/\ ∀p,H1 p=none->Q (.ref p) (upd H1 p (.lst xs))
def yKL{x1}(h:PA X es t):PE X (.Tuple es x1 pos) (tTup t):=by intro pins s σ H Q I hq;refine wpAny_Tuple_spliced (thn (h pos pins s σ H _ I hq) λus s1 ⟨xs,H1,I1,r,z,q⟩=>⟨by rw [<-r.length];exact z,?_⟩);have hf:H1 s1.heap.objs.size=none:=I1.hok.fresh (le_refl _);refine⟨.ref s1.heap.objs.size,upd H1 s1.heap.objs.size (.tup xs),I1.laid (t':=s1.toks) (λb u e=>hP0 _ e) (le_refl _) ?_,rfl,q _ hf⟩;exact⟨z,us,r,⟨_,Heap.get?_push_size _ rfl,rfl,_,rfl⟩⟩
def yKM(h:PA X es t):PE X (.List es pos) (tLst t):=by intro pins s σ H Q I hq;refine wpAny_List_spliced (thn (h pos pins s σ H _ I hq) λus s1 ⟨xs,H1,I1,r,z,q⟩=>⟨by rw [<-r.length];exact z,?_⟩);have hf:H1 s1.heap.objs.size=none:=I1.hok.fresh (le_refl _);refine⟨.ref s1.heap.objs.size,upd H1 s1.heap.objs.size (.lst xs),I1.laid (t':=s1.toks) (λb u e=>hP0 _ e) (le_refl _) ?_,rfl,q _ hf⟩;exact⟨z,us,0,r,Heap.get?_push_size _ rfl⟩
end
abbrev Sp:=List V->Hp->VK->XK->Prop
abbrev CXT:=List Env->Hp->Shared->XK->VP
structure Env0(P:Program)(w:World)(K:Be)(mg:Aj)(base:Heap)(A:Around)(outer:List Env)(s:Shared)(H:Hp):Prop where
 frames:A.frames=some outer
 mod:Mod K mg base
 bs: ∀b o,base.get? b=some o->s.heap.get? b=some o/\H b=none
 bsz:base.objs.size<=s.heap.objs.size
 funs:s.heap.FunFrames base outer
 frf: ∀b∈frs outer,H b=none
 hok:HOk P w H s.heap
 bare:AllBare s.gens
def CE(outer:List Env)(P:Program)(w:World)(H:Hp)(s:Shared)(Q:VK)(u:Value)(s':Shared):Prop:=
 ∃v H',s'.os=s.os/\AllBare s'.gens/\Un (frs outer) [] H H' s.heap s'.heap/\HOk P w H' s'.heap/\RelV v u/\Q v H'
def CR(CX:CXT)(outer:List Env)(P:Program)(w:World)(H:Hp)(s:Shared)(Q:VK)(E:XK)(r:Result)(s':Shared):Prop:=
 match r with
 |.ok (.ret u)=>CE outer P w H s Q u s'
 |.ok _=>False
 |.error e=>CX outer H s E e s'
structure FnOk(P:Program)(w:World)(K:Be)(mg:Aj)(base:Heap)(CX:CXT)(k:Nat)(f:Addr)(fd:FuncData)(ps:Ai)(sp:Sp):Prop where
 len: ∀vs H Q E,sp vs H Q E->vs.length=ps.length
 run: ∀(A:Around)(outer:List Env)(s:Shared)(H:Hp)(args:Args)(us:Ae)(vs:List V)(Q:VK)(E:XK),Room k A->Env0 P w K mg base A outer s H->BindsTo s fd args (ps.zip us)->Vals vs us->sp vs H Q E->
  codeAny (model P w) A (.call (.ref f) args) (CR CX outer P w H s Q E) s
def FnOk.imp{P:Program}{w:World}{K:Be}{mg:Aj}{base:Heap}{CX:CXT}{k:Nat}{f:Addr}{fd:FuncData}{ps:Ai}{sp sp':Sp}(F:FnOk P w K mg base CX k f fd ps sp)
  (h: ∀vs H Q E,sp' vs H Q E->sp vs H Q E):FnOk P w K mg base CX k f fd ps sp':=
 ⟨λvs H Q E q=>F.len vs H Q E (h _ _ _ _ q),λA outer s H args us vs Q E hr he hb hv hs=>F.run A outer s H args us vs Q E hr he hb hv (h _ _ _ _ hs)⟩
def Env0.in1{P:Program}{w:World}{K:Be}{mg:Aj}{base:Heap}{A:Around}{outer:List Env}{s:Shared}{H:Hp}(e:Env0 P w K mg base A outer s H):
  Env0 P w K mg base A.in1 outer s H:=⟨e.frames,e.mod,e.bs,e.bsz,e.funs,e.frf,e.hok,e.bare⟩
section
variable{X:Cx}{pins:Ba}{σ:St}{H:Hp}{s s':Shared}
def Inv.env0(I:Inv X pins σ H s):Env0 X.prog X.w X.K X.mg X.base X.A X.stack s H:=
 ⟨I.ok.frames,I.ok.mod,I.bs,le_trans I.ok.bsz I.sz,I.stack,I.stkFree,I.hok,I.bare⟩
def Inv.after{Q:VK}{u:Value}(I:Inv X pins σ H s)(h:CE X.stack X.prog X.w H s Q u s'):EP X pins σ Q u s':=by obtain⟨v,H',os,bare,un,hok,r,q⟩:=h;obtain⟨hh,g,d,t,os'⟩:=s';obtain rfl:os'=s.os:=os;exact⟨v,H',I.call (h':=hh) (g':=g) (d':=d) (t':=t) (ch:=[]) un hok bare (λb z=>absurd z (by simp)),r,q⟩
end
def tCall(sp:Sp)(dvs:List V)(E:XK)(t:TA):TE:=λσ H Q=>t σ H λvs H1=>sp (vs++dvs) H1 Q E
def Binds(K:Be)(fd:FuncData)(ps:Ai)(ds:Ae):Prop:=
 ∀(s:Shared)(us:Ae),K.In s.heap->(us++ds).length=ps.length->BindsTo s fd ⟨us,[]⟩ (ps.zip (us++ds))
def Binds.all{K:Be}{fd:FuncData}{ps:Ai}(h: ∀us:List Value,us.length=ps.length->bindArgs fd ⟨us,[]⟩=pure (ps.zip us)):Binds K fd ps []:=λs us _ hl=>by rw [aN]at hl ⊢;exact .of_eq (h us hl)
def zTG(CX:CXT)(X:Cx)(E:XK):Prop:= ∀(pins:Ba)(σ:St)(H:Hp)(s:Shared)(e:Value)(s':Shared),Inv X pins σ H s->CX X.stack H s E e s'->X.xe e s'
section
variable{X:Cx}{CX:CXT}{k:Nat}{f C:Addr}{fd:FuncData}{ps:Ai}{sp:Sp}{dvs:List V}{ds:Ae}{E:XK}{x m:Str}{p pos apos:Pos}{e o:Expr}{es:Bd}{ta:TE}{t:TA}
def yKN{pins:Ba}{σ:St}{H:Hp}{s:Shared}{Q:VK}{us:Ae}{vs:List V}(F:FnOk X.prog X.w X.K X.mg X.base CX k f fd ps sp)(hr:Room k X.A)(hb:Binds X.K fd ps ds)(hd:Vals dvs ds)(hx:zTG CX X E)
  (I:Inv X pins σ H s) (r:Vals vs us) (h:sp (vs++dvs) H Q E):wpAny (model X.prog X.w) X.A (call (.ref f) us) (EP X pins σ Q) X.xe s:=by
 have r2:Vals (vs++dvs) (us++ds):=r.append hd;have hl:(us++ds).length=ps.length:=by rw [<-r2.length];exact F.len _ _ _ _ h
 refine wpAny_call (codeAny_mono (F.run X.A X.stack s H ⟨us,[]⟩ (us++ds) (vs++dvs) Q E hr I.env0 (hb s us I.kIn hl) r2 h) λr s' hq=>?_)
 cases r with
 |error e=>exact hx pins σ H s e s' I hq
 |ok fl=>
  cases fl with
  |ret u=>exact I.after hq
  |next=>exact False.elim hq
  |brk=>exact False.elim hq
  |cont=>exact False.elim hq
def yFF(F:FnOk X.prog X.w X.K X.mg X.base CX k f fd ps sp)(hr:Room k X.A)(hg:Gl X x)(hm:X.mg x=some (.ref f))(hk:PySem.W.keepIn X.K (.ref f)=true)(hb:Binds X.K fd ps ds)(hd:Vals dvs ds)(hx:zTG CX X E)
  (ha:PA X (e::es) t) (hdb:(x==("__debug__":Str))=false:=by decide) (he:starEach (e::es) X.env=(false,eval e X.env)::starEach es X.env:=by rfl) (hpl:(backTo pos (starEach es X.env)).any (·.1)=false:=by rfl):
  PE X (.Call (.Name x p) (e::es) [] pos) (tCall sp dvs E t):=by
 intro pins s σ H Q I h;refine wpAny_Call_Name_kw (yEW I hg hm ?_ hdb);refine PySem.W.callWith_K (h₀:=X.base) I.ok.mod.kin hk (thn (ha pos pins s σ H _ I h) λus s1 ⟨vs,H1,I1,r,q⟩=>⟨I1.kIn,?_⟩) he hpl;exact yKN F hr hb hd hx I1 r q
end
structure FnScope(N P:Ai)(sc:Scope):Prop where
 kind:sc.kind=.function
 co:sc.isCoroutine=false
 gen:sc.isGenerator=false
 nd:N.Nodup
 pre:N.take P.length=P
 par: ∀x∈P,sc.names.lookup x=some .local\/sc.names.lookup x=some .cell
 nofree: ∀y∈sc.names,y.2≠.free
def fsK{N P:Ai}{sc:Scope}(h:N.Nodup/\N.take P.length=P/\(∀x∈P,sc.names.lookup x=some .local\/sc.names.lookup x=some .cell)/\∀y∈sc.names,y.2≠.free)(a:sc.kind=.function:=by rfl)(b:sc.isCoroutine=false:=by rfl)(c:sc.isGenerator=false:=by rfl):FnScope N P sc:=⟨a,b,c,h.1,h.2.1,h.2.2.1,h.2.2.2⟩
theorem zMF{kindOf:Str->Option NameKind}{x:Str}: ∀{binds:List (Str×Value)}{m:Aj},(∀v,(x,v)∉binds)->bindL kindOf binds m x=m x
 |[],_,_=>rfl
 |(n,v)::r,m,h=>by
  unfold bindL;rw [zMF λw hw=>h w (mO _ hw)];split
  ·have:x≠n:=by rintro rfl;exact h v mF0
   simp [this]
  ·rfl
theorem zMG{kindOf:Str->Option NameKind}{x:Str}: ∀{binds:List (Str×Value)}{m:Aj},(∀v,(x,v)∉binds)->bindC kindOf binds m x=m x
 |[],_,_=>rfl
 |(n,v)::r,m,h=>by
  unfold bindC;rw [zMG λw hw=>h w (mO _ hw)];split
  ·rfl
  ·have:x≠n:=by rintro rfl;exact h v mF0
   simp [this]
theorem zMH{kindOf:Str->Option NameKind}{x:Str}{v:Value}: ∀{P:Ai}{vs:Ae}{i:Nat}{m:Aj},P.Nodup->P[i]? =some x->vs[i]? =some v->kindOf x=some .local->
  bindL kindOf (P.zip vs) m x=some v
 |[],_,_,_,_,h,_,_=>by simp at h
 |_::_,[],_,_,_,_,h,_=>by simp at h
 |p::P,w::vs,0,m,nd,h1,h2,hk=>by simp at h1 h2;subst h1;subst h2;show bindL kindOf ((p,w)::P.zip vs) m p=_;unfold bindL;rw [zMF λv hv=>(nodup_cons.mp nd).1 (of_mem_zip hv).1,iP hk];simp
 |p::P,w::vs,i+1,m,nd,h1,h2,hk=>by show bindL kindOf ((p,w)::P.zip vs) m x=_;unfold bindL;exact zMH (i:=i) (nodup_cons.mp nd).2 (by simpa using h1) (by simpa using h2) hk
theorem zMI{kindOf:Str->Option NameKind}{x:Str}{v:Value}: ∀{P:Ai}{vs:Ae}{i:Nat}{m:Aj},P.Nodup->P[i]? =some x->vs[i]? =some v->kindOf x≠some .local->
  bindC kindOf (P.zip vs) m x=some v
 |[],_,_,_,_,h,_,_=>by simp at h
 |_::_,[],_,_,_,_,h,_=>by simp at h
 |p::P,w::vs,0,m,nd,h1,h2,hk=>by simp at h1 h2;subst h1;subst h2;show bindC kindOf ((p,w)::P.zip vs) m p=_;unfold bindC;rw [zMG λv hv=>(nodup_cons.mp nd).1 (of_mem_zip hv).1,iN hk];simp
 |p::P,w::vs,i+1,m,nd,h1,h2,hk=>by show bindC kindOf ((p,w)::P.zip vs) m x=_;unfold bindC;exact zMI (i:=i) (nodup_cons.mp nd).2 (by simpa using h1) (by simpa using h2) hk
def start(N:Ai)(vs:List V):St:=vs.map some++List.replicate (N.length - vs.length) none
def zTH(CX:CXT)(P:Program)(w:World)(K:Be)(mg:Aj)(base:Heap)(N:Ai)(qual:Str)(scope:Scope)(f:Addr)(cd:Value)(A:Around)(outer:List Env)(s:Shared)(H:Hp)(E:XK):Cx where
 prog:=P
 w:=w
 K:=K
 mg:=mg
 base:=base
 A:=A.deeper (envOfC qual scope s.heap.objs.size f cd)
 N:=N
 s₀:=s
 H₀:=H
 env:=envOfC qual scope s.heap.objs.size f cd
 outer:=outer
 stack:=envOfC qual scope s.heap.objs.size f cd::outer
 ex:=[]
 calm:=true
 fn:=λ_=>true
 pn:=[]
 xe:=λe s'=>wpAny (model P w) (A.deeper (envOfC qual scope s.heap.objs.size f cd)) (leaving (envOfC qual scope s.heap.objs.size f cd) e) (λ_ s''=>CX outer H s E e s'') (λe' s''=>CX outer H s E e' s'') s'
def zQM{sc:Scope}{n:Nat}{x:Str}(h:sc.names.lookup x=some .cell): ∃c,(cellsFrom n sc.names []).lookup x=some c:=by have q:=PySem.W.cellsFrom_some sc.names n [] (.inl h);exact Option.isSome_iff_exists.mp q
def zYB{CX:CXT}{P:Program}{w:World}{K:Be}{mg:Aj}{base:Heap}{N ps:Ai}{qual:Str}{scope:Scope}{f:Addr}{cd:Value}{A:Around}{outer:List Env}{s s1:Shared}{H:Hp}{E:XK}{us:Ae}{vs:List V}
  (S:FnScope N ps scope) (hd:A.handled=none) (e0:Env0 P w K mg base A outer s H) (hl:vs.length=ps.length) (r:Vals vs us)
  (x:InCallC s s.heap.objs.size (bindL (envOfC qual scope s.heap.objs.size f cd).kindOf (ps.zip us) λ_=>none) (cellsFrom (s.heap.objs.size+1) scope.names []) (bindC (envOfC qual scope s.heap.objs.size f cd).kindOf (ps.zip us) λ_=>none) s1):
  Inv (zTH CX P w K mg base N qual scope f cd A outer s H E) [] (start N vs) H s1:=by
 have hpl:ps.length<=N.length:=by have:=congrArg List.length S.pre;rw [lT]at this;omega
 obtain⟨h1,tk,rfl,hk⟩:=x.done;have noA: ∀b:Addr,b∉(zTH CX P w K mg base N qual scope f cd A outer s H E).ex:=λb z=>absurd (show b∈([]:Ah)from z) (by simp)
 refine⟨⟨e0.mod,S.kind,rfl,rfl,le_refl _,λy z c h1 h2=>?_,λy hy=>?_,λy c _ h=>?_,λ_=>hd,Around.frames_deeper e0.frames,.inr ⟨rfl,rfl⟩,λb z=>absurd z (noA b),e0.bs,e0.bsz,λb _ _=>noA b,λb z=>absurd z (noA b),e0.funs,e0.frf⟩,
  rfl,e0.bare,Un.kept hk,⟨_,x.toInCall.ns,λi y v h1 h2 h3=>?_⟩,λy c h=>⟨_,x.cell y c h⟩,e0.hok.fresh (le_refl _),λy c h=>?_,λp hp=>absurd (show p∈([]:Ba)from hp) (by simp),e0.hok.kept hk,?_⟩
 ·exact name_of_addr x.apart (PySem.mem_of_lookup h1) (PySem.mem_of_lookup h2)
 ·have hy:scope.names.lookup y=some .cell\/scope.names.lookup y=some .free:=hy;rcases hy with hy|hy
  ·exact zQM hy
  ·exact absurd rfl (S.nofree _ (PySem.mem_of_lookup hy))
 ·exact le_of_lt (x.above y c (PySem.mem_of_lookup h))
 ·have hi:i<vs.length:=by
   unfold start at h2;by_cases hi:i<vs.length
   ·exact hi
   ·rw [getElem?_append_right (by simpa using hi)]at h2;rw [List.getElem?_replicate]at h2;split at h2<;>cases h2
  have ha:vs[i]? =some v:=by
   unfold start at h2;rw [getElem?_append_left (by simpa using hi),getElem?_map]at h2
   cases e:vs[i]? with
   |none=>rw [e]at h2;cases h2
   |some a=>rw [e]at h2;cases h2;rfl
  obtain⟨u,hu,rv⟩:=r.get ha;have hp:ps[i]? =some y:=by rw [<-S.pre,getElem?_take_of_lt (by omega)];exact h1
  have ndP:ps.Nodup:=by rw [<-S.pre];exact S.nd.sublist (List.take_sublist _ _)
  refine⟨u,rv,?_⟩;rcases S.par y (mem_of_getElem? hp)with k|k
  ·exact .inl ⟨k,zMH ndP hp hu k⟩
  ·obtain⟨c,e⟩:=zQM (n:=s.heap.objs.size+1) k;refine .inr ⟨.inl k,c,e,?_⟩;have q:=x.cell y c e;rw [zMI ndP hp hu (by show scope.names.lookup y≠_;rw [k];decide)]at q;exact q
 ·exact e0.hok.fresh (le_of_lt (x.above y c (PySem.mem_of_lookup h)))
 ·unfold start;show _=N.length;rw [lA,lM,length_replicate];omega
def fn_of{CX:CXT}{P:Program}{w:World}{K:Be}{mg:Aj}{base:Heap}{k:Nat}{f:Addr}{name qual:Str}{params:Arguments}{body:List Stmt}{scope:Scope}{dV kV doc pm cdv ct oc:Value}{an od:Option Addr}
  {osl:Array (Option Value)} {N ps:Ai} {sp:Sp} (lk:K.lookup f=some ⟨oc,od,.func (PySem.W.fnOf name qual params body scope dV kV doc pm an cdv ct),osl⟩) (hcd:PySem.W.codeIn K cdv qual=true) (S:FnScope N ps scope)
  (len: ∀vs H Q E,sp vs H Q E->vs.length=ps.length)
  (hbody: ∀(A:Around)(outer:List Env)(s:Shared)(H:Hp)(vs:List V)(Q:VK)(E:XK),Room k (A.deeper (envOfC qual scope s.heap.objs.size f cdv))->sp vs H Q E->
   ∃t,PSs (zTH CX P w K mg base N qual scope f cdv A outer s H E) body t/\t {nx:=λ_ H'=>Q .non H',rt:=Q} (start N vs) H):
  FnOk P w K mg base CX (k+1) f (PySem.W.fnOf name qual params body scope dV kV doc pm an cdv ct) ps sp:=by
 refine⟨len,λA outer s H args us vs Q E hr e0 hb r hsp=>?_⟩;have hl:=len _ _ _ _ hsp;have KX:K.In s.heap:=e0.mod.kin.keeps λb o e=>(e0.bs b o e).1;have lim:s.heap.NoLimit:=e0.mod.nolimit.keeps λb o e=>(e0.bs b o e).1
 have hkind: ∀y∈ps.zip us,scope.names.lookup y.1=some .local\/(scope.names.lookup y.1=some .cell/\((cellsFrom (s.heap.objs.size+1) scope.names []).lookup y.1).isSome=true):=λ⟨n,v⟩ hy=>by
  rcases S.par n (of_mem_zip hy).1 with q|q
  ·exact .inl q
  ·exact .inr ⟨q,PySem.W.cellsFrom_some _ _ _ (.inl q)⟩
 refine codeAny_call_function hr.depth (KX _ _ lk) rfl S.co S.gen rfl (PySem.W.codeRec_of KX hcd) (hb _ _ _ _ ?_);refine wpAny_newFunctionEnv_cells S.kind hkind λenv he s1 x=>?_;subst he;refine⟨lim.keeps x.toInCall.keep,codeAny_func ?_⟩;obtain⟨t,ht,hq⟩:=hbody A outer s H vs Q E (hr.deeper _) hsp;have I:Inv (zTH CX P w K mg base N qual scope f cdv A outer s H E) [] (start N vs) H s1:=zYB S hr.hd e0 hl r x;refine wpAny_mono (ht [] s1 (start N vs) H _ I hq) (λfl s' hs=>?_) λe s' hs=>hs
 have fin: ∀{σ':St}{H':Hp}{v:V}{u:Value},Inv (zTH CX P w K mg base N qual scope f cdv A outer s H E) [] σ' H' s'->RelV v u->Q v H'->CE outer P w H s Q u s':=
  λ{σ' H' v u} J rv q=>⟨v,H',J.os,J.bare,J.base,J.hok,rv,q⟩
 cases fl with
 |ret u=>
  obtain⟨v,σ',H',J,rv,q⟩:=hs;exact fin J rv q
 |next=>
  obtain⟨σ',H',J,q⟩:=hs;exact fin (v:=V.non) (u:=Value.none) J rfl q
 |brk=>
  obtain⟨_,_,_,q⟩:=hs;exact False.elim q
 |cont=>
  obtain⟨_,_,_,q⟩:=hs;exact False.elim q
section
variable{X:Cx}{x:Str}{p pos:Pos}{e:Expr}{es:Bd}{t:TA}{id T:String}{r:List V->Hp->VK->Prop}
def tCB(r:List V->Hp->VK->Prop)(t:TA):TE:=λσ H Q=>t σ H λvs H1=>r vs H1 Q
def zQN(hc:CallR X (.builtin id) r)(hg:Gl X x)(hm:X.mg x=none)(hv:bootBuiltins x=some (.builtin id))(ha:PA X (e::es) t)(hn:x≠"__name__":=by decide)(hdb:(x==("__debug__":Str))=false:=by decide)
  (he:starEach (e::es) X.env=(false,eval e X.env)::starEach es X.env:=by rfl) (hpl:(backTo pos (starEach es X.env)).any (·.1)=false:=by rfl):PE X (.Call (.Name x p) (e::es) [] pos) (tCB r t):=by
 intro pins s σ H Q I h;refine wpAny_Call_Name_kw (zNT I hg hm hv ?_ hn hdb);exact PyProof.Rows.callWith_builtin1 (thn (ha pos pins s σ H _ I h) λus s1 ⟨vs,H1,I1,r1,q1⟩=>hc pins s1 σ H1 vs us Q I1 r1 q1) he hpl
def zMJ(hc:CallR X (.type T) r)(hg:Gl X x)(hm:X.mg x=none)(hv:bootBuiltins x=some (.type T))(ha:PA X (e::es) t)(hn:x≠"__name__":=by decide)(hdb:(x==("__debug__":Str))=false:=by decide)
  (he:starEach (e::es) X.env=(false,eval e X.env)::starEach es X.env:=by rfl) (hpl:(backTo pos (starEach es X.env)).any (·.1)=false:=by rfl):PE X (.Call (.Name x p) (e::es) [] pos) (tCB r t):=by
 intro pins s σ H Q I h;refine wpAny_Call_Name_kw (zNT I hg hm hv ?_ hn hdb);exact PyProof.Rows.callWith_type1 (thn (ha pos pins s σ H _ I h) λus s1 ⟨vs,H1,I1,r1,q1⟩=>hc pins s1 σ H1 vs us Q I1 r1 q1) he hpl
end
end L2
namespace HT
open PySem PyProof.Rows
section
variable{prog:Program}{w:World}{A:Around}{E:VP}{s:Shared}
def cat_tup{t b:Addr}{vs ws:Ae}{Q:VP}(ht:IsTup s.heap t vs.toArray)(hb:IsTup s.heap b ws.toArray)(hv:vs≠[])
  (h1:ws=[]->Q (.ref t) s) (h2:ws≠[]->Q (.ref s.heap.objs.size) {s with heap:=s.heap.push {cls:=.type "tuple",data:=.seq (vs++ws).toArray}})
  (hsz:vs.length+ws.length<=sizeLine):wpAny (model prog w) A (binaryOp .Add (.ref t) (.ref b)) Q E s:=by
 obtain⟨⟨cls,dd,data,sl⟩,ho,hc,n,hd⟩:=id ht;obtain⟨⟨cls2,dd2,data2,sl2⟩,ho2,hc2,n2,hd2⟩:=id hb;simp only at hc hd hc2 hd2;subst hc hd hc2 hd2;have e:vs.toArray++ws.toArray=(vs++ws).toArray:=by simp
 by_cases hw:ws=[]
 ·exact concat_meets ⟨_,ho,rfl⟩ ⟨_,ho2,rfl⟩ noFill_tuple_add seq_tuple_add PySem.F.slot_tuple_add PySem.F.entry_tuple_add (PySem.F.args_tuple_add_2 _ _)
   (tuple_addW1 t b vs.toArray ws.toArray n n2 dd dd2 sl sl2 (by simpa using hv) (by simp [hw])) ⟨ho,ho2,h1 hw⟩
 ·refine concat_meets ⟨_,ho,rfl⟩ ⟨_,ho2,rfl⟩ noFill_tuple_add seq_tuple_add PySem.F.slot_tuple_add PySem.F.entry_tuple_add (PySem.F.args_tuple_add_2 _ _)
   (tuple_addW2 t b vs.toArray ws.toArray n n2 dd dd2 sl sl2 (by simpa using hv) (by simpa using hw) (by rw [sA,sA];exact hsz)) ⟨ho,ho2,?_⟩
  rw [e];exact h2 hw
def sIx(n d:Nat):Option Int->Nat
 |none=>d
 |some v=>if v<0 then(v+(n:Int)).toNat else min v.toNat n
def sIx_nat(n d k:Nat):sIx n d (some (k:Int))=min k n:=by show(if(k:Int)<0 then((k:Int)+(n:Int)).toNat else min (k:Int).toNat n)=min k n;rw [iN (by omega),toNat_natCast]
def sIx_le(n d:Nat)(hd:d<=n)(o:Bc):sIx n d o<=n:=by
 cases o with
 |none=>exact hd
 |some v=>
  show(if v<0 then(v+(n:Int)).toNat else min v.toNat n)<=n;by_cases hv:v<0
  ·rw [iP hv];omega
  ·rw [iN hv];exact Nat.min_le_right _ _
def zVH(v:Int)(n d:Nat):(if v<0 then max (v+(n:Int)) 0 else min v (n:Int))=((sIx n d (some v):Nat):Int):=by
 show(if v<0 then max (v+(n:Int)) 0 else min v (n:Int))=(((if v<0 then(v+(n:Int)).toNat else min v.toNat n):Nat):Int)
 by_cases hv:v<0
 ·simp only [iP hv];omega
 ·simp only [iN hv];omega
def zTI(lo hi:Bc)(n:Nat):Builtin.Slice.sliceAdjust lo hi 1 (n:Int)=(((sIx n 0 lo:Nat):Int),((sIx n n hi:Nat):Int)):=by
 have h1: ¬((1:Int)<0):=by omega
 unfold Builtin.Slice.sliceAdjust;simp only [h1,iF];refine Prod.ext ?_ ?_
 ·cases lo with
  |none=>rfl
  |some v=>exact zVH v n 0
 ·cases hi with
  |none=>rfl
  |some v=>exact zVH v n n
def zTJ(i j:Nat):Builtin.Slice.slicePlaces (i:Int) (j:Int) 1=j - i:=by
 unfold Builtin.Slice.slicePlaces;have h1:(1:Int)>0:=by omega
 simp only [h1,if_true,Int.ediv_one];split<;>omega
def zJA{v:Value}{o:Bc}{Q:Option Int->Shared->Prop}(p:IsPart v o)(h:Q o s):wpAny (model prog w) A (Builtin.Slice.slicePartIndex v) Q E s:=by
 cases p with
 |none=>exact slicePart_none h
 |int i t=>exact slicePart_int h
def sliceApplied_gen{sl:Addr}{vl vu:Value}{lo hi:Bc}{n:Nat}{Q:Int×Int×Nat->Shared->Prop}(hs:s.heap.IsSliceOf sl vl vu .none)(pl:IsPart vl lo)(pu:IsPart vu hi)
  (h:Q (((sIx n 0 lo:Nat):Int),1,sIx n n hi - sIx n 0 lo) s):wpAny (model prog w) A (Builtin.Slice.sliceApplied (.ref sl) (pure (n:Int))) Q E s:=by
 obtain⟨os,hos,hcs,hds⟩:=id hs;unfold Builtin.Slice.sliceApplied Builtin.Slice.sliceFields;refine wB0 (wB0 (wpAny_field hos hds (x:=vl) rfl (wB0 (wpAny_field hos hds (x:=vu) rfl (wB0 (wpAny_field hos hds (x:=.none) rfl (wP0 ?_)))))));refine wB0 (slicePart_none ?_);show wpAny _ _ (if((1:Int)==0)=true then _ else _) _ _ s;rw [iN (by decide)];refine wB0 (zJA pl (wB0 (zJA pu (wB0 (wP0 ?_)))));show wpAny _ _ (match Builtin.Slice.sliceAdjust lo hi 1 (n:Int)with |(lo,hi)=>pure (lo,(1:Int),Builtin.Slice.slicePlaces lo hi 1)) _ _ s;rw [zTI lo hi n];show wpAny _ _ (pure (((sIx n 0 lo:Nat):Int),(1:Int),Builtin.Slice.slicePlaces ((sIx n 0 lo:Nat):Int) ((sIx n n hi:Nat):Int) 1)) _ _ s;rw [zTJ];exact wP0 h
def yAG(xs:Ag)(i k:Nat):((List.range k).filterMap λ(m:Nat)=>xs[((i:Int)+(m:Int) * 1).toNat]?).toArray=((xs.toList.drop i).take k).toArray:=by
 have e:(λ(m:Nat)=>xs[((i:Int)+(m:Int) * 1).toNat]?)=λm=>xs[i+m]? :=by
  funext m;have:((i:Int)+(m:Int) * 1).toNat=i+m:=by omega
  rw [this]
 rw [e];have:=pick_run xs i k;rw [List.filterMap_map]at this;have e2:((λx=>xs[x]?)∘λx=>i+x)=λm=>xs[i+m]? :=rfl;rw [e2]at this;rw [this]
def getItem_tuple_cut{t sl:Addr}{items:Ag}{vl vu:Value}{lo hi:Bc}{Q:VP}(ht:IsTup s.heap t items)(hs:s.heap.IsSliceOf sl vl vu .none)(pl:IsPart vl lo)(pu:IsPart vu hi)
  (hw: ¬(sIx items.size 0 lo=0/\sIx items.size items.size hi=items.size))
  (h:Q (.ref s.heap.objs.size) {s with heap:=s.heap.push {cls:=.type "tuple",data:=.seq ((items.toList.drop (sIx items.size 0 lo)).take (sIx items.size items.size hi - sIx items.size 0 lo)).toArray}})
  (hsz:items.size<=sizeLine):wpAny (model prog w) A (getItem (.ref t) (.ref sl)) Q E s:=by
 have htake:sizeOk (.seq ((items.toList.drop (sIx items.size 0 lo)).take (sIx items.size items.size hi - sIx items.size 0 lo)).toArray):=by show((items.toList.drop (sIx items.size 0 lo)).take (sIx items.size items.size hi - sIx items.size 0 lo)).toArray.size<=sizeLine;rw [sA,lT,length_drop,Array.length_toList];omega
 have hj:sIx items.size items.size hi<=items.size:=sIx_le _ _ (le_refl _) hi;obtain⟨os,hos,hcs,hds⟩:=id hs;have hTs:s.TypeIs (.ref sl) "slice":=⟨os,hos,hcs⟩
 unfold getItem
 try with_reducible refine wpAny_holding ?_
 first |refine wB0 (wP0 ?_)|skip
 refine wB0 (wpAny_sequenceKey ht.typeIs (by decide) ?_)
 refine wB0 (wpAny_callSpecial?_slot (name:=Str.ofString "__getitem__") ht.typeIs PyProof.Rows.slot_tuple_getitem
  (wpAny_call_entry PyProof.Rows.slot_tuple_getitem ht.typeIs entry_tuple_getitem ?_ (args_tuple_getitem _ _)))
 show wpAny _ _ (Builtin.Tuple.tupleItemsOf (.ref t) >>= _) _ _ s;refine wB0 (tupleItemsOf_ ht ?_);refine wB0 (wpAny_typeOf hTs ?_);rw [iP (by decide)];refine wB0 (sliceApplied_gen hs pl pu ?_);have hno: ¬((((sIx items.size 0 lo:Nat):Int)==0&&(1:Int)==1&&(sIx items.size items.size hi - sIx items.size 0 lo)==items.size)=true):=by intro q;rw [aE,aE]at q;have q1:((sIx items.size 0 lo:Nat):Int)=0:=eq_of_beq q.1.1;have q2:sIx items.size items.size hi - sIx items.size 0 lo=items.size:=eq_of_beq q.2;exact hw ⟨by omega,by omega⟩
 show wpAny _ _ (if(((sIx items.size 0 lo:Nat):Int)==0&&(1:Int)==1&&(sIx items.size items.size hi - sIx items.size 0 lo)==items.size)=true then _ else _) _ _ s;rw [iN hno,yAG]
 first
  |exact wB0 (m:=Builtin.Tuple.tupleExact _) (wpAny_newObj_type (wP0 ⟨_,rfl,wP0 h⟩) htake)
  |exact wB0 (m:=Builtin.Tuple.tupleExact _) (wpAny_newObj_type (wB0 (wP0 (wP0 ⟨_,rfl,wP0 h⟩))) htake)
  |exact wB0 (wB0 (m:=Builtin.Tuple.tupleExact _) (wpAny_newObj_type (wP0 (wP0 ⟨_,rfl,wP0 h⟩)) htake))
  |exact wB0 (wB0 (m:=Builtin.Tuple.tupleExact _) (wpAny_newObj_type (wP0 ⟨_,rfl,wP0 h⟩) htake))
end
end HT
namespace L2
open PySem PySem.Spec PyProof.Rows
abbrev TO:=St->Hp->(Option Int->Hp->Prop)->Prop
def PO(X:Cx)(e:Option Expr)(t:TO):Prop:=
 ∀(pins:Ba)(s:Shared)(σ:St)(H:Hp)(Q:Option Int->Hp->Prop),Inv X pins σ H s->t σ H Q->
  wpAny (model X.prog X.w) X.A (evalPart e X.env) (λu s'=> ∃o H',Inv X pins σ H' s'/\IsPart u o/\Q o H') X.xe s
def yFG:TO:=λ_ H Q=>Q none H
def tPart(t:TE):TO:=λσ H Q=>t σ H λx H1=> ∃i,x=.int i/\Q (some i) H1
section
variable{X:Cx}{e:Expr}{te:TE}{lo hi:Option Expr}{tl th:TO}{pos p2:Pos}
def yFH:PO X none yFG:=by intro pins s σ H Q I h;rw [evalPart_none];exact wP0 ⟨none,H,I,.none,h⟩
def yFI(h:PE X e te):PO X (some e) (tPart te):=by intro pins s σ H Q I hw;rw [evalPart_some];refine thn (h pins s σ H _ I hw) λu s1 ⟨x,H1,I1,r1,q1⟩=>?_;obtain⟨i,rfl,q⟩:=q1;obtain⟨t,rfl⟩:=r1;exact⟨some i,H1,I1,.int i t,q⟩
def SlR(X:Cx)(r:V->Option Int->Option Int->Hp->VK->Prop):Prop:=
 ∀(pins:Ba)(s:Shared)(σ:St)(H:Hp)(x:V)(v vl vu:Value)(lo hi:Bc)(sl:Addr)(Q:VK),Inv X pins σ H s->RelV x v->s.heap.IsSliceOf sl vl vu .none->IsPart vl lo->IsPart vu hi->r x lo hi H Q->
  ∃T id,typeLookup (.type T) "__getitem__"=pure (some (.builtin id))/\s.TypeIs v T/\wpAny (model X.prog X.w) X.A (getItem v (.ref sl)) (EP X pins σ Q) X.xe s
def SlR.or{r r':V->Option Int->Option Int->Hp->VK->Prop}(h:SlR X r)(h':SlR X r'):SlR X (λx lo hi H Q=>r x lo hi H Q\/r' x lo hi H Q):=by
 intro pins s σ H x v vl vu lo hi sl Q I rx hs pl pu q;rcases q with q|q
 ·exact h pins s σ H x v vl vu lo hi sl Q I rx hs pl pu q
 ·exact h' pins s σ H x v vl vu lo hi sl Q I rx hs pl pu q
def tSl(r:V->Option Int->Option Int->Hp->VK->Prop)(te:TE)(tl th:TO):TE:=λσ H Q=>te σ H λx H1=>tl σ H1 λl H2=>th σ H2 λu H3=>r x l u H3 Q
def yAH{r:V->Option Int->Option Int->Hp->VK->Prop}(hr:SlR X r)(he:PE X e te)(hl:PO X lo tl)(hu:PO X hi th):PE X (.Subscript e (.Slice lo hi none p2) pos) (tSl r te tl th):=by intro pins s σ H Q I h;refine Subscript_ (thn (he pins s σ H _ I h) λv s1 ⟨x,H1,I1,r1,q1⟩=>?_);refine wpAny_Slice (thn (hl pins s1 σ H1 _ I1 q1) λvl s2 ⟨l,H2,I2,pl,q2⟩=>thn (hu pins s2 σ H2 _ I2 q2) λvu s3 ⟨u,H3,I3,pu,q3⟩=>?_);rw [evalPart_none];refine wP0 ?_;have I4:Inv X pins σ H3 {s3 with heap:=s3.heap.push {cls:=.type "slice",data:=.fields #[vl,vu,.none]}}:=I3.kept (t':=s3.toks) λb ob q=>hP0 _ q;obtain⟨T,id,hT,ht,hg⟩:=hr pins {s3 with heap:=s3.heap.push {cls:=.type "slice",data:=.fields #[vl,vu,.none]}} σ H3 x v vl vu l u s3.heap.objs.size Q I4 r1 (Heap.IsSliceOf.new ..) pl pu q3;show wpAny (model X.prog X.w) X.A (subscriptTail e (.Slice lo hi none p2) v (.ref s3.heap.objs.size)) (EP X pins σ Q) X.xe {s3 with heap:=s3.heap.push {cls:=.type "slice",data:=.fields #[vl,vu,.none]}};exact tail_any (ops:=[.ref s3.heap.objs.size,v]) ht hT hg (by with_unfolding_all rfl)
def zQO(xs:List V)(lo hi:Bc):List V:=(xs.drop (HT.sIx xs.length 0 lo)).take (HT.sIx xs.length xs.length hi - HT.sIx xs.length 0 lo)
def zHT(xs:List V)(lo hi:Bc):(zQO xs lo hi).length<=xs.length:=by unfold zQO;rw [lT,length_drop];omega
def rSlT(K:Be):V->Option Int->Option Int->Hp->VK->Prop:=λx lo hi H Q=> ∃a xs,x=.ref a/\SqT K H a xs/\
 ¬(HT.sIx xs.length 0 lo=0/\HT.sIx xs.length xs.length hi=xs.length)/\ ∀p,H p=none->Q (.ref p) (upd H p (.tup (zQO xs lo hi)))
def yKO:SlR X (rSlT X.K):=by
 intro pins s σ H x v vl vu lo hi sl Q I rx hs pl pu h;obtain⟨a,xs,rfl,hx,hw,q⟩:=h;cases rx;obtain⟨its,r,ht,hz⟩:=I.tuple hx;have hlen:its.toArray.size=xs.length:=by rw [sA];exact r.length.symm
 refine⟨"tuple",_,PyProof.Rows.slot_tuple_getitem.lookup,ht.typeIs,?_⟩;refine HT.getItem_tuple_cut ht hs pl pu (by rw [hlen];exact hw) ?_ (by rw [hlen];exact hz);rw [hlen];refine⟨.ref s.heap.objs.size,_,I.laid (t':=s.toks) (o:=.tup (zQO xs lo hi)) (λb ob q=>hP0 _ q) (le_refl _) ?_,rfl,q _ (I.hok.fresh (le_refl _))⟩;exact⟨le_trans (zHT xs lo hi) hz,_,(r.drop (HT.sIx xs.length 0 lo)).take (HT.sIx xs.length xs.length hi - HT.sIx xs.length 0 lo),IsTup.new _ _⟩
def rCatT(K:Be):R2:=λx y H Q=> ∃a b xs ys,x=.ref a/\y=.ref b/\SqT K H a xs/\SqT K H b ys/\xs≠[]/\xs.length+ys.length<=sizeLine/\
 (ys=[]->Q (.ref a) H)/\(ys≠[]-> ∀p,H p=none->Q (.ref p) (upd H p (.tup (xs++ys))))
def Vals.nil_iff{xs:List V}{us:Ae}(r:Vals xs us):us=[]↔xs=[]:=by
 cases r with
 |nil=>simp
 |cons _ _=>simp
def yFJ:OpR X (binaryOp .Add) (rCatT X.K):=by intro pins s σ H x y v u Q I rx ry h;obtain⟨a,b,xs,ys,rfl,rfl,ha,hb,hx,hz,q1,q2⟩:=h;cases rx;cases ry;obtain⟨its,r1,p1,_⟩:=I.tuple ha;obtain⟨its2,r2,p2,_⟩:=I.tuple hb;refine HT.cat_tup p1 p2 (λz=>hx (r1.nil_iff.mp z)) (λz=>⟨.ref a,H,I,rfl,q1 (r2.nil_iff.mp z)⟩) (λz=>?_) (by rw [<-r1.length, <-r2.length];exact hz);refine⟨.ref s.heap.objs.size,_,I.laid (t':=s.toks) (o:=.tup (xs++ys)) (λb ob q=>hP0 _ q) (le_refl _) ?_,rfl,q2 (λw=>z (r2.nil_iff.mpr w)) _ (I.hok.fresh (le_refl _))⟩;exact⟨by rw [lA];exact hz,_,r1.append r2,IsTup.new _ _⟩
end
def ixN(n:Nat)(i:Int):Option Nat:=if 0<=i then(if i<n then some i.toNat else none)else if -(n:Int)<=i then some (i+n).toNat else none
def atI{α:Type}(xs:List α)(i:Int):Option α:=(ixN xs.length i).bind λj=>xs[j]?
def zVI{n:Nat}{i:Int}{j:Nat}(h:ixN n i=some j):seqIndex? i n=some j/\j<n/\ -(n:Int)<=i/\i<n:=by
 unfold ixN at h;by_cases h0:0<=i
 ·rw [iP h0]at h;by_cases h1:i<n
  ·rw [iP h1]at h;have e:i.toNat=j:=Option.some.inj h;exact⟨by rw [seqIndex_of h0 h1,e],by omega,by omega,h1⟩
  ·rw [iN h1]at h;cases h
 ·rw [iN h0]at h;by_cases h1: -(n:Int)<=i
  ·rw [iP h1]at h;have e:(i+n).toNat=j:=Option.some.inj h;exact⟨by rw [seqIndex_neg (by omega) h1,e],by omega,h1,by omega⟩
  ·rw [iN h1]at h;cases h
def zNW{α:Type}{xs:List α}{i:Int}{v:α}(h:atI xs i=some v): ∃j,seqIndex? i xs.length=some j/\xs[j]? =some v/\j<xs.length/\ -(xs.length:Int)<=i/\i<xs.length:=by
 unfold atI at h
 cases e:ixN xs.length i with
 |none=>rw [e]at h;cases h
 |some j=>
  rw [e]at h;obtain⟨h1,h2,h3,h4⟩:=zVI e;exact⟨j,h1,h,h2,h3,h4⟩
def atI_nat{α:Type}{xs:List α}{j:Nat}{v:α}(h:xs[j]? =some v):atI xs (j:Int)=some v:=by
 have hj:j<xs.length:=(gS0.mp h).1;have e:ixN xs.length (j:Int)=some j:=by unfold ixN;rw [iP (by omega),iP (by omega)];simp
 unfold atI;rw [e];exact h
def zNX(b:Expr):Prop:= ∀o i,subscripted b false o i=operate [o,i] (getItem o i)
def IxR(X:Cx)(r:R2):Prop:=
 ∀(value slice:Expr)(pins:Ba)(s:Shared)(σ:St)(H:Hp)(x y:V)(v u:Value)(Q:VK),Inv X pins σ H s->RelV x v->RelV y u->r x y H Q->
  subscripted slice false v u=operate [v,u] (getItem v u)->wpAny (model X.prog X.w) X.A (subscriptTail value slice v u) (EP X pins σ Q) X.xe s
def MtR(X:Cx)(id:String)(r:V->List V->Hp->VK->Prop):Prop:=
 ∀(pins:Ba)(s:Shared)(σ:St)(H:Hp)(x:V)(xs:List V)(v:Value)(us:Ae)(Q:VK),Inv X pins σ H s->RelV x v->Vals xs us->r x xs H Q->
  wpAny (model X.prog X.w) X.A (call (.builtin id) (v::us)) (EP X pins σ Q) X.xe s
section
variable{X:Cx}{a b:Expr}{ta tb:TE}{pos:Pos}
def IxR.or{r r':R2}(h:IxR X r)(h':IxR X r'):IxR X (λx y H Q=>r x y H Q\/r' x y H Q):=by
 intro value slice pins s σ H x y v u Q I rx ry q hs;rcases q with q|q
 ·exact h value slice pins s σ H x y v u Q I rx ry q hs
 ·exact h' value slice pins s σ H x y v u Q I rx ry q hs
def pe_ix{r:R2}(hr:IxR X r)(ha:PE X a ta)(hb:PE X b tb)(hs:zNX b):PE X (.Subscript a b pos) (tOp r ta tb):=by intro pins s σ H Q I h;exact Subscript_ (binT ha hb I h λv u s2 x y H2 I2 rx ry q=>hr a b pins s2 σ H2 x y v u Q I2 rx ry q (hs _ _))
def rIxL(K:Be):R2:=λx y H Q=> ∃p xs i v,x=.ref p/\y=.int i/\SqL K H p xs/\atI xs i=some v/\Q v H
def rIxT(K:Be):R2:=λx y H Q=> ∃p xs i v,x=.ref p/\y=.int i/\SqT K H p xs/\atI xs i=some v/\Q v H
def rIxS:R2:=λx y H Q=> ∃z i c,x=.str z/\y=.int i/\z.length<=sizeLine/\atI z.cps.toList i=some c/\Q (.str ⟨#[c]⟩) H
def yFK:IxR X (rIxL X.K):=by
 intro value slice pins s σ H x y v u Q I rx ry h hs;obtain⟨p,xs,i,z,rfl,rfl,hq,he,q⟩:=h;cases rx;obtain⟨t,rfl⟩:=ry;obtain⟨its,r,pl,hz⟩:=I.list hq;obtain⟨j,h1,h2,h3,h4,h5⟩:=zNW he;obtain⟨w,ew,rw'⟩:=r.get h2;have hl:=r.length;have hn:=zEP;have fin:EP X pins σ Q w s:=⟨z,H,I,rw',q⟩
 by_cases h0:0<=i
 ·have hj:i.toNat=j:=by rw [seqIndex_of h0 h5]at h1;exact Option.some.inj h1
  exact item_listR pl.isList h0 (by omega) (by rw [hj];simpa using ew) fin hs
 ·have hj:(i+(its.toArray.size:Int)).toNat=j:=by rw [seqIndex_neg (by omega) h4]at h1;rw [sA, <-hl];exact Option.some.inj h1
  exact subscriptTail_builtinR (x:=w) pl.isList.typeIs slot_list_getitem.lookup
   (wpAny_getItem_list_neg (Q:=λr s'=>r=w/\EP X pins σ Q r s') pl.isList (by omega) (by rw [sA]<;>omega) (by omega) (by rw [hj];simpa using ew) ⟨rfl,fin⟩) hs
def ix_tup:IxR X (rIxT X.K):=by
 intro value slice pins s σ H x y v u Q I rx ry h hs;obtain⟨p,xs,i,z,rfl,rfl,hq,he,q⟩:=h;cases rx;obtain⟨t,rfl⟩:=ry;obtain⟨its,r,pl,hz⟩:=I.tuple hq;obtain⟨j,h1,h2,h3,h4,h5⟩:=zNW he;obtain⟨w,ew,rw'⟩:=r.get h2;have hl:=r.length;have hn:=zEP;have fin:EP X pins σ Q w s:=⟨z,H,I,rw',q⟩
 exact subscriptTail_builtinR (x:=w) pl.typeIs slot_tuple_getitem.lookup
  (getItem_tuple (j:=j) (Q:=λr s'=>r=w/\EP X pins σ Q r s') pl (by omega) (by omega) (by rw [sA, <-hl];exact h1) (by simpa using ew) ⟨rfl,fin⟩) hs
def ix_str:IxR X rIxS:=by
 intro value slice pins s σ H x y v u Q I rx ry h hs;obtain⟨z,i,c,rfl,rfl,hz,he,q⟩:=h;obtain⟨t,rfl⟩:=rx;obtain⟨t',rfl⟩:=ry;obtain⟨j,h1,h2,h3,h4,h5⟩:=zNW he;have hl:z.cps.toList.length=z.length:=by simp [Str.length]
 rw [hl]at h1 h4 h5;have hn:=zEP;exact tail_any (typeIs_str s z t) slot_str_getitem.lookup (getItem_str (c:=c) (by have e1:decide (i< -(2 ^ 63:Int))=false:=dF0 (by omega);have e2:decide (i>=2 ^ 63)=false:=dF0 (by omega);rw [e1,e2,Bool.or_false]) (by rw [h1];simpa using h2) ⟨.str ⟨#[c]⟩,H,I.tok _,⟨_,rfl⟩,q⟩) hs
def rIx(K:Be):R2:=λx y H Q=>rIxL K x y H Q\/rIxT K x y H Q\/rIxS x y H Q
def yKP:IxR X (rIx X.K):=yFK.or (ix_tup.or ix_str)
def zTK(its:Ae)(n j:Nat)(u:Value):Obj.mapSeq (·.setIfInBounds j u) {cls:=.type "list",data:=.seq its.toArray n}={cls:=.type "list",data:=.seq (its.set j u).toArray n}:=by simp [Obj.mapSeq]
def Inv.lst{pins:Ba}{σ:St}{H:Hp}{s:Shared}{p:Addr}{xs:List V}(I:Inv X pins σ H s)(h:H p=some (.lst xs)):
  ∃(its:Ae)(n:Nat),Vals xs its/\s.heap.get? p=some {cls:=.type "list",data:=.seq its.toArray n}/\xs.length<=sizeLine:=by
 obtain⟨z,its,n,r,e⟩:=I.hok p _ h;exact⟨its,n,r,e,z⟩
def Inv.lstUpd{pins:Ba}{σ:St}{H:Hp}{s:Shared}{p:Addr}{xs ys:List V}{its its':Ae}{n n':Nat}{f:Obj->Obj}(I:Inv X pins σ H s)(h:H p=some (.lst xs))
  (ho:s.heap.get? p=some {cls:=.type "list",data:=.seq its.toArray n}) (hf:f {cls:=.type "list",data:=.seq its.toArray n}={cls:=.type "list",data:=.seq its'.toArray n'}) (r:Vals ys its') (hz:ys.length<=sizeLine) (t:Nat):
  Inv X pins σ (upd H p (.lst ys)) {s with heap:=s.heap.update p f,toks:=t}:=by
 have e:(s.heap.update p f).get? p=some {cls:=.type "list",data:=.seq its'.toArray n'}:=by rw [Heap.get?_update_self f ho (by rw [hf]<;>rfl),hf]
 refine I.write (x:=p) (e:=p) (by rw [h];trivial) (.inl rfl) (λb u hb q=>(Heap.get?_update_other _ _ (Ne.symm hb)).trans q) ⟨_,e⟩ ?_;exact⟨hz,its',n',r,e⟩
def rSetL:V->V->V->Hp->(Hp->Prop)->Prop:=λo i v H Q=> ∃p xs k j,o=.ref p/\i=.int k/\H p=some (.lst xs)/\ixN xs.length k=some j/\Q (upd H p (.lst (xs.set j v)))
def set_list:PSet X rSetL:=by
 intro pins s σ H o i v ov iv u Q I ro ri rv h;obtain⟨p,xs,k,j,rfl,rfl,hp,hj,q⟩:=h;cases ro;obtain⟨t,rfl⟩:=ri;obtain⟨its,n,r,ho,hz⟩:=I.lst hp;obtain⟨h1,h2,h3,h4⟩:=zVI hj;have hl:=r.length;have hn:=zEP
 have I':Inv X pins σ (upd H p (.lst (xs.set j v))) {s with heap:=s.heap.update p (Obj.mapSeq (·.setIfInBounds j u))}:=
  I.lstUpd hp ho (zTK its n j u) (r.set rv j) (by rw [length_set];exact hz) s.toks
 by_cases h0:0<=k
 ·have hk:k.toNat=j:=by rw [seqIndex_of h0 h4]at h1;exact Option.some.inj h1
  exact PySem.W.ki_setAt ho h0 (by omega) (by rw [sA, <-hl];exact h4) (by rw [hk];exact⟨_,I',q⟩)
 ·have hk:(k+(its.toArray.size:Int)).toNat=j:=by rw [seqIndex_neg (by omega) h3]at h1;rw [sA, <-hl];exact Option.some.inj h1
  exact PySem.W.ki_setBack ho (by omega) (by rw [sA, <-hl];exact h3) (by omega) (by rw [hk];exact⟨_,I',q⟩)
def zNY(lo hi:Bc)(n:Nat):(sliceBounds lo hi none n).1=((HT.sIx n 0 lo:Nat):Int)/\(sliceBounds lo hi none n).2.1=((HT.sIx n n hi:Nat):Int)/\(sliceBounds lo hi none n).2.2=1:=by
 refine⟨?_,?_,rfl⟩
 ·cases lo with
  |none=>simp [sliceBounds,HT.sIx]
  |some i=>
   simp only [sliceBounds,HT.sIx,Option.getD_none,show(1:Int)>0 by decide,if_true];by_cases h:i<0
   ·simp only [h,if_true]<;>omega
   ·simp only [h,iF]<;>omega
 ·cases hi with
  |none=>simp [sliceBounds,HT.sIx]
  |some i=>
   simp only [sliceBounds,HT.sIx,Option.getD_none,show(1:Int)>0 by decide,if_true];by_cases h:i<0
   ·simp only [h,if_true]<;>omega
   ·simp only [h,iF]<;>omega
theorem zLK(its:Ae)(lo hi:Bc):slicePick its.toArray lo hi none=((its.drop (HT.sIx its.length 0 lo)).take (HT.sIx its.length its.length hi - HT.sIx its.length 0 lo)).toArray:=by obtain⟨h1,h2,h3⟩:=zNY lo hi its.toArray.size;unfold slicePick;rw [h1,h2,h3];simp only [sliceRange_one,pick_run,sA]<;>rfl
def rSlL(K:Be):V->Option Int->Option Int->Hp->VK->Prop:=λx lo hi H Q=> ∃a xs,x=.ref a/\SqL K H a xs/\ ∀p,H p=none->Q (.ref p) (upd H p (.lst (zQO xs lo hi)))
def yFL:SlR X (rSlL X.K):=by intro pins s σ H x v vl vu lo hi sl Q I rx hs pl pu h;obtain⟨a,xs,rfl,hx,q⟩:=h;cases rx;obtain⟨its,r,ht,hz⟩:=I.list hx;have hlen:=r.length;refine⟨"list",_,slot_list_getitem.lookup,ht.isList.typeIs,?_⟩;refine wpAny_getItem_list_slice ht.isList hs pl pu .none (by simp) ?_ (by rw [sA]<;>omega);rw [zLK, <-hlen];refine⟨.ref s.heap.objs.size,_,I.laid (t':=s.toks) (o:=.lst (zQO xs lo hi)) (λb ob q=>hP0 _ q) (le_refl _) ?_,rfl,q _ (I.hok.fresh (le_refl _))⟩;exact⟨le_trans (zHT xs lo hi) hz,_,0,(r.drop (HT.sIx xs.length 0 lo)).take (HT.sIx xs.length xs.length hi - HT.sIx xs.length 0 lo),Heap.get?_push_size _ rfl⟩
def wF:V->Bool
 |.non=>true
 |.bl _=>true
 |.int _=>true
 |.str _=>true
 |_=>false
def eqV:V->V->Bool
 |.non,.non=>true
 |.bl a,.bl b=>a==b
 |.bl a,.int b=>(if a then 1 else 0)==b
 |.int a,.bl b=>a==(if b then 1 else 0)
 |.int a,.int b=>a==b
 |.str a,.str b=>a==b
 |_,_=>false
def yKQ{A:Around}{s:Shared}{y x:V}{u v:Value}(ry:RelV y u)(rx:RelV x v)(fy:wF y=true)(fx:wF x=true):SeqAt.EqAt A s u v (eqV y x):=by
 cases y with
 |non=>
  cases ry
  cases x with
  |non=>cases rx;exact SeqAt.EqAt.same _
  |bl b=>cases rx;exact SeqAt.EqAt.none_bool b
  |int b=>obtain⟨t,rfl⟩:=rx;exact SeqAt.EqAt.none_int b t
  |str b=>obtain⟨t,rfl⟩:=rx;exact SeqAt.EqAt.none_str b t
  |_=>exact absurd (show false=true from fx) xF0
 |bl a=>
  cases ry
  cases x with
  |non=>cases rx;exact SeqAt.EqAt.bool_none a
  |bl b=>cases rx;exact SeqAt.EqAt.bool_bool a b
  |int b=>obtain⟨t,rfl⟩:=rx;exact SeqAt.EqAt.bool_int a b t
  |str b=>obtain⟨t,rfl⟩:=rx;exact SeqAt.EqAt.bool_str a b t
  |_=>exact absurd (show false=true from fx) xF0
 |int a=>
  obtain⟨t',rfl⟩:=ry
  cases x with
  |non=>cases rx;exact SeqAt.EqAt.int_none a t'
  |bl b=>cases rx;exact SeqAt.EqAt.int_bool a t' b
  |int b=>obtain⟨t,rfl⟩:=rx;exact SeqAt.EqAt.int_int a t' b t
  |str b=>obtain⟨t,rfl⟩:=rx;exact SeqAt.EqAt.int_str a t' b t
  |_=>exact absurd (show false=true from fx) xF0
 |str a=>
  obtain⟨t',rfl⟩:=ry
  cases x with
  |non=>cases rx;exact SeqAt.EqAt.str_none a t'
  |bl b=>cases rx;exact SeqAt.EqAt.str_bool a t' b
  |int b=>obtain⟨t,rfl⟩:=rx;exact SeqAt.EqAt.str_int a t' b t
  |str b=>obtain⟨t,rfl⟩:=rx;exact SeqAt.EqAt.str_str a t' b t
  |_=>exact absurd (show false=true from fx) xF0
 |_=>exact absurd (show false=true from fy) xF0
def zNZ:CallR X (.builtin "len") (λxs H Q=> ∃p ys,xs=[.ref p]/\(SqL X.K H p ys\/SqT X.K H p ys)/\Q (.int ys.length) H):=by
 intro pins s σ H xs us Q I r h;obtain⟨p,ys,rfl,hq,q⟩:=h;obtain⟨u,rfl,rx⟩:=vals1 r;cases rx;have hn:=zEP;rcases hq with hq|hq
 ·obtain⟨its,r',pl,hz⟩:=I.list hq;have hlen:=r'.length;exact Calls.call_len_list pl.isList (by simp only [sA]<;>omega) ⟨.int ys.length,H,I.tok _,⟨s.toks+1,by rw [sA,hlen]⟩,q⟩
 ·obtain⟨its,r',pl,hz⟩:=I.tuple hq;have hlen:=r'.length;exact len_tuple pl (by simp only [sA]<;>omega) ⟨.int ys.length,H,I.tok _,⟨s.toks+1,by rw [sA,hlen]⟩,q⟩
def zOA:CallR X (.builtin "len") (λxs H Q=> ∃z,xs=[.str z]/\z.length<=sizeLine/\Q (.int z.length) H):=by intro pins s σ H xs us Q I r h;obtain⟨z,rfl,hz,q⟩:=h;obtain⟨u,rfl,t,rfl⟩:=vals1 r;have hn:=zEP;exact len_str (by omega) ⟨.int z.length,H,I.tok _,⟨_,rfl⟩,q⟩
def CallR.or{f:Value}{r r':List V->Hp->VK->Prop}(h:CallR X f r)(h':CallR X f r'):CallR X f (λxs H Q=>r xs H Q\/r' xs H Q):=by
 intro pins s σ H xs us Q I rs q;rcases q with q|q
 ·exact h pins s σ H xs us Q I rs q
 ·exact h' pins s σ H xs us Q I rs q
def zAC:CallR X (.type "tuple") (λxs H Q=> ∃p ys,xs=[.ref p]/\((SqL X.K H p ys/\ ∀l,H l=none->Q (.ref l) (upd H l (.tup ys)))\/(SqT X.K H p ys/\Q (.ref p) H))):=by
 intro pins s σ H xs us Q I r h;obtain⟨p,ys,rfl,h⟩:=h;obtain⟨u,rfl,rx⟩:=vals1 r;cases rx;rcases h with⟨hq,q⟩|⟨hq,q⟩
 ·obtain⟨its,r',pl,hz⟩:=I.list hq;have hlen:=r'.length;refine call_tuple_list pl.isList (λh' kp=>?_) (by simp only [sA]<;>omega);have I1:Inv X pins σ H {s with heap:=h'}:=I.kept (t':=s.toks) kp
  have I2:Inv X pins σ (upd H h'.objs.size (.tup ys)) {s with heap:=h'.push {cls:=.type "tuple",data:=.seq its.toArray}}:=
   I1.laid (t':=s.toks) (λb o e=>hP0 _ e) (le_refl _) (show ObjOk X.prog X.w _ _ _ (.tup ys)from⟨hz,its,r',IsTup.new _ _⟩)
  exact⟨.ref h'.objs.size,_,I2,rfl,q _ (I1.hok.fresh (le_refl _))⟩
 ·obtain⟨its,r',pl,hz⟩:=I.tuple hq;exact call_tuple_same pl ⟨.ref p,H,I,rfl,q⟩
def tyV(K:Be)(T:String)(x:V)(H:Hp):Prop:=match x with
 |.str _=>T="str"
 |.int _=>T="int"
 |.ref p=>(T="list"/\ ∃xs,SqL K H p xs)\/(T="tuple"/\ ∃o,K.lookup p=some o/\o.cls=.type "tuple"/\o.dict=none)\/
   (T="dict"/\((∃kvs,H p=some (.dK kvs))\/ ∃kvs,H p=some (.dT kvs)))\/(T="set"/\ ∃S n,H p=some (.set S n))
 |_=>False
def yAI{pins:Ba}{σ:St}{H:Hp}{s:Shared}{T:String}{x:V}{v:Value}(I:Inv X pins σ H s)(r:RelV x v)(ty:tyV X.K T x H):
  s.TypeIs v T/\ ∀a,v=.ref a-> ∃ob,s.heap.get? a=some ob/\ob.dict=none:=by
 cases x with
 |str z=>
  obtain⟨t,rfl⟩:=r;cases (show T="str" from ty);exact⟨typeIs_str s z t,λ_ e=>nomatch e⟩
 |int i=>
  obtain⟨t,rfl⟩:=r;cases (show T="int" from ty);exact⟨typeIs_int s i t,λ_ e=>nomatch e⟩
 |ref p=>
  cases r;rcases ty with⟨rfl,xs,hq⟩|⟨rfl,o,hk,hc,hd⟩|⟨rfl,hk⟩|⟨rfl,S,n,hk⟩
  ·obtain⟨its,_,pl,_⟩:=I.list hq;refine⟨pl.isList.typeIs,λa e=>?_⟩;cases e;obtain⟨o,n,e,c,hd,_⟩:=pl;exact⟨o,e,hd⟩
  ·refine⟨⟨o,I.kIn p o hk,hc⟩,λa e=>?_⟩;cases e;exact⟨o,I.kIn _ o hk,hd⟩
  ·have z: ∃o,s.heap.get? p=some o/\o.ExactDict:=by
    rcases hk with⟨kvs,hk⟩|⟨kvs,hk⟩
    ·obtain⟨_,_,_,_,o,_,_,e,ex,_⟩:=I.hok p _ hk;exact⟨o,e,ex⟩
    ·obtain⟨_,_,_,_,o,_,_,e,ex,_⟩:=I.hok p _ hk;exact⟨o,e,ex⟩
   obtain⟨o,e,ex⟩:=z;refine⟨⟨o,e,ex.1⟩,λa e2=>?_⟩;cases e2;exact⟨o,e,ex.2.1⟩
  ·obtain⟨o,_,_,_,e,ex,_⟩:=I.hok p _ hk;refine⟨⟨o,e,ex.1⟩,λa e2=>?_⟩;cases e2;exact⟨o,e,ex.2.1⟩
 |_=>exact False.elim ty
def tBM0(K:Be)(T:String)(r:V->List V->Hp->VK->Prop)(to:TE):TE:=λσ H Q=>to σ H λx H1=>tyV K T x H1/\r x [] H1 Q
def tBM(K:Be)(T:String)(r:V->List V->Hp->VK->Prop)(to:TE)(t:TA):TE:=λσ H Q=>to σ H λx H1=>tyV K T x H1/\t σ H1 λxs H2=>r x xs H2 Q
variable{o e:Expr}{es:Bd}{to:TE}{t:TA}{name:Str}{apos cpos:Pos}{T id:String}{r:V->List V->Hp->VK->Prop}
def yKR(pa:PlainAttrs T)(slot:Slot T name id)(hty:typeOf (.builtin id)=pure (.type "method_descriptor"))(hm:MtR X id r)(ho:PE X o to)
  (hbase:attributeBase o name X.env (eval o X.env)=eval o X.env:=by rfl) (hline:(apos.endLine==cpos.line)=true:=by rfl):PE X (.Call (.Attribute o name apos) [] [] cpos) (tBM0 X.K T r to):=by
 intro pins s σ H Q I h;refine wpAny_Call_method0_late hbase hline (thn (ho pins s σ H _ I h) λv s1 ⟨x,H1,I1,r1,ty,q1⟩=>?_);obtain⟨h1,h2⟩:=yAI I1 r1 ty;exact⟨T,id,pa,slot,hty,h1,h2,Calls.callWith_builtin rfl (PySem.evalArgs_none (hm pins s1 σ H1 x [] v [] Q I1 r1 .nil q1))⟩
def pe_bm(pa:PlainAttrs T)(slot:Slot T name id)(hty:typeOf (.builtin id)=pure (.type "method_descriptor"))(hm:MtR X id r)(ho:PE X o to)(ha:PA X (e::es) t)
  (hbase:attributeBase o name X.env (eval o X.env)=eval o X.env:=by rfl)
  (hfew:((backTo cpos (starEach (e::es) X.env)).all (λx=>!x.1)&&(backToKw cpos (keywordEach [] X.env)).all (λx=>x.1.isSome)
   &&decide ((e::es).length+([]:List Keyword).length+(if([]:List Keyword).isEmpty then 0 else 1)<30))=true:=by rfl)
  (hline:(apos.endLine==cpos.line)=true:=by rfl) (hs:starEach (e::es) X.env=(false,eval e X.env)::starEach es X.env:=by rfl) (hplain:(backTo cpos (starEach es X.env)).any (·.1)=false:=by rfl):
  PE X (.Call (.Attribute o name apos) (e::es) [] cpos) (tBM X.K T r to t):=by
 intro pins s σ H Q I h;refine wpAny_Call_method_late hbase hfew hline rfl (thn (ho pins s σ H _ I h) λv s1 ⟨x,H1,I1,r1,ty,q1⟩=>?_);obtain⟨h1,h2⟩:=yAI I1 r1 ty;refine⟨T,id,pa,slot,hty,h1,h2,?_⟩;have hA:=ha cpos pins s1 σ H1 _ I1 q1;rw [hs]at hA ⊢;refine Calls.callWith_builtin (by show(false || (backTo cpos (starEach es X.env)).any (·.1))=false;rw [hplain]<;>rfl) (Calls.evalArgs_plain ?_);exact thn hA λus s2 ⟨vs,H2,I2,r2,q2⟩=>hm pins s2 σ H2 x vs v us Q I2 r1 r2 q2
end
def MtM(X:Cx)(id:String)(r:V->List V->Hp->VK->Prop):Prop:=
 ∀(pins:Ba)(s:Shared)(σ:St)(H:Hp)(x:V)(xs:List V)(v:Value)(us:Ae)(Q:VK),Inv X pins σ H s->RelV x v->Vals xs us->r x xs H Q->
  wpAny (model X.prog X.w) X.A (call (.builtin id) (v::us)) (EP X pins σ Q) X.xe s
def Vals.one: ∀{x:V}{us:Ae},Vals [x] us-> ∃u,us=[u]/\RelV x u
 |_,_,.cons r .nil=>⟨_,rfl,r⟩
theorem Vals.zero: ∀{us:Ae},Vals [] us->us=[]
 |_,.nil=>rfl
theorem Vals.eraseIdx: ∀{xs:List V}{us:Ae}(i:Nat),Vals xs us->Vals (xs.eraseIdx i) (us.eraseIdx i)
 |_,_,_,.nil=>.nil
 |_,_,0,.cons _ t=>t
 |_,_,i+1,.cons r t=>.cons r (Vals.eraseIdx i t)
def Vals.reverse{xs:List V}{us:Ae}(h:Vals xs us):Vals xs.reverse us.reverse:=by
 induction h with
 |nil=>exact .nil
 |cons r t ih=>rw [reverse_cons,reverse_cons];exact Vals.append ih (.cons r .nil)
theorem Vals.rep{xs:List V}{us:Ae}(h:Vals xs us): ∀k:Nat,Vals (List.replicate k xs).flatten (List.replicate k us).flatten
 |0=>.nil
 |k+1=>by rw [replicate_succ,replicate_succ,flatten_cons,flatten_cons];exact Vals.append h (Vals.rep h k)
theorem zMK{α:Type}: ∀(l:List α)(i:Nat),(l.eraseIdx i).length<=l.length
 |[],_=>le_refl _
 |_::_,0=>le_succ _
 |_::r,i+1=>Nat.succ_le_succ (zMK r i)
theorem foldl_rep(its:Ae): ∀(k:Nat)(acc:Ae),
  List.foldl (λx1 x2=>x1++x2) acc.toArray (List.replicate k its.toArray)=(acc++(List.replicate k its).flatten).toArray
 |0,acc=>by simp
 |k+1,acc=>by
  have e:acc.toArray++its.toArray=(acc++its).toArray:=by simp
  have e2:(acc++its)++(List.replicate k its).flatten=acc++(List.replicate (k+1) its).flatten:=by rw [replicate_succ,flatten_cons,aA]
  rw [<-e2, <-foldl_rep its k (acc++its), <-e,replicate_succ,foldl_cons]
section
variable{X:Cx}{pins:Ba}{σ:St}{H:Hp}{s:Shared}{l b:Addr}{xs ys zs:List V}
def Inv.lset{its its':Ae}{n:Nat}{f:Array Value->Array Value}{t':Nat}(I:Inv X pins σ H s)(hH:H l=some (.lst xs))
  (e:s.heap.get? l=some {cls:=.type "list",data:=.seq its.toArray n}) (hf:f its.toArray=its'.toArray) (hv:Vals ys its') (hz:ys.length<=sizeLine):
  Inv X pins σ (upd H l (.lst ys)) {s with heap:=s.heap.update l (Obj.mapSeq f),toks:=t'}:=by
 have q:=PySem.IsL.update e f;rw [hf]at q;refine I.write (x:=l) (e:=l) (by rw [hH];exact trivial) (.inl rfl) (λb' u hb hu=>(Heap.get?_update_other s.heap (Obj.mapSeq f) (Ne.symm hb)).trans hu) ⟨_,q⟩ ?_;exact⟨hz,its',_,hv,q⟩
def Inv.lnew{its:Ae}{t':Nat}(I:Inv X pins σ H s)(hv:Vals ys its)(hz:ys.length<=sizeLine):
  Inv X pins σ (upd H s.heap.objs.size (.lst ys)) {s with heap:=s.heap.push {cls:=.type "list",data:=.seq its.toArray},toks:=t'}:=
 I.laid (λ_ _ q=>hP0 _ q) (le_refl _) ⟨hz,its,0,hv,Heap.get?_push_size _ rfl⟩
def Inv.fresh(I:Inv X pins σ H s):H s.heap.objs.size=none:=I.hok.fresh (le_refl _)
def Inv.lstM(I:Inv X pins σ H s)(hH:H l=some (.lst xs)):xs.length<=sizeLine/\ ∃(its:Ae)(n:Nat),Vals xs its/\xs.length=its.length/\s.heap.get? l=some {cls:=.type "list",data:=.seq its.toArray n}:=by obtain⟨z,its,n,r,e⟩:=I.hok l _ hH;exact⟨z,its,n,r,r.length,e⟩
def zQP{n:Nat}(h:n<=sizeLine):Builtin.List.listTooLong n=false:=by unfold Builtin.List.listTooLong;exact dF0 (by omega)
end
section
variable{X:Cx}
def zVJ:V->List V->Hp->VK->Prop:=λx vs H Q=> ∃l xs y,x=.ref l/\vs=[y]/\H l=some (.lst xs)/\xs.length<sizeLine/\Q .non (upd H l (.lst (xs++[y])))
def zYC:MtM X "list.append" zVJ:=by intro pins s σ H x vs v us Q I rx rv h;obtain⟨l,xs,y,rfl,rfl,hH,hz,q⟩:=h;cases rx;obtain⟨u,rfl,ru⟩:=rv.one;obtain⟨z,its,n,r,hl,e⟩:=I.lstM hH;refine call_meets F.slot_list_append ⟨_,e,rfl⟩ F.entry_list_append (F.args_list_append_2 _ _) (PySem.list_append l its.toArray n u (by rw [sA];omega)) ⟨e,?_⟩;refine⟨.non,_,I.lset (its':=its++[u]) hH e (by simp) (r.append (.cons ru .nil)) ?_,rfl,q⟩;rw [lA,lS];omega
def zVK:V->List V->Hp->VK->Prop:=λx vs H Q=> ∃l b xs zs,x=.ref l/\vs=[.ref b]/\H l=some (.lst xs)/\H b=some (.lst zs)/\xs.length+zs.length<=sizeLine/\Q .non (upd H l (.lst (xs++zs)))
def zYD:MtM X "list.extend" zVK:=by
 intro pins s σ H x vs v us Q I rx rv h;obtain⟨l,b,xs,zs,rfl,rfl,hH,hB,hz,q⟩:=h;cases rx;obtain⟨u,rfl,ru⟩:=rv.one;cases ru;obtain⟨z,its,n,r,hl,e⟩:=I.lstM hH;obtain⟨z2,its2,n2,r2,hl2,e2⟩:=I.lstM hB;have hsz:its.toArray.size+its2.toArray.size<=sizeLine:=by rw [sA,sA];omega
 have hlong: ¬(!its.toArray.isEmpty&&Builtin.List.listTooLong (its.toArray.size+its2.toArray.size))=true:=by rw [zQP hsz,Bool.and_false];exact xF0
 refine call_meets F.slot_list_extend ⟨_,e,rfl⟩ F.entry_list_extend (F.args_list_extend_2 _ _)
  (AutoSeq1.list_extend_list_list_0 l its.toArray n b its2.toArray n2 hlong (by rw [sA];omega) (by omega)) ⟨e,e2,?_⟩
 refine⟨.non,_,I.lset (its':=its++its2) hH e (by simp) (r.append r2) ?_,rfl,q⟩;rw [lA];omega
def rCat:R2:=λx y H Q=> ∃l b xs zs,x=.ref l/\y=.ref b/\H l=some (.lst xs)/\H b=some (.lst zs)/\xs.length+zs.length<=sizeLine/\ ∀p,H p=none->Q (.ref p) (upd H p (.lst (xs++zs)))
def yKS:OpR X (binaryOp .Add) rCat:=by
 intro pins s σ H x y v u Q I rx ry h;obtain⟨l,b,xs,zs,rfl,rfl,hH,hB,hz,q⟩:=h;cases rx;cases ry;obtain⟨z,its,n,r,hl,e⟩:=I.lstM hH;obtain⟨z2,its2,n2,r2,hl2,e2⟩:=I.lstM hB;refine PySem.P.add_list e e2 ?_ (by rw [sA,sA];omega);have ea:its.toArray++its2.toArray=(its++its2).toArray:=by simp
 rw [ea];exact⟨.ref _,_,I.lnew (t':=s.toks) (r.append r2) (by rw [lA];omega),rfl,q _ I.fresh⟩
def rRep:R2:=λx y H Q=> ∃l k xs,x=.ref l/\y=.int k/\H l=some (.lst xs)/\ -(2 ^ 63)<=k/\k<2 ^ 63/\xs.length * k.toNat<=sizeLine/\
 ∀p,H p=none->Q (.ref p) (upd H p (.lst (List.replicate k.toNat xs).flatten))
def len_rep{α:Type}(xs:List α)(k:Nat):(List.replicate k xs).flatten.length=k * xs.length:=by
 induction k with
 |zero=>simp
 |succ k ih=>rw [replicate_succ,flatten_cons,lA,ih,Nat.succ_mul,Nat.add_comm]
def yKT:OpR X (binaryOp .Mult) rRep:=by
 intro pins s σ H x y v u Q I rx ry h;obtain⟨l,k,xs,rfl,rfl,hH,h1,h2,hz,q⟩:=h;cases rx;obtain⟨t,rfl⟩:=ry;obtain⟨z,its,n,r,hl,e⟩:=I.lstM hH;have hlen:its.toArray.size * k.toNat<=sizeLine:=by rw [sA, <-hl];exact hz
 have hcap: ¬its.toArray.size * k.toNat>(2 ^ 63 - 1) / 8:=by
  have:(sizeLine:Nat)<=(2 ^ 63 - 1) / 8:=by decide
  omega
 have hfit: ¬(!Builtin.List.listFitsIndex k)=true:=by rw [fitsIndex_both h1 h2];exact xF0
 have hlong: ¬Builtin.List.listTooLong (its.toArray.size * k.toNat)=true:=by rw [zQP hlen];exact xF0
 have hnew:List.foldl (λx1 x2=>x1++x2) #[] (List.replicate (if its.toArray.isEmpty=true then 0 else k.toNat) its.toArray)=(List.replicate k.toNat its).flatten.toArray:=by
  have f0: ∀m:Nat,List.foldl (λx1 x2=>x1++x2) #[] (List.replicate m its.toArray)=(List.replicate m its).flatten.toArray:=λm=>by have:=foldl_rep its m [];rw [nil_append]at this;exact this
  rw [f0]
  cases its with
  |nil=>simp
  |cons a r'=>rw [iN (by simp)]
 refine wpAny_binaryOp_repeat_ref (T:="list") (U:="int") (by decide) ⟨_,e,rfl⟩ (λs'=>typeIs_int s' k t) noFill_list_mul F.fills_int_mul F.slot_int_rmul repeat_list F.slot_int_index.lookup
  (call_meets F.slot_int_rmul (typeIs_int s k t) F.entry_int_rmul (F.args_int_rmul_2 _ _) (int___rmul___int_list k t l its.toArray n)
   ⟨e,rfl,⟨_,e,rfl⟩,call_meets F.slot_list_mul ⟨_,e,rfl⟩ F.entry_list_mul (F.args_list_mul_2 _ _) (AutoListH.list___mul___list_int_3 l its.toArray n k t hfit hcap hlong) ⟨e,?_⟩⟩)
 rw [hnew];exact⟨.ref _,_,I.lnew (t':=s.toks) (r.rep k.toNat) (by rw [len_rep,Nat.mul_comm];exact hz),rfl,q _ I.fresh⟩
end
end L2
namespace Att
open PySem PySem.W PySem.Calls PyProof.Rows
def zII{P:Params}{h:Heap}: ∀(ns:Ad)(vs:Ae),WellAll P h vs (ns.map WData.int)->IntsAre vs ns:=by
 intro ns
 induction ns with
 |nil=>
  intro vs w;rw [map_nil]at w;cases w;exact .nil
 |cons n ns ih=>
  intro vs w;rw [map_cons]at w
  cases w with
  |cons a b=>
   cases a;exact .cons _ _ (ih _ b)
def zYE{l:OpenLaw}{n:Nat}(hn:l.most=some n){P:Params}{h:Heap}{args:List WData}{vals:Ae}
  (hpre:l.row.toRowW.claim.pre args=true) (hwl:WellAll P h vals args):
  ∃a vs ns,vals=[Value.ref a]/\args=[WData.list (ns.map WData.int)]/\h.get? a=some {cls:=.type "list",data:=.seq vs.toArray}/\IntsAre vs ns/\ns.length<=n:=by
 have hsh:WShape.hasAll [] args [.list .int]=true:=(pre_splitW hpre).1;have hc:l.pre.holds [] {args:=args}=true:=(pre_splitW hpre).2;obtain⟨d,r,rfl,h1,h2⟩:=hasAllW_cons hsh;obtain rfl:=hasAllW_nil h2;obtain⟨xs,rfl,h3⟩:=hasW_list h1;obtain⟨ns,rfl⟩:=items_int h3
 have hlen:ns.length<=n:=by
  unfold OpenLaw.pre at hc;have h4:(WTm.not (.lt (.lit (.int (n:Int))) (.len (.arg 0)))).holds [] {args:=[.list (ns.map .int)]}=true:=by have h4:=(holds_andW hc).1;rw [hn]at h4;exact h4
  have h5:=condW_of h4 (w_not (w_lt w_lit (w_len_list (w_arg rfl))));rw [lM]at h5;refine Nat.le_of_not_lt λq=>?_;have q':(n:Int)<((ns.length:Nat):Int):=by omega
  first
   |(rw [dT0 q']at h5;exact absurd h5 (by decide))
   |(simp at h5;omega)
 cases hwl with
 |cons w1 w2=>
  cases w2
  cases w1 with
  |list ho hall=>exact⟨_,_,ns,rfl,rfl,ho,zII ns _ hall,hlen⟩
theorem zYF(l:OpenLaw)(args:List WData):l.row.toRowW.claim.post args (.bool true) args=true:=
 postW_of (r:=l.row.toRowW) (X:=(true==true))
  (show WShape.has [] (.bool true) .bool=true by first |rfl|decide|simp [WShape.has,WShape.arms,WShape.armsAll])
  (show(WTm.eq .res (.lit (.bool true))).value [] {args:=args,res:=some (.bool true),after:=args}=some (.bool (true==true))from w_eq_bool (w_res rfl) w_lit) rfl
def attach_call{l:OpenLaw}{n:Nat}{q:Program}{loose:Ai}{XP:(Str->Option Value)->Heap->Prop}{YP:World->Heap->Prop}{d:DefRec}
  (hn:l.most=some n) (hdf:d.params.defaults=[])
  (call: ∀(w:World)(s₀ s₁:Shared)(mg mb:Aj)(fa:Addr)(o:Obj)(pm cd doc:Value)(a:Addr)(vs:Ae)(ns:Ad),
   Ground q loose [] XP w s₀ mg mb s₁.heap->YP w s₁.heap->
   s₁.heap.get? fa=some o->o.data=.func (docDef d.name d.params d.body d.scope pm cd doc)->s₁.heap.CodeRec cd d.name->mg d.name=some (.ref fa)->
   s₁.heap.get? a=some {cls:=.type "list",data:=.seq vs.toArray}->IntsAre vs ns->ns.length<=n->s₁.gens=#[]->
   codeAny (model l.prog w) callerA (.call (.ref fa) ⟨[.ref a],[]⟩) (λr s'=>r=.ok (.ret (.bool true))/\OldK s₁.heap s'.heap/\s'.os=s₁.os/\AllBare s'.gens) s₁):
  WalkO q loose XP YP l.row.toRowW d [] (λf vs=>PySem.call f vs):=by
 intro w s₀ s₁ mg mb G Y fa o pm cd doc dV kV ho hd hcd hD hmg hg args vals as hpre hlay hrd hwl hlo;obtain rfl:dV=.none:=Dflts.none hD hdf;obtain rfl:kV=.none:=Dflts.noKw hD;obtain⟨a,vs,ns,rfl,rfl,hobj,hints,hlen⟩:=zYE hn hpre hwl;refine enter_call (codeAny_mono (call w s₀ s₁ mg mb fa o pm cd doc a vs ns G Y ho (fd_plain hd) hcd hmg hobj hints hlen hg) λr s' hq=>?_);obtain⟨rfl,h2,h3,h4⟩:=hq;exact⟨.inl ⟨.bool true,.bool true,[],rfl,λ_=>rfl,.bool true,zYF l _,λ_=>⟨List.Pairwise.nil,λ_ hm=>(nomatch hm)⟩⟩,h2,h3,h4⟩
end Att
namespace L2
open PySem PySem.Spec PyProof.Rows
theorem zML: ∀{vs:Ae}{ns:Ad},IntsAre vs ns->Vals (ns.map V.int) vs
 |_,_,.nil=>.nil
 |_,_,.cons n t h=>.cons ⟨t,rfl⟩ (zML h)
def yAJ(H:Hp):Prop:= ∀b,H b=none\/ ∃o xs,H b=some (.frz o (.lst xs))
def yAK{P:Program}{w:World}{K:Be}{mg mb:Aj}{CX:CXT}{k:Nat}{fa a:Addr}{fd:FuncData}{x:Str}{sp:Sp}{s₁:Shared}{vs:Ae}{ns:Ad}
  (KX:K.In s₁.heap) (hns:s₁.heap.Ns mainGlobals mg) (hb:s₁.heap.Ns builtinsNs mb) (hbb: ∀x:Str,x≠"__name__"->mb x=bootBuiltins x) (hlim:s₁.heap.NoLimit) (hg:s₁.gens=#[])
  (ha:s₁.heap.get? a=some {cls:=.type "list",data:=.seq vs.toArray}) (hi:IntsAre vs ns) (hl:ns.length<=sizeLine) (hr:Room k callerA)
  (F: ∀base:Heap,K.In base->base.Ns mainGlobals mg->FnOk P w K mg base CX k fa fd [x] sp) (hbind: ∀(s:Shared)(u:Value),BindsTo s fd ⟨[u],[]⟩ [(x,u)])
  (hsp: ∀H:Hp,yAJ H->SqL K H a (ns.map V.int)->sp [.ref a] H (λv _=>v=.bl true) λ_ _ _=>False)
  (hCX: ∀H e s',CX [] H s₁ (λ_ _ _=>False) e s'->False):
  codeAny (model P w) callerA (.call (.ref fa) ⟨[.ref a],[]⟩) (λr s'=>r=.ok (.ret (.bool true))/\OldK s₁.heap s'.heap/\s'.os=s₁.os/\AllBare s'.gens) s₁:=by
 have rv:=zML hi;have lenV:=hi.length
 have core: ∀H:Hp,yAJ H->SqL K H a (ns.map V.int)->HOk P w H s₁.heap->(∀b,H b≠none->b=a)->(H a≠none->K.lookup a=none)->
   codeAny (model P w) callerA (.call (.ref fa) ⟨[.ref a],[]⟩) (λr s'=>r=.ok (.ret (.bool true))/\OldK s₁.heap s'.heap/\s'.os=s₁.os/\AllBare s'.gens) s₁:=by
  intro H hO hS hok hA hK;have base_of: ∀{b:Addr}{o:Obj},s₁.heap.get? b=some o->H b=none->(zNS s₁.heap H).get? b=some o:=λe n=>zZU e n
  have noA: ∀{b:Addr}{o:Obj}{es:Array DictEntry}{ep:Nat},s₁.heap.get? b=some o->o.data=.dict es ep->H b=none:=λ{b o es ep} e d=>by
   cases q:H b with
   |none=>rfl
   |some u=>
    have e':b=a:=hA b (by rw [q];simp);subst e';rw [ha]at e;cases e;have d':Data.seq vs.toArray _=Data.dict es ep:=d;cases d'
  have nsK: ∀{b:Addr}{m:Aj},s₁.heap.Ns b m->(zNS s₁.heap H).Ns b m:=λ{b m} ⟨o,es,ep,e,d,r⟩=>⟨o,es,ep,base_of e (noA e d),d,r⟩
  have hKb:K.In (zNS s₁.heap H):=λb o e=>base_of (KX b o e) (by
   cases q:H b with
   |none=>rfl
   |some u=>
    have e':b=a:=hA b (by rw [q];simp);subst e';rw [hK (by rw [q];simp)]at e;cases e)
  have hM:Mod K mg (zNS s₁.heap H):=⟨hKb,nsK hns,⟨mb,nsK hb,hbb⟩,let ⟨mc,h1,h2⟩:=hlim;⟨mc,nsK h1,h2⟩⟩
  have e0:Env0 P w K mg (zNS s₁.heap H) callerA [] s₁ H:=⟨rfl,hM,λb o e=>yEU e,Nat.le_of_eq (zXW _ _),trivial,λb hb=>absurd (show b∈([]:Ah)from hb) (by simp),hok,.of_eq hg⟩
  refine codeAny_mono ((F _ hKb (nsK hns)).run callerA [] s₁ H ⟨[.ref a],[]⟩ [.ref a] [.ref a] _ _ hr e0 (hbind s₁ (.ref a)) (.cons rfl .nil) (hsp H hO hS)) λr s' h=>?_
  cases r with
  |error e=>exact(hCX H e s' h).elim
  |ok fl=>
   cases fl with
   |next=>exact False.elim h
   |brk=>exact False.elim h
   |cont=>exact False.elim h
   |ret u=>
    obtain⟨v,H',os,bare,un,hok',r',q⟩:=h;have q':v=.bl true:=q;subst q';obtain rfl:u=Value.bool true:=r';refine⟨rfl,OldK.of_keep λb o e=>?_,os,bare⟩
    cases q:H b with
    |none=>exact un.keep b o e q (by intro z;exact absurd (show b∈([]:Ah)from z) (by simp)) (by simp)
    |some u=>
     rcases hO b with z|⟨ob,xs,z⟩
     ·rw [q]at z;cases z
     ·have z2:=un.frzs b ob _ z;obtain⟨e1,_⟩:=hok b _ z;obtain⟨e2,_⟩:=hok' b _ z2;rw [e]at e1;cases e1;exact e2
 cases hk:K.lookup a with
 |some o=>
  have e:=KX a o hk;rw [ha]at e;cases e;refine core (λ_=>none) (λ_=>.inl rfl) (.inr ⟨_,vs.toArray,_,hk,rfl,rfl,rfl,by rw [sA,lenV];exact hl,by simpa using rv⟩) (λb u z=>by have z':(none:Option HO)=some u:=z;cases z') (λb z=>absurd rfl z) λz=>absurd rfl z
 |none=>
  refine core (λb=>if b=a then some (.frz {cls:=.type "list",data:=.seq vs.toArray} (.lst (ns.map V.int)))else none) (λb=>?_) (.inl (.inr ⟨{cls:=.type "list",data:=.seq vs.toArray},iP rfl⟩)) (λb u z=>?_) (λb z=>?_) λ_=>hk
  ·by_cases hb:b=a
   ·exact .inr ⟨_,_,iP hb⟩
   ·exact .inl (iN hb)
  ·by_cases hb:b=a
   ·have z':=(iP hb).symm.trans z;cases z';subst hb;exact⟨ha,by rw [lM];exact hl,vs,_,rv,ha⟩
   ·have z':=(iN hb).symm.trans z;cases z'
  ·by_cases hb:b=a
   ·exact hb
   ·exact absurd (iN hb) z
def walk_of{l:PySem.W.OpenLaw}{n k:Nat}{q:Program}{loose:Ai}{XP:(Str->Option Value)->Heap->Prop}{YP:World->Heap->Prop}{d:DefRec}{K:Params->PySem.W.Frag}{CX:World->CXT}{sp:World->Sp}{x:Str}
  (hn:l.most=some n) (hn2:n<=sizeLine) (hdf:d.params.defaults=[]) (hr:Room k callerA)
  (hY: ∀(w:World)(h:Heap),YP w h->(K w.params).In h)
  (F: ∀(w:World)(mg:Aj)(fa:Addr)(h:Heap),(K w.params).In h->h.Ns mainGlobals mg->mg d.name=some (.ref fa)->
   ∃fd:FuncData,(∀(s:Shared)(u:Value),BindsTo s fd ⟨[u],[]⟩ [(x,u)])/\
    ∀base:Heap,(K w.params).In base->base.Ns mainGlobals mg->FnOk l.prog w (K w.params) mg base (CX w) k fa fd [x] (sp w))
  (hsp: ∀(w:World)(H:Hp)(a:Addr)(ns:Ad),ns.length<=n->yAJ H->SqL (K w.params) H a (ns.map V.int)->sp w [.ref a] H (λv _=>v=.bl true) λ_ _ _=>False)
  (hCX: ∀(w:World)(H:Hp)(s:Shared)(e:Value)(s':Shared),CX w [] H s (λ_ _ _=>False) e s'->False):
  PySem.W.WalkO q loose XP YP l.row.toRowW d [] (λf vs=>PySem.call f vs):=by
 refine Att.attach_call hn hdf λw s₀ s₁ mg mb fa o pm cd doc a vs ns G Y ho hd hcd hmg hobj hints hlen hg=>?_;have KX:=hY w _ Y;obtain⟨fd,hb,hF⟩:=F w mg fa _ KX G.T.g hmg;exact yAK KX G.T.g G.T.b G.T.builtins G.T.nolimit hg hobj hints (le_trans hlen hn2) hr hF hb (λH hO hS=>hsp w H a ns hlen hO hS) λH e s'=>hCX w H s₁ e s'
def zAU(s:Stmt):Arguments:=match s with
 |.FunctionDef _ a _ _ _ _ _ _ _ _=>a
 |_=>{posonlyargs:=[],args:=[],vararg:=none,kwonlyargs:=[],kw_defaults:=[],kwarg:=none,defaults:=[]}
def cA(s:Stmt):List Stmt:=match s with
 |.FunctionDef _ _ b _ _ _ _ _ _ _=>b
 |_=>[]
def zI(s:Stmt):Scope:=match s with
 |.FunctionDef _ _ _ _ _ _ sc _ _ _=>sc
 |_=>{kind:=.function,names:=[],isGenerator:=false,isCoroutine:=false}
abbrev CX0:CXT:=λ_ _ _ _ _ _=>False
abbrev E0:XK:=λ_ _ _=>False
def pass0{X:Cx}:zTG CX0 X E0:=λ_ _ _ _ _ _ _ h=>h.elim
structure Fun(K:Be)(x qual:Str)(st:Stmt)(f:Addr)(fd:FuncData):Prop where
 ex: ∃(oc:Value)(od:Option Addr)(kV doc pm:Value)(an:Option Addr)(cdv ct:Value)(osl:Array (Option Value)),
  fd=PySem.W.fnOf x qual (zAU st) (cA st) (zI st) .none kV doc pm an cdv ct/\K.lookup f=some ⟨oc,od,.func fd,osl⟩/\PySem.W.codeIn K cdv qual=true
 kp:PySem.W.keepIn K (.ref f)=true
section
variable{P:Program}{w:World}{K:Be}{mg:Aj}{base:Heap}
def Fun.ok{x qual:Str}{st:Stmt}{f:Addr}{fd:FuncData}{N ps:Ai}{k:Nat}{sp:Sp}(F:Fun K x qual st f fd)(S:FnScope N ps (zI st))(len: ∀vs H Q E,sp vs H Q E->vs.length=ps.length)
  (hbody: ∀(cdv:Value)(A:Around)(outer:List Env)(s:Shared)(H:Hp)(vs:List V)(Q:VK)(E:XK),Room k (A.deeper (envOfC qual (zI st) s.heap.objs.size f cdv))->sp vs H Q E->
   ∃t,PSs (zTH CX0 P w K mg base N qual (zI st) f cdv A outer s H E).nox (cA st) t/\t {nx:=λ_ H'=>Q .non H',rt:=Q} (start N vs) H):FnOk P w K mg base CX0 (k+1) f fd ps sp:=by
 obtain⟨oc,od,kV,doc,pm,an,cdv,ct,osl,rfl,lk,hcd⟩:=F.ex;refine fn_of lk hcd S len λA outer s H vs Q E hr hsp=>?_;obtain⟨t,h,q⟩:=hbody cdv A outer s H vs Q E hr hsp;exact⟨t,h.nox,q⟩
def Fun.binds{x qual:Str}{st:Stmt}{f:Addr}{fd:FuncData}{ps:Ai}(F:Fun K x qual st f fd)
  (h: ∀(kV doc pm:Value)(an:Option Addr)(cdv ct:Value)(us:Ae),us.length=ps.length->bindArgs (PySem.W.fnOf x qual (zAU st) (cA st) (zI st) .none kV doc pm an cdv ct) ⟨us,[]⟩=pure (ps.zip us)):Binds K fd ps []:=by
 obtain⟨oc,od,kV,doc,pm,an,cdv,ct,osl,rfl,lk,hcd⟩:=F.ex;exact .all (h kV doc pm an cdv ct)
def yKU{x qual:Str}{st:Stmt}{f:Addr}{oc:Value}{od an:Option Addr}{osl:Array (Option Value)}{kV doc pm cdv ct:Value}(l:K.lookup f=some ⟨oc,od,.func (PySem.W.fnOf x qual (zAU st) (cA st) (zI st) .none kV doc pm an cdv ct),osl⟩)
  (c:PySem.W.codeIn K cdv qual=true) (k:PySem.W.keepIn K (.ref f)=true):Fun K x qual st f (PySem.W.fnOf x qual (zAU st) (cA st) (zI st) .none kV doc pm an cdv ct):=⟨⟨oc,od,kV,doc,pm,an,cdv,ct,osl,rfl,l,c⟩,k⟩
end
section
variable{X:Cx}
def pv(i:Nat){x:Str}{pos:Pos}(hN:X.N[i]? =some x:=by rfl)(hv:Vis X.env.scope x:=by first |exact Or.inl rfl|exact Or.inr (Or.inl rfl)|exact Or.inr (Or.inr rfl))(hd:(x==("__debug__":Str))=false:=by decide)
  (hcd:(x==("__classdict__":Str))=false:=by decide):PE X (.Name x pos) (tVar i):=yJR hN hv hd hcd
end
end L2
set_option maxHeartbeats 4000000
namespace L2
open PySem PySem.Spec PyProof.Rows
def zBZ(env:Env)(l:List (Str×NameKind))(cs:List (Str×Addr)):List (Str×Addr):=
 l.foldl (λc y=>if y.2==.free then(y.1,(env.cells.lookup y.1).getD 0)::c else c) cs
def zOB{α β:Type}{l:List α}{f:α->β->Sem (ForInStep β)}{g:β->α->β}: ∀(c:β),(∀x∈l, ∀c,f x c=pure (.yield (g c x)))->
  forIn l c f=pure (l.foldl g c):=by
 induction l with
 |nil=>intro c _;rfl
 |cons x l ih=>
  intro c h;rw [forIn_cons,h x mF0,pure_bind];exact ih _ λy hy=>h y (mO _ hy)
def zLL{scope:Scope}{env:Env}(h: ∀y∈scope.names,y.2=.free-> ∃c,env.cells.lookup y.1=some c):closureFor scope env=pure (zBZ env scope.names []):=by
 unfold closureFor zBZ;dsimp only;rw [zOB (g:=λc y=>if y.2==.free then(y.1,(env.cells.lookup y.1).getD 0)::c else c) [] ?_]
 ·rfl
 ·intro y hy c;obtain⟨n,k⟩:=y;by_cases hk:k=.free
  ·subst hk;obtain⟨a,ha⟩:=h _ hy rfl;have ha':env.cells.lookup n=some a:=ha;simp [cellOf,ha']
  ·have e:(k==NameKind.free)=false:=by simpa using hk
   simp [e]
theorem zHU{env:Env}: ∀(l:List (Str×NameKind))(cs:List (Str×Addr)),(∀y∈l,y.2=.free-> ∃c,env.cells.lookup y.1=some c)->(∀p∈cs,env.cells.lookup p.1=some p.2)->
  ∀p∈zBZ env l cs,env.cells.lookup p.1=some p.2
 |[],_,_,h=>h
 |(n,k)::l,cs,hl,h=>by
  refine zHU l _ (λy hy=>hl y (mO _ hy)) λp hp=>?_;by_cases hk:k=.free
  ·subst hk;obtain⟨c,hc⟩:=hl _ mF0 rfl;have hc':env.cells.lookup n=some c:=hc;have hp':p∈(n,(env.cells.lookup n).getD 0)::cs:=hp;rcases mC.mp hp' with rfl|hp
   ·show env.cells.lookup n=some ((env.cells.lookup n).getD 0);rw [hc'];rfl
   ·exact h p hp
  ·have hp':p∈(if(k==NameKind.free)=true then(n,(env.cells.lookup n).getD 0)::cs else cs):=hp;rw [iN (by simpa using hk)]at hp';exact h p hp'
theorem zJB{env:Env}: ∀(l:List (Str×NameKind))(cs:List (Str×Addr))(p:Str×Addr),p∈cs->p∈zBZ env l cs
 |[],_,_,h=>h
 |(n,k)::l,cs,p,h=>by
  refine zJB l _ p ?_;show p∈(if(k==.free)=true then(n,(env.cells.lookup n).getD 0)::cs else cs);split
  ·exact mO _ h
  ·exact h
theorem zCK{env:Env}: ∀(l:List (Str×NameKind))(cs:List (Str×Addr))(n:Str),(n,NameKind.free)∈l-> ∃c,(n,c)∈zBZ env l cs
 |[],_,_,h=>nomatch h
 |(m,k)::l,cs,n,h=>by
  rcases mC.mp h with e|h
  ·have e1:n=m:=congrArg Prod.fst e;have e2:NameKind.free=k:=congrArg Prod.snd e;subst e1 e2;exact⟨(env.cells.lookup n).getD 0,zJB l _ _ mF0⟩
  ·exact zCK l _ n h
theorem kE{β:Type}: ∀{l:List (Str×β)}{n:Str},(∃c,(n,c)∈l)-> ∃c,l.lookup n=some c
 |[],_,h=>let ⟨_,z⟩:=h;nomatch z
 |(m,b)::l,n,h=>by
  by_cases e:n=m
  ·subst e;exact⟨b,by simp [lookup_cons]⟩
  ·obtain⟨c,hc⟩:=h;rcases mC.mp hc with z|z
   ·cases z;exact absurd rfl e
   ·obtain⟨c',h'⟩:=kE ⟨c,z⟩;refine⟨c',?_⟩;have e':(n==m)=false:=by simpa using e
    simp [lookup_cons,e',h']
def zTL(scope osc:Scope):List (Str×NameKind):=scope.names.map λ(n,k)=>if(k==.free&&osc.kind==.function&&osc.names.lookup n==some .cell)then(n,.cell)else(n,k)
def zHV(osc:Scope)(N:Ai)(sc:Scope)(idx:Ab):Bool:=
 decide (sc.kind=.function)&&sc.names.all (λy=>decide (sc.names.lookup y.1=some y.2))&&
 sc.names.all (λy=>decide (y.2≠.free) || decide (osc.names.lookup y.1=some .cell) || decide (osc.names.lookup y.1=some .free))&&
 idx.all (λi=>match N[i]? with
  |some y=>(decide (osc.names.lookup y=some .cell) || decide (osc.names.lookup y=some .free))&&decide (sc.names.lookup y=some .free)
  |none=>false)
def rlS(sc osc:Scope):Scope:={sc with names:=zTL sc osc}
abbrev clC(env:Env)(sc:Scope)(C:Addr):List (Str×Addr):=cellsFrom (C+1) sc.names (zBZ env sc.names [])
theorem xN: ∀(l:List (Str×NameKind))(n:Nat)(acc:List (Str×Addr)),cellsFrom n l acc=cellsFrom n l []++acc
 |[],n,acc=>rfl
 |(x,k)::l,n,acc=>by
  unfold cellsFrom;split
  ·rw [xN l (n+1) ((x,n)::acc),xN l (n+1) [(x,n)],aA];rfl
  ·exact xN l n acc
theorem zFB: ∀(l:List (Str×NameKind))(n:Nat){x:Str}{c:Addr},(x,c)∈cellsFrom n l []->(x,NameKind.cell)∈l/\n<=c
 |[],n,x,c,h=>nomatch h
 |(y,k)::l,n,x,c,h=>by
  unfold cellsFrom at h;split at h
  ·rename_i hk;rw [xN]at h;rcases mem_append.mp h with h|h
   ·obtain⟨h1,h2⟩:=zFB l (n+1) h;exact⟨mO _ h1,by omega⟩
   ·have e:=mS.mp h;cases e;have hk':k=.cell:=by simpa using hk
    subst hk';exact⟨mF0,le_refl _⟩
  ·obtain⟨h1,h2⟩:=zFB l n h;exact⟨mO _ h1,h2⟩
def zEQ{l:List (Str×NameKind)}{C:Nat}{x:Str}{c:Addr}(h:(x,c)∈cellsFrom (C+1) l []){n:Nat}(hC:n<=C):n<c:=Nat.lt_of_le_of_lt hC (zFB l (C+1) h).2
theorem zDV: ∀(l:List (Str×NameKind))(n:Nat){x:Str},(x,NameKind.cell)∈l-> ∃c,(x,c)∈cellsFrom n l []
 |[],n,x,h=>nomatch h
 |(y,k)::l,n,x,h=>by
  unfold cellsFrom;rcases mC.mp h with e|h
  ·cases e;rw [iP (by decide),xN];exact⟨n,mem_append_right _ mF0⟩
  ·split
   ·obtain⟨c,hc⟩:=zDV l (n+1) h;rw [xN];exact⟨c,mem_append_left _ hc⟩
   ·exact zDV l n h
theorem own_apart: ∀(l:List (Str×NameKind))(n:Nat),(cellsFrom n l []).Pairwise λx y=>x.2≠y.2
 |[],n=>List.Pairwise.nil
 |(y,k)::l,n=>by
  unfold cellsFrom;split
  ·rw [xN];refine pairwise_append.mpr ⟨own_apart l (n+1),List.pairwise_singleton _ _,λa ha b hb e=>?_⟩;rw [mS.mp hb]at e;have:=(zFB l (n+1) (x:=a.1) (c:=a.2) ha).2;exact ne_of_gt this e
  ·exact own_apart l n
theorem zAV{β:Type}(x:Str): ∀(l m:List (Str×β)),(l++m).lookup x=(l.lookup x).or (m.lookup x)
 |[],m=>rfl
 |(y,b)::l,m=>by
  rw [cons_append,lookup_cons,lookup_cons]
  cases x==y with
  |true=>rfl
  |false=>exact zAV x l m
theorem zMM{β:Type}{x:Str}: ∀{l:List (Str×β)},(∀c,(x,c)∉l)->l.lookup x=none
 |[],_=>rfl
 |(y,b)::l,h=>by
  rw [lookup_cons]
  cases e:x==y with
  |true=>rw [beq_iff_eq.mp e]at h;exact absurd mF0 (h b)
  |false=>exact zMM λc hc=>h c (mO _ hc)
def cP{env:Env}{sc:Scope}{C:Addr}{x:Str}{c:Addr}(e:(clC env sc C).lookup x=some c):(x,c)∈cellsFrom (C+1) sc.names []\/(zBZ env sc.names []).lookup x=some c:=by
 unfold clC at e;rw [xN,zAV]at e
 cases z:(cellsFrom (C+1) sc.names []).lookup x with
 |some c'=>rw [z]at e;cases e;exact .inl (PySem.mem_of_lookup z)
 |none=>rw [z]at e;exact .inr e
def yKV{env:Env}{sc:Scope}{C:Addr}{x:Str}{c:Addr}(h:(x,NameKind.cell)∈sc.names)(e:(clC env sc C).lookup x=some c):(x,c)∈cellsFrom (C+1) sc.names []:=by unfold clC at e;rw [xN,zAV]at e;obtain⟨c',h'⟩:=kE (zDV sc.names (C+1) h);rw [h']at e;cases e;exact PySem.mem_of_lookup h'
theorem yFM{env:Env}{sc:Scope}{C:Addr}{x:Str}(h:(x,NameKind.cell)∉sc.names):(clC env sc C).lookup x=(zBZ env sc.names []).lookup x:=by unfold clC;rw [xN,zAV,zMM λc hc=>h (zFB _ _ hc).1];rfl
def zGG(σ:St)(idx:Ab):St:=idx.map λi=>(σ[i]?).join
def nP(σ:St)(idx:Ab):(zGG σ idx).length=idx.length:=by unfold zGG;rw [lM]
def zV(X:Cx)(sc:Scope)(T:Ai)(idx:Ab)(C:Addr)(s₂:Shared)(H1:Hp)(fp:Ah):Cx where
 prog:=X.prog
 w:=X.w
 K:=X.K
 mg:=X.mg
 base:=X.base
 A:=X.A
 N:=T++idx.map λi=>(X.N[i]?).getD Str.empty
 s₀:=s₂
 H₀:=H1
 env:=compEnvC sc (clC X.env sc C) C X.env
 outer:=X.stack
 stack:=X.stack
 ex:=fp
 fn:=λx=>sc.names.lookup x==some .cell
 calm:=X.calm
 pn:=[]
 xe:=λ_ _=>False
def yAL(wi:TI)(g:TG)(tc:Addr->Shared->Hp->List Addr->TT)(te:Addr->Shared->Hp->List Addr->TE)(nt:Nat)(idx:Ab):TE:=λσ H Q=>wi σ H λJ H1=> ∃W:Nat->Nat->List V->Hp->Prop,(∃m,W 0 m [] H1)/\ ∀i m ys H2,W i m ys H2->ys.length<=sizeLine/\
 ((J.stop i H2/\ ∀D,H2 D=none->Q (.ref D) (upd H2 D (.lst ys)))\/
   (J.go i H2/\ys.length<sizeLine/\ ∀x H3,J.yld i H2 x H3-> ∀τ:St,τ.length=nt->g x (τ++zGG σ idx) H3 λσ4 H4=>(∃τ',σ4=τ'++zGG σ idx/\τ'.length=nt)/\
    ∀C s₂ fp,tc C s₂ H1 fp σ4 H4 λb H5=>if b=true then te C s₂ H1 fp σ4 H5 λy H6=> ∃m',m'<m/\W (i+1) m' (ys++[y]) H6 else∃m',m'<m/\W (i+1) m' ys H5))
section
variable{prog:Program}{w:World}{A:Around}{R:Result->Shared->Prop}{s:Shared}
def zOC{elt target iter:Expr}{ifs:Bd}{scope:Scope}{pos:Pos}{it acc:Value}{env:Env}(I:Nat->Shared->Prop)
  (turn: ∀n s,I n s->wpAny (model prog w) A (pyNext it) (λr s₁=>match r with
   |none=>R (.ok .next) s₁
   |some v=>wpAny (model prog w) A (letOwnedTupleGo target it v) (λ_ s₁'=>wpAny (model prog w) A (assign target env v) (λ_ s₂=>
     wpAny (model prog w) A (forIn ifs true λc r=>if r=true then do let ok <-isTrue c env (eval c env);pure (ForInStep.yield ok)else pure (ForInStep.yield r)) (λok s₃=>
      if ok=true then wpAny (model prog w) A (eval elt env) (λx s₄=>
       wpAny (model prog w) A (call (.builtin "list.append") [acc,x]) (λ_ s₅=> ∃m,m<n/\I m s₅) (λ_ _=>False) s₄) (λ_ _=>False) s₃
      else∃m,m<n/\I m s₃) (λ_ _=>False) s₂) (λ_ _=>False) s₁') (λ_ _=>False) s₁) (λ_ _=>False) s)
  (n:Nat) (h:I n s):codeAny (model prog w) A (.compLoop (.ListComp elt [⟨target,iter,ifs,0⟩] scope pos) 0 it acc env) R s:=by
 refine codeAny_loop rfl I (λn s hI=>?_) n h;show wpAny _ A ((compTurn (.ListComp elt [⟨target,iter,ifs,0⟩] scope pos) 0 it acc env).onRaise (λx=>do noteFrame x env;theTreesLotGoes x)) _ _ s;refine wpAny_noted ?_;rw [compTurn_list];have no: ∀{E':VP}(v:Value)(s':Shared),False->E' v s':=λ_ _ z=>z.elim;refine wB0 (wpAny_standAt (wB0 (wpAny_mono (turn n s hI) (λr s₁ h₁=>?_) (no))))
 cases r with
 |none=>exact wP0 h₁
 |some v=>
  refine wB0 (wpAny_mono h₁ (λ_ s₁' h₁'=>wB0 (wpAny_mono h₁' (λ_ s₂ h₂=>wB0 (wpAny_mono h₂ (λok s₃ h₃=>?_) no)) no)) no)
  cases ok with
  |false=>exact wP0 ⟨rfl,h₃⟩
  |true=>
   exact wB0 (wB0 (wpAny_mono h₃ (λx s₄ h₄=>wB0 (wpAny_mono h₄ (λ_ s₅ h₅=>wP0 (wP0 ⟨rfl,h₅⟩)) no)) no))
end
def zYG(X:Cx)(ifs:Bd)(t:TT):Prop:=
 ∀(pins:Ba)(s:Shared)(σ:St)(H:Hp)(Q:Bool->Hp->Prop),Inv X pins σ H s->t σ H Q->
  wpAny (model X.prog X.w) X.A (forIn ifs true λc r=>if r=true then do let ok <-isTrue c X.env (eval c X.env);pure (ForInStep.yield ok)else pure (ForInStep.yield r)) (TP X pins σ Q) X.xe s
def tNoIf:TT:=λ_ H Q=>Q true H
def yAM{X:Cx}:zYG X [] tNoIf:=λ_ _ _ H _ I h=>wpAny_tests_nil ⟨H,I,h⟩
def yAN{X:Cx}{c:Expr}{t:TT}(h:PT X c t):zYG X [c] t:=λpins s σ H Q I q=>wpAny_tests_one (h pins s σ H Q I q)
structure CompF(osc:Scope)(N:Ai)(sc:Scope)(idx:Ab):Prop where
 kind:sc.kind=.function
 uni: ∀y∈sc.names,sc.names.lookup y.1=some y.2
 frees: ∀y∈sc.names,y.2=.free->osc.names.lookup y.1=some .cell\/osc.names.lookup y.1=some .free
 cap: ∀i∈idx, ∃y,N[i]? =some y/\(osc.names.lookup y=some .cell\/osc.names.lookup y=some .free)/\sc.names.lookup y=some .free
def CompF.locs{osc:Scope}{N:Ai}{sc:Scope}{idx:Ab}(F:CompF osc N sc idx): ∀y∈sc.names,y.2=.local->sc.names.lookup y.1=some .local:=λy hy e=>by rw [F.uni y hy,e]
def yFN{osc:Scope}{N:Ai}{sc:Scope}{idx:Ab}(h:zHV osc N sc idx=true):CompF osc N sc idx:=by
 unfold zHV at h;simp only [aE,all_eq_true,decide_eq_true_eq,or_eq_true]at h;obtain⟨⟨⟨h1,h2⟩,h4⟩,h5⟩:=h;refine⟨h1,λy hy=>h2 y hy,λy hy e=>?_,λi hi=>?_⟩
 ·rcases h4 y hy with(z|z)|z
  ·exact absurd e z
  ·exact .inl z
  ·exact .inr z
 ·have q:=h5 i hi
  cases e:N[i]? with
  |none=>rw [e]at q;cases q
  |some y=>
   rw [e]at q;simp only [aE,decide_eq_true_eq,or_eq_true]at q;exact⟨y,rfl,q.1,q.2⟩
def yAO{sc osc:Scope}{x:Str}(h:(zTL sc osc).lookup x=some .cell\/(zTL sc osc).lookup x=some .free):(x,NameKind.free)∈sc.names\/(x,NameKind.cell)∈sc.names:=by
 have key: ∀k',(k'=.cell\/k'=.free)->(x,k')∈zTL sc osc->(x,NameKind.free)∈sc.names\/(x,NameKind.cell)∈sc.names:=by
  intro k' hk' hm;unfold zTL at hm;obtain⟨⟨n,k⟩,hy,e⟩:=mM.mp hm;dsimp only at e;split at e
  ·rename_i hc;cases e;rw [aE,aE]at hc;have:k=.free:=by simpa using hc.1.1
   subst this;exact .inl hy
  ·cases e;rcases hk' with rfl|rfl
   ·exact .inr hy
   ·exact .inl hy
 rcases h with h|h
 ·exact key _ (.inl rfl) (PySem.mem_of_lookup h)
 ·exact key _ (.inr rfl) (PySem.mem_of_lookup h)
theorem zMN{osc:Scope}{x:Str}: ∀{l:List (Str×NameKind)},l.lookup x=some .free->(l.map λ(n,k)=>if(k==NameKind.free&&osc.kind==.function&&osc.names.lookup n==some .cell)then(n,NameKind.cell)else(n,k)).lookup x=some .cell\/(l.map λ(n,k)=>if(k==NameKind.free&&osc.kind==.function&&osc.names.lookup n==some .cell)then(n,NameKind.cell)else(n,k)).lookup x=some .free
 |[],h=>by simp at h
 |(n,k)::l,h=>by
  have ih:=@zMN osc x l;rw [lookup_cons]at h;rw [map_cons];by_cases hc:(k==NameKind.free&&osc.kind==.function&&osc.names.lookup n==some .cell)=true
  ·dsimp only;rw [iP hc,lookup_cons]
   cases hx:x==n with
   |true=>exact .inl rfl
   |false=>rw [hx]at h;exact ih h
  ·dsimp only;rw [iN hc,lookup_cons]
   cases hx:x==n with
   |true=>rw [hx]at h;exact .inr h
   |false=>rw [hx]at h;exact ih h
section
variable{X:Cx}{pins:Ba}{σ:St}{H1:Hp}{s₂:Shared}{sc:Scope}{T:Ai}{idx:Ab}{C:Addr}{fp:Ah}
def zQQ(I:Inv X pins σ H1 s₂)(F:CompF X.env.scope X.N sc idx): ∀y∈sc.names,y.2=.free-> ∃c,X.env.cells.lookup y.1=some c:=
 λy hy e=>I.ok.has y.1 (F.frees y hy e)
def wS(I:Inv X pins σ H1 s₂)(F:CompF X.env.scope X.N sc idx){x:Str}{c:Addr}(e:(zBZ X.env sc.names []).lookup x=some c):X.env.cells.lookup x=some c:=
 zHU sc.names [] (zQQ I F) (λ_ z=>nomatch z) (x,c) (PySem.mem_of_lookup e)
def yFO(I:Inv X pins σ H1 s₂)(F:CompF X.env.scope X.N sc idx){x:Str}{c:Addr}(hx:(x,NameKind.free)∈sc.names)(e:X.env.cells.lookup x=some c):(zBZ X.env sc.names []).lookup x=some c:=by obtain⟨c',h'⟩:=kE (zCK (env:=X.env) sc.names [] x hx);rw [h'];rw [wS I F h']at e;exact e
def zYH(I:Inv X pins σ H1 s₂)(F:CompF X.env.scope X.N sc idx)(hC:s₂.heap.objs.size<=C)(hfp: ∀b∈fp,zEN X pins H1 b)(hlt: ∀b∈fp,b<s₂.heap.objs.size):(zV X sc T idx C s₂ H1 fp).Ok where
 mod:=I.ok.mod
 kind:=F.kind
 glob:=I.ok.glob
 blt:=I.ok.blt
 above:=hC
 inj:=λx y c h1 h2=>by
  have low: ∀z,(zBZ X.env sc.names []).lookup z=some c->c<s₂.heap.objs.size:=λz h=>let ⟨v,q⟩:=I.cell z c (wS I F h);q.lt;rcases cP h1 with z1|z1<;>rcases cP h2 with z2|z2
  ·exact PySem.name_of_addr (own_apart sc.names (C+1)) z1 z2
  ·exact absurd (low y z2) (not_lt.mpr (le_of_lt (zEQ z1 hC)))
  ·exact absurd (low x z1) (not_lt.mpr (le_of_lt (zEQ z2 hC)))
  ·exact I.ok.inj x y c (wS I F z1) (wS I F z2)
 has:=λx hx=>by
  have hx':(zTL sc X.env.scope).lookup x=some .cell\/(zTL sc X.env.scope).lookup x=some .free:=hx;show∃c,(clC X.env sc C).lookup x=some c;unfold clC;rw [xN];rcases yAO hx' with z|z
  ·obtain⟨c,hc⟩:=zCK (env:=X.env) sc.names [] x z;exact kE ⟨c,mem_append_right _ hc⟩
  ·obtain⟨c,hc⟩:=zDV sc.names (C+1) z;exact kE ⟨c,mem_append_left _ hc⟩
 cab:=λx c h e=>by have h':sc.names.lookup x=some .cell:=beq_iff_eq.mp h;exact le_of_lt (zEQ (yKV (PySem.mem_of_lookup h') e) hC)
 hd:=I.ok.hd
 frames:=I.ok.frames
 stk:=.inl rfl
 exf:=λb hb=>⟨ne_of_lt (lt_of_lt_of_le (hlt b hb) hC),λx c e=>by
  rcases cP e with z|z
  ·exact ne_of_gt (lt_trans (hlt b hb) (zEQ z hC))
  ·exact(hfp b hb).2.2.2.2.1 x c (wS I F z)⟩
 bs:=I.bs
 bsz:=le_trans I.ok.bsz I.sz
 noex:=λb o e hb=>by
  rcases (hfp b hb).2.2.2.1 with z|z
  ·exact I.ok.noex b o e z
  ·exact absurd (lt_of_lt_of_le (Heap.lt_size e) (le_trans I.ok.bsz z)) (lt_irrefl _)
 exfs:=λb hb z=>by
  rcases mC.mp (I.stkSub b z)with e|e
  ·exact(hfp b hb).2.1 e
  ·exact(hfp b hb).2.2.1 e
 funs:=I.stack
 frf:=I.stkFree
def zTM{s₄:Shared}{m:Aj}(I:Inv X pins σ H1 s₂)(F:CompF X.env.scope X.N sc idx)(hC:s₂.heap.objs.size<=C)(hfp: ∀b∈fp,zEN X pins H1 b)(hlt: ∀b∈fp,b<s₂.heap.objs.size)
  (kp: ∀b o,s₂.heap.get? b=some o->s₄.heap.get? b=some o) (ho:s₄.os=s₂.os) (hg:s₄.gens=s₂.gens) (hn:s₄.heap.Ns C m) (hcl: ∀x c,(x,c)∈cellsFrom (C+1) sc.names []->s₄.heap.IsCell c none):
  Inv (zV X sc T idx C s₂ H1 fp) [] (T.map (λ_=>none)++zGG σ idx) H1 s₄:=by
 have cellK: ∀c v,s₂.heap.IsCell c v->s₄.heap.IsCell c v:=λc v ⟨o,h1,h2⟩=>⟨o,kp c o h1,h2⟩
 refine⟨zYH I F hC hfp hlt,ho,by rw [hg];exact I.bare,Un.kept kp,⟨m,hn,λi x v e1 e2 e3=>?_⟩,λx c e=>?_,I.hok.fresh hC,λx c e=>?_,λp hp=>absurd (show p∈([]:Ba)from hp) (by simp),I.hok.kept kp,?_⟩
 ·have e1':(T++idx.map λi=>(X.N[i]?).getD Str.empty)[i]? =some x:=e1;by_cases hi:i<T.length
  ·rw [getElem?_append_left (by simpa using hi),getElem?_map]at e2
   cases z:T[i]? with
   |none=>rw [z]at e2;cases e2
   |some y=>rw [z]at e2;cases e2
  ·rw [getElem?_append_right (by simpa using hi)]at e2;rw [getElem?_append_right (by omega)]at e1';rw [lM]at e2;unfold zGG at e2;rw [getElem?_map]at e1' e2
   cases z:idx[i - T.length]? with
   |none=>rw [z]at e2;cases e2
   |some j=>
    rw [z]at e1' e2;have hj:j∈idx:=mem_of_getElem? z;obtain⟨y,hy,k1,k2⟩:=F.cap j hj;have ex:y=x:=by have q:(X.N[j]?).getD Str.empty=x:=Option.some.inj e1';rw [hy]at q;exact q
    subst ex
    have ev:σ[j]? =some (some v):=by
     have q:(σ[j]?).join=some v:=Option.some.inj e2
     cases w':σ[j]? with
     |none=>rw [w']at q;cases q
     |some a=>rw [w']at q;have q':a=some v:=q;rw [q']
    obtain⟨m0,hn0,hl0⟩:=I.loc;have vis:Vis X.env.scope y:=k1.elim (λz=>.inr (.inl z)) λz=>.inr (.inr z);obtain⟨u,r,l⟩:=hl0 j y v hy ev vis;refine⟨u,r,?_⟩;rcases l with⟨kl,_⟩|⟨_,c,hc,q⟩
    ·have kl':X.env.scope.names.lookup y=some .local:=kl;rcases k1 with z|z<;>rw [z]at kl'<;>cases kl'
    ·have nc:(y,NameKind.cell)∉sc.names:=λz=>by have:=F.uni _ z;rw [k2]at this;cases this
     refine .inr ⟨zMN (osc:=X.env.scope) k2,c,?_,cellK c _ q⟩;show(clC X.env sc C).lookup y=some c;rw [yFM nc];exact yFO I F (PySem.mem_of_lookup k2) hc
 ·rcases cP e with z|z
  ·exact⟨none,hcl x c z⟩
  ·obtain⟨v,q⟩:=I.cell x c (wS I F z);exact⟨v,cellK c v q⟩
 ·rcases cP e with z|z
  ·exact I.hok.fresh (le_of_lt (zEQ z hC))
  ·exact I.freeC x c (wS I F z)
 ·show(T.map (λ_=>(none:Option V))++zGG σ idx).length=(T++idx.map λi=>(X.N[i]?).getD Str.empty).length;rw [lA,lA,lM,lM,nP]
def zTN{σ1:St}{H':Hp}{s':Shared}{h':Heap}{D:Addr}{ys:List V}{its:Ae}{n:Nat}(I:Inv X pins σ H1 s₂)(hC:s₂.heap.objs.size<=C)(hfp: ∀b∈fp,zEN X pins H1 b)
  (J:Inv (zV X sc T idx C s₂ H1 fp) [] σ1 H' s') (hs:Heap.SameBut C s'.heap h') (hD:s₂.heap.objs.size<=D) (hDC:D≠C) (eD:s'.heap.get? D=some {cls:=.type "list",data:=.seq its.toArray n}) (nD:H' D=none) (r:Vals ys its) (hz:ys.length<=sizeLine):
  Inv X pins σ (upd H' D (.lst ys)) {s' with heap:=h'}:=by
 have old: ∀b o,s₂.heap.get? b=some o->b≠C/\b≠D:=λb o e=>⟨ne_of_lt (lt_of_lt_of_le (Heap.lt_size e) hC),ne_of_lt (lt_of_lt_of_le (Heap.lt_size e) hD)⟩
 have oldH: ∀b u,H1 b=some u->b≠D:=λb u e=>ne_of_lt (lt_of_lt_of_le (I.hok.lt e) hD);have nC:H' C=none:=J.free;have B:Un (frs X.stack) fp H1 H' s₂.heap s'.heap:=J.base;have mv: ∀b o,b≠C->s'.heap.get? b=some o->h'.get? b=some o:=λb o hb e=>(hs.2 b hb).trans e;refine I.call' (s':={s' with heap:=h'}) (ch:=fp) J.os ⟨λb o e q hb hx=>?_,λb o e q hb hx=>?_,λb o e q hx=>?_,λb o e hx=>?_,λb xs e=>?_,λb o u e=>?_,λb ps e=>?_⟩ ?_ J.bare λb hb=>⟨(hfp b hb).2.2.2.1,(hfp b hb).2.1,(hfp b hb).2.2.2.2.1,(hfp b hb).2.2.2.2.2⟩
 ·exact mv b o (old b o e).1 (B.keep b o e q hb hx)
 ·obtain⟨sl,z⟩:=B.slot b o e q hb hx;exact⟨sl,mv b _ (old b o e).1 z⟩
 ·rw [zR (old b o e).2];exact B.free b o e q hx
 ·obtain⟨o',z⟩:=B.there b o e hx;exact⟨o',mv b o' (old b o e).1 z⟩
 ·rw [zR (oldH b _ e)];exact B.tups b xs e
 ·rw [zR (oldH b _ e)];exact B.frzs b o u e
 ·obtain⟨more,z⟩:=B.tbls b ps e;exact⟨more,by rw [zR (oldH b _ e)];exact z⟩
 ·intro b u e;by_cases hb:b=D
  ·subst hb;rw [yK]at e;cases e;exact⟨hz,its,n,r,mv b _ hDC eD⟩
  ·rw [zR hb]at e;refine(J.hok b u e).stay (λc v hc q=>mv c v ?_ q) (λc q=>by rw [zR (zU q nD)];exact q) λc xs q=>by rw [zR (zU q nD)];exact q
   rcases hc with z|z
   ·rw [z];exact zU e nC
   ·exact zU z nC
end
section
variable{X:Cx}
def zLM{M:Model}{A:Around}{E:VP}{s:Shared}{scope:Scope}{globals:Addr}{closure:List (Str×Addr)}{qual:Str}{outer:Env}{Q:Env->Shared->Prop}
  (hQ:Q (newEnv scope s.heap.objs.size globals (cellsFrom (s.heap.objs.size+1) scope.names closure) qual none .none (some outer) builtinsNs) {s with heap:=pushCells (s.heap.push {cls:=.type "dict",data:=.dict #[]}) scope.names}):
  wpAny M A (newFunctionEnv scope globals closure [] qual none .none (some outer)) Q E s:=by
 simp only [newFunctionEnv,Option.isSome_some,if_true];refine wB0 (wpAny_alloc ?_);refine wB0 (wpAny_layCells _ (λname kind cells=>by cases hkc:kind==NameKind.cell<;>simp [hkc]) _ _ _ _ ?_);rw [show({s with heap:=s.heap.push {cls:=.type "dict",data:=.dict #[]}}:Shared).heap.objs.size=s.heap.objs.size+1 from Heap.size_push ..];simp only [forIn_nil];exact wB0 (wP0 (wP0 hQ))
def zQR{elt tg iter:Expr}{ifs:Bd}{pos:Pos}{sc:Scope}{wi:TI}{g:TG}{tc:Addr->Shared->Hp->List Addr->TT}{te:Addr->Shared->Hp->List Addr->TE}(T:Ai)(idx:Ab)
  (hi:PI X tg iter wi) (hcalm:X.calm=true) (hB:zHV X.env.scope X.N sc idx=true)
  (hg: ∀C s₂ H1 fp,PG (zV X sc T idx C s₂ H1 fp) tg g)
  (hc: ∀C s₂ H1 fp,zYG (zV X sc T idx C s₂ H1 fp) ifs (tc C s₂ H1 fp))
  (he: ∀C s₂ H1 fp,PE (zV X sc T idx C s₂ H1 fp) elt (te C s₂ H1 fp))
  (hs: ∀x,foldedSetIterable iter X.env x=pure x:=by intro _;rfl)
  {pins:Ba} {s:Shared} {σ:St} {H:Hp} {Q:VK} {use:Option (Value->Sem Unit)} {Q':VP} (I:Inv X pins σ H s) (h:yAL wi g tc te T.length idx σ H Q)
  (fin: ∀(D C:Addr)(s4:Shared)(H':Hp)(r:_),(∀h',Heap.SameBut C s4.heap h'->Inv X pins σ H' {s4 with heap:=h'})->zEN X pins H' C->(∃m,s4.heap.Ns C m)->Q (.ref D) H'->
   compPost (model X.prog X.w) X.A X.xe use Q' (.ref D) C (.ok r) s4):
  wpAny (model X.prog X.w) X.A (comprehension (.ListComp elt [⟨tg,iter,ifs,0⟩] sc pos) sc X.env (firstIterPos [⟨tg,iter,ifs,0⟩] pos) (newList []) false (eval iter X.env) use) Q' X.xe s:=by
 have cf:=yFN hB;refine wpAny_comprehension_free (use:=use) (cl:=zBZ X.env sc.names []) rfl hs (zLL (zQQ I cf)) cf.kind cf.locs ?_;refine thn (hi pins s σ H _ I h) λv s1 h1=>thn h1 λitv s2 h2=>?_;obtain⟨it,fp,tn,J,H2,e,I2,Tn,st2,f2,W,⟨m0,w0⟩,turn⟩:=h2;subst e;have hlt: ∀b∈fp,b<s2.heap.objs.size:=λb hb=>let ⟨o,e,_⟩:=Tn.obj _ _ st2 b hb;Heap.lt_size e;refine wpAny_newObj_type (zLM ?_);dsimp only;generalize hH2:s2.heap.push {cls:=.type "list",dict:=none,data:=.seq ([]:Ae).toArray}=HH;generalize hh1:pushCells (HH.push {cls:=.type "dict",data:=.dict #[]}) sc.names=h₁;have hns₁:h₁.Ns HH.objs.size (λ_=>none):=hh1▸(Heap.Ns.new HH (.type "dict")).keeps (pushCells_keeps _ _);have hC:HH.objs.size=s2.heap.objs.size+1:=by rw [<-hH2,Heap.size_push]
 have hDC:s2.heap.objs.size≠HH.objs.size:=by rw [hC];exact ne_of_lt (lt_succ_self _)
 have hCle:s2.heap.objs.size<=HH.objs.size:=by rw [hC];exact le_succ _
 have up1: ∀b o,HH.get? b=some o->h₁.get? b=some o:=λb o e=>hh1▸pushCells_keeps _ _ b o (hP0 _ e);have old: ∀b o,s2.heap.get? b=some o->h₁.get? b=some o:=λb o e=>up1 b o (hH2▸hP0 _ e);have eD0:h₁.get? s2.heap.objs.size=some {cls:=.type "list",data:=.seq ([]:Ae).toArray 0}:=up1 _ _ (hH2▸Heap.get?_push_size _ rfl);have hcl: ∀x c,(x,c)∈cellsFrom (HH.objs.size+1) sc.names []->h₁.IsCell c none:=λx c hm=>by have ok:=cellsFrom_ok sc.names (HH.push {cls:=.type "dict",data:=.dict #[]}) 0 [] ⟨λ_ _ hm=>(nomatch hm),List.Pairwise.nil⟩ (zero_le _);rw [Heap.size_push,hh1]at ok;exact(ok.empty x c hm).1
 have nD0:H2 s2.heap.objs.size=none:=I2.hok.fresh (le_refl _)
 have cD: ∀x c,(clC X.env sc HH.objs.size).lookup x=some c->c≠s2.heap.objs.size:=λx c e=>by
  rcases cP e with z|z
  ·exact ne_of_gt (zEQ z hCle)
  ·obtain⟨v,q⟩:=I2.cell x c (wS I2 cf z);exact ne_of_lt q.lt
 have loop: ∀s4:Shared,s4={s2 with heap:=h₁}->
   codeAny (model X.prog X.w) X.A (.compLoop (.ListComp elt [⟨tg,iter,ifs,0⟩] sc pos) 0 (.ref it) (.ref s2.heap.objs.size) (compEnvC sc (clC X.env sc HH.objs.size) HH.objs.size X.env))
    (compPost (model X.prog X.w) X.A X.xe use Q' (.ref s2.heap.objs.size) HH.objs.size) s4:=by
  rintro s4 rfl
  have J0:Inv (zV X sc T idx HH.objs.size s2 H2 fp) [] (T.map (λ_=>none)++zGG σ idx) H2 {s2 with heap:=h₁}:=
   zTM I2 cf hCle f2 hlt old rfl rfl hns₁ hcl
  refine zOC (λk s'=> ∃(i:Nat)(ys:List V)(its:Ae)(n:Nat)(H':Hp)(τ:St),Inv (zV X sc T idx HH.objs.size s2 H2 fp) [] (τ++zGG σ idx) H' s'/\τ.length=T.length/\tn i s'.heap/\(∀b∈fp,H' b=none)/\
   s'.heap.get? s2.heap.objs.size=some {cls:=.type "list",data:=.seq its.toArray n}/\H' s2.heap.objs.size=none/\Vals ys its/\W i k ys H') ?_ m0
   ⟨0,[],[],0,H2,T.map (λ_=>none),J0,by rw [lM],Tn.keep _ _ _ st2 λb _ o e=>old b o e,λb hb=>(f2 b hb).1,eD0,nD0,.nil,w0⟩
  rintro k s3 ⟨i,ys,its,n,H3,τ,I3,hτ,st3,fr3,eD3,nD3,r3,w3⟩;obtain⟨hz,alt⟩:=turn i k ys H3 w3;have hDfs:s2.heap.objs.size∉(zV X sc T idx HH.objs.size s2 H2 fp).fs:=λz=>by obtain⟨_,o,ho,_⟩:=I2.stack.mem (show s2.heap.objs.size∈frs X.stack from z);exact absurd (Heap.lt_size ho) (lt_irrefl _)
  have pinD: ∀{H':Hp}{s':Shared},s'.heap.get? s2.heap.objs.size=some {cls:=.type "list",data:=.seq its.toArray n}->H' s2.heap.objs.size=none->
    ∀p∈[(s2.heap.objs.size,({cls:=.type "list",data:=.seq its.toArray n}:Obj))],s'.heap.get? p.1=some p.2/\H' p.1=none/\p.1≠(zV X sc T idx HH.objs.size s2 H2 fp).env.locals/\p.1∉(zV X sc T idx HH.objs.size s2 H2 fp).fs/\ ∀v,p.2.data≠.cell v:=
   λ{H' s'} e1 e2 p hp=>by
    have ep:p=(s2.heap.objs.size,{cls:=.type "list",data:=.seq its.toArray n}):=by simpa using hp
    subst ep;exact⟨e1,e2,hDC,hDfs,λv z=>by cases z⟩
  have P3:Inv (zV X sc T idx HH.objs.size s2 H2 fp) [(s2.heap.objs.size,{cls:=.type "list",data:=.seq its.toArray n})] (τ++zGG σ idx) H3 s3:=I3.pins_of (pinD eD3 nD3)
  have stat: ∀{H':Hp},(∀b∈fp,H' b=none)-> ∀b∈fp,zEN (zV X sc T idx HH.objs.size s2 H2 fp) [(s2.heap.objs.size,{cls:=.type "list",data:=.seq its.toArray n})] H' b:=λ{H'} hn b hb=>by
   have hb2:=hlt b hb;refine⟨hn b hb,ne_of_lt (lt_of_lt_of_le hb2 hCle),I3.ok.exfs b hb,.inl hb,λx c e=>?_,λp hp=>?_⟩
   ·rcases cP e with z|z
    ·exact ne_of_gt (lt_trans hb2 (zEQ z hCle))
    ·exact(f2 b hb).2.2.2.2.1 x c (wS I2 cf z)
   have ep:p=(s2.heap.objs.size,({cls:=.type "list",data:=.seq its.toArray n}:Obj)):=by simpa [zV]using hp
   subst ep;exact ne_of_gt hb2
  rcases alt with⟨stop,q⟩|⟨go,hl2,step⟩
  ·refine thn (Tn.done (zV X sc T idx HH.objs.size s2 H2 fp) rfl rfl rfl hcalm i _ s3 _ H3 (λ_ _=>False) P3 (stat fr3) st3 stop) λr s4 ⟨hr,I4⟩=>?_;subst hr;obtain⟨m,hn,_⟩:=id I4.loc;have eD4:=(I4.pin (s2.heap.objs.size,{cls:=.type "list",data:=.seq its.toArray n}) (by simp)).1;exact fin _ _ s4 _ _ (λh' hs'=>zTN I2 hCle f2 (I4.pins_of (λp hp=>nomatch hp)) hs' (le_refl _) hDC eD4 nD3 r3 hz) (I2.fpOk hCle (by rw [zR (Ne.symm hDC)];exact I4.free)) ⟨m,hn⟩ (q _ nD3)
  ·refine thn (Tn.item (zV X sc T idx HH.objs.size s2 H2 fp) rfl rfl rfl hcalm i _ s3 _ H3 (λ_ _=>False) P3 (stat fr3) st3 go) λr s4 ⟨u,hr,h4⟩=>?_;subst hr;refine thn h4 λ_ s5 ⟨x,H5,I5,r5,y5,st5,fr5⟩=>?_;have I5':=I5.pinned (stat fr5) (Tn.obj _ _ st5);refine thn (hg HH.objs.size s2 H2 fp _ s5 _ H5 x u _ I5' r5 (step x H5 y5 τ hτ)) λ_ s6 ⟨σ6,H6,I6,⟨τ',e6,l6⟩,q6⟩=>?_;subst e6;refine thn (hc HH.objs.size s2 H2 fp _ s6 _ H6 _ I6 (q6 HH.objs.size s2 fp)) λok s7 ⟨H7,I7,q7⟩=>?_
   have mD:(s2.heap.objs.size,({cls:=.type "list",data:=.seq its.toArray n}:Obj))∈(zV X sc T idx HH.objs.size s2 H2 fp).pn++([(s2.heap.objs.size,{cls:=.type "list",data:=.seq its.toArray n})]++zGF fp s5.heap):=
    mem_append_right _ (mem_append_left _ (by simp))
   have mF: ∀b∈fp, ∀o,s5.heap.get? b=some o->(b,o)∈(zV X sc T idx HH.objs.size s2 H2 fp).pn++([(s2.heap.objs.size,{cls:=.type "list",data:=.seq its.toArray n})]++zGF fp s5.heap):=λb hb o e=>
    mem_append_right _ (mem_append_right _ (zEO hb e))
   cases ok with
   |false=>
    rw [iN xF0]at q7 ⊢;obtain⟨m',hm',w7⟩:=q7;refine⟨m',hm',i+1,ys,its,n,H7,τ',I7.pins_of (λp hp=>nomatch hp),l6,Tn.keep _ _ _ st5 λb hb o e=>(I7.pin _ (mF b hb o e)).1,λb hb=>?_,(I7.pin _ mD).1,(I7.pin _ mD).2.1,r3,w7⟩;obtain⟨o,e,d⟩:=Tn.obj _ _ st5 b hb;exact(I7.pin _ (mF b hb o e)).2.1
   |true=>
    rw [iP rfl]at q7 ⊢;refine thn (he HH.objs.size s2 H2 fp _ s7 _ H7 _ I7 q7) λy s8 ⟨yv,H8,I8,r8,m',hm',w8⟩=>?_;have eD8:=(I8.pin _ mD).1;have nD8:=(I8.pin _ mD).2.1;have hl:=r3.length;have q:=PySem.IsL.update eD8 (λz=>z.push y);rw [show its.toArray.push y=(its++[y]).toArray by simp]at q;refine call_meets PySem.F.slot_list_append ⟨_,eD8,rfl⟩ PySem.F.entry_list_append (PySem.F.args_list_append_2 _ _) (PySem.list_append s2.heap.objs.size its.toArray n y (by rw [sA];omega)) ⟨eD8,?_⟩;have I9:Inv (zV X sc T idx HH.objs.size s2 H2 fp) [] (τ'++zGG σ idx) H8 s8:=I8.pins_of (λp hp=>nomatch hp);have up: ∀b o,b≠s2.heap.objs.size->s8.heap.get? b=some o->(s8.heap.update s2.heap.objs.size (Obj.mapSeq λz=>z.push y)).get? b=some o:=λb o hb e=>(Heap.get?_update_other s8.heap _ (Ne.symm hb)).trans e;refine⟨m',hm',i+1,ys++[yv],its++[y],_,H8,τ',I9.turned (t':=s8.toks) up nD8 hDC (.inr (le_refl _)) cD (λp hp=>nomatch hp),l6,?_,λb hb=>?_,q,nD8,r3.append (.cons r8 .nil),w8⟩
    ·exact Tn.keep _ _ _ st5 λb hb o e=>up b o (ne_of_lt (hlt b hb)) (I8.pin _ (mF b hb o e)).1
    ·obtain⟨o,e,d⟩:=Tn.obj _ _ st5 b hb;exact(I8.pin _ (mF b hb o e)).2.1
 exact codeAny_compStart_list (loop _ rfl) (Tn.self X.A 0 _ _ _ (Tn.keep _ _ _ st2 λb _ o e=>old b o e) (loop _ rfl))
def yFP{elt tg iter:Expr}{ifs:Bd}{pos:Pos}{sc:Scope}{wi:TI}{g:TG}{tc:Addr->Shared->Hp->List Addr->TT}{te:Addr->Shared->Hp->List Addr->TE}(T:Ai)(idx:Ab)
  (hi:PI X tg iter wi) (hcalm:X.calm=true) (hB:zHV X.env.scope X.N sc idx=true)
  (hg: ∀C s₂ H1 fp,PG (zV X sc T idx C s₂ H1 fp) tg g)
  (hc: ∀C s₂ H1 fp,zYG (zV X sc T idx C s₂ H1 fp) ifs (tc C s₂ H1 fp))
  (he: ∀C s₂ H1 fp,PE (zV X sc T idx C s₂ H1 fp) elt (te C s₂ H1 fp))
  (hs: ∀x,foldedSetIterable iter X.env x=pure x:=by intro _;rfl):
  PE X (.ListComp elt [⟨tg,iter,ifs,0⟩] sc pos) (yAL wi g tc te T.length idx):=by
 intro pins s σ H Q I h;rw [eval_ListComp];exact zQR T idx hi hcalm hB hg hc he hs (use:=none) I h λD C s4 H' r J _ ⟨m,hn⟩ q=>⟨m,hn,λh' hs'=>⟨.ref D,H',J h' hs',rfl,q⟩⟩
end
def mkS(x:Ab):Str:=⟨x.toArray⟩
def wT(x:Ab):(mkS x).length=x.length:=by simp [mkS,Str.length]
def zDW(x:Ab):(mkS x).cps.toList=x:=by simp [mkS]
def zDX{x y:Ab}(h:mkS x=mkS y):x=y:=by have:=congrArg (λs=>s.cps.toList) h;simpa [mkS]using this
def yFQ(x y:Ab):mkS x++mkS y=mkS (x++y):=by show Str.append (mkS x) (mkS y)=_;simp [Str.append,mkS]
theorem yFR(c:Nat):(⟨#[c]⟩:Str)=mkS [c]:=rfl
def jW{α:Type}(xs:List α)(lo hi:Bc):List α:=(xs.drop (HT.sIx xs.length 0 lo)).take (HT.sIx xs.length xs.length hi - HT.sIx xs.length 0 lo)
theorem strIdx(lo hi:Bc)(n:Nat):Builtin.Str.strSliceIndices lo hi 1 n=(List.range (HT.sIx n n hi - HT.sIx n 0 lo)).map (HT.sIx n 0 lo+·):=by
 have e1:(match lo with |none=>(if(1:Int)>0 then(0:Int)else(n:Int) - 1)|some i=>if(1:Int)>0 then max 0 (min (if i<0 then i+(n:Int)else i) (n:Int))else max (-1) (min (if i<0 then i+(n:Int)else i) ((n:Int) - 1)))=((HT.sIx n 0 lo:Nat):Int):=by
  cases lo with
  |none=>simp [HT.sIx]
  |some i=>
   simp only [HT.sIx,show(1:Int)>0 by decide,if_true];by_cases h:i<0
   ·simp only [h,if_true];omega
   ·simp only [h,iF];omega
 have e2:(match hi with |none=>(if(1:Int)>0 then(n:Int)else -1)|some i=>if(1:Int)>0 then max 0 (min (if i<0 then i+(n:Int)else i) (n:Int))else max (-1) (min (if i<0 then i+(n:Int)else i) ((n:Int) - 1)))=((HT.sIx n n hi:Nat):Int):=by
  cases hi with
  |none=>simp [HT.sIx]
  |some i=>
   simp only [HT.sIx,show(1:Int)>0 by decide,if_true];by_cases h:i<0
   ·simp only [h,if_true];omega
   ·simp only [h,iF];omega
 rw [<-sliceRange_one];unfold Builtin.Str.strSliceIndices;dsimp only;rw [<-e1, <-e2];cases lo<;>cases hi<;>rfl
theorem zYI(x:Ab)(lo hi:Bc):Txt.slice (mkS x) lo hi=mkS (jW x lo hi):=by
 unfold Txt.slice;rw [strIdx,wT];have hp:((List.range (HT.sIx x.length x.length hi - HT.sIx x.length 0 lo)).map (HT.sIx x.length 0 lo+·)).filterMap ((mkS x).cps[·]?)=jW x lo hi:=by have:=pick_run (mkS x).cps (HT.sIx x.length 0 lo) (HT.sIx x.length x.length hi - HT.sIx x.length 0 lo);rw [zDW]at this;exact this
 rw [hp];split
 ·rename_i hc;rw [aE]at hc;have hl:HT.sIx x.length x.length hi - HT.sIx x.length 0 lo=x.length:=by simpa using hc.2
  have h2:HT.sIx x.length x.length hi<=x.length:=HT.sIx_le _ _ (le_refl _) _;have h3:HT.sIx x.length 0 lo<=x.length:=HT.sIx_le _ _ (zero_le _) _;have e:HT.sIx x.length 0 lo=0:=by omega
  unfold jW;rw [hl,e];simp
 ·rfl
section
variable{X:Cx}
def rSlS:V->Option Int->Option Int->Hp->VK->Prop:=λx lo hi H Q=> ∃cs,x=.str (mkS cs)/\cs.length<=sizeLine/\Q (.str (mkS (jW cs lo hi))) H
def yKW:SlR X rSlS:=by
 intro pins s σ H x v vl vu lo hi sl Q I rx hs pl pu h;obtain⟨cs,rfl,hz,q⟩:=h;obtain⟨t,rfl⟩:=rx;have hl:(Txt.slice (mkS cs) lo hi).length<=sizeLine:=le_trans (Txt.slice_le _ _ _) (by rw [wT];exact hz);rw [<-zYI]at q;refine⟨"str",_,slot_str_getitem.lookup,typeIs_str _ _ _,?_⟩;obtain⟨o,ho,hc,hd⟩:=hs
 cases pl with
 |none=>
  cases pu with
  |none=>exact wpAny_getItem_str_slice (l:=none) (u:=none) (st:=none) ⟨o,ho,hc,hd⟩ rfl (post_val_or_str ⟨hl,λt' k=>⟨.str _,H,I.tok _,⟨_,rfl⟩,q⟩⟩)
  |int j uj=>exact wpAny_getItem_str_slice (l:=none) (u:=some (j,uj)) (st:=none) ⟨o,ho,hc,hd⟩ rfl (post_val_or_str ⟨hl,λt' k=>⟨.str _,H,I.tok _,⟨_,rfl⟩,q⟩⟩)
 |int i ui=>
  cases pu with
  |none=>exact wpAny_getItem_str_slice (l:=some (i,ui)) (u:=none) (st:=none) ⟨o,ho,hc,hd⟩ rfl (post_val_or_str ⟨hl,λt' k=>⟨.str _,H,I.tok _,⟨_,rfl⟩,q⟩⟩)
  |int j uj=>exact wpAny_getItem_str_slice (l:=some (i,ui)) (u:=some (j,uj)) (st:=none) ⟨o,ho,hc,hd⟩ rfl (post_val_or_str ⟨hl,λt' k=>⟨.str _,H,I.tok _,⟨_,rfl⟩,q⟩⟩)
def zJC(cs:Ab)(k:Int):List Nat:=(List.replicate k.toNat cs).flatten
theorem zGH(cs:Ab): ∀(k:Nat)(acc:Ab),List.foldl (λx1 x2=>x1++x2) acc.toArray (List.replicate k cs.toArray)=(acc++(List.replicate k cs).flatten).toArray
 |0,acc=>by simp
 |k+1,acc=>by rw [replicate_succ,foldl_cons,replicate_succ,flatten_cons, <-aA, <-zGH cs k (acc++cs)];simp
def zTO:OpR X (binaryOp .Mult) (λx y H Q=> ∃cs k,x=.str (mkS cs)/\y=.int k/\0<=k/\k<1000/\cs.length<=1000/\Q (.str (mkS (zJC cs k))) H):=by
 intro pins s σ H x y v u Q I rx ry h;obtain⟨cs,k,rfl,rfl,h0,h1,hc,q⟩:=h;obtain⟨t,rfl⟩:=rx;obtain⟨t',rfl⟩:=ry;have hs:sizeLine=16777216:=sizeLine_eq;have hprod:cs.length * k.toNat<=1000 * 1000:=Nat.mul_le_mul hc (by omega);have e: ∀b,Q (.str b) H->b=mkS (zJC cs k)->True:=λ_ _ _=>trivial;refine PySem.P.mul_str (by rw [dF0 (by omega),dF0 (by omega)];rfl) (λh2 _=>?_) (λ_ _=>?_) ?_
 ·rw [wT];have hk:1<=k:=by omega
  have:(1000:Int)<=(2 ^ 63 - 1) / k:=by rw [Int.le_ediv_iff_mul_le (by omega)];omega
  omega
 ·rw [wT];unfold PySem.Builtin.Str.tooLong;exact dF0 (by omega)
 ·have made: ∀(z:Str),z=mkS (zJC cs k)->z.length<=sizeLine->(Made.str z).post (EP X pins σ Q) s:=λz ez hz=>⟨hz,by rw [ez];exact⟨.str _,H,I.tok _,⟨_,rfl⟩,q⟩⟩
  have hlen:(zJC cs k).length=k.toNat * cs.length:=by unfold zJC;rw [len_rep]
  by_cases hn:k<1
  ·rw [iP hn];have hk:k.toNat=0:=by omega
   refine made _ ?_ (by decide);unfold zJC;rw [hk];rfl
  ·rw [iN hn];by_cases h3:(k==1 || (mkS cs).length==0)=true
   ·rw [iP h3];refine⟨.str (mkS cs),H,I,⟨_,rfl⟩,?_⟩
    have:zJC cs k=cs:=by
     unfold zJC;rw [or_eq_true]at h3;rcases h3 with h3|h3
     ·have:k=1:=by simpa using h3
      subst this;simp
     ·rw [wT]at h3;have:cs=[]:=by cases cs with |nil=>rfl|cons _ _=>simp at h3
      subst this;simp
    rw [this]at q;exact q
   ·rw [iN h3];refine made _ ?_ ?_
    ·unfold zJC mkS;have:=zGH cs k.toNat [];rw [nil_append]at this;exact congrArg Str.mk this
    ·have e3:(List.foldl (λx1 x2=>x1++x2) #[] (List.replicate k.toNat (mkS cs).cps))=(zJC cs k).toArray:=by have:=zGH cs k.toNat [];rw [nil_append]at this;exact this
     show(List.foldl (λx1 x2=>x1++x2) #[] (List.replicate k.toNat (mkS cs).cps)).size<=sizeLine;rw [e3,sA,hlen,Nat.mul_comm];omega
def zOD:CallR X (.builtin "all") (λxs H Q=> ∃(a:Addr)(bs:Bb),xs=[.ref a]/\SqL X.K H a (bs.map V.bl)/\X.calm=true/\Q (.bl (bs.all id)) H):=by
 intro pins s σ H xs us Q I r h;obtain⟨a,bs,rfl,hq,hc,q⟩:=h;obtain⟨u,rfl,ru⟩:=vals1 r;cases ru;obtain⟨its,rv,pl,hz⟩:=I.list hq;have hlen:its.length=bs.length:=by rw [<-rv.length,lM]
 refine PySem.call_all_walk (wpAny_pyIter_list pl.isList ?_);have hI:a≠s.heap.objs.size:=by obtain⟨o,ho,_⟩:=pl.isList;exact ne_of_lt (Heap.lt_size ho)
 have I1: ∀(h':Heap)(tk:Nat),(∀b o,b∉[s.heap.objs.size]->(s.heap.push {cls:=.type "list_iterator",data:=.fields #[.ref a,.int 0 0]}).get? b=some o->h'.get? b=some o)->Inv X pins σ H {s with heap:=h',toks:=tk}:=λh' tk k=>
  I.kept λb o e=>k b o (by simpa using ne_of_lt (Heap.lt_size e)) (hP0 _ e)
 refine⟨s.heap.objs.size,[s.heap.objs.size,a],[s.heap.objs.size],its.toArray.size,_,_,λi=>bs.getD i false,rfl,PySem.Walks.list (by first |exact I.ok.hd hc|exact(show X.A.in1.handled=none from I.ok.hd hc)) _ a hI its.toArray,⟨⟨_,Heap.get?_push_size _ rfl,rfl,rfl⟩,pl.isList.at λo e=>hP0 _ e⟩,?_,λh' tk k=>?_⟩
 ·intro i v s' Q' E' hv hQ';have hv':its[i]? =some v:=by simpa using hv
  have hi:i<bs.length:=by rw [<-hlen];exact(gS0.mp hv').1
  have hb:(bs.map V.bl)[i]? =some (V.bl (bs.getD i false)):=by rw [getElem?_map,gE0 hi];simp [getD_eq_getElem?_getD,hi]
  obtain⟨u',hu',rv'⟩:=rv.get hb;rw [hv']at hu';cases hu';cases rv';exact wpAny_truthy_bool hQ'
 ·refine⟨.bl (bs.all id),H,I1 h' tk k,?_,q⟩;show Value.bool _=Value.bool _;congr 1;rw [sA,hlen]
  have: ∀(l:Bb),(List.range l.length).all (λi=>l.getD i false)=l.all id:=by
   intro l;rw [Bool.eq_iff_iff,all_eq_true,all_eq_true];constructor
   ·intro h x hx;obtain⟨i,hi,rfl⟩:=getElem_of_mem hx;have:=h i (mem_range.mpr hi);simpa [getD_eq_getElem?_getD,hi]using this
   ·intro h i hi;have hi':=mem_range.mp hi;have:=h l[i] (getElem_mem hi');simpa [getD_eq_getElem?_getD,hi']using this
  exact this bs
def Its(x:Ab):It:=⟨λi _=>i<x.length,λi H v H'=>H'=H/\ ∃c,x[i]? =some c/\v=.str (mkS [c]),λi _=>x.length<=i⟩
def iStr(tl:TE):TI:=λσ H R=>tl σ H λv H1=> ∃x,v=.str (mkS x)/\R (Its x) H1
def zQS{P:Program}{w:World}{K:Be}{tg:Expr}(it:Addr)(ty:String)(x:Ab)(t:Tok)(hty:ty="str_ascii_iterator"\/ty="str_iterator"):
  Turn P w K tg (Its x) [it] it (λi h=>h.IsStrIter it ty (mkS x) t i) where
 mem:=by simp
 obj:=λi h st b hb=>by
  have e:b=it:=by simpa using hb
  subst e;obtain⟨o,e,c,d⟩:=st;exact⟨o,e,λv z=>by rw [d]at z;cases z⟩
 keep:=λi h h' st k=>let ⟨o,ho,r⟩:=st;⟨o,k it (by simp) o ho,r⟩
 item:=by
  intro X hP hw hK hc i pins s σ H E I hf st hg;subst hP hw hK;obtain⟨f0,f1,f2,f3,f4,f5⟩:=hf it (by simp);have hi:i<x.length:=hg;have hxi:(mkS x).cps[i]? =some x[i]:=by simp [mkS,hi]
  have fin: ∀(h':Heap),h'.IsStrIter it ty (mkS x) t (i+1)->Heap.SameBut it s.heap h'-> ∃u,some (Value.str ⟨#[x[i]]⟩ s.toks)=some u/\
    wpAny (model X.prog X.w) X.A (letOwnedTupleGo tg (.ref it) u) (λ_ s2=> ∃y H',Inv X pins σ H' s2/\RelV y u/\(Its x).yld i H y H'/\s2.heap.IsStrIter it ty (mkS x) t (i+1)/\ ∀b∈[it],H' b=none) E {s with heap:=h',toks:=s.toks+1}:=λh' st' sb=>by
   have I1:Inv X pins σ H {s with heap:=h',toks:=s.toks+1}:=I.turned (λb o hb e=>(sb.2 b hb).trans e) f0 f1 f3 f4 f5;obtain⟨o,e,c,d⟩:=id st';refine⟨_,rfl,zVE (s:={s with heap:=h',toks:=s.toks+1}) e c d (by rcases hty with rfl|rfl<;>decide) ⟨.str (mkS [x[i]]),H,I1,⟨_,rfl⟩,⟨rfl,x[i],by simp [hi],rfl⟩,st',λb hb=>(hf b hb).1⟩⟩
  rcases hty with rfl|rfl
  ·exact wpAny_pyNext_ascii_item st hxi λh' st' sb=>fin h' st' sb
  ·exact wpAny_pyNext_wide_item st hxi λh' st' sb=>fin h' st' sb
 done:=by
  intro X hP hw hK hc i pins s σ H E I hf st hg;subst hP hw hK;obtain⟨f0,f1,f2,f3,f4,f5⟩:=hf it (by simp);have hi:x.length<=i:=hg;have hxi:(mkS x).cps[i]? =none:=by simp [mkS,hi]
  rcases hty with rfl|rfl
  ·exact wpAny_pyNext_ascii_end (I.ok.hd hc) st hxi λh' eb=>⟨rfl,I.turned (t':=s.toks) (λb o hb e=>eb b o hb e) f0 f1 f3 f4 f5⟩
  ·exact wpAny_pyNext_wide_end (I.ok.hd hc) st hxi λh' eb=>⟨rfl,I.turned (t':=s.toks) (λb o hb e=>eb b o hb e) f0 f1 f3 f4 f5⟩
 self:=λ_ _ _ _ _ st h=>by
  rcases hty with rfl|rfl
  ·exact wpAny_pyIter_striter_ascii st h
  ·exact wpAny_pyIter_striter_wide st h
def yKX{tg l:Expr}{tl:TE}(hl:PE X l tl):PI X tg l (iStr tl):=by
 intro pins s σ H R I h;refine thn (hl pins s σ H _ I h) λv s1 ⟨x,H1,I1,r1,q1⟩=>?_;obtain⟨cs,e,q⟩:=q1;subst e;obtain⟨t,rfl⟩:=r1
 have fp: ∀(o:Obj), ∀b∈[s1.heap.objs.size],zEN X pins H1 b:=λo b hb=>by
  have e:b=s1.heap.objs.size:=by simpa using hb
  subst e;exact I1.fpOk (le_refl _) (I1.hok.fresh (le_refl _))
 cases ha:(mkS cs).cps.all (· <128)
 ·refine wpAny_pyIter_wide ha ?_;exact⟨s1.heap.objs.size,[s1.heap.objs.size],_,_,H1,rfl,I1.kept (t':=s1.toks) λb o e=>hP0 _ e,zQS _ "str_iterator" cs t (.inr rfl),⟨_,Heap.get?_push_size _ rfl,rfl,rfl⟩,fp default,q⟩
 ·refine wpAny_pyIter_ascii ha ?_;exact⟨s1.heap.objs.size,[s1.heap.objs.size],_,_,H1,rfl,I1.kept (t':=s1.toks) λb o e=>hP0 _ e,zQS _ "str_ascii_iterator" cs t (.inl rfl),⟨_,Heap.get?_push_size _ rfl,rfl,rfl⟩,fp default,q⟩
end
section
variable{X:Cx}
def PU(X:Cx)(e:Expr)(t:TE):Prop:= ∀(i:Nat)(x:Str)(pos' pos:Pos),X.N.Nodup->X.N[i]? =some x->Loc X.env.scope x->(X.fn x=true\/X.env.scope.names.lookup x=some .local)->
 swapsWith e (some (.Name x pos')) pos.line X.env=pure true->PS X (.Assign [.Name x pos'] e pos) (tAsg t (zZY i))
def yFS{elt tg iter:Expr}{ifs:Bd}{pos:Pos}{sc:Scope}{wi:TI}{g:TG}{tc:Addr->Shared->Hp->List Addr->TT}{te:Addr->Shared->Hp->List Addr->TE}(T:Ai)(idx:Ab)
  (hi:PI X tg iter wi) (hcalm:X.calm=true) (hB:zHV X.env.scope X.N sc idx=true)
  (hg: ∀C s₂ H1 fp,PG (zV X sc T idx C s₂ H1 fp) tg g)
  (hc: ∀C s₂ H1 fp,zYG (zV X sc T idx C s₂ H1 fp) ifs (tc C s₂ H1 fp))
  (he: ∀C s₂ H1 fp,PE (zV X sc T idx C s₂ H1 fp) elt (te C s₂ H1 fp))
  (hs: ∀x,foldedSetIterable iter X.env x=pure x:=by intro _;rfl):
  PU X (.ListComp elt [⟨tg,iter,ifs,0⟩] sc pos) (yAL wi g tc te T.length idx):=by
 intro i x pos' spos hN hix hx hf hsw pins s σ H D I h;rw [exec_Assign_Name_used _ _ _ _ hsw];refine wB0 (wpAny_standAt (wB0 ?_));rw [arm_evalThenUse_ListComp];refine wB0 (thn (zQR T idx hi hcalm hB hg hc he hs (use:=some (assign (.Name x pos') X.env)) (Q':=λ_ s'=> ∃σ' H',Inv X pins σ' H' s'/\D.nx σ' H') I h λDd C s4 H' _ J4 fo hm q=>?_) λ_ s' hq=>wP0 (wP0 hq));have I4:=J4 s4.heap (Heap.SameBut.refl _ _);refine wpAny_assign_Name (zMD I4 hN hix hx (show RelV (.ref Dd) (.ref Dd)from rfl) (λs' I' ⟨a,hs',ha⟩=>?_) hf);obtain⟨m,hm⟩:=hm
 have hCa:C≠a:=by
  rintro rfl;rcases ha with ha|ha
  ·exact fo.2.1 ha
  ·exact fo.2.2.2.2.1 x _ ha rfl
 refine⟨m,hm.sameBut hs' hCa,λh' hs''=>⟨_,H',?_,q⟩⟩;exact I'.turned (t':=s'.toks) (λb o hb e=>(hs''.2 b hb).trans e) fo.1 fo.2.1 fo.2.2.2.1 fo.2.2.2.2.1 fo.2.2.2.2.2
end
end L2
namespace L2
namespace M
open PySem PySem.Spec PyProof.Rows
def yKY{A:Around}{s:Shared}{y x:V}{u v:Value}(ry:RelV y u)(rx:RelV x v)(fy:wF y=true)(fx:wF x=true):SeqAt.RcAt A s u v (eqV y x):=by
 cases y with
 |non=>
  cases ry
  cases x with
  |non=>cases rx;exact SeqAt.RcAt.none_none
  |bl b=>cases rx;exact SeqAt.RcAt.none_bool b
  |int b=>obtain⟨t,rfl⟩:=rx;exact SeqAt.RcAt.none_int b t
  |str b=>obtain⟨t,rfl⟩:=rx;exact SeqAt.RcAt.none_str b t
  |_=>exact absurd (show false=true from fx) xF0
 |bl a=>
  cases ry
  cases x with
  |non=>cases rx;exact SeqAt.RcAt.bool_none a
  |bl b=>cases rx;exact SeqAt.RcAt.bool_bool a b
  |int b=>obtain⟨t,rfl⟩:=rx;exact SeqAt.RcAt.bool_int a b t
  |str b=>obtain⟨t,rfl⟩:=rx;exact SeqAt.RcAt.bool_str a b t
  |_=>exact absurd (show false=true from fx) xF0
 |int a=>
  obtain⟨t',rfl⟩:=ry
  cases x with
  |non=>cases rx;exact SeqAt.RcAt.int_none a t'
  |bl b=>cases rx;exact SeqAt.RcAt.int_bool a t' b
  |int b=>obtain⟨t,rfl⟩:=rx;exact SeqAt.RcAt.int_int a t' b t
  |str b=>obtain⟨t,rfl⟩:=rx;exact SeqAt.RcAt.int_str a t' b t
  |_=>exact absurd (show false=true from fx) xF0
 |str a=>
  obtain⟨t',rfl⟩:=ry
  cases x with
  |non=>cases rx;exact SeqAt.RcAt.str_none a t'
  |bl b=>cases rx;exact SeqAt.RcAt.str_bool a t' b
  |int b=>obtain⟨t,rfl⟩:=rx;exact SeqAt.RcAt.str_int a t' b t
  |str b=>obtain⟨t,rfl⟩:=rx;exact SeqAt.RcAt.str_str a t' b t
  |_=>exact absurd (show false=true from fx) xF0
 |_=>exact absurd (show false=true from fy) xF0
def yKZ{A:Around}{s:Shared}{y x:V}{u v:Value}(ry:RelV y u)(rx:RelV x v)(fy:wF y=true)(fx:wF x=true):SeqAt.RcNeAt A s u v (!eqV y x):=by
 cases y with
 |non=>
  cases ry
  cases x with
  |non=>cases rx;exact SeqAt.RcNeAt.none_none
  |bl b=>cases rx;exact SeqAt.RcNeAt.none_bool b
  |int b=>obtain⟨t,rfl⟩:=rx;exact SeqAt.RcNeAt.none_int b t
  |str b=>obtain⟨t,rfl⟩:=rx;exact SeqAt.RcNeAt.none_str b t
  |_=>exact absurd (show false=true from fx) xF0
 |bl a=>
  cases ry
  cases x with
  |non=>cases rx;exact SeqAt.RcNeAt.bool_none a
  |bl b=>cases rx;exact SeqAt.RcNeAt.bool_bool a b
  |int b=>obtain⟨t,rfl⟩:=rx;exact SeqAt.RcNeAt.bool_int a b t
  |str b=>obtain⟨t,rfl⟩:=rx;exact SeqAt.RcNeAt.bool_str a b t
  |_=>exact absurd (show false=true from fx) xF0
 |int a=>
  obtain⟨t',rfl⟩:=ry
  cases x with
  |non=>cases rx;exact SeqAt.RcNeAt.int_none a t'
  |bl b=>cases rx;exact SeqAt.RcNeAt.int_bool a t' b
  |int b=>obtain⟨t,rfl⟩:=rx;exact SeqAt.RcNeAt.int_int a t' b t
  |str b=>obtain⟨t,rfl⟩:=rx;exact SeqAt.RcNeAt.int_str a t' b t
  |_=>exact absurd (show false=true from fx) xF0
 |str a=>
  obtain⟨t',rfl⟩:=ry
  cases x with
  |non=>cases rx;exact SeqAt.RcNeAt.str_none a t'
  |bl b=>cases rx;exact SeqAt.RcNeAt.str_bool a t' b
  |int b=>obtain⟨t,rfl⟩:=rx;exact SeqAt.RcNeAt.str_int a t' b t
  |str b=>obtain⟨t,rfl⟩:=rx;exact SeqAt.RcNeAt.str_str a t' b t
  |_=>exact absurd (show false=true from fx) xF0
 |_=>exact absurd (show false=true from fy) xF0
def eq_ll{A:Around}{s:Shared}{x:V}{v:Value}{l:Addr}{items:Ag}(rx:RelV x v)(fx:wF x=true)(hl:s.heap.IsList l items)(hu:A.units<cLine):SeqAt.EqAt A s (.ref l) v false:=by
 cases x with
 |non=>cases rx;exact SeqAt.EqAt.list_none hl hu
 |bl b=>cases rx;exact SeqAt.EqAt.list_bool b hl hu
 |int b=>obtain⟨t,rfl⟩:=rx;exact SeqAt.EqAt.list_int b t hl hu
 |str b=>obtain⟨t,rfl⟩:=rx;exact SeqAt.EqAt.list_str b t hl hu
 |_=>exact absurd (show false=true from fx) xF0
def eq_lr{A:Around}{s:Shared}{x:V}{v:Value}{l:Addr}{items:Ag}(rx:RelV x v)(fx:wF x=true)(hl:s.heap.IsList l items)(hu:A.units<cLine):SeqAt.EqAt A s v (.ref l) false:=by
 cases x with
 |non=>cases rx;exact SeqAt.EqAt.none_list hl hu
 |bl b=>cases rx;exact SeqAt.EqAt.bool_list b hl hu
 |int b=>obtain⟨t,rfl⟩:=rx;exact SeqAt.EqAt.int_list b t hl hu
 |str b=>obtain⟨t,rfl⟩:=rx;exact SeqAt.EqAt.str_list b t hl hu
 |_=>exact absurd (show false=true from fx) xF0
def eq_tl{A:Around}{s:Shared}{x:V}{v:Value}{l:Addr}{items:Ag}(rx:RelV x v)(fx:wF x=true)(hl:s.heap.IsTuple l items)(hu:A.units<cLine):SeqAt.EqAt A s (.ref l) v false:=by
 cases x with
 |non=>cases rx;exact SeqAt.EqAt.tuple_none hl hu
 |bl b=>cases rx;exact SeqAt.EqAt.tuple_bool b hl hu
 |int b=>obtain⟨t,rfl⟩:=rx;exact SeqAt.EqAt.tuple_int b t hl hu
 |str b=>obtain⟨t,rfl⟩:=rx;exact SeqAt.EqAt.tuple_str b t hl hu
 |_=>exact absurd (show false=true from fx) xF0
def eq_tr{A:Around}{s:Shared}{x:V}{v:Value}{l:Addr}{items:Ag}(rx:RelV x v)(fx:wF x=true)(hl:s.heap.IsTuple l items)(hu:A.units<cLine):SeqAt.EqAt A s v (.ref l) false:=by
 cases x with
 |non=>cases rx;exact SeqAt.EqAt.none_tuple hl hu
 |bl b=>cases rx;exact SeqAt.EqAt.bool_tuple b hl hu
 |int b=>obtain⟨t,rfl⟩:=rx;exact SeqAt.EqAt.int_tuple b t hl hu
 |str b=>obtain⟨t,rfl⟩:=rx;exact SeqAt.EqAt.str_tuple b t hl hu
 |_=>exact absurd (show false=true from fx) xF0
def rc_ll{A:Around}{s:Shared}{x:V}{v:Value}{l:Addr}{items:Ag}(rx:RelV x v)(fx:wF x=true)(hl:s.heap.IsList l items)(hu:A.units<cLine):SeqAt.RcAt A s (.ref l) v false:=by
 cases x with
 |non=>cases rx;exact SeqAt.RcAt.list_none hl hu
 |bl b=>cases rx;exact SeqAt.RcAt.list_bool b hl hu
 |int b=>obtain⟨t,rfl⟩:=rx;exact SeqAt.RcAt.list_int b t hl hu
 |str b=>obtain⟨t,rfl⟩:=rx;exact SeqAt.RcAt.list_str b t hl hu
 |_=>exact absurd (show false=true from fx) xF0
def rc_lr{A:Around}{s:Shared}{x:V}{v:Value}{l:Addr}{items:Ag}(rx:RelV x v)(fx:wF x=true)(hl:s.heap.IsList l items)(hu:A.units<cLine):SeqAt.RcAt A s v (.ref l) false:=by
 cases x with
 |non=>cases rx;exact SeqAt.RcAt.none_list hl hu
 |bl b=>cases rx;exact SeqAt.RcAt.bool_list b hl hu
 |int b=>obtain⟨t,rfl⟩:=rx;exact SeqAt.RcAt.int_list b t hl hu
 |str b=>obtain⟨t,rfl⟩:=rx;exact SeqAt.RcAt.str_list b t hl hu
 |_=>exact absurd (show false=true from fx) xF0
def rc_tl{A:Around}{s:Shared}{x:V}{v:Value}{l:Addr}{items:Ag}(rx:RelV x v)(fx:wF x=true)(hl:s.heap.IsTuple l items)(hu:A.units<cLine):SeqAt.RcAt A s (.ref l) v false:=by
 cases x with
 |non=>cases rx;exact SeqAt.RcAt.tuple_none hl hu
 |bl b=>cases rx;exact SeqAt.RcAt.tuple_bool b hl hu
 |int b=>obtain⟨t,rfl⟩:=rx;exact SeqAt.RcAt.tuple_int b t hl hu
 |str b=>obtain⟨t,rfl⟩:=rx;exact SeqAt.RcAt.tuple_str b t hl hu
 |_=>exact absurd (show false=true from fx) xF0
def rc_tr{A:Around}{s:Shared}{x:V}{v:Value}{l:Addr}{items:Ag}(rx:RelV x v)(fx:wF x=true)(hl:s.heap.IsTuple l items)(hu:A.units<cLine):SeqAt.RcAt A s v (.ref l) false:=by
 cases x with
 |non=>cases rx;exact SeqAt.RcAt.none_tuple hl hu
 |bl b=>cases rx;exact SeqAt.RcAt.bool_tuple b hl hu
 |int b=>obtain⟨t,rfl⟩:=rx;exact SeqAt.RcAt.int_tuple b t hl hu
 |str b=>obtain⟨t,rfl⟩:=rx;exact SeqAt.RcAt.str_tuple b t hl hu
 |_=>exact absurd (show false=true from fx) xF0
def rn_ll{A:Around}{s:Shared}{x:V}{v:Value}{l:Addr}{items:Ag}(rx:RelV x v)(fx:wF x=true)(hl:s.heap.IsList l items)(hu:A.units<cLine):SeqAt.RcNeAt A s (.ref l) v true:=by
 cases x with
 |non=>cases rx;exact SeqAt.RcNeAt.list_none hl hu
 |bl b=>cases rx;exact SeqAt.RcNeAt.list_bool b hl hu
 |int b=>obtain⟨t,rfl⟩:=rx;exact SeqAt.RcNeAt.list_int b t hl hu
 |str b=>obtain⟨t,rfl⟩:=rx;exact SeqAt.RcNeAt.list_str b t hl hu
 |_=>exact absurd (show false=true from fx) xF0
def rn_lr{A:Around}{s:Shared}{x:V}{v:Value}{l:Addr}{items:Ag}(rx:RelV x v)(fx:wF x=true)(hl:s.heap.IsList l items)(hu:A.units<cLine):SeqAt.RcNeAt A s v (.ref l) true:=by
 cases x with
 |non=>cases rx;exact SeqAt.RcNeAt.none_list hl hu
 |bl b=>cases rx;exact SeqAt.RcNeAt.bool_list b hl hu
 |int b=>obtain⟨t,rfl⟩:=rx;exact SeqAt.RcNeAt.int_list b t hl hu
 |str b=>obtain⟨t,rfl⟩:=rx;exact SeqAt.RcNeAt.str_list b t hl hu
 |_=>exact absurd (show false=true from fx) xF0
def rn_tl{A:Around}{s:Shared}{x:V}{v:Value}{l:Addr}{items:Ag}(rx:RelV x v)(fx:wF x=true)(hl:s.heap.IsTuple l items)(hu:A.units<cLine):SeqAt.RcNeAt A s (.ref l) v true:=by
 cases x with
 |non=>cases rx;exact SeqAt.RcNeAt.tuple_none hl hu
 |bl b=>cases rx;exact SeqAt.RcNeAt.tuple_bool b hl hu
 |int b=>obtain⟨t,rfl⟩:=rx;exact SeqAt.RcNeAt.tuple_int b t hl hu
 |str b=>obtain⟨t,rfl⟩:=rx;exact SeqAt.RcNeAt.tuple_str b t hl hu
 |_=>exact absurd (show false=true from fx) xF0
def rn_tr{A:Around}{s:Shared}{x:V}{v:Value}{l:Addr}{items:Ag}(rx:RelV x v)(fx:wF x=true)(hl:s.heap.IsTuple l items)(hu:A.units<cLine):SeqAt.RcNeAt A s v (.ref l) true:=by
 cases x with
 |non=>cases rx;exact SeqAt.RcNeAt.none_tuple hl hu
 |bl b=>cases rx;exact SeqAt.RcNeAt.bool_tuple b hl hu
 |int b=>obtain⟨t,rfl⟩:=rx;exact SeqAt.RcNeAt.int_tuple b t hl hu
 |str b=>obtain⟨t,rfl⟩:=rx;exact SeqAt.RcNeAt.str_tuple b t hl hu
 |_=>exact absurd (show false=true from fx) xF0
def yAP{y:V}(h:wF y=true):eqV y y=true:=by cases y<;>first |rfl|(simp [eqV];done)|exact absurd (show false=true from h) xF0
section
variable{prog:Program}{w:World}(knd:KeyKind prog w Key)




variable{knd}


end
section
variable{prog:Program}{w:World}
abbrev mk(prog:Program)(w:World):KeyKind prog w Key:=zZ prog w
end
end M
end L2
namespace L2
open PySem PySem.Spec PyProof.Rows
def Fly(h:Heap)(e T:Addr)(cls:Value)(d:Option Addr)(fl:Value):Prop:=
 ∃oe vs oT ts,h.get? e=some oe/\oe.cls=cls/\oe.dict=d/\oe.data=.fields vs/\vs[1]? =some (.ref T)/\T≠e/\h.get? T=some oT/\oT.data=.fields ts/\ts[3]? =some fl
structure Mvd(fs:Ah)(e T:Addr)(h h':Heap):Prop where
 keep: ∀b o,b≠e->b≠T->b∉fs->h.get? b=some o->h'.get? b=some o
 slot: ∀b o,b≠e->b≠T->h.get? b=some o-> ∃sl,h'.get? b=some {o with slots:=sl}
 there: ∀b o,h.get? b=some o-> ∃o',h'.get? b=some o'
def Mvd.new{fs:Ah}{e T T':Addr}{h h1 h2:Heap}(a:Mvd fs e T h h1)(n:h.get? T'=none)(b:Mvd fs e T' h1 h2):Mvd fs e T h h2:=by
 have ne: ∀c o,h.get? c=some o->c≠T':=λc o q z=>by rw [z,n]at q;cases q
 exact⟨λc o h1 h2 h3 q=>b.keep c o h1 (ne c o q) h3 (a.keep c o h1 h2 h3 q),λc o h1 h2 q=>by obtain⟨sl,e1⟩:=a.slot c o h1 h2 q;obtain⟨sl',e2⟩:=b.slot c _ h1 (ne c o q) e1;exact⟨sl',e2⟩,λc o q=>let ⟨o',e1⟩:=a.there c o q;b.there c o' e1⟩
def CXe(P:Program)(w:World):CXT:=λouter H s E x s'=> ∃e T C d H',x=.ref e/\s'.os=s.os/\AllBare s'.gens/\Un (frs outer) [] H H' s.heap s'.heap/\HOk P w H' s'.heap/\Fly s'.heap e T (.ref C) d .none/\
 s.heap.get? e=none/\s.heap.get? T=none/\H' e=none/\H' T=none/\E (.ref C) d H'
abbrev bmV:List Value:=[.type "ValueError",.type "Exception",.type "BaseException",.type "object"]
def qn:List Str:=["__class__","__getattribute__","__getattr__","__setattr__","place","number"]
end L2
namespace L2
namespace M
open PySem PySem.Spec PyProof.Rows
inductive MV where
 |non|bl (b:Bool)|int (i:Int)|str (x:Ab)|tup (ds:List MV)|scr (ds:List MV)|loc (l:Nat)|typ (n:String)|obj (c:Str) (ns:Ai) (ds:List MV)
abbrev Bh:=List MV
abbrev Bi:=Option MV
abbrev Bj:=List (Int×List MV)
abbrev Bk:=List (Nat×List MV)
abbrev Ca:=List (MV×MV)
instance:Inhabited MV:=⟨.non⟩
inductive MO where
 |lst (ds:Bh)|dic (kvs:Ca)|ins (c:Str) (fs:List (Str×MV))
abbrev Sto:=List MO
def SqF(K:Be)(H:Hp)(a:Addr)(xs:List V):Prop:=
 (∃o,H a=some (.frz o (.lst xs)))\/
  ∃(o:Obj)(its:Ag)(n:Nat),K.lookup a=some o/\o.cls=.type "list"/\o.dict=none/\o.data=.seq its n/\its.size<=sizeLine/\Vals xs its.toList
def SqF.l{K:Be}{H:Hp}{a:Addr}{xs:List V}(h:SqF K H a xs):SqL K H a xs:=by
 rcases h with⟨o,h⟩|h
 ·exact .inl (.inr ⟨o,h⟩)
 ·exact .inr h
mutual
def Den(K:Be)(α:Ah)(H:Hp):MV->V->Prop
 |.non,v=>v=.non
 |.bl b,v=>v=.bl b
 |.int i,v=>v=.int i
 |.str x,v=>v=.str (mkS x)
 |.tup ds,v=> ∃a vs,v=.ref a/\SqT K H a vs/\DenL K α H ds vs
 |.scr ds,v=> ∃a vs,v=.ref a/\SqF K H a vs/\DenL K α H ds vs
 |.loc l,v=> ∃a,v=.ref a/\α[l]? =some a
 |.typ n,v=>v=.ty n
 |.obj c ns ds,v=> ∃a C dx vs o,v=.ref a/\H a=some (.frz o (.ins C dx (ns.zip vs)))/\PySem.W.nsIn K mainGlobals c=some (some (.ref C))/\(PySem.W.clsIn K C).map (·.name)=some c/\ns.length=vs.length/\DenL K α H ds vs
def DenL(K:Be)(α:Ah)(H:Hp):List MV->List V->Prop
 |[],vs=>vs=[]
 |d::ds,vs=> ∃v r,vs=v::r/\Den K α H d v/\DenL K α H ds r
end

structure Ex0(α:Ah)(H:Hp)(α':Ah)(H':Hp):Prop where
 pre: ∃t,α'=α++t
 tup: ∀b xs,H b=some (.tup xs)->H' b=some (.tup xs)
 frz: ∀b o u,H b=some (.frz o u)->H' b=some (.frz o u)
structure Ext(α:Ah)(H:Hp)(α':Ah)(H':Hp):Prop extends Ex0 α H α' H' where
 new: ∀b∈α',b∈α\/H b=none
 keep: ∀b o,H b=some o->b∉α->H' b=some o
 has: ∀b o,H b=some o-> ∃o',H' b=some o'
section
variable{K:Be}{α α' α'':Ah}{H H' H'':Hp}
def Ext.refl(α:Ah)(H:Hp):Ext α H α H:=⟨⟨⟨[],by simp⟩,λ_ _ h=>h,λ_ _ _ h=>h⟩,λb h=>.inl h,λ_ _ h _=>h,λ_ o h=>⟨o,h⟩⟩
def Ex0.grow(α t:Ah)(H:Hp):Ex0 α H (α++t) H:=⟨⟨t,rfl⟩,λ_ _ h=>h,λ_ _ _ h=>h⟩
def Ext.free(x:Ext α H α' H'){b:Addr}(h:H' b=none):H b=none:=by
 cases e:H b with
 |none=>rfl
 |some o=>obtain⟨o',h'⟩:=x.has b o e;rw [h]at h';cases h'
def Ext.out(x:Ext α H α' H'){b:Addr}{o:HO}(h:H b=some o)(n:b∉α):b∉α':=λz=>by
 rcases x.new b z with z|z
 ·exact n z
 ·rw [h]at z;cases z
def Ext.trans(x:Ext α H α' H')(y:Ext α' H' α'' H''):Ext α H α'' H'' where
 pre:=by obtain⟨t,rfl⟩:=x.pre;obtain⟨u,rfl⟩:=y.pre;exact⟨t++u,by rw [aA]⟩
 new:=λb h=>(y.new b h).elim (x.new b) λz=>.inr (x.free z)
 keep:=λb o h n=>y.keep b o (x.keep b o h n) (x.out h n)
 has:=λb o h=>let ⟨o',h'⟩:=x.has b o h;y.has b o' h'
 tup:=λb xs h=>y.tup b xs (x.tup b xs h)
 frz:=λb o u h=>y.frz b o u (x.frz b o u h)
def Ex0.at(x:Ex0 α H α' H'){l:Nat}{a:Addr}(h:α[l]? =some a):α'[l]? =some a:=by obtain⟨t,rfl⟩:=x.pre;rw [getElem?_append_left (gS0.mp h).1];exact h
def Ex0.sqT(x:Ex0 α H α' H'){a:Addr}{vs:List V}(q:SqT K H a vs):SqT K H' a vs:=by
 rcases q with(q|⟨o,q⟩)|q
 ·exact .inl (.inl (x.tup a vs q))
 ·exact .inl (.inr ⟨o,x.frz a o _ q⟩)
 ·exact .inr q
def Ex0.sqF(x:Ex0 α H α' H'){a:Addr}{vs:List V}(q:SqF K H a vs):SqF K H' a vs:=by
 rcases q with⟨o,q⟩|q
 ·exact .inl ⟨o,x.frz a o _ q⟩
 ·exact .inr q
mutual
theorem Den.ex0(x:Ex0 α H α' H'): ∀{d:MV}{v:V},Den K α H d v->Den K α' H' d v
 |.non,_,q=>by unfold Den at q ⊢; exact q
 |.bl _,_,q=>by unfold Den at q ⊢; exact q
 |.int _,_,q=>by unfold Den at q ⊢; exact q
 |.str _,_,q=>by unfold Den at q ⊢; exact q
 |.typ _,_,q=>by unfold Den at q ⊢; exact q
 |.obj c ns ds,_,q=>by unfold Den at q ⊢;obtain⟨a,C,dx,vs,o,e,h,hn,hc,hl,l⟩:=q;exact⟨a,C,dx,vs,o,e,x.frz a _ _ h,hn,hc,hl,DenL.ex0 x l⟩
 |.loc _,_,q=>by unfold Den at q ⊢;obtain⟨a,e,h⟩:=q;exact⟨a,e,x.at h⟩
 |.tup ds,_,q=>by unfold Den at q ⊢;obtain⟨a,vs,e,s,l⟩:=q;exact⟨a,vs,e,x.sqT s,DenL.ex0 x l⟩
 |.scr ds,_,q=>by unfold Den at q ⊢;obtain⟨a,vs,e,s,l⟩:=q;exact⟨a,vs,e,x.sqF s,DenL.ex0 x l⟩
theorem DenL.ex0(x:Ex0 α H α' H'): ∀{ds:Bh}{vs:List V},DenL K α H ds vs->DenL K α' H' ds vs
 |[],_,q=>by unfold DenL at q ⊢; exact q
 |d::ds,_,q=>by unfold DenL at q ⊢;obtain⟨v,r,e,a,l⟩:=q;exact⟨v,r,e,Den.ex0 x a,DenL.ex0 x l⟩
end

def Den.ext(x:Ext α H α' H'){d:MV}{v:V}(q:Den K α H d v):Den K α' H' d v:=q.ex0 x.toEx0
def DenL.ext(x:Ext α H α' H'){d:Bh}{v:List V}(q:DenL K α H d v):DenL K α' H' d v:=q.ex0 x.toEx0
theorem zFC:Den K α H .non .non:=by unfold Den;rfl
theorem wY(b:Bool):Den K α H (.bl b) (.bl b):=by unfold Den;rfl
theorem xC(i:Int):Den K α H (.int i) (.int i):=by unfold Den;rfl
theorem cB(x:Ab):Den K α H (.str x) (.str (mkS x)):=by unfold Den;rfl
theorem yFT(n:String):Den K α H (.typ n) (.ty n):=by unfold Den;rfl
def zAW{ds:Bh}{a:Addr}{vs:List V}(s:SqT K H a vs)(l:DenL K α H ds vs):Den K α H (.tup ds) (.ref a):=by unfold Den;exact⟨a,vs,rfl,s,l⟩
def zVL{ds:Bh}{a:Addr}{vs:List V}(s:SqF K H a vs)(l:DenL K α H ds vs):Den K α H (.scr ds) (.ref a):=by unfold Den;exact⟨a,vs,rfl,s,l⟩
def zDY{l:Nat}{a:Addr}(h:α[l]? =some a):Den K α H (.loc l) (.ref a):=by unfold Den;exact⟨a,rfl,h⟩
def cQ{v:V}(d:Den K α H .non v):v=.non:=by unfold Den at d;exact d
def zAL{b:Bool}{v:V}(d:Den K α H (.bl b) v):v=.bl b:=by unfold Den at d;exact d
def yY{i:Int}{v:V}(d:Den K α H (.int i) v):v=.int i:=by unfold Den at d;exact d
def xG{x:Ab}{v:V}(d:Den K α H (.str x) v):v=.str (mkS x):=by unfold Den at d;exact d
def yFU{c:Str}{ns:Ai}{ds:Bh}{a C dx:Addr}{vs:List V}{o:Obj}(h:H a=some (.frz o (.ins C dx (ns.zip vs))))(hn:PySem.W.nsIn K mainGlobals c=some (some (.ref C)))(hc:(PySem.W.clsIn K C).map (·.name)=some c)(hl:ns.length=vs.length)(l:DenL K α H ds vs):Den K α H (.obj c ns ds) (.ref a):=by unfold Den;exact⟨a,C,dx,vs,o,rfl,h,hn,hc,hl,l⟩
def hX{c:Str}{ns:Ai}{ds:Bh}{v:V}(d:Den K α H (.obj c ns ds) v): ∃a C dx vs o,v=.ref a/\H a=some (.frz o (.ins C dx (ns.zip vs)))/\PySem.W.nsIn K mainGlobals c=some (some (.ref C))/\(PySem.W.clsIn K C).map (·.name)=some c/\ns.length=vs.length/\DenL K α H ds vs:=by unfold Den at d;exact d
def bO{n:String}{v:V}(d:Den K α H (.typ n) v):v=.ty n:=by unfold Den at d;exact d
def yZ{ds:Bh}{v:V}(d:Den K α H (.tup ds) v): ∃a vs,v=.ref a/\SqT K H a vs/\DenL K α H ds vs:=by unfold Den at d;exact d
def hZ{ds:Bh}{v:V}(d:Den K α H (.scr ds) v): ∃a vs,v=.ref a/\SqF K H a vs/\DenL K α H ds vs:=by unfold Den at d;exact d
def jA{l:Nat}{v:V}(d:Den K α H (.loc l) v): ∃a,v=.ref a/\α[l]? =some a:=by unfold Den at d;exact d
theorem yC:DenL K α H [] []:=by unfold DenL;rfl
def zX{d:MV}{v:V}{ds:Bh}{vs:List V}(a:Den K α H d v)(l:DenL K α H ds vs):DenL K α H (d::ds) (v::vs):=by unfold DenL;exact⟨v,vs,rfl,a,l⟩
def DenL.uncons{d:MV}{ds:Bh}{vs:List V}(l:DenL K α H (d::ds) vs): ∃v r,vs=v::r/\Den K α H d v/\DenL K α H ds r:=by unfold DenL at l;exact l
def DenL.isnil{vs:List V}(l:DenL K α H [] vs):vs=[]:=by unfold DenL at l;exact l
theorem DenL.length: ∀{ds:Bh}{vs:List V},DenL K α H ds vs->vs.length=ds.length
 |[],_,q=>by rw [q.isnil];rfl
 |d::ds,_,q=>by obtain⟨v,r,rfl,_,l⟩:=q.uncons;rw [lC,lC,DenL.length l]
theorem DenL.append: ∀{ds es:Bh}{vs us:List V},DenL K α H ds vs->DenL K α H es us->DenL K α H (ds++es) (vs++us)
 |[],_,_,_,q,l=>by rw [q.isnil];exact l
 |d::ds,_,_,_,q,l=>by obtain⟨v,r,rfl,a,l'⟩:=q.uncons;exact zX a (DenL.append l' l)
theorem DenL.drop: ∀{ds:Bh}{vs:List V}(n:Nat),DenL K α H ds vs->DenL K α H (ds.drop n) (vs.drop n)
 |_,_,0,q=>q
 |[],_,n+1,q=>by rw [q.isnil];exact yC
 |d::ds,_,n+1,q=>by obtain⟨v,r,rfl,_,l⟩:=q.uncons;exact DenL.drop n l
theorem DenL.take: ∀{ds:Bh}{vs:List V}(n:Nat),DenL K α H ds vs->DenL K α H (ds.take n) (vs.take n)
 |_,_,0,q=>yC
 |[],_,n+1,q=>by rw [q.isnil];exact yC
 |d::ds,_,n+1,q=>by obtain⟨v,r,rfl,a,l⟩:=q.uncons;exact zX a (DenL.take n l)
theorem DenL.reverse: ∀{ds:Bh}{vs:List V},DenL K α H ds vs->DenL K α H ds.reverse vs.reverse
 |[],_,q=>by rw [q.isnil];exact yC
 |d::ds,_,q=>by obtain⟨v,r,rfl,a,l⟩:=q.uncons;rw [reverse_cons,reverse_cons];exact(DenL.reverse l).append (zX a yC)
theorem DenL.set{d:MV}{v:V}(a:Den K α H d v): ∀{ds:Bh}{vs:List V}(n:Nat),DenL K α H ds vs->DenL K α H (ds.set n d) (vs.set n v)
 |[],_,_,q=>by rw [q.isnil];exact yC
 |e::ds,_,0,q=>by obtain⟨v',r,rfl,a',l⟩:=q.uncons;exact zX a l
 |e::ds,_,n+1,q=>by obtain⟨v',r,rfl,a',l⟩:=q.uncons;exact zX a' (DenL.set a n l)
theorem DenL.get: ∀{ds:Bh}{vs:List V}{i:Nat}{v:V},DenL K α H ds vs->vs[i]? =some v-> ∃d,ds[i]? =some d/\Den K α H d v
 |[],_,_,_,q,e=>by rw [q.isnil]at e;simp at e
 |d::ds,_,0,_,q,e=>by obtain⟨v,r,rfl,a,l⟩:=q.uncons;simp at e;subst e;exact⟨d,rfl,a⟩
 |d::ds,_,i+1,_,q,e=>by obtain⟨v,r,rfl,a,l⟩:=q.uncons;obtain⟨d',h1,h2⟩:=DenL.get (i:=i) l (by simpa using e);exact⟨d',by simpa using h1,h2⟩
def DenL.at{ds:Bh}{vs:List V}{i:Nat}{d:MV}(q:DenL K α H ds vs)(e:ds[i]? =some d): ∃v,vs[i]? =some v/\Den K α H d v:=by
 have hi:i<ds.length:=(gS0.mp e).1;have hv:i<vs.length:=by rw [q.length];exact hi
 obtain⟨d',h1,h2⟩:=q.get (gE0 hv);rw [e]at h1;cases h1;exact⟨_,gE0 hv,h2⟩
def DenL.cut{ds:Bh}{vs:List V}(q:DenL K α H ds vs)(lo hi:Bc):DenL K α H (jW ds lo hi) (zQO vs lo hi):=by unfold jW zQO;rw [q.length];exact(q.drop _).take _
theorem zMO: ∀(ns:Ad),DenL K α H (ns.map MV.int) (ns.map V.int)
 |[]=>yC
 |b::bs=>zX (xC b) (zMO bs)
end
structure Gm where
 K:PySem.W.Frag
 mg:Str->Option Value
 P:Program
 w:World
abbrev _root_.L2.Cx.g(X:Cx):Gm:=⟨X.K,X.mg,X.prog,X.w⟩
inductive DenF(K:Be)(α:Ah)(H:Hp):List (Str×MV)->List (Str×V)->Prop
 |nil:DenF K α H [] []
 |cons {x:Str} {d:MV} {v:V} {fs gs}:Den K α H d v->DenF K α H fs gs->DenF K α H ((x,d)::fs) ((x,v)::gs)
theorem DenF.ex0{K:Be}{α α':Ah}{H H':Hp}(x:Ex0 α H α' H'): ∀{fs gs},DenF K α H fs gs->DenF K α' H' fs gs
 |_,_,.nil=>.nil
 |_,_,.cons a l=>.cons (a.ex0 x) (DenF.ex0 x l)
def KeyD:MV->Key->Prop
 |.int i,k=>k=.inl i
 |.str x,k=>k=.inr (mkS x)
 |_,_=>False
inductive DenK(K:Be)(α:Ah)(H:Hp):List (MV×MV)->List (Key×V)->Prop
 |nil:DenK K α H [] []
 |cons {k:MV} {k':Key} {d:MV} {v:V} {fs gs}:KeyD k k'->Den K α H d v->DenK K α H fs gs->DenK K α H ((k,d)::fs) ((k',v)::gs)
theorem DenK.ex0{K:Be}{α α':Ah}{H H':Hp}(x:Ex0 α H α' H'): ∀{fs gs},DenK K α H fs gs->DenK K α' H' fs gs
 |_,_,.nil=>.nil
 |_,_,.cons k a l=>.cons k (a.ex0 x) (DenK.ex0 x l)

def ObD(g:Gm)(α:Ah)(H:Hp)(a:Addr):MO->Prop
 |.lst ds=> ∃vs,H a=some (.lst vs)/\DenL g.K α H ds vs
 |.dic kvs=>(∃ks,H a=some (.dK ks)/\DenK g.K α H kvs ks)\/False
 |.ins c fs=> ∃C gs,g.mg c=some (.ref C)/\DenF g.K α H fs gs/\
   ∃oe,H a=some (.ext λh=>h.get? a=some oe)/\oe.cls=.ref C/\(fs=[]\/ ∃dx od,oe.dict=some dx/\H dx=some (.frz od (.xd gs))/\ ∃vs,oe.data=.fields vs)
def ObD.there{g:Gm}{α:Ah}{H:Hp}{a:Addr}{o:MO}(h:ObD g α H a o): ∃ho,H a=some ho/\(∀xs,ho≠.tup xs)/\ ∀ob u,ho≠.frz ob u:=by
 cases o with
 |lst ds=>obtain⟨vs,h,_⟩:=h;exact⟨_,h,(λxs z=>by cases z),λ_ _ z=>by cases z⟩
 |dic ds=>
  rcases h with⟨vs,h,_⟩|z
  ·exact⟨_,h,(λxs z=>by cases z),λ_ _ z=>by cases z⟩
  ·exact False.elim z
 |ins c ds=>
  obtain⟨_,_,_,_,_,h,_⟩:=h;exact⟨_,h,(λxs z=>by cases z),λ_ _ z=>by cases z⟩
def ObD.move{g:Gm}{α α':Ah}{H H':Hp}{a:Addr}{o:MO}(h:ObD g α H a o)(x:Ex0 α H α' H')(e:H' a=H a):ObD g α' H' a o:=by
 cases o with
 |lst ds=>obtain⟨vs,h,l⟩:=h;exact⟨vs,e.trans h,l.ex0 x⟩
 |dic ds=>
  rcases h with⟨vs,h,l⟩|z
  ·exact .inl ⟨vs,e.trans h,l.ex0 x⟩
  ·exact False.elim z
 |ins c ds=>
  obtain⟨C,gs,m,l,oe,h,hc,hf⟩:=h;exact⟨C,gs,m,l.ex0 x,oe,e.trans h,hc,hf.imp id λ⟨dx,od,h1,h2,h3⟩=>⟨dx,od,h1,x.frz _ _ _ h2,h3⟩⟩
structure Wd(g:Gm)(α:Ah)(S:Sto)(H:Hp):Prop where
 len:α.length=S.length
 nd:α.Nodup
 obj: ∀(l:Nat)(a:Addr)(o:MO),α[l]? =some a->S[l]? =some o->ObD g α H a o
section
variable{g:Gm}{α α':Ah}{S S':Sto}{H H':Hp}
def Wd.at(w:Wd g α S H){l:Nat}{o:MO}(h:S[l]? =some o): ∃a,α[l]? =some a/\ObD g α H a o:=by
 have hl:l<α.length:=by rw [w.len];exact(gS0.mp h).1
 exact⟨α[l],gE0 hl,w.obj l _ o (gE0 hl) h⟩
def Wd.of(w:Wd g α S H){l:Nat}{a:Addr}(h:α[l]? =some a): ∃o,S[l]? =some o/\ObD g α H a o:=by
 have hl:l<S.length:=by rw [<-w.len];exact(gS0.mp h).1
 exact⟨S[l],gE0 hl,w.obj l a _ h (gE0 hl)⟩
def Wd.mem(w:Wd g α S H){a:Addr}(h:a∈α): ∃ho,H a=some ho/\(∀xs,ho≠.tup xs)/\ ∀ob u,ho≠.frz ob u:=by obtain⟨l,hl⟩:=getElem?_of_mem h;obtain⟨o,_,q⟩:=w.of hl;exact q.there
def Wd.newx(w:Wd g α S H){p:Addr}{o:HO}(hp:H p=none):Ext α H α (upd H p o) where
 pre:=⟨[],by simp⟩
 new:=λb h=>.inl h
 keep:=λb o h _=>by rw [zR (zU h hp)];exact h
 has:=λb o h=>⟨o,by rw [zR (zU h hp)];exact h⟩
 tup:=λb o h=>by rw [zR (zU h hp)];exact h
 frz:=λb o u h=>by rw [zR (zU h hp)];exact h
def Wd.fresh(w:Wd g α S H){p:Addr}(hp:H p=none):p∉α:=λz=>by obtain⟨_,h,_⟩:=w.mem z;rw [hp]at h;cases h
def Wd.new(w:Wd g α S H){p:Addr}{o:HO}(hp:H p=none):Wd g α S (upd H p o):=
 ⟨w.len,w.nd,λl a ob h1 h2=>(w.obj l a ob h1 h2).move (w.newx hp).toEx0 (zR λz=>w.fresh hp (by rw [<-z];exact mem_of_getElem? h1))⟩
def Wd.writex(w:Wd g α S H){l:Nat}{a:Addr}{o:HO}(h:α[l]? =some a):Ext α H α (upd H a o) where
 pre:=⟨[],by simp⟩
 new:=λb h=>.inl h
 keep:=λb o e n=>by rw [zR λz=>n (by rw [z];exact mem_of_getElem? h)];exact e
 has:=λb o e=>by
  by_cases z:b=a
  ·subst z;exact⟨_,yK⟩
  ·exact⟨o,by rw [zR z];exact e⟩
 tup:=λb xs e=>by obtain⟨ho,h1,h2,_⟩:=w.mem (mem_of_getElem? h);rw [zR λz=>h2 xs (by subst z;rw [e]at h1;exact(Option.some.inj h1).symm)];exact e
 frz:=λb ob u e=>by obtain⟨ho,h1,_,h2⟩:=w.mem (mem_of_getElem? h);rw [zR λz=>h2 ob u (by subst z;rw [e]at h1;exact(Option.some.inj h1).symm)];exact e
def Wd.ne(w:Wd g α S H){l m:Nat}{a b:Addr}(h:α[l]? =some a)(h':α[m]? =some b)(n:l≠m):a≠b:=by rintro rfl;obtain⟨h1,e1⟩:=gS0.mp h;obtain⟨h2,e2⟩:=gS0.mp h';exact n ((getElem_inj w.nd).mp (e1.trans e2.symm))
def Wd.write(w:Wd g α S H){l:Nat}{a:Addr}{o:HO}{ob:MO}(h:α[l]? =some a)(q:ObD g α (upd H a o) a ob):Wd g α (S.set l ob) (upd H a o) where
 len:=by rw [length_set];exact w.len
 nd:=w.nd
 obj:=λm b ob' h1 h2=>by
  by_cases e:l=m
  ·subst e;rw [h]at h1;have hl:l<S.length:=by rw [<-w.len];exact(gS0.mp h).1
   rw [getElem?_set_self hl]at h2;rw [<-Option.some.inj h1, <-Option.some.inj h2];exact q
  ·rw [getElem?_set_ne e]at h2;exact(w.obj m b ob' h1 h2).move (w.writex h).toEx0 (zR (w.ne h1 h λz=>e z.symm))
def Wd.enterx(w:Wd g α S H){H0:Hp}{α0:Ah}(x:Ext α0 H0 α H){b:Addr}(h0:H0 b=none)(n:b∉α):Ext α0 H0 (α++[b]) H where
 pre:=let ⟨t,e⟩:=x.pre;⟨t++[b],by rw [e,aA]⟩
 new:=λc hc=>(mem_append.mp hc).elim (x.new c) λz=>.inr (by rw [mS.mp z];exact h0)
 keep:=x.keep
 has:=x.has
 tup:=x.tup
 frz:=x.frz
def Wd.enter(w:Wd g α S H){b:Addr}{ds:Bh}{vs:List V}(h:H b=some (.lst vs))(n:b∉α)(l:DenL g.K α H ds vs):Wd g (α++[b]) (S++[.lst ds]) H where
 len:=by rw [lA,lA,w.len];rfl
 nd:=nodup_append.mpr ⟨w.nd,by simp,λa ha c hc=>by rw [mS.mp hc];rintro rfl;exact n ha⟩
 obj:=λm a o h1 h2=>by
  by_cases hm:m<α.length
  ·rw [getElem?_append_left hm]at h1;rw [getElem?_append_left (by rw [<-w.len];exact hm)]at h2;exact(w.obj m a o h1 h2).move (Ex0.grow α [b] H) rfl
  ·have hm':m=α.length:=by have:=(gS0.mp h1).1;rw [lA,lS]at this;omega
   subst hm';rw [getElem?_append_right (le_refl _),sub_self]at h1;rw [getElem?_append_right (by rw [w.len];exact le_refl _),w.len,sub_self]at h2;cases h1;cases h2;exact⟨vs,h,l.ex0 (Ex0.grow α [b] H)⟩
end
inductive R(β:Type) where
 |ok (b:β) (S:Sto)|exc (c:Str) (fs:List (Str×MV)) (S:Sto)|no
def R.bind{β γ:Type}:R β->(β->Sto->R γ)->R γ
 |.ok b S,k=>k b S
 |.exc c fs S,_=>.exc c fs S
 |.no,_=>.no
theorem R.bind_ok{β γ:Type}(b:β)(S:Sto)(k:β->Sto->R γ):(R.ok b S).bind k=k b S:=rfl
inductive Er where
 |val (d:MV)|new (ds:Bh)
instance:Inhabited Er:=⟨.val .non⟩
def DenX(K:Be)(α:Ah)(H:Hp):Er->V->Prop
 |.val d,v=>Den K α H d v
 |.new ds,v=> ∃b vs,v=.ref b/\H b=some (.lst vs)/\b∉α/\DenL K α H ds vs
def DenE(K:Be)(H:Hp)(α':Ah)(H':Hp)(r:Er)(v:V):Prop:=DenX K α' H' r v/\match r with |.new _=> ∀a,v=.ref a->H a=none|_=>True
section
variable{K:Be}{α α':Ah}{H H0 H':Hp}
def DenX.ext(x:Ext α H α' H'): ∀{r:Er}{v:V},DenX K α H r v->DenX K α' H' r v
 |.val d,_,q=>Den.ext x q
 |.new ds,_,⟨b,vs,e,h,n,l⟩=>⟨b,vs,e,x.keep b _ h n,x.out h n,l.ext x⟩
def DenE.val{d:MV}{v:V}(q:Den K α' H' d v):DenE K H α' H' (.val d) v:=⟨q,trivial⟩
def DenE.back(hf: ∀b,H b=none->H0 b=none){r:Er}{v:V}(q:DenE K H α' H' r v):DenE K H0 α' H' r v:=by
 refine⟨q.1,?_⟩
 cases r with
 |new ds=>exact λa e=>hf a (q.2 a e)
 |_=>trivial
def DenE.ext{α'':Ah}{H'':Hp}(x:Ext α' H' α'' H''){r:Er}{v:V}(q:DenE K H α' H' r v):DenE K H α'' H'' r v:=⟨q.1.ext x,q.2⟩
end
section
variable{K:Be}{α:Ah}{H:Hp}{v:V}
def zCL(d:DenX K α H (.val .non) v):v=.non:=cQ (K:=K) (α:=α) (H:=H) d
def zHW{b:Bool}(d:DenX K α H (.val (.bl b)) v):v=.bl b:=zAL (K:=K) (α:=α) (H:=H) d
def xO{b:Int}(d:DenX K α H (.val (.int b)) v):v=.int b:=yY (K:=K) (α:=α) (H:=H) d
def gA{b:Ab}(d:DenX K α H (.val (.str b)) v):v=.str (mkS b):=xG (K:=K) (α:=α) (H:=H) d
def yLA{b:String}(d:DenX K α H (.val (.typ b)) v):v=.ty b:=bO (K:=K) (α:=α) (H:=H) d
def yLB{c:Str}{ns:Ai}{ds:Bh}(d:DenX K α H (.val (.obj c ns ds)) v): ∃a C dx vs o,v=.ref a/\H a=some (.frz o (.ins C dx (ns.zip vs)))/\PySem.W.nsIn K mainGlobals c=some (some (.ref C))/\(PySem.W.clsIn K C).map (·.name)=some c/\ns.length=vs.length/\DenL K α H ds vs:=hX (K:=K) (α:=α) (H:=H) d
def cR{ds:Bh}(d:DenX K α H (.val (.tup ds)) v): ∃a vs,v=.ref a/\SqT K H a vs/\DenL K α H ds vs:=yZ (K:=K) (α:=α) (H:=H) d
def zJD{ds:Bh}(d:DenX K α H (.val (.scr ds)) v): ∃a vs,v=.ref a/\SqF K H a vs/\DenL K α H ds vs:=hZ (K:=K) (α:=α) (H:=H) d
def zAD{l:Nat}(d:DenX K α H (.val (.loc l)) v): ∃a,v=.ref a/\α[l]? =some a:=jA (K:=K) (α:=α) (H:=H) d
end
def zEJ:List Er->List V->List Addr
 |.new _::rs,.ref b::vs=>b::zEJ rs vs
 |_::rs,_::vs=>zEJ rs vs
 |_,_=>[]
inductive ArgsE(K:Be)(H:Hp)(α':Ah)(H':Hp):List Er->List V->Prop
 |nil:ArgsE K H α' H' [] []
 |cons {r v rs vs}:DenE K H α' H' r v->(∀ds b,r=.new ds->v=.ref b->b∉zEJ rs vs)->ArgsE K H α' H' rs vs->ArgsE K H α' H' (r::rs) (v::vs)
theorem ArgsE.nones{K:Be}{H:Hp}{α':Ah}{H':Hp}: ∀{rs vs},ArgsE K H α' H' rs vs-> ∀b∈zEJ rs vs,H b=none
 |_,_,.nil=>λb h=>by simp [zEJ]at h
 |.val d::_,v::_,.cons a n l=>λb h=>ArgsE.nones l b (by simpa [zEJ]using h)
 |.new ds::_,v::_,.cons a n l=>λb h=>by
  obtain⟨c,vs,rfl,_⟩:=a.1;rcases mC.mp (show b∈c::zEJ _ _ from h)with rfl|h
  ·exact a.2 _ rfl
  ·exact ArgsE.nones l b h
theorem ArgsE.back{K:Be}{H H0:Hp}{α':Ah}{H':Hp}(hf: ∀b,H b=none->H0 b=none): ∀{rs vs},ArgsE K H α' H' rs vs->ArgsE K H0 α' H' rs vs
 |_,_,.nil=>.nil
 |_,_,.cons a n l=>.cons (a.back hf) n (ArgsE.back hf l)
theorem ArgsE.length{K:Be}{H:Hp}{α':Ah}{H':Hp}: ∀{rs vs},ArgsE K H α' H' rs vs->vs.length=rs.length
 |_,_,.nil=>rfl
 |_,_,.cons _ _ l=>by rw [lC,lC,ArgsE.length l]
class Dn (β:Type) (τ:outParam Type) where
 d:Gm->Hp->List Addr->Sto->Hp->β->τ->Prop
 back: ∀{g:Gm}{H H0:Hp}{α':Ah}{S':Sto}{H':Hp}{b:β}{u:τ},(∀b,H b=none->H0 b=none)->d g H α' S' H' b u->d g H0 α' S' H' b u
instance:Dn Er V:=⟨λg H α' _ H' r v=>DenE g.K H α' H' r v,λhf q=>q.back hf⟩
instance:Dn Bool Bool:=⟨λ_ _ _ _ _ b u=>u=b,λ_ q=>q⟩
instance:Dn (List Er) (List V):=⟨λg H α' _ H' r v=>ArgsE g.K H α' H' r v,λhf q=>q.back hf⟩
instance:Dn (Option Int) (Option Int):=⟨λ_ _ _ _ _ b u=>u=b,λ_ q=>q⟩
abbrev XW:=Str->List (Str×MV)->Sto->List Addr->Hp->Prop
abbrev W0:XW:=λ_ _ _ _ _=>False
def Post{β τ:Type}[Dn β τ](g:Gm)(W:XW)(α:Ah)(H:Hp):R β->(τ->Hp->Prop)->Prop
 |.ok b S,Q=> ∀u α' H',Ext α H α' H'->Wd g α' S H'->Dn.d g H α' S H' b u->Q u H'
 |.exc c fs S,_=> ∀α' H',Ext α H α' H'->Wd g α' S H'->W c fs S α' H'
 |.no,_=>False
section
variable{β τ γ υ:Type}[Dn β τ][Dn γ υ]{g:Gm}{W:XW}{α α':Ah}{H H':Hp}
def Post.shift(x:Ext α H α' H'): ∀{m:R β}{Q:τ->Hp->Prop},Post g W α H m Q->Post g W α' H' m Q
 |.ok b S,Q,q=>λu α2 H2 x2 w2 d2=>q u α2 H2 (x.trans x2) w2 (Dn.back (λb h=>x.free h) d2)
 |.exc c fs S,_,q=>λα2 H2 x2 w2=>q α2 H2 (x.trans x2) w2
 |.no,_,q=>q
def Post.bind{m:R β}{k:β->Sto->R γ}{Q:υ->Hp->Prop}{Q':τ->Hp->Prop}(q:Post g W α H (m.bind k) Q)
  (f: ∀u b S1 α1 H1,m=.ok b S1->Ext α H α1 H1->Wd g α1 S1 H1->Dn.d g H α1 S1 H1 b u->Post g W α H (k b S1) Q->Q' u H1):Post g W α H m Q':=by
 cases m with
 |ok b S=>exact λu α1 H1 x w d=>f u b S α1 H1 rfl x w d q
 |exc c fs S=>exact q
 |no=>exact q
def Post.here{b:β}{S:Sto}{Q:τ->Hp->Prop}{u:τ}(q:Post g W α H (.ok b S) Q)(w:Wd g α S H)(d:Dn.d g H α S H b u):Q u H:=q u α H (Ext.refl α H) w d
end
def Post.val{g:Gm}{W:XW}{α:Ah}{H:Hp}{d:MV}{S:Sto}{Q:VK}{v:V}(q:Post g W α H (.ok (Er.val d) S) Q)(w:Wd g α S H)(k:Den g.K α H d v):Q v H:=q.here w (DenE.val k)
def Post.newl{g:Gm}{W:XW}{α:Ah}{H:Hp}{ds:Bh}{S:Sto}{Q:VK}{vs:List V}{p:Addr}(q:Post g W α H (.ok (Er.new ds) S) Q)(w:Wd g α S H)(hp:H p=none)(l:DenL g.K α H ds vs):Q (.ref p) (upd H p (.lst vs)):=
 q (.ref p) α _ (w.newx hp) (w.new hp) ⟨⟨p,vs,rfl,yK,w.fresh hp,l.ext (w.newx hp)⟩,λa e=>by cases e;exact hp⟩
def Post.newt{g:Gm}{W:XW}{α:Ah}{H:Hp}{ds:Bh}{S:Sto}{Q:VK}{vs:List V}{p:Addr}(q:Post g W α H (.ok (Er.val (.tup ds)) S) Q)(w:Wd g α S H)(hp:H p=none)(l:DenL g.K α H ds vs):Q (.ref p) (upd H p (.tup vs)):=
 q (.ref p) α _ (w.newx hp) (w.new hp) (.val (zAW (.of yK) (l.ext (w.newx hp))))
abbrev Rho:=List (Option MV)
structure Slots(K:Be)(α:Ah)(H:Hp)(ρ:Rho)(σ:St):Prop where
 len:σ.length=ρ.length
 slot: ∀(i:Nat)(d:MV),ρ[i]? =some (some d)-> ∃v,σ[i]? =some (some v)/\Den K α H d v
section
variable{K:Be}{α α':Ah}{H H':Hp}{ρ:Rho}{σ:St}
def Slots.ex0(q:Slots K α H ρ σ)(x:Ex0 α H α' H'):Slots K α' H' ρ σ:=⟨q.len,λi d e=>let ⟨v,h1,h2⟩:=q.slot i d e;⟨v,h1,h2.ex0 x⟩⟩
def Slots.ext(q:Slots K α H ρ σ)(x:Ext α H α' H'):Slots K α' H' ρ σ:=q.ex0 x.toEx0
def yFV{α:Type}{l:List α}{i j:Nat}{x y:α}(h:(l.set i x)[j]? =some y):(j=i/\y=x/\i<l.length)\/(j≠i/\l[j]? =some y):=by
 by_cases hj:i=j
 ·subst hj;by_cases hl:i<l.length
  ·rw [getElem?_set_self hl]at h;exact .inl ⟨rfl,(Option.some.inj h).symm,hl⟩
  ·rw [getElem?_eq_none (by rw [length_set];omega)]at h;cases h
 ·rw [getElem?_set_ne hj]at h;exact .inr ⟨λz=>hj z.symm,h⟩
def Slots.set(q:Slots K α H ρ σ){i:Nat}{d:MV}{v:V}(h:Den K α H d v):Slots K α H (ρ.set i (some d)) (σ.set i (some v)):=by
 refine⟨by rw [length_set,length_set];exact q.len,λj e z=>?_⟩;rcases yFV z with⟨rfl,e',hl⟩|⟨hj,e'⟩
 ·cases e';exact⟨v,by rw [getElem?_set_self (by rw [q.len];exact hl)],h⟩
 ·obtain⟨u,h1,h2⟩:=q.slot j e e';exact⟨u,by rw [getElem?_set_ne (Ne.symm hj)];exact h1,h2⟩
end
def Jd(X:Cx)(W:XW){β τ:Type}[Dn β τ](P:(St->Hp->(τ->Hp->Prop)->Prop)->Prop)(f:Rho->Sto->R β):Prop:=
 ∃t,P t/\ ∀α ρ S σ H Q,Wd X.g α S H->Slots X.K α H ρ σ->Post X.g W α H (f ρ S) Q->t σ H Q
abbrev PEm(X:Cx)(W:XW)(e:Expr)(f:Rho->Sto->R Er):Prop:=Jd X W (PE X e) f
abbrev PTm(X:Cx)(W:XW)(e:Expr)(f:Rho->Sto->R Bool):Prop:=Jd X W (PT X e) f
abbrev PWm(X:Cx)(W:XW)(e:Expr)(f:Rho->Sto->R Bool):Prop:=Jd X W (PW X e) f
abbrev PAm(X:Cx)(W:XW)(es:Bd)(f:Rho->Sto->R (List Er)):Prop:=Jd X W (PA X es) f
abbrev POm(X:Cx)(W:XW)(e:Option Expr)(f:Rho->Sto->R (Option Int)):Prop:=Jd X W (PO X e) f
section
variable{X:Cx}{W:XW}{a b c e:Expr}{es:Bd}{f g h:Rho->Sto->R Er}{tf tg:Rho->Sto->R Bool}{af:Rho->Sto->R (List Er)}{pos:Pos}
def rdSl:Option (Option MV)->Sto->R Er
 |some (some d),S=>.ok (.val d) S
 |_,_=>.no
def zA(i:Nat){x:Str}(hN:X.N[i]? =some x:=by rfl)(hv:Vis X.env.scope x:=by first |exact Or.inl rfl|exact Or.inr (Or.inl rfl)|exact Or.inr (Or.inr rfl))(hd:(x==("__debug__":Str))=false:=by decide)
  (hcd:(x==("__classdict__":Str))=false:=by decide):PEm X W (.Name x pos) (λρ S=>rdSl (ρ[i]?) S):=by
 refine⟨_,pv i hN hv hd hcd,λα ρ S σ H Q wd sl q=>?_⟩;dsimp only at q
 cases z:ρ[i]? with
 |none=>rw [z]at q;exact q.elim
 |some o=>
  cases o with
  |none=>rw [z]at q;exact q.elim
  |some d=>
   rw [z]at q;obtain⟨v,h1,h2⟩:=sl.slot i d z;exact⟨v,h1,Post.val q wd h2⟩
def zG{i:Int}{j:Nat}:PEm X W (.Constant (.int i) j pos) (λ_ S=>.ok (.val (.int i)) S):=⟨_,zZV,λα ρ S σ H Q wd sl q=>Post.val q wd (xC i)⟩
def zHX{i:Bool}{j:Nat}:PEm X W (.Constant (.bool i) j pos) (λ_ S=>.ok (.val (.bl i)) S):=⟨_,pe_bl,λα ρ S σ H Q wd sl q=>Post.val q wd (wY i)⟩
def zJE{j:Nat}:PEm X W (.Constant .none j pos) (λ_ S=>.ok (.val .non) S):=⟨_,yJS,λα ρ S σ H Q wd sl q=>Post.val q wd zFC⟩
def zAE{x:Str}{j:Nat}(cs:Ab)(hx:x=mkS cs:=by rfl):PEm X W (.Constant (.str x) j pos) (λ_ S=>.ok (.val (.str cs)) S):=
 ⟨_,yJT,λα ρ S σ H Q wd sl q=>Post.val q wd (by rw [hx];exact cB cs)⟩
def yLC{i:Int}{j:Nat}{p3:Pos}:PEm X W (.UnaryOp .USub (.Constant (.int i) j p3) pos) (λ_ S=>.ok (.val (.int (-i))) S):=
 ⟨_,pe_un yKI zZV,λα ρ S σ H Q wd sl q=>⟨i,rfl,Post.val q wd (xC (-i))⟩⟩
def Op2(X:Cx)(W:XW)(r:R2)(F:Er->Er->Sto->R Er):Prop:= ∀p q x y α S H Q,Wd X.g α S H->DenX X.K α H p x->DenX X.K α H q y->Post X.g W α H (F p q S) Q->r x y H Q
def two{r:R2}{F:Er->Er->Sto->R Er}(hF:Op2 X W r F){ta tb:TE}(fa: ∀α ρ S σ H Q,Wd X.g α S H->Slots X.K α H ρ σ->Post X.g W α H (f ρ S) Q->ta σ H Q)
  (fb: ∀α ρ S σ H Q,Wd X.g α S H->Slots X.K α H ρ σ->Post X.g W α H (g ρ S) Q->tb σ H Q) {α:Ah} {ρ:Rho} {S:Sto} {σ:St} {H:Hp} {Q:VK} (wd:Wd X.g α S H) (sl:Slots X.K α H ρ σ)
  (q:Post X.g W α H ((f ρ S).bind λp S1=>(g ρ S1).bind λq S2=>F p q S2) Q):ta σ H λx H1=>tb σ H1 λy H2=>r x y H2 Q:=
 fa α ρ S σ H _ wd sl (q.bind λu p S1 α1 H1 e1 x1 w1 d1 q1=>fb α1 ρ S1 σ H1 _ w1 (sl.ext x1) ((q1.shift x1).bind λu2 p2 S2 α2 H2 e2 x2 w2 d2 q2=>
  hF p p2 u u2 α2 S2 H2 Q w2 (d1.1.ext x2) d2.1 (q2.shift x2)))
def zMP{op:Operator}{r:R2}{F:Er->Er->Sto->R Er}(ho:OpR X (binaryOp op) r)(hF:Op2 X W r F)(ha:PEm X W a f)(hb:PEm X W b g):PEm X W (.BinOp a op b pos) (λρ S=>(f ρ S).bind λp S1=>(g ρ S1).bind λq S2=>F p q S2):=by obtain⟨ta,ha,fa⟩:=ha;obtain⟨tb,hb,fb⟩:=hb;exact⟨_,pe_op ho ha hb,λα ρ S σ H Q wd sl q=>two hF fa fb wd sl q⟩
def zJF{op:CmpOp}{r:R2}{F:Er->Er->Sto->R Er}(ho:OpR X (compareOp op) r)(hF:Op2 X W r F)(ha:PEm X W a f)(hb:PEm X W b g)(hm:behindInMarks op b=false:=by first |exact yAD _|with_unfolding_all rfl):
  PEm X W (.Compare a [op] [b] pos) (λρ S=>(f ρ S).bind λp S1=>(g ρ S1).bind λq S2=>F p q S2):=by
 obtain⟨ta,ha,fa⟩:=ha;obtain⟨tb,hb,fb⟩:=hb;exact⟨_,yFD ho ha hb hm,λα ρ S σ H Q wd sl q=>two hF fa fb wd sl q⟩
def pm_ix{r:R2}{F:Er->Er->Sto->R Er}(ho:IxR X r)(hF:Op2 X W r F)(ha:PEm X W a f)(hb:PEm X W b g)(hs:zNX b:=by exact λ_ _=>rfl):
  PEm X W (.Subscript a b pos) (λρ S=>(f ρ S).bind λp S1=>(g ρ S1).bind λq S2=>F p q S2):=by
 obtain⟨ta,ha,fa⟩:=ha;obtain⟨tb,hb,fb⟩:=hb;exact⟨_,pe_ix ho ha hb hs,λα ρ S σ H Q wd sl q=>two hF fa fb wd sl q⟩
def asB:Er->Sto->R Bool
 |.val (.bl b),S=>.ok b S
 |_,_=>.no
def yAQ{p:Er}{S:Sto}{α:Ah}{H:Hp}{Q:Bool->Hp->Prop}(q:Post X.g W α H (asB p S) Q): ∃k,p=.val (.bl k)/\Post X.g W α H (.ok k S) Q:=by
 unfold asB at q;split at q
 ·exact⟨_,rfl,q⟩
 ·exact q.elim
def zQT{β τ:Type}[Dn β τ]{p:Er}{S:Sto}{α:Ah}{H:Hp}{k:Bool->Sto->R β}{Q:τ->Hp->Prop}(q:Post X.g W α H ((asB p S).bind k) Q): ∃c,p=.val (.bl c)/\Post X.g W α H (k c S) Q:=by
 unfold asB at q;split at q
 ·exact⟨_,rfl,q⟩
 ·exact q.elim
def zCM{op:CmpOp}{r:R2}{F:Er->Er->Sto->R Er}(ho:OpR X (compareOp op) r)(hF:Op2 X W r F)(ha:PEm X W a f)(hb:PEm X W b g)(hm:behindInMarks op b=false:=by first |exact yAD _|with_unfolding_all rfl):
  PTm X W (.Compare a [op] [b] pos) (λρ S=>((f ρ S).bind λp S1=>(g ρ S1).bind λq S2=>F p q S2).bind asB):=by
 obtain⟨ta,ha,fa⟩:=ha;obtain⟨tb,hb,fb⟩:=hb;refine⟨_,yFE ho ha hb hm,λα ρ S σ H Q wd sl q=>?_⟩;refine two hF fa fb wd sl (Q:=λx H'=> ∃k,x=.bl k/\Q k H') (q.bind λu p S1 α1 H1 e1 x1 w1 d1 q1=>?_);obtain⟨k,rfl,q2⟩:=yAQ (q1.shift x1);exact⟨k,zHW d1.1,q2.here w1 rfl⟩
def chF(F G:Er->Er->Sto->R Er)(p q:Er)(S:Sto)(k:Sto->R Er):R Er:=(F p q S).bind λz S1=>(asB z S1).bind λc S2=>if c=true then(k S2).bind λr S3=>G q r S3 else .ok (.val (.bl false)) S2
def zLN:Er->Sto->R Bool
 |.val .non,S=>.ok false S
 |.val (.bl b),S=>.ok b S
 |.val (.int i),S=>.ok (i !=0) S
 |.val (.str x),S=>if x.length<=sizeLine then .ok (!x.isEmpty) S else .no
 |.val (.tup ds),S=>.ok (!ds.isEmpty) S
 |.val (.scr ds),S=>.ok (!ds.isEmpty) S
 |.val (.loc l),S=>match S[l]? with
  |some (.lst ds)=>.ok (!ds.isEmpty) S
  |_=>.no
 |.val (.typ _),_=>.no
 |.val (.obj _ _ _),_=>.no
 |.new ds,S=>.ok (!ds.isEmpty) S
def zDZ{ds:Bh}{vs:List V}{K:Be}{α:Ah}{H:Hp}(l:DenL K α H ds vs):(!vs.isEmpty)= !ds.isEmpty:=by have:=l.length;cases ds<;>cases vs<;>simp_all
def yAR{p:Er}{x:V}{S:Sto}{α:Ah}{H:Hp}{Q:Bool->Hp->Prop}(wd:Wd X.g α S H)(d:DenX X.K α H p x)(q:Post X.g W α H (zLN p S) Q): ∃k,TruV X.K x H k/\Q k H:=by
 match p,d,q with
 |.val .non,d,q=>cases zCL d;exact⟨_,rfl,q.here wd rfl⟩
 |.val (.bl b),d,q=>cases zHW d;exact⟨_,rfl,q.here wd rfl⟩
 |.val (.int i),d,q=>cases xO d;exact⟨_,rfl,q.here wd rfl⟩
 |.val (.typ n),d,q=>exact q.elim
 |.val (.obj _ _ _),d,q=>exact q.elim
 |.val (.str z),d,q=>
  cases gA d;have q':Post X.g W α H (if z.length<=sizeLine then R.ok (!z.isEmpty) S else R.no) Q:=q;split at q'
  ·rename_i hz;refine⟨_,⟨by rw [wT];exact hz,?_⟩,q'.here wd rfl⟩;rw [wT]
   cases z with
   |nil=>rfl
   |cons c r=>
    have h0:((r.length:Int)+1)≠0:=by omega
    simp [h0]
  ·exact q'.elim
 |.val (.tup ds),d,q=>
  obtain⟨a,vs,rfl,s,l⟩:=cR d;exact⟨_,.inr (.inl ⟨vs,s,(zDZ l).symm⟩),q.here wd rfl⟩
 |.val (.scr ds),d,q=>
  obtain⟨a,vs,rfl,s,l⟩:=zJD d;exact⟨_,.inl ⟨vs,s.l,(zDZ l).symm⟩,q.here wd rfl⟩
 |.val (.loc n),d,q=>
  obtain⟨a,rfl,h⟩:=zAD d;obtain⟨o,h1,h2⟩:=wd.of h;have q':Post X.g W α H (match S[n]? with |some (.lst ds)=>R.ok (!ds.isEmpty) S|_=>R.no) Q:=q;rw [h1]at q'
  cases o with
  |lst ds=>
   obtain⟨vs,h3,l⟩:=h2;exact⟨_,.inl ⟨vs,.of h3,(zDZ l).symm⟩,q'.here wd rfl⟩
  |dic ds=>exact q'.elim
  |ins c fs=>exact q'.elim
 |.new ds,⟨a,vs,ex,s,n,l⟩,q=>subst ex;exact⟨_,.inl ⟨vs,.of s,(zDZ l).symm⟩,q.here wd rfl⟩
def zCN(ha:PEm X W a f)(he: ∀whole,isTrue a X.env whole=(do let v <-whole;standAt a.pos;holding [v] (truthy v)):=by intro _;rfl):PTm X W a (λρ S=>(f ρ S).bind zLN):=by obtain⟨ta,ha,fa⟩:=ha;exact⟨_,yAE ha he,λα ρ S σ H Q wd sl q=>fa α ρ S σ H _ wd sl (q.bind λu p S1 α1 H1 e1 x1 w1 d1 q1=>yAR w1 d1.1 (q1.shift x1))⟩
end
section
variable{X:Cx}{W:XW}{a b c e:Expr}{es:Bd}{f g h:Rho->Sto->R Er}{tf tg:Rho->Sto->R Bool}{af:Rho->Sto->R (List Er)}{pos:Pos}
def andF(p:Er)(S:Sto)(k:Sto->R Er):R Er:=(asB p S).bind λc S1=>if c=true then k S1 else .ok (.val (.bl false)) S1
def orF(p:Er)(S:Sto)(k:Sto->R Er):R Er:=(asB p S).bind λc S1=>if c=true then .ok (.val (.bl true)) S1 else k S1
def yLD{op}(ha:PEm X W a f):PEm X W (.BoolOp op [a] pos) f:=let ⟨t,h,k⟩:=ha;⟨t,yJV h,k⟩
def yJA(ha:PEm X W a f)(hb:PEm X W (.BoolOp .Or (b::es) pos) g):PEm X W (.BoolOp .Or (a::b::es) pos) (λρ S=>(f ρ S).bind λp S1=>orF p S1 λS2=>g ρ S2):=by
 obtain⟨ta,ha,fa⟩:=ha;obtain⟨tb,hb,fb⟩:=hb;refine⟨_,pe_or ha hb,λα ρ S σ H Q wd sl q=>fa α ρ S σ H _ wd sl (q.bind λu p S1 α1 H1 e1 x1 w1 d1 q1=>?_)⟩;obtain⟨k,rfl,q2⟩:=zQT (q1.shift x1);refine⟨k,zHW d1.1,?_⟩
 cases k with
 |true=>rw [iP rfl]at q2 ⊢; exact Post.val q2 w1 (wY true)
 |false=>rw [iN xF0]at q2 ⊢; exact fb α1 ρ S1 σ H1 _ w1 (sl.ext x1) q2
def yLE(ha:PEm X W a f):PEm X W (.UnaryOp .Not a pos) (λρ S=>(f ρ S).bind λp S1=>(asB p S1).bind λk S2=>.ok (.val (.bl !k)) S2):=by obtain⟨ta,ha,fa⟩:=ha;refine⟨_,yJW ha,λα ρ S σ H Q wd sl q=>fa α ρ S σ H _ wd sl (q.bind λu p S1 α1 H1 e1 x1 w1 d1 q1=>?_)⟩;obtain⟨k,rfl,q2⟩:=zQT (q1.shift x1);exact⟨k,zHW d1.1,Post.val q2 w1 (wY _)⟩
def zFD(ha:PTm X W a tf):PWm X W (.BoolOp .And [a] pos) tf:=let ⟨t,h,k⟩:=ha;⟨t,yEX h,k⟩
theorem zGI(ha:PTm X W a tf)(hb:PWm X W (.BoolOp .And (b::es) pos) tg):PWm X W (.BoolOp .And (a::b::es) pos) (λρ S=>(tf ρ S).bind λk S1=>if k=true then tg ρ S1 else .ok false S1):=by
 obtain⟨ta,ha,fa⟩:=ha;obtain⟨tb,hb,fb⟩:=hb;refine⟨_,yJU ha hb,λα ρ S σ H Q wd sl q=>fa α ρ S σ H _ wd sl (q.bind λu p S1 α1 H1 e1 x1 w1 d1 q1=>?_)⟩;cases d1
 cases u with
 |true=>rw [iP rfl]at q1 ⊢; exact fb α1 ρ S1 σ H1 _ w1 (sl.ext x1) (q1.shift x1)
 |false=>rw [iN xF0]at q1 ⊢; exact(q1.shift x1).here w1 rfl
def zQU(h:PWm X W a tf):PTm X W a tf:=let ⟨t,h,k⟩:=h;⟨t,h.pt,k⟩
end
section
variable{K:Be}{H0:Hp}
def zQ:List Er->Sto->List MV×Sto
 |[],S=>([],S)
 |.val d::rs,S=>((d::(zQ rs S).1),(zQ rs S).2)
 |.new xs::rs,S=>((.loc S.length::(zQ rs (S++[.lst xs])).1),(zQ rs (S++[.lst xs])).2)
def ArgsE.grow{H0:Hp}{α:Ah}{H:Hp}{b:Addr}{rs:List Er}{vs:List V}(q:ArgsE K H0 α H rs vs)(n:b∉zEJ rs vs):ArgsE K H0 (α++[b]) H rs vs:=by
 induction q with
 |nil=>exact .nil
 |@cons r v rs vs a m l ih=>
  cases r with
  |val d=>exact .cons ⟨Den.ex0 (Ex0.grow α [b] H) a.1,trivial⟩ m (ih (by simpa [zEJ]using n))
  |new ds=>
   obtain⟨⟨c,us,rfl,h1,h2,h3⟩,h4⟩:=a;have n':b∉c::zEJ rs vs:=n;refine .cons ⟨⟨c,us,rfl,h1,λz=>?_,h3.ex0 (Ex0.grow α [b] H)⟩,h4⟩ m (ih λz=>n' (mO _ z));rcases mem_append.mp z with z|z
   ·exact h2 z
   ·exact n' (by rw [mS.mp z];exact mF0)
theorem zCO{g:Gm}{H0:Hp}{α0:Ah}{H:Hp}: ∀{rs:List Er}{vs:List V}{α:Ah}{S:Sto},Wd g α S H->Ext α0 H0 α H->ArgsE g.K H0 α H rs vs->
  ∃α',Ext α0 H0 α' H/\Ex0 α H α' H/\Wd g α' (zQ rs S).2 H/\DenL g.K α' H (zQ rs S).1 vs
 |_,_,α,S,w,x,.nil=>⟨α,x,⟨⟨[],by simp⟩,λ_ _ h=>h,λ_ _ _ h=>h⟩,w,yC⟩
 |.val d::rs,v::vs,α,S,w,x,.cons a n l=>by obtain⟨α',x',y',w',l'⟩:=zCO w x l;exact⟨α',x',y',w',zX (Den.ex0 y' a.1) l'⟩
 |.new ds::rs,v::vs,α,S,w,x,.cons a n l=>by
  obtain⟨⟨c,us,rfl,h1,h2,h3⟩,h4⟩:=a;obtain⟨α',x',y',w',l'⟩:=zCO (w.enter h1 h2 h3) (w.enterx x (h4 c rfl) h2) (l.grow (n ds c rfl rfl));refine⟨α',x',⟨?_,y'.tup,y'.frz⟩,w',zX (zDY (y'.at ?_)) l'⟩
  ·obtain⟨t,e⟩:=y'.pre;exact⟨[c]++t,by rw [e,aA]⟩
  ·rw [<-w.len,getElem?_append_right (le_refl _),sub_self];rfl
theorem zGJ: ∀(rs:List Er)(S:Sto),(zQ rs S).1.length=rs.length
 |[],S=>rfl
 |.val d::rs,S=>by show(d::(zQ rs S).1).length=_;rw [lC,zGJ rs S];rfl
 |.new ds::rs,S=>by show(_::(zQ rs _).1).length=_;rw [lC,zGJ rs _];rfl
end
section
variable{X:Cx}{W:XW}{a b c e:Expr}{es:Bd}{f g h:Rho->Sto->R Er}{tf tg:Rho->Sto->R Bool}{af:Rho->Sto->R (List Er)}{pos:Pos}
def zF:PAm X W [] (λ_ S=>.ok [] S):=⟨_,yAF,λα ρ S σ H Q wd sl q=>q.here wd .nil⟩
def zB(ha:PEm X W a f)(hr:PAm X W es af)(hs:starEach (a::es) X.env=(false,eval a X.env)::starEach es X.env:=by rfl):PAm X W (a::es) (λρ S=>(f ρ S).bind λp S1=>(af ρ S1).bind λps S2=>.ok (p::ps) S2):=by
 obtain⟨ta,ha,fa⟩:=ha;obtain⟨tr,hr,fr⟩:=hr;refine⟨_,zVG ha hr hs,λα ρ S σ H Q wd sl q=>fa α ρ S σ H _ wd sl (q.bind λu p S1 α1 H1 e1 x1 w1 d1 q1=>fr α1 ρ S1 σ H1 _ w1 (sl.ext x1) ?_)⟩;have q1':Post X.g W α H ((af ρ S1).bind λps S2=>.ok (p::ps) S2) Q:=q1
 cases z:af ρ S1 with
 |ok ps S2=>
  rw [z]at q1';intro vs α2 H2 x2 w2 d2;refine q1' (u::vs) α2 H2 (x1.trans x2) w2 (ArgsE.cons (DenE.ext x2 d1) (λds b er eu hb=>?_) (ArgsE.back (λb h=>x1.free h) d2));subst er eu;obtain⟨⟨c,us,ec,h1,_⟩,_⟩:=d1;cases ec;have:=ArgsE.nones d2 _ hb;rw [h1]at this;cases this
 |exc c fs S2=>rw [z]at q1';exact λα2 H2 x2 w2=>q1' α2 H2 (x1.trans x2) w2
 |no=>rw [z]at q1';exact q1'
def bP(rs:List Er)(S:Sto):R Er:=if rs.length<=sizeLine then .ok (.val (.tup (zQ rs S).1)) (zQ rs S).2 else .no
def nN(rs:List Er)(S:Sto):R Er:=if rs.length<=sizeLine then .ok (.new (zQ rs S).1) (zQ rs S).2 else .no
def wI{x1}(h:PAm X W es af):PEm X W (.Tuple es x1 pos) (λρ S=>(af ρ S).bind bP):=by
 obtain⟨t,h,k⟩:=h;refine⟨_,yKL h,λα ρ S σ H Q wd sl q=>k α ρ S σ H _ wd sl (q.bind λvs rs S1 α1 H1 e1 x1 w1 d1 q1=>?_)⟩;have q1':Post X.g W α H (if rs.length<=sizeLine then R.ok (Er.val (.tup (zQ rs S1).1)) (zQ rs S1).2 else R.no) Q:=q1;split at q1'
 ·rename_i hz;obtain⟨α2,x2,y2,w2,l2⟩:=zCO w1 x1 d1;exact⟨by rw [ArgsE.length d1];exact hz,λp hp=>(q1'.shift x2).newt w2 hp l2⟩
 ·exact q1'.elim
def jB(h:PAm X W es af):PEm X W (.List es pos) (λρ S=>(af ρ S).bind nN):=by
 obtain⟨t,h,k⟩:=h;refine⟨_,yKM h,λα ρ S σ H Q wd sl q=>k α ρ S σ H _ wd sl (q.bind λvs rs S1 α1 H1 e1 x1 w1 d1 q1=>?_)⟩;have q1':Post X.g W α H (if rs.length<=sizeLine then R.ok (Er.new (zQ rs S1).1) (zQ rs S1).2 else R.no) Q:=q1;split at q1'
 ·rename_i hz;obtain⟨α2,x2,y2,w2,l2⟩:=zCO w1 x1 d1;exact⟨by rw [ArgsE.length d1];exact hz,λp hp=>(q1'.shift x2).newl w2 hp l2⟩
 ·exact q1'.elim
inductive ArgsX(K:Be)(α:Ah)(H:Hp):List Er->List V->Prop
 |nil:ArgsX K α H [] []
 |cons {r v rs vs}:DenX K α H r v->ArgsX K α H rs vs->ArgsX K α H (r::rs) (v::vs)
theorem ArgsE.x{K:Be}{H0:Hp}{α:Ah}{H:Hp}: ∀{rs vs},ArgsE K H0 α H rs vs->ArgsX K α H rs vs
 |_,_,.nil=>.nil
 |_,_,.cons a _ l=>.cons a.1 (ArgsE.x l)
def zCA(X:Cx)(W:XW)(r:List V->Hp->VK->Prop)(F:List Er->Sto->R Er):Prop:= ∀rs vs α S H Q,Wd X.g α S H->ArgsX X.K α H rs vs->Post X.g W α H (F rs S) Q->r vs H Q
def kF{id:String}{r:List V->Hp->VK->Prop}{F:List Er->Sto->R Er}{x:Str}{p:Pos}(hc:CallR X (.builtin id) r)(hF:zCA X W r F)(hg:Gl X x)(hm:X.mg x=none)(hv:bootBuiltins x=some (.builtin id))(ha:PAm X W (e::es) af)
  (hn:x≠"__name__":=by decide) (hdb:(x==("__debug__":Str))=false:=by decide)
  (he:starEach (e::es) X.env=(false,eval e X.env)::starEach es X.env:=by rfl) (hpl:(backTo pos (starEach es X.env)).any (·.1)=false:=by rfl):PEm X W (.Call (.Name x p) (e::es) [] pos) (λρ S=>(af ρ S).bind F):=by
 obtain⟨t,ha,k⟩:=ha;exact⟨_,zQN hc hg hm hv ha hn hdb he hpl,λα ρ S σ H Q wd sl q=>k α ρ S σ H _ wd sl (q.bind λvs rs S1 α1 H1 e1 x1 w1 d1 q1=>hF rs vs α1 S1 H1 Q w1 (ArgsE.x d1) (q1.shift x1))⟩
def kT{T:String}{r:List V->Hp->VK->Prop}{F:List Er->Sto->R Er}{x:Str}{p:Pos}(hc:CallR X (.type T) r)(hF:zCA X W r F)(hg:Gl X x)(hm:X.mg x=none)(hv:bootBuiltins x=some (.type T))(ha:PAm X W (e::es) af)
  (hn:x≠"__name__":=by decide) (hdb:(x==("__debug__":Str))=false:=by decide)
  (he:starEach (e::es) X.env=(false,eval e X.env)::starEach es X.env:=by rfl) (hpl:(backTo pos (starEach es X.env)).any (·.1)=false:=by rfl):PEm X W (.Call (.Name x p) (e::es) [] pos) (λρ S=>(af ρ S).bind F):=by
 obtain⟨t,ha,k⟩:=ha;exact⟨_,zMJ hc hg hm hv ha hn hdb he hpl,λα ρ S σ H Q wd sl q=>k α ρ S σ H _ wd sl (q.bind λvs rs S1 α1 H1 e1 x1 w1 d1 q1=>hF rs vs α1 S1 H1 Q w1 (ArgsE.x d1) (q1.shift x1))⟩
def zYJ(X:Cx)(W:XW)(r:V->List V->Hp->VK->Prop)(F:Er->List Er->Sto->R Er):Prop:= ∀p rs x vs α S H0 H Q α0,Wd X.g α S H->Ext α0 H0 α H->DenX X.K α H p x->ArgsE X.K H0 α H rs vs->Post X.g W α0 H0 (F p rs S) Q->r x vs H Q
def TyM(X:Cx)(T:String)(ty:Er->Sto->Bool):Prop:= ∀p x α S H,Wd X.g α S H->DenX X.K α H p x->ty p S=true->tyV X.K T x H
def zVM{T:String}{name:Str}{id:String}{r:V->List V->Hp->VK->Prop}{F:Er->List Er->Sto->R Er}{ty:Er->Sto->Bool}{apos:Pos}(pa:PlainAttrs T)(slot:Slot T name id)(hty:typeOf (.builtin id)=pure (.type "method_descriptor"))(hm:MtR X id r)(hF:zYJ X W r F)(hT:TyM X T ty)
  (ho:PEm X W a f) (ha:PAm X W (e::es) af)
  (hbase:attributeBase a name X.env (eval a X.env)=eval a X.env:=by rfl)
  (hfew:((backTo pos (starEach (e::es) X.env)).all (λx=>!x.1)&&(backToKw pos (keywordEach [] X.env)).all (λx=>x.1.isSome)
   &&decide ((e::es).length+([]:List Keyword).length+(if([]:List Keyword).isEmpty then 0 else 1)<30))=true:=by rfl)
  (hline:(apos.endLine==pos.line)=true:=by rfl) (hs:starEach (e::es) X.env=(false,eval e X.env)::starEach es X.env:=by rfl) (hplain:(backTo pos (starEach es X.env)).any (·.1)=false:=by rfl):
  PEm X W (.Call (.Attribute a name apos) (e::es) [] pos) (λρ S=>(f ρ S).bind λp S1=>if ty p S1=true then(af ρ S1).bind λrs S2=>F p rs S2 else .no):=by
 obtain⟨to,ho,fo⟩:=ho;obtain⟨t,ha,k⟩:=ha;refine⟨_,pe_bm pa slot hty hm ho ha hbase hfew hline hs hplain,λα ρ S σ H Q wd sl q=>fo α ρ S σ H _ wd sl (q.bind λu p S1 α1 H1 e1 x1 w1 d1 q1=>?_)⟩;split at q1
 ·rename_i hz;exact⟨hT p u α1 S1 H1 w1 d1.1 hz,k α1 ρ S1 σ H1 _ w1 (sl.ext x1) ((q1.shift x1).bind λvs rs S2 α2 H2 e2 x2 w2 d2 q2=>hF p rs u vs α2 S2 H1 H2 Q α1 w2 x2 (d1.1.ext x2) d2 q2)⟩
 ·exact q1.elim
def yAS{T:String}{name:Str}{id:String}{r:V->List V->Hp->VK->Prop}{F:Er->List Er->Sto->R Er}{ty:Er->Sto->Bool}{apos:Pos}(pa:PlainAttrs T)(slot:Slot T name id)(hty:typeOf (.builtin id)=pure (.type "method_descriptor"))(hm:MtR X id r)(hF:zYJ X W r F)(hT:TyM X T ty)
  (ho:PEm X W a f) (hbase:attributeBase a name X.env (eval a X.env)=eval a X.env:=by rfl) (hline:(apos.endLine==pos.line)=true:=by rfl):
  PEm X W (.Call (.Attribute a name apos) [] [] pos) (λρ S=>(f ρ S).bind λp S1=>if ty p S1=true then F p [] S1 else .no):=by
 obtain⟨to,ho,fo⟩:=ho;refine⟨_,yKR pa slot hty hm ho hbase hline,λα ρ S σ H Q wd sl q=>fo α ρ S σ H _ wd sl (q.bind λu p S1 α1 H1 e1 x1 w1 d1 q1=>?_)⟩;split at q1
 ·rename_i hz;exact⟨hT p u α1 S1 H1 w1 d1.1 hz,hF p [] u [] α1 S1 H1 H1 Q α1 w1 (Ext.refl _ _) d1.1 .nil (q1.shift x1)⟩
 ·exact q1.elim
def zAX:POm X W none (λ_ S=>.ok none S):=⟨_,yFH,λα ρ S σ H Q wd sl q=>q.here wd rfl⟩
def asI:Er->Sto->R (Option Int)
 |.val (.int i),S=>.ok (some i) S
 |_,_=>.no
def cC(ha:PEm X W a f):POm X W (some a) (λρ S=>(f ρ S).bind asI):=by
 obtain⟨ta,ha,fa⟩:=ha;refine⟨_,yFI ha,λα ρ S σ H Q wd sl q=>fa α ρ S σ H _ wd sl (q.bind λu p S1 α1 H1 e1 x1 w1 d1 q1=>?_)⟩;unfold asI at q1;split at q1
 ·exact⟨_,xO d1.1,(q1.shift x1).here w1 rfl⟩
 ·exact q1.elim
def Sl3(X:Cx)(W:XW)(r:V->Option Int->Option Int->Hp->VK->Prop)(F:Er->Option Int->Option Int->Sto->R Er):Prop:= ∀p lo hi x α S H Q,Wd X.g α S H->DenX X.K α H p x->Post X.g W α H (F p lo hi S) Q->r x lo hi H Q
def yAT{lo hi:Option Expr}{r:V->Option Int->Option Int->Hp->VK->Prop}{F:Er->Option Int->Option Int->Sto->R Er}{lf hf:Rho->Sto->R (Option Int)}{p2:Pos}(hr:SlR X r)(hF:Sl3 X W r F)(ha:PEm X W a f)(hl:POm X W lo lf)(hh:POm X W hi hf):
  PEm X W (.Subscript a (.Slice lo hi none p2) pos) (λρ S=>(f ρ S).bind λp S1=>(lf ρ S1).bind λl S2=>(hf ρ S2).bind λu S3=>F p l u S3):=by
 obtain⟨ta,ha,fa⟩:=ha;obtain⟨tl,hl,fl⟩:=hl;obtain⟨th,hh,fh⟩:=hh
 refine⟨_,yAH hr ha hl hh,λα ρ S σ H Q wd sl q=>fa α ρ S σ H _ wd sl (q.bind λu p S1 α1 H1 e1 x1 w1 d1 q1=>fl α1 ρ S1 σ H1 _ w1 (sl.ext x1) ((q1.shift x1).bind λu2 l S2 α2 H2 e2 x2 w2 d2 q2=>
  fh α2 ρ S2 σ H2 _ w2 ((sl.ext x1).ext x2) ((q2.shift x2).bind λu3 m S3 α3 H3 e3 x3 w3 d3 q3=>?_)))⟩
 cases d2;cases d3;exact hF p u2 u3 u α3 S3 H3 Q w3 ((d1.1.ext x2).ext x3) (q3.shift x3)
end
inductive Fl where
 |next (ρ:Rho)|ret (r:Er)|brk (ρ:Rho)|cont (ρ:Rho)
abbrev AX:=Rho->Sto->R Er
abbrev AY:=Rho->Sto->R Fl
abbrev AZ:=Rho->Sto->R Bool
def PostS(g:Gm)(W:XW)(α:Ah)(H:Hp)(D:Ends):R Fl->Prop
 |.ok (.next ρ) S=> ∀σ α' H',Ext α H α' H'->Wd g α' S H'->Slots g.K α' H' ρ σ->D.nx σ H'
 |.ok (.ret r) S=> ∀v α' H',Ext α H α' H'->Wd g α' S H'->DenE g.K H α' H' r v->D.rt v H'
 |.ok (.brk ρ) S=> ∀σ α' H',Ext α H α' H'->Wd g α' S H'->Slots g.K α' H' ρ σ->D.bk σ H'
 |.ok (.cont ρ) S=> ∀σ α' H',Ext α H α' H'->Wd g α' S H'->Slots g.K α' H' ρ σ->D.ct σ H'
 |.exc c fs S=> ∀α' H',Ext α H α' H'->Wd g α' S H'->W c fs S α' H'
 |.no=>False
section
variable{g:Gm}{W:XW}{α α':Ah}{H H':Hp}{D D':Ends}
def PostS.shift(x:Ext α H α' H'): ∀{m:R Fl},PostS g W α H D m->PostS g W α' H' D m
 |.ok (.next ρ) S,q=>λσ α2 H2 x2 w2 s2=>q σ α2 H2 (x.trans x2) w2 s2
 |.ok (.ret r) S,q=>λv α2 H2 x2 w2 d2=>q v α2 H2 (x.trans x2) w2 (d2.back λb h=>x.free h)
 |.ok (.brk ρ) S,q=>λσ α2 H2 x2 w2 s2=>q σ α2 H2 (x.trans x2) w2 s2
 |.ok (.cont ρ) S,q=>λσ α2 H2 x2 w2 s2=>q σ α2 H2 (x.trans x2) w2 s2
 |.exc c fs S,q=>λα2 H2 x2 w2=>q α2 H2 (x.trans x2) w2
 |.no,q=>q
def PostS.expr{β τ:Type}[Dn β τ]{m:R β}{k:β->Sto->R Fl}{Q':τ->Hp->Prop}(q:PostS g W α H D (m.bind k))
  (f: ∀u b S1 α1 H1,m=.ok b S1->Ext α H α1 H1->Wd g α1 S1 H1->Dn.d g H α1 S1 H1 b u->PostS g W α H D (k b S1)->Q' u H1):Post g W α H m Q':=by
 cases m with
 |ok b S=>exact λu α1 H1 x w d=>f u b S α1 H1 rfl x w d q
 |exc c fs S=>exact q
 |no=>exact q
def PostS.stmt{m:R Fl}{k:Fl->Sto->R Fl}(q:PostS g W α H D (m.bind k))
  (hn: ∀ρ S σ α1 H1,m=.ok (.next ρ) S->Ext α H α1 H1->Wd g α1 S H1->Slots g.K α1 H1 ρ σ->PostS g W α H D (k (.next ρ) S)->D'.nx σ H1)
  (hr: ∀r S v α1 H1,m=.ok (.ret r) S->Ext α H α1 H1->Wd g α1 S H1->DenE g.K H α1 H1 r v->PostS g W α H D (k (.ret r) S)->D'.rt v H1)
  (hb: ∀ρ S σ α1 H1,m=.ok (.brk ρ) S->Ext α H α1 H1->Wd g α1 S H1->Slots g.K α1 H1 ρ σ->PostS g W α H D (k (.brk ρ) S)->D'.bk σ H1)
  (hc: ∀ρ S σ α1 H1,m=.ok (.cont ρ) S->Ext α H α1 H1->Wd g α1 S H1->Slots g.K α1 H1 ρ σ->PostS g W α H D (k (.cont ρ) S)->D'.ct σ H1):PostS g W α H D' m:=by
 cases m with
 |ok fl S=>
  cases fl with
  |next ρ=>exact λσ α1 H1 x w s=>hn ρ S σ α1 H1 rfl x w s q
  |ret r=>exact λv α1 H1 x w d=>hr r S v α1 H1 rfl x w d q
  |brk ρ=>exact λσ α1 H1 x w s=>hb ρ S σ α1 H1 rfl x w s q
  |cont ρ=>exact λσ α1 H1 x w s=>hc ρ S σ α1 H1 rfl x w s q
 |exc c fs S=>exact q
 |no=>exact q
end
def PSm(X:Cx)(W:XW)(st:Stmt)(F:AY):Prop:=
 ∃t,PS X st t/\ ∀α ρ S σ H D,Wd X.g α S H->Slots X.K α H ρ σ->PostS X.g W α H D (F ρ S)->t D σ H
def zOE(X:Cx)(W:XW)(st:List Stmt)(F:AY):Prop:=
 ∃t,PSs X st t/\ ∀α ρ S σ H D,Wd X.g α S H->Slots X.K α H ρ σ->PostS X.g W α H D (F ρ S)->t D σ H
def zP(F G:AY):AY:=λρ S=>(F ρ S).bind λfl S1=>match fl with
 |.next ρ'=>G ρ' S1
 |.ret r=>.ok (.ret r) S1
 |.brk ρ'=>.ok (.brk ρ') S1
 |.cont ρ'=>.ok (.cont ρ') S1
section
variable{X:Cx}{W:XW}{st:Stmt}{sts as bs:List Stmt}{F G:AY}{f g:AX}{tf:AZ}{e c:Expr}{pos:Pos}
def wC:zOE X W [] (λρ S=>.ok (.next ρ) S):=⟨_,yEY,λα ρ S σ H D wd sl q=>q σ α H (Ext.refl α H) wd sl⟩
def zL(h:PSm X W st F):zOE X W [st] F:=let ⟨t,h,k⟩:=h;⟨t,yEZ h,k⟩
def zE(h1:PSm X W st F)(h2:zOE X W sts G):zOE X W (st::sts) (zP F G):=by
 obtain⟨t,h1,k1⟩:=h1;obtain⟨u,h2,k2⟩:=h2;refine⟨_,zZW h1 h2,λα ρ S σ H D wd sl q=>k1 α ρ S σ H _ wd sl (q.stmt ?_ ?_ ?_ ?_)⟩
 ·intro ρ1 S1 σ1 α1 H1 e x1 w1 s1 q1;exact k2 α1 ρ1 S1 σ1 H1 D w1 s1 (PostS.shift x1 q1)
 ·intro r S1 v α1 H1 e x1 w1 d1 q1;exact q1 v α1 H1 x1 w1 d1
 ·intro ρ1 S1 σ1 α1 H1 e x1 w1 s1 q1;exact q1 σ1 α1 H1 x1 w1 s1
 ·intro ρ1 S1 σ1 α1 H1 e x1 w1 s1 q1;exact q1 σ1 α1 H1 x1 w1 s1
def yO(he:PEm X W e f):PSm X W (.Return (some e) pos) (λρ S=>(f ρ S).bind λr S1=>.ok (.ret r) S1):=by obtain⟨t,he,k⟩:=he;exact⟨_,yJX he,λα ρ S σ H D wd sl q=>k α ρ S σ H _ wd sl (q.expr λu r S1 α1 H1 e x1 w1 d1 q1=>q1 u α1 H1 x1 w1 d1)⟩
def yAU:PSm X W st (λ_ _=>.no):=⟨_,zZX,λα ρ S σ H D wd sl q=>q.elim⟩
def wG(he:PEm X W e f)(hs:swapsWith e none pos.line X.env=pure false:=by rfl):PSm X W (.Expr e pos) (λρ S=>(f ρ S).bind λ_ S1=>.ok (.next ρ) S1):=by obtain⟨t,he,k⟩:=he;exact⟨_,yFA he hs,λα ρ S σ H D wd sl q=>k α ρ S σ H _ wd sl (q.expr λu r S1 α1 H1 e x1 w1 d1 q1=>q1 σ α1 H1 x1 w1 (sl.ext x1))⟩
def jX(hc:PTm X W c tf)(ha:zOE X W as F)(hb:zOE X W bs G):PSm X W (.If c as bs pos) (λρ S=>(tf ρ S).bind λk S1=>if k=true then F ρ S1 else G ρ S1):=by
 obtain⟨tc,hc,kc⟩:=hc;obtain⟨ta,ha,ka⟩:=ha;obtain⟨tb,hb,kb⟩:=hb;refine⟨_,ps_if hc ha hb,λα ρ S σ H D wd sl q=>kc α ρ S σ H _ wd sl (q.expr λu p S1 α1 H1 e x1 w1 d1 q1=>?_)⟩;cases d1
 cases u with
 |true=>rw [iP rfl]at q1 ⊢; exact ka α1 ρ S1 σ H1 D w1 (sl.ext x1) (PostS.shift x1 q1)
 |false=>rw [iN xF0]at q1 ⊢; exact kb α1 ρ S1 σ H1 D w1 (sl.ext x1) (PostS.shift x1 q1)
instance:Dn Rho St:=⟨λg _ α' _ H' ρ σ=>Slots g.K α' H' ρ σ,λ_ q=>q⟩
def PGm(X:Cx)(W:XW)(tg:Expr)(gf:MV->Rho->Sto->R Rho):Prop:=
 ∃t,PG X tg t/\ ∀α ρ S σ H d v Q,Wd X.g α S H->Slots X.K α H ρ σ->Den X.K α H d v->Post X.g W α H (gf d ρ S) Q->t v σ H Q
def PGsm(X:Cx)(W:XW)(tgs:Bd)(gf:List MV->Rho->Sto->R Rho):Prop:=
 ∃t,PGs X tgs t/\ ∀α ρ S σ H ds vs Q,Wd X.g α S H->Slots X.K α H ρ σ->DenL X.K α H ds vs->Post X.g W α H (gf ds ρ S) Q->t vs σ H Q
def gNm(i:Nat):MV->Rho->Sto->R Rho:=λd ρ S=>.ok (ρ.set i (some d)) S
def yD(i:Nat){x:Str}(hN:X.N.Nodup)(hi:X.N[i]? =some x:=by rfl)(hx:Loc X.env.scope x:=by first |exact Or.inl rfl|exact Or.inr rfl)(hf:X.fn x=true\/X.env.scope.names.lookup x=some .local:=by first |exact .inl rfl|exact .inr rfl|assumption):
  PGm X W (.Name x pos) (gNm i):=⟨_,zVD hN hi hx hf,λα ρ S σ H d v Q wd sl de q=>Post.here (b:=ρ.set i (some d)) q wd (sl.set de)⟩
def zJG:List MV->Rho->Sto->R Rho
 |[],ρ,S=>.ok ρ S
 |_,_,_=>.no
def gB(g1:MV->Rho->Sto->R Rho)(g2:List MV->Rho->Sto->R Rho):List MV->Rho->Sto->R Rho
 |d::ds,ρ,S=>(g1 d ρ S).bind λρ1 S1=>g2 ds ρ1 S1
 |_,_,_=>.no
def zOF:PGsm X W [] zJG:=⟨_,yFB,λα ρ S σ H ds vs Q wd sl de q=>by
 cases ds with
 |nil=>exact⟨de.isnil,Post.here (b:=ρ) q wd sl⟩
 |cons d ds=>exact q.elim⟩
def nQ{es:Bd}{g1:MV->Rho->Sto->R Rho}{g2:List MV->Rho->Sto->R Rho}(h1:PGm X W e g1)(h2:PGsm X W es g2)(hs:(assignEach (e::es) X.env).map (·.2)=assign e X.env::(assignEach es X.env).map (·.2):=by rfl):PGsm X W (e::es) (gB g1 g2):=by
 obtain⟨t1,h1,k1⟩:=h1;obtain⟨t2,h2,k2⟩:=h2;refine⟨_,zZZ h1 h2 hs,λα ρ S σ H ds vs Q wd sl de q=>?_⟩
 cases ds with
 |nil=>exact q.elim
 |cons d ds=>
  obtain⟨v,r,rfl,a,l⟩:=de.uncons;refine⟨v,r,rfl,k1 α ρ S σ H d v _ wd sl a (Post.bind q λu p S1 α1 H1 e x1 w1 d1 q1=>k2 α1 p S1 u H1 ds r Q w1 d1 (l.ext x1) (q1.shift x1))⟩
def gTp(n:Nat)(g2:List MV->Rho->Sto->R Rho):MV->Rho->Sto->R Rho
 |.tup ds,ρ,S=>if ds.length=n then g2 ds ρ S else .no
 |_,_,_=>.no
def zOG{es:Bd}{k n:Nat}{g2:List MV->Rho->Sto->R Rho}(hc:X.calm=true)(h:PGsm X W es g2)
  (hn:(assignEach es X.env).length=n:=by rfl) (hst:(assignEach es X.env).findIdx? (·.1)=none:=by rfl):PGm X W (.Tuple es k pos) (gTp n g2):=by
 obtain⟨t,h,k⟩:=h;refine⟨_,yJZ hc h hn hst,λα ρ S σ H d v Q wd sl de q=>?_⟩;unfold gTp at q;split at q
 ·split at q
  ·rename_i hl;obtain⟨a,vs,rfl,s,l⟩:=yZ de;exact⟨a,vs,rfl,s,by rw [l.length];exact hl,k α ρ S σ H _ vs Q wd sl l q⟩
  ·exact q.elim
 ·exact q.elim
def cS(r:Er)(S:Sto):R MV:=match r with
 |.val d=>.ok d S
 |.new ds=>.ok (.loc S.length) (S++[.lst ds])
def zAM{g:Gm}{H0:Hp}{α0 α:Ah}{H:Hp}{S:Sto}{r:Er}{v:V}(w:Wd g α S H)(x:Ext α0 H0 α H)(d:DenE g.K H0 α H r v):
  ∃d' S' α',cS r S=.ok d' S'/\Ext α0 H0 α' H/\Ex0 α H α' H/\Wd g α' S' H/\Den g.K α' H d' v:=by
 cases r with
 |val d'=>exact⟨d',S,α,rfl,x,⟨⟨[],by simp⟩,λ_ _ h=>h,λ_ _ _ h=>h⟩,w,d.1⟩
 |new ds=>
  obtain⟨⟨c,us,rfl,h1,h2,h3⟩,h4⟩:=d;exact⟨.loc S.length,S++[.lst ds],α++[c],rfl,w.enterx x (h4 c rfl) h2,Ex0.grow α [c] H,w.enter h1 h2 h3,zDY (by rw [<-w.len,getElem?_append_right (le_refl _),sub_self];rfl)⟩
def zOH(ρ:Rho)(i:Nat)(r:Er)(S:Sto):R Fl:=(cS r S).bind λd S1=>.ok (.next (ρ.set i (some d))) S1
def zK(i:Nat){x:Str}{pos':Pos}(hN:X.N.Nodup)(he:PEm X W e f)(hi:X.N[i]? =some x:=by rfl)(hx:Loc X.env.scope x:=by first |exact Or.inl rfl|exact Or.inr rfl)
  (hs:swapsWith e (some (.Name x pos')) pos.line X.env=pure false:=by rfl) (hf:X.fn x=true\/X.env.scope.names.lookup x=some .local:=by first |exact .inl rfl|exact .inr rfl|assumption):
  PSm X W (.Assign [.Name x pos'] e pos) (λρ S=>(f ρ S).bind (zOH ρ i)):=by
 obtain⟨t,he,k⟩:=he;refine⟨_,yKB hN hi hx he hs hf,λα ρ S σ H D wd sl q=>k α ρ S σ H _ wd sl (q.expr λu r S1 α1 H1 e x1 w1 d1 q1=>?_)⟩;obtain⟨d',S',α',e1,x',y',w',de⟩:=zAM w1 x1 d1;unfold zOH at q1;rw [e1]at q1;exact q1 _ α' H1 x' w' (((sl.ext x1).ex0 y').set de)
def asgF(gf:MV->Rho->Sto->R Rho)(ρ:Rho)(r:Er)(S:Sto):R Fl:=(cS r S).bind λd S1=>(gf d ρ S1).bind λρ' S2=>.ok (.next ρ') S2
def zGK{tg:Expr}{gf:MV->Rho->Sto->R Rho}(he:PEm X W e f)(hg:PGm X W tg gf)(hs:swapsWithSole [tg] e pos.line X.env=pure false:=by rfl)(hw:swappedStores [tg] e X.env=pure none:=by rfl)
  (h1:(assignEach [tg] X.env).map (·.2)=[assign tg X.env]:=by rfl):PSm X W (.Assign [tg] e pos) (λρ S=>(f ρ S).bind (asgF gf ρ)):=by
 obtain⟨t,he,k⟩:=he;obtain⟨tg',hg,kg⟩:=hg;refine⟨_,yKA he hg hs hw h1,λα ρ S σ H D wd sl q=>k α ρ S σ H _ wd sl (q.expr λu r S1 α1 H1 e x1 w1 d1 q1=>?_)⟩;obtain⟨d',S',α',e1,x',y',w',de⟩:=zAM w1 x1 d1;unfold asgF at q1;rw [e1]at q1;have q1:PostS X.g W α H D ((gf d' ρ S').bind λρ' S2=>.ok (.next ρ') S2):=q1;exact kg α' ρ S' σ H1 d' u _ w' ((sl.ext x1).ex0 y') de ((PostS.shift x' q1).expr λσ2 ρ2 S2 α2 H2 e2 x2 w2 s2 q2=>q2 σ2 α2 H2 x2 w2 s2)
structure Wk where
 ds:List MV
 gs:List (Nat×List MV)
def stay(gs:Bk)(S:Sto):Prop:= ∀p∈gs,S[p.1]? =some (.lst p.2)
def ItM(g:Gm)(J:It)(P:List Addr->Sto->Hp->Prop)(ds:Bh):Prop:= ∀i α S H,P α S H->Wd g α S H->(i<ds.length->J.go i H/\ ∀x H',J.yld i H x H'->Ext α H α H'/\Wd g α S H'/\P α S H'/\ ∃d,ds[i]? =some d/\Den g.K α H' d x)/\(ds.length<=i->J.stop i H)
structure WkD(g:Gm)(α:Ah)(S:Sto)(H:Hp)(k:Wk)(J:It)(P:List Addr->Sto->Hp->Prop):Prop where
 it:ItM g J P k.ds
 here:P α S H
 stays: ∀α1 S1 H1 α2 S2 H2,P α1 S1 H1->Ext α1 H1 α2 H2->Wd g α2 S2 H2->stay k.gs S2->P α2 S2 H2
 st:stay k.gs S
instance:Dn Wk It:=⟨λg _ α S H k J=> ∃P,WkD g α S H k J P,λ_ q=>q⟩
abbrev PIm(X:Cx)(W:XW)(tg iter:Expr)(f:Rho->Sto->R Wk):Prop:=Jd X W (PI X tg iter) f
variable{tg iter:Expr}
def zFE{a:Addr}{ds:Bh}:ItM X.g (Itl X.K a) (λα S H=> ∃vs,SqL X.K H a vs/\DenL X.K α H ds vs) ds:=by
 intro i α S H ⟨vs,s,l⟩ w;have hl:=l.length;refine⟨λhi=>?_,λhi=>⟨vs,s,by omega⟩⟩;have hv:i<vs.length:=by omega
 refine⟨⟨vs,vs[i],s,gE0 hv⟩,λx H' y=>?_⟩;obtain⟨rfl,y⟩:=y;obtain⟨d,h1,h2⟩:=l.get (y vs s);exact⟨Ext.refl _ _,w,⟨vs,s,l⟩,d,h1,h2⟩
def zVN{a:Addr}{ds:Bh}:ItM X.g (Itt X.K a) (λα S H=> ∃vs,SqT X.K H a vs/\DenL X.K α H ds vs) ds:=by
 intro i α S H ⟨vs,s,l⟩ w;have hl:=l.length;refine⟨λhi=>?_,λhi=>⟨vs,s,by omega⟩⟩;have hv:i<vs.length:=by omega
 refine⟨⟨vs,vs[i],s,gE0 hv⟩,λx H' y=>?_⟩;obtain⟨rfl,y⟩:=y;obtain⟨d,h1,h2⟩:=l.get (y vs s);exact⟨Ext.refl _ _,w,⟨vs,s,l⟩,d,h1,h2⟩
def yFW{x:Ab}:ItM X.g (Its x) (λ_ _ _=>True) (x.map λc=>.str [c]):=by intro i α S H _ w;refine⟨λhi=>⟨show i<x.length by simpa using hi,λv H' y=>?_⟩,λhi=>by show x.length<=i;simpa using hi⟩;obtain⟨rfl,c,h1,h2⟩:=y;refine⟨Ext.refl _ _,w,trivial,.str [c],by rw [getElem?_map,h1];rfl,?_⟩;rw [h2];exact cB [c]
def zYK{lo:Int}{n:Nat}:ItM X.g (Itr lo n) (λ_ _ _=>True) ((List.range n).map λk=>.int (lo+(k:Nat))):=by
 intro i α S H _ w;refine⟨λhi=>⟨show i<n by simpa using hi,λv H' y=>?_⟩,λhi=>by show n<=i;simpa using hi⟩;obtain⟨rfl,y⟩:=y;have hi':i<n:=by simpa using hi
 refine⟨Ext.refl _ _,w,trivial,.int (lo+i),by rw [getElem?_map,getElem?_range hi'];rfl,?_⟩;rw [y];exact xC _
def itL:Er->Sto->R Wk
 |.new ds,S=>.ok ⟨ds,[]⟩ S
 |.val (.scr ds),S=>.ok ⟨ds,[]⟩ S
 |.val (.loc l),S=>match S[l]? with
  |some (.lst ds)=>.ok ⟨ds,[(l,ds)]⟩ S
  |_=>.no
 |_,_=>.no
def jC{S:Sto}:stay [] S:=λp h=>by simp at h
def bC(he:PEm X W iter f):PIm X W tg iter (λρ S=>(f ρ S).bind itL):=by
 obtain⟨t,he,k⟩:=he;refine⟨_,yFC he,λα ρ S σ H Rc wd sl q=>k α ρ S σ H _ wd sl (q.bind λu p S1 α1 H1 e x1 w1 d1 q1=>?_)⟩
 replace q1:=q1.shift x1
 unfold itL at q1;split at q1
 ·rename_i S0 ds;obtain⟨⟨b,vs,rfl,h1,h2,h3⟩,h4⟩:=d1;refine⟨b,rfl,⟨vs,.of h1⟩,q1.here (u:=Itl X.K b) w1 ⟨λα2 S2 H2=> ∃vs,SqL X.K H2 b vs/\DenL X.K α2 H2 ds vs/\H2 b=some (.lst vs)/\b∉α2,?_,⟨vs,.of h1,h3,h1,h2⟩,?_,jC⟩⟩
  ·intro i α2 S2 H2 ⟨vs2,a1,a2,a3,a4⟩ w2;obtain⟨i1,i2⟩:=zFE (X:=X) (a:=b) (ds:=ds) i α2 S2 H2 ⟨vs2,a1,a2⟩ w2;refine⟨λhi=>⟨(i1 hi).1,λx H' y=>?_⟩,i2⟩;obtain⟨j1,j2,j3,j4⟩:=(i1 hi).2 x H' y;obtain⟨rfl,_⟩:=y;exact⟨j1,j2,⟨vs2,a1,a2,a3,a4⟩,j4⟩
  ·intro α2 S2 H2 α3 S3 H3 ⟨vs2,a1,a2,a3,a4⟩ x w3 _;exact⟨vs2,.of (x.keep b _ a3 a4),a2.ext x,x.keep b _ a3 a4,x.out a3 a4⟩
 ·rename_i S0 ds;obtain⟨a,vs,rfl,s,l⟩:=zJD d1.1;refine⟨a,rfl,⟨vs,s.l⟩,q1.here (u:=Itl X.K a) w1 ⟨λα2 S2 H2=> ∃vs,SqL X.K H2 a vs/\DenL X.K α2 H2 ds vs/\SqF X.K H2 a vs,?_,⟨vs,s.l,l,s⟩,?_,jC⟩⟩
  ·intro i α2 S2 H2 ⟨vs2,a1,a2,a3⟩ w2;obtain⟨i1,i2⟩:=zFE (X:=X) (a:=a) (ds:=ds) i α2 S2 H2 ⟨vs2,a1,a2⟩ w2;refine⟨λhi=>⟨(i1 hi).1,λx H' y=>?_⟩,i2⟩;obtain⟨j1,j2,j3,j4⟩:=(i1 hi).2 x H' y;obtain⟨rfl,_⟩:=y;exact⟨j1,j2,⟨vs2,a1,a2,a3⟩,j4⟩
  ·intro α2 S2 H2 α3 S3 H3 ⟨vs2,a1,a2,a3⟩ x w3 _;exact⟨vs2,(x.sqF a3).l,a2.ext x,x.sqF a3⟩
 ·rename_i S0 n;obtain⟨a,rfl,h⟩:=zAD d1.1;obtain⟨o,h1,h2⟩:=w1.of h;rw [h1]at q1
  cases o with
  |lst ds=>
   obtain⟨vs,h3,l⟩:=h2;refine⟨a,rfl,⟨vs,.of h3⟩,Post.here (b:=(⟨ds,[(n,ds)]⟩:Wk)) q1 (u:=Itl X.K a) w1 ⟨λα2 S2 H2=> ∃vs,SqL X.K H2 a vs/\DenL X.K α2 H2 ds vs/\α2[n]? =some a,?_,⟨vs,.of h3,l,h⟩,?_,?_⟩⟩
   ·intro i α2 S2 H2 ⟨vs2,a1,a2,a3⟩ w2;obtain⟨i1,i2⟩:=zFE (X:=X) (a:=a) (ds:=ds) i α2 S2 H2 ⟨vs2,a1,a2⟩ w2;refine⟨λhi=>⟨(i1 hi).1,λx H' y=>?_⟩,i2⟩;obtain⟨j1,j2,j3,j4⟩:=(i1 hi).2 x H' y;obtain⟨rfl,_⟩:=y;exact⟨j1,j2,⟨vs2,a1,a2,a3⟩,j4⟩
   ·intro α2 S2 H2 α3 S3 H3 ⟨vs2,a1,a2,a3⟩ x w3 hs;have a3':=x.at a3;have:=w3.obj n a _ a3' (hs (n,ds) (by simp));obtain⟨vs3,b1,b2⟩:=this;exact⟨vs3,.of b1,b2,a3'⟩
   ·intro p hp;have:p=(n,ds):=by simpa using hp
    subst this;exact h1
  |dic ds=>exact q1.elim
  |ins c fs=>exact q1.elim
 ·exact q1.elim
def itT:Er->Sto->R Wk
 |.val (.tup ds),S=>.ok ⟨ds,[]⟩ S
 |_,_=>.no
def zTP(he:PEm X W iter f):PIm X W tg iter (λρ S=>(f ρ S).bind itT):=by
 obtain⟨t,he,k⟩:=he;refine⟨_,yKD he,λα ρ S σ H Rc wd sl q=>k α ρ S σ H _ wd sl (q.bind λu p S1 α1 H1 e x1 w1 d1 q1=>?_)⟩
 replace q1:=q1.shift x1
 unfold itT at q1;split at q1
 ·rename_i S0 ds;obtain⟨a,vs,rfl,s,l⟩:=cR d1.1;exact⟨a,rfl,⟨vs,s⟩,q1.here (u:=Itt X.K a) w1 ⟨_,zVN,⟨vs,s,l⟩,λα2 S2 H2 α3 S3 H3 ⟨vs2,a1,a2⟩ x w3 _=>⟨vs2,x.sqT a1,a2.ext x⟩,jC⟩⟩
 ·exact q1.elim
def itS:Er->Sto->R Wk
 |.val (.str x),S=>.ok ⟨x.map λc=>.str [c],[]⟩ S
 |_,_=>.no
def yLF(he:PEm X W iter f):PIm X W tg iter (λρ S=>(f ρ S).bind itS):=by
 obtain⟨t,he,k⟩:=he;refine⟨_,yKX he,λα ρ S σ H Rc wd sl q=>k α ρ S σ H _ wd sl (q.bind λu p S1 α1 H1 e x1 w1 d1 q1=>?_)⟩
 replace q1:=q1.shift x1
 unfold itS at q1;split at q1
 ·rename_i S0 x;exact⟨x,gA d1.1,q1.here (u:=Its x) w1 ⟨_,yFW,trivial,λ_ _ _ _ _ _ _ _ _ _=>trivial,jC⟩⟩
 ·exact q1.elim
def jY:List Er->Sto->R Wk
 |[.val (.int j)],S=>if -(2 ^ 62)<=j/\j<2 ^ 62 then .ok ⟨(List.range j.toNat).map λk=>.int (k:Nat),[]⟩ S else .no
 |_,_=>.no
variable{af:Rho->Sto->R (List Er)}{p:Pos}{a b:Expr}
def zVO{K:Be}{H0:Hp}{α:Ah}{H:Hp}{r:Er}{vs:List V}(d:ArgsE K H0 α H [r] vs): ∃v,vs=[v]/\DenX K α H r v:=by
 cases d with
 |cons a n l=>cases l;exact⟨_,rfl,a.1⟩
def xA(hg:Gl X "range")(hm:X.mg "range"=none)(ha:PAm X W [a] af)(hs:starEach [a] X.env=[(false,eval a X.env)]:=by rfl):PIm X W tg (.Call (.Name "range" p) [a] [] pos) (λρ S=>(af ρ S).bind jY):=by
 obtain⟨t,ha,k⟩:=ha;refine⟨_,zXX hg hm ha hs,λα ρ S σ H Rc wd sl q=>k α ρ S σ H _ wd sl (q.bind λvs rs S1 α1 H1 e x1 w1 d1 q1=>?_)⟩
 replace q1:=q1.shift x1
 unfold jY at q1;split at q1
 ·split at q1
  ·rename_i S0 j hj;obtain⟨v,rfl,dv⟩:=zVO d1;cases xO dv;have:=zYK (X:=X) (lo:=0) (n:=j.toNat);simp only [Int.zero_add]at this;exact⟨j,rfl,hj.1,hj.2,q1.here (u:=Itr 0 j.toNat) w1 ⟨_,this,trivial,λ_ _ _ _ _ _ _ _ _ _=>trivial,jC⟩⟩
  ·exact q1.elim
 ·exact q1.elim
open Classical in
def kY(gf:MV->Rho->Sto->R Rho)(body:AY)(gs:Bk):List MV->AY
 |[],ρ,S=>.ok (.next ρ) S
 |d::ds,ρ,S=>(gf d ρ S).bind λρ0 S0=>(body ρ0 S0).bind λfl S1=>match fl with
  |.next ρ'=>if stay gs S1 then kY gf body gs ds ρ' S1 else .no
  |.cont ρ'=>if stay gs S1 then kY gf body gs ds ρ' S1 else .no
  |.brk ρ'=>.ok (.next ρ') S1
  |.ret r=>.ok (.ret r) S1
open Classical in
def wK{itf:Rho->Sto->R Wk}{gf:MV->Rho->Sto->R Rho}(hp:PassesOwn (model X.prog X.w) X.A X.env X.xe)(hc:X.calm=true)(hi:PIm X W tg iter itf)(hg:PGm X W tg gf)(hb:zOE X W as F)
  (hs: ∀y,foldedSetIterable iter X.env y=pure y:=by intro _;rfl):PSm X W (.For tg iter as [] pos) (λρ S=>(itf ρ S).bind λk S1=>kY gf F k.gs k.ds ρ S1):=by
 obtain⟨wi,hi,ki⟩:=hi;obtain⟨tg',hg,kg⟩:=hg;obtain⟨tb,hb,kb⟩:=hb;refine⟨_,yKE hp hc hi hg hb hs,λα ρ S σ H D wd sl q=>ki α ρ S σ H _ wd sl (q.expr λJ k S1 α1 H1 e x1 w1 d1 q1=>?_)⟩;obtain⟨P,hP⟩:=d1;have sl1:=sl.ext x1
 replace q1:=PostS.shift x1 q1
 refine⟨λn m σ2 H2=>m=k.ds.length - n/\n<=k.ds.length/\ ∃α2 ρ2 S2,Wd X.g α2 S2 H2/\Slots X.K α2 H2 ρ2 σ2/\P α2 S2 H2/\PostS X.g W α2 H2 D (kY gf F k.gs (k.ds.drop n) ρ2 S2),⟨_,rfl,zero_le _,α1,ρ,S1,w1,sl1,hP.here,by simpa using q1⟩,?_⟩;rintro n m σ2 H2 ⟨rfl,hn,α2,ρ2,S2,w2,sl2,p2,q2⟩;obtain⟨i1,i2⟩:=hP.it n α2 S2 H2 p2 w2;by_cases hlt:n<k.ds.length
 ·obtain⟨go,yl⟩:=i1 hlt;refine .inr ⟨go,λσ3 H3=> ∃α3 ρ3 S3,Wd X.g α3 S3 H3/\Slots X.K α3 H3 ρ3 σ3/\P α3 S3 H3/\PostS X.g W α3 H3 D (kY gf F k.gs (k.ds.drop (n+1)) ρ3 S3),λσ3 H3 ⟨α3,ρ3,S3,h3⟩=>⟨k.ds.length - (n+1),by omega,rfl,hlt,α3,ρ3,S3,h3⟩,λv H3 y=>?_⟩;obtain⟨x3,w3,p3,d,hd,dv⟩:=yl v H3 y;have hdrop:k.ds.drop n=d::k.ds.drop (n+1):=by rw [List.drop_eq_getElem_cons hlt];have:=gE0 hlt;rw [hd]at this;rw [<-Option.some.inj this]
  rw [hdrop]at q2;unfold kY at q2
  replace q2:=PostS.shift x3 q2
  refine kg α2 ρ2 S2 σ2 H3 d v _ w3 (sl2.ext x3) dv (q2.expr λσ4 ρ4 S4 α4 H4 e4 x4 w4 s4 q4=>?_);have p4: ∀α5 S5 H5,Ext α4 H4 α5 H5->Wd X.g α5 S5 H5->stay k.gs S5->P α5 S5 H5:=λα5 S5 H5 x5 w5 s5=>hP.stays α2 S2 H3 α5 S5 H5 p3 (x4.trans x5) w5 s5;refine kb α4 ρ4 S4 σ4 H4 _ w4 s4 ((PostS.shift x4 q4).stmt ?_ ?_ ?_ ?_)
  ·intro ρ5 S5 σ5 α5 H5 e5 x5 w5 s5 q5;have q5':PostS X.g W α4 H4 D (if stay k.gs S5 then kY gf F k.gs (k.ds.drop (n+1)) ρ5 S5 else .no):=q5;split at q5'
   ·rename_i hst;exact⟨α5,ρ5,S5,w5,s5,p4 α5 S5 H5 x5 w5 hst,PostS.shift x5 q5'⟩
   ·exact q5'.elim
  ·intro r S5 v5 α5 H5 e5 x5 w5 d5 q5;exact q5 v5 α5 H5 x5 w5 d5
  ·intro ρ5 S5 σ5 α5 H5 e5 x5 w5 s5 q5;exact q5 σ5 α5 H5 x5 w5 s5
  ·intro ρ5 S5 σ5 α5 H5 e5 x5 w5 s5 q5;have q5':PostS X.g W α4 H4 D (if stay k.gs S5 then kY gf F k.gs (k.ds.drop (n+1)) ρ5 S5 else .no):=q5;split at q5'
   ·rename_i hst;exact⟨α5,ρ5,S5,w5,s5,p4 α5 S5 H5 x5 w5 hst,PostS.shift x5 q5'⟩
   ·exact q5'.elim
 ·have e:n=k.ds.length:=by omega
  subst e;refine .inl ⟨i2 (le_refl _),?_⟩;rw [List.drop_length]at q2;exact q2 σ2 α2 H2 (Ext.refl _ _) w2 sl2
def xH(t:AZ)(b:AY):Nat->AY
 |0,_,_=>.no
 |n+1,ρ,S=>(t ρ S).bind λk S1=>if k=true then(b ρ S1).bind λfl S2=>match fl with
   |.next ρ'=>xH t b n ρ' S2
   |.cont ρ'=>xH t b n ρ' S2
   |.brk ρ'=>.ok (.next ρ') S2
   |.ret r=>.ok (.ret r) S2
  else .ok (.next ρ) S1
def zFF(N:Nat)(hp:PassesOwn (model X.prog X.w) X.A X.env X.xe)(hc:PTm X W c tf)(hb:zOE X W as F):PSm X W (.While c as [] pos) (λρ S=>xH tf F N ρ S):=by
 obtain⟨tc,hc,kc⟩:=hc;obtain⟨tb,hb,kb⟩:=hb;refine⟨_,yAB hp hc hb,λα ρ S σ H D wd sl q=>⟨λm σ1 H1=> ∃α1 ρ1 S1,Wd X.g α1 S1 H1/\Slots X.K α1 H1 ρ1 σ1/\PostS X.g W α1 H1 D (xH tf F m ρ1 S1),⟨N,α,ρ,S,wd,sl,q⟩,?_⟩⟩;rintro m σ1 H1 ⟨α1,ρ1,S1,w1,sl1,q1⟩
 cases m with
 |zero=>exact q1.elim
 |succ n=>
  unfold xH at q1;refine kc α1 ρ1 S1 σ1 H1 _ w1 sl1 (q1.expr λu p S2 α2 H2 e2 x2 w2 d2 q2=>?_);cases d2
  replace q2:=PostS.shift x2 q2
  cases u with
  |false=>rw [iN xF0]at q2 ⊢; exact q2 σ1 α2 H2 (Ext.refl _ _) w2 (sl1.ext x2)
  |true=>
   rw [iP rfl]at q2 ⊢;refine⟨λσ3 H3=> ∃α3 ρ3 S3,Wd X.g α3 S3 H3/\Slots X.K α3 H3 ρ3 σ3/\PostS X.g W α3 H3 D (xH tf F n ρ3 S3),λσ' H' h=>⟨n,lt_succ_self n,h⟩,kb α2 ρ1 S2 σ1 H2 _ w2 (sl1.ext x2) (q2.stmt ?_ ?_ ?_ ?_)⟩
   ·intro ρ5 S5 σ5 α5 H5 e5 x5 w5 s5 q5;exact⟨α5,ρ5,S5,w5,s5,PostS.shift x5 q5⟩
   ·intro r S5 v5 α5 H5 e5 x5 w5 d5 q5;exact q5 v5 α5 H5 x5 w5 d5
   ·intro ρ5 S5 σ5 α5 H5 e5 x5 w5 s5 q5;exact q5 σ5 α5 H5 x5 w5 s5
   ·intro ρ5 S5 σ5 α5 H5 e5 x5 w5 s5 q5;exact⟨α5,ρ5,S5,w5,s5,PostS.shift x5 q5⟩
end
def noX{β:Type}:R β->R β
 |.ok b S=>.ok b S
 |_=>.no
theorem xV{β:Type}(b:β)(S:Sto):noX (R.ok b S)=.ok b S:=rfl
def Post.bindY{β τ γ υ:Type}[Dn β τ][Dn γ υ]{g:Gm}{W:XW}{α α':Ah}{H H':Hp}(x:Ext α H α' H'){m:R β}{k:β->Sto->R γ}{Q:υ->Hp->Prop}{Q':τ->Hp->Prop}(q:Post g W α H ((noX m).bind k) Q)
  (f: ∀u b S1 α1 H1,m=.ok b S1->Ext α' H' α1 H1->Wd g α1 S1 H1->Dn.d g H' α1 S1 H1 b u->Post g W α H (k b S1) Q->Q' u H1):Post g W0 α' H' m Q':=by
 cases m with
 |ok b S=>exact λu α1 H1 x w d=>f u b S α1 H1 rfl x w d q
 |exc c fs S=>exact q.elim
 |no=>exact q
theorem R.bind_assoc{β γ δ:Type}(m:R β)(k1:β->Sto->R γ)(k2:γ->Sto->R δ):(m.bind k1).bind k2=m.bind λb S=>(k1 b S).bind k2:=by cases m<;>rfl
def blk(nt:Nat)(idx:Ab)(ρ:Rho):Rho:=List.replicate nt none++idx.map λi=>(ρ[i]?).join
open Classical in
def xP(gf:MV->Rho->Sto->R Rho)(cf:AZ)(ef:AX)(ρb:Rho)(gs:Bk):List MV->Sto->R (List MV)
 |[],S=>.ok [] S
 |d::ds,S=>(noX (gf d ρb S)).bind λρ1 S0=>(noX (cf ρ1 S0)).bind λk S1=>
  if k=true then(noX (ef ρ1 S1)).bind λr S2=>(cS r S2).bind λy S3=>if stay gs S3 then(xP gf cf ef ρb gs ds S3).bind λout S4=>.ok (y::out) S4 else .no
  else if stay gs S1 then xP gf cf ef ρb gs ds S1 else .no
theorem zYL{K:Be}{α:Ah}{H:Hp}{ρ:Rho}{σ:St}(q:Slots K α H ρ σ)(nt:Nat)(idx:Ab)(τ:St)(hτ:τ.length=nt):Slots K α H (blk nt idx ρ) (τ++zGG σ idx):=by
 refine⟨by unfold blk;rw [lA,lA,nP,lM,length_replicate,hτ],λi d e=>?_⟩;unfold blk at e;by_cases hi:i<nt
 ·rw [getElem?_append_left (by rw [length_replicate];exact hi),List.getElem?_replicate]at e;split at e<;>cases e
 ·rw [getElem?_append_right (by rw [length_replicate];omega),length_replicate,getElem?_map]at e
  cases z:idx[i - nt]? with
  |none=>rw [z]at e;cases e
  |some k=>
   rw [z]at e;have e2:(ρ[k]?).join=some d:=Option.some.inj e
   cases z2:ρ[k]? with
   |none=>rw [z2]at e2;cases e2
   |some o=>
    rw [z2]at e2;have e3:o=some d:=e2;subst e3;obtain⟨v,h1,h2⟩:=q.slot k d z2;refine⟨v,?_,h2⟩;rw [getElem?_append_right (by omega),hτ];unfold zGG;rw [getElem?_map,z];show some (σ[k]?).join=some (some v);rw [h1];rfl
def Keeps(nt:Nat)(σ:St)(Q:St->Hp->Prop):St->Hp->Prop:=λσ' H'=>σ'.length=σ.length->(∀j,nt<=j->σ'[j]? =σ[j]?)->Q σ' H'
def PGn(nt:Nat)(X:Cx)(W:XW)(tg:Expr)(gf:MV->Rho->Sto->R Rho):Prop:=
 ∃t,PG X tg t/\ ∀α ρ S σ H d v Q,Wd X.g α S H->Slots X.K α H ρ σ->Den X.K α H d v->Post X.g W α H (gf d ρ S) (Keeps nt σ Q)->t v σ H Q
section
variable{X:Cx}{W:XW}{e:Expr}{pos:Pos}{nt:Nat}
def jD(i:Nat){x:Str}(hN:X.N.Nodup)(hi:X.N[i]? =some x:=by rfl)(hx:Loc X.env.scope x:=by first |exact Or.inl rfl|exact Or.inr rfl)(hf:X.fn x=true\/X.env.scope.names.lookup x=some .local:=by first |exact .inl rfl|exact .inr rfl|assumption)(hlt:i<nt:=by decide):
  PGn nt X W (.Name x pos) (gNm i):=⟨_,zVD hN hi hx hf,λα ρ S σ H d v Q wd sl de q=>Post.here (b:=ρ.set i (some d)) q wd (sl.set de) (by rw [length_set]) λj hj=>by rw [getElem?_set_ne (by omega)]⟩
end
abbrev yAV(X:Cx)(W:XW)(ifs:Bd)(f:AZ):Prop:=Jd X W (zYG X ifs) f
section
variable{X:Cx}{W:XW}{iter:Expr}{c:Expr}{tf:AZ}{pos:Pos}
def nR:yAV X W [] (λ_ S=>.ok true S):=⟨_,yAM,λα ρ S σ H Q wd sl q=>q.here wd rfl⟩
def zOI(h:PTm X W c tf):yAV X W [c] tf:=let ⟨t,h,k⟩:=h;⟨t,yAN h,k⟩
open Classical in
def zVP{elt tg:Expr}{ifs:Bd}{sc:Scope}{itf:Rho->Sto->R Wk}{cf:AZ}{ef:AX}{gf:MV->Rho->Sto->R Rho}(osc:Scope)(N:Ai)(T:Ai)(idx:Ab)
  (hi:PIm X W tg iter itf) (hcalm:X.calm=true)
  (hg: ∀C s₂ H1 fp,([]++T++idx.map λi=>(N[i]?).getD Str.empty).Nodup->PGn T.length (zV X sc T idx C s₂ H1 fp) W0 tg gf)
  (hc: ∀C s₂ H1 fp,yAV (zV X sc T idx C s₂ H1 fp) W0 ifs cf) (he: ∀C s₂ H1 fp,PEm (zV X sc T idx C s₂ H1 fp) W0 elt ef)
  (e1:X.env.scope=osc:=by rfl) (e2:X.N=N:=by rfl) (hB:zHV osc N sc idx=true:=by decide+kernel) (hN:([]++T++idx.map λi=>(N[i]?).getD Str.empty).Nodup:=by decide+kernel)
  (hs: ∀y,foldedSetIterable iter X.env y=pure y:=by intro _;rfl):
  Jd (β:=Er) (τ:=V) X W (λt=>PE X (.ListComp elt [⟨tg,iter,ifs,0⟩] sc pos) t/\PU X (.ListComp elt [⟨tg,iter,ifs,0⟩] sc pos) t) (λρ S=>(itf ρ S).bind λk S1=>if k.ds.length<1000000 then(xP gf cf ef (blk T.length idx ρ) k.gs k.ds S1).bind λout S2=>.ok (.new out) S2 else .no):=by
 obtain⟨wi,hi,ki⟩:=hi;subst e1 e2;have big:(1000000:Nat)<sizeLine:=by rw [sizeLine_eq];decide
 have hg': ∃t,(∀C s₂ H1 fp,PG (zV X sc T idx C s₂ H1 fp) tg t)/\ ∀α ρ S σ H d v Q,Wd X.g α S H->Slots X.K α H ρ σ->Den X.K α H d v->Post X.g W0 α H (gf d ρ S) (Keeps T.length σ Q)->t v σ H Q:=by refine⟨λv σ H Q=> ∃α ρ S d,Wd X.g α S H/\Slots X.K α H ρ σ/\Den X.K α H d v/\Post X.g W0 α H (gf d ρ S) (Keeps T.length σ Q),λC s₂ H1 fp pins s σ H v u Q I r ⟨α,ρ,S,d,h1,h2,h3,h4⟩=>?_,λα ρ S σ H d v Q h1 h2 h3 h4=>⟨α,ρ,S,d,h1,h2,h3,h4⟩⟩;obtain⟨t,ht,kt⟩:=hg C s₂ H1 fp hN;exact ht pins s σ H v u Q I r (kt α ρ S σ H d v Q h1 h2 h3 h4)
 obtain⟨tg',hg1,kg⟩:=hg';refine⟨_,⟨yFP T idx hi hcalm hB hg1 (λC s₂ H1 fp=>(Classical.choose_spec (hc C s₂ H1 fp)).1) (λC s₂ H1 fp=>(Classical.choose_spec (he C s₂ H1 fp)).1) hs,yFS T idx hi hcalm hB hg1 (λC s₂ H1 fp=>(Classical.choose_spec (hc C s₂ H1 fp)).1) (λC s₂ H1 fp=>(Classical.choose_spec (he C s₂ H1 fp)).1) hs⟩,λα ρ S σ H Q wd sl q=>ki α ρ S σ H _ wd sl (q.bind λJ k S1 α1 H1 e1 x1 w1 d1 q1=>?_)⟩;obtain⟨P,hP⟩:=d1;split at q1
 ·rename_i hlen
  refine⟨λn m ys H2=>m=k.ds.length - n/\n<=k.ds.length/\ys.length<=n/\ ∃α2 S2,Ext α H α2 H2/\Wd X.g α2 S2 H2/\P α2 S2 H2/\ ∃outs,DenL X.K α2 H2 outs ys/\Post X.g W α H ((xP gf cf ef (blk T.length idx ρ) k.gs (k.ds.drop n) S2).bind λo S'=>.ok (Er.new (outs++o)) S') Q,
   ⟨_,rfl,zero_le _,le_refl _,α1,S1,x1,w1,hP.here,[],yC,by simpa using q1⟩,?_⟩
  rintro n m ys H2 ⟨rfl,hn,hy,α2,S2,x2,w2,p2,outs,l,q2⟩;obtain⟨i1,i2⟩:=hP.it n α2 S2 H2 p2 w2;refine⟨by omega,?_⟩;by_cases hlt:n<k.ds.length
  ·obtain⟨go,yl⟩:=i1 hlt;refine .inr ⟨go,by omega,λv H3 y τ hτ=>?_⟩;obtain⟨x3,w3,p3,d,hd,dv⟩:=yl v H3 y;have hdrop:k.ds.drop n=d::k.ds.drop (n+1):=by rw [List.drop_eq_getElem_cons hlt];have:=gE0 hlt;rw [hd]at this;rw [<-Option.some.inj this]
   rw [hdrop]at q2;unfold xP at q2;have slb:=zYL (sl.ext (x2.trans x3)) T.length idx τ hτ;refine kg α2 (blk T.length idx ρ) S2 _ H3 d v _ w3 slb dv ?_;rw [R.bind_assoc]at q2;refine q2.bindY (x2.trans x3) λσ4 ρ4 S4 α4 H4 e4 x4 w4 s4 q4 len4 kp4=>⟨⟨σ4.take T.length,?_,?_⟩,λC s₂ fp=>?_⟩
   ·refine ext_getElem? λj=>?_;have hl4:σ4.length=T.length+idx.length:=by rw [len4,lA,nP,hτ]
    by_cases hj:j<T.length
    ·rw [getElem?_append_left (by rw [lT];omega),getElem?_take_of_lt hj]
    ·rw [kp4 j (by omega),getElem?_append_right (by omega),getElem?_append_right (by rw [lT];omega),hτ,lT,min_eq_left (by omega)]
   ·rw [lT,len4,lA,nP,hτ];omega
   have x34:Ext α H α4 H4:=(x2.trans x3).trans x4;have p4: ∀α5 S5 H5,Ext α4 H4 α5 H5->Wd X.g α5 S5 H5->stay k.gs S5->P α5 S5 H5:=λα5 S5 H5 x5 w5 s5=>hP.stays α2 S2 H3 α5 S5 H5 p3 (x4.trans x5) w5 s5;rw [R.bind_assoc]at q4;refine(Classical.choose_spec (hc C s₂ H1 fp)).2 α4 ρ4 S4 σ4 H4 _ w4 s4 (q4.bindY x34 λb5 b5' S5 α5 H5 e5 x5 w5 d5 q5=>?_);cases d5
   cases b5 with
   |false=>
    rw [iN xF0]at q5 ⊢;split at q5
    ·rename_i hst;exact⟨k.ds.length - (n+1),by omega,rfl,hlt,by omega,α5,S5,x34.trans x5,w5,p4 α5 S5 H5 x5 w5 hst,outs,(l.ext (x3.trans x4)).ext x5,q5⟩
    ·exact q5.elim
   |true=>
    rw [iP rfl,R.bind_assoc]at q5;rw [iP rfl];refine(Classical.choose_spec (he C s₂ H1 fp)).2 α5 ρ4 S5 σ4 H5 _ w5 (s4.ext x5) (q5.bindY (x34.trans x5) λy6 r6 S6 α6 H6 e6 x6 w6 d6 q6=>?_);obtain⟨d',S',α',e7,x7,y7,w7,de⟩:=zAM w6 x6 d6;rw [e7]at q6;have q6:Post X.g W α H ((if stay k.gs S' then(xP gf cf ef (blk T.length idx ρ) k.gs (k.ds.drop (n+1)) S').bind λout S4=>.ok (d'::out) S4 else .no).bind λo S'=>.ok (Er.new (outs++o)) S') Q:=q6;split at q6
    ·rename_i hst;refine⟨k.ds.length - (n+1),by omega,rfl,hlt,by rw [lA,lS];omega,α',S',(x34.trans x5).trans x7,w7,p4 α' S' H6 (x5.trans x7) w7 hst,outs++[d'],((l.ext (x3.trans x4)).ext (x5.trans x7)).append (zX de yC),?_⟩;rw [R.bind_assoc]at q6;have e8:(λ(o:Bh) (S':Sto)=>R.ok (Er.new ((outs++[d'])++o)) S')=(λ(b:Bh) S=>(R.ok (d'::b) S).bind λo S'=>.ok (Er.new (outs++o)) S'):=by funext o S';show _=R.ok (Er.new (outs++(d'::o))) S';rw [aA];rfl
     rw [e8];exact q6
    ·exact q6.elim
  ·have e:n=k.ds.length:=by omega
   subst e;rw [List.drop_length]at q2;have q3:Post X.g W α H (.ok (Er.new (outs++[])) S2) Q:=q2;rw [aN]at q3;exact .inl ⟨i2 (le_refl _),λD hD=>(q3.shift x2).newl w2 hD l⟩
 ·exact q1.elim
open Classical in
def cE{elt tg:Expr}{ifs:Bd}{sc:Scope}{itf:Rho->Sto->R Wk}{cf:AZ}{ef:AX}{gf:MV->Rho->Sto->R Rho}(osc:Scope)(N:Ai)(T:Ai)(idx:Ab)
  (hi:PIm X W tg iter itf) (hcalm:X.calm=true)
  (hg: ∀C s₂ H1 fp,([]++T++idx.map λi=>(N[i]?).getD Str.empty).Nodup->PGn T.length (zV X sc T idx C s₂ H1 fp) W0 tg gf)
  (hc: ∀C s₂ H1 fp,yAV (zV X sc T idx C s₂ H1 fp) W0 ifs cf) (he: ∀C s₂ H1 fp,PEm (zV X sc T idx C s₂ H1 fp) W0 elt ef)
  (e1:X.env.scope=osc:=by rfl) (e2:X.N=N:=by rfl) (hB:zHV osc N sc idx=true:=by decide+kernel) (hN:([]++T++idx.map λi=>(N[i]?).getD Str.empty).Nodup:=by decide+kernel)
  (hs: ∀y,foldedSetIterable iter X.env y=pure y:=by intro _;rfl):
  PEm X W (.ListComp elt [⟨tg,iter,ifs,0⟩] sc pos) (λρ S=>(itf ρ S).bind λk S1=>if k.ds.length<1000000 then(xP gf cf ef (blk T.length idx ρ) k.gs k.ds S1).bind λout S2=>.ok (.new out) S2 else .no):=let ⟨t,h,k⟩:=(zVP osc N T idx hi hcalm hg hc he e1 e2 hB hN hs);⟨t,h.1,k⟩
open Classical in
def zVQ{x:Str}{pos' spos:Pos}(i:Nat)(hNN:X.N.Nodup){elt tg:Expr}{ifs:Bd}{sc:Scope}{itf:Rho->Sto->R Wk}{cf:AZ}{ef:AX}{gf:MV->Rho->Sto->R Rho}(osc:Scope)(N:Ai)(T:Ai)(idx:Ab)
  (hi:PIm X W tg iter itf) (hcalm:X.calm=true)
  (hg: ∀C s₂ H1 fp,([]++T++idx.map λi=>(N[i]?).getD Str.empty).Nodup->PGn T.length (zV X sc T idx C s₂ H1 fp) W0 tg gf)
  (hc: ∀C s₂ H1 fp,yAV (zV X sc T idx C s₂ H1 fp) W0 ifs cf) (he: ∀C s₂ H1 fp,PEm (zV X sc T idx C s₂ H1 fp) W0 elt ef)
  (e1:X.env.scope=osc:=by rfl) (e2:X.N=N:=by rfl) (hB:zHV osc N sc idx=true:=by decide+kernel) (hN:([]++T++idx.map λi=>(N[i]?).getD Str.empty).Nodup:=by decide+kernel)
  (hs: ∀y,foldedSetIterable iter X.env y=pure y:=by intro _;rfl)
  (hi2:X.N[i]? =some x:=by rfl) (hx:Loc X.env.scope x:=by first |exact Or.inl rfl|exact Or.inr rfl)
  (hsw:swapsWith (.ListComp elt [⟨tg,iter,ifs,0⟩] sc pos) (some (.Name x pos')) spos.line X.env=pure true:=by with_unfolding_all rfl) (hf:X.fn x=true\/X.env.scope.names.lookup x=some .local:=by first |exact .inl rfl|exact .inr rfl|assumption):
  PSm X W (.Assign [.Name x pos'] (.ListComp elt [⟨tg,iter,ifs,0⟩] sc pos) spos) (λρ S=>((itf ρ S).bind λk S1=>if k.ds.length<1000000 then(xP gf cf ef (blk T.length idx ρ) k.gs k.ds S1).bind λout S2=>.ok (.new out) S2 else .no).bind (zOH ρ i)):=by
 obtain⟨t,h,k⟩:=(zVP osc N T idx hi hcalm hg hc he e1 e2 hB hN hs)
 refine⟨_,h.2 i x pos' spos hNN hi2 hx hf hsw,λα ρ S σ H D wd sl q=>k α ρ S σ H _ wd sl (q.expr λu r S1 α1 H1 e x1 w1 d1 q1=>?_)⟩;obtain⟨d',S',α',e1,x',y',w',de⟩:=zAM w1 x1 d1;unfold zOH at q1;rw [e1]at q1;exact q1 _ α' H1 x' w' (((sl.ext x1).ex0 y').set de)
end
mutual
def lo(n:Nat):MV->Prop
 |.loc l=>l<n
 |.tup ds=>loL n ds
 |.scr ds=>loL n ds
 |.obj _ _ ds=>loL n ds
 |_=>True
def loL(n:Nat):List MV->Prop
 |[]=>True
 |d::ds=>lo n d/\loL n ds
end

def loO(n:Nat):MO->Prop
 |.lst ds=>loL n ds
 |.dic kvs=> ∀p∈kvs,lo n p.1/\lo n p.2
 |.ins _ fs=> ∀p∈fs,lo n p.2
section
variable{K:Be}{α t:Ah}{H:Hp}
mutual
theorem Den.back: ∀{d:MV}{v:V},Den K (α++t) H d v->lo α.length d->Den K α H d v
 |.non,_,q,_=>by cases cQ q;exact zFC
 |.bl _,_,q,_=>by cases zAL q;exact wY _
 |.int _,_,q,_=>by cases yY q;exact xC _
 |.str _,_,q,_=>by cases xG q;exact cB _
 |.typ _,_,q,_=>by cases bO q;exact yFT _
 |.obj c ns ds,_,q,h=>by obtain⟨a,C,dx,vs,o,rfl,e,hn,hc,hl,l⟩:=hX q;exact yFU e hn hc hl (DenL.back l (by unfold lo at h;exact h))
 |.loc l,_,q,h=>by
  obtain⟨a,rfl,e⟩:=jA q;have hl:l<α.length:=by unfold lo at h;exact h
  rw [getElem?_append_left hl]at e;exact zDY e
 |.tup ds,_,q,h=>by obtain⟨a,vs,rfl,s,l⟩:=yZ q;exact zAW s (DenL.back l (by unfold lo at h;exact h))
 |.scr ds,_,q,h=>by obtain⟨a,vs,rfl,s,l⟩:=hZ q;exact zVL s (DenL.back l (by unfold lo at h;exact h))
theorem DenL.back: ∀{ds:Bh}{vs:List V},DenL K (α++t) H ds vs->loL α.length ds->DenL K α H ds vs
 |[],_,q,_=>by rw [q.isnil];exact yC
 |d::ds,_,q,h=>by obtain⟨v,r,rfl,a,l⟩:=q.uncons;unfold loL at h;exact zX (Den.back a h.1) (DenL.back l h.2)
end

mutual
theorem Den.lo: ∀{d:MV}{v:V},Den K α H d v->lo α.length d
 |.non,_,q=>by unfold M.lo;trivial
 |.bl _,_,q=>by unfold M.lo;trivial
 |.int _,_,q=>by unfold M.lo;trivial
 |.str _,_,q=>by unfold M.lo;trivial
 |.typ _,_,q=>by unfold M.lo;trivial
 |.obj c ns ds,_,q=>by obtain⟨a,C,dx,vs,o,rfl,e,hn,hc,hl,l⟩:=hX q;unfold M.lo;exact DenL.lo l
 |.loc l,_,q=>by obtain⟨a,rfl,e⟩:=jA q;unfold M.lo;exact(gS0.mp e).1
 |.tup ds,_,q=>by obtain⟨a,vs,rfl,s,l⟩:=yZ q;unfold M.lo;exact DenL.lo l
 |.scr ds,_,q=>by obtain⟨a,vs,rfl,s,l⟩:=hZ q;unfold M.lo;exact DenL.lo l
theorem DenL.lo: ∀{ds:Bh}{vs:List V},DenL K α H ds vs->loL α.length ds
 |[],_,q=>by unfold loL;trivial
 |d::ds,_,q=>by obtain⟨v,r,rfl,a,l⟩:=q.uncons;unfold loL;exact⟨Den.lo a,DenL.lo l⟩
end

theorem DenK.back: ∀{fs gs},DenK K (α++t) H fs gs->(∀p∈fs,M.lo α.length p.1/\M.lo α.length p.2)->DenK K α H fs gs
 |_,_,.nil,_=>.nil
 |_,_,.cons k a l,h=>.cons k (a.back (h _ mF0).2) (DenK.back l λp hp=>h p (mO _ hp))
def KeyD.lo{n:Nat}{k:MV}{k':Key}(h:KeyD k k'):M.lo n k:=by
 unfold KeyD at h;split at h
 ·unfold M.lo;trivial
 ·unfold M.lo;trivial
 ·exact h.elim
theorem DenK.lo: ∀{fs gs},DenK K α H fs gs-> ∀p∈fs,M.lo α.length p.1/\M.lo α.length p.2
 |_,_,.nil=>λp h=>by simp at h
 |_,_,.cons k a l=>λp h=>(mC.mp h).elim (λe=>by subst e;exact⟨k.lo,a.lo⟩) (DenK.lo l p)
theorem DenF.back: ∀{fs gs},DenF K (α++t) H fs gs->(∀p∈fs,M.lo α.length p.2)->DenF K α H fs gs
 |_,_,.nil,_=>.nil
 |_,_,.cons a l,h=>.cons (a.back (h _ mF0)) (DenF.back l λp hp=>h p (mO _ hp))
theorem DenF.lo: ∀{fs gs},DenF K α H fs gs-> ∀p∈fs,M.lo α.length p.2
 |_,_,.nil=>λp h=>by simp at h
 |_,_,.cons a l=>λp h=>(mC.mp h).elim (λe=>by subst e;exact a.lo) (DenF.lo l p)
def ObD.back{g:Gm}{a:Addr}{o:MO}(q:ObD g (α++t) H a o)(h:loO α.length o):ObD g α H a o:=by
 cases o with
 |lst ds=>obtain⟨vs,h1,l⟩:=q;exact⟨vs,h1,l.back h⟩
 |dic ds=>
  rcases q with⟨vs,h1,l⟩|z
  ·exact .inl ⟨vs,h1,l.back h⟩
  ·exact False.elim z
 |ins c fs=>obtain⟨C,gs,m,l,r⟩:=q;exact⟨C,gs,m,l.back h,r⟩
def ObD.lo{g:Gm}{a:Addr}{o:MO}(q:ObD g α H a o):loO α.length o:=by
 cases o with
 |lst ds=>obtain⟨vs,h1,l⟩:=q;exact l.lo
 |dic ds=>
  rcases q with⟨vs,h1,l⟩|z
  ·exact l.lo
  ·exact False.elim z
 |ins c fs=>obtain⟨C,gs,m,l,r⟩:=q;exact l.lo
end
def yAW(S S2:Sto):Prop:=S.length<=S2.length/\ ∀l,l<S.length->S2[l]? =S[l]? \/ ∃o,S2[l]? =some o/\loO S.length o
open Classical in
def bY(S:Sto)(r:Er)(S2:Sto):R Er:=
 if yAW S S2 then match r with
  |.val (.loc l)=>if l<S.length then .ok r (S2.take S.length)else match S2[l]? with
   |some (.lst ds)=>if loL S.length ds then .ok (.new ds) (S2.take S.length)else .ok r S2
   |_=>.ok r S2
  |.val d=>if lo S.length d then .ok r (S2.take S.length)else .ok r S2
  |.new ds=>if loL S.length ds then .ok r (S2.take S.length)else .ok r S2
 else .ok r S2
def yFX{g:Gm}{α α1 α2 α3:Ah}{H H1 H3:Hp}{S1 S3:Sto}{r:Er}{v:V}(x1:Ext α H α1 H1)(w1:Wd g α1 S1 H1)(h12: ∃t,α2=α1++t)(x2:Ext α H α2 H1)(x3:Ext α2 H1 α3 H3)(w3:Wd g α3 S3 H3)(d:DenE g.K H1 α3 H3 r v):
  ∃r' S' α',bY S1 r S3=.ok r' S'/\Ext α H α' H3/\Wd g α' S' H3/\DenE g.K H α' H3 r' v:=by
 have x23:=x2.trans x3;have dfull:DenE g.K H α3 H3 r v:=d.back λb h=>x1.free h;unfold bY;by_cases hc:yAW S1 S3
 ·rw [iP hc];obtain⟨t,ht⟩: ∃t,α3=α1++t:=by obtain⟨t,e⟩:=h12;obtain⟨u,e'⟩:=x3.pre;exact⟨t++u,by rw [e',e,aA]⟩
  have hn:α1.length=S1.length:=w1.len;have xc:Ext α H α1 H3:=⟨⟨x1.pre,x23.tup,x23.frz⟩,x1.new,x23.keep,x23.has⟩
  have wc:Wd g α1 (S3.take S1.length) H3:=by
   refine⟨by rw [lT,hn,min_eq_left hc.1],w1.nd,λl a o h1 h2=>?_⟩;have hl:l<S1.length:=by rw [<-hn];exact(gS0.mp h1).1
   rw [getElem?_take_of_lt hl]at h2;have h1':α3[l]? =some a:=by rw [ht,getElem?_append_left (by rw [hn];exact hl)];exact h1
   have q:=w3.obj l a o h1' h2;rw [ht]at q;refine q.back ?_;rcases hc.2 l hl with e|⟨o',e,lo'⟩
   ·rw [e]at h2;exact(w1.obj l a o h1 h2).lo
   ·rw [h2]at e;cases e;rw [hn];exact lo'
  have dlo: ∀d,lo S1.length d->Den g.K α3 H3 d v->DenE g.K H α1 H3 (.val d) v:=λd hd q=>.val ((ht▸q:Den g.K (α1++t) H3 d v).back (by rw [hn];exact hd))
  cases r with
  |new ds=>
   dsimp only;split
   ·rename_i hl;obtain⟨⟨b,vs,rfl,h1,h2,h3⟩,h4⟩:=dfull;exact⟨_,_,α1,rfl,xc,wc,⟨b,vs,rfl,h1,λz=>h2 (by rw [ht];exact mem_append_left _ z),(ht▸h3:DenL g.K (α1++t) H3 ds vs).back (by rw [hn];exact hl)⟩,h4⟩
   ·exact⟨_,_,α3,rfl,x23,w3,dfull⟩
  |val mv=>
   have dd:Den g.K α3 H3 mv v:=dfull.1
   cases mv with
   |loc l=>
    dsimp only;split
    ·rename_i hl;exact⟨_,_,α1,rfl,xc,wc,dlo _ (by unfold lo;exact hl) dd⟩
    ·rename_i hl;obtain⟨a,rfl,ha⟩:=jA dd;split
     ·rename_i ds hS;split
      ·rename_i hlo;obtain⟨vs,h1,h2⟩:=w3.obj l a _ ha hS
       have hna:a∉α1:=λz=>by
        obtain⟨m,hm⟩:=getElem?_of_mem z;have hml:m<α1.length:=(gS0.mp hm).1;have hm':α3[m]? =some a:=by rw [ht,getElem?_append_left hml];exact hm
        obtain⟨u1,e1⟩:=gS0.mp hm';obtain⟨u2,e2⟩:=gS0.mp ha;have:=(getElem_inj w3.nd).mp (e1.trans e2.symm);omega
       refine⟨_,_,α1,rfl,xc,wc,⟨a,vs,rfl,h1,hna,(ht▸h2:DenL g.K (α1++t) H3 ds vs).back (by rw [hn];exact hlo)⟩,λb e=>?_⟩;cases e;rcases x23.new a (mem_of_getElem? ha)with z|z
       ·obtain⟨u,eu⟩:=x1.pre;exact absurd (by rw [eu];exact mem_append_left _ z) hna
       ·exact z
      ·exact⟨_,_,α3,rfl,x23,w3,dfull⟩
     ·exact⟨_,_,α3,rfl,x23,w3,dfull⟩
   |non=>dsimp only;split;(· rename_i hl;exact⟨_,_,α1,rfl,xc,wc,dlo _ hl dd⟩);(· exact⟨_,_,α3,rfl,x23,w3,dfull⟩)
   |bl b=>dsimp only;split;(· rename_i hl;exact⟨_,_,α1,rfl,xc,wc,dlo _ hl dd⟩);(· exact⟨_,_,α3,rfl,x23,w3,dfull⟩)
   |int b=>dsimp only;split;(· rename_i hl;exact⟨_,_,α1,rfl,xc,wc,dlo _ hl dd⟩);(· exact⟨_,_,α3,rfl,x23,w3,dfull⟩)
   |str b=>dsimp only;split;(· rename_i hl;exact⟨_,_,α1,rfl,xc,wc,dlo _ hl dd⟩);(· exact⟨_,_,α3,rfl,x23,w3,dfull⟩)
   |typ b=>dsimp only;split;(· rename_i hl;exact⟨_,_,α1,rfl,xc,wc,dlo _ hl dd⟩);(· exact⟨_,_,α3,rfl,x23,w3,dfull⟩)
   |obj b b' b''=>dsimp only;split;(· rename_i hl;exact⟨_,_,α1,rfl,xc,wc,dlo _ hl dd⟩);(· exact⟨_,_,α3,rfl,x23,w3,dfull⟩)
   |tup b=>dsimp only;split;(· rename_i hl;exact⟨_,_,α1,rfl,xc,wc,dlo _ hl dd⟩);(· exact⟨_,_,α3,rfl,x23,w3,dfull⟩)
   |scr b=>dsimp only;split;(· rename_i hl;exact⟨_,_,α1,rfl,xc,wc,dlo _ hl dd⟩);(· exact⟨_,_,α3,rfl,x23,w3,dfull⟩)
 ·rw [iN hc];exact⟨_,_,α3,rfl,x23,w3,dfull⟩
def spM(g:Gm)(n:Nat)(F:List MV->Sto->R Er):Sp:=λvs H Q _=> ∃α S ds,Wd g α S H/\DenL g.K α H ds vs/\ds.length=n/\Post g W0 α H (F ds S) Q
def zT(n:Nat)(F:List MV->Sto->R Er)(rs:List Er)(S:Sto):R Er:=if rs.length=n then(noX (F (zQ rs S).1 (zQ rs S).2)).bind λr S2=>bY S r S2 else .no
section
variable{X:Cx}{W:XW}{e:Expr}{es:Bd}{af:Rho->Sto->R (List Er)}{pos:Pos}
def zYM{n:Nat}{F:List MV->Sto->R Er}{rs:List Er}{vs:List V}{α α1:Ah}{H H1:Hp}{S1:Sto}{Q:VK}(x1:Ext α H α1 H1)(w1:Wd X.g α1 S1 H1)(d1:ArgsE X.K H α1 H1 rs vs)(q:Post X.g W α H (zT n F rs S1) Q):
  spM X.g n F vs H1 Q E0:=by
 unfold zT at q;split at q
 ·rename_i hl;obtain⟨α2,x2,y2,w2,l2⟩:=zCO w1 x1 d1;refine⟨α2,_,_,w2,l2,by rw [zGJ];exact hl,?_⟩
  cases z:F (zQ rs S1).1 (zQ rs S1).2 with
  |ok r S3=>
   rw [z]at q;intro v α3 H3 x3 w3 d3;obtain⟨r',S',α',e',x',w',d'⟩:=yFX x1 w1 y2.pre x2 x3 w3 d3;have q:Post X.g W α H (bY S1 r S3) Q:=q;rw [e']at q;exact q v α' H3 x' w' d'
  |exc c fs S3=>rw [z]at q;exact q.elim
  |no=>rw [z]at q;exact q.elim
 ·exact q.elim
def yFY{k n:Nat}{fa:Addr}{fd:FuncData}{ps:Ai}{F:List MV->Sto->R Er}{x:Str}{p:Pos}(G:FnOk X.prog X.w X.K X.mg X.base CX0 k fa fd ps (spM X.g n F))(hr:Room k X.A)(hg:Gl X x)(hm:X.mg x=some (.ref fa))
  (hk:PySem.W.keepIn X.K (.ref fa)=true) (hb:Binds X.K fd ps []) (ha:PAm X W (e::es) af) (hdb:(x==("__debug__":Str))=false:=by decide)
  (he:starEach (e::es) X.env=(false,eval e X.env)::starEach es X.env:=by rfl) (hpl:(backTo pos (starEach es X.env)).any (·.1)=false:=by rfl):
  PEm X W (.Call (.Name x p) (e::es) [] pos) (λρ S=>(af ρ S).bind λrs S1=>zT n F rs S1):=by
 obtain⟨t,ha,kk⟩:=ha;refine⟨_,yFF G hr hg hm hk hb .nil pass0 ha hdb he hpl,λα ρ S σ H Q wd sl q=>kk α ρ S σ H _ wd sl (q.bind λvs rs S1 α1 H1 e1 x1 w1 d1 q1=>?_)⟩;rw [aN];exact zYM x1 w1 d1 q1
end
def yE(N:Ai)(ds:Bh):Rho:=ds.map some++List.replicate (N.length - ds.length) none
def xI:R Fl->R Er
 |.ok (.next _) S=>.ok (.val .non) S
 |.ok (.ret r) S=>.ok r S
 |.exc c fs S=>.exc c fs S
 |_=>.no
def zQV{K:Be}{α:Ah}{N:Ai}{H:Hp}{ds:Bh}{vs:List V}(l:DenL K α H ds vs):Slots K α H (yE N ds) (start N vs):=by
 have hlen:=l.length;refine⟨?_,λi d e=>?_⟩
 ·unfold start yE;rw [lA,lA,lM,lM,length_replicate,length_replicate,hlen]
 ·unfold yE at e;by_cases hi:i<ds.length
  ·rw [getElem?_append_left (by simpa using hi),getElem?_map]at e
   cases z:ds[i]? with
   |none=>rw [z]at e;cases e
   |some d'=>
    rw [z]at e;obtain⟨v,h1,h2⟩:=l.at z;have e':d'=d:=Option.some.inj (Option.some.inj e);subst e';refine⟨v,?_,h2⟩;unfold start;rw [getElem?_append_left (by rw [lM,hlen];exact hi),getElem?_map,h1];rfl
  ·rw [getElem?_append_right (by simpa using hi),List.getElem?_replicate]at e;split at e<;>cases e
section
variable{P:Program}{w:World}{K:Be}{mg:Aj}{base:Heap}
def okM{x qual:Str}{st:Stmt}{f:Addr}{fd:FuncData}{N ps:Ai}{k:Nat}(Fb:AY)(F:Fun K x qual st f fd)(Sc:FnScope N ps (zI st))
  (hbody: ∀(cdv:Value)(A:Around)(outer:List Env)(s:Shared)(H:Hp)(E:XK),Room k (A.deeper (envOfC qual (zI st) s.heap.objs.size f cdv))->
   zOE (zTH CX0 P w K mg base N qual (zI st) f cdv A outer s H E).nox W0 (cA st) Fb):
  FnOk P w K mg base CX0 (k+1) f fd ps (spM ⟨K,mg,P,w⟩ ps.length λds S=>xI (Fb (yE N ds) S)):=by
 refine F.ok Sc (λvs H Q E h=>?_) (λcdv A outer s H vs Q E hr h=>?_)
 ·obtain⟨α,S,ds,_,l,hl,_⟩:=h;rw [l.length,hl]
 ·obtain⟨α,S,ds,wd,l,hl,q⟩:=h;obtain⟨t,ht,kk⟩:=hbody cdv A outer s H E hr;refine⟨t,ht,kk α (yE N ds) S (start N vs) H _ wd (zQV l) ?_⟩;dsimp only at q
  cases z:Fb (yE N ds) S with
  |ok fl S'=>
   rw [z]at q
   cases fl with
   |next ρ=>exact λσ α' H' x' w' s'=>q .non α' H' x' w' (DenE.val zFC)
   |ret r=>exact λv α' H' x' w' d'=>q v α' H' x' w' d'
   |brk ρ=>exact q.elim
   |cont ρ=>exact q.elim
  |exc c fs S'=>rw [z]at q;exact λα' H' x' w'=>q α' H' x' w'
  |no=>rw [z]at q;exact q
end
inductive Vw where
 |fl (v:V)|tp (ds:Bh)|ls (ds:Bh)
def kG(S:Sto):Er->Option (List MV)
 |.new ds=>some ds
 |.val (.scr ds)=>some ds
 |.val (.loc l)=>match S[l]? with
  |some (.lst ds)=>some ds
  |_=>none
 |_=>none
def vwE(S:Sto):Er->Option Vw
 |.val .non=>some (.fl .non)
 |.val (.bl b)=>some (.fl (.bl b))
 |.val (.int i)=>some (.fl (.int i))
 |.val (.str x)=>some (.fl (.str (mkS x)))
 |.val (.tup ds)=>some (.tp ds)
 |.val (.typ _)=>none
 |.val (.obj _ _ _)=>none
 |r=>(kG S r).map .ls
def prs(e:MV->MV->Option Bool):List MV->List MV->Option (List Bool)
 |d::ds,f::fs=>(e d f).bind λk=>(prs e ds fs).map (k::·)
 |_,_=>some []
def eqW(e:MV->MV->Option Bool):Vw->Vw->Option Bool
 |.fl x,.fl y=>some (eqV x y)
 |.tp ds,.tp es=>(prs e ds es).map λbs=>bs.all id&&ds.length==es.length
 |.ls ds,.ls es=>if ds.length=es.length then(prs e ds es).map λbs=>bs.all id else some false
 |_,_=>some false
theorem zTQ(e:MV->MV->Option Bool)(ds es:Bh):eqW e (.tp ds) (.tp es)=(prs e ds es).map λbs=>bs.all id&&ds.length==es.length:=rfl
theorem zOJ(e:MV->MV->Option Bool)(ds es:Bh):eqW e (.ls ds) (.ls es)=if ds.length=es.length then(prs e ds es).map λbs=>bs.all id else some false:=rfl
def eqv(S:Sto):Nat->MV->MV->Option Bool
 |0,_,_=>none
 |n+1,a,b=>(vwE S (.val a)).bind λx=>(vwE S (.val b)).bind λy=>eqW (eqv S n) x y
def zIJ(S:Sto)(n:Nat)(a b:Er):Option Bool:=(vwE S a).bind λx=>(vwE S b).bind λy=>eqW (eqv S n) x y
section
variable{X:Cx}{α:Ah}{S:Sto}{H:Hp}
def zCP{K:Be}{g:Gm}(hK:g.K=K)(wd:Wd g α S H){r:Er}{ds:Bh}{x:V}(e:kG S r=some ds)(d:DenX K α H r x): ∃a vs,x=.ref a/\SqL K H a vs/\DenL K α H ds vs:=by
 subst hK;unfold kG at e;split at e
 ·cases e;obtain⟨b,vs,rfl,h,_,l⟩:=d;exact⟨b,vs,rfl,.of h,l⟩
 ·cases e;obtain⟨a,vs,rfl,s,l⟩:=zJD d;exact⟨a,vs,rfl,s.l,l⟩
 ·rename_i n;obtain⟨a,rfl,h⟩:=zAD d;split at e
  ·rename_i es hS;cases e;obtain⟨vs,h1,l⟩:=wd.obj n a _ h hS;exact⟨a,vs,rfl,.of h1,l⟩
  ·cases e
 ·cases e
def zCB{r:Er}{x y:V}(e:vwE S r=some (.fl y))(d:DenX X.K α H r x):x=y/\wF y=true:=by
 unfold vwE at e;split at e
 ·cases e;exact⟨zCL d,rfl⟩
 ·cases e;exact⟨zHW d,rfl⟩
 ·cases e;exact⟨xO d,rfl⟩
 ·cases e;exact⟨gA d,rfl⟩
 ·cases e
 ·cases e
 ·cases e
 ·cases z:kG S r<;>rw [z]at e<;>cases e
def zCC{r:Er}{x:V}{ds:Bh}(e:vwE S r=some (.tp ds))(d:DenX X.K α H r x): ∃a vs,x=.ref a/\SqT X.K H a vs/\DenL X.K α H ds vs:=by
 unfold vwE at e;split at e
 ·cases e
 ·cases e
 ·cases e
 ·cases e
 ·cases e;exact cR d
 ·cases e
 ·cases e
 ·cases z:kG S r<;>rw [z]at e<;>cases e
def zCD(wd:Wd X.g α S H){r:Er}{x:V}{ds:Bh}(e:vwE S r=some (.ls ds))(d:DenX X.K α H r x): ∃a vs,x=.ref a/\SqL X.K H a vs/\DenL X.K α H ds vs:=by
 unfold vwE at e;split at e
 ·cases e
 ·cases e
 ·cases e
 ·cases e
 ·cases e
 ·cases e
 ·cases e
 ·cases z:kG S r with
  |none=>rw [z]at e;cases e
  |some es=>rw [z]at e;cases e;exact zCP rfl wd z d
theorem zEA{e:MV->MV->Option Bool}: ∀{ds es:Bh}{bs:Bb},prs e ds es=some bs->bs.length=min ds.length es.length
 |[],_,_,h=>by simp [prs]at h;subst h;simp
 |_::_,[],_,h=>by simp [prs]at h;subst h;simp
 |d::ds,f::fs,bs,h=>by
  unfold prs at h
  cases z:e d f with
  |none=>rw [z]at h;cases h
  |some k=>
   rw [z]at h
   cases z2:prs e ds fs with
   |none=>simp [z2]at h
   |some cs=>
    simp [z2]at h;subst h;simp [zEA z2]
theorem zOK{e:MV->MV->Option Bool}: ∀{ds es:Bh}{bs:Bb}{j:Nat}{d f:MV},prs e ds es=some bs->ds[j]? =some d->es[j]? =some f->e d f=some (bs.getD j true)
 |[],_,_,_,_,_,h,h1,_=>by simp at h1
 |_::_,[],_,_,_,_,h,_,h2=>by simp at h2
 |d::ds,f::fs,bs,j,d',f',h,h1,h2=>by
  unfold prs at h
  cases z:e d f with
  |none=>rw [z]at h;cases h
  |some k=>
   rw [z]at h
   cases z2:prs e ds fs with
   |none=>simp [z2]at h
   |some cs=>
    simp [z2]at h;subst h
    cases j with
    |zero=>simp at h1 h2;subst h1 h2;simpa using z
    |succ j=>simpa using zOK z2 (by simpa using h1) (by simpa using h2)
def range_all{bs:Bb}{n:Nat}(h:bs.length=n):(List.range n).all (λj=>bs.getD j true)=bs.all id:=by
 subst h;rw [Bool.eq_iff_iff,all_eq_true,all_eq_true];constructor
 ·intro h x hx;obtain⟨i,hi,rfl⟩:=getElem_of_mem hx;have:=h i (mem_range.mpr hi);simpa [getD_eq_getElem?_getD,hi]using this
 ·intro h i hi;have hi':=mem_range.mp hi;have:=h bs[i] (getElem_mem hi');simpa [getD_eq_getElem?_getD,hi']using this
variable{pins:Ba}{σ:St}{s:Shared}
def zFG(I:Inv X pins σ H s){a:Addr}{xs ys:List V}(h:SqL X.K H a xs)(h':SqT X.K H a ys):False:=by obtain⟨_,_,pl,_⟩:=I.list h;obtain⟨_,_,pt,_⟩:=I.tuple h';obtain⟨o,n,e,c,_,_⟩:=pl;obtain⟨o',e',c',_⟩:=pt;rw [e]at e';cases e';rw [c]at c';exact absurd c' (by simp)
def yAX(I:Inv X pins σ H s)(wd:Wd X.g α S H){e:MV->MV->Option Bool}(he: ∀d f v k,Den X.K α H d v->Den X.K α H f v->e d f=some k->k=true){a b:Er}{x:V}{p q:Vw}{k:Bool}
  (ha:vwE S a=some p) (hb:vwE S b=some q) (da:DenX X.K α H a x) (db:DenX X.K α H b x) (h:eqW e p q=some k):k=true:=by
 have hp: ∀{ds es:Bh}{vs:List V}{bs:Bb},DenL X.K α H ds vs->DenL X.K α H es vs->prs e ds es=some bs->bs.all id=true:=by
  intro ds es vs bs l1 l2 z;rw [all_eq_true];intro k hk;obtain⟨i,hi,rfl⟩:=getElem_of_mem hk;have hl:=zEA z;have h1:i<ds.length:=by omega
  have h2:i<es.length:=by omega
  obtain⟨v,g1,g2⟩:=l1.at (gE0 h1);obtain⟨v',g3,g4⟩:=l2.at (gE0 h2);rw [g1]at g3;cases g3;have:=he _ _ _ _ g2 g4 (zOK z (gE0 h1) (gE0 h2));simpa [getD_eq_getElem?_getD,hi]using this
 cases p with
 |fl y=>
  obtain⟨rfl,f1⟩:=zCB ha da
  cases q with
  |fl z=>obtain⟨rfl,f2⟩:=zCB hb db;cases h;exact yAP f1
  |tp ds=>obtain⟨a,vs,rfl,_⟩:=zCC hb db;exact absurd (show false=true from f1) xF0
  |ls ds=>obtain⟨a,vs,rfl,_⟩:=zCD wd hb db;exact absurd (show false=true from f1) xF0
 |tp ds=>
  obtain⟨a1,vs,rfl,s1,l1⟩:=zCC ha da
  cases q with
  |fl z=>obtain⟨rfl,f2⟩:=zCB hb db;exact absurd (show false=true from f2) xF0
  |tp es=>
   obtain⟨a2,us,e2,s2,l2⟩:=zCC hb db;cases e2;cases I.tuple_inj s1 s2;rw [zTQ]at h
   cases z:prs e ds es with
   |none=>rw [z]at h;cases h
   |some bs=>
    rw [z]at h;cases h;show(bs.all id&&ds.length==es.length)=true;rw [hp l1 l2 z, <-l1.length, <-l2.length];simp
  |ls es=>obtain⟨a2,us,e2,s2,l2⟩:=zCD wd hb db;cases e2;exact(zFG I s2 s1).elim
 |ls ds=>
  obtain⟨a1,vs,rfl,s1,l1⟩:=zCD wd ha da
  cases q with
  |fl z=>obtain⟨rfl,f2⟩:=zCB hb db;exact absurd (show false=true from f2) xF0
  |tp es=>obtain⟨a2,us,e2,s2,l2⟩:=zCC hb db;cases e2;exact(zFG I s1 s2).elim
  |ls es=>
   obtain⟨a2,us,e2,s2,l2⟩:=zCD wd hb db;cases e2;cases I.list_inj s1 s2;rw [zOJ]at h;rw [iP (by rw [<-l1.length, <-l2.length])]at h
   cases z:prs e ds es with
   |none=>rw [z]at h;cases h
   |some bs=>rw [z]at h;cases h;exact hp l1 l2 z
theorem zJH(I:Inv X pins σ H s)(wd:Wd X.g α S H): ∀(n:Nat)(d f:MV)(v:V)(k:Bool),Den X.K α H d v->Den X.K α H f v->eqv S n d f=some k->k=true
 |0,_,_,_,_,_,_,h=>by cases h
 |n+1,d,f,v,k,h1,h2,h=>by
  unfold eqv at h
  cases za:vwE S (.val d)with
  |none=>rw [za]at h;cases h
  |some p=>
   cases zb:vwE S (.val f)with
   |none=>rw [za,zb]at h;cases h
   |some q=>
    rw [za,zb]at h;exact yAX I wd (zJH I wd n) za zb (a:=.val d) (b:=.val f) h1 h2 h
def zFH{e:MV->MV->Option Bool}{A:Around}(he: ∀d f x y u v k,Den X.K α H d x->Den X.K α H f y->RelV x u->RelV y v->e d f=some k->SeqAt.EqAt A s u v k)
  {ds es:Bh} {vs us:List V} {its its2:Ae} {bs:Bb} (l1:DenL X.K α H ds vs) (l2:DenL X.K α H es us) (r1:Vals vs its) (r2:Vals us its2) (z:prs e ds es=some bs):
  ∀j (h1:j<its.toArray.size) (h2:j<its2.toArray.size),SeqAt.EqAt A s its.toArray[j] its2.toArray[j] (bs.getD j true):=by
 intro j h1 h2;have g1:j<vs.length:=by rw [r1.length];simpa using h1
 have g2:j<us.length:=by rw [r2.length];simpa using h2
 obtain⟨d,d1,d2⟩:=l1.get (gE0 g1);obtain⟨f,f1,f2⟩:=l2.get (gE0 g2);obtain⟨u,u1,u2⟩:=r1.get (gE0 g1);obtain⟨v,v1,v2⟩:=r2.get (gE0 g2);have e1:its.toArray[j]=u:=by have:its[j]? =some (its[j]'(by simpa using h1)):=gE0 _;rw [u1]at this;simpa using(Option.some.inj this).symm
 have e2:its2.toArray[j]=v:=by have:its2[j]? =some (its2[j]'(by simpa using h2)):=gE0 _;rw [v1]at this;simpa using(Option.some.inj this).symm
 rw [e1,e2];exact he d f _ _ u v _ d2 f2 u2 v2 (zOK z d1 f1)
theorem zGL(I:Inv X pins σ H s)(wd:Wd X.g α S H): ∀(n:Nat)(A:Around)(d f:MV)(x y:V)(u v:Value)(k:Bool),A.units+n<cLine->Den X.K α H d x->Den X.K α H f y->RelV x u->RelV y v->eqv S n d f=some k->SeqAt.EqAt A s u v k
 |0,_,_,_,_,_,_,_,_,_,_,_,_,_,h=>by cases h
 |n+1,A,d,f,x,y,u,v,k,hu,h1,h2,rx,ry,h=>by
  have hu0:A.units<cLine:=by omega
  have hsame:=h;unfold eqv at h
  cases za:vwE S (.val d)with
  |none=>rw [za]at h;cases h
  |some p=>
   cases zb:vwE S (.val f)with
   |none=>rw [za,zb]at h;cases h
   |some q=>
    rw [za,zb]at h;have h:eqW (eqv S n) p q=some k:=h;have he:=λd f x y u v k a b c d' e=>zGL I wd n A.in1 d f x y u v k (show A.units+1+n<cLine by omega) a b c d' e
    cases p with
    |fl x'=>
     obtain⟨rfl,fx⟩:=zCB za (α:=α) (H:=H) (X:=X) h1
     cases q with
     |fl y'=>obtain⟨rfl,fy⟩:=zCB zb (α:=α) (H:=H) (X:=X) h2;cases h;exact yKQ rx ry fx fy
     |tp es=>
      obtain⟨b,us,rfl,s2,l2⟩:=zCC zb (α:=α) (H:=H) (X:=X) h2;cases ry;cases h;obtain⟨its,_,pt,_⟩:=I.tuple s2;exact eq_tr rx fx pt hu0
     |ls es=>
      obtain⟨b,us,rfl,s2,l2⟩:=zCD wd zb h2;cases ry;cases h;obtain⟨its,_,pl,_⟩:=I.list s2;exact eq_lr rx fx pl.isList hu0
    |tp ds=>
     obtain⟨a,vs,rfl,s1,l1⟩:=zCC za (α:=α) (H:=H) (X:=X) h1;cases rx;obtain⟨its,r1,pt,_⟩:=I.tuple s1
     cases q with
     |fl y'=>obtain⟨rfl,fy⟩:=zCB zb (α:=α) (H:=H) (X:=X) h2;cases h;exact eq_tl ry fy pt hu0
     |tp es=>
      obtain⟨b,us,rfl,s2,l2⟩:=zCC zb (α:=α) (H:=H) (X:=X) h2;cases ry;by_cases hab:a=b
      ·subst hab;rw [zJH I wd (n+1) d f _ k h1 h2 hsame];exact SeqAt.EqAt.same _
      ·obtain⟨its2,r2,pt2,_⟩:=I.tuple s2;rw [zTQ]at h
       cases z:prs (eqv S n) ds es with
       |none=>rw [z]at h;cases h
       |some bs=>
        rw [z]at h;cases h;have:=SeqAt.RcAt.tuples pt pt2 hu0 (zFH he l1 l2 r1 r2 z);have hl:=zEA z;rw [range_all (by rw [hl];simp [<-r1.length, <-r2.length,l1.length,l2.length])]at this;have e3:(its.toArray.size==its2.toArray.size)=(ds.length==es.length):=by simp [<-r1.length, <-r2.length,l1.length,l2.length]
        rw [e3]at this;exact SeqAt.EqAt.of_refs hab this
     |ls es=>
      obtain⟨b,us,rfl,s2,l2⟩:=zCD wd zb h2;cases ry;cases h;obtain⟨its2,_,pl,_⟩:=I.list s2;exact SeqAt.EqAt.tuple_list pt pl.isList hu0
    |ls ds=>
     obtain⟨a,vs,rfl,s1,l1⟩:=zCD wd za h1;cases rx;obtain⟨its,r1,pl,_⟩:=I.list s1
     cases q with
     |fl y'=>obtain⟨rfl,fy⟩:=zCB zb (α:=α) (H:=H) (X:=X) h2;cases h;exact eq_ll ry fy pl.isList hu0
     |tp es=>
      obtain⟨b,us,rfl,s2,l2⟩:=zCC zb (α:=α) (H:=H) (X:=X) h2;cases ry;cases h;obtain⟨its2,_,pt,_⟩:=I.tuple s2;exact SeqAt.EqAt.list_tuple pl.isList pt hu0
     |ls es=>
      obtain⟨b,us,rfl,s2,l2⟩:=zCD wd zb h2;cases ry;by_cases hab:a=b
      ·subst hab;rw [zJH I wd (n+1) d f _ k h1 h2 hsame];exact SeqAt.EqAt.same _
      ·obtain⟨its2,r2,pl2,_⟩:=I.list s2;rw [zOJ]at h;by_cases hl:ds.length=es.length
       ·rw [iP hl]at h
        cases z:prs (eqv S n) ds es with
        |none=>rw [z]at h;cases h
        |some bs=>
         rw [z]at h;cases h;have hs:its.toArray.size=its2.toArray.size:=by simp [<-r1.length, <-r2.length,l1.length,l2.length,hl]
         have:=SeqAt.RcAt.lists pl.isList pl2.isList hs hu0 (zFH he l1 l2 r1 r2 z);have hl':=zEA z;rw [range_all (by rw [hl'];simp [<-r1.length,l1.length,hl])]at this;exact SeqAt.EqAt.of_refs hab this
       ·rw [iN hl]at h;cases h;exact SeqAt.EqAt.of_refs hab (SeqAt.RcAt.lists_lengths pl.isList pl2.isList (by simpa [<-r1.length, <-r2.length,l1.length,l2.length]using hl) hu0)
def yJB{RC:Around->Shared->Value->Value->Bool->Prop}{tr:Bool->Bool}{A:Around}
  (hff: ∀x y u v,RelV x u->RelV y v->wF x=true->wF y=true->RC A s u v (tr (eqV x y)))
  (hfl: ∀x v l items,RelV x v->wF x=true->s.heap.IsList l items->A.units<cLine->RC A s v (.ref l) (tr false)/\RC A s (.ref l) v (tr false))
  (hft: ∀x v l items,RelV x v->wF x=true->s.heap.IsTuple l items->A.units<cLine->RC A s v (.ref l) (tr false)/\RC A s (.ref l) v (tr false))
  (hlt: ∀l b items items2,s.heap.IsList l items->s.heap.IsTuple b items2->A.units<cLine->RC A s (.ref l) (.ref b) (tr false)/\RC A s (.ref b) (.ref l) (tr false))
  (htt: ∀(l b:Addr)(items items2:Ag)(e:Nat->Bool),s.heap.IsTuple l items->s.heap.IsTuple b items2->A.units<cLine->(∀j (h1:j<items.size) (h2:j<items2.size),SeqAt.EqAt A.in1 s items[j] items2[j] (e j))->RC A s (.ref l) (.ref b) (tr ((List.range (min items.size items2.size)).all e&&items.size==items2.size)))
  (hll: ∀(l b:Addr)(items items2:Ag)(e:Nat->Bool),s.heap.IsList l items->s.heap.IsList b items2->items.size=items2.size->A.units<cLine->(∀j (h1:j<items.size) (h2:j<items2.size),SeqAt.EqAt A.in1 s items[j] items2[j] (e j))->RC A s (.ref l) (.ref b) (tr ((List.range items.size).all e)))
  (hln: ∀(l b:Addr)(items items2:Ag),s.heap.IsList l items->s.heap.IsList b items2->(items.size !=items2.size)=true->A.units<cLine->RC A s (.ref l) (.ref b) (tr false))
  (I:Inv X pins σ H s) (wd:Wd X.g α S H) (n:Nat) {a b:Er} {x y:V} {u v:Value} {k:Bool} (hu:A.units+(n+1)<cLine) (h1:DenX X.K α H a x) (h2:DenX X.K α H b y) (rx:RelV x u) (ry:RelV y v) (h:zIJ S n a b=some k):RC A s u v (tr k):=by
 have hu0:A.units<cLine:=by omega
 unfold zIJ at h
 cases za:vwE S a with
 |none=>rw [za]at h;cases h
 |some p=>
  cases zb:vwE S b with
  |none=>rw [za,zb]at h;cases h
  |some q=>
   rw [za,zb]at h;have h:eqW (eqv S n) p q=some k:=h;have he:=λd f x y u v k a b c d' e=>zGL I wd n A.in1 d f x y u v k (show A.units+1+n<cLine by omega) a b c d' e
   cases p with
   |fl x'=>
    obtain⟨rfl,fx⟩:=zCB za h1
    cases q with
    |fl y'=>obtain⟨rfl,fy⟩:=zCB zb h2;cases h;exact hff _ _ _ _ rx ry fx fy
    |tp es=>
     obtain⟨b,us,rfl,s2,l2⟩:=zCC zb h2;cases ry;cases h;obtain⟨its,_,pt,_⟩:=I.tuple s2;exact(hft _ _ _ _ rx fx pt hu0).1
    |ls es=>
     obtain⟨b,us,rfl,s2,l2⟩:=zCD wd zb h2;cases ry;cases h;obtain⟨its,_,pl,_⟩:=I.list s2;exact(hfl _ _ _ _ rx fx pl.isList hu0).1
   |tp ds=>
    obtain⟨a,vs,rfl,s1,l1⟩:=zCC za h1;cases rx;obtain⟨its,r1,pt,_⟩:=I.tuple s1
    cases q with
    |fl y'=>obtain⟨rfl,fy⟩:=zCB zb h2;cases h;exact(hft _ _ _ _ ry fy pt hu0).2
    |tp es=>
     obtain⟨b,us,rfl,s2,l2⟩:=zCC zb h2;cases ry;obtain⟨its2,r2,pt2,_⟩:=I.tuple s2;rw [zTQ]at h
     cases z:prs (eqv S n) ds es with
     |none=>rw [z]at h;cases h
     |some bs=>
      rw [z]at h;cases h;have:=htt _ _ _ _ _ pt pt2 hu0 (zFH he l1 l2 r1 r2 z);have hl:=zEA z;rw [range_all (by rw [hl];simp [<-r1.length, <-r2.length,l1.length,l2.length])]at this;have e3:(its.toArray.size==its2.toArray.size)=(ds.length==es.length):=by simp [<-r1.length, <-r2.length,l1.length,l2.length]
      rw [e3]at this;exact this
    |ls es=>
     obtain⟨b,us,rfl,s2,l2⟩:=zCD wd zb h2;cases ry;cases h;obtain⟨its2,_,pl,_⟩:=I.list s2;exact(hlt _ _ _ _ pl.isList pt hu0).2
   |ls ds=>
    obtain⟨a,vs,rfl,s1,l1⟩:=zCD wd za h1;cases rx;obtain⟨its,r1,pl,_⟩:=I.list s1
    cases q with
    |fl y'=>obtain⟨rfl,fy⟩:=zCB zb h2;cases h;exact(hfl _ _ _ _ ry fy pl.isList hu0).2
    |tp es=>
     obtain⟨b,us,rfl,s2,l2⟩:=zCC zb h2;cases ry;cases h;obtain⟨its2,_,pt,_⟩:=I.tuple s2;exact(hlt _ _ _ _ pl.isList pt hu0).1
    |ls es=>
     obtain⟨b,us,rfl,s2,l2⟩:=zCD wd zb h2;cases ry;obtain⟨its2,r2,pl2,_⟩:=I.list s2;rw [zOJ]at h;by_cases hl:ds.length=es.length
     ·rw [iP hl]at h
      cases z:prs (eqv S n) ds es with
      |none=>rw [z]at h;cases h
      |some bs=>
       rw [z]at h;cases h;have hs:its.toArray.size=its2.toArray.size:=by simp [<-r1.length, <-r2.length,l1.length,l2.length,hl]
       have:=hll _ _ _ _ _ pl.isList pl2.isList hs hu0 (zFH he l1 l2 r1 r2 z);have hl':=zEA z;rw [range_all (by rw [hl'];simp [<-r1.length,l1.length,hl])]at this;exact this
     ·rw [iN hl]at h;cases h;exact hln _ _ _ _ pl.isList pl2.isList (by simpa [<-r1.length, <-r2.length,l1.length,l2.length]using hl) hu0
def yLG(I:Inv X pins σ H s)(wd:Wd X.g α S H)(n:Nat){A:Around}{a b:Er}{x y:V}{u v:Value}{k:Bool}(hu:A.units+(n+1)<cLine)(h1:DenX X.K α H a x)(h2:DenX X.K α H b y)(rx:RelV x u)(ry:RelV y v)(h:zIJ S n a b=some k):SeqAt.RcAt A s u v k:=
 yJB (RC:=SeqAt.RcAt) (tr:=id) (λ_ _ _ _ a b c d=>yKY a b c d) (λ_ _ _ _ a b c d=>⟨rc_lr a b c d,rc_ll a b c d⟩) (λ_ _ _ _ a b c d=>⟨rc_tr a b c d,rc_tl a b c d⟩)
  (λ_ _ _ _ a b c=>⟨SeqAt.RcAt.list_tuple a b c,SeqAt.RcAt.tuple_list b a c⟩) (λ_ _ _ _ _ a b c d=>SeqAt.RcAt.tuples a b c d) (λ_ _ _ _ _ a b c d e=>SeqAt.RcAt.lists a b c d e) (λ_ _ _ _ a b c d=>SeqAt.RcAt.lists_lengths a b c d)
  I wd n hu h1 h2 rx ry h
def yLH(I:Inv X pins σ H s)(wd:Wd X.g α S H)(n:Nat){A:Around}{a b:Er}{x y:V}{u v:Value}{k:Bool}(hu:A.units+(n+1)<cLine)(h1:DenX X.K α H a x)(h2:DenX X.K α H b y)(rx:RelV x u)(ry:RelV y v)(h:zIJ S n a b=some k):SeqAt.RcNeAt A s u v (!k):=
 yJB (RC:=SeqAt.RcNeAt) (tr:=λb=>!b) (λ_ _ _ _ a b c d=>yKZ a b c d) (λ_ _ _ _ a b c d=>⟨rn_lr a b c d,rn_ll a b c d⟩) (λ_ _ _ _ a b c d=>⟨rn_tr a b c d,rn_tl a b c d⟩)
  (λ_ _ _ _ a b c=>⟨SeqAt.RcNeAt.list_tuple a b c,SeqAt.RcNeAt.tuple_list b a c⟩) (λ_ _ _ _ _ a b c d=>SeqAt.RcNeAt.tuples a b c d) (λ_ _ _ _ _ a b c d e=>SeqAt.RcNeAt.lists a b c d e) (λ_ _ _ _ a b c d=>SeqAt.RcNeAt.lists_lengths a b c d)
  I wd n hu h1 h2 rx ry h
theorem zVR{α β:Type}: ∀{a c:List α}{b d:List β},a.length=b.length->c.length=d.length->a.zip b=c.zip d->a=c/\b=d
 |[],[],[],[],_,_,_=>⟨rfl,rfl⟩
 |[],_::_,[],_::_,_,_,e=>by simp at e
 |_::_,[],_::_,[],_,_,e=>by simp at e
 |x::a,y::c,z::b,w::d,h1,h2,e=>by simp only [zip_cons_cons,List.cons.injEq,Prod.mk.injEq]at e;obtain⟨rfl,rfl⟩:=zVR (by simpa using h1) (by simpa using h2) e.2;exact⟨by rw [e.1.1],by rw [e.1.2]⟩
mutual
theorem Den.inj(I:Inv X pins σ H s)(wd:Wd X.g α S H): ∀{d f:MV}{v:V},Den X.K α H d v->Den X.K α H f v->d=f
 |.non,f,v,h,h'=>by cases cQ h;cases f<;>first |rfl|(have:=zAL h';cases this;done)|(have:=yY h';cases this;done)|(have:=xG h';cases this;done)|(have:=bO h';cases this;done)|(obtain⟨_,_,e,_⟩:=yZ h';cases e;done)|(obtain⟨_,_,e,_⟩:=hZ h';cases e;done)|(obtain⟨_,e,_⟩:=jA h';cases e;done)|(obtain⟨_,_,_,_,_,e,_⟩:=hX h';cases e;done)
 |.bl b,f,v,h,h'=>by cases zAL h;cases f<;>first |(have:=zAL h';cases this;rfl;done)|(have:=cQ h';cases this;done)|(have:=yY h';cases this;done)|(have:=xG h';cases this;done)|(have:=bO h';cases this;done)|(obtain⟨_,_,e,_⟩:=yZ h';cases e;done)|(obtain⟨_,_,e,_⟩:=hZ h';cases e;done)|(obtain⟨_,e,_⟩:=jA h';cases e;done)|(obtain⟨_,_,_,_,_,e,_⟩:=hX h';cases e;done)
 |.int b,f,v,h,h'=>by cases yY h;cases f<;>first |(have:=yY h';cases this;rfl;done)|(have:=cQ h';cases this;done)|(have:=zAL h';cases this;done)|(have:=xG h';cases this;done)|(have:=bO h';cases this;done)|(obtain⟨_,_,e,_⟩:=yZ h';cases e;done)|(obtain⟨_,_,e,_⟩:=hZ h';cases e;done)|(obtain⟨_,e,_⟩:=jA h';cases e;done)|(obtain⟨_,_,_,_,_,e,_⟩:=hX h';cases e;done)
 |.str b,f,v,h,h'=>by cases xG h;cases f<;>first |(have:=xG h';rw [zDX (V.str.inj this)];done)|(have:=cQ h';cases this;done)|(have:=zAL h';cases this;done)|(have:=yY h';cases this;done)|(have:=bO h';cases this;done)|(obtain⟨_,_,e,_⟩:=yZ h';cases e;done)|(obtain⟨_,_,e,_⟩:=hZ h';cases e;done)|(obtain⟨_,e,_⟩:=jA h';cases e;done)|(obtain⟨_,_,_,_,_,e,_⟩:=hX h';cases e;done)
 |.typ b,f,v,h,h'=>by cases bO h;cases f<;>first |(have:=bO h';cases this;rfl;done)|(have:=cQ h';cases this;done)|(have:=zAL h';cases this;done)|(have:=yY h';cases this;done)|(have:=xG h';cases this;done)|(obtain⟨_,_,e,_⟩:=yZ h';cases e;done)|(obtain⟨_,_,e,_⟩:=hZ h';cases e;done)|(obtain⟨_,e,_⟩:=jA h';cases e;done)|(obtain⟨_,_,_,_,_,e,_⟩:=hX h';cases e;done)
 |.tup ds,f,v,h,h'=>by
  obtain⟨a,vs,rfl,s1,l1⟩:=yZ h
  cases f with
  |tup es=>
   obtain⟨a2,us,e2,s2,l2⟩:=yZ h';cases e2;cases I.tuple_inj s1 s2;rw [DenL.inj I wd l1 l2]
  |scr es=>obtain⟨a2,us,e2,s2,l2⟩:=hZ h';cases e2;exact(zFG I s2.l s1).elim
  |loc l=>
   obtain⟨a2,e2,h2⟩:=jA h';cases e2;obtain⟨ho,k1,k2,k3⟩:=wd.mem (mem_of_getElem? h2);rcases s1 with(s1|⟨o,s1⟩)|⟨o,its,n,s1,_⟩
   ·rw [k1]at s1;exact absurd (Option.some.inj s1) (k2 _)
   ·rw [k1]at s1;exact absurd (Option.some.inj s1) (k3 _ _)
   ·have:=(I.bs a o (I.mod.kin a o s1)).2;rw [k1]at this;cases this
  |non=>cases cQ h'
  |bl b=>cases zAL h'
  |int b=>cases yY h'
  |str b=>cases xG h'
  |typ b=>cases bO h'
  |obj c ns es=>
   obtain⟨a2,C,dx,us,o2,e2,h2,_⟩:=hX h';cases e2;rcases s1 with(s1|⟨o,s1⟩)|⟨o,its,n,s1,_⟩
   ·rw [h2]at s1;cases s1
   ·rw [h2]at s1;cases s1
   ·have:=(I.bs a o (I.mod.kin a o s1)).2;rw [h2]at this;cases this
 |.scr ds,f,v,h,h'=>by
  obtain⟨a,vs,rfl,s1,l1⟩:=hZ h
  cases f with
  |scr es=>
   obtain⟨a2,us,e2,s2,l2⟩:=hZ h';cases e2;cases I.list_inj s1.l s2.l;rw [DenL.inj I wd l1 l2]
  |tup es=>obtain⟨a2,us,e2,s2,l2⟩:=yZ h';cases e2;exact(zFG I s1.l s2).elim
  |loc l=>
   obtain⟨a2,e2,h2⟩:=jA h';cases e2;obtain⟨ho,k1,k2,k3⟩:=wd.mem (mem_of_getElem? h2);rcases s1 with⟨o,s1⟩|⟨o,its,n,s1,_⟩
   ·rw [k1]at s1;exact absurd (Option.some.inj s1) (k3 _ _)
   ·have:=(I.bs a o (I.mod.kin a o s1)).2;rw [k1]at this;cases this
  |non=>cases cQ h'
  |bl b=>cases zAL h'
  |int b=>cases yY h'
  |str b=>cases xG h'
  |typ b=>cases bO h'
  |obj c ns es=>
   obtain⟨a2,C,dx,us,o2,e2,h2,_⟩:=hX h';cases e2;rcases s1 with⟨o,s1⟩|⟨o,its,n,s1,_⟩
   ·rw [h2]at s1;cases s1
   ·have:=(I.bs a o (I.mod.kin a o s1)).2;rw [h2]at this;cases this
 |.loc l,f,v,h,h'=>by
  obtain⟨a,rfl,h1⟩:=jA h;obtain⟨ho,k1,k2,k3⟩:=wd.mem (mem_of_getElem? h1)
  cases f with
  |loc m=>
   obtain⟨a2,e2,h2⟩:=jA h';cases e2;by_cases hlm:l=m
   ·rw [hlm]
   ·exact absurd rfl (wd.ne h1 h2 hlm)
  |tup es=>
   obtain⟨a2,us,e2,s1,l2⟩:=yZ h';cases e2;rcases s1 with(s1|⟨o,s1⟩)|⟨o,its,n,s1,_⟩
   ·rw [k1]at s1;exact absurd (Option.some.inj s1) (k2 _)
   ·rw [k1]at s1;exact absurd (Option.some.inj s1) (k3 _ _)
   ·have:=(I.bs a o (I.mod.kin a o s1)).2;rw [k1]at this;cases this
  |scr es=>
   obtain⟨a2,us,e2,s1,l2⟩:=hZ h';cases e2;rcases s1 with⟨o,s1⟩|⟨o,its,n,s1,_⟩
   ·rw [k1]at s1;exact absurd (Option.some.inj s1) (k3 _ _)
   ·have:=(I.bs a o (I.mod.kin a o s1)).2;rw [k1]at this;cases this
  |non=>cases cQ h'
  |bl b=>cases zAL h'
  |int b=>cases yY h'
  |str b=>cases xG h'
  |typ b=>cases bO h'
  |obj c ns es=>
   obtain⟨a2,C,dx,us,o2,e2,h2,_⟩:=hX h';cases e2;rw [k1]at h2;exact absurd (Option.some.inj h2) (k3 _ _)
 |.obj c ns ds,f,v,h,h'=>by
  obtain⟨a,C,dx,us,o2,rfl,h2,hn,hc,hl,l1⟩:=hX h
  cases f with
  |obj c' ns' es=>
   obtain⟨a2,C2,dx2,us2,o3,e2,h3,hn2,hc2,hl2,l2⟩:=hX h';cases e2;rw [h2]at h3;injection h3 with h3
   injection h3 with _ h3
   injection h3 with e1 e2 e3
   subst e1;rw [hc]at hc2;cases hc2;obtain⟨rfl,rfl⟩:=zVR hl hl2 e3;rw [DenL.inj I wd l1 l2]
  |tup es=>
   obtain⟨a2,us,e2,s1,l2⟩:=yZ h';cases e2;rcases s1 with(s1|⟨o,s1⟩)|⟨o,its,n,s1,_⟩
   ·rw [h2]at s1;cases s1
   ·rw [h2]at s1;cases s1
   ·have:=(I.bs a o (I.mod.kin a o s1)).2;rw [h2]at this;cases this
  |scr es=>
   obtain⟨a2,us,e2,s1,l2⟩:=hZ h';cases e2;rcases s1 with⟨o,s1⟩|⟨o,its,n,s1,_⟩
   ·rw [h2]at s1;cases s1
   ·have:=(I.bs a o (I.mod.kin a o s1)).2;rw [h2]at this;cases this
  |loc l=>
   obtain⟨a2,e2,h1⟩:=jA h';cases e2;obtain⟨ho,k1,k2,k3⟩:=wd.mem (mem_of_getElem? h1);rw [k1]at h2;exact absurd (Option.some.inj h2) (k3 _ _)
  |non=>cases cQ h'
  |bl b=>cases zAL h'
  |int b=>cases yY h'
  |str b=>cases xG h'
  |typ b=>cases bO h'
theorem DenL.inj(I:Inv X pins σ H s)(wd:Wd X.g α S H): ∀{ds fs:Bh}{vs:List V},DenL X.K α H ds vs->DenL X.K α H fs vs->ds=fs
 |[],fs,vs,h,h'=>by
  cases h.isnil
  cases fs with
  |nil=>rfl
  |cons f fs=>obtain⟨_,_,e,_⟩:=h'.uncons;cases e
 |d::ds,fs,vs,h,h'=>by
  obtain⟨v,r,rfl,a,l⟩:=h.uncons
  cases fs with
  |nil=>cases h'.isnil
  |cons f fs=>
   obtain⟨v',r',e,a',l'⟩:=h'.uncons;cases e;rw [Den.inj I wd a a',DenL.inj I wd l l']
end

end
inductive LexR(A:Around)(s:Shared):List Value->List Value->Bool->Prop
 |nn:LexR A s [] [] false
 |nc (x xs):LexR A s [] (x::xs) true
 |cn (y ys):LexR A s (y::ys) [] false
 |eq {y x ys xs k}:SeqAt.EqAt A s y x true->LexR A s ys xs k->LexR A s (y::ys) (x::xs) k
 |ne {y x ys xs k}:SeqAt.EqAt A s y x false->(∀(prog:Program)(w:World)(E Q:VP),Q (.bool k) s->wpAny (model prog w) A (richCompare .Lt y x) Q E s)->LexR A s (y::ys) (x::xs) k
section
open PySem.SeqAt
open PySem.AutoSeq1 (wpAny_loadPart')
open PySem.MeetsSeq PySem.MeetsSeq2 PySem.MeetsSeq3
def zTR(l b:Addr)(its its2:Ag)(n n2:Nat)(dd dd2:Option Addr)(sl sl2:Array (Option Value))(k:Bool):
  Meets (Builtin.«tuple.__lt__» ⟨[.ref l,.ref b],[]⟩)
   (λA R s=>s.heap.get? l=some {cls:=.type "tuple",dict:=dd,data:=.seq its n,slots:=sl}/\s.heap.get? b=some {cls:=.type "tuple",dict:=dd2,data:=.seq its2 n2,slots:=sl2}/\
    LexR A.in1 s its.toList its2.toList k/\R (.ok (.ret (.bool k))) s):=
 .of_wp λprog w A R s h=>by
  obtain⟨hp,g,d,tk,os⟩:=s;obtain⟨hl,hb,hx,h⟩:=h;have f2:=AutoSeq1.sub_tuple_tuple
  wp_walk using wpAny_loadPart' hl,wpAny_loadPart' hb,wpAny_forIn_list _ (λrest b s'=>b.1=none/\s'=⟨hp,g,d,tk,os⟩/\ ∃(vs ws:Ae),rest=vs.zip ws/\
   LexR A.in1 ⟨hp,g,d,tk,os⟩ vs ws k/\vs.length+its2.size=ws.length+its.size) _
  case turn=>
   rintro⟨y,x⟩ rest b s' ⟨hb',rfl,vs,ws,hz,hlx,hlen⟩
   cases hlx with
   |nn=>rw [zip_nil_left]at hz;cases hz
   |nc x xs=>rw [zip_nil_left]at hz;cases hz
   |cn y ys=>rw [List.zip_nil_right]at hz;cases hz
   |@eq y' x' ys xs k' he hr=>
    rw [zip_cons_cons]at hz;injection hz with hyx hrest
    injection hyx with hy hx
    subst hy hx;simp only [lC]at hlen;refine wB0 (he prog w _ _ ?_)
    wp_walk
    exact⟨rfl,rfl,_,_,hrest,hr,by omega⟩
   |@ne y' x' ys xs k' he hr=>
    rw [zip_cons_cons]at hz;injection hz with hyx hrest
    injection hyx with hy hx
    subst hy hx;refine wB0 (he prog w _ _ ?_);have hri:=hr prog w
    wp_walk using hri
    exact⟨_,rfl,by simpa using h⟩
  case fin=>
   rintro⟨b1,b2⟩ s' ⟨hb',rfl,vs,ws,hz,hlx,hlen⟩;simp only at hb';subst hb'
   have hv:k=decide (its.size<its2.size):=by
    cases hlx with
    |nn=>simp only [length_nil]at hlen;exact(dF0 (by omega)).symm
    |nc x xs=>simp only [length_nil,lC]at hlen;exact(dT0 (by omega)).symm
    |cn y ys=>simp only [length_nil,lC]at hlen;exact(dF0 (by omega)).symm
    |eq he hr=>rw [zip_cons_cons]at hz;cases hz
    |ne he hr=>rw [zip_cons_cons]at hz;cases hz
   rw [hv]at h
   wp_walk
   exact⟨_,rfl,by simpa [Builtin.Tuple.tupleCompareSizes]using h⟩
  case h=>
   exact⟨rfl,rfl,its.toList,its2.toList,rfl,hx,by simp;omega⟩
end
def yAY{A:Around}{s:Shared}{l b:Addr}{its its2:Ag}{k:Bool}(hl:IsTup s.heap l its)(hb:IsTup s.heap b its2)(hx:LexR A.in1 s its.toList its2.toList k)(hu:A.units<cLine)(prog:Program)(w:World)(E Q:VP)(h:Q (.bool k) s):
  wpAny (model prog w) A (richCompare .Lt (.ref l) (.ref b)) Q E s:=by
 obtain⟨⟨cls,dd,data,sl⟩,ho,hc,n,hd⟩:=id hl;obtain⟨⟨cls2,dd2,data2,sl2⟩,ho2,hc2,n2,hd2⟩:=id hb;simp only at hc hd hc2 hd2;subst hc hd hc2 hd2
 exact richCompare_meets_room (op:=.Lt) ⟨_,ho,rfl⟩ ⟨_,ho2,rfl⟩ PySem.F.slot_tuple_lt PySem.F.entry_tuple_lt (PySem.F.args_tuple_lt_2 _ _) (zTR l b its its2 n n2 dd dd2 sl sl2 k)
  ⟨ho,ho2,hx,show Value.bool k≠Value.notImplemented/\Q (.bool k) s from⟨(λx=>nomatch x),h⟩⟩ hu
def zTS(e l:MV->MV->Option Bool):List MV->List MV->Option Bool
 |[],[]=>some false
 |[],_::_=>some true
 |_::_,[]=>some false
 |d::ds,f::fs=>(e d f).bind λk=>if k=true then zTS e l ds fs else l d f
def ltv(S:Sto):Nat->MV->MV->Option Bool
 |0,_,_=>none
 |n+1,.int i,.int j=>some (decide (i<j))
 |n+1,.str x,.str y=>some (decide (x<y))
 |n+1,.tup ds,.tup es=>zTS (eqv S n) (ltv S n) ds es
 |_,_,_=>none
section
variable{X:Cx}{α:Ah}{S:Sto}{H:Hp}{pins:Ba}{σ:St}{s:Shared}
theorem yAZ{A:Around}{e l:MV->MV->Option Bool}(he: ∀d f x y u v k,Den X.K α H d x->Den X.K α H f y->RelV x u->RelV y v->e d f=some k->SeqAt.EqAt A s u v k)
  (hl: ∀d f x y u v k,Den X.K α H d x->Den X.K α H f y->RelV x u->RelV y v->l d f=some k-> ∀(prog:Program)(w:World)(E Q:VP),Q (.bool k) s->wpAny (model prog w) A (richCompare .Lt u v) Q E s):
  ∀{ds fs:Bh}{vs us:List V}{its its2:Ae}{k:Bool},DenL X.K α H ds vs->DenL X.K α H fs us->Vals vs its->Vals us its2->zTS e l ds fs=some k->LexR A s its its2 k
 |[],[],_,_,_,_,k,l1,l2,r1,r2,h=>by cases l1.isnil;cases l2.isnil;cases r1;cases r2;cases h;exact .nn
 |[],f::fs,_,_,_,_,k,l1,l2,r1,r2,h=>by
  cases l1.isnil;obtain⟨v,r,rfl,a,l⟩:=l2.uncons;cases r1
  cases r2 with
  |cons a b=>cases h;exact .nc _ _
 |d::ds,[],_,_,_,_,k,l1,l2,r1,r2,h=>by
  cases l2.isnil;obtain⟨v,r,rfl,a,l⟩:=l1.uncons;cases r2
  cases r1 with
  |cons a b=>cases h;exact .cn _ _
 |d::ds,f::fs,_,_,_,_,k,l1,l2,r1,r2,h=>by
  obtain⟨v,r,rfl,a,l1'⟩:=l1.uncons;obtain⟨v2,r3,rfl,a2,l2'⟩:=l2.uncons
  cases r1 with
  |cons b1 c1=>
   cases r2 with
   |cons b2 c2=>
    unfold zTS at h
    cases z:e d f with
    |none=>rw [z]at h;cases h
    |some kk=>
     rw [z]at h;have h:(if kk=true then zTS e l ds fs else l d f)=some k:=h
     cases kk with
     |true=>
      rw [iP rfl]at h;exact .eq (he d f _ _ _ _ _ a a2 b1 b2 z) (yAZ he hl l1' l2' c1 c2 h)
     |false=>
      rw [iN xF0]at h;exact .ne (he d f _ _ _ _ _ a a2 b1 b2 z) (hl d f _ _ _ _ _ a a2 b1 b2 h)
theorem zTT(I:Inv X pins σ H s)(wd:Wd X.g α S H): ∀(n:Nat)(A:Around)(d f:MV)(x y:V)(u v:Value)(k:Bool),A.units+n<cLine->Den X.K α H d x->Den X.K α H f y->RelV x u->RelV y v->ltv S n d f=some k->
  ∀(prog:Program)(w:World)(E Q:VP),Q (.bool k) s->wpAny (model prog w) A (richCompare .Lt u v) Q E s
 |0,_,_,_,_,_,_,_,_,_,_,_,_,_,h=>by cases h
 |n+1,A,d,f,x,y,u,v,k,hu,h1,h2,rx,ry,h=>by
  intro prog w E Q hq;unfold ltv at h;split at h
  ·cases h
  ·cases h;cases yY h1;cases yY h2;obtain⟨t,rfl⟩:=rx;obtain⟨t',rfl⟩:=ry;exact(PyProof.Rows.lt_int hq:wpAny (model prog w) A (compareOp .Lt _ _) Q E s)
  ·cases h;cases xG h1;cases xG h2;obtain⟨t,rfl⟩:=rx;obtain⟨t',rfl⟩:=ry;refine(PySem.P.lt_str ?_:wpAny (model prog w) A (compareOp .Lt _ _) Q E s);rw [zDW,zDW];exact hq
  ·rename_i n' ds es hn;obtain⟨a,vs,rfl,s1,l1⟩:=yZ h1;obtain⟨b,us,rfl,s2,l2⟩:=yZ h2;cases rx;cases ry;obtain⟨its,r1,pt,_⟩:=I.tuple s1;obtain⟨its2,r2,pt2,_⟩:=I.tuple s2;cases hn;refine yAY pt pt2 ?_ (by omega) prog w E Q hq
   exact yAZ (λd f x y u v k a b c d' e=>zGL I wd n A.in1 d f x y u v k (show A.units+1+n<cLine by omega) a b c d' e)
    (λd f x y u v k a b c d' e=>zTT I wd n A.in1 d f x y u v k (show A.units+1+n<cLine by omega) a b c d' e) l1 l2 r1 r2 h
  ·cases h
end
section
variable{X:Cx}{W:XW}{a b c e:Expr}{es:Bd}{f g h:AX}{af:Rho->Sto->R (List Er)}{pos:Pos}
def iiF(C:Int->Int->Prop)[∀i j,Decidable (C i j)](g:Int->Int->Int):Er->Er->Sto->R Er
 |.val (.int i),.val (.int j),S=>if C i j then .ok (.val (.int (g i j))) S else .no
 |_,_,_=>.no
def ibF(g:Int->Int->Bool):Er->Er->Sto->R Er
 |.val (.int i),.val (.int j),S=>.ok (.val (.bl (g i j))) S
 |_,_,_=>.no
def zTU{C C':Int->Int->Prop}[∀i j,Decidable (C i j)]{g:Int->Int->Int}(h: ∀i j,C i j->C' i j):Op2 X W (rI C' λi j=>.int (g i j)) (iiF C g):=by
 intro p q x y α S H Q wd dp dq post;unfold iiF at post;split at post
 ·split at post
  ·rename_i hc;exact⟨_,_,xO dp,xO dq,h _ _ hc,Post.val post wd (xC _)⟩
  ·exact post.elim
 ·exact post.elim
def yFZ{g:Int->Int->Int}:Op2 X W (rI0 λi j=>.int (g i j)) (iiF (λ_ _=>True) g):=by
 intro p q x y α S H Q wd dp dq post;unfold iiF at post;split at post
 ·rw [iP trivial]at post;exact⟨_,_,xO dp,xO dq,Post.val post wd (xC _)⟩
 ·exact post.elim
abbrev yBA:=iiF (λ_ _=>True) λi j=>i - j
def yBB(ha:PEm X W a f)(hb:PEm X W b g):PEm X W (.BinOp a .Sub b pos) (λρ S=>(f ρ S).bind λp S1=>(g ρ S1).bind λq S2=>yBA p q S2):=zMP yKG yFZ ha hb
def divC(_ j:Int):Prop:=0<j/\j.natAbs.log2<9000
instance(i j:Int):Decidable (divC i j):=inferInstanceAs (Decidable (_/\_))
abbrev zAY:=iiF divC λi j=>i / j
def yBC:OpR X (binaryOp .FloorDiv) (rI divC λi j=>.int (i / j)):=opI λi j _ _ _ _ _ hc q=>by have e:i.fdiv j=i / j:=Int.fdiv_eq_ediv_of_nonneg i (Int.le_of_lt hc.1);refine floordiv_int (by have:=hc.1;omega) ?_ (.inl (PyProof.noPylong_of_log2 hc.2));rw [e];exact q
def kQ(ha:PEm X W a f)(hb:PEm X W b g):PEm X W (.BinOp a .FloorDiv b pos) (λρ S=>(f ρ S).bind λp S1=>(g ρ S1).bind λq S2=>zAY p q S2):=zMP yBC (zTU λi j h=>h) ha hb
abbrev kZ:=iiF (λ_ j=>0<j) λi j=>i % j
def yL(ha:PEm X W a f)(hb:PEm X W b g):PEm X W (.BinOp a .Mod b pos) (λρ S=>(f ρ S).bind λp S1=>(g ρ S1).bind λq S2=>kZ p q S2):=zMP yKH (zTU λi j h=>h) ha hb
def yBD(i j:Int):Prop:=0<=j/\(Builtin.Int.intBits i:Int) * j<=2 ^ 27
instance(i j:Int):Decidable (yBD i j):=inferInstanceAs (Decidable (_/\_))
abbrev powF:=iiF yBD λi j=>i ^ j.toNat
def yGA:OpR X (binaryOp .Pow) (rI yBD λi j=>.int (i ^ j.toNat)):=opI λ_ _ _ _ _ _ _ hc q=>pow_int hc.1 hc.2 q
def yLI(ha:PEm X W a f)(hb:PEm X W b g):PEm X W (.BinOp a .Pow b pos) (λρ S=>(f ρ S).bind λp S1=>(g ρ S1).bind λq S2=>powF p q S2):=zMP yGA (zTU λi j h=>h) ha hb
def shlC(i j:Int):Prop:=0<=j/\j<=1000000/\i.natAbs<2 ^ 64
instance(i j:Int):Decidable (shlC i j):=inferInstanceAs (Decidable (_/\_/\_))
def usubF:Er->Sto->R Er
 |.val (.int i),S=>.ok (.val (.int (-i))) S
 |_,_=>.no
def lsW(S:Sto):Er->Option (List MV)
 |.new ds=>some ds
 |.val (.loc l)=>match S[l]? with
  |some (.lst ds)=>some ds
  |_=>none
 |_=>none
def zOL{α:Ah}{S:Sto}{H:Hp}(wd:Wd X.g α S H){r:Er}{ds:Bh}{x:V}(e:lsW S r=some ds)(d:DenX X.K α H r x): ∃a vs,x=.ref a/\H a=some (.lst vs)/\DenL X.K α H ds vs:=by
 unfold lsW at e;split at e
 ·cases e;obtain⟨b,vs,rfl,h,_,l⟩:=d;exact⟨b,vs,rfl,h,l⟩
 ·rename_i n;obtain⟨a,rfl,h⟩:=zAD d;split at e
  ·rename_i es hS;cases e;obtain⟨vs,h1,l⟩:=wd.obj n a _ h hS;exact⟨a,vs,rfl,h1,l⟩
  ·cases e
 ·cases e
def zVS(p q:Er)(S:Sto):R Er:=match lsW S p,lsW S q with
 |some x,some y=>if x.length+y.length<=sizeLine then .ok (.new (x++y)) S else .no
 |_,_=>.no
def xW:Er->Er->Sto->R Er
 |.val (.int i),.val (.int j),S=>.ok (.val (.int (i+j))) S
 |.val (.str x),.val (.str y),S=>if x.length+y.length<=sizeLine then .ok (.val (.str (x++y))) S else .no
 |.val (.tup x),.val (.tup y),S=>if x.length+y.length<=sizeLine then .ok (.val (.tup (x++y))) S else .no
 |p,q,S=>zVS p q S
def yBE:OpR X (binaryOp .Add) (λx y H Q=> ∃a b ys,x=.ref a/\y=.ref b/\SqT X.K H a []/\SqT X.K H b ys/\Q (.ref b) H):=by
 intro pins s σ H x y v u Q I rx ry h;obtain⟨a,b,ys,rfl,rfl,ha,hb,q⟩:=h;cases rx;cases ry;obtain⟨its,r1,p1,_⟩:=I.tuple ha;obtain⟨its2,r2,p2,_⟩:=I.tuple hb;have e0:its=[]:=r1.nil_iff.mpr rfl;subst e0;obtain⟨⟨cls,dd,data,sl⟩,ho,hc,n,hd⟩:=id p1;obtain⟨⟨cls2,dd2,data2,sl2⟩,ho2,hc2,n2,hd2⟩:=id p2;simp only at hc hd hc2 hd2;subst hc hd hc2 hd2
 exact concat_meets ⟨_,ho,rfl⟩ ⟨_,ho2,rfl⟩ noFill_tuple_add seq_tuple_add PySem.F.slot_tuple_add PySem.F.entry_tuple_add (PySem.F.args_tuple_add_2 _ _)
  (tuple_addW0 a b _ _ n n2 dd dd2 sl sl2 rfl) ⟨ho,ho2,⟨.ref b,H,I,rfl,q⟩⟩
def yM(ha:PEm X W a f)(hb:PEm X W b g):PEm X W (.BinOp a .Add b pos) (λρ S=>(f ρ S).bind λp S1=>(g ρ S1).bind λq S2=>xW p q S2):=by
 refine zMP (yKF.or (zTF.or (yKS.or (yFJ.or yBE)))) ?_ ha hb;intro p q x y α S H Q wd dp dq post;unfold xW at post;split at post
 ·exact .inl ⟨_,_,xO dp,xO dq,Post.val post wd (xC _)⟩
 ·split at post
  ·rename_i hz;refine .inr (.inl ⟨_,_,gA dp,gA dq,by rw [wT,wT];exact hz,?_⟩);rw [yFQ];exact Post.val post wd (cB _)
  ·exact post.elim
 ·split at post
  ·rename_i xx yy hz;obtain⟨a1,vs,rfl,s1,l1⟩:=cR dp;obtain⟨a2,us,rfl,s2,l2⟩:=cR dq;by_cases h0:vs=[]
   ·subst h0;have e0:=l1.length;refine .inr (.inr (.inr (.inr ⟨a1,a2,us,rfl,rfl,s1,s2,?_⟩)));have:xx=[]:=by cases xx with |nil=>rfl|cons _ _=>simp at e0
    subst this;exact Post.val post wd (zAW s2 l2)
   ·refine .inr (.inr (.inr (.inl ⟨a1,a2,vs,us,rfl,rfl,s1,s2,h0,by rw [l1.length,l2.length];exact hz,λh1=>?_,λh1 p hp=>Post.newt post wd hp (l1.append l2)⟩)));subst h1;have e0:=l2.length;have:yy=[]:=by cases yy with |nil=>rfl|cons _ _=>simp at e0
    subst this;rw [aN]at post;exact Post.val post wd (zAW s1 l1)
  ·exact post.elim
 ·unfold zVS at post;split at post
  ·rename_i ds1 ds2 e1 e2;split at post
   ·rename_i hz;obtain⟨a1,vs,rfl,h1,l1⟩:=zOL wd e1 dp;obtain⟨a2,us,rfl,h2,l2⟩:=zOL wd e2 dq;exact .inr (.inr (.inl ⟨a1,a2,vs,us,rfl,rfl,h1,h2,by rw [l1.length,l2.length];exact hz,λp hp=>Post.newl post wd hp (l1.append l2)⟩))
   ·exact post.elim
  ·exact post.elim
def mulC(i j:Int):Prop:=(-(2 ^ 64)<i/\i<2 ^ 64)\/(-(2 ^ 64)<j/\j<2 ^ 64)\/(i.natAbs.log2<4000/\j.natAbs.log2<4000)
def zVT{i:Int}(h:i.natAbs.log2<4000):Builtin.Int.intBits i<=2 ^ 20:=by
 have e:(2:Nat) ^ 20=1048576:=by decide
 unfold Builtin.Int.intBits;split<;>omega
def mulC.ok{i j:Int}(h:mulC i j):IntMulOk i j:=by
 rcases h with h|h|⟨h1,h2⟩
 ·exact CMul.ok (.inl h)
 ·exact CMul.ok (.inr h)
 ·exact .of_bits (zVT h1) (zVT h2)
def yGB{X:Cx}:OpR X (binaryOp .Mult) (rI mulC λi j=>.int (i * j)):=opI λ_ _ _ _ _ _ _ hc q=>mul_int q hc.ok
instance(i j:Int):Decidable (mulC i j):=inferInstanceAs (Decidable (_\/_\/_))
def yJC(p:Er)(k:Int)(S:Sto):R Er:=match lsW S p with
 |some x=>if 0<=k/\k<100000/\x.length * k.toNat<=sizeLine then .ok (.new (List.replicate k.toNat x).flatten) S else .no
 |none=>.no
def zIK:Er->Er->Sto->R Er
 |.val (.int i),.val (.int j),S=>if mulC i j then .ok (.val (.int (i * j))) S else .no
 |.val (.str x),.val (.int k),S=>if 0<=k/\k<1000/\x.length<=1000 then .ok (.val (.str (zJC x k))) S else .no
 |p,.val (.int k),S=>yJC p k S
 |_,_,_=>.no
theorem DenL.rep{K:Be}{α:Ah}{H:Hp}{ds:Bh}{vs:List V}(l:DenL K α H ds vs): ∀k:Nat,DenL K α H (List.replicate k ds).flatten (List.replicate k vs).flatten
 |0=>yC
 |k+1=>by rw [replicate_succ,flatten_cons,replicate_succ,flatten_cons];exact l.append (DenL.rep l k)
def zCQ(ha:PEm X W a f)(hb:PEm X W b g):PEm X W (.BinOp a .Mult b pos) (λρ S=>(f ρ S).bind λp S1=>(g ρ S1).bind λq S2=>zIK p q S2):=by
 refine zMP (yGB.or (zTO.or yKT)) ?_ ha hb;intro p q x y α S H Q wd dp dq post;unfold zIK at post;split at post
 ·split at post
  ·rename_i hc;exact .inl ⟨_,_,xO dp,xO dq,hc,Post.val post wd (xC _)⟩
  ·exact post.elim
 ·split at post
  ·rename_i hc;exact .inr (.inl ⟨_,_,gA dp,xO dq,hc.1,hc.2.1,hc.2.2,Post.val post wd (cB _)⟩)
  ·exact post.elim
 ·unfold yJC at post;split at post
  ·rename_i ds e1;split at post
   ·rename_i hc;obtain⟨a1,vs,rfl,h1,l1⟩:=zOL wd e1 dp;exact .inr (.inr ⟨a1,_,vs,rfl,xO dq,h1,by omega,by omega,by rw [l1.length];exact hc.2.2,λp hp=>Post.newl post wd hp (l1.rep _)⟩)
   ·exact post.elim
  ·exact post.elim
 ·exact post.elim
def zM:Nat:=40
def eqF(p q:Er)(S:Sto):R Er:=match zIJ S zM p q with
 |some k=>.ok (.val (.bl k)) S
 |none=>.no
def neF(p q:Er)(S:Sto):R Er:=match zIJ S zM p q with
 |some k=>.ok (.val (.bl !k)) S
 |none=>.no
def yBF(hu:X.A.units+64<cLine):OpR X (compareOp .Eq) (λx y H Q=> ∃α S p q k,Wd X.g α S H/\DenX X.K α H p x/\DenX X.K α H q y/\zIJ S zM p q=some k/\Q (.bl k) H):=by intro pins s σ H x y v u Q I rx ry h;obtain⟨α,S,p,q,k,wd,dp,dq,e,hq⟩:=h;exact yLG I wd zM (by unfold zM;omega) dp dq rx ry e X.prog X.w _ _ ⟨.bl k,H,I,rfl,hq⟩
def yLJ(hu:X.A.units+64<cLine):OpR X (compareOp .NotEq) (λx y H Q=> ∃α S p q k,Wd X.g α S H/\DenX X.K α H p x/\DenX X.K α H q y/\zIJ S zM p q=some k/\Q (.bl (!k)) H):=by intro pins s σ H x y v u Q I rx ry h;obtain⟨α,S,p,q,k,wd,dp,dq,e,hq⟩:=h;exact yLH I wd zM (by unfold zM;omega) dp dq rx ry e X.prog X.w _ _ ⟨.bl (!k),H,I,rfl,hq⟩
def zVU:Op2 X W (λx y H Q=> ∃α S p q k,Wd X.g α S H/\DenX X.K α H p x/\DenX X.K α H q y/\zIJ S zM p q=some k/\Q (.bl k) H) eqF:=by
 intro p q x y α S H Q wd dp dq post;unfold eqF at post;split at post
 ·rename_i k e;exact⟨α,S,p,q,k,wd,dp,dq,e,Post.val post wd (wY _)⟩
 ·exact post.elim
def yGC:Op2 X W (λx y H Q=> ∃α S p q k,Wd X.g α S H/\DenX X.K α H p x/\DenX X.K α H q y/\zIJ S zM p q=some k/\Q (.bl (!k)) H) neF:=by
 intro p q x y α S H Q wd dp dq post;unfold neF at post;split at post
 ·rename_i k e;exact⟨α,S,p,q,k,wd,dp,dq,e,Post.val post wd (wY _)⟩
 ·exact post.elim
def yBG(hu:X.A.units+64<cLine)(ha:PEm X W a f)(hb:PEm X W b g):PEm X W (.Compare a [.Eq] [b] pos) (λρ S=>(f ρ S).bind λp S1=>(g ρ S1).bind λq S2=>eqF p q S2):=zJF (yBF hu) zVU ha hb
def zHY(hu:X.A.units+64<cLine)(ha:PEm X W a f)(hb:PEm X W b g):PTm X W (.Compare a [.Eq] [b] pos) (λρ S=>((f ρ S).bind λp S1=>(g ρ S1).bind λq S2=>eqF p q S2).bind asB):=zCM (yBF hu) zVU ha hb
def zJI(hu:X.A.units+64<cLine)(ha:PEm X W a f)(hb:PEm X W b g):PTm X W (.Compare a [.NotEq] [b] pos) (λρ S=>((f ρ S).bind λp S1=>(g ρ S1).bind λq S2=>neF p q S2).bind asB):=zCM (yLJ hu) yGC ha hb
def ltF:Er->Er->Sto->R Er
 |.val d,.val f,S=>match ltv S zM d f with
  |some k=>.ok (.val (.bl k)) S
  |none=>.no
 |_,_,_=>.no
def yLK(hu:X.A.units+64<cLine):OpR X (compareOp .Lt) (λx y H Q=> ∃α S d f k,Wd X.g α S H/\Den X.K α H d x/\Den X.K α H f y/\ltv S zM d f=some k/\Q (.bl k) H):=by intro pins s σ H x y v u Q I rx ry h;obtain⟨α,S,d,f,k,wd,dp,dq,e,hq⟩:=h;exact zTT I wd zM X.A d f x y v u k (by unfold zM;omega) dp dq rx ry e X.prog X.w _ _ ⟨.bl k,H,I,rfl,hq⟩
def yGD:Op2 X W (λx y H Q=> ∃α S d f k,Wd X.g α S H/\Den X.K α H d x/\Den X.K α H f y/\ltv S zM d f=some k/\Q (.bl k) H) ltF:=by
 intro p q x y α S H Q wd dp dq post;unfold ltF at post;split at post
 ·split at post
  ·rename_i k e;exact⟨α,S,_,_,k,wd,dp,dq,e,Post.val post wd (wY _)⟩
  ·exact post.elim
 ·exact post.elim
def zVV(hu:X.A.units+64<cLine)(ha:PEm X W a f)(hb:PEm X W b g):PTm X W (.Compare a [.Lt] [b] pos) (λρ S=>((f ρ S).bind λp S1=>(g ρ S1).bind λq S2=>ltF p q S2).bind asB):=zCM (yLK hu) yGD ha hb
def yBH:Er->Er->Sto->R Er
 |.val .non,.val .non,S=>.ok (.val (.bl true)) S
 |_,.val .non,S=>.ok (.val (.bl false)) S
 |_,_,_=>.no
def zFI:Er->Er->Sto->R Er
 |.val .non,.val .non,S=>.ok (.val (.bl false)) S
 |_,.val .non,S=>.ok (.val (.bl true)) S
 |_,_,_=>.no
theorem zQW{α:Ah}{H:Hp}{p:Er}{x:V}(d:DenX X.K α H p x)(n:p≠.val .non):decide (x=.non)=false:=by
 cases p with
 |new ds=>obtain⟨b,vs,rfl,_⟩:=d;rfl
 |val m=>
  cases m with
  |non=>exact absurd rfl n
  |bl b=>cases zHW d;rfl
  |int b=>cases xO d;rfl
  |str b=>cases gA d;rfl
  |typ b=>cases yLA d;rfl
  |obj b b' b''=>obtain⟨_,_,_,_,_,rfl,_⟩:=yLB d;rfl
  |tup b=>obtain⟨_,_,rfl,_⟩:=cR d;rfl
  |scr b=>obtain⟨_,_,rfl,_⟩:=zJD d;rfl
  |loc b=>obtain⟨_,rfl,_⟩:=zAD d;rfl
def yGE:Op2 X W (λx y H Q=>y=.non/\Q (.bl (decide (x=.non))) H) yBH:=by
 intro p q x y α S H Q wd dp dq post;unfold yBH at post;split at post
 ·cases zCL dp;exact⟨zCL dq,Post.val post wd (wY _)⟩
 ·rename_i p' S' hn;rw [zQW dp (λz=>by first |exact hn z|exact hn z rfl|exact hn _ z|exact hn rfl z)];exact⟨zCL dq,Post.val post wd (wY _)⟩
 ·exact post.elim
def zQX:Op2 X W (λx y H Q=>y=.non/\Q (.bl (!decide (x=.non))) H) zFI:=by
 intro p q x y α S H Q wd dp dq post;unfold zFI at post;split at post
 ·cases zCL dp;exact⟨zCL dq,Post.val post wd (wY _)⟩
 ·rename_i p' S' hn;rw [zQW dp (λz=>by first |exact hn z|exact hn z rfl|exact hn _ z|exact hn rfl z)];exact⟨zCL dq,Post.val post wd (wY _)⟩
 ·exact post.elim
def pm_is(ha:PEm X W a f)(hb:PEm X W b g):PEm X W (.Compare a [.Is] [b] pos) (λρ S=>(f ρ S).bind λp S1=>(g ρ S1).bind λq S2=>yBH p q S2):=zJF yKJ yGE ha hb
def yBI(ha:PEm X W a f)(hb:PEm X W b g):PEm X W (.Compare a [.IsNot] [b] pos) (λρ S=>(f ρ S).bind λp S1=>(g ρ S1).bind λq S2=>zFI p q S2):=zJF zVF zQX ha hb
def yBJ(ha:PEm X W a f)(hb:PEm X W b g):PTm X W (.Compare a [.IsNot] [b] pos) (λρ S=>((f ρ S).bind λp S1=>(g ρ S1).bind λq S2=>zFI p q S2).bind asB):=zCM zVF zQX ha hb
def getL(ds:Bh):Er->Sto->R Er
 |.val (.int i),S=>match atI ds i with |some d=>.ok (.val d) S|none=>.no
 |_,_=>.no
def ixF:Er->Er->Sto->R Er
 |.val (.str x),.val (.int i),S=>if x.length<=sizeLine then match atI x i with |some c=>.ok (.val (.str [c])) S|none=>.no else .no
 |.val (.tup ds),q,S=>getL ds q S
 |p,q,S=>match kG S p with |some ds=>getL ds q S|none=>.no
def yGF{K:Be}{α:Ah}{H:Hp}{ds:Bh}{vs:List V}{i:Int}{d:MV}(l:DenL K α H ds vs)(e:atI ds i=some d): ∃v,atI vs i=some v/\Den K α H d v:=by
 unfold atI at e ⊢;rw [l.length]
 cases z:ixN ds.length i with
 |none=>rw [z]at e;cases e
 |some j=>
  rw [z]at e;obtain⟨v,h1,h2⟩:=l.at (show ds[j]? =some d from e);exact⟨v,h1,h2⟩
def yP(ha:PEm X W a f)(hb:PEm X W b g)(hs:zNX b:=by exact λ_ _=>rfl):PEm X W (.Subscript a b pos) (λρ S=>(f ρ S).bind λp S1=>(g ρ S1).bind λq S2=>ixF p q S2):=by
 refine pm_ix yKP ?_ ha hb hs;intro p q x y α S H Q wd dp dq post;have key: ∀{ds:Bh}{vs:List V}{i:Int}{d:MV},DenL X.K α H ds vs->atI ds i=some d->Post X.g W α H (.ok (Er.val d) S) Q-> ∃v,atI vs i=some v/\Q v H:=λl e post=>by obtain⟨v,h1,h2⟩:=yGF l e;exact⟨v,h1,Post.val post wd h2⟩
 unfold ixF at post;split at post
 ·split at post
  ·rename_i hz;split at post
   ·rename_i ch e;refine .inr (.inr ⟨_,_,ch,gA dp,xO dq,by rw [wT];exact hz,by rw [zDW];exact e,?_⟩);exact Post.val post wd (cB [ch])
   ·exact post.elim
  ·exact post.elim
 ·unfold getL at post;split at post
  ·split at post
   ·rename_i d e;obtain⟨a1,vs,rfl,s1,l1⟩:=cR dp;obtain⟨v,h1,h2⟩:=key l1 e post;exact .inr (.inl ⟨a1,vs,_,v,rfl,xO dq,s1,h1,h2⟩)
   ·exact post.elim
  ·exact post.elim
 ·split at post
  ·rename_i ds el;unfold getL at post;split at post
   ·split at post
    ·rename_i d e;obtain⟨a1,vs,rfl,s1,l1⟩:=zCP rfl wd el dp;obtain⟨v,h1,h2⟩:=key l1 e post;exact .inl ⟨a1,vs,_,v,rfl,xO dq,s1,h1,h2⟩
    ·exact post.elim
   ·exact post.elim
  ·exact post.elim
end
def zLO{prog:Program}{w:World}{A:Around}{E:VP}{s:Shared}{t sl:Addr}{its:Ag}{vl vu:Value}{lo hi:Bc}{Q:VP}(ht:IsTup s.heap t its)(hs:s.heap.IsSliceOf sl vl vu .none)(pl:IsPart vl lo)(pu:IsPart vu hi)
  (h0:HT.sIx its.size 0 lo=0) (h1:HT.sIx its.size its.size hi=its.size) (h:Q (.ref t) s):wpAny (model prog w) A (getItem (.ref t) (.ref sl)) Q E s:=by
 have hTs:s.TypeIs (.ref sl) "slice":=by obtain⟨os,hos,hcs,_⟩:=id hs;exact⟨os,hos,hcs⟩
 have hTt:=ht.typeIs;unfold getItem
 try with_reducible refine wpAny_holding ?_
 first |refine wB0 (wP0 ?_)|skip
 refine wB0 (wpAny_sequenceKey hTt (by decide) ?_);refine wB0 (wpAny_callSpecial?_slot (name:=Str.ofString "__getitem__") hTt PyProof.Rows.slot_tuple_getitem (wpAny_call_entry PyProof.Rows.slot_tuple_getitem hTt entry_tuple_getitem ?_ (args_tuple_getitem _ _)));show wpAny _ _ (Builtin.Tuple.tupleItemsOf (.ref t) >>= _) _ _ s;refine wB0 (tupleItemsOf_ ht (wB0 (wpAny_typeOf hTs ?_)));rw [iP (by decide)];refine wB0 (HT.sliceApplied_gen hs pl pu ?_);show wpAny _ _ (if(((HT.sIx its.size 0 lo:Nat):Int)==0&&(1:Int)==1&&(HT.sIx its.size its.size hi - HT.sIx its.size 0 lo)==its.size)=true then _ else _) _ _ s;rw [iP (by rw [h0,h1];simp)];unfold Builtin.Tuple.tupleIsExact;refine wB0 (wB0 (wpAny_typeOf hTt (wP0 ?_)));rw [iP (by decide)];refine wB0 (wpAny_rule ?_)
 first
  |exact wP0 ⟨_,rfl,wP0 h⟩
  |exact wB0 (wP0 (wP0 ⟨_,rfl,wP0 h⟩))
  |exact wB0 (wP0 ⟨_,rfl,wP0 h⟩)
section
variable{X:Cx}{W:XW}{a b c e:Expr}{es:Bd}{f g h:AX}{af:Rho->Sto->R (List Er)}{pos:Pos}
def yGG:SlR X (λx lo hi H Q=> ∃a xs,x=.ref a/\SqT X.K H a xs/\HT.sIx xs.length 0 lo=0/\HT.sIx xs.length xs.length hi=xs.length/\Q (.ref a) H):=by
 intro pins s σ H x v vl vu lo hi sl Q I rx hs pl pu h;obtain⟨a,xs,rfl,hx,h0,h1,q⟩:=h;cases rx;obtain⟨its,r,ht,hz⟩:=I.tuple hx;have hlen:its.toArray.size=xs.length:=by rw [sA];exact r.length.symm
 exact⟨"tuple",_,PyProof.Rows.slot_tuple_getitem.lookup,ht.typeIs,zLO ht hs pl pu (by rw [hlen];exact h0) (by rw [hlen];exact h1) ⟨.ref a,H,I,rfl,q⟩⟩
def zGM:Er->Option Int->Option Int->Sto->R Er
 |.val (.str x),lo,hi,S=>if x.length<=sizeLine then .ok (.val (.str (jW x lo hi))) S else .no
 |.val (.tup ds),lo,hi,S=>.ok (.val (.tup (jW ds lo hi))) S
 |p,lo,hi,S=>match kG S p with |some ds=>.ok (.new (jW ds lo hi)) S|none=>.no
def zYN{α:Type}{ds:List α}{lo hi:Bc}(h0:HT.sIx ds.length 0 lo=0)(h1:HT.sIx ds.length ds.length hi=ds.length):jW ds lo hi=ds:=by unfold jW;rw [h0,h1];simp
def zCR{lo hi:Option Expr}{lf hf:Rho->Sto->R (Option Int)}{p2:Pos}(ha:PEm X W a f)(hl:POm X W lo lf)(hh:POm X W hi hf):PEm X W (.Subscript a (.Slice lo hi none p2) pos) (λρ S=>(f ρ S).bind λp S1=>(lf ρ S1).bind λl S2=>(hf ρ S2).bind λu S3=>zGM p l u S3):=by
 refine yAT (yKW.or (yFL.or (yKO.or yGG))) ?_ ha hl hh;intro p lo hi x α S H Q wd dp post;unfold zGM at post;split at post
 ·split at post
  ·rename_i hz;exact .inl ⟨_,gA dp,hz,Post.val post wd (cB _)⟩
  ·exact post.elim
 ·rename_i _ _ _ ds;obtain⟨a1,vs,rfl,s1,l1⟩:=cR dp;by_cases hw:HT.sIx vs.length 0 lo=0/\HT.sIx vs.length vs.length hi=vs.length
  ·have e:jW ds lo hi=ds:=zYN (by rw [<-l1.length];exact hw.1) (by rw [<-l1.length];exact hw.2);rw [e]at post;exact .inr (.inr (.inr ⟨a1,vs,rfl,s1,hw.1,hw.2,Post.val post wd (zAW s1 l1)⟩))
  ·exact .inr (.inr (.inl ⟨a1,vs,rfl,s1,hw,λp hp=>Post.newt post wd hp (l1.cut lo hi)⟩))
 ·split at post
  ·rename_i ds el;obtain⟨a1,vs,rfl,s1,l1⟩:=zCP rfl wd el dp;exact .inr (.inl ⟨a1,vs,rfl,s1,λp hp=>Post.newl post wd hp (l1.cut lo hi)⟩)
  ·exact post.elim
theorem DenL.pick{K:Be}{α:Ah}{H:Hp}{ds:Bh}{vs:List V}(l:DenL K α H ds vs): ∀idx:List Nat,DenL K α H (idx.filterMap (ds[·]?)) (idx.filterMap (vs[·]?))
 |[]=>yC
 |i::idx=>by
  cases z:ds[i]? with
  |none=>
   have z2:vs[i]? =none:=by rw [List.getElem?_eq_none_iff,l.length];exact List.getElem?_eq_none_iff.mp z
   rw [List.filterMap_cons_none z,List.filterMap_cons_none z2];exact DenL.pick l idx
  |some d=>
   obtain⟨v,h1,h2⟩:=l.at z;rw [filterMap_cons_some z,filterMap_cons_some h1];exact zX h2 (DenL.pick l idx)
theorem Vals.pick{xs:List V}{us:Ae}(r:Vals xs us): ∀idx:List Nat,Vals (idx.filterMap (xs[·]?)) (idx.filterMap (us[·]?))
 |[]=>.nil
 |i::idx=>by
  cases z:xs[i]? with
  |none=>rw [List.filterMap_cons_none z,List.filterMap_cons_none (r.none_of z)];exact Vals.pick r idx
  |some d=>
   obtain⟨v,h1,h2⟩:=r.get z;rw [filterMap_cons_some z,filterMap_cons_some h1];exact .cons h2 (Vals.pick r idx)
end
section
variable{X:Cx}{W:XW}{a b c e:Expr}{es:Bd}{f g h:AX}{af:Rho->Sto->R (List Er)}{pos:Pos}
def zQY(S:Sto)(n:Nat)(d:MV):List MV->Option (List Bool)
 |[]=>some []
 |y::ys=>(eqv S n y d).bind λk=>(zQY S n d ys).map (k::·)
section
variable{α:Ah}{S:Sto}{H:Hp}{pins:Ba}{σ:St}{s:Shared}
def zQZ(X:Cx)(α:Ah)(S:Sto)(H:Hp)(n:Nat)(d:MV)(u:Value):Bool:=open Classical in decide (∃y x,Den X.K α H y x/\RelV x u/\eqv S n y d=some true)
open Classical in
def yGH(I:Inv X pins σ H s)(wd:Wd X.g α S H){n:Nat}{d y:MV}{x:V}{u:Value}{k:Bool}(dy:Den X.K α H y x)(r:RelV x u)(e:eqv S n y d=some k):zQZ X α S H n d u=k:=by
 unfold zQZ
 cases k with
 |true=>exact dT0 ⟨y,x,dy,r,e⟩
 |false=>
  refine dF0 λ⟨y',x',dy',r',e'⟩=>?_;have ex:=r.inj r';subst ex;rw [dy.inj I wd dy']at e;rw [e]at e';cases e'
theorem zFJ(I:Inv X pins σ H s)(wd:Wd X.g α S H){n:Nat}{A:Around}{d:MV}{x:V}{v:Value}(hu:A.units+n<cLine)(dd:Den X.K α H d x)(rx:RelV x v): ∀{ys:Bh}{vs:List V}{us:Ae}{bs:Bb},DenL X.K α H ys vs->Vals vs us->zQY S n d ys=some bs->
  us.map (zQZ X α S H n d)=bs/\ ∀u∈us,SeqAt.EqAt A s u v (zQZ X α S H n d u)
 |[],_,_,bs,l,r,e=>by cases l.isnil;cases r;cases e;exact⟨rfl,λu hu=>by cases hu⟩
 |y::ys,_,_,bs,l,r,e=>by
  obtain⟨v',r',rfl,dy,l'⟩:=l.uncons
  cases r with
  |cons r1 r2=>
   unfold zQY at e
   cases z:eqv S n y d with
   |none=>rw [z]at e;cases e
   |some k=>
    rw [z]at e
    cases z2:zQY S n d ys with
    |none=>simp [z2]at e
    |some cs=>
     simp [z2]at e;subst e;obtain⟨h1,h2⟩:=zFJ I wd hu dd rx l' r2 z2;have h3:=yGH I wd dy r1 z;refine⟨by rw [map_cons,h1,h3],λu hu'=>?_⟩;rcases mC.mp hu' with rfl|hu'
     ·rw [h3];exact zGL I wd n A y d _ _ _ _ k hu dy dd r1 rx z
     ·exact h2 u hu'
end
theorem any_map{us:Ae}{f:Value->Bool}{bs:Bb}(h:us.map f=bs):us.toArray.any f=bs.any id:=by subst h;simp [List.any_map]
def itemsOf(S:Sto):Er->Option (List MV)
 |.val (.tup ds)=>some ds
 |r=>kG S r
def zJJ{α:Ah}{S:Sto}{H:Hp}(wd:Wd X.g α S H){r:Er}{ds:Bh}{x:V}(e:itemsOf S r=some ds)(d:DenX X.K α H r x): ∃a vs,x=.ref a/\(SqL X.K H a vs\/SqT X.K H a vs)/\DenL X.K α H ds vs:=by
 unfold itemsOf at e;split at e
 ·cases e;obtain⟨a,vs,rfl,s,l⟩:=cR d;exact⟨a,vs,rfl,.inr s,l⟩
 ·obtain⟨a,vs,rfl,s,l⟩:=zCP rfl wd e d;exact⟨a,vs,rfl,.inl s,l⟩
def zGN(neg:Bool)(p q:Er)(S:Sto):R Er:=match p with
 |.val d=>match itemsOf S q with
  |some ys=>match zQY S zM d ys with
   |some bs=>.ok (.val (.bl (if neg=true then !bs.any id else bs.any id))) S
   |none=>.no
  |none=>.no
 |.new _=>.no
def inF(neg:Bool):Er->Er->Sto->R Er
 |.val (.str [c]),.val (.str y),S=>.ok (.val (.bl (if neg=true then !decide (c∈y)else decide (c∈y)))) S
 |p,q,S=>zGN neg p q S
abbrev yBK(X:Cx)(neg:Bool):R2:=λx y H Q=> ∃α S d q ys bs,Wd X.g α S H/\Den X.K α H d x/\DenX X.K α H q y/\itemsOf S q=some ys/\zQY S zM d ys=some bs/\Q (.bl (if neg=true then !bs.any id else bs.any id)) H
def yLL(hu:X.A.units+64<cLine):OpR X (compareOp .In) (yBK X false):=by
 intro pins s σ H x y v u Q I rx ry h;obtain⟨α,S,d,q,ys,bs,wd,dd,dq,ei,ea,hq⟩:=h;obtain⟨a,vs,rfl,sq,l⟩:=zJJ wd ei dq;cases ry;rcases sq with sq|sq
 ·obtain⟨its,r,pl,_⟩:=I.list sq;obtain⟨h1,h2⟩:=zFJ I wd (A:=X.A.in1) (by show X.A.units+1+zM<cLine;unfold zM;omega) dd rx l r ea;refine SeqAt.in_listAt (zQZ X α S H zM d) pl.isList (λw hw=>h2 w (by simpa using hw)) ⟨.bl _,H,I,rfl,?_⟩;rw [any_map h1];exact hq
 ·obtain⟨its,r,pl,_⟩:=I.tuple sq;obtain⟨h1,h2⟩:=zFJ I wd (A:=X.A.in1) (by show X.A.units+1+zM<cLine;unfold zM;omega) dd rx l r ea;refine SeqAt.in_tupleAt (zQZ X α S H zM d) pl (λw hw=>h2 w (by simpa using hw)) ⟨.bl _,H,I,rfl,?_⟩;rw [any_map h1];exact hq
def zYO(hu:X.A.units+64<cLine):OpR X (compareOp .NotIn) (yBK X true):=by
 intro pins s σ H x y v u Q I rx ry h;obtain⟨α,S,d,q,ys,bs,wd,dd,dq,ei,ea,hq⟩:=h;obtain⟨a,vs,rfl,sq,l⟩:=zJJ wd ei dq;cases ry;rcases sq with sq|sq
 ·obtain⟨its,r,pl,_⟩:=I.list sq;obtain⟨h1,h2⟩:=zFJ I wd (A:=X.A.in1) (by show X.A.units+1+zM<cLine;unfold zM;omega) dd rx l r ea;refine SeqAt.notIn_listAt (zQZ X α S H zM d) pl.isList (λw hw=>h2 w (by simpa using hw)) ⟨.bl _,H,I,rfl,?_⟩;rw [any_map h1];exact hq
 ·obtain⟨its,r,pl,_⟩:=I.tuple sq;obtain⟨h1,h2⟩:=zFJ I wd (A:=X.A.in1) (by show X.A.units+1+zM<cLine;unfold zM;omega) dd rx l r ea;refine SeqAt.notIn_tupleAt (zQZ X α S H zM d) pl (λw hw=>h2 w (by simpa using hw)) ⟨.bl _,H,I,rfl,?_⟩;rw [any_map h1];exact hq
def zOM{neg:Bool}:Op2 X W (λx y H Q=>(∃i j,x=.str i/\y=.str j/\Q (.bl (if neg=true then !(!(Builtin.Str.occurrences j i 0 j.length 1).isEmpty)else !(Builtin.Str.occurrences j i 0 j.length 1).isEmpty)) H)\/yBK X neg x y H Q) (inF neg):=by
 intro p q x y α S H Q wd dp dq post;unfold inF at post;split at post
 ·refine .inl ⟨_,_,gA dp,gA dq,?_⟩;rw [<-yFR,PySem.StrLaws.found_one,zDW];exact Post.val post wd (wY _)
 ·unfold zGN at post;split at post
  ·rename_i d _;split at post
   ·rename_i ys ei;split at post
    ·rename_i bs ea;exact .inr ⟨α,S,_,q,ys,bs,wd,dp,dq,ei,ea,Post.val post wd (wY _)⟩
    ·exact post.elim
   ·exact post.elim
  ·exact post.elim
def OpR.imp{f:Value->Value->Sem Value}{r r':R2}(h:OpR X f r)(i: ∀x y H Q,r' x y H Q->r x y H Q):OpR X f r':=λpins s σ H x y v u Q I rx ry q=>h pins s σ H x y v u Q I rx ry (i x y H Q q)
def yBL(hu:X.A.units+64<cLine):OpR X (compareOp .In) (λx y H Q=>(∃i j,x=.str i/\y=.str j/\Q (.bl (if(false:Bool)=true then !(!(Builtin.Str.occurrences j i 0 j.length 1).isEmpty)else !(Builtin.Str.occurrences j i 0 j.length 1).isEmpty)) H)\/yBK X false x y H Q):=
 OpR.imp (zXZ.or (yLL hu)) λx y H Q q=>q.imp (λq=>q) λq=>q
def zYP(hu:X.A.units+64<cLine):OpR X (compareOp .NotIn) (λx y H Q=>(∃i j,x=.str i/\y=.str j/\Q (.bl (if(true:Bool)=true then !(!(Builtin.Str.occurrences j i 0 j.length 1).isEmpty)else !(Builtin.Str.occurrences j i 0 j.length 1).isEmpty)) H)\/yBK X true x y H Q):=
 OpR.imp (zNV.or (zYO hu)) λx y H Q q=>q.imp (λq=>q) λq=>q
def pm_in(hu:X.A.units+64<cLine)(ha:PEm X W a f)(hb:PEm X W b g)(hm:behindInMarks .In b=false:=by with_unfolding_all rfl):PEm X W (.Compare a [.In] [b] pos) (λρ S=>(f ρ S).bind λp S1=>(g ρ S1).bind λq S2=>inF false p q S2):=zJF (yBL hu) zOM ha hb hm
def yJD(hu:X.A.units+64<cLine)(ha:PEm X W a f)(hb:PEm X W b g)(hm:behindInMarks .In b=false:=by with_unfolding_all rfl):PTm X W (.Compare a [.In] [b] pos) (λρ S=>((f ρ S).bind λp S1=>(g ρ S1).bind λq S2=>inF false p q S2).bind asB):=zCM (yBL hu) zOM ha hb hm
def yBM(hu:X.A.units+64<cLine)(ha:PEm X W a f)(hb:PEm X W b g)(hm:behindInMarks .NotIn b=false:=by with_unfolding_all rfl):PTm X W (.Compare a [.NotIn] [b] pos) (λρ S=>((f ρ S).bind λp S1=>(g ρ S1).bind λq S2=>inF true p q S2).bind asB):=zCM (zYP hu) zOM ha hb hm
def nS{K:Be}{α:Ah}{H:Hp}{r:Er}{vs:List V}(d:ArgsX K α H [r] vs): ∃v,vs=[v]/\DenX K α H r v:=by
 cases d with
 |cons a l=>cases l;exact⟨_,rfl,a⟩
def zON:List Er->Sto->R Er
 |[.val (.str x)],S=>if x.length<=sizeLine then .ok (.val (.int x.length)) S else .no
 |[r],S=>match itemsOf S r with |some ds=>.ok (.val (.int ds.length)) S|none=>.no
 |_,_=>.no
def zTV:zCA X W (λxs H Q=>(∃z,xs=[.str z]/\z.length<=sizeLine/\Q (.int z.length) H)\/ ∃p ys,xs=[.ref p]/\(SqL X.K H p ys\/SqT X.K H p ys)/\Q (.int ys.length) H) zON:=by
 intro rs vs α S H Q wd d post;unfold zON at post;split at post
 ·split at post
  ·rename_i hz;obtain⟨v,rfl,dv⟩:=nS d;cases gA dv;refine .inl ⟨_,rfl,by rw [wT];exact hz,?_⟩;rw [wT];exact Post.val post wd (xC _)
  ·exact post.elim
 ·split at post
  ·rename_i ds e;obtain⟨v,rfl,dv⟩:=nS d;obtain⟨a,us,rfl,sq,l⟩:=zJJ wd e dv;refine .inr ⟨a,us,rfl,sq,?_⟩;rw [l.length];exact Post.val post wd (xC _)
  ·exact post.elim
 ·exact post.elim
def zGO:CallR X (.builtin "len") (λxs H Q=>(∃z,xs=[.str z]/\z.length<=sizeLine/\Q (.int z.length) H)\/ ∃p ys,xs=[.ref p]/\(SqL X.K H p ys\/SqT X.K H p ys)/\Q (.int ys.length) H):=zOA.or zNZ
def zCE:List MV->Option (List Bool)
 |[]=>some []
 |.bl b::r=>(zCE r).map (b::·)
 |_::_=>none
theorem zGP{K:Be}{α:Ah}{H:Hp}: ∀{ds:Bh}{bs:Bb}{vs:List V},zCE ds=some bs->DenL K α H ds vs->vs=bs.map V.bl
 |[],_,_,e,l=>by cases e;exact l.isnil
 |d::r,bs,_,e,l=>by
  cases d with
  |bl b=>
   unfold zCE at e
   cases z:zCE r with
   |none=>rw [z]at e;cases e
   |some cs=>
    rw [z]at e;cases e;obtain⟨v,us,rfl,dv,l'⟩:=l.uncons;rw [zAL dv,zGP z l'];rfl
  |_=>cases e
def allF:List Er->Sto->R Er
 |[r],S=>match (kG S r).bind zCE with |some bs=>.ok (.val (.bl (bs.all id))) S|none=>.no
 |_,_=>.no
def anyF:List Er->Sto->R Er
 |[r],S=>match (kG S r).bind zCE with |some bs=>.ok (.val (.bl (bs.any id))) S|none=>.no
 |_,_=>.no
def yLM(hc:X.calm=true):zCA X W (λxs H Q=> ∃(a:Addr)(bs:Bb),xs=[.ref a]/\SqL X.K H a (bs.map V.bl)/\X.calm=true/\Q (.bl (bs.all id)) H) allF:=by
 intro rs vs α S H Q wd d post;unfold allF at post;split at post
 ·split at post
  ·rename_i bs e;obtain⟨v,rfl,dv⟩:=nS d
   cases z:kG S _ with
   |none=>rw [z]at e;cases e
   |some ds=>
    rw [z]at e;obtain⟨a1,us,rfl,s,l⟩:=zCP rfl wd z dv;refine⟨a1,bs,rfl,?_,hc,Post.val post wd (wY _)⟩;rw [<-zGP e l];exact s
  ·exact post.elim
 ·exact post.elim
def yLN(S:Sto):Er->Option String
 |.val .non=>some "NoneType"
 |.val (.bl _)=>some "bool"
 |.val (.int _)=>some "int"
 |.val (.str _)=>some "str"
 |.val (.tup _)=>some "tuple"
 |.val (.typ _)=>none
 |.val (.obj _ _ _)=>none
 |r=>(kG S r).map λ_=>"list"
def isiB(t T:String):Bool:=t==T || (t=="bool"&&T=="int")
def known(T:String):Bool:=T=="int" || T=="bool" || T=="str" || T=="tuple" || T=="list"
def zYQ:List Er->Sto->R Er
 |[r,.val (.typ T)],S=>match yLN S r with
  |some t=>if known T=true then .ok (.val (.bl (isiB t T))) S else .no
  |none=>.no
 |_,_=>.no
def zCS:List Er->Sto->R Er
 |[.val (.tup ds)],S=>.ok (.val (.tup ds)) S
 |[r],S=>match kG S r with |some ds=>.ok (.val (.tup ds)) S|none=>.no
 |_,_=>.no
def zJK:zCA X W (λxs H Q=> ∃p ys,xs=[.ref p]/\((SqL X.K H p ys/\ ∀l,H l=none->Q (.ref l) (upd H l (.tup ys)))\/(SqT X.K H p ys/\Q (.ref p) H))) zCS:=by
 intro rs vs α S H Q wd d post;unfold zCS at post;split at post
 ·obtain⟨v,rfl,dv⟩:=nS d;obtain⟨a,us,rfl,sq,l⟩:=cR dv;exact⟨a,us,rfl,.inr ⟨sq,Post.val post wd (zAW sq l)⟩⟩
 ·split at post
  ·rename_i ds e;obtain⟨v,rfl,dv⟩:=nS d;obtain⟨a,us,rfl,sq,l⟩:=zCP rfl wd e dv;exact⟨a,us,rfl,.inl ⟨sq,λp hp=>Post.newt post wd hp l⟩⟩
  ·exact post.elim
 ·exact post.elim
def zJL:bootBuiltins "len"=some (.builtin "len"):=by decide+kernel
def yLO:bootBuiltins "all"=some (.builtin "all"):=by decide+kernel
def yLP:bootBuiltins "any"=some (.builtin "any"):=by decide+kernel
def yLQ:bootBuiltins "int"=some (.type "int"):=by decide+kernel
def zJM:bootBuiltins "tuple"=some (.type "tuple"):=by decide+kernel
def zVW:bootBuiltins "list"=some (.type "list"):=by decide+kernel
end
def digN(n:Nat):List Nat:=(Nat.toDigits 10 n).map Char.toNat
def decL(i:Int):List Nat:=if i<0 then 45::digN i.natAbs else digN i.natAbs
section
variable{X:Cx}{W:XW}{a b c e o i:Expr}{es:Bd}{f g h:AX}{af:Rho->Sto->R (List Er)}{pos apos:Pos}
def strF:List Er->Sto->R Er
 |[.val (.int i)],S=>if i.natAbs.log2<1920 then .ok (.val (.str (decL i))) S else .no
 |[.val (.str x)],S=>.ok (.val (.str x)) S
 |_,_=>.no
def zRA:CallR X (.type "int") (λxs H Q=>((∃i,xs=[.int i]/\Q (.int i) H)\/ ∃k,xs=[.bl k]/\Q (.int (if k then 1 else 0)) H)\/ ∃x n,xs=[.str x]/\PySem.intText? x=some n/\x.length<=640/\Q (.int n) H):=by refine zYA.or ?_;intro pins s σ H xs us Q I r h;obtain⟨x,n,rfl,hn,hl,q⟩:=h;obtain⟨u,rfl,t,rfl⟩:=vals1 r;exact PySem.W.KIN.call_text hn hl ⟨.int n,H,I.tok _,⟨_,rfl⟩,q⟩
def yBN:List Er->Sto->R Er
 |[.val (.int i)],S=>.ok (.val (.int i)) S
 |[.val (.bl k)],S=>.ok (.val (.int (if k then 1 else 0))) S
 |[.val (.str x)],S=>match PySem.intText? (mkS x)with
  |some n=>if x.length<=640 then .ok (.val (.int n)) S else .no
  |none=>.no
 |_,_=>.no
def yLR:zCA X W (λxs H Q=>((∃i,xs=[.int i]/\Q (.int i) H)\/ ∃k,xs=[.bl k]/\Q (.int (if k then 1 else 0)) H)\/ ∃x n,xs=[.str x]/\PySem.intText? x=some n/\x.length<=640/\Q (.int n) H) yBN:=by
 intro rs vs α S H Q wd d post;unfold yBN at post;split at post
 ·obtain⟨v,rfl,dv⟩:=nS d;cases xO dv;exact .inl (.inl ⟨_,rfl,Post.val post wd (xC _)⟩)
 ·obtain⟨v,rfl,dv⟩:=nS d;cases zHW dv;exact .inl (.inr ⟨_,rfl,Post.val post wd (xC _)⟩)
 ·obtain⟨v,rfl,dv⟩:=nS d;cases gA dv;split at post
  ·rename_i n hn;split at post
   ·rename_i hz;exact .inr ⟨_,n,rfl,hn,by rw [wT];exact hz,Post.val post wd (xC _)⟩
   ·exact post.elim
  ·exact post.elim
 ·exact post.elim
def kU(p:Er)(S:Sto):Bool:=(kG S p).isSome
def zTW:TyM X "list" kU:=by
 intro p x α S H wd d h;unfold kU at h
 cases z:kG S p with
 |none=>rw [z]at h;cases h
 |some ds=>
  obtain⟨a,vs,rfl,s,l⟩:=zCP rfl wd z d;exact .inl ⟨rfl,vs,s⟩
def strIdx(x y:Ab):Option Nat:=(Builtin.Str.occurrences (mkS x) (mkS y) 0 (mkS x).length 1).head?
def sidxF:Er->List Er->Sto->R Er
 |.val (.str x),[.val (.str y)],S=>match strIdx x y with |some i=>.ok (.val (.int (i:Nat))) S|none=>.no
 |_,_,_=>.no
def zLP(p:Er)(S:Sto)(G:List MV->Option (List MV)):R Er:=match p with
 |.val (.loc l)=>match S[l]? with
  |some (.lst ds)=>match G ds with
   |some es=>.ok (.val .non) (S.set l (.lst es))
   |none=>.no
  |_=>.no
 |_=>.no
def zMQ{α0 α:Ah}{H0 H:Hp}{S:Sto}{p:Er}{x:V}{G:List MV->Option (List MV)}{Q:VK}(wd:Wd X.g α S H)(x0:Ext α0 H0 α H)(dp:DenX X.K α H p x)(post:Post X.g W α0 H0 (zLP p S G) Q):
  ∃a vs ds es,x=.ref a/\H a=some (.lst vs)/\DenL X.K α H ds vs/\G ds=some es/\ ∀us,DenL X.K α H es us->Q .non (upd H a (.lst us)):=by
 unfold zLP at post;split at post
 ·rename_i l;obtain⟨a,rfl,h⟩:=zAD dp;obtain⟨ob,h1,h2⟩:=wd.of h;rw [h1]at post
  cases ob with
  |lst ds=>
   obtain⟨vs,h3,l1⟩:=h2;have post:Post X.g W α0 H0 (match G ds with |some es=>R.ok (Er.val .non) (S.set l (.lst es))|none=>R.no) Q:=post;split at post
   ·rename_i es eg;refine⟨a,vs,ds,es,rfl,h3,l1,eg,λus lu=>?_⟩;have xw:=wd.writex h (o:=.lst us);exact(post.shift (x0.trans xw)).val (wd.write h ⟨us,yK,lu.ext xw⟩) zFC
   ·exact post.elim
  |dic _=>exact post.elim
  |ins _ _=>exact post.elim
 ·exact post.elim
def zFK:Er->List Er->Sto->R Er
 |p,[r],S=>(cS r S).bind λy S1=>zLP p S1 λds=>if ds.length<sizeLine then some (ds++[y])else none
 |_,_,_=>.no
def zYR:zYJ X W zVJ zFK:=by
 intro p rs x vs α S H0 H Q α0 wd x0 dp da post
 match rs,da,post with
 |[],_,post=>exact post.elim
 |_::_::_,_,post=>exact post.elim
 |[r],da,post=>
  cases da with
  |cons d n l=>
   cases l;obtain⟨d',S',α',e',x',y',w',dd⟩:=zAM wd x0 d;have post:Post X.g W α0 H0 ((cS r S).bind λy S1=>zLP p S1 λds=>if ds.length<sizeLine then some (ds++[y])else none) Q:=post;rw [e']at post
   have dp':DenX X.K α' H p x:=by
    cases p with
    |val m=>exact Den.ex0 y' dp
    |new ds=>exact post.elim
   obtain⟨a,us,ds,es,rfl,h1,l1,eg,k⟩:=zMQ w' x' dp' post;split at eg
   ·rename_i hz;cases eg;exact⟨a,us,_,rfl,rfl,h1,by rw [l1.length];exact hz,k _ (l1.append (zX dd yC))⟩
   ·cases eg
def wB(ho:PEm X W a f)(ha:PAm X W (e::es) af)
  (hbase:attributeBase a "append" X.env (eval a X.env)=eval a X.env:=by rfl)
  (hfew:((backTo pos (starEach (e::es) X.env)).all (λx=>!x.1)&&(backToKw pos (keywordEach [] X.env)).all (λx=>x.1.isSome)
   &&decide ((e::es).length+([]:List Keyword).length+(if([]:List Keyword).isEmpty then 0 else 1)<30))=true:=by rfl)
  (hline:(apos.endLine==pos.line)=true:=by rfl) (hs:starEach (e::es) X.env=(false,eval e X.env)::starEach es X.env:=by rfl) (hplain:(backTo pos (starEach es X.env)).any (·.1)=false:=by rfl):
  PEm X W (.Call (.Attribute a "append" apos) (e::es) [] pos) (λρ S=>(f ρ S).bind λp S1=>if kU p S1=true then(af ρ S1).bind λrs S2=>zFK p rs S2 else .no):=
 zVM PySem.F.plainAttrs_list PySem.F.slot_list_append PySem.F.type_list_append zYC zYR zTW ho ha hbase hfew hline hs hplain
def zRB(p q:Er)(d:MV)(ρ:Rho)(S:Sto):R Rho:=match p,q with
 |.val (.loc l),.val (.int k)=>match S[l]? with
  |some (.lst ds)=>match ixN ds.length k with
   |some j=>.ok ρ (S.set l (.lst (ds.set j d)))
   |none=>.no
  |_=>.no
 |_,_=>.no
def yLS(ho:PEm X W o f)(hi:PEm X W i g)
  (ha: ∀v,assign (.Subscript o i pos) X.env v=(do
   let ov <-holding [v] (eval o X.env);let iv <-holding [v,ov] (eval i X.env)
   standAt pos
   holding [v,ov,iv] (setItem ov iv v)
   release [v,ov,iv] []):=by intro _;rfl):PGm X W (.Subscript o i pos) (λd ρ S=>(f ρ S).bind λp S1=>(g ρ S1).bind λq S2=>zRB p q d ρ S2):=by
 obtain⟨to,ho,fo⟩:=ho;obtain⟨ti,hi,fi⟩:=hi;refine⟨_,yAA ho hi set_list ha,λα ρ S σ H d v Q wd sl de q=>fo α ρ S σ H _ wd sl (q.bind λu p S1 α1 H1 e1 x1 w1 d1 q1=>fi α1 ρ S1 σ H1 _ w1 (sl.ext x1) ((q1.shift x1).bind λu2 p2 S2 α2 H2 e2 x2 w2 d2 q2=>?_))⟩
 replace q2:=q2.shift x2
 have d1':=DenX.ext x2 d1.1;unfold zRB at q2;split at q2
 ·rename_i l k;obtain⟨a,rfl,h⟩:=zAD d1';cases xO d2.1;obtain⟨ob,h1,h2⟩:=w2.of h;rw [h1]at q2
  cases ob with
  |lst ds=>
   obtain⟨vs,h3,l1⟩:=h2;have q2:Post X.g W α2 H2 (match ixN ds.length k with |some j=>R.ok ρ (S2.set l (.lst (ds.set j d)))|none=>R.no) Q:=q2;split at q2
   ·rename_i j ej;have xw:=w2.writex h (o:=.lst (vs.set j v));have sl2:=((sl.ext x1).ext x2).ext xw;exact⟨a,vs,k,j,rfl,rfl,h3,by rw [l1.length];exact ej,q2 σ α2 _ xw (w2.write h ⟨_,yK,(l1.set ((de.ext x1).ext x2) j).ext xw⟩) sl2⟩
   ·exact q2.elim
  |dic _=>exact q2.elim
  |ins _ _=>exact q2.elim
 ·exact q2.elim
end
def _root_.L2.Inv.turnedL{X:Cx}{pins:Ba}{σ:St}{H:Hp}{s:Shared}{h':Heap}{t':Nat}{fp:Ah}(I:Inv X pins σ H s)(k: ∀b o,b∉fp->s.heap.get? b=some o->h'.get? b=some o)
  (hf: ∀b∈fp,zEN X pins H b):Inv X pins σ H {s with heap:=h',toks:=t'}:=by
 have nit: ∀b u,H b=some u->b∉fp:=λb u e z=>by rw [(hf b z).1]at e;cases e
 refine I.step (g':=s.gens) (d':=s.drawn) (ch:=fp) (λb hb=>⟨(hf b hb).2.2.2.1,(hf b hb).2.1,(hf b hb).2.2.2.2.1,(hf b hb).2.2.2.2.2⟩) (λb o _ _ hc e _=>k b o hc e) (λb o _ _ hc e _=>⟨o.slots,k b o hc e⟩) (λ_ _ _ _ n=>n)
  (λb o hc e=>⟨o,k b o hc e⟩) (λ_ _ e=>e) (λ_ _ _ e=>e) (λb ps e=>⟨#[],by rw [e];simp⟩) (λm hm=>?_) (λb u e=>?_) I.bare
 ·obtain⟨o,es,ep,ho,r⟩:=hm;exact⟨o,es,ep,k _ o (λz=>(hf _ z).2.1 rfl) ho,r⟩
 ·refine(I.hok b u e).stay (λc v hc q=>k c v ?_ q) (λ_ q=>q) λ_ _ q=>q;rcases hc with z|z
  ·rw [z];exact nit b u e
  ·exact nit c _ z
def IsSub(k:Bool)(h:Heap)(it l:Addr)(i:Nat):Prop:=if k=true then h.IsListIter it l i else h.IsTupleIter it l i
def zHZ(k:Bool)(h:Heap)(l:Addr)(its:Ag):Prop:=if k=true then h.IsList l its else h.IsTuple l its
def zGQ(k:Bool)(l:Addr):Obj:={cls:=.type (if k=true then "list_iterator" else "tuple_iterator"),data:=.fields #[.ref l,.int 0 0]}
def IsSub.mk'{k:Bool}{h:Heap}{it l:Addr}(e:h.get? it=some (zGQ k l)):IsSub k h it l 0:=by
 cases k with
 |true=>exact⟨_,e,rfl,rfl⟩
 |false=>exact⟨_,e,rfl,rfl⟩
def IsSub.there{k:Bool}{h:Heap}{it l:Addr}{i:Nat}(x:IsSub k h it l i): ∃o,h.get? it=some o/\ ∀v,o.data≠.cell v:=by
 cases k with
 |true=>obtain⟨o,e,_,d⟩:=(x:h.IsListIter it l i);exact⟨o,e,λv z=>by rw [d]at z;cases z⟩
 |false=>obtain⟨o,e,_,d⟩:=(x:h.IsTupleIter it l i);exact⟨o,e,λv z=>by rw [d]at z;cases z⟩
def IsSub.move{k:Bool}{h h':Heap}{it l:Addr}{i:Nat}(x:IsSub k h it l i)(f: ∀o,h.get? it=some o->h'.get? it=some o):IsSub k h' it l i:=by
 cases k with
 |true=>obtain⟨o,e,r⟩:=(x:h.IsListIter it l i);exact⟨o,f o e,r⟩
 |false=>obtain⟨o,e,r⟩:=(x:h.IsTupleIter it l i);exact⟨o,f o e,r⟩
section
variable{prog:Program}{w:World}{A:Around}{E:VP}{s:Shared}
def zJN{k:Bool}{l:Addr}{its:Ag}{Q:VP}(hl:zHZ k s.heap l its)(h:Q (.ref s.heap.objs.size) {s with heap:=s.heap.push (zGQ k l)}):wpAny (model prog w) A (pyIter (.ref l)) Q E s:=by
 cases k with
 |true=>exact wpAny_pyIter_list hl h
 |false=>exact wpAny_pyIter_tuple hl h
def yBO{k:Bool}{it l:Addr}{i:Nat}{its:Ag}{x:Value}{Q:VP}(hit:IsSub k s.heap it l i)(hl:zHZ k s.heap l its)(hx:its[i]? =some x)
  (hQ: ∀h',IsSub k h' it l (i+1)->Heap.SameBut it s.heap h'->Q x {s with heap:=h'}):wpAny (model prog w) A (Builtin.SmallTypes.nextOf (.ref it)) Q E s:=by
 cases k with
 |true=>exact wpAny_nextOf_list_item hit hl hx hQ
 |false=>
  have hit':s.heap.IsTupleIter it l i:=hit;obtain⟨o,ho,hc,hd⟩:=id hit';obtain⟨ol,hol,_,nl,hdl⟩:=(hl:s.heap.IsTuple l its)
  unfold Builtin.SmallTypes.nextOf;refine wB0 (wpAny_callSpecial?_slot (name:=Str.ofString "__next__") hit'.typeIs F.slot_tuple_iterator_next (wpAny_call_entry F.slot_tuple_iterator_next hit'.typeIs F.entry_tuple_iterator_next ?_ (F.args_tuple_iterator_next_1 _)));show wpAny _ _ (field (.ref it) 0 >>= _) _ _ s;refine wB0 (wpAny_field ho hd (x:=.ref l) rfl ?_);show wpAny _ _ (if(Value.ref l==Value.none)=true then _ else _) _ _ s;rw [iN (show¬((Value.ref l==Value.none)=true)from xF0)];show wpAny _ _ (field (.ref it) 1 >>= _) _ _ s;refine wB0 (wpAny_field ho hd (x:=.int i 0) rfl ?_);show wpAny _ _ (seqItems? (.ref l) >>= _) _ _ s;refine wB0 (wpAny_seqItems hol hdl ?_);simp only [toNat_natCast,hx];refine wB0 (wpAny_setField ho hd (by simp) (wP0 ⟨x,rfl,wP0 (hQ _ ?_ (Heap.SameBut.update ..))⟩));exact⟨_,Heap.get?_update_self _ ho (Obj.isFreed_of_fields (Obj.data_mapFields hd _)),(Obj.cls_mapFields ..).trans hc,by rw [Obj.data_mapFields hd];simp [rawInt]⟩
def yGI{k:Bool}{it l:Addr}{i:Nat}{its:Ag}{Q:VP}(hh:A.handled=none)(hit:IsSub k s.heap it l i)(hl:zHZ k s.heap l its)(hx:its[i]? =none)
  (hE: ∀h' e,Heap.ExtBut it s.heap h'->(∃o,h'.get? e=some o/\o.cls=.type "StopIteration")->E (.ref e) {s with heap:=h'}):wpAny (model prog w) A (Builtin.SmallTypes.nextOf (.ref it)) Q E s:=by
 cases k with
 |true=>exact wpAny_nextOf_list_end hh hit hl hx hE
 |false=>
  have hit':s.heap.IsTupleIter it l i:=hit;obtain⟨o,ho,hc,hd⟩:=id hit';obtain⟨ol,hol,_,nl,hdl⟩:=(hl:s.heap.IsTuple l its)
  unfold Builtin.SmallTypes.nextOf;refine wB0 (wpAny_callSpecial?_slot (name:=Str.ofString "__next__") hit'.typeIs F.slot_tuple_iterator_next (wpAny_call_entry F.slot_tuple_iterator_next hit'.typeIs F.entry_tuple_iterator_next ?_ (F.args_tuple_iterator_next_1 _)));show wpAny _ _ (field (.ref it) 0 >>= _) _ _ s;refine wB0 (wpAny_field ho hd (x:=.ref l) rfl ?_);show wpAny _ _ (if(Value.ref l==Value.none)=true then _ else _) _ _ s;rw [iN (show¬((Value.ref l==Value.none)=true)from xF0)];show wpAny _ _ (field (.ref it) 1 >>= _) _ _ s;refine wB0 (wpAny_field ho hd (x:=.int i 0) rfl ?_);show wpAny _ _ (seqItems? (.ref l) >>= _) _ _ s;refine wB0 (wpAny_seqItems hol hdl ?_);simp only [toNat_natCast,hx];refine wB0 (wpAny_rule (wB0 (wpAny_setField ho hd (by simp) ?_)));show wpAny _ _ (newExc (.type "StopIteration") [] >>= _) _ _ _;refine wB0 ?_;simp only [newExc,newTuple];refine wB0 (wpAny_newObj_type ?_ (by size_fits));refine wB0 (m:=firstArgMember _ _) (wpAny_of_eq (a:=Value.none) (by first |rfl|(simp only [firstArgMember];rfl)) ?_);refine wpAny_newObj_type ?_ (by size_fits);simp only [raiseNew];refine wB0 (wpAny_handled ?_)
  first |rw [show A.in1.handled=none from hh]|rw [hh]
  refine wB0 (wP0 (wpAny_throw ?_));exact hE _ _ (((Heap.SameBut.update ..).extBut.push _).push _) ⟨_,Heap.get?_push_size _ rfl,rfl⟩
end
def SqK(k:Bool)(K:Be)(H:Hp)(a:Addr)(xs:List V):Prop:=if k=true then SqL K H a xs else SqT K H a xs
section
variable{X:Cx}{pins:Ba}{σ:St}{H:Hp}{s:Shared}
def _root_.L2.Inv.seqK(I:Inv X pins σ H s){k:Bool}{a:Addr}{xs:List V}(h:SqK k X.K H a xs): ∃its:List Value,Vals xs its/\zHZ k s.heap a its.toArray/\xs.length<=sizeLine:=by
 cases k with
 |true=>obtain⟨its,r,p,z⟩:=I.list h;exact⟨its,r,p.isList,z⟩
 |false=>obtain⟨its,r,p,z⟩:=I.tuple h;exact⟨its,r,p,z⟩
def _root_.L2.Inv.seqK_inj(I:Inv X pins σ H s){k:Bool}{a:Addr}{xs ys:List V}(h:SqK k X.K H a xs)(h':SqK k X.K H a ys):xs=ys:=by
 cases k with
 |true=>exact I.list_inj h h'
 |false=>exact I.tuple_inj h h'
end
structure Sr where
 k:Bool
 ds:List MV
 gs:List (Nat×List MV)
def srcOf(S:Sto):Er->Option Sr
 |.val (.tup ds)=>some ⟨false,ds,[]⟩
 |.new ds=>some ⟨true,ds,[]⟩
 |.val (.scr ds)=>some ⟨true,ds,[]⟩
 |.val (.loc l)=>match S[l]? with
  |some (.lst ds)=>some ⟨true,ds,[(l,ds)]⟩
  |_=>none
 |_=>none
structure SrcD(X:Cx)(q:Sr)(l:Addr)(P:List Addr->Sto->Hp->Prop):Prop where
 get: ∀α S H,P α S H-> ∃vs,SqK q.k X.K H l vs/\DenL X.K α H q.ds vs
 stays: ∀α1 S1 H1 α2 S2 H2,P α1 S1 H1->Ext α1 H1 α2 H2->Wd X.g α2 S2 H2->stay q.gs S2->P α2 S2 H2
 st: ∀α S H,P α S H->stay q.gs S
def yBP{X:Cx}{α:Ah}{S:Sto}{H:Hp}(wd:Wd X.g α S H){r:Er}{x:V}{q:Sr}(e:srcOf S r=some q)(d:DenX X.K α H r x): ∃l P,x=.ref l/\P α S H/\SrcD X q l P:=by
 unfold srcOf at e;split at e
 ·rename_i ds;cases e;obtain⟨a,vs,rfl,s,l⟩:=cR d;exact⟨a,λα S H=> ∃vs,SqT X.K H a vs/\DenL X.K α H ds vs,rfl,⟨vs,s,l⟩,λα S H h=>h,λα1 S1 H1 α2 S2 H2 ⟨vs,h1,h2⟩ x w _=>⟨vs,x.sqT h1,h2.ext x⟩,λ_ _ _ _=>jC⟩
 ·rename_i ds;cases e;obtain⟨b,vs,rfl,h,n,l⟩:=d
  exact⟨b,λα S H=> ∃vs,H b=some (.lst vs)/\b∉α/\DenL X.K α H ds vs,rfl,⟨vs,h,n,l⟩,λα S H ⟨vs,h1,_,h2⟩=>⟨vs,(SqL.of h1:SqL X.K H b vs),h2⟩,
   λα1 S1 H1 α2 S2 H2 ⟨vs,h1,h2,h3⟩ x w _=>⟨vs,x.keep b _ h1 h2,x.out h1 h2,h3.ext x⟩,λ_ _ _ _=>jC⟩
 ·rename_i ds;cases e;obtain⟨a,vs,rfl,s,l⟩:=zJD d;exact⟨a,λα S H=> ∃vs,SqF X.K H a vs/\DenL X.K α H ds vs,rfl,⟨vs,s,l⟩,λα S H ⟨vs,h1,h2⟩=>⟨vs,h1.l,h2⟩,λα1 S1 H1 α2 S2 H2 ⟨vs,h1,h2⟩ x w _=>⟨vs,x.sqF h1,h2.ext x⟩,λ_ _ _ _=>jC⟩
 ·rename_i n;split at e
  ·rename_i ds hS;cases e;obtain⟨a,rfl,h⟩:=zAD d;obtain⟨vs,h1,h2⟩:=wd.obj n a _ h hS;refine⟨a,λα S H=> ∃vs,H a=some (.lst vs)/\DenL X.K α H ds vs/\α[n]? =some a/\S[n]? =some (.lst ds),rfl,⟨vs,h1,h2,h,hS⟩,λα S H ⟨vs,h1,h2,_⟩=>⟨vs,(SqL.of h1:SqL X.K H a vs),h2⟩,?_,?_⟩
   ·intro α1 S1 H1 α2 S2 H2 ⟨vs,a1,a2,a3,a4⟩ x w hs;have hs':=hs (n,ds) (by simp);obtain⟨us,b1,b2⟩:=w.obj n a _ (x.at a3) hs';exact⟨us,b1,b2,x.at a3,hs'⟩
   ·intro α S H ⟨vs,_,_,_,a4⟩ p hp;have:p=(n,ds):=by simpa using hp
    subst this;exact a4
  ·cases e
 ·cases e
section
variable{X:Cx}{W:XW}{a b:Expr}{elts:Bd}{kt:Nat}{pt p pos:Pos}{ta:TA}{af:Rho->Sto->R (List Er)}
def yGJ:bootBuiltins "enumerate"=some (.type "enumerate"):=by decide+kernel
def pairs(xs ys:Bh):List MV:=List.zipWith (λx y=>.tup [x,y]) xs ys
end
structure EnSt(k:Bool)(e it l:Addr)(i:Nat)(h:Heap):Prop where
 e: ∃old,IsEnum h e it i old
 s:IsSub k h it l i
section
variable{prog:Program}{w:World}{A:Around}{E:VP}{s:Shared}{k:Bool}{e it l:Addr}{i:Nat}{its:Ag}
def yGK{x old:Value}{Q:VP}(he:IsEnum s.heap e it i old)(hit:IsSub k s.heap it l i)(hl:zHZ k s.heap l its)(hx:its[i]? =some x)(hne:e≠it)
  (hQ: ∀h',IsEnumOut h' e it ((i:Int)+1) x s.heap.objs.size->IsSub k h' it l (i+1)->h'.get? s.heap.objs.size=some {cls:=.type "tuple",data:=.seq #[.int i s.toks,x]}->
   (∀b o,b≠e->b≠it->s.heap.get? b=some o->h'.get? b=some o)->Q (.ref s.heap.objs.size) {s with heap:=h',toks:=s.toks+1}):
  wpAny (model prog w) A (Builtin.«enumerate.__next__» ⟨[.ref e],[]⟩) (λfin s'=> ∃v,fin=.done (.ret v)/\Q v s') E s:=by
 obtain⟨hp,g,d,tk,os⟩:=s;show wpAny _ _ (field (.ref e) 2 >>= _) _ _ _;refine wB0 (wpAny_field he rfl (x:=.ref it) rfl (wB0 (yBO hit hl hx λha ita hsa=>?_)))
 replace hsa:Heap.SameBut it hp ha:=hsa
 have ea:IsEnum ha e it i old:=(hsa.2 e hne).trans he;show wpAny _ _ (field (.ref e) 3 >>= _) _ _ ⟨ha,g,d,tk,os⟩;refine wB0 (wpAny_field ea rfl (x:=rawInt i) rfl ?_);show wpAny _ _ (field (.ref e) 4 >>= _) _ _ ⟨ha,g,d,tk,os⟩;refine wB0 (wpAny_field ea rfl (x:=.none) rfl ?_);show wpAny _ _ (mkInt i >>= _) _ _ ⟨ha,g,d,tk,os⟩;refine wB0 (wpAny_mkInt ?_);show wpAny _ _ (setField (.ref e) 3 (rawInt ((i:Int)+1)) >>= _) _ _ ⟨ha,g,d,tk+1,os⟩;refine wB0 (wpAny_setField_rec ea (by simp) λhb eb hsb=>?_)
 replace hsb:Heap.SameBut e ha hb:=hsb
 replace eb:IsEnum hb e it ((i:Int)+1) old:=eb
 show wpAny _ _ (setField (.ref e) 4 .none >>= _) _ _ ⟨hb,g,d,tk+1,os⟩;refine wB0 (wpAny_setField_rec eb (by simp) λhc ec hsc=>?_)
 replace hsc:Heap.SameBut e hb hc:=hsc
 replace ec:IsEnum hc e it ((i:Int)+1) old:=ec
 show wpAny _ _ (newTuple [.int i tk,x] >>= _) _ _ ⟨hc,g,d,tk+1,os⟩;refine wB0 (wpAny_newTuple ?_);have hsz:hc.objs.size=hp.objs.size:=by rw [hsc.1,hsb.1,hsa.1]
 have hel:e<hp.objs.size:=Heap.lt_size he;have ed:IsEnum (hc.push {cls:=.type "tuple",data:=.seq #[.int i tk,x]}) e it ((i:Int)+1) old:=hP0 _ ec;have td:(hc.push {cls:=.type "tuple",data:=.seq #[.int i tk,x]}).get? hp.objs.size=some {cls:=.type "tuple",data:=.seq #[.int i tk,x]}:=by rw [<-hsz];exact Heap.get?_push_size _ rfl
 have kd: ∀b o,b≠e->b≠it->hp.get? b=some o->(hc.push {cls:=.type "tuple",data:=.seq #[.int i tk,x]}).get? b=some o:=λb o n1 n2 q=>
  hP0 _ (hsc.extBut b o n1 (hsb.extBut b o n1 (hsa.extBut b o n2 q)))
 have sd:IsSub k (hc.push {cls:=.type "tuple",data:=.seq #[.int i tk,x]}) it l (i+1):=ita.move λo q=>hP0 _ (hsc.extBut _ o (Ne.symm hne) (hsb.extBut _ o (Ne.symm hne) q));generalize hc.push {cls:=.type "tuple",data:=.seq #[.int i tk,x]}=hd at ed td kd sd ⊢;show wpAny _ _ (Builtin.SmallTypes.ownedTupleIsFree (.ref e) >>= _) _ _ ⟨hd,g,d,tk+1,os⟩;rw [hsz];refine wB0 ?_;unfold Builtin.SmallTypes.ownedTupleIsFree;refine wB0 (wpAny_field ed rfl (x:=.none) rfl (wP0 ?_));simp only [if_true];refine wB0 (wpAny_rule (wB0 (wpAny_field ed rfl (x:=old) rfl (wB0 (wpAny_setField_rec ed (by simp) λhf ef hsf=>?_)))))
 replace hsf:Heap.SameBut e hd hf:=hsf
 replace ef:IsEnum hf e it ((i:Int)+1) x:=ef
 show wpAny _ _ (Builtin.SmallTypes.ownedTupleHandOut (.ref e) (.ref hp.objs.size) >>= _) _ _ ⟨hf,g,d,tk+1,os⟩;refine wB0 ?_;unfold Builtin.SmallTypes.ownedTupleHandOut;refine wB0 (wpAny_setField_rec ef (by simp) λhg' eg hsg=>?_)
 replace hsg:Heap.SameBut e hf hg':=hsg
 replace eg:IsEnumOut hg' e it ((i:Int)+1) x hp.objs.size:=eg
 refine wpAny_setField_rec eg (by simp) λhh' eh hsh=>?_
 replace hsh:Heap.SameBut e hg' hh':=hsh
 replace eh:IsEnumOut hh' e it ((i:Int)+1) x hp.objs.size:=eh
 have up: ∀b o,b≠e->hd.get? b=some o->hh'.get? b=some o:=λb o n q=>hsh.extBut b o n (hsg.extBut b o n (hsf.extBut b o n q));exact wB0 (wpAny_letGo (wP0 ⟨_,rfl,hQ hh' eh (sd.move λo q=>up _ o (Ne.symm hne) q) (up _ _ (ne_of_gt hel) td) λb o n1 n2 q=>up b o n1 (kd b o n1 n2 q)⟩))
def zTX(k:Bool)(l:Addr)(its:Ag):
  Meets (Builtin.«enumerate.__new__» ⟨[.type "enumerate",.ref l],[]⟩) (λ_ R s=>zHZ k s.heap l its/\
   R (.ok (.ret (.ref (s.heap.objs.size+1)))) {s with heap:=(s.heap.push (zGQ k l)).push {cls:=.type "enumerate",data:=.fields #[.none,.bool false,.ref s.heap.objs.size,rawInt 0,.none,.none]}}):=
 .of_wp λprog w A R s h=>by
  obtain⟨hp,g,d,tk,os⟩:=s;obtain⟨hl,h⟩:=h;have hsub:=sub_enumerate;have hL:zHZ k (Shared.heap ⟨hp,g,d,tk,os⟩) l its:=hl;have z1: ∀(h:Heap)(o:Obj),(h.push o).objs.size=h.objs.size+1:=λh o=>Heap.size_push ..
  wp_walk
  refine wpAny_stack_any λst=>wP0 ?_;split
  ·rename_i c _ _ _ _ _;cases (c==Value.type "enumerate")
   ·wp_walk using zJN hL
    exact⟨_,rfl,by simp only [z1];exact h⟩
   ·wp_walk using zJN hL
    exact⟨_,rfl,by simp only [z1];exact h⟩
  ·wp_walk using zJN hL
   exact⟨_,rfl,by simp only [z1];exact h⟩
end
def zMR(K:Be)(F:List MV->Sto->R Er):Sp:=λvs H Q _=> ∃ds,DenL K [] H ds vs/\ds.length=1/\ ∀g:Gm,g.K=K->Post g W0 [] H (F ds []) Q
def yBQ{g:Gm}{F:List MV->Sto->R Er}: ∀vs H Q E,zMR g.K F vs H Q E->spM g 1 F vs H Q E:=λvs H Q E ⟨ds,l,hl,q⟩=>⟨[],[],ds,⟨rfl,by simp,λl a o h=>by simp at h⟩,l,hl,q g rfl⟩
def yLT{K:Be}{H:Hp}{a:Addr}{xs:List V}(hO:yAJ H)(h:SqL K H a xs):SqF K H a xs:=by
 rcases h with(h|⟨o,h⟩)|h
 ·rcases hO a with z|⟨o,ys,z⟩
  ·rw [z]at h;cases h
  ·rw [z]at h;cases h
 ·exact .inl ⟨o,h⟩
 ·exact .inr h
def yBR{K:Be}{F:List MV->Sto->R Er}{H:Hp}{a:Addr}{ns:Ad}(hO:yAJ H)(hS:SqL K H a (ns.map V.int))(h: ∃S,F [.scr (ns.map MV.int)] []=.ok (.val (.bl true)) S):zMR K F [.ref a] H (λv _=>v=.bl true) λ_ _ _=>False:=by obtain⟨S,h⟩:=h;refine⟨_,zX (zVL (yLT hO hS) (zMO ns)) yC,rfl,λg _=>?_⟩;rw [h];exact λv α' H' x w d=>zHW d.1
theorem bok{β γ:Type}(b:β)(S:Sto)(k:β->Sto->R γ):(R.ok b S).bind k=k b S:=by have h:=R.bind_ok b S k;exact Eq.trans h rfl
theorem yGL(d:MV)(S:Sto):rdSl (some (some d)) S=.ok (.val d) S:=rfl
def zJO{S T:Sto}:yAW S (S++T):=⟨by rw [lA];omega,λl hl=>.inl (getElem?_append_left hl)⟩
def zAZ(n:Nat)(i:Int):lo n (.int i):=by unfold lo;trivial
def zGR(n:Nat)(i:Ab):lo n (.str i):=by unfold lo;trivial
def yJE(n:Nat)(i:Bool):lo n (.bl i):=by unfold lo;trivial
def zTY(n:Nat):lo n .non:=by unfold lo;trivial
def yBS{n:Nat}{ds:Bh}(h:loL n ds):lo n (.tup ds):=by unfold lo;exact h
theorem cT{n:Nat}: ∀{ds:Bh},(∀d∈ds,lo n d)->loL n ds
 |[],_=>by unfold loL;trivial
 |d::ds,h=>by unfold loL;exact⟨h d mF0,cT λe he=>h e (mO _ he)⟩
def yBT{S T:Sto}{d:MV}(h:lo S.length d)(hn: ∀l,d≠.loc l):bY S (.val d) (S++T)=.ok (.val d) S:=by
 unfold bY;rw [iP zJO];have e:(S++T).take S.length=S:=by simp
 cases d with
 |loc l=>exact absurd rfl (hn l)
 |_=>dsimp only;rw [iP h,e]
def yBU{S T:Sto}{ds:Bh}(h:loL S.length ds):bY S (.new ds) (S++T)=.ok (.new ds) S:=by
 unfold bY;rw [iP zJO];have e:(S++T).take S.length=S:=by simp
 dsimp only;rw [iP h,e]
def yBV{S T:Sto}{l:Nat}{ds:Bh}(hl:S.length<=l)(hS:(S++T)[l]? =some (.lst ds))(h:loL S.length ds):bY S (.val (.loc l)) (S++T)=.ok (.new ds) S:=by
 unfold bY;rw [iP zJO];have e:(S++T).take S.length=S:=by simp
 dsimp only;rw [iN (by omega),hS];dsimp only;rw [iP h,e]
def zJP{n:Nat}{F:List MV->Sto->R Er}{rs:List Er}{S T:Sto}{d:MV}(hn:rs.length=n)(hF:F (zQ rs S).1 (zQ rs S).2=.ok (.val d) (S++T))(h:lo S.length d)(hd: ∀l,d≠.loc l):zT n F rs S=.ok (.val d) S:=by unfold zT;rw [iP hn,hF];exact yBT h hd
def jE{n:Nat}{F:List MV->Sto->R Er}{rs:List Er}{S T:Sto}{ds:Bh}(hn:rs.length=n)(hF:F (zQ rs S).1 (zQ rs S).2=.ok (.new ds) (S++T))(h:loL S.length ds):zT n F rs S=.ok (.new ds) S:=by unfold zT;rw [iP hn,hF];exact yBU h
def zCT{n:Nat}{F:List MV->Sto->R Er}{rs:List Er}{S T:Sto}{l:Nat}{ds:Bh}(hn:rs.length=n)(hF:F (zQ rs S).1 (zQ rs S).2=.ok (.val (.loc l)) (S++T))(hl:S.length<=l)(hS:(S++T)[l]? =some (.lst ds))(h:loL S.length ds):zT n F rs S=.ok (.new ds) S:=by unfold zT;rw [iP hn,hF];exact yBV hl hS h
def zAN{n:Nat}{F:List MV->Sto->R Er}{rs:List Er}{S:Sto}{d:MV}(hn:rs.length=n)(hF:F (zQ rs S).1 (zQ rs S).2=.ok (.val d) S)(h:lo S.length d)(hd: ∀l,d≠.loc l):zT n F rs S=.ok (.val d) S:=zJP (T:=[]) hn (by rw [aN];exact hF) h hd
section
variable{S:Sto}
theorem as_bl(b:Bool)(S:Sto):asB (.val (.bl b)) S=.ok b S:=rfl
theorem as_int(i:Int)(S:Sto):asI (.val (.int i)) S=.ok (some i) S:=rfl
theorem yLU(b:Bool)(S:Sto):zLN (.val (.bl b)) S=.ok b S:=rfl
theorem add_int(i j:Int)(S:Sto):xW (.val (.int i)) (.val (.int j)) S=.ok (.val (.int (i+j))) S:=rfl
theorem sub_int(i j:Int)(S:Sto):yBA (.val (.int i)) (.val (.int j)) S=.ok (.val (.int (i - j))) S:=rfl
def add_str{x y:Ab}(h:x.length+y.length<=sizeLine):xW (.val (.str x)) (.val (.str y)) S=.ok (.val (.str (x++y))) S:=iP h
def yGM{x y:Bh}(h:x.length+y.length<=sizeLine):xW (.val (.tup x)) (.val (.tup y)) S=.ok (.val (.tup (x++y))) S:=iP h
def zTZ{p q:Er}{x y:Bh}(h1:lsW S p=some x)(h2:lsW S q=some y)(h:x.length+y.length<=sizeLine):xW p q S=.ok (.new (x++y)) S:=by
 have e:zVS p q S=.ok (.new (x++y)) S:=by unfold zVS;rw [h1,h2];exact iP h
 unfold xW;split
 ·cases h1
 ·cases h1
 ·cases h1
 ·exact e
theorem yLV{g:Int->Int->Bool}(i j:Int)(S:Sto):ibF g (.val (.int i)) (.val (.int j)) S=.ok (.val (.bl (g i j))) S:=rfl
def yGN(i j:Int):eqV (.int i) (.int j)=decide (i=j):=by
 show(i==j)=_;by_cases h:i=j
 ·subst h;simp
 ·rw [dF0 h];simpa using h
def yGO(x y:Ab):eqV (.str (mkS x)) (.str (mkS y))=decide (x=y):=by
 show(mkS x==mkS y)=_;by_cases h:x=y
 ·subst h;simp
 ·rw [dF0 h];have:mkS x≠mkS y:=λz=>h (zDX z);simpa using this
theorem zEB(n:Nat)(i j:Int):eqv S (n+1) (.int i) (.int j)=some (decide (i=j)):=by rw [<-yGN];rfl
theorem zVX(n:Nat)(x y:Ab):eqv S (n+1) (.str x) (.str y)=some (decide (x=y)):=by rw [<-yGO];rfl
theorem yLW(n:Nat)(x:Int)(y:Ab):eqv S (n+1) (.int x) (.str y)=some false:=rfl
theorem yLX(n:Nat)(x:Ab)(y:Int):eqv S (n+1) (.str x) (.int y)=some false:=rfl
theorem yLY(n:Nat)(x y:Bool):eqv S (n+1) (.bl x) (.bl y)=some (x==y):=rfl
theorem yGP(d f:MV):eqF (.val d) (.val f) S=match eqv S (zM+1) d f with |some k=>.ok (.val (.bl k)) S|none=>.no:=rfl
theorem yGQ(d f:MV):neF (.val d) (.val f) S=match eqv S (zM+1) d f with |some k=>.ok (.val (.bl !k)) S|none=>.no:=rfl
def zUA{d f:MV}{k:Bool}(h:eqv S (zM+1) d f=some k):eqF (.val d) (.val f) S=.ok (.val (.bl k)) S:=by rw [yGP,h]
def yLZ{d f:MV}{k:Bool}(h:eqv S (zM+1) d f=some k):neF (.val d) (.val f) S=.ok (.val (.bl !k)) S:=by rw [yGQ,h]
def eq_int(i j:Int)(S:Sto):eqF (.val (.int i)) (.val (.int j)) S=.ok (.val (.bl (decide (i=j)))) S:=zUA (zEB _ i j)
def eq_str(x y:Ab)(S:Sto):eqF (.val (.str x)) (.val (.str y)) S=.ok (.val (.bl (decide (x=y)))) S:=zUA (zVX _ x y)
def ne_int(i j:Int)(S:Sto):neF (.val (.int i)) (.val (.int j)) S=.ok (.val (.bl (!decide (i=j)))) S:=yLZ (zEB _ i j)
theorem lt_int(i j:Int)(S:Sto):ltF (.val (.int i)) (.val (.int j)) S=.ok (.val (.bl (decide (i<j)))) S:=rfl
theorem lt_str(i j:Ab)(S:Sto):ltF (.val (.str i)) (.val (.str j)) S=.ok (.val (.bl (decide (i<j)))) S:=rfl
def xD{b:Int}(h:0<b)(h2:b<1073741824)(a:Int)(S:Sto):zAY (.val (.int a)) (.val (.int b)) S=.ok (.val (.int (a / b))) S:=by
 refine iP ⟨h,?_⟩;have h3:b.natAbs<2 ^ 30:=by omega
 have:=(Nat.log2_lt (by omega:b.natAbs≠0)).mpr h3;omega
def mod_lit{b:Int}(h:0<b)(a:Int)(S:Sto):kZ (.val (.int a)) (.val (.int b)) S=.ok (.val (.int (a % b))) S:=iP h
def zOO{b:Int}(h: -(2 ^ 64)<b/\b<2 ^ 64)(a:Int)(S:Sto):zIK (.val (.int a)) (.val (.int b)) S=.ok (.val (.int (a * b))) S:=iP (Or.inr (Or.inl h))
def zCU{a:Int}(h: -(2 ^ 64)<a/\a<2 ^ 64)(b:Int)(S:Sto):zIK (.val (.int a)) (.val (.int b)) S=.ok (.val (.int (a * b))) S:=iP (Or.inl h)
def yGR{a b:Int}(h:yBD a b)(S:Sto):powF (.val (.int a)) (.val (.int b)) S=.ok (.val (.int (a ^ b.toNat))) S:=iP h
theorem yGS(ρ:Rho)(i:Nat)(d:MV)(S:Sto):zOH ρ i (.val d) S=.ok (.next (ρ.set i (some d))) S:=rfl
theorem yGT(ρ:Rho)(i:Nat)(ds:Bh)(S:Sto):zOH ρ i (.new ds) S=.ok (.next (ρ.set i (some (.loc S.length)))) (S++[.lst ds]):=rfl
theorem yGU(S:Sto):zQ [] S=([],S):=rfl
theorem yGV(d:MV)(rs:List Er)(S:Sto):zQ (.val d::rs) S=(d::(zQ rs S).1,(zQ rs S).2):=rfl
theorem zD{F G:AY}{ρ ρ':Rho}{S S':Sto}(h:F ρ S=.ok (.next ρ') S'):zP F G ρ S=G ρ' S':=by unfold zP;rw [h];rfl
theorem zFL{F G:AY}{ρ:Rho}{S S':Sto}{r:Er}(h:F ρ S=.ok (.ret r) S'):zP F G ρ S=.ok (.ret r) S':=by unfold zP;rw [h];rfl
def xE(S:Sto):stay [] S:=jC
def yB{gf:MV->Rho->Sto->R Rho}{b:AY}{gs:Bk}{d:MV}{ds:Bh}{ρ ρ0 ρ':Rho}{S0 S':Sto}(hg:gf d ρ S=.ok ρ0 S0)(h:b ρ0 S0=.ok (.next ρ') S')(hs:stay gs S'):kY gf b gs (d::ds) ρ S=kY gf b gs ds ρ' S':=by
 conv=>lhs;unfold kY
 rw [hg,bok,h,bok];dsimp only;rw [iP hs]
def yGW{gf:MV->Rho->Sto->R Rho}{b:AY}{gs:Bk}{d:MV}{ds:Bh}{ρ ρ0:Rho}{S0 S':Sto}{r:Er}(hg:gf d ρ S=.ok ρ0 S0)(h:b ρ0 S0=.ok (.ret r) S'):kY gf b gs (d::ds) ρ S=.ok (.ret r) S':=by
 conv=>lhs;unfold kY
 rw [hg,bok,h,bok]
def cU{t:AZ}{b:AY}{n:Nat}{ρ ρ':Rho}{S1 S2:Sto}(h1:t ρ S=.ok true S1)(h2:b ρ S1=.ok (.next ρ') S2):xH t b (n+1) ρ S=xH t b n ρ' S2:=by
 conv=>lhs;unfold xH
 rw [h1,bok,iP rfl,h2,bok]
def cO{t:AZ}{b:AY}{n:Nat}{ρ:Rho}{S1:Sto}(h1:t ρ S=.ok false S1):xH t b (n+1) ρ S=.ok (.next ρ) S1:=by
 conv=>lhs;unfold xH
 rw [h1,bok,iN xF0]
def zVY{α:Type}{xs:List α}{i:Int}(h0:0<=i)(h1:i<xs.length): ∃c,atI xs i=some c:=by refine⟨xs[i.toNat]'(by omega),?_⟩;unfold atI ixN;rw [iP h0,iP h1];exact gE0 _
def yGX{α:Type}{P:α->Prop}{xs:List α}{i:Int}{e:α}(h: ∀e∈xs,P e)(z:atI xs i=some e):P e:=by
 unfold atI at z
 cases q:ixN xs.length i with
 |none=>rw [q]at z;cases z
 |some j=>rw [q]at z;exact h e (mem_of_getElem? (show xs[j]? =some e from z))
def ix_str{x:Ab}{i:Int}{c:Nat}(h:x.length<=sizeLine)(hk:atI x i=some c):ixF (.val (.str x)) (.val (.int i)) S=.ok (.val (.str [c])) S:=by show(if x.length<=sizeLine then match atI x i with |some c=>R.ok (Er.val (.str [c])) S|none=>.no else .no)=_;rw [iP h,hk]
def ix_tup{ds:Bh}{i:Int}{d:MV}(hk:atI ds i=some d):ixF (.val (.tup ds)) (.val (.int i)) S=.ok (.val d) S:=by show(match atI ds i with |some d=>R.ok (Er.val d) S|none=>.no)=_;rw [hk]
def yBW{ds:Bh}{i:Int}{d:MV}(hk:atI ds i=some d):ixF (.new ds) (.val (.int i)) S=.ok (.val d) S:=by show(match atI ds i with |some d=>R.ok (Er.val d) S|none=>.no)=_;rw [hk]
def zGS{l:Nat}{ds:Bh}{i:Int}{d:MV}(hS:S[l]? =some (.lst ds))(hk:atI ds i=some d):ixF (.val (.loc l)) (.val (.int i)) S=.ok (.val d) S:=by
 have e:kG S (.val (.loc l))=some ds:=by unfold kG;dsimp only;rw [hS]
 show(match kG S (.val (.loc l))with |some ds=>getL ds (.val (.int i)) S|none=>.no)=_;rw [e];show(match atI ds i with |some d=>R.ok (Er.val d) S|none=>.no)=_;rw [hk]
def zVZ{l:Nat}{ds:Bh}(hS:S[l]? =some (.lst ds)):zON [.val (.loc l)] S=.ok (.val (.int ds.length)) S:=by
 have e:kG S (.val (.loc l))=some ds:=by unfold kG;dsimp only;rw [hS]
 have e2:itemsOf S (.val (.loc l))=some ds:=by unfold itemsOf;exact e
 show(match itemsOf S (.val (.loc l))with |some ds=>R.ok (Er.val (.int ds.length)) S|none=>.no)=_;rw [e2]
def cV{l:Nat}{ds:Bh}(hS:S[l]? =some (.lst ds)):kG S (.val (.loc l))=some ds:=by unfold kG;dsimp only;rw [hS]
def zWA{l:Nat}{ds:Bh}(hS:S[l]? =some (.lst ds)):lsW S (.val (.loc l))=some ds:=by unfold lsW;dsimp only;rw [hS]
def zWB{l:Nat}{ds:Bh}(hS:S[l]? =some (.lst ds)):itL (.val (.loc l)) S=.ok ⟨ds,[(l,ds)]⟩ S:=by unfold itL;dsimp only;rw [hS]
def zJQ{l:Nat}{ds:Bh}(hS:S[l]? =some (.lst ds)):stay [(l,ds)] S:=λp hp=>by
 have:p=(l,ds):=by simpa using hp
 subst this;exact hS
def zUB{j:Int}(h: -(2 ^ 62)<=j/\j<2 ^ 62):jY [.val (.int j)] S=.ok ⟨(List.range j.toNat).map λk=>.int (k:Nat),[]⟩ S:=iP h
def cut_str{x:Ab}(h:x.length<=sizeLine)(lo hi:Bc):zGM (.val (.str x)) lo hi S=.ok (.val (.str (jW x lo hi))) S:=iP h
def zOP{α:Type}(x:List α)(k:Int)(h0:0<=k):jW x none (some k)=x.take k.toNat:=by
 unfold jW;have h1:HT.sIx x.length 0 none=0:=rfl;rw [h1];have h2:HT.sIx x.length x.length (some k)=min k.toNat x.length:=by unfold HT.sIx;simp only;split<;>omega
 rw [h2,drop_zero,sub_zero];by_cases hk:k.toNat<=x.length
 ·rw [min_eq_left hk]
 ·rw [Nat.min_eq_right (by omega),take_length,take_of_length_le (by omega)]
def fits{n:Nat}(h:n<=1000000):n<=sizeLine:=by rw [sizeLine_eq];exact le_trans h (by decide)
def zGT{rs:List Er}(h:rs.length<=1000000):nN rs S=.ok (.new (zQ rs S).1) (zQ rs S).2:=iP (fits h)
def zJR{rs:List Er}(h:rs.length<=1000000):bP rs S=.ok (.val (.tup (zQ rs S).1)) (zQ rs S).2:=iP (fits h)
def lst0(S:Sto):nN [] S=.ok (.new []) S:=zGT (by simp)
def lst1(a:MV)(S:Sto):nN [.val a] S=.ok (.new [a]) S:=zGT (by simp)
def yBX(a b:MV)(S:Sto):nN [.val a,.val b] S=.ok (.new [a,b]) S:=zGT (by simp)
def lst3(a b c:MV)(S:Sto):nN [.val a,.val b,.val c] S=.ok (.new [a,b,c]) S:=zGT (by simp)
def lst6(a b c d e f:MV)(S:Sto):nN [.val a,.val b,.val c,.val d,.val e,.val f] S=.ok (.new [a,b,c,d,e,f]) S:=zGT (by simp)
def tup2(a b:MV)(S:Sto):bP [.val a,.val b] S=.ok (.val (.tup [a,b])) S:=zJR (by simp)
def tup3(a b c:MV)(S:Sto):bP [.val a,.val b,.val c] S=.ok (.val (.tup [a,b,c])) S:=zJR (by simp)
theorem yMA(i:Int)(S:Sto):zYQ [.val (.int i),.val (.typ "str")] S=.ok (.val (.bl false)) S:=rfl
theorem yMB(i:Ab)(S:Sto):zYQ [.val (.str i),.val (.typ "str")] S=.ok (.val (.bl true)) S:=rfl
theorem yMC(i:Int)(S:Sto):zYQ [.val (.int i),.val (.typ "tuple")] S=.ok (.val (.bl false)) S:=rfl
theorem yMD(i:Ab)(S:Sto):zYQ [.val (.str i),.val (.typ "tuple")] S=.ok (.val (.bl false)) S:=rfl
theorem yME(i:Bh)(S:Sto):zYQ [.val (.tup i),.val (.typ "tuple")] S=.ok (.val (.bl true)) S:=rfl
theorem yMF(i:Bool)(S:Sto):zYQ [.val (.bl i),.val (.typ "bool")] S=.ok (.val (.bl true)) S:=rfl
theorem zRC{gf:MV->Rho->Sto->R Rho}{cf:AZ}{ef:AX}{ρb:Rho}{gs:Bk}{P:MV->Prop}(hs:stay gs S):
  ∀{ds:Bh},(∀d∈ds, ∃ρ1 y,gf d ρb S=.ok ρ1 S/\cf ρ1 S=.ok true S/\ef ρ1 S=.ok (.val y) S/\P y)-> ∃out,xP gf cf ef ρb gs ds S=.ok out S/\out.length=ds.length/\ ∀o∈out,P o
 |[],_=>⟨[],rfl,rfl,λo h=>by simp at h⟩
 |d::ds,st=>by obtain⟨ρ1,y,h1,h2,h3,h4⟩:=st d mF0;obtain⟨out,e,hl,hp⟩:=zRC hs (ds:=ds) λd hd=>st d (mO _ hd);refine⟨y::out,?_,by rw [lC,lC,hl],λo ho=>(mC.mp ho).elim (λz=>z▸h4) (hp o)⟩;unfold xP;rw [h1,xV,bok,h2,xV,bok,iP rfl,h3,xV,bok];unfold cS;rw [bok,iP hs,e];rfl
def Nm(x:Ab):Prop:=1<=x.length/\x.length<=8/\ ∀c∈x,97<=c/\c<=122
def Vl:MV->Prop
 |.int i=> -(10 ^ 30)<i/\i<10 ^ 30
 |.str x=>Nm x
 |_=>False
def Vl.cases{d:MV}(h:Vl d):(∃i,d=.int i/\ -(10 ^ 30)<i/\i<10 ^ 30)\/ ∃x,d=.str x/\Nm x:=by
 cases d with
 |int i=>exact .inl ⟨i,rfl,h⟩
 |str x=>exact .inr ⟨x,rfl,h⟩
 |_=>exact h.elim
end
def Ite(K:Be)(k:Bool)(l:Addr):It:=
 ⟨λi H=> ∃xs x,SqK k K H l xs/\xs[i]? =some x,
   λi H v H'=> ∃p x,H p=none/\v=.ref p/\H'=upd H p (.tup [.int (i:Nat),x])/\(∀xs,SqK k K H l xs->xs[i]? =some x),
   λi H=> ∃xs,SqK k K H l xs/\xs.length<=i⟩
section
variable{prog:Program}{w:World}{A:Around}{E:VP}{s:Shared}{k:Bool}{e it l:Addr}{i:Nat}{its:Ag}
def zYS(hl:zHZ k s.heap l its){Q:VP}
  (h: ∀h',EnSt k (s.heap.objs.size+1) s.heap.objs.size l 0 h'->(∀c o,s.heap.get? c=some o->h'.get? c=some o)->Q (.ref (s.heap.objs.size+1)) {s with heap:=h'}):
  wpAny (model prog w) A (call (.type "enumerate") [.ref l]) Q E s:=by
 refine callType_new F.called_enumerate (by decide) (F.typeCall_enumerate_1 _) (F.newCall_enumerate_1 _) (λobj=>F.args_object_init_2 obj _) F.entry_enumerate_new (zTX k l its) ⟨hl,?_⟩;have hz:(s.heap.push (zGQ k l)).objs.size=s.heap.objs.size+1:=Heap.size_push ..;show _/\_;have he:IsEnum ((s.heap.push (zGQ k l)).push {cls:=.type "enumerate",data:=.fields #[.none,.bool false,.ref s.heap.objs.size,rawInt 0,.none,.none]}) (s.heap.objs.size+1) s.heap.objs.size 0 .none:=by have:=Heap.get?_push_size (s.heap.push (zGQ k l)) (o:={cls:=.type "enumerate",data:=.fields #[.none,.bool false,.ref s.heap.objs.size,rawInt 0,.none,.none]}) rfl;rw [hz]at this;exact this
 refine⟨⟨_,he,rfl⟩,h _ ⟨⟨.none,he⟩,IsSub.mk' (hP0 _ (Heap.get?_push_size _ rfl))⟩ λb o x=>hP0 _ (hP0 _ x)⟩
end
def zYT{P:Program}{w:World}{K:Be}{elts:Bd}{kt:Nat}{pt:Pos}{k:Bool}{e it l:Addr}(hne:e≠it):
  Turn P w K (.Tuple elts kt pt) (Ite K k l) [e,it] e (λi h=>EnSt k e it l i h) where
 mem:=by simp
 obj:=λi h st b hb=>by
  obtain⟨⟨old,he⟩,hs⟩:=st;have hb':b=e\/b=it:=by simpa using hb
  rcases hb' with rfl|rfl
  ·exact⟨_,he,λv q=>by cases q⟩
  ·exact hs.there
 keep:=λi h h' st kk=>by obtain⟨⟨old,he⟩,hs⟩:=st;exact⟨⟨old,kk e (by simp) _ he⟩,hs.move λo q=>kk it (by simp) o q⟩
 item:=by
  intro X hP hw hK hc i pins s σ H E I hf st hg;subst hP hw hK;obtain⟨xs,x,q1,hx⟩:=hg;obtain⟨its,r1,p1,_⟩:=I.seqK q1;obtain⟨u,hu,ru⟩:=r1.get hx;obtain⟨⟨old,he⟩,hs⟩:=st;have hT:s.TypeIs (.ref e) "enumerate":=⟨_,he,rfl⟩
  unfold pyNext
  refine wB0 (wpAny_attempt (wpAny_callSpecial?_slot (name:=Str.ofString "__next__") hT F.slot_enumerate_next (wpAny_call_entry F.slot_enumerate_next hT F.entry_enumerate_next
   (yGK he hs p1 (x:=u) (by simpa using hu) hne λh' a1 a2 a3 a4=>wP0 ⟨_,rfl,?_⟩) (F.args_enumerate_next_1 _))))
  refine wpAny_letOwnedTupleGo_enum a1 λh2 z2 sb2=>?_;have hpn:H s.heap.objs.size=none:=I.hok.fresh (le_refl _)
  have I0:Inv X pins σ (upd H s.heap.objs.size (.tup [.int (i:Nat),x])) {s with heap:=s.heap.push {cls:=.type "tuple",data:=.seq #[.int i s.toks,u]},toks:=s.toks+1}:=
   I.laid (t':=s.toks+1) (o:=.tup [.int (i:Nat),x]) (λb o e=>hP0 _ e) (le_refl _) ⟨by show 2<=sizeLine;decide,[.int i s.toks,u],.cons ⟨_,rfl⟩ (.cons ru .nil),⟨_,Heap.get?_push_size _ rfl,rfl,_,rfl⟩⟩
  have lt: ∀b∈[e,it],b<s.heap.objs.size:=λb hb=>by
   have hb':b=e\/b=it:=by simpa using hb
   rcases hb' with rfl|rfl
   ·exact Heap.lt_size he
   ·obtain⟨o,eo,_⟩:=hs.there;exact Heap.lt_size eo
  have fr: ∀b∈[e,it],upd H s.heap.objs.size (.tup [.int (i:Nat),x]) b=none:=λb hb=>by rw [zR (ne_of_lt (lt b hb))];exact(hf b hb).1
  have mv: ∀b o,b∉[e,it]->(s.heap.push {cls:=.type "tuple",data:=.seq #[.int i s.toks,u]}).get? b=some o->h2.get? b=some o:=λb o hb eo=>by
   simp only [mC,nM0,or_false,not_or]at hb;refine sb2.extBut _ _ hb.1 ?_;by_cases hbs:b=s.heap.objs.size
   ·subst hbs;rw [Heap.get?_push_size _ rfl]at eo;cases eo;exact a3
   ·rw [Heap.get?_push_ne _ _ _ hbs]at eo;exact a4 b o hb.1 hb.2 eo
  have I2:=I0.turnedL (h':=h2) (t':=s.toks+1) mv λb hb=>let ⟨_,c2,c3,c4,c5,c6⟩:=hf b hb;⟨fr b hb,c2,c3,c4,c5,c6⟩;refine⟨.ref s.heap.objs.size,_,I2,rfl,⟨s.heap.objs.size,x,hpn,rfl,rfl,λzs hz=>?_⟩,⟨⟨u,?_⟩,?_⟩,fr⟩
  ·rw [I.seqK_inj hz q1];exact hx
  ·simpa using z2
  ·exact a2.move λo eo=>sb2.extBut _ _ (Ne.symm hne) eo
 done:=by
  intro X hP hw hK hc i pins s σ H E I hf st hg;subst hP hw hK;obtain⟨xs,q1,hx⟩:=hg;obtain⟨its,r1,p1,_⟩:=I.seqK q1;obtain⟨⟨old,he⟩,hs⟩:=st;have hT:s.TypeIs (.ref e) "enumerate":=⟨_,he,rfl⟩
  have e1:=r1.length;unfold pyNext;refine wB0 (wpAny_attempt (wpAny_callSpecial?_slot (name:=Str.ofString "__next__") hT F.slot_enumerate_next (wpAny_call_entry F.slot_enumerate_next hT F.entry_enumerate_next ?_ (F.args_enumerate_next_1 _))));show wpAny _ _ (field (.ref e) 2 >>= _) _ _ _;refine wB0 (wpAny_field he rfl (x:=.ref it) rfl ?_);refine wB0 (yGI (I.ok.hd hc) hs p1 (by simp;omega) λh' x hk hx'=>?_);obtain⟨o,ho,hcl⟩:=hx';refine wB0 (wpAny_isInstance (T:="StopIteration") (b:=true) ⟨o,ho,hcl⟩ isSubtype_stop (wP0 ⟨rfl,?_⟩));refine I.turnedL (h':=h') (t':=s.toks) (λb o hb eo=>?_) hf;simp only [mC,nM0,or_false,not_or]at hb;exact hk b o hb.2 eo
 self:=λ_ _ _ _ _ st h=>let ⟨⟨_,he⟩,_⟩:=st;wpAny_pyIter_enum he h
def iEnum(K:Be)(ta:TA):TI:=λσ H R=>ta σ H λvs H1=> ∃k l,vs=[.ref l]/\(∃xs,SqK k K H1 l xs)/\R (Ite K k l) H1
section
variable{X:Cx}{W:XW}{a:Expr}{elts:Bd}{kt:Nat}{pt p pos:Pos}{ta:TA}{af:Rho->Sto->R (List Er)}
def yGY(hg:Gl X "enumerate")(hm:X.mg "enumerate"=none)(ha:PA X [a] ta)(hs:starEach [a] X.env=[(false,eval a X.env)]:=by rfl):
  PI X (.Tuple elts kt pt) (.Call (.Name "enumerate" p) [a] [] pos) (iEnum X.K ta):=by
 intro pins s σ H R I h;refine Call_ (zNT I hg hm yGJ (PyProof.Rows.callWith_type1 (thn (ha pos pins s σ H _ I h) λus s1 ⟨vs,H1,I1,r1,q1⟩=>?_) (by rw [hs];rfl) (by rfl)));obtain⟨k,l,rfl,⟨xs,c1⟩,q⟩:=q1
 cases r1 with
 |cons r rr=>
  cases rr;cases r;obtain⟨its,v1,p1,_⟩:=I1.seqK c1;refine zYS p1 λh' st hk=>let ⟨⟨_,he⟩,_⟩:=id st;wpAny_pyIter_enum he ?_;have I2:Inv X pins σ H1 {s1 with heap:=h'}:=I1.kept (t':=s1.toks) hk;refine⟨_,_,_,_,H1,rfl,I2,zYT (ne_of_gt (lt_succ_self _)),st,λb hb=>?_,q⟩
  have hle:s1.heap.objs.size<=b:=by
   have hb':b=s1.heap.objs.size+1\/b=s1.heap.objs.size:=by simpa using hb
   rcases hb' with h|h<;>rw [h]<;>(first |exact le_refl _|exact Nat.le_add_right _ _)
  exact I1.fpOk hle (I1.hok.fresh hle)
def zRD(xs:Bh):List MV:=xs.zipIdx.map λp=>.tup [.int (p.2:Nat),p.1]
def itE(rs:List Er)(S:Sto):R Wk:=match rs with
 |[p]=>match srcOf S p with
  |some a=>.ok ⟨zRD a.ds,a.gs⟩ S
  |none=>.no
 |_=>.no
def yGZ(hg:Gl X "enumerate")(hm:X.mg "enumerate"=none)(ha:PAm X W [a] af)(hs:starEach [a] X.env=[(false,eval a X.env)]:=by rfl):
  PIm X W (.Tuple elts kt pt) (.Call (.Name "enumerate" p) [a] [] pos) (λρ S=>(af ρ S).bind itE):=by
 obtain⟨t,ha,k⟩:=ha;refine⟨_,yGY hg hm ha hs,λα ρ S σ H Rc wd sl q=>k α ρ S σ H _ wd sl (q.bind λvs rs S1 α1 H1 e x1 w1 d1 q1=>?_)⟩
 replace q1:=q1.shift x1
 unfold itE at q1;split at q1
 ·rename_i r1;split at q1
  ·rename_i s1 e1;obtain⟨u,rfl,du⟩:=zVO d1;obtain⟨l1,P1,rfl,p1,D1⟩:=yBP w1 e1 du;have g1:=D1.get _ _ _ p1;have hlen:(zRD s1.ds).length=s1.ds.length:=by unfold zRD;rw [lM,List.length_zipIdx]
   refine⟨s1.k,l1,rfl,⟨_,g1.choose_spec.1⟩,q1.here (u:=Ite X.K s1.k l1) w1 ⟨λα S H=>P1 α S H,?_,p1,?_,?_⟩⟩
   ·intro i α2 S2 H2 b1 w2;obtain⟨us,c1,c2⟩:=D1.get _ _ _ b1;have hl:=c2.length;refine⟨λhi=>?_,λhi=>?_⟩
    ·have hi:i<(zRD s1.ds).length:=hi;have h1:i<us.length:=by omega
     refine⟨⟨us,us[i],c1,gE0 h1⟩,?_⟩;rintro x H' ⟨pp,xx,hp,rfl,rfl,hx⟩;obtain⟨d,hd,dd⟩:=c2.get (hx us c1);have xn:=w2.newx (o:=.tup [.int (i:Nat),xx]) hp;have wn:=w2.new (o:=.tup [.int (i:Nat),xx]) hp;refine⟨xn,wn,D1.stays _ _ _ _ _ _ b1 xn wn (D1.st _ _ _ b1),.tup [.int (i:Nat),d],?_,?_⟩
     ·unfold zRD;rw [getElem?_map,List.getElem?_zipIdx,hd];simp
     ·exact zAW (.of yK) (zX (xC _) (zX (dd.ext xn) yC))
    ·have hi:(zRD s1.ds).length<=i:=hi;exact⟨us,c1,by omega⟩
   ·intro α1 S1 H1 α2 S2 H2 b1 x w hs;exact D1.stays _ _ _ _ _ _ b1 x w hs
   ·exact D1.st _ _ _ p1
  ·exact q1.elim
 ·exact q1.elim
end
instance:DecidableEq MV:=λ_ _=>Classical.propDecidable _
def look(kvs:Ca)(k:MV):Option MV:=(kvs.find? λp=>decide (p.1=k)).map (·.2)
def putK(kvs:Ca)(k d:MV):List (MV×MV):=if(look kvs k).isSome=true then kvs.map (λp=>if p.1=k then(p.1,d)else p)else kvs++[(k,d)]
section
variable{X:Cx}{pins:Ba}{σ:St}{H:Hp}{s:Shared}{α:Ah}
def zMS(p:MV×MV)(kvs:Ca)(k:MV):look (p::kvs) k=if p.1=k then some p.2 else look kvs k:=by
 unfold look;rw [find?_cons];by_cases h:p.1=k
 ·rw [dT0 h,iP h];rfl
 ·rw [dF0 h,iN h]
end
section
variable{X:Cx}{W:XW}{a b o i:Expr}{f g:AX}{pos:Pos}
def zUC{pins:Ba}{σ:St}{H:Hp}{s:Shared}(I:Inv X pins σ H s):sysModules<s.heap.objs.size:=lt_trans (by decide) ((I.mod.glob.keeps I.bk).lt)
def Wd.put{gg:Gm}{α:Ah}{S:Sto}{H:Hp}{p:Addr}{ho:HO}{m:MO}(w:Wd gg α S H)(hp:H p=none)(q:ObD gg (α++[p]) (upd H p ho) p m):Ext α H (α++[p]) (upd H p ho)/\Wd gg (α++[p]) (S++[m]) (upd H p ho):=by
 have x:=w.newx (o:=ho) hp;have nw:=w.new (o:=ho) hp;have np:=w.fresh hp;refine⟨⟨⟨⟨[p],rfl⟩,x.tup,x.frz⟩,λb hb=>?_,x.keep,x.has⟩,⟨?_,?_,λl c ob h1 h2=>?_⟩⟩
 ·rcases mem_append.mp hb with h|h
  ·exact .inl h
  ·rw [mS.mp h];exact .inr hp
 ·rw [lA,lA,w.len];rfl
 ·exact nodup_append.mpr ⟨w.nd,by simp,λa ha c hc=>by rw [mS.mp hc];rintro rfl;exact np ha⟩
 ·by_cases hl:l<α.length
  ·rw [getElem?_append_left hl]at h1;rw [getElem?_append_left (by rw [<-w.len];exact hl)]at h2;exact(nw.obj l c ob h1 h2).move (Ex0.grow α [p] _) rfl
  ·have hl':l=α.length:=by have:=(gS0.mp h1).1;rw [lA,lS]at this;omega
   subst hl';rw [getElem?_append_right (le_refl _),sub_self]at h1;rw [getElem?_append_right (by rw [w.len];exact le_refl _),w.len,sub_self]at h2;cases h1;cases h2;exact q
def zWC(S:Sto):R Er:=.ok (.val (.loc S.length)) (S++[.dic []])
def zRE:PEm X W (.Dict [] [] pos) (λ_ S=>zWC S):=by
 refine⟨λσ H Q=> ∀p,H p=none->Q (.ref p) (upd H p (.dK [])),λpins s σ H Q I h=>?_,λα ρ S σ H Q wd sl q p hp=>?_⟩
 ·exact wpAny_Dict_empty ⟨.ref s.heap.objs.size,_,I.laid (a:=s.heap.objs.size) (o:=.dK []) (t':=s.toks) (λ_ _ q=>hP0 _ q) (le_refl _)
   ⟨zero_le _,beq_eq_false_iff_ne.mpr (Ne.symm (ne_of_lt (zUC I))),[],.nil,Heap.DictOf.new s.heap⟩,rfl,h _ (I.hok.fresh (le_refl _))⟩
 ·obtain⟨x,w'⟩:=wd.put (ho:=.dK []) (m:=.dic []) hp (.inl ⟨[],yK,.nil⟩);exact q (.ref p) (α++[p]) _ x w' (DenE.val (zDY (by rw [<-wd.len,getElem?_append_right (le_refl _),sub_self];rfl)))
end
def FsD(g:Gm)(α:Ah)(H:Hp)(d:Option Addr)(fs:List (Str×MV)):Prop:=fs=[]\/ ∃dx gs od,d=some dx/\H dx=some (.frz od (.xd gs))/\DenF g.K α H fs gs
abbrev WE(g:Gm)(E:XK):XW:=λc fs _ α H=> ∀C d,g.mg c=some (.ref C)->FsD g α H d fs->E (.ref C) d H
def yMG:MV->Bool
 |.non=>true
 |.bl _=>true
 |.int _=>true
 |.str _=>true
 |_=>false
def Post.wmono{β τ:Type}[Dn β τ]{g:Gm}{W W':XW}{α:Ah}{H:Hp}(f: ∀c fs S α' H',W c fs S α' H'->W' c fs S α' H'): ∀{m:R β}{Q:τ->Hp->Prop},Post g W α H m Q->Post g W' α H m Q
 |.ok b S,Q,q=>q
 |.exc c fs S,_,q=>λα' H' x w=>f _ _ _ _ _ (q α' H' x w)
 |.no,_,q=>q
def XCl(K:Be)(C:Addr)(bm:Ae)(init:Option Value):Prop:=
 ∃nm q N bs hd sn sub ab col dd k0 k1 k2 k3 k5,K.lookup C=some (excClassObj nm q C N bs bm hd sn sub ab col dd k0 k1 k2 k3 k5 "ValueError.__new__")/\PySem.W.nsOkIn K N=true/\PySem.W.nsIn K N "__init__"=some init/\(∀n∈qn,PySem.W.nsIn K N n=some none)/\hd=true
def XEach(K:Be)(mg:Aj)(M:Addr):List (Str×Addr)->Prop
 |[]=>True
 |(c,C)::r=>(mg c=some (.ref C)/\ ∃i,XCl K C (.ref M::bmV) i)/\XEach K mg M r
theorem XEach.at{K:Be}{mg:Aj}{M:Addr}: ∀{cs:List (Str×Addr)},XEach K mg M cs-> ∀{c C},(c,C)∈cs->mg c=some (.ref C)/\ ∃i,XCl K C (.ref M::bmV) i
 |(c,C)::r,h,c',C',z=>by
  rcases mC.mp z with z|z
  ·cases z;exact h.1
  ·exact XEach.at h.2 z
def spX(g:Gm)(n:Nat)(F:List MV->Sto->R Er):Sp:=λvs H Q E=> ∃α S ds,Wd g α S H/\DenL g.K α H ds vs/\ds.length=n/\Post g (WE g E) α H (F ds S) Q
def zWD(n:Nat)(F:List MV->Sto->R Er)(rs:List Er)(S:Sto):R Er:=if rs.length=n then(match F (zQ rs S).1 (zQ rs S).2 with
 |.ok r S2=>bY S r S2
 |.exc c fs S2=>if fs.all (λp=>yMG p.2)=true then(bY S (.val .non) S2).bind λ_ S3=>.exc c fs S3 else .no
 |.no=>.no)else .no
section
variable{P:Program}{w:World}{K:Be}{mg:Aj}{base:Heap}
def _root_.L2.FnOk.noX{k n:Nat}{f:Addr}{fd:FuncData}{ps:Ai}{g:Gm}{F:List MV->Sto->R Er}(G:FnOk P w K mg base (CXe P w) k f fd ps (spX g n F)):FnOk P w K mg base CX0 k f fd ps (spM g n F):=by
 have up: ∀{vs H Q}, ∀{E},spM g n F vs H Q E->spX g n F vs H Q E0:=λ⟨α,S,ds,h1,h2,h3,h4⟩=>⟨α,S,ds,h1,h2,h3,h4.wmono λ_ _ _ _ _ z=>z.elim⟩
 refine⟨λvs H Q E h=>G.len vs H Q E0 (up h),λA outer s H args us vs Q E hr e0 hb hv h=>codeAny_mono (G.run A outer s H args us vs Q E0 hr e0 hb hv (up h)) λr s' hq=>?_⟩
 cases r with
 |error e=>
  obtain⟨_,_,_,_,_,_,_,_,_,_,_,_,_,_,_,z⟩:=hq;exact z
 |ok fl=>cases fl<;>exact hq
end
end M
end L2
namespace L2
open PySem PySem.Spec PyProof.Rows
structure Out(X:Cx)(pins:Ba)(H:Hp)(s:Shared)(b:Addr):Prop where
 s0:X.s₀.heap.get? b=none
 h:H b=none
 pin: ∀p∈X.pn++pins,p.1≠b
 fld: ∃o vs,s.heap.get? b=some o/\o.data=.fields vs
section
variable{X:Cx}{pins:Ba}{σ:St}{H:Hp}{s:Shared}{e T b:Addr}{h':Heap}
def Out.ne(o:Out X pins H s b){c:Addr}{oc:Obj}(hc:s.heap.get? c=some oc)(nf: ∀vs,oc.data≠.fields vs):c≠b:=λz=>by obtain⟨ob,vs,h1,h2⟩:=o.fld;rw [z,h1]at hc;cases hc;exact nf vs h2
def Out.loc(o:Out X pins H s b)(I:Inv X pins σ H s):X.env.locals≠b:=by obtain⟨m,⟨oL,es,ep,h1,h2,_⟩,_⟩:=I.loc;exact o.ne h1 λvs z=>by rw [h2]at z;cases z
end
end L2
namespace L2
namespace M
open PySem PySem.Spec PyProof.Rows
def endF(i:Nat):Fl->Sto->R Fl
 |.next ρ,S=>.ok (.next (ρ.set i none)) S
 |.ret r,S=>.ok (.ret r) S
 |.brk ρ,S=>.ok (.brk (ρ.set i none)) S
 |.cont ρ,S=>.ok (.cont (ρ.set i none)) S
def tryF(ns:Ai)(i:Nat)(kn:Er->Sto->R Fl)(Fh:AY)(ρ:Rho):R Er->R Fl
 |.ok r S=>kn r S
 |.exc c fs S=>if c∈ns then(noX (Fh (ρ.set i (some (.loc S.length))) (S++[.ins c fs]))).bind (endF i)else .no
 |.no=>.no
end M
end L2
namespace Srt
open PySem PyProof.Rows
def zWE:Bool->Keyed->Array Keyed->Nat->Nat->Nat->StateT SortSt Sem (Option Nat):=sortPriv% PySem.Builtin.gallop
def zLQ:Nat->StateT SortSt Sem Unit:=sortPriv% PySem.Builtin.setMinGallop
section
variable{M:Model}{A:Around}{E:VP}{s:Shared}{σ:Type}
def zRF{x:String}{Q:Unit->σ->Prop}{st:σ}(h:Q () st):wpS M A E s (liftM (rule x):StateT σ Sem Unit) Q st:=wpS_lift (wpAny_rule ⟨rfl,h⟩)
end
end Srt
set_option autoImplicit false
namespace Srt
variable{β:Type}{le:β->β->Prop}
structure Two(le:β->β->Prop)(T out xs ys:List β):Prop where
 hx:(out++xs).Pairwise le
 hy:(out++ys).Pairwise le
 pm:(out++(xs++ys)).Perm T
structure TwoR(le:β->β->Prop)(T xs ys R:List β):Prop where
 hx:(xs++R).Pairwise le
 hy:(ys++R).Pairwise le
 pm:(xs++ys++R).Perm T
end Srt
set_option autoImplicit false
namespace Srt
open PySem PyProof.Rows
abbrev SM:=StateT SortSt Sem
abbrev G3:=Option (Option Nat)×Nat×Nat
end Srt
set_option autoImplicit false
namespace Srt
open PySem PyProof.Rows
section
variable{M:Model}{A:Around}{E:VP}{s:Shared}
structure Cmp(M:Model)(A:Around)(E:VP)(s:Shared)(kd:SortKind)(D:Keyed->Prop)(lt:Keyed->Keyed->Bool):Prop where
 go: ∀x y,D x->D y-> ∀st:SortSt,kindOf st=kd-> ∀Q:Option Bool->SortSt->Prop,Q (some (lt x y)) st->wpS M A E s (lt' x y) Q st
 tr: ∀x y z,lt y x=false->lt z y=false->lt z x=false
 as: ∀x y,lt x y=true->lt y x=false
variable{kd:SortKind}{D:Keyed->Prop}{lt:Keyed->Keyed->Bool}
abbrev Le(lt:Keyed->Keyed->Bool)(x y:Keyed):Prop:=lt y x=false
def Cmp.rf(C:Cmp M A E s kd D lt)(x:Keyed):Le lt x x:=by
 show lt x x=false
 cases h:lt x x with
 |false=>rfl
 |true=>exact absurd h (by rw [C.as x x h];simp)
def SL(lt:Keyed->Keyed->Bool)(l:List Keyed)(b n:Nat):Prop:= ∀i j x y,i<=j->j<n->l[b+i]? =some x->l[b+j]? =some y->lt y x=false
def zWF{st:SortSt}{v:Array Keyed}{i:Nat}{Q:Keyed->SortSt->Prop}{x:Keyed}(e:v.toList[i]? =some x)(h:Q x st):wpS M A E s (elem' v i) Q st:=by
 rw [elem'_eq];have:v[i]? =some x:=by rw [<-Array.getElem?_toList];exact e
 rw [this];exact wpS_pure h
def yJF{v:Array Keyed}{i:Nat}(h:i<v.size): ∃x,v.toList[i]? =some x:=⟨v.toList[i]'(by simpa using h),gE0 _⟩
end
end Srt
set_option autoImplicit false
namespace Srt
open PySem PyProof.Rows
abbrev V:=Array Keyed
abbrev L6:=Option V×V×Nat×Nat×Nat×Nat
abbrev dnL(a b o:V)(i j:Nat):V:=o++a.extract i a.size++b.extract j b.size
abbrev laL(a b o:V)(i j:Nat):V:=o++b.extract j b.size++a.extract i a.size
def one1(a b:V)(g:Nat)(c:L6):SM (ForInStep L6):=
 elem' b c.2.2.2.1 >>= λy=>elem' a c.2.2.1 >>= λx=>lt' y x >>= λr=>match r with
  |some q=>if q=true then elem' b c.2.2.2.1 >>= λy=>
     if(c.2.2.2.1+1==b.size)=true then pure (.done (some (dnL a b (c.2.1.push y) c.2.2.1 (c.2.2.2.1+1)),c.2.1.push y,c.2.2.1,c.2.2.2.1+1,0,c.2.2.2.2.2+1))
     else if c.2.2.2.2.2+1>=g then pure (.done (none,c.2.1.push y,c.2.2.1,c.2.2.2.1+1,0,c.2.2.2.2.2+1))
     else pure (.yield (none,c.2.1.push y,c.2.2.1,c.2.2.2.1+1,0,c.2.2.2.2.2+1))
    else elem' a c.2.2.1 >>= λx=>
     if(c.2.2.1+1+1==a.size)=true then pure (.done (some (laL a b (c.2.1.push x) (c.2.2.1+1) c.2.2.2.1),c.2.1.push x,c.2.2.1+1,c.2.2.2.1,c.2.2.2.2.1+1,0))
     else if c.2.2.2.2.1+1>=g then pure (.done (none,c.2.1.push x,c.2.2.1+1,c.2.2.2.1,c.2.2.2.2.1+1,0))
     else pure (.yield (none,c.2.1.push x,c.2.2.1+1,c.2.2.2.1,c.2.2.2.2.1+1,0))
  |_=>pure (.done (some (dnL a b c.2.1 c.2.2.1 c.2.2.2.1),c.2.1,c.2.2.1,c.2.2.2.1,c.2.2.2.2.1,c.2.2.2.2.2))
def in1(a b:V)(t g:Nat)(c:L6):SM L6:=forIn [0:t] c λ_ c=>one1 a b g c
end Srt
set_option autoImplicit false
namespace Srt
open PySem PyProof.Rows
def Sg(st st':SortSt):Prop:= ∃g,st'=SortSt.mk' (kindOf st) (arrOf st) (pendingOf st) g (failedOf st)
theorem Sg.kind{st st':SortSt}(h:Sg st st'):kindOf st'=kindOf st:=by obtain⟨g,rfl⟩:=h;rfl
section
variable{M:Model}{A:Around}{E:VP}{s:Shared}{kd:SortKind}{D:Keyed->Prop}{lt:Keyed->Keyed->Bool}{a b:V}
abbrev TwoA(lt:Keyed->Keyed->Bool)(a b o:V)(i j:Nat):Prop:=Two (Le lt) (a.toList++b.toList) o.toList (a.toList.drop i) (b.toList.drop j)
def FinA(lt:Keyed->Keyed->Bool)(a b r:V):Prop:=r.toList.Pairwise (Le lt)/\r.toList.Perm (a.toList++b.toList)
def TwoA.sa{o:V}{i j:Nat}(h:TwoA lt a b o i j):(a.toList.drop i).Pairwise (Le lt):=(pairwise_append.mp h.hx).2.1
def TwoA.len{o:V}{i j:Nat}(h:TwoA lt a b o i j):o.size+((a.size - i)+(b.size - j))=a.size+b.size:=by have:=h.pm.length_eq;simpa [lA,length_drop]using this
def I1(lt:Keyed->Keyed->Bool)(a b o:V)(i j:Nat):Prop:=i+1<a.size/\j<b.size/\TwoA lt a b o i j
end
end Srt
set_option autoImplicit false
namespace Srt
open PySem PyProof.Rows
abbrev H5:=Option V×Nat×Nat×V×Nat
abbrev H6:=Option V×Nat×Nat×V×Nat×Nat
abbrev H7:=Option V×Nat×Nat×V×Nat×Nat×Nat
abbrev dnH(a b o:V)(i j:Nat):V:=a.extract 0 i++b.extract 0 j++o.reverse
abbrev fbH(a b o:V)(i j:Nat):V:=b.extract 0 j++a.extract 0 i++o.reverse
def hw4(a b o:V)(i j g p q:Nat):SM (ForInStep H7):=
 elem' a (i - 1) >>= λx=>if(i - 1==0)=true then pure (.done (some (dnH a b (o.push x) (i - 1) j),i - 1,j,o.push x,g,p,q))
  else if(decide (p<7)&&decide (q<7))=true then pure (.done (none,i - 1,j,o.push x,g,p,q))else pure (.yield (none,i - 1,j,o.push x,g,p,q))
def hw3(a b o:V)(i j g p q:Nat):SM (ForInStep H7):=
 elem' b (j - 1) >>= λy=>if(j - 1==1)=true then pure (.done (some (fbH a b (o.push y) i (j - 1)),i,j - 1,o.push y,g,p,q))
  else elem' a (i - 1) >>= λx=>zWE true x b 0 (j - 1) (j - 1 - 1) >>= λr=>match r with
   |some k=>if j - 1 - k>0 then
      if(k==1)=true then pure (.done (some (fbH a b (o.push y++(b.extract k (j - 1)).reverse) i k),i,k,o.push y++(b.extract k (j - 1)).reverse,g,p,j - 1 - k))
      else if(k==0)=true then pure (.done (some (dnH a b (o.push y++(b.extract k (j - 1)).reverse) i k),i,k,o.push y++(b.extract k (j - 1)).reverse,g,p,j - 1 - k))
      else hw4 a b (o.push y++(b.extract k (j - 1)).reverse) i k g p (j - 1 - k)
     else hw4 a b (o.push y) i (j - 1) g p (j - 1 - k)
   |_=>pure (.done (some (dnH a b (o.push y) i (j - 1)),i,j - 1,o.push y,g,p,q))
def hw2(a b o:V)(i j g p q:Nat):SM (ForInStep H7):=
 zLQ g >>= λ_=>elem' b (j - 1) >>= λy=>zWE false y a 0 i (i - 1) >>= λr=>match r with
  |some k=>if i - k>0 then
     if(k==0)=true then pure (.done (some (dnH a b (o++(a.extract k i).reverse) k j),k,j,o++(a.extract k i).reverse,g,i - k,q))
     else hw3 a b (o++(a.extract k i).reverse) k j g (i - k) q
    else hw3 a b o i j g (i - k) q
  |_=>pure (.done (some (dnH a b o i j),i,j,o,g,p,q))
section
variable{M:Model}{A:Around}{E:VP}{s:Shared}{kd:SortKind}{D:Keyed->Prop}{lt:Keyed->Keyed->Bool}{a b:V}
abbrev TwoH(lt:Keyed->Keyed->Bool)(a b o:V)(i j:Nat):Prop:=TwoR (Le lt) (a.toList++b.toList) (a.toList.take i) (b.toList.take j) o.toList.reverse
def TwoH.sa{o:V}{i j:Nat}(h:TwoH lt a b o i j):(a.toList.take i).Pairwise (Le lt):=(pairwise_append.mp h.hx).1
def TwoH.len{o:V}{i j:Nat}(h:TwoH lt a b o i j)(h1:i<=a.size)(h2:j<=b.size):o.size+(i+j)=a.size+b.size:=by have:=h.pm.length_eq;simp only [lA,lT,List.length_reverse,Array.length_toList]at this;omega
def J1(lt:Keyed->Keyed->Bool)(a b o:V)(i j:Nat):Prop:=1<=i/\i<=a.size/\2<=j/\j<=b.size/\TwoH lt a b o i j
def R6(lt:Keyed->Keyed->Bool)(a b:V)(n:Nat)(c:H6):Prop:= ∃i j o p q,c=(none,i,j,o,p,q)/\J1 lt a b o i j/\n<=o.size
def S6(lt:Keyed->Keyed->Bool)(a b:V)(n:Nat)(c:H6):Prop:=(∃r e,c=(some r,e)/\FinA lt a b r)\/R6 lt a b n c
end
end Srt
set_option autoImplicit false
namespace Srt
open PySem PyProof.Rows
abbrev C2:=Option (Option Nat)×Nat
abbrev C3:=Option (Option Nat)×Nat×Nat
def ascL(lo a n:Nat):SM C2:=forIn [a:n] ((none,a):C2) λ_ c=>ltAt' (lo+c.2) (lo+c.2 - 1) >>= λo=>match o with
 |some q=>if q=true then pure (.done (none,c.2))else pure (.yield (none,c.2+1))
 |_=>pure (.done (some none,c.2))
def tl3(lo m n:Nat):SM (Option Nat):=reverseSlice' lo (lo+m) >>= λ_=>ascL lo m n >>= λc=>match c.1 with
 |some r=>pure r
 |none=>pure (some c.2)
def dscL(lo a n:Nat):SM C3:=forIn [a:n] ((none,a,0):C3) λ_ c=>ltAt' (lo+c.2.1) (lo+c.2.1 - 1) >>= λo=>match o with
 |some q=>if q=true then
    if c.2.2>0 then reverseSlice' (lo+c.2.1 - (c.2.2+1)) (lo+c.2.1) >>= λ_=>pure (.yield (none,c.2.1+1,0))else pure (.yield (none,c.2.1+1,0))
   else ltAt' (lo+c.2.1 - 1) (lo+c.2.1) >>= λo=>match o with
    |some q=>if q=true then pure (.done (none,c.2.1,c.2.2))else pure (.yield (none,c.2.1+1,c.2.2+1))
    |_=>pure (.done (some none,c.2.1,c.2.2))
 |_=>pure (.done (some none,c.2.1,c.2.2))
def dscP(lo m n:Nat):SM (Option Nat):=liftM (rule "list.sort.descending-run") >>= λ_=>dscL lo (m+1) n >>= λc=>match c.1 with
 |some r=>pure r
 |none=>if c.2.2>0 then reverseSlice' (lo+c.2.1 - (c.2.2+1)) (lo+c.2.1) >>= λ_=>tl3 lo c.2.1 n else tl3 lo c.2.1 n
def cntR(lo n:Nat):SM (Option Nat):=ascL lo 1 n >>= λc=>match c.1 with
 |some r=>pure r
 |none=>if(c.2==n)=true then pure (some c.2)else if c.2>1 then ltAt' lo (lo+c.2 - 1) >>= λo=>(match o with
    |some q=>if q=true then pure (some c.2)else reverseSlice' lo (lo+c.2) >>= λ_=>dscP lo c.2 n
    |_=>pure none)
   else dscP lo c.2 n
theorem zLR(lo n:Nat):countRun' lo n=cntR lo n:=by kernel_rfl
def binI(lo k:Nat):SM (Option Bool×Nat×Nat):=forIn [0:k] ((none,0,k):Option Bool×Nat×Nat) λ_ c=>
 if c.2.1>=c.2.2 then pure (.done (none,c.2.1,c.2.2))else ltAt' (lo+k) (lo+(c.2.1+c.2.2) / 2) >>= λo=>match o with
  |some q=>if q=true then pure (.yield (none,c.2.1,(c.2.1+c.2.2) / 2))else pure (.yield (none,(c.2.1+c.2.2) / 2+1,c.2.2))
  |_=>pure (.done (some false,c.2.1,c.2.2))
def binS(lo n ok:Nat):SM Bool:=(forIn [max ok 1:n] ((none,()):Option Bool×Unit) λk _=>binI lo k >>= λc=>match c.1 with
  |some r=>pure (.done (some r,()))
  |none=>moveDown' (lo+k) (lo+c.2.1) >>= λ_=>pure (.yield (none,()))) >>= λc=>match c.1 with
 |some r=>pure r
 |none=>pure true
theorem zIL(lo n ok:Nat):binarySort' lo n ok=binS lo n ok:=by kernel_rfl
def Kx(d:Keyed)(v:V)(i:Nat):Keyed:=(v[i]?).getD d
def zCV{d:Keyed}{v u:V}{i j:Nat}(h:v[i]? =u[j]?):Kx d v i=Kx d u j:=by unfold Kx;rw [h]
def zGU{d:Keyed}{v:V}{i j:Nat}(hj:j<=v.size)(k:Nat):Kx d (mirror v i j ((j - i) / 2)) k=if i<=k/\k<j then Kx d v (i+j - 1 - k)else Kx d v k:=by
 have e:=getElem?_mirror_all (i:=i) hj k;by_cases h1:i<=k/\k<j
 ·rw [iP h1]at e ⊢; exact zCV e
 ·rw [iN h1]at e ⊢; exact zCV e
def zMT{d:Keyed}{v:V}{src m:Nat}(hs:src<v.size)(hm:m<=src)(k:Nat):
  Kx d (bubble v src m) k=if k=src - m then Kx d v src else if src - m<k/\k<=src then Kx d v (k - 1)else Kx d v k:=by
 have e:=getElem?_bubble hs m hm k;by_cases h1:k=src - m
 ·rw [iP h1]at e ⊢; exact zCV e
 ·rw [iN h1]at e ⊢;by_cases h2:src - m<k/\k<=src
  ·rw [iP h2]at e ⊢; exact zCV e
  ·rw [iN h2]at e ⊢; exact zCV e
structure SB(a₀:V)(kd:SortKind)(pd:Array (Nat×Nat×Nat))(f:V)(lo:Nat)(st:SortSt):Prop where
 pm:(arrOf st).Perm a₀
 kind:kindOf st=kd
 fl:failedOf st=none
 pd:pendingOf st=pd
 fx: ∀i,i<lo->(arrOf st)[i]? =f[i]?
section
variable{M:Model}{A:Around}{E:VP}{s:Shared}{kd:SortKind}{D:Keyed->Prop}{lt:Keyed->Keyed->Bool}{a₀ f:V}{pd:Array (Nat×Nat×Nat)}{lo:Nat}{st:SortSt}{d:Keyed}
def SB.size(h:SB a₀ kd pd f lo st):(arrOf st).size=a₀.size:=h.pm.size_eq
def SB.rev(h:SB a₀ kd pd f lo st){i j:Nat}(hi:lo<=i)(hj:j<=a₀.size):SB a₀ kd pd f lo (setArr st (mirror (arrOf st) i j ((j - i) / 2))):=
 ⟨(mirror_perm _ _ _ _).trans h.pm,h.kind,h.fl,h.pd,λk hk=>by show(mirror (arrOf st) i j ((j - i) / 2))[k]? =_;rw [getElem?_mirror_all (by rw [h.size];exact hj),iN (by omega)];exact h.fx k hk⟩
def SB.bub(h:SB a₀ kd pd f lo st){i m:Nat}(hi:lo+m<=i)(hj:i<a₀.size):SB a₀ kd pd f lo (setArr st (bubble (arrOf st) i m)):=
 ⟨(bubble_perm _ _ _).trans h.pm,h.kind,h.fl,h.pd,λk hk=>by show(bubble (arrOf st) i m)[k]? =_;rw [getElem?_bubble (by rw [h.size];exact hj) _ (by omega),iN (by omega),iN (by omega)];exact h.fx k hk⟩
def zFM(C:Cmp M A E s kd D lt)(h:SB a₀ kd pd f lo st)(hD: ∀x,x∈a₀.toList->D x){i j:Nat}(hi:i<a₀.size)(hj:j<a₀.size){Q:Option Bool->SortSt->Prop}
  (hq:Q (some (lt (Kx d (arrOf st) i) (Kx d (arrOf st) j))) st):wpS M A E s (ltAt' i j) Q st:=by
 obtain⟨x,ex⟩:=yJF (v:=arrOf st) (i:=i) (by rw [h.size];exact hi);obtain⟨y,ey⟩:=yJF (v:=arrOf st) (i:=j) (by rw [h.size];exact hj);have mx:x∈a₀.toList:=(Array.perm_iff_toList_perm.mp h.pm).mem_iff.mp (mem_of_getElem? ex);have my:y∈a₀.toList:=(Array.perm_iff_toList_perm.mp h.pm).mem_iff.mp (mem_of_getElem? ey);have e1:Kx d (arrOf st) i=x:=by unfold Kx;rw [<-Array.getElem?_toList,ex];rfl
 have e2:Kx d (arrOf st) j=y:=by unfold Kx;rw [<-Array.getElem?_toList,ey];rfl
 rw [e1,e2]at hq;rw [ltAt'_eq];refine wpS_bind (wpS_get ?_);exact wpS_bind (zWF ex (wpS_bind (zWF ey (C.go x y (hD x mx) (hD y my) st h.kind _ hq))))
def zOQ{i j:Nat}{Q:Unit->SortSt->Prop}(h:Q () (setArr st (mirror (arrOf st) i j ((j - i) / 2)))):wpS M A E s (reverseSlice' i j) Q st:=by rw [reverseSlice'_eq];exact wpS_modify h
def Up(lt:Keyed->Keyed->Bool)(d:Keyed)(v:V)(lo n:Nat):Prop:= ∀i j,i<=j->j<n->Le lt (Kx d v (lo+i)) (Kx d v (lo+j))
def Dn(lt:Keyed->Keyed->Bool)(d:Keyed)(v:V)(lo n:Nat):Prop:= ∀i j,i<=j->j<n->Le lt (Kx d v (lo+j)) (Kx d v (lo+i))
def Up.step(C:Cmp M A E s kd D lt){v:V}{x:Nat}(hs:Up lt d v lo x)(hx:1<=x)(hl:lt (Kx d v (lo+x)) (Kx d v (lo+x - 1))=false):Up lt d v lo (x+1):=by
 intro i j hij hj;by_cases hjx:j<x
 ·exact hs i j hij hjx
 ·have hj':j=x:=by omega
  subst hj';by_cases hi':i=j
  ·subst hi';exact C.rf _
  ·have:=hs i (j - 1) (by omega) (by omega);rw [show lo+(j - 1)=lo+j - 1 by omega]at this;exact C.tr _ _ _ this hl
def zWG(C:Cmp M A E s kd D lt)(hD: ∀x,x∈a₀.toList->D x)(h:SB a₀ kd pd f lo st){a n:Nat}(hn:lo+n<=a₀.size)(ha:1<=a)(han:a<=n)(hs:Up lt d (arrOf st) lo a){Q:C2->SortSt->Prop}
  (hq: ∀m,a<=m->m<=n->Up lt d (arrOf st) lo m->(m=n\/lt (Kx d (arrOf st) (lo+m)) (Kx d (arrOf st) (lo+m - 1))=true)->Q (none,m) st):wpS M A E s (ascL lo a n) Q st:=by
 unfold ascL;refine wpS_forRange (I:=λx c st'=>st'=st/\c=(none,x)/\Up lt d (arrOf st) lo x) ?_ ?_ ⟨rfl,rfl,hs⟩
 ·rintro x c st' hax hxn ⟨rfl,rfl,hs'⟩;dsimp only;refine wpS_bind (zFM (d:=d) C h hD (by omega) (by omega) ?_)
  cases hl:lt (Kx d (arrOf st') (lo+x)) (Kx d (arrOf st') (lo+x - 1))with
  |true=>exact wpS_pure (hq x hax (by omega) hs' (.inr hl))
  |false=>exact wpS_pure ⟨rfl,rfl,hs'.step C (by omega) hl⟩
 ·rintro c st' ⟨rfl,rfl,hs'⟩;rw [show max a n=n by omega]at hs' ⊢;exact hq n han (le_refl _) hs' (.inl rfl)
def Up.of_mirror(h:SB a₀ kd pd f lo st){m:Nat}(hm:lo+m<=a₀.size)(hs:Dn lt d (arrOf st) lo m):Up lt d (mirror (arrOf st) lo (lo+m) ((lo+m - lo) / 2)) lo m:=by intro i j hij hj;rw [zGU (by rw [h.size];exact hm),zGU (by rw [h.size];exact hm),iP (by omega),iP (by omega)];have:=hs (m - 1 - j) (m - 1 - i) (by omega) (by omega);rw [show lo+(m - 1 - j)=lo+(lo+m) - 1 - (lo+j) by omega,show lo+(m - 1 - i)=lo+(lo+m) - 1 - (lo+i) by omega]at this;exact this
def yBY(C:Cmp M A E s kd D lt)(hD: ∀x,x∈a₀.toList->D x)(h:SB a₀ kd pd f lo st){m n:Nat}(hn:lo+n<=a₀.size)(h1:1<=m)(hm:m<=n)(hs:Dn lt d (arrOf st) lo m){Q:Option Nat->SortSt->Prop}
  (hq: ∀m st',SB a₀ kd pd f lo st'->1<=m->m<=n->Up lt d (arrOf st') lo m->Q (some m) st'):wpS M A E s (tl3 lo m n) Q st:=by
 unfold tl3;refine wpS_bind (zOQ ?_);have h':=h.rev (i:=lo) (j:=lo+m) (le_refl _) (by omega);exact wpS_bind (zWG C hD h' hn h1 hm (Up.of_mirror h (by omega) hs) λk k1 k2 k3 _=>wpS_pure (hq k _ h' (by omega) k2 k3))
def Eqs(lt:Keyed->Keyed->Bool)(d:Keyed)(v:V)(i j:Nat):Prop:= ∀k l,i<=k->k<j->i<=l->l<j->Le lt (Kx d v k) (Kx d v l)
def Dn.mirror(C:Cmp M A E s kd D lt)(h:SB a₀ kd pd f lo st){i j n:Nat}(hj:j<=a₀.size)(he:Eqs lt d (arrOf st) i j)(hs:Dn lt d (arrOf st) lo n):Dn lt d (mirror (arrOf st) i j ((j - i) / 2)) lo n:=by
 have key: ∀k,Le lt (Kx d (PyProof.Rows.mirror (arrOf st) i j ((j - i) / 2)) k) (Kx d (arrOf st) k)/\Le lt (Kx d (arrOf st) k) (Kx d (PyProof.Rows.mirror (arrOf st) i j ((j - i) / 2)) k):=by
  intro k;rw [zGU (by rw [h.size];exact hj)];split
  ·exact⟨he _ _ (by omega) (by omega) (by omega) (by omega),he _ _ (by omega) (by omega) (by omega) (by omega)⟩
  ·exact⟨C.rf _,C.rf _⟩
 intro p q hpq hq;exact C.tr _ _ _ (key _).1 (C.tr _ _ _ (hs p q hpq hq) (key _).2)
def yHA(C:Cmp M A E s kd D lt)(hD: ∀x,x∈a₀.toList->D x)(h:SB a₀ kd pd f lo st){a n:Nat}(hn:lo+n<=a₀.size)(h1:1<=a)(han:a<=n)(hs:Dn lt d (arrOf st) lo a){Q:C3->SortSt->Prop}
  (hq: ∀m e st',SB a₀ kd pd f lo st'->a<=m->m<=n->Dn lt d (arrOf st') lo m->e+1<=m->Eqs lt d (arrOf st') (lo+m - (e+1)) (lo+m)->Q (none,m,e) st'):wpS M A E s (dscL lo a n) Q st:=by
 unfold dscL
 refine wpS_forRange (I:=λx c st'=> ∃e,c=(none,x,e)/\SB a₀ kd pd f lo st'/\Dn lt d (arrOf st') lo x/\e+1<=x/\Eqs lt d (arrOf st') (lo+x - (e+1)) (lo+x)) ?_ ?_
  ⟨0,rfl,h,hs,by omega,λk l h1 h2 h3 h4=>by rw [show k=l by omega];exact C.rf _⟩
 ·rintro x c st' hax hxn ⟨e,rfl,hB,hs',hq',he⟩;dsimp only;have one: ∀v:V,Eqs lt d v (lo+(x+1) - (0+1)) (lo+(x+1)):=λv k l h1 h2 h3 h4=>by rw [show k=l by omega];exact C.rf _
  refine wpS_bind (zFM (d:=d) C hB hD (by omega) (by omega) ?_)
  cases hl:lt (Kx d (arrOf st') (lo+x)) (Kx d (arrOf st') (lo+x - 1))with
  |true=>
   have nx:Dn lt d (arrOf st') lo (x+1):=by
    intro i j hij hj;by_cases hjx:j<x
    ·exact hs' i j hij hjx
    ·have hj':j=x:=by omega
     subst hj';by_cases hi':i=j
     ·subst hi';exact C.rf _
     ·have:=hs' i (j - 1) (by omega) (by omega);rw [show lo+(j - 1)=lo+j - 1 by omega]at this;exact C.tr _ _ _ (C.as _ _ hl) this
   dsimp only;rw [iP rfl];by_cases ce:e>0
   ·rw [iP ce];refine wpS_bind (zOQ (wpS_pure ⟨0,rfl,hB.rev (by omega) (by omega),nx.mirror C hB (by omega) he,by omega,one _⟩))
   ·rw [iN ce];exact wpS_pure ⟨0,rfl,hB,nx,by omega,one _⟩
  |false=>
   dsimp only;rw [iN (by simp)];refine wpS_bind (zFM (d:=d) C hB hD (by omega) (by omega) ?_)
   cases hr:lt (Kx d (arrOf st') (lo+x - 1)) (Kx d (arrOf st') (lo+x))with
   |true=>exact wpS_pure (hq x e st' hB hax (by omega) hs' hq' he)
   |false=>
    refine wpS_pure ⟨e+1,rfl,hB,λi j hij hj=>?_,by omega,λk l k1 k2 k3 k4=>?_⟩
    ·by_cases hjx:j<x
     ·exact hs' i j hij hjx
     ·have hj':j=x:=by omega
      subst hj';by_cases hi':i=j
      ·subst hi';exact C.rf _
      ·have:=hs' i (j - 1) (by omega) (by omega);rw [show lo+(j - 1)=lo+j - 1 by omega]at this;exact C.tr _ _ _ hr this
    ·by_cases ck:k=lo+x
     ·subst ck;by_cases cl:l=lo+x
      ·subst cl;exact C.rf _
      ·exact C.tr _ _ _ hr (he _ _ (by omega) (by omega) (by omega) (by omega))
     ·by_cases cl:l=lo+x
      ·subst cl;exact C.tr _ _ _ (he k (lo+x - 1) (by omega) (by omega) (by omega) (by omega)) hl
      ·exact he _ _ (by omega) (by omega) (by omega) (by omega)
 ·rintro c st' ⟨e,rfl,hB,hs',hq',he⟩;rw [show max a n=n by omega]at hs' hq' he ⊢;exact hq n e st' hB han (le_refl _) hs' hq' he
def zWH(C:Cmp M A E s kd D lt)(hD: ∀x,x∈a₀.toList->D x)(h:SB a₀ kd pd f lo st){m n:Nat}(hn:lo+n<=a₀.size)(hm:m+1<=n)(hs:Dn lt d (arrOf st) lo (m+1)){Q:Option Nat->SortSt->Prop}
  (hq: ∀m st',SB a₀ kd pd f lo st'->1<=m->m<=n->Up lt d (arrOf st') lo m->Q (some m) st'):wpS M A E s (dscP lo m n) Q st:=by
 unfold dscP;refine wpS_bind (zRF ?_);refine wpS_bind (yHA C hD h hn (by omega) hm hs λk e st' hB k1 k2 k3 k4 k5=>?_);dsimp only;by_cases ce:e>0
 ·rw [iP ce];exact wpS_bind (zOQ (yBY C hD (hB.rev (by omega) (by omega)) hn (by omega) k2 (k3.mirror C hB (by omega) k5) hq))
 ·rw [iN ce];exact yBY C hD hB hn (by omega) k2 k3 hq
def yHB(C:Cmp M A E s kd D lt)(hD: ∀x,x∈a₀.toList->D x)(h:SB a₀ kd pd f lo st){n:Nat}(hn:lo+n<=a₀.size)(h1:1<=n){Q:Option Nat->SortSt->Prop}
  (hq: ∀m st',SB a₀ kd pd f lo st'->1<=m->m<=n->Up lt d (arrOf st') lo m->Q (some m) st'):wpS M A E s (countRun' lo n) Q st:=by
 rw [zLR];unfold cntR;refine wpS_bind (zWG (d:=d) C hD h hn (le_refl 1) h1 (λi j hij hj=>by rw [show i=j by omega];exact C.rf _) λm m1 m2 hs hor=>?_);dsimp only;by_cases cm:m=n
 ·rw [iP (by simpa using cm)];exact wpS_pure (hq m st h m1 m2 hs)
 ·rw [iN (by simpa using cm)];have hlt:=hor.resolve_left cm;by_cases cg:m>1
  ·rw [iP cg];refine wpS_bind (zFM (d:=d) C h hD (by omega) (by omega) ?_)
   cases hr:lt (Kx d (arrOf st) lo) (Kx d (arrOf st) (lo+m - 1))with
   |true=>exact wpS_pure (hq m st h m1 m2 hs)
   |false=>
    have all:Eqs lt d (arrOf st) lo (lo+m):=by intro k l k1 k2 k3 k4;have a1:=hs 0 (l - lo) (by omega) (by omega);have a2:=hs (k - lo) (m - 1) (by omega) (by omega);rw [show lo+0=lo by omega,show lo+(l - lo)=l by omega]at a1;rw [show lo+(k - lo)=k by omega,show lo+(m - 1)=lo+m - 1 by omega]at a2;exact C.tr _ _ _ a2 (C.tr _ _ _ hr a1)
    have dn:Dn lt d (arrOf st) lo (m+1):=by
     intro i j hij hj;by_cases hjm:j<m
     ·exact all _ _ (by omega) (by omega) (by omega) (by omega)
     ·have hj':j=m:=by omega
      subst hj';by_cases hi':i=j
      ·subst hi';exact C.rf _
      ·exact C.tr _ _ _ (C.as _ _ hlt) (all _ _ (by omega) (by omega) (by omega) (by omega))
    dsimp only;rw [iN (by simp)];exact wpS_bind (zOQ (zWH C hD (h.rev (le_refl _) (by omega)) hn (by omega) (dn.mirror C h (by omega) all) hq))
  ·rw [iN cg];have:m=1:=by omega
   subst this;refine zWH C hD h hn (by omega) (λi j hij hj=>?_) hq;by_cases hi':i=j
   ·subst hi';exact C.rf _
   ·rw [show i=0 by omega,show j=1 by omega];exact C.as _ _ hlt
def yHC(C:Cmp M A E s kd D lt)(hD: ∀x,x∈a₀.toList->D x)(h:SB a₀ kd pd f lo st){n ok:Nat}(hn:lo+n<=a₀.size)(hok:ok<=n)(hs:Up lt d (arrOf st) lo ok){Q:Bool->SortSt->Prop}
  (hq: ∀st',SB a₀ kd pd f lo st'->Up lt d (arrOf st') lo n->Q true st'):wpS M A E s (binarySort' lo n ok) Q st:=by
 rw [zIL];unfold binS
 refine wpS_bind (wpS_mono (wpS_forRange (I:=λk c st'=>c=(none,())/\SB a₀ kd pd f lo st'/\Up lt d (arrOf st') lo (min k n))
  (Q:=λc st'=>c=(none,())/\SB a₀ kd pd f lo st'/\Up lt d (arrOf st') lo n) ?_ ?_ ?_) ?_)
 ·rintro k c st' hak hkn ⟨rfl,hB,hs'⟩;rw [show min k n=k by omega]at hs';unfold binI
  refine wpS_bind (wpS_mono (wpS_forRange (I:=λx c st''=>st''=st'/\ ∃l r,c=(none,l,r)/\l<=r/\r<=k/\r - l<=k - x/\
    (∀i,i<l->Le lt (Kx d (arrOf st') (lo+i)) (Kx d (arrOf st') (lo+k)))/\(∀i,r<=i->i<k->Le lt (Kx d (arrOf st') (lo+k)) (Kx d (arrOf st') (lo+i))))
   (Q:=λc st''=>st''=st'/\ ∃l r,c=(none,l,r)/\l<=k/\
    (∀i,i<l->Le lt (Kx d (arrOf st') (lo+i)) (Kx d (arrOf st') (lo+k)))/\(∀i,l<=i->i<k->Le lt (Kx d (arrOf st') (lo+k)) (Kx d (arrOf st') (lo+i)))) ?_ ?_ ?_) ?_)
  ·rintro x c st'' _ hxk ⟨rfl,l,r,rfl,hlr,hrk,hm,hlo,hhi⟩;dsimp only;by_cases hge:l>=r
   ·rw [iP hge];have:l=r:=by omega
    subst this;exact wpS_pure ⟨rfl,l,l,rfl,hrk,hlo,hhi⟩
   ·rw [iN hge];refine wpS_bind (zFM (d:=d) C hB hD (by omega) (by omega) ?_)
    cases hl:lt (Kx d (arrOf st'') (lo+k)) (Kx d (arrOf st'') (lo+(l+r) / 2))with
    |true=>exact wpS_pure ⟨rfl,l,(l+r) / 2,rfl,by omega,by omega,by omega,hlo,λi h1 h2=>C.tr _ _ _ (C.as _ _ hl) (hs' _ _ h1 h2)⟩
    |false=>exact wpS_pure ⟨rfl,(l+r) / 2+1,r,rfl,by omega,by omega,by omega,λi h1=>C.tr _ _ _ (hs' i ((l+r) / 2) (by omega) (by omega)) hl,hhi⟩
  ·rintro c st'' ⟨rfl,l,r,rfl,hlr,hrk,hm,hlo,hhi⟩;have:l=r:=by omega
   subst this;exact⟨rfl,l,l,rfl,hrk,hlo,hhi⟩
  ·exact⟨rfl,0,k,rfl,by omega,by omega,by omega,λi hi=>by omega,λi h1 h2=>by omega⟩
  ·rintro c st'' ⟨rfl,l,r,rfl,hlk,hlo,hhi⟩;dsimp only;rw [moveDown'_eq];have hks:lo+k<(arrOf st'').size:=by rw [hB.size];omega
   refine wpS_bind (wpS_modify (wpS_pure ⟨rfl,?_,?_⟩))
   ·exact hB.bub (by omega) (by omega)
   ·rw [show min (k+1) n=k+1 by omega];intro i j hij hj;show Le lt (Kx d (bubble (arrOf st'') (lo+k) (lo+k - (lo+l))) (lo+i)) (Kx d (bubble (arrOf st'') (lo+k) (lo+k - (lo+l))) (lo+j));rw [zMT hks (by omega),zMT hks (by omega),show lo+k - (lo+k - (lo+l))=lo+l by omega];have sh: ∀i,1<=i->lo+i - 1=lo+(i - 1):=λi hi=>by omega
    repeat' split
    all_goals first
     |(exfalso;omega)
     |exact C.rf _
     |exact hlo _ (by omega)
     |(rw [sh _ (by omega)];exact hhi _ (by omega) (by omega))
     |exact hhi _ (by omega) (by omega)
     |exact hs' _ _ (by omega) (by omega)
     |(rw [sh i (by omega)];exact hs' _ _ (by omega) (by omega))
     |(rw [sh j (by omega)];exact hs' _ _ (by omega) (by omega))
     |(rw [sh i (by omega),sh j (by omega)];exact hs' _ _ (by omega) (by omega))
     |(rw [sh i (by omega)];exact hlo _ (by omega))
 ·rintro c st' ⟨hc,hB,hs'⟩;refine⟨hc,hB,?_⟩;rwa [show min (max (max ok 1) n) n=n by omega]at hs'
 ·refine⟨rfl,h,λi j hij hj=>?_⟩;by_cases h1:ok=0
  ·rw [show i=j by omega];exact C.rf _
  ·exact hs i j hij (by omega)
 ·rintro c st' ⟨rfl,hB,hs'⟩;exact wpS_pure (hq st' hB hs')
end
end Srt
set_option autoImplicit false
namespace Srt
open PySem PyProof.Rows
section
variable{M:Model}{A:Around}{E:VP}{s:Shared}{kd:SortKind}{D:Keyed->Prop}{lt:Keyed->Keyed->Bool}{a₀ f:V}{pd:Array (Nat×Nat×Nat)}{lo:Nat}{st:SortSt}{d:Keyed}
def Up.sl{v:V}{n:Nat}(h:Up lt d v lo n):SL lt v.toList lo n:=by
 intro i j x y h1 h2 hx hy;have e1:Kx d v (lo+i)=x:=by unfold Kx;rw [<-Array.getElem?_toList,hx];rfl
 have e2:Kx d v (lo+j)=y:=by unfold Kx;rw [<-Array.getElem?_toList,hy];rfl
 have:=h i j h1 h2;rw [e1,e2]at this;exact this
def SL.pw{l:List Keyed}{n:Nat}(h:SL lt l lo n):((l.drop lo).take n).Pairwise (Le lt):=by rw [List.pairwise_iff_getElem];intro i j hi hj hij;rw [lT,length_drop]at hi hj;rw [List.getElem_take,List.getElem_take,List.getElem_drop,List.getElem_drop];exact h i j _ _ (by omega) (by omega) (gE0 _) (gE0 _)
structure Out(a₀:V)(kd:SortKind)(lt:Keyed->Keyed->Bool)(n:Nat)(st:SortSt):Prop where
 pm:(arrOf st).toList.Perm a₀.toList
 kind:kindOf st=kd
 fl:failedOf st=none
 pd: ∃w,pendingOf st=#[(0,n,w)]
 so:(arrOf st).toList.Pairwise (Le lt)
end
end Srt
set_option autoImplicit false
namespace Srt
open PySem PyProof.Rows
abbrev U2:=Option Unit×Nat
abbrev U1:=Option Unit×Unit
def psh(lo n:Nat):SM (ForInStep U2):=(modify λs=>setPending s ((pendingOf s).push (lo,n,0))) >>= λ_=>pure (.yield (none,lo+n))
def nxt(N lo n:Nat):SM (ForInStep U2):=get >>= λst=>match (pendingOf st).back? with
 |some (a,b,_)=>(forIn [0:N] ((none,()):U1) λ_ _=>get >>= λst=>(match (if(pendingOf st).size>1 then(pendingOf st)[(pendingOf st).size - 2]? else none)with
   |some (_,_,z)=>if z<=power' N (2 * a+b) (2 * a+b+b+n) N then pure (.done (none,()))else mergeAt' ((pendingOf st).size - 2) >>= λq=>if(!q)=true then pure (.done (some (),()))else pure (.yield (none,()))
   |_=>pure (.done (none,())))) >>= λc=>(match c.1 with
  |some r=>pure (.done (some r,lo))
  |none=>(modify λs=>setPending s ((pendingOf s).modify ((pendingOf s).size - 1) λ(u,v,_)=>(u,v,power' N (2 * a+b) (2 * a+b+b+n) N))) >>= λ_=>psh lo n)
 |_=>psh lo n
def runs(N r:Nat):SM U2:=forIn [0:N] ((none,0):U2) λ_ c=>if c.2>=N then pure (.done (none,c.2))else countRun' c.2 (N - c.2) >>= λo=>match o with
 |some m=>if m<r then liftM (rule "list.sort.binary-insertion") >>= λ_=>binarySort' c.2 (min (N - c.2) r) m >>= λq=>if(!q)=true then pure (.done (some (),c.2))else nxt N c.2 (min (N - c.2) r)
   else nxt N c.2 m
 |_=>pure (.done (some (),c.2))
def colp(N:Nat):SM U1:=forIn [0:N] ((none,()):U1) λ_ _=>get >>= λst=>if(pendingOf st).size<=1 then pure (.done (none,()))else
 mergeAt' (if Option.any (λx=>decide (x<((pendingOf st)[(pendingOf st).size - 2+1]?).elim 0 λx=>x.2.1)) (if(pendingOf st).size - 2>0 then Option.map (λx=>x.2.1) (pendingOf st)[(pendingOf st).size - 2 - 1]? else none)=true
  then(pendingOf st).size - 2 - 1 else(pendingOf st).size - 2) >>= λq=>if(!q)=true then pure (.done (some (),()))else pure (.yield (none,()))
def sRun:SM Unit:=get >>= λst=>runs (arrOf st).size (minRun' (arrOf st).size (arrOf st).size 0) >>= λc=>match c.1 with
 |some r=>pure r
 |none=>colp (arrOf st).size >>= λc=>match c.1 with
  |some r=>pure r
  |none=>pure ()
theorem zLS:sortRuns'=sRun:=by kernel_rfl
section
variable{M:Model}{A:Around}{E:VP}{s:Shared}{kd:SortKind}{D:Keyed->Prop}{lt:Keyed->Keyed->Bool}{a₀ f:V}{pd:Array (Nat×Nat×Nat)}{lo:Nat}{st:SortSt}{d:Keyed}
def SB.free{pd':Array (Nat×Nat×Nat)}(h:SB a₀ kd pd f lo st)(g:V):SB a₀ kd pd' g 0 (setPending st pd'):=⟨h.pm,h.kind,h.fl,rfl,λ_ hi=>by omega⟩
def yMH{lo n:Nat}{Q:ForInStep U2->SortSt->Prop}(h:Q (.yield (none,lo+n)) (setPending st ((pendingOf st).push (lo,n,0)))):wpS M A E s (psh lo n) Q st:=
 wpS_bind (wpS_modify (wpS_pure h))
def Dun(a₀:V)(lt:Keyed->Keyed->Bool)(st:SortSt):Prop:=(arrOf st).toList.Perm a₀.toList/\failedOf st=none/\(arrOf st).toList.Pairwise (Le lt)
end
end Srt
set_option autoImplicit false
namespace Srt
open PySem PyProof.Rows
section
variable{M:Model}{A:Around}{E:VP}{s:Shared}{kd:SortKind}{D:Keyed->Prop}{lt:Keyed->Keyed->Bool}{a₀ f:V}{pd:Array (Nat×Nat×Nat)}{lo:Nat}{st:SortSt}{d:Keyed}
def yBZ{N:Nat}(h2:2<=N)(h:N<64):minRun' N N 0=N:=by
 obtain⟨g,rfl⟩: ∃g,N=g+1:=⟨N - 1,by omega⟩
 rw [minRun'_succ,iP h]
def PhS(a₀:V)(kd:SortKind)(lt:Keyed->Keyed->Bool)(st:SortSt):Prop:=SB a₀ kd #[(0,a₀.size,0)] a₀ 0 st/\SL lt (arrOf st).toList 0 a₀.size
def yCA(C:Cmp M A E s kd D lt)(hD: ∀x,x∈a₀.toList->D x)(d:Keyed)(h2:2<=a₀.size)(h:SB a₀ kd #[] a₀ 0 st){Q:U2->SortSt->Prop}
  (hq: ∀st',PhS a₀ kd lt st'->Q (none,a₀.size) st'):wpS M A E s (runs a₀.size a₀.size) Q st:=by
 unfold runs;refine wpS_forRange (I:=λx c st'=>(x=0/\c=(none,0)/\SB a₀ kd #[] a₀ 0 st')\/(1<=x/\c=(none,a₀.size)/\PhS a₀ kd lt st')) ?_ ?_ (.inl ⟨rfl,rfl,h⟩)
 ·rintro x c st' _ hx (⟨rfl,rfl,hB⟩|⟨hx1,rfl,hC⟩)
  ·dsimp only;rw [iN (by omega)]
   have go: ∀st2,SB a₀ kd #[] a₀ 0 st2->Up lt d (arrOf st2) 0 a₀.size-> ∀R:ForInStep U2->SortSt->Prop,(∀st',PhS a₀ kd lt st'->R (.yield (none,a₀.size)) st')->wpS M A E s (nxt a₀.size 0 a₀.size) R st2:=by
    intro st2 hB2 hu R hR;unfold nxt;refine wpS_bind (wpS_get ?_);have hb:(pendingOf st2).back? =none:=by rw [hB2.pd];rfl
    rw [hb];dsimp only;refine yMH ?_;have e:(pendingOf st2).push (0,a₀.size,0)=#[(0,a₀.size,0)]:=by rw [hB2.pd];rfl
    rw [e,zero_add];exact hR _ ⟨hB2.free a₀,hu.sl⟩
   refine wpS_bind (yHB (d:=d) C hD hB (by omega) (by omega) λm st2 hB2 hm1 hm2 hu=>?_);dsimp only;by_cases cm:m<a₀.size
   ·rw [iP cm];refine wpS_bind (zRF ?_);rw [sub_zero,Nat.min_self];refine wpS_bind (yHC C hD hB2 (by omega) (by omega) hu λst3 hB3 hu3=>?_);rw [iN (by simp)];exact go st3 hB3 hu3 _ λ_ q=>.inr ⟨by omega,rfl,q⟩
   ·rw [iN cm];obtain rfl:m=a₀.size:=by omega
    exact go st2 hB2 hu _ λ_ q=>.inr ⟨by omega,rfl,q⟩
  ·dsimp only;rw [iP (le_refl _)];exact wpS_pure (hq st' hC)
 ·rintro c st' (⟨hx,_⟩|⟨_,rfl,hC⟩)
  ·omega
  ·exact hq st' hC
def yCB(h2:2<=a₀.size)(h:PhS a₀ kd lt st){Q:U1->SortSt->Prop}(hq: ∀st',Dun a₀ lt st'->Q (none,()) st'):wpS M A E s (colp a₀.size) Q st:=by
 have hd:Dun a₀ lt st:=⟨Array.perm_iff_toList_perm.mp h.1.pm,h.1.fl,by have:=h.2.pw;rwa [drop_zero,take_of_length_le (by rw [Array.length_toList,h.1.size];omega)]at this⟩
 unfold colp;refine wpS_forRange (I:=λ_ c st'=>c=(none,())/\st'=st) ?_ ?_ ⟨rfl,rfl⟩
 ·rintro x c st' _ _ ⟨rfl,rfl⟩;refine wpS_bind (wpS_get ?_);rw [iP (by rw [h.1.pd];simp)];exact wpS_pure (hq _ hd)
 ·rintro c st' ⟨rfl,rfl⟩;exact hq _ hd
def zOR(C:Cmp M A E s kd D lt)(hD: ∀x,x∈(arrOf st).toList->D x)(d:Keyed)(h2:2<=(arrOf st).size)(h64:(arrOf st).size<64)(hk:kindOf st=kd)(hp:pendingOf st=#[])(hf:failedOf st=none)
  {Q:Unit->SortSt->Prop} (hq: ∀st',Dun (arrOf st) lt st'->Q () st'):wpS M A E s sortRuns' Q st:=by
 rw [zLS];unfold sRun;refine wpS_bind (wpS_get ?_);rw [yBZ h2 h64];refine wpS_bind (yCA C hD d h2 ⟨Array.Perm.refl _,hk,hf,hp,λ_ hi=>by omega⟩ λst1 hC=>?_);dsimp only;refine wpS_bind (yCB h2 hC λst2 hd=>?_);exact wpS_pure (hq st2 hd)
end
end Srt
set_option autoImplicit false
set_option autoImplicit false
namespace Srt
open PySem PyProof.Rows
abbrev Rn:=Nat×Nat×Nat
def RunsOk(lt:Keyed->Keyed->Bool)(l:List Keyed):Nat->List Rn->Nat->Prop
 |p,[],q=>p=q
 |p,r::rs,q=>r.1=p/\1<=r.2.1/\SL lt l p r.2.1/\RunsOk lt l (p+r.2.1) rs q
section
variable{lt:Keyed->Keyed->Bool}{l l':List Keyed}
theorem RunsOk.le: ∀{rs:List Rn}{p q:Nat},RunsOk lt l p rs q->p+rs.length<=q
 |[],p,q,h=>by cases h;exact le_refl _
 |r::rs,p,q,h=>by have:=RunsOk.le h.2.2.2;have:=h.2.1;rw [lC];omega
end
section
variable{M:Model}{A:Around}{E:VP}{s:Shared}{kd:SortKind}{D:Keyed->Prop}{lt:Keyed->Keyed->Bool}{a₀ f:V}{lo:Nat}{st:SortSt}{d:Keyed}
structure ST(a₀:V)(kd:SortKind)(lt:Keyed->Keyed->Bool)(rs:List Rn)(q:Nat)(st:SortSt):Prop where
 pm:(arrOf st).toList.Perm a₀.toList
 kind:kindOf st=kd
 fl:failedOf st=none
 pd:pendingOf st=rs.toArray
 ok:RunsOk lt (arrOf st).toList 0 rs q
 le:q<=a₀.size
def ST.size{rs:List Rn}{q:Nat}(h:ST a₀ kd lt rs q st):(arrOf st).size=a₀.size:=by have:=h.pm.length_eq;simpa using this
end
end Srt
set_option autoImplicit false
set_option autoImplicit false
namespace Srt
open PySem PyProof.Rows
section
variable{prog:Program}{w:World}{A:Around}{E:VP}{s:Shared}
def yHD{α β:Type}{f:α->Sem β}{g:α->β}{M:Model}(l:List α)(h: ∀x,x∈l->wpAny M A (f x) (λr s'=>s'=s/\r=g x) E s):wpAny M A (l.mapM f) (λr s'=>s'=s/\r=l.map g) E s:=by
 induction l with
 |nil=>rw [List.mapM_nil];exact wP0 ⟨rfl,rfl⟩
 |cons x l ih=>
  rw [List.mapM_cons];refine wB0 (wpAny_mono (h x mF0) (λr s' hr=>?_) λ_ _ e=>e);rw [hr.1,hr.2];refine wB0 (wpAny_mono (ih λy hy=>h y (mO _ hy)) (λr s' hr=>?_) λ_ _ e=>e);rw [hr.1,hr.2];exact wP0 ⟨rfl,rfl⟩
def zRG{α β:Type}{f:α->Sem β}{g:α->β}{M:Model}{l:List α}(h: ∀x,x∈l->wpAny M A (f x) (λr s'=>s'=s/\r=g x) E s):wpAny M A (l.toArray.mapM f) (λr s'=>s'=s/\r=(l.map g).toArray) E s:=by rw [List.mapM_toArray];show wpAny M A (List.toArray<$>l.mapM f) _ E s;rw [map_eq_pure_bind];refine wB0 (wpAny_mono (yHD l h) (λr s' hr=>?_) λ_ _ e=>e);obtain⟨rfl,rfl⟩:=hr;exact wP0 ⟨rfl,rfl⟩
def TupAt(h:Heap)(a:Addr)(its:Ae):Prop:= ∃o n,h.get? a=some o/\o.cls=.type "tuple"/\o.data=.seq its.toArray n
theorem zGV(v:Value):firstOfTuple' v=(do
  if(<-typeOf v) !=.type "tuple" then return none
  return (<-Builtin.List.listItems v)[0]?):=rfl
def yCC{M:Model}{a:Addr}{its:Ae}(h:TupAt s.heap a its):wpAny M A (firstOfTuple' (.ref a)) (λr s'=>s'=s/\r=its[0]?) E s:=by obtain⟨o,n,h1,h2,h3⟩:=h;rw [zGV];refine wB0 (wpAny_typeOf (T:="tuple") ⟨o,h1,h2⟩ ?_);rw [iN (by simp)];refine wB0 (listItems_at h1 h3 ?_);exact wP0 ⟨rfl,by simp⟩
end
end Srt
set_option autoImplicit false
namespace Srt
open PySem PyProof.Rows
inductive LexS(A:Around)(s:Shared):List Value->List Value->Bool->Prop
 |nn:LexS A s [] [] false
 |nc (x xs):LexS A s [] (x::xs) true
 |cn (y ys):LexS A s (y::ys) [] false
 |eq {y x ys xs k}:SeqAt.EqAt A s y x true->LexS A s ys xs k->LexS A s (y::ys) (x::xs) k
 |ne {y x ys xs k}:SeqAt.EqAt A s y x false->(∀(prog:Program)(w:World)(E Q:VP),Q (.bool k) s->wpAny (model prog w) A (richCompare .Lt y x) Q E s)->LexS A s (y::ys) (x::xs) k
section
variable{prog:Program}{w:World}{A:Around}{E:VP}{s:Shared}
theorem yMI(c:Bool)(x y:Value):keyLt' (tuples' c) x y=(Builtin.List.listItems x >>= λxs=>Builtin.List.listItems y >>= λys=>
  (forIn (xs.toList.zip ys.toList).zipIdx ((none,()):Option Bool×Unit) λz _=>eqBool z.1.1 z.1.2 >>= λe=>if(!e)=true then oneLt' (c&&z.2==0) z.1.1 z.1.2 >>= λr=>pure (.done (some r,()))else pure (.yield (none,()))) >>= λr=>
  match r.1 with
  |some r=>pure r
  |none=>pure (decide (xs.size<ys.size))):=by kernel_rfl
theorem yMJ(x y:Value):oneLt' false x y=richCompare .Lt x y >>= λv=>truthOfDropped v:=by rw [oneLt'_eq];rfl
def zUD{b:Bool}{Q:Bool->Shared->Prop}(h:Q b s):wpAny (model prog w) A (truthOfDropped (.bool b)) Q E s:=wpAny_truthy_bool h
def wp_lt{kd:SortKind}{x y:Keyed}{k:Bool}{st:SortSt}(hk:kindOf st=kd)(h: ∀(E:VP)(Q:Bool->Shared->Prop),Q k s->wpAny (model prog w) A (keyLt' kd x.1 y.1) Q E s){Q:Option Bool->SortSt->Prop}(hq:Q (some k) st):
  wpS (model prog w) A E s (lt' x y) Q st:=by
 rw [lt'_eq];refine wpS_bind (wpS_get ?_);rw [hk];refine wpS_bind (wpS_lift (wpAny_attempt (h _ _ ⟨rfl,?_⟩)));exact wpS_pure hq
end
end Srt
set_option autoImplicit false
set_option autoImplicit false
namespace Srt
open PySem PyProof.Rows
section
variable{prog:Program}{w:World}{A:Around}{E:VP}{s:Shared}
def yCD{m n:Nat}{k:Bool}(vs ws:Ae)(i:Nat)(hx:LexS A s vs ws k):1<=i->vs.length+n=ws.length+m->
   wpAny (model prog w) A (forIn ((vs.zip ws).zipIdx i) ((none,()):Option Bool×Unit) λz _=>eqBool z.1.1 z.1.2 >>= λe=>if(!e)=true then oneLt' (true&&z.2==0) z.1.1 z.1.2 >>= λr=>pure (.done (some r,()))else pure (.yield (none,())))
    (λr s'=>s'=s/\(r=(some k,())\/(r=(none,())/\k=decide (m<n)))) E s:=by
 induction hx generalizing i with
 |nn=>intro hi h;rw [zip_nil_left,zipIdx_nil,forIn_nil];exact wP0 ⟨rfl,.inr ⟨rfl,(dF0 (by simp at h;omega)).symm⟩⟩
 |nc x xs=>intro hi h;rw [zip_nil_left,zipIdx_nil,forIn_nil];exact wP0 ⟨rfl,.inr ⟨rfl,(dT0 (by simp at h;omega)).symm⟩⟩
 |cn y ys=>intro hi h;rw [List.zip_nil_right,zipIdx_nil,forIn_nil];exact wP0 ⟨rfl,.inr ⟨rfl,(dF0 (by simp at h;omega)).symm⟩⟩
 |eq he hr ih=>
  intro hi h;rw [zip_cons_cons,zipIdx_cons,forIn_cons];refine wB0 (wB0 (he prog w E _ ?_));rw [iN (by simp)];exact wP0 (ih (i+1) (by omega) (by simpa using(by simp at h;omega)))
 |ne he hr=>
  intro hi h;rw [zip_cons_cons,zipIdx_cons,forIn_cons];refine wB0 (wB0 (he prog w E _ ?_));rw [iP (by simp)];simp only [Bool.true_and];rw [show(i==0)=false by simp;omega,yMJ];refine wB0 (wB0 (hr prog w E _ (zUD ?_)));exact wP0 (wP0 ⟨rfl,.inl rfl⟩)
end
end Srt
set_option autoImplicit false
set_option autoImplicit false
namespace Srt
open PySem PyProof.Rows
section
variable{prog:Program}{w:World}{A:Around}{E:VP}{s:Shared}
def sort_plainS{a:Addr}{vs:Ae}{n0:Nat}{P:PySem.Fin->Shared->Prop}(ho:s.heap.get? a=some (seqObj "list" vs.toArray n0))(hl:vs.length<64)
  (hk: ∀s2:Shared,s2={s with heap:=((s.heap.update a (Obj.mapSeq λ_=>#[])).push (seqObj "tuple" vs.toArray 0)).push (seqObj "list" #[] 0)}-> ∃(kd:SortKind)(D:Keyed->Prop)(lt:Keyed->Keyed->Bool),
   (2<=vs.length->wpAny (model prog w) A (keyKind' vs.toArray) (λk s'=>s'=s2/\k=kd) E s2/\Cmp (model prog w) A E s2 kd D lt/\ ∀p,p∈vs.zip vs->D p)/\
   ∀out:List Keyed,out.Perm (vs.zip vs)->out.Pairwise (Le lt)->P (.done (.ret .none)) {s2 with heap:=s2.heap.update a (Obj.mapSeq λ_=>(out.map (·.2)).toArray)}):
  wpAny (model prog w) A (Builtin.«list.sort» ⟨[.ref a],[]⟩) P E s:=by
 unfold Builtin.«list.sort»;dsimp only;rw [iN (by simp),iN (by simp)];rw [forIn_nil];refine wB0 (wP0 ?_);have e1:List.lookup (Str.ofString "key") ([]:List (Str×Value))=none:=rfl;have e2:List.lookup (Str.ofString "reverse") ([]:List (Str×Value))=none:=rfl;rw [e1,e2];refine wB0 (wP0 ?_);have ha:a<s.heap.objs.size:=Heap.lt_size ho;refine wB0 (listItems_at ho rfl ?_);refine wB0 (listUpdate_at ho rfl ?_);obtain⟨q,hq⟩: ∃q,(s.heap.update a (Obj.mapSeq λ_=>#[])).get? a=some (seqObj "list" #[] q):=⟨_,get?_update_seq ho (λ_=>#[])⟩
 dsimp only;refine wB0 (seqEpoch_at hq rfl ?_);refine wB0 (wpAny_newTuple ?_);refine wB0 (wpAny_newList ?_);refine wpAny_holding ?_;rw [iN (by simp)];dsimp only;generalize hs2:({s with heap:=((s.heap.update a (Obj.mapSeq λ_=>#[])).push (seqObj "tuple" vs.toArray 0)).push (seqObj "list" #[] 0)}:Shared)=s2;have g1:s2.heap.get? a=some (seqObj "list" #[] q):=by rw [<-hs2];exact hP0 _ (hP0 _ hq)
 obtain⟨kd,D,lt,g4,g5⟩:=hk s2 hs2.symm;rw [iN (by simp)];refine wB0 (wP0 ?_);rw [iN (by simp)]
 have fin: ∀st:SortSt,failedOf st=none->(arrOf st).toList.Perm (vs.zip vs)->(arrOf st).toList.Pairwise (Le lt)->
   wpAny (model prog w) A (do
    let e <-seqEpoch a
    Builtin.List.listUpdate (.ref a) λ_=>(arrOf st).map (·.2)
    if(e !=q)=true then rule "list.sort.modified" >>= λ_=>raiseErrorWords "ValueError" "list modified during sort" >>= λ(_:Unit)=>ret .none else ret .none) P E s2:=by
  intro st hf hp hs;refine wB0 (seqEpoch_at g1 rfl ?_);have hlen:((arrOf st).map (·.2)).size<=sizeLine+1:=by rw [Array.size_map, <-Array.length_toList,hp.length_eq,length_zip];have:=sizeLine_eq;omega
  refine wB0 (listUpdate_at g1 rfl ?_ (hsz2:=hlen));rw [iN (by simp)];have e3:(arrOf st).map (·.2)=((arrOf st).toList.map (·.2)).toArray:=by rw [<-Array.toList_map]
  rw [e3];exact wP0 (g5 _ hp hs)
 by_cases h2':vs.toArray.size<2
 ·rw [iP h2',iP h2'];refine wB0 (wP0 ?_);rw [StateT.run_pure];refine wB0 (wP0 ?_);rw [iN (by simp)];have hz:(vs.zip vs).length<=1:=by rw [length_zip];simp at h2';omega
  refine fin (SortSt.mk' general' (vs.toArray.zip vs.toArray) #[] 7 none) rfl ?_ ?_
  ·show(vs.toArray.zip vs.toArray).toList.Perm _;simp
  ·show(vs.toArray.zip vs.toArray).toList.Pairwise _;have:(vs.toArray.zip vs.toArray).toList=vs.zip vs:=by simp
   rw [this]
   match vs.zip vs,hz with
   |[],_=>exact .nil
   |[x],_=>exact List.pairwise_singleton _ _
   |x::y::r,h=>simp at h
 ·rw [iN h2',iN h2'];obtain⟨k1,k2,k3⟩:=g4 (by simp at h2';omega);refine wB0 (wpAny_mono k1 (λk s' hk'=>?_) λ_ _ e=>e);obtain⟨rfl,rfl⟩:=hk';have za:(arrOf (SortSt.mk' k (vs.toArray.zip vs.toArray) #[] 7 none)).toList=vs.zip vs:=by show(vs.toArray.zip vs.toArray).toList=_;simp
  have zs:(arrOf (SortSt.mk' k (vs.toArray.zip vs.toArray) #[] 7 none)).size=vs.length:=by rw [<-Array.length_toList,za,length_zip,Nat.min_self]
  refine wB0 (wpAny_mono (zOR (st:=SortSt.mk' k (vs.toArray.zip vs.toArray) #[] 7 none) k2 (λp hp=>k3 p (by rw [za]at hp;exact hp)) (.none,.none) (by rw [zs];simp at h2';omega) (by rw [zs];exact hl) rfl rfl rfl
   (Q:=λ_ st'=>Dun (arrOf (SortSt.mk' k (vs.toArray.zip vs.toArray) #[] 7 none)) lt st') λst' h=>h) (λr s3 hr=>?_) λ_ _ e=>e)
  obtain⟨⟨⟩,st'⟩:=r;obtain⟨rfl,d1,d2,d3⟩:=hr;dsimp only;rw [iN (by simp)];have F:=fin st' d2 (by rw [<-za];exact d1) d3;have d4:failedOf st'=none:=d2;unfold failedOf at d4;rw [d4];exact F
end
end Srt
set_option autoImplicit false
namespace Srt
open PySem PyProof.Rows
section
variable{prog:Program}{w:World}{A:Around}{E:VP}{s:Shared}
def zRH{M:Model}{l:Ae}(hl:l≠[])(h: ∀x,x∈l-> ∃z tk,x=.int z tk):wpAny M A (oneTypeOnly' l.toArray) (λr s'=>s'=s/\r=some (.type "int")) E s:=by
 rw [oneTypeOnly'_eq];refine wB0 (wpAny_mono (zRG (g:=λ_=>Value.type "int") λx hx=>?_) (λr s' hr=>?_) λ_ _ e=>e)
 ·obtain⟨z,tk,rfl⟩:=h x hx;exact wP0 ⟨rfl,rfl⟩
 ·obtain⟨rfl,rfl⟩:=hr
  match l,hl with
  |x::l,_=>
   have h0:(List.map (λ_=>Value.type "int") (x::l)).toArray[0]? =some (Value.type "int"):=by simp
   have hall:((List.map (λ_=>Value.type "int") (x::l)).toArray.all λx=>x==Value.type "int")=true:=by simp only [List.all_toArray,all_map,all_eq_true];intro _ _;rfl
   rw [h0];dsimp only;rw [hall];exact wP0 ⟨rfl,rfl⟩
def wp_kindI{M:Model}{keys:Ae}(hl:keys≠[])(h: ∀x,x∈keys-> ∃a its z tk r,x=.ref a/\TupAt s.heap a its/\its=.int z tk::r):
  wpAny M A (keyKind' keys.toArray) (λk s'=>s'=s/\k=tuples' true) E s:=by
 rw [keyKind'_eq]
 have hg: ∀x, ∃y:Option Value,x∈keys->(∃z tk,y=some (.int z tk))/\ ∀M:Model,wpAny M A (firstOfTuple' x) (λr s'=>s'=s/\r=y) E s:=by
  intro x;by_cases hx:x∈keys
  ·obtain⟨a,its,z,tk,r,rfl,h1,rfl⟩:=h x hx;exact⟨some (.int z tk),λ_=>⟨⟨z,tk,rfl⟩,λM=>yCC h1⟩⟩
  ·exact⟨none,λz=>absurd z hx⟩
 let g:=λx=>Classical.choose (hg x);have gs: ∀x,x∈keys->(∃z tk,g x=some (.int z tk))/\ ∀M:Model,wpAny M A (firstOfTuple' x) (λr s'=>s'=s/\r=g x) E s:=λx hx=>Classical.choose_spec (hg x) hx;refine wB0 (wpAny_mono (zRG (g:=g) λx hx=>(gs x hx).2 M) (λr s' hr=>?_) λ_ _ e=>e);obtain⟨rfl,rfl⟩:=hr;rw [iP (by simp only [List.all_toArray,all_map,all_eq_true];intro x hx;obtain⟨⟨b,jts,e⟩,_⟩:=gs x hx;show(g x).isSome=true;rw [e];rfl)];refine wB0 (wpAny_rule ?_);have ef:(keys.map g).toArray.filterMap id=((keys.map g).filterMap id).toArray:=by simp
 rw [ef];refine wB0 (wpAny_mono (zRH (l:=(keys.map g).filterMap id) ?_ ?_) (λr s' hr=>?_) λ_ _ e=>e)
 ·match keys,hl,gs with
  |x::l,_,gs=>
   obtain⟨⟨b,jts,e⟩,_⟩:=gs x mF0;rw [map_cons,e];simp
 ·intro x hx;obtain⟨y,hy,e⟩:=mem_filterMap.mp hx;obtain⟨z,hz,e'⟩:=mM.mp hy;obtain⟨⟨b,jts,e2⟩,_⟩:=gs z hz;have:some x=some (Value.int b jts):=by rw [<-e2,e'];exact e.symm
  cases this;exact⟨b,jts,rfl⟩
 ·obtain⟨rfl,rfl⟩:=hr;refine wP0 ⟨rfl,?_⟩;have:((some (Value.type "int")).any λx=>x !=Value.type "tuple")=true:=by rfl
  rw [this]
end
end Srt
set_option autoImplicit false
namespace Srt
open PySem PyProof.Rows
section
variable{prog:Program}{w:World}{A:Around}{E:VP}{s:Shared}
def wp_keyLtI{l b:Addr}{x y:Int}{t u:Tok}{r r2:Ae}{e k:Bool}{Q:Bool->Shared->Prop}(hl:TupAt s.heap l (.int x t::r))(hb:TupAt s.heap b (.int y u::r2))(he:SeqAt.EqAt A s (.int x t) (.int y u) e)
  (hx:if e=true then LexS A s r r2 k else k=decide (x<y)) (hq:Q k s):
  wpAny (model prog w) A (keyLt' (tuples' true) (.ref l) (.ref b)) Q E s:=by
 obtain⟨o1,n1,a1,_,a3⟩:=hl;obtain⟨o2,n2,b1,_,b3⟩:=hb;rw [yMI];refine wB0 (listItems_at a1 a3 (wB0 (listItems_at b1 b3 ?_)));simp only [sA];refine wB0 ?_;rw [zip_cons_cons,zipIdx_cons,forIn_cons];refine wB0 (wB0 (he prog w E _ ?_))
 cases e with
 |true=>
  rw [iP rfl]at hx;rw [iN (by simp)];refine wP0 ?_;refine wpAny_mono (yCD r r2 1 hx (m:=(Value.int x t::r).length) (n:=(Value.int y u::r2).length) (le_refl _) (by simp only [lC];omega)) (λq s' h=>?_) λ_ _ e=>e;obtain⟨rfl,rfl|⟨rfl,e⟩⟩:=h
  ·exact wP0 hq
  ·dsimp only;rw [<-e];exact wP0 hq
 |false=>
  rw [iN xF0]at hx;subst hx;rw [iP (by simp)];refine wB0 (oneLt_int ?_);exact wP0 (wP0 (wP0 hq))
end
end Srt
namespace L2
namespace M
open PySem PySem.Spec PyProof.Rows
mutual
def zCF:MV->Bool
 |.int _=>true
 |.str _=>true
 |.tup ds=>zMU ds
 |_=>false
def zMU:List MV->Bool
 |[]=>true
 |d::ds=>zCF d&&zMU ds
end

def zMV{α β:Type}{g:α->β}{p m:List β}(h:p.Perm m): ∀l:List α,l.map g=p-> ∃l':List α,l'.Perm l/\l'.map g=m:=by
 induction h with
 |nil=>intro l e;exact⟨l,.refl _,e⟩
 |cons x _ ih=>
  intro l e
  cases l with
  |nil=>cases e
  |cons a l=>
   rw [map_cons]at e;injection e with e1 e2
   obtain⟨l',p',q'⟩:=ih l e2;exact⟨a::l',p'.cons a,by rw [map_cons,e1,q']⟩
 |swap x y t=>
  intro l e
  match l,e with
  |a::b::l,e=>
   rw [map_cons,map_cons]at e;injection e with e1 e2
   injection e2 with e2 e3
   exact⟨b::a::l,.swap _ _ _,by rw [map_cons,map_cons,e1,e2,e3]⟩
 |trans _ _ ih1 ih2=>
  intro l e;obtain⟨l1,p1,q1⟩:=ih1 l e;obtain⟨l2,p2,q2⟩:=ih2 l1 q1;exact⟨l2,p2.trans p1,q2⟩
section
variable{X:Cx}{α:Ah}{S:Sto}{H:Hp}{pins:Ba}{σ:St}{s:Shared}
mutual
theorem zWI(I:Inv X pins σ H s): ∀{d d':MV}{v:V},zCF d=true->zCF d'=true->Den X.K α H d v->Den X.K α H d' v->d=d'
 |.int i,d',v,_,h',q,q'=>by
  cases yY q
  cases d' with
  |int j=>cases yY q';rfl
  |str x=>cases xG q'
  |tup ds=>obtain⟨a,vs,e,_⟩:=yZ q';cases e
  |_=>simp [zCF]at h'
 |.str x,d',v,_,h',q,q'=>by
  have e:=xG q
  cases d' with
  |int j=>rw [yY q']at e;cases e
  |str y=>rw [xG q']at e;injection e with e;rw [zDX e]
  |tup ds=>obtain⟨a,vs,e',_⟩:=yZ q';rw [e']at e;cases e
  |_=>simp [zCF]at h'
 |.tup ds,d',v,h,h',q,q'=>by
  obtain⟨a,vs,e,t,l⟩:=yZ q
  cases d' with
  |int j=>rw [yY q']at e;cases e
  |str y=>rw [xG q']at e;cases e
  |tup es=>
   obtain⟨a',vs',e',t',l'⟩:=yZ q';rw [e]at e';cases e';have:=I.tuple_inj t t';subst this;rw [zRI I (by unfold zCF at h;exact h) (by unfold zCF at h';exact h') l l']
  |_=>simp [zCF]at h'
theorem zRI(I:Inv X pins σ H s): ∀{ds es:Bh}{vs:List V},zMU ds=true->zMU es=true->DenL X.K α H ds vs->DenL X.K α H es vs->ds=es
 |[],[],_,_,_,_,_=>rfl
 |[],e::es,_,_,_,q,q'=>by obtain⟨v,r,e,_⟩:=q'.uncons;rw [q.isnil]at e;cases e
 |d::ds,[],_,_,_,q,q'=>by obtain⟨v,r,e,_⟩:=q.uncons;rw [q'.isnil]at e;cases e
 |d::ds,e::es,_,h,h',q,q'=>by obtain⟨v,r,rfl,a,l⟩:=q.uncons;obtain⟨v',r',e',a',l'⟩:=q'.uncons;cases e';unfold zMU at h h';rw [aE]at h h';rw [zWI I h.1 h'.1 a a',zRI I h.2 h'.2 l l']
end

def lexRS{A:Around}{xs ys:Ae}{k:Bool}(h:LexR A s xs ys k):Srt.LexS A s xs ys k:=by
 induction h with
 |nn=>exact .nn
 |nc x xs=>exact .nc x xs
 |cn x xs=>exact .cn x xs
 |eq a _ ih=>exact .eq a ih
 |ne a b=>exact .ne a b
def zUE(I:Inv X pins σ H s){ds:Bh}{x:V}{u:Value}(d:Den X.K α H (.tup ds) x)(r:RelV x u): ∃a vs its,u=.ref a/\DenL X.K α H ds vs/\Vals vs its/\Srt.TupAt s.heap a its/\IsTup s.heap a its.toArray:=by obtain⟨a,vs,rfl,t,l⟩:=yZ d;cases r;obtain⟨its,r1,pt,_⟩:=I.tuple t;obtain⟨o,h1,h2,n,h3⟩:=id pt;exact⟨a,vs,its,rfl,l,r1,⟨o,n,h1,h2,h3⟩,pt⟩
end
structure OrdD(S:Sto)(ks:Bh):Prop where
 any: ∀a,a∈ks-> ∀b,b∈ks-> ∃t,ltv S zM a b=some t
 tr: ∀a,a∈ks-> ∀b,b∈ks-> ∀c,c∈ks->ltv S zM b a=some false->ltv S zM c b=some false->ltv S zM c a=some false
 as: ∀a,a∈ks-> ∀b,b∈ks->ltv S zM a b=some true->ltv S zM b a=some false
section
variable{X:Cx}{α:Ah}{S:Sto}{H:Hp}{pins:Ba}{σ:St}{s:Shared}{k:Nat}{fa:Addr}{fd:FuncData}{ps:Ai}{Fd:List MV->Sto->R Er}
def zYU{e:Addr}{ys:List V}{its:Ae}{n:Nat}(J:Inv X pins σ H s)(f:zEN X pins H e)(h0:X.s₀.heap.objs.size<=e)(he:s.heap.get? e=some (seqObj "list" its.toArray n))(hv:Vals ys its)(hz:ys.length<=sizeLine):Inv X pins σ (upd H e (.lst ys)) s:=by
 have s0: ∀o,X.s₀.heap.get? e≠some o:=λo z=>absurd (lt_of_lt_of_le (Heap.lt_size z) h0) (lt_irrefl _);refine⟨J.ok,J.os,J.bare,⟨J.base.keep,J.base.slot,λb ob' q n hx=>?_,J.base.there,λb xs q=>?_,λb o' u q=>?_,λb ps q=>?_⟩,J.loc,J.cell,?_,λx c hc=>?_,λp hp=>?_,λb u q=>?_,J.len⟩
 ·rw [zR λz=>s0 ob' (by rw [<-z];exact q)];exact J.base.free b ob' q n hx
 ·rw [zR (zU (J.base.tups b xs q) f.1)];exact J.base.tups b xs q
 ·rw [zR (zU (J.base.frzs b o' u q) f.1)];exact J.base.frzs b o' u q
 ·obtain⟨mo,z⟩:=J.base.tbls b ps q;exact⟨mo,by rw [zR (zU z f.1)];exact z⟩
 ·rw [zR (Ne.symm f.2.1)];exact J.free
 ·rw [zR (f.2.2.2.2.1 x c hc)];exact J.freeC x c hc
 ·obtain⟨e1,n,ne,nf,dd⟩:=J.pin p hp;exact⟨e1,by rw [zR (f.2.2.2.2.2 p hp)];exact n,ne,nf,dd⟩
 ·by_cases z:b=e
  ·subst z;rw [yK]at q;cases q;exact⟨hz,its,n,hv,he⟩
  ·rw [zR z]at q;exact(J.hok b u q).stay (λ_ _ _ r=>r) (λc r=>by rw [zR (zU r f.1)];exact r) λc xs r=>by rw [zR (zU r f.1)];exact r
def zOS(K:Be)(α:Ah)(H:Hp)(kds:Bh)(u:Value):MV:=
 open Classical in if h: ∃d v,d∈kds/\Den K α H d v/\RelV v u then Classical.choose h else kds.headD .non
def ltV(K:Be)(α:Ah)(H:Hp)(S:Sto)(kds:Bh)(p q:Keyed):Bool:=(ltv S zM (zOS K α H kds p.1) (zOS K α H kds q.1)).getD false
def bD{K:Be}{kds:Bh}(hne:kds≠[])(u:Value):zOS K α H kds u∈kds:=by
 unfold zOS;split
 ·rename_i h;obtain⟨v,h1,_⟩:=Classical.choose_spec h;exact h1
 ·match kds,hne with
  |x::l,_=>exact mF0
def zJS{K:Be}{kds:Bh}{u:Value}(h: ∃d v,d∈kds/\Den K α H d v/\RelV v u): ∃v,Den K α H (zOS K α H kds u) v/\RelV v u:=by unfold zOS;rw [dif_pos h];obtain⟨v,_,h2,h3⟩:=Classical.choose_spec h;exact⟨v,h2,h3⟩
def yCE(I:Inv X pins σ H s){kds:Bh}{kvs:List V}{ks:Ae}(hpu: ∀d,d∈kds->zCF d=true)(dk:DenL X.K α H kds kvs)(vk:Vals kvs ks){i:Nat}{u:Value}{a:MV}(hu:ks[i]? =some u)(ha:kds[i]? =some a):
  zOS X.K α H kds u=a:=by
 obtain⟨v,hv,da⟩:=dk.at ha;obtain⟨u',hu',r⟩:=vk.get hv;rw [hu]at hu';cases hu';have ma:a∈kds:=mem_of_getElem? ha;have ne:kds≠[]:=λz=>by rw [z]at ma;cases ma
 obtain⟨v',d',r'⟩:=zJS (K:=X.K) (α:=α) (H:=H) ⟨a,v,ma,da,r⟩;rw [r'.inj r]at d';exact zWI I (hpu _ (bD ne u)) (hpu a ma) d' da
end
section
variable{X:Cx}{α:Ah}{S:Sto}{H:Hp}{pins:Ba}{σ:St}{s:Shared}{k:Nat}{fa:Addr}{fd:FuncData}{ps:Ai}{Fd:List MV->Sto->R Er}
theorem zYV{ks its:Ae}{N:Nat}(h1:ks.length=N)(h2:its.length=N):(List.range N).map (λi=>((ks[i]?).getD .none,(its[i]?).getD .none))=ks.zip its:=by
 apply ext_getElem?;intro i;rw [getElem?_map];by_cases hi:i<N
 ·have e:(ks.zip its)[i]? =some (ks[i]'(by omega),its[i]'(by omega)):=by rw [List.getElem?_zip_eq_some];exact⟨gE0 _,gE0 _⟩
  rw [getElem?_range hi,e];show some ((ks[i]?).getD .none,(its[i]?).getD .none)=_;rw [gE0 (by omega),gE0 (by omega)];rfl
 ·rw [getElem?_eq_none (by rw [length_range];omega),getElem?_eq_none (by rw [length_zip];omega)];rfl
theorem zJT{β:Type}{l:List β}{d:β}{idx:Ab}(h: ∀i,i∈idx->i<l.length):idx.map (λi=>(l[i]?).getD d)=idx.filterMap (l[·]?):=by
 induction idx with
 |nil=>rfl
 |cons i idx ih=>
  have hi:=h i mF0;rw [map_cons,filterMap_cons_some (gE0 hi),ih λj hj=>h j (mO _ hj),gE0 hi];rfl
end
def zWJ(S:Sto)(ds kds r:Bh):Prop:= ∃idx:List Nat,idx.Perm (List.range ds.length)/\idx.Pairwise (λi j=> ∀a c,kds[i]? =some a->kds[j]? =some c->ltv S zM c a=some false)/\r=idx.filterMap (ds[·]?)
open Classical in
open Classical in
section
variable{X:Cx}{W:XW}{tg iter a:Expr}{f:AX}{af:Rho->Sto->R (List Er)}{e:Expr}{es:Bd}{pos apos:Pos}
def Itq(K:Be)(k:Bool)(a:Addr):It:=if k=true then Itl K a else Itt K a
def iSeq(K:Be)(tl:TE):TI:=λσ H R=>tl σ H λx H1=> ∃k a,x=.ref a/\(∃xs,SqK k K H1 a xs)/\R (Itq K k a) H1
def yMK{l:Expr}{tl:TE}(hl:PE X l tl):PI X tg l (iSeq X.K tl):=by
 intro pins s σ H R I h;refine thn (hl pins s σ H _ I h) λv s1 ⟨x,H1,I1,r1,q1⟩=>?_;obtain⟨k,a,e,⟨xs,hq⟩,q⟩:=q1;subst e;cases r1
 cases k with
 |true=>
  obtain⟨its,rv,p,hz⟩:=I1.list (show SqL X.K H1 a xs from hq);refine wpAny_pyIter_list p.isList ?_;refine⟨s1.heap.objs.size,[s1.heap.objs.size],_,_,H1,rfl,I1.kept (t':=s1.toks) λb o e=>hP0 _ e,zME a _,⟨_,Heap.get?_push_size _ rfl,rfl,rfl⟩,λb hb=>?_,q⟩;have e:b=s1.heap.objs.size:=by simpa using hb
  subst e;exact I1.fpOk (le_refl _) (I1.hok.fresh (le_refl _))
 |false=>
  obtain⟨its,rv,p,hz⟩:=I1.tuple (show SqT X.K H1 a xs from hq);refine wpAny_pyIter_tuple (show s1.heap.IsTuple a its.toArray from p) ?_;refine⟨s1.heap.objs.size,[s1.heap.objs.size],_,_,H1,rfl,I1.kept (t':=s1.toks) λb o e=>hP0 _ e,zIY a _,⟨_,Heap.get?_push_size _ rfl,rfl,rfl⟩,λb hb=>?_,q⟩;have e:b=s1.heap.objs.size:=by simpa using hb
  subst e;exact I1.fpOk (le_refl _) (I1.hok.fresh (le_refl _))
def itQ(r:Er)(S:Sto):R Wk:=match srcOf S r with
 |some q=>.ok ⟨q.ds,q.gs⟩ S
 |none=>.no
def yML(he:PEm X W iter f):PIm X W tg iter (λρ S=>(f ρ S).bind itQ):=by
 obtain⟨t,he,k⟩:=he;refine⟨_,yMK he,λα ρ S σ H Rc wd sl q=>k α ρ S σ H _ wd sl (q.bind λu p S1 α1 H1 e x1 w1 d1 q1=>?_)⟩
 replace q1:=q1.shift x1
 unfold itQ at q1;split at q1
 ·rename_i q e1;obtain⟨l1,P1,rfl,p1,D1⟩:=yBP w1 e1 d1.1;have g1:=D1.get _ _ _ p1;refine⟨q.k,l1,rfl,⟨_,g1.choose_spec.1⟩,q1.here (u:=Itq X.K q.k l1) w1 ⟨λα S H=>P1 α S H,?_,p1,λα1 S1 H1 α2 S2 H2 b1 x w hs=>D1.stays _ _ _ _ _ _ b1 x w hs,D1.st _ _ _ p1⟩⟩;intro i α2 S2 H2 b1 w2;obtain⟨us,c1,c2⟩:=D1.get _ _ _ b1;obtain⟨qk,qd,qg⟩:=q
  cases qk with
  |true=>
   obtain⟨i1,i2⟩:=zFE (X:=X) (a:=l1) (ds:=qd) i α2 S2 H2 ⟨us,c1,c2⟩ w2;refine⟨λhi=>⟨(i1 hi).1,λx H' y=>?_⟩,i2⟩;obtain⟨j1,j2,j3,j4⟩:=(i1 hi).2 x H' y;obtain⟨rfl,_⟩:=y;exact⟨j1,j2,b1,j4⟩
  |false=>
   obtain⟨i1,i2⟩:=zVN (X:=X) (a:=l1) (ds:=qd) i α2 S2 H2 ⟨us,c1,c2⟩ w2;refine⟨λhi=>⟨(i1 hi).1,λx H' y=>?_⟩,i2⟩;obtain⟨j1,j2,j3,j4⟩:=(i1 hi).2 x H' y;obtain⟨rfl,_⟩:=y;exact⟨j1,j2,b1,j4⟩
 ·exact q1.elim
theorem DenL.eraseIdx{K:Be}{α:Ah}{H:Hp}: ∀{ds:Bh}{vs:List V}(n:Nat),DenL K α H ds vs->DenL K α H (ds.eraseIdx n) (vs.eraseIdx n)
 |[],_,_,q=>by rw [q.isnil];exact yC
 |d::ds,_,0,q=>by obtain⟨v,r,rfl,_,l⟩:=q.uncons;exact l
 |d::ds,_,n+1,q=>by obtain⟨v,r,rfl,a,l⟩:=q.uncons;exact zX a (DenL.eraseIdx n l)
end
section
variable{X:Cx}{W:XW}{a b o i:Expr}{f g:AX}{pos:Pos}{pins:Ba}{σ:St}{H:Hp}{s:Shared}{α:Ah}
def zEI(kvs:List (Key×V))(k:Key)(v:V):List (Key×V):=if(kvs.any λkv=>decide (kv.1=k))=true then kvs.map (λkv=>if kv.1=k then(kv.1,v)else kv)else kvs++[(k,v)]
def zJU(kvs:List (Key×V))(k:Key)(v:V):(zEI kvs k v).length<=kvs.length+1:=by
 unfold zEI;split
 ·rw [lM];exact le_succ _
 ·rw [lA];exact le_refl _
def yMM{kvs:List (Key×V)}{vs:List (Key×Value)}(r:KV kvs vs)(k:Key):(kvs.any λkv=>decide (kv.1=k))=vs.any λkv=>decide (kv.1=k):=by
 unfold KV at r
 induction r with
 |nil=>rfl
 |cons h t ih=>rw [any_cons,any_cons,ih,h.1]
def yHE{kvs:List (Key×V)}{vs:List (Key×Value)}(r:KV kvs vs)(k:Key){y:V}{u:Value}(ry:RelV y u):KV (kvs.map λkv=>if kv.1=k then(kv.1,y)else kv) (vs.map λkv=>if kv.1=k then(kv.1,u)else kv):=by
 unfold KV at r ⊢
 induction r with
 |nil=>exact .nil
 |@cons p q ps qs h t ih=>
  rw [map_cons,map_cons];refine .cons ?_ ih;by_cases e:p.1=k
  ·rw [iP e,iP (h.1.symm.trans e)];exact⟨h.1,ry⟩
  ·rw [iN e,iN λz=>e (h.1.trans z)];exact h
def yHF{kvs:List (Key×V)}{vs:List (Key×Value)}(r:KV kvs vs){p:Key×V}{q:Key×Value}(h:p.1=q.1/\RelV p.2 q.2):KV (kvs++[p]) (vs++[q]):=by
 unfold KV at r ⊢
 induction r with
 |nil=>exact .cons h .nil
 |cons h' t ih=>exact .cons h' ih
def yCF{kvs:List (Key×V)}{vs:List (Key×Value)}(r:KV kvs vs)(k:Key){y:V}{u:Value}(ry:RelV y u):KV (zEI kvs k y) (stored vs k u):=by
 unfold zEI stored;rw [yMM r k];by_cases e:(vs.any λkv=>decide (kv.1=k))=true
 ·rw [iP e,iP e];exact yHE r k ry
 ·rw [iN e,iN e];exact yHF r ⟨rfl,ry⟩
def zOT{k:MV}{a b:Key}(h:KeyD k a)(h':KeyD k b):a=b:=by
 cases k with
 |int i=>exact Eq.trans (show a=.inl i from h) (show b=.inl i from h').symm
 |str x=>exact Eq.trans (show a=.inr (mkS x)from h) (show b=.inr (mkS x)from h').symm
 |_=>exact False.elim h
def zJV{k k':MV}{a:Key}(h:KeyD k a)(h':KeyD k' a):k=k':=by
 cases k with
 |int i=>
  have e:a=.inl i:=h;subst e
  cases k' with
  |int j=>have e':(Sum.inl i:Key)=.inl j:=h';cases e';rfl
  |str y=>have e':(Sum.inl i:Key)=.inr (mkS y):=h';cases e'
  |_=>exact False.elim h'
 |str x=>
  have e:a=.inr (mkS x):=h;subst e
  cases k' with
  |int j=>have e':(Sum.inr (mkS x):Key)=.inl j:=h';cases e'
  |str y=>
   have e':(Sum.inr (mkS x):Key)=.inr (mkS y):=h';injection e' with e'
   rw [zDX e']
  |_=>exact False.elim h'
 |_=>exact False.elim h
theorem zRJ: ∀{kvs:Ca}{ks:List (Key×V)}{k:MV}{k':Key},DenK X.K α H kvs ks->KeyD k k'->(ks.any λkv=>decide (kv.1=k'))=(look kvs k).isSome
 |_,_,k,k',.nil,hk=>rfl
 |_,_,k,k',.cons (k:=c) (k':=c') hc a l,hk=>by
  rw [zMS,any_cons];by_cases h:c=k
  ·subst h;rw [iP rfl,dT0 (zOT hc hk)];rfl
  ·have hn: ¬c'=k':=λz=>h (zJV hc (z.symm▸hk));rw [iN h,dF0 hn,Bool.false_or];exact zRJ l hk
theorem zJW: ∀{kvs:Ca}{ks:List (Key×V)}{k d:MV}{k':Key}{v:V},DenK X.K α H kvs ks->KeyD k k'->Den X.K α H d v->DenK X.K α H (kvs.map λp=>if p.1=k then(p.1,d)else p) (ks.map λkv=>if kv.1=k' then(kv.1,v)else kv)
 |_,_,k,d,k',v,.nil,hk,hd=>.nil
 |_,_,k,d,k',v,.cons (k:=c) (k':=c') hc a l,hk,hd=>by
  rw [map_cons,map_cons];by_cases h:c=k
  ·subst h;rw [iP rfl,iP (zOT hc hk)];exact .cons hc hd (zJW l hk hd)
  ·have hn: ¬c'=k':=λz=>h (zJV hc (z.symm▸hk));rw [iN h,iN hn];exact .cons hc a (zJW l hk hd)
theorem DenK.append: ∀{kvs kvs':Ca}{xs xs':List (Key×V)},DenK X.K α H kvs xs->DenK X.K α H kvs' xs'->DenK X.K α H (kvs++kvs') (xs++xs')
 |_,_,_,_,.nil,h=>h
 |_,_,_,_,.cons hk a l,h=>.cons hk a (DenK.append l h)
theorem DenK.length: ∀{kvs:Ca}{xs:List (Key×V)},DenK X.K α H kvs xs->xs.length=kvs.length
 |_,_,.nil=>rfl
 |_,_,.cons _ _ l=>by rw [lC,lC,DenK.length l]
def zRK{kvs:Ca}{ks:List (Key×V)}{k d:MV}{k':Key}{v:V}(l:DenK X.K α H kvs ks)(hk:KeyD k k')(hd:Den X.K α H d v):DenK X.K α H (putK kvs k d) (zEI ks k' v):=by
 unfold putK zEI;rw [zRJ l hk];by_cases h:(look kvs k).isSome=true
 ·rw [iP h,iP h];exact zJW l hk hd
 ·rw [iN h,iN h];exact l.append (.cons hk hd .nil)
def DK(X:Cx)(H:Hp)(d:Addr)(ks:List (Key×V)):Prop:=H d=some (.dK ks)\/False
def bE(I:Inv X pins σ H s){ks:List (Key×V)}{d:Addr}(h:DK X H d ks):ks.length<=sizeLine/\(d==sysModules)=false/\ ∃vs,KV ks vs/\s.heap.DictOf (zZ X.prog X.w) d vs:=by
 rcases h with h|z
 ·exact(show ObjOk X.prog X.w H s.heap d (.dK ks)from I.hok d _ h)
 ·exact False.elim z
def zJX:CallR X (.type "list") (λxs H Q=> ∃d ks,xs=[.ref d]/\DK X H d ks/\X.calm=true/\ ∀l,H l=none->Q (.ref l) (upd H l (.lst (ks.map λp=>kV p.1)))):=by
 intro pins s σ H xs us Q I r h;obtain⟨d,ks,rfl,dd,hc,q⟩:=h;obtain⟨u,rfl,rx⟩:=vals1 r;cases rx;obtain⟨z,hd,vs,rel,dm⟩:=bE I dd;obtain⟨ep,hat⟩:=dm.dictAt;have hl:ks.length=vs.length:=Paired.length rel;refine PySem.W.kdl_call (PySem.W.kdl_dict (knd:=zZ X.prog X.w) (kvs:=vs) (ep:=ep) hd) (I.ok.hd hc) hat (by omega) λh' tk acc c' hk hS hacc=>?_
 have rv:Vals (ks.map λp=>kV p.1) acc.toList:=by
  have key: ∀{ks:List (Key×V)}{vs:List (Key×Value)}{us:Ae},KV ks vs->us.length=vs.length->(∀(j:Nat)(v:Value),us[j]? =some v-> ∃(k:Key)(x:Value),vs[j]? =some (k,x)/\(zZ X.prog X.w).is k v=true)->Vals (ks.map λp=>kV p.1) us:=by
   intro ks vs us kv;unfold KV at kv
   induction kv generalizing us with
   |nil=>intro hl _;cases us with
    |nil=>exact .nil
    |cons a b=>simp at hl
   |@cons p q ps qs h t ih=>
    intro hl hv
    cases us with
    |nil=>simp at hl
    |cons a b=>
     obtain⟨k,x,e,hi⟩:=hv 0 a rfl;simp only [List.getElem?_cons_zero,Option.some.injEq]at e;subst e;rw [map_cons];refine .cons ?_ (ih (by simpa using hl) λj v hj=>by simpa using hv (j+1) v (by simpa using hj));rw [h.1];rcases yA hi with⟨i,t,e1,e2⟩|⟨i,t,e1,e2⟩
     ·subst e2;rw [show k=.inl i from e1];exact⟨t,rfl⟩
     ·subst e2;rw [show k=.inr i from e1];exact⟨t,rfl⟩
  exact key rel (by rw [Array.length_toList];exact hacc.1) λj v e=>hacc.2 j v (by rw [<-Array.getElem?_toList];exact e)
 refine⟨.ref s.heap.objs.size,_,I.laid (t':=tk) hk (le_refl _) (show ObjOk X.prog X.w _ h' _ (.lst (ks.map λp=>kV p.1))from⟨by rw [lM];exact z,acc.toList,c',rv,?_⟩),rfl,q _ (I.hok.fresh (le_refl _))⟩;rw [Array.toArray_toList];exact hS
theorem zGW: ∀{kvs:Ca}{ks:List (Key×V)},DenK X.K α H kvs ks->DenL X.K α H (kvs.map (·.1)) (ks.map λp=>kV p.1)
 |_,_,.nil=>yC
 |_,_,.cons (k:=c) (k':=c') hc a l=>by
  refine zX ?_ (zGW l)
  cases c with
  |int i=>rw [show c'=.inl i from hc];exact xC i
  |str x=>rw [show c'=.inr (mkS x)from hc];exact cB x
  |_=>exact False.elim hc
end
def inK(k:Key)(l:List Key):Bool:=l.any λj=>decide (j=k)
def nO(val:Nat->Key):Nat->List Key
 |0=>[]
 |i+1=>if inK (val i) (nO val i)=true then nO val i else nO val i++[val i]
theorem zEC(val:Nat->Key)(i:Nat):nO val (i+1)=if inK (val i) (nO val i)=true then nO val i else nO val i++[val i]:=rfl
theorem zIR(val:Nat->Key): ∀i,(nO val i).length<=i
 |0=>le_refl _
 |i+1=>by
  have ih:=zIR val i;rw [zEC];split
  ·exact le_trans ih (le_succ _)
  ·rw [lA];exact Nat.succ_le_succ ih
def yCG(val:Nat->Key)(i:Nat)(k:Key):inK k (nO val (i+1))=(inK k (nO val i) || decide (k=val i)):=by
 rw [zEC];by_cases h:inK (val i) (nO val i)=true
 ·rw [iP h];by_cases e:k=val i
  ·rw [e,h];rfl
  ·rw [dF0 e,Bool.or_false]
 ·rw [iN h];unfold inK;rw [List.any_append,any_cons,List.any_nil,Bool.or_false];congr 1;by_cases e:val i=k
  ·rw [dT0 e,dT0 e.symm]
  ·rw [dF0 e,dF0 λz=>e z.symm]
theorem yCH(val:Nat->Key)(i:Nat):(nO val (i+1)).length=if inK (val i) (nO val i)=true then(nO val i).length else(nO val i).length+1:=by
 rw [zEC];split
 ·rfl
 ·rw [lA];rfl
section
variable{P:Program}{w:World}{A:Around}{E:VP}{s:Shared}
abbrev xQ(led:Bool):Obj:={cls:=.type "set",dict:=none,data:=.set #[] 0 (.fresh 0 0 led)}
end
section
variable{X:Cx}{W:XW}{e:Expr}{af:Rho->Sto->R (List Er)}{p1 p2 pos1 pos2:Pos}
def zLT(ys:Aa)(i:Nat):Key:=.inr (mkS (ys.getD i []))
def strsOf:List MV->Option (List (List Nat))
 |[]=>some []
 |.str x::r=>(strsOf r).map (x::·)
 |_=>none
theorem zRL{K:Be}{α:Ah}{H:Hp}: ∀{ds:Bh}{ys:Aa}{vs:List V},strsOf ds=some ys->DenL K α H ds vs->vs=ys.map λx=>V.str (mkS x)
 |[],ys,vs,h,d=>by cases h;rw [d.isnil];rfl
 |x::ds,ys,vs,h,d=>by
  obtain⟨v,r,rfl,dv,l⟩:=d.uncons
  cases x with
  |str x=>
   unfold strsOf at h
   cases z:strsOf ds with
   |none=>rw [z]at h;cases h
   |some zs=>
    rw [z]at h;cases h;rw [map_cons,xG dv,zRL z l]
  |_=>cases h
def yMN:bootBuiltins "set"=some (.type "set"):=by decide+kernel
end
section
variable{X:Cx}{W:XW}{o e:Expr}{es:Bd}{f:AX}{af:Rho->Sto->R (List Er)}{apos pos:Pos}{to:TE}{t:TA}{T:String}{name:Str}{id:String}{r:V->List V->Hp->VK->Prop}
def zFN(X:Cx)(T:String)(TY:V->Hp->Prop):Prop:= ∀(pins:Ba)(s:Shared)(σ:St)(H:Hp)(x:V)(v:Value),Inv X pins σ H s->RelV x v->TY x H->s.TypeIs v T/\ ∀a,v=.ref a-> ∃ob,s.heap.get? a=some ob/\ob.dict=none
def yMO{TY:V->Hp->Prop}(hTY:zFN X T TY)(pa:PlainAttrs T)(slot:Slot T name id)(hty:typeOf (.builtin id)=pure (.type "method_descriptor"))(hm:MtR X id r)(ho:PE X o to)(ha:PA X (e::es) t)
  (hbase:attributeBase o name X.env (eval o X.env)=eval o X.env)
  (hfew:((backTo pos (starEach (e::es) X.env)).all (λx=>!x.1)&&(backToKw pos (keywordEach [] X.env)).all (λx=>x.1.isSome)
   &&decide ((e::es).length+([]:List Keyword).length+(if([]:List Keyword).isEmpty then 0 else 1)<30))=true)
  (hline:(apos.endLine==pos.line)=true) (hs:starEach (e::es) X.env=(false,eval e X.env)::starEach es X.env) (hplain:(backTo pos (starEach es X.env)).any (·.1)=false):
  PE X (.Call (.Attribute o name apos) (e::es) [] pos) (λσ H Q=>to σ H λx H1=>TY x H1/\t σ H1 λvs H2=>r x vs H2 Q):=by
 intro pins s σ H Q I h;refine wpAny_Call_method_late hbase hfew hline rfl (thn (ho pins s σ H _ I h) λv s1 ⟨x,H1,I1,r1,ty,q1⟩=>?_);obtain⟨h1,h2⟩:=hTY pins s1 σ H1 x v I1 r1 ty;refine⟨T,id,pa,slot,hty,h1,h2,?_⟩;have hA:=ha pos pins s1 σ H1 _ I1 q1;rw [hs]at hA ⊢;refine Calls.callWith_builtin (by show(false || (backTo pos (starEach es X.env)).any (·.1))=false;rw [hplain]<;>rfl) (Calls.evalArgs_plain ?_);exact thn hA λus s2 ⟨vs,H2,I2,r2,q2⟩=>hm pins s2 σ H2 x vs v us Q I2 r1 r2 q2
end
def VAt(d:Addr)(us:Ae)(ep:Nat)(h:Heap):Prop:= ∃o es,h.get? d=some o/\o.ExactDict/\o.data=.dict es ep/\es.toList.map (·.val)=us
def VAt.at{d:Addr}{us:Ae}{ep:Nat}{h h':Heap}(x:VAt d us ep h)(m: ∀o,h.get? d=some o->h'.get? d=some o):VAt d us ep h':=let ⟨o,es,ho,r⟩:=x;⟨o,es,m o ho,r⟩
theorem VAt.size{d:Addr}{us:Ae}{ep:Nat}{h:Heap}(x:VAt d us ep h): ∃o es,h.get? d=some o/\o.ExactDict/\o.data=.dict es ep/\es.size=us.length/\ ∀i (hi:i<es.size),us[i]? =some es[i].val:=by obtain⟨o,es,ho,hc,hd,e⟩:=x;refine⟨o,es,ho,hc,hd,by rw [<-e,lM,Array.length_toList],λi hi=>?_⟩;rw [<-e,getElem?_map,Array.getElem?_toList,Array.getElem?_eq_getElem hi];rfl
end M
end L2
namespace L2
open PySem PySem.Spec PyProof.Rows
open Builtin Builtin.ObjectAttr
section
variable{prog:Program}{w:World}{A:Around}{E:VP}{h:Heap}{g:Array GenState}{d:Drawn}{t:Nat}{os:OsState}{C M x:Addr}{o:Obj}{v:Value}{name:Str}
variable{nm q:Str}{N:Addr}{bs bm:Ae}{sn:Ai}{sub:Ae}{ab:Bool}{col:Option Bool}{dd:Option Addr}{k0 k1 k2 k3 k5:Option Value}{newId:String}
def SetAt(h h':Heap)(x:Addr)(o:Obj)(name:Str)(v:Value)(dx:Addr):Prop:=
 h.get? dx=none/\dx≠x/\h'.get? x=some {cls:=o.cls,dict:=some dx,data:=o.data,slots:=o.slots}/\h'.Ns1 dx (λy=>if y=name then some v else none)/\ ∀b ob,b≠x->h.get? b=some ob->h'.get? b=some ob
end
abbrev BIG:Nat:=10 ^ 100
section
variable{X:Cx}{par:Str}{i:Nat}{pins:Ba}{σ:St}{H:Hp}
def tJ(i:Nat):TE:=λσ H Q=> ∃n,σ[i]? =some (some (.int n))/\n.natAbs<BIG/\ ∀y:Str,Q (.str y) H
end
namespace M
structure XIn(K:Be)(M C f:Addr):Prop where
 ex: ∃nm q N bs sn sub ab col dd k0 k1 k2 k3 k5,K.lookup C=some (excClassObj nm q C N bs (.ref M::bmV) true sn sub ab col dd k0 k1 k2 k3 k5 "ValueError.__new__")/\PySem.W.nsOkIn K N=true/\PySem.W.nsIn K N "__init__"=some (some (.ref f))/\ ∀n∈qn,PySem.W.nsIn K N n=some none
 fo: ∃o,K.lookup f=some o/\o.cls=.type "function"
def XIn.cl{K:Be}{M C f:Addr}(x:XIn K M C f):XCl K C (.ref M::bmV) (some (.ref f)):=by obtain⟨nm,q,N,bs,sn,sub,ab,col,dd,k0,k1,k2,k3,k5,a,b,c,d⟩:=x.ex;exact⟨nm,q,N,bs,true,sn,sub,ab,col,dd,k0,k1,k2,k3,k5,a,b,c,d,rfl⟩
structure DefM(K:Be)(mg:Aj)(x:Str)(st:Stmt):Prop where
 ex: ∃f fd,mg x=some (.ref f)/\Fun K x x st f fd
def def_mk{K:Be}{mg:Aj}{h:Heap}{x:Str}{st:Stmt}{g:Addr}{od an:Option Addr}{sl:Array (Option Value)}{oc kV dc pm cd ct:Value}(a:PySem.W.nsIn K mainGlobals x=some (some (.ref g)))
  (l:K.lookup g=some ⟨oc,od,.func (PySem.W.fnOf x x (zAU st) (cA st) (zI st) .none kV dc pm an cd ct),sl⟩) (c:PySem.W.codeIn K cd x=true) (k:PySem.W.keepIn K (.ref g)=true) (X:K.In h) (GG:h.Ns mainGlobals mg):DefM K mg x st:=⟨_,_,PySem.W.mg_of X GG a,yKU l c k⟩
structure Cal(P:Program)(w:World)(K:Be)(mg:Aj)(base:Heap)(CX:CXT)(x:Str)(k:Nat)(ps:Ai)(sp:Sp):Prop where
 ex: ∃fa fd,FnOk P w K mg base CX k fa fd ps sp/\mg x=some (.ref fa)/\PySem.W.keepIn K (.ref fa)=true/\Binds K fd ps []
abbrev CalM(P:Program)(w:World)(K:Be)(mg:Aj)(base:Heap)(x:Str)(k n:Nat)(ps:Ai)(F:List MV->Sto->R Er):Prop:=Cal P w K mg base CX0 x k ps (spM ⟨K,mg,P,w⟩ n F)
abbrev CalX(P:Program)(w:World)(K:Be)(mg:Aj)(base:Heap)(x:Str)(k n:Nat)(ps:Ai)(F:List MV->Sto->R Er):Prop:=Cal P w K mg base (CXe P w) x k ps (spX ⟨K,mg,P,w⟩ n F)
section
variable{P:Program}{w:World}{K:Be}{mg:Aj}{base:Heap}{x:Str}{st:Stmt}{N ps:Ai}{k n:Nat}{F:List MV->Sto->R Er}
abbrev yMP(x:Str)(st:Stmt)(ps:Ai):Prop:= ∀(kV doc pm:Value)(an:Option Addr)(cdv ct:Value)(us:Ae),us.length=ps.length->bindArgs (PySem.W.fnOf x x (zAU st) (cA st) (zI st) .none kV doc pm an cdv ct) ⟨us,[]⟩=pure (ps.zip us)
def okC(D:DefM K mg x st)(hb:yMP x st ps)(h: ∀f fd,Fun K x x st f fd->FnOk P w K mg base CX0 k f fd ps (spM ⟨K,mg,P,w⟩ n F)):CalM P w K mg base x k n ps F:=
 let ⟨f,fd,m,Fu⟩:=D.ex;⟨f,fd,h f fd Fu,m,Fu.kp,Fu.binds hb⟩
def Cal.noX(G:CalX P w K mg base x k n ps F):CalM P w K mg base x k n ps F:=let ⟨fa,fd,G,m,kp,b⟩:=G.ex;⟨fa,fd,G.noX,m,kp,b⟩
def yMQ{l:PySem.W.OpenLaw}{fa:Addr}{p:Str}(D:DefM K mg x st)(hfa:mg x=some (.ref fa))(hb: ∀(kV doc pm:Value)(an:Option Addr)(cdv ct:Value)(s:Shared)(v:Value),BindsTo s (PySem.W.fnOf x x (zAU st) (cA st) (zI st) .none kV doc pm an cdv ct) ⟨[v],[]⟩ [(p,v)])
  (h: ∀base f fd,Fun K x x st f fd->FnOk l.prog w K mg base CX0 k f fd [p] (spM ⟨K,mg,l.prog,w⟩ 1 F)):
  ∃fd:FuncData,(∀(s:Shared)(v:Value),BindsTo s fd ⟨[v],[]⟩ [(p,v)])/\ ∀base:Heap,K.In base->base.Ns mainGlobals mg->FnOk l.prog w K mg base CX0 k fa fd [p] (zMR K F):=by
 obtain⟨f,fd,m,Fu⟩:=D.ex;rw [hfa]at m;cases m;refine⟨fd,?_,λbase _ _=>(h base fa fd Fu).imp λvs H Q E=>yBQ (g:=⟨K,mg,l.prog,w⟩) vs H Q E⟩;obtain⟨_,_,_,_,_,_,_,_,_,rfl,_,_⟩:=Fu.ex;exact hb _ _ _ _ _ _
end
section
variable{X:Cx}{W:XW}{E:XK}{e:Expr}{es:Bd}{af:Rho->Sto->R (List Er)}{k n:Nat}{ps:Ai}{F:List MV->Sto->R Er}{x:Str}{p pos:Pos}
def zN(G:CalM X.prog X.w X.K X.mg X.base x k n ps F)(hr:Room k X.A)(hg:Gl X x)(ha:PAm X W (e::es) af)(hdb:(x==("__debug__":Str))=false:=by decide)
  (he:starEach (e::es) X.env=(false,eval e X.env)::starEach es X.env:=by rfl) (hpl:(backTo pos (starEach es X.env)).any (·.1)=false:=by rfl):PEm X W (.Call (.Name x p) (e::es) [] pos) (λρ S=>(af ρ S).bind λrs S1=>zT n F rs S1):=
 let ⟨_,_,G,m,kp,b⟩:=G.ex;yFY G hr hg m kp b ha hdb he hpl
variable{M:Addr}{cs:List (Str×Addr)}{i j:Nat}{nm y:Str}{Fh:AY}{b0:Stmt}{suite:List Stmt}{mp hpos cpos epos pos':Pos}{ns:Ai}
end
end M
end L2
namespace L2
open PySem PySem.Spec PyProof.Rows
structure RoomH(k:Nat)(A:Around):Prop where
 dp:A.depth+3 * k+5<recursionLimit
 un:A.units+16 * k+200<cLine
def RoomH.depth{k:Nat}{A:Around}(r:RoomH k A):A.depth<recursionLimit:=by have:=r.dp;omega
def RoomH.units{k:Nat}{A:Around}(r:RoomH k A):A.units+64<cLine:=by have:=r.un;omega
structure FnOkH(P:Program)(w:World)(K:Be)(mg:Aj)(base:Heap)(k:Nat)(f:Addr)(fd:FuncData)(ps:Ai)(sp:Sp):Prop where
 len: ∀vs H Q E,sp vs H Q E->vs.length=ps.length
 run: ∀(A:Around)(outer:List Env)(s:Shared)(H:Hp)(args:Args)(us:Ae)(vs:List V)(Q:VK)(E:XK),RoomH k A->Env0 P w K mg base A outer s H->BindsTo s fd args (ps.zip us)->Vals vs us->sp vs H Q E->
  codeAny (model P w) A (.call (.ref f) args) (CR CX0 outer P w H s Q E) s
namespace M
section
variable{P:Program}{w:World}{K:Be}{mg:Aj}{base:Heap}{x:Str}{st:Stmt}{N ps:Ai}{k n:Nat}{F:List MV->Sto->R Er}
structure CalH(P:Program)(w:World)(K:Be)(mg:Aj)(base:Heap)(x:Str)(k n:Nat)(ps:Ai)(F:List MV->Sto->R Er):Prop where
 ex: ∃fa fd,FnOkH P w K mg base k fa fd ps (spM ⟨K,mg,P,w⟩ n F)/\mg x=some (.ref fa)/\PySem.W.keepIn K (.ref fa)=true/\Binds K fd ps []
end
section
variable{X:Cx}{W:XW}{o e:Expr}{es:Bd}{f:AX}{af:Rho->Sto->R (List Er)}{apos pos:Pos}
def lit3F(kvs:Ca)(S:Sto):R Er:=.ok (.val (.loc S.length)) (S++[.dic kvs])
end
section
variable{X:Cx}{W:XW}{o e:Expr}{es:Bd}{f:AX}{af:Rho->Sto->R (List Er)}{apos pos:Pos}
def zAO(ks:List (Key×V))(k:Key):Option V:=(ks.find? λp=>decide (p.1=k)).map (·.2)
theorem zWK: ∀{ks:List (Key×V)}{vs:List (Key×Value)}(r:KV ks vs)(k:Key),(∀v,zAO ks k=some v-> ∃u,valueAt vs k=some u/\RelV v u)/\(zAO ks k=none->valueAt vs k=none)
 |_,_,.nil,k=>⟨λv h=>(nomatch h),λ_=>rfl⟩
 |(a,x)::ks,(b,u)::vs,.cons ⟨h1,h2⟩ l,k=>by
  cases (show a=b from h1);have ih:=zWK l k;unfold zAO valueAt;by_cases c:a=k
  ·simp only [find?_cons,c,decide_true,Option.map_some];exact⟨λv h=>⟨u,rfl,by cases h;exact h2⟩,λh=>nomatch h⟩
  ·simp only [find?_cons,c,decide_false];exact ih
theorem zMW{α:Ah}{H:Hp}: ∀{kvs:Ca}{ks:List (Key×V)}{k:MV}{k':Key},DenK X.K α H kvs ks->KeyD k k'->(∀d,look kvs k=some d-> ∃v,zAO ks k'=some v/\Den X.K α H d v)/\(look kvs k=none->zAO ks k'=none)
 |_,_,_,_,.nil,_=>⟨λd h=>(nomatch h),λ_=>rfl⟩
 |_,_,k,k',.cons (k:=k0) (k':=k0') (d:=d0) (v:=v0) h1 h2 l,hk=>by
  have ih:=zMW l hk;rw [zMS];unfold zAO;by_cases c:k0=k
  ·subst c;have:=zOT h1 hk;simp only [find?_cons,this,decide_true,Option.map_some,iP rfl];exact⟨λd h=>⟨v0,rfl,by cases h;exact h2⟩,λh=>nomatch h⟩
  ·have hn: ¬k0'=k':=λz=>c (zJV h1 (z▸hk));simp only [find?_cons,hn,decide_false,iN c];exact ih
def TyK(X:Cx)(x:V)(H:Hp):Prop:= ∃d ks,x=.ref d/\DK X H d ks
def yCI:zFN X "dict" (TyK X):=by intro pins s σ H x v I rx ⟨d,ks,e,dd⟩;subst e;cases rx;obtain⟨_,hs,vs,kv,o,es,ep,ho,hc,_⟩:=bE I dd;exact⟨⟨o,ho,hc.1⟩,λa e=>by cases e;exact⟨o,ho,hc.2.1⟩⟩
end
section
variable{α β:Type}
def vJ(i:Nat)(ρ:Rho)(S:Sto):R Er:=rdSl (ρ[i]?) S
def kJ(d:MV)(_:Rho)(S:Sto):R Er:=.ok (.val d) S
def bJ(f:Rho->Sto->R α)(F:α->Sto->R β)(ρ:Rho)(S:Sto):R β:=(f ρ S).bind F
def dJ(F:Er->Er->Sto->R Er)(f g:AX)(ρ:Rho)(S:Sto):R Er:=(f ρ S).bind λp S=>(g ρ S).bind λq S=>F p q S
def nJ(f:AX)(ρ:Rho)(S:Sto):R Er:=(f ρ S).bind λp S=>(asB p S).bind λk S=>.ok (.val (.bl !k)) S
def aJ(f g:AX)(ρ:Rho)(S:Sto):R Er:=(f ρ S).bind λp S=>andF p S λS=>g ρ S
def oJ(f g:AX)(ρ:Rho)(S:Sto):R Er:=(f ρ S).bind λp S=>orF p S λS=>g ρ S
def iJ(c:AZ)(f g:Rho->Sto->R α)(ρ:Rho)(S:Sto):R α:=(c ρ S).bind λk S=>if k=true then f ρ S else g ρ S
def mJ(_:Rho)(S:Sto):R (Option Int):=.ok none S
def tJ(F:Er->Option Int->Option Int->Sto->R Er)(f:AX)(g h:Rho->Sto->R (Option Int))(ρ:Rho)(S:Sto):R Er:=(f ρ S).bind λp S=>(g ρ S).bind λl S=>(h ρ S).bind λu S=>F p l u S
def lJ(k:Ca)(_:Rho)(S:Sto):R Er:=lit3F k S
def zJ(_:Rho)(S:Sto):R Er:=zWC S
def fJ(n:Nat)(F:List MV->Sto->R Er)(a:Rho->Sto->R (List Er))(ρ:Rho)(S:Sto):R Er:=(a ρ S).bind λr S=>zT n F r S
def xJ(n:Nat)(F:List MV->Sto->R Er)(a:Rho->Sto->R (List Er))(ρ:Rho)(S:Sto):R Er:=(a ρ S).bind λr S=>zWD n F r S
def hJ(F:List MV->Sto->R Er)(_:Rho)(S:Sto):R Er:=zT 0 F [] S
def eJ(t:Er->Sto->Bool)(F:Er->List Er->Sto->R Er)(f:AX)(a:Rho->Sto->R (List Er))(ρ:Rho)(S:Sto):R Er:=(f ρ S).bind λp S=>if t p S=true then(a ρ S).bind λr S=>F p r S else .no
def gJ(t:Er->Sto->Bool)(F:Er->List Er->Sto->R Er)(f:AX)(ρ:Rho)(S:Sto):R Er:=(f ρ S).bind λp S=>if t p S=true then F p [] S else .no
def uJ(_:Rho)(S:Sto):R Bool:=.ok true S
def pJ(i:Rho->Sto->R Wk)(g:MV->Rho->Sto->R Rho)(c:AZ)(e:AX)(n:Nat)(I:Ab)(ρ:Rho)(S:Sto):R Er:=(i ρ S).bind λk S=>if k.ds.length<1000000 then(xP g c e (blk n I ρ) k.gs k.ds S).bind λo S=>.ok (.new o) S else .no
def jJ(F G:Er->Er->Sto->R Er)(f g h:AX)(ρ:Rho)(S:Sto):R Er:=(f ρ S).bind λp S=>(g ρ S).bind λq S=>chF F G p q S λS=>h ρ S
def qJ(f:AZ)(ρ:Rho)(S:Sto):R Bool:=(f ρ S).bind λk S=>.ok (!k) S
def rJ(f g:AZ)(ρ:Rho)(S:Sto):R Bool:=(f ρ S).bind λk S=>if k=true then g ρ S else .ok false S
def sJ(f g:AZ)(ρ:Rho)(S:Sto):R Bool:=(f ρ S).bind λk S=>if k=true then .ok true S else g ρ S
def wJ(_:Rho)(S:Sto):R (List Er):=.ok [] S
def yJ(f:AX)(g:Rho->Sto->R (List Er))(ρ:Rho)(S:Sto):R (List Er):=(f ρ S).bind λp S=>(g ρ S).bind λl S=>.ok (p::l) S
def AJ(f:AX)(ρ:Rho)(S:Sto):R Fl:=(f ρ S).bind λr S=>.ok (.ret r) S
def BJ(f:AX)(ρ:Rho)(S:Sto):R Fl:=(f ρ S).bind λ_ S=>.ok (.next ρ) S
def CJ(f:AX)(i:Nat)(ρ:Rho)(S:Sto):R Fl:=(f ρ S).bind (zOH ρ i)
def DJ(F:Er->Er->MV->Rho->Sto->R Rho)(f g:AX)(d:MV)(ρ:Rho)(S:Sto):R Rho:=(f ρ S).bind λp S=>(g ρ S).bind λq S=>F p q d ρ S
def EJ(f:AX)(g:MV->Rho->Sto->R Rho)(ρ:Rho)(S:Sto):R Fl:=(f ρ S).bind (asgF g ρ)
def FJ(i:Rho->Sto->R Wk)(g:MV->Rho->Sto->R Rho)(b:AY)(ρ:Rho)(S:Sto):R Fl:=(i ρ S).bind λk S=>kY g b k.gs k.ds ρ S
def GJ(a:Rho->Sto->R (List Er))(c:Str)(ρ:Rho)(S:Sto):R Fl:=(a ρ S).bind λr S=>if r.length<=10 then .exc c [] S else .no
def HJ(cs:Ai)(i:Nat)(h:AY)(n:Nat)(F:List MV->Sto->R Er)(a:Rho->Sto->R (List Er))(ρ:Rho)(S:Sto):R Fl:=(noX (a ρ S)).bind λr S=>tryF cs i (λ_ S=>.ok (.next ρ) S) h ρ (zWD n F r S)
def IJ(cs:Ai)(i j:Nat)(h:AY)(n:Nat)(F:List MV->Sto->R Er)(a:Rho->Sto->R (List Er))(ρ:Rho)(S:Sto):R Fl:=(noX (a ρ S)).bind λr S=>tryF cs i (zOH ρ j) h ρ (zWD n F r S)
def JJ(ρ:Rho)(S:Sto):R Fl:=.ok (.next ρ) S
end
section
variable{X:Cx}{W:XW}{a e:Expr}{tg:Expr}{p pos:Pos}{ta:TA}{f:AX}{af:Rho->Sto->R (List Er)}
def augF(F:Er->Er->Sto->R Er)(i:Nat)(f:AX)(ρ:Rho)(S:Sto):R Fl:=(rdSl (ρ[i]?) S).bind λp S1=>(f ρ S1).bind λq S2=>(F p q S2).bind (zOH ρ i)
def zBA:bootBuiltins "sorted"=some (.builtin "sorted"):=by decide+kernel
end
section
def KJ(n:Nat)(F:List MV->Sto->R Er)(a:Rho->Sto->R (List Er))(ρ:Rho)(S:Sto):R Er:=(noX (a ρ S)).bind λr S=>zWD n F r S
def LJ(c:AZ)(f g:AX)(ρ:Rho)(S:Sto):R Er:=(noX (c ρ S)).bind λk S=>if k=true then f ρ S else g ρ S
def MJ(cs:Ai)(i:Nat)(h:AY)(f:AX)(ρ:Rho)(S:Sto):R Fl:=tryF cs i (λ_ S=>.ok (.next ρ) S) h ρ (f ρ S)
end
end M
end L2
namespace L2
open PySem PySem.Spec PyProof.Rows
namespace M
section
variable{X:Cx}{W:XW}{a e:Expr}{es:Bd}{f g:AX}{af:Rho->Sto->R (List Er)}{pos apos p p2:Pos}{fld m:Str}
def selM(m:Str)(l:List (Str×(List MV->Sto->R Er))):Er->Option (List MV->Sto->R Er)
 |.val (.obj c ns _)=>if m∈ns then none else l.lookup c
 |_=>none
def NJ(m:Str)(n:Nat)(l:List (Str×(List MV->Sto->R Er)))(f:AX)(af:Rho->Sto->R (List Er))(ρ:Rho)(S:Sto):R Er:=(f ρ S).bind λp S=>match selM m l p with
 |some F=>(af ρ S).bind λr S=>zT n F (p::r) S
 |none=>.no
end
def bQ:List MV->Option (List (List Nat))
 |[]=>some []
 |.str x::ds=>(bQ ds).map (x::·)
 |_::_=>none
theorem zWL{K:Be}{α:Ah}{H:Hp}: ∀{ds:Bh}{zs:Aa}{vs:List V}{us:Ae},bQ ds=some zs->DenL K α H ds vs->Vals vs us-> ∃l:List (Str×Tok),us=strValues l/\l.map (·.1)=zs.map mkS
 |[],zs,vs,us,e,d,r=>by cases e;rw [d.isnil]at r;cases r;exact⟨[],rfl,rfl⟩
 |x::ds,zs,vs,us,e,d,r=>by
  obtain⟨v,r',rfl,d1,d2⟩:=d.uncons
  cases r with
  |cons a b=>
   cases x<;>first |(cases e)|skip
   rename_i i;unfold bQ at e
   cases z:bQ ds with
   |none=>rw [z]at e;cases e
   |some ms=>
    rw [z]at e;cases e;cases xG d1;obtain⟨t,rfl⟩:=a;obtain⟨l,rfl,hl⟩:=zWL z d2 b;exact⟨(mkS i,t)::l,rfl,by rw [map_cons,hl];rfl⟩
section
variable{X:Cx}{W:XW}{a e:Expr}{es:Bd}{pos apos:Pos}{f:AX}{af:Rho->Sto->R (List Er)}
def extF:Er->List Er->Sto->R Er
 |p,[r],S=>match lsW S r with
  |some zs=>zLP p S λds=>if ds.length+zs.length<=sizeLine then some (ds++zs)else none
  |none=>.no
 |_,_,_=>.no
def zYW:zYJ X W zVK extF:=by
 intro p rs x vs α S H0 H Q α0 wd x0 dp da post
 match rs,da,post with
 |[],_,post=>exact post.elim
 |_::_::_,_,post=>exact post.elim
 |[r],da,post=>
  have post:Post X.g W α0 H0 (match lsW S r with |some zs=>zLP p S λds=>if ds.length+zs.length<=sizeLine then some (ds++zs)else none|none=>.no) Q:=post;split at post
  ·rename_i zs hz;obtain⟨v,rfl,dv⟩:=zVO da;obtain⟨b,us,rfl,hb,lb⟩:=zOL wd hz dv;obtain⟨c,ws,ds,es,rfl,h1,l1,eg,k⟩:=zMQ wd x0 dp post;split at eg
   ·rename_i hl;cases eg;exact⟨c,b,ws,us,rfl,rfl,h1,hb,by rw [l1.length,lb.length];exact hl,k _ (l1.append lb)⟩
   ·cases eg
  ·exact post.elim
def zYX(ho:PEm X W a f)(ha:PAm X W (e::es) af)
  (hbase:attributeBase a "extend" X.env (eval a X.env)=eval a X.env:=by rfl)
  (hfew:((backTo pos (starEach (e::es) X.env)).all (λx=>!x.1)&&(backToKw pos (keywordEach [] X.env)).all (λx=>x.1.isSome)
   &&decide ((e::es).length+([]:List Keyword).length+(if([]:List Keyword).isEmpty then 0 else 1)<30))=true:=by rfl)
  (hline:(apos.endLine==pos.line)=true:=by rfl) (hs:starEach (e::es) X.env=(false,eval e X.env)::starEach es X.env:=by rfl) (hplain:(backTo pos (starEach es X.env)).any (·.1)=false:=by rfl):
  PEm X W (.Call (.Attribute a "extend" apos) (e::es) [] pos) (λρ S=>(f ρ S).bind λp S1=>if kU p S1=true then(af ρ S1).bind λrs S2=>extF p rs S2 else .no):=
 zVM PySem.F.plainAttrs_list PySem.F.slot_list_extend PySem.F.type_list_extend zYD zYW zTW ho ha hbase hfew hline hs hplain
end
section
variable{X:Cx}{W:XW}{a e:Expr}{es:Bd}{f:AX}{af:Rho->Sto->R (List Er)}{apos pos:Pos}
theorem zGX{K:Be}{α:Ah}{H:Hp}: ∀(ps:Aa),DenL K α H (ps.map MV.str) (ps.map λp=>V.str (mkS p))
 |[]=>yC
 |p::ps=>zX (cB p) (zGX ps)
end
section
variable{X:Cx}{α:Ah}{S:Sto}{H:Hp}{pins:Ba}{σ:St}{s:Shared}{k:Nat}{fa:Addr}{fd:FuncData}{ps:Ai}{Fd:List MV->Sto->R Er}
theorem args_sorted1(a:Value):argsOk "sorted" ⟨[a],[]⟩:=by unfold argsOk;kernel_rfl
theorem zUF(a:Value):argsOk "list.sort" ⟨[a],[]⟩:=by unfold argsOk;kernel_rfl
end
open Classical in
def _root_.L2.Room.u128{k:Nat}{A:Around}(r:Room k A):A.units+128<cLine:=by have:=r.un;omega
section
variable{X:Cx}{α:Ah}{S:Sto}{H:Hp}{pins:Ba}{σ:St}{s:Shared}{k:Nat}{fa:Addr}{fd:FuncData}{ps:Ai}{Fd:List MV->Sto->R Er}
def zMX(d:MV):Prop:= ∃x r,d=.tup (.int x::r)
theorem yHG(I:Inv X pins σ H s)(wd:Wd X.g α S H){A:Around}(hu:A.units+64<cLine){d f:MV}{x y:V}{u v:Value}{k:Bool}(kd:zMX d)(kf:zMX f)(h1:Den X.K α H d x)(h2:Den X.K α H f y)(rx:RelV x u)(ry:RelV y v)
  (h:ltv S zM d f=some k) (prog:Program) (w:World) (E:VP) (Q:Bool->Shared->Prop) (hq:Q k s):wpAny (model prog w) A (keyLt' (tuples' true) u v) Q E s:=by
 obtain⟨x1,r1,rfl⟩:=kd;obtain⟨x2,r2,rfl⟩:=kf;obtain⟨a1,vs1,its1,rfl,l1,v1,t1,_⟩:=zUE I h1 rx;obtain⟨a2,vs2,its2,rfl,l2,v2,t2,_⟩:=zUE I h2 ry;obtain⟨w1,q1,rfl,d1,m1⟩:=l1.uncons;obtain⟨w2,q2,rfl,d2,m2⟩:=l2.uncons
 cases v1 with
 |@cons _ u1 _ us1 rv1 rr1=>
  cases v2 with
  |@cons _ u2 _ us2 rv2 rr2=>
   have h':(eqv S 39 (.int x1) (.int x2)).bind (λk=>if k=true then zTS (eqv S 39) (ltv S 39) r1 r2 else ltv S 39 (.int x1) (.int x2))=some k:=h;have he:eqv S 39 (.int x1) (.int x2)=some (decide (x1=x2)):=zEB 38 x1 x2;have ea:=zGL I wd 39 A _ _ _ _ _ _ _ (by omega) d1 d2 rv1 rv2 he;cases yY d1;cases yY d2;obtain⟨tk1,rfl⟩:=rv1;obtain⟨tk2,rfl⟩:=rv2;rw [he]at h';refine Srt.wp_keyLtI t1 t2 ea ?_ hq
   cases hd:decide (x1=x2)with
   |true=>
    rw [hd]at h';rw [iP rfl];have h'':zTS (eqv S 39) (ltv S 39) r1 r2=some k:=h'
    exact lexRS (yAZ (λd f x y u v k a b c d' e=>zGL I wd 39 A d f x y u v k (by omega) a b c d' e)
     (λd f x y u v k a b c d' e=>zTT I wd 39 A d f x y u v k (by omega) a b c d' e) m1 m2 rr1 rr2 h'')
   |false=>
    rw [hd]at h';rw [iN xF0];have h'':(some (decide (x1<x2)):Option Bool)=some k:=h';cases h'';rfl
theorem cmp_i(I:Inv X pins σ H s)(wd:Wd X.g α S H){A:Around}(hu:A.units+64<cLine){kds:Bh}(hne:kds≠[])(hkind: ∀d,d∈kds->zMX d)(ho:OrdD S kds){E':VP}:
  Srt.Cmp (model X.prog X.w) A E' s (tuples' true) (λp=> ∃d v,d∈kds/\Den X.K α H d v/\RelV v p.1) (ltV X.K α H S kds) where
 go x y hx hy st hk Q hq:=by
  obtain⟨v1,d1,r1⟩:=zJS hx;obtain⟨v2,d2,r2⟩:=zJS hy;obtain⟨t,ht⟩:=ho.any _ (bD (K:=X.K) (α:=α) (H:=H) hne x.1) _ (bD (K:=X.K) (α:=α) (H:=H) hne y.1);have e:ltV X.K α H S kds x y=t:=by unfold ltV;rw [ht];rfl
  rw [e]at hq;exact Srt.wp_lt hk (λE Q hq=>yHG I wd hu (hkind _ (bD hne x.1)) (hkind _ (bD hne y.1)) d1 d2 r1 r2 ht X.prog X.w E Q hq) hq
 tr x y z h1 h2:=by unfold ltV at h1 h2 ⊢;have mx:=bD (K:=X.K) (α:=α) (H:=H) hne x.1;have my:=bD (K:=X.K) (α:=α) (H:=H) hne y.1;have mz:=bD (K:=X.K) (α:=α) (H:=H) hne z.1;obtain⟨t1,e1⟩:=ho.any _ my _ mx;obtain⟨t2,e2⟩:=ho.any _ mz _ my;rw [e1]at h1;rw [e2]at h2;have h1:t1=false:=h1;have h2:t2=false:=h2;subst h1 h2;rw [ho.tr _ mx _ my _ mz e1 e2];rfl
 as x y h:=by unfold ltV at h ⊢;have mx:=bD (K:=X.K) (α:=α) (H:=H) hne x.1;have my:=bD (K:=X.K) (α:=α) (H:=H) hne y.1;obtain⟨t1,e1⟩:=ho.any _ mx _ my;rw [e1]at h;have h:t1=true:=h;subst h;rw [ho.as _ mx _ my e1];rfl
def yMR(I:Inv X pins σ H s){A:Around}{kds:Bh}{kvs:List V}{ks:Ae}(hne:kds≠[])(hkind: ∀d,d∈kds->zMX d)(dk:DenL X.K α H kds kvs)(vk:Vals kvs ks){E':VP}:
  wpAny (model X.prog X.w) A (keyKind' ks.toArray) (λq s'=>s'=s/\q=tuples' true) E' s:=by
 have ne:ks≠[]:=λz=>by have h1:=vk.length;have h2:=dk.length;rw [z]at h1;exact hne (List.length_eq_zero_iff.mp (by rw [<-h2,h1];rfl))
 have all: ∀u,u∈ks-> ∃d v,d∈kds/\Den X.K α H d v/\RelV v u:=by
  intro u hu;obtain⟨i,hi⟩:=getElem?_of_mem hu;have hl:i<kvs.length:=by rw [vk.length];exact(gS0.mp hi).1
  obtain⟨u',h1,r⟩:=vk.get (gE0 hl);rw [hi]at h1;cases h1;obtain⟨d,h2,h3⟩:=dk.get (gE0 hl);exact⟨d,_,mem_of_getElem? h2,h3,r⟩
 refine Srt.wp_kindI ne λu hu=>?_;obtain⟨d,v,md,dd,r⟩:=all u hu;obtain⟨x,rr,rfl⟩:=hkind d md;obtain⟨a,vs,its,rfl,l,vv,t,_⟩:=zUE I dd r;obtain⟨v1,r1,rfl,d1,_⟩:=l.uncons
 cases vv with
 |@cons _ u1 _ us1 rv rr'=>
  cases yY d1;obtain⟨tk,rfl⟩:=rv;exact⟨a,_,_,tk,us1,rfl,t,rfl⟩
end
section
variable{X:Cx}{α:Ah}{S:Sto}{H:Hp}{pins:Ba}{σ:St}{s:Shared}{k:Nat}{fa:Addr}{fd:FuncData}{ps:Ai}{Fd:List MV->Sto->R Er}
def zYY(hu:X.A.units+128<cLine)(I:Inv X pins σ H s)(wd:Wd X.g α S H){l:Addr}{xs:List V}{ds:Bh}(hl:SqL X.K H l xs)(dl:DenL X.K α H ds xs)
  (hlen:ds.length<64) (hpu: ∀d,d∈ds->zCF d=true) (hkind: ∀d,d∈ds->zMX d) (hord:OrdD S ds) {Q:VK}
  (hQ: ∀(idx:Ab)(p:Addr)(ys:List V),idx.Perm (List.range ds.length)->idx.Pairwise (λi j=> ∀a c,ds[i]? =some a->ds[j]? =some c->ltv S zM c a=some false)->H p=none->
   DenL X.K α H (idx.filterMap (ds[·]?)) ys->Q (.ref p) (upd H p (.lst ys))):wpAny (model X.prog X.w) X.A (call (.builtin "sorted") [.ref l]) (EP X pins σ Q) X.xe s:=by
 obtain⟨its,rv,⟨o,n0,e0,hc0,_,hd0⟩,_⟩:=I.list hl;have isl:s.heap.IsList l its.toArray:=⟨o,e0,hc0,n0,hd0⟩
 have hil:its.length=ds.length:=by rw [<-rv.length,dl.length]
 have hln:=sizeLine_eq;refine call_function_entry_kw kind_sorted plain_sorted entry_sorted (args_sorted1 _) ?_;unfold Builtin.«sorted»;refine wB0 (m:=checkCount "sorted" 1 1 _) (wP0 ?_);refine wB0 (collect_list isl ?_ (by omega));refine wB0 (wpAny_newList ?_);generalize hh1:(s.heap.push (seqObj "list" #[] 0)).update s.heap.objs.size (Obj.mapSeq (· ++its.toArray))=h1;have hsz:h1.objs.size=s.heap.objs.size+1:=by rw [<-hh1,Heap.size_update,size_push']
 have k1: ∀b u,s.heap.get? b=some u->h1.get? b=some u:=λb u e=>by rw [<-hh1,Heap.get?_update_other _ _ (ne_of_gt (Heap.lt_size e))];exact hP0 _ e
 have hoL:(h1.push (seqObj "list" its.toArray 0)).get? h1.objs.size=some (seqObj "list" its.toArray 0):=Heap.get?_push_size _ rfl;show wpAny _ _ _ _ _ {s with heap:=h1.push (seqObj "list" its.toArray 0)};dsimp only;generalize hL:h1.objs.size=L at *;have sL:s.heap.objs.size<=L:=by omega
 refine wB0 (wpAny_holding (wpAny_call_entry_kw slot_list_sort ⟨_,hoL,rfl⟩ entry_list_sort (Srt.sort_plainS hoL (by omega) λs2 he2=>?_) (zUF _)));dsimp only at he2;generalize hh2:h1.push (seqObj "list" its.toArray 0)=h2 at *;have fL:zEN X pins H L:=I.fpOk sL (I.hok.fresh sL);have k3: ∀b u,s.heap.get? b=some u->s2.heap.get? b=some u:=λb u e=>by rw [he2];refine hP0 _ (hP0 _ ?_);rw [Heap.get?_update_other _ _ (ne_of_gt (lt_of_lt_of_le (Heap.lt_size e) sL)), <-hh2];exact hP0 _ (k1 b u e)
 have I3:Inv X pins σ H s2:=by have:=I.kept (h':=s2.heap) (t':=s.toks) k3;rw [he2]at this ⊢;exact this
 have hu':X.A.in1.in1.units+64<cLine:=by show X.A.units+1+1+64<cLine;omega
 obtain⟨q,gL⟩: ∃q,s2.heap.get? L=some (seqObj "list" #[] q):=by rw [he2];exact⟨_,hP0 _ (hP0 _ (get?_update_seq hoL (λ_=>#[])))⟩
 refine⟨tuples' true,(λp=> ∃d v,d∈ds/\Den X.K α H d v/\RelV v p.1),ltV X.K α H S ds,λhge=>?_,λout op os=>?_⟩
 ·have ne:ds≠[]:=λz=>by rw [hil,z]at hge;exact absurd hge (by decide)
  refine⟨yMR I3 ne hkind dl rv,cmp_i I3 wd hu' ne hkind hord,λp hp=>?_⟩;have hp1:p.1∈its:=(of_mem_zip hp).1;obtain⟨i,hi⟩:=getElem?_of_mem hp1;have hl':i<xs.length:=by rw [rv.length];exact(gS0.mp hi).1
  obtain⟨u',h1',r⟩:=rv.get (gE0 hl');rw [hi]at h1';cases h1';obtain⟨d,h2',h3'⟩:=dl.get (gE0 hl');exact⟨d,_,mem_of_getElem? h2',h3',r⟩
 ·obtain⟨idx,ip,ie⟩:=zMV op.symm (List.range ds.length) (zYV hil hil);have ib: ∀i,i∈idx->i<ds.length:=λi hi=>mem_range.mp (ip.mem_iff.mp hi);have eo:out.map (·.2)=idx.filterMap (its[·]?):=by rw [<-ie,map_map];exact zJT λi hi=>by rw [hil];exact ib i hi
  have po:idx.Pairwise (λi j=> ∀a c,ds[i]? =some a->ds[j]? =some c->ltv S zM c a=some false):=by rw [<-ie,pairwise_map]at os;refine List.Pairwise.imp_of_mem (λ{i j} hi hj h a c ha hc=>?_) os;have ui:its[i]? =some (its[i]'(by rw [hil];exact ib i hi)):=gE0 _;have uj:its[j]? =some (its[j]'(by rw [hil];exact ib j hj)):=gE0 _;have h':(ltv S zM (zOS X.K α H ds ((its[j]?).getD .none)) (zOS X.K α H ds ((its[i]?).getD .none))).getD false=false:=h;rw [ui,uj]at h';simp only [Option.getD_some]at h';rw [yCE I3 hpu dl rv ui ha,yCE I3 hpu dl rv uj hc]at h';obtain⟨t,ht⟩:=hord.any c (mem_of_getElem? hc) a (mem_of_getElem? ha);rw [ht]at h';have h':t=false:=h';rw [ht,h']
  have vy:=Vals.pick rv idx;refine⟨_,rfl,wP0 ⟨_,rfl,.ref L,upd H L (.lst (idx.filterMap (xs[·]?))),?_,rfl,hQ idx L _ ip po (I.hok.fresh sL) (dl.pick idx)⟩⟩;obtain⟨f0,f1,f2,f3,f4,f5⟩:=fL
  have I6:Inv X pins σ H {s2 with heap:=s2.heap.update L (Obj.mapSeq λ_=>(out.map (·.2)).toArray)}:=
   I3.turned (t':=s2.toks) (λb o hb e=>(Heap.get?_update_other _ _ (Ne.symm hb)).trans e) f0 f1 f3 f4 f5
  obtain⟨n',gL2⟩: ∃n',(s2.heap.update L (Obj.mapSeq λ_=>(out.map (·.2)).toArray)).get? L=some (seqObj "list" (idx.filterMap (its[·]?)).toArray n'):=⟨_,by have:=get?_update_seq gL (λ_=>(out.map (·.2)).toArray);rw [eo]at this ⊢;exact this⟩
  refine zYU (its:=idx.filterMap (its[·]?)) I6 ⟨f0,f1,f2,f3,f4,f5⟩ (le_trans I.sz sL) gL2 vy ?_
  ·have:=List.length_filterMap_le (xs[·]?) idx;have h3:=ip.length_eq;rw [length_range]at h3;omega
end
structure SrtJ(S:Sto)(ds:Bh):Prop where
 len:ds.length<64
 pu: ∀d,d∈ds->zCF d=true
 kind: ∀d,d∈ds->zMX d
 ord:OrdD S ds
open Classical in
def zJY(rs:List Er)(S:Sto):R Er:=match rs with
 |[p]=>match kG S p with
  |some ds=>if h: ∃r,SrtJ S ds/\ ∀r',zWJ S ds ds r'->r'=r then .ok (.new (Classical.choose h)) S else .no
  |none=>.no
 |_=>.no
def zWM{p:Er}{S:Sto}{ds r:Bh}(e:kG S p=some ds)(ok:SrtJ S ds)(u: ∀r',zWJ S ds ds r'->r'=r)(ex:zWJ S ds ds r):zJY [p] S=.ok (.new r) S:=by
 unfold zJY;dsimp only;rw [e];dsimp only;have h: ∃r,SrtJ S ds/\ ∀r',zWJ S ds ds r'->r'=r:=⟨r,ok,u⟩
 rw [dif_pos h];obtain⟨_,u'⟩:=Classical.choose_spec h;rw [<-u' r ex]
section
variable{X:Cx}{W:XW}
def zMY(hu:X.A.units+128<cLine):CallR X (.builtin "sorted") (λxs H Q=> ∃α S l vs ds,xs=[.ref l]/\Wd X.g α S H/\SqL X.K H l vs/\DenL X.K α H ds vs/\SrtJ S ds/\
  ∀(idx:Ab)(p:Addr)(ys:List V),idx.Perm (List.range ds.length)->idx.Pairwise (λi j=> ∀a c,ds[i]? =some a->ds[j]? =some c->ltv S zM c a=some false)->H p=none->DenL X.K α H (idx.filterMap (ds[·]?)) ys->Q (.ref p) (upd H p (.lst ys))):=by
 intro pins s σ H xs us Q I r h;obtain⟨α,S,l,vs,ds,rfl,wd,hl,dl,ok,q⟩:=h;obtain⟨u,rfl,rx⟩:=vals1 r;cases rx;exact zYY hu I wd hl dl ok.len ok.pu ok.kind ok.ord q
def zWN:zCA X W (λxs H Q=> ∃α S l vs ds,xs=[.ref l]/\Wd X.g α S H/\SqL X.K H l vs/\DenL X.K α H ds vs/\SrtJ S ds/\
  ∀(idx:Ab)(p:Addr)(ys:List V),idx.Perm (List.range ds.length)->idx.Pairwise (λi j=> ∀a c,ds[i]? =some a->ds[j]? =some c->ltv S zM c a=some false)->H p=none->DenL X.K α H (idx.filterMap (ds[·]?)) ys->Q (.ref p) (upd H p (.lst ys))) zJY:=by
 intro rs vs α S H Q wd d post;unfold zJY at post;split at post
 ·split at post
  ·rename_i ds e;split at post
   ·rename_i h;obtain⟨v,rfl,dv⟩:=nS d;obtain⟨l,us,rfl,h1,h2⟩:=zCP rfl wd e dv;obtain⟨ok,u⟩:=Classical.choose_spec h;refine⟨α,S,l,us,ds,rfl,wd,h1,h2,ok,λidx p ys i1 i2 hp hd=>?_⟩;have er:=u _ ⟨idx,i1,i2,rfl⟩;rw [er]at hd;exact Post.newl post wd hp hd
   ·exact post.elim
  ·exact post.elim
 ·exact post.elim
end
section
variable{X:Cx}{W:XW}{a b o i e:Expr}{es:Bd}{f g:AX}{af:Rho->Sto->R (List Er)}{apos pos:Pos}{α:Ah}{H:Hp}{pins:Ba}{σ:St}{s:Shared}
def kyOf:MV->Option Key
 |.int i=>some (.inl i)
 |.str x=>some (.inr (mkS x))
 |_=>none
def ky_D: ∀{k:MV}{k':Key},kyOf k=some k'->KeyD k k'
 |.int i,_,h=>by cases h;exact rfl
 |.str x,_,h=>by cases h;exact rfl
 |.non,_,h=>nomatch h
 |.bl _,_,h=>nomatch h
 |.tup _,_,h=>nomatch h
 |.scr _,_,h=>nomatch h
 |.loc _,_,h=>nomatch h
 |.typ _,_,h=>nomatch h
 |.obj _ _ _,_,h=>nomatch h
def ky_V: ∀{k:MV}{k':Key}{v:V},kyOf k=some k'->Den X.K α H k v->v=kV k'
 |.int i,_,_,h,d=>by cases h;exact yY d
 |.str x,_,_,h,d=>by cases h;exact xG d
 |.non,_,_,h,_=>nomatch h
 |.bl _,_,_,h,_=>nomatch h
 |.tup _,_,_,h,_=>nomatch h
 |.scr _,_,_,h,_=>nomatch h
 |.loc _,_,_,h,_=>nomatch h
 |.typ _,_,_,h,_=>nomatch h
 |.obj _ _ _,_,_,h,_=>nomatch h
def zRM: ∀{k:Key}{u:Value},RelV (kV k) u->(zZ X.prog X.w).is k u=true
 |.inl i,_,h=>by obtain⟨t,rfl⟩:=(h: ∃t,_=_);exact zQJ _ _ i t
 |.inr x,_,h=>by obtain⟨t,rfl⟩:=(h: ∃t,_=_);exact bK _ _ x t
def zFO(k:MV):Bool:=(kyOf k).isSome
def yJG{kvs:Ca}{d:Addr}(ob:ObD X.g α H d (.dic kvs))(hk:kvs.all (λp=>zFO p.1)=true): ∃ks,DK X H d ks/\DenK X.K α H kvs ks:=by
 rcases ob with⟨ks,h,l⟩|z
 ·exact⟨ks,.inl h,l⟩
 ·exact False.elim z
def zFP(S:Sto):Er->Option (Nat×List (MV×MV))
 |.val (.loc l)=>match S[l]? with
  |some (.dic kvs)=>if kvs.all (λp=>zFO p.1)=true then some (l,kvs)else none
  |_=>none
 |_=>none
def dxo{S:Sto}(wd:Wd X.g α S H){r:Er}{x:V}{l:Nat}{kvs:Ca}(e:zFP S r=some (l,kvs))(d:DenX X.K α H r x):
  ∃c ks,x=.ref c/\α[l]? =some c/\S[l]? =some (.dic kvs)/\DK X H c ks/\DenK X.K α H kvs ks/\kvs.all (λp=>zFO p.1)=true:=by
 unfold zFP at e;split at e
 ·rename_i n;obtain⟨c,rfl,h⟩:=zAD d;split at e
  ·rename_i ks hS;split at e
   ·rename_i hk;obtain⟨rfl,rfl⟩:=Prod.mk.inj (Option.some.inj e);obtain⟨xs,dd,l⟩:=yJG (wd.obj _ c _ h hS) hk;exact⟨c,xs,rfl,h,hS,dd,l,hk⟩
   ·cases e
  ·cases e
 ·cases e
def zUG{ks:List (Key×V)}{d:Addr}(dd:DK X H d ks):Mut (H d):=by
 rcases dd with z|z
 ·rw [z];exact trivial
 ·exact False.elim z
def rSetX(X:Cx):TSet:=λo i v H Q=> ∃(ks:List (Key×V))(d:Addr)(k:Key),o=.ref d/\i=kV k/\DK X H d ks/\ks.length<sizeLine/\Q (upd H d (.dK (zEI ks k v)))
def zYZ:PSet X (rSetX X):=by
 intro pins s σ H o i v ov iv u Q I ro ri rv h;obtain⟨ks,d,k,rfl,rfl,dd,hz,q⟩:=h;cases ro;obtain⟨z,hd,vs,rel,dm⟩:=bE I dd;have hl:ks.length=vs.length:=Paired.length rel;have hp:=zJU ks k v;refine wpAny_setItem_pairs (knd:=zZ X.prog X.w) (hsz:=by omega) (zRM ri) dm λh' dm' hs'=>⟨_,?_,q⟩
 have he: ∃q,h'.get? d=some q:=let ⟨q,_,_,hq,_⟩:=dm';⟨q,hq⟩;exact I.write (t':=_) (x:=d) (e:=d) (zUG dd) (.inl rfl) (λb uo hb eo=>(hs'.2 b hb).trans eo) he ⟨by omega,hd,_,yCF rel _ rv,dm'⟩
def zEK(p q:Er)(d:MV)(ρ:Rho)(S:Sto):R Rho:=match q with
 |.val k=>match zFP S p with
  |some (l,kvs)=>if zFO k=true/\kvs.length<1000000 then .ok ρ (S.set l (.dic (putK kvs k d)))else .no
  |none=>.no
 |_=>.no
def zOU(ho:PEm X W o f)(hi:PEm X W i g)
  (ha: ∀v,assign (.Subscript o i pos) X.env v=(do
   let ov <-holding [v] (eval o X.env);let iv <-holding [v,ov] (eval i X.env)
   standAt pos
   holding [v,ov,iv] (setItem ov iv v)
   release [v,ov,iv] []):=by intro _;rfl):PGm X W (.Subscript o i pos) (λd ρ S=>(f ρ S).bind λp S1=>(g ρ S1).bind λq S2=>zEK p q d ρ S2):=by
 obtain⟨to,ho,fo⟩:=ho;obtain⟨ti,hi,fi⟩:=hi;refine⟨_,yAA ho hi zYZ ha,λα ρ S σ H d v Q wd sl de q=>fo α ρ S σ H _ wd sl (q.bind λu p S1 α1 H1 e1 x1 w1 d1 q1=>fi α1 ρ S1 σ H1 _ w1 (sl.ext x1) ((q1.shift x1).bind λu2 p2 S2 α2 H2 e2 x2 w2 d2 q2=>?_))⟩
 replace q2:=q2.shift x2
 have d1':=DenX.ext x2 d1.1;have de2:=(de.ext x1).ext x2;unfold zEK at q2;split at q2
 ·rename_i k;split at q2
  ·rename_i l kvs e;split at q2
   ·rename_i hk;obtain⟨c,ks,rfl,hc,hS,dd,dl,hall⟩:=dxo w2 e d1';obtain⟨k',hk'⟩:=Option.isSome_iff_exists.mp hk.1;refine⟨ks,c,k',rfl,ky_V (X:=X) (α:=α2) (H:=H2) hk' d2.1,dd,?_,?_⟩
    ·rw [dl.length];exact lt_of_lt_of_le hk.2 (fits (le_refl _))
    ·have xw:=w2.writex hc (o:=.dK (zEI ks k' v));have sl2:=((sl.ext x1).ext x2).ext xw;exact q2 σ α2 _ xw (w2.write hc (.inl ⟨_,yK,(zRK (k:=k) dl (ky_D hk') de2).ex0 xw.toEx0⟩)) sl2
   ·exact q2.elim
  ·exact q2.elim
 ·exact q2.elim
def yCJ{prog:Program}{w:World}{KK:Type}[DecidableEq KK]{knd:KeyKind prog w KK}{A:Around}{E:VP}{s:Shared}{d:Addr}{k:KK}{key:Value}{f:KK->Option Value}{Q:VP}(hkey:knd.is k key=true)(hd:(d==sysModules)=false)(hm:s.heap.MapOf knd d f)
  (h:Q (.bool !(f k).isSome) {s with toks:=s.toks+1}):wpAny (model prog w) A (compareOp .NotIn key (.ref d)) Q E s:=by
 show wpAny _ _ (do return .bool (!(<-contains (.ref d) key))) Q E s;refine wB0 ?_;unfold contains
 try with_reducible refine wpAny_holding ?_
 refine wB0 (wpAny_specialOf hm.typeIs slot_dict_contains.lookup ?_);show wpAny _ _ (if(some (Value.builtin "dict.__contains__")==some Value.none)=true then _ else _) _ E s;rw [iN (by rw [beq_builtin_none];exact xF0)]
 refine wB0 (wpAny_callSpecialUnlessNone?_slot (name:=Str.ofString "__contains__") hm.typeIs slot_dict_contains
  (wpAny_call_entry slot_dict_contains hm.typeIs entry_dict_contains ?_ (args_dict_contains _ _)))
 show wpAny _ _ (dictGet d key >>= _) _ _ s;refine wB0 (wpAny_dictGet_of hkey hm ?_)
 cases hf:f k with
 |some v=>
  rw [hf]at h;show wpAny _ _ (ret (.bool true)) _ _ _;exact wP0 ⟨_,rfl,wpAny_truthy_bool (wP0 h)⟩
 |none=>
  rw [hf]at h;show wpAny _ _ (Builtin.Dict.pendingKey? d key >>= _) _ _ _;exact wB0 (wpAny_pendingKey_other hd (wP0 ⟨_,rfl,wpAny_truthy_bool (wP0 h)⟩))
abbrev rInX(X:Cx)(neg:Bool):R2:=λx y H Q=> ∃(ks:List (Key×V))(d:Addr)(k:Key),x=kV k/\y=.ref d/\DK X H d ks/\
 Q (.bl (if neg=true then !(zAO ks k).isSome else(zAO ks k).isSome)) H
theorem look_same{ks:List (Key×V)}{vs:List (Key×Value)}(r:KV ks vs)(k:Key):(valueAt vs k).isSome=(zAO ks k).isSome:=by
 obtain⟨l1,l2⟩:=zWK r k
 cases h:zAO ks k with
 |none=>rw [l2 h];rfl
 |some v=>obtain⟨u,e,_⟩:=l1 v h;rw [e];rfl
def yCK:OpR X (compareOp .In) (rInX X false):=by intro pins s σ H x y v u Q I rx ry h;obtain⟨ks,d,k,rfl,rfl,dd,q⟩:=h;cases ry;obtain⟨_,hs,vs,rel,dm⟩:=bE I dd;refine wpAny_in_of (knd:=zZ X.prog X.w) (zRM rx) hs dm.mapOf ?_;rw [look_same rel k];exact⟨.bl (zAO ks k).isSome,H,I.kept (t':=_) (λ_ _ z=>z),rfl,q⟩
def zZA:OpR X (compareOp .NotIn) (rInX X true):=by intro pins s σ H x y v u Q I rx ry h;obtain⟨ks,d,k,rfl,rfl,dd,q⟩:=h;cases ry;obtain⟨_,hs,vs,rel,dm⟩:=bE I dd;refine yCJ (knd:=zZ X.prog X.w) (zRM rx) hs dm.mapOf ?_;rw [look_same rel k];exact⟨.bl !(zAO ks k).isSome,H,I.kept (t':=_) (λ_ _ z=>z),rfl,q⟩
def zGY(neg:Bool)(p q:Er)(S:Sto):R Er:=match p with
 |.val k=>match zFP S q with
  |some (_,kvs)=>if zFO k=true then .ok (.val (.bl (if neg=true then !(look kvs k).isSome else(look kvs k).isSome))) S else .no
  |none=>.no
 |_=>.no
theorem zZB{kvs:Ca}{ks:List (Key×V)}{k:MV}{k':Key}(l:DenK X.K α H kvs ks)(hk:KeyD k k'):(zAO ks k').isSome=(look kvs k).isSome:=by
 obtain⟨g1,g2⟩:=zMW l hk
 cases h:look kvs k with
 |none=>rw [g2 h];rfl
 |some v=>obtain⟨u,e,_⟩:=g1 v h;rw [e];rfl
def zOV{neg:Bool}:Op2 X W (rInX X neg) (zGY neg):=by
 intro p q x y α S H Q wd dp dq post;unfold zGY at post;split at post
 ·rename_i k;split at post
  ·rename_i l kvs e;split at post
   ·rename_i hk;obtain⟨c,ks,rfl,_,_,dd,dl,_⟩:=dxo wd e dq;obtain⟨k',hk'⟩:=Option.isSome_iff_exists.mp hk;refine⟨ks,c,k',ky_V (X:=X) (α:=α) (H:=H) hk' dp,rfl,dd,?_⟩;rw [zZB dl (ky_D hk')];exact Post.val post wd (wY _)
   ·exact post.elim
  ·exact post.elim
 ·exact post.elim
def yMS(ha:PEm X W a f)(hb:PEm X W b g)(hm:behindInMarks .In b=false:=by with_unfolding_all rfl):PEm X W (.Compare a [.In] [b] pos) (λρ S=>(f ρ S).bind λp S1=>(g ρ S1).bind λq S2=>zGY false p q S2):=zJF yCK zOV ha hb hm
def yMT(ha:PEm X W a f)(hb:PEm X W b g)(hm:behindInMarks .In b=false:=by with_unfolding_all rfl):PTm X W (.Compare a [.In] [b] pos) (λρ S=>((f ρ S).bind λp S1=>(g ρ S1).bind λq S2=>zGY false p q S2).bind asB):=zCM yCK zOV ha hb hm
def zMZ(ha:PEm X W a f)(hb:PEm X W b g)(hm:behindInMarks .NotIn b=false:=by with_unfolding_all rfl):PTm X W (.Compare a [.NotIn] [b] pos) (λρ S=>((f ρ S).bind λp S1=>(g ρ S1).bind λq S2=>zGY true p q S2).bind asB):=zCM zZA zOV ha hb hm
end
section
variable{X:Cx}{W:XW}{a b o i e:Expr}{es:Bd}{f g:AX}{af:Rho->Sto->R (List Er)}{apos pos:Pos}{α:Ah}{H:Hp}{pins:Ba}{σ:St}{s:Shared}
def delK(kvs:Ca)(k:MV):List (MV×MV):=kvs.filter λp=>!decide (p.1=k)
def popXF(p:Er)(rs:List Er)(S:Sto):R Er:=match rs with
 |[.val k,.val y]=>match zFP S p with
  |some (l,kvs)=>if zFO k=true then(match look kvs k with |some d=>.ok (.val d) (S.set l (.dic (delK kvs k)))|none=>.ok (.val y) S)else .no
  |none=>.no
 |_=>.no
def isDx(p:Er)(S:Sto):Bool:=(zFP S p).isSome
def zZC{ks:List (Key×V)}{vs:List (Key×Value)}: ∀{us:Ae},KV ks vs->us.length=vs.length->(∀(j:Nat)(v:Value),us[j]? =some v-> ∃(k:Key)(x:Value),vs[j]? =some (k,x)/\(zZ X.prog X.w).is k v=true)->Vals (ks.map λp=>kV p.1) us:=by
 intro us kv;unfold KV at kv
 induction kv generalizing us with
 |nil=>intro hl _;cases us with
  |nil=>exact .nil
  |cons a b=>simp at hl
 |@cons p q ps qs h t ih=>
  intro hl hv
  cases us with
  |nil=>simp at hl
  |cons a b=>
   obtain⟨k,x,e,hi⟩:=hv 0 a rfl;simp only [List.getElem?_cons_zero,Option.some.injEq]at e;subst e;rw [map_cons];refine .cons ?_ (ih (by simpa using hl) λj v hj=>by simpa using hv (j+1) v (by simpa using hj));rw [h.1];rcases yA hi with⟨i,t,e1,e2⟩|⟨i,t,e1,e2⟩
   ·subst e2;rw [show k=.inl i from e1];exact⟨t,rfl⟩
   ·subst e2;rw [show k=.inr i from e1];exact⟨t,rfl⟩
end
section
variable{X:Cx}{W:XW}{α:Ah}{H:Hp}
def tupKF:List Er->Sto->R Er
 |[r],S=>match zFP S r with |some (_,kvs)=>.ok (.val (.tup (kvs.map (·.1)))) S|none=>.no
 |_,_=>.no
def zCW:List Er->Sto->R Er
 |[r],S=>match zFP S r with |some (_,kvs)=>.ok (.new (kvs.map (·.1))) S|none=>.no
 |_,_=>.no
def zRN(hc:X.calm=true):zCA X W (λxs H Q=> ∃d ks,xs=[.ref d]/\DK X H d ks/\X.calm=true/\ ∀l,H l=none->Q (.ref l) (upd H l (.lst (ks.map λp=>kV p.1)))) zCW:=by
 intro rs vs α S H Q wd d post;unfold zCW at post;split at post
 ·split at post
  ·rename_i n kvs e;obtain⟨v,rfl,dv⟩:=nS d;obtain⟨c,ks,rfl,h1,h2,dd,dl,_⟩:=dxo wd e dv;exact⟨c,ks,rfl,dd,hc,λl hl=>Post.newl post wd hl (zGW dl)⟩
  ·exact post.elim
 ·exact post.elim
def yMU(hc:X.calm=true):zCA X W (λxs H Q=> ∃(a:Addr)(bs:Bb),xs=[.ref a]/\SqL X.K H a (bs.map V.bl)/\X.calm=true/\Q (.bl (bs.any id)) H) anyF:=by
 intro rs vs α S H Q wd d post;unfold anyF at post;split at post
 ·split at post
  ·rename_i bs e;obtain⟨v,rfl,dv⟩:=nS d
   cases z:kG S _ with
   |none=>rw [z]at e;cases e
   |some ds=>
    rw [z]at e;obtain⟨a1,us,rfl,s,l⟩:=zCP rfl wd z dv;refine⟨a1,bs,rfl,?_,hc,Post.val post wd (wY _)⟩;rw [<-zGP e l];exact s
  ·exact post.elim
 ·exact post.elim
end
section
variable{X:Cx}{W:XW}{a b:Expr}{f g:AX}{pos:Pos}
def zOW:CallR X (.builtin "any") (λxs H Q=> ∃(a:Addr)(bs:Bb),xs=[.ref a]/\SqL X.K H a (bs.map V.bl)/\X.calm=true/\Q (.bl (bs.any id)) H):=by
 intro pins s σ H xs us Q I r h;obtain⟨a,bs,rfl,hq,hc,q⟩:=h;obtain⟨u,rfl,ru⟩:=vals1 r;cases ru;obtain⟨its,rv,pl,hz⟩:=I.list hq;have hlen:its.length=bs.length:=by rw [<-rv.length,lM]
 refine PySem.call_any_walk (wpAny_pyIter_list pl.isList ?_);have hI:a≠s.heap.objs.size:=by obtain⟨o,ho,_⟩:=pl.isList;exact ne_of_lt (Heap.lt_size ho)
 have I1: ∀(h':Heap)(tk:Nat),(∀b o,b∉[s.heap.objs.size]->(s.heap.push {cls:=.type "list_iterator",data:=.fields #[.ref a,.int 0 0]}).get? b=some o->h'.get? b=some o)->Inv X pins σ H {s with heap:=h',toks:=tk}:=λh' tk k=>
  I.kept λb o e=>k b o (by simpa using ne_of_lt (Heap.lt_size e)) (hP0 _ e)
 refine⟨s.heap.objs.size,[s.heap.objs.size,a],[s.heap.objs.size],its.toArray.size,_,_,λi=>bs.getD i false,rfl,PySem.Walks.list (by first |exact I.ok.hd hc|exact(show X.A.in1.handled=none from I.ok.hd hc)) _ a hI its.toArray,⟨⟨_,Heap.get?_push_size _ rfl,rfl,rfl⟩,pl.isList.at λo e=>hP0 _ e⟩,?_,λh' tk k=>?_⟩
 ·intro i v s' Q' E' hv hQ';have hv':its[i]? =some v:=by simpa using hv
  have hi:i<bs.length:=by rw [<-hlen];exact(gS0.mp hv').1
  have hb:(bs.map V.bl)[i]? =some (V.bl (bs.getD i false)):=by rw [getElem?_map,gE0 hi];simp [getD_eq_getElem?_getD,hi]
  obtain⟨u',hu',rv'⟩:=rv.get hb;rw [hv']at hu';cases hu';cases rv';exact wpAny_truthy_bool hQ'
 ·refine⟨.bl (bs.any id),H,I1 h' tk k,?_,q⟩;show Value.bool _=Value.bool _;congr 1;rw [sA,hlen]
  have: ∀(l:Bb),(List.range l.length).any (λi=>l.getD i false)=l.any id:=by
   intro l;rw [Bool.eq_iff_iff,any_eq_true,any_eq_true];constructor
   ·rintro⟨i,hi,h⟩;have hi':=mem_range.mp hi;exact⟨l[i],getElem_mem hi',by simpa [getD_eq_getElem?_getD,hi']using h⟩
   ·rintro⟨x,hx,h⟩;obtain⟨i,hi,rfl⟩:=getElem_of_mem hx;exact⟨i,mem_range.mpr hi,by simpa [getD_eq_getElem?_getD,hi]using h⟩
  exact this bs
def shrC(i j:Int):Prop:=0<=j
instance(i j:Int):Decidable (shrC i j):=inferInstanceAs (Decidable (_<=_))
end
end M
end L2
namespace PySem
def zOX:typeLookup (.type "list") "keys"=pure none:=am_miss_of_fast (by decide+kernel)
def getAttr?_miss_list{prog:Program}{w:World}{A:Around}{E:VP}{s:Shared}{a:Addr}{o:Obj}{xs:Ag}{k:Nat}{name:Str}{Q:Option Value->Shared->Prop}
  (hx:s.heap.get? a=some o) (hc:o.cls=.type "list") (hdat:o.data=.seq xs k) (hd:o.dict=none) (hmiss:typeLookup (.type "list") name=pure none) (hname:(["__module__","__name__","__qualname__","__doc__","__annotations__"]:Ai).contains name=false) (hA:A.handled=none)
  (h: ∀h' tk,(∀b o,s.heap.get? b=some o->h'.get? b=some o)->Q none {s with heap:=h',toks:=tk}) (hsz:name.length+100<=sizeLine:=by size_fits):
  wpAny (model prog w) A (getAttr? (.ref a) name) Q E s:=by
 obtain⟨c,dct,dat,sl⟩:=o;simp only at hc hdat hd;subst hc hdat hd;obtain⟨hp,g,d,tk,os⟩:=s;have hT: ∀tk',(⟨hp,g,d,tk',os⟩:Shared).TypeIs (.ref a) "list":=λ_=>⟨_,hx,rfl⟩
 have f1:=sub_AttributeError;have f3:=F.slot_list_getattribute.lookup;have f4:=F.slot_list_getattribute.bind (.ref a);have f5:=am_list_getattr_none;unfold getAttr? getAttrBy? getAttrBy
 repeat (any_goals (first |assumption|exact hT _|((with_reducible show wpAny _ _ (call (Value.builtin "list.__getattribute__") _ _) _ _ _);refine call_meets F.slot_list_getattribute (hT _) am_entry_list_getattribute (F.args_list_getattribute_2 _ _) (meets_getattribute_miss_list a xs k sl name _ hmiss hname hsz) ⟨hx,hA,λh' tk' e hx'=>?_⟩)|wp_step))
 obtain⟨t',u',he⟩:=hx'.there;show wpAny _ _ (getattributeRaised _ _ _ _ _ _ _) _ _ _;unfold getattributeRaised
 repeat (any_goals (first |assumption|wp_step))
 exact h _ _ hx'.keeps
namespace F
def entry_dict_update_loop:entryFor table "dict.update.loop"=some Builtin.«dict.update.loop»:=entryFor_of_tree (by kernel_rfl)
def plain_dict_update_loop:plainId "dict.update.loop"=true:=by decide+kernel
end F
open PyProof.Rows
section
variable{prog:Program}{w:World}{K:Type}[DecidableEq K]{knd:KeyKind prog w K}{A:Around}{E:VP}{s:Shared}{R:Result->Shared->Prop}
def zUH(knd:KeyKind prog w K)(h:Heap)(kv:K×Value)(v:Value):Prop:= ∃a key,v=.ref a/\IsTup h a #[key,kv.2]/\knd.is kv.1 key=true
def zFQ{I D:Addr}{fp:Ah}{n:Nat}{P:Nat->Value->Prop}{St:Nat->Heap->Prop}(W:Walks prog w A.in1 I fp [I] n P St)(hDf:D∉fp)(kvs:List (K×Value))(hn:kvs.length=n)(hz:n<=sizeLine){h₀:Heap}
  (hP: ∀i v,P i v-> ∃kv,kvs[i]? =some kv/\zUH knd h₀ kv v) (hI:h₀.get? I=none) (hD:h₀.get? D=none):
  ∀(k i:Nat)(j:Int)(s:Shared),n - i=k->i<=n->St i s.heap->s.heap.DictOf knd D (merged [] (kvs.take i))->(∀b o,h₀.get? b=some o->s.heap.get? b=some o)->
   (∀h' tk,(∀b o,h₀.get? b=some o->h'.get? b=some o)->h'.DictOf knd D (merged [] kvs)->R (.ok (.ret .none)) {s with heap:=h',toks:=tk})->
   codeAny (model prog w) A (.builtin "dict.update.loop" ⟨[.ref D,.ref I,rawInt j,.none],[]⟩) R s:=by
 have hDI:D≠I:=λe=>hDf (e▸W.sub _ (mS.mpr rfl));intro k
 induction k with
 |zero=>
  intro i j s hk hi hst hS hkeep hR;have hin:i=n:=by omega
  subst hin;refine codeAny_builtin F.entry_dict_update_loop ?_;rw [Around.under_plainId F.plain_dict_update_loop _];show wpAny _ A.in1 (pyNext (.ref I) >>= _) _ _ s;refine wB0 (W.done s _ _ hst λh' tk hk'=>?_);show wpAny _ A.in1 (Builtin.Dict.addKeywords D [] >>= λ_=>ret Value.none) _ _ _;refine wB0 (wP0 ?_);rw [<-hn,take_length]at hS;refine wP0 (hR h' tk (λb o e=>?_) ?_)
  ·exact hk' b o (λh=>by rw [mS.mp h,hI]at e;cases e) (hkeep b o e)
  ·obtain⟨o,es,ep,ho,rest⟩:=hS;exact⟨o,es,ep,hk' D o (λh=>hDI (mS.mp h)) ho,rest⟩
 |succ k ih=>
  intro i j s hk hi hst hS hkeep hR;have hlt:i<n:=by omega
  refine codeAny_builtin F.entry_dict_update_loop ?_;rw [Around.under_plainId F.plain_dict_update_loop _];show wpAny _ A.in1 (pyNext (.ref I) >>= _) _ _ s;refine wB0 (W.item i s _ _ hlt hst λv h' tk hPv hst' hk'=>?_);obtain⟨kv,hkv,a,key,rfl,hT,hkey⟩:=hP i v hPv;have hkeep': ∀b o,h₀.get? b=some o->h'.get? b=some o:=λb o e=>hk' b o (λh=>by rw [mS.mp h,hI]at e;cases e) (hkeep b o e);have hS':h'.DictOf knd D (merged [] (kvs.take i)):=by obtain⟨o,es,ep,ho,rest⟩:=hS;exact⟨o,es,ep,hk' D o (λh=>hDI (mS.mp h)) ho,rest⟩
  obtain⟨o,ho,hc,nn,hdat⟩:=hT.keeps hkeep';have hTI:Shared.TypeIs {s with heap:=h',toks:=tk} (.ref a) "tuple":=⟨o,ho,hc⟩
  refine wB0 (wpAny_holding ?_);refine wB0 (wpAny_tryCatch ?_);unfold Builtin.Dict.pairItems;refine wB0 (wpAny_typeOf hTI ?_);rw [iP (by decide)];refine wB0 ?_;show wpAny _ _ (do match (<-load a).data with |.seq xs _=>pure (some xs)|_=>pure none) _ _ _;refine wB0 (wpAny_load ho ?_);rw [hdat];refine wP0 (wP0 ?_);show wpAny _ _ (holding [key,kv.2] (dictSet D key kv.2)) _ _ _;refine wpAny_holding ?_;have hlen:=merged_length_le [] (kvs.take i);have hl2:(kvs.take i).length<=n:=by rw [<-hn];exact List.length_take_le' i kvs
  refine wpAny_dictSet_pairs (s:={s with heap:=h',toks:=tk}) (hsz:=by rw [length_nil]at hlen;omega) hkey hS' λh2 hd2 hs2=>?_;have hkeep2: ∀b o,h₀.get? b=some o->h2.get? b=some o:=λb o e=>by rw [hs2.2 b (λh=>by rw [h,hD]at e;cases e)];exact hkeep' b o e
  refine wP0 ⟨plainId_quiet F.plain_dict_update_loop _,ih (i+1) (j+1) _ (by omega) hlt (W.frame _ _ _ hst' λb hb o e=>?_) ?_ hkeep2 λh3 tk3 k3 d3=>hR h3 tk3 k3 d3⟩
  ·rw [hs2.2 b (λh=>hDf (h▸hb))];exact e
  ·rw [merged_take_succ _ _ _ _ hkv];exact hd2
def zIM{l:Addr}{its:Ag}{o:Obj}{c:Nat}{kvs:List (K×Value)}{Q:VP}(hA:A.handled=none)(ho:s.heap.get? l=some o)(hc:o.cls=.type "list")(hd:o.dict=none)(hdat:o.data=.seq its c)(hlen:its.size=kvs.length)(hz:its.size<=sizeLine)
  (hP: ∀(i:Nat) v,its[i]? =some v-> ∃kv,kvs[i]? =some kv/\zUH knd s.heap kv v)
  (h: ∀h' tk,(∀b o,s.heap.get? b=some o->h'.get? b=some o)->h'.DictOf knd s.heap.objs.size (merged [] kvs)->Q (.ref s.heap.objs.size) {s with heap:=h',toks:=tk}):
  wpAny (model prog w) A (call (.type "dict") [.ref l]) Q E s:=by
 refine callType_codes (Q₁:=λobj s₁=>obj=.ref s.heap.objs.size/\s₁={s with heap:=s.heap.push {cls:=.type "dict",data:=.dict #[]}}) F.kt_called_dict (F.kt_typeCall_dict_1 _) F.entry_dict_init (kt_code_dict_new _ ⟨rfl,rfl⟩) ?_;rintro obj s₁ ⟨rfl,rfl⟩;have hnew:(s.heap.push {cls:=.type "dict",data:=.dict #[]}).DictOf knd s.heap.objs.size []:=Heap.DictOf.new s.heap;have ho':(s.heap.push {cls:=.type "dict",data:=.dict #[]}).get? l=some o:=hP0 _ ho;have hl0:=Heap.lt_size ho;refine⟨hnew.typeIs,F.args_dict_init_2 _ _,?_⟩;unfold Builtin.«dict.__init__»;refine wB0 ?_;unfold Builtin.Dict.selfAndRest;refine wB0 (wpAny_notOrdered_dict hnew.typeIs ?_);show wpAny _ _ (pure (s.heap.objs.size,[Value.ref l])) _ _ _;refine wP0 ?_;show wpAny _ _ (Builtin.Dict.updateFrom "dict.__init__" s.heap.objs.size (.ref l) [] .none) _ _ _;unfold Builtin.Dict.updateFrom;refine wB0 (wpAny_typeOf (T:="list") ⟨o,ho',hc⟩ ?_);rw [iP (by decide)];refine wB0 (getAttr?_miss_list ho' hc hdat hd zOX (by decide+kernel) hA (λh1 tk1 k1=>?_) (by decide+kernel));rw [iP (show(none:Option Value).isNone=true from rfl)];refine wB0 (wpAny_rule ?_);have ho1:=k1 l o ho';refine wB0 (wpAny_pyIter_list (items:=its) ⟨o,ho1,hc,c,hdat⟩ ?_);have hI:l≠h1.objs.size:=ne_of_lt (Heap.lt_size ho1);have hsz:s.heap.objs.size<h1.objs.size:=by obtain⟨oo,_,_,hg,_⟩:=hnew;exact Heap.lt_size (k1 _ _ hg)
 refine wP0 ⟨plainId_quiet F.plain_dict_update_loop _,zFQ (knd:=knd) (h₀:=s.heap) (D:=s.heap.objs.size) (Walks.list (by first |exact hA|exact(show A.in1.in1.handled=none from hA)) h1.objs.size l hI its) ?_ kvs hlen.symm hz hP ?_ ?_ _ 0 0 _ rfl (zero_le _) ⟨⟨_,Heap.get?_push_size _ rfl,rfl,rfl⟩,⟨o,hP0 _ ho1,hc,c,hdat⟩⟩ ?_ ?_ λh' tk hk hd'=>?_⟩
 ·rw [mC,mS];rintro(e|e)
  ·exact ne_of_lt hsz e
  ·exact ne_of_lt hl0 e.symm
 ·cases hg:s.heap.get? h1.objs.size with
  |none=>rfl
  |some oo=>exact absurd (Heap.lt_size hg) (Nat.lt_asymm hsz)
 ·cases hg:s.heap.get? s.heap.objs.size with
  |none=>rfl
  |some oo=>exact absurd (Heap.lt_size hg) (lt_irrefl _)
 ·obtain⟨oo,es,ep,hg,rest⟩:=hnew;exact⟨oo,es,ep,hP0 _ (k1 _ _ hg),rest⟩
 ·intro b oo e;exact hP0 _ (k1 _ _ (hP0 _ e))
 ·exact⟨rfl,h h' tk hk hd'⟩
end
end PySem
namespace L2
namespace M
open PySem PySem.Spec PyProof.Rows
section
variable{X:Cx}{W:XW}{α:Ah}{H:Hp}{pins:Ba}{σ:St}{s:Shared}
def zNA(ps:List (Key×V)):List (Key×V):=ps.foldl (λacc p=>zEI acc p.1 p.2) []
inductive PairsV(K:Be)(H:Hp):List V->List (Key×V)->Prop
 |nil:PairsV K H [] []
 |cons {a:Addr} {k:Key} {v:V} {vs ps}:SqT K H a [kV k,v]->PairsV K H vs ps->PairsV K H (.ref a::vs) ((k,v)::ps)
def zWO{ps:List (Key×V)}{qs:List (Key×Value)}(r:KV ps qs): ∀{as:List (Key×V)}{bs:List (Key×Value)},KV as bs->KV (ps.foldl (λacc p=>zEI acc p.1 p.2) as) (merged bs qs):=by
 unfold KV at r
 induction r with
 |nil=>intro as bs h;exact h
 |@cons p q ps qs h t ih=>
  intro as bs hb;rw [foldl_cons];show KV _ (merged (stored bs q.1 q.2) qs);rw [h.1];exact ih (yCF hb _ h.2)
def yCL(I:Inv X pins σ H s){vs:List V}{ps:List (Key×V)}(r:PairsV X.K H vs ps): ∀{us:Ae},Vals vs us-> ∃qs:List (Key×Value),KV ps qs/\qs.length=us.length/\ ∀(i:Nat) v,us[i]? =some v-> ∃kv,qs[i]? =some kv/\zUH (zZ X.prog X.w) s.heap kv v:=by
 induction r with
 |nil=>intro us h;cases h;exact⟨[],.nil,rfl,λi v h=>by simp at h⟩
 |@cons a k v vs ps hq t ih=>
  intro us h
  cases h with
  |@cons _ u _ us ru rt=>
   cases ru;obtain⟨qs,h1,h2,h3⟩:=ih rt;obtain⟨its,r',pl,hz⟩:=I.tuple hq;obtain⟨u1,u2,rfl,q1,q2⟩:=vals2 r';refine⟨(k,u2)::qs,.cons ⟨rfl,q2⟩ h1,by rw [lC,lC,h2],λi w hw=>?_⟩
   cases i with
   |zero=>
    cases hw;exact⟨_,rfl,a,u1,rfl,pl,zRM q1⟩
   |succ i=>exact h3 i w hw
def zZD(ps:List (Key×V)):(zNA ps).length<=ps.length:=by
 have: ∀(ps as:List (Key×V)),(ps.foldl (λacc p=>zEI acc p.1 p.2) as).length<=as.length+ps.length:=by
  intro ps
  induction ps with
  |nil=>intro as;exact le_refl _
  |cons p ps ih=>
   intro as;rw [foldl_cons,lC];have:=ih (zEI as p.1 p.2);have:=zJU as p.1 p.2;omega
 have:=this ps [];rw [length_nil,zero_add]at this;exact this
def zUI{K:Be}{vs:List V}{ps:List (Key×V)}(r:PairsV K H vs ps):ps.length=vs.length:=by
 induction r with
 |nil=>rfl
 |cons _ _ ih=>rw [lC,lC,ih]
def zNB:CallR X (.type "dict") (λxs H Q=> ∃l vs ps,xs=[.ref l]/\SqL X.K H l vs/\PairsV X.K H vs ps/\X.calm=true/\ ∀d,H d=none->Q (.ref d) (upd H d (.dK (zNA ps)))):=by intro pins s σ H xs us Q I r h;obtain⟨l,vs,ps,rfl,hq,hp,hc,q⟩:=h;obtain⟨u,rfl,rx⟩:=vals1 r;cases rx;obtain⟨its,rv,⟨o,n,ho,hcl,hd,hdat⟩,hz⟩:=I.list hq;obtain⟨qs,h1,h2,h3⟩:=yCL I hp rv;have hl:=rv.length;refine zIM (knd:=zZ X.prog X.w) (kvs:=qs) (I.ok.hd hc) ho hcl hd hdat (by rw [sA,h2]) (by rw [sA];omega) (λi v e=>h3 i v (by simpa using e)) λh' tk hk hdd=>?_;have hpl:=zUI hp;have hf:=zZD ps;refine⟨.ref s.heap.objs.size,_,I.laid (t':=tk) hk (le_refl _) (show ObjOk X.prog X.w _ h' _ (.dK (zNA ps))from⟨by omega,beq_eq_false_iff_ne.mpr (Ne.symm (ne_of_lt (zUC I))),_,zWO h1 .nil,hdd⟩),rfl,q _ (I.hok.fresh (le_refl _))⟩
def zCX:List MV->Option (List (MV×MV))
 |[]=>some []
 |.tup [k,v]::r=>if zFO k=true then(zCX r).map ((k,v)::·)else none
 |_::_=>none
def yCM(ps:Ca):List (MV×MV):=ps.foldl (λacc p=>putK acc p.1 p.2) []
theorem zJZ{K:Be}: ∀{ds:Bh}{kvs:Ca}{vs:List V},zCX ds=some kvs->DenL X.K α H ds vs-> ∃ps,PairsV X.K H vs ps/\DenK X.K α H kvs ps
 |[],kvs,vs,e,l=>by cases e;rw [l.isnil];exact⟨[],.nil,.nil⟩
 |d::ds,kvs,vs,e,l=>by
  obtain⟨v,r,rfl,dv,l'⟩:=l.uncons;unfold zCX at e;split at e
  ·cases (by assumption:d::ds=[])
  ·rename_i k y r' hd;obtain⟨rfl,rfl⟩:=List.cons.inj hd;split at e
   ·rename_i hk
    cases z:zCX ds with
    |none=>rw [z]at e;cases e
    |some ms=>
     rw [z]at e;cases e;obtain⟨ps,p1,p2⟩:=zJZ (K:=K) z l';obtain⟨a,us,rfl,hs,hl⟩:=yZ dv;obtain⟨v1,r1,rfl,d1,l1⟩:=hl.uncons;obtain⟨v2,r2,rfl,d2,l2⟩:=l1.uncons;have e2:=l2.isnil;subst e2;obtain⟨k',hk'⟩:=Option.isSome_iff_exists.mp hk;have e1:=ky_V (X:=X) hk' d1;subst e1;exact⟨(k',v2)::ps,.cons hs p1,.cons (ky_D hk') d2 p2⟩
   ·cases e
  ·cases e
theorem zGZ: ∀{kvs:Ca}{ps:List (Key×V)},DenK X.K α H kvs ps-> ∀{as:Ca}{bs:List (Key×V)},DenK X.K α H as bs->DenK X.K α H (kvs.foldl (λacc p=>putK acc p.1 p.2) as) (ps.foldl (λacc p=>zEI acc p.1 p.2) bs)
 |_,_,.nil,as,bs,h=>h
 |_,_,.cons (k:=k) (k':=k') hk a l,as,bs,h=>by rw [foldl_cons,foldl_cons];exact zGZ l (zRK h hk a)
def zRO:List Er->Sto->R Er
 |[r],S=>match (kG S r).bind zCX with |some kvs=>.ok (.val (.loc S.length)) (S++[.dic (yCM kvs)])|none=>.no
 |_,_=>.no
def zWP:bootBuiltins "dict"=some (.type "dict"):=by decide+kernel
def zWQ(hc:X.calm=true):zCA X W (λxs H Q=> ∃l vs ps,xs=[.ref l]/\SqL X.K H l vs/\PairsV X.K H vs ps/\X.calm=true/\ ∀d,H d=none->Q (.ref d) (upd H d (.dK (zNA ps)))) zRO:=by
 intro rs vs α S H Q wd d post;unfold zRO at post;split at post
 ·split at post
  ·rename_i kvs e;obtain⟨v,rfl,dv⟩:=nS d
   cases z:kG S _ with
   |none=>rw [z]at e;cases e
   |some ds=>
    rw [z]at e;obtain⟨a1,us,rfl,sq,l⟩:=zCP rfl wd z dv;obtain⟨ps,p1,p2⟩:=zJZ (X:=X) (K:=X.K) e l;refine⟨a1,us,ps,rfl,sq,p1,hc,λp hp=>?_⟩;have xn:=wd.newx (o:=.dK (zNA ps)) hp;obtain⟨x,w'⟩:=wd.put (ho:=.dK (zNA ps)) (m:=.dic (yCM kvs)) hp (.inl ⟨_,yK,(zGZ p2 .nil).ex0 ⟨⟨[p],rfl⟩,xn.tup,xn.frz⟩⟩);exact post (.ref p) (α++[p]) _ x w' (DenE.val (zDY (by rw [<-wd.len,getElem?_append_right (le_refl _),sub_self];rfl)))
  ·exact post.elim
 ·exact post.elim
end
section
variable{X:Cx}{W:XW}{a b o i e:Expr}{es:Bd}{f g:AX}{af:Rho->Sto->R (List Er)}{apos pos:Pos}{α:Ah}{H:Hp}{pins:Ba}{σ:St}{s:Shared}
def zRP(ks ps:List (Key×V)):List (Key×V):=ps.foldl (λacc p=>zEI acc p.1 p.2) ks
theorem zNC: ∀(ps ks:List (Key×V)),(zRP ks ps).length<=ks.length+ps.length
 |[],ks=>le_refl _
 |p::ps,ks=>by have h1:=zNC ps (zEI ks p.1 p.2);have h2:=zJU ks p.1 p.2;show(zRP (zEI ks p.1 p.2) ps).length<=_;rw [lC];omega
def yJH(X:Cx):V->List V->Hp->VK->Prop:=λx vs H Q=> ∃(ks ps:List (Key×V))(d p:Addr),x=.ref d/\vs=[.ref p]/\d≠p/\DK X H d ks/\DK X H p ps/\ks.length+ps.length<2000000/\Q .non (upd H d (.dK (zRP ks ps)))
def yHH:MtR X "dict.update" (yJH X):=by
 intro pins s σ H x vs v us Q I rx rv h;obtain⟨ks,ps,d,p,rfl,rfl,hne,dd,dp,hz,q⟩:=h;obtain⟨u1,rfl,r1⟩:=vals1 rv;cases rx;cases r1;have hT:s.TypeIs (.ref d) "dict":=(yCI pins s σ H (.ref d) (.ref d) I rfl ⟨d,ks,rfl,dd⟩).1;obtain⟨z,hs,vs,kv,dm⟩:=bE I dd;obtain⟨z2,hs2,vs2,kv2,dm2⟩:=bE I dp;have hl:ks.length=vs.length:=Paired.length kv;have hl2:ps.length=vs2.length:=Paired.length kv2;have hS:=sizeLine_eq
 refine call_meetsIn PySem.F.slot_dict_update hT PySem.F.entry_dict_update (PySem.F.args_dict_update_2 _ _) (meets_dict_update (zZ X.prog X.w) d p hne hs2)
  ⟨vs,vs2,dm,dm2,by rw [hS];omega,λh' hm _ hb=>?_⟩
 have he': ∃q,h'.get? d=some q:=let ⟨q,_,_,hq,_⟩:=hm;⟨q,hq⟩;have hol:=zNC ps ks;refine⟨.non,upd H d (.dK (zRP ks ps)),?_,rfl,q⟩;exact I.write (t':=_) (x:=d) (e:=d) (zUG dd) (.inl rfl) (λb uo hb' eo=>(hb.2 b hb').trans eo) he' ⟨by rw [hS];omega,hs,_,zWO kv2 kv,hm⟩
def zWR(kvs ps:Ca):List (MV×MV):=ps.foldl (λacc p=>putK acc p.1 p.2) kvs
def zND(p:Er)(rs:List Er)(S:Sto):R Er:=match rs with
 |[r]=>match zFP S p with
  |some (l,kvs)=>match zFP S r with
   |some (m,ps)=>if l≠m/\kvs.length+ps.length<1000000 then .ok (.val .non) (S.set l (.dic (zWR kvs ps)))else .no
   |none=>.no
  |none=>.no
 |_=>.no
def yHI:zYJ X W (yJH X) zND:=by
 intro p rs x vs α S H0 H Q α0 wd x0 dp da post;unfold zND at post;split at post
 ·rename_i r;split at post
  ·rename_i l kvs ed;split at post
   ·rename_i m ps er;split at post
    ·rename_i hc
     cases da with
     |cons dv n1 l1=>
     cases l1;obtain⟨c,ks,rfl,h1,hS,DDx,dl,_⟩:=dxo wd ed dp;obtain⟨c2,ks2,rfl,h2,hS2,DDx2,dl2,_⟩:=dxo wd er dv.1;have hne:c≠c2:=λz=>hc.1 (by subst z;exact(List.getElem?_inj (gS0.mp h1).1 wd.nd).mp (h1.trans h2.symm));have e1:ks.length=kvs.length:=DenK.length dl;have e2:ks2.length=ps.length:=DenK.length dl2;refine⟨ks,ks2,c,c2,rfl,rfl,hne,DDx,DDx2,by omega,?_⟩;have xw:=wd.writex h1 (o:=.dK (zRP ks ks2));exact(Post.shift (x0.trans xw) post).val (wd.write h1 (.inl ⟨_,yK,(zGZ dl2 dl).ex0 xw.toEx0⟩)) zFC
    ·exact post.elim
   ·exact post.elim
  ·exact post.elim
 ·exact post.elim
def yHJ(ho:PEm X W o f)(ha:PAm X W (e::es) af)
  (hbase:attributeBase o "update" X.env (eval o X.env)=eval o X.env:=by rfl)
  (hfew:((backTo pos (starEach (e::es) X.env)).all (λx=>!x.1)&&(backToKw pos (keywordEach [] X.env)).all (λx=>x.1.isSome)
   &&decide ((e::es).length+([]:List Keyword).length+(if([]:List Keyword).isEmpty then 0 else 1)<30))=true:=by rfl)
  (hline:(apos.endLine==pos.line)=true:=by rfl) (hs:starEach (e::es) X.env=(false,eval e X.env)::starEach es X.env:=by rfl) (hplain:(backTo pos (starEach es X.env)).any (·.1)=false:=by rfl):
  PEm X W (.Call (.Attribute o "update" apos) (e::es) [] pos) (λρ S=>(f ρ S).bind λp S1=>if isDx p S1=true then(af ρ S1).bind λrs S2=>zND p rs S2 else .no):=by
 obtain⟨to,ho,fo⟩:=ho;obtain⟨t,ha,k⟩:=ha;refine⟨_,yMO yCI PySem.F.plainAttrs_dict PySem.F.slot_dict_update PySem.F.type_dict_update yHH ho ha hbase hfew hline hs hplain,λα ρ S σ H Q wd sl q=>fo α ρ S σ H _ wd sl (q.bind λu p S1 α1 H1 e1 x1 w1 d1 q1=>?_)⟩;split at q1
 ·rename_i hz;obtain⟨⟨l,kvs⟩,hz⟩:=Option.isSome_iff_exists.mp hz;obtain⟨c,xs,rfl,_,_,dd,_⟩:=dxo w1 hz d1.1;exact⟨⟨c,xs,rfl,dd⟩,k α1 ρ S1 σ H1 _ w1 (sl.ext x1) ((q1.shift x1).bind λvs rs S2 α2 H2 e2 x2 w2 d2 q2=>yHI p rs _ vs α2 S2 H1 H2 Q α1 w2 x2 (d1.1.ext x2) d2 q2)⟩
 ·exact q1.elim
end
section
variable{X:Cx}{W:XW}{a b:Expr}{f g:AX}{pos:Pos}
open Classical in
def zRQ(n:Nat)(p q:Er)(S:Sto):R Er:=match p with
 |.val k=>match q with
  |.val d=>if zFO k=true/\S[n]? =some (.dic [])then .ok (.val (.loc n)) (S.set n (.dic [(k,d)]))else .no
  |_=>.no
 |_=>.no
def yCN(ha:PEm X W a f)(hb:PEm X W b g):PEm X W (.Dict [some a] [b] pos) (λρ S=>(f ρ (S++[.dic []])).bind λp S1=>(g ρ S1).bind λq S2=>zRQ S.length p q S2):=by
 obtain⟨ta,ha,fa⟩:=ha;obtain⟨tb,hb,fb⟩:=hb;refine⟨λσ H Q=> ∀p,H p=none->ta σ (upd H p (.dK [])) λv H1=>tb σ H1 λu H2=> ∃k,v=kV k/\DK X H2 p []/\Q (.ref p) (upd H2 p (.dK [(k,u)])),λpins s σ H Q I h=>?_,λα ρ S σ H Q wd sl q p hp=>?_⟩
 ·have I0:=I.laid (a:=s.heap.objs.size) (o:=.dK []) (t':=s.toks) (h':=s.heap.push {cls:=.type "dict",data:=.dict #[]}) (λ_ _ q=>hP0 _ q) (le_refl _)
   ⟨zero_le _,beq_eq_false_iff_ne.mpr (Ne.symm (ne_of_lt (zUC I))),[],.nil,Heap.DictOf.new s.heap⟩
  refine wpAny_Dict_pairs (knd:=zZ X.prog X.w) (pairs:=[(eval a X.env,do let x <-eval b X.env;standAt pos;pure x)]) rfl (by simp) (by simp) ?_;refine evalPairs_cons (wpAny_mono (ha _ _ _ _ _ I0 (h _ (I.hok.fresh (le_refl _)))) (λkv s1 h1=>?_) λ_ _ e=>e);obtain⟨v,H1,I1,r1,t1⟩:=h1;refine wB0 (wpAny_mono (hb _ _ _ _ _ I1 t1) (λvv s2 h2=>?_) λ_ _ e=>e);obtain⟨u,H2,I2,r2,k,rfl,dd,q⟩:=h2;refine wB0 (wpAny_standAt (wP0 (evalPairs_nil ?_)));obtain⟨z,hs,vs,kvr,dm⟩:=bE I2 dd;have hl:([]:List (Key×V)).length=vs.length:=Paired.length kvr;have hv0:vs=[]:=List.length_eq_zero_iff.mp hl.symm;subst hv0;refine⟨[(k,vv)],⟨zRM (X:=X) r1,rfl,trivial⟩,dm,λh' dm' hs'=>⟨.ref _,_,?_,rfl,q⟩⟩;have he: ∃q,h'.get? s.heap.objs.size=some q:=let ⟨q,_,_,hq,_⟩:=dm';⟨q,hq⟩;exact I2.write (t':=_) (x:=s.heap.objs.size) (e:=s.heap.objs.size) (zUG dd) (.inl rfl) (λb uo hb eo=>(hs'.2 b hb).trans eo) he ⟨by rw [sizeLine_eq];simp,hs,_,.cons ⟨rfl,r2⟩ .nil,dm'⟩
 ·obtain⟨x,w'⟩:=wd.put (ho:=.dK []) (m:=.dic []) hp (.inl ⟨[],yK,.nil⟩);refine fa (α++[p]) ρ (S++[.dic []]) σ _ _ w' (sl.ext x) ((q.shift x).bind λv r S1 α1 H1 e1 x1 w1 d1 q1=>?_);refine fb α1 ρ S1 σ H1 _ w1 (sl.ext (x.trans x1)) ((q1.shift x1).bind λu r2 S2 α2 H2 e2 x2 w2 d2 q2=>?_);unfold zRQ at q2;split at q2
  ·rename_i k;split at q2
   ·rename_i d;split at q2
    ·rename_i hk;obtain⟨k',hk'⟩:=Option.isSome_iff_exists.mp hk.1;have dk:Den X.K α2 H2 k v:=d1.1.ext x2;have ek:=ky_V (X:=X) (α:=α2) (H:=H2) hk' dk;subst ek;have hα:α2[S.length]? =some p:=by obtain⟨t1,h1⟩:=x1.pre;obtain⟨t2,h2⟩:=x2.pre;rw [h2,h1,aA,aA, <-wd.len,getElem?_append_right (le_refl _),sub_self];rfl
     obtain⟨ks,dd,dl⟩:=yJG (w2.obj _ p _ hα hk.2) rfl;cases dl;refine⟨k',rfl,dd,?_⟩;have xw:=w2.writex hα (o:=.dK [(k',u)]);exact(Post.shift (x2.trans xw) q2).val (w2.write hα (.inl ⟨_,yK,.cons (ky_D hk') (d2.1.ext xw) .nil⟩)) (zDY (by rw [hα]))
    ·exact q2.elim
   ·exact q2.elim
  ·exact q2.elim
end
section
variable{X:Cx}{W:XW}
def zNE:CallR X (.builtin "len") (λxs H Q=> ∃d ks,xs=[.ref d]/\DK X H d ks/\Q (.int ks.length) H):=by intro pins s σ H vs us Q I rv h;obtain⟨d,ks,rfl,dd,q⟩:=h;obtain⟨u1,rfl,r1⟩:=vals1 rv;cases r1;obtain⟨z,hs,vs,kv,dm⟩:=bE I dd;have hl:ks.length=vs.length:=Paired.length kv;have hS:=sizeLine_eq;refine PySem.call_len_dict hs dm (by omega) ⟨.int ks.length,H,(I.tok _).tok _,by rw [hl];exact⟨_,rfl⟩,q⟩
def zNF:List Er->Sto->R Er
 |[r],S=>match zFP S r with
  |some (_,kvs)=>.ok (.val (.int kvs.length)) S
  |none=>.no
 |_,_=>.no
def zWS:zCA X W (λxs H Q=> ∃d ks,xs=[.ref d]/\DK X H d ks/\Q (.int ks.length) H) zNF:=by
 intro rs vs α S H Q wd d post;unfold zNF at post;split at post
 ·split at post
  ·rename_i l kvs e;obtain⟨v,rfl,dv⟩:=nS d;obtain⟨c,ks,rfl,h1,hS,DDx,dl,_⟩:=dxo wd e dv;have el:ks.length=kvs.length:=DenK.length dl;refine⟨c,ks,rfl,DDx,?_⟩;rw [el];exact Post.val post wd (xC _)
  ·exact post.elim
 ·exact post.elim
def d1J(f g:AX)(ρ:Rho)(S:Sto):R Er:=(f ρ (S++[.dic []])).bind λp S1=>(g ρ S1).bind λq S2=>zRQ S.length p q S2
def zZE{a b:Expr}{f g:AX}{pos:Pos}(ha:PEm X W a f)(hb:PEm X W b g):PEm X W (.Dict [some a] [b] pos) (d1J f g):=yCN ha hb
end
def zUJ(x:Ab):List (List Nat)->List (List Nat)
 |[]=>[x]
 |y::r=>if y<x then y::zUJ x r else x::y::r
def jZ(ns:Aa):List (List Nat):=ns.foldr zUJ []
theorem zHA(x:Ab): ∀l,(zUJ x l).Perm (x::l)
 |[]=>.refl _
 |y::r=>by
  unfold zUJ;split
  ·exact((zHA x r).cons y).trans (.swap _ _ _)
  ·exact .refl _
theorem cW: ∀ns,(jZ ns).Perm ns
 |[]=>.refl _
 |x::r=>(zHA x _).trans ((cW r).cons x)
theorem zKA(x:Ab): ∀l:List (List Nat),l.Pairwise (λa b=> ¬b<a)->(zUJ x l).Pairwise (λa b=> ¬b<a)
 |[],_=>by simp [zUJ]
 |y::r,h=>by
  obtain⟨h1,h2⟩:=pairwise_cons.mp h;unfold zUJ;split
  ·rename_i hyx;refine pairwise_cons.mpr ⟨λz hz=>?_,zKA x r h2⟩;rcases mC.mp ((zHA x r).mem_iff.mp hz)with rfl|hz
   ·exact List.lt_asymm hyx
   ·exact h1 z hz
  ·rename_i hyx;refine pairwise_cons.mpr ⟨λz hz=>?_,h⟩;rcases mC.mp hz with rfl|hz
   ·exact hyx
   ·exact not_lt.mpr (le_trans (not_lt.mp hyx) (not_lt.mp (h1 z hz)))
theorem zCY: ∀ns,(jZ ns).Pairwise (λa b=> ¬b<a)
 |[]=>.nil
 |x::r=>zKA x _ (zCY r)
def zRR{ns ns':Aa}(hp:ns'.Perm ns)(hs:ns'.Pairwise (λa b=> ¬b<a)):ns'=jZ ns:=
 List.Perm.eq_of_pairwise (λ_ _ _ _ a b=>List.le_antisymm (not_lt.mp a) (not_lt.mp b)) hs (zCY ns) (hp.trans (cW ns).symm)
theorem zNG: ∀(l:Ai)(p:Str),risingS p l=true->(p::l).Pairwise (λa b=> ¬b.cps.toList<a.cps.toList)
 |[],p,_=>by simp
 |x::r,p,h=>by
  have h:(!ltCps x.cps.toList p.cps.toList&&risingS x r)=true:=h;rw [aE,Bool.not_eq_true',ltCps_eq,decide_eq_false_iff_not]at h;have ih:=zNG r x h.2;refine pairwise_cons.mpr ⟨λz hz=>?_,ih⟩;rcases mC.mp hz with rfl|hz
  ·exact h.1
  ·exact not_lt.mpr (le_trans (not_lt.mp h.1) (not_lt.mp ((pairwise_cons.mp ih).1 z hz)))
def zZF: ∀(l:Ai),sortedS l=true->l.Pairwise (λa b=> ¬b.cps.toList<a.cps.toList)
 |[],_=>.nil
 |x::r,h=>zNG r x h
def yMV(x:Str):mkS x.cps.toList=x:=by unfold mkS;simp
def zIA{zs:Aa}{ss:Ai}(hp:ss.Perm (zs.map mkS))(hs:sortedS ss=true):ss=(jZ zs).map mkS:=by
 have h1:(ss.map λx=>x.cps.toList).Perm zs:=by have:=hp.map λx:Str=>x.cps.toList;rw [map_map,show((λx:Str=>x.cps.toList)∘mkS)=id from funext zDW,map_id]at this;exact this
 have h2:(ss.map λx=>x.cps.toList).Pairwise (λa b=> ¬b<a):=pairwise_map.mpr (zZF ss hs);rw [<-zRR h1 h2,map_map,show(mkS∘λx:Str=>x.cps.toList)=id from funext yMV,map_id]
section
variable{prog:Program}{w:World}{A:Around}{E:VP}{s:Shared}{T:String}{r d:Addr}{n:Nat}{P:Nat->Value->Prop}{OK:Heap->Prop}
def zRS{Q:VP}(K:PySem.W.KdlSrc prog w "dict" r d n P OK)(hh:A.handled=none)(hok:OK s.heap)(hn:n<64){ss:Ai}(hI: ∀acc:Array Value,ItemsOf P acc n->StrsAre acc.toList ss)
  (h: ∀(h':Heap)(tk:Nat)(out:Ag)(ss':Ai),(∀b o,s.heap.get? b=some o->h'.get? b=some o)->StrsAre out.toList ss'->ss'.Perm ss->sortedS ss'=true-> ∀(vs:Ae),Q (.ref h'.objs.size) {s with heap:=sortedHeap (h'.push (seqObj "list" vs.toArray 0)) h'.objs.size vs out,toks:=tk}):
  wpAny (model prog w) A (call (.builtin "sorted") [.ref r]) Q E s:=by
 refine Calls.call_function_entry kind_sorted plain_sorted entry_sorted (args_sorted1 _) ?_;unfold Builtin.«sorted»;refine wB0 (m:=checkCount "sorted" 1 1 _) (wP0 ?_);refine wB0 (PySem.W.kdu_collect (A:=A.in1) K hh hok (by rw [sizeLine_eq];omega) λh' tk acc hk hacc=>?_);have hl:acc.toList.length=n:=by rw [Array.length_toList];exact hacc.1
 refine wB0 (wpAny_newList ?_ (by rw [hl,sizeLine_eq];omega));have hoL:(h'.push (seqObj "list" acc.toList.toArray 0)).get? h'.objs.size=some (seqObj "list" acc.toList.toArray 0):=Heap.get?_push_size _ rfl;show wpAny _ _ _ _ _ {s with heap:=h'.push (seqObj "list" acc.toList.toArray 0),toks:=tk};have hS:=hI acc hacc;refine wB0 (wpAny_holding (wpAny_call_entry slot_list_sort ⟨_,hoL,rfl⟩ entry_list_sort (list_sort_treeK strKind_oneLt hoL hS.keysOf (λv₁ v₂ rest e=>keyKind_strs (by rw [<-e];exact hS)) (by rw [hl];exact hn) λst' hp hs=>⟨_,rfl,?_⟩) (args_list_sort _)));obtain⟨ss',h1,h2,h3⟩:=sorted_out_str hS hp hs;refine wP0 ⟨_,rfl,h h' tk _ ss' hk h1 h2 h3 acc.toList⟩
end
section
variable{X:Cx}{W:XW}{α:Ah}{H:Hp}
theorem zRT: ∀(l:List (Str×Tok)),StrsAre (strValues l) (l.map (·.1))
 |[]=>.nil
 |(x,t)::l=>.cons x t (zRT l)
theorem zHB: ∀{us:Ae}{zs:Aa},StrsAre us (zs.map mkS)->Vals (zs.map λz=>V.str (mkS z)) us
 |_,[],h=>by cases h;exact .nil
 |_,z::zs,h=>by
  cases h with
  |cons y t h=>exact .cons ⟨t,rfl⟩ (zHB h)
theorem zRU: ∀{ds:Bh}{ns:Aa},bQ ds=some ns->ns.length=ds.length
 |[],ns,h=>by cases h;rfl
 |x::ds,ns,hi=>by
  cases x<;>first |(cases hi;done)|skip
  unfold bQ at hi
  cases zz:bQ ds with
  |none=>rw [zz]at hi;cases hi
  |some ms=>rw [zz]at hi;cases hi;rw [lC,lC,zRU zz]
def zUK:CallR X (.builtin "sorted") (λxs H Q=> ∃d ks ds ns α,xs=[.ref d]/\DK X H d ks/\bQ ds=some ns/\DenL X.K α H ds (ks.map λp=>kV p.1)/\ds.length<64/\X.calm=true/\ ∀p,H p=none->Q (.ref p) (upd H p (.lst ((jZ ns).map λz=>V.str (mkS z))))):=by
 intro pins s σ H xs us Q I r h;obtain⟨d,ks,ds,ns,α,rfl,dd,hi,hd',hz,hc,q⟩:=h;obtain⟨u,rfl,rx⟩:=vals1 r;cases rx;obtain⟨z,hd,vs,rel,dm⟩:=bE I dd;obtain⟨ep,hat⟩:=dm.dictAt;have hl:ks.length=vs.length:=Paired.length rel;have hlen:vs.length<64:=by have:=hd'.length;rw [lM]at this;omega
 refine zRS (PySem.W.kdl_dict (knd:=zZ X.prog X.w) (kvs:=vs) (ep:=ep) hd) (I.ok.hd hc) hat hlen (ss:=ns.map mkS) (λacc hacc=>by obtain⟨l,e1,e2⟩:=zWL hi hd' (zZC (X:=X) rel (by rw [Array.length_toList];exact hacc.1) λj v e=>hacc.2 j v (by rw [<-Array.getElem?_toList];exact e));rw [e1, <-e2];exact zRT l) λh' tk out ss' hk a1 a2 a3 us=>?_;have en:=zIA a2 a3;subst en;have I1:Inv X pins σ H {s with heap:=h',toks:=tk}:=I.kept hk;obtain⟨e,he⟩:=sortedHeap_at (h:=h'.push (seqObj "list" us.toArray 0)) (a:=h'.objs.size) (vs:=us) (n:=0) (out:=out) (Heap.get?_push_size _ rfl);refine⟨.ref h'.objs.size,_,I1.laid (t':=tk) (λb o eb=>?_) (le_refl _) (show ObjOk X.prog X.w _ _ _ (.lst ((jZ ns).map λz=>V.str (mkS z)))from⟨?_,out.toList,e,zHB a1,?_⟩),rfl,q _ (I1.hok.fresh (le_refl _))⟩
 ·have hb:=Heap.lt_size eb;rw [sortedHeap_old (ne_of_lt hb) (by rw [size_push'];exact lt_succ_of_lt hb)];exact hP0 _ eb
 ·have e2:=(cW ns).length_eq;have e3:=zRU hi;have:=sizeLine_eq;rw [lM];omega
 ·rw [Array.toArray_toList];exact he
def zKB(rs:List Er)(S:Sto):R Er:=match rs with
 |[p]=>match zFP S p with
  |some (_,kvs)=>if kvs.length<64 then(match bQ (kvs.map (·.1))with |some ns=>.ok (.new ((jZ ns).map MV.str)) S|none=>.no)else .no
  |none=>.no
 |_=>.no
def yCO(hc:X.calm=true):zCA X W (λxs H Q=> ∃d ks ds ns α,xs=[.ref d]/\DK X H d ks/\bQ ds=some ns/\DenL X.K α H ds (ks.map λp=>kV p.1)/\ds.length<64/\X.calm=true/\ ∀p,H p=none->Q (.ref p) (upd H p (.lst ((jZ ns).map λz=>V.str (mkS z))))) zKB:=by
 intro rs vs α S H Q wd d post;unfold zKB at post;split at post
 ·split at post
  ·rename_i n kvs e;split at post
   ·rename_i hz;split at post
    ·rename_i ns hi;obtain⟨v,rfl,dv⟩:=nS d;obtain⟨c,ks,rfl,h1,h2,dd,dl,_⟩:=dxo wd e dv;exact⟨c,ks,_,ns,α,rfl,dd,hi,zGW dl,by rw [lM];exact hz,hc,λp hp=>Post.newl post wd hp (zGX _)⟩
    ·exact post.elim
   ·exact post.elim
  ·exact post.elim
 ·exact post.elim
end
section
variable{X:Cx}{W:XW}{a:Expr}{f:AX}{pos apos:Pos}
def yJI:V->List V->Hp->VK->Prop:=λx vs H Q=> ∃l xs y,x=.ref l/\vs=[]/\H l=some (.lst xs)/\xs[xs.length - 1]? =some y/\Q y (upd H l (.lst (xs.eraseIdx (xs.length - 1))))
def yHK:MtR X "list.pop" yJI:=by
 intro pins s σ H x vs v us Q I rx rv h;obtain⟨l,xs,y,rfl,rfl,hH,hy,q⟩:=h;cases rx;have hus:=rv.zero;subst hus;obtain⟨z,its,n,r,hl,e⟩:=I.lstM hH;obtain⟨w,hw,rw'⟩:=r.get hy
 refine call_meets F.slot_list_pop ⟨_,e,rfl⟩ F.entry_list_pop (F.args_list_pop_1 _)
  (MeetsSeq.list_pop_last l its.toArray n w (by rw [sA, <-hl, <-Array.getElem?_toList];exact hw) (by rw [sA];omega)) ⟨e,?_⟩
 refine⟨y,_,I.lset (its':=its.eraseIdx (xs.length - 1)) hH e ?_ (r.eraseIdx (xs.length - 1)) ?_,rw',q⟩
 ·show its.toArray.eraseIdxIfInBounds (its.toArray.size - 1)=(its.eraseIdx (xs.length - 1)).toArray;rw [List.eraseIdxIfInBounds_toArray,sA,hl]
 ·have:=zMK xs (xs.length - 1);omega
def zKC(p:Er)(rs:List Er)(S:Sto):R Er:=match p,rs with
 |.val (.loc l),[]=>match S[l]? with
  |some (.lst ds)=>match ds[ds.length - 1]? with
   |some d=>.ok (.val d) (S.set l (.lst (ds.eraseIdx (ds.length - 1))))
   |none=>.no
  |_=>.no
 |_,_=>.no
def yHL:zYJ X W yJI zKC:=by
 intro p rs x vs α S H0 H Q α0 wd x0 dp da post;unfold zKC at post;split at post
 ·rename_i l;obtain⟨a,rfl,h⟩:=zAD dp;cases da;obtain⟨ob,h1,h2⟩:=wd.of h;rw [h1]at post
  cases ob with
  |lst ds=>
   obtain⟨us,h3,l1⟩:=h2;dsimp only at post;split at post
   ·rename_i d ed;obtain⟨y,ey,dy⟩:=l1.at ed;have hlen:us.length=ds.length:=l1.length;have xw:=wd.writex h (o:=.lst (us.eraseIdx (us.length - 1)));refine⟨a,us,y,rfl,rfl,h3,by rw [hlen];exact ey,?_⟩;exact(post.shift (x0.trans xw)).val (wd.write h ⟨_,yK,by rw [hlen];rw [hlen]at xw;exact(l1.eraseIdx (ds.length - 1)).ext xw⟩) (dy.ext xw)
   ·exact post.elim
  |dic _=>exact post.elim
  |ins _ _=>exact post.elim
 ·exact post.elim
def yHM(ho:PEm X W a f)(hbase:attributeBase a "pop" X.env (eval a X.env)=eval a X.env:=by rfl)(hline:(apos.endLine==pos.line)=true:=by rfl):
  PEm X W (.Call (.Attribute a "pop" apos) [] [] pos) (λρ S=>(f ρ S).bind λp S1=>if kU p S1=true then zKC p [] S1 else .no):=
 yAS PySem.F.plainAttrs_list PySem.F.slot_list_pop PySem.F.type_list_pop yHK yHL zTW ho hbase hline
end
theorem zUL(t:SetTable)(es:Ak)(h:Int)(x:Value):(layNew t es h x).2.1.led=t.led:=by
 unfold layNew;split
 ·dsimp only;unfold SetTable.orStandIn;split<;>rfl
 ·rfl
def zZG(t:SetTable)(es:Ak)(n:Nat):(relayAll t es n).2.1.led=t.led/\(t.plain=false->(relayAll t es n).2.1.plain=false):=by
 unfold relayAll;split
 ·rename_i t' order e;have h:t'.led=t.led/\t'.plain=t.plain:=by unfold SetTable.relaid SetTable.laid at e;simp only [Option.bind_eq_bind,Option.bind_eq_some_iff]at e;obtain⟨ow,_,e⟩:=e;cases e;exact⟨rfl,rfl⟩
  dsimp only;split
  ·exact⟨h.1,λz=>h.2.trans z⟩
  ·exact⟨rfl,λ_=>rfl⟩
 ·exact⟨rfl,λ_=>rfl⟩
section
variable{prog:Program}{w:World}{K:Type}[DecidableEq K]{knd:KeyKind prog w K}{A:Around}{E:VP}{s:Shared}
def TSet(knd:KeyKind prog w K)(h:Heap)(a:Addr)(S:K->Bool)(n:Nat)(b:Bool):Prop:=
 ∃o es ep t,h.get? a=some o/\o.ExactSet/\o.data=.set es ep t/\ElemsOf knd es.toList/\(∀k,S k=true↔ ∃e∈es.toList,knd.is k e.2=true)
  /\es.size<scanBound/\t.fits es.size=true/\es.size=n/\t.led=b/\(es.size=0\/t.plain=false)/\(es.toList.map (·.2)).Pairwise (λx y=> ∀k,knd.is k x=true-> ¬knd.is k y=true)
def zKD{h:Heap}{a:Addr}{o:Obj}{es:Ak}{ep:Nat}{t:SetTable}(ho:h.get? a=some o)(hex:o.ExactSet)(hd:o.data=.set es ep t)
  {es':Ak} {t':SetTable} {S':K->Bool} {b:Bool} (hel:ElemsOf knd es'.toList) (hmem: ∀k,S' k=true↔ ∃e∈es'.toList,knd.is k e.2=true) (hb:es'.size<scanBound) (hf:t'.fits es'.size=true) (hl:t'.led=b) (hp:t'.plain=false) (hw:(es'.toList.map (·.2)).Pairwise (λx y=> ∀k,knd.is k x=true-> ¬knd.is k y=true)):
  (h.update a (Obj.putSet es' t')).get? a=some {o with data:=.set es' (ep+1) t'}/\TSet knd (h.update a (Obj.putSet es' t')) a S' es'.size b:=by
 have hg:(h.update a (Obj.putSet es' t')).get? a=some {o with data:=.set es' (ep+1) t'}:=by have:=Heap.get?_update_self (Obj.putSet es' t') ho (by rw [putSet_of es' t' hd];rfl);rw [putSet_of es' t' hd]at this;exact this
 exact⟨hg,_,es',ep+1,t',hg,hex,rfl,hel,hmem,hb,hf,rfl,hl,.inr hp,hw⟩
def zKE{l l':List (Int×Value)}(p:l'.Perm l)(h:(l.map (·.2)).Pairwise (λx y=> ∀k,knd.is k x=true-> ¬knd.is k y=true)):(l'.map (·.2)).Pairwise (λx y=> ∀k,knd.is k x=true-> ¬knd.is k y=true):=
 (p.map (·.2)).symm.pairwise h (λ{x y} hxy k hk hy=>hxy k hy hk)
def zRV{g:Bool->Sem Unit}(hg: ∀(b:Bool)(s₁:Shared)(Q':Unit->Shared->Prop),Q' () s₁->wpAny (model prog w) A (g b) Q' E s₁)
  {a:Addr} {o:Obj} {es:Ak} {ep:Nat} {t:SetTable} (ho:s.heap.get? a=some o) (hex:o.ExactSet) (hd:o.data=.set es ep t)
  {es1:Ak} {t2:SetTable} {S':K->Bool} {b:Bool} (hel1:ElemsOf knd es1.toList) (hmem1: ∀k',S' k'=true↔ ∃e∈es1.toList,knd.is k' e.2=true)
  (hb1:es1.size<scanBound) (hf2:t2.fits es1.size=true) (hl:t2.led=b) (hp2:t2.plain=false) (hw:(es1.toList.map (·.2)).Pairwise (λx y=> ∀k,knd.is k x=true-> ¬knd.is k y=true)) {wasDummy:Bool} {R:Option Bool->Shared->Prop}
  (h: ∀h',Heap.SameBut a s.heap h'->TSet knd h' a S' es1.size b->R (some true) {s with heap:=h'}):
  wpAny (model prog w) A (do
    storeSet a es1 t2
    if(!wasDummy&&t2.tooFull)=true then do
      g (relayAll t2 es1 (SetTable.grown es1.size)).2.2
      storeSet a (relayAll t2 es1 (SetTable.grown es1.size)).1 (relayAll t2 es1 (SetTable.grown es1.size)).2.1
      pure (some true)
     else pure (some true)) R E s:=by
 refine wB0 (wpAny_storeSet_of ho hd ?_ (fits_of_scanBound hb1));obtain⟨ho1,hS1⟩:=zKD (knd:=knd) ho hex hd hel1 hmem1 hb1 hf2 hl hp2 hw;have hsb1:=Heap.SameBut.update s.heap a (Obj.putSet es1 t2);split
 ·have hp:=relayAll_perm t2 es1 (SetTable.grown es1.size);have hfr:=relayAll_fits t2 es1 (SetTable.grown es1.size);have hrl:=zZG t2 es1 (SetTable.grown es1.size);generalize hRl:relayAll t2 es1 (SetTable.grown es1.size)=Rl at hp hfr hrl ⊢;obtain⟨es2,t3,gave2⟩:=Rl;dsimp only at hp hfr hrl ⊢;have hel2:ElemsOf knd es2.toList:=hel1.perm hp;have hmem2: ∀k',S' k'=true↔ ∃e∈es2.toList,knd.is k' e.2=true:=λk'=>(hmem1 k').trans ⟨λ⟨e,he,q⟩=>⟨e,hp.mem_iff.mpr he,q⟩,λ⟨e,he,q⟩=>⟨e,hp.mem_iff.mp he,q⟩⟩;have hsz:es2.size=es1.size:=by rw [<-Array.length_toList,hp.length_eq,Array.length_toList]
  have hb2:es2.size<scanBound:=by rw [hsz];exact hb1
  refine wB0 (hg _ _ _ ?_);refine wB0 (wpAny_storeSet_of ho1 rfl ?_ (fits_of_scanBound hb2));obtain⟨_,hS2⟩:=zKD (knd:=knd) ho1 hex rfl hel2 hmem2 hb2 hfr (hrl.1.trans hl) (hrl.2 hp2) (zKE hp hw);rw [hsz]at hS2;exact wP0 (h _ (hsb1.trans (Heap.SameBut.update _ a _)) hS2)
 ·exact wP0 (h _ hsb1 hS1)
def zUM{a:Addr}{S:K->Bool}{n:Nat}{k:K}{x:Value}{b:Bool}{Q:Bool->Shared->Prop}(hkey:knd.is k x=true)(hsc:x.scannable=true)(hpk:plainKind x=false)(hS:TSet knd s.heap a S n b)
  (hroom:n+1<scanBound)
  (h: ∀h',Heap.SameBut a s.heap h'->TSet knd h' a (λk'=>S k' || decide (k'=k)) (if S k then n else n+1) b->Q (!S k) {s with heap:=h'}):
  wpAny (model prog w) A (setAddHashed a x (knd.hash k)) Q E s:=by
 obtain⟨o,es,ep,t,ho,hex,hd,hel,hmem,hb,hf,hn,hl,hpl,hw⟩:=hS;have hb1:es.size+1<scanBound:=by rw [hn];exact hroom
 unfold setAddHashed setAddHashedIn;refine wpAny_holding (wB0 (wpAny_setState_of ho hd hf ?_));dsimp only;rw [byScan_of hsc hb hel];simp only [↓reduceIte];unfold setAddByScan;refine wB0 ?_;refine wB0 (wpAny_rule ?_);refine wB0 (wpAny_setScan_of hkey ho hd hf hel ?_)
 cases hr:List.findIdx? (λe=>knd.is k e.2) es.toList with
 |some j=>
  dsimp only;obtain⟨hj,hpj,_⟩:=List.findIdx?_eq_some_iff_getElem.mp hr;have hSk:S k=true:=(hmem k).mpr ⟨es.toList[j],getElem_mem hj,hpj⟩;refine wP0 (wP0 ?_);have e:s={s with heap:=s.heap}:=by cases s;rfl
  have:=h s.heap (Heap.SameBut.refl a s.heap) ⟨o,es,ep,t,ho,hex,hd,hel,λk'=>by rw [or_eq_true,decide_eq_true_eq, <-hmem k'];exact⟨λhk=>hk.elim id (λe=>e▸hSk),.inl⟩,hb,hf,by rw [hSk];exact hn,hl,hpl,hw⟩;rw [hSk]at this;rw [e];exact this
 |none=>
  dsimp only
  have hSk:S k=false:=by
   cases hk:S k with
   |false=>rfl
   |true=>obtain⟨e,he,hp⟩:=(hmem k).mp hk;have:=List.findIdx?_eq_none_iff.mp hr e he;rw [hp]at this;exact Bool.noConfusion this
  have hgw: ∀(b:Bool){s₁:Shared}{Q':Unit->Shared->Prop},Q' () s₁->wpAny (model prog w) A (match b with |true=>rule "set.scan.the-table-gave-way" |false=>pure ()) Q' E s₁:=
   λb s₁ Q' hq=>by cases b<;>first |exact wP0 hq|exact wpAny_rule hq
  have hperm:=layNew_perm t es (knd.hash k) x;have hfits:=layNew_fits t es (knd.hash k) x;have hled:=zUL t es (knd.hash k) x;generalize hL:layNew t es (knd.hash k) x=L at hperm hfits hled ⊢;obtain⟨es1,t1,wasDummy,gave⟩:=L;dsimp only at hperm hfits hled ⊢;rw [Array.toList_push]at hperm;have hel1:ElemsOf knd es1.toList:=(hel.push hkey hsc).perm hperm;have hmem1: ∀k',(S k' || decide (k'=k))=true↔ ∃e∈es1.toList,knd.is k' e.2=true:=mem_push_iff hkey hmem hperm;have hb1':es1.size<scanBound:=by rw [<-Array.length_toList,hperm.length_eq,lA,Array.length_toList];simpa using hb1
  have hw1:(es1.toList.map (·.2)).Pairwise (λx y=> ∀k,knd.is k x=true-> ¬knd.is k y=true):=by
   refine zKE hperm ?_;rw [map_append,pairwise_append];refine⟨hw,by simp,λy hy z hz k' hk' hz'=>?_⟩;obtain⟨e,he,rfl⟩:=mM.mp hy;have hz:z=x:=by simpa using hz
   subst hz;have:=knd.inj z k' k hz' hkey;subst this;have:=List.findIdx?_eq_none_iff.mp hr e he;rw [hk']at this;exact Bool.noConfusion this
  refine wB0 (hgw _ ?_);have hsz1:es1.size=n+1:=by rw [<-Array.length_toList,hperm.length_eq,lA,Array.length_toList,hn];rfl
  have hend: ∀h',Heap.SameBut a s.heap h'->TSet knd h' a (λk'=>S k' || decide (k'=k)) es1.size b->Q true {s with heap:=h'}:=by intro h' hsb hS';have:=h h' hsb;rw [hSk]at this;rw [hsz1]at hS';exact this hS'
  split
  ·refine wB0 ?_;rw [hashByValue_scannable 8 hsc,hpk];refine wP0 ?_;simp only [fT, ↓reduceIte];refine zRV ?_ ho hex hd hel1 hmem1 hb1' (SetTable.fits_plain_off hfits) (hled.trans hl) rfl hw1 ?_
   ·intro b s₁ Q' hq;cases b<;>first |exact wP0 hq|exact wpAny_rule hq
   ·intro h' hsb hS';dsimp only;exact wP0 (hend h' hsb hS')
  ·rename_i hnp;refine wB0 (wP0 ?_);simp only [↓reduceIte];refine zRV ?_ ho hex hd hel1 hmem1 hb1' hfits (hled.trans hl) (by simpa using hnp) hw1 ?_
   ·intro b s₁ Q' hq;cases b<;>first |exact wP0 hq|exact wpAny_rule hq
   ·intro h' hsb hS';dsimp only;exact wP0 (hend h' hsb hS')
end
abbrev byT(w:World):Bool:=w.params.followText "set-order"
abbrev KSetT(P:Program)(w:World)(h:Heap)(D:Addr)(val:Nat->Key)(i:Nat):Prop:=TSet (zZ P w) h D (λk=>inK k (nO val i)) (nO val i).length (!byT w)
def KSetT.move{P:Program}{w:World}{h h':Heap}{D:Addr}{val:Nat->Key}{i:Nat}(x:KSetT P w h D val i)(m: ∀o,h.get? D=some o->h'.get? D=some o):KSetT P w h' D val i:=by obtain⟨o,es,ep,t,ho,r⟩:=x;exact⟨o,es,ep,t,m o ho,r⟩
def StrT(val:Nat->Key)(i:Nat)(v:Value):Prop:= ∃x t,val i=.inr x/\v=.str x t
def StrT.is{P:Program}{w:World}{val:Nat->Key}{i:Nat}{v:Value}(h:StrT val i v):(zZ P w).is (val i) v=true/\v.scannable=true/\plainKind v=false:=by obtain⟨x,t,e,rfl⟩:=h;rw [e];exact⟨bK P w x t,rfl,rfl⟩
section
variable{P:Program}{w:World}{A:Around}{R:Result->Shared->Prop}{I D:Addr}{fp wr:Ah}{G:Array GenState->Array GenState->Prop}{n:Nat}{Pv:Nat->Value->Prop}{St:Nat->Shared->Prop}{val:Nat->Key}
theorem zKF(W:PySem.WalksS P w A.in1 I fp wr G n Pv St)(hD:D∉fp)(hv: ∀i v,Pv i v->StrT val i v)(hb:n+1<scanBound):
  ∀(k i:Nat)(s:Shared),i+k=n->St i s->KSetT P w s.heap D val i->
   (∀s',PySem.Moved (D::wr) G s s'->KSetT P w s'.heap D val n->R (.ok (.ret .none)) s')->codeAny (model P w) A (.builtin "set.update.loop" ⟨[.ref D,.ref I],[]⟩) R s
 |0,i,s,hk,st,hs,q=>by have e:i=n:=hk;subst e;refine codeAny_builtin F.entry_set_update_loop ?_;rw [Around.under_plainId F.plain_set_update_loop _];show wpAny _ A.in1 (pyNext (.ref I) >>= _) _ _ s;refine wB0 (W.done s _ _ st λs' m=>?_);exact wP0 (q s' (m.mono λb hb=>.tail _ hb) (hs.move λo=>m.heap D o λz=>hD (W.sub _ z)))
 |k+1,i,s,hk,st,hs,q=>by
  refine codeAny_builtin F.entry_set_update_loop ?_;rw [Around.under_plainId F.plain_set_update_loop _];show wpAny _ A.in1 (pyNext (.ref I) >>= _) _ _ s;refine wB0 (W.item i s _ _ (by omega) st λv s' hP st' m=>?_);obtain⟨hi,hsc,hpk⟩:=(hv i v hP).is (P:=P) (w:=w);have hs1:KSetT P w s'.heap D val i:=hs.move λo=>m.heap D o λz=>hD (W.sub _ z);have le:=zIR val i;show wpAny _ A.in1 (holding [v] (setAdd D v) >>= _) _ _ s';refine wB0 (wpAny_holding ?_);unfold setAdd;refine wpAny_holding (wB0 ((zZ P w).pyHash hi ?_));refine zUM (s:={s' with toks:=s'.toks+1}) hi hsc hpk hs1 (by omega) λh2 sb hs2=>?_;have hs3:KSetT P w h2 D val (i+1):=by unfold KSetT;rw [show(λk=>inK k (nO val (i+1)))=(λk=>inK k (nO val i) || decide (k=val i))from funext (yCG val i),yCH];exact hs2
  refine wP0 ⟨plainId_quiet F.plain_set_update_loop _,zKF W hD hv hb k (i+1) _ (by omega) (W.frame _ s' _ _ st' (le_succ _) λb hb o e=>?_) hs3 λs2 m2 hs4=>?_⟩
  ·rw [sb.2 b λz=>hD (z▸hb)];exact e
  ·refine q s2 (PySem.Moved.trans W.gtrans ((m.mono λb hb=>.tail _ hb).then_heap (le_succ _) λb o hb e=>?_) m2) hs4;rw [sb.2 b λz=>hb (by rw [z];exact .head _)];exact e
end
section
variable{P:Program}{w:World}{A:Around}{E:VP}{s:Shared}
def yMW{h:Heap}{a:Addr}{val:Nat->Key}(ho:h.get? a=some (xQ (!byT w))):KSetT P w h a val 0:=
 ⟨xQ (!byT w),#[],0,_,ho,⟨rfl,rfl,rfl⟩,rfl,λe he=>absurd he (by simp),λk=>⟨λz=>absurd (show false=true from z) xF0,λ⟨e,he,_⟩=>absurd he (by simp)⟩,by unfold scanBound;decide,rfl,rfl,rfl,.inl rfl,.nil⟩
def zLU(a:Value){Q₁:VP}
  (h:Q₁ (.ref s.heap.objs.size) {s with heap:=s.heap.push (xQ (!byT w))}):
  codeAny (model P w) A (.call (.builtin "set.__new__") ⟨[.type "set",a],[]⟩) (wants Q₁ E) s:=by
 refine codeAny_of_tree ?_;show wpAny _ A.in1 (do checkBuiltinCall "set.__new__" ⟨[.type "set",a],[]⟩;again (.builtin "set.__new__" ⟨[.type "set",a],[]⟩)) _ _ s;refine wB0 (wpAny_of_eq (F.newCall_set_1 a) (wP0 ⟨plainId_quiet F.plain_set_new _,codeAny_builtin F.entry_set_new ?_⟩));rw [Around.under_plainId F.plain_set_new _];unfold Builtin.«set.__new__» Builtin.Frozenset.newClass;have hsub:=sub_set_self;obtain⟨hp,g,d,tk,os⟩:=s;dsimp only
 wp_walk
 refine wpAny_askSetting (wP0 ?_);dsimp only;simp only [newObj];refine wB0 (wpAny_alloc (wP0 ?_));exact wP0 h
def zKG{l:Addr}{items:Ag}{val:Nat->Key}{Q:VP}(hh:A.handled=none)(hl:s.heap.IsList l items)(hv: ∀(i:Nat)(v:Value),items[i]? =some v->StrT val i v)(hb:items.size+1<scanBound)
  (h: ∀(h':Heap)(tk:Nat),KSetT P w h' s.heap.objs.size val items.size->(∀b o,s.heap.get? b=some o->h'.get? b=some o)->Q (.ref s.heap.objs.size) {s with heap:=h',toks:=tk}):
  wpAny (model P w) A (call (.type "set") [.ref l]) Q E s:=by
 obtain⟨c,tl,hmro⟩:=F.called_set.mro;have hmade:=F.called_set.made;have hsub:=F.called_set.sub;refine wpAny_call (codeAny_of_tree ?_);show wpAny _ _ (callAny (.type "set") _) _ _ _;refine wP0 ⟨Code.quiet_builtin _ (by decide+kernel),codeAny_builtin F.entry_type_call ?_⟩;rw [Around.under_plain (weight_type_call_type "set" [.ref l] []) rfl];have h1:=F.called_set.notType;have h2:=F.called_set.canCreate;have hct:=F.typeCall_set_1 (.ref l)
 repeat (any_goals (first |assumption|wp_step))
 refine codeAny_mono (zLU (.ref l) (E:=E) (Q₁:=λob s1=>ob=.ref s.heap.objs.size/\s1={s with heap:=s.heap.push (xQ (!byT w))}) ⟨rfl,rfl⟩) λr s1 hr=>?_
 cases r with
 |error e=>exact hr
 |ok fl=>
  cases fl with
  |ret ob=>
   obtain⟨rfl,rfl⟩:=hr;have g0:(s.heap.push (xQ (!byT w))).get? s.heap.objs.size=some (xQ (!byT w)):=Heap.get?_push_size _ rfl;have hT:Shared.TypeIs {s with heap:=s.heap.push (xQ (!byT w))} (.ref s.heap.objs.size) "set":=⟨_,g0,rfl⟩
   have hli:=F.called_set.init.lookup;have hbi:=F.called_set.init.bind (.ref s.heap.objs.size)
   repeat (any_goals (first |assumption|wp_step))
   refine codeAny_mono (codeAny_call_builtin (R:=wants (λr s2=>r=.none/\ ∃h' tk,s2={s with heap:=h',toks:=tk}/\KSetT P w h' s.heap.objs.size val items.size/\ ∀b o,s.heap.get? b=some o->h'.get? b=some o) E)
    F.called_set.init.plain F.entry_set_init (check_set_init_1 hT ?_)) λr2 s2 hr2=>?_
   ·have hl1:(s.heap.push (xQ (!byT w))).IsList l items:=hl.push _;obtain⟨⟨oc,od,oda,os⟩,hol,hcl,nl,hdl⟩:=hl;cases hcl;cases hdl;have hol':(s.heap.push (xQ (!byT w))).get? l=some {cls:=.type "list",dict:=od,data:=.seq items nl,slots:=os}:=hP0 _ hol;have hsls:=PySem.F.sub_list_set;have hslf:=PySem.F.sub_list_frozenset;have hne:(Value.type "list"==Value.type "dict")=false:=by decide
    have lt:l<s.heap.objs.size:=Heap.lt_size hol;unfold Builtin.«set.__init__» noKeywords Builtin.Frozenset.updateFrom;generalize hPI:pyIter=PI
    wp_walk
    subst hPI;refine wpAny_pyIter_list hl1 ?_;refine wB0 (wpAny_runValue ?_);have h3:A.in1.in1.in1.handled=none:=by simp [hh]
    have lt2:l<(s.heap.push (xQ (!byT w))).objs.size:=by rw [Heap.size_push];exact lt_succ_of_lt lt
    have out:s.heap.objs.size∉[(s.heap.push (xQ (!byT w))).objs.size,l]:=by
     rw [Heap.size_push];intro z;rcases mC.mp z with z|z
     ·exact absurd z (ne_of_lt (lt_succ_self _))
     ·exact absurd (mS.mp z) (ne_of_gt lt)
    refine zKF ((Walks.list h3 _ l (ne_of_lt lt2) items).toS) (D:=s.heap.objs.size) (val:=val) out hv hb items.size 0 _ (zero_add _) ⟨⟨_,Heap.get?_push_size _ rfl,rfl,rfl⟩,hl1.push _⟩ ?hS0 ?hR
    case hS0=>
     have gg:((s.heap.push (xQ (!byT w))).push {cls:=.type "list_iterator",data:=.fields #[.ref l,.int 0 0]}).get? s.heap.objs.size=some (xQ (!byT w)):=hP0 _ g0;exact yMW gg
    case hR=>
     intro s' m hs';obtain⟨h',g',d',tk',os'⟩:=s';have e1:g'=s.gens:=m.gens;have e2:d'=s.drawn:=m.drawn;have e3:os'=s.os:=m.os;subst e1;subst e2;subst e3;show wpAny _ _ _ _ _ _;refine wP0 ?_;show wpAny _ _ (ret Value.none) _ _ _;refine wP0 ⟨rfl,h',tk',rfl,hs',λb o e=>?_⟩;have hb0:=Heap.lt_size e;refine m.heap b o (λz=>?_) (hP0 _ (hP0 _ e));rcases mC.mp z with z|z
     ·exact absurd z (ne_of_lt hb0)
     ·rw [Heap.size_push]at z;exact absurd (mS.mp z) (ne_of_lt (lt_succ_of_lt hb0))
   ·cases r2 with
    |error e=>exact hr2
    |ok fl2=>
     cases fl2 with
     |ret r=>
      obtain⟨rfl,h',tk,rfl,hs',hk'⟩:=hr2
      repeat (any_goals (first |assumption|wp_step))
      exact h _ _ hs' hk'
     |_=>exact hr2.elim
  |_=>exact hr.elim
end
end M
end L2
namespace PySem.F
def slot_seti_next:Slot "set_iterator" "__next__" "set_iterator.__next__":=
 .of (owner:="set_iterator") (n:="__next__") (by rw [typeLookup_type,builtinLookup_eq_fast];kernel_rfl) (by decide+kernel) (by decide+kernel) (by decide+kernel)
  (by first |exact .inl (by decide+kernel)|exact .inr (by decide+kernel)) (by rw [isSubtype_type];kernel_rfl)
def entry_seti_next:entryFor table "set_iterator.__next__"=some Builtin.«set_iterator.__next__»:=entryFor_of_tree (by kernel_rfl)
def entry_set_iter':entryFor table "set.__iter__"=some Builtin.«frozenset.__iter__»:=entryFor_alias (id':="frozenset.__iter__") (by kernel_rfl) rfl (by decide+kernel) (by kernel_rfl)
theorem zKH:Manifest.owners.lookup (String.ofList ['r', 'o', 't', 'a', 'r', 'e', 't', 'i', '_', 't', 'e', 's'].reverse)=some Manifest.sig_set_iterator:=by kernel_rfl
theorem args_seti_next(a:Value):argsOk "set_iterator.__next__" ⟨[a],[]⟩:=by unfold argsOk;rw [signature?_of (id:="set_iterator.__next__") (n:=['_', '_', 't', 'x', 'e', 'n', '_', '_']) (o:=['r', 'o', 't', 'a', 'r', 'e', 't', 'i', '_', 't', 'e', 's']) (by kernel_rfl) zKH];kernel_rfl
end PySem.F
namespace L2
namespace M
open PySem PySem.Spec PyProof.Rows
section
variable{α:Type}{prog:Program}{w:World}{A:Around}{E:VP}{s:Shared}
def zOY{src:Source}{n:Nat}(hn:n≠0){Q:Nat->Shared->Prop}(h: ∀i d',i<n->Q i {s with drawn:=d'}):wpAny (model prog w) A (choose src n) Q E s:=λΓ p hΓ=>by unfold choose;rw [Sem.wp_choose];exact⟨hn,h _ _ (mod_lt _ (Nat.pos_of_ne_zero hn))⟩
theorem zER: ∀(l:List α)(i:Nat)(hi:i<l.length),(l[i]::l.eraseIdx i).Perm l
 |x::l,0,_=>.refl _
 |x::l,i+1,hi=>by
  have hi':i<l.length:=by simpa using hi
  have:=zER l i hi';exact(List.Perm.swap x l[i] (l.eraseIdx i)).trans (this.cons x)
theorem zKI: ∀(n:Nat)(xs:List α){s:Shared}{Q:List α->Shared->Prop},xs.length=n->(∀ys d',ys.Perm xs->Q ys {s with drawn:=d'})->wpAny (model prog w) A (drawOrder n xs) Q E s
 |0,xs,s,Q,hn,h=>by have e:xs=[]:=List.eq_nil_of_length_eq_zero hn;subst e;exact wP0 (h [] s.drawn (.refl _))
 |n+1,[],s,Q,hn,h=>by simp at hn
 |n+1,x::xs,s,Q,hn,h=>by unfold drawOrder;refine wB0 (zOY (by simp) λi d' hi=>?_);have e:(x::xs)[i]? =some ((x::xs)[i]):=gE0 hi;rw [e];dsimp only;refine wB0 (zKI n ((x::xs).eraseIdx i) (by rw [List.length_eraseIdx_of_lt hi,hn];rfl) λys d2 hp=>?_);refine wP0 (h _ d2 ?_);exact(hp.cons _).trans (zER _ i hi)
def SetAt(h:Heap)(D:Addr)(es:Ak)(ep:Nat)(t:SetTable):Prop:= ∃o,h.get? D=some o/\o.ExactSet/\o.data=.set es ep t/\t.fits es.size=true
abbrev wU(h:Heap)(it:Addr)(first:Value)(i n ep:Nat)(D:Addr):Prop:=h.get? it=some {cls:=.type "set_iterator",dict:=none,data:=.fields #[first,rawInt i,.ref D,rawInt n,rawInt ep],slots:=#[]}
theorem zUN{it D T:Addr}{i n ep pl:Nat}{es:Ak}{t:SetTable}{places:Ab}{hx:Int}{x:Value}{Q:Option Value->Shared->Prop}(hit:wU s.heap it (.ref T) i n ep D)(hS:SetAt s.heap D es ep t)(hn:es.size=n)
  (hT:s.heap.get? T=some {cls:=.type "tuple",data:=.seq (places.map λk:Nat=>rawInt (k:Int)).toArray}) (hp:places[i]? =some pl) (he:es[pl]? =some (hx,x))
  (hQ: ∀h',wU h' it (.ref T) (i+1) n ep D->Heap.SameBut it s.heap h'->Q (some x) {s with heap:=h'}):
  wpAny (model prog w) A (pyNext (.ref it)) Q E s:=by
 have hTi:s.TypeIs (.ref it) "set_iterator":=⟨_,hit,rfl⟩
 obtain⟨o,ho,hex,hd,hf⟩:=hS;unfold pyNext
 refine wB0 (wpAny_attempt (wpAny_callSpecial?_slot (name:=Str.ofString "__next__") hTi F.slot_seti_next
  (wpAny_call_entry F.slot_seti_next hTi F.entry_seti_next ?_ (F.args_seti_next _))))
 unfold Builtin.«set_iterator.__next__» slotArgs;refine wB0 (wP0 ?_);refine wB0 (wpAny_fieldsOf hit rfl ?_);dsimp only;refine wB0 (wpAny_setEntries_of ho hd hf ?_);rw [iN (by simp [hn])];dsimp only;refine wB0 (wpAny_seqItems hT rfl ?_);dsimp only;have hpl:(places.map λk:Nat=>rawInt (k:Int)).toArray[(i:Int).toNat]? =some (rawInt (pl:Int)):=by rw [toNat_natCast,List.getElem?_toArray,getElem?_map,hp];rfl
 rw [hpl];dsimp only [rawInt];refine wB0 ?_;unfold setNextDrawn;refine wB0 (wpAny_setState_of ho hd hf ?_);dsimp only;rw [iN (by simp),toNat_natCast,he];refine wP0 ?_;refine wB0 (wpAny_setField hit rfl (by simp) ?_);refine wP0 ⟨_,rfl,wP0 (hQ _ ?_ (Heap.SameBut.update ..))⟩;exact Heap.get?_update_self _ hit rfl
def zKJ{it D T:Addr}{i n ep:Nat}{es:Ak}{t:SetTable}{places:Ab}{Q:Option Value->Shared->Prop}(hh:A.handled=none)(hit:wU s.heap it (.ref T) i n ep D)(hS:SetAt s.heap D es ep t)(hn:es.size=n)
  (hT:s.heap.get? T=some {cls:=.type "tuple",data:=.seq (places.map λk:Nat=>rawInt (k:Int)).toArray}) (hp:places[i]? =none)
  (hQ: ∀h',Heap.ExtBut it s.heap h'->Q none {s with heap:=h'}):wpAny (model prog w) A (pyNext (.ref it)) Q E s:=by
 have hTi:s.TypeIs (.ref it) "set_iterator":=⟨_,hit,rfl⟩
 obtain⟨o,ho,hex,hd,hf⟩:=hS;unfold pyNext
 refine wB0 (wpAny_attempt (wpAny_callSpecial?_slot (name:=Str.ofString "__next__") hTi F.slot_seti_next
  (wpAny_call_entry F.slot_seti_next hTi F.entry_seti_next ?_ (F.args_seti_next _))))
 unfold Builtin.«set_iterator.__next__» slotArgs;refine wB0 (wP0 ?_);refine wB0 (wpAny_fieldsOf hit rfl ?_);dsimp only;refine wB0 (wpAny_setEntries_of ho hd hf ?_);rw [iN (by simp [hn])];dsimp only;refine wB0 (wpAny_seqItems hT rfl ?_);dsimp only;have hpl:(places.map λk:Nat=>rawInt (k:Int)).toArray[(i:Int).toNat]? =none:=by rw [toNat_natCast,List.getElem?_toArray,getElem?_map,hp];rfl
 rw [hpl];dsimp only;refine wB0 (wpAny_setField hit rfl (by simp) ?_);refine wB0 (wpAny_setField (Heap.get?_update_self _ hit rfl) rfl (by simp) ?_);show wpAny _ _ (newExc (.type "StopIteration") [] >>= _) _ _ _;refine wB0 ?_;simp only [newExc,newTuple];refine wB0 (wpAny_newObj_type ?_ (by size_fits));refine wB0 (m:=firstArgMember _ _) (wpAny_of_eq (a:=Value.none) (by first |rfl|(simp only [firstArgMember];rfl)) ?_);refine wpAny_newObj_type ?_ (by size_fits);simp only [raiseNew];refine wB0 (wpAny_handled ?_);rw [show A.in1.handled=none from hh];refine wB0 (wP0 (wpAny_throw ?_));refine wB0 (wpAny_isInstance (T:="StopIteration") (b:=true) ⟨_,Heap.get?_push_size _ rfl,rfl⟩ isSubtype_stop ?_);exact wP0 (hQ _ ((((Heap.SameBut.update ..).trans (Heap.SameBut.update ..)).extBut.push _).push _))
end
theorem zWT{α:Type}(next:Nat->Nat): ∀(fuel k:Nat)(left:List α)(out:Array α),left.length=fuel->(pickOrder.go next fuel k left out).toList.Perm (out.toList++left)
 |0,k,left,out,h=>by have e:left=[]:=List.eq_nil_of_length_eq_zero h;subst e;unfold pickOrder.go;rw [aN]
 |fuel+1,k,left,out,h=>by
  have hi:next k % left.length<left.length:=mod_lt _ (by omega)
  unfold pickOrder.go;rw [gE0 hi];dsimp only;refine(zWT next fuel (k+1) _ _ (by rw [List.length_eraseIdx_of_lt hi,h];rfl)).trans ?_;rw [Array.toList_push,aA];exact(zER left _ hi).append_left out.toList
def zED{α:Type}(next:Nat->Nat)(xs:Array α):(pickOrder next xs).toList.Perm xs.toList:=by
 have:=zWT next xs.size 0 xs.toList #[] (by simp)
 simpa [pickOrder]using this
section
variable{prog:Program}{w:World}{A:Around}{E:VP}{s:Shared}
theorem zZH{it D:Addr}{i n ep:Nat}{es:Ak}{t:SetTable}{hx:Int}{x:Value}{Q:Option Value->Shared->Prop}(hb:byT w=true)(hit:wU s.heap it (rawInt 0) i n ep D)(hS:SetAt s.heap D es ep t)(hn:es.size=n)
  (he:(pickOrder (w.params.setOrder D ep) es)[i]? =some (hx,x))
  (hQ: ∀h',wU h' it (rawInt 0) (i+1) n ep D->Heap.SameBut it s.heap h'->Q (some x) {s with heap:=h'}):
  wpAny (model prog w) A (pyNext (.ref it)) Q E s:=by
 have hTi:s.TypeIs (.ref it) "set_iterator":=⟨_,hit,rfl⟩
 obtain⟨o,ho,hex,hd,hf⟩:=hS;unfold pyNext
 refine wB0 (wpAny_attempt (wpAny_callSpecial?_slot (name:=Str.ofString "__next__") hTi F.slot_seti_next
  (wpAny_call_entry F.slot_seti_next hTi F.entry_seti_next ?_ (F.args_seti_next _))))
 unfold Builtin.«set_iterator.__next__» slotArgs;refine wB0 (wP0 ?_);refine wB0 (wpAny_fieldsOf hit rfl ?_);dsimp only;refine wB0 (wpAny_setEntries_of ho hd hf ?_);rw [iN (by simp [hn])];dsimp only [rawInt];refine wB0 ?_;unfold setNext setsByText;refine wB0 (wpAny_setState_of ho hd hf ?_);dsimp only;refine wB0 (wB0 (wpAny_askSetting (wP0 ?_)));dsimp only;rw [iP (show(model prog w).w.params.followText "set-order"=true from hb),iN (by simp)];refine wB0 ?_;unfold setWalk setsByText;refine wB0 (wpAny_setState_of ho hd hf ?_);dsimp only;refine wB0 (wB0 (wpAny_askSetting (wP0 ?_)));dsimp only;rw [iP (show(model prog w).w.params.followText "set-order"=true from hb)];refine wB0 (wpAny_askSetting (wP0 ?_));refine wP0 ?_;dsimp only;rw [toNat_natCast,show(pickOrder ((model prog w).w.params.setOrder D ep) es)[i]? =some (hx,x)from he];dsimp only [Option.map];refine wB0 (wpAny_setField hit rfl (by simp) ?_);refine wB0 (wpAny_setField (Heap.get?_update_self _ hit rfl) rfl (by simp) ?_);refine wP0 ⟨_,rfl,wP0 (hQ _ ?_ ((Heap.SameBut.update ..).trans (Heap.SameBut.update ..)))⟩;exact Heap.get?_update_self _ (Heap.get?_update_self _ hit rfl) rfl
def zLV{it D:Addr}{i n ep:Nat}{es:Ak}{t:SetTable}{Q:Option Value->Shared->Prop}(hh:A.handled=none)(hb:byT w=true)(hit:wU s.heap it (rawInt 0) i n ep D)(hS:SetAt s.heap D es ep t)(hn:es.size=n)
  (he:(pickOrder (w.params.setOrder D ep) es)[i]? =none)
  (hQ: ∀h',Heap.ExtBut it s.heap h'->Q none {s with heap:=h'}):wpAny (model prog w) A (pyNext (.ref it)) Q E s:=by
 have hTi:s.TypeIs (.ref it) "set_iterator":=⟨_,hit,rfl⟩
 obtain⟨o,ho,hex,hd,hf⟩:=hS;unfold pyNext
 refine wB0 (wpAny_attempt (wpAny_callSpecial?_slot (name:=Str.ofString "__next__") hTi F.slot_seti_next
  (wpAny_call_entry F.slot_seti_next hTi F.entry_seti_next ?_ (F.args_seti_next _))))
 unfold Builtin.«set_iterator.__next__» slotArgs;refine wB0 (wP0 ?_);refine wB0 (wpAny_fieldsOf hit rfl ?_);dsimp only;refine wB0 (wpAny_setEntries_of ho hd hf ?_);rw [iN (by simp [hn])];dsimp only [rawInt];refine wB0 ?_;unfold setNext setsByText;refine wB0 (wpAny_setState_of ho hd hf ?_);dsimp only;refine wB0 (wB0 (wpAny_askSetting (wP0 ?_)));dsimp only;rw [iP (show(model prog w).w.params.followText "set-order"=true from hb),iN (by simp)];refine wB0 ?_;unfold setWalk setsByText;refine wB0 (wpAny_setState_of ho hd hf ?_);dsimp only;refine wB0 (wB0 (wpAny_askSetting (wP0 ?_)));dsimp only;rw [iP (show(model prog w).w.params.followText "set-order"=true from hb)];refine wB0 (wpAny_askSetting (wP0 ?_));refine wP0 ?_;dsimp only;rw [toNat_natCast,show(pickOrder ((model prog w).w.params.setOrder D ep) es)[i]? =none from he];dsimp only [Option.map];refine wB0 (wpAny_setField hit rfl (by simp) ?_);show wpAny _ _ (newExc (.type "StopIteration") [] >>= _) _ _ _;refine wB0 ?_;simp only [newExc,newTuple];refine wB0 (wpAny_newObj_type ?_ (by size_fits));refine wB0 (m:=firstArgMember _ _) (wpAny_of_eq (a:=Value.none) (by first |rfl|(simp only [firstArgMember];rfl)) ?_);refine wpAny_newObj_type ?_ (by size_fits);simp only [raiseNew];refine wB0 (wpAny_handled ?_);rw [show A.in1.handled=none from hh];refine wB0 (wP0 (wpAny_throw ?_));refine wB0 (wpAny_isInstance (T:="StopIteration") (b:=true) ⟨_,Heap.get?_push_size _ rfl,rfl⟩ isSubtype_stop ?_);exact wP0 (hQ _ (((Heap.SameBut.update ..).extBut.push _).push _))
theorem yCP{it D:Addr}{n ep sl j:Nat}{es:Ak}{t:SetTable}{hx:Int}{x:Value}{Q:Option Value->Shared->Prop}(hb:byT w=false)(hit:wU s.heap it (rawInt (sl:Int)) 0 n ep D)(hS:SetAt s.heap D es ep t)(hn:es.size=n)(h1:n<=1)(hl:t.led=true)
  (he:es[SetTable.below t.place sl]? =some (hx,x)) (hj:t.place[SetTable.below t.place sl]? =some j)
  (hQ: ∀h',wU h' it (rawInt ((j+1:Nat):Int)) 1 n ep D->Heap.SameBut it s.heap h'->Q (some x) {s with heap:=h'}):
  wpAny (model prog w) A (pyNext (.ref it)) Q E s:=by
 have hTi:s.TypeIs (.ref it) "set_iterator":=⟨_,hit,rfl⟩
 obtain⟨o,ho,hex,hd,hf⟩:=hS;unfold pyNext
 refine wB0 (wpAny_attempt (wpAny_callSpecial?_slot (name:=Str.ofString "__next__") hTi F.slot_seti_next
  (wpAny_call_entry F.slot_seti_next hTi F.entry_seti_next ?_ (F.args_seti_next _))))
 unfold Builtin.«set_iterator.__next__» slotArgs;refine wB0 (wP0 ?_);refine wB0 (wpAny_fieldsOf hit rfl ?_);dsimp only;refine wB0 (wpAny_setEntries_of ho hd hf ?_);rw [iN (by simp [hn])];dsimp only [rawInt];refine wB0 ?_;unfold setNext setsByText;refine wB0 (wpAny_setState_of ho hd hf ?_);dsimp only;refine wB0 (wB0 (wpAny_askSetting (wP0 ?_)));dsimp only;rw [iN (show¬(model prog w).w.params.followText "set-order"=true by rw [show(model prog w).w.params.followText "set-order"=false from hb];exact xF0)];show wpAny _ _ (if(!t.plain&&decide (es.size>1))=true then _ else _) _ _ _;rw [iN (by rw [show decide (es.size>1)=false from dF0 (by omega),Bool.and_false];exact xF0)];show wpAny _ _ ((if(!t.led&& !es.isEmpty)=true then unsupported "set:maker-not-led" else pure ()) >>= _) _ _ _;rw [iN (by rw [hl];exact xF0)];refine wB0 (wP0 ?_);refine wP0 ?_;rw [toNat_natCast,he,hj];dsimp only;refine wB0 (wpAny_setField hit rfl (by simp) ?_);refine wB0 (wpAny_setField (Heap.get?_update_self _ hit rfl) rfl (by simp) ?_);refine wP0 ⟨_,rfl,wP0 (hQ _ ?_ ((Heap.SameBut.update ..).trans (Heap.SameBut.update ..)))⟩;exact Heap.get?_update_self _ (Heap.get?_update_self _ hit rfl) rfl
def zOZ{it D:Addr}{i n ep sl:Nat}{es:Ak}{t:SetTable}{Q:Option Value->Shared->Prop}(hh:A.handled=none)(hb:byT w=false)(hit:wU s.heap it (rawInt (sl:Int)) i n ep D)(hS:SetAt s.heap D es ep t)(hn:es.size=n)(h1:n<=1)(hl:t.led=true)
  (he:es[SetTable.below t.place sl]? =none)
  (hQ: ∀h',Heap.ExtBut it s.heap h'->Q none {s with heap:=h'}):wpAny (model prog w) A (pyNext (.ref it)) Q E s:=by
 have hTi:s.TypeIs (.ref it) "set_iterator":=⟨_,hit,rfl⟩
 obtain⟨o,ho,hex,hd,hf⟩:=hS;unfold pyNext
 refine wB0 (wpAny_attempt (wpAny_callSpecial?_slot (name:=Str.ofString "__next__") hTi F.slot_seti_next
  (wpAny_call_entry F.slot_seti_next hTi F.entry_seti_next ?_ (F.args_seti_next _))))
 unfold Builtin.«set_iterator.__next__» slotArgs;refine wB0 (wP0 ?_);refine wB0 (wpAny_fieldsOf hit rfl ?_);dsimp only;refine wB0 (wpAny_setEntries_of ho hd hf ?_);rw [iN (by simp [hn])];dsimp only [rawInt];refine wB0 ?_;unfold setNext setsByText;refine wB0 (wpAny_setState_of ho hd hf ?_);dsimp only;refine wB0 (wB0 (wpAny_askSetting (wP0 ?_)));dsimp only;rw [iN (show¬(model prog w).w.params.followText "set-order"=true by rw [show(model prog w).w.params.followText "set-order"=false from hb];exact xF0)];show wpAny _ _ (if(!t.plain&&decide (es.size>1))=true then _ else _) _ _ _;rw [iN (by rw [show decide (es.size>1)=false from dF0 (by omega),Bool.and_false];exact xF0)];show wpAny _ _ ((if(!t.led&& !es.isEmpty)=true then unsupported "set:maker-not-led" else pure ()) >>= _) _ _ _;rw [iN (by rw [hl];exact xF0)];refine wB0 (wP0 ?_);refine wP0 ?_;rw [toNat_natCast,he];dsimp only;refine wB0 (wpAny_setField hit rfl (by simp) ?_);show wpAny _ _ (newExc (.type "StopIteration") [] >>= _) _ _ _;refine wB0 ?_;simp only [newExc,newTuple];refine wB0 (wpAny_newObj_type ?_ (by size_fits));refine wB0 (m:=firstArgMember _ _) (wpAny_of_eq (a:=Value.none) (by first |rfl|(simp only [firstArgMember];rfl)) ?_);refine wpAny_newObj_type ?_ (by size_fits);simp only [raiseNew];refine wB0 (wpAny_handled ?_);rw [show A.in1.handled=none from hh];refine wB0 (wP0 (wpAny_throw ?_));refine wB0 (wpAny_isInstance (T:="StopIteration") (b:=true) ⟨_,Heap.get?_push_size _ rfl,rfl⟩ isSubtype_stop ?_);exact wP0 (hQ _ (((Heap.SameBut.update ..).extBut.push _).push _))
end
section
variable{prog:Program}{w:World}{A:Around}{E:VP}{s:Shared}
abbrev yCQ(first:Value)(n ep:Nat)(D:Addr):Obj:={cls:=.type "set_iterator",dict:=none,data:=.fields #[first,rawInt (0:Nat),.ref D,rawInt n,rawInt ep],slots:=#[]}
abbrev zEE(places:Ab):Obj:={cls:=.type "tuple",data:=.seq (places.map λk:Nat=>rawInt (k:Int)).toArray}
def zKK{D:Addr}{es:Ak}{ep:Nat}{t:SetTable}{Q:VP}(hS:SetAt s.heap D es ep t)(hnd:byT w=true\/es.size<=1)
  (hQ:Q (.ref s.heap.objs.size) {s with heap:=s.heap.push (yCQ (rawInt 0) es.size ep D)}):wpAny (model prog w) A (pyIter (.ref D)) Q E s:=by
 obtain⟨o,ho,hex,hd,hf⟩:=hS;have hT:s.TypeIs (.ref D) "set":=⟨o,ho,hex.1⟩
 refine wpAny_pyIter_slot hT F.slot_set_iter (wpAny_call_entry F.slot_set_iter hT F.entry_set_iter' ?_ (F.args_set_iter_1 _));unfold Builtin.«frozenset.__iter__» Builtin.Frozenset.slot0 slotArgs;refine wB0 (wB0 (wP0 ?_));refine wP0 ?_;refine wB0 ?_;unfold Builtin.Frozenset.sizeOf;refine wB0 (wpAny_setEntries_of ho hd hf (wP0 ?_));refine wB0 (wB0 (wpAny_setState_of ho hd hf ?_));dsimp only;unfold setsByText;refine wB0 (wB0 (wpAny_askSetting (wP0 ?_)));refine wP0 ?_;dsimp only;show wpAny _ _ (if(!(model prog w).w.params.followText "set-order"&&(!t.plain&&decide (es.size>1)))=true then _ else _) _ _ _
 rw [iN (show¬(!(model prog w).w.params.followText "set-order"&&(!t.plain&&decide (es.size>1)))=true by
  rcases hnd with h|h
  ·rw [show(model prog w).w.params.followText "set-order"=true from h];exact xF0
  ·rw [show decide (es.size>1)=false from dF0 (by omega),Bool.and_false,Bool.and_false];exact xF0)]
 refine wB0 (wP0 ?_);refine wB0 (wpAny_setEpoch_of ho hd hf ?_);unfold newFields;refine wB0 (wpAny_newObj_type ?_ (by size_fits));refine wP0 ⟨_,rfl,"set_iterator",_,⟨_,Heap.get?_push_size _ rfl,rfl⟩,F.slot_seti_next.lookup,hQ⟩
def zUO{D:Addr}{es:Ak}{ep:Nat}{t:SetTable}{Q:VP}(hS:SetAt s.heap D es ep t)(hb:byT w=false)(hp:t.plain=false)(h1:1<es.size)(hz:es.size<4096)
  (hQ: ∀(places:Ab)(d':Drawn),places.Perm (List.range es.size)->Q (.ref (s.heap.objs.size+1)) {s with heap:=(s.heap.push (zEE places)).push (yCQ (.ref s.heap.objs.size) es.size ep D),drawn:=d'}):wpAny (model prog w) A (pyIter (.ref D)) Q E s:=by
 obtain⟨o,ho,hex,hd,hf⟩:=hS;have hT:s.TypeIs (.ref D) "set":=⟨o,ho,hex.1⟩
 refine wpAny_pyIter_slot hT F.slot_set_iter (wpAny_call_entry F.slot_set_iter hT F.entry_set_iter' ?_ (F.args_set_iter_1 _));unfold Builtin.«frozenset.__iter__» Builtin.Frozenset.slot0 slotArgs;refine wB0 (wB0 (wP0 ?_));refine wP0 ?_;refine wB0 ?_;unfold Builtin.Frozenset.sizeOf;refine wB0 (wpAny_setEntries_of ho hd hf (wP0 ?_));refine wB0 (wB0 (wpAny_setState_of ho hd hf ?_));dsimp only;unfold setsByText;refine wB0 (wB0 (wpAny_askSetting (wP0 ?_)));refine wP0 ?_;dsimp only;show wpAny _ _ (if(!(model prog w).w.params.followText "set-order"&&(!t.plain&&decide (es.size>1)))=true then _ else _) _ _ _;rw [iP (show(!(model prog w).w.params.followText "set-order"&&(!t.plain&&decide (es.size>1)))=true by rw [show(model prog w).w.params.followText "set-order"=false from hb,hp,show decide (es.size>1)=true from dT0 h1];rfl)];refine wB0 (zKI es.size (List.range es.size) (by simp) λplaces d' hpm=>?_);have hlen:places.length=es.size:=by rw [hpm.length_eq,length_range]
 refine wB0 (wpAny_newTuple ?_ (by rw [lM,hlen,sizeLine_eq];omega));have ho':(s.heap.push (zEE places)).get? D=some o:=hP0 _ ho;refine wB0 (wpAny_setEpoch_of (s:={s with heap:=s.heap.push (zEE places),drawn:=d'}) ho' hd hf ?_);unfold newFields;refine wB0 (wpAny_newObj_type ?_ (by size_fits));have hsz:(s.heap.push (zEE places)).objs.size=s.heap.objs.size+1:=by rw [Heap.size_push]
 refine wP0 ⟨_,rfl,"set_iterator",_,⟨_,Heap.get?_push_size _ rfl,rfl⟩,F.slot_seti_next.lookup,?_⟩;have:=hQ places d' hpm;rw [<-hsz]at this;exact this
end
end M
end L2
namespace PySem.F
def slot_seti_iter:Slot "set_iterator" "__iter__" "set_iterator.__iter__":=
 .of (owner:="set_iterator") (n:="__iter__") (by rw [typeLookup_type,builtinLookup_eq_fast];kernel_rfl) (by decide+kernel) (by decide+kernel) (by decide+kernel)
  (by first |exact .inl (by decide+kernel)|exact .inr (by decide+kernel)) (by rw [isSubtype_type];kernel_rfl)
def entry_seti_iter:entryFor table "set_iterator.__iter__"=some Builtin.«dict_keyiterator.__iter__»:=entryFor_alias (id':="dict_keyiterator.__iter__") (by kernel_rfl) rfl (by decide+kernel) (by kernel_rfl)
theorem args_seti_iter(a:Value):argsOk "set_iterator.__iter__" ⟨[a],[]⟩:=by unfold argsOk;rw [signature?_of (id:="set_iterator.__iter__") (n:=['_', '_', 'r', 'e', 't', 'i', '_', '_']) (o:=['r', 'o', 't', 'a', 'r', 'e', 't', 'i', '_', 't', 'e', 's']) (by kernel_rfl) zKH];kernel_rfl
end PySem.F
namespace L2
namespace M
open PySem PySem.Spec PyProof.Rows
section
variable{prog:Program}{w:World}{A:Around}{E:VP}{s:Shared}
def zHC{it D:Addr}{first:Value}{i n ep:Nat}{Q:VP}(hit:wU s.heap it first i n ep D)(hQ:Q (.ref it) s):wpAny (model prog w) A (pyIter (.ref it)) Q E s:=by
 have hT:s.TypeIs (.ref it) "set_iterator":=⟨_,hit,rfl⟩
 refine wpAny_pyIter_slot hT F.slot_seti_iter (wpAny_call_entry F.slot_seti_iter hT F.entry_seti_iter ?_ (F.args_seti_iter _));unfold Builtin.«dict_keyiterator.__iter__» slotArgs;refine wB0 (wP0 ?_);exact wP0 ⟨_,rfl,"set_iterator",_,hT,F.slot_seti_next.lookup,hQ⟩
def SetAt.keep{h h':Heap}{D:Addr}{es:Ak}{ep:Nat}{t:SetTable}(x:SetAt h D es ep t)(m: ∀o,h.get? D=some o->h'.get? D=some o):SetAt h' D es ep t:=by obtain⟨o,ho,r⟩:=x;exact⟨o,m o ho,r⟩
def zUP(hh:A.handled=none){I D T:Addr}(hDI:D≠I)(hTI:T≠I){es:Ak}{ep:Nat}{t:SetTable}{places:Ab}(hp:places.Perm (List.range es.size)):
  Walks prog w A I [I,D,T] [I] es.size (λi v=> ∃pl e,places[i]? =some pl/\es[pl]? =some e/\v=e.2) (λi h=>wU h I (.ref T) i es.size ep D/\SetAt h D es ep t/\h.get? T=some (zEE places)) where
 sub:=λb hb=>by simp at hb;simp [hb]
 frame:=λi h h' st hk=>⟨hk I (by simp) _ st.1,st.2.1.keep λo e=>hk D (by simp) o e,hk T (by simp) _ st.2.2⟩
 item:=λi s Q E hi st hQ=>by
  have hlen:places.length=es.size:=by rw [hp.length_eq,length_range]
  have hip:i<places.length:=by rw [hlen];exact hi
  have hpl:places[i]? =some places[i]:=gE0 hip;have hlt:places[i]<es.size:=mem_range.mp (hp.mem_iff.mp (getElem_mem hip));have he:es[places[i]]? =some es[places[i]]:=Array.getElem?_eq_getElem hlt;refine zUN (x:=es[places[i]].2) (hx:=es[places[i]].1) st.1 st.2.1 rfl st.2.2 hpl he λh' hit' hs'=>?_;refine hQ _ h' s.toks ⟨_,_,hpl,he,rfl⟩ ⟨hit',st.2.1.keep λo e=>hs'.extBut D o hDI e,hs'.extBut T _ hTI st.2.2⟩ λb o hb e=>hs'.extBut b o (λz=>hb (by simp [z])) e
 done:=λs Q E st hQ=>by
  have hlen:places.length=es.size:=by rw [hp.length_eq,length_range]
  exact zKJ hh st.1 st.2.1 rfl st.2.2 (getElem?_eq_none (by omega)) λh' he'=>hQ h' s.toks λb o hb e=>he' b o (λz=>hb (by simp [z])) e
 self:=λi s Q E st hQ=>zHC st.1 hQ
def zZI(hh:A.handled=none)(hb:byT w=true){I D:Addr}(hDI:D≠I){es:Ak}{ep:Nat}{t:SetTable}:
  Walks prog w A I [I,D] [I] es.size (λi v=> ∃e,(pickOrder (w.params.setOrder D ep) es)[i]? =some e/\v=e.2) (λi h=>wU h I (rawInt 0) i es.size ep D/\SetAt h D es ep t) where
 sub:=λb hb=>by simp at hb;simp [hb]
 frame:=λi h h' st hk=>⟨hk I (by simp) _ st.1,st.2.keep λo e=>hk D (by simp) o e⟩
 item:=λi s Q E hi st hQ=>by
  have hlen:(pickOrder (w.params.setOrder D ep) es).size=es.size:=by rw [<-Array.length_toList,(zED _ es).length_eq,Array.length_toList]
  have he:(pickOrder (w.params.setOrder D ep) es)[i]? =some ((pickOrder (w.params.setOrder D ep) es)[i]'(by omega)):=Array.getElem?_eq_getElem _;refine zZH (x:=((pickOrder (w.params.setOrder D ep) es)[i]'(by omega)).2) (hx:=((pickOrder (w.params.setOrder D ep) es)[i]'(by omega)).1) hb st.1 st.2 rfl he λh' hit' hs'=>?_;refine hQ _ h' s.toks ⟨_,he,rfl⟩ ⟨hit',st.2.keep λo e=>hs'.extBut D o hDI e⟩ λb o hb e=>hs'.extBut b o (λz=>hb (by simp [z])) e
 done:=λs Q E st hQ=>by
  have hlen:(pickOrder (w.params.setOrder D ep) es).size=es.size:=by rw [<-Array.length_toList,(zED _ es).length_eq,Array.length_toList]
  exact zLV hh hb st.1 st.2 rfl (Array.getElem?_eq_none (by omega)) λh' he'=>hQ h' s.toks λb o hb e=>he' b o (λz=>hb (by simp [z])) e
 self:=λi s Q E st hQ=>zHC st.1 hQ
theorem zNH(j k:Nat):SetTable.below #[j] k=if j<k then 1 else 0:=by unfold SetTable.below;show SetTable.below.go #[j] k 1 0 1=_;unfold SetTable.below.go;rw [iP (by decide)];show(if(#[j]:Array Nat).getD ((0+1) / 2) k<k then SetTable.below.go #[j] k 0 ((0+1) / 2+1) 1 else SetTable.below.go #[j] k 0 0 ((0+1) / 2))=_;show(if j<k then 1 else 0)=_;rfl
def zKL{t:SetTable}{n:Nat}(h:t.fits n=true):t.place.size=n:=by simp only [SetTable.fits,aE,beq_iff_eq,decide_eq_true_eq]at h;exact h.1
def yCR(hh:A.handled=none)(hb:byT w=false){I D:Addr}(hDI:D≠I){es:Ak}{ep:Nat}{t:SetTable}(h1:es.size<=1)(hl:t.led=true)(hfit:t.fits es.size=true):
  Walks prog w A I [I,D] [I] es.size (λi v=> ∃e,es[i]? =some e/\v=e.2) (λi h=>(∃sl:Nat,wU h I (rawInt (sl:Int)) i es.size ep D/\SetTable.below t.place sl=i)/\SetAt h D es ep t) where
 sub:=λb hb=>by simp at hb;simp [hb]
 frame:=λi h h' st hk=>⟨by obtain⟨sl,h1,h2⟩:=st.1;exact⟨sl,hk I (by simp) _ h1,h2⟩,st.2.keep λo e=>hk D (by simp) o e⟩
 item:=λi s Q E hi st hQ=>by
  obtain⟨⟨sl,hit,hbl⟩,hS⟩:=st;have hi0:i=0:=by omega
  subst hi0;have hps:=zKL hfit;have hp1:t.place.size=1:=by omega
  obtain⟨j,hj⟩: ∃j,t.place=#[j]:=by
   refine⟨t.place[0],?_⟩;apply Array.ext
   ·simp [hp1]
   ·intro i h1 h2;have:i=0:=by simp at h2;omega
    subst this;rfl
  have he:es[0]? =some es[0]:=Array.getElem?_eq_getElem hi;refine yCP (x:=es[0].2) (hx:=es[0].1) (j:=j) hb hit hS rfl h1 hl (by rw [hbl];exact he) (by rw [hbl,hj];rfl) λh' hit' hs'=>?_;refine hQ _ h' s.toks ⟨_,he,rfl⟩ ⟨⟨j+1,hit',by rw [hj,zNH,iP (lt_succ_self j)]⟩,hS.keep λo e=>hs'.extBut D o hDI e⟩ λb o hb e=>hs'.extBut b o (λz=>hb (by simp [z])) e
 done:=λs Q E st hQ=>by obtain⟨⟨sl,hit,hbl⟩,hS⟩:=st;exact zOZ hh hb hit hS rfl h1 hl (by rw [hbl];exact Array.getElem?_eq_none (le_refl _)) λh' he'=>hQ h' s.toks λb o hb e=>he' b o (λz=>hb (by simp [z])) e
 self:=λi s Q E st hQ=>by obtain⟨⟨sl,hit,hbl⟩,hS⟩:=st;exact zHC hit hQ
end
section
variable{prog:Program}{w:World}{A:Around}{E:VP}{s:Shared}
def yCS{r:Addr}{Q:Bool->Shared->Prop}(hT:s.TypeIs (.ref r) "set")(h:Q false s):wpAny (model prog w) A (Builtin.List.listLengthHint (.ref r)) Q E s:=by
 unfold Builtin.List.listLengthHint;refine wB0 (wpAny_specialOf hT PySem.F.slot_set_len.lookup ?_);generalize hid:("set.__len__":String)=id0
 wp_delta
 rw [show splitId id0=some ("set","__len__")from by subst hid;decide+kernel];subst hid;refine wB0 (wpAny_isInstance (T:="set") (b:=true) hT (by rw [isSubtype_type];kernel_rfl) ?_);refine wpAny_ite_split (λhab=>absurd hab (by decide)) (λ_=>?_);refine wpAny_ite_split (λ_=>?_) (λhab=>absurd (by decide+kernel) hab);refine wB0 (wpAny_typeOf hT ?_);exact wP0 h
def zUQ{P:Nat->Value->Prop}{acc:Ag}{n:Nat}{l:Ae}(h:ItemsOf P acc n)(hl:l.length=n)(hP: ∀i v,P i v->l[i]? =some v):acc.toList=l:=by
 refine ext_getElem? λi=>?_;by_cases hi:i<acc.size
 ·have e:acc[i]? =some acc[i]:=Array.getElem?_eq_getElem hi;have:=hP i _ (h.2 i _ e);rw [this,Array.getElem?_toList,e]
 ·have h1:=h.1;rw [getElem?_eq_none (by rw [Array.length_toList];omega),getElem?_eq_none (by omega)]
abbrev Pack(prog:Program)(w:World)(A:Around)(r:Addr)(s:Shared)(S:Addr)(n:Nat)(G:Array Value->Prop):Prop:=
 ∀(E:VP)(Q:VP),(∀(h':Heap)(d':Drawn)(I:Addr)(fp wr:Ah)(P:Nat->Value->Prop)(St:Nat->Heap->Prop),Walks prog w A I fp wr n P St->St 0 h'->S∉fp->(∀b∈wr,s.heap.objs.size<=b)->(∀b o,s.heap.get? b=some o->h'.get? b=some o)->(∀acc,ItemsOf P acc n->G acc)->Q (.ref I) {s with heap:=h',drawn:=d'})->wpAny (model prog w) A (pyIter (.ref r)) Q E s
def yCT(hh:A.handled=none){D S:Addr}{es:Ak}{ep:Nat}{t:SetTable}(hS:SetAt s.heap D es ep t)(hl:t.led= !byT w)(hp:es.size=0\/t.plain=false)(hz:es.size<4096)(hSD:S≠D)(hSl:S<s.heap.objs.size):
  Pack prog w A D s S es.size (λacc=>acc.toList.Perm (es.toList.map (·.2))):=by
 intro E Q hQ;have hDl:D<s.heap.objs.size:=by obtain⟨o,ho,_⟩:=hS;exact Heap.lt_size ho
 obtain⟨hfit⟩:Nonempty (t.fits es.size=true):=by obtain⟨o,_,_,_,hf⟩:=hS;exact⟨hf⟩
 cases hb:byT w with
 |true=>
  refine zKK hS (.inl hb) (hQ _ s.drawn _ _ _ _ _ (zZI hh hb (I:=s.heap.objs.size) (ne_of_lt hDl) (es:=es) (ep:=ep) (t:=t)) ⟨Heap.get?_push_size _ rfl,hS.keep λo e=>hP0 _ e⟩ ?_ ?_ (λb o e=>hP0 _ e) λacc hacc=>?_)
  ·simp only [mC,nM0,or_false,not_or];exact⟨ne_of_lt hSl,hSD⟩
  ·intro b hb;rw [mS.mp hb];exact le_refl _
  ·have hlen:(pickOrder (w.params.setOrder D ep) es).toList.length=es.size:=by rw [(zED _ es).length_eq,Array.length_toList]
   show acc.toList.Perm _;rw [zUQ (l:=(pickOrder (w.params.setOrder D ep) es).toList.map (·.2)) hacc (by rw [lM,hlen]) λi v ⟨e,h1,h2⟩=>by rw [getElem?_map,Array.getElem?_toList,h1,h2];rfl];exact(zED _ es).map _
 |false=>
  rw [hb]at hl;by_cases h1:es.size<=1
  ·refine zKK hS (.inr h1) (hQ _ s.drawn _ _ _ _ _ (yCR hh hb (I:=s.heap.objs.size) (ne_of_lt hDl) (es:=es) (ep:=ep) (t:=t) h1 hl hfit) ⟨⟨0,Heap.get?_push_size _ rfl,?_⟩,hS.keep λo e=>hP0 _ e⟩ ?_ ?_ (λb o e=>hP0 _ e) λacc hacc=>?_)
   ·have hps:=zKL hfit
    have hbl:SetTable.below t.place 0=0:=by
     rcases Nat.lt_or_ge t.place.size 1 with h|h
     ·have:t.place=#[]:=by apply Array.eq_empty_of_size_eq_zero;omega
      rw [this];rfl
     ·obtain⟨j,hj⟩: ∃j,t.place=#[j]:=by
       refine⟨t.place[0],?_⟩;apply Array.ext
       ·simp;omega
       ·intro i h1 h2;have:i=0:=by simp at h2;omega
        subst this;rfl
      rw [hj,zNH,iN (by omega)]
    exact hbl
   ·simp only [mC,nM0,or_false,not_or];exact⟨ne_of_lt hSl,hSD⟩
   ·intro b hb;rw [mS.mp hb];exact le_refl _
   ·show acc.toList.Perm _;rw [zUQ (l:=es.toList.map (·.2)) hacc (by simp) λi v ⟨e,h1,h2⟩=>by rw [getElem?_map,Array.getElem?_toList,h1,h2];rfl]
  ·refine zUO hS hb (hp.resolve_left (by omega)) (by omega) hz λplaces d' hpm=>?_;have hT1:(s.heap.push (zEE places)).objs.size=s.heap.objs.size+1:=by rw [Heap.size_push]
   have hlen:places.length=es.size:=by rw [hpm.length_eq,length_range]
   refine hQ _ d' _ _ _ _ _ (zUP hh (I:=s.heap.objs.size+1) (D:=D) (T:=s.heap.objs.size) (ne_of_lt (lt_succ_of_lt hDl)) (ne_of_lt (lt_succ_self _)) (es:=es) (ep:=ep) (t:=t) hpm) ⟨?_,hS.keep λo e=>hP0 _ (hP0 _ e),hP0 _ (Heap.get?_push_size _ rfl)⟩ ?_ ?_ (λb o e=>hP0 _ (hP0 _ e)) λacc hacc=>?_
   ·rw [<-hT1];exact Heap.get?_push_size _ rfl
   ·simp only [mC,nM0,or_false,not_or];exact⟨ne_of_lt (lt_succ_of_lt hSl),hSD,ne_of_lt hSl⟩
   ·intro b hb;rw [mS.mp hb];exact le_succ _
   ·show acc.toList.Perm _;rw [zUQ (l:=places.map λpl=>((es[pl]?).getD (0,.none)).2) hacc (by rw [lM,hlen]) λi v ⟨pl,e,h1,h2,h3⟩=>by rw [getElem?_map,h1,h3];show some ((es[pl]?).getD (0,.none)).2=_;rw [h2];rfl];refine(hpm.map _).trans ?_
    have:(List.range es.size).map (λpl=>((es[pl]?).getD (0,.none)).2)=es.toList.map (·.2):=by
     refine ext_getElem? λi=>?_;by_cases hi:i<es.size
     ·rw [getElem?_map,getElem?_range hi,getElem?_map,Array.getElem?_toList,Array.getElem?_eq_getElem hi];show some ((es[i]?).getD (0,.none)).2=_;rw [Array.getElem?_eq_getElem hi];rfl
     ·rw [getElem?_eq_none (by simp;omega),getElem?_eq_none (by simp;omega)]
    rw [this]
end
section
variable{prog:Program}{w:World}{A:Around}{E:VP}{s:Shared}
def zUR{R:Result->Shared->Prop}{r S:Addr}{n:Nat}{G:Array Value->Prop}(hpk:Pack prog w A.in1 r s S n G)(hT:s.TypeIs (.ref r) "set")(hSr:S≠r)(res:Value)(c₀:Nat)(hS:s.heap.get? S=some {cls:=.type "list",data:=.seq #[] c₀})(hn:n<=sizeLine)
  (hR: ∀h' tk d' acc' c',(∀b o,b≠S->s.heap.get? b=some o->h'.get? b=some o)->h'.get? S=some {cls:=.type "list",dict:=none,data:=.seq acc' c',slots:=#[]}->G acc'->R (.ok (.ret res)) {s with heap:=h',toks:=tk,drawn:=d'}):
  wpAny (model prog w) A.in1 (Builtin.List.listExtendWith (.ref S) (.ref r) res)
   (λfin s'=>match fin with |.done f=>R (.ok f) s'|.again c'=>c'.quiet=true/\codeAny (model prog w) A c' R s') (λe s'=>R (.error e) s') s:=by
 unfold Builtin.List.listExtendWith;refine wB0 (wpAny_typeOf (T:="set") hT ?_);have h1:Builtin.List.listSameRef (.ref S) (.ref r)=false:=by simp [Builtin.List.listSameRef,hSr]
 have h2:(Value.type "set"==Value.type "list")=false:=by decide
 have h3:(Value.type "set"==Value.type "tuple")=false:=by decide
 simp only [h1,h2,h3,Bool.or_false,fT,iF];refine wB0 (hpk _ _ λh₀ d₀ I fp wr P St W st hSf hwr hk₀ hG=>?_)
 have key: ∀(h:Heap)(c₁ tk:Nat),St 0 h->(∀b o,b≠S->s.heap.get? b=some o->h.get? b=some o)->
   h.get? S=some {cls:=.type "list",data:=.seq #[] c₁}->codeAny (model prog w) A (.builtin "list.extend.loop" ⟨[.ref S,.ref I,res],[]⟩) R {s with heap:=h,toks:=tk,drawn:=d₀}:=by
  intro h c₁ tk hst hk hS₁;refine codeAny_extend_loopS W.toS hn S hSf res n 0 _ #[] c₁ rfl (zero_le _) hst hS₁ (ItemsOf.nil _) λs' acc' c' hm hS' hacc=>?_;rw [Moved.eq_with hm];refine hR s'.heap s'.toks d₀ acc' c' (λb o hb e=>hm.heap b o (λhmem=>?_) (hk b o hb e)) hS' (hG _ hacc);rcases mC.mp hmem with e'|hmem
  ·exact hb e'
  ·exact absurd (Heap.lt_size e) (not_lt.mpr (hwr b hmem))
 have hS₁:=hk₀ S _ hS;have hT₁:Shared.TypeIs {s with heap:=h₀,drawn:=d₀} (.ref r) "set":=by obtain⟨o,ho,hc⟩:=hT;exact⟨o,hk₀ r o ho,hc⟩
 refine wB0 (wpAny_holding (yCS hT₁ ?_));refine wpAny_ite_split (λ_=>?_) (λ_=>wP0 ⟨plainId_quiet PySem.F.plain_extend_loop _,key _ c₀ _ st (λb o _ e=>hk₀ b o e) hS₁⟩);refine wB0 (wpAny_rule ?_);refine wB0 ?_;show wpAny _ _ (updateSeq S (·.push .none) >>= λ_=>updateSeq S (·.pop)) _ _ _;refine wB0 (wpAny_updateSeq hS₁ rfl ?_);have hS₂:=Heap.get?_update_self (Obj.mapSeq (·.push Value.none)) hS₁ rfl;refine wpAny_updateSeq (hz:=by seq_fits) hS₂ rfl ?_;have hS₃:=Heap.get?_update_self (Obj.mapSeq (·.pop)) hS₂ rfl;refine wP0 ⟨plainId_quiet PySem.F.plain_extend_loop _,key _ _ _ ?_ (λb o hb e=>?_) hS₃⟩
 ·refine W.frame 0 _ _ st λb hb o e=>?_;have hbS:b≠S:=λh=>hSf (h▸hb);exact(Heap.get?_update_other _ _ (Ne.symm hbS)).trans ((Heap.get?_update_other _ _ (Ne.symm hbS)).trans e)
 ·exact(Heap.get?_update_other _ _ (Ne.symm hb)).trans ((Heap.get?_update_other _ _ (Ne.symm hb)).trans (hk₀ b o e))
def zRW{R:List Value->Shared->Prop}(hh:A.handled=none){D:Addr}{es:Ak}{ep:Nat}{t:SetTable}(hS:SetAt s.heap D es ep t)(hl:t.led= !byT w)(hp:es.size=0\/t.plain=false)(hz:es.size<4096)
  (h: ∀(h':Heap)(tk:Nat)(d':Drawn)(acc:Ag),(∀b o,s.heap.get? b=some o->h'.get? b=some o)->acc.toList.Perm (es.toList.map (·.2))->R acc.toList {s with heap:=h',toks:=tk,drawn:=d'}):
  wpAny (model prog w) A (collect (.ref D)) R E s:=by
 have hDl:D<s.heap.objs.size:=by obtain⟨o,ho,_⟩:=hS;exact Heap.lt_size ho
 have hSn:=hS.keep (h':=s.heap.push {cls:=.type "list",data:=.seq ([]:Ae).toArray}) λo e=>hP0 _ e;have hT:Shared.TypeIs {s with heap:=s.heap.push {cls:=.type "list",data:=.seq ([]:Ae).toArray}} (.ref D) "set":=by obtain⟨o,ho,hex,_⟩:=hSn;exact⟨o,ho,hex.1⟩
 unfold collect;refine wB0 (wpAny_runValue (codeAny_builtin entry_proto_collect' ?_));rw [Around.under_plainId PySem.F.plain_proto_collect _];show wpAny _ A.in1 (newList [] >>= λl=>again (.builtin "list.__iadd__" ⟨[l,.ref D],[]⟩)) _ _ s;refine wB0 (wpAny_newObj_type ?_);refine wP0 ⟨plainId_quiet PySem.F.plain_list_iadd _,codeAny_builtin entry_list_iadd' ?_⟩;rw [Around.under_plainId PySem.F.plain_list_iadd _];have hS₁:(s.heap.push {cls:=.type "list",data:=.seq ([]:Ae).toArray}).get? s.heap.objs.size=some {cls:=.type "list",data:=.seq #[]}:=Heap.get?_push_size _ rfl;show wpAny _ A.in1 (Builtin.List.listExtendWith (.ref s.heap.objs.size) (.ref D) (.ref s.heap.objs.size)) _ _ _
 have key:=zUR (prog:=prog) (w:=w) (A:=A) (s:={s with heap:=s.heap.push {cls:=.type "list",data:=.seq ([]:Ae).toArray}})
  (R:=λ(q:Result) (s':Shared)=> ∃(h':Heap)(tk:Nat)(d':Drawn)(acc':Ag)(c':Nat),q=.ok (.ret (.ref s.heap.objs.size))/\s'={s with heap:=h',toks:=tk,drawn:=d'}/\
   (∀b o,s.heap.get? b=some o->h'.get? b=some o)/\h'.get? s.heap.objs.size=some {cls:=.type "list",dict:=none,data:=.seq acc' c',slots:=#[]}/\acc'.toList.Perm (es.toList.map (·.2)))
  (yCT (prog:=prog) (w:=w) (A:=A.in1) (s:={s with heap:=s.heap.push {cls:=.type "list",data:=.seq ([]:Ae).toArray}}) (S:=s.heap.objs.size) hh hSn hl hp hz (ne_of_gt hDl) (by show s.heap.objs.size<(s.heap.push _).objs.size;rw [Heap.size_push];exact lt_succ_self _)) hT (ne_of_gt hDl) (.ref s.heap.objs.size) 0 hS₁ (by rw [sizeLine_eq];omega)
  (λh' tk d' acc' c' hk hS' hacc=>⟨h',tk,d',acc',c',rfl,rfl,λb o e=>hk b o (ne_of_lt (Heap.lt_size e)) (hP0 _ e),hS',hacc⟩)
 refine wpAny_mono key (λfin s' x=>?_) λe s' x=>?_
 ·cases fin with
  |done f=>
   obtain⟨h',tk,d',acc',c',e,rfl,hk,hS',hacc⟩:=x;cases e;show wpAny _ A (load s.heap.objs.size >>= _) _ _ _;refine wB0 (wpAny_load hS' ?_);exact wP0 (h h' tk d' acc' hk hacc)
  |again c₁=>
   refine⟨x.1,codeAny_mono x.2 λq s₂ y=>?_⟩;obtain⟨h',tk,d',acc',c',rfl,rfl,hk,hS',hacc⟩:=y;show wpAny _ A (load s.heap.objs.size >>= _) _ _ _;refine wB0 (wpAny_load hS' ?_);exact wP0 (h h' tk d' acc' hk hacc)
 ·obtain⟨h',tk,d',acc',c',e,_⟩:=x;cases e
end
def zZJ{l l':Ae}(p:l.Perm l'): ∀{ss:Ai},StrsAre l' ss-> ∃ss2,StrsAre l ss2/\ss2.Perm ss:=by
 induction p with
 |nil=>intro ss h;exact⟨ss,h,.refl _⟩
 |cons x p ih=>
  intro ss h
  cases h with
  |cons y t h=>
   obtain⟨ss2,h1,h2⟩:=ih h;exact⟨y::ss2,.cons y t h1,h2.cons y⟩
 |swap x y l=>
  intro ss h
  cases h with
  |cons a t h=>
   cases h with
   |cons b u h=>exact⟨b::a::_,.cons b u (.cons a t h),.swap _ _ _⟩
 |trans p q ih1 ih2=>
  intro ss h;obtain⟨s2,h1,h2⟩:=ih2 h;obtain⟨s3,h3,h4⟩:=ih1 h1;exact⟨s3,h3,h4.trans h2⟩
section
variable{prog:Program}{w:World}{A:Around}{E:VP}{s:Shared}
def zRX{Q:VP}(hh:A.handled=none){D:Addr}{es:Ak}{ep:Nat}{t:SetTable}(hS:SetAt s.heap D es ep t)(hl:t.led= !byT w)(hp:es.size=0\/t.plain=false)(hn:es.size<64){ss:Ai}(hI:StrsAre (es.toList.map (·.2)) ss)
  (h: ∀(h':Heap)(tk:Nat)(d':Drawn)(out:Ag)(ss':Ai),(∀b o,s.heap.get? b=some o->h'.get? b=some o)->StrsAre out.toList ss'->ss'.Perm ss->sortedS ss'=true-> ∀(vs:Ae),Q (.ref h'.objs.size) {s with heap:=sortedHeap (h'.push (seqObj "list" vs.toArray 0)) h'.objs.size vs out,toks:=tk,drawn:=d'}):
  wpAny (model prog w) A (call (.builtin "sorted") [.ref D]) Q E s:=by
 refine Calls.call_function_entry kind_sorted plain_sorted entry_sorted (args_sorted1 _) ?_;unfold Builtin.«sorted»;refine wB0 (m:=checkCount "sorted" 1 1 _) (wP0 ?_);refine wB0 (zRW (A:=A.in1) hh hS hl hp (by omega) λh' tk d' acc hk hacc=>?_);have hlen:acc.toList.length=es.size:=by rw [hacc.length_eq,lM,Array.length_toList]
 refine wB0 (wpAny_newList ?_ (by rw [hlen,sizeLine_eq];omega));have hoL:(h'.push (seqObj "list" acc.toList.toArray 0)).get? h'.objs.size=some (seqObj "list" acc.toList.toArray 0):=Heap.get?_push_size _ rfl;show wpAny _ _ _ _ _ {s with heap:=h'.push (seqObj "list" acc.toList.toArray 0),toks:=tk,drawn:=d'};obtain⟨ss2,hS2,hp2⟩:=zZJ hacc hI;refine wB0 (wpAny_holding (wpAny_call_entry slot_list_sort ⟨_,hoL,rfl⟩ entry_list_sort (list_sort_treeK strKind_oneLt hoL hS2.keysOf (λv₁ v₂ rest e=>keyKind_strs (by rw [<-e];exact hS2)) (by rw [hlen];exact hn) λst' hp hs=>⟨_,rfl,?_⟩) (args_list_sort _)));obtain⟨ss',h1,h2,h3⟩:=sorted_out_str hS2 hp hs;refine wP0 ⟨_,rfl,h h' tk d' _ ss' hk h1 (h2.trans hp2) h3 acc.toList⟩
end
end M
end L2
namespace L2
open PySem PySem.Spec PyProof.Rows
variable{X:Cx}{pins:Ba}{σ:St}{H H':Hp}{s:Shared}{h':Heap}
def Inv.unD{t':Nat}{d':Drawn}(I:Inv X pins σ H s)(u:Un X.fs [] H H' s.heap h')(hok:HOk X.prog X.w H' h'):Inv X pins σ H' {s with heap:=h',toks:=t',drawn:=d'}:=by obtain⟨m,⟨o,es,ep,ho,r⟩,_⟩:=id I.loc;obtain⟨sl,hL⟩:=u.any ho I.free (by simp);exact I.step (g':=s.gens) (d':=d') (ch:=[]) (λ_ z=>nomatch z) (λb o _ hb _ e n=>u.keep b o e n hb (by simp)) (λb o _ hb _ e n=>u.slot b o e n hb (by simp)) (λb o _ e n=>u.free b o e n (by simp)) (λb o _ e=>u.there b o e (by simp)) u.tups u.frzs u.tbls (λm hm=>by obtain⟨o',es',ep',ho',r'⟩:=hm;rw [ho]at ho';cases ho';exact⟨_,es',ep',hL,r'⟩) hok I.bare
def Inv.keptD{t':Nat}{d':Drawn}(I:Inv X pins σ H s)(k: ∀b u,s.heap.get? b=some u->h'.get? b=some u):Inv X pins σ H {s with heap:=h',toks:=t',drawn:=d'}:=I.unD (Un.kept k) (I.hok.kept k)
namespace M
section
variable{X:Cx}{W:XW}{e:Expr}{af:Rho->Sto->R (List Er)}{p1 p2 pos1 pos2:Pos}
def wX(ys:Aa):List (List Nat):=ys.foldl (λacc x=>if x∈acc then acc else acc++[x]) []
theorem zRY{ys:Aa}: ∀i,i<=ys.length->nO (zLT ys) i=(wX (ys.take i)).map λx=>(.inr (mkS x):Key)
 |0,_=>rfl
 |i+1,hi=>by
  have hl:i<ys.length:=hi;have hv:zLT ys i=.inr (mkS ys[i]):=by unfold zLT;rw [getD_eq_getElem?_getD,gE0 hl];rfl
  have ht:wX (ys.take (i+1))=if ys[i]∈wX (ys.take i)then wX (ys.take i)else wX (ys.take i)++[ys[i]]:=by unfold wX;rw [List.take_add_one,gE0 hl,List.foldl_append];rfl
  have hin:inK (.inr (mkS ys[i])) ((wX (ys.take i)).map λx=>(.inr (mkS x):Key))=true↔ys[i]∈wX (ys.take i):=by
   unfold inK;rw [any_eq_true];constructor
   ·rintro⟨y,hy,e⟩;obtain⟨x,hx,rfl⟩:=mM.mp hy;have e:=of_decide_eq_true e;injection e with e
    rw [<-zDX e];exact hx
   ·exact λh=>⟨_,mM.mpr ⟨_,h,rfl⟩,dT0 rfl⟩
  rw [zEC,zRY i (le_of_lt hl),hv,ht];by_cases h:ys[i]∈wX (ys.take i)
  ·rw [iP (hin.mpr h),iP h]
  ·rw [iN λz=>h (hin.mp z),iN h,map_append];rfl
def setT(P:Program)(w:World)(l:Addr)(ys:Aa):HO:=.ext λh=>KSetT P w h l (zLT ys) ys.length
theorem zRZ: ∀{ys:Aa}{us:Ae},Vals (ys.map λx=>V.str (mkS x)) us->us.length=ys.length/\ ∀(i:Nat)(v:Value),us[i]? =some v->StrT (zLT ys) i v
 |[],us,r=>by cases r;exact⟨rfl,λi v h=>by simp at h⟩
 |y::ys,us,r=>by
  rw [map_cons]at r
  cases r with
  |cons r1 r2=>
   obtain⟨t,rfl⟩:=r1;obtain⟨h1,h2⟩:=zRZ r2;refine⟨by rw [lC,lC,h1],λi v h=>?_⟩
   cases i with
   |zero=>
    simp at h;exact⟨mkS y,t,rfl,h.symm⟩
   |succ i=>exact h2 i v (by simpa using h)
def zZK:CallR X (.type "set") (λxs H Q=> ∃a ys,xs=[.ref a]/\SqL X.K H a (ys.map λx=>V.str (mkS x))/\ys.length<64/\X.calm=true/\ ∀l,H l=none->Q (.ref l) (upd H l (setT X.prog X.w l ys))):=by
 intro pins s σ H xs us Q I r h;obtain⟨a,ys,rfl,hq,hn,hc,q⟩:=h;obtain⟨u,rfl,rx⟩:=vals1 r;cases rx;have fin: ∀(h':Heap)(tk:Nat)(n:Nat),n=ys.length->KSetT X.prog X.w h' s.heap.objs.size (zLT ys) n->(∀b o,s.heap.get? b=some o->h'.get? b=some o)->EP X pins σ Q (.ref s.heap.objs.size) {s with heap:=h',toks:=tk}:=by intro h' tk n en hs kp;subst en;refine⟨.ref s.heap.objs.size,_,I.laid (o:=setT X.prog X.w s.heap.objs.size ys) (t':=tk) kp (le_refl _) ⟨hs,?_,λh1 h2 z mv=>z.move mv⟩,rfl,q _ (I.hok.fresh (le_refl _))⟩;obtain⟨o,_,_,_,ho,_⟩:=hs;exact⟨o,ho⟩
 obtain⟨its,rv,p,hz⟩:=I.list hq;obtain⟨e1,e2⟩:=zRZ rv;have sz:its.toArray.size=ys.length:=by rw [sA];exact e1
 exact zKG (val:=zLT ys) (I.ok.hd hc) p.isList (λi v h=>e2 i v (by simpa using h)) (by rw [sz];unfold scanBound;omega) λh' tk hs kp=>fin h' tk _ sz hs kp
theorem zKM: ∀(l:Ae),(∀v∈l, ∃x t,v=.str x t)-> ∃ss:List Str,StrsAre l ss/\ ∀y,y∈ss↔ ∃t,Value.str y t∈l
 |[],_=>⟨[],.nil,λy=>⟨λh=>by simp at h,λ⟨t,h⟩=>by simp at h⟩⟩
 |v::l,h=>by
  obtain⟨x,t,rfl⟩:=h v mF0;obtain⟨ss,h1,h2⟩:=zKM l λu hu=>h u (mO _ hu);refine⟨x::ss,.cons x t h1,λy=>?_⟩;rw [mC,h2];constructor
  ·rintro(rfl|⟨u,hu⟩)
   ·exact⟨t,mF0⟩
   ·exact⟨u,mO _ hu⟩
  ·rintro⟨u,hu⟩;rcases mC.mp hu with e|hu
   ·cases e;exact .inl rfl
   ·exact .inr ⟨u,hu⟩
theorem zWU{prog:Program}{w:World}: ∀{l:Ae}{ss:Ai},StrsAre l ss->l.Pairwise (λx y=> ∀k,(zZ prog w).is k x=true-> ¬(zZ prog w).is k y=true)->ss.Nodup
 |_,_,.nil,_=>nodup_nil
 |_,_,.cons y t (vs:=vs) (ys:=ys) h,hp=>by
  rw [pairwise_cons]at hp;rw [nodup_cons];refine⟨λhm=>?_,zWU h hp.2⟩
  have: ∀{l:Ae}{ss:Ai},StrsAre l ss->y∈ss-> ∃t,Value.str y t∈l:=by
   intro l ss h
   induction h with
   |nil=>intro z;simp at z
   |cons z u h ih=>
    intro hz;rcases mC.mp hz with rfl|hz
    ·exact⟨u,mF0⟩
    ·obtain⟨t,ht⟩:=ih hz;exact⟨t,mO _ ht⟩
  obtain⟨t2,ht⟩:=this h hm;exact hp.1 _ ht (.inr y) (bK prog w y t) (bK prog w y t2)
end
theorem zIS: ∀(ys acc:Aa),acc.Nodup->(ys.foldl (λacc x=>if x∈acc then acc else acc++[x]) acc).Nodup/\ ∀x,x∈ys.foldl (λacc x=>if x∈acc then acc else acc++[x]) acc↔x∈acc\/x∈ys
 |[],acc,h=>⟨h,λx=>by simp⟩
 |y::ys,acc,h=>by
  rw [foldl_cons];by_cases hy:y∈acc
  ·rw [iP hy];obtain⟨h1,h2⟩:=zIS ys acc h;refine⟨h1,λx=>?_⟩;rw [h2,mC];exact⟨λz=>z.elim .inl λz=>.inr (.inr z),λz=>z.elim .inl λz=>z.elim (λe=>.inl (e▸hy)) .inr⟩
  ·rw [iN hy];obtain⟨h1,h2⟩:=zIS ys (acc++[y]) (nodup_append.mpr ⟨h,by simp,λa ha b hb=>by rw [mS.mp hb];rintro rfl;exact hy ha⟩);refine⟨h1,λx=>?_⟩;rw [h2,mem_append,mS,mC,or_assoc]
def zWV(ys:Aa):(wX ys).Nodup:=(zIS ys [] nodup_nil).1
def zCZ(ys:Aa)(x:Ab):x∈wX ys↔x∈ys:=by have:=(zIS ys [] nodup_nil).2 x;unfold wX;rw [this];simp
section
variable{X:Cx}{W:XW}{e:Expr}{af:Rho->Sto->R (List Er)}{p1 p2 pos1 pos2:Pos}
def zSA:CallR X (.builtin "sorted") (λxs H Q=> ∃l ys,xs=[.ref l]/\ys.length<64/\H l=some (setT X.prog X.w l ys)/\X.calm=true/\ ∀p,H p=none->Q (.ref p) (upd H p (.lst ((jZ (wX ys)).map λz=>V.str (mkS z))))):=by
 intro pins s σ H xs us Q I r h;obtain⟨l,ys,rfl,hn,hl,hc,q⟩:=h;obtain⟨u,rfl,rx⟩:=vals1 r;cases rx;obtain⟨hs,_⟩:=(show ObjOk X.prog X.w H s.heap l (setT X.prog X.w l ys)from I.hok l _ hl)
 obtain⟨o,es,ep,t,ho,hex,hd,hel,hmem,hb,hf,hz,hled,hpl,hw⟩:=hs;have hmk:nO (zLT ys) ys.length=(wX ys).map λx=>(.inr (mkS x):Key):=by have:=zRY (ys:=ys) ys.length (le_refl _);rw [take_length]at this;exact this
 have hinK: ∀k,inK k (nO (zLT ys) ys.length)=true↔ ∃x∈ys,k=.inr (mkS x):=λk=>by
  rw [hmk];unfold inK;rw [any_eq_true];constructor
  ·rintro⟨y,hy,e⟩;obtain⟨x,hx,rfl⟩:=mM.mp hy;exact⟨x,(zCZ ys x).mp hx,(of_decide_eq_true e).symm⟩
  ·rintro⟨x,hx,rfl⟩;exact⟨_,mM.mpr ⟨x,(zCZ ys x).mpr hx,rfl⟩,dT0 rfl⟩
 have hsz:es.size<=ys.length:=by rw [hz];exact zIR _ _
 obtain⟨ss,hss,hsm⟩:=zKM (es.toList.map (·.2)) λv hv=>by
  obtain⟨e',he,rfl⟩:=mM.mp hv;obtain⟨⟨k,hk,_⟩,_⟩:=hel e' he;obtain⟨x,_,rfl⟩:=(hinK k).mp ((hmem k).mpr ⟨e',he,hk⟩);rcases yA (show zHS (.inr (mkS x)) e'.2=true from hk)with⟨i,t,e1,_⟩|⟨y,t,_,e2⟩
  ·cases e1
  ·exact⟨y,t,e2⟩
 have hnd:ss.Nodup:=zWU hss hw
 have hperm:ss.Perm ((wX ys).map mkS):=by
  refine(List.perm_ext_iff_of_nodup hnd ?_).mpr λy=>?_
  ·unfold List.Nodup;rw [pairwise_map];exact(zWV ys).imp λh e=>h (zDX e)
  ·rw [hsm,mM];constructor
   ·rintro⟨t',ht⟩;obtain⟨e',he,e1⟩:=mM.mp ht;have hk:(zZ X.prog X.w).is (.inr y) e'.2=true:=by rw [e1];exact bK X.prog X.w y t'
    obtain⟨x,hx,e2⟩:=(hinK (.inr y)).mp ((hmem _).mpr ⟨e',he,hk⟩);injection e2 with e2
    exact⟨x,(zCZ ys x).mpr hx,e2.symm⟩
   ·rintro⟨x,hx,rfl⟩;obtain⟨e',he,hk⟩:=(hmem (.inr (mkS x))).mp ((hinK _).mpr ⟨x,(zCZ ys x).mp hx,rfl⟩);rcases yA (show zHS (.inr (mkS x)) e'.2=true from hk)with⟨i,t,e1,_⟩|⟨y,t,e1,e2⟩
    ·cases e1
    ·injection e1 with e1
     subst e1;exact⟨t,mM.mpr ⟨e',he,e2⟩⟩
 refine zRX (I.ok.hd hc) ⟨o,ho,hex,hd,hf⟩ hled hpl (by omega) hss λh' tk d' out ss' hk a1 a2 a3 us=>?_;have en:=zIA (a2.trans hperm) a3;subst en;have I1:Inv X pins σ H {s with heap:=h',toks:=tk,drawn:=d'}:=I.keptD hk;obtain⟨e,he⟩:=sortedHeap_at (h:=h'.push (seqObj "list" us.toArray 0)) (a:=h'.objs.size) (vs:=us) (n:=0) (out:=out) (Heap.get?_push_size _ rfl);refine⟨.ref h'.objs.size,_,I1.laid (t':=tk) (λb o eb=>?_) (le_refl _) (show ObjOk X.prog X.w _ _ _ (.lst ((jZ (wX ys)).map λz=>V.str (mkS z)))from⟨?_,out.toList,e,zHB a1,?_⟩),rfl,q _ (I1.hok.fresh (le_refl _))⟩
 ·have hb:=Heap.lt_size eb;rw [sortedHeap_old (ne_of_lt hb) (by rw [size_push'];exact lt_succ_of_lt hb)];exact hP0 _ eb
 ·have e2:=(cW (wX ys)).length_eq;have e3:(wX ys).length<=ys.length:=by have:=zIR (zLT ys) ys.length;rw [hmk,lM]at this;exact this
  have:=sizeLine_eq;rw [lM];omega
 ·rw [Array.toArray_toList];exact he
def zFR(rs:List Er)(S:Sto):R Er:=match rs with
 |[r]=>match kG S r with
  |some ds=>match strsOf ds with
   |some ys=>if ys.length<64 then .ok (.new ((jZ (wX ys)).map MV.str)) S else .no
   |none=>.no
  |none=>.no
 |_=>.no
def zZL(hc:X.calm=true)(hg:Gl X "sorted")(hm:X.mg "sorted"=none)(hg2:Gl X "set")(hm2:X.mg "set"=none)(ha:PAm X W [e] af)
  (he:starEach [e] X.env=(false,eval e X.env)::starEach [] X.env:=by rfl) (hpl:(backTo pos2 (starEach [] X.env)).any (·.1)=false:=by rfl)
  (he1:starEach [.Call (.Name "set" p2) [e] [] pos2] X.env=(false,eval (.Call (.Name "set" p2) [e] [] pos2) X.env)::starEach [] X.env:=by rfl) (hpl1:(backTo pos1 (starEach [] X.env)).any (·.1)=false:=by rfl):
  PEm X W (.Call (.Name "sorted" p1) [.Call (.Name "set" p2) [e] [] pos2] [] pos1) (λρ S=>(af ρ S).bind zFR):=by
 obtain⟨t,ha,k⟩:=ha;refine⟨_,zQN zSA hg hm zBA (zVG (zMJ zZK hg2 hm2 yMN ha (by decide) (by decide) he hpl) yAF he1) (by decide) (by decide) he1 hpl1,λα ρ S σ H Q wd sl q=>k α ρ S σ H _ wd sl (q.bind λvs rs S1 α1 H1 e1 x1 w1 d1 q1=>?_)⟩
 replace q1:=q1.shift x1
 unfold zFR at q1;split at q1
 ·rename_i r;split at q1
  ·rename_i ds e1;split at q1
   ·rename_i ys ey;split at q1
    ·rename_i hn;obtain⟨u,rfl,du⟩:=zVO d1;obtain⟨l1,us,rfl,c1,c2⟩:=zCP rfl w1 e1 du;rw [zRL ey c2]at c1;exact⟨l1,ys,rfl,c1,hn,hc,λl hl=>⟨l,ys,rfl,hn,yK,hc,λp hp=>Post.newl (q1.shift (w1.newx hl)) (w1.new hl) hp (zGX _)⟩⟩
    ·exact q1.elim
   ·exact q1.elim
  ·exact q1.elim
 ·exact q1.elim
end
end M
end L2
namespace L2
namespace M
namespace My
open PySem PySem.Spec PyProof.Rows
local macro_rules
 | `(tactic|simp? [$xs,*] $[$l:location]?)=>`(tactic|simp only [List.getElem?_cons_zero,List.getElem?_cons_succ,yGL,bok,as_int,as_bl,yLU,add_int,sub_int,eq_int,yLV,lst0,lst1,yBX,lst3,lst6,tup2,tup3,yMA,yMB,yMC,yMD,yME,yMF,yGS,yGT,List.set_cons_zero,List.set_cons_succ,if_true,yGV,yGU,vJ,kJ,bJ,dJ,nJ,aJ,oJ,iJ,mJ,tJ,lJ,zJ,fJ,xJ,hJ,eJ,gJ,uJ,pJ,jJ,qJ,rJ,sJ,wJ,yJ,AJ,BJ,CJ,DJ,EJ,FJ,GJ,HJ,IJ,JJ,KJ,LJ,MJ,NJ,$xs,*] $[$l:location]?)
abbrev zES:List Str:=["atoms","names","atom","term"]
abbrev bZ:List Str:=["question","seen","place","atom"]
abbrev zIB:List Str:=["tables","question","atom","key"]
abbrev cX:List Str:=["tables","question","place","atoms","others","names","before","other"]
abbrev nT:List Str:=["tables","question","atom"]
abbrev zAF:List Str:=["tables","question","place","learnt","unknown","reached","waiting","names","other"]
abbrev zPA:List Str:=["tables","question","pairs","a"]
abbrev yCU:List Str:=["tables","question","pairs","a","b"]
abbrev zDA:List Str:=["_law_rest","_law_letters","_law_many","_law_name","_law_k"]
abbrev jF:List Str:=["_law_rest","_law_many","_law_words_here","_law_k","_law_word","_law_letter"]
abbrev zFS:List Str:=["_law_cell","_law_many","_law_letters","_law_long","_law_spot","_law_words_here","_law_k","_law_word","_law_j","_law_sign"]
abbrev zFT:List Str:=["_law_cell","_law_many","_law_some","_law_rest","_law_k","_law_number"]
abbrev zBB:List Str:=["_law_script","_law_words_here","_law_many","_law_closed","_law_tables","_law_atoms","_law_order","_law_k","_law_numbers","_law_there","_law_terms"]
abbrev kW:List Str:=["_law_many","_law_closed","_law_k"]
abbrev cF:List Str:=["_law_words_here","_law_many","_law_closed","_law_fixed","_law_k","_law_found","_law_here"]
abbrev zEL:List Str:=["_law_many","_law_closed","_law_fixed","_law_k","_law_found","_law_here"]
abbrev yCV:List Str:=["_law_script","_law_words_here","_law_many","_law_closed","_law_tables","_law_atoms","_law_fixed","_law_head","_law_turn","_law_question","_law_due","_law_k","_law_spot"]
def cY:AY:=(iJ (bJ (dJ eqF (dJ ixF (vJ 3) (kJ (.int 0))) (kJ (.str [118,97,114]))) asB) ((EJ (kJ (.bl true)) (DJ zEK (vJ 1) (dJ ixF (vJ 3) (kJ (.int 1)))))) (JJ))
def cG:AY:=(cY)
def zDB:AY:=(FJ (bJ (dJ ixF (vJ 2) (kJ (.int 1))) itT) (gNm 3) (cG))
def zBC:AY:=(zDB)
section
abbrev AF:=AY
abbrev AE:=AX
def zBD:AF:=(CJ zJ 1)
def zBE:AF:=(FJ (bJ (vJ 0) itQ) (gNm 2) (zBC))
def zBF:AF:=(AJ (bJ (yJ (vJ 1) wJ) zCW))
def zKN:AF:=zP (zBD) (zP (zBE) ((zBF)))
def gC(ds:Bh)(S:Sto):R Er:=xI (zKN (yE zES ds) S)
def xR:AY:=(iJ (bJ (dJ (zGY false) (dJ ixF (vJ 3) (kJ (.int 0))) (vJ 1)) asB) ((λ_ _=>R.no)) (JJ))
def xS:AY:=(EJ (kJ (.bl true)) (DJ zEK (vJ 1) (dJ ixF (vJ 3) (kJ (.int 0)))))
def wD:AY:=zP (xR) ((xS))
def wE:AF:=(CJ zJ 1)
def hW:AF:=(FJ (bJ (yJ (dJ ixF (vJ 0) (kJ (.int 1))) wJ) itE) (gTp 2 (gB (gNm 2) (gB (gNm 3) zJG))) (wD))
def wZ:AF:=zP (wE) ((hW))
def yG(ds:Bh)(S:Sto):R Er:=xI (wZ (yE bZ ds) S)
def gD:AZ:=(bJ (dJ (inF true) (vJ 0) (dJ ixF (vJ 1) (kJ (.int 0)))) asB)
def zAP:AE:=(vJ 0)
def cZ:AF:=(AJ (pJ (bJ (fJ 1 gC (yJ (bJ (yJ (vJ 1) wJ) nN) wJ)) itL) (gNm 0) (gD) (zAP) 1 [0]))
def zBG:AF:=(cZ)
def yQ(ds:Bh)(S:Sto):R Er:=xI (zBG (yE ["question","atom"] ds) S)
def zAG:AF:=(CJ (dJ ixF (dJ ixF (vJ 0) (dJ ixF (vJ 2) (kJ (.int 0)))) (kJ (.int 1))) 3)
def zAH:AF:=(AJ (fJ 2 yQ (yJ (vJ 1) (yJ (bJ (yJ (dJ ixF (vJ 2) (kJ (.int 0))) (yJ (tJ zGM (dJ ixF (vJ 2) (kJ (.int 1))) mJ (bJ (vJ 3) asI)) wJ)) bP) wJ))))
def zDC:AF:=zP (zAG) ((zAH))
def kX(ds:Bh)(S:Sto):R Er:=xI (zDC (yE zIB ds) S)
def zDD:AZ:=uJ
def dA:AE:=(bJ (yJ (vJ 0) (yJ (kJ (.bl true)) wJ)) bP)
def zDE:AZ:=uJ
def dB:AE:=(dJ (zGY false) (vJ 0) (vJ 1))
def zDF:AZ:=uJ
def dC:AE:=(bJ (yJ (vJ 0) (yJ (kJ (.bl true)) wJ)) bP)
def zDG:AY:=(iJ (bJ (bJ (yJ (pJ (bJ (fJ 3 kX (yJ (vJ 0) (yJ (vJ 1) (yJ (vJ 7) wJ)))) itL) (gNm 0) (zDE) (dB) 1 [5]) wJ) allF) zLN) ((BJ (eJ isDx zND (vJ 5) (yJ (bJ (yJ (pJ (bJ (fJ 2 yQ (yJ (vJ 1) (yJ (vJ 7) wJ))) itL) (gNm 0) (zDF) (dC) 1 []) wJ) zRO) wJ)))) (JJ))
def cH:AY:=(zDG)
def dD:AY:=(CJ (bJ (yJ (vJ 5) wJ) zNF) 6)
def zDH:AY:=(FJ (bJ (vJ 4) itT) (gNm 7) (cH))
def cI:AY:=zP (dD) ((zDH))
def bF:AZ:=(bJ (dJ ltF (vJ 6) (bJ (yJ (vJ 5) wJ) zNF)) asB)
def zBH:AF:=(CJ (dJ ixF (vJ 1) (kJ (.int 1))) 3)
def zBI:AF:=(CJ (dJ xW (tJ zGM (vJ 3) mJ (bJ (vJ 2) asI)) (tJ zGM (vJ 3) (bJ (dJ xW (vJ 2) (kJ (.int 1))) asI) mJ)) 4)
def zBJ:AF:=(CJ (bJ (yJ (pJ (bJ (fJ 3 kX (yJ (vJ 0) (yJ (vJ 1) (yJ (dJ ixF (vJ 3) (vJ 2)) wJ)))) itL) (gNm 0) (zDD) (dA) 1 []) wJ) zRO) 5)
def zBK:AF:=(CJ (kJ (.int (-1))) 6)
def zFU:AF:=(λρ S=>xH (bF) (cI) 10000 ρ S)
def zFV:AF:=(AJ (vJ 5))
def zET:AF:=zP (zBH) (zP (zBI) (zP (zBJ) (zP (zBK) (zP (zFU) ((zFV))))))
def gE(ds:Bh)(S:Sto):R Er:=xI (zET (yE cX ds) S)
def zHD:AF:=(BJ (fJ 1 yG (yJ (vJ 1) wJ)))
def zNI:AF:=(AJ (bJ (yJ (fJ 3 gE (yJ (vJ 0) (yJ (vJ 1) (yJ (vJ 2) wJ)))) wJ) zKB))
def zPB:AF:=zP (zHD) ((zNI))
def zFW(ds:Bh)(S:Sto):R Er:=xI (zPB (yE nT ds) S)
def bL:AZ:=uJ
def wL:AE:=(dJ (inF false) (vJ 0) (vJ 1))
def dE:AF:=(AJ (bJ (yJ (pJ (bJ (vJ 0) itL) (gNm 0) (bL) (wL) 1 [1]) wJ) anyF))
def gF:AF:=(dE)
def wV(ds:Bh)(S:Sto):R Er:=xI (gF (yE ["some","others"] ds) S)
def jG:AZ:=(bJ (dJ (zGY true) (vJ 0) (vJ 1)) asB)
def nU:AE:=(vJ 0)
def nV:AZ:=uJ
def jH:AE:=(pJ (bJ (fJ 2 yQ (yJ (vJ 1) (yJ (vJ 0) wJ))) itL) (gNm 0) (jG) (nU) 1 [2])
def nW:AY:=(iJ (rJ (bJ (dJ (zGY true) (vJ 8) (vJ 5)) asB) (bJ (fJ 2 wV (yJ (vJ 7) (yJ (dJ ixF (vJ 4) (vJ 8)) wJ))) zLN)) (zP (EJ (kJ (.bl true)) (DJ zEK (vJ 5) (vJ 8))) ((BJ (eJ kU zFK (vJ 6) (yJ (vJ 8) wJ))))) (JJ))
def kM:AY:=(nW)
def jI:AY:=(CJ (dJ ixF (vJ 4) (gJ kU zKC (vJ 6))) 7)
def nX:AY:=(FJ (bJ (yJ (bJ (yJ (vJ 4) wJ) zON) wJ) jY) (gNm 8) (kM))
def kN:AY:=zP (jI) ((nX))
def xT:AZ:=(bJ (vJ 6) zLN)
def bR:AF:=(CJ (fJ 3 gE (yJ (vJ 0) (yJ (vJ 1) (yJ (vJ 2) wJ)))) 3)
def bS:AF:=(CJ (pJ (bJ (dJ ixF (vJ 1) (kJ (.int 1))) itT) (gNm 0) (nV) (jH) 1 [1,3]) 4)
def bT:AF:=(CJ (d1J (vJ 2) (kJ (.bl true))) 5)
def bU:AF:=(CJ (bJ (yJ (vJ 2) wJ) nN) 6)
def zCG:AF:=(λρ S=>xH (xT) (kN) 10000 ρ S)
def zCH:AF:=(AJ (bJ (yJ (vJ 5) wJ) zCW))
def zAI:AF:=zP (bR) (zP (bS) (zP (bT) (zP (bU) (zP (zCG) ((zCH))))))
def bG(ds:Bh)(S:Sto):R Er:=xI (zAI (yE zAF ds) S)
def zDI:AZ:=(bJ (dJ neF (vJ 0) (vJ 1)) asB)
def zDJ:AE:=(bJ (yJ (vJ 1) (yJ (vJ 0) wJ)) bP)
def zIC:AY:=(BJ (eJ kU extF (vJ 2) (yJ (pJ (bJ (fJ 3 bG (yJ (vJ 0) (yJ (vJ 1) (yJ (vJ 3) wJ)))) itL) (gNm 0) (zDI) (zDJ) 1 [3]) wJ)))
def zEF:AY:=(zIC)
def zHE:AF:=(BJ (fJ 1 yG (yJ (vJ 1) wJ)))
def zHF:AF:=(CJ (bJ wJ nN) 2)
def zHG:AF:=(FJ (bJ (yJ (bJ (yJ (dJ ixF (vJ 1) (kJ (.int 1))) wJ) zON) wJ) jY) (gNm 3) (zEF))
def zNJ:AF:=(AJ (bJ (yJ (vJ 2) wJ) zJY))
def zPC:AF:=zP (zHE) (zP (zHF) (zP (zHG) ((zNJ))))
def zEG(ds:Bh)(S:Sto):R Er:=xI (zPC (yE zPA ds) S)
def zEU:AY:=(iJ (bJ (dJ (inF false) (bJ (yJ (vJ 4) (yJ (vJ 3) wJ)) bP) (vJ 2)) asB) ((AJ (bJ (yJ (vJ 3) (yJ (vJ 4) wJ)) nN))) (JJ))
def zFX:AY:=(zEU)
def zKO:AF:=(CJ (fJ 2 zEG (yJ (vJ 0) (yJ (vJ 1) wJ))) 2)
def zKP:AF:=(FJ (bJ (vJ 2) itL) (gTp 2 (gB (gNm 3) (gB (gNm 4) zJG))) (zFX))
def yCW:AF:=(AJ (kJ .non))
def zUS:AF:=zP (zKO) (zP (zKP) ((yCW)))
def zPD(ds:Bh)(S:Sto):R Er:=xI (zUS (yE yCU ds) S)
def gG:AF:=(iJ (bJ (dJ ltF (vJ 1) (bJ (yJ (vJ 0) wJ) zON)) asB) ((AJ (dJ ixF (vJ 0) (vJ 1)))) (JJ))
def zHH:AF:=(AJ (kJ (.int 0)))
def wM:AF:=zP (gG) ((zHH))
def zH(ds:Bh)(S:Sto):R Er:=xI (wM (yE ["_law_script","_law_k"] ds) S)
def kR:AY:=(CJ (dJ xW (vJ 3) (dJ ixF (vJ 1) (dJ kZ (vJ 0) (kJ (.int 26))))) 3)
def kS:AY:=(CJ (dJ zAY (vJ 0) (kJ (.int 26))) 0)
def gH:AY:=zP (kR) ((kS))
def gI:AF:=(CJ (kJ (.str [97,98,99,100,101,102,103,104,105,106,107,108,109,110,111,112,113,114,115,116,117,118,119,120,121,122])) 1)
def gK:AF:=(CJ (dJ xW (kJ (.int 1)) (dJ kZ (vJ 0) (kJ (.int 8)))) 2)
def gM:AF:=(CJ (dJ zAY (vJ 0) (kJ (.int 8))) 0)
def gN:AF:=(CJ (kJ (.str [])) 3)
def gO:AF:=(FJ (bJ (yJ (vJ 2) wJ) jY) (gNm 4) (gH))
def zAQ:AF:=(AJ (bJ (yJ (vJ 3) (yJ (vJ 0) wJ)) bP))
def dF:AF:=zP (gI) (zP (gK) (zP (gM) (zP (gN) (zP (gO) ((zAQ))))))
def jK(ds:Bh)(S:Sto):R Er:=xI (dF (yE zDA ds) S)
def yT:AY:=(iJ (bJ (dJ (inF false) (vJ 4) (vJ 2)) asB) ((CJ (dJ xW (tJ zGM (vJ 4) mJ (bJ (kJ (.int 7)) asI)) (vJ 5)) 4)) (JJ))
def yN:AY:=(yT)
def yU:AY:=(EJ (fJ 1 jK (yJ (vJ 0) wJ)) (gTp 2 (gB (gNm 4) (gB (gNm 0) zJG))))
def yV:AY:=(FJ (bJ (kJ (.str [97,98,99,100,101,102,103,104,105,106])) itS) (gNm 5) (yN))
def yW:AY:=(BJ (eJ kU zFK (vJ 2) (yJ (vJ 4) wJ)))
def xK:AY:=zP (yU) (zP (yV) ((yW)))
def xL:AF:=(CJ (bJ wJ nN) 2)
def xM:AF:=(FJ (bJ (yJ (vJ 1) wJ) jY) (gNm 3) (xK))
def kH:AF:=(AJ (vJ 2))
def xX:AF:=zP (xL) (zP (xM) ((kH)))
def yR(ds:Bh)(S:Sto):R Er:=xI (xX (yE jF ds) S)
def gP:AY:=(CJ (dJ xW (dJ zAY (vJ 0) (dJ xW (kJ (.int 49)) (dJ zIK (kJ (.int 5)) (vJ 8)))) (dJ zIK (vJ 8) (dJ kZ (dJ zAY (vJ 0) (kJ (.int 49))) (kJ (.int 3))))) 9)
def gQ:AY:=(iJ (bJ (dJ eqF (vJ 8) (vJ 4)) asB) ((CJ (dJ xW (vJ 9) (dJ zIK (kJ (.int 3)) (vJ 6))) 9)) (JJ))
def zAR:AY:=(CJ (dJ xW (vJ 7) (dJ ixF (vJ 2) (dJ kZ (vJ 9) (kJ (.int 26))))) 7)
def jL:AY:=zP (gP) (zP (gQ) ((zAR)))
def gR:AY:=(CJ (kJ (.str [])) 7)
def gS:AY:=(FJ (bJ (yJ (vJ 3) wJ) jY) (gNm 8) (jL))
def gT:AY:=(BJ (eJ kU zFK (vJ 5) (yJ (vJ 7) wJ)))
def dG:AY:=zP (gR) (zP (gS) ((gT)))
def wN:AF:=(iJ (bJ (dJ eqF (dJ kZ (vJ 0) (kJ (.int 2))) (kJ (.int 0))) asB) ((AJ (fJ 2 yR (yJ (dJ zAY (vJ 0) (kJ (.int 2))) (yJ (vJ 1) wJ))))) (JJ))
def dH:AF:=(CJ (kJ (.str [97,98,99,100,101,102,103,104,105,106,107,108,109,110,111,112,113,114,115,116,117,118,119,120,121,122])) 2)
def dI:AF:=(CJ (dJ kZ (dJ zIK (dJ kZ (dJ zIK (vJ 0) (kJ (.int 69621))) (kJ (.int 2147483629))) (kJ (.int 48271))) (kJ (.int 2147483647))) 0)
def dL:AF:=(CJ (dJ xW (kJ (.int 1)) (dJ kZ (vJ 0) (kJ (.int 7)))) 3)
def dM:AF:=(CJ (dJ kZ (dJ zAY (vJ 0) (kJ (.int 7))) (vJ 3)) 4)
def dN:AF:=(CJ (bJ wJ nN) 5)
def dO:AF:=(FJ (bJ (yJ (vJ 1) wJ) jY) (gNm 6) (dG))
def dP:AF:=(iJ (bJ (dJ eqF (dJ kZ (dJ zAY (vJ 0) (kJ (.int 49))) (kJ (.int 4))) (kJ (.int 1))) asB) ((EJ (dJ xW (dJ ixF (vJ 5) (kJ (.int 0))) (dJ ixF (vJ 2) (dJ kZ (dJ zAY (vJ 0) (kJ (.int 196))) (kJ (.int 26))))) (DJ zRB (vJ 5) (kJ (.int 1))))) (JJ))
def zDK:AF:=(AJ (vJ 5))
def jM:AF:=zP (wN) (zP (dH) (zP (dI) (zP (dL) (zP (dM) (zP (dN) (zP (dO) (zP (dP) ((zDK)))))))))
def cJ(ds:Bh)(S:Sto):R Er:=xI (jM (yE zFS ds) S)
def gU:AY:=(BJ (eJ kU zFK (vJ 2) (yJ (dJ kZ (vJ 3) (kJ (.int 1000000))) wJ)))
def gV:AY:=(CJ (dJ zAY (vJ 3) (kJ (.int 1000000))) 3)
def jN:AY:=zP (gU) ((gV))
def gW:AY:=(CJ (dJ kZ (dJ xW (dJ xW (dJ zIK (vJ 5) (vJ 5)) (dJ zIK (kJ (.int 48271)) (vJ 5))) (vJ 4)) (kJ (.int 2147483647))) 5)
def gX:AY:=(BJ (eJ kU zFK (vJ 2) (yJ (dJ zAY (dJ kZ (dJ zIK (vJ 5) (kJ (.int 69621))) (kJ (.int 2147483587))) (kJ (.int 16))) wJ)))
def dQ:AY:=zP (gW) ((gX))
def dR:AF:=(CJ (bJ wJ nN) 2)
def wO:AF:=(iJ (bJ (dJ eqF (dJ kZ (vJ 0) (kJ (.int 2))) (kJ (.int 0))) asB) (zP (CJ (dJ zAY (vJ 0) (kJ (.int 2))) 3) (zP (FJ (bJ (yJ (vJ 1) wJ) jY) (gNm 4) (jN)) ((AJ (vJ 2))))) (JJ))
def dS:AF:=(CJ (dJ xW (dJ kZ (vJ 0) (kJ (.int 2147483629))) (kJ (.int 1))) 5)
def dU:AF:=(FJ (bJ (yJ (vJ 1) wJ) jY) (gNm 4) (dQ))
def zKQ:AF:=(AJ (vJ 2))
def jO:AF:=zP (dR) (zP (wO) (zP (dS) (zP (dU) ((zKQ)))))
def xY(ds:Bh)(S:Sto):R Er:=xI (jO (yE zFT ds) S)
def zDL:AZ:=uJ
def dW:AE:=(dJ kZ (dJ xW (dJ zAY (fJ 2 zH (yJ (vJ 1) (yJ (kJ (.int 1)) wJ))) (kJ (.int 8))) (vJ 0)) (vJ 2))
def dX:AY:=(CJ (fJ 2 xY (yJ (fJ 2 zH (yJ (vJ 0) (yJ (dJ xW (kJ (.int 4)) (vJ 7)) wJ))) (yJ (kJ (.int 6)) wJ))) 8)
def zDM:AY:=(BJ (eJ kU zFK (vJ 4) (yJ (bJ (yJ (dJ xW (kJ (.int 2)) (dJ kZ (dJ ixF (vJ 8) (kJ (.int 0))) (kJ (.int 3)))) (yJ (kJ (.int 1)) wJ)) bP) wJ)))
def cK:AY:=zP (dX) ((zDM))
def zDN:AZ:=uJ
def jP:AE:=(dJ ixF (bJ (yJ (bJ (yJ (kJ (.str [105,115])) (yJ (dJ kZ (dJ zAY (vJ 0) (kJ (.int 2))) (dJ powF (kJ (.int 10)) (kJ (.int 8)))) wJ)) bP) (yJ (bJ (yJ (kJ (.str [118,97,114])) (yJ (dJ ixF (vJ 1) (vJ 2)) wJ)) bP) wJ)) nN) (dJ kZ (vJ 0) (kJ (.int 2))))
def dY:AY:=(CJ (fJ 2 xY (yJ (fJ 2 zH (yJ (vJ 0) (yJ (dJ xW (kJ (.int 4)) (vJ 7)) wJ))) (yJ (kJ (.int 6)) wJ))) 8)
def dZ:AY:=(CJ (dJ xW (vJ 7) (kJ (.int 1))) 9)
def nA:AY:=(iJ (rJ (bJ (vJ 3) zLN) (bJ (dJ eqF (vJ 9) (vJ 2)) asB)) ((CJ (kJ (.int 0)) 9)) (JJ))
def nB:AY:=(CJ (bJ (yJ (bJ (yJ (kJ (.str [118,97,114])) (yJ (dJ ixF (vJ 1) (vJ 7)) wJ)) bP) (yJ (bJ (yJ (kJ (.str [118,97,114])) (yJ (dJ ixF (vJ 1) (vJ 9)) wJ)) bP) wJ)) nN) 10)
def nF:AY:=(CJ (dJ xW (vJ 10) (pJ (bJ (tJ zGM (vJ 8) (bJ (kJ (.int 1)) asI) (bJ (kJ (.int 3)) asI)) itL) (gNm 0) (zDN) (jP) 1 [1,7])) 10)
def zDO:AY:=(BJ (eJ kU zFK (vJ 5) (yJ (bJ (yJ (dJ ixF (vJ 6) (vJ 7)) (yJ (bJ (yJ (tJ zGM (vJ 10) mJ (bJ (dJ ixF (dJ ixF (vJ 4) (dJ ixF (vJ 6) (vJ 7))) (kJ (.int 0))) asI)) wJ) zCS) wJ)) bP) wJ)))
def cL:AY:=zP (dY) (zP (dZ) (zP (nA) (zP (nB) (zP (nF) ((zDO))))))
def zBL:AF:=(CJ (bJ wJ nN) 4)
def zBM:AF:=(CJ (bJ wJ nN) 5)
def zBN:AF:=(CJ (pJ (bJ (yJ (vJ 2) wJ) jY) (gNm 0) (zDL) (dW) 1 [0,2]) 6)
def zBO:AF:=(FJ (bJ (yJ (vJ 2) wJ) jY) (gNm 7) (cK))
def zBP:AF:=(FJ (bJ (yJ (vJ 2) wJ) jY) (gNm 7) (cL))
def zBQ:AF:=(AJ (bJ (yJ (bJ (yJ (vJ 4) wJ) zCS) (yJ (vJ 5) wJ)) bP))
def zEV:AF:=zP (zBL) (zP (zBM) (zP (zBN) (zP (zBO) (zP (zBP) ((zBQ))))))
def zBR(ds:Bh)(S:Sto):R Er:=xI (zEV (yE zBB ds) S)
def kI:AF:=(iJ (rJ (bJ (vJ 1) zLN) (bJ (dJ eqF (dJ xW (vJ 2) (kJ (.int 1))) (vJ 0)) asB)) ((AJ (kJ (.int 0)))) (JJ))
def zEM:AF:=(AJ (dJ xW (vJ 2) (kJ (.int 1))))
def nY:AF:=zP (kI) ((zEM))
def wP(ds:Bh)(S:Sto):R Er:=xI (nY (yE kW ds) S)
def gY:AY:=(CJ (fJ 3 wP (yJ (vJ 1) (yJ (vJ 2) (yJ (vJ 6) wJ)))) 6)
def gZ:AY:=(BJ (eJ kU zFK (vJ 5) (yJ (dJ ixF (vJ 0) (vJ 6)) wJ)))
def jQ:AY:=zP (gY) ((gZ))
def xB:AZ:=(rJ (bJ (dJ neF (vJ 6) (vJ 4)) asB) (bJ (dJ ltF (vJ 6) (vJ 1)) asB))
def jR:AF:=(CJ (bJ wJ nN) 5)
def nG:AF:=(iJ (bJ (dJ neF (vJ 4) (vJ 3)) asB) ((BJ (eJ kU zFK (vJ 5) (yJ (dJ ixF (vJ 0) (vJ 4)) wJ)))) (JJ))
def nH:AF:=(CJ (vJ 4) 6)
def nI:AF:=(iJ (bJ (dJ zFI (vJ 3) (kJ .non)) asB) ((CJ (vJ 3) 6)) (JJ))
def zDP:AF:=(λρ S=>xH (xB) (jQ) 10000 ρ S)
def zDQ:AF:=(AJ (bJ (yJ (vJ 5) wJ) zFR))
def zBS:AF:=zP (jR) (zP (nG) (zP (nH) (zP (nI) (zP (zDP) ((zDQ))))))
def cM(ds:Bh)(S:Sto):R Er:=xI (zBS (yE cF ds) S)
def jS:AY:=(BJ (eJ kU zFK (vJ 4) (yJ (vJ 5) wJ)))
def jT:AY:=(CJ (fJ 3 wP (yJ (vJ 0) (yJ (vJ 1) (yJ (vJ 5) wJ)))) 5)
def kO:AY:=zP (jS) ((jT))
def xU:AZ:=(rJ (bJ (dJ neF (vJ 5) (vJ 3)) asB) (rJ (bJ (dJ ltF (vJ 5) (vJ 0)) asB) (bJ (dJ neF (vJ 5) (vJ 2)) asB)))
def bV:AF:=(CJ (bJ wJ nN) 4)
def bW:AF:=(CJ (fJ 3 wP (yJ (vJ 0) (yJ (vJ 1) (yJ (vJ 3) wJ)))) 5)
def zCI:AF:=(λρ S=>xH (xU) (kO) 10000 ρ S)
def zIN:AF:=(AJ (vJ 4))
def zAJ:AF:=zP (bV) (zP (bW) (zP (zCI) ((zIN))))
def bH(ds:Bh)(S:Sto):R Er:=xI (zAJ (yE zEL ds) S)
def zNK:AZ:=uJ
def zHI:AE:=(bJ (yJ (vJ 3) (yJ (dJ kZ (dJ yBA (vJ 0) (vJ 2)) (vJ 1)) wJ)) bP)
def zHJ:AY:=(CJ (dJ kZ (dJ xW (vJ 8) (vJ 11)) (vJ 2)) 12)
def zHK:AY:=(iJ (bJ (dJ neF (fJ 3 zFW (yJ (vJ 4) (yJ (vJ 9) (yJ (vJ 11) wJ)))) (fJ 5 cM (yJ (vJ 1) (yJ (vJ 2) (yJ (vJ 3) (yJ (vJ 6) (yJ (vJ 12) wJ))))))) asB) ((AJ (kJ (.bl false)))) (JJ))
def zNL:AY:=(CJ (dJ xW (vJ 10) (pJ (bJ (fJ 4 bH (yJ (vJ 2) (yJ (vJ 3) (yJ (vJ 6) (yJ (vJ 12) wJ))))) itL) (gNm 0) (zNK) (zHI) 1 [2,8,11])) 10)
def zIT:AY:=zP (zHJ) (zP (zHK) ((zNL)))
def zPE:AF:=(CJ (fJ 2 cJ (yJ (fJ 2 zH (yJ (vJ 0) (yJ (kJ (.int 0)) wJ))) (yJ (kJ (.int 5)) wJ))) 1)
def zPF:AF:=(CJ (dJ xW (kJ (.int 1)) (dJ kZ (fJ 2 zH (yJ (vJ 0) (yJ (kJ (.int 1)) wJ))) (kJ (.int 4)))) 2)
def zPG:AF:=(CJ (dJ eqF (dJ kZ (dJ zAY (fJ 2 zH (yJ (vJ 0) (yJ (kJ (.int 1)) wJ))) (kJ (.int 4))) (kJ (.int 2))) (kJ (.int 1))) 3)
def zPH:AF:=(EJ (fJ 4 zBR (yJ (vJ 0) (yJ (vJ 1) (yJ (vJ 2) (yJ (vJ 3) wJ))))) (gTp 2 (gB (gNm 4) (gB (gNm 5) zJG))))
def zPI:AF:=(CJ (kJ .non) 6)
def zPJ:AF:=(CJ (bJ wJ bP) 7)
def zPK:AF:=(iJ (bJ (dJ eqF (dJ kZ (fJ 2 zH (yJ (vJ 0) (yJ (kJ (.int 2)) wJ))) (kJ (.int 3))) (kJ (.int 1))) asB) (zP (CJ (dJ kZ (dJ zAY (fJ 2 zH (yJ (vJ 0) (yJ (kJ (.int 2)) wJ))) (kJ (.int 3))) (dJ yBA (dJ xW (vJ 2) (kJ (.int 1))) (bJ (yJ (vJ 3) wJ) yBN))) 6) ((CJ (bJ (yJ (dJ ixF (vJ 1) (vJ 6)) wJ) bP) 7))) (JJ))
def zPL:AF:=(CJ (dJ kZ (fJ 2 zH (yJ (vJ 0) (yJ (kJ (.int 3)) wJ))) (vJ 2)) 8)
def zPM:AF:=(CJ (bJ (yJ (vJ 7) (yJ (bJ (yJ (dJ xW (tJ zGM (vJ 5) (bJ (vJ 8) asI) mJ) (tJ zGM (vJ 5) mJ (bJ (vJ 8) asI))) wJ) zCS) wJ)) bP) 9)
def zKR:AF:=(CJ (bJ wJ nN) 10)
def zKS:AF:=(FJ (bJ (yJ (vJ 2) wJ) jY) (gNm 11) (zIT))
def zKT:AF:=(iJ (bJ (dJ neF (fJ 2 zEG (yJ (vJ 4) (yJ (vJ 9) wJ))) (bJ (yJ (vJ 10) wJ) zJY)) asB) ((AJ (kJ (.bl false)))) (JJ))
def zKU:AF:=(AJ (dJ eqF (dJ yBH (fJ 2 zPD (yJ (vJ 4) (yJ (vJ 9) wJ))) (kJ .non)) (oJ (nJ (vJ 3)) (oJ (dJ eqF (vJ 2) (kJ (.int 1))) (dJ zFI (vJ 6) (kJ .non))))))
def yCX:AF:=zP (zPE) (zP (zPF) (zP (zPG) (zP (zPH) (zP (zPI) (zP (zPJ) (zP (zPK) (zP (zPL) (zP (zPM) (zP (zKR) (zP (zKS) (zP (zKT) ((zKU)))))))))))))
def zSB(ds:Bh)(S:Sto):R Er:=xI (yCX (yE yCV ds) S)
end
section
variable(K F:Nat->List (List Nat))(n:Nat)
inductive Kn(i:Nat):List Nat->Prop
 |key {x:Ab}:x∈K i->Kn i x
 |step {x:Ab} (j:Nat):j<n->j≠i->(∀y,y∈K j->Kn i y)->x∈F j->Kn i x
inductive Rc(i:Nat):Nat->Prop
 |self:Rc i i
 |step {x:Ab} (j k:Nat):Rc i j->k<n->x∈F j->x∈F k-> ¬Kn K F n i x->Rc i k
end
def bI{S:Sto}{l:Nat}{ds:Bh}{d:MV}(hS:S[l]? =some (.lst ds))(hz:ds.length<1000000):zFK (.val (.loc l)) [.val d] S=.ok (.val .non) (S.set l (.lst (ds++[d]))):=by show zLP (.val (.loc l)) S (λds=>if ds.length<sizeLine then some (ds++[d])else none)=_;unfold zLP;dsimp only;rw [hS];dsimp only;rw [iP (lt_of_lt_of_le hz (fits (le_refl _)))]
theorem kP{S:Sto}{l:Nat}{ds:Bh}(hS:S[l]? =some (.lst ds)):kU (.val (.loc l)) S=true:=by unfold kU;rw [cV hS];rfl
def yCY{S:Sto}{l:Nat}{ds:Bh}{k:Int}{j:Nat}{d:MV}{ρ:Rho}(hS:S[l]? =some (.lst ds))(hj:ixN ds.length k=some j):zRB (.val (.loc l)) (.val (.int k)) d ρ S=.ok ρ (S.set l (.lst (ds.set j d))):=by unfold zRB;dsimp only;rw [hS];dsimp only;rw [hj]
def zZM{S:Sto}{l:Nat}{ds:Bh}(hS:S[l]? =some (.lst ds)):zCS [.val (.loc l)] S=.ok (.val (.tup ds)) S:=by show(match kG S (.val (.loc l))with |some ds=>R.ok (Er.val (.tup ds)) S|none=>.no)=_;rw [cV hS]
theorem yHN(ds:Bh)(S:Sto):zON [.val (.tup ds)] S=.ok (.val (.int ds.length)) S:=rfl
theorem zEH(gf:MV->Rho->Sto->R Rho)(ρ:Rho)(d:MV)(S:Sto):asgF gf ρ (.val d) S=(gf d ρ S).bind λρ' S2=>.ok (.next ρ') S2:=rfl
def tbl(p:Int×Int):MV:=.tup [.int p.1,.int p.2]
mutual
def pd:MV->Bool
 |.int _=>true
 |.str _=>true
 |.tup ds=>pdL ds
 |_=>false
def pdL:List MV->Bool
 |[]=>true
 |d::ds=>pd d&&pdL ds
end

mutual
def dpt:MV->Nat
 |.tup ds=>zPN ds+1
 |_=>0
def zPN:List MV->Nat
 |[]=>0
 |d::ds=>max (dpt d) (zPN ds)
end

def zUT(ds:Bh):pd (.tup ds)=pdL ds:=by rw [pd]
def yHO:pdL []=true:=by rw [pdL]
def zFY(d:MV)(ds:Bh):pdL (d::ds)=(pd d&&pdL ds):=by rw [pdL]
def zWW(ds:Bh):dpt (.tup ds)=zPN ds+1:=by rw [dpt]
def zHL(d:MV)(ds:Bh):zPN (d::ds)=max (dpt d) (zPN ds):=by rw [zPN]
def yCZ:zPN []=0:=by rw [zPN]
def yDA(i:Int):pd (.int i)=true:=by rw [pd]
def zPO(i:Ab):pd (.str i)=true:=by rw [pd]
def zWX(i:Int):dpt (.int i)=0:=by simp [dpt]
def yHP(i:Ab):dpt (.str i)=0:=by simp [dpt]
theorem zPP: ∀{ds:Bh},pdL ds=true-> ∀d∈ds,pd d=true
 |[],_,d,h=>by simp at h
 |e::ds,hp,d,h=>by
  rw [zFY,aE]at hp;rcases mC.mp h with rfl|h
  ·exact hp.1
  ·exact zPP hp.2 d h
theorem zSC: ∀{ds:Bh}, ∀d∈ds,dpt d<=zPN ds
 |[],d,h=>by simp at h
 |e::ds,d,h=>by
  rw [zHL];rcases mC.mp h with rfl|h
  ·exact Nat.le_max_left _ _
  ·exact le_trans (zSC d h) (Nat.le_max_right _ _)
def zSD{d:MV}(h:pd d=true):(∃i,d=.int i)\/(∃x,d=.str x)\/ ∃ds,d=.tup ds/\pdL ds=true:=by
 cases d with
 |int i=>exact .inl ⟨i,rfl⟩
 |str x=>exact .inr (.inl ⟨x,rfl⟩)
 |tup ds=>exact .inr (.inr ⟨ds,rfl,by rw [<-zUT];exact h⟩)
 |_=>rw [pd]at h<;>first |cases h|(intros;simp)
def dec_is{p:Prop}[Decidable p]{q:Prop}[Decidable q](h:p↔q):decide p=decide q:=by
 by_cases hq:q
 ·rw [dT0 hq,dT0 (h.mpr hq)]
 ·rw [dF0 hq,dF0 λz=>hq (h.mp z)]
theorem zKV{e:MV->MV->Option Bool}: ∀{ds es:Bh},(∀d∈ds, ∀f∈es,e d f=some (decide (d=f)))-> ∃bs,prs e ds es=some bs/\(bs.all id&&ds.length==es.length)=decide (ds=es)
 |[],[],_=>⟨[],rfl,by simp⟩
 |[],_::_,_=>⟨[],rfl,by simp⟩
 |_::_,[],_=>⟨[],rfl,by simp⟩
 |d::ds,f::es,h=>by
  obtain⟨bs,h1,h2⟩:=zKV (e:=e) (ds:=ds) (es:=es) λa ha b hb=>h a (mO _ ha) b (mO _ hb);refine⟨decide (d=f)::bs,?_,?_⟩
  ·unfold prs;rw [h d mF0 f mF0,h1];rfl
  ·by_cases hd:d=f
   ·subst hd;rw [all_cons,dT0 rfl];simp only [id,Bool.true_and,lC];rw [show(ds.length+1==es.length+1)=(ds.length==es.length) by simp,h2];exact dec_is (by simp)
   ·rw [all_cons,dF0 hd];rw [dF0 (show¬(d::ds=f::es)from λz=>hd (List.cons.inj z).1)];rfl
theorem zKW{S:Sto}: ∀(n:Nat){d e:MV},pd d=true->pd e=true->dpt d<n->eqv S n d e=some (decide (d=e))
 |0,d,e,_,_,h=>by omega
 |n+1,d,e,hd,he,h=>by
  rcases zSD hd with⟨i,rfl⟩|⟨x,rfl⟩|⟨ds,rfl,pds⟩<;>rcases zSD he with⟨j,rfl⟩|⟨y,rfl⟩|⟨es,rfl,pes⟩
  ·rw [zEB];exact congrArg some (dec_is (by simp))
  ·rw [yLW,dF0 (by simp)]
  ·rw [dF0 (by simp)];rfl
  ·rw [yLX,dF0 (by simp)]
  ·rw [zVX];exact congrArg some (dec_is (by simp))
  ·rw [dF0 (by simp)];rfl
  ·rw [dF0 (by simp)];rfl
  ·rw [dF0 (by simp)];rfl
  ·rw [zWW]at h;obtain⟨bs,h1,h2⟩:=zKV (e:=eqv S n) (ds:=ds) (es:=es) λa ha b hb=>zKW n (zPP pds a ha) (zPP pes b hb) (by have:=zSC a ha;omega);show((prs (eqv S n) ds es).map λbs=>bs.all id&&ds.length==es.length)=_;rw [h1];show some (bs.all id&&ds.length==es.length)=_;rw [h2];exact congrArg some (dec_is (by simp))
theorem zKX{S:Sto}{d:MV}(hd:pd d=true): ∀{ys:Bh},(∀y∈ys,pd y=true/\dpt y<40)->zQY S zM d ys=some (ys.map λy=>decide (y=d))
 |[],_=>rfl
 |y::ys,h=>by have h1:=h y mF0;unfold zQY;rw [zKW zM h1.1 hd (by unfold zM;exact h1.2),zKX hd λz hz=>h z (mO _ hz)];rfl
def yHQ{n:Nat}{F:List MV->Sto->R Er}{rs:List Er}{S:Sto}{b:Bool}(hn:rs.length=n)(hF:F (zQ rs S).1 (zQ rs S).2=.ok (.val (.bl b)) S):zT n F rs S=.ok (.val (.bl b)) S:=zAN hn hF (yJE _ _) (λl=>by simp)
def SqM(S:Sto)(m:MV)(ds:Bh):Prop:=m=.tup ds\/ ∃l,m=.loc l/\S[l]? =some (.lst ds)
def SqM.len{S:Sto}{m:MV}{ds:Bh}(h:SqM S m ds):zON [.val m] S=.ok (.val (.int ds.length)) S:=by
 rcases h with rfl|⟨l,rfl,hS⟩
 ·rfl
 ·exact zVZ hS
theorem yHR(neg:Bool)(p:Er)(l:Nat)(S:Sto):inF neg p (.val (.loc l)) S=zGN neg p (.val (.loc l)) S:=by
 unfold inF;split
 ·rename_i h;cases h
 ·rfl
def zPQ{S:Sto}{l:Nat}{d:MV}{ys:Bh}(neg:Bool)(hS:S[l]? =some (.lst ys))(hd:pd d=true)(h: ∀y∈ys,pd y=true/\dpt y<40):inF neg (.val d) (.val (.loc l)) S=.ok (.val (.bl (if neg=true then !decide (d∈ys)else decide (d∈ys)))) S:=by
 have e1:itemsOf S (.val (.loc l))=some ys:=by unfold itemsOf;exact cV hS
 rw [yHR];unfold zGN;dsimp only;rw [e1];dsimp only;rw [zKX hd h];dsimp only
 have ha:(ys.map λy=>decide (y=d)).any id=decide (d∈ys):=by
  rw [List.any_map];by_cases hm:d∈ys
  ·rw [dT0 hm,any_eq_true];exact⟨d,hm,by simp⟩
  ·rw [dF0 hm];rw [List.any_eq_false];intro y hy;simp only [Function.comp,id,decide_eq_true_eq];rintro rfl;exact hm hy
 rw [ha]
abbrev VAR:List Nat:=[118,97,114]
abbrev IS:List Nat:=[105,115]
def zZN(d:MV):Prop:=(∃x,d=.tup [.str VAR,.str x])\/ ∃v,((∃i,v=.int i)\/ ∃x,v=.str x)/\d=.tup [.str IS,v]
mutual
theorem yJJ{n:Nat}: ∀{d:MV},pd d=true->lo n d
 |.int i,_=>zAZ n i
 |.str x,_=>zGR n x
 |.tup ds,h=>yBS (yDB (by rw [zUT]at h;exact h))
 |.non,_=>zTY n
 |.bl b,_=>yJE n b
 |.scr ds,h=>by unfold pd at h;cases h
 |.loc l,h=>by unfold pd at h;cases h
 |.typ t,h=>by unfold pd at h;cases h
theorem yDB{n:Nat}: ∀{ds:Bh},pdL ds=true->loL n ds
 |[],_=>cT λd hd=>by simp at hd
 |d::ds,h=>by rw [zFY,aE]at h;unfold loL;exact⟨yJJ h.1,yDB h.2⟩
end

def vn:MV->Option (List Nat)
 |.tup [.str w,.str x]=>if w=VAR then some x else none
 |_=>none
def zKY(x:Ab):vn (.tup [.str VAR,.str x])=some x:=by simp [vn]
def eq_vv(S:Sto):eqF (.val (.str VAR)) (.val (.str VAR)) S=.ok (.val (.bl true)) S:=by rw [eq_str,dT0 rfl]
def eq_iv(S:Sto):eqF (.val (.str IS)) (.val (.str VAR)) S=.ok (.val (.bl false)) S:=by rw [eq_str,dF0 (by decide)]
def zO(S:Sto)(o:MO):(S++[o])[S.length]? =some o:=by simp
def wA(S:Sto)(o o':MO):(S++[o]).set S.length o'=S++[o']:=by simp
def zIU{fs:Aa}: ∀y∈fs.map MV.str,pd y=true/\dpt y<40:=λd hd=>by obtain⟨u,_,rfl⟩:=mM.mp hd;exact⟨zPO u,by rw [yHP];decide⟩
def zPR{x:Ab}{fs:Aa}:MV.str x∈fs.map MV.str↔x∈fs:=⟨λh=>by obtain⟨u,hu,e⟩:=mM.mp h;cases e;exact hu,λh=>mM.mpr ⟨x,h,rfl⟩⟩
theorem yDC(a b:MV)(S:Sto):ixF (.val (.tup [a,b])) (.val (.int 0)) S=.ok (.val a) S:=rfl
theorem zSE(a b:MV)(S:Sto):ixF (.val (.tup [a,b])) (.val (.int 1)) S=.ok (.val b) S:=rfl
def SqM.itQ{S:Sto}{m:MV}{ds:Bh}(h:SqM S m ds): ∃gs,(∀T,stay gs (S++T))/\ ∀T,itQ (.val m) (S++T)=.ok ⟨ds,gs⟩ (S++T):=by
 rcases h with rfl|⟨l,rfl,hS⟩
 ·exact⟨[],λT=>xE _,λT=>rfl⟩
 ·have hT: ∀T,(S++T)[l]? =some (.lst ds):=λT=>by rw [getElem?_append_left (gS0.mp hS).1];exact hS
  refine⟨[(l,ds)],λT=>zJQ (hT T),λT=>?_⟩;have e:srcOf (S++T) (.val (.loc l))=some ⟨true,ds,[(l,ds)]⟩:=by unfold srcOf;dsimp only;rw [hT T]
  unfold L2.M.itQ;rw [e]
def zSF{kvs:Ca}{k:MV}(h:(look kvs k).isSome=true):k∈kvs.map (·.1):=by unfold look at h;rw [Option.isSome_map]at h;obtain⟨p,hp⟩:=Option.isSome_iff_exists.mp h;have h1:=List.find?_some hp;exact mM.mpr ⟨p,List.mem_of_find?_eq_some hp,of_decide_eq_true h1⟩
def tup2(a b:MV)(S:Sto):bP [.val a,.val b] S=.ok (.val (.tup [a,b])) S:=zJR (by simp)
theorem zUU(ds:Bh)(S:Sto):itT (.val (.tup ds)) S=.ok ⟨ds,[]⟩ S:=rfl
def lst1(a:MV)(S:Sto):nN [.val a] S=.ok (.new [a]) S:=zGT (by simp)
def zBT(ks:Aa)(x:Ab):List (List Nat):=if x∈ks then ks else ks++[x]
def yDD(ks:Aa)(x y:Ab):y∈zBT ks x↔y∈ks\/y=x:=by
 unfold zBT;split
 ·rename_i h;exact⟨.inl,λz=>z.elim id λe=>e▸h⟩
 ·rw [mem_append,mS]
def yHS{ks:Aa}(h:ks.Nodup)(x:Ab):(zBT ks x).Nodup:=by
 unfold zBT;split
 ·exact h
 ·rename_i hx;exact nodup_append.mpr ⟨h,by simp,λa ha b hb=>by rw [mS.mp hb];rintro rfl;exact hx ha⟩
def zSG(ks:Aa)(x:Ab):(zBT ks x).length<=ks.length+1:=by
 unfold zBT;split
 ·omega
 ·rw [lA,lS];omega
def bX(ks xs:Aa):List (List Nat):=xs.foldl zBT ks
theorem bM: ∀(xs ks:Aa)(y:Ab),y∈bX ks xs↔y∈ks\/y∈xs
 |[],ks,y=>by simp [bX]
 |x::xs,ks,y=>by show y∈bX (zBT ks x) xs↔_;rw [bM xs,yDD,mC,or_assoc]
theorem zPS: ∀(xs:Aa){ks:Aa},ks.Nodup->(bX ks xs).Nodup
 |[],_,h=>h
 |x::xs,_,h=>zPS xs (yHS h x)
theorem zAS: ∀(xs ks:Aa),(bX ks xs).length<=ks.length+xs.length
 |[],ks=>le_refl _
 |x::xs,ks=>by have h1:=zAS xs (zBT ks x);have h2:=zSG ks x;show(bX (zBT ks x) xs).length<=_;rw [lC];omega
def dT(ks:Aa):List (MV×MV):=ks.map λx=>(.str x,.bl true)
theorem zPT(ks:Aa):(dT ks).map (·.1)=ks.map MV.str:=by unfold dT;rw [map_map];rfl
def zWY(ks:Aa)(x:Ab):(look (dT ks) (.str x)).isSome=decide (x∈ks):=by
 by_cases h:x∈ks
 ·rw [dT0 h];unfold look;rw [Option.isSome_map,List.find?_isSome];exact⟨(.str x,.bl true),mM.mpr ⟨x,h,rfl⟩,by simp⟩
 ·rw [dF0 h]
  cases z:(look (dT ks) (.str x)).isSome with
  |false=>rfl
  |true=>
   have:=zSF z;rw [zPT]at this;exact absurd (zPR.mp this) h
theorem yDE(ks:Aa)(x:Ab):putK (dT ks) (.str x) (.bl true)=dT (zBT ks x):=by
 unfold putK zBT;rw [zWY];by_cases h:x∈ks
 ·rw [iP h,iP (dT0 h)];unfold dT;rw [map_map];refine List.map_congr_left λy _=>?_;show(if MV.str y=MV.str x then(MV.str y,MV.bl true)else(MV.str y,MV.bl true))=_;split<;>rfl
 ·rw [iN h,iN (by rw [dF0 h];exact xF0)];unfold dT;rw [map_append];rfl
theorem zID(ks:Aa):(dT ks).all (λp=>zFO p.1)=true:=by unfold dT;rw [all_map,all_eq_true];intro x _;rfl
def zDR{S:Sto}{l:Nat}{kvs:Ca}(h:S[l]? =some (.dic kvs))(ha:kvs.all (λp=>zFO p.1)=true):zFP S (.val (.loc l))=some (l,kvs):=by unfold zFP;dsimp only;rw [h];dsimp only;rw [iP ha]
def yHT{S:Sto}{l:Nat}{ks:Aa}(h:S[l]? =some (.dic (dT ks)))(hl:ks.length<1000000)(x:Ab)(ρ:Rho):zEK (.val (.loc l)) (.val (.str x)) (.bl true) ρ S=.ok ρ (S.set l (.dic (dT (zBT ks x)))):=by unfold zEK;dsimp only;rw [zDR h (zID ks)];dsimp only;rw [iP ⟨rfl,by unfold dT;rw [lM];exact hl⟩,yDE]
def yDF{S:Sto}{l:Nat}{ks:Aa}(h:S[l]? =some (.dic (dT ks))):zCW [.val (.loc l)] S=.ok (.new (ks.map MV.str)) S:=by unfold zCW;dsimp only;rw [zDR h (zID ks)];dsimp only;rw [zPT]
abbrev D4(m:MV)(n:Nat)(a t:Bi):Rho:=[some m,some (.loc n),a,t]
theorem zHM{S:Sto}{m:MV}{a:Bi}: ∀(tms:Bh),(∀d∈tms,zZN d)-> ∀(ks:Aa)(t:Bi),ks.length+tms.length<1000->
  ∃t',kY (gNm 3) cG [] tms (D4 m S.length a t) (S++[.dic (dT ks)])=.ok (.next (D4 m S.length a t')) (S++[.dic (dT (bX ks (tms.filterMap vn)))])
 |[],_,ks,t,_=>⟨t,rfl⟩
 |d::tms,hT,ks,t,hl=>by
  rw [lC]at hl;rcases hT d mF0 with⟨x,rfl⟩|⟨v,hv,rfl⟩
  ·have hal:=zSG ks x;obtain⟨t',ih⟩:=zHM (S:=S) (m:=m) (a:=a) tms (λe he=>hT e (mO _ he)) (zBT ks x) (some (.tup [.str VAR,.str x])) (by omega);refine⟨t',?_⟩;rw [yB (show gNm 3 (.tup [.str VAR,.str x]) (D4 m S.length a t) (S++[.dic (dT ks)])=.ok (D4 m S.length a (some (.tup [.str VAR,.str x]))) (S++[.dic (dT ks)])from rfl) (ρ':=D4 m S.length a (some (.tup [.str VAR,.str x]))) (S':=S++[.dic (dT (zBT ks x))]) ?_ (xE _)]
   ·rw [filterMap_cons,zKY];exact ih
   ·unfold cG cY;simp? [yDC,zSE,eq_vv,zEH,yHT (zO S (.dic (dT ks))) (show ks.length<1000000 by omega),wA]
  ·obtain⟨t',ih⟩:=zHM (S:=S) (m:=m) (a:=a) tms (λe he=>hT e (mO _ he)) ks (some (.tup [.str IS,v])) (by omega)
   have hv0:vn (.tup [.str IS,v])=none:=by
    cases v with
    |str y=>simp [vn]
    |_=>rfl
   refine⟨t',?_⟩;rw [yB (show gNm 3 (.tup [.str IS,v]) (D4 m S.length a t) (S++[.dic (dT ks)])=.ok (D4 m S.length a (some (.tup [.str IS,v]))) (S++[.dic (dT ks)])from rfl) (ρ':=D4 m S.length a (some (.tup [.str IS,v]))) (S':=S++[.dic (dT ks)]) ?_ (xE _)]
   ·rw [filterMap_cons,hv0];exact ih
   ·unfold cG cY;simp? [yDC,zSE,eq_iv,fT,iF]
def nmL(tms:Bh):List (List Nat):=bX [] (tms.filterMap vn)
theorem yHU{tm0:MV}{tms:Bh}(hT: ∀d∈tms,zZN d)(hl:tms.length<=100)(S:Sto):zT 1 gC [.new [.tup [tm0,.tup tms]]] S=.ok (.new ((nmL tms).map MV.str)) S:=by
 obtain⟨S1,hS1⟩: ∃S1:Sto,S1=S++[.lst [.tup [tm0,.tup tms]]]:=⟨_,rfl⟩
 have hq:S1[S.length]? =some (.lst [.tup [tm0,.tup tms]]):=by rw [hS1];exact zO _ _
 obtain⟨gs,hg,hit⟩:=(show SqM S1 (.loc S.length) [.tup [tm0,.tup tms]]from .inr ⟨_,rfl,hq⟩).itQ;obtain⟨t',h4⟩:=zHM (S:=S1) (m:=.loc S.length) (a:=some (.tup [tm0,.tup tms])) tms hT [] none (by simp only [length_nil];omega);have hs:yE zES [.loc S.length]=[some (.loc S.length),none,none,none]:=rfl;have e1:zBD [some (.loc S.length),none,none,none] S1=.ok (.next (D4 (.loc S.length) S1.length none none)) (S1++[.dic (dT [])]):=by unfold zBD;simp? [zWC];rfl
 have hb:zBC (D4 (.loc S.length) S1.length (some (.tup [tm0,.tup tms])) none) (S1++[.dic (dT [])])=.ok (.next (D4 (.loc S.length) S1.length (some (.tup [tm0,.tup tms])) t')) (S1++[.dic (dT (nmL tms))]):=by unfold zBC zDB;simp? [zSE,zUU];exact h4
 have e2:zBE (D4 (.loc S.length) S1.length none none) (S1++[.dic (dT [])])=.ok (.next (D4 (.loc S.length) S1.length (some (.tup [tm0,.tup tms])) t')) (S1++[.dic (dT (nmL tms))]):=by unfold zBE;simp? [hit];rw [yB (show gNm 2 (.tup [tm0,.tup tms]) (D4 (.loc S.length) S1.length none none) (S1++[.dic (dT [])])=.ok (D4 (.loc S.length) S1.length (some (.tup [tm0,.tup tms])) none) (S1++[.dic (dT [])])from rfl) hb (hg _)];rfl
 have e3:zBF (D4 (.loc S.length) S1.length (some (.tup [tm0,.tup tms])) t') (S1++[.dic (dT (nmL tms))])=.ok (.ret (.new ((nmL tms).map MV.str))) (S1++[.dic (dT (nmL tms))]):=by unfold zBF;simp? [yDF (zO S1 (.dic (dT (nmL tms))))]
 refine jE (T:=[.lst [.tup [tm0,.tup tms]],.dic (dT (nmL tms))]) rfl ?_ (cT λd hd=>by obtain⟨y,_,rfl⟩:=mM.mp hd;exact zGR _ _);show gC [.loc S.length] (S++[.lst [.tup [tm0,.tup tms]]])=_;rw [<-hS1];unfold gC zKN;rw [hs,zD e1,zD e2,e3,hS1,aA];rfl
theorem zIE{S:Sto}{gf:MV->Rho->Sto->R Rho}{cf:AZ}{ef:AX}{ρb:Rho}{gs:Bk}{p:MV->Bool}(hs:stay gs S):
  ∀{ds:Bh},(∀d∈ds, ∃ρ1,gf d ρb S=.ok ρ1 S/\cf ρ1 S=.ok (p d) S/\ef ρ1 S=.ok (.val d) S)->xP gf cf ef ρb gs ds S=.ok (ds.filter p) S
 |[],_=>rfl
 |d::ds,st=>by
  obtain⟨ρ1,h1,h2,h3⟩:=st d mF0;have e:=zIE hs (p:=p) (ds:=ds) λd hd=>st d (mO _ hd);unfold xP
  cases hp:p d with
  |true=>
   rw [h1,xV,bok,h2,xV,bok,hp,iP rfl,h3,xV,bok];unfold cS;rw [bok,iP hs,e,List.filter_cons_of_pos hp];rfl
  |false=>
   rw [h1,xV,bok,h2,xV,bok,hp,iN xF0,iP hs,e,List.filter_cons_of_neg (by rw [hp];exact xF0)]
def yHV(neg:Bool)(p:Er)(ds:Bh)(S:Sto):inF neg p (.val (.tup ds)) S=zGN neg p (.val (.tup ds)) S:=by unfold inF;split<;>first |rfl|(rename_i h;cases h)
def yMX{S:Sto}{x:Ab}{fs:Aa}(neg:Bool):inF neg (.val (.str x)) (.val (.tup (fs.map MV.str))) S=.ok (.val (.bl (if neg=true then !decide (x∈fs)else decide (x∈fs)))) S:=by
 have e1:itemsOf S (.val (.tup (fs.map MV.str)))=some (fs.map MV.str):=rfl;rw [yHV];unfold zGN;dsimp only;rw [e1];dsimp only;rw [zKX (zPO x) zIU];dsimp only
 have h:((fs.map MV.str).map λy=>decide (y=MV.str x)).any id=decide (x∈fs):=by
  rw [List.any_map];by_cases hm:x∈fs
  ·rw [dT0 hm,any_eq_true];exact⟨.str x,mM.mpr ⟨x,hm,rfl⟩,by simp⟩
  ·rw [dF0 hm,List.any_eq_false];intro y hy;obtain⟨z,hz,rfl⟩:=mM.mp hy;simp only [Function.comp,id,decide_eq_true_eq];intro e;cases e;exact hm hz
 rw [h]
def fnL(hs:Aa)(tms:Bh):List (List Nat):=(nmL tms).filter λx=>!decide (x∈hs)
theorem zWZ{hs:Aa}{at' tm0:MV}{tms:Bh}(hT: ∀d∈tms,zZN d)(hl:tms.length<=100)(S:Sto):zT 2 yQ [.val (.tup [.tup (hs.map MV.str),at']),.val (.tup [tm0,.tup tms])] S=.ok (.new ((fnL hs tms).map MV.str)) S:=by
 have hnl:(nmL tms).length<=tms.length:=by have h1:=zAS (tms.filterMap vn) [];have h2:=List.length_filterMap_le vn tms;rw [length_nil]at h1;unfold nmL;omega
 have hcf:=zIE (S:=S) (gf:=gNm 0) (cf:=gD) (ef:=zAP) (ρb:=[none,some (.tup [.tup (hs.map MV.str),at'])]) (gs:=[]) (p:=λd=>match d with |.str x=>!decide (x∈hs)|_=>false) (xE S) (ds:=(nmL tms).map MV.str) λd hd=>by obtain⟨y,hy,rfl⟩:=mM.mp hd;refine⟨[some (.str y),some (.tup [.tup (hs.map MV.str),at'])],rfl,?_,rfl⟩;unfold gD;simp? [yDC,yMX,if_true]
 have hfm:((nmL tms).map MV.str).filter (λd=>match d with |.str x=>!decide (x∈hs)|_=>false)=(fnL hs tms).map MV.str:=by unfold fnL;rw [List.filter_map];rfl
 rw [hfm]at hcf;have hlt:((nmL tms).map MV.str).length<1000000:=by rw [lM];omega
 refine jE (T:=[]) rfl ?_ (cT λd hd=>by obtain⟨y,_,rfl⟩:=mM.mp hd;exact zGR _ _);rw [aN];show xI (zBG [some (.tup [.tup (hs.map MV.str),at']),some (.tup [tm0,.tup tms])] S)=_;have e1:cZ [some (.tup [.tup (hs.map MV.str),at']),some (.tup [tm0,.tup tms])] S=.ok (.ret (.new ((fnL hs tms).map MV.str))) S:=by unfold cZ;simp? [lst1,yHU hT hl,show∀(ds:Bh)(S:Sto),itL (.new ds) S=.ok ⟨ds,[]⟩ S from λ_ _=>rfl,hlt,show blk 1 [0] [some (MV.tup [.tup (hs.map MV.str),at']),some (.tup [tm0,.tup tms])]=[none,some (.tup [.tup (hs.map MV.str),at'])]from rfl,hcf]
 unfold zBG;rw [e1];rfl
def zKZ{hs:Aa}{tms:Bh}{x:Ab}:x∈fnL hs tms↔x∈tms.filterMap vn/\x∉hs:=by unfold fnL nmL;rw [mem_filter,bM];simp
theorem zXA(ds:Bh)(l h:Bc)(S:Sto):zGM (.val (.tup ds)) l h S=.ok (.val (.tup (jW ds l h))) S:=rfl
theorem yMY{ts:Ac}{t:Int}{p:Int×Int}{hs:Aa}{at':MV}{tms:Bh}(hd:atI (ts.map tbl) t=some (tbl p))(h0:0<=p.2)(hT: ∀d∈tms,zZN d)(hl:tms.length<=100)(S:Sto):
  zT 3 kX [.val (.tup (ts.map tbl)),.val (.tup [.tup (hs.map MV.str),at']),.val (.tup [.int t,.tup tms])] S=.ok (.new ((fnL hs (tms.take p.2.toNat)).map MV.str)) S:=by
 refine jE (T:=[]) rfl ?_ (cT λd hd=>by obtain⟨y,_,rfl⟩:=mM.mp hd;exact zGR _ _);rw [aN];show xI (zDC [some (.tup (ts.map tbl)),some (.tup [.tup (hs.map MV.str),at']),some (.tup [.int t,.tup tms]),none] S)=_;have e1:zAG [some (.tup (ts.map tbl)),some (.tup [.tup (hs.map MV.str),at']),some (.tup [.int t,.tup tms]),none] S=.ok (.next [some (.tup (ts.map tbl)),some (.tup [.tup (hs.map MV.str),at']),some (.tup [.int t,.tup tms]),some (.int p.2)]) S:=by unfold zAG;simp? [yDC,ix_tup (S:=S) hd,show∀S:Sto,ixF (.val (tbl p)) (.val (.int 1)) S=.ok (.val (.int p.2)) S from λ_=>rfl]
 have hf:=zWZ (hs:=hs) (at':=at') (tm0:=.int t) (tms:=tms.take p.2.toNat) (λd hd=>hT d (mem_of_mem_take hd)) (by rw [lT];omega) S;have e2:zAH [some (.tup (ts.map tbl)),some (.tup [.tup (hs.map MV.str),at']),some (.tup [.int t,.tup tms]),some (.int p.2)] S=.ok (.ret (.new ((fnL hs (tms.take p.2.toNat)).map MV.str))) S:=by unfold zAH;simp? [yDC,zSE,zXA,zOP _ _ h0,tup2,hf]
 unfold zDC;rw [zD e1,e2];rfl
def yHW{hs:Aa}{tms:Bh}{k:Nat}{x:Ab}(h:x∈fnL hs (tms.take k)):x∈fnL hs tms:=by rw [zKZ]at h ⊢;refine⟨?_,h.2⟩;obtain⟨d,hd,e⟩:=mem_filterMap.mp h.1;exact mem_filterMap.mpr ⟨d,mem_of_mem_take hd,e⟩
theorem bA{α:Type}{f g:α->MV}{S:Sto}{gf:MV->Rho->Sto->R Rho}{cf:AZ}{ef:AX}{ρb:Rho}{gs:Bk}(hs:stay gs S):
  ∀{ds:List α},(∀d∈ds, ∃ρ1,gf (f d) ρb S=.ok ρ1 S/\cf ρ1 S=.ok true S/\ef ρ1 S=.ok (.val (g d)) S)->xP gf cf ef ρb gs (ds.map f) S=.ok (ds.map g) S
 |[],_=>rfl
 |d::ds,st=>by obtain⟨ρ1,h1,h2,h3⟩:=st d mF0;have e:=bA hs (f:=f) (g:=g) (ds:=ds) λd hd=>st d (mO _ hd);rw [map_cons];unfold xP;rw [h1,xV,bok,h2,xV,bok,iP rfl,h3,xV,bok];unfold cS;rw [bok,iP hs,e];rfl
theorem zUV{α:Type}(f:α->Bool): ∀xs:List α,zCE (xs.map λx=>.bl (f x))=some (xs.map f)
 |[]=>rfl
 |x::xs=>by rw [map_cons,map_cons];unfold zCE;rw [zUV f xs];rfl
theorem zXB{α:Type}(f:α->Bool)(xs:List α)(S:Sto):allF [.new (xs.map λx=>.bl (f x))] S=.ok (.val (.bl (xs.all f))) S:=by show(match (some (xs.map λx=>MV.bl (f x))).bind zCE with |some bs=>R.ok (Er.val (.bl (bs.all id))) S|none=>.no)=_;rw [show(some (xs.map λx=>MV.bl (f x))).bind zCE=some (xs.map f)from zUV f xs];show R.ok (Er.val (.bl ((xs.map f).all id))) S=_;rw [all_map];rfl
theorem yHX{α:Type}(f:α->Bool)(xs:List α)(S:Sto):anyF [.new (xs.map λx=>.bl (f x))] S=.ok (.val (.bl (xs.any f))) S:=by show(match (some (xs.map λx=>MV.bl (f x))).bind zCE with |some bs=>R.ok (Er.val (.bl (bs.any id))) S|none=>.no)=_;rw [show(some (xs.map λx=>MV.bl (f x))).bind zCE=some (xs.map f)from zUV f xs];show R.ok (Er.val (.bl ((xs.map f).any id))) S=_;rw [List.any_map];rfl
def zNM{α:Type}(ds:List α)(j:Nat):jW ds none (some (j:Int))=ds.take j:=by
 unfold jW;rw [HT.sIx_nat,show HT.sIx ds.length 0 none=0 from rfl,drop_zero,sub_zero];by_cases h:j<=ds.length
 ·rw [min_eq_left h]
 ·rw [Nat.min_eq_right (by omega),take_of_length_le (le_refl _),take_of_length_le (by omega)]
def zNN{α:Type}(ds:List α)(j:Nat):jW ds (some (j:Int)) none=ds.drop j:=by
 unfold jW;rw [HT.sIx_nat,show HT.sIx ds.length ds.length none=ds.length from rfl];by_cases h:j<=ds.length
 ·rw [min_eq_left h,take_of_length_le (by rw [length_drop];exact le_refl _)]
 ·rw [Nat.min_eq_right (by omega),List.drop_of_length_le (le_refl _),List.drop_of_length_le (show ds.length<=j by omega),List.take_nil]
def yHY{α β:Type}(f:α->β)(xs:List α)(i:Int):atI (xs.map f) i=(atI xs i).map f:=by
 unfold atI;rw [lM]
 cases ixN xs.length i with
 |none=>rfl
 |some j=>exact getElem?_map
def zFZ{α:Type}{xs:List α}{k:Nat}{x:α}(h:xs[k]? =some x):atI xs (k:Int)=some x:=L2.atI_nat h
abbrev prT(x:Ab):MV:=.tup [.str x,.bl true]
theorem zSH: ∀xs:List (List Nat),zCX (xs.map prT)=some (dT xs)
 |[]=>rfl
 |x::xs=>by rw [map_cons];unfold zCX;rw [iP (show zFO (.str x)=true from rfl),zSH xs];rfl
theorem zPU: ∀(xs ks:Aa),zWR (dT ks) (dT xs)=dT (bX ks xs)
 |[],ks=>rfl
 |x::xs,ks=>by show zWR (putK (dT ks) (.str x) (.bl true)) (dT xs)=dT (bX (zBT ks x) xs);rw [yDE,zPU xs]
def zXC(xs:Aa)(S:Sto):zRO [.new (xs.map prT)] S=.ok (.val (.loc S.length)) (S++[.dic (dT (bX [] xs))]):=by show(match zCX (xs.map prT)with |some kvs=>R.ok (Er.val (.loc S.length)) (S++[MO.dic (yCM kvs)])|none=>.no)=_;rw [zSH];show R.ok (Er.val (.loc S.length)) (S++[MO.dic (zWR (dT []) (dT xs))])=_;rw [zPU]
def yDG{S:Sto}{l:Nat}{ks:Aa}(neg:Bool)(h:S[l]? =some (.dic (dT ks)))(x:Ab):zGY neg (.val (.str x)) (.val (.loc l)) S=.ok (.val (.bl (if neg=true then !decide (x∈ks)else decide (x∈ks)))) S:=by unfold zGY;dsimp only;rw [zDR h (zID ks)];dsimp only;rw [iP (show zFO (.str x)=true from rfl),zWY]
def zXD{S:Sto}{l:Nat}{ks:Aa}(h:S[l]? =some (.dic (dT ks))):zNF [.val (.loc l)] S=.ok (.val (.int ks.length)) S:=by unfold zNF;dsimp only;rw [zDR h (zID ks)];dsimp only;rw [show(dT ks).length=ks.length by unfold dT;rw [lM]]
theorem yHZ{S:Sto}{l:Nat}{ks:Aa}(h:S[l]? =some (.dic (dT ks))):isDx (.val (.loc l)) S=true:=by unfold isDx;rw [zDR h (zID ks)];rfl
def yIA{S:Sto}{l m:Nat}{ks xs:Aa}(h:S[l]? =some (.dic (dT ks)))(h2:S[m]? =some (.dic (dT xs)))(hne:l≠m)(hl:ks.length+xs.length<1000000):zND (.val (.loc l)) [.val (.loc m)] S=.ok (.val .non) (S.set l (.dic (dT (bX ks xs)))):=by unfold zND;dsimp only;rw [zDR h (zID ks)];dsimp only;rw [zDR h2 (zID xs)];dsimp only;rw [iP ⟨hne,by rw [show(dT ks).length=ks.length by unfold dT;rw [lM],show(dT xs).length=xs.length by unfold dT;rw [lM]];exact hl⟩,zPU]
def aM(a:Int×List MV):MV:=.tup [.int a.1,.tup a.2]
abbrev qM(hs:Aa)(as:Bj):MV:=.tup [.tup (hs.map MV.str),.tup (as.map aM)]
structure AOk(ts:Ac)(a:Int×List MV):Prop where
 tb: ∃p,atI ts a.1=some p/\0<=p.2
 tm: ∀d∈a.2,zZN d
 len:a.2.length<=4
def kyL(ts:Ac)(hs:Aa)(a:Int×List MV):List (List Nat):=fnL hs (a.2.take ((atI ts a.1).getD (0,0)).2.toNat)
abbrev frL(hs:Aa)(a:Int×List MV):List (List Nat):=fnL hs a.2
def yDH{ts:Ac}{hs:Aa}{d:MV}{a:Int×List MV}(h:AOk ts a)(S:Sto):zT 3 kX [.val (.tup (ts.map tbl)),.val (.tup [.tup (hs.map MV.str),d]),.val (aM a)] S=.ok (.new ((kyL ts hs a).map MV.str)) S:=by obtain⟨p,hp,h0⟩:=h.tb;have e:=yMY (ts:=ts) (t:=a.1) (p:=p) (hs:=hs) (at':=d) (tms:=a.2) (by rw [yHY,hp];rfl) h0 h.tm (by have:=h.len;omega) S;unfold kyL;rw [hp];exact e
def yJK{ts:Ac}{hs:Aa}{d:MV}{a:Int×List MV}(h:AOk ts a)(S:Sto):zT 2 yQ [.val (.tup [.tup (hs.map MV.str),d]),.val (aM a)] S=.ok (.new ((frL hs a).map MV.str)) S:=zWZ h.tm (by have:=h.len;omega) S
def yDI(hs:Aa)(tms:Bh):(fnL hs tms).length<=tms.length:=by have h1:=zAS (tms.filterMap vn) [];have h2:=List.length_filterMap_le vn tms;have h3:=List.length_filter_le (λx=>!decide (x∈hs)) (nmL tms);rw [length_nil]at h1;unfold fnL;unfold nmL at h3 ⊢;omega
def zHN{ts:Ac}{hs:Aa}{a:Int×List MV}(h:AOk ts a):(frL hs a).length<=4:=le_trans (yDI hs a.2) h.len
def yDJ{ts:Ac}{hs:Aa}{a:Int×List MV}(h:AOk ts a):(kyL ts hs a).length<=4:=le_trans (yDI hs _) (by rw [lT];have:=h.len;omega)
theorem zBU{α:Type}[DecidableEq α]: ∀{ks U:List α},ks.Nodup->(∀x∈ks,x∈U)->ks.length<=U.length
 |[],_,_,_=>zero_le _
 |x::ks,U,hn,h=>by rw [nodup_cons]at hn;have hx:=h x mF0;have ih:=zBU (ks:=ks) (U:=U.erase x) hn.2 λy hy=>(List.mem_erase_of_ne (show y≠x from λe=>hn.1 (e▸hy))).mpr (h y (mO _ hy));rw [List.length_erase_of_mem hx]at ih;have:=List.length_pos_of_mem hx;rw [lC];omega
def zHO(S T:Sto)(o:MO):(S++o::T)[S.length]? =some o:=by simp
def yIB(S T:Sto)(o o':MO):(S++o::T).set S.length o'=S++o'::T:=by simp
theorem zEW(ds:Bh)(S:Sto):itL (.new ds) S=.ok ⟨ds,[]⟩ S:=rfl
def stK(ts:Ac)(hs ks:Aa)(a:Int×List MV):List (List Nat):=if(kyL ts hs a).all (λx=>decide (x∈ks))=true then bX ks (bX [] (frL hs a))else ks
abbrev KA(ts:Ac)(q:MV)(i:Nat)(as oth:Bh)(l:Nat)(b:Int)(o:Bi):Rho:=[some (.tup (ts.map tbl)),some q,some (.int i),some (.tup as),some (.tup oth),some (.loc l),some (.int b),o]
def yIC{ts:Ac}{hs:Aa}{qd:MV}{i:Nat}{as oth:Bh}{b:Int}{a:Int×List MV}(h:AOk ts a)(S T:Sto){ks:Aa}(hl:ks.length<=1000):
  ∃T',cH (KA ts (.tup [.tup (hs.map MV.str),qd]) i as oth S.length b (some (aM a))) (S++.dic (dT ks)::T)=.ok (.next (KA ts (.tup [.tup (hs.map MV.str),qd]) i as oth S.length b (some (aM a)))) (S++.dic (dT (stK ts hs ks a))::T'):=by
 obtain⟨S1,hS1⟩: ∃S1:Sto,S1=S++.dic (dT ks)::T:=⟨_,rfl⟩
 have hat:S1[S.length]? =some (.dic (dT ks)):=by rw [hS1];exact zHO _ _ _
 have hc1:xP (gNm 0) zDE dB [none,some (.loc S.length)] [] ((kyL ts hs a).map MV.str) S1=.ok ((kyL ts hs a).map λx=>.bl (decide (x∈ks))) S1:=
  bA (xE _) λx _=>⟨[some (.str x),some (.loc S.length)],rfl,rfl,by unfold dB;simp? [yDG false hat x,fT,iF]⟩
 have hk:((kyL ts hs a).map MV.str).length<1000000:=by rw [lM];have:=yDJ (hs:=hs) h;omega
 have hf:((frL hs a).map MV.str).length<1000000:=by rw [lM];have:=zHN (hs:=hs) h;omega
 have hc2:xP (gNm 0) zDF dC [none] [] ((frL hs a).map MV.str) S1=.ok ((frL hs a).map prT) S1:=
  bA (xE _) λx _=>⟨[some (.str x)],rfl,rfl,by unfold dC;simp? [tup2]⟩
 have hb1: ∀a b c d e f g h:Option MV,blk 1 [5] [a,b,c,d,e,f,g,h]=[none,f]:=λ_ _ _ _ _ _ _ _=>rfl;have hb2: ∀a b c d e f g h:Option MV,blk 1 [] [a,b,c,d,e,f,g,h]=[none]:=λ_ _ _ _ _ _ _ _=>rfl;unfold cH zDG;rw [<-hS1];unfold stK;by_cases hq:(kyL ts hs a).all (λx=>decide (x∈ks))=true
 ·have hin:(S1++[.dic (dT (bX [] (frL hs a)))])[S.length]? =some (.dic (dT ks)):=by rw [getElem?_append_left (gS0.mp hat).1];exact hat
  have hne:S.length≠S1.length:=by rw [hS1,lA,lC];omega
  have hlen:ks.length+(bX [] (frL hs a)).length<1000000:=by have:=zAS (frL hs a) [];have:=zHN (hs:=hs) h;rw [length_nil]at *;omega
  refine⟨T++[.dic (dT (bX [] (frL hs a)))],?_⟩;rw [iP hq];simp? [yDH h,zEW,hk,hb1,hc1,zXB,hq,yHZ hat,yJK h,hf,hb2,hc2,zXC,yIA hin (zO _ _) hne hlen];rw [hS1,aA,cons_append,yIB]
 ·refine⟨T,?_⟩;rw [iN hq, <-hS1];simp? [yDH h,zEW,hk,hb1,hc1,zXB,hq,fT,iF]
def zXE(ts:Ac)(hs ks:Aa)(a:Int×List MV): ∃t,stK ts hs ks a=ks++t:=by
 have h1: ∀(xs ks:Aa), ∃t,bX ks xs=ks++t:=by
  intro xs
  induction xs with
  |nil=>exact λks=>⟨[],(aN _).symm⟩
  |cons x xs ih=>
   intro ks;obtain⟨t,e⟩:=ih (zBT ks x);show∃t,bX (zBT ks x) xs=ks++t;rw [e];unfold zBT;split
   ·exact⟨t,rfl⟩
   ·exact⟨x::t,by rw [aA];rfl⟩
 unfold stK;split
 ·exact h1 _ _
 ·exact⟨[],(aN _).symm⟩
theorem zPV(ts:Ac)(hs:Aa): ∀(oth:Bj)(ks:Aa), ∃t,oth.foldl (stK ts hs) ks=ks++t
 |[],ks=>⟨[],(aN _).symm⟩
 |a::oth,ks=>by obtain⟨t,e⟩:=zXE ts hs ks a;obtain⟨u,e2⟩:=zPV ts hs oth (stK ts hs ks a);exact⟨t++u,by rw [foldl_cons,e2,e,aA]⟩
theorem zSI(ts:Ac)(hs:Aa): ∀(oth:Bj)(ks:Aa),oth.foldl (stK ts hs) ks=ks-> ∀a∈oth,stK ts hs ks a=ks
 |[],_,_,a,ha=>by simp at ha
 |c::oth,ks,h,a,ha=>by
  rw [foldl_cons]at h;obtain⟨t,e⟩:=zXE ts hs ks c;obtain⟨u,e2⟩:=zPV ts hs oth (stK ts hs ks c);have e3:ks++(t++u)=ks++[]:=by rw [aN, <-aA, <-e, <-e2,h]
  have e4:t=[]:=(List.append_eq_nil_iff.mp (List.append_cancel_left e3)).1;have e5:stK ts hs ks c=ks:=by rw [e,e4,aN]
  rcases mC.mp ha with rfl|ha
  ·exact e5
  ·rw [e5]at h;exact zSI ts hs oth ks h a ha
def yMZ{ts:Ac}{hs ks:Aa}(h:ks.Nodup)(a:Int×List MV):(stK ts hs ks a).Nodup:=by
 unfold stK;split
 ·exact zPS _ h
 ·exact h
def Fq(hs:Aa)(as:Bj)(j:Nat):List (List Nat):=(as[j]?).elim [] (frL hs)
def Kq(ts:Ac)(hs:Aa)(as:Bj)(j:Nat):List (List Nat):=(as[j]?).elim [] (kyL ts hs)
theorem zNO{hs:Aa}{as:Bj}{j:Nat}{a:Int×List MV}(h:as[j]? =some a):Fq hs as j=frL hs a:=by unfold Fq;rw [h];rfl
theorem zSJ{ts:Ac}{hs:Aa}{as:Bj}{j:Nat}{a:Int×List MV}(h:as[j]? =some a):Kq ts hs as j=kyL ts hs a:=by unfold Kq;rw [h];rfl
def KqF(ts:Ac)(hs:Aa)(as:Bj)(j:Nat)(_:j<as.length)(y:Ab)(h:y∈Kq ts hs as j):y∈Fq hs as j:=by
 unfold Kq at h;unfold Fq
 cases e:as[j]? with
 |none=>rw [e]at h;simp at h
 |some a=>
  rw [e]at h;exact yHW h
abbrev KnQ(ts:Ac)(hs:Aa)(as:Bj):Nat->List Nat->Prop:=Kn (Kq ts hs as) (Fq hs as) as.length
def yNA{ts:Ac}{hs ks:Aa}{as:Bj}{i j:Nat}{a:Int×List MV}(ha:as[j]? =some a)(hj:j≠i)(h: ∀x∈ks,KnQ ts hs as i x): ∀x∈stK ts hs ks a,KnQ ts hs as i x:=by
 intro x hx;unfold stK at hx;split at hx
 ·rename_i hq;rw [bM,bM]at hx;rcases hx with hx|hx|hx
  ·exact h x hx
  ·simp at hx
  ·refine .step j (gS0.mp ha).1 hj (λy hy=>?_) (by rw [zNO ha];exact hx);rw [zSJ ha]at hy;exact h y (of_decide_eq_true (all_eq_true.mp hq y hy))
 ·exact h x hx
theorem yDK{ts:Ac}{hs:Aa}{as:Bj}{i:Nat}: ∀(oth:Bj),(∀a∈oth, ∃j,as[j]? =some a/\j≠i)-> ∀(ks:Aa),ks.Nodup->(∀x∈ks,KnQ ts hs as i x)->(oth.foldl (stK ts hs) ks).Nodup/\ ∀x∈oth.foldl (stK ts hs) ks,KnQ ts hs as i x
 |[],_,ks,hn,h=>⟨hn,h⟩
 |a::oth,ho,ks,hn,h=>by obtain⟨j,hj,hne⟩:=ho a mF0;rw [foldl_cons];exact yDK oth (λb hb=>ho b (mO _ hb)) _ (yMZ hn a) (yNA hj hne h)
def yNB{ts:Ac}{hs ks:Aa}{as oth:Bj}{i:Nat}{a0:Int×List MV}(hi:as[i]? =some a0)(hk: ∀x∈kyL ts hs a0,x∈ks)(ho: ∀j a,as[j]? =some a->j≠i->a∈oth)(hs': ∀a∈oth,stK ts hs ks a=ks){x:Ab}(h:KnQ ts hs as i x):x∈ks:=by
 induction h with
 |key h=>rw [zSJ hi]at h;exact hk _ h
 |@step x j hj hne hall hx ih=>
  have ha:=gE0 hj;have e:=hs' _ (ho j _ ha hne);rw [zNO ha]at hx;rw [zSJ ha]at ih;unfold stK at e;rw [iP (all_eq_true.mpr λy hy=>dT0 (ih y hy))]at e;rw [<-e,bM,bM];exact .inr (.inr hx)
def zSK(hs:Aa)(as:Bj):List (List Nat):=as.flatMap (frL hs)
theorem zIV{ts:Ac}{hs:Aa}: ∀{as:Bj},(∀a∈as,AOk ts a)->(zSK hs as).length<=4 * as.length
 |[],_=>le_refl _
 |a::as,h=>by have h1:=zIV (hs:=hs) λb hb=>h b (mO _ hb);have h2:=zHN (hs:=hs) (h a mF0);unfold zSK at h1 ⊢;rw [List.flatMap_cons,lA,lC];omega
def yDL{ts:Ac}{hs:Aa}{as:Bj}{i:Nat}(hi:i<as.length){x:Ab}(h:KnQ ts hs as i x):x∈zSK hs as:=by
 have e: ∀j,j<as.length->x∈Fq hs as j->x∈zSK hs as:=λj hj h=>by rw [zNO (gE0 hj)]at h;exact mem_flatMap.mpr ⟨_,getElem_mem hj,h⟩
 cases h with
 |key h=>exact e i hi (KqF ts hs as i hi _ h)
 |step j hj _ _ hx=>exact e j hj hx
theorem yDM{ts:Ac}{hs:Aa}{qd:MV}{i:Nat}{as oth:Bh}{b:Int}(S:Sto): ∀(os:Bj),(∀a∈os,AOk ts a)-> ∀(T:Sto)(ks:Aa)(o:Bi),ks.length+4 * os.length<=1000->
  ∃T' o',kY (gNm 7) cH [] (os.map aM) (KA ts (.tup [.tup (hs.map MV.str),qd]) i as oth S.length b o) (S++.dic (dT ks)::T)=.ok (.next (KA ts (.tup [.tup (hs.map MV.str),qd]) i as oth S.length b o')) (S++.dic (dT (os.foldl (stK ts hs) ks))::T')
 |[],_,T,ks,o,_=>⟨T,o,rfl⟩
 |a::os,h,T,ks,o,hl=>by
  rw [lC]at hl;have ha:=h a mF0;obtain⟨T1,e1⟩:=yIC (hs:=hs) (qd:=qd) (i:=i) (as:=as) (oth:=oth) (b:=b) ha S T (ks:=ks) (by omega)
  have hk:(stK ts hs ks a).length<=ks.length+4:=by
   unfold stK;split
   ·have h1:=zAS (bX [] (frL hs a)) ks;have h2:=zAS (frL hs a) [];have h3:=zHN (hs:=hs) ha;rw [length_nil]at h2;omega
   ·omega
  obtain⟨T',o',e⟩:=yDM (hs:=hs) (qd:=qd) (i:=i) (as:=as) (oth:=oth) (b:=b) S os (λc hc=>h c (mO _ hc)) T1 (stK ts hs ks a) (some (aM a)) (by omega);refine⟨T',o',?_⟩;rw [map_cons,yB (ρ0:=KA ts (.tup [.tup (hs.map MV.str),qd]) i as oth S.length b (some (aM a))) rfl e1 (xE _)];exact e
def zXF{ts:Ac}{q:MV}{i:Nat}{as oth:Bh}{b:Int}{o:Bi}(S T:Sto)(ks:Aa):bF (KA ts q i as oth S.length b o) (S++.dic (dT ks)::T)=.ok (decide (b<ks.length)) (S++.dic (dT ks)::T):=by unfold bF;simp? [zXD (zHO S T (.dic (dT ks))),lt_int]
def yID{ts:Ac}{hs:Aa}{qd:MV}{i:Nat}{as:Bh}{b:Int}(S:Sto){os:Bj}(h: ∀a∈os,AOk ts a)(T:Sto)(ks:Aa)(o:Bi)(hl:ks.length+4 * os.length<=1000):
  ∃T' o',cI (KA ts (.tup [.tup (hs.map MV.str),qd]) i as (os.map aM) S.length b o) (S++.dic (dT ks)::T)=.ok (.next (KA ts (.tup [.tup (hs.map MV.str),qd]) i as (os.map aM) S.length ks.length o')) (S++.dic (dT (os.foldl (stK ts hs) ks))::T'):=by
 obtain⟨T',o',e⟩:=yDM (hs:=hs) (qd:=qd) (i:=i) (as:=as) (oth:=os.map aM) (b:=ks.length) S os h T ks o hl;refine⟨T',o',?_⟩;have e1:dD (KA ts (.tup [.tup (hs.map MV.str),qd]) i as (os.map aM) S.length b o) (S++.dic (dT ks)::T)=.ok (.next (KA ts (.tup [.tup (hs.map MV.str),qd]) i as (os.map aM) S.length ks.length o)) (S++.dic (dT ks)::T):=by unfold dD;simp? [zXD (zHO S T (.dic (dT ks)))]
 unfold cI;rw [zD e1];unfold zDH;simp? [zUU];exact e
theorem zSL{ts:Ac}{hs:Aa}{as os:Bj}{i:Nat}(hi:i<as.length)(hA: ∀a∈as,AOk ts a)(hlen:as.length<=4)(hos: ∀a∈os, ∃j,as[j]? =some a/\j≠i)(hol:os.length<=4)(S:Sto): ∀(m f:Nat),m+2<=f-> ∀(T:Sto)(ks:Aa)(b:Int)(o:Bi),ks.Nodup->(∀x∈ks,KnQ ts hs as i x)->(zSK hs as).length<=ks.length+m->b<ks.length->
  ∃T' ks' b' o' t,xH bF cI f (KA ts (qM hs as) i (as.map aM) (os.map aM) S.length b o) (S++.dic (dT ks)::T)=.ok (.next (KA ts (qM hs as) i (as.map aM) (os.map aM) S.length b' o')) (S++.dic (dT ks')::T')/\ks'=ks++t/\(∀x∈ks',KnQ ts hs as i x)/\(∀a∈os,stK ts hs ks' a=ks')/\ks'.Nodup
 |m,f,hf,T,ks,b,o,hn,hk,hU,hb=>by
  obtain⟨f,rfl⟩: ∃g,f=g+1:=⟨f - 1,by omega⟩
  have hA': ∀a∈os,AOk ts a:=λa ha=>by obtain⟨j,hj,_⟩:=hos a ha;exact hA a (mem_of_getElem? hj)
  have hle:ks.length<=16:=by have h1:=zBU hn λx hx=>yDL hi (hk x hx);have h2:=zIV (hs:=hs) hA;omega
  obtain⟨T1,o1,e1⟩:=yID (hs:=hs) (qd:=.tup (as.map aM)) (i:=i) (as:=as.map aM) (b:=b) S hA' T ks o (by omega);have ht:=zXF (ts:=ts) (q:=qM hs as) (i:=i) (as:=as.map aM) (oth:=os.map aM) (b:=b) (o:=o) S T ks;rw [dT0 hb]at ht;obtain⟨t,et⟩:=zPV ts hs os ks;obtain⟨hn1,hk1⟩:=yDK os hos ks hn hk;have hlt:=congrArg List.length et;rw [lA]at hlt;by_cases hz:t=[]
  ·subst hz;rw [aN]at et;obtain⟨f,rfl⟩: ∃g,f=g+1:=⟨f - 1,by omega⟩
   have ht2:=zXF (ts:=ts) (q:=qM hs as) (i:=i) (as:=as.map aM) (oth:=os.map aM) (b:=ks.length) (o:=o1) S T1 ks;rw [dF0 (by omega)]at ht2;refine⟨T1,ks,ks.length,o1,[],?_,(aN _).symm,hk,zSI ts hs os ks et,hn⟩;rw [et]at e1;rw [cU ht e1,cO ht2]
  ·have htp:0<t.length:=List.length_pos_iff.mpr hz;have h1:=zBU hn1 λx hx=>yDL hi (hk1 x hx);have hm:m - 1<m:=by omega
   obtain⟨T',ks',b',o',t',e,h2,h3,h4,h5⟩:=zSL hi hA hlen hos hol S (m - 1) f (by omega) T1 (os.foldl (stK ts hs) ks) ks.length o1 hn1 hk1 (by omega) (by omega);refine⟨T',ks',b',o',t++t',?_,by rw [h2,et,aA],h3,h4,h5⟩;rw [cU ht e1];exact e
 termination_by m=>m
theorem yDN{n:Nat}{F:List MV->Sto->R Er}{rs:List Er}{S T:Sto}{kvs:Ca}(hn:rs.length=n)(hF:F (zQ rs S).1 (zQ rs S).2=.ok (.val (.loc S.length)) (S++.dic kvs::T)):zT n F rs S=.ok (.val (.loc S.length)) (S++.dic kvs::T):=by
 unfold zT;rw [iP hn,hF];show bY S (.val (.loc S.length)) (S++.dic kvs::T)=_;unfold bY;dsimp only;split
 ·rw [iN (lt_irrefl _),zHO]
 ·rfl
def zXG{as:Bj}{i:Nat}{a:Int×List MV}:a∈as.take i++as.drop (i+1)↔ ∃j,as[j]? =some a/\j≠i:=by
 rw [mem_append];constructor
 ·rintro(h|h)
  ·obtain⟨j,hj,e⟩:=List.mem_take_iff_getElem.mp h;exact⟨j,by rw [<-e];exact gE0 _,by omega⟩
  ·obtain⟨j,e⟩:=List.mem_iff_getElem?.mp h;rw [getElem?_drop]at e;exact⟨i+1+j,e,by omega⟩
 ·rintro⟨j,hj,hne⟩;by_cases h:j<i
  ·exact .inl (mem_of_getElem? (show(as.take i)[j]? =some a by rw [getElem?_take_of_lt h];exact hj))
  ·exact .inr (mem_of_getElem? (i:=j - (i+1)) (show(as.drop (i+1))[j - (i+1)]? =some a by rw [getElem?_drop,show i+1+(j - (i+1))=j by omega];exact hj))
def zSM{ts:Ac}{hs:Aa}{as:Bj}(hA: ∀a∈as,AOk ts a)(hlen:as.length<=4){i:Nat}(hi:i<as.length)(S:Sto):
  ∃ks T,zT 3 gE [.val (.tup (ts.map tbl)),.val (qM hs as),.val (.int i)] S=.ok (.val (.loc S.length)) (S++.dic (dT ks)::T)/\(∀x,x∈ks↔KnQ ts hs as i x)/\ks.Nodup:=by
 have ha:=gE0 hi;have hAi:=hA _ (getElem_mem hi);obtain⟨a,ea⟩: ∃a,a=as[i]:=⟨_,rfl⟩
 rw [<-ea]at ha hAi;obtain⟨os,eo⟩: ∃os,os=as.take i++as.drop (i+1):=⟨_,rfl⟩
 have hos: ∀c∈os, ∃j,as[j]? =some c/\j≠i:=λc hc=>zXG.mp (eo▸hc);have hol:os.length<=4:=by rw [eo,lA,lT,length_drop];omega
 have hk0: ∀x∈bX [] (kyL ts hs a),KnQ ts hs as i x:=λx hx=>by
  rw [bM]at hx;rcases hx with hx|hx
  ·simp at hx
  ·exact .key (by rw [zSJ ha];exact hx)
 obtain⟨T',ks',b',o',t,e5,h5,h6,h7,h8⟩:=zSL (hs:=hs) hi hA hlen hos hol S 100 10000 (by omega) [] (bX [] (kyL ts hs a)) (-1) none (zPS _ nodup_nil) hk0 (by have:=zIV (hs:=hs) hA;omega) (by omega);refine⟨ks',T',?_,λx=>⟨h6 x,λh=>?_⟩,h8⟩
 ·refine yDN rfl ?_;show xI (zET [some (.tup (ts.map tbl)),some (qM hs as),some (.int i),none,none,none,none,none] S)=_;have e1:zBH [some (.tup (ts.map tbl)),some (qM hs as),some (.int i),none,none,none,none,none] S=.ok (.next [some (.tup (ts.map tbl)),some (qM hs as),some (.int i),some (.tup (as.map aM)),none,none,none,none]) S:=by unfold zBH;simp? [zSE]
  have e2:zBI [some (.tup (ts.map tbl)),some (qM hs as),some (.int i),some (.tup (as.map aM)),none,none,none,none] S=.ok (.next [some (.tup (ts.map tbl)),some (qM hs as),some (.int i),some (.tup (as.map aM)),some (.tup (os.map aM)),none,none,none]) S:=by
   have hc:((i:Int)+1)=((i+1:Nat):Int):=by omega
   have hz:((as.map aM).take i).length+((as.map aM).drop (i+1)).length<=sizeLine:=fits (by rw [lT,length_drop,lM];omega);unfold zBI;simp? [zXA,zNM,hc,zNN,yGM hz];rw [eo,map_append,map_take,map_drop]
  have hkl:((kyL ts hs a).map MV.str).length<1000000:=by rw [lM];have:=yDJ (hs:=hs) hAi;omega
  have hc2:xP (gNm 0) zDD dA [none] [] ((kyL ts hs a).map MV.str) S=.ok ((kyL ts hs a).map prT) S:=
   bA (xE _) λx _=>⟨[some (.str x)],rfl,rfl,by unfold dA;simp? [tup2]⟩
  have hb2: ∀a b c d e f g h:Option MV,blk 1 [] [a,b,c,d,e,f,g,h]=[none]:=λ_ _ _ _ _ _ _ _=>rfl;have hix:ixF (.val (.tup (as.map aM))) (.val (.int i)) S=.ok (.val (aM a)) S:=ix_tup (zFZ (by rw [getElem?_map,ha];rfl));have e3:zBJ [some (.tup (ts.map tbl)),some (qM hs as),some (.int i),some (.tup (as.map aM)),some (.tup (os.map aM)),none,none,none] S=.ok (.next [some (.tup (ts.map tbl)),some (qM hs as),some (.int i),some (.tup (as.map aM)),some (.tup (os.map aM)),some (.loc S.length),none,none]) (S++[.dic (dT (bX [] (kyL ts hs a)))]):=by unfold zBJ;simp? [hix,yDH hAi,zEW,hkl,hb2,hc2,zXC]
  have e4:zBK [some (.tup (ts.map tbl)),some (qM hs as),some (.int i),some (.tup (as.map aM)),some (.tup (os.map aM)),some (.loc S.length),none,none] (S++[.dic (dT (bX [] (kyL ts hs a)))])=.ok (.next (KA ts (qM hs as) i (as.map aM) (os.map aM) S.length (-1) none)) (S++[.dic (dT (bX [] (kyL ts hs a)))]):=by unfold zBK;simp? [bok]
  unfold zET;rw [zD e1,zD e2,zD e3,zD e4,zD (show zFU _ _=_ from e5)];unfold zFV;simp? [bok];rfl
 ·refine yNB ha (λy hy=>?_) (λj c hc hne=>by rw [eo];exact zXG.mpr ⟨j,hc,hne⟩) h7 h;rw [h5,mem_append,bM];exact .inl (.inr hy)
abbrev zC(k:Nat):MV:=.int (k:Int)
def zPW{j k:Nat}(h:zC j=zC k):j=k:=by
 injection h with h
 exact Int.ofNat.inj h
def yIE{j:Nat}{rs:Ab}:zC j∈rs.map zC↔j∈rs:=⟨λh=>by obtain⟨k,hk,e⟩:=mM.mp h;rw [<-zPW e];exact hk,λh=>mM.mpr ⟨j,h,rfl⟩⟩
def zPX{n:Nat}(h:n<=1000)(S:Sto):jY [.val (.int (n:Int))] S=.ok ⟨(List.range n).map zC,[]⟩ S:=by rw [zUB (by omega),toNat_natCast]
def rD(rs:Ab):List (MV×MV):=rs.map λj=>(zC j,.bl true)
theorem zXH(rs:Ab):(rD rs).map (·.1)=rs.map zC:=by unfold rD;rw [map_map];rfl
def zXI(rs:Ab)(j:Nat):(look (rD rs) (zC j)).isSome=decide (j∈rs):=by
 by_cases h:j∈rs
 ·rw [dT0 h];unfold look;rw [Option.isSome_map,List.find?_isSome];exact⟨(zC j,.bl true),mM.mpr ⟨j,h,rfl⟩,by simp⟩
 ·rw [dF0 h]
  cases z:(look (rD rs) (zC j)).isSome with
  |false=>rfl
  |true=>
   have:=zSF z;rw [zXH]at this;exact absurd (yIE.mp this) h
theorem yNC{rs:Ab}{j:Nat}(h:j∉rs):putK (rD rs) (zC j) (.bl true)=rD (rs++[j]):=by unfold putK;rw [zXI,iN (by rw [dF0 h];exact xF0)];unfold rD;rw [map_append];rfl
theorem yDO(rs:Ab):(rD rs).all (λp=>zFO p.1)=true:=by unfold rD;rw [all_map,all_eq_true];intro x _;rfl
def yDP{S:Sto}{l:Nat}{rs:Ab}(neg:Bool)(h:S[l]? =some (.dic (rD rs)))(j:Nat):zGY neg (.val (zC j)) (.val (.loc l)) S=.ok (.val (.bl (if neg=true then !decide (j∈rs)else decide (j∈rs)))) S:=by unfold zGY;dsimp only;rw [zDR h (yDO rs)];dsimp only;rw [iP (show zFO (zC j)=true from rfl),zXI]
def zXJ{S:Sto}{l:Nat}{rs:Ab}(h:S[l]? =some (.dic (rD rs)))(hl:rs.length<1000000){j:Nat}(hj:j∉rs)(ρ:Rho):zEK (.val (.loc l)) (.val (zC j)) (.bl true) ρ S=.ok ρ (S.set l (.dic (rD (rs++[j])))):=by unfold zEK;dsimp only;rw [zDR h (yDO rs)];dsimp only;rw [iP ⟨rfl,by unfold rD;rw [lM];exact hl⟩,yNC hj]
def yDQ{S:Sto}{l:Nat}{rs:Ab}(h:S[l]? =some (.dic (rD rs))):zCW [.val (.loc l)] S=.ok (.new (rs.map zC)) S:=by unfold zCW;dsimp only;rw [zDR h (yDO rs)];dsimp only;rw [zXH]
theorem zLA{α:Type}{f:α->MV}{g:α->List MV}{gf:MV->Rho->Sto->R Rho}{cf:AZ}{ef:AX}{ρb:Rho}{S:Sto}: ∀(xs:List α),(∀x∈xs, ∀T, ∃ρ1,gf (f x) ρb (S++T)=.ok ρ1 (S++T)/\cf ρ1 (S++T)=.ok true (S++T)/\ef ρ1 (S++T)=.ok (.new (g x)) (S++T))->
  ∀T,xP gf cf ef ρb [] (xs.map f) (S++T)=.ok ((List.range' (S.length+T.length) xs.length).map MV.loc) (S++T++xs.map λx=>MO.lst (g x))
 |[],_,T=>by rw [map_nil,map_nil,aN];rfl
 |x::xs,h,T=>by obtain⟨ρ1,h1,h2,h3⟩:=h x mF0 T;have ih:=zLA (f:=f) (g:=g) (gf:=gf) (cf:=cf) (ef:=ef) (ρb:=ρb) (S:=S) xs (λy hy=>h y (mO _ hy)) (T++[.lst (g x)]);rw [map_cons];unfold xP;rw [h1,xV,bok,h2,xV,bok,iP rfl,h3,xV,bok];unfold cS;rw [bok,iP (xE _),aA,ih,bok,lA,lA,lS,lC,range'_succ,map_cons,map_cons];simp only [aA,List.singleton_append,Nat.add_assoc]
def cmB(xs ys:Aa):Bool:=xs.any λx=>decide (x∈ys)
theorem yND{S:Sto}{l m:Nat}{xs ys:Aa}(h1:S[l]? =some (.lst (xs.map MV.str)))(h2:S[m]? =some (.lst (ys.map MV.str)))(hl:xs.length<1000000):zT 2 wV [.val (.loc l),.val (.loc m)] S=.ok (.val (.bl (cmB xs ys))) S:=by
 refine yHQ rfl ?_;show xI (gF [some (.loc l),some (.loc m)] S)=_
 have hc:xP (gNm 0) bL wL [none,some (.loc m)] [(l,xs.map MV.str)] (xs.map MV.str) S=.ok (xs.map λx=>.bl (decide (x∈ys))) S:=
  bA (zJQ h1) λx _=>⟨[some (.str x),some (.loc m)],rfl,rfl,by unfold wL;simp? [zPQ false h2 (zPO x) zIU,fT,iF];rw [dec_is (zPR (x:=x) (fs:=ys))]⟩
 have hk:(xs.map MV.str).length<1000000:=by rw [lM];exact hl
 have hb: ∀a b:Option MV,blk 1 [1] [a,b]=[none,b]:=λ_ _=>rfl;unfold gF dE;simp? [zWB h1,hk,hb,hc,yHX];rfl
theorem zEX{α:Type}{f g:α->MV}{p:α->Bool}{S:Sto}{gf:MV->Rho->Sto->R Rho}{cf:AZ}{ef:AX}{ρb:Rho}{gs:Bk}(hs:stay gs S):
  ∀{ds:List α},(∀d∈ds, ∃ρ1,gf (f d) ρb S=.ok ρ1 S/\cf ρ1 S=.ok (p d) S/\ef ρ1 S=.ok (.val (g d)) S)->xP gf cf ef ρb gs (ds.map f) S=.ok ((ds.filter p).map g) S
 |[],_=>rfl
 |d::ds,st=>by
  obtain⟨ρ1,h1,h2,h3⟩:=st d mF0;have e:=zEX hs (f:=f) (g:=g) (p:=p) (ds:=ds) λd hd=>st d (mO _ hd);rw [map_cons];unfold xP
  cases hp:p d with
  |true=>
   rw [h1,xV,bok,h2,xV,bok,hp,iP rfl,h3,xV,bok];unfold cS;rw [bok,iP hs,e,List.filter_cons_of_pos hp];rfl
  |false=>
   rw [h1,xV,bok,h2,xV,bok,hp,iN xF0,iP hs,e,List.filter_cons_of_neg (by rw [hp];exact xF0)]
def zXK(K:Ab)(n:Nat):loL n (K.map zC):=cT λd hd=>by obtain⟨i,_,rfl⟩:=mM.mp hd;exact zAZ _ _
abbrev SA(ts:Ac)(q:MV)(i l0 l4 l5:Nat)(nm o:Bi):Rho:=[some (.tup (ts.map tbl)),some q,some (zC i),some (.loc l0),some (.loc l4),some (.loc l5),some (.loc (l5+1)),nm,o]
abbrev StW(B:Sto)(rs ws:Ab):Sto:=B++[.dic (rD rs),.lst (ws.map zC)]
structure UN(B:Sto)(l4 u0 n:Nat)(un:Nat->List (List Nat)):Prop where
 tab:B[l4]? =some (.lst ((List.range' u0 n).map MV.loc))
 row: ∀j,j<n->B[u0+j]? =some (.lst ((un j).map MV.str))
 len: ∀j,j<n->(un j).length<=4
def yDR(B:Sto)(rs ws:Ab):(StW B rs ws)[B.length]? =some (.dic (rD rs)):=by simp [StW]
def zSN(B:Sto)(rs ws:Ab):(StW B rs ws)[B.length+1]? =some (.lst (ws.map zC)):=by simp [StW]
def yNE(B:Sto)(rs ws rs':Ab):(StW B rs ws).set B.length (.dic (rD rs'))=StW B rs' ws:=by simp [StW]
def yDS(B:Sto)(rs ws ws':Ab):(StW B rs ws).set (B.length+1) (.lst (ws'.map zC))=StW B rs ws':=by simp [StW]
def zXL{B:Sto}{k:Nat}{o:MO}(h:B[k]? =some o)(rs ws:Ab):(StW B rs ws)[k]? =some o:=by show(B++_)[k]? =_;rw [getElem?_append_left (gS0.mp h).1];exact h
def yDT{B:Sto}{l4 u0 n:Nat}{un:Nat->List (List Nat)}(U:UN B l4 u0 n un){j:Nat}(hj:j<n)(rs ws:Ab):ixF (.val (.loc l4)) (.val (zC j)) (StW B rs ws)=.ok (.val (.loc (u0+j))) (StW B rs ws):=
 zGS (zXL U.tab rs ws) (zFZ (by rw [getElem?_map,List.getElem?_range' hj,Nat.one_mul];rfl))
def yIF{ts:Ac}{q:MV}{i l0 l4 u0 n:Nat}{B:Sto}{un:Nat->List (List Nat)}(U:UN B l4 u0 n un){w j:Nat}(hw:w<n)(hj:j<n){rs ws:Ab}(hr:rs.length<1000)(hws:ws.length<1000):
  kM (SA ts q i l0 l4 B.length (some (.loc (u0+w))) (some (zC j))) (StW B rs ws)=.ok (.next (SA ts q i l0 l4 B.length (some (.loc (u0+w))) (some (zC j)))) (if j∉rs/\cmB (un w) (un j)=true then StW B (rs++[j]) (ws++[j])else StW B rs ws):=by
 have hin:=yDP true (yDR B rs ws) j;rw [iP rfl]at hin;unfold kM nW;by_cases hm:j∈rs
 ·rw [dT0 hm]at hin;rw [iN λz=>z.1 hm];simp? [hin,Bool.not_true,fT,iF]
 ·rw [dF0 hm]at hin;have hc:=yND (zXL (U.row w hw) rs ws) (zXL (U.row j hj) rs ws) (by have:=U.len w hw;omega);by_cases hcm:cmB (un w) (un j)=true
  ·rw [iP ⟨hm,hcm⟩];have e1:(EJ (kJ (.bl true)) (DJ zEK (vJ 5) (vJ 8))) (SA ts q i l0 l4 B.length (some (.loc (u0+w))) (some (zC j))) (StW B rs ws)=.ok (.next (SA ts q i l0 l4 B.length (some (.loc (u0+w))) (some (zC j)))) (StW B (rs++[j]) ws):=by simp? [zEH,zXJ (yDR B rs ws) (show rs.length<1000000 by omega) hm,yNE]
   have e2:(BJ (eJ kU zFK (vJ 6) (yJ (vJ 8) wJ))) (SA ts q i l0 l4 B.length (some (.loc (u0+w))) (some (zC j))) (StW B (rs++[j]) ws)=.ok (.next (SA ts q i l0 l4 B.length (some (.loc (u0+w))) (some (zC j)))) (StW B (rs++[j]) (ws++[j])):=by simp? [kP (zSN B (rs++[j]) ws),bI (zSN B (rs++[j]) ws) (show(ws.map zC).length<1000000 by rw [lM];omega)];rw [show ws.map zC++[.int (j:Int)]=(ws++[j]).map zC by rw [map_append];rfl,yDS]
   simp? [hin,Bool.not_false,yDT U hj,hc,hcm];rw [zD e1,e2]
  ·rw [iN λz=>hcm z.2];simp? [hin,Bool.not_false,yDT U hj,hc,hcm,fT,iF]
theorem zUW{ts:Ac}{q:MV}{i l0 l4 u0 n:Nat}{B:Sto}{un:Nat->List (List Nat)}(U:UN B l4 u0 n un){w:Nat}(hw:w<n): ∀(js:Ab),(∀j∈js,j<n)-> ∀(rs ws:Ab)(o:Bi),rs.length+js.length<1000->ws.length+js.length<1000->
  ∃t o',kY (gNm 8) kM [] (js.map zC) (SA ts q i l0 l4 B.length (some (.loc (u0+w))) o) (StW B rs ws)=.ok (.next (SA ts q i l0 l4 B.length (some (.loc (u0+w))) o')) (StW B (rs++t) (ws++t))/\(rs.Nodup->(rs++t).Nodup)/\(∀k∈t,k<n/\cmB (un w) (un k)=true)/\ ∀k∈js,cmB (un w) (un k)=true->k∈rs++t
 |[],_,rs,ws,o,_,_=>⟨[],o,by rw [aN,aN];rfl,λh=>by rw [aN];exact h,λk hk=>by simp at hk,λk hk=>by simp at hk⟩
 |j::js,hjs,rs,ws,o,h1,h2=>by
  rw [lC]at h1 h2;have hj:=hjs j mF0;have hjs': ∀k∈js,k<n:=λk hk=>hjs k (mO _ hk);have e:=yIF (ts:=ts) (q:=q) (i:=i) (l0:=l0) U hw hj (rs:=rs) (ws:=ws) (by omega) (by omega);by_cases hm:j∉rs/\cmB (un w) (un j)=true
  ·rw [iP hm]at e;obtain⟨t,o',e',h3,h4,h5⟩:=zUW (ts:=ts) (q:=q) (i:=i) (l0:=l0) U hw js hjs' (rs++[j]) (ws++[j]) (some (zC j)) (by rw [lA,lS];omega) (by rw [lA,lS];omega);refine⟨j::t,o',?_,λhn=>?_,λk hk=>?_,λk hk hc=>?_⟩
   ·rw [map_cons,yB (ρ0:=SA ts q i l0 l4 B.length (some (.loc (u0+w))) (some (zC j))) rfl e (xE _),e',aA,aA];rfl
   ·have:=h3 (nodup_append.mpr ⟨hn,by simp,λa ha b hb=>by rw [mS.mp hb];rintro rfl;exact hm.1 ha⟩);rw [aA]at this;exact this
   ·rcases mC.mp hk with rfl|hk
    ·exact⟨hj,hm.2⟩
    ·exact h4 k hk
   ·rcases mC.mp hk with rfl|hk
    ·exact mem_append.mpr (.inr mF0)
    ·have:=h5 k hk hc;rw [aA]at this;exact this
  ·rw [iN hm]at e;obtain⟨t,o',e',h3,h4,h5⟩:=zUW (ts:=ts) (q:=q) (i:=i) (l0:=l0) U hw js hjs' rs ws (some (zC j)) (by omega) (by omega);refine⟨t,o',?_,h3,h4,λk hk hc=>?_⟩
   ·rw [map_cons,yB (ρ0:=SA ts q i l0 l4 B.length (some (.loc (u0+w))) (some (zC j))) rfl e (xE _),e']
   ·rcases mC.mp hk with rfl|hk
    ·exact mem_append.mpr (.inl (Classical.byContradiction λz=>hm ⟨z,hc⟩))
    ·exact h5 k hk hc
def yIG{S:Sto}{l:Nat}{ds:Bh}{d:MV}(h:S[l]? =some (.lst (ds++[d]))):zKC (.val (.loc l)) [] S=.ok (.val d) (S.set l (.lst ds)):=by
 unfold zKC;dsimp only;rw [h];dsimp only;have e1:(ds++[d])[(ds++[d]).length - 1]? =some d:=by simp
 have e2:(ds++[d]).eraseIdx ((ds++[d]).length - 1)=ds:=by rw [lA,lS,Nat.add_sub_cancel,List.eraseIdx_append_of_length_le (le_refl _),sub_self];exact aN _
 rw [e1,e2]
def yIH{ts:Ac}{q:MV}{i l0 l4 u0 n:Nat}{B:Sto}{un:Nat->List (List Nat)}(U:UN B l4 u0 n un)(hn:n<=4){w:Nat}(hw:w<n){rs ws:Ab}(hr:rs.length<=100)(hws:ws.length<=100)(nm o:Bi):
  ∃t o',kN (SA ts q i l0 l4 B.length nm o) (StW B rs (ws++[w]))=.ok (.next (SA ts q i l0 l4 B.length (some (.loc (u0+w))) o')) (StW B (rs++t) (ws++t))/\(rs.Nodup->(rs++t).Nodup)/\(∀k∈t,k<n/\cmB (un w) (un k)=true)/\ ∀k,k<n->cmB (un w) (un k)=true->k∈rs++t:=by
 obtain⟨t,o',e,h3,h4,h5⟩:=zUW (ts:=ts) (q:=q) (i:=i) (l0:=l0) U hw (List.range n) (λj hj=>mem_range.mp hj) rs ws o (by rw [length_range];omega) (by rw [length_range];omega);refine⟨t,o',?_,h3,h4,λk hk=>h5 k (mem_range.mpr hk)⟩;have hp:zKC (.val (.loc (B.length+1))) [] (StW B rs (ws++[w]))=.ok (.val (zC w)) (StW B rs ws):=by rw [yIG (ds:=ws.map zC) (d:=zC w) (by rw [zSN,map_append];rfl),yDS]
 have e1:jI (SA ts q i l0 l4 B.length nm o) (StW B rs (ws++[w]))=.ok (.next (SA ts q i l0 l4 B.length (some (.loc (u0+w))) o)) (StW B rs ws):=by unfold jI;simp? [kP (zSN B rs (ws++[w])),hp,yDT U hw]
 unfold kN;rw [zD e1];unfold nX;have hl:=zVZ (zXL U.tab rs ws);rw [lM,List.length_range']at hl;simp? [hl,zPX (n:=n) (by omega)];exact e
def yII{S:Sto}{l:Nat}{ds:Bh}(h:S[l]? =some (.lst ds)):zLN (.val (.loc l)) S=.ok (!ds.isEmpty) S:=by unfold zLN;dsimp only;rw [h]
theorem zSO{ts:Ac}{q:MV}{i l0 l4 u0 n:Nat}{B:Sto}{un:Nat->List (List Nat)}(U:UN B l4 u0 n un)(hn4:n<=4){P:Nat->Prop}(hP: ∀r k,P r->k<n->cmB (un r) (un k)=true->P k): ∀(m f:Nat),m<f-> ∀(rs ws:Ab)(nm o:Bi),n - rs.length+ws.length<=m->ws.length<=rs.length->rs.Nodup->(∀r∈rs,r<n/\P r)->(∀r∈ws,r∈rs)->(∀r∈rs,r∉ws-> ∀k,k<n->cmB (un r) (un k)=true->k∈rs)->
  ∃rs' nm' o',xH xT kN f (SA ts q i l0 l4 B.length nm o) (StW B rs ws)=.ok (.next (SA ts q i l0 l4 B.length nm' o')) (StW B rs' [])/\(∀r∈rs,r∈rs')/\rs'.Nodup/\(∀r∈rs',r<n/\P r)/\ ∀r∈rs', ∀k,k<n->cmB (un r) (un k)=true->k∈rs'
 |m,f,hf,rs,ws,nm,o,hm,hwl,hnd,hr,hw,hc=>by
  obtain⟨f,rfl⟩: ∃g,f=g+1:=⟨f - 1,by omega⟩
  have ht:xT (SA ts q i l0 l4 B.length nm o) (StW B rs ws)=.ok (!(ws.map zC).isEmpty) (StW B rs ws):=by unfold xT;simp? [yII (zSN B rs ws)]
  have hrl:rs.length<=n:=by have:=zBU hnd λx hx=>mem_range.mpr (hr x hx).1;rw [length_range]at this;exact this
  rcases List.eq_nil_or_concat ws with rfl|⟨ws,w,rfl⟩
  ·exact⟨rs,nm,o,cO ht,λr h=>h,hnd,hr,λr h=>hc r h (by simp)⟩
  ·rw [List.concat_eq_append]at *;have ht':xT (SA ts q i l0 l4 B.length nm o) (StW B rs (ws++[w]))=.ok true (StW B rs (ws++[w])):=by rw [ht];simp
   rw [lA,lS]at hm hwl;have hww:w∈rs:=hw w (mem_append.mpr (.inr mF0));have hwn:=hr w hww;obtain⟨t,o',e,h3,h4,h5⟩:=yIH (ts:=ts) (q:=q) (i:=i) (l0:=l0) U hn4 hwn.1 (rs:=rs) (ws:=ws) (by omega) (by omega) nm o;have hnd':=h3 hnd
   have hr': ∀r∈rs++t,r<n/\P r:=λr h=>by
    rcases mem_append.mp h with h|h
    ·exact hr r h
    ·exact⟨(h4 r h).1,hP w r hwn.2 (h4 r h).1 (h4 r h).2⟩
   have hrl':(rs++t).length<=n:=by have:=zBU hnd' λx hx=>mem_range.mpr (hr' x hx).1;rw [length_range]at this;exact this
   rw [lA]at hrl';have hlt:m - 1<m:=by omega
   obtain⟨rs',nm',o'',e2,g1,g2,g3,g4⟩:=zSO (ts:=ts) (q:=q) (i:=i) (l0:=l0) U hn4 hP (m - 1) f (by omega) (rs++t) (ws++t) (some (.loc (u0+w))) o' (by rw [lA,lA];omega) (by rw [lA,lA];omega) hnd' hr' (λr h=>by
    rcases mem_append.mp h with h|h
    ·exact mem_append.mpr (.inl (hw r (mem_append.mpr (.inl h))))
    ·exact mem_append.mpr (.inr h)) (λr h hn k hk hcm=>by
    rcases mem_append.mp h with h|h
    ·by_cases e:r=w
     ·subst e;exact h5 k hk hcm
     ·exact mem_append.mpr (.inl (hc r h (λz=>by
       rcases mem_append.mp z with z|z
       ·exact hn (mem_append.mpr (.inl z))
       ·exact e (mS.mp z)) k hk hcm))
    ·exact absurd (mem_append.mpr (.inr h)) hn)
   refine⟨rs',nm',o'',?_,λr h=>g1 r (mem_append.mpr (.inl h)),g2,g3,g4⟩;rw [cU ht' e];exact e2
 termination_by m=>m
abbrev RcQ(ts:Ac)(hs:Aa)(as:Bj):Nat->Nat->Prop:=Rc (Kq ts hs as) (Fq hs as) as.length
def unL(hs ks:Aa)(as:Bj)(j:Nat):List (List Nat):=(Fq hs as j).filter λx=>!decide (x∈ks)
def yDU{ts:Ac}{hs ks:Aa}{as:Bj}{i:Nat}(hk: ∀x,x∈ks↔KnQ ts hs as i x)(r k:Nat):cmB (unL hs ks as r) (unL hs ks as k)=true↔ ∃x,x∈Fq hs as r/\x∈Fq hs as k/\ ¬KnQ ts hs as i x:=by
 unfold cmB;rw [any_eq_true];constructor
 ·rintro⟨x,h1,h2⟩;have h2:=of_decide_eq_true h2;unfold unL at h1 h2;rw [mem_filter]at h1 h2;exact⟨x,h1.1,h2.1,λz=>by have:=h1.2;rw [dT0 ((hk x).mpr z)]at this;cases this⟩
 ·rintro⟨x,h1,h2,h3⟩;have e:(!decide (x∈ks))=true:=by rw [dF0 λz=>h3 ((hk x).mp z)];rfl
  exact⟨x,mem_filter.mpr ⟨h1,e⟩,dT0 (mem_filter.mpr ⟨h2,e⟩)⟩
def yJL{ts:Ac}{hs:Aa}{as:Bj}{i j:Nat}(hi:i<as.length)(h:RcQ ts hs as i j):j<as.length:=by
 cases h with
 |self=>exact hi
 |step j k _ hk _ _ _=>exact hk
theorem yIJ(S:Sto)(i:Nat):zRQ S.length (.val (zC i)) (.val (.bl true)) (S++[.dic []])=.ok (.val (.loc S.length)) (S++[.dic (rD [i])]):=by unfold zRQ;dsimp only;rw [iP ⟨rfl,zO _ _⟩,wA];rfl
def zZO{ts:Ac}{hs:Aa}{as:Bj}(hA: ∀a∈as,AOk ts a)(hlen:as.length<=4){i:Nat}(hi:i<as.length)(S:Sto):
  ∃rs:List Nat,zT 3 bG [.val (.tup (ts.map tbl)),.val (qM hs as),.val (zC i)] S=.ok (.new (rs.map zC)) S/\rs.Nodup/\ ∀j,j∈rs↔RcQ ts hs as i j:=by
 obtain⟨ks,T,e1,hk,_⟩:=zSM (hs:=hs) hA hlen hi S;obtain⟨S1,hS1⟩: ∃S1:Sto,S1=S++.dic (dT ks)::T:=⟨_,rfl⟩
 have hat: ∀U:Sto,(S1++U)[S.length]? =some (.dic (dT ks)):=λU=>by rw [hS1,aA];exact zHO _ _ _
 have hin: ∀a∈as, ∀U:Sto, ∃ρ1,gNm 0 (aM a) [none,some (qM hs as),some (.loc S.length)] (S1++U)=.ok ρ1 (S1++U)/\nV ρ1 (S1++U)=.ok true (S1++U)/\jH ρ1 (S1++U)=.ok (.new (((frL hs a).filter λx=>!decide (x∈ks)).map MV.str)) (S1++U):=λa ha U=>by
  have hAa:=hA a ha;refine⟨[some (aM a),some (qM hs as),some (.loc S.length)],rfl,rfl,?_⟩
  have hc:xP (gNm 0) jG nU [none,some (.loc S.length)] [] ((frL hs a).map MV.str) (S1++U)=.ok (((frL hs a).filter λx=>!decide (x∈ks)).map MV.str) (S1++U):=
   zEX (xE _) λx _=>⟨[some (.str x),some (.loc S.length)],rfl,by unfold jG;simp? [yDG true (hat U) x],rfl⟩
  have hl:((frL hs a).map MV.str).length<1000000:=by rw [lM];have:=zHN (hs:=hs) hAa;omega
  have hb: ∀a b c:Option MV,blk 1 [2] [a,b,c]=[none,c]:=λ_ _ _=>rfl;unfold jH;simp? [yJK hAa,zEW,hl,hb,hc]
 have hcl:=zLA (f:=aM) (g:=λa=>((frL hs a).filter λx=>!decide (x∈ks)).map MV.str) as hin [];rw [aN,length_nil,Nat.add_zero]at hcl;obtain⟨B,hB⟩: ∃B:Sto,B=S1++(as.map λa=>MO.lst (((frL hs a).filter λx=>!decide (x∈ks)).map MV.str))++[.lst ((List.range' S1.length as.length).map MV.loc)]:=⟨_,rfl⟩
 have U:UN B (S1.length+as.length) S1.length as.length (unL hs ks as):=by
  refine⟨?_,λj hj=>?_,λj hj=>?_⟩
  ·rw [hB,getElem?_append_right (by rw [lA,lM];exact le_refl _),lA,lM,sub_self];rfl
  ·rw [hB,aA,getElem?_append_right (by omega),Nat.add_sub_cancel_left,getElem?_append_left (by rw [lM];exact hj),getElem?_map,gE0 hj];unfold unL;rw [zNO (gE0 hj)];rfl
  ·unfold unL;rw [zNO (gE0 hj)];have h1:=List.length_filter_le (λx=>!decide (x∈ks)) (frL hs as[j]);have h2:=zHN (hs:=hs) (hA _ (getElem_mem hj));omega
 obtain⟨rs,nm',o',e5,g1,g2,g3,g4⟩:=zSO (ts:=ts) (q:=qM hs as) (i:=i) (l0:=S.length) U hlen (P:=RcQ ts hs as i) (λr k hr hkl hc=>by
  obtain⟨x,h1,h2,h3⟩:=(yDU hk r k).mp hc;exact .step r k hr hkl h1 h2 h3) 10 10000 (by omega) [i] [i] none none (by rw [lS];omega) (le_refl _) (by simp) (λr hr=>by
  rw [mS.mp hr];exact⟨hi,.self⟩) (λr h=>h) (λr h hn=>absurd h hn)
 refine⟨rs,?_,g2,λj=>⟨λh=>(g3 j h).2,λh=>?_⟩⟩
 ·have hBS: ∃V,StW B rs []=S++V:=⟨_,by rw [show StW B rs []=B++[.dic (rD rs),.lst []]from rfl,hB,hS1];simp only [aA];rfl⟩
  obtain⟨V,hV⟩:=hBS;refine jE (T:=V) rfl ?_ (zXK _ _);show xI (zAI [some (.tup (ts.map tbl)),some (qM hs as),some (zC i),none,none,none,none,none,none] S)=_;have f1:bR [some (.tup (ts.map tbl)),some (qM hs as),some (zC i),none,none,none,none,none,none] S=.ok (.next [some (.tup (ts.map tbl)),some (qM hs as),some (zC i),some (.loc S.length),none,none,none,none,none]) S1:=by unfold bR;simp? [e1];rw [hS1]
  have hb: ∀a b c d e f g h i:Option MV,blk 1 [1,3] [a,b,c,d,e,f,g,h,i]=[none,b,d]:=λ_ _ _ _ _ _ _ _ _=>rfl;have hl:(as.map aM).length<1000000:=by rw [lM];omega
  have f2:bS [some (.tup (ts.map tbl)),some (qM hs as),some (zC i),some (.loc S.length),none,none,none,none,none] S1=.ok (.next [some (.tup (ts.map tbl)),some (qM hs as),some (zC i),some (.loc S.length),some (.loc (S1.length+as.length)),none,none,none,none]) B:=by unfold bS;simp? [zSE,zUU,hl,hb,hcl];rw [hB,lA,lM]
  have f3:bT [some (.tup (ts.map tbl)),some (qM hs as),some (zC i),some (.loc S.length),some (.loc (S1.length+as.length)),none,none,none,none] B=.ok (.next [some (.tup (ts.map tbl)),some (qM hs as),some (zC i),some (.loc S.length),some (.loc (S1.length+as.length)),some (.loc B.length),none,none,none]) (B++[.dic (rD [i])]):=by unfold bT;simp? [d1J,yIJ]
  have f4:bU [some (.tup (ts.map tbl)),some (qM hs as),some (zC i),some (.loc S.length),some (.loc (S1.length+as.length)),some (.loc B.length),none,none,none] (B++[.dic (rD [i])])=.ok (.next (SA ts (qM hs as) i S.length (S1.length+as.length) B.length none none)) (StW B [i] [i]):=by unfold bU;simp? [lst1];rw [lA,aA];rfl
  unfold zAI;rw [zD f1,zD f2,zD f3,zD f4,zD (show zCG _ _=_ from e5)];unfold zCH;simp? [yDQ (yDR B rs [])];rw [hV];rfl
 ·induction h with
  |self=>exact g1 i mF0
  |@step x j k hj hkn h1 h2 h3 ih=>exact g4 j ih k hkn ((yDU hk j k).mpr ⟨x,h1,h2,h3⟩)
abbrev Pr:=Nat×Nat
def prM(p:Pr):MV:=.tup [zC p.1,zC p.2]
def yIK{p q:Pr}(h:prM p=prM q):p=q:=by
 unfold prM at h;injection h with h
 injection h with h1 h
 injection h with h2 _
 exact Prod.ext (zPW h1) (zPW h2)
def yNF{p:Pr}{T:List Pr}:prM p∈T.map prM↔p∈T:=⟨λh=>by obtain⟨q,hq,e⟩:=mM.mp h;rw [<-yIK e];exact hq,λh=>mM.mpr ⟨p,h,rfl⟩⟩
def zXM(T:List Pr): ∀y∈T.map prM,pd y=true/\dpt y<40:=λy hy=>by obtain⟨p,_,rfl⟩:=mM.mp hy;unfold prM;exact⟨by rw [zUT,zFY,zFY,yHO,yDA,yDA];rfl,by rw [zWW,zHL,zHL,yCZ,zWX,zWX];decide⟩
def pr_lo(T:List Pr)(n:Nat):loL n (T.map prM):=cT λd hd=>yJJ (zXM T d hd).1
def pLt(a b:Pr):Bool:=decide (a.1<b.1\/a.1=b.1/\a.2<b.2)
theorem zIF{α:Type}{le:α->α->Prop}: ∀{l1 l2:List α},l1.Perm l2->l1.Pairwise le->l2.Pairwise le->(∀a∈l1, ∀b∈l1,le a b->le b a->a=b)->l1=l2
 |[],l2,p,_,_,_=>p.nil_eq
 |a::l1,[],p,_,_,_=>by have:=p.length_eq;simp at this
 |a::l1,b::l2,p,h1,h2,u=>by
  have c1:=pairwise_cons.mp h1;have c2:=pairwise_cons.mp h2
  have e:a=b:=by
   rcases mC.mp (p.mem_iff.mp (mF0 (a:=a) (l:=l1)))with e|m2
   ·exact e
   ·rcases mC.mp (p.mem_iff.mpr (mF0 (a:=b) (l:=l2)))with e|m1
    ·exact e.symm
    ·exact u a mF0 b (mO _ m1) (c1.1 b m1) (c2.1 a m2)
  subst e;rw [zIF (p.cons_inv) c1.2 c2.2 λx hx y hy=>u x (mO _ hx) y (mO _ hy)]
def zLB{β:Type}(T:List β):(List.range T.length).filterMap (T[·]?)=T:=by
 induction T with
 |nil=>rfl
 |cons t T ih=>
  rw [lC,List.range_succ_eq_map,filterMap_cons,List.filterMap_map];show t::List.filterMap (λi=>(t::T)[i+1]?) (List.range T.length)=_;simp only [List.getElem?_cons_succ];rw [ih]
def zLC(S:Sto)(a b:Pr):ltv S zM (prM a) (prM b)=some (pLt a b):=by
 have e:zM=38+1+1:=rfl;rw [e];show((eqv S (38+1) (zC a.1) (zC b.1)).bind λz=>if z=true then((eqv S (38+1) (zC a.2) (zC b.2)).bind λz=>if z=true then some false else ltv S (38+1) (zC a.2) (zC b.2))else ltv S (38+1) (zC a.1) (zC b.1))=_;rw [show eqv S (38+1) (zC a.1) (zC b.1)=some (decide ((a.1:Int)=b.1))from zEB 38 a.1 b.1,show eqv S (38+1) (zC a.2) (zC b.2)=some (decide ((a.2:Int)=b.2))from zEB 38 a.2 b.2];show(if decide ((a.1:Int)=b.1)=true then(if decide ((a.2:Int)=b.2)=true then some false else some (decide ((a.2:Int)<b.2)))else some (decide ((a.1:Int)<b.1)))=_;unfold pLt;split
 ·rename_i h;have h:=of_decide_eq_true h;split
  ·rename_i h2;have h2:=of_decide_eq_true h2;rw [dF0 (by omega)]
  ·exact congrArg some (dec_is (by omega))
 ·rename_i h;have h: ¬(a.1:Int)=b.1:=λz=>h (dT0 z);exact congrArg some (dec_is (by omega))
def zIG{a b:Pr}:pLt a b=false↔ ¬(a.1<b.1\/a.1=b.1/\a.2<b.2):=by unfold pLt;exact decide_eq_false_iff_not
def zNP{a b:Pr}:pLt a b=true↔(a.1<b.1\/a.1=b.1/\a.2<b.2):=by unfold pLt;exact decide_eq_true_iff
def zXN{T R:List Pr}(pR:R.Perm T)(qR:R.Pairwise (λa b=>pLt b a=false))(hl:T.length<64){p:Er}{S:Sto}(hp:kG S p=some (T.map prM)):zJY [p] S=.ok (.new (R.map prM)) S:=by
 cases hT:T with
 |nil=>
  subst hT;have e:R=[]:=pR.eq_nil;subst e;refine zWM hp ⟨by simp,λd hd=>by simp at hd,λd hd=>by simp at hd,⟨λa ha=>by simp at ha,λa ha=>by simp at ha,λa ha=>by simp at ha⟩⟩ (λr' h=>?_) ⟨[],by simp,.nil,rfl⟩;obtain⟨idx,ip,_,rfl⟩:=h;have:=ip.length_eq;have e2:idx=[]:=List.eq_nil_of_length_eq_zero (by simpa using this);rw [e2];rfl
 |cons t0 T0=>
 have mem: ∀k∈T.map prM, ∃t,k=prM t:=λk hk=>by obtain⟨t,_,h2⟩:=mM.mp hk;exact⟨t,h2.symm⟩
 have ok:SrtJ S (T.map prM):=by
  refine⟨by rw [lM];exact hl,λd hd=>?_,λd hd=>?_,⟨λa ha b hb=>?_,λa ha b hb c hc h1 h2=>?_,λa ha b hb h1=>?_⟩⟩
  ·obtain⟨t,rfl⟩:=mem d hd;simp [prM,zCF,zMU]
  ·obtain⟨t,rfl⟩:=mem d hd;exact⟨_,_,rfl⟩
  ·obtain⟨t,rfl⟩:=mem a ha;obtain⟨u,rfl⟩:=mem b hb;exact⟨_,zLC S t u⟩
  ·obtain⟨t,rfl⟩:=mem a ha;obtain⟨u,rfl⟩:=mem b hb;obtain⟨v,rfl⟩:=mem c hc;rw [zLC]at h1 h2 ⊢;have h1:=zIG.mp (Option.some.inj h1);have h2:=zIG.mp (Option.some.inj h2);rw [zIG.mpr (by omega)]
  ·obtain⟨t,rfl⟩:=mem a ha;obtain⟨u,rfl⟩:=mem b hb;rw [zLC]at h1 ⊢;have h1:=zNP.mp (Option.some.inj h1);rw [zIG.mpr (by omega)]
 refine zWM hp ok (λr' h=>?_) ?_
 ·obtain⟨idx,p',q',rfl⟩:=h;rw [lM]at p';have e1:(idx.filterMap (T[·]?)).Perm T:=by have:=p'.filterMap (T[·]?);rwa [zLB]at this
  have e2:(idx.filterMap (T[·]?)).Pairwise (λa b=>pLt b a=false):=by rw [List.pairwise_filterMap];refine q'.imp λ{i j} h b hb c hc=>?_;have h':=h (prM b) (prM c) (by rw [getElem?_map,hb];rfl) (by rw [getElem?_map,hc];rfl);rw [zLC]at h';exact Option.some.inj h'
  have e3:idx.filterMap ((T.map prM)[·]?)=(idx.filterMap (T[·]?)).map prM:=by rw [List.map_filterMap];congr 1;funext i;rw [getElem?_map]
  rw [e3,zIF (e1.trans pR.symm) e2 qR λa _ b _ h1 h2=>by have h1:=zIG.mp h1;have h2:=zIG.mp h2;exact Prod.ext (by omega) (by omega)]
 ·have g:(List.range T.length).map (λi=>(T[i]?).getD t0)=T:=by rw [zJT λi hi=>mem_range.mp hi,zLB]
  obtain⟨idx,ip,ie⟩:=zMV pR.symm (List.range T.length) g;have ib: ∀i,i∈idx->i<T.length:=λi hi=>mem_range.mp (ip.mem_iff.mp hi);refine⟨idx,by rw [lM];exact ip,?_,?_⟩
  ·rw [<-ie,pairwise_map]at qR;refine List.Pairwise.imp_of_mem (λ{i j} hi hj h a c ha hc=>?_) qR;have zi:T[i]? =some (T[i]'(ib i hi)):=gE0 _;have zj:T[j]? =some (T[j]'(ib j hj)):=gE0 _;rw [getElem?_map,zi]at ha;rw [getElem?_map,zj]at hc;cases ha;cases hc;rw [zi,zj]at h;rw [zLC];exact congrArg some h
  ·have e2:idx.map (λi=>(T[i]?).getD t0)=idx.filterMap (T[·]?):=zJT ib;rw [<-ie,e2,List.map_filterMap];congr 1;funext i;rw [getElem?_map]
theorem yIL(ds:Bh)(S:Sto):itE [.val (.tup ds)] S=.ok ⟨zRD ds,[]⟩ S:=rfl
abbrev CT(q:MV)(l:Nat)(p a:Bi):Rho:=[some q,some (.loc l),p,a]
theorem yDV{q:MV}(S:Sto): ∀(as:Bj)(k:Nat)(rs:Ab)(p a:Bi),rs.length+as.length<1000->(∀a∈as,0<=a.1)->(rs++as.map λa=>a.1.toNat).Nodup->
  ∃p' a' rs',kY (gTp 2 (gB (gNm 2) (gB (gNm 3) zJG))) wD [] (((as.map aM).zipIdx k).map λp=>.tup [.int (p.2:Nat),p.1]) (CT q S.length p a) (S++[.dic (rD rs)])=.ok (.next (CT q S.length p' a')) (S++[.dic (rD rs')])
 |[],k,rs,p,a,_,_,_=>⟨p,a,rs,rfl⟩
 |c::as,k,rs,p,a,hl,h0,hn=>by
  rw [lC]at hl;have hc0:=h0 c mF0;have hci:zC c.1.toNat=.int c.1:=by rw [show zC c.1.toNat=.int ((c.1.toNat:Nat):Int)from rfl,Int.toNat_of_nonneg hc0]
  rw [map_cons]at hn;have hnot:c.1.toNat∉rs:=λz=>(nodup_append.mp hn).2.2 _ z _ mF0 rfl;obtain⟨p',a',rs',ih⟩:=yDV (q:=q) S as (k+1) (rs++[c.1.toNat]) (some (.int (k:Nat))) (some (aM c)) (by rw [lA,lS];omega) (λb hb=>h0 b (mO _ hb)) (by rw [aA];exact hn);refine⟨p',a',rs',?_⟩;have hin:=yDP false (zO S (.dic (rD rs))) c.1.toNat;rw [dF0 hnot,iN xF0,hci]at hin;have hst:=λρ=>zXJ (zO S (.dic (rD rs))) (show rs.length<1000000 by omega) hnot ρ;rw [hci]at hst;have hix: ∀S:Sto,ixF (.val (aM c)) (.val (.int 0)) S=.ok (.val (.int c.1)) S:=λ_=>rfl;have e1:xR (CT q S.length (some (.int (k:Nat))) (some (aM c))) (S++[.dic (rD rs)])=.ok (.next (CT q S.length (some (.int (k:Nat))) (some (aM c)))) (S++[.dic (rD rs)]):=by unfold xR;simp? [hix,hin,fT,iF]
  have e2:xS (CT q S.length (some (.int (k:Nat))) (some (aM c))) (S++[.dic (rD rs)])=.ok (.next (CT q S.length (some (.int (k:Nat))) (some (aM c)))) (S++[.dic (rD (rs++[c.1.toNat]))]):=by unfold xS;simp? [hix,zEH,hst,wA]
  rw [map_cons,zipIdx_cons,map_cons,yB (ρ0:=CT q S.length (some (.int (k:Nat))) (some (aM c))) (S0:=S++[.dic (rD rs)]) rfl (by unfold wD;rw [zD e1];exact e2) (xE _)];exact ih
theorem zXO{hs:Aa}{as:Bj}(hl:as.length<=4)(h0: ∀a∈as,0<=a.1)(hn:(as.map λa=>a.1.toNat).Nodup)(S:Sto):zT 1 yG [.val (qM hs as)] S=.ok (.val .non) S:=by
 obtain⟨p',a',rs',e⟩:=yDV (q:=qM hs as) S as 0 [] none none (by rw [length_nil];omega) h0 hn;refine zJP (T:=[.dic (rD rs')]) rfl ?_ (zTY _) (λl=>by simp);show xI (wZ [some (qM hs as),none,none,none] S)=_;have e1:wE [some (qM hs as),none,none,none] S=.ok (.next (CT (qM hs as) S.length none none)) (S++[.dic (rD [])]):=by unfold wE;simp? [zWC];rfl
 unfold wZ;rw [zD e1];unfold hW;simp? [zSE,yIL,zRD];rw [show(List.map (λp=>MV.tup [.int (p.2:Nat),p.1]) (List.map aM as).zipIdx)=(((as.map aM).zipIdx 0).map λp=>.tup [.int (p.2:Nat),p.1])from rfl,e];rfl
structure QOk(ts:Ac)(as:Bj):Prop where
 at': ∀a∈as,AOk ts a
 len:as.length<=4
 pos: ∀a∈as,0<=a.1
 nd:(as.map λa=>a.1.toNat).Nodup
 ne:1<=as.length
open Classical in
def PR(R:Nat->Nat->Prop)(n:Nat):List Pr:=(List.range n).flatMap λa=>((List.range n).filter λb=>decide (b≠a/\R a b)).map λb=>(a,b)
open Classical in
def zPY{R:Nat->Nat->Prop}{n:Nat}{p:Pr}:p∈PR R n↔p.1<n/\p.2<n/\p.2≠p.1/\R p.1 p.2:=by
 unfold PR;rw [mem_flatMap];constructor
 ·rintro⟨a,ha,h⟩;obtain⟨b,hb,rfl⟩:=mM.mp h;rw [mem_filter]at hb;exact⟨mem_range.mp ha,mem_range.mp hb.1,of_decide_eq_true hb.2⟩
 ·rintro⟨h1,h2,h3⟩;exact⟨p.1,mem_range.mpr h1,mM.mpr ⟨p.2,mem_filter.mpr ⟨mem_range.mpr h2,dT0 h3⟩,rfl⟩⟩
def yDW(R:Nat->Nat->Prop)(n:Nat):(PR R n).Pairwise (λa b=>pLt a b=true):=by
 unfold PR;rw [List.pairwise_flatMap];refine⟨λa _=>?_,?_⟩
 ·rw [pairwise_map];refine List.Pairwise.imp ?_ (List.Pairwise.filter _ List.pairwise_lt_range);intro x y h;exact zNP.mpr (.inr ⟨rfl,h⟩)
 ·refine List.pairwise_lt_range.imp λ{a b} h x hx y hy=>?_;obtain⟨_,_,rfl⟩:=mM.mp hx;obtain⟨_,_,rfl⟩:=mM.mp hy;exact zNP.mpr (.inl h)
def yDX(R:Nat->Nat->Prop)(n:Nat):(PR R n).Nodup:=(yDW R n).imp λ{a b} h e=>by subst e;have:=zNP.mp h;omega
def yIM{S:Sto}{l:Nat}{ds es:Bh}(hS:S[l]? =some (.lst ds))(hz:ds.length+es.length<=1000000):extF (.val (.loc l)) [.new es] S=.ok (.val .non) (S.set l (.lst (ds++es))):=by show zLP (.val (.loc l)) S (λds=>if ds.length+es.length<=sizeLine then some (ds++es)else none)=_;unfold zLP;dsimp only;rw [hS];dsimp only;rw [iP (fits hz)]
section
variable{ts:Ac}{hs:Aa}{as:Bj}
abbrev SW(ts:Ac)(q:MV)(p o:Bi):Rho:=[some (.tup (ts.map tbl)),some q,p,o]
def yNG{i:Nat}{rs:Ab}(Q:QOk ts as)(hi:i<as.length)(hn:rs.Nodup)(h: ∀j,j∈rs↔RcQ ts hs as i j):rs.length<=4:=by have:=zBU hn λx hx=>mem_range.mpr (yJL hi ((h x).mp hx));rw [length_range]at this;have:=Q.len;omega
theorem yDY(Q:QOk ts as)(S:Sto): ∀(m k:Nat)(T:List Pr)(o:Bi),k+m=as.length->T.length<=4 * k->T.Nodup->(∀p,p∈T↔p.1<k/\p.2≠p.1/\RcQ ts hs as p.1 p.2)->
  ∃(T':List Pr)(o':Bi),kY (gNm 3) zEF [] ((List.range' k m).map zC) (SW ts (qM hs as) (some (.loc S.length)) o) (S++[.lst (T.map prM)])=.ok (.next (SW ts (qM hs as) (some (.loc S.length)) o')) (S++[.lst (T'.map prM)])/\T'.length<=16/\T'.Nodup/\ ∀p,p∈T'↔p.1<as.length/\p.2≠p.1/\RcQ ts hs as p.1 p.2
 |0,k,T,o,hk,hl,hn,h=>⟨T,o,rfl,by have:=Q.len;omega,hn,by rw [<-hk];exact h⟩
 |m+1,k,T,o,hk,hl,hn,h=>by
  have hki:k<as.length:=by omega
  obtain⟨rs,e1,hrn,hrs⟩:=zZO (hs:=hs) Q.at' Q.len hki (S++[.lst (T.map prM)]);have hrl:=yNG Q hki hrn hrs;have hql:=Q.len
  have hc:xP (gNm 0) zDI zDJ [none,some (zC k)] [] (rs.map zC) (S++[.lst (T.map prM)])=.ok (((rs.filter λb=>!decide (b=k)).map λb=>(k,b)).map prM) (S++[.lst (T.map prM)]):=by
   rw [map_map]
   exact zEX (xE _) λb _=>⟨[some (zC b),some (zC k)],rfl,by
    unfold zDI;simp? [ne_int];rw [dec_is (show(b:Int)=k↔b=k by omega)],by
    unfold zDJ;simp? [tup2];rfl⟩
  obtain⟨N,eN⟩: ∃N:List Pr,N=(rs.filter λb=>!decide (b=k)).map λb=>(k,b):=⟨_,rfl⟩
  rw [<-eN]at hc;have hNl:N.length<=4:=by rw [eN,lM];exact le_trans (List.length_filter_le _ _) hrl
  have hNm: ∀p,p∈N↔p.1=k/\p.2≠p.1/\RcQ ts hs as p.1 p.2:=λp=>by
   rw [eN,mM];constructor
   ·rintro⟨b,hb,rfl⟩;rw [mem_filter,hrs]at hb;refine⟨rfl,λe=>?_,hb.1⟩;have h2:=hb.2;rw [dT0 (show b=k from e)]at h2;cases h2
   ·rintro⟨h1,h2,h3⟩;refine⟨p.2,?_,Prod.ext h1.symm rfl⟩;rw [mem_filter,hrs, <-h1,dF0 h2];exact⟨h3,rfl⟩
  have hNn:N.Nodup:=by rw [eN];unfold List.Nodup;rw [pairwise_map];exact(List.Pairwise.filter _ hrn).imp λ{x y} h e=>h (congrArg Prod.snd e)
  have hl1:(rs.map zC).length<1000000:=by rw [lM];omega
  have hz:(T.map prM).length+(N.map prM).length<=1000000:=by rw [lM,lM];omega
  have hb: ∀a b c d:Option MV,blk 1 [3] [a,b,c,d]=[none,d]:=λ_ _ _ _=>rfl;have eb:zEF (SW ts (qM hs as) (some (.loc S.length)) (some (zC k))) (S++[.lst (T.map prM)])=.ok (.next (SW ts (qM hs as) (some (.loc S.length)) (some (zC k)))) (S++[.lst ((T++N).map prM)]):=by unfold zEF zIC;simp? [kP (zO S (.lst (T.map prM))),e1,zEW,hl1,hb,hc,yIM (zO S (.lst (T.map prM))) hz,wA];rw [map_append]
  obtain⟨T',o',e,g⟩:=yDY Q S m (k+1) (T++N) (some (zC k)) (by omega) (by rw [lA];omega) (nodup_append.mpr ⟨hn,hNn,λx hx y hy=>by
   rintro rfl;have h1:=(h x).mp hx;have h2:=(hNm x).mp hy;omega⟩) (λp=>by
   rw [mem_append,h,hNm];constructor
   ·rintro(⟨a,b,c⟩|⟨a,b,c⟩)
    ·exact⟨by omega,b,c⟩
    ·exact⟨by omega,b,c⟩
   ·rintro⟨a,b,c⟩;by_cases hpk:p.1=k
    ·exact .inr ⟨hpk,b,c⟩
    ·exact .inl ⟨by omega,b,c⟩)
  refine⟨T',o',?_,g⟩;rw [range'_succ,map_cons,yB (ρ0:=(SW ts (qM hs as) (some (.loc S.length)) (some (zC k)))) rfl eb (xE _)];exact e
abbrev PQ(ts:Ac)(hs:Aa)(as:Bj):List Pr:=PR (RcQ ts hs as) as.length
theorem zSP(Q:QOk ts as)(S:Sto):zT 2 zEG [.val (.tup (ts.map tbl)),.val (qM hs as)] S=.ok (.new ((PQ ts hs as).map prM)) S:=by
 obtain⟨T',o',e,hl,hn,hT⟩:=yDY (hs:=hs) Q S as.length 0 [] none (by omega) (le_refl _) nodup_nil (λp=>⟨λh=>by simp at h,λh=>absurd h.1 (Nat.not_lt_zero _)⟩);refine jE (T:=[.lst (T'.map prM)]) rfl ?_ (pr_lo _ _);show xI (zPC (SW ts (qM hs as) none none) S)=_;have e1:zHE (SW ts (qM hs as) none none) S=.ok (.next (SW ts (qM hs as) none none)) S:=by unfold zHE;simp? [zXO Q.len Q.pos Q.nd]
 have e2:zHF (SW ts (qM hs as) none none) S=.ok (.next (SW ts (qM hs as) (some (.loc S.length)) none)) (S++[.lst []]):=by unfold zHF;simp? [bok]
 have hlen:=Q.len;have e3:zHG (SW ts (qM hs as) (some (.loc S.length)) none) (S++[.lst []])=.ok (.next (SW ts (qM hs as) (some (.loc S.length)) o')) (S++[.lst (T'.map prM)]):=by unfold zHG;simp? [zSE,yHN,lM,zPX (n:=as.length) (by omega)];rw [List.range_eq_range'];exact e
 have hp:(PQ ts hs as).Perm T':=(List.perm_ext_iff_of_nodup (yDX _ _) hn).mpr λp=>by rw [zPY,hT];exact⟨λh=>⟨h.1,h.2.2⟩,λh=>⟨h.1,yJL h.1 h.2.2,h.2⟩⟩
 have hs4:=zXN hp ((yDW _ _).imp λ{a b} h=>zIG.mpr (by have:=zNP.mp h;omega)) (by omega) (cV (zO S (.lst (T'.map prM))));unfold zPC;rw [zD e1,zD e2,zD e3];unfold zNJ;simp? [hs4];rfl
def rgP(L:List Pr):Option Pr:=L.find? λp=>decide ((p.2,p.1)∈L)
def rgE:Option Pr->Er
 |none=>.val .non
 |some p=>.new [zC p.1,zC p.2]
def rgR:Option Pr->Rho->Fl
 |none,ρ=>.next ρ
 |some p,_=>.ret (.new [zC p.1,zC p.2])
abbrev RG(ts:Ac)(q:MV)(l:Nat)(a b:Bi):Rho:=[some (.tup (ts.map tbl)),some q,some (.loc l),a,b]
theorem yDZ{q:MV}{L:List Pr}{S:Sto}{l:Nat}(hS:S[l]? =some (.lst (L.map prM))): ∀(M:List Pr)(a b:Bi), ∃a' b',kY (gTp 2 (gB (gNm 3) (gB (gNm 4) zJG))) zFX [(l,L.map prM)] (M.map prM) (RG ts q l a b) S=.ok (rgR (M.find? λp=>decide ((p.2,p.1)∈L)) (RG ts q l a' b')) S
 |[],a,b=>⟨a,b,rfl⟩
 |p::M,a,b=>by
  have hin:=zPQ false hS (zXM [(p.2,p.1)] (prM (p.2,p.1)) mF0).1 (zXM L);rw [iN xF0,dec_is (yNF (p:=(p.2,p.1)) (T:=L))]at hin;have hin:inF false (.val (.tup [zC p.2,zC p.1])) (.val (.loc l)) S=.ok (.val (.bl (decide ((p.2,p.1)∈L)))) S:=hin;rw [map_cons];by_cases hp:(p.2,p.1)∈L
  ·rw [dT0 hp]at hin;refine⟨a,b,?_⟩;rw [List.find?_cons_of_pos (by exact dT0 hp)];refine yGW (ρ0:=RG ts q l (some (zC p.1)) (some (zC p.2))) (S0:=S) rfl ?_;unfold zFX zEU;simp? [tup2,hin,yBX]
  ·rw [dF0 hp]at hin;obtain⟨a',b',e⟩:=yDZ (q:=q) hS M (some (zC p.1)) (some (zC p.2));refine⟨a',b',?_⟩;rw [List.find?_cons_of_neg (by rw [dF0 hp];exact xF0)];rw [yB (ρ0:=RG ts q l (some (zC p.1)) (some (zC p.2))) (S0:=S) rfl (by unfold zFX zEU;simp? [tup2,hin,fT,iF];rfl) (zJQ hS)];exact e
def yIN(Q:QOk ts as)(S:Sto):zT 2 zPD [.val (.tup (ts.map tbl)),.val (qM hs as)] S=.ok (rgE (rgP (PQ ts hs as))) S:=by
 obtain⟨L,hL⟩: ∃L,L=PQ ts hs as:=⟨_,rfl⟩
 rw [<-hL];have hsw:=zSP (hs:=hs) Q S;rw [<-hL]at hsw;obtain⟨a',b',e⟩:=yDZ (ts:=ts) (q:=qM hs as) (L:=L) (zO S (.lst (L.map prM))) L none none;have e1:zKO [some (.tup (ts.map tbl)),some (qM hs as),none,none,none] S=.ok (.next (RG ts (qM hs as) S.length none none)) (S++[.lst (L.map prM)]):=by unfold zKO;simp? [hsw]
 have e2:zKP (RG ts (qM hs as) S.length none none) (S++[.lst (L.map prM)])=.ok (rgR (rgP L) (RG ts (qM hs as) S.length a' b')) (S++[.lst (L.map prM)]):=by unfold zKP;simp? [zWB (zO S (.lst (L.map prM)))];exact e
 have hF: ∀_:Unit,xI (zUS [some (.tup (ts.map tbl)),some (qM hs as),none,none,none] S)=.ok (rgE (rgP L)) (S++[.lst (L.map prM)]):=λ_=>by
  unfold zUS;rw [zD e1]
  cases hr:rgP L with
  |none=>
   rw [hr]at e2;rw [zD e2];rfl
  |some p=>
   rw [hr]at e2;rw [zFL e2];rfl
 have hF:=hF ()
 cases hr:rgP L with
 |none=>
  rw [hr]at hF;exact zJP (T:=[.lst (L.map prM)]) rfl hF (zTY _) (λl=>by simp)
 |some p=>
  rw [hr]at hF
  exact jE (T:=[.lst (L.map prM)]) rfl hF (cT λd hd=>by
   rcases mC.mp hd with rfl|hd
   ·exact zAZ _ _
   ·rw [mS.mp hd];exact zAZ _ _)
end
def abc:List Nat:=[97,98,99,100,101,102,103,104,105,106,107,108,109,110,111,112,113,114,115,116,117,118,119,120,121,122]
def yNH: ∀i:Nat,i<26->abc[i]? =some (97+i):=by decide
def yNI(i:Int)(S:Sto):ixF (.val (.str abc)) (.val (.int (i % 26))) S=.ok (.val (.str [97+(i % 26).toNat])) S:=by have h0:=eN0 i (show(26:Int)≠0 by decide);have h1:=eL i (show(0:Int)<26 by decide);have:=zFZ (yNH (i % 26).toNat (by omega));rw [Int.toNat_of_nonneg h0]at this;exact ix_str (show abc.length<=sizeLine by rw [sizeLine_eq];decide) this
def yEA(i:Int)(S:Sto): ∃k,ixF (.val (.str abc)) (.val (.int (i % 26))) S=.ok (.val (.str [k])) S:=by obtain⟨k,hk⟩:=zVY (xs:=abc) (i:=i % 26) (eN0 _ (by decide)) (by have:=eL i (show(0:Int)<26 by decide);show i % 26<26;exact this);exact⟨k,ix_str (show abc.length<=sizeLine by rw [sizeLine_eq];decide) hk⟩
def addS{x y:Ab}(h:x.length+y.length<=1000)(S:Sto):xW (.val (.str x)) (.val (.str y)) S=.ok (.val (.str (x++y))) S:=add_str (fits (by omega))
abbrev NI(c:Int)(m:Bi)(x:Ab)(o:Bi):Rho:=[some (.int c),some (.str abc),m,some (.str x),o]
theorem yEB(m:Bi)(S:Sto): ∀(ds:Bh)(c:Int)(x:Ab)(o:Bi),x.length+ds.length<=900-> ∃c' x' o',kY (gNm 4) gH [] ds (NI c m x o) S=.ok (.next (NI c' m x' o')) S/\x'.length=x.length+ds.length
 |[],c,x,o,_=>⟨c,x,o,rfl,rfl⟩
 |d::ds,c,x,o,h=>by
  rw [lC]at h;obtain⟨k,hk⟩:=yEA c S;have e1:kR (NI c m x (some d)) S=.ok (.next (NI c m (x++[k]) (some d))) S:=by unfold kR;simp? [mod_lit (show(0:Int)<26 by decide),hk,addS (x:=x) (y:=[k]) (by rw [lS];omega)]
  have e2:kS (NI c m (x++[k]) (some d)) S=.ok (.next (NI (c / 26) m (x++[k]) (some d))) S:=by unfold kS;simp? [xD (b:=26) (by decide) (by decide)]
  obtain⟨c',x',o',e,hl⟩:=yEB m S ds (c / 26) (x++[k]) (some d) (by rw [lA,lS];omega);refine⟨c',x',o',?_,by rw [hl,lA,lS,lC];omega⟩;rw [yB (ρ0:=NI c m x (some d)) rfl (by unfold gH;rw [zD e1];exact e2) (xE _)];exact e
theorem yIO(c:Int)(S:Sto): ∃x c',zT 1 jK [.val (.int c)] S=.ok (.val (.tup [.str x,.int c'])) S/\x.length<=8:=by
 have h0:=eN0 c (show(8:Int)≠0 by decide);have h1:=eL c (show(0:Int)<8 by decide);obtain⟨c',x',o',e,hl⟩:=yEB (some (.int (1+c % 8))) S ((List.range (1+c % 8).toNat).map λk=>.int (k:Nat)) (c / 8) [] none (by rw [lM,length_range,length_nil];omega);rw [lM,length_range,length_nil]at hl;refine⟨x',c',?_,by omega⟩
 refine zAN rfl ?_ (yBS (cT λd hd=>by
  rcases mC.mp hd with rfl|hd
  ·exact zGR _ _
  ·rw [mS.mp hd];exact zAZ _ _)) (λl=>by simp)
 show xI (dF [some (.int c),none,none,none,none] S)=_;have e1:gI [some (.int c),none,none,none,none] S=.ok (.next [some (.int c),some (.str abc),none,none,none]) S:=by unfold gI;simp? [bok];rfl
 have e2:gK [some (.int c),some (.str abc),none,none,none] S=.ok (.next [some (.int c),some (.str abc),some (.int (1+c % 8)),none,none]) S:=by unfold gK;simp? [mod_lit (show(0:Int)<8 by decide)]
 have e3:gM [some (.int c),some (.str abc),some (.int (1+c % 8)),none,none] S=.ok (.next [some (.int (c / 8)),some (.str abc),some (.int (1+c % 8)),none,none]) S:=by unfold gM;simp? [xD (b:=8) (by decide) (by decide)]
 have e4:gN [some (.int (c / 8)),some (.str abc),some (.int (1+c % 8)),none,none] S=.ok (.next (NI (c / 8) (some (.int (1+c % 8))) [] none)) S:=by unfold gN;simp? [bok]
 have e5:gO (NI (c / 8) (some (.int (1+c % 8))) [] none) S=.ok (.next (NI c' (some (.int (1+c % 8))) x' o')) S:=by unfold gO;simp? [zUB (show -(2 ^ 62)<=(1+c % 8)/\(1+c % 8)<2 ^ 62 by omega)];exact e
 unfold dF;rw [zD e1,zD e2,zD e3,zD e4,zD e5];unfold zAQ;simp? [tup2];rfl
def rng5(S:Sto):jY [.val (.int 5)] S=.ok ⟨(List.range 5).map zC,[]⟩ S:=zPX (n:=5) (by decide) S
abbrev WD(c:Int)(l:Nat)(k w o:Bi):Rho:=[some (.int c),some (.int 5),some (.loc l),k,w,o]
abbrev Ws(ws:Aa):Prop:= ∀x∈ws,x.length<=8
theorem zUX{c:Int}{k:Bi}{ws:Aa}(S:Sto): ∀(ds:Ab)(x:Ab)(o:Bi)(L:Aa),x.length<=8->ds.Nodup->(x∈ws->L.Nodup/\(∀y∈L,y∈ws/\ ∀d∈ds,y.getLast?≠some d)/\ws.length<L.length+ds.length)->
  ∃x' o',kY (gNm 5) yN [] ((ds.map λc=>[c]).map MV.str) (WD c S.length k (some (.str x)) o) (S++[.lst (ws.map MV.str)])=.ok (.next (WD c S.length k (some (.str x')) o')) (S++[.lst (ws.map MV.str)])/\x'.length<=8/\x'∉ws
 |[],x,o,L,h,_,hL=>⟨x,o,rfl,h,λz=>by obtain⟨h1,h2,h3⟩:=hL z;have:=zBU h1 λy hy=>(h2 y hy).1;rw [length_nil]at h3;omega⟩
 |d::ds,x,o,L,h,hd,hL=>by
  have hd':=nodup_cons.mp hd;have hin:=zPQ false (zO S (.lst (ws.map MV.str))) (zPO x) zIU;rw [iN xF0,dec_is (zPR (x:=x) (fs:=ws))]at hin;by_cases hm:x∈ws
  ·rw [dT0 hm]at hin;obtain⟨h1,h2,h3⟩:=hL hm;rw [lC]at h3;have ht:(x.take 7).length<=7:=by rw [lT];omega
   have hlast:(x.take 7++[d]).getLast? =some d:=List.getLast?_concat
   obtain⟨x',o',e,hl,hn⟩:=zUX (c:=c) (k:=k) (ws:=ws) S ds (x.take 7++[d]) (some (.str [d])) (L++[x.take 7++[d]]) (by rw [lA,lS];omega) hd'.2 (λhx=>⟨nodup_append.mpr ⟨h1,by simp,λa ha b hb e=>by
    rw [mS.mp hb]at e;have:=(h2 a ha).2 d mF0;rw [e]at this;exact this hlast⟩,λy hy=>by
    rcases mem_append.mp hy with hy|hy
    ·exact⟨(h2 y hy).1,λd' hd2=>(h2 y hy).2 d' (mO _ hd2)⟩
    ·rw [mS.mp hy];refine⟨hx,λd' hd2 z=>?_⟩;rw [hlast]at z;rw [Option.some.inj z]at hd';exact hd'.1 hd2,by rw [lA,lS];omega⟩)
   refine⟨x',o',?_,hl,hn⟩;rw [map_cons,map_cons,yB (ρ0:=WD c S.length k (some (.str x)) (some (.str [d]))) (ρ':=WD c S.length k (some (.str (x.take 7++[d]))) (some (.str [d]))) (S':=S++[.lst (ws.map MV.str)]) rfl (by unfold yN yT;simp? [hin,cut_str (fits (show x.length<=1000000 by omega)),zOP x 7 (by decide),show(7:Int).toNat=7 from rfl,addS (x:=x.take 7) (y:=[d]) (by rw [lS];omega)]) (xE _)];exact e
  ·rw [dF0 hm]at hin;obtain⟨x',o',e,hl,hn⟩:=zUX (c:=c) (k:=k) (ws:=ws) S ds x (some (.str [d])) [] h hd'.2 (λz=>absurd z hm);refine⟨x',o',?_,hl,hn⟩;rw [map_cons,map_cons,yB (ρ0:=WD c S.length k (some (.str x)) (some (.str [d]))) (ρ':=WD c S.length k (some (.str x)) (some (.str [d]))) (S':=S++[.lst (ws.map MV.str)]) rfl (by unfold yN yT;simp? [hin,fT,iF]) (xE _)];exact e
def abj:List Nat:=[97,98,99,100,101,102,103,104,105,106]
theorem yEC(S:Sto): ∀(ds:Bh)(c:Int)(ws:Aa)(k w o:Bi),ws.length+ds.length<=9->Ws ws/\ws.Nodup-> ∃c' ws' k' w' o',kY (gNm 3) xK [] ds (WD c S.length k w o) (S++[.lst (ws.map MV.str)])=.ok (.next (WD c' S.length k' w' o')) (S++[.lst (ws'.map MV.str)])/\ws'.length=ws.length+ds.length/\Ws ws'/\ws'.Nodup
 |[],c,ws,k,w,o,_,h=>⟨c,ws,k,w,o,rfl,rfl,h⟩
 |d::ds,c,ws,k,w,o,hl,h=>by
  rw [lC]at hl;obtain⟨x,c1,e1,hx⟩:=yIO c (S++[.lst (ws.map MV.str)]);have f1:yU (WD c S.length (some d) w o) (S++[.lst (ws.map MV.str)])=.ok (.next (WD c1 S.length (some d) (some (.str x)) o)) (S++[.lst (ws.map MV.str)]):=by unfold yU;simp? [e1,zEH];rfl
  obtain⟨x',o',e2,hx',hxn⟩:=zUX (c:=c1) (k:=some d) (ws:=ws) S abj x o [] hx (by decide) (λ_=>⟨nodup_nil,(λy hy=>by simp at hy),by rw [show abj.length=10 from rfl,length_nil];omega⟩);have f2:yV (WD c1 S.length (some d) (some (.str x)) o) (S++[.lst (ws.map MV.str)])=.ok (.next (WD c1 S.length (some d) (some (.str x')) o')) (S++[.lst (ws.map MV.str)]):=by unfold yV;simp? [bok];exact e2
  have f3:yW (WD c1 S.length (some d) (some (.str x')) o') (S++[.lst (ws.map MV.str)])=.ok (.next (WD c1 S.length (some d) (some (.str x')) o')) (S++[.lst ((ws++[x']).map MV.str)]):=by unfold yW;simp? [kP (zO S (.lst (ws.map MV.str))),bI (zO S (.lst (ws.map MV.str))) (show(ws.map MV.str).length<1000000 by rw [lM];omega),wA];rw [map_append];rfl
  obtain⟨c',ws',k',w',o'',e,g1,g2⟩:=yEC S ds c1 (ws++[x']) (some d) (some (.str x')) o' (by rw [lA,lS];omega) ⟨λy hy=>by
   rcases mem_append.mp hy with hy|hy
   ·exact h.1 y hy
   ·rw [mS.mp hy];exact hx',nodup_append.mpr ⟨h.2,by simp,λa ha b hb e=>by
   rw [mS.mp hb]at e;rw [e]at ha;exact hxn ha⟩⟩
  refine⟨c',ws',k',w',o'',?_,by rw [g1,lA,lS,lC];omega,g2⟩;rw [yB (ρ0:=WD c S.length (some d) w o) rfl (by unfold xK;rw [zD f1,zD f2];exact f3) (xE _)];exact e
def zGA(ws:Aa)(n:Nat):loL n (ws.map MV.str):=cT λd hd=>by obtain⟨x,_,rfl⟩:=mM.mp hd;exact zGR _ _
theorem zZP(c:Int)(S:Sto): ∃ws:List (List Nat),ws.length=5/\Ws ws/\ws.Nodup/\zT 2 yR [.val (.int c),.val (.int 5)] S=.ok (.new (ws.map MV.str)) S:=by
 obtain⟨c',ws,k,w,o,e,hl,hw,hn⟩:=yEC S ((List.range 5).map λk=>.int (k:Nat)) c [] none none none (by decide) ⟨(λx hx=>by simp at hx),nodup_nil⟩;refine⟨ws,hl,hw,hn,?_⟩;refine zCT (T:=[.lst (ws.map MV.str)]) rfl ?_ (le_refl _) (zO _ _) (zGA _ _);show xI (xX [some (.int c),some (.int 5),none,none,none,none] S)=_;have e1:xL [some (.int c),some (.int 5),none,none,none,none] S=.ok (.next (WD c S.length none none none)) (S++[.lst []]):=by unfold xL;simp? [bok]
 have e2:xM (WD c S.length none none none) (S++[.lst []])=.ok (.next (WD c' S.length k w o)) (S++[.lst (ws.map MV.str)]):=by unfold xM;simp? [rng5];exact e
 unfold xX;rw [zD e1,zD e2];unfold kH;simp? [bok];rfl
abbrev WW(c:Int)(g s:Bi)(l:Nat)(k w j z:Bi):Rho:=[some (.int c),some (.int 5),some (.str abc),g,s,some (.loc l),k,w,j,z]
abbrev WV(c:Int)(a g s l:Bi):Rho:=[some (.int c),some (.int 5),a,g,s,l,none,none,none,none]
def ltr(c s:Int)(k j:Nat):Nat:=97+((c / (49+5 * (j:Int))+(j:Int) * (c / 49 % 3)+(if(j:Int)=s then 3 * (k:Int)else 0)) % 26).toNat
def wrd(c g s:Int)(k:Nat):List Nat:=(List.range g.toNat).map (ltr c s k)
def yIP(c g s:Int)(l k j:Nat)(hj:j<100)(x:Ab)(hx:x.length<=100)(z:Bi)(S:Sto): ∃z',jL (WW c (some (.int g)) (some (.int s)) l (some (zC k)) (some (.str x)) (some (zC j)) z) S=.ok (.next (WW c (some (.int g)) (some (.int s)) l (some (zC k)) (some (.str (x++[ltr c s k j]))) (some (zC j)) z')) S:=by
 obtain⟨v,hv⟩: ∃v:Int,v=c / (49+5 * (j:Int))+(j:Int) * (c / 49 % 3):=⟨_,rfl⟩
 have e1:gP (WW c (some (.int g)) (some (.int s)) l (some (zC k)) (some (.str x)) (some (zC j)) z) S=.ok (.next (WW c (some (.int g)) (some (.int s)) l (some (zC k)) (some (.str x)) (some (zC j)) (some (.int v)))) S:=by unfold gP;simp? [zCU (a:=5) (show -(2 ^ 64)<(5:Int)/\(5:Int)<2 ^ 64 by decide),xD (b:=49+5 * (j:Int)) (by omega) (by omega),xD (b:=49) (by decide) (by decide),mod_lit (show(0:Int)<3 by decide),zCU (a:=(j:Int)) (show -(2 ^ 64)<(j:Int)/\(j:Int)<2 ^ 64 by omega)];rw [hv]
 obtain⟨u,hu⟩: ∃u:Int,u=v+(if(j:Int)=s then 3 * (k:Int)else 0):=⟨_,rfl⟩
 have e2:gQ (WW c (some (.int g)) (some (.int s)) l (some (zC k)) (some (.str x)) (some (zC j)) (some (.int v))) S=.ok (.next (WW c (some (.int g)) (some (.int s)) l (some (zC k)) (some (.str x)) (some (zC j)) (some (.int u)))) S:=by
  unfold gQ;by_cases h:(j:Int)=s
  ·rw [iP h]at hu;rw [hu];simp? [h,decide_true,zCU (a:=3) (show -(2 ^ 64)<(3:Int)/\(3:Int)<2 ^ 64 by decide)]
  ·rw [iN h,Int.add_zero]at hu;rw [hu];simp? [h,decide_false,fT,iF]
 have hl:ltr c s k j=97+(u % 26).toNat:=by unfold ltr;rw [hu,hv]
 rw [hl];refine⟨some (.int u),?_⟩;unfold jL;rw [zD e1,zD e2];unfold zAR;simp? [mod_lit (show(0:Int)<26 by decide),yNI,addS (x:=x) (y:=[97+(u % 26).toNat]) (by rw [lS];omega)]
theorem yED(c g s:Int)(l k:Nat)(S:Sto): ∀(js:Ab),(∀j∈js,j<100)-> ∀(x:Ab)(j z:Bi),x.length+js.length<=100-> ∃j' z',kY (gNm 8) jL [] (js.map zC) (WW c (some (.int g)) (some (.int s)) l (some (zC k)) (some (.str x)) j z) S=.ok (.next (WW c (some (.int g)) (some (.int s)) l (some (zC k)) (some (.str (x++js.map (ltr c s k)))) j' z')) S
 |[],_,x,j,z,_=>⟨j,z,by rw [show List.map (ltr c s k) []=[]from rfl,aN];rfl⟩
 |i::js,hj,x,j,z,h=>by rw [lC]at h;obtain⟨z1,e1⟩:=yIP c g s l k i (hj i mF0) x (by omega) z S;obtain⟨j',z',e⟩:=yED c g s l k S js (λy hy=>hj y (mO _ hy)) (x++[ltr c s k i]) (some (zC i)) z1 (by rw [lA,lS];omega);refine⟨j',z',?_⟩;rw [map_cons,yB (ρ0:=WW c (some (.int g)) (some (.int s)) l (some (zC k)) (some (.str x)) (some (zC i)) z) rfl e1 (xE _),e,aA];rfl
theorem yEE(c g s:Int)(hg:1<=g/\g<=7)(S:Sto): ∀(ks:Ab)(ws:Aa)(k w j z:Bi),ws.length+ks.length<=100-> ∃(k' w' j' z':Bi),kY (gNm 6) dG [] (ks.map zC) (WW c (some (.int g)) (some (.int s)) S.length k w j z) (S++[.lst (ws.map MV.str)])=.ok (.next (WW c (some (.int g)) (some (.int s)) S.length k' w' j' z')) (S++[.lst ((ws++ks.map (wrd c g s)).map MV.str)])
 |[],ws,k,w,j,z,_=>⟨k,w,j,z,by rw [show List.map (wrd c g s) []=[]from rfl,aN];rfl⟩
 |i::ks,ws,k,w,j,z,hl=>by
  rw [lC]at hl;have f1:gR (WW c (some (.int g)) (some (.int s)) S.length (some (zC i)) w j z) (S++[.lst (ws.map MV.str)])=.ok (.next (WW c (some (.int g)) (some (.int s)) S.length (some (zC i)) (some (.str [])) j z)) (S++[.lst (ws.map MV.str)]):=by unfold gR;simp? [bok]
  obtain⟨j1,z1,e2⟩:=yED c g s S.length i (S++[.lst (ws.map MV.str)]) (List.range g.toNat) (λy hy=>by have:=mem_range.mp hy;omega) [] j z (by rw [length_nil,length_range];omega);rw [nil_append]at e2;have f2:gS (WW c (some (.int g)) (some (.int s)) S.length (some (zC i)) (some (.str [])) j z) (S++[.lst (ws.map MV.str)])=.ok (.next (WW c (some (.int g)) (some (.int s)) S.length (some (zC i)) (some (.str (wrd c g s i))) j1 z1)) (S++[.lst (ws.map MV.str)]):=by unfold gS;simp? [zUB (show -(2 ^ 62)<=g/\g<2 ^ 62 by omega)];exact e2
  have f3:gT (WW c (some (.int g)) (some (.int s)) S.length (some (zC i)) (some (.str (wrd c g s i))) j1 z1) (S++[.lst (ws.map MV.str)])=.ok (.next (WW c (some (.int g)) (some (.int s)) S.length (some (zC i)) (some (.str (wrd c g s i))) j1 z1)) (S++[.lst ((ws++[wrd c g s i]).map MV.str)]):=by unfold gT;simp? [kP (zO S (.lst (ws.map MV.str))),bI (zO S (.lst (ws.map MV.str))) (show(ws.map MV.str).length<1000000 by rw [lM];omega),wA];rw [map_append];rfl
  obtain⟨k',w',j',z',e⟩:=yEE c g s hg S ks (ws++[wrd c g s i]) (some (zC i)) (some (.str (wrd c g s i))) j1 z1 (by rw [lA,lS];omega);refine⟨k',w',j',z',?_⟩;rw [map_cons,yB (ρ0:=WW c (some (.int g)) (some (.int s)) S.length (some (zC i)) w j z) rfl (by unfold dG;rw [zD f1,zD f2];exact f3) (xE _),e,aA];rfl
def yIQ(c g s:Int)(k:Nat):(wrd c g s k).length=g.toNat:=by unfold wrd;rw [lM,length_range]
def yNJ{c g s:Int}(h0:0<=s)(h1:s<g){k j:Nat}(hk:k<5)(hj:j<5)(e:wrd c g s k=wrd c g s j):k=j:=by
 have hs:s.toNat<g.toNat:=by omega
 have e1:=congrArg (λl=>l[s.toNat]?) e;unfold wrd at e1;rw [getElem?_map,getElem?_map,getElem?_range hs]at e1;have e2:ltr c s k s.toNat=ltr c s j s.toNat:=Option.some.inj e1;unfold ltr at e2;rw [Int.toNat_of_nonneg h0,iP rfl,iP rfl]at e2;obtain⟨v,hv⟩: ∃v,v=c / (49+5 * s)+s * (c / 49 % 3):=⟨_,rfl⟩
 rw [<-hv]at e2;omega
theorem zNQ{α:Type}: ∀{l:List α}{i:Nat}{a:α},l.Nodup->a∉l->(l.set i a).Nodup
 |[],_,_,h,_=>h
 |x::l,0,a,h,ha=>nodup_cons.mpr ⟨λz=>ha (mO _ z),(nodup_cons.mp h).2⟩
 |x::l,i+1,a,h,ha=>by
  have hc:=nodup_cons.mp h;refine nodup_cons.mpr ⟨λz=>?_,zNQ hc.2 λz=>ha (mO _ z)⟩;rcases List.mem_or_eq_of_mem_set z with z|e
  ·exact hc.1 z
  ·exact ha (by rw [<-e];exact mF0)
theorem yEF(c:Int)(S:Sto): ∃ws:List (List Nat),ws.length=5/\ws.Nodup/\zT 2 cJ [.val (.int c),.val (.int 5)] S=.ok (.new (ws.map MV.str)) S:=by
 by_cases h2:c % 2=0
 ·obtain⟨ws,hl,_,hn,e⟩:=zZP (c / 2) S;refine⟨ws,hl,hn,?_⟩;refine jE (T:=[]) rfl ?_ (zGA _ _);rw [aN];show xI (jM (WV c none none none none) S)=_;have e1:wN (WV c none none none none) S=.ok (.ret (.new (ws.map MV.str))) S:=by unfold wN;simp? [mod_lit (show(0:Int)<2 by decide),h2,decide_true,xD (b:=2) (by decide) (by decide),e]
  unfold jM;rw [zFL e1];rfl
 ·obtain⟨d,hd⟩: ∃d:Int,d=c * 69621 % 2147483629 * 48271 % 2147483647:=⟨_,rfl⟩
  have h0:=eN0 d (show(7:Int)≠0 by decide);have h1:=eL d (show(0:Int)<7 by decide);obtain⟨g,hg⟩: ∃g:Int,g=1+d % 7:=⟨_,rfl⟩
  obtain⟨s,hs⟩: ∃s:Int,s=d / 7 % g:=⟨_,rfl⟩
  have hs0:0<=s:=by rw [hs];exact eN0 _ (by omega)
  have hs1:s<g:=by rw [hs];exact eL _ (by omega)
  obtain⟨k,w,j,z,e7⟩:=yEE d g s (by omega) S (List.range 5) [] none none none none (by decide);rw [nil_append]at e7;obtain⟨ws,hws⟩: ∃ws,ws=(List.range 5).map (wrd d g s):=⟨_,rfl⟩
  rw [<-hws]at e7;have hl:ws.length=5:=by rw [hws];rfl
  have hn:ws.Nodup:=by rw [hws];refine pairwise_map.mpr (List.Pairwise.imp_of_mem (λ{a b} ha hb h e=>h ?_) (nodup_range (n:=5)));exact yNJ hs0 hs1 (mem_range.mp ha) (mem_range.mp hb) e
  have hw: ∀x∈ws,x.length=g.toNat:=λx hx=>by rw [hws]at hx;obtain⟨k,_,rfl⟩:=mM.mp hx;exact yIQ d g s k
  have f1:wN (WV c none none none none) S=.ok (.next (WV c none none none none)) S:=by unfold wN;simp? [mod_lit (show(0:Int)<2 by decide),h2,decide_false,fT,iF]
  have f2:dH (WV c none none none none) S=.ok (.next (WV c (some (.str abc)) none none none)) S:=by unfold dH;simp? [bok];rfl
  have f3:dI (WV c (some (.str abc)) none none none) S=.ok (.next (WV d (some (.str abc)) none none none)) S:=by unfold dI;simp? [zOO (show -(2 ^ 64)<(69621:Int)/\(69621:Int)<2 ^ 64 by decide),mod_lit (show(0:Int)<2147483629 by decide),zOO (show -(2 ^ 64)<(48271:Int)/\(48271:Int)<2 ^ 64 by decide),mod_lit (show(0:Int)<2147483647 by decide)];rw [hd]
  have f4:dL (WV d (some (.str abc)) none none none) S=.ok (.next (WV d (some (.str abc)) (some (.int g)) none none)) S:=by unfold dL;simp? [mod_lit (show(0:Int)<7 by decide)];rw [hg]
  have f5:dM (WV d (some (.str abc)) (some (.int g)) none none) S=.ok (.next (WV d (some (.str abc)) (some (.int g)) (some (.int s)) none)) S:=by unfold dM;simp? [xD (b:=7) (by decide) (by decide),mod_lit (show(0:Int)<g by omega)];rw [hs]
  have f6:dN (WV d (some (.str abc)) (some (.int g)) (some (.int s)) none) S=.ok (.next (WW d (some (.int g)) (some (.int s)) S.length none none none none)) (S++[.lst []]):=by unfold dN;simp? [bok]
  have f7:dO (WW d (some (.int g)) (some (.int s)) S.length none none none none) (S++[.lst []])=.ok (.next (WW d (some (.int g)) (some (.int s)) S.length k w j z)) (S++[.lst (ws.map MV.str)]):=by unfold dO;simp? [rng5];exact e7
  obtain⟨ws',e8,hl',hw'⟩: ∃ws':List (List Nat),dP (WW d (some (.int g)) (some (.int s)) S.length k w j z) (S++[.lst (ws.map MV.str)])=.ok (.next (WW d (some (.int g)) (some (.int s)) S.length k w j z)) (S++[.lst (ws'.map MV.str)])/\ws'.length=5/\ws'.Nodup:=by
   unfold dP;by_cases h4:d / 49 % 4=1
   ·obtain⟨a,ha⟩:=yEA (d / 196) (S++[.lst (ws.map MV.str)]);have hx:ws[0]? =some (ws[0]'(by omega)):=gE0 _;have hx7:=hw _ (getElem_mem (show 0<ws.length by omega));have hix:ixF (.val (.loc S.length)) (.val (.int 0)) (S++[.lst (ws.map MV.str)])=.ok (.val (.str ws[0])) (S++[.lst (ws.map MV.str)]):=zGS (zO _ _) (zFZ (k:=0) (by rw [getElem?_map,hx];rfl));refine⟨ws.set 1 (ws[0]++[a]),?_,by rw [length_set];exact hl,?_⟩
    ·simp? [xD (b:=49) (by decide) (by decide),mod_lit (show(0:Int)<4 by decide),h4,decide_true,hix,xD (b:=196) (by decide) (by decide),mod_lit (show(0:Int)<26 by decide),ha,addS (x:=ws[0]) (y:=[a]) (by rw [lS];omega),zEH,yCY (k:=1) (j:=1) (zO S (.lst (ws.map MV.str))) (by unfold ixN;rw [lM,hl];rfl),wA];rw [List.map_set]
    ·refine zNQ hn λz=>?_;have:=hw _ z;rw [lA,lS]at this;omega
   ·refine⟨ws,?_,hl,hn⟩;simp? [xD (b:=49) (by decide) (by decide),mod_lit (show(0:Int)<4 by decide),h4,decide_false,fT,iF]
  refine⟨ws',hl',hw',?_⟩;refine zCT (T:=[.lst (ws'.map MV.str)]) rfl ?_ (le_refl _) (zO _ _) (zGA _ _);show xI (jM (WV c none none none none) S)=_;unfold jM;rw [zD f1,zD f2,zD f3,zD f4,zD f5,zD f6,zD f7,zD e8];unfold zDK;simp? [bok];rfl
def zPZ{S:Sto}{l:Nat}{ds:Bh}(hS:S[l]? =some (.lst ds))(a b:Bc):zGM (.val (.loc l)) a b S=.ok (.new (jW ds a b)) S:=by show(match kG S (.val (.loc l))with |some ds=>R.ok (Er.new (jW ds a b)) S|none=>.no)=_;rw [cV hS]
def zXP(ns:Ad)(n:Nat):loL n (ns.map MV.int):=cT λd hd=>by obtain⟨x,_,rfl⟩:=mM.mp hd;exact zAZ _ _
abbrev DW(c:Int)(m l:Nat)(r k n:Bi):Rho:=[some (.int c),some (zC m),some (.loc l),r,k,n]
theorem zXQ(c:Int)(m:Nat)(n:Bi)(S:Sto): ∀(ks:Bh)(ns:Ad)(r:Int)(k:Bi),ns.length+ks.length<=100-> ∃(ns':Ad)(r':Int)(k':Bi),kY (gNm 4) jN [] ks (DW c m S.length (some (.int r)) k n) (S++[.lst (ns.map MV.int)])=.ok (.next (DW c m S.length (some (.int r')) k' n)) (S++[.lst (ns'.map MV.int)])/\ns'.length=ns.length+ks.length
 |[],ns,r,k,_=>⟨ns,r,k,rfl,rfl⟩
 |d::ks,ns,r,k,h=>by
  rw [lC]at h;have f1:gU (DW c m S.length (some (.int r)) (some d) n) (S++[.lst (ns.map MV.int)])=.ok (.next (DW c m S.length (some (.int r)) (some d) n)) (S++[.lst ((ns++[r % 1000000]).map MV.int)]):=by unfold gU;simp? [kP (zO S (.lst (ns.map MV.int))),mod_lit (show(0:Int)<1000000 by decide),bI (zO S (.lst (ns.map MV.int))) (show(ns.map MV.int).length<1000000 by rw [lM];omega),wA];rw [map_append];rfl
  have f2:gV (DW c m S.length (some (.int r)) (some d) n) (S++[.lst ((ns++[r % 1000000]).map MV.int)])=.ok (.next (DW c m S.length (some (.int (r / 1000000))) (some d) n)) (S++[.lst ((ns++[r % 1000000]).map MV.int)]):=by unfold gV;simp? [xD (b:=1000000) (by decide) (by decide)]
  obtain⟨ns',r',k',e,hl⟩:=zXQ c m n S ks (ns++[r % 1000000]) (r / 1000000) (some d) (by rw [lA,lS];omega);refine⟨ns',r',k',?_,by rw [hl,lA,lS,lC];omega⟩;rw [yB (ρ0:=DW c m S.length (some (.int r)) (some d) n) rfl (by unfold jN;rw [zD f1];exact f2) (xE _)];exact e
theorem zXR(c:Int)(m:Nat)(r:Bi)(S:Sto): ∀(ks:Ab)(ns:Ad)(n:Int)(k:Bi),ns.length+ks.length<=100->0<=n/\n<4294967296-> ∃(ns':Ad)(n':Int)(k':Bi),kY (gNm 4) dQ [] (ks.map zC) (DW c m S.length r k (some (.int n))) (S++[.lst (ns.map MV.int)])=.ok (.next (DW c m S.length r k' (some (.int n')))) (S++[.lst (ns'.map MV.int)])/\ns'.length=ns.length+ks.length
 |[],ns,n,k,_,_=>⟨ns,n,k,rfl,rfl⟩
 |d::ks,ns,n,k,h,hn=>by
  rw [lC]at h;obtain⟨v,hv⟩: ∃v:Int,v=(n * n+48271 * n+(d:Int)) % 2147483647:=⟨_,rfl⟩
  have hv0:0<=v/\v<4294967296:=by have h1:=eN0 (n * n+48271 * n+(d:Int)) (show(2147483647:Int)≠0 by decide);have h2:=eL (n * n+48271 * n+(d:Int)) (show(0:Int)<2147483647 by decide);omega
  have f1:gW (DW c m S.length r (some (zC d)) (some (.int n))) (S++[.lst (ns.map MV.int)])=.ok (.next (DW c m S.length r (some (zC d)) (some (.int v)))) (S++[.lst (ns.map MV.int)]):=by unfold gW;simp? [zCU (a:=n) (show -(2 ^ 64)<n/\n<2 ^ 64 by omega),zCU (a:=48271) (show -(2 ^ 64)<(48271:Int)/\(48271:Int)<2 ^ 64 by decide),mod_lit (show(0:Int)<2147483647 by decide)];rw [hv]
  obtain⟨u,hu⟩: ∃u:Int,u=v * 69621 % 2147483587 / 16:=⟨_,rfl⟩
  have f2:gX (DW c m S.length r (some (zC d)) (some (.int v))) (S++[.lst (ns.map MV.int)])=.ok (.next (DW c m S.length r (some (zC d)) (some (.int v)))) (S++[.lst ((ns++[u]).map MV.int)]):=by unfold gX;simp? [kP (zO S (.lst (ns.map MV.int))),zOO (show -(2 ^ 64)<(69621:Int)/\(69621:Int)<2 ^ 64 by decide),mod_lit (show(0:Int)<2147483587 by decide),xD (b:=16) (by decide) (by decide),bI (zO S (.lst (ns.map MV.int))) (show(ns.map MV.int).length<1000000 by rw [lM];omega),wA];rw [map_append,hu];rfl
  obtain⟨ns',n',k',e,hl⟩:=zXR c m r S ks (ns++[u]) v (some (zC d)) (by rw [lA,lS];omega) hv0;refine⟨ns',n',k',?_,by rw [hl,lA,lS,lC];omega⟩;rw [map_cons,yB (ρ0:=DW c m S.length r (some (zC d)) (some (.int n))) rfl (by unfold dQ;rw [zD f1];exact f2) (xE _)];exact e
theorem zSQ(c:Int){m:Nat}(hm:m<=10)(S:Sto): ∃ns:List Int,ns.length=m/\zT 2 xY [.val (.int c),.val (zC m)] S=.ok (.new (ns.map MV.int)) S:=by
 have f1:dR [some (.int c),some (zC m),none,none,none,none] S=.ok (.next (DW c m S.length none none none)) (S++[.lst []]):=by unfold dR;simp? [bok]
 by_cases h2:c % 2=0
 ·obtain⟨ns,r',k',e,hl⟩:=zXQ c m none S ((List.range m).map λk=>.int (k:Nat)) [] (c / 2) none (by rw [lM,length_range,length_nil];omega);rw [lM,length_range,length_nil,zero_add]at hl;refine⟨ns,hl,?_⟩;refine zCT (T:=[.lst (ns.map MV.int)]) rfl ?_ (le_refl _) (zO _ _) (zXP _ _);show xI (jO [some (.int c),some (zC m),none,none,none,none] S)=_;have e1:(CJ (dJ zAY (vJ 0) (kJ (.int 2))) 3) (DW c m S.length none none none) (S++[.lst []])=.ok (.next (DW c m S.length (some (.int (c / 2))) none none)) (S++[.lst []]):=by simp? [xD (b:=2) (by decide) (by decide)]
  have e2:(FJ (bJ (yJ (vJ 1) wJ) jY) (gNm 4) (jN)) (DW c m S.length (some (.int (c / 2))) none none) (S++[.lst []])=.ok (.next (DW c m S.length (some (.int r')) k' none)) (S++[.lst (ns.map MV.int)]):=by simp? [zPX (n:=m) (by omega)];exact e
  have f2:wO (DW c m S.length none none none) (S++[.lst []])=.ok (.ret (.val (.loc S.length))) (S++[.lst (ns.map MV.int)]):=by unfold wO;simp? [mod_lit (show(0:Int)<2 by decide),h2,decide_true];rw [zD e1,zD e2];rfl
  unfold jO;rw [zD f1,zFL f2];rfl
 ·have h3:=eN0 c (show(2147483629:Int)≠0 by decide);have h4:=eL c (show(0:Int)<2147483629 by decide);obtain⟨ns,n',k',e,hl⟩:=zXR c m none S (List.range m) [] (c % 2147483629+1) none (by rw [length_range,length_nil];omega) (by omega);rw [length_range,length_nil,zero_add]at hl;refine⟨ns,hl,?_⟩;refine zCT (T:=[.lst (ns.map MV.int)]) rfl ?_ (le_refl _) (zO _ _) (zXP _ _);show xI (jO [some (.int c),some (zC m),none,none,none,none] S)=_;have f2:wO (DW c m S.length none none none) (S++[.lst []])=.ok (.next (DW c m S.length none none none)) (S++[.lst []]):=by unfold wO;simp? [mod_lit (show(0:Int)<2 by decide),h2,decide_false,fT,iF]
  have f3:dS (DW c m S.length none none none) (S++[.lst []])=.ok (.next (DW c m S.length none none (some (.int (c % 2147483629+1))))) (S++[.lst []]):=by unfold dS;simp? [mod_lit (show(0:Int)<2147483629 by decide)]
  have f4:dU (DW c m S.length none none (some (.int (c % 2147483629+1)))) (S++[.lst []])=.ok (.next (DW c m S.length none k' (some (.int n')))) (S++[.lst (ns.map MV.int)]):=by unfold dU;simp? [zPX (n:=m) (by omega)];exact e
  unfold jO;rw [zD f1,zD f2,zD f3,zD f4];rfl
def stC(n:Nat)(kc fc:Nat->List Nat)(i:Nat)(E:Ab):List Nat:=E++(List.range n).flatMap λj=>if !(j==i)&&(kc j).all (E.contains ·)then fc j else []
def itC(n:Nat)(kc fc:Nat->List Nat)(i:Nat):Nat->List Nat->List Nat
 |0,E=>E
 |m+1,E=>itC n kc fc i m (stC n kc fc i E)
def ckK(n:Nat)(kc fc:Nat->List Nat)(i:Nat)(E:Ab):Bool:=(kc i).all (E.contains ·)&&(List.range n).all (λj=>j==i || !(kc j).all (E.contains ·) || (fc j).all (E.contains ·))&&E.all (λk=>(itC n kc fc i 4 (kc i)).contains k)&&E.all (λk=>decide (k<5))&&(List.range n).all λj=>(kc j).all (λk=>decide (k<5))&&(fc j).all (λk=>decide (k<5))
def stB(n:Nat)(fc:Nat->List Nat)(E B:Ab):List Nat:=B++(List.range n).filter λk=>B.any λr=>(fc r).any λx=>(fc k).contains x&& !E.contains x
def itB(n:Nat)(fc:Nat->List Nat)(E:Ab):Nat->List Nat->List Nat
 |0,B=>B
 |m+1,B=>itB n fc E m (stB n fc E B)
def ckR(n:Nat)(fc:Nat->List Nat)(i:Nat)(E B:Ab):Bool:=B.contains i&&B.all (λr=>decide (r<n)&&(List.range n).all λk=>B.contains k || (fc r).all λx=>E.contains x || !(fc k).contains x)&&B.all (λk=>(itB n fc E 4 [i]).contains k)
section
variable{K F:Nat->List (List Nat)}{n i:Nat}{w:Nat->List Nat}{kc fc:Nat->List Nat}{E B:Ab}
def wH{l:Ab}{k:Nat}:l.contains k=true↔k∈l:=List.contains_iff_mem
def yNK(inj: ∀a b,a<5->b<5->w a=w b->a=b)(hK: ∀j,j<n-> ∀x,x∈K j↔ ∃k,k∈kc j/\x=w k)(hF: ∀j,j<n-> ∀x,x∈F j↔ ∃k,k∈fc j/\x=w k)(hi:i<n)(ck:ckK n kc fc i E=true)(x:Ab):Kn K F n i x↔ ∃k,k∈E/\x=w k:=by
 unfold ckK at ck;simp only [aE]at ck;obtain⟨⟨⟨⟨c1,c2⟩,c3⟩,c4⟩,c5⟩:=ck;have g1: ∀k∈kc i,k∈E:=λk hk=>wH.mp (all_eq_true.mp c1 k hk);have g4: ∀k∈E,k<5:=λk hk=>of_decide_eq_true (all_eq_true.mp c4 k hk);have g5: ∀j,j<n-> ∀k∈kc j,k<5:=λj hj k hk=>by have:=all_eq_true.mp c5 j (mem_range.mpr hj);rw [aE]at this;exact of_decide_eq_true (all_eq_true.mp this.1 k hk)
 have g2: ∀j,j<n->j≠i->(∀k∈kc j,k∈E)-> ∀k∈fc j,k∈E:=λj hj hne hk k hkf=>by
  have:=all_eq_true.mp c2 j (mem_range.mpr hj);rw [or_eq_true,or_eq_true]at this;rcases this with(h|h)|h
  ·exact absurd (eq_of_beq h) hne
  ·rw [all_eq_true.mpr λk hk'=>wH.mpr (hk k hk')]at h;cases h
  ·exact wH.mp (all_eq_true.mp h k hkf)
 constructor
 ·intro h
  induction h with
  |key h=>
   obtain⟨k,hk,e⟩:=(hK i hi _).mp h;exact⟨k,g1 k hk,e⟩
  |@step x j hj hne _ hx ih=>
   obtain⟨k,hk,e⟩:=(hF j hj _).mp hx;refine⟨k,g2 j hj hne (λk' hk'=>?_) k hk,e⟩;obtain⟨k2,h2,e2⟩:=ih (w k') ((hK j hj _).mpr ⟨k',hk',rfl⟩);rw [inj k' k2 (g5 j hj k' hk') (g4 k2 h2) e2];exact h2
 ·rintro⟨k,hk,rfl⟩
  have go: ∀(m:Nat)(D:Ab),(∀k∈D,Kn K F n i (w k))-> ∀k∈itC n kc fc i m D,Kn K F n i (w k):=λm=>by
   induction m with
   |zero=>exact λD h=>h
   |succ m ih=>
    intro D h;refine ih (stC n kc fc i D) λk hk=>?_;unfold stC at hk;rcases mem_append.mp hk with hk|hk
    ·exact h k hk
    ·obtain⟨j,hj,hk⟩:=mem_flatMap.mp hk;split at hk
     ·rename_i hc;rw [aE]at hc;have hj:=mem_range.mp hj;refine .step j hj (λe=>?_) (λy hy=>?_) ((hF j hj _).mpr ⟨k,hk,rfl⟩)
      ·rw [e,beq_self_eq_true]at hc;cases hc.1
      ·obtain⟨k',hk',rfl⟩:=(hK j hj _).mp hy;exact h k' (wH.mp (all_eq_true.mp hc.2 k' hk'))
     ·simp at hk
  exact go 4 (kc i) (λk hk=>.key ((hK i hi _).mpr ⟨k,hk,rfl⟩)) k (wH.mp (all_eq_true.mp c3 k hk))
def yNL(inj: ∀a b,a<5->b<5->w a=w b->a=b)(hF: ∀j,j<n-> ∀x,x∈F j↔ ∃k,k∈fc j/\x=w k)(h5: ∀j,j<n-> ∀k∈fc j,k<5)(e5: ∀k∈E,k<5)(hE: ∀x,Kn K F n i x↔ ∃k,k∈E/\x=w k)(hi:i<n)(ck:ckR n fc i E B=true)(j:Nat):Rc K F n i j↔j∈B:=by
 unfold ckR at ck;simp only [aE]at ck;obtain⟨⟨c1,c2⟩,c3⟩:=ck;have hlt: ∀r∈B,r<n:=λr hr=>by have:=all_eq_true.mp c2 r hr;rw [aE]at this;exact of_decide_eq_true this.1
 have nE: ∀a,a<n-> ∀k∈fc a,(¬Kn K F n i (w k)↔k∉E):=λa ha k hk=>by
  rw [hE];constructor
  ·exact λh z=>h ⟨k,z,rfl⟩
  ·rintro h ⟨k2,h2,e⟩;rw [inj k k2 (h5 a ha k hk) (e5 k2 h2) e]at h;exact h h2
 constructor
 ·intro h
  induction h with
  |self=>exact wH.mp c1
  |@step x r k hr hk h1 h2 h3 ih=>
   have:=all_eq_true.mp c2 r ih;rw [aE]at this;have h4:=all_eq_true.mp this.2 k (mem_range.mpr hk);rw [or_eq_true]at h4;rcases h4 with h4|h4
   ·exact wH.mp h4
   ·obtain⟨a,ha,rfl⟩:=(hF r (hlt r ih) _).mp h1;obtain⟨b,hb,e⟩:=(hF k hk _).mp h2;have eab:=inj a b (h5 r (hlt r ih) a ha) (h5 k hk b hb) e;subst eab;have h5':=all_eq_true.mp h4 a ha;rw [wH.mpr hb,Bool.not_true,Bool.or_false]at h5';exact absurd (wH.mp h5') ((nE r (hlt r ih) a ha).mp h3)
 ·intro h
  have go: ∀(m:Nat)(D:Ab),(∀k∈D,k<n/\Rc K F n i k)-> ∀k∈itB n fc E m D,Rc K F n i k:=λm=>by
   induction m with
   |zero=>exact λD h k hk=>(h k hk).2
   |succ m ih=>
    intro D h;refine ih (stB n fc E D) λk hk=>?_;unfold stB at hk;rcases mem_append.mp hk with hk|hk
    ·exact h k hk
    ·obtain⟨h1,h2⟩:=mem_filter.mp hk;have hkn:=mem_range.mp h1;obtain⟨r,hr,h3⟩:=any_eq_true.mp h2;obtain⟨x,hx,h4⟩:=any_eq_true.mp h3;rw [aE]at h4;refine⟨hkn,.step r k (h r hr).2 hkn ((hF r (h r hr).1 _).mpr ⟨x,hx,rfl⟩) ((hF k hkn _).mpr ⟨x,wH.mp h4.1,rfl⟩) ((nE r (h r hr).1 x hx).mpr λz=>?_)⟩;rw [wH.mpr z]at h4;cases h4.2
  exact go 4 [i] (λk hk=>by rw [mS.mp hk];exact⟨hi,.self⟩) j (wH.mp (all_eq_true.mp c3 j h))
end
def nxC(n:Nat)(cl:Bool)(k:Nat):Nat:=if cl&&(k+1==n)then 0 else k+1
def frC(fx:Option Nat)(l:Ab):List Nat:=l.filter λk=>!(fx==some k)
def spC(n tn i:Nat):Nat:=(tn+i) % n
def kC(n tn:Nat)(fx:Option Nat)(i:Nat):List Nat:=frC fx [spC n tn i]
def fC(n:Nat)(cl:Bool)(tn:Nat)(fx:Option Nat)(i:Nat):List Nat:=frC fx [spC n tn i,nxC n cl (spC n tn i)]
def wkC(n:Nat)(cl:Bool)(s:Nat):Nat->Nat->List Nat
 |0,_=>[]
 |f+1,h=>if !(h==s)&&decide (h<n)then nxC n cl h::wkC n cl s f (nxC n cl h)else []
def wkE(n:Nat)(cl:Bool)(s:Nat):Nat->Nat->Bool
 |0,h=>!(!(h==s)&&decide (h<n))
 |f+1,h=>if !(h==s)&&decide (h<n)then decide (nxC n cl h<5)&&wkE n cl s f (nxC n cl h)else true
def lnC(n:Nat)(cl:Bool)(fx:Option Nat)(s:Nat):List Nat:=(if fx==some s then []else [s])++wkC n cl s 6 (fx.getD s)
def bhC(n:Nat)(cl:Bool)(fx:Option Nat)(s:Nat):Nat->Nat->List Nat
 |0,_=>[]
 |f+1,h=>if !(h==s)&&(decide (h<n)&& !(fx==some h))then h::bhC n cl fx s f (nxC n cl h)else []
def bhE(n:Nat)(cl:Bool)(fx:Option Nat)(s:Nat):Nat->Nat->Bool
 |0,h=>!(!(h==s)&&(decide (h<n)&& !(fx==some h)))
 |f+1,h=>if !(h==s)&&(decide (h<n)&& !(fx==some h))then bhE n cl fx s f (nxC n cl h)else true
def bdC(n:Nat)(cl:Bool)(fx:Option Nat)(s:Nat):List Nat:=bhC n cl fx s 6 (nxC n cl s)
def atC(n tn t:Nat):Nat:=(t+(n - tn)) % n
def duC(n:Nat)(cl:Bool)(fx:Option Nat)(tn i:Nat):List Nat:=(bdC n cl fx (spC n tn i)).map (atC n tn)
def vdC(n:Nat)(cl:Bool)(fx:Option Nat)(tn:Nat):Bool:=decide (1<=n)&&decide (n<=4)&&decide (tn<n)&&(fx.all λk=>decide (k<n+1 - cl.toNat))
def ckC(n:Nat)(cl:Bool)(fx:Option Nat)(tn i:Nat):Bool:=
 ckK n (kC n tn fx) (fC n cl tn fx) i (lnC n cl fx (spC n tn i))&&ckR n (fC n cl tn fx) i (lnC n cl fx (spC n tn i)) (i::duC n cl fx tn i)&&decide (i::duC n cl fx tn i).Nodup&&wkE n cl (spC n tn i) 6 (fx.getD (spC n tn i))&&bhE n cl fx (spC n tn i) 6 (nxC n cl (spC n tn i))&&(bdC n cl fx (spC n tn i)).all λt=>decide (t<n)
def rgC(n:Nat)(cl:Bool)(fx:Option Nat)(tn:Nat):Bool:=((List.range n).any λa=>(duC n cl fx tn a).any λb=>(duC n cl fx tn b).contains a)==(cl&& !(n==1)&&fx.isNone)
def yNM:((List.range 5).all λn=>[true,false].all λcl=>(none::(List.range 5).map some).all λfx=>(List.range 4).all λtn=>!vdC n cl fx tn || ((List.range n).all (λi=>ckC n cl fx tn i)&&rgC n cl fx tn))=true:=by decide+kernel
def zNR{n:Nat}{cl:Bool}{fx:Option Nat}{tn:Nat}(h:vdC n cl fx tn=true):(∀i,i<n->ckC n cl fx tn i=true)/\rgC n cl fx tn=true:=by
 have hv:=h;unfold vdC at hv;simp only [aE,decide_eq_true_eq]at hv;obtain⟨⟨⟨v1,v2⟩,v3⟩,v4⟩:=hv;have a1:=all_eq_true.mp yNM n (mem_range.mpr (by omega));have a2:=all_eq_true.mp a1 cl (by cases cl<;>simp)
 have a3:=all_eq_true.mp a2 fx (by
  cases fx with
  |none=>exact mF0
  |some k=>
   have:k<n+1 - cl.toNat:=of_decide_eq_true v4;exact mO _ (mM.mpr ⟨k,mem_range.mpr (by omega),rfl⟩))
 have a4:=all_eq_true.mp a3 tn (mem_range.mpr (by omega));rw [h,Bool.not_true,Bool.false_or,aE]at a4;exact⟨λi hi=>all_eq_true.mp a4.1 i (mem_range.mpr hi),a4.2⟩
theorem zLD: ∀ys:List (List Nat),strsOf (ys.map MV.str)=some ys
 |[]=>rfl
 |y::ys=>by rw [map_cons];unfold strsOf;rw [zLD ys];rfl
def fxM:Option Nat->MV
 |none=>.non
 |some k=>zC k
def yEG(k:Nat)(fx:Option Nat)(S:Sto):neF (.val (zC k)) (.val (fxM fx)) S=.ok (.val (.bl (!(fx==some k)))) S:=by
 cases fx with
 |none=>rfl
 |some j=>
  show neF (.val (.int (k:Int))) (.val (.int (j:Int))) S=_;rw [ne_int];congr 3;by_cases h:j=k
  ·subst h;simp
  ·rw [dF0 (by omega)];simp [h]
def zUY(k j:Nat)(S:Sto):neF (.val (zC k)) (.val (zC j)) S=.ok (.val (.bl (!(k==j)))) S:=by
 show neF (.val (.int (k:Int))) (.val (.int (j:Int))) S=_;rw [ne_int];congr 3;by_cases h:k=j
 ·subst h;simp
 ·rw [dF0 (by omega)];simp [h]
def lt_num(k j:Nat)(S:Sto):ltF (.val (zC k)) (.val (zC j)) S=.ok (.val (.bl (decide (k<j)))) S:=by show ltF (.val (.int (k:Int))) (.val (.int (j:Int))) S=_;rw [lt_int,dec_is (show(k:Int)<j↔k<j by omega)]
theorem zQA(n:Nat)(cl:Bool)(k:Nat)(S:Sto):zT 3 wP [.val (zC n),.val (.bl cl),.val (zC k)] S=.ok (.val (zC (nxC n cl k))) S:=by
 refine zAN rfl ?_ (zAZ _ _) (λl=>by simp);show xI (nY [some (zC n),some (.bl cl),some (zC k)] S)=_
 have hd:decide ((k:Int)+1=n)=(k+1==n):=by
  by_cases h:k+1=n
  ·rw [dT0 (by omega)];simp [h]
  ·rw [dF0 (by omega)];simp [h]
 by_cases hc:(cl&&(k+1==n))=true
 ·have e1:kI [some (zC n),some (.bl cl),some (zC k)] S=.ok (.ret (.val (.int 0))) S:=by rw [aE]at hc;unfold kI;simp? [hc.1,hd,hc.2]
  unfold nY nxC;rw [zFL e1,iP hc];rfl
 ·have e1:kI [some (zC n),some (.bl cl),some (zC k)] S=.ok (.next [some (zC n),some (.bl cl),some (zC k)]) S:=by
   unfold kI
   cases cl with
   |false=>simp? [fT,iF]
   |true=>
    have h2:(k+1==n)=false:=by
     cases h:(k+1==n)with
     |false=>rfl
     |true=>rw [h]at hc;exact absurd rfl hc
    simp? [hd,h2,fT,iF]
  unfold nY nxC;rw [zD e1,iN hc];unfold zEM;simp? [bok];rfl
abbrev wdA(ws:Aa)(k:Nat):List Nat:=(ws[k]?).getD []
def zLE{S:Sto}{lw:Nat}{ws:Aa}(hw:S[lw]? =some (.lst (ws.map MV.str))){k:Nat}(hk:k<ws.length):ixF (.val (.loc lw)) (.val (zC k)) S=.ok (.val (.str (wdA ws k))) S:=
 zGS hw (zFZ (by unfold wdA;rw [getElem?_map,gE0 hk];rfl))
abbrev NMr(lw n:Nat)(cl:Bool)(fx:Option Nat)(s l:Nat)(h:Bi):Rho:=[some (.loc lw),some (zC n),some (.bl cl),some (fxM fx),some (zC s),some (.loc l),h]
section
variable{S:Sto}{lw n s:Nat}{cl:Bool}{fx:Option Nat}{ws:Aa}
theorem zSR(hw:S[lw]? =some (.lst (ws.map MV.str)))(h5:ws.length=5): ∀(f m h:Nat)(zs:Ab),wkE n cl s f h=true->zs.length+f<=100->
  ∃h',xH xB jQ (f+1+m) (NMr lw n cl fx s S.length (some (zC h))) (S++[.lst ((zs.map (wdA ws)).map MV.str)])=.ok (.next (NMr lw n cl fx s S.length (some (zC h')))) (S++[.lst (((zs++wkC n cl s f h).map (wdA ws)).map MV.str)])
 |0,m,h,zs,he,_=>by
  have hc:(!(h==s)&&decide (h<n))=false:=by
   have he:(!(!(h==s)&&decide (h<n)))=true:=he
   cases z:(!(h==s)&&decide (h<n))with
   |false=>rfl
   |true=>rw [z]at he;cases he
  refine⟨h,?_⟩;rw [show wkC n cl s 0 h=[]from rfl,aN,show 0+1+m=m+1 by omega];refine cO ?_;unfold xB;simp? [zUY,lt_num]
  cases h1:(!(h==s))with
  |false=>rfl
  |true=>rw [h1,Bool.true_and]at hc;rw [iP rfl,hc]
 |f+1,m,h,zs,he,hl=>by
  have hT:xB (NMr lw n cl fx s S.length (some (zC h))) (S++[.lst ((zs.map (wdA ws)).map MV.str)])=.ok (!(h==s)&&decide (h<n)) (S++[.lst ((zs.map (wdA ws)).map MV.str)]):=by
   unfold xB;simp? [zUY,lt_num]
   cases h1:(!(h==s))with
   |false=>rfl
   |true=>rfl
  unfold wkE at he;unfold wkC;by_cases hc:(!(h==s)&&decide (h<n))=true
  ·rw [iP hc,aE]at he;rw [hc]at hT;obtain⟨h',e⟩:=zSR hw h5 f m (nxC n cl h) (zs++[nxC n cl h]) he.2 (by rw [lA,lS];omega);refine⟨h',?_⟩;have f1:gY (NMr lw n cl fx s S.length (some (zC h))) (S++[.lst ((zs.map (wdA ws)).map MV.str)])=.ok (.next (NMr lw n cl fx s S.length (some (zC (nxC n cl h))))) (S++[.lst ((zs.map (wdA ws)).map MV.str)]):=by unfold gY;simp? [zQA]
   have hw':(S++[.lst ((zs.map (wdA ws)).map MV.str)])[lw]? =some (.lst (ws.map MV.str)):=by rw [getElem?_append_left (gS0.mp hw).1];exact hw
   have hn5:nxC n cl h<ws.length:=by rw [h5];exact of_decide_eq_true he.1
   have f2:gZ (NMr lw n cl fx s S.length (some (zC (nxC n cl h)))) (S++[.lst ((zs.map (wdA ws)).map MV.str)])=.ok (.next (NMr lw n cl fx s S.length (some (zC (nxC n cl h))))) (S++[.lst (((zs++[nxC n cl h]).map (wdA ws)).map MV.str)]):=by unfold gZ;simp? [kP (zO S (.lst ((zs.map (wdA ws)).map MV.str))),zLE hw' hn5,bI (zO S (.lst ((zs.map (wdA ws)).map MV.str))) (show((zs.map (wdA ws)).map MV.str).length<1000000 by rw [lM,lM];omega),wA];rw [map_append,map_append];rfl
   rw [show f+1+1+m=(f+1+m)+1 by omega,cU hT (by unfold jQ;rw [zD f1];exact f2),e,iP hc,aA];rfl
  ·have hf:(!(h==s)&&decide (h<n))=false:=eq_false_iff.mpr hc;rw [hf]at hT;refine⟨h,?_⟩;rw [iN hc,aN,show f+1+1+m=(f+1+m)+1 by omega];exact cO hT
theorem yIR(hw:S[lw]? =some (.lst (ws.map MV.str)))(h5:ws.length=5)(hs:s<5)(he:wkE n cl s 6 (fx.getD s)=true):
  zT 5 cM [.val (.loc lw),.val (zC n),.val (.bl cl),.val (fxM fx),.val (zC s)] S=.ok (.new ((jZ (wX ((lnC n cl fx s).map (wdA ws)))).map MV.str)) S:=by
 obtain⟨z0,hz0⟩: ∃z0,z0=(if fx==some s then []else [s]):=⟨_,rfl⟩
 have hz1:z0.length<=1:=by rw [hz0];split<;>simp
 obtain⟨h',e5⟩:=zSR (S:=S) (fx:=fx) hw h5 6 9993 (fx.getD s) z0 he (by omega);obtain⟨T,hT⟩: ∃T:Sto,T=S++[.lst ((z0.map (wdA ws)).map MV.str)]:=⟨_,rfl⟩
 have hw0:(S++[.lst []])[lw]? =some (.lst (ws.map MV.str)):=by rw [getElem?_append_left (gS0.mp hw).1];exact hw
 have f1:jR (yE cF [.loc lw,zC n,.bl cl,fxM fx,zC s]) S=.ok (.next (NMr lw n cl fx s S.length none)) (S++[.lst []]):=by show jR [some (.loc lw),some (zC n),some (.bl cl),some (fxM fx),some (zC s),none,none] S=_;unfold jR;simp? [bok]
 have f2:nG (NMr lw n cl fx s S.length none) (S++[.lst []])=.ok (.next (NMr lw n cl fx s S.length none)) T:=by
  unfold nG
  cases hq:(fx==some s)with
  |true=>
   rw [hq,iP rfl]at hz0;simp? [yEG,hq,Bool.not_true,fT,iF];rw [hT,hz0];rfl
  |false=>
   rw [hq,iN xF0]at hz0;simp? [yEG,hq,Bool.not_false,kP (zO S (.lst [])),zLE hw0 (show s<ws.length by omega),bI (zO S (.lst [])) (show([]:Bh).length<1000000 by decide),wA];rw [hT,hz0];rfl
 have f3:nH (NMr lw n cl fx s S.length none) T=.ok (.next (NMr lw n cl fx s S.length (some (zC s)))) T:=by unfold nH;simp? [bok]
 have f4:nI (NMr lw n cl fx s S.length (some (zC s))) T=.ok (.next (NMr lw n cl fx s S.length (some (zC (fx.getD s))))) T:=by
  unfold nI
  cases fx with
  |none=>simp? [show zFI (.val (fxM none)) (.val .non) T=.ok (.val (.bl false)) T from rfl,fT,iF];rfl
  |some k=>simp? [show zFI (.val (fxM (some k))) (.val .non) T=.ok (.val (.bl true)) T from rfl];rfl
 have f5:zDP (NMr lw n cl fx s S.length (some (zC (fx.getD s)))) T=.ok (.next (NMr lw n cl fx s S.length (some (zC h')))) (S++[.lst (((lnC n cl fx s).map (wdA ws)).map MV.str)]):=by show xH xB jQ (6+1+9993) _ _=_;rw [hT,e5,hz0];rfl
 have hlen:(lnC n cl fx s).length<64:=by
  have hk: ∀(f h:Nat),(wkC n cl s f h).length<=f:=λf=>by
   induction f with
   |zero=>exact λh=>le_refl _
   |succ f ih=>
    intro h;unfold wkC;split
    ·rw [lC];have:=ih (nxC n cl h);omega
    ·rw [length_nil];omega
  unfold lnC;rw [lA, <-hz0];have:=hk 6 (fx.getD s);omega
 have hs6:zFR [.val (.loc S.length)] (S++[.lst (((lnC n cl fx s).map (wdA ws)).map MV.str)])=.ok (.new ((jZ (wX ((lnC n cl fx s).map (wdA ws)))).map MV.str)) (S++[.lst (((lnC n cl fx s).map (wdA ws)).map MV.str)]):=by unfold zFR;dsimp only;rw [cV (zO _ _)];dsimp only;rw [zLD];dsimp only;rw [iP (by rw [lM];exact hlen)]
 refine jE (T:=[.lst (((lnC n cl fx s).map (wdA ws)).map MV.str)]) rfl ?_ (zGA _ _);show xI (zBS (yE cF [.loc lw,zC n,.bl cl,fxM fx,zC s]) S)=_;unfold zBS;rw [zD f1,zD f2,zD f3,zD f4,zD f5];unfold zDQ;simp? [hs6];rfl
abbrev BHr(n:Nat)(cl:Bool)(fx:Option Nat)(s l:Nat)(h:Bi):Rho:=[some (zC n),some (.bl cl),some (fxM fx),some (zC s),some (.loc l),h]
theorem zSS: ∀(f m h:Nat)(zs:Ab),bhE n cl fx s f h=true->zs.length+f<=100->
  ∃h',xH xU kO (f+1+m) (BHr n cl fx s S.length (some (zC h))) (S++[.lst (zs.map zC)])=.ok (.next (BHr n cl fx s S.length (some (zC h')))) (S++[.lst ((zs++bhC n cl fx s f h).map zC)])
 |f,m,h,zs,he,hl=>by
  have hT:xU (BHr n cl fx s S.length (some (zC h))) (S++[.lst (zs.map zC)])=.ok (!(h==s)&&(decide (h<n)&& !(fx==some h))) (S++[.lst (zs.map zC)]):=by
   unfold xU;simp? [zUY,lt_num,yEG]
   cases h1:(!(h==s))with
   |false=>rfl
   |true=>cases h2:decide (h<n)with
    |false=>rfl
    |true=>rfl
  cases f with
  |zero=>
   have hc:(!(h==s)&&(decide (h<n)&& !(fx==some h)))=false:=by
    have he:(!(!(h==s)&&(decide (h<n)&& !(fx==some h))))=true:=he
    cases z:(!(h==s)&&(decide (h<n)&& !(fx==some h)))with
    |false=>rfl
    |true=>rw [z]at he;cases he
   rw [hc]at hT;refine⟨h,?_⟩;rw [show bhC n cl fx s 0 h=[]from rfl,aN,show 0+1+m=m+1 by omega];exact cO hT
  |succ f=>
   unfold bhE at he;unfold bhC;by_cases hc:(!(h==s)&&(decide (h<n)&& !(fx==some h)))=true
   ·rw [iP hc]at he;rw [hc]at hT;obtain⟨h',e⟩:=zSS f m (nxC n cl h) (zs++[h]) he (by rw [lA,lS];omega);refine⟨h',?_⟩;have f1:jS (BHr n cl fx s S.length (some (zC h))) (S++[.lst (zs.map zC)])=.ok (.next (BHr n cl fx s S.length (some (zC h)))) (S++[.lst ((zs++[h]).map zC)]):=by unfold jS;simp? [kP (zO S (.lst (zs.map zC))),bI (zO S (.lst (zs.map zC))) (show(zs.map zC).length<1000000 by rw [lM];omega),wA];rw [map_append];rfl
    have f2:jT (BHr n cl fx s S.length (some (zC h))) (S++[.lst ((zs++[h]).map zC)])=.ok (.next (BHr n cl fx s S.length (some (zC (nxC n cl h))))) (S++[.lst ((zs++[h]).map zC)]):=by unfold jT;simp? [zQA]
    rw [show f+1+1+m=(f+1+m)+1 by omega,cU hT (by unfold kO;rw [zD f1];exact f2),e,iP hc,aA];rfl
   ·have hf:(!(h==s)&&(decide (h<n)&& !(fx==some h)))=false:=eq_false_iff.mpr hc;rw [hf]at hT;refine⟨h,?_⟩;rw [iN hc,aN,show f+1+1+m=(f+1+m)+1 by omega];exact cO hT
theorem zZQ(he:bhE n cl fx s 6 (nxC n cl s)=true)(S:Sto):zT 4 bH [.val (zC n),.val (.bl cl),.val (fxM fx),.val (zC s)] S=.ok (.new ((bdC n cl fx s).map zC)) S:=by
 obtain⟨h',e3⟩:=zSS (S:=S) 6 9993 (nxC n cl s) [] he (by decide);rw [nil_append]at e3;refine zCT (T:=[.lst ((bdC n cl fx s).map zC)]) rfl ?_ (le_refl _) (zO _ _) (zXK _ _);show xI (zAJ [some (zC n),some (.bl cl),some (fxM fx),some (zC s),none,none] S)=_;have f1:bV [some (zC n),some (.bl cl),some (fxM fx),some (zC s),none,none] S=.ok (.next (BHr n cl fx s S.length none)) (S++[.lst []]):=by unfold bV;simp? [bok]
 have f2:bW (BHr n cl fx s S.length none) (S++[.lst []])=.ok (.next (BHr n cl fx s S.length (some (zC (nxC n cl s))))) (S++[.lst []]):=by unfold bW;simp? [zQA]
 have f3:zCI (BHr n cl fx s S.length (some (zC (nxC n cl s)))) (S++[.lst []])=.ok (.next (BHr n cl fx s S.length (some (zC h')))) (S++[.lst ((bdC n cl fx s).map zC)]):=by show xH xU kO (6+1+9993) _ _=_;exact e3
 unfold zAJ;rw [zD f1,zD f2,zD f3];rfl
end
theorem yIS(ns:Ad)(k:Int)(hk:0<=k): ∃c, ∀S:Sto,zT 2 zH [.val (.scr (ns.map MV.int)),.val (.int k)] S=.ok (.val (.int c)) S:=by
 have hlen: ∀S:Sto,zON [.val (.scr (ns.map MV.int))] S=.ok (.val (.int ns.length)) S:=λS=>by show R.ok (Er.val (.int (((ns.map MV.int).length:Nat):Int))) S=_;rw [lM]
 have e1: ∀S:Sto,gG [some (.scr (ns.map MV.int)),some (.int k)] S=if decide (k<ns.length)=true then(ixF (.val (.scr (ns.map MV.int))) (.val (.int k)) S).bind λr S1=>.ok (.ret r) S1 else .ok (.next [some (.scr (ns.map MV.int)),some (.int k)]) S:=λS=>by unfold gG;simp? [hlen,lt_int]
 by_cases hlt:k<ns.length
 ·obtain⟨d,hd⟩:=zVY (xs:=ns.map MV.int) (i:=k) hk (by rw [lM];exact hlt);obtain⟨c,rfl⟩: ∃c,d=.int c:=yGX (P:=λd=> ∃c,d=.int c) (λe he=>by obtain⟨c,_,rfl⟩:=mM.mp he;exact⟨c,rfl⟩) hd;refine⟨c,λS=>zAN rfl ?_ (zAZ _ _) (λl=>by simp)⟩;have hix:ixF (.val (.scr (ns.map MV.int))) (.val (.int k)) S=.ok (.val (.int c)) S:=by show(match atI (ns.map MV.int) k with |some d=>R.ok (Er.val d) S|none=>.no)=_;rw [hd]
  have e2:=e1 S;rw [dT0 hlt,iP rfl,hix,bok]at e2;show xI (wM [some (.scr (ns.map MV.int)),some (.int k)] S)=_;unfold wM;rw [zFL e2];rfl
 ·refine⟨0,λS=>zAN rfl ?_ (zAZ _ _) (λl=>by simp)⟩;have e2:=e1 S;rw [dF0 hlt,iN xF0]at e2;show xI (wM [some (.scr (ns.map MV.int)),some (.int k)] S)=_;unfold wM;rw [zD e2];rfl
def zLF{S X:Sto}{k:Nat}{o:MO}(h:S[k]? =some o):(S++X)[k]? =some o:=by rw [getElem?_append_left (gS0.mp h).1];exact h
def yNN(q:Int){n:Nat}(h1:1<=n)(h4:n<=4):((List.range n).map λk:Nat=>((q+(k:Int)) % (n:Int)).toNat).Nodup:=by
 unfold List.Nodup;rw [pairwise_map];refine List.Pairwise.imp_of_mem (λ{i j} hi hj hne e=>hne ?_) (nodup_range (n:=n));have hi:=mem_range.mp hi;have hj:=mem_range.mp hj;have:n=1\/n=2\/n=3\/n=4:=by omega
 rcases this with rfl|rfl|rfl|rfl<;>omega
abbrev vT(x:Ab):MV:=.tup [.str VAR,.str x]
def UsOk(x:Ab)(d:MV):Prop:=d=vT x\/ ∃i,d=.tup [.str IS,.int i]
def AtP(ws:Aa)(n:Nat)(cl:Bool)(k o:Nat)(a:Int×List MV):Prop:=a.1=(o:Int)/\ ∃us,a.2=vT (wdA ws k)::vT (wdA ws (nxC n cl k))::us/\us.length<=2/\ ∀d∈us,UsOk (wdA ws k) d
abbrev Zr(S:Sto)(tl:Ac)(al:Bj)(od:Ab)(X:Sto):Sto:=S++.lst (tl.map tbl)::.lst (al.map aM)::.lst (od.map zC)::X
abbrev Rr(sc:Bh)(lw n:Nat)(cl:Bool)(b:Nat)(k nu th te:Bi):Rho:=[some (.scr sc),some (.loc lw),some (zC n),some (.bl cl),some (.loc b),some (.loc (b+1)),some (.loc (b+2)),k,nu,th,te]
abbrev TbP(tl:Ac):Prop:= ∀p∈tl,2<=p.1/\p.1<=4/\p.2=1
section
variable{S:Sto}{tl:Ac}{al:Bj}{od:Ab}{X:Sto}{sc:Bh}{lw n:Nat}{cl:Bool}{ws:Aa}
def zr_t(S:Sto)(tl:Ac)(al:Bj)(od:Ab)(X:Sto):(Zr S tl al od X)[S.length]? =some (.lst (tl.map tbl)):=by simp [Zr]
def zr_a(S:Sto)(tl:Ac)(al:Bj)(od:Ab)(X:Sto):(Zr S tl al od X)[S.length+1]? =some (.lst (al.map aM)):=by simp [Zr]
def zr_o(S:Sto)(tl:Ac)(al:Bj)(od:Ab)(X:Sto):(Zr S tl al od X)[S.length+2]? =some (.lst (od.map zC)):=by simp [Zr]
def zr_st(tl':Ac):(Zr S tl al od X).set S.length (.lst (tl'.map tbl))=Zr S tl' al od X:=by simp [Zr]
def zr_sa(al':Bj):(Zr S tl al od X).set (S.length+1) (.lst (al'.map aM))=Zr S tl al' od X:=by simp [Zr]
def zQB(o:MO):Zr S tl al od X++[o]=Zr S tl al od (X++[o]):=by simp [Zr]
def yIT(cell: ∀(k:Int),0<=k-> ∀S, ∃c,zT 2 zH [.val (.scr sc),.val (.int k)] S=.ok (.val (.int c)) S)(k:Nat)(hl:tl.length<=100)(nu:Bi):
  ∃p nu' o,cK (Rr sc lw n cl S.length (some (zC k)) nu none none) (Zr S tl al od X)=.ok (.next (Rr sc lw n cl S.length (some (zC k)) nu' none none)) (Zr S (tl++[p]) al od (X++[o]))/\2<=p.1/\p.1<=4/\p.2=1:=by
 obtain⟨c,hc⟩:=cell (4+(k:Int)) (by omega) (Zr S tl al od X);obtain⟨ns,hns,e1⟩:=zSQ c (show 6<=10 by decide) (Zr S tl al od X);have e1:zT 2 xY [.val (.int c),.val (.int 6)] (Zr S tl al od X)=.ok (.new (ns.map MV.int)) (Zr S tl al od X):=e1;obtain⟨x,hx⟩: ∃x,ns[0]? =some x:=⟨_,gE0 (show 0<ns.length by omega)⟩
 have h0:=eN0 x (show(3:Int)≠0 by decide);have h1:=eL x (show(0:Int)<3 by decide);have f1:dX (Rr sc lw n cl S.length (some (zC k)) nu none none) (Zr S tl al od X)=.ok (.next (Rr sc lw n cl S.length (some (zC k)) (some (.loc (Zr S tl al od X).length)) none none)) (Zr S tl al od (X++[.lst (ns.map MV.int)])):=by unfold dX;simp? [hc,e1];rw [zQB]
 have hix:ixF (.val (.loc (Zr S tl al od X).length)) (.val (.int 0)) (Zr S tl al od (X++[.lst (ns.map MV.int)]))=.ok (.val (.int x)) (Zr S tl al od (X++[.lst (ns.map MV.int)])):=zGS (by rw [<-zQB];exact zO _ _) (zFZ (k:=0) (by rw [getElem?_map,hx];rfl));refine⟨(2+x % 3,1),some (.loc (Zr S tl al od X).length),.lst (ns.map MV.int),?_,by show 2<=2+x % 3;omega,by show 2+x % 3<=4;omega,rfl⟩;unfold cK;rw [zD f1];unfold zDM;simp? [kP (zr_t S tl al od (X++[.lst (ns.map MV.int)])),hix,mod_lit (show(0:Int)<3 by decide),tup2,bI (zr_t S tl al od (X++[.lst (ns.map MV.int)])) (show(tl.map tbl).length<1000000 by rw [lM];omega)];rw [show tl.map tbl++[.tup [.int (2+x % 3),.int 1]]=(tl++[(2+x % 3,1)]).map tbl by rw [map_append];rfl,zr_st]
theorem yEH(cell: ∀(k:Int),0<=k-> ∀S, ∃c,zT 2 zH [.val (.scr sc),.val (.int k)] S=.ok (.val (.int c)) S): ∀(ks:Ab)(tl:Ac)(X:Sto)(k nu:Bi),tl.length+ks.length<=100->TbP tl->
  ∃tl' X' k' nu',kY (gNm 7) cK [] (ks.map zC) (Rr sc lw n cl S.length k nu none none) (Zr S tl al od X)=.ok (.next (Rr sc lw n cl S.length k' nu' none none)) (Zr S tl' al od X')/\tl'.length=tl.length+ks.length/\TbP tl'
 |[],tl,X,k,nu,_,h=>⟨tl,X,k,nu,rfl,rfl,h⟩
 |i::ks,tl,X,k,nu,hl,h=>by
  rw [lC]at hl;obtain⟨p,nu1,o,e1,hp⟩:=yIT (S:=S) (tl:=tl) (al:=al) (od:=od) (X:=X) (lw:=lw) (n:=n) (cl:=cl) cell i (by omega) nu
  obtain⟨tl',X',k',nu',e,g1,g2⟩:=yEH cell ks (tl++[p]) (X++[o]) (some (zC i)) nu1 (by rw [lA,lS];omega) (λq hq=>by
   rcases mem_append.mp hq with hq|hq
   ·exact h q hq
   ·rw [mS.mp hq];exact hp)
  refine⟨tl',X',k',nu',?_,by rw [g1,lA,lS,lC];omega,g2⟩;rw [map_cons,yB (ρ0:=Rr sc lw n cl S.length (some (zC i)) nu none none) rfl e1 (xE _)];exact e
def yIU(cell: ∀(k:Int),0<=k-> ∀S, ∃c,zT 2 zH [.val (.scr sc),.val (.int k)] S=.ok (.val (.int c)) S)(hw:S[lw]? =some (.lst (ws.map MV.str)))(h5:ws.length=5)(hn:n<=4)(ht:TbP tl)(htl:tl.length=n)(hol:od.length=n)(hon: ∀o∈od,o<n){k:Nat}(hk:k<n)(hal:al.length<=100)(nu th te:Bi):
  ∃a nu' th' te' Y,cL (Rr sc lw n cl S.length (some (zC k)) nu th te) (Zr S tl al od X)=.ok (.next (Rr sc lw n cl S.length (some (zC k)) nu' th' te')) (Zr S tl (al++[a]) od (X++Y))/\AtP ws n cl k (od[k]'(by omega)) a:=by
 obtain⟨c,hc⟩:=cell (4+(k:Int)) (by omega) (Zr S tl al od X);obtain⟨ns,hns,e1⟩:=zSQ c (show 6<=10 by decide) (Zr S tl al od X);have e1:zT 2 xY [.val (.int c),.val (.int 6)] (Zr S tl al od X)=.ok (.new (ns.map MV.int)) (Zr S tl al od X):=e1;obtain⟨L1,hL1⟩: ∃L,L=(Zr S tl al od X).length:=⟨_,rfl⟩
 obtain⟨X1,hX1⟩: ∃X1,X1=X++[.lst (ns.map MV.int)]:=⟨_,rfl⟩
 have hwZ: ∀(tl:Ac)(al:Bj)(Y:Sto),(Zr S tl al od Y)[lw]? =some (.lst (ws.map MV.str)):=λ_ _ _=>zLF hw;have f1:dY (Rr sc lw n cl S.length (some (zC k)) nu th te) (Zr S tl al od X)=.ok (.next (Rr sc lw n cl S.length (some (zC k)) (some (.loc L1)) th te)) (Zr S tl al od X1):=by unfold dY;simp? [hc,e1];rw [zQB,hL1,hX1]
 have f2:dZ (Rr sc lw n cl S.length (some (zC k)) (some (.loc L1)) th te) (Zr S tl al od X1)=.ok (.next (Rr sc lw n cl S.length (some (zC k)) (some (.loc L1)) (some (.int ((k:Int)+1))) te)) (Zr S tl al od X1):=by unfold dZ;simp? [bok]
 have hd:decide ((k:Int)+1=n)=(k+1==n):=by
  by_cases h:k+1=n
  ·rw [dT0 (by omega)];simp [h]
  ·rw [dF0 (by omega)];simp [h]
 have f3:nA (Rr sc lw n cl S.length (some (zC k)) (some (.loc L1)) (some (.int ((k:Int)+1))) te) (Zr S tl al od X1)=.ok (.next (Rr sc lw n cl S.length (some (zC k)) (some (.loc L1)) (some (zC (nxC n cl k))) te)) (Zr S tl al od X1):=by
  unfold nA nxC
  cases cl with
  |false=>simp? [fT,iF,Bool.false_and];rfl
  |true=>
   cases h:(k+1==n)with
   |true=>simp? [hd,h,Bool.true_and];rfl
   |false=>simp? [hd,h,Bool.true_and,fT,iF];rfl
 have hnx:nxC n cl k<ws.length:=by unfold nxC;split<;>omega
 obtain⟨L2,hL2⟩: ∃L,L=(Zr S tl al od X1).length:=⟨_,rfl⟩
 obtain⟨X2,hX2⟩: ∃X2,X2=X1++[.lst [vT (wdA ws k),vT (wdA ws (nxC n cl k))]]:=⟨_,rfl⟩
 have f4:nB (Rr sc lw n cl S.length (some (zC k)) (some (.loc L1)) (some (zC (nxC n cl k))) te) (Zr S tl al od X1)=.ok (.next (Rr sc lw n cl S.length (some (zC k)) (some (.loc L1)) (some (zC (nxC n cl k))) (some (.loc L2)))) (Zr S tl al od X2):=by unfold nB;simp? [zLE (hwZ tl al X1) (show k<ws.length by omega),zLE (hwZ tl al X1) hnx,tup2,yBX];rw [zQB,hL2,hX2]
 have hN:(Zr S tl al od X2)[L1]? =some (.lst (ns.map MV.int)):=by rw [hX2, <-zQB,hX1, <-zQB,hL1];exact zLF (zO _ _)
 have hT:(Zr S tl al od X2)[L2]? =some (.lst [vT (wdA ws k),vT (wdA ws (nxC n cl k))]):=by rw [hX2, <-zQB,hL2];exact zO _ _
 obtain⟨us,hco,hul,hus⟩:=zRC (S:=Zr S tl al od X2) (gf:=gNm 0) (cf:=zDN) (ef:=jP) (ρb:=[none,some (.loc lw),some (zC k)]) (gs:=[]) (P:=UsOk (wdA ws k)) (xE _) (ds:=jW (ns.map MV.int) (some 1) (some 3)) λd hd=>by
  obtain⟨x,rfl⟩: ∃x,d=.int x:=by unfold jW at hd;obtain⟨x,_,e⟩:=mM.mp (List.mem_of_mem_drop (mem_of_mem_take hd));exact⟨x,e.symm⟩
  have hp: ∀S:Sto,powF (.val (.int 10)) (.val (.int 8)) S=.ok (.val (.int (10 ^ 8))) S:=λS=>yGR (by unfold yBD;decide+kernel) S;have hx0:=eN0 x (show(2:Int)≠0 by decide);have hx1:=eL x (show(0:Int)<2 by decide);have h2:x % 2=0\/x % 2=1:=by omega
  rcases h2 with h2|h2
  ·refine⟨[some (.int x),some (.loc lw),some (zC k)],.tup [.str IS,.int (x / 2 % 10 ^ 8)],rfl,rfl,?_,.inr ⟨_,rfl⟩⟩;unfold jP;simp? [xD (b:=2) (by decide) (by decide),hp,mod_lit (show(0:Int)<10 ^ 8 by decide),tup2,zLE (hwZ tl al X2) (show k<ws.length by omega),yBX,mod_lit (show(0:Int)<2 by decide),h2,yBW (ds:=[.tup [.str [105,115],.int (x / 2 % 10 ^ 8)],.tup [.str [118,97,114],.str (wdA ws k)]]) (i:=0) (d:=.tup [.str [105,115],.int (x / 2 % 10 ^ 8)]) rfl]
  ·refine⟨[some (.int x),some (.loc lw),some (zC k)],vT (wdA ws k),rfl,rfl,?_,.inl rfl⟩;unfold jP;simp? [xD (b:=2) (by decide) (by decide),hp,mod_lit (show(0:Int)<10 ^ 8 by decide),tup2,zLE (hwZ tl al X2) (show k<ws.length by omega),yBX,mod_lit (show(0:Int)<2 by decide),h2,yBW (ds:=[.tup [.str [105,115],.int (x / 2 % 10 ^ 8)],.tup [.str [118,97,114],.str (wdA ws k)]]) (i:=1) (d:=.tup [.str [118,97,114],.str (wdA ws k)]) rfl]
 have hcl:(jW (ns.map MV.int) (some 1) (some 3)).length<=2:=by unfold jW;rw [lT,lM,hns];exact le_trans (Nat.min_le_left _ _) (by decide)
 have hb: ∀a b c d e f g h i j k:Option MV,blk 1 [1,7] [a,b,c,d,e,f,g,h,i,j,k]=[none,b,h]:=λ_ _ _ _ _ _ _ _ _ _ _=>rfl;have hul2:us.length<=2:=by omega
 have hadd:xW (.val (.loc L2)) (.new us) (Zr S tl al od X2)=.ok (.new (vT (wdA ws k)::vT (wdA ws (nxC n cl k))::us)) (Zr S tl al od X2):=by rw [zTZ (zWA hT) (show lsW (Zr S tl al od X2) (.new us)=some us from rfl) (fits (by show 2+us.length<=_;omega))];rfl
 obtain⟨L3,hL3⟩: ∃L,L=(Zr S tl al od X2).length:=⟨_,rfl⟩
 obtain⟨X3,hX3⟩: ∃X3,X3=X2++[.lst (vT (wdA ws k)::vT (wdA ws (nxC n cl k))::us)]:=⟨_,rfl⟩
 have f5:nF (Rr sc lw n cl S.length (some (zC k)) (some (.loc L1)) (some (zC (nxC n cl k))) (some (.loc L2))) (Zr S tl al od X2)=.ok (.next (Rr sc lw n cl S.length (some (zC k)) (some (.loc L1)) (some (zC (nxC n cl k))) (some (.loc L3)))) (Zr S tl al od X3):=by unfold nF;simp? [zPZ hN,zEW,show(jW (ns.map MV.int) (some 1) (some 3)).length<1000000 by omega,hb,hco,hadd];rw [zQB,hL3,hX3]
 have hT3:(Zr S tl al od X3)[L3]? =some (.lst (vT (wdA ws k)::vT (wdA ws (nxC n cl k))::us)):=by rw [hX3, <-zQB,hL3];exact zO _ _
 have hko:k<od.length:=by omega
 obtain⟨o,ho⟩: ∃o,o=od[k]:=⟨_,rfl⟩
 have hoo:o<n:=by rw [ho];exact hon _ (getElem_mem hko)
 obtain⟨p,hp⟩: ∃p,tl[o]? =some p:=⟨_,gE0 (show o<tl.length by omega)⟩
 have hpp:=ht p (mem_of_getElem? hp);have hio:ixF (.val (.loc (S.length+2))) (.val (zC k)) (Zr S tl al od X3)=.ok (.val (zC o)) (Zr S tl al od X3):=zGS (zr_o _ _ _ _ _) (zFZ (by rw [getElem?_map,gE0 hko, <-ho];rfl));have hit:ixF (.val (.loc S.length)) (.val (zC o)) (Zr S tl al od X3)=.ok (.val (tbl p)) (Zr S tl al od X3):=zGS (zr_t _ _ _ _ _) (zFZ (by rw [getElem?_map,hp];rfl));have hit0:ixF (.val (tbl p)) (.val (.int 0)) (Zr S tl al od X3)=.ok (.val (.int p.1)) (Zr S tl al od X3):=rfl;obtain⟨q,hq⟩: ∃q:Nat,p.1.toNat=q+2:=⟨p.1.toNat - 2,by omega⟩
 have hcut:jW (vT (wdA ws k)::vT (wdA ws (nxC n cl k))::us) none (some p.1)=vT (wdA ws k)::vT (wdA ws (nxC n cl k))::us.take q:=by rw [zOP _ p.1 (by omega),hq];rfl
 refine⟨((o:Int),vT (wdA ws k)::vT (wdA ws (nxC n cl k))::us.take q),some (.loc L1),some (zC (nxC n cl k)),some (.loc L3),[.lst (ns.map MV.int),.lst [vT (wdA ws k),vT (wdA ws (nxC n cl k))],.lst (vT (wdA ws k)::vT (wdA ws (nxC n cl k))::us)],?_,by rw [<-ho],us.take q,rfl,by rw [lT];omega,λd hd=>hus d (mem_of_mem_take hd)⟩;unfold cL;rw [zD f1,zD f2,zD f3,zD f4,zD f5];unfold zDO;simp? [kP (zr_a S tl al od X3),hio,hit,hit0,zPZ hT3,hcut,show∀(ds:Bh)(S:Sto),zCS [.new ds] S=.ok (.val (.tup ds)) S from λ_ _=>rfl,tup2,bI (zr_a S tl al od X3) (show(al.map aM).length<1000000 by rw [lM];omega)];rw [show al.map aM++[.tup [.int (o:Int),.tup (vT (wdA ws k)::vT (wdA ws (nxC n cl k))::us.take q)]]=(al++[((o:Int),vT (wdA ws k)::vT (wdA ws (nxC n cl k))::us.take q)]).map aM by rw [map_append];rfl,zr_sa,hX3,hX2,hX1];simp only [aA,cons_append,nil_append]
end
theorem zZR{n:Nat}{F:List MV->Sto->R Er}{rs:List Er}{S S2:Sto}{d:MV}(hn:rs.length=n)(hF:F (zQ rs S).1 (zQ rs S).2=.ok (.val d) S2)(hd: ∀l,d≠.loc l)(h: ¬lo S.length d):zT n F rs S=.ok (.val d) S2:=by
 unfold zT;rw [iP hn,hF];show bY S (.val d) S2=_;unfold bY;split
 ·split
  ·rename_i l e;cases e;exact absurd rfl (hd l)
  ·rename_i e;cases e;rw [iN h]
  ·rename_i e;cases e
 ·rfl
section
variable{S:Sto}{sc:Bh}{lw n:Nat}{cl:Bool}{ws:Aa}
theorem yEI(cell: ∀(k:Int),0<=k-> ∀S, ∃c,zT 2 zH [.val (.scr sc),.val (.int k)] S=.ok (.val (.int c)) S)(hw:S[lw]? =some (.lst (ws.map MV.str)))(h5:ws.length=5)(hn:n<=4){tl:Ac}{od:Ab}(ht:TbP tl)(htl:tl.length=n)(hol:od.length=n)(hon: ∀o∈od,o<n): ∀(m k:Nat)(al:Bj)(X:Sto)(kk nu th te:Bi),k+m=n->al.length=k->(∀j a,al[j]? =some a-> ∃o,od[j]? =some o/\AtP ws n cl j o a)->
  ∃al' X' k' nu' th' te',kY (gNm 7) cL [] ((List.range' k m).map zC) (Rr sc lw n cl S.length kk nu th te) (Zr S tl al od X)=.ok (.next (Rr sc lw n cl S.length k' nu' th' te')) (Zr S tl al' od X')/\al'.length=n/\ ∀j a,al'[j]? =some a-> ∃o,od[j]? =some o/\AtP ws n cl j o a
 |0,k,al,X,kk,nu,th,te,hk,hl,h=>⟨al,X,kk,nu,th,te,rfl,by omega,h⟩
 |m+1,k,al,X,kk,nu,th,te,hk,hl,h=>by
  obtain⟨a,nu1,th1,te1,Y,e1,ha⟩:=yIU (S:=S) (tl:=tl) (al:=al) (od:=od) (X:=X) (cl:=cl) cell hw h5 hn ht htl hol hon (show k<n by omega) (by omega) nu th te
  obtain⟨al',X',k',nu',th',te',e,g1,g2⟩:=yEI cell hw h5 hn ht htl hol hon m (k+1) (al++[a]) (X++Y) (some (zC k)) nu1 th1 te1 (by omega) (by rw [lA,lS];omega) (λj b hb=>by
   by_cases hj:j<al.length
   ·rw [getElem?_append_left hj]at hb;exact h j b hb
   ·rw [getElem?_append_right (by omega)]at hb
    have hj0:j - al.length=0:=by
     cases z:j - al.length with
     |zero=>rfl
     |succ x=>rw [z]at hb;simp at hb
    rw [hj0]at hb;have hb:some a=some b:=hb;cases hb;obtain rfl:j=k:=by omega
    exact⟨_,gE0 (by omega),ha⟩)
  refine⟨al',X',k',nu',th',te',?_,g1,g2⟩;rw [range'_succ,map_cons,yB (ρ0:=Rr sc lw n cl S.length (some (zC k)) nu th te) rfl e1 (xE _)];exact e
def yNO(cell: ∀(k:Int),0<=k-> ∀S, ∃c,zT 2 zH [.val (.scr sc),.val (.int k)] S=.ok (.val (.int c)) S)(c1:Int)(hc1: ∀S,zT 2 zH [.val (.scr sc),.val (.int 1)] S=.ok (.val (.int c1)) S)(hw:S[lw]? =some (.lst (ws.map MV.str)))(h5:ws.length=5)(hn1:1<=n)(hn:n<=4):
  ∃(tl:Ac)(al:Bj)(od:Ab)(X:Sto),tl.length=n/\TbP tl/\al.length=n/\od.length=n/\od.Nodup/\(∀o∈od,o<n)/\(∀j a,al[j]? =some a-> ∃o,od[j]? =some o/\AtP ws n cl j o a)/\
   zT 4 zBR [.val (.scr sc),.val (.loc lw),.val (zC n),.val (.bl cl)] S=.ok (.val (.tup [.tup (tl.map tbl),.loc (S.length+1)])) (Zr S tl al od X):=by
 obtain⟨od,hod⟩: ∃od:List Nat,od=(List.range n).map λk:Nat=>((c1 / 8+(k:Int)) % (n:Int)).toNat:=⟨_,rfl⟩
 have hol:od.length=n:=by rw [hod,lM,length_range]
 have hon: ∀o∈od,o<n:=λo ho=>by rw [hod]at ho;obtain⟨k,_,rfl⟩:=mM.mp ho;have:=eN0 (c1 / 8+(k:Int)) (show(n:Int)≠0 by omega);have:=eL (c1 / 8+(k:Int)) (show(0:Int)<n by omega);omega
 obtain⟨tl,X1,k1,nu1,e4,g1,g2⟩:=yEH (S:=S) (al:=[]) (od:=od) (lw:=lw) (n:=n) (cl:=cl) cell (List.range n) [] [] none none (by rw [length_nil,length_range];omega) (λp hp=>by simp at hp);rw [length_nil,length_range,zero_add]at g1;obtain⟨al,X2,k2,nu2,th2,te2,e5,g3,g4⟩:=yEI (S:=S) (cl:=cl) cell hw h5 hn g2 g1 hol hon n 0 [] X1 k1 nu1 none none (by omega) rfl (λj a h=>by simp at h);rw [<-List.range_eq_range']at e5;refine⟨tl,al,od,X2,g1,g2,g3,hol,by rw [hod];exact yNN (c1 / 8) hn1 hn,hon,g4,?_⟩;have s1:S++[.lst []]++[.lst []]=S++[.lst [],.lst []]:=by rw [aA];rfl
 have f1:zBL [some (.scr sc),some (.loc lw),some (zC n),some (.bl cl),none,none,none,none,none,none,none] S=.ok (.next [some (.scr sc),some (.loc lw),some (zC n),some (.bl cl),some (.loc S.length),none,none,none,none,none,none]) (S++[.lst []]):=by unfold zBL;simp? [bok]
 have f2:zBM [some (.scr sc),some (.loc lw),some (zC n),some (.bl cl),some (.loc S.length),none,none,none,none,none,none] (S++[.lst []])=.ok (.next [some (.scr sc),some (.loc lw),some (zC n),some (.bl cl),some (.loc S.length),some (.loc (S.length+1)),none,none,none,none,none]) (S++[.lst [],.lst []]):=by unfold zBM;simp? [bok];rw [s1,lA];rfl
 have hco:xP (gNm 0) zDL dW [none,some (.scr sc),some (zC n)] [] ((List.range n).map zC) (S++[.lst [],.lst []])=.ok (od.map zC) (S++[.lst [],.lst []]):=by
  rw [hod,map_map];refine bA (xE _) λk _=>⟨[some (zC k),some (.scr sc),some (zC n)],rfl,rfl,?_⟩
  have:=eN0 (c1 / 8+(k:Int)) (show(n:Int)≠0 by omega);unfold dW;simp? [hc1,xD (b:=8) (by decide) (by decide),mod_lit (b:=(n:Int)) (by omega)];show R.ok (Er.val (.int ((c1 / 8+(k:Int)) % (n:Int)))) _=R.ok (Er.val (.int (((c1 / 8+(k:Int)) % (n:Int)).toNat:Int))) _;rw [Int.toNat_of_nonneg this]
 have hb: ∀a b c d e f g h i j k:Option MV,blk 1 [0,2] [a,b,c,d,e,f,g,h,i,j,k]=[none,a,c]:=λ_ _ _ _ _ _ _ _ _ _ _=>rfl;have hrl:(List.range n).length<1000000:=by rw [length_range];omega
 have f3:zBN [some (.scr sc),some (.loc lw),some (zC n),some (.bl cl),some (.loc S.length),some (.loc (S.length+1)),none,none,none,none,none] (S++[.lst [],.lst []])=.ok (.next (Rr sc lw n cl S.length none none none none)) (Zr S [] [] od []):=by unfold zBN;simp? [zPX (n:=n) (by omega),lM,hrl,hb,hco];rw [aA,lA];rfl
 have f4:zBO (Rr sc lw n cl S.length none none none none) (Zr S [] [] od [])=.ok (.next (Rr sc lw n cl S.length k1 nu1 none none)) (Zr S tl [] od X1):=by unfold zBO;simp? [zPX (n:=n) (by omega)];exact e4
 have f5:zBP (Rr sc lw n cl S.length k1 nu1 none none) (Zr S tl [] od X1)=.ok (.next (Rr sc lw n cl S.length k2 nu2 th2 te2)) (Zr S tl al od X2):=by unfold zBP;simp? [zPX (n:=n) (by omega)];exact e5
 have f6:zBQ (Rr sc lw n cl S.length k2 nu2 th2 te2) (Zr S tl al od X2)=.ok (.ret (.val (.tup [.tup (tl.map tbl),.loc (S.length+1)]))) (Zr S tl al od X2):=by unfold zBQ;simp? [zZM (zr_t S tl al od X2),tup2]
 refine zZR rfl ?_ (λl=>by simp) (λz=>?_)
 ·show xI (zEV [some (.scr sc),some (.loc lw),some (zC n),some (.bl cl),none,none,none,none,none,none,none] S)=_;unfold zEV;rw [zD f1,zD f2,zD f3,zD f4,zD f5,f6];rfl
 ·unfold lo loL at z;have z2:=z.2;unfold loL at z2;have z3:=z2.1;unfold lo at z3;omega
end
theorem zXS: ∀ks:List (List Nat),bQ (ks.map MV.str)=some ks
 |[]=>rfl
 |x::ks=>by rw [map_cons];unfold bQ;rw [zXS ks];rfl
def yEJ{S:Sto}{l:Nat}{ks:Aa}(h:S[l]? =some (.dic (dT ks)))(hl:ks.length<64):zKB [.val (.loc l)] S=.ok (.new ((jZ ks).map MV.str)) S:=by unfold zKB;dsimp only;rw [zDR h (zID ks)];dsimp only;rw [iP (show(dT ks).length<64 by unfold dT;rw [lM];exact hl),zPT,zXS]
section
variable{ts:Ac}{hs:Aa}{as:Bj}
theorem zZS(Q:QOk ts as){i:Nat}(hi:i<as.length)(S:Sto): ∃ks:List (List Nat),ks.Nodup/\(∀x,x∈ks↔KnQ ts hs as i x)/\zT 3 zFW [.val (.tup (ts.map tbl)),.val (qM hs as),.val (zC i)] S=.ok (.new ((jZ ks).map MV.str)) S:=by
 obtain⟨ks,T,e,hk,hn⟩:=zSM (hs:=hs) Q.at' Q.len hi S;have hl:ks.length<64:=by have h1:=zBU hn λx hx=>yDL hi ((hk x).mp hx);have h2:=zIV (hs:=hs) Q.at';have h3:=Q.len;omega
 refine⟨ks,hn,hk,?_⟩;refine jE (T:=.dic (dT ks)::T) rfl ?_ (zGA _ _);show xI (zPB [some (.tup (ts.map tbl)),some (qM hs as),some (zC i)] S)=_;have f1:zHD [some (.tup (ts.map tbl)),some (qM hs as),some (zC i)] S=.ok (.next [some (.tup (ts.map tbl)),some (qM hs as),some (zC i)]) S:=by unfold zHD;simp? [zXO Q.len Q.pos Q.nd]
 unfold zPB;rw [zD f1];unfold zNI;simp? [e,yEJ (zHO S T (.dic (dT ks))) hl];rfl
def zZT{ks ks':Aa}(h:ks.Nodup)(h':ks'.Nodup)(e: ∀x,x∈ks↔x∈ks'):jZ ks=jZ ks':=
 zRR ((cW ks).trans ((List.perm_ext_iff_of_nodup h h').mpr e)) (zCY ks)
end
def yIV{S:Sto}{p q:Er}{ds:Bh}(hp:vwE S p=some (.ls ds))(hq:vwE S q=some (.ls ds))(hd: ∀d∈ds,pd d=true/\dpt d<40):zIJ S zM p q=some true:=by unfold zIJ;rw [hp,hq];show eqW (eqv S zM) (.ls ds) (.ls ds)=some true;obtain⟨bs,h1,h2⟩:=zKV (e:=eqv S zM) (ds:=ds) (es:=ds) λa ha b hb=>zKW zM (hd a ha).1 (hd b hb).1 (by unfold zM;exact(hd a ha).2);rw [zOJ,iP rfl,h1];rw [dT0 rfl]at h2;show some (bs.all id)=some true;rw [aE]at h2;rw [h2.1]
theorem yJM{S:Sto}{p q:Er}{ds:Bh}(hp:vwE S p=some (.ls ds))(hq:vwE S q=some (.ls ds))(hd: ∀d∈ds,pd d=true/\dpt d<40):neF p q S=.ok (.val (.bl false)) S:=by unfold neF;rw [yIV hp hq hd];rfl
def hsO(ws:Aa):Option Nat->List (List Nat)
 |none=>[]
 |some f=>[wdA ws f]
def zUZ{ws:Aa}(h5:ws.length=5)(hn:ws.Nodup)(a b:Nat)(ha:a<5)(hb:b<5)(e:wdA ws a=wdA ws b):a=b:=by unfold wdA at e;rw [gE0 (show a<ws.length by omega),gE0 (show b<ws.length by omega)]at e;exact(getElem_inj hn).mp e
def zHP{ws:Aa}(h5:ws.length=5)(hn:ws.Nodup){fx:Option Nat}(hf: ∀f,fx=some f->f<5){k:Nat}(hk:k<5):wdA ws k∉hsO ws fx↔(!(fx==some k))=true:=by
 cases fx with
 |none=>exact⟨λ_=>rfl,λ_ z=>by simp [hsO]at z⟩
 |some f=>
  have hf:=hf f rfl;show wdA ws k∉[wdA ws f]↔_;rw [mS];by_cases h:f=k
  ·subst h;simp
  ·have:(some f==some k)=false:=by simp [h]
   rw [this];exact⟨λ_=>rfl,λ_ e=>h (zUZ h5 hn k f hk hf e).symm⟩
section
variable{ws:Aa}{n tn:Nat}{cl:Bool}{fx:Option Nat}{tl:Ac}{al:Bj}{od:Ab}
def yEK(hl:al.length=n)(ht:tn<n){i:Nat}(hi:i<n):(al.drop tn++al.take tn)[i]? =al[spC n tn i]? :=by
 unfold spC;by_cases h:tn+i<n
 ·rw [getElem?_append_left (by rw [length_drop];omega),getElem?_drop,Nat.mod_eq_of_lt h]
 ·rw [getElem?_append_right (by rw [length_drop];omega),length_drop,getElem?_take_of_lt (by omega)];have:(tn+i) % n=i - (al.length - tn):=by rw [Nat.mod_eq_sub_mod (by omega),Nat.mod_eq_of_lt (by omega)];omega
  rw [this]
def nx_lt(h1:1<=n)(h4:n<=4){k:Nat}(hk:k<n):nxC n cl k<5:=by unfold nxC;split<;>omega
def zST{k o:Nat}{a:Int×List MV}(h:AtP ws n cl k o a):(∀d∈a.2,zZN d)/\a.2.length<=4/\ ∀x,x∈a.2.filterMap vn↔x=wdA ws k\/x=wdA ws (nxC n cl k):=by
 obtain⟨_,us,e,hl,hu⟩:=h;rw [e];refine⟨λd hd=>?_,by rw [lC,lC];omega,λx=>?_⟩
 ·rcases mC.mp hd with rfl|hd
  ·exact .inl ⟨_,rfl⟩
  ·rcases mC.mp hd with rfl|hd
   ·exact .inl ⟨_,rfl⟩
   ·rcases hu d hd with rfl|⟨i,rfl⟩
    ·exact .inl ⟨_,rfl⟩
    ·exact .inr ⟨_,.inl ⟨_,rfl⟩,rfl⟩
 ·rw [filterMap_cons,zKY];dsimp only;rw [filterMap_cons,zKY];dsimp only;rw [mC,mC];constructor
  ·rintro(h|h|h)
   ·exact .inl h
   ·exact .inr h
   ·obtain⟨d,hd,e2⟩:=mem_filterMap.mp h;rcases hu d hd with rfl|⟨i,rfl⟩
    ·rw [zKY]at e2;exact .inl (Option.some.inj e2).symm
    ·simp [vn]at e2
  ·rintro(h|h)
   ·exact .inl h
   ·exact .inr (.inl h)
structure RwOk(ws:Aa)(n:Nat)(cl:Bool)(tl:Ac)(al:Bj)(od:Ab):Prop where
 n1:1<=n
 n4:n<=4
 w5:ws.length=5
 wn:ws.Nodup
 tl':tl.length=n
 tb:TbP tl
 al':al.length=n
 ol:od.length=n
 ond:od.Nodup
 on: ∀o∈od,o<n
 at': ∀j a,al[j]? =some a-> ∃o,od[j]? =some o/\AtP ws n cl j o a
def RwOk.tab(R:RwOk ws n cl tl al od){j:Nat}{a:Int×List MV}(h:al[j]? =some a): ∃p,atI tl a.1=some p/\p.2=1:=by obtain⟨o,ho,ha⟩:=R.at' j a h;have hon:=R.on o (mem_of_getElem? ho);have htl:=R.tl';have hp:tl[o]? =some tl[o]:=gE0 (by omega);refine⟨tl[o],?_,(R.tb _ (getElem_mem _)).2.2⟩;rw [ha.1];exact zFZ hp
def RwOk.q(R:RwOk ws n cl tl al od)(ht:tn<n):QOk tl (al.drop tn++al.take tn):=by
 have hal:=R.al'
 have mem: ∀a,a∈al.drop tn++al.take tn-> ∃j,al[j]? =some a:=λa ha=>by
  have:a∈al:=by
   rcases mem_append.mp ha with h|h
   ·exact List.mem_of_mem_drop h
   ·exact mem_of_mem_take h
  exact List.mem_iff_getElem?.mp this
 have eod:al.map (λa=>a.1.toNat)=od:=by
  refine ext_getElem? λj=>?_;rw [getElem?_map];by_cases hj:j<n
  ·have h1:al[j]? =some al[j]:=gE0 (by omega);obtain⟨o,ho,ha⟩:=R.at' j _ h1;rw [h1,ho];show some al[j].1.toNat=some o;rw [ha.1];rfl
  ·rw [getElem?_eq_none (by omega),getElem?_eq_none (by have:=R.ol;omega)];rfl
 refine⟨λa ha=>?_,by rw [lA,length_drop,lT];have:=R.n4;omega,λa ha=>?_,?_,by rw [lA,length_drop,lT];have:=R.n1;omega⟩
 ·obtain⟨j,hj⟩:=mem a ha;obtain⟨p,hp,hp2⟩:=R.tab hj;obtain⟨o,ho,hA⟩:=R.at' j a hj;obtain⟨t1,t2,_⟩:=zST hA;exact⟨⟨p,hp,by omega⟩,t1,t2⟩
 ·obtain⟨j,hj⟩:=mem a ha;obtain⟨o,ho,hA⟩:=R.at' j a hj;rw [hA.1];omega
 ·rw [map_append,map_drop,map_take,eod];exact(List.perm_append_comm (l₁:=od.drop tn) (l₂:=od.take tn)).nodup_iff.mpr (by rw [List.take_append_drop];exact R.ond)
def RwOk.len(R:RwOk ws n cl tl al od)(ht:tn<n):(al.drop tn++al.take tn).length=n:=by rw [lA,length_drop,lT];have:=R.al';omega
def yEL(ht:tn<n)(i:Nat):spC n tn i<n:=mod_lt _ (by omega)
def RwOk.f(R:RwOk ws n cl tl al od)(ht:tn<n)(hf: ∀f,fx=some f->f<5)(j:Nat)(hj:j<n)(x:Ab):x∈Fq (hsO ws fx) (al.drop tn++al.take tn) j↔ ∃k,k∈fC n cl tn fx j/\x=wdA ws k:=by
 have hsp:=yEL ht j;have hal:=R.al';have ha:al[spC n tn j]? =some al[spC n tn j]:=gE0 (by omega);obtain⟨o,_,hA⟩:=R.at' _ _ ha;obtain⟨_,_,h3⟩:=zST hA;have hn5:=nx_lt (cl:=cl) R.n1 R.n4 hsp;have hn4:=R.n4;rw [zNO (by rw [yEK R.al' ht hj];exact ha),zKZ,h3];unfold fC frC;constructor
 ·rintro⟨h|h,hx⟩
  ·subst h;exact⟨_,mem_filter.mpr ⟨mF0,(zHP R.w5 R.wn hf (by omega)).mp hx⟩,rfl⟩
  ·subst h;exact⟨_,mem_filter.mpr ⟨mO _ mF0,(zHP R.w5 R.wn hf hn5).mp hx⟩,rfl⟩
 ·rintro⟨k,hk,rfl⟩;obtain⟨h1,h2⟩:=mem_filter.mp hk;rcases mC.mp h1 with rfl|h1
  ·exact⟨.inl rfl,(zHP R.w5 R.wn hf (by omega)).mpr h2⟩
  ·rw [mS.mp h1]at h2 ⊢;exact⟨.inr rfl,(zHP R.w5 R.wn hf hn5).mpr h2⟩
def RwOk.k(R:RwOk ws n cl tl al od)(ht:tn<n)(hf: ∀f,fx=some f->f<5)(j:Nat)(hj:j<n)(x:Ab):x∈Kq tl (hsO ws fx) (al.drop tn++al.take tn) j↔ ∃k,k∈kC n tn fx j/\x=wdA ws k:=by
 have hsp:=yEL ht j;have hal:=R.al';have hn4:=R.n4;have ha:al[spC n tn j]? =some al[spC n tn j]:=gE0 (by omega);obtain⟨o,_,hA⟩:=R.at' _ _ ha;obtain⟨p,hp,hp2⟩:=R.tab ha;obtain⟨us,e,_⟩:=hA.2;rw [zSJ (by rw [yEK R.al' ht hj];exact ha)];unfold kyL;rw [hp,e];show x∈fnL (hsO ws fx) ((vT _::vT _::us).take p.2.toNat)↔_;rw [hp2,zKZ];show x∈List.filterMap vn [vT (wdA ws (spC n tn j))]/\_↔_;rw [filterMap_cons,zKY];show x∈[wdA ws (spC n tn j)]/\_↔_;rw [mS];unfold kC frC;constructor
 ·rintro⟨rfl,hx⟩;exact⟨_,mem_filter.mpr ⟨mF0,(zHP R.w5 R.wn hf (by omega)).mp hx⟩,rfl⟩
 ·rintro⟨k,hk,rfl⟩;obtain⟨h1,h2⟩:=mem_filter.mp hk;rw [mS.mp h1]at h2 ⊢;exact⟨rfl,(zHP R.w5 R.wn hf (by omega)).mpr h2⟩
def zSU(h:vdC n cl fx tn=true):(1<=n/\n<=4)/\tn<n/\ ∀f,fx=some f->f<5:=by unfold vdC at h;simp only [aE,decide_eq_true_eq]at h;obtain⟨⟨⟨v1,v2⟩,v3⟩,v4⟩:=h;refine⟨⟨v1,v2⟩,v3,λf e=>?_⟩;subst e;have:f<n+1 - cl.toNat:=of_decide_eq_true v4;omega
def RwOk.kn(R:RwOk ws n cl tl al od)(v:vdC n cl fx tn=true){i:Nat}(hi:i<n)(x:Ab):KnQ tl (hsO ws fx) (al.drop tn++al.take tn) i x↔ ∃k,k∈lnC n cl fx (spC n tn i)/\x=wdA ws k:=by obtain⟨_,ht,hf⟩:=zSU v;have ck:=(zNR v).1 i hi;unfold ckC at ck;simp only [aE]at ck;unfold KnQ;rw [R.len ht];exact yNK (zUZ R.w5 R.wn) (R.k ht hf) (R.f ht hf) hi ck.1.1.1.1.1 x
def RwOk.rc(R:RwOk ws n cl tl al od)(v:vdC n cl fx tn=true){i:Nat}(hi:i<n)(j:Nat):RcQ tl (hsO ws fx) (al.drop tn++al.take tn) i j↔j∈i::duC n cl fx tn i:=by obtain⟨_,ht,hf⟩:=zSU v;have hkn:=R.kn v hi;have ck:=(zNR v).1 i hi;unfold ckC at ck;simp only [aE]at ck;have c1:=ck.1.1.1.1.1;unfold ckK at c1;simp only [aE]at c1;unfold RcQ;unfold KnQ at hkn;rw [R.len ht]at hkn ⊢;refine yNL (zUZ R.w5 R.wn) (R.f ht hf) (λj hj k hk=>?_) (λk hk=>of_decide_eq_true (all_eq_true.mp c1.1.2 k hk)) hkn hi ck.1.1.1.1.2 j;have:=all_eq_true.mp c1.2 j (mem_range.mpr hj);rw [aE]at this;exact of_decide_eq_true (all_eq_true.mp this.2 k hk)
end
def yEM{n tn t:Nat}(h1:1<=n)(h4:n<=4)(ht:tn<n)(h:t<n):((t:Int) - (tn:Int)) % (n:Int)=((atC n tn t:Nat):Int):=by
 unfold atC;have:n=1\/n=2\/n=3\/n=4:=by omega
 rcases this with rfl|rfl|rfl|rfl<;>omega
theorem yNP{n tn k:Nat}(h1:1<=n):((tn:Int)+(k:Int)) % (n:Int)=((spC n tn k:Nat):Int):=by
 unfold spC
 push_cast
 rfl
abbrev Lv(sc:Bh)(w m c t a f h tn q d k s:Bi):Rho:=[some (.scr sc),w,m,c,t,a,f,h,tn,q,d,k,s]
abbrev Lu(sc:Bh)(n:Nat)(cl:Bool)(tl:Ac)(f h:MV)(tn:Nat)(q:MV)(d k s:Bi):Rho:=Lv sc (some (.loc 0)) (some (zC n)) (some (.bl cl)) (some (.tup (tl.map tbl))) (some (.loc 2)) (some f) (some h) (some (zC tn)) (some q) d k s
section
variable{sc:Bh}{ws:Aa}{n tn:Nat}{cl:Bool}{fx:Option Nat}{tl:Ac}{al:Bj}{od:Ab}
abbrev duP(n:Nat)(cl:Bool)(fx:Option Nat)(tn i:Nat):List Pr:=(duC n cl fx tn i).map λb=>(i,b)
def yEN(n:Nat)(cl:Bool)(fx:Option Nat)(tn i:Nat):(duC n cl fx tn i).length<=6:=by
 have hk: ∀(s f h:Nat),(bhC n cl fx s f h).length<=f:=λs f=>by
  induction f with
  |zero=>exact λh=>le_refl _
  |succ f ih=>
   intro h;unfold bhC;split
   ·rw [lC];have:=ih (nxC n cl h);omega
   ·rw [length_nil];omega
 unfold duC bdC;rw [lM];exact hk _ _ _
def yIW(R:RwOk ws n cl tl al od)(v:vdC n cl fx tn=true){i:Nat}(hi:i<n){S:Sto}(hw:S[0]? =some (.lst (ws.map MV.str))){ld:Nat}{P:List Pr}(hd:S[ld]? =some (.lst (P.map prM)))(hP:P.length<=500)(s:Bi):
  zIT (Lu sc n cl tl (fxM fx) (.tup ((hsO ws fx).map MV.str)) tn (qM (hsO ws fx) (al.drop tn++al.take tn)) (some (.loc ld)) (some (zC i)) s) S=.ok (.next (Lu sc n cl tl (fxM fx) (.tup ((hsO ws fx).map MV.str)) tn (qM (hsO ws fx) (al.drop tn++al.take tn)) (some (.loc S.length)) (some (zC i)) (some (zC (spC n tn i))))) (S++[.lst ((P++duP n cl fx tn i).map prM)]):=by
 obtain⟨⟨n1,n4⟩,ht,hf⟩:=zSU v;have Q:=R.q ht;have ck:=(zNR v).1 i hi;unfold ckC at ck;simp only [aE]at ck;obtain⟨⟨⟨⟨⟨c1,c2⟩,c3⟩,c4⟩,c5⟩,c6⟩:=ck;have hsp:=yEL ht i;have f1:zHJ (Lu sc n cl tl (fxM fx) (.tup ((hsO ws fx).map MV.str)) tn (qM (hsO ws fx) (al.drop tn++al.take tn)) (some (.loc ld)) (some (zC i)) s) S=.ok (.next (Lu sc n cl tl (fxM fx) (.tup ((hsO ws fx).map MV.str)) tn (qM (hsO ws fx) (al.drop tn++al.take tn)) (some (.loc ld)) (some (zC i)) (some (zC (spC n tn i))))) S:=by unfold zHJ;simp? [mod_lit (b:=(n:Int)) (by omega),yNP n1]
 have hnm:=yIR (S:=S) (fx:=fx) hw R.w5 (show spC n tn i<5 by omega) c4;obtain⟨zs,hzs⟩: ∃zs,zs=jZ (wX ((lnC n cl fx (spC n tn i)).map (wdA ws))):=⟨_,rfl⟩
 rw [<-hzs]at hnm;have hkn:zT 3 zFW [.val (.tup (tl.map tbl)),.val (qM (hsO ws fx) (al.drop tn++al.take tn)),.val (zC i)] S=.ok (.new (zs.map MV.str)) S:=by obtain⟨ks,m1,m2,m3⟩:=zZS (hs:=hsO ws fx) Q (show i<(al.drop tn++al.take tn).length by rw [R.len ht];exact hi) S;rw [m3,hzs,zZT m1 (zWV _) λx=>by rw [m2,R.kn v hi,zCZ,mM];exact⟨λ⟨k,h1,h2⟩=>⟨k,h1,h2.symm⟩,λ⟨k,h1,h2⟩=>⟨k,h1,h2.symm⟩⟩]
 have hne:neF (.new (zs.map MV.str)) (.new (zs.map MV.str)) S=.ok (.val (.bl false)) S:=yJM rfl rfl zIU;have f2:zHK (Lu sc n cl tl (fxM fx) (.tup ((hsO ws fx).map MV.str)) tn (qM (hsO ws fx) (al.drop tn++al.take tn)) (some (.loc ld)) (some (zC i)) (some (zC (spC n tn i)))) S=.ok (.next (Lu sc n cl tl (fxM fx) (.tup ((hsO ws fx).map MV.str)) tn (qM (hsO ws fx) (al.drop tn++al.take tn)) (some (.loc ld)) (some (zC i)) (some (zC (spC n tn i))))) S:=by unfold zHK;simp? [hkn,hnm,hne,fT,iF]
 have hco:xP (gNm 0) zNK zHI [none,some (zC n),some (zC tn),some (zC i)] [] ((bdC n cl fx (spC n tn i)).map zC) S=.ok ((duP n cl fx tn i).map prM) S:=by
  unfold duP duC;rw [map_map,map_map];refine bA (xE _) λt htm=>⟨[some (zC t),some (zC n),some (zC tn),some (zC i)],rfl,rfl,?_⟩
  unfold zHI;simp? [mod_lit (b:=(n:Int)) (by omega),yEM n1 n4 ht (of_decide_eq_true (all_eq_true.mp c6 t htm)),tup2];rfl
 have hb: ∀a b c d e f g h i j k l m:Option MV,blk 1 [2,8,11] [a,b,c,d,e,f,g,h,i,j,k,l,m]=[none,c,i,l]:=λ_ _ _ _ _ _ _ _ _ _ _ _ _=>rfl;have hdl:=yEN n cl fx tn i;have hbl:((bdC n cl fx (spC n tn i)).map zC).length<1000000:=by unfold duC at hdl;rw [lM]at hdl ⊢;omega
 have hadd:xW (.val (.loc ld)) (.new ((duP n cl fx tn i).map prM)) S=.ok (.new ((P++duP n cl fx tn i).map prM)) S:=by rw [zTZ (zWA hd) (show lsW S (.new ((duP n cl fx tn i).map prM))=some ((duP n cl fx tn i).map prM)from rfl) (fits (by rw [lM,lM,lM];omega)),map_append]
 unfold zIT;rw [zD f1,zD f2];unfold zNL;simp? [zZQ c5,zEW,hbl,hb,hco,hadd]
theorem yEO(R:RwOk ws n cl tl al od)(v:vdC n cl fx tn=true): ∀(is:Ab),(∀i∈is,i<n)-> ∀(S:Sto)(ld:Nat)(P:List Pr)(k s:Bi),S[0]? =some (.lst (ws.map MV.str))->S[ld]? =some (.lst (P.map prM))->P.length+6 * is.length<=400->
  ∃S' ld' k' s',kY (gNm 11) zIT [] (is.map zC) (Lu sc n cl tl (fxM fx) (.tup ((hsO ws fx).map MV.str)) tn (qM (hsO ws fx) (al.drop tn++al.take tn)) (some (.loc ld)) k s) S=.ok (.next (Lu sc n cl tl (fxM fx) (.tup ((hsO ws fx).map MV.str)) tn (qM (hsO ws fx) (al.drop tn++al.take tn)) (some (.loc ld')) k' s')) S'/\S'[ld']? =some (.lst ((P++is.flatMap (duP n cl fx tn)).map prM))
 |[],_,S,ld,P,k,s,_,hd,_=>⟨S,ld,k,s,rfl,by rw [List.flatMap_nil,aN];exact hd⟩
 |i::is,hi,S,ld,P,k,s,hw,hd,hl=>by rw [lC]at hl;have e1:=yIW (sc:=sc) R v (hi i mF0) hw hd (by omega) s;have hdl:=yEN n cl fx tn i;obtain⟨S',ld',k',s',e,h⟩:=yEO R v is (λj hj=>hi j (mO _ hj)) (S++[.lst ((P++duP n cl fx tn i).map prM)]) S.length (P++duP n cl fx tn i) (some (zC i)) (some (zC (spC n tn i))) (zLF hw) (zO _ _) (by rw [lA,lM];omega);refine⟨S',ld',k',s',?_,by rw [List.flatMap_cons, <-aA];exact h⟩;rw [map_cons,yB (ρ0:=Lu sc n cl tl (fxM fx) (.tup ((hsO ws fx).map MV.str)) tn (qM (hsO ws fx) (al.drop tn++al.take tn)) (some (.loc ld)) (some (zC i)) s) rfl e1 (xE _)];exact e
def yEP(R:RwOk ws n cl tl al od)(v:vdC n cl fx tn=true)(p:Pr):p∈PQ tl (hsO ws fx) (al.drop tn++al.take tn)↔p∈(List.range n).flatMap (duP n cl fx tn):=by
 obtain⟨⟨n1,n4⟩,ht,hf⟩:=zSU v;unfold PQ;rw [R.len ht,zPY,mem_flatMap];constructor
 ·rintro⟨h1,h2,h3,h4⟩;refine⟨p.1,mem_range.mpr h1,mM.mpr ⟨p.2,?_,rfl⟩⟩;rcases mC.mp ((R.rc v h1 p.2).mp h4)with e|h
  ·exact absurd e h3
  ·exact h
 ·rintro⟨i,hi,h⟩;obtain⟨b,hb,rfl⟩:=mM.mp h;have hi:=mem_range.mp hi;have ck:=(zNR v).1 i hi;unfold ckC at ck;simp only [aE]at ck;have hnd:=nodup_cons.mp (of_decide_eq_true ck.1.1.1.2);have c2:=ck.1.1.1.1.2;unfold ckR at c2;simp only [aE]at c2;have:=all_eq_true.mp c2.1.2 b (mO _ hb);rw [aE]at this;exact⟨hi,of_decide_eq_true this.1,λe=>by have e:b=i:=e;rw [e]at hb;exact hnd.1 hb,(R.rc v hi b).mpr (mO _ hb)⟩
def du_nd(v:vdC n cl fx tn=true):((List.range n).flatMap (duP n cl fx tn)).Nodup:=by
 unfold List.Nodup;rw [List.pairwise_flatMap];refine⟨λi hi=>?_,?_⟩
 ·have ck:=(zNR v).1 i (mem_range.mp hi);unfold ckC at ck;simp only [aE]at ck;have hnd:=(nodup_cons.mp (of_decide_eq_true ck.1.1.1.2)).2;exact pairwise_map.mpr (hnd.imp λh e=>h (congrArg Prod.snd e))
 ·refine(nodup_range (n:=n)).imp λ{a b} h x hx y hy e=>?_;obtain⟨_,_,rfl⟩:=mM.mp hx;obtain⟨_,_,rfl⟩:=mM.mp hy;exact h (congrArg Prod.fst e)
def yIX(R:RwOk ws n cl tl al od)(v:vdC n cl fx tn=true):(rgP (PQ tl (hsO ws fx) (al.drop tn++al.take tn))).isSome=(cl&& !(n==1)&&fx.isNone):=by
 have hr:=(zNR v).2;unfold rgC at hr;rw [<-eq_of_beq hr];have hm:=yEP R v
 cases h:rgP (PQ tl (hsO ws fx) (al.drop tn++al.take tn))with
 |some p=>
  unfold rgP at h;have h1:=List.mem_of_find?_eq_some h;have h2:=List.find?_some h;have h2:(p.2,p.1)∈PQ tl (hsO ws fx) (al.drop tn++al.take tn):=of_decide_eq_true h2;rw [hm,mem_flatMap]at h1 h2;obtain⟨i,hi,h1⟩:=h1;obtain⟨j,hj,h2⟩:=h2;obtain⟨b,hb,rfl⟩:=mM.mp h1;obtain⟨c,hc,e⟩:=mM.mp h2;obtain rfl:j=b:=congrArg Prod.fst e;obtain rfl:c=i:=congrArg Prod.snd e;have h3:((duC n cl fx tn c).any λb=>(duC n cl fx tn b).contains c)=true:=by rw [any_eq_true];exact⟨j,hb,wH.mpr hc⟩
  have h4:((List.range n).any λa=>(duC n cl fx tn a).any λb=>(duC n cl fx tn b).contains a)=true:=by rw [any_eq_true];exact⟨c,hi,h3⟩
  exact h4.symm
 |none=>
  refine(eq_false_iff.mpr λz=>?_).symm;obtain⟨a,ha,h1⟩:=any_eq_true.mp z;obtain⟨b,hb,h2⟩:=any_eq_true.mp h1;have hab:(a,b)∈PQ tl (hsO ws fx) (al.drop tn++al.take tn):=(hm _).mpr (mem_flatMap.mpr ⟨a,ha,mM.mpr ⟨b,hb,rfl⟩⟩);have hbn:b<n:=by have:=zPY.mp hab;rw [R.len (zSU v).2.1]at this;exact this.2.1
  have hba:(b,a)∈PQ tl (hsO ws fx) (al.drop tn++al.take tn):=(hm _).mpr (mem_flatMap.mpr ⟨b,mem_range.mpr hbn,mM.mpr ⟨a,wH.mp h2,rfl⟩⟩);unfold rgP at h;have:=List.find?_eq_none.mp h (a,b) hab;exact this (dT0 hba)
end
def zSV(x y:Bool)(S:Sto):eqF (.val (.bl x)) (.val (.bl y)) S=.ok (.val (.bl (x==y))) S:=zUA (yLY _ x y)
theorem yEQ(ns:Ad)(h:ns.length<=63): ∃S,zSB [.scr (ns.map MV.int)] []=.ok (.val (.bl true)) S:=by
 obtain⟨sc,hsc⟩: ∃sc,sc=ns.map MV.int:=⟨_,rfl⟩
 have cell1: ∀(k:Int),0<=k-> ∃c, ∀S,zT 2 zH [.val (.scr sc),.val (.int k)] S=.ok (.val (.int c)) S:=λk hk=>by rw [hsc];exact yIS ns k hk
 have cell: ∀(k:Int),0<=k-> ∀S, ∃c,zT 2 zH [.val (.scr sc),.val (.int k)] S=.ok (.val (.int c)) S:=λk hk S=>by obtain⟨c,hc⟩:=cell1 k hk;exact⟨c,hc S⟩
 rw [<-hsc];obtain⟨c0,hc0⟩:=cell1 0 (by decide);obtain⟨c1,hc1⟩:=cell1 1 (by decide);obtain⟨c2,hc2⟩:=cell1 2 (by decide);obtain⟨c3,hc3⟩:=cell1 3 (by decide);obtain⟨ws,hw5,hwn,hws⟩:=yEF c0 [];obtain⟨S1,hS1⟩: ∃S1:Sto,S1=[.lst (ws.map MV.str)]:=⟨_,rfl⟩
 have f1:zPE (Lv sc none none none none none none none none none none none none) []=.ok (.next (Lv sc (some (.loc 0)) none none none none none none none none none none none)) S1:=by unfold zPE;simp? [hc0,hws];rw [hS1];rfl
 have hm0:=eN0 c1 (show(4:Int)≠0 by decide);have hm1:=eL c1 (show(0:Int)<4 by decide);obtain⟨n,hn⟩: ∃n:Nat,(n:Int)=1+c1 % 4:=⟨(1+c1 % 4).toNat,by omega⟩
 have n1:1<=n:=by omega
 have n4:n<=4:=by omega
 have f2:zPF (Lv sc (some (.loc 0)) none none none none none none none none none none none) S1=.ok (.next (Lv sc (some (.loc 0)) (some (zC n)) none none none none none none none none none none)) S1:=by unfold zPF;simp? [hc1,mod_lit (show(0:Int)<4 by decide), <-hn]
 obtain⟨cl,hcl⟩: ∃cl,cl=decide (c1 / 4 % 2=1):=⟨_,rfl⟩
 have f3:zPG (Lv sc (some (.loc 0)) (some (zC n)) none none none none none none none none none none) S1=.ok (.next (Lv sc (some (.loc 0)) (some (zC n)) (some (.bl cl)) none none none none none none none none none)) S1:=by unfold zPG;simp? [hc1,xD (b:=4) (by decide) (by decide),mod_lit (show(0:Int)<2 by decide), <-hcl]
 have hw1:S1[0]? =some (.lst (ws.map MV.str)):=by rw [hS1];rfl
 obtain⟨tl,al,od,X,g1,g2,g3,g4,g5,g6,g7,hrow⟩:=yNO (S:=S1) (cl:=cl) cell c1 hc1 hw1 hw5 n1 n4;have R:RwOk ws n cl tl al od:=⟨n1,n4,hw5,hwn,g1,g2,g3,g4,g5,g6,g7⟩
 obtain⟨S2,hS2⟩: ∃S2:Sto,S2=Zr S1 tl al od X:=⟨_,rfl⟩
 have hl1:S1.length=1:=by rw [hS1];rfl
 rw [<-hS2,hl1]at hrow;have f4:zPH (Lv sc (some (.loc 0)) (some (zC n)) (some (.bl cl)) none none none none none none none none none) S1=.ok (.next (Lv sc (some (.loc 0)) (some (zC n)) (some (.bl cl)) (some (.tup (tl.map tbl))) (some (.loc 2)) none none none none none none none)) S2:=by unfold zPH;simp? [hrow,zEH];rfl
 have hw2:S2[0]? =some (.lst (ws.map MV.str)):=by rw [hS2];exact zLF hw1
 have ha2:S2[2]? =some (.lst (al.map aM)):=by have:=zr_a S1 tl al od X;rw [hl1, <-hS2]at this;exact this
 have f5:zPI (Lv sc (some (.loc 0)) (some (zC n)) (some (.bl cl)) (some (.tup (tl.map tbl))) (some (.loc 2)) none none none none none none none) S2=.ok (.next (Lv sc (some (.loc 0)) (some (zC n)) (some (.bl cl)) (some (.tup (tl.map tbl))) (some (.loc 2)) (some .non) none none none none none none)) S2:=by unfold zPI;simp? [bok]
 have f6:zPJ (Lv sc (some (.loc 0)) (some (zC n)) (some (.bl cl)) (some (.tup (tl.map tbl))) (some (.loc 2)) (some .non) none none none none none none) S2=.ok (.next (Lv sc (some (.loc 0)) (some (zC n)) (some (.bl cl)) (some (.tup (tl.map tbl))) (some (.loc 2)) (some .non) (some (.tup [])) none none none none none)) S2:=by unfold zPJ;simp? [show bP [] S2=.ok (.val (.tup [])) S2 from zJR (by simp)]
 have ht0:=eN0 c3 (show(n:Int)≠0 by omega);have ht1:=eL c3 (show(0:Int)<n by omega);obtain⟨tn,htn⟩: ∃tn:Nat,(tn:Int)=c3 % (n:Int):=⟨(c3 % (n:Int)).toNat,by omega⟩
 have htl:tn<n:=by omega
 obtain⟨fx,f7,v⟩: ∃fx:Option Nat,zPK (Lv sc (some (.loc 0)) (some (zC n)) (some (.bl cl)) (some (.tup (tl.map tbl))) (some (.loc 2)) (some .non) (some (.tup [])) none none none none none) S2=.ok (.next (Lv sc (some (.loc 0)) (some (zC n)) (some (.bl cl)) (some (.tup (tl.map tbl))) (some (.loc 2)) (some (fxM fx)) (some (.tup ((hsO ws fx).map MV.str))) none none none none none)) S2/\vdC n cl fx tn=true:=by
  have vd: ∀fx:Option Nat,(∀f,fx=some f->f<n+1 - cl.toNat)->vdC n cl fx tn=true:=λfx hfx=>by
   unfold vdC;rw [dT0 n1,dT0 n4,dT0 htl]
   cases fx with
   |none=>rfl
   |some f=>exact dT0 (hfx f rfl)
  unfold zPK;by_cases h3:c2 % 3=1
  ·obtain⟨g,hg⟩: ∃g:Nat,g=n+1 - cl.toNat:=⟨_,rfl⟩
   have hg1:1<=g:=by rw [hg];cases cl<;>simp<;>omega
   have hg5:g<=5:=by rw [hg];omega
   have hgi:(n:Int)+1 - (if cl=true then 1 else 0)=(g:Int):=by rw [hg];cases cl<;>simp<;>omega
   have hf0:=eN0 (c2 / 3) (show(g:Int)≠0 by omega);have hf1:=eL (c2 / 3) (show(0:Int)<g by omega);obtain⟨f,hf⟩: ∃f:Nat,(f:Int)=c2 / 3 % (g:Int):=⟨(c2 / 3 % (g:Int)).toNat,by omega⟩
   have hfg:f<g:=by omega
   have e1:(CJ (dJ kZ (dJ zAY (fJ 2 zH (yJ (vJ 0) (yJ (kJ (.int 2)) wJ))) (kJ (.int 3))) (dJ yBA (dJ xW (vJ 2) (kJ (.int 1))) (bJ (yJ (vJ 3) wJ) yBN))) 6) (Lv sc (some (.loc 0)) (some (zC n)) (some (.bl cl)) (some (.tup (tl.map tbl))) (some (.loc 2)) (some .non) (some (.tup [])) none none none none none) S2=.ok (.next (Lv sc (some (.loc 0)) (some (zC n)) (some (.bl cl)) (some (.tup (tl.map tbl))) (some (.loc 2)) (some (zC f)) (some (.tup [])) none none none none none)) S2:=by simp? [hc2,xD (b:=3) (by decide) (by decide),show yBN [.val (.bl cl)] S2=.ok (.val (.int (if cl=true then 1 else 0))) S2 from rfl,hgi,mod_lit (b:=(g:Int)) (by omega), <-hf]
   have e2:(CJ (bJ (yJ (dJ ixF (vJ 1) (vJ 6)) wJ) bP) 7) (Lv sc (some (.loc 0)) (some (zC n)) (some (.bl cl)) (some (.tup (tl.map tbl))) (some (.loc 2)) (some (zC f)) (some (.tup [])) none none none none none) S2=.ok (.next (Lv sc (some (.loc 0)) (some (zC n)) (some (.bl cl)) (some (.tup (tl.map tbl))) (some (.loc 2)) (some (zC f)) (some (.tup [.str (wdA ws f)])) none none none none none)) S2:=by simp? [zLE hw2 (show f<ws.length by omega),show∀a:MV,bP [.val a] S2=.ok (.val (.tup [a])) S2 from λa=>zJR (by simp)]
   refine⟨some f,?_,vd _ λf' e=>by cases e;omega⟩;simp? [hc2,mod_lit (show(0:Int)<3 by decide),h3,decide_true];rw [zD e1,e2];rfl
  ·refine⟨none,?_,vd _ λf e=>by cases e⟩;simp? [hc2,mod_lit (show(0:Int)<3 by decide),h3,decide_false,fT,iF];rfl
 have f8:zPL (Lv sc (some (.loc 0)) (some (zC n)) (some (.bl cl)) (some (.tup (tl.map tbl))) (some (.loc 2)) (some (fxM fx)) (some (.tup ((hsO ws fx).map MV.str))) none none none none none) S2=.ok (.next (Lv sc (some (.loc 0)) (some (zC n)) (some (.bl cl)) (some (.tup (tl.map tbl))) (some (.loc 2)) (some (fxM fx)) (some (.tup ((hsO ws fx).map MV.str))) (some (zC tn)) none none none none)) S2:=by unfold zPL;simp? [hc3,mod_lit (b:=(n:Int)) (by omega), <-htn]
 have hadd:xW (.new ((al.drop tn).map aM)) (.new ((al.take tn).map aM)) S2=.ok (.new ((al.drop tn++al.take tn).map aM)) S2:=by rw [zTZ (show lsW S2 (.new ((al.drop tn).map aM))=some ((al.drop tn).map aM)from rfl) (show lsW S2 (.new ((al.take tn).map aM))=some ((al.take tn).map aM)from rfl) (fits (by rw [lM,lM,length_drop,lT];omega)),map_append]
 have f9:zPM (Lv sc (some (.loc 0)) (some (zC n)) (some (.bl cl)) (some (.tup (tl.map tbl))) (some (.loc 2)) (some (fxM fx)) (some (.tup ((hsO ws fx).map MV.str))) (some (zC tn)) none none none none) S2=.ok (.next (Lu sc n cl tl (fxM fx) (.tup ((hsO ws fx).map MV.str)) tn (qM (hsO ws fx) (al.drop tn++al.take tn)) none none none)) S2:=by unfold zPM;simp? [zPZ ha2,zNN,zNM, <-map_drop, <-map_take,hadd,show∀ds:List MV,zCS [.new ds] S2=.ok (.val (.tup ds)) S2 from λ_=>rfl,tup2]
 obtain⟨S3,hS3⟩: ∃S3:Sto,S3=S2++[.lst []]:=⟨_,rfl⟩
 have f10:zKR (Lu sc n cl tl (fxM fx) (.tup ((hsO ws fx).map MV.str)) tn (qM (hsO ws fx) (al.drop tn++al.take tn)) none none none) S2=.ok (.next (Lu sc n cl tl (fxM fx) (.tup ((hsO ws fx).map MV.str)) tn (qM (hsO ws fx) (al.drop tn++al.take tn)) (some (.loc S2.length)) none none)) S3:=by unfold zKR;simp? [bok];rw [hS3]
 obtain⟨S4,ld,k',s',e11,hd⟩:=yEO (sc:=sc) R v (List.range n) (λi hi=>mem_range.mp hi) S3 S2.length [] none none (by rw [hS3];exact zLF hw2) (by rw [hS3];exact zO _ _) (by rw [length_nil,length_range];omega);rw [nil_append]at hd;have f11:zKS (Lu sc n cl tl (fxM fx) (.tup ((hsO ws fx).map MV.str)) tn (qM (hsO ws fx) (al.drop tn++al.take tn)) (some (.loc S2.length)) none none) S3=.ok (.next (Lu sc n cl tl (fxM fx) (.tup ((hsO ws fx).map MV.str)) tn (qM (hsO ws fx) (al.drop tn++al.take tn)) (some (.loc ld)) k' s')) S4:=by unfold zKS;simp? [zPX (n:=n) (by omega)];exact e11
 have Q:=R.q htl;obtain⟨P,hP⟩: ∃P,P=PQ tl (hsO ws fx) (al.drop tn++al.take tn):=⟨_,rfl⟩
 have hsw:=zSP (hs:=hsO ws fx) Q S4;rw [<-hP]at hsw;have hperm:P.Perm ((List.range n).flatMap (duP n cl fx tn)):=by rw [hP];exact(List.perm_ext_iff_of_nodup (yDX _ _) (du_nd v)).mpr (yEP R v)
 have hPl:P.length<64:=by
  have h1:=zBU (yDX (RcQ tl (hsO ws fx) (al.drop tn++al.take tn)) (al.drop tn++al.take tn).length) (U:=(List.range 4).flatMap λa=>(List.range 4).map λb=>(a,b)) λp hp=>by have:=zPY.mp hp;have h4:=Q.len;exact mem_flatMap.mpr ⟨p.1,mem_range.mpr (by omega),mM.mpr ⟨p.2,mem_range.mpr (by omega),rfl⟩⟩
  rw [hP];exact Nat.lt_of_le_of_lt h1 (by decide)
 have hsrt:=zXN hperm (by rw [hP];exact(yDW _ _).imp λ{a b} h=>zIG.mpr (by have:=zNP.mp h;omega)) (by rw [<-hperm.length_eq];exact hPl) (cV hd);have hne:neF (.new (P.map prM)) (.new (P.map prM)) S4=.ok (.val (.bl false)) S4:=yJM rfl rfl (zXM P);have f12:zKT (Lu sc n cl tl (fxM fx) (.tup ((hsO ws fx).map MV.str)) tn (qM (hsO ws fx) (al.drop tn++al.take tn)) (some (.loc ld)) k' s') S4=.ok (.next (Lu sc n cl tl (fxM fx) (.tup ((hsO ws fx).map MV.str)) tn (qM (hsO ws fx) (al.drop tn++al.take tn)) (some (.loc ld)) k' s')) S4:=by unfold zKT;simp? [hsw,hsrt,hne,fT,iF]
 have hrg:=yIN (hs:=hsO ws fx) Q S4;have hri:=yIX R v;rw [<-hP]at hrg hri;have hN: ∀o:Option Pr,yBH (rgE o) (.val .non) S4=.ok (.val (.bl (!o.isSome))) S4:=λo=>by cases o<;>rfl
 have hn1:decide ((n:Int)=1)=(n==1):=by
  by_cases hh:n=1
  ·rw [dT0 (by omega)];simp [hh]
  ·rw [dF0 (by omega)];simp [hh]
 have hfn:zFI (.val (fxM fx)) (.val .non) S4=.ok (.val (.bl fx.isSome)) S4:=by cases fx<;>rfl
 have f13:zKU (Lu sc n cl tl (fxM fx) (.tup ((hsO ws fx).map MV.str)) tn (qM (hsO ws fx) (al.drop tn++al.take tn)) (some (.loc ld)) k' s') S4=.ok (.ret (.val (.bl true))) S4:=by
  unfold zKU;simp? [hrg,hN,hri,orF,hfn,hn1,zSV]
  cases cl with
  |false=>simp? [Bool.not_false,zSV];rfl
  |true=>
   cases hh:(n==1)with
   |true=>simp? [Bool.not_true,fT,iF,zSV];rfl
   |false=>
    cases fx with
    |none=>simp? [Bool.not_true,fT,iF,zSV];rfl
    |some f=>simp? [Bool.not_true,fT,iF,zSV];rfl
 refine⟨S4,?_⟩;show xI (yCX (Lv sc none none none none none none none none none none none none) [])=_;unfold yCX;rw [zD f1,zD f2,zD f3,zD f4,zD f5,zD f6,zD f7,zD f8,zD f9,zD f10,zD f11,zD f12,f13];rfl
section
variable{P:Program}{w:World}{K:Be}{mg:Aj}{base:Heap}
def top(i:Nat):Stmt:=PySem.Challenge.pw_mendsure_k65_atoms_in_a_row.main.body.getD i (.Pass ⟨0,0,0,0⟩)
abbrev zEY:Stmt:=top 4
def nZ:FnScope zES ["atoms"] (zI zEY):=fsK (by decide+kernel)
def zSW(D:DefM K mg "names_in" zEY)(zFA:mg "list"=none):(CalM P w K mg base) "names_in" 1 1 ["atoms"] gC:=
 by have h:=okC (P:=P) (w:=w) (base:=base) D (λ_ _ _ _ _ _ us hl=>match us,hl with |[_],_=>rfl) λf fd F=>okM (k:=0) _ F nZ λcdv A outer s H E hr=>(zE (zK 1 nZ.nd zRE) (zE (wK PassesOwn.never rfl (yML (zA 0)) (yD 2 nZ.nd) (zL (wK PassesOwn.never rfl (zTP (yP (zA 2) zG)) (yD 3 nZ.nd) (zL (jX (zHY hr.units (yP (zA 3) zG) (zAE [118,97,114])) (zL (zGK zHX (zOU (zA 1) (yP (zA 3) zG)))) wC))))) (zL (yO (kT zJX (zRN rfl) rfl zFA zVW (zB (zA 1) zF))))))
    exact h
abbrev kA:Stmt:=top 6
def xF:FnScope bZ ["question"] (zI kA):=fsK (by decide+kernel)
def zDS(D:DefM K mg "check_tables_once" kA)(bN:mg "enumerate"=none):(CalM P w K mg base) "check_tables_once" 1 1 ["question"] yG:=
 by have h:=okC (P:=P) (w:=w) (base:=base) D (λ_ _ _ _ _ _ us hl=>match us,hl with |[_],_=>rfl) λf fd F=>okM (k:=0) _ F xF λcdv A outer s H E hr=>(zE (zK 1 xF.nd zRE) (zL (wK PassesOwn.never rfl (yGZ rfl bN (zB (yP (zA 0) zG) zF)) (zOG (n:=2) rfl (nQ (yD 2 xF.nd) (nQ (yD 3 xF.nd) zOF))) (zE (jX (yMT (yP (zA 3) zG) (zA 1)) (zL yAU) wC) (zL (zGK zHX (zOU (zA 1) (yP (zA 3) zG))))))))
    exact h
abbrev cN:Stmt:=top 7
def zLW:FnScope ["question","atom"] ["question","atom"] (zI cN):=fsK (by decide+kernel)
def zLX(D:DefM K mg "free_names" cN)(zVC:(CalM P w K mg base) "names_in" 1 1 ["atoms"] gC):(CalM P w K mg base) "free_names" 2 2 ["question","atom"] yQ:=
 by have h:=okC (P:=P) (w:=w) (base:=base) D (λ_ _ _ _ _ _ us hl=>match us,hl with |[_,_],_=>rfl) λf fd F=>okM (k:=1) _ F zLW λcdv A outer s H E hr=>(zL (yO (cE (zI cN) ["question","atom"] ["name"] [0] (bC (zN zVC (hr.mono (by decide)) rfl (zB (jB (zB (zA 1) zF)) zF))) rfl (λ_ _ _ _ hN=>(jD 0 hN)) (λ_ _ _ _=>(zOI (yBM hr.units (zA 0) (yP (zA 1) zG)))) (λ_ _ _ _=>(zA 0)))))
    exact h
abbrev zDT:Stmt:=top 8
def zGB:FnScope zIB nT (zI zDT):=fsK (by decide+kernel)
def zQC(D:DefM K mg "key_names" zDT)(jV:(CalM P w K mg base) "free_names" 2 2 ["question","atom"] yQ):(CalM P w K mg base) "key_names" 3 3 nT kX:=
 by have h:=okC (P:=P) (w:=w) (base:=base) D (λ_ _ _ _ _ _ us hl=>match us,hl with |[_,_,_],_=>rfl) λf fd F=>okM (k:=2) _ F zGB λcdv A outer s H E hr=>(zE (zK 3 zGB.nd (yP (yP (zA 0) (yP (zA 2) zG)) zG)) (zL (yO (zN jV (hr.mono (by decide)) rfl (zB (zA 1) (zB (wI (zB (yP (zA 2) zG) (zB (zCR (yP (zA 2) zG) zAX (cC (zA 3))) zF))) zF))))))
    exact h
abbrev bB:Stmt:=top 9
def wQ:FnScope cX ["tables","question","place"] (zI bB):=fsK (by decide+kernel)
def zSX(D:DefM K mg "known_at" bB)(zIH:(CalM P w K mg base) "key_names" 3 3 nT kX)(zHR:mg "dict"=none)(zCJ:mg "len"=none)(zSZ:mg "all"=none)(jV:(CalM P w K mg base) "free_names" 2 2 ["question","atom"] yQ):(CalM P w K mg base) "known_at" 4 3 ["tables","question","place"] gE:=
 by have h:=okC (P:=P) (w:=w) (base:=base) D (λ_ _ _ _ _ _ us hl=>match us,hl with |[_,_,_],_=>rfl) λf fd F=>okM (k:=3) _ F wQ λcdv A outer s H E hr=>(zE (zK 3 wQ.nd (yP (zA 1) zG)) (zE (zK 4 wQ.nd (yM (zCR (zA 3) zAX (cC (zA 2))) (zCR (zA 3) (cC (yM (zA 2) zG)) zAX))) (zE (zK 5 wQ.nd (kT zNB (zWQ rfl) rfl zHR zWP (zB (cE (zI bB) cX ["name"] [] (bC (zN zIH (hr.mono (by decide)) rfl (zB (zA 0) (zB (zA 1) (zB (yP (zA 3) (zA 2)) zF))))) rfl (λ_ _ _ _ hN=>(jD 0 hN)) (λ_ _ _ _=>nR) (λ_ _ _ _=>(wI (zB (zA 0) (zB zHX zF))))) zF))) (zE (zK 6 wQ.nd yLC) (zE (zFF 10000 PassesOwn.never (zVV hr.units (zA 6) (kF zNE zWS rfl zCJ zJL (zB (zA 5) zF))) (zE (zK 6 wQ.nd (kF zNE zWS rfl zCJ zJL (zB (zA 5) zF))) (zL (wK PassesOwn.never rfl (zTP (zA 4)) (yD 7 wQ.nd) (zL (jX (zCN (kF zOD (yLM rfl) rfl zSZ yLO (zB (cE (zI bB) cX ["name"] [5] (bC (zN zIH (hr.mono (by decide)) rfl (zB (zA 0) (zB (zA 1) (zB (zA 7) zF))))) rfl (λ_ _ _ _ hN=>(jD 0 hN)) (λ_ _ _ _=>nR) (λ_ _ _ _=>(yMS (zA 0) (zA 1)))) zF))) (zL (wG (yHJ (zA 5) (zB (kT zNB (zWQ rfl) rfl zHR zWP (zB (cE (zI bB) cX ["name"] [] (bC (zN jV (hr.mono (by decide)) rfl (zB (zA 1) (zB (zA 7) zF)))) rfl (λ_ _ _ _ hN=>(jD 0 hN)) (λ_ _ _ _=>nR) (λ_ _ _ _=>(wI (zB (zA 0) (zB zHX zF))))) zF)) zF)))) wC)))))) (zL (yO (zA 5))))))))
    exact h
abbrev zQD:Stmt:=top 10
def yER:FnScope nT nT (zI zQD):=fsK (by decide+kernel)
def yES(D:DefM K mg "known" zQD)(kD:(CalM P w K mg base) "check_tables_once" 1 1 ["question"] yG)(zEZ:(CalM P w K mg base) "known_at" 4 3 ["tables","question","place"] gE)(wR:mg "sorted"=none):(CalM P w K mg base) "known" 5 3 nT zFW:=
 by have h:=okC (P:=P) (w:=w) (base:=base) D (λ_ _ _ _ _ _ us hl=>match us,hl with |[_,_,_],_=>rfl) λf fd F=>okM (k:=4) _ F yER λcdv A outer s H E hr=>(zE (wG (zN kD (hr.mono (by decide)) rfl (zB (zA 1) zF))) (zL (yO (kF zUK (yCO rfl) rfl wR zBA (zB (zN zEZ (hr.mono (by decide)) rfl (zB (zA 0) (zB (zA 1) (zB (zA 2) zF)))) zF)))))
    exact h
abbrev wW:Stmt:=top 11
def zGC:FnScope ["some","others"] ["some","others"] (zI wW):=fsK (by decide+kernel)
def zGD(D:DefM K mg "have_in_common" wW)(zTC:mg "any"=none):(CalM P w K mg base) "have_in_common" 1 2 ["some","others"] wV:=
 by have h:=okC (P:=P) (w:=w) (base:=base) D (λ_ _ _ _ _ _ us hl=>match us,hl with |[_,_],_=>rfl) λf fd F=>okM (k:=0) _ F zGC λcdv A outer s H E hr=>(zL (yO (kF zOW (yMU rfl) rfl zTC yLP (zB (cE (zI wW) ["some","others"] ["name"] [1] (bC (zA 0)) rfl (λ_ _ _ _ hN=>(jD 0 hN)) (λ_ _ _ _=>nR) (λ_ _ _ _=>(pm_in hr.units (zA 0) (zA 1)))) zF))))
    exact h
abbrev kK:Stmt:=top 12
def yX:FnScope zAF ["tables","question","place"] (zI kK):=fsK (by decide+kernel)
def zLG(D:DefM K mg "swayed_from" kK)(zEZ:(CalM P w K mg base) "known_at" 4 3 ["tables","question","place"] gE)(jV:(CalM P w K mg base) "free_names" 2 2 ["question","atom"] yQ)(yF:mg "range"=none)(zCJ:mg "len"=none)(zHQ:(CalM P w K mg base) "have_in_common" 1 2 ["some","others"] wV)(zFA:mg "list"=none):(CalM P w K mg base) "swayed_from" 5 3 ["tables","question","place"] bG:=
 by have h:=okC (P:=P) (w:=w) (base:=base) D (λ_ _ _ _ _ _ us hl=>match us,hl with |[_,_,_],_=>rfl) λf fd F=>okM (k:=4) _ F yX λcdv A outer s H E hr=>(zE (zK 3 yX.nd (zN zEZ (hr.mono (by decide)) rfl (zB (zA 0) (zB (zA 1) (zB (zA 2) zF))))) (zE (zVQ 4 yX.nd (zI kK) zAF ["atom"] [1,3] (zTP (yP (zA 1) zG)) rfl (λ_ _ _ _ hN=>(jD 0 hN)) (λ_ _ _ _=>nR) (λ_ _ _ _=>(cE (rlS ({kind:=PySem.ScopeKind.function,names:=[(PySem.Str.ofString ".0",PySem.NameKind.local),(PySem.Str.ofString "atom",PySem.NameKind.local),(PySem.Str.ofString "free_names",PySem.NameKind.globalImplicit),(PySem.Str.ofString "learnt",PySem.NameKind.free),(PySem.Str.ofString "question",PySem.NameKind.free)],isGenerator:=false,isCoroutine:=false,more:=[]:PySem.Scope}) (zI kK)) ["atom","question","learnt"] ["name"] [2] (bC (zN jV (hr.mono (by decide)) rfl (zB (zA 1) (zB (zA 0) zF)))) rfl (λ_ _ _ _ hN=>(jD 0 hN)) (λ_ _ _ _=>(zOI (zMZ (zA 0) (zA 1)))) (λ_ _ _ _=>(zA 0))))) (zE (zK 5 yX.nd (zZE (zA 2) zHX)) (zE (zK 6 yX.nd (jB (zB (zA 2) zF))) (zE (zFF 10000 PassesOwn.never (zCN (zA 6)) (zE (zK 7 yX.nd (yP (zA 4) (yHM (zA 6)))) (zL (wK PassesOwn.never rfl (xA rfl yF (zB (kF zGO zTV rfl zCJ zJL (zB (zA 4) zF)) zF)) (yD 8 yX.nd) (zL (jX (zQU (zGI (zMZ (zA 8) (zA 5)) (zFD (zCN (zN zHQ (hr.mono (by decide)) rfl (zB (zA 7) (zB (yP (zA 4) (zA 8)) zF))))))) (zE (zGK zHX (zOU (zA 5) (zA 8))) (zL (wG (wB (zA 6) (zB (zA 8) zF))))) wC)))))) (zL (yO (kT zJX (zRN rfl) rfl zFA zVW (zB (zA 5) zF)))))))))
    exact h
abbrev zIW:Stmt:=top 13
def zLH:FnScope zPA ["tables","question"] (zI zIW):=fsK (by decide+kernel)
def yET(D:DefM K mg "sways" zIW)(kD:(CalM P w K mg base) "check_tables_once" 1 1 ["question"] yG)(yF:mg "range"=none)(zCJ:mg "len"=none)(zMB:(CalM P w K mg base) "swayed_from" 5 3 ["tables","question","place"] bG)(wR:mg "sorted"=none):(CalM P w K mg base) "sways" 6 2 ["tables","question"] zEG:=
 by have h:=okC (P:=P) (w:=w) (base:=base) D (λ_ _ _ _ _ _ us hl=>match us,hl with |[_,_],_=>rfl) λf fd F=>okM (k:=5) _ F zLH λcdv A outer s H E hr=>(zE (wG (zN kD (hr.mono (by decide)) rfl (zB (zA 1) zF))) (zE (zK 2 zLH.nd (jB zF)) (zE (wK PassesOwn.never rfl (xA rfl yF (zB (kF zGO zTV rfl zCJ zJL (zB (yP (zA 1) zG) zF)) zF)) (yD 3 zLH.nd) (zL (wG (zYX (zA 2) (zB (cE (zI zIW) zPA ["b"] [3] (bC (zN zMB (hr.mono (by decide)) rfl (zB (zA 0) (zB (zA 1) (zB (zA 3) zF))))) rfl (λ_ _ _ _ hN=>(jD 0 hN)) (λ_ _ _ _=>(zOI (zJI hr.units (zA 0) (zA 1)))) (λ_ _ _ _=>(wI (zB (zA 1) (zB (zA 0) zF))))) zF))))) (zL (yO (kF (zMY hr.u128) zWN rfl wR zBA (zB (zA 2) zF)))))))
    exact h
abbrev zVA:Stmt:=top 14
def zIX:FnScope yCU ["tables","question"] (zI zVA):=fsK (by decide+kernel)
def yIY(D:DefM K mg "ring" zVA)(zQG:(CalM P w K mg base) "sways" 6 2 ["tables","question"] zEG):(CalM P w K mg base) "ring" 7 2 ["tables","question"] zPD:=
 by have h:=okC (P:=P) (w:=w) (base:=base) D (λ_ _ _ _ _ _ us hl=>match us,hl with |[_,_],_=>rfl) λf fd F=>okM (k:=6) _ F zIX λcdv A outer s H E hr=>(zE (zK 2 zIX.nd (zN zQG (hr.mono (by decide)) rfl (zB (zA 0) (zB (zA 1) zF)))) (zE (wK PassesOwn.never rfl (bC (zA 2)) (zOG (n:=2) rfl (nQ (yD 3 zIX.nd) (nQ (yD 4 zIX.nd) zOF))) (zL (jX (yJD hr.units (wI (zB (zA 4) (zB (zA 3) zF))) (zA 2)) (zL (yO (jB (zB (zA 3) (zB (zA 4) zF))))) wC))) (zL (yO zJE))))
    exact h
abbrev nK:Stmt:=top 16
def zIO:FnScope ["_law_script","_law_k"] ["_law_script","_law_k"] (zI nK):=fsK (by decide+kernel)
def zIP(D:DefM K mg "_law_cell_at" nK)(zCJ:mg "len"=none):(CalM P w K mg base) "_law_cell_at" 1 2 ["_law_script","_law_k"] zH:=
 by have h:=okC (P:=P) (w:=w) (base:=base) D (λ_ _ _ _ _ _ us hl=>match us,hl with |[_,_],_=>rfl) λf fd F=>okM (k:=0) _ F zIO λcdv A outer s H E hr=>(zE (jX (zVV hr.units (zA 1) (kF zGO zTV rfl zCJ zJL (zB (zA 0) zF))) (zL (yO (yP (zA 0) (zA 1)))) wC) (zL (yO zG)))
    exact h
abbrev nL:Stmt:=top 17
def yH:FnScope zDA ["_law_rest"] (zI nL):=fsK (by decide+kernel)
def zIQ(D:DefM K mg "_law_name_in" nL)(yF:mg "range"=none):(CalM P w K mg base) "_law_name_in" 1 1 ["_law_rest"] jK:=
 by have h:=okC (P:=P) (w:=w) (base:=base) D (λ_ _ _ _ _ _ us hl=>match us,hl with |[_],_=>rfl) λf fd F=>okM (k:=0) _ F yH λcdv A outer s H E hr=>(zE (zK 1 yH.nd (zAE [97,98,99,100,101,102,103,104,105,106,107,108,109,110,111,112,113,114,115,116,117,118,119,120,121,122])) (zE (zK 2 yH.nd (yM zG (yL (zA 0) zG))) (zE (zK 0 yH.nd (kQ (zA 0) zG)) (zE (zK 3 yH.nd (zAE [])) (zE (wK PassesOwn.never rfl (xA rfl yF (zB (zA 2) zF)) (yD 4 yH.nd) (zE (zK 3 yH.nd (yM (zA 3) (yP (zA 1) (yL (zA 0) zG)))) (zL (zK 0 yH.nd (kQ (zA 0) zG))))) (zL (yO (wI (zB (zA 3) (zB (zA 0) zF))))))))))
    exact h
abbrev xZ:Stmt:=top 18
def zS:FnScope jF ["_law_rest","_law_many"] (zI xZ):=fsK (by decide+kernel)
def zAT(D:DefM K mg "_law_words_by_digits" xZ)(yF:mg "range"=none)(zLJ:(CalM P w K mg base) "_law_name_in" 1 1 ["_law_rest"] jK):(CalM P w K mg base) "_law_words_by_digits" 2 2 ["_law_rest","_law_many"] yR:=
 by have h:=okC (P:=P) (w:=w) (base:=base) D (λ_ _ _ _ _ _ us hl=>match us,hl with |[_,_],_=>rfl) λf fd F=>okM (k:=1) _ F zS λcdv A outer s H E hr=>(zE (zK 2 zS.nd (jB zF)) (zE (wK PassesOwn.never rfl (xA rfl yF (zB (zA 1) zF)) (yD 3 zS.nd) (zE (zGK (zN zLJ (hr.mono (by decide)) rfl (zB (zA 0) zF)) (zOG (n:=2) rfl (nQ (yD 4 zS.nd) (nQ (yD 0 zS.nd) zOF)))) (zE (wK PassesOwn.never rfl (yLF (zAE [97,98,99,100,101,102,103,104,105,106])) (yD 5 zS.nd) (zL (jX (yJD hr.units (zA 4) (zA 2)) (zL (zK 4 zS.nd (yM (zCR (zA 4) zAX (cC zG)) (zA 5)))) wC))) (zL (wG (wB (zA 2) (zB (zA 4) zF))))))) (zL (yO (zA 2)))))
    exact h
abbrev zBV:Stmt:=top 19
def zW:FnScope zFS ["_law_cell","_law_many"] (zI zBV):=fsK (by decide+kernel)
def zLY(D:DefM K mg "_law_words" zBV)(zBY:(CalM P w K mg base) "_law_words_by_digits" 2 2 ["_law_rest","_law_many"] yR)(yF:mg "range"=none):(CalM P w K mg base) "_law_words" 3 2 ["_law_cell","_law_many"] cJ:=
 by have h:=okC (P:=P) (w:=w) (base:=base) D (λ_ _ _ _ _ _ us hl=>match us,hl with |[_,_],_=>rfl) λf fd F=>okM (k:=2) _ F zW λcdv A outer s H E hr=>(zE (jX (zHY hr.units (yL (zA 0) zG) zG) (zL (yO (zN zBY (hr.mono (by decide)) rfl (zB (kQ (zA 0) zG) (zB (zA 1) zF))))) wC) (zE (zK 2 zW.nd (zAE [97,98,99,100,101,102,103,104,105,106,107,108,109,110,111,112,113,114,115,116,117,118,119,120,121,122])) (zE (zK 0 zW.nd (yL (zCQ (yL (zCQ (zA 0) zG) zG) zG) zG)) (zE (zK 3 zW.nd (yM zG (yL (zA 0) zG))) (zE (zK 4 zW.nd (yL (kQ (zA 0) zG) (zA 3))) (zE (zK 5 zW.nd (jB zF)) (zE (wK PassesOwn.never rfl (xA rfl yF (zB (zA 1) zF)) (yD 6 zW.nd) (zE (zK 7 zW.nd (zAE [])) (zE (wK PassesOwn.never rfl (xA rfl yF (zB (zA 3) zF)) (yD 8 zW.nd) (zE (zK 9 zW.nd (yM (kQ (zA 0) (yM zG (zCQ zG (zA 8)))) (zCQ (zA 8) (yL (kQ (zA 0) zG) zG)))) (zE (jX (zHY hr.units (zA 8) (zA 4)) (zL (zK 9 zW.nd (yM (zA 9) (zCQ zG (zA 6))))) wC) (zL (zK 7 zW.nd (yM (zA 7) (yP (zA 2) (yL (zA 9) zG)))))))) (zL (wG (wB (zA 5) (zB (zA 7) zF))))))) (zE (jX (zHY hr.units (yL (kQ (zA 0) zG) zG) zG) (zL (zGK (yM (yP (zA 5) zG) (yP (zA 2) (yL (kQ (zA 0) zG) zG))) (yLS (zA 5) zG))) wC) (zL (yO (zA 5)))))))))))
    exact h
abbrev zBW:Stmt:=top 20
def yS:FnScope zFT ["_law_cell","_law_many"] (zI zBW):=fsK (by decide+kernel)
def zLZ(D:DefM K mg "_law_drawn" zBW)(yF:mg "range"=none):(CalM P w K mg base) "_law_drawn" 1 2 ["_law_cell","_law_many"] xY:=
 by have h:=okC (P:=P) (w:=w) (base:=base) D (λ_ _ _ _ _ _ us hl=>match us,hl with |[_,_],_=>rfl) λf fd F=>okM (k:=0) _ F yS λcdv A outer s H E hr=>(zE (zK 2 yS.nd (jB zF)) (zE (jX (zHY hr.units (yL (zA 0) zG) zG) (zE (zK 3 yS.nd (kQ (zA 0) zG)) (zE (wK PassesOwn.never rfl (xA rfl yF (zB (zA 1) zF)) (yD 4 yS.nd) (zE (wG (wB (zA 2) (zB (yL (zA 3) zG) zF))) (zL (zK 3 yS.nd (kQ (zA 3) zG))))) (zL (yO (zA 2))))) wC) (zE (zK 5 yS.nd (yM (yL (zA 0) zG) zG)) (zE (wK PassesOwn.never rfl (xA rfl yF (zB (zA 1) zF)) (yD 4 yS.nd) (zE (zK 5 yS.nd (yL (yM (yM (zCQ (zA 5) (zA 5)) (zCQ zG (zA 5))) (zA 4)) zG)) (zL (wG (wB (zA 2) (zB (kQ (yL (zCQ (zA 5) zG) zG) zG) zF)))))) (zL (yO (zA 2)))))))
    exact h
abbrev nM:Stmt:=top 21
def yI:FnScope zBB ["_law_script","_law_words_here","_law_many","_law_closed"] (zI nM):=fsK (by decide+kernel)
def zSY(D:DefM K mg "_law_row" nM)(yF:mg "range"=none)(zY:(CalM P w K mg base) "_law_cell_at" 1 2 ["_law_script","_law_k"] zH)(zGE:(CalM P w K mg base) "_law_drawn" 1 2 ["_law_cell","_law_many"] xY)(zAB:mg "tuple"=none):(CalM P w K mg base) "_law_row" 2 4 ["_law_script","_law_words_here","_law_many","_law_closed"] zBR:=
 by have h:=okC (P:=P) (w:=w) (base:=base) D (λ_ _ _ _ _ _ us hl=>match us,hl with |[_,_,_,_],_=>rfl) λf fd F=>okM (k:=1) _ F yI λcdv A outer s H E hr=>(zE (zK 4 yI.nd (jB zF)) (zE (zK 5 yI.nd (jB zF)) (zE (zVQ 6 yI.nd (zI nM) zBB ["_law_k"] [0,2] (xA rfl yF (zB (zA 2) zF)) rfl (λ_ _ _ _ hN=>(jD 0 hN)) (λ_ _ _ _=>nR) (λ_ _ _ _=>(yL (yM (kQ (zN zY (hr.mono (by decide)) rfl (zB (zA 1) (zB zG zF))) zG) (zA 0)) (zA 2)))) (zE (wK PassesOwn.never rfl (xA rfl yF (zB (zA 2) zF)) (yD 7 yI.nd) (zE (zK 8 yI.nd (zN zGE (hr.mono (by decide)) rfl (zB (zN zY (hr.mono (by decide)) rfl (zB (zA 0) (zB (yM zG (zA 7)) zF))) (zB zG zF)))) (zL (wG (wB (zA 4) (zB (wI (zB (yM zG (yL (yP (zA 8) zG) zG)) (zB zG zF))) zF)))))) (zE (wK PassesOwn.never rfl (xA rfl yF (zB (zA 2) zF)) (yD 7 yI.nd) (zE (zK 8 yI.nd (zN zGE (hr.mono (by decide)) rfl (zB (zN zY (hr.mono (by decide)) rfl (zB (zA 0) (zB (yM zG (zA 7)) zF))) (zB zG zF)))) (zE (zK 9 yI.nd (yM (zA 7) zG)) (zE (jX (zQU (zGI (zCN (zA 3)) (zFD (zHY hr.units (zA 9) (zA 2))))) (zL (zK 9 yI.nd zG)) wC) (zE (zK 10 yI.nd (jB (zB (wI (zB (zAE [118,97,114]) (zB (yP (zA 1) (zA 7)) zF))) (zB (wI (zB (zAE [118,97,114]) (zB (yP (zA 1) (zA 9)) zF))) zF)))) (zE (zK 10 yI.nd (yM (zA 10) (cE (zI nM) zBB ["_law_number"] [1,7] (bC (zCR (zA 8) (cC zG) (cC zG))) rfl (λ_ _ _ _ hN=>(jD 0 hN)) (λ_ _ _ _=>nR) (λ_ _ _ _=>(yP (jB (zB (wI (zB (zAE [105,115]) (zB (yL (kQ (zA 0) zG) (yLI zG zG)) zF))) (zB (wI (zB (zAE [118,97,114]) (zB (yP (zA 1) (zA 2)) zF))) zF))) (yL (zA 0) zG)))))) (zL (wG (wB (zA 5) (zB (wI (zB (yP (zA 6) (zA 7)) (zB (kT zAC zJK rfl zAB zJM (zB (zCR (zA 10) zAX (cC (yP (yP (zA 4) (yP (zA 6) (zA 7))) zG))) zF)) zF))) zF)))))))))) (zL (yO (wI (zB (kT zAC zJK rfl zAB zJM (zB (zA 4) zF)) (zB (zA 5) zF))))))))))
    exact h
abbrev zDU:Stmt:=top 22
def zQE:FnScope kW kW (zI zDU):=fsK (by decide+kernel)
def zQF(D:DefM K mg "_law_next" zDU):(CalM P w K mg base) "_law_next" 1 3 kW wP:=
 by have h:=okC (P:=P) (w:=w) (base:=base) D (λ_ _ _ _ _ _ us hl=>match us,hl with |[_,_,_],_=>rfl) λf fd F=>okM (k:=0) _ F zQE λcdv A outer s H E hr=>(zE (jX (zQU (zGI (zCN (zA 1)) (zFD (zHY hr.units (yM (zA 2) zG) (zA 0))))) (zL (yO zG)) wC) (zL (yO (yM (zA 2) zG))))
    exact h
abbrev zBX:Stmt:=top 23
def kL:FnScope cF ["_law_words_here","_law_many","_law_closed","_law_fixed","_law_k"] (zI zBX):=fsK (by decide+kernel)
def zMA(D:DefM K mg "_law_names" zBX)(zAA:(CalM P w K mg base) "_law_next" 1 3 kW wP)(wR:mg "sorted"=none)(zTB:mg "set"=none):(CalM P w K mg base) "_law_names" 2 5 ["_law_words_here","_law_many","_law_closed","_law_fixed","_law_k"] cM:=
 by have h:=okC (P:=P) (w:=w) (base:=base) D (λ_ _ _ _ _ _ us hl=>match us,hl with |[_,_,_,_,_],_=>rfl) λf fd F=>okM (k:=1) _ F kL λcdv A outer s H E hr=>(zE (zK 5 kL.nd (jB zF)) (zE (jX (zJI hr.units (zA 4) (zA 3)) (zL (wG (wB (zA 5) (zB (yP (zA 0) (zA 4)) zF)))) wC) (zE (zK 6 kL.nd (zA 4)) (zE (jX (yBJ (zA 3) zJE) (zL (zK 6 kL.nd (zA 3))) wC) (zE (zFF 10000 PassesOwn.never (zQU (zGI (zJI hr.units (zA 6) (zA 4)) (zFD (zVV hr.units (zA 6) (zA 1))))) (zE (zK 6 kL.nd (zN zAA (hr.mono (by decide)) rfl (zB (zA 1) (zB (zA 2) (zB (zA 6) zF))))) (zL (wG (wB (zA 5) (zB (yP (zA 0) (zA 6)) zF)))))) (zL (yO (zZL rfl rfl wR rfl zTB (zB (zA 5) zF)))))))))
    exact h
abbrev zAK:Stmt:=top 24
def jU:FnScope zEL ["_law_many","_law_closed","_law_fixed","_law_k"] (zI zAK):=fsK (by decide+kernel)
def zLI(D:DefM K mg "_law_behind" zAK)(zAA:(CalM P w K mg base) "_law_next" 1 3 kW wP):(CalM P w K mg base) "_law_behind" 2 4 ["_law_many","_law_closed","_law_fixed","_law_k"] bH:=
 by have h:=okC (P:=P) (w:=w) (base:=base) D (λ_ _ _ _ _ _ us hl=>match us,hl with |[_,_,_,_],_=>rfl) λf fd F=>okM (k:=1) _ F jU λcdv A outer s H E hr=>(zE (zK 4 jU.nd (jB zF)) (zE (zK 5 jU.nd (zN zAA (hr.mono (by decide)) rfl (zB (zA 0) (zB (zA 1) (zB (zA 3) zF))))) (zE (zFF 10000 PassesOwn.never (zQU (zGI (zJI hr.units (zA 5) (zA 3)) (zGI (zVV hr.units (zA 5) (zA 0)) (zFD (zJI hr.units (zA 5) (zA 2)))))) (zE (wG (wB (zA 4) (zB (zA 5) zF))) (zL (zK 5 jU.nd (zN zAA (hr.mono (by decide)) rfl (zB (zA 0) (zB (zA 1) (zB (zA 5) zF)))))))) (zL (yO (zA 4))))))
    exact h
abbrev zXT:Stmt:=top 25
def kB:FnScope yCV ["_law_script"] (zI zXT):=fsK (by decide+kernel)
def yNQ{f:Addr}{fd:FuncData}(F:Fun K "law" "law" zXT f fd)(zQH:(CalM P w K mg base) "_law_words" 3 2 ["_law_cell","_law_many"] cJ)(zY:(CalM P w K mg base) "_law_cell_at" 1 2 ["_law_script","_law_k"] zH)(zVB:(CalM P w K mg base) "_law_row" 2 4 ["_law_script","_law_words_here","_law_many","_law_closed"] zBR)(zTA:mg "int"=none)(zAB:mg "tuple"=none)(yF:mg "range"=none)(yIZ:(CalM P w K mg base) "known" 5 3 nT zFW)(zQI:(CalM P w K mg base) "_law_names" 2 5 ["_law_words_here","_law_many","_law_closed","_law_fixed","_law_k"] cM)(zMC:(CalM P w K mg base) "_law_behind" 2 4 ["_law_many","_law_closed","_law_fixed","_law_k"] bH)(zQG:(CalM P w K mg base) "sways" 6 2 ["tables","question"] zEG)(wR:mg "sorted"=none)(yNR:(CalM P w K mg base) "ring" 7 2 ["tables","question"] zPD):FnOk P w K mg base CX0 8 f fd ["_law_script"] (spM ⟨K,mg,P,w⟩ 1 zSB):=
 by have h:=okM (P:=P) (w:=w) (mg:=mg) (base:=base) (k:=7) _ F kB λcdv A outer s H E hr=>(zE (zK 1 kB.nd (zN zQH (hr.mono (by decide)) rfl (zB (zN zY (hr.mono (by decide)) rfl (zB (zA 0) (zB zG zF))) (zB zG zF)))) (zE (zK 2 kB.nd (yM zG (yL (zN zY (hr.mono (by decide)) rfl (zB (zA 0) (zB zG zF))) zG))) (zE (zK 3 kB.nd (yBG hr.units (yL (kQ (zN zY (hr.mono (by decide)) rfl (zB (zA 0) (zB zG zF))) zG) zG) zG)) (zE (zGK (zN zVB (hr.mono (by decide)) rfl (zB (zA 0) (zB (zA 1) (zB (zA 2) (zB (zA 3) zF))))) (zOG (n:=2) rfl (nQ (yD 4 kB.nd) (nQ (yD 5 kB.nd) zOF)))) (zE (zK 6 kB.nd zJE) (zE (zK 7 kB.nd (wI zF)) (zE (jX (zHY hr.units (yL (zN zY (hr.mono (by decide)) rfl (zB (zA 0) (zB zG zF))) zG) zG) (zE (zK 6 kB.nd (yL (kQ (zN zY (hr.mono (by decide)) rfl (zB (zA 0) (zB zG zF))) zG) (yBB (yM (zA 2) zG) (kT zRA yLR rfl zTA yLQ (zB (zA 3) zF))))) (zL (zK 7 kB.nd (wI (zB (yP (zA 1) (zA 6)) zF))))) wC) (zE (zK 8 kB.nd (yL (zN zY (hr.mono (by decide)) rfl (zB (zA 0) (zB zG zF))) (zA 2))) (zE (zK 9 kB.nd (wI (zB (zA 7) (zB (kT zAC zJK rfl zAB zJM (zB (yM (zCR (zA 5) (cC (zA 8)) zAX) (zCR (zA 5) zAX (cC (zA 8)))) zF)) zF)))) (zE (zK 10 kB.nd (jB zF)) (zE (wK PassesOwn.never rfl (xA rfl yF (zB (zA 2) zF)) (yD 11 kB.nd) (zE (zK 12 kB.nd (yL (yM (zA 8) (zA 11)) (zA 2))) (zE (jX (zJI hr.units (zN yIZ (hr.mono (by decide)) rfl (zB (zA 4) (zB (zA 9) (zB (zA 11) zF)))) (zN zQI (hr.mono (by decide)) rfl (zB (zA 1) (zB (zA 2) (zB (zA 3) (zB (zA 6) (zB (zA 12) zF))))))) (zL (yO zHX)) wC) (zL (zK 10 kB.nd (yM (zA 10) (cE (zI zXT) yCV ["_law_there"] [2,8,11] (bC (zN zMC (hr.mono (by decide)) rfl (zB (zA 2) (zB (zA 3) (zB (zA 6) (zB (zA 12) zF)))))) rfl (λ_ _ _ _ hN=>(jD 0 hN)) (λ_ _ _ _=>nR) (λ_ _ _ _=>(wI (zB (zA 3) (zB (yL (yBB (zA 0) (zA 2)) (zA 1)) zF))))))))))) (zE (jX (zJI hr.units (zN zQG (hr.mono (by decide)) rfl (zB (zA 4) (zB (zA 9) zF))) (kF (zMY hr.u128) zWN rfl wR zBA (zB (zA 10) zF))) (zL (yO zHX)) wC) (zL (yO (yBG hr.units (pm_is (zN yNR (hr.mono (by decide)) rfl (zB (zA 4) (zB (zA 9) zF))) zJE) (yJA (yLE (zA 3)) (yJA (yBG hr.units (zA 2) zG) (yLD (yBI (zA 6) zJE)))))))))))))))))))
    exact h
end
def all_mk{l:PySem.W.OpenLaw}{w:World}{K:Be}{h:Heap}{mg:Aj}{fa:Addr}(X:K.In h)(GG:h.Ns mainGlobals mg)(hfa:mg "law"=some (.ref fa))
  (D0:DefM K mg "names_in" zEY)
  (D1:DefM K mg "check_tables_once" kA)
  (D2:DefM K mg "free_names" cN)
  (D3:DefM K mg "key_names" zDT)
  (D4:DefM K mg "known_at" bB)
  (D5:DefM K mg "known" zQD)
  (D6:DefM K mg "have_in_common" wW)
  (D7:DefM K mg "swayed_from" kK)
  (D8:DefM K mg "sways" zIW)
  (D9:DefM K mg "ring" zVA)
  (D10:DefM K mg "_law_cell_at" nK)
  (D11:DefM K mg "_law_name_in" nL)
  (D12:DefM K mg "_law_words_by_digits" xZ)
  (D13:DefM K mg "_law_words" zBV)
  (D14:DefM K mg "_law_drawn" zBW)
  (D15:DefM K mg "_law_row" nM)
  (D16:DefM K mg "_law_next" zDU)
  (D17:DefM K mg "_law_names" zBX)
  (D18:DefM K mg "_law_behind" zAK)
  (D19:DefM K mg "law" zXT)
  (zSZ:PySem.W.nsIn K mainGlobals "all"=some none)
  (zTC:PySem.W.nsIn K mainGlobals "any"=some none)
  (zHR:PySem.W.nsIn K mainGlobals "dict"=some none)
  (bN:PySem.W.nsIn K mainGlobals "enumerate"=some none)
  (zTA:PySem.W.nsIn K mainGlobals "int"=some none)
  (zCJ:PySem.W.nsIn K mainGlobals "len"=some none)
  (zFA:PySem.W.nsIn K mainGlobals "list"=some none)
  (yF:PySem.W.nsIn K mainGlobals "range"=some none)
  (zTB:PySem.W.nsIn K mainGlobals "set"=some none)
  (wR:PySem.W.nsIn K mainGlobals "sorted"=some none)
  (zAB:PySem.W.nsIn K mainGlobals "tuple"=some none)
  : ∃fd:FuncData,(∀(s:Shared)(v:Value),BindsTo s fd ⟨[v],[]⟩ [("_law_script",v)])/\ ∀base:Heap,K.In base->base.Ns mainGlobals mg->FnOk l.prog w K mg base CX0 8 fa fd ["_law_script"] (zMR K zSB):=by
 have Z_all:=PySem.W.mg_none_of X GG zSZ;have Z_any:=PySem.W.mg_none_of X GG zTC;have Z_dict:=PySem.W.mg_none_of X GG zHR;have Z_enumerate:=PySem.W.mg_none_of X GG bN;have Z_int:=PySem.W.mg_none_of X GG zTA;have Z_len:=PySem.W.mg_none_of X GG zCJ;have Z_list:=PySem.W.mg_none_of X GG zFA;have Z_range:=PySem.W.mg_none_of X GG yF;have Z_set:=PySem.W.mg_none_of X GG zTB;have Z_sorted:=PySem.W.mg_none_of X GG wR;have Z_tuple:=PySem.W.mg_none_of X GG zAB;refine yMQ D19 hfa (λ_ _ _ _ _ _ s v=>.of_eq rfl) λbase f fd F=>?_;have G0:=zSW (P:=l.prog) (w:=w) (base:=base) D0 Z_list;have G1:=zDS (P:=l.prog) (w:=w) (base:=base) D1 Z_enumerate;have G2:=zLX (P:=l.prog) (w:=w) (base:=base) D2 G0;have G3:=zQC (P:=l.prog) (w:=w) (base:=base) D3 G2;have G4:=zSX (P:=l.prog) (w:=w) (base:=base) D4 G3 Z_dict Z_len Z_all G2;have G5:=yES (P:=l.prog) (w:=w) (base:=base) D5 G1 G4 Z_sorted;have G6:=zGD (P:=l.prog) (w:=w) (base:=base) D6 Z_any;have G7:=zLG (P:=l.prog) (w:=w) (base:=base) D7 G4 G2 Z_range Z_len G6 Z_list;have G8:=yET (P:=l.prog) (w:=w) (base:=base) D8 G1 Z_range Z_len G7 Z_sorted;have G9:=yIY (P:=l.prog) (w:=w) (base:=base) D9 G8;have G10:=zIP (P:=l.prog) (w:=w) (base:=base) D10 Z_len;have G11:=zIQ (P:=l.prog) (w:=w) (base:=base) D11 Z_range;have G12:=zAT (P:=l.prog) (w:=w) (base:=base) D12 Z_range G11;have G13:=zLY (P:=l.prog) (w:=w) (base:=base) D13 G12 Z_range;have G14:=zLZ (P:=l.prog) (w:=w) (base:=base) D14 Z_range;have G15:=zSY (P:=l.prog) (w:=w) (base:=base) D15 Z_range G10 G14 Z_tuple;have G16:=zQF (P:=l.prog) (w:=w) (base:=base) D16;have G17:=zMA (P:=l.prog) (w:=w) (base:=base) D17 G16 Z_sorted Z_set;have G18:=zLI (P:=l.prog) (w:=w) (base:=base) D18 G16;exact yNQ (P:=l.prog) (w:=w) (base:=base) F G13 G10 G15 Z_int Z_tuple Z_range G5 G17 G18 G8 Z_sorted G9
def walk{l:PySem.W.OpenLaw}{q:Program}{loose:Ai}{XP:(Str->Option Value)->Heap->Prop}{YP:World->Heap->Prop}{d:DefRec}{K:Params->PySem.W.Frag}(hn:l.most=some 63)(hdf:d.params.defaults=[])
  (hY: ∀(w:World)(h:Heap),YP w h->(K w.params).In h)
  (F: ∀(w:World)(mg:Aj)(fa:Addr)(h:Heap),(K w.params).In h->h.Ns mainGlobals mg->mg d.name=some (.ref fa)->
   ∃fd:FuncData,(∀(s:Shared)(u:Value),BindsTo s fd ⟨[u],[]⟩ [("_law_script",u)])/\ ∀base:Heap,(K w.params).In base->base.Ns mainGlobals mg->FnOk l.prog w (K w.params) mg base CX0 8 fa fd ["_law_script"] (zMR (K w.params) zSB)):
  PySem.W.WalkO q loose XP YP l.row.toRowW d [] (λf vs=>PySem.call f vs):=
 L2.walk_of (n:=63) (k:=8) (x:="_law_script") (CX:=λ_=>CX0) (sp:=λw=>zMR (K w.params) zSB) hn (by decide) hdf ⟨rfl,by decide,by decide⟩ hY F
  (λw H a ns hl hO hS=>yBR hO hS (yEQ ns hl)) λ_ _ _ _ _ z=>z
end My
end M
end L2
namespace PySem.W.Fast
def tw6488951213092616765:=0
theorem te6488951213092616765:tw6488951213092616765=0:=rfl
def tw6912517227058155407:=0
theorem te6912517227058155407:tw6912517227058155407=0:=rfl
def tw16958456521640151425:=0
theorem te16958456521640151425:tw16958456521640151425=0:=rfl
def tw3005816501443749784:=0
theorem te3005816501443749784:tw3005816501443749784=0:=rfl
def tw11713485803722263287:=0
theorem te11713485803722263287:tw11713485803722263287=0:=rfl
def tw9671470114708158680:=0
theorem te9671470114708158680:tw9671470114708158680=0:=rfl
def tw15139809789477927593:=0
theorem te15139809789477927593:tw15139809789477927593=0:=rfl
def tw12699353347557247519:=0
theorem te12699353347557247519:tw12699353347557247519=0:=rfl
def tw2469298207939447695:=0
theorem te2469298207939447695:tw2469298207939447695=0:=rfl
def tw16903202694640454858:=0
theorem te16903202694640454858:tw16903202694640454858=0:=rfl
def tw8364366681865943363:=0
theorem te8364366681865943363:tw8364366681865943363=0:=rfl
def tw2480971222343189308:=0
theorem te2480971222343189308:tw2480971222343189308=0:=rfl
def tw12292743035861750233:=0
theorem te12292743035861750233:tw12292743035861750233=0:=rfl
def tw17833408730111765011:=0
theorem te17833408730111765011:tw17833408730111765011=0:=rfl
def tw4147501920467222253:=0
theorem te4147501920467222253:tw4147501920467222253=0:=rfl
def tw5759857466663881942:=0
theorem te5759857466663881942:tw5759857466663881942=0:=rfl
def tw7899618174482393901:=0
theorem te7899618174482393901:tw7899618174482393901=0:=rfl
def tw7542865587694298249:=0
theorem te7542865587694298249:tw7542865587694298249=0:=rfl
def tw14272728748474343893:=0
theorem te14272728748474343893:tw14272728748474343893=0:=rfl
def tw10286692089102862343:=0
theorem te10286692089102862343:tw10286692089102862343=0:=rfl
def tw11289539722395893186:=0
theorem te11289539722395893186:tw11289539722395893186=0:=rfl
end PySem.W.Fast
open PySem PySem.W PyProof.Rows
set_option maxRecDepth 100000 in
set_option maxHeartbeats 0 in
theorem PySem.Challenge.cw_mendsure_k65_atoms_in_a_row_holds : PySem.Challenge.rw_mendsure_k65_atoms_in_a_row.Holds := by
  w_on; o_law; k_head; (case hw => w_witness2)
  k_fill
  refine L2.M.My.walk (l := PySem.Challenge.rw_mendsure_k65_atoms_in_a_row) rfl rfl (fun w h Y => PySem.W.kIn_of Y) ?F
  case F =>
    intro w mg fa h KX G hmg
    refine' L2.M.My.all_mk KX G hmg ?D0 ?D1 ?D2 ?D3 ?D4 ?D5 ?D6 ?D7 ?D8 ?D9 ?D10 ?D11 ?D12 ?D13 ?D14 ?D15 ?D16 ?D17 ?D18 ?D19 ?zSZ ?zTC ?zHR ?bN ?zTA ?zCJ ?zFA ?yF ?zTB ?wR ?zAB
    (case D0 => exact L2.M.def_mk (by k_is) (by k_is) (by k_is) (by k_is) KX G)
    (case D1 => exact L2.M.def_mk (by k_is) (by k_is) (by k_is) (by k_is) KX G)
    (case D2 => exact L2.M.def_mk (by k_is) (by k_is) (by k_is) (by k_is) KX G)
    (case D3 => exact L2.M.def_mk (by k_is) (by k_is) (by k_is) (by k_is) KX G)
    (case D4 => exact L2.M.def_mk (by k_is) (by k_is) (by k_is) (by k_is) KX G)
    (case D5 => exact L2.M.def_mk (by k_is) (by k_is) (by k_is) (by k_is) KX G)
    (case D6 => exact L2.M.def_mk (by k_is) (by k_is) (by k_is) (by k_is) KX G)
    (case D7 => exact L2.M.def_mk (by k_is) (by k_is) (by k_is) (by k_is) KX G)
    (case D8 => exact L2.M.def_mk (by k_is) (by k_is) (by k_is) (by k_is) KX G)
    (case D9 => exact L2.M.def_mk (by k_is) (by k_is) (by k_is) (by k_is) KX G)
    (case D10 => exact L2.M.def_mk (by k_is) (by k_is) (by k_is) (by k_is) KX G)
    (case D11 => exact L2.M.def_mk (by k_is) (by k_is) (by k_is) (by k_is) KX G)
    (case D12 => exact L2.M.def_mk (by k_is) (by k_is) (by k_is) (by k_is) KX G)
    (case D13 => exact L2.M.def_mk (by k_is) (by k_is) (by k_is) (by k_is) KX G)
    (case D14 => exact L2.M.def_mk (by k_is) (by k_is) (by k_is) (by k_is) KX G)
    (case D15 => exact L2.M.def_mk (by k_is) (by k_is) (by k_is) (by k_is) KX G)
    (case D16 => exact L2.M.def_mk (by k_is) (by k_is) (by k_is) (by k_is) KX G)
    (case D17 => exact L2.M.def_mk (by k_is) (by k_is) (by k_is) (by k_is) KX G)
    (case D18 => exact L2.M.def_mk (by k_is) (by k_is) (by k_is) (by k_is) KX G)
    (case D19 => exact L2.M.def_mk (by k_is) (by k_is) (by k_is) (by k_is) KX G)
    (case zSZ => k_is)
    (case zTC => k_is)
    (case zHR => k_is)
    (case bN => k_is)
    (case zTA => k_is)
    (case zCJ => k_is)
    (case zFA => k_is)
    (case yF => k_is)
    (case zTB => k_is)
    (case wR => k_is)
    (case zAB => k_is)
