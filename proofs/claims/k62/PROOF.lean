
import PyProof.Rows.All
import Wide.All
import OpenK.AllK
import Wide.FinOn
import Lean
import PyProof.EqAt
import PyProof.EqKinds
import PyProof.TupleCall
import PySem.Challenge.RW_mendsure_k62_who_sways_whom
set_option Elab.async false
set_option linter.all false
set_option maxRecDepth 100000
noncomputable section
open List (all_cons all_eq_true all_map any_cons any_eq_true append_cancel_left cons_append drop_zero ext_getElem? filterMap_cons filterMap_cons_some filter_cons find?_cons flatten_cons foldl_cons forIn_cons forIn_nil getD_eq_getElem?_getD getElem?_append_left getElem?_append_right getElem?_eq_none getElem?_map getElem?_of_mem getElem?_set_ne getElem?_set_self getElem_inj getElem_mem getElem_of_mem isEmpty_map le_trans length_drop length_filterMap_le length_filter_le length_nil length_pos_iff length_range length_replicate length_set length_zip length_zipIdx lookup_cons map_append map_cons map_drop map_filterMap map_id map_map map_nil map_take mem_append mem_append_left mem_append_right mem_filter mem_filterMap mem_flatMap mem_of_getElem? mem_of_mem_take mem_range nil_append nodup_append nodup_cons nodup_nil not_lt of_mem_zip pairwise_append pairwise_cons pairwise_map range'_succ replicate_succ reverse_cons take_length take_of_length_le zipIdx_cons zipIdx_nil zip_cons_cons zip_nil_left)
open Bool (not_not or_eq_true)
open Nat (le_of_lt le_refl le_succ le_trans lt_irrefl lt_of_lt_of_le lt_succ_of_lt lt_succ_self lt_trans min_eq_left mod_lt ne_of_gt ne_of_lt not_lt sub_self sub_zero zero_add zero_le)
open Int (toNat_natCast)
def xF0:¬(false=true):=Bool.false_ne_true

abbrev dF0:=@decide_eq_false
abbrev dT0:=@decide_eq_true
abbrev iP:=@if_pos
abbrev iN:=@if_neg
abbrev mC:=@List.mem_cons
abbrev lC:=@List.length_cons
abbrev mO:=@List.mem_cons_of_mem
abbrev lM:=@List.length_map
abbrev nM0:=@List.not_mem_nil
abbrev mS:=@List.mem_singleton
abbrev mF0:=@List.mem_cons_self
abbrev fT:=@Bool.false_eq_true
abbrev sA:=@List.size_toArray
abbrev lS:=@List.length_singleton
abbrev eL:=@Int.emod_lt_of_pos
abbrev eN0:=@Int.emod_nonneg
abbrev aE:=@Bool.and_eq_true
abbrev iF:=@if_false
abbrev aN:=@List.append_nil
abbrev lA:=@List.length_append
abbrev gS0:=@List.getElem?_eq_some_iff
abbrev gE0:=@List.getElem?_eq_getElem
abbrev wB0:=@PySem.wpAny_bind
abbrev wP0:=@PySem.wpAny_pure
abbrev hP0:=@PySem.Heap.get?_push_of_some
abbrev mM:=@List.mem_map
abbrev lT:=@List.length_take
abbrev aA:=@List.append_assoc
abbrev VP:=PySem.Value->PySem.Shared->Prop
abbrev Be:=PySem.W.Frag
abbrev Bd:=List PySem.Expr
abbrev Bc:=Option Int
abbrev Bb:=List Bool
abbrev Ba:=List (PySem.Addr×PySem.Obj)
abbrev Ak:=Array (Int×PySem.Value)
abbrev Aj:=PySem.Str->Option PySem.Value
abbrev Ai:=List PySem.Str
abbrev Ah:=List PySem.Addr
abbrev Ag:=Array PySem.Value
abbrev Ae:=List PySem.Value
abbrev Ad:=List Int
abbrev Ac:=List (Int×Int)
abbrev Ab:=List Nat
abbrev Aa:=List (List Nat)
namespace L2
open PySem PySem.Spec PyProof.Rows
abbrev Key:=Sum Int Str
def zMQ:Key->Value->Bool
 |.inl k,v=>Value.isInt k v
 |.inr x,v=>Value.isStrOf x v
def keyH(w:World):Key->Int
 |.inl k=>hashInt k
 |.inr x=>hashStr w x
def yR: ∀{k:Key}{v:Value},zMQ k v=true->(∃i t,k=Sum.inl i/\v=Value.int i t)\/(∃x t,k=Sum.inr x/\v=Value.str x t)
 |.inl i,v,h=>by obtain⟨t,e⟩:=Value.isInt_shape (k:=i) (v:=v) h;exact .inl ⟨i,t,rfl,e⟩
 |.inr x,v,h=>by obtain⟨t,e⟩:=Value.isStrOf_shape (x:=x) (v:=v) h;exact .inr ⟨x,t,rfl,e⟩
def yDJ(i:Int)(t:Tok):zMQ (.inl i) (.int i t)=true:=by simp [zMQ,Value.isInt]
def yDK(x:Str)(t:Tok):zMQ (.inr x) (.str x t)=true:=by simp [zMQ,Value.isStrOf]
def yPI(a b:Int):decide ((Sum.inl a:Key)=Sum.inl b)=(a==b):=by
 by_cases e:a=b
 ·subst e;simp
 ·have h: ¬(Sum.inl a:Key)=Sum.inl b:=λq=>e (Sum.inl.inj q);rw [dF0 h];exact(beq_eq_false_iff_ne.mpr e).symm
def yPJ(a b:Str):decide ((Sum.inr a:Key)=Sum.inr b)=decide (a=b):=by
 by_cases e:a=b
 ·subst e;simp
 ·have h: ¬(Sum.inr a:Key)=Sum.inr b:=λq=>e (Sum.inr.inj q);rw [dF0 h,dF0 e]
def yPK(a:Int)(b:Str):decide ((Sum.inl a:Key)=Sum.inr b)=false:=dF0 (λq=>nomatch q)
def yPL(a:Str)(b:Int):decide ((Sum.inr a:Key)=Sum.inl b)=false:=dF0 (λq=>nomatch q)
def yP(prog:Program)(w:World):PySem.KeyKind prog w Key where
 is:=zMQ
 hash:=keyH w
 inj:=λv a b ha hb=>by
  rcases yR ha with⟨i,t,rfl,rfl⟩|⟨x,t,rfl,rfl⟩
  ·rcases yR hb with⟨j,u,rfl,e⟩|⟨y,u,rfl,e⟩
   ·injection e with e1 _;rw [e1]
   ·exact nomatch e
  ·rcases yR hb with⟨j,u,rfl,e⟩|⟨y,u,rfl,e⟩
   ·exact nomatch e
   ·injection e with e1 _;rw [e1]
 byValue:=λk v h=>by rcases yR h with⟨i,t,rfl,rfl⟩|⟨x,t,rfl,rfl⟩<;>rfl
 pyHash:=λhv h=>by
  rcases yR hv with⟨i,t,rfl,rfl⟩|⟨x,t,rfl,rfl⟩
  ·exact wpAny_pyHash_int h
  ·exact wpAny_pyHash_str h
 eqBool:=λhu hv h=>by
  rcases yR hu with⟨i,t,rfl,rfl⟩|⟨x,t,rfl,rfl⟩
  ·rcases yR hv with⟨j,u,rfl,rfl⟩|⟨y,u,rfl,rfl⟩
   ·rw [yPI]at h;exact wpAny_eqBool_int h
   ·rw [yPK]at h;exact SeqAt.EqAt.int_str i t y u _ _ _ _ h
  ·rcases yR hv with⟨j,u,rfl,rfl⟩|⟨y,u,rfl,rfl⟩
   ·rw [yPL]at h;exact SeqAt.EqAt.str_int x t j u _ _ _ _ h
   ·rw [yPJ]at h;exact wpAny_eqBool_str h
 «strs»:=λk x t v h=>by
  rcases yR h with⟨i,u,rfl,e⟩|⟨y,u,rfl,e⟩
  ·exact nomatch e
  ·injection e with e1 _
   subst e1;cases v<;>rfl
def zVG(prog:Program)(w:World)(i:Int)(t:Tok):(yP prog w).is (.inl i) (.int i t)=true:=yDJ i t
def nZ(prog:Program)(w:World)(x:Str)(t:Tok):(yP prog w).is (.inr x) (.str x t)=true:=yDK x t
inductive V where
 |non|bl (b:Bool)|int (i:Int)|str (x:Str)|byt (b:Array UInt8)|flt (b:UInt64)|ref (a:Addr)|ty (n:String)
 deriving DecidableEq
def RelV:V->Value->Prop
 |.non,u=>u=Value.none
 |.bl b,u=>u=Value.bool b
 |.int i,u=> ∃t,u=Value.int i t
 |.str x,u=> ∃t,u=Value.str x t
 |.byt b,u=> ∃t,u=Value.bytes b t
 |.flt b,u=> ∃t,u=Value.float b t
 |.ref a,u=>u=Value.ref a
 |.ty n,u=>u=Value.type n
abbrev Vals:List V->List Value->Prop:=Paired RelV
def Vals.length{xs:List V}{us:Ae}(r:Vals xs us):xs.length=us.length:=Paired.length r
theorem Vals.get: ∀{xs:List V}{us:Ae}{i:Nat}{x:V},Vals xs us->xs[i]? =some x-> ∃u,us[i]? =some u/\RelV x u
 |_,_,_,_,.nil,e=>by simp at e
 |_,_,0,_,.cons r _,e=>by simp at e;subst e;exact⟨_,rfl,r⟩
 |_,_,i+1,x,.cons _ t,e=>by obtain⟨u,h1,h2⟩:=Vals.get (i:=i) (x:=x) t (by simpa using e);exact⟨u,by simpa using h1,h2⟩
theorem Vals.set{x:V}{u:Value}(r:RelV x u): ∀{xs:List V}{us:Ae}(i:Nat),Vals xs us->Vals (xs.set i x) (us.set i u)
 |_,_,_,.nil=>.nil
 |_,_,0,.cons _ t=>.cons r t
 |_,_,i+1,.cons q t=>.cons q (Vals.set r i t)
theorem Vals.append: ∀{xs ys:List V}{us ws:Ae},Vals xs us->Vals ys ws->Vals (xs++ys) (us++ws)
 |_,_,_,_,.nil,s=>s
 |_,_,_,_,.cons r t,s=>.cons r (Vals.append t s)
theorem Vals.take: ∀{xs:List V}{us:Ae}(n:Nat),Vals xs us->Vals (xs.take n) (us.take n)
 |_,_,0,_=>.nil
 |_,_,_+1,.nil=>.nil
 |_,_,n+1,.cons r t=>.cons r (Vals.take n t)
theorem Vals.drop: ∀{xs:List V}{us:Ae}(n:Nat),Vals xs us->Vals (xs.drop n) (us.drop n)
 |_,_,0,r=>r
 |_,_,_+1,.nil=>.nil
 |_,_,n+1,.cons _ t=>Vals.drop n t
def Vals.none_of: ∀{xs:List V}{us:Ae}{i:Nat},Vals xs us->xs[i]? =none->us[i]? =none:=λ{xs us i} r e=>by have h1:=r.length;have h2:xs.length<=i:=List.getElem?_eq_none_iff.mp e;exact List.getElem?_eq_none_iff.mpr (by omega)
def RelO:Option V->Option Value->Prop
 |some v,some u=>RelV v u
 |none,none=>True
 |_,_=>False
def KV{κ:Type}:List (κ×V)->List (κ×Value)->Prop:=Paired λ(p:κ×V) (q:κ×Value)=>p.1=q.1/\RelV p.2 q.2
def kV:Key->V
 |.inl i=>.int i
 |.inr x=>.str x
inductive HO where
 |lst (xs:List V)
 |tup (xs:List V)
 |dK (kvs:List (Key×V))|dT (kvs:List (List Key×V))
 |set (S:Int->Bool) (n:Nat)
 |ins (C dx:Addr) (fs:List (Str×V))
 |own (x:Addr)
 |xd (fs:List (Str×V))
 |met (f x:Addr)
 |rng (lo hi:Int)
 |frz (o:Obj) (u:HO)
 |tbl (ps:Ag)
 |ext (φ:Heap->Prop)
abbrev Hp:=Addr->Option HO
def upd(H:Hp)(a:Addr)(o:HO):Hp:=λb=>if b=a then some o else H b
def yV{H:Hp}{a:Addr}{o:HO}:upd H a o a=some o:=by unfold upd;rw [iP rfl]
def zU{H:Hp}{a b:Addr}{o:HO}(h:b≠a):upd H a o b=H b:=by unfold upd;rw [iN h]
def yB{H:Hp}{a b:Addr}{o:HO}(h:H a=some o)(h':H b=none):a≠b:=by intro e;subst e;rw [h]at h';cases h'
section
variable(P:Program)(w:World)
def ObjOk(H:Hp)(h:Heap)(a:Addr):HO->Prop
 |.lst xs=>xs.length<=sizeLine/\ ∃(its:Ae)(n:Nat),Vals xs its/\h.get? a=some {cls:=.type "list",data:=.seq its.toArray n}
 |.tup xs=>xs.length<=sizeLine/\ ∃its:List Value,Vals xs its/\IsTup h a its.toArray
 |.dK kvs=>kvs.length<=sizeLine/\(a==sysModules)=false/\ ∃vs,KV kvs vs/\h.DictOf (yP P w) a vs
 |.dT kvs=>kvs.length<=sizeLine/\(a==sysModules)=false/\ ∃xs:List (List Key×Addr×Value),
   Paired (λ(p:List Key×V) (q:List Key×Addr×Value)=>p.1=q.1/\H q.2.1=some (.tup (p.1.map kV))/\RelV p.2 q.2.2) kvs xs/\
   ∃o es ep,h.get? a=some o/\o.ExactDict/\o.data=.dict es ep/\es.toList=xs.map (entryOfKey (tupleKind (yP P w)))/\(xs.map (·.1)).Nodup
 |.set S n=>h.SetOf (intKind P w) a S n
 |.ins C dx fs=>H dx=some (.own a)/\fs.length<=1000/\dx≠a/\h.get? a=some (PySem.W.instObj C dx)/\
   ∃mA,h.Ns1 dx mA/\(∀f,RelO (fs.lookup f) (mA f))/\PySem.Within mA (fs.map (·.1))
 |.own _=> ∃o,h.get? a=some o
 |.xd fs=> ∃mA,h.Ns1 a mA/\ ∀f,RelO (fs.lookup f) (mA f)
 |.rng lo hi=> ∃t u v,h.get? a=some {cls:=.type "range",data:=.fields #[.int lo t,.int hi u,.int 1 v]}
 |.frz o u=>h.get? a=some o/\ObjOk H h a u
 |.tbl ps=>h.get? a=some {cls:=.none,data:=.fields ps}
 |.met f x=>h.get? a=some (PySem.W.methodObj (.ref f) (.ref x))
 |.ext φ=>φ h/\(∃o,h.get? a=some o)/\ ∀h1 h2:Heap,φ h1->(∀o,h1.get? a=some o->h2.get? a=some o)->φ h2
def HOk(H:Hp)(h:Heap):Prop:= ∀a o,H a=some o->ObjOk P w H h a o
end
section
variable{P:Program}{w:World}{H H':Hp}{h h':Heap}{a:Addr}{o:HO}
def ObjOk.lt(x:ObjOk P w H h a o):a<h.objs.size:=by
 cases o with
 |lst xs=>obtain⟨_,_,_,_,e⟩:=x;exact Heap.lt_size e
 |tup xs=>obtain⟨_,_,_,p⟩:=x;exact p.lt
 |dK kvs=>obtain⟨_,_,_,_,o,_,_,e,_⟩:=x;exact Heap.lt_size e
 |dT kvs=>obtain⟨_,_,_,_,o,_,_,e,_⟩:=x;exact Heap.lt_size e
 |set S n=>obtain⟨o,_,_,_,e,_⟩:=x;exact Heap.lt_size e
 |ins C dx fs=>obtain⟨_,_,_,e,_⟩:=x;exact Heap.lt_size e
 |own y=>obtain⟨_,e⟩:=x;exact Heap.lt_size e
 |xd fs=>obtain⟨_,⟨_,_,_,e,_⟩,_⟩:=x;exact Heap.lt_size e
 |rng lo hi=>obtain⟨_,_,_,e⟩:=x;exact Heap.lt_size e
 |frz ob u=>obtain⟨e,_⟩:=x;exact Heap.lt_size e
 |tbl ps=>exact Heap.lt_size (show h.get? a=some _ from x)
 |met f y=>exact Heap.lt_size (show h.get? a=some _ from x)
 |ext φ=>obtain⟨_,⟨_,e⟩,_⟩:=x;exact Heap.lt_size e
theorem Paired.mapP{α β:Type}{F G:α->β->Prop}: ∀{l₁:List α}{l₂:List β},Paired F l₁ l₂->(∀a b,F a b->G a b)->Paired G l₁ l₂
 |_,_,.nil,_=>.nil
 |_,_,.cons r t,f=>.cons (f _ _ r) (Paired.mapP t f)
def ObjOk.stay(x:ObjOk P w H h a o)(k: ∀b u,(b=a\/H b=some (.own a))->h.get? b=some u->h'.get? b=some u)
  (ho: ∀b,H b=some (.own a)->H' b=some (.own a)) (ht: ∀b xs,H b=some (.tup xs)->H' b=some (.tup xs)):ObjOk P w H' h' a o:=by
 induction o with
 |lst xs=>obtain⟨z,its,n,r,e⟩:=x;exact⟨z,its,n,r,k _ _ (.inl rfl) e⟩
 |tup xs=>obtain⟨z,its,r,ob,e,c⟩:=x;exact⟨z,its,r,ob,k _ _ (.inl rfl) e,c⟩
 |dK kvs=>obtain⟨z,y,vs,r,ob,es,ep,e,c⟩:=x;exact⟨z,y,vs,r,ob,es,ep,k _ _ (.inl rfl) e,c⟩
 |dT kvs=>
  obtain⟨z,y,xs,r,ob,es,ep,e,c⟩:=x;exact⟨z,y,xs,Paired.mapP r λp q z=>⟨z.1,ht _ _ z.2.1,z.2.2⟩,ob,es,ep,k _ _ (.inl rfl) e,c⟩
 |set S n=>obtain⟨ob,es,ep,t,e,c⟩:=x;exact⟨ob,es,ep,t,k _ _ (.inl rfl) e,c⟩
 |ins C dx fs=>
  obtain⟨d,z,ne,e,mA,⟨od,es,ep,e2,c⟩,r⟩:=x;exact⟨ho _ d,z,ne,k _ _ (.inl rfl) e,mA,⟨od,es,ep,k _ _ (.inr d) e2,c⟩,r⟩
 |own y=>obtain⟨ob,e⟩:=x;exact⟨ob,k _ _ (.inl rfl) e⟩
 |xd fs=>obtain⟨mA,⟨od,es,ep,e,c⟩,r⟩:=x;exact⟨mA,⟨od,es,ep,k _ _ (.inl rfl) e,c⟩,r⟩
 |rng lo hi=>obtain⟨t,u,v,e⟩:=x;exact⟨t,u,v,k _ _ (.inl rfl) e⟩
 |frz ob u ih=>obtain⟨e,q⟩:=x;exact⟨k _ _ (.inl rfl) e,ih q⟩
 |tbl ps=>
  have e:h.get? a=some {cls:=.none,data:=.fields ps}:=x;show h'.get? a=some {cls:=.none,data:=.fields ps};exact k a _ (.inl rfl) e
 |met f y=>
  have e:h.get? a=some (PySem.W.methodObj (.ref f) (.ref y)):=x;show h'.get? a=some (PySem.W.methodObj (.ref f) (.ref y));exact k a _ (.inl rfl) e
 |ext φ=>obtain⟨p,⟨o,e⟩,st⟩:=x;exact⟨st _ _ p λo q=>k _ _ (.inl rfl) q,⟨o,k _ _ (.inl rfl) e⟩,st⟩
def HOk.lt(x:HOk P w H h)(e:H a=some o):a<h.objs.size:=(x a o e).lt
def HOk.fresh(x:HOk P w H h)(e:h.objs.size<=a):H a=none:=by
 cases q:H a with
 |none=>rfl
 |some u=>exact absurd (lt_of_lt_of_le (x.lt q) e) (lt_irrefl _)
def HOk.kept(x:HOk P w H h)(k: ∀b u,h.get? b=some u->h'.get? b=some u):HOk P w H h':=λa o e=>
 (x a o e).stay (λb u _ q=>k b u q) (λ_ q=>q) λ_ _ q=>q
def HOk.laid(x:HOk P w H h)(k: ∀b u,h.get? b=some u->h'.get? b=some u)(hp:h.objs.size<=a)(new:ObjOk P w (upd H a o) h' a o):HOk P w (upd H a o) h':=λb u e=>by
 have hn:=x.fresh hp;by_cases hb:b=a
 ·subst hb;rw [yV]at e;cases e;exact new
 ·rw [zU hb]at e;exact(x b u e).stay (λc v _ q=>k c v q) (λc q=>by rw [zU (yB q hn)];exact q) λc xs q=>by rw [zU (yB q hn)];exact q
end
def Rd(H:Hp)(a:Addr)(u:HO):Prop:=H a=some u\/ ∃o,H a=some (.frz o u)
def Rd.ok{P:Program}{w:World}{H:Hp}{h:Heap}{a:Addr}{u:HO}(r:Rd H a u)(x:HOk P w H h):ObjOk P w H h a u:=by
 rcases r with r|⟨o,r⟩
 ·exact x a u r
 ·obtain⟨_,q⟩:=x a _ r;exact q
def Mut:Option HO->Prop
 |some (.lst _)=>True
 |some (.dK _)=>True
 |some (.dT _)=>True
 |some (.set _ _)=>True
 |some (.ins _ _ _)=>True
 |some (.ext _)=>True
 |_=>False
section
variable{P:Program}{w:World}{H:Hp}{h h':Heap}{x e:Addr}{o':HO}
theorem HOk.write(ok:HOk P w H h)(mu:Mut (H x))(he:e=x\/H e=some (.own x))(k: ∀b u,b≠e->h.get? b=some u->h'.get? b=some u)(heo: ∃u,h'.get? e=some u)
  (new:ObjOk P w (upd H x o') h' x o'):HOk P w (upd H x o') h':=λb u q=>by
 have nown: ∀c y,H c=some (.own y)->c≠x:=λc y r z=>by subst z;rw [r]at mu;exact mu
 have ntup: ∀c xs,H c=some (.tup xs)->c≠x:=λc xs r z=>by subst z;rw [r]at mu;exact mu
 by_cases hb:b=x
 ·subst hb;rw [yV]at q;cases q;exact new
 ·rw [zU hb]at q;by_cases hbe:b=e
  ·have q':H b=some (.own x):=by
    rcases he with z|z
    ·exact absurd (hbe.trans z) hb
    ·rw [hbe];exact z
   rw [q]at q';cases q';obtain⟨v,hv⟩:=heo;exact⟨v,by rw [hbe];exact hv⟩
  ·refine(ok b u q).stay (λc v hc r=>k c v ?_ r) (λc r=>by rw [zU (nown c b r)];exact r) λc xs r=>by rw [zU (ntup c xs r)];exact r
   rcases hc with rfl|hc
   ·exact hbe
   ·rintro rfl;rcases he with z|z
    ·exact nown c b hc z
    ·rw [hc]at z;cases z;exact hb rfl
end
structure Un(fs ex:Ah)(H H':Hp)(h h':Heap):Prop where
 keep: ∀b o,h.get? b=some o->H b=none->b∉fs->b∉ex->h'.get? b=some o
 slot: ∀b o,h.get? b=some o->H b=none->b∈fs->b∉ex-> ∃sl,h'.get? b=some {o with slots:=sl}
 free: ∀b o,h.get? b=some o->H b=none->b∉ex->H' b=none
 there: ∀b o,h.get? b=some o->b∉ex-> ∃o',h'.get? b=some o'
 tups: ∀b xs,H b=some (.tup xs)->H' b=some (.tup xs)
 frzs: ∀b o u,H b=some (.frz o u)->H' b=some (.frz o u)
 tbls: ∀b ps,H b=some (.tbl ps)-> ∃more,H' b=some (.tbl (ps++more))
section
variable{fs fs' ex ex':Ah}{H H1 H2:Hp}{h h1 h2 h':Heap}{a x e:Addr}{o:HO}
def Un.any(u:Un fs ex H H1 h h1){b:Addr}{ob:Obj}(q:h.get? b=some ob)(n:H b=none)(hx:b∉ex): ∃sl,h1.get? b=some {ob with slots:=sl}:=by
 by_cases hb:b∈fs
 ·exact u.slot b ob q n hb hx
 ·exact⟨ob.slots,u.keep b ob q n hb hx⟩
def Un.kept(k: ∀b u,h.get? b=some u->h'.get? b=some u):Un fs ex H H h h':=
 ⟨λb ob q _ _ _=>k b ob q,λb ob q _ _ _=>⟨ob.slots,k b ob q⟩,λ_ _ _ n _=>n,λb ob q _=>⟨ob,k b ob q⟩,λ_ _ q=>q,λ_ _ _ q=>q,λ_ ps q=>⟨#[],by rw [q];simp⟩⟩
def Un.refl:Un fs ex H H h h:=Un.kept λ_ _ q=>q
def Un.laid(k: ∀b u,h.get? b=some u->h'.get? b=some u)(hp:h.objs.size<=a)(hn:H a=none):Un fs ex H (upd H a o) h h' where
 keep:=λb u q _ _ _=>k b u q
 slot:=λb u q _ _ _=>⟨u.slots,k b u q⟩
 free:=λb u q n _=>by rw [zU (ne_of_lt (lt_of_lt_of_le (Heap.lt_size q) hp))];exact n
 there:=λb u q _=>⟨u,k b u q⟩
 tups:=λb xs q=>by rw [zU (yB q hn)];exact q
 frzs:=λb u xs q=>by rw [zU (yB q hn)];exact q
 tbls:=λb ps q=>⟨#[],by rw [zU (yB q hn),q];simp⟩
def Un.write(mu:Mut (H x))(he:e=x\/H e=some (.own x))(k: ∀b u,b≠e->h.get? b=some u->h'.get? b=some u)(heo: ∃u,h'.get? e=some u):Un fs ex H (upd H x o) h h':=by
 have hx: ∀b,H b=none->b≠x:=λb n z=>by subst z;rw [n]at mu;exact mu
 have hb: ∀b,H b=none->b≠e:=λb n z=>by
  subst z;rcases he with r|r
  ·exact hx b n r
  ·rw [n]at r;cases r
 have hm: ∀b u,H b=some u-> ¬Mut (some u)->b≠x:=λb u q nm z=>by subst z;rw [q]at mu;exact nm mu
 refine⟨λb u q n _ _=>k b u (hb b n) q,λb u q n _ _=>⟨u.slots,k b u (hb b n) q⟩,λb u q n _=>by rw [zU (hx b n)];exact n,λb u q _=>?_,
  λb xs q=>by rw [zU (hm b _ q λz=>z)];exact q,λb u xs q=>by rw [zU (hm b _ q λz=>z)];exact q,λb ps q=>⟨#[],by rw [zU (hm b _ q λz=>z),q];simp⟩⟩
 by_cases hbe:b=e
 ·subst hbe;exact heo
 ·exact⟨u,k b u hbe q⟩
end
def trk(h:Heap)(H:Hp):List Addr:=(List.range h.objs.size).filter λa=>(H a).isSome
def zSX(h:Heap)(H:Hp):Heap:=PySem.W.hideAll h (trk h H)
def yDL(h:Heap)(H:Hp):(zSX h H).objs.size=h.objs.size:=PySem.W.hideAll_size _ _
def yFM{h:Heap}{H:Hp}{b:Addr}{o:Obj}(e:h.get? b=some o)(n:H b=none):(zSX h H).get? b=some o:=
 PySem.W.hideAll_get _ e λhm=>by have q:(H b).isSome=true:=(mem_filter.mp hm).2;rw [n]at q;simp at q
def yKV{h:Heap}{H:Hp}{b:Addr}{o:Obj}(e:(zSX h H).get? b=some o):h.get? b=some o/\H b=none:=by
 have e':h.get? b=some o:=PySem.W.of_hideAll (trk h H) e;refine⟨e',?_⟩
 cases q:H b with
 |none=>rfl
 |some x=>
  have hm:b∈trk h H:=mem_filter.mpr ⟨mem_range.mpr (Heap.lt_size e'),by simp [q]⟩;have z:(zSX h H).get? b=none:=PySem.W.hideAll_none (trk h H) hm;rw [z]at e;cases e
def yKW(g h:Heap)(L:Addr):List (Addr×Obj):=(List.range h.objs.size).filterMap λa=>if a=L\/(g.get? a).isSome=true then none else(h.get? a).map λo=>(a,o)
def rest(g h:Heap)(L d:Addr):List (Addr×Obj):=(yKW g h L).filter λp=>decide (p.1≠d)
structure Mod(K:Be)(mg:Aj)(base:Heap):Prop where
 kin:K.In base
 glob:base.Ns mainGlobals mg
 blt: ∃mb,base.Ns builtinsNs mb/\ ∀x:Str,x≠"__name__"->mb x=bootBuiltins x
 nolimit:base.NoLimit
structure Cx where
 prog:Program
 w:World
 K:PySem.W.Frag
 mg:Str->Option Value
 base:Heap
 A:Around
 N:List Str
 s₀:Shared
 H₀:Hp
 env:Env
 outer:List Env
 stack:List Env
 ex:List Addr
 fn:Str->Bool
 calm:Bool
 pn:List (Addr×Obj)
 xe:VP
def frs(l:List Env):List Addr:=l.filterMap (·.frame)
abbrev Cx.fs(X:Cx):List Addr:=frs X.outer
def Vis(sc:Scope)(x:Str):Prop:=sc.names.lookup x=some .local\/sc.names.lookup x=some .cell\/sc.names.lookup x=some .free
def Loc(sc:Scope)(x:Str):Prop:=sc.names.lookup x=some .local\/sc.names.lookup x=some .cell
def Look(env:Env)(h:Heap)(m:Aj)(x:Str)(u:Value):Prop:=
 (env.kindOf x=some .local/\m x=some u)\/((env.kindOf x=some .cell\/env.kindOf x=some .free)/\ ∃c,env.cells.lookup x=some c/\h.IsCell c (some u))
structure Cx.Ok(X:Cx):Prop where
 mod:Mod X.K X.mg X.base
 kind:X.env.scope.kind=.function
 glob:X.env.globals=mainGlobals
 blt:X.env.builtins=builtinsNs
 above:X.s₀.heap.objs.size<=X.env.locals
 inj: ∀x y c,X.env.cells.lookup x=some c->X.env.cells.lookup y=some c->x=y
 has: ∀x,(X.env.kindOf x=some .cell\/X.env.kindOf x=some .free)-> ∃c,X.env.cells.lookup x=some c
 cab: ∀x c,X.fn x=true->X.env.cells.lookup x=some c->X.s₀.heap.objs.size<=c
 hd:X.calm=true->X.A.handled=none
 frames:X.A.frames=some X.stack
 stk:X.stack=X.outer\/(X.stack=X.env::X.outer/\X.env.frame=some X.env.locals)
 exf: ∀b∈X.ex,b≠X.env.locals/\ ∀x c,X.env.cells.lookup x=some c->c≠b
 bs: ∀b o,X.base.get? b=some o->X.s₀.heap.get? b=some o/\X.H₀ b=none
 bsz:X.base.objs.size<=X.s₀.heap.objs.size
 noex: ∀b o,X.base.get? b=some o->b∉X.ex
 exfs: ∀b∈X.ex,b∉X.fs
 funs:X.s₀.heap.FunFrames X.base X.outer
 frf: ∀b∈X.fs,X.H₀ b=none
structure Inv(X:Cx)(pins:Ba)(σ:List (Option V))(H:Hp)(s:Shared):Prop where
 ok:X.Ok
 os:s.os=X.s₀.os
 bare:AllBare s.gens
 base:Un X.fs X.ex X.H₀ H X.s₀.heap s.heap
 loc: ∃m,s.heap.Ns X.env.locals m/\ ∀(i:Nat)(x:Str)(v:V),X.N[i]? =some x->σ[i]? =some (some v)->Vis X.env.scope x-> ∃u,RelV v u/\Look X.env s.heap m x u
 cell: ∀x c,X.env.cells.lookup x=some c-> ∃v,s.heap.IsCell c v
 free:H X.env.locals=none
 freeC: ∀x c,X.env.cells.lookup x=some c->H c=none
 pin: ∀p∈X.pn++pins,s.heap.get? p.1=some p.2/\H p.1=none/\p.1≠X.env.locals/\p.1∉X.fs/\ ∀v,p.2.data≠.cell v
 hok:HOk X.prog X.w H s.heap
 len:σ.length=X.N.length
section
variable{X:Cx}{pins:Ba}{σ:List (Option V)}{H H':Hp}{s:Shared}{h':Heap}
def Cx.Ok.nofr(ok:X.Ok){b:Addr}{o:Obj}(e:X.base.get? b=some o):b∉X.fs:=λhb=>by have:=(ok.funs.mem hb).1;rw [e]at this;cases this
def Inv.bs(I:Inv X pins σ H s): ∀b o,X.base.get? b=some o->s.heap.get? b=some o/\H b=none:=λb o e=>
 ⟨I.base.keep b o (I.ok.bs b o e).1 (I.ok.bs b o e).2 (I.ok.nofr e) (I.ok.noex b o e),I.base.free b o (I.ok.bs b o e).1 (I.ok.bs b o e).2 (I.ok.noex b o e)⟩
def Inv.bk(I:Inv X pins σ H s): ∀b o,X.base.get? b=some o->s.heap.get? b=some o:=λb o e=>(I.bs b o e).1
def Inv.mod(I:Inv X pins σ H s):Mod X.K X.mg X.base:=I.ok.mod
def Inv.kIn(I:Inv X pins σ H s):X.K.In s.heap:=I.ok.mod.kin.keeps I.bk
def Inv.lt(I:Inv X pins σ H s):X.env.locals<s.heap.objs.size:=let ⟨_,hn,_⟩:=I.loc;hn.lt
def Inv.sz(I:Inv X pins σ H s):X.s₀.heap.objs.size<=s.heap.objs.size:=le_trans I.ok.above (le_of_lt I.lt)
def Inv.nofs(I:Inv X pins σ H s){a:Addr}(h:s.heap.objs.size<=a):a∉X.fs:=λhb=>by obtain⟨_,o,ho,_⟩:=I.ok.funs.mem hb;exact absurd (lt_of_lt_of_le (Heap.lt_size ho) (le_trans I.sz h)) (lt_irrefl _)
def Inv.cne(I:Inv X pins σ H s): ∀x c,X.env.cells.lookup x=some c->c≠X.env.locals:=λx c e z=>by obtain⟨v,o,ho,hd⟩:=I.cell x c e;obtain⟨m,⟨o',es,ep,ho',hd',_⟩,_⟩:=I.loc;rw [z,ho']at ho;cases ho;rw [hd']at hd;cases hd
def Inv.funs(I:Inv X pins σ H s):s.heap.FunFrames X.base X.outer:=by
 have all: ∀(l:List Env),(∀b∈frs l,b∈X.fs)->X.s₀.heap.FunFrames X.base l->s.heap.FunFrames X.base l:=by
  intro l
  induction l with
  |nil=>intro _ _;trivial
  |cons env r ih=>
   intro hs hl;obtain⟨hk,⟨L,o,hf,hn,ho,hd⟩,hr⟩:=hl;have hL:L∈X.fs:=hs L (by unfold frs;rw [filterMap_cons,hf];exact mF0);obtain⟨sl,e⟩:=I.base.slot L o ho (I.ok.frf L hL) hL λz=>I.ok.exfs L z hL;exact⟨hk,⟨L,_,hf,hn,e,hd⟩,ih (λb hb=>hs b (by unfold frs;rw [filterMap_cons,hf];exact mO _ hb)) hr⟩
 exact all X.outer (λ_ hb=>hb) I.ok.funs
def Inv.stack(I:Inv X pins σ H s):s.heap.FunFrames X.base X.stack:=by
 rcases I.ok.stk with e|⟨e,hf⟩
 ·rw [e];exact I.funs
 ·rw [e];obtain⟨m,hn,_⟩:=I.loc;refine .cons (by rw [I.ok.kind];decide) hf hn ?_ I.funs;exact Heap.get?_none_of_le (le_trans I.ok.bsz I.ok.above)
def Inv.stkSub(I:Inv X pins σ H s): ∀b∈frs X.stack,b∈X.env.locals::X.fs:=λb hb=>by
 rcases I.ok.stk with e|⟨e,hf⟩
 ·rw [e]at hb;exact mO _ hb
 ·rw [e]at hb;unfold frs at hb;rw [filterMap_cons,hf]at hb;exact hb
def Inv.stkFree(I:Inv X pins σ H s): ∀b∈frs X.stack,H b=none:=λb hb=>by
 rcases mC.mp (I.stkSub b hb)with e|hb
 ·rw [e];exact I.free
 ·obtain⟨_,o,ho,_⟩:=I.ok.funs.mem hb;exact I.base.free b o ho (I.ok.frf b hb) λz=>I.ok.exfs b z hb
def Inv.step{g':Array GenState}{t':Nat}{d':Drawn}{ch:Ah}(I:Inv X pins σ H s)
  (hch: ∀b∈ch,(b∈X.ex\/X.s₀.heap.objs.size<=b)/\b≠X.env.locals/\(∀x c,X.env.cells.lookup x=some c->c≠b)/\ ∀p∈X.pn++pins,p.1≠b)
  (keep: ∀b o,b≠X.env.locals->b∉X.fs->b∉ch->s.heap.get? b=some o->H b=none->h'.get? b=some o)
  (slot: ∀b o,b≠X.env.locals->b∈X.fs->b∉ch->s.heap.get? b=some o->H b=none-> ∃sl,h'.get? b=some {o with slots:=sl}) (free: ∀b o,b∉ch->s.heap.get? b=some o->H b=none->H' b=none)
  (there: ∀b o,b∉ch->s.heap.get? b=some o-> ∃o',h'.get? b=some o')
  (tups: ∀b xs,H b=some (.tup xs)->H' b=some (.tup xs)) (frzs: ∀b o u,H b=some (.frz o u)->H' b=some (.frz o u)) (tbls: ∀b ps,H b=some (.tbl ps)-> ∃more,H' b=some (.tbl (ps++more)))
  (ns: ∀m,s.heap.Ns X.env.locals m->h'.Ns X.env.locals m) (hok:HOk X.prog X.w H' h') (hg:AllBare g'):
  Inv X pins σ H' {s with heap:=h',gens:=g',drawn:=d',toks:=t'}:=by
 have neL: ∀b o,X.s₀.heap.get? b=some o->b≠X.env.locals:=λb o e=>ne_of_lt (lt_of_lt_of_le (Heap.lt_size e) I.ok.above)
 have neC: ∀b o,X.s₀.heap.get? b=some o->b∉X.ex->b∉ch:=λb o e hx hb=>by
  rcases (hch b hb).1 with z|z
  ·exact hx z
  ·exact absurd (lt_of_lt_of_le (Heap.lt_size e) z) (lt_irrefl _)
 have cellK: ∀x c,X.env.cells.lookup x=some c-> ∀v,s.heap.IsCell c v->h'.IsCell c v:=λx c e v ⟨o,ho,hd⟩=>by
  have nch:c∉ch:=λz=>(hch c z).2.2.1 x c e rfl;by_cases hc:c∈X.fs
  ·obtain⟨sl,q⟩:=slot c o (I.cne x c e) hc nch ho (I.freeC x c e);exact⟨_,q,hd⟩
  ·exact⟨o,keep c o (I.cne x c e) hc nch ho (I.freeC x c e),hd⟩
 refine⟨I.ok,I.os,hg,⟨λb o e n hb hx=>?_,λb o e n hb hx=>?_,λb o e n hx=>?_,λb o e hx=>?_,λb xs e=>tups b xs (I.base.tups b xs e),λb o xs e=>frzs b o xs (I.base.frzs b o xs e),λb ps e=>?_⟩,?_,λx c e=>?_,?_,λx c e=>?_,λp hp=>?_,hok,I.len⟩
 ·exact keep b o (neL b o e) hb (neC b o e hx) (I.base.keep b o e n hb hx) (I.base.free b o e n hx)
 ·obtain⟨sl,e1⟩:=I.base.slot b o e n hb hx;obtain⟨sl',e2⟩:=slot b _ (neL b o e) hb (neC b o e hx) e1 (I.base.free b o e n hx);exact⟨sl',e2⟩
 ·obtain⟨o',e1⟩:=I.base.there b o e hx;exact free b o' (neC b o e hx) e1 (I.base.free b o e n hx)
 ·obtain⟨o',e1⟩:=I.base.there b o e hx;exact there b o' (neC b o e hx) e1
 ·obtain⟨m1,e1⟩:=I.base.tbls b ps e;obtain⟨m2,e2⟩:=tbls b _ e1;exact⟨m1++m2,by rw [e2,Array.append_assoc]⟩
 ·obtain⟨m,hn,hl⟩:=I.loc;refine⟨m,ns m hn,λi x v e1 e2 e3=>?_⟩;obtain⟨u,r,l⟩:=hl i x v e1 e2 e3;refine⟨u,r,?_⟩;rcases l with l|⟨k,c,e,z⟩
  ·exact .inl l
  ·exact .inr ⟨k,c,e,cellK x c e _ z⟩
 ·obtain⟨v,z⟩:=I.cell x c e;exact⟨v,cellK x c e v z⟩
 ·obtain⟨m,⟨o,_,_,ho,_⟩,_⟩:=I.loc;exact free _ o (λz=>(hch _ z).2.1 rfl) ho I.free
 ·obtain⟨v,o,ho,hd⟩:=I.cell x c e;exact free c o (λz=>(hch c z).2.2.1 x c e rfl) ho (I.freeC x c e)
 ·obtain⟨e,n,ne,nf,d⟩:=I.pin p hp;have nch:p.1∉ch:=λz=>(hch p.1 z).2.2.2 p hp rfl;exact⟨keep p.1 p.2 ne nf nch e n,free p.1 p.2 nch e n,ne,nf,d⟩
def Inv.un{t':Nat}(I:Inv X pins σ H s)(u:Un X.fs [] H H' s.heap h')(hok:HOk X.prog X.w H' h'):Inv X pins σ H' {s with heap:=h',toks:=t'}:=by obtain⟨m,⟨o,es,ep,ho,r⟩,_⟩:=id I.loc;obtain⟨sl,hL⟩:=u.any ho I.free (by simp);exact I.step (g':=s.gens) (d':=s.drawn) (ch:=[]) (λ_ z=>nomatch z) (λb o _ hb _ e n=>u.keep b o e n hb (by simp)) (λb o _ hb _ e n=>u.slot b o e n hb (by simp)) (λb o _ e n=>u.free b o e n (by simp)) (λb o _ e=>u.there b o e (by simp)) u.tups u.frzs u.tbls (λm' hm=>by obtain⟨o',es',ep',ho',r'⟩:=hm;rw [ho]at ho';cases ho';exact⟨_,es',ep',hL,r'⟩) hok I.bare
def Inv.call{g':Array GenState}{t':Nat}{d':Drawn}{ch:Ah}(I:Inv X pins σ H s)(u:Un (frs X.stack) ch H H' s.heap h')(hok:HOk X.prog X.w H' h')(hg:AllBare g')
  (hch: ∀b∈ch,(b∈X.ex\/X.s₀.heap.objs.size<=b)/\b≠X.env.locals/\(∀x c,X.env.cells.lookup x=some c->c≠b)/\ ∀p∈X.pn++pins,p.1≠b):
  Inv X pins σ H' {s with heap:=h',gens:=g',drawn:=d',toks:=t'}:=by
 obtain⟨m,⟨o,es,ep,ho,r⟩,_⟩:=id I.loc;obtain⟨sl,hL⟩:=u.any ho I.free λz=>(hch _ z).2.1 rfl;exact I.step (ch:=ch) hch (λb o hL hb hc e n=>u.keep b o e n (λz=>(mC.mp (I.stkSub b z)).elim hL hb) hc) (λb o _ _ hc e n=>u.any e n hc) (λb o hc e n=>u.free b o e n hc) (λb o hc e=>u.there b o e hc) u.tups u.frzs u.tbls (λm' hm=>by obtain⟨o',es',ep',ho',r'⟩:=hm;rw [ho]at ho';cases ho';exact⟨_,es',ep',hL,r'⟩) hok hg
def Inv.turned{t':Nat}{it:Addr}(I:Inv X pins σ H s)(k: ∀b o,b≠it->s.heap.get? b=some o->h'.get? b=some o)(hn:H it=none)(hL:it≠X.env.locals)
  (h1:it∈X.ex\/X.s₀.heap.objs.size<=it) (h2: ∀x c,X.env.cells.lookup x=some c->c≠it) (h3: ∀p∈X.pn++pins,p.1≠it):Inv X pins σ H {s with heap:=h',toks:=t'}:=by
 have nit: ∀b u,H b=some u->b≠it:=λb u e z=>by rw [z,hn]at e;cases e
 refine I.step (g':=s.gens) (d':=s.drawn) (ch:=[it]) (λb hb=>?_) (λb o _ _ hc e _=>k b o (λz=>hc (by simp [z])) e) (λb o _ _ hc e _=>⟨o.slots,k b o (λz=>hc (by simp [z])) e⟩) (λ_ _ _ _ n=>n)
  (λb o hc e=>⟨o,k b o (λz=>hc (by simp [z])) e⟩) (λ_ _ e=>e) (λ_ _ _ e=>e) (λb ps e=>⟨#[],by rw [e];simp⟩) (λm hm=>?_) (λb u e=>?_) I.bare
 ·have e:b=it:=by simpa using hb
  subst e;exact⟨h1,hL,h2,h3⟩
 ·obtain⟨o,es,ep,ho,r⟩:=hm;exact⟨o,es,ep,k _ o (Ne.symm hL) ho,r⟩
 ·refine(I.hok b u e).stay (λc v hc q=>k c v ?_ q) (λ_ q=>q) λ_ _ q=>q;rcases hc with z|z
  ·rw [z];exact nit b u e
  ·exact nit c _ z
def Inv.tok(I:Inv X pins σ H s)(t:Nat):Inv X pins σ H {s with toks:=t}:=I.un (h':=s.heap) (t':=t) Un.refl I.hok
def Inv.kept{t':Nat}(I:Inv X pins σ H s)(k: ∀b u,s.heap.get? b=some u->h'.get? b=some u):Inv X pins σ H {s with heap:=h',toks:=t'}:=I.un (Un.kept k) (I.hok.kept k)
def Inv.laid{a:Addr}{o:HO}{t':Nat}(I:Inv X pins σ H s)(k: ∀b u,s.heap.get? b=some u->h'.get? b=some u)(hp:s.heap.objs.size<=a)(new:ObjOk X.prog X.w (upd H a o) h' a o):
  Inv X pins σ (upd H a o) {s with heap:=h',toks:=t'}:=I.un (Un.laid k hp (I.hok.fresh hp)) (I.hok.laid k hp new)
def Inv.write{x e:Addr}{o:HO}{t':Nat}(I:Inv X pins σ H s)(mu:Mut (H x))(he:e=x\/H e=some (.own x))(k: ∀b u,b≠e->s.heap.get? b=some u->h'.get? b=some u)(heo: ∃u,h'.get? e=some u)
  (new:ObjOk X.prog X.w (upd H x o) h' x o):Inv X pins σ (upd H x o) {s with heap:=h',toks:=t'}:=I.un (Un.write mu he k heo) (I.hok.write mu he k heo new)
def Inv.pins_of{pins':Ba}(I:Inv X pins σ H s)(h: ∀p∈pins',s.heap.get? p.1=some p.2/\H p.1=none/\p.1≠X.env.locals/\p.1∉X.fs/\ ∀v,p.2.data≠.cell v):Inv X pins' σ H s:=
 ⟨I.ok,I.os,I.bare,I.base,I.loc,I.cell,I.free,I.freeC,λp hp=>(mem_append.mp hp).elim (λz=>I.pin p (mem_append_left _ z)) (h p),I.hok,I.len⟩
def zVH{N:Ai}(hN:N.Nodup){i j:Nat}{x:Str}(a:N[i]? =some x)(b:N[j]? =some x):i=j:=by obtain⟨h1,e1⟩:=gS0.mp a;obtain⟨h2,e2⟩:=gS0.mp b;exact(getElem_inj hN).mp (e1.trans e2.symm)
def zRL{M:Model}{A:Around}{E:VP}{i:Nat}{x:Str}{v:V}{u:Value}{Q:Unit->Shared->Prop}(I:Inv X pins σ H s)(hN:X.N.Nodup)(hi:X.N[i]? =some x)(hx:Loc X.env.scope x)(r:RelV v u)
  (h: ∀s',Inv X pins (σ.set i (some v)) H s'->(∃a,Heap.SameBut a s.heap s'.heap/\(a=X.env.locals\/X.env.cells.lookup x=some a))->Q () s') (hf:X.fn x=true\/X.env.scope.names.lookup x=some .local:=by first |exact .inl rfl|exact .inr rfl|assumption):wpAny M A (storeName X.env x u) Q E s:=by
 obtain⟨m,hn,hl⟩:=id I.loc;have hcls:(X.env.scope.kind==.class || (X.env.scope.kind==.module&&X.env.locals !=X.env.globals))=false:=by rw [I.ok.kind];rfl
 have hiσ:i<σ.length:=by rw [I.len];exact(gS0.mp hi).1
 have cne:=I.cne
 have tracked: ∀{a:Addr}{h':Heap},(∃o,s.heap.get? a=some o/\H a=none)->Heap.SameBut a s.heap h'->HOk X.prog X.w H h':=λ{a h'} ha hs b ob e=>by
  obtain⟨_,_,hfree⟩:=ha;refine(I.hok b ob e).stay (λc w' hc q=>(hs.2 c ?_).trans q) (λ_ q=>q) λ_ _ q=>q;rintro rfl;rcases hc with rfl|hc
  ·rw [hfree]at e;cases e
  ·rw [hfree]at hc;cases hc
 rcases hx with hk|hk
 ·refine wpAny_storeName_local hk hn (λh' hn' hs=>?_) hcls;obtain⟨oL,_,_,hoL,_⟩:=id hn;refine h _ ⟨I.ok,I.os,I.bare,⟨λb o e n hb hx=>?_,λb o e n hb hx=>?_,I.base.free,λb o e hx=>?_,I.base.tups,I.base.frzs,I.base.tbls⟩,⟨_,hn',λj y v' e1 e2 e3=>?_⟩,λy c e=>?_,I.free,I.freeC,λp hp=>?_,tracked ⟨oL,hoL,I.free⟩ hs,by simpa using I.len⟩ ⟨_,hs,.inl rfl⟩
  ·exact(hs.2 b (ne_of_lt (lt_of_lt_of_le (Heap.lt_size e) I.ok.above))).trans (I.base.keep b o e n hb hx)
  ·obtain⟨sl,e1⟩:=I.base.slot b o e n hb hx;exact⟨sl,(hs.2 b (ne_of_lt (lt_of_lt_of_le (Heap.lt_size e) I.ok.above))).trans e1⟩
  ·obtain⟨o',e1⟩:=I.base.there b o e hx;exact⟨o',(hs.2 b (ne_of_lt (lt_of_lt_of_le (Heap.lt_size e) I.ok.above))).trans e1⟩
  ·by_cases hj:j=i
   ·subst hj;rw [hi]at e1;cases e1;rw [getElem?_set_self hiσ]at e2;cases e2;exact⟨u,r,.inl ⟨hk,by simp⟩⟩
   ·rw [getElem?_set_ne (Ne.symm hj)]at e2;obtain⟨u',r',q⟩:=hl j y v' e1 e2 e3;refine⟨u',r',?_⟩;rcases q with⟨k,e⟩|⟨k,c,e,z⟩
    ·refine .inl ⟨k,?_⟩;have:y≠x:=λe=>hj (zVH hN e1 (e▸hi));simp [this,e]
    ·exact .inr ⟨k,c,e,z.sameBut hs (cne y c e)⟩
  ·obtain⟨w',z⟩:=I.cell y c e;exact⟨w',z.sameBut hs (cne y c e)⟩
  ·obtain⟨e,n,ne,nf,d⟩:=I.pin p hp;exact⟨(hs.2 p.1 ne).trans e,n,ne,nf,d⟩
 ·have hfn:X.fn x=true:=by
   rcases hf with z|z
   ·exact z
   ·rw [z]at hk;cases hk
  obtain⟨c,hc⟩:=I.ok.has x (.inl hk);obtain⟨w',z⟩:=I.cell x c hc;refine wpAny_storeName_cell I.ok.kind hk hc z (λh' hc' hs=>?_);obtain⟨oc,hoc,hocd⟩:=id z;refine h {s with heap:=h'} ⟨I.ok,I.os,I.bare,⟨λb o e n hb hx=>?_,λb o e n hb hx=>?_,I.base.free,λb o e hx=>?_,I.base.tups,I.base.frzs,I.base.tbls⟩,⟨m,hn.sameBut hs (Ne.symm (cne x c hc)),λj y v' e1 e2 e3=>?_⟩,λy c' e=>?_,I.free,I.freeC,λp hp=>?_,tracked ⟨oc,hoc,I.freeC x c hc⟩ hs,by simpa using I.len⟩ ⟨c,hs,.inr hc⟩
  ·exact(hs.2 b (ne_of_lt (lt_of_lt_of_le (Heap.lt_size e) (I.ok.cab x c hfn hc)))).trans (I.base.keep b o e n hb hx)
  ·obtain⟨sl,e1⟩:=I.base.slot b o e n hb hx;exact⟨sl,(hs.2 b (ne_of_lt (lt_of_lt_of_le (Heap.lt_size e) (I.ok.cab x c hfn hc)))).trans e1⟩
  ·obtain⟨o',e1⟩:=I.base.there b o e hx;exact⟨o',(hs.2 b (ne_of_lt (lt_of_lt_of_le (Heap.lt_size e) (I.ok.cab x c hfn hc)))).trans e1⟩
  ·by_cases hj:j=i
   ·subst hj;rw [hi]at e1;cases e1;rw [getElem?_set_self hiσ]at e2;cases e2;exact⟨u,r,.inr ⟨.inl hk,c,hc,hc'⟩⟩
   ·rw [getElem?_set_ne (Ne.symm hj)]at e2;obtain⟨u',r',q⟩:=hl j y v' e1 e2 e3;refine⟨u',r',?_⟩;rcases q with q|⟨k,c',e,z'⟩
    ·exact .inl q
    ·refine .inr ⟨k,c',e,z'.sameBut hs ?_⟩;rintro rfl;exact hj (zVH hN e1 (I.ok.inj _ _ _ e hc▸hi))
  ·by_cases hcc:c'=c
   ·subst hcc;exact⟨_,hc'⟩
   ·obtain⟨w2,z2⟩:=I.cell y c' e;exact⟨w2,z2.sameBut hs hcc⟩
  ·obtain⟨e,n,ne,nf,d⟩:=I.pin p hp;refine⟨(hs.2 p.1 ?_).trans e,n,ne,nf,d⟩;intro q;rw [q,hoc]at e;have q':oc=p.2:=Option.some.inj e;exact d w' (by rw [<-q'];exact hocd)
def zVI{M:Model}{A:Around}{E:VP}{i:Nat}{x:Str}{v:V}{u:Value}{Q:Unit->Shared->Prop}(I:Inv X pins σ H s)(hN:X.N.Nodup)(hi:X.N[i]? =some x)(hx:Loc X.env.scope x)(r:RelV v u)
  (h: ∀s',Inv X pins (σ.set i (some v)) H s'->Q () s') (hf:X.fn x=true\/X.env.scope.names.lookup x=some .local:=by first |exact .inl rfl|exact .inr rfl|assumption):wpAny M A (storeName X.env x u) Q E s:=
 zRL I hN hi hx r (λs' I' _=>h s' I') hf
def Inv.call'{s':Shared}{ch:Ah}(I:Inv X pins σ H s)(ho:s'.os=s.os)(u:Un (frs X.stack) ch H H' s.heap s'.heap)(hok:HOk X.prog X.w H' s'.heap)(hg:AllBare s'.gens)
  (hch: ∀b∈ch,(b∈X.ex\/X.s₀.heap.objs.size<=b)/\b≠X.env.locals/\(∀x c,X.env.cells.lookup x=some c->c≠b)/\ ∀p∈X.pn++pins,p.1≠b):Inv X pins σ H' s':=by
 obtain⟨h',g',d',t',o'⟩:=s';have e:o'=s.os:=ho;subst e;exact I.call (g':=g') (t':=t') (d':=d') u hok hg hch
end
abbrev XK:=Value->Option Addr->Hp->Prop
abbrev St:=List (Option V)
abbrev VK:=V->Hp->Prop
abbrev TE:=St->Hp->VK->Prop
abbrev TT:=St->Hp->(Bool->Hp->Prop)->Prop
abbrev TA:=St->Hp->(List V->Hp->Prop)->Prop
structure Ends where
 nx:St->Hp->Prop
 rt:VK
 bk:St->Hp->Prop:=λ_ _=>False
 ct:St->Hp->Prop:=λ_ _=>False
abbrev TS:=Ends->St->Hp->Prop
def EP(X:Cx)(pins:Ba)(σ:St)(Q:VK)(u:Value)(s':Shared):Prop:= ∃v H',Inv X pins σ H' s'/\RelV v u/\Q v H'
def TP(X:Cx)(pins:Ba)(σ:St)(Q:Bool->Hp->Prop)(b:Bool)(s':Shared):Prop:= ∃H',Inv X pins σ H' s'/\Q b H'
def AP(X:Cx)(pins:Ba)(σ:St)(Q:List V->Hp->Prop)(us:Ae)(s':Shared):Prop:= ∃vs H',Inv X pins σ H' s'/\Vals vs us/\Q vs H'
def SP(X:Cx)(pins:Ba)(D:Ends)(f:Flow)(s':Shared):Prop:=
 match f with
 |.next=> ∃σ' H',Inv X pins σ' H' s'/\D.nx σ' H'
 |.brk=> ∃σ' H',Inv X pins σ' H' s'/\D.bk σ' H'
 |.cont=> ∃σ' H',Inv X pins σ' H' s'/\D.ct σ' H'
 |.ret u=> ∃v σ' H',Inv X pins σ' H' s'/\RelV v u/\D.rt v H'
def PE(X:Cx)(e:Expr)(t:TE):Prop:=
 ∀(pins:Ba)(s:Shared)(σ:St)(H:Hp)(Q:VK),Inv X pins σ H s->t σ H Q->wpAny (model X.prog X.w) X.A (eval e X.env) (EP X pins σ Q) X.xe s
def PT(X:Cx)(e:Expr)(t:TT):Prop:=
 ∀(pins:Ba)(s:Shared)(σ:St)(H:Hp)(Q:Bool->Hp->Prop),Inv X pins σ H s->t σ H Q->wpAny (model X.prog X.w) X.A (isTrue e X.env (eval e X.env)) (TP X pins σ Q) X.xe s
def PW(X:Cx)(e:Expr)(t:TT):Prop:=
 ∀(whole:Sem Value)(pins:Ba)(s:Shared)(σ:St)(H:Hp)(Q:Bool->Hp->Prop),Inv X pins σ H s->t σ H Q->wpAny (model X.prog X.w) X.A (isTrue e X.env whole) (TP X pins σ Q) X.xe s
def PW.pt{X:Cx}{e:Expr}{t:TT}(h:PW X e t):PT X e t:=h _
def PA(X:Cx)(es:Bd)(t:TA):Prop:=
 ∀(pos:Pos)(pins:Ba)(s:Shared)(σ:St)(H:Hp)(Q:List V->Hp->Prop),Inv X pins σ H s->t σ H Q->wpAny (model X.prog X.w) X.A (spliced (backTo pos (starEach es X.env))) (AP X pins σ Q) X.xe s
def PS(X:Cx)(st:Stmt)(t:TS):Prop:=
 ∀(pins:Ba)(s:Shared)(σ:St)(H:Hp)(D:Ends),Inv X pins σ H s->t D σ H->wpAny (model X.prog X.w) X.A (exec st X.env) (SP X pins D) X.xe s
def PSs(X:Cx)(st:List Stmt)(t:TS):Prop:=
 ∀(pins:Ba)(s:Shared)(σ:St)(H:Hp)(D:Ends),Inv X pins σ H s->t D σ H->wpAny (model X.prog X.w) X.A (execs st X.env) (SP X pins D) X.xe s
def thn{α:Type}{t:Sem α}{Q Q':α->Shared->Prop}{M:Model}{A:Around}{E:VP}{s:Shared}(h:wpAny M A t Q E s)(hQ: ∀a s,Q a s->Q' a s):wpAny M A t Q' E s:=wpAny_mono h hQ λ_ _ x=>x
section
variable{X:Cx}
def tVar(i:Nat):TE:=λσ H Q=> ∃v,σ[i]? =some (some v)/\Q v H
def tC(v:V):TE:=λ_ H Q=>Q v H
def yPM{i:Nat}{x:Str}{pos:Pos}(hN:X.N[i]? =some x)(hv:Vis X.env.scope x)(hd:(x==("__debug__":Str))=false:=by decide)(hcd:(x==("__classdict__":Str))=false:=by decide):PE X (.Name x pos) (tVar i):=by
 intro pins s σ H Q I h;obtain⟨v,e,h⟩:=h;obtain⟨m,hn,hl⟩:=I.loc;obtain⟨u,r,l⟩:=hl i x v hN e hv;have fin:EP X pins σ Q u s:=⟨v,H,I,r,h⟩
 rcases l with⟨hk,hm⟩|⟨hk,c,hc,hcell⟩
 ·exact wpAny_Name (wpAny_loadName_local I.ok.kind hk hn hm fin) hd
 ·rcases hk with hk|hk
  ·exact wpAny_Name (wpAny_loadName_cell I.ok.kind hk hc hcell fin) hd
  ·exact wpAny_Name (wpAny_loadName_free I.ok.kind hk hc hcell fin hcd) hd
def yFN{i j pos}:PE X (.Constant (.int i) j pos) (tC (.int i)):=λ_ _ _ H _ I h=>wpAny_Constant_int ⟨.int i,H,I.tok _,⟨_,rfl⟩,h⟩
def pe_bl{b j pos}:PE X (.Constant (.bool b) j pos) (tC (.bl b)):=λ_ _ _ H _ I h=>Constant_bool ⟨.bl b,H,I,rfl,h⟩
def yPN{j pos}:PE X (.Constant .none j pos) (tC .non):=λ_ _ _ H _ I h=>Constant_none ⟨.non,H,I,rfl,h⟩
def yPO{x j pos}:PE X (.Constant (.str x) j pos) (tC (.str x)):=λ_ _ _ H _ I h=>Calls.Constant_str ⟨.str x,H,I.tok _,⟨_,rfl⟩,h⟩
def Gl(X:Cx)(x:Str):Prop:=X.env.kindOf x=some .globalImplicit
def yKX{E:VP}{pins:Ba}{s:Shared}{σ:St}{H:Hp}{x:Str}{u:Value}{pos:Pos}{Q:VP}(I:Inv X pins σ H s)(hg:Gl X x)(hm:X.mg x=some u)(h:Q u s)
  (hd:(x==("__debug__":Str))=false:=by decide):wpAny (model X.prog X.w) X.A (eval (.Name x pos) X.env) Q E s:=
 Calls.Name_function_global I.ok.kind hg (Calls.loadGlobal_global (by rw [I.ok.glob];exact I.mod.glob.keeps I.bk) hm h) hd
def zLG{E:VP}{pins:Ba}{s:Shared}{σ:St}{H:Hp}{x:Str}{u:Value}{pos:Pos}{Q:VP}(I:Inv X pins σ H s)(hg:Gl X x)(hm:X.mg x=none)(hv:bootBuiltins x=some u)(h:Q u s)
  (hn:x≠"__name__":=by decide) (hd:(x==("__debug__":Str))=false:=by decide):wpAny (model X.prog X.w) X.A (eval (.Name x pos) X.env) Q E s:=by
 obtain⟨mb,h1,h2⟩:=I.mod.blt;exact Calls.Name_function_global I.ok.kind hg (Calls.loadGlobal_builtin (by rw [I.ok.glob];exact I.mod.glob.keeps I.bk) hm (by rw [I.ok.blt];exact h1.keeps I.bk) ((h2 x hn).trans hv) h) hd
def yKY{x:Str}{v:V}{u:Value}{pos:Pos}(hg:Gl X x)(hm:X.mg x=none)(hv:bootBuiltins x=some u)(r:RelV v u)(hn:x≠"__name__":=by decide)(hd:(x==("__debug__":Str))=false:=by decide):PE X (.Name x pos) (tC v):=
 λ_ _ _ H _ I h=>zLG I hg hm hv ⟨v,H,I,r,h⟩ hn hd
variable{a b:Expr}{ta tb:TE}{pos:Pos}
variable{tA tB':TT}{rest:Bd}
def tAnd(t u:TT):TT:=λσ H Q=>t σ H λc H1=>if c=true then u σ H1 Q else Q false H1
def tNot(t:TT):TT:=λσ H Q=>t σ H λc H1=>Q (!c) H1
def yKZ(ha:PT X a tA):PW X (.BoolOp .And [a] pos) tA:=by
 intro wh pins s σ H Q I h;refine isTrue_and (thn (ha pins s σ H Q I h) λc s1 e=>?_)
 cases c with
 |true=>exact isTrue_and_nil e
 |false=>exact e
def yPP(ha:PT X a tA)(hb:PW X (.BoolOp .And (b::rest) pos) tB'):PW X (.BoolOp .And (a::b::rest) pos) (tAnd tA tB'):=by
 intro wh pins s σ H Q I h;refine isTrue_and (thn (ha pins s σ H _ I h) λc s1 ⟨H1,I1,q1⟩=>?_)
 cases c with
 |true=>exact hb wh pins s1 σ H1 Q I1 q1
 |false=>exact⟨H1,I1,q1⟩
def yPQ(ha:PT X a tA):PT X (.UnaryOp .Not a pos) (tNot tA):=by intro pins s σ H Q I h;exact isTrue_not (ha pins s σ H (λc H1=>Q (!c) H1) I h)
def tAndV(ta tb:TE):TE:=λσ H Q=>ta σ H λx H1=> ∃c,x=.bl c/\if c=true then tb σ H1 Q else Q (.bl false) H1
def tNotV(ta:TE):TE:=λσ H Q=>ta σ H λx H1=> ∃c,x=.bl c/\Q (.bl (!c)) H1
def yPR{op}{t:TE}(h:PE X a t):PE X (.BoolOp op [a] pos) t:=λpins s σ H Q I hw=>BoolOp_one (h pins s σ H Q I hw)
def yPS(ha:PE X a ta)(hb:PE X (.BoolOp .And (b::rest) pos) tb):PE X (.BoolOp .And (a::b::rest) pos) (tAndV ta tb):=by
 intro pins s σ H Q I h;refine BoolOp_and (thn (ha pins s σ H _ I h) λv s1 ⟨x,H1,I1,r1,q1⟩=>?_);obtain⟨c,rfl,q1⟩:=q1;cases r1;refine wpAny_truthy_bool ?_
 cases c with
 |true=>exact hb pins s1 σ H1 Q I1 q1
 |false=>exact⟨.bl false,H1,I1,rfl,q1⟩
def yPT(ha:PE X a ta):PE X (.UnaryOp .Not a pos) (tNotV ta):=by intro pins s σ H Q I h;refine UnaryOp_ (thn (ha pins s σ H _ I h) λv s1 ⟨x,H1,I1,r1,q1⟩=>?_);obtain⟨c,rfl,q1⟩:=q1;cases r1;exact not_of (wpAny_truthy_bool ⟨.bl (!c),H1,I1,rfl,q1⟩)
end
def SqL(K:Be)(H:Hp)(a:Addr)(xs:List V):Prop:=
 Rd H a (.lst xs)\/
  ∃(o:Obj)(its:Ag)(n:Nat),K.lookup a=some o/\o.cls=.type "list"/\o.dict=none/\o.data=.seq its n/\its.size<=sizeLine/\Vals xs its.toList
def SqT(K:Be)(H:Hp)(a:Addr)(xs:List V):Prop:=
 Rd H a (.tup xs)\/
  ∃(o:Obj)(its:Ag)(n:Nat),K.lookup a=some o/\o.cls=.type "tuple"/\o.data=.seq its n/\its.size<=sizeLine/\Vals xs its.toList
def absV:Value->Option V
 |.none=>some .non
 |.bool b=>some (.bl b)
 |.int i _=>some (.int i)
 |.str x _=>some (.str x)
 |.bytes b _=>some (.byt b)
 |.float b _=>some (.flt b)
 |.ref a=>some (.ref a)
 |.type n=>some (.ty n)
 |_=>none
theorem RelV.abs{x:V}{u:Value}(r:RelV x u):absV u=some x:=by
 cases x with
 |non=>cases r;rfl
 |bl _=>cases r;rfl
 |int _=>obtain⟨t,rfl⟩:=r;rfl
 |str _=>obtain⟨t,rfl⟩:=r;rfl
 |byt _=>obtain⟨t,rfl⟩:=r;rfl
 |flt _=>obtain⟨t,rfl⟩:=r;rfl
 |ref _=>cases r;rfl
 |ty _=>cases r;rfl
def RelV.inj{x y:V}{u:Value}(r:RelV x u)(q:RelV y u):x=y:=Option.some.inj (r.abs.symm.trans q.abs)
theorem Vals.inj: ∀{xs ys:List V}{us:Ae},Vals xs us->Vals ys us->xs=ys
 |_,_,_,.nil,.nil=>rfl
 |_,_,_,.cons r t,.cons r' t'=>by rw [r.inj r',Vals.inj t t']
section
variable{X:Cx}{pins:Ba}{σ:St}{H:Hp}{s:Shared}{a:Addr}{xs ys:List V}
def SqL.of{K:Be}(h:H a=some (.lst xs)):SqL K H a xs:=.inl (.inl h)
def SqT.of{K:Be}(h:H a=some (.tup xs)):SqT K H a xs:=.inl (.inl h)
def Inv.list(I:Inv X pins σ H s)(h:SqL X.K H a xs): ∃its:List Value,Vals xs its/\PlainL s.heap a its.toArray/\xs.length<=sizeLine:=by
 rcases h with h|⟨o,its,n,hk,hc,hd,hs,hz,r⟩
 ·obtain⟨z,its,n,r,e⟩:=h.ok I.hok;exact⟨its,r,⟨_,n,e,rfl,rfl,rfl⟩,z⟩
 ·refine⟨its.toList,r,⟨o,n,I.kIn a o hk,hc,hd,by simpa using hs⟩,?_⟩;have e:=r.length;simp only [Array.length_toList]at e;omega
def Inv.tuple(I:Inv X pins σ H s)(h:SqT X.K H a xs): ∃its:List Value,Vals xs its/\IsTup s.heap a its.toArray/\xs.length<=sizeLine:=by
 rcases h with h|⟨o,its,n,hk,hc,hs,hz,r⟩
 ·obtain⟨z,its,r,p⟩:=h.ok I.hok;exact⟨its,r,p,z⟩
 ·refine⟨its.toList,r,⟨o,I.kIn a o hk,hc,n,by simpa using hs⟩,?_⟩;have e:=r.length;simp only [Array.length_toList]at e;omega
def Inv.list_inj(I:Inv X pins σ H s)(h:SqL X.K H a xs)(h':SqL X.K H a ys):xs=ys:=by
 obtain⟨its,r,⟨o,n,e,_,_,d⟩,_⟩:=I.list h;obtain⟨its',r',⟨o',n',e',_,_,d'⟩,_⟩:=I.list h';rw [e]at e';cases e';rw [d]at d';injection d' with d1 _
 have:its=its':=by simpa using congrArg Array.toList d1
 subst this;exact r.inj r'
def Inv.tuple_inj(I:Inv X pins σ H s)(h:SqT X.K H a xs)(h':SqT X.K H a ys):xs=ys:=by
 obtain⟨its,r,⟨o,e,_,n,d⟩,_⟩:=I.tuple h;obtain⟨its',r',⟨o',e',_,n',d'⟩,_⟩:=I.tuple h';rw [e]at e';cases e';rw [d]at d';injection d' with d1 _
 have:its=its':=by simpa using congrArg Array.toList d1
 subst this;exact r.inj r'
end
abbrev Cx.wish(X:Cx)(E:VP):Cx:={X with xe:=E}
abbrev Cx.nox(X:Cx):Cx:=X.wish λ_ _=>False
def Cx.Ok.wish{X:Cx}(ok:X.Ok)(E:VP):(X.wish E).Ok:=
 ⟨ok.mod,ok.kind,ok.glob,ok.blt,ok.above,ok.inj,ok.has,ok.cab,ok.hd,ok.frames,ok.stk,ok.exf,ok.bs,ok.bsz,ok.noex,ok.exfs,ok.funs,ok.frf⟩
def Cx.Ok.unwish{X:Cx}{E:VP}(ok:(X.wish E).Ok):X.Ok:=
 ⟨ok.mod,ok.kind,ok.glob,ok.blt,ok.above,ok.inj,ok.has,ok.cab,ok.hd,ok.frames,ok.stk,ok.exf,ok.bs,ok.bsz,ok.noex,ok.exfs,ok.funs,ok.frf⟩
section
variable{X:Cx}{pins:Ba}{σ:St}{H:Hp}{s:Shared}{E:VP}
def Inv.wish(I:Inv X pins σ H s)(E:VP):Inv (X.wish E) pins σ H s:=⟨I.ok.wish E,I.os,I.bare,I.base,I.loc,I.cell,I.free,I.freeC,I.pin,I.hok,I.len⟩
def Inv.unwish(I:Inv (X.wish E) pins σ H s):Inv X pins σ H s:=⟨I.ok.unwish,I.os,I.bare,I.base,I.loc,I.cell,I.free,I.freeC,I.pin,I.hok,I.len⟩
def SP.unwish{D:Ends}{f:Flow}{s':Shared}(h:SP (X.wish E) pins D f s'):SP X pins D f s':=by
 cases f with
 |next=>obtain⟨σ',H',I,q⟩:=h;exact⟨σ',H',I.unwish,q⟩
 |brk=>obtain⟨σ',H',I,q⟩:=h;exact⟨σ',H',I.unwish,q⟩
 |cont=>obtain⟨σ',H',I,q⟩:=h;exact⟨σ',H',I.unwish,q⟩
 |ret u=>obtain⟨v,σ',H',I,r,q⟩:=h;exact⟨v,σ',H',I.unwish,r,q⟩
def PSs.nox{st:List Stmt}{t:TS}(h:PSs X.nox st t):PSs X st t:=λpins s σ H D I hw=>
 wpAny_mono (h pins s σ H D (I.wish _) hw) (λ_ _ q=>q.unwish) λ_ _ z=>False.elim z
end
section
variable{X:Cx}{st:Stmt}{rest:List Stmt}{t u:TS}{e:Expr}{te:TE}{pos:Pos}
def tNext:TS:=λD σ H=>D.nx σ H
def tSeq(t u:TS):TS:=λD σ H=>t {D with nx:=u D} σ H
def yLA:PSs X [] tNext:=λ_ _ σ H _ I h=>wpAny_execs_nil ⟨σ,H,I,h⟩
def yFO(h1:PS X st t)(h2:PSs X rest u):PSs X (st::rest) (tSeq t u):=by
 intro pins s σ H D I h;refine wpAny_execs_cons (thn (h1 pins s σ H {D with nx:=u D} I h) λf s1 q=>?_)
 cases f with
 |next=>
  obtain⟨σ',H',I',q⟩:=q;exact h2 pins s1 σ' H' D I' q
 |ret v=>exact q
 |brk=>exact q
 |cont=>exact q
def yLB(h1:PS X st t):PSs X [st] t:=by
 intro pins s σ H D I h;refine wpAny_execs_cons (thn (h1 pins s σ H D I h) λf s1 q=>?_)
 cases f with
 |next=>exact wpAny_execs_nil q
 |ret v=>exact q
 |brk=>exact q
 |cont=>exact q
def Inv.quiet{pins:Ba}{σ:St}{H:Hp}{s:Shared}(I:Inv X pins σ H s):interactive X.env=false:=by simp [interactive,I.ok.kind]
def tDrop(te:TE):TS:=λD σ H=>te σ H λ_ H1=>D.nx σ H1
def yLC(he:PE X e te)(hs:swapsWith e none pos.line X.env=pure false:=by rfl):PS X (.Expr e pos) (tDrop te):=by intro pins s σ H D I h;exact wpAny_Expr_any (thn (he pins s σ H _ I h) λv s1 ⟨x,H1,I1,r1,q1⟩=>⟨σ,H1,I1,q1⟩) I.quiet hs
def tRet(te:TE):TS:=λD σ H=>te σ H D.rt
def yPU(he:PE X e te):PS X (.Return (some e) pos) (tRet te):=by intro pins s σ H D I h;exact wpAny_Return_some (thn (he pins s σ H _ I h) λv s1 ⟨x,H1,I1,r1,q1⟩=>⟨x,σ,H1,I1,r1,q1⟩)
def tIfS(c:TT)(t u:TS):TS:=λD σ H=>c σ H λb H1=>if b=true then t D σ H1 else u D σ H1
def ps_if{c:Expr}{a b:List Stmt}{tc:TT}(hc:PT X c tc)(ha:PSs X a t)(hb:PSs X b u):PS X (.If c a b pos) (tIfS tc t u):=by
 intro pins s σ H D I h;refine wpAny_If (thn (hc pins s σ H _ I h) λd s1 ⟨H1,I1,q1⟩=>?_)
 cases d with
 |true=>exact ha pins s1 σ H1 D I1 q1
 |false=>exact hb pins s1 σ H1 D I1 q1
def yPV:TS:=λ_ _ _=>False
def yFP:PS X st yPV:=λ_ _ _ _ _ _ h=>h.elim
end
abbrev TG:=V->St->Hp->(St->Hp->Prop)->Prop
abbrev TGs:=List V->St->Hp->(St->Hp->Prop)->Prop
def PG(X:Cx)(target:Expr)(t:TG):Prop:=
 ∀(pins:Ba)(s:Shared)(σ:St)(H:Hp)(v:V)(u:Value)(Q:St->Hp->Prop),Inv X pins σ H s->RelV v u->t v σ H Q->
  wpAny (model X.prog X.w) X.A (assign target X.env u) (λ_ s'=> ∃σ' H',Inv X pins σ' H' s'/\Q σ' H') X.xe s
def PGs(X:Cx)(ts:Bd)(t:TGs):Prop:=
 ∀(pins:Ba)(s:Shared)(σ:St)(H:Hp)(vs:List V)(us:Ae)(Q:St->Hp->Prop),Inv X pins σ H s->Vals vs us->t vs σ H Q->
  wpAny (model X.prog X.w) X.A (assignInOrder ((assignEach ts X.env).map (·.2)) us) (λ_ s'=> ∃σ' H',Inv X pins σ' H' s'/\Q σ' H') X.xe s
abbrev TSet:=V->V->V->Hp->(Hp->Prop)->Prop
def PSet(X:Cx)(t:TSet):Prop:=
 ∀(pins:Ba)(s:Shared)(σ:St)(H:Hp)(o i v:V)(ov iv u:Value)(Q:Hp->Prop),Inv X pins σ H s->RelV o ov->RelV i iv->RelV v u->t o i v H Q->
  wpAny (model X.prog X.w) X.A (setItem ov iv u) (λ_ s'=> ∃H',Inv X pins σ H' s'/\Q H') X.xe s
section
variable{X:Cx}{pos:Pos}
def yFQ(i:Nat):TG:=λv σ H Q=>Q (σ.set i (some v)) H
def yAJ{i:Nat}{x:Str}(hN:X.N.Nodup)(hi:X.N[i]? =some x)(hx:Loc X.env.scope x)(hf:X.fn x=true\/X.env.scope.names.lookup x=some .local:=by first |exact .inl rfl|exact .inr rfl|assumption):PG X (.Name x pos) (yFQ i):=by intro pins s σ H v u Q I r h;exact wpAny_assign_Name (zVI I hN hi hx r (λs' I'=>⟨_,H,I',h⟩) hf)
def gNil:TGs:=λvs σ H Q=>vs=[]/\Q σ H
def gCons(t:TG)(u:TGs):TGs:=λvs σ H Q=> ∃v r,vs=v::r/\t v σ H λσ' H'=>u r σ' H' Q
def yLD:PGs X [] gNil:=by intro pins s σ H vs us Q I r h;obtain⟨e,h⟩:=h;subst e;cases r;exact assignInOrder_nil ⟨σ,H,I,h⟩
def yFR{e:Expr}{es:Bd}{t:TG}{u:TGs}(h1:PG X e t)(h2:PGs X es u)
  (hs:(assignEach (e::es) X.env).map (·.2)=assign e X.env::(assignEach es X.env).map (·.2):=by rfl):PGs X (e::es) (gCons t u):=by
 intro pins s σ H vs us Q I r h;obtain⟨v,vr,e1,h⟩:=h;subst e1
 cases r with
 |cons r rr=>
  rw [hs];refine assignInOrder_cons (thn (h1 pins s σ H _ _ _ I r h) λ_ s1 ⟨σ1,H1,I1,q1⟩=>?_);exact h2 pins s1 σ1 H1 _ _ Q I1 rr q1
def gTup(K:Be)(n:Nat)(t:TGs):TG:=λv σ H Q=> ∃a xs,v=.ref a/\SqT K H a xs/\xs.length=n/\t xs σ H Q
def yPW{es:Bd}{k:Nat}{t:TGs}{n:Nat}(hc:X.calm=true)(h:PGs X es t)
  (hn:(assignEach es X.env).length=n:=by rfl) (hst:(assignEach es X.env).findIdx? (·.1)=none:=by rfl):PG X (.Tuple es k pos) (gTup X.K n t):=by
 intro pins s σ H v u Q I r hw;obtain⟨a,xs,e1,hq,hl,hw⟩:=hw;subst e1;cases r;obtain⟨its,rv,ht,hz⟩:=I.tuple hq;refine assign_Tuple_tuple (I.ok.hd hc) ht (by simp [hn, <-hl,rv.length]) hst λh' hx=>?_;have I1:Inv X pins σ H {s with heap:=h'}:=I.kept (t':=s.toks) λb o e=>hx b o (ne_of_lt (Heap.lt_size e)) e;exact h pins _ σ H xs _ Q I1 (by simpa using rv) hw
def gSub(to ti:TE)(t:TSet):TG:=λv σ H Q=>to σ H λo H1=>ti σ H1 λi H2=>t o i v H2 λH3=>Q σ H3
def yFS{o i:Expr}{to ti:TE}{t:TSet}(ho:PE X o to)(hi:PE X i ti)(hs:PSet X t)
  (ha: ∀v,assign (.Subscript o i pos) X.env v=(do
   let ov <-holding [v] (eval o X.env);let iv <-holding [v,ov] (eval i X.env)
   standAt pos
   holding [v,ov,iv] (setItem ov iv v)
   release [v,ov,iv] []):=by intro _;rfl):PG X (.Subscript o i pos) (gSub to ti t):=by
 intro pins s σ H v u Q I r h;rw [ha];refine wB0 (wpAny_holding (thn (ho pins s σ H _ I h) λov s1 ⟨x,H1,I1,r1,q1⟩=>?_));refine wB0 (wpAny_holding (thn (hi pins s1 σ H1 _ I1 q1) λiv s2 ⟨y,H2,I2,r2,q2⟩=>?_));refine wB0 (wpAny_standAt (wB0 (wpAny_holding (thn (hs pins s2 σ H2 x y v ov iv u _ I2 r1 r2 r q2) λ_ s3 ⟨H3,I3,q3⟩=>?_))));exact wpAny_release ⟨σ,H3,I3,q3⟩
def tAsg(te:TE)(g:TG):TS:=λD σ H=>te σ H λx H1=>g x σ H1 D.nx
def yPX{tg e:Expr}{te:TE}{g:TG}(he:PE X e te)(hg:PG X tg g)(hs:swapsWithSole [tg] e pos.line X.env=pure false:=by rfl)(hw:swappedStores [tg] e X.env=pure none:=by rfl)
  (h1:(assignEach [tg] X.env).map (·.2)=[assign tg X.env]:=by rfl):PS X (.Assign [tg] e pos) (tAsg te g):=by
 intro pins s σ H D I h;refine wpAny_Assign_stores (thn (he pins s σ H _ I h) λv s1 ⟨x,H1,I1,r1,q1⟩=>?_) hs hw;rw [h1];exact thn (hg pins s1 σ H1 x v _ I1 r1 q1) λ_ s2 q=>q
def yPY{i:Nat}{x:Str}{e:Expr}{te:TE}{pos':Pos}(hN:X.N.Nodup)(hi:X.N[i]? =some x)(hx:Loc X.env.scope x)(he:PE X e te)(hs:swapsWith e (some (.Name x pos')) pos.line X.env=pure false:=by rfl)(hf:X.fn x=true\/X.env.scope.names.lookup x=some .local:=by first |exact .inl rfl|exact .inr rfl|assumption):
  PS X (.Assign [.Name x pos'] e pos) (tAsg te (yFQ i)):=by
 intro pins s σ H D I h;refine wpAny_Assign_Name (thn (he pins s σ H _ I h) λv s1 ⟨y,H1,I1,r1,q1⟩=>?_) hs;exact zVI I1 hN hi hx r1 (λs2 I2=>⟨_,H1,I2,q1⟩) hf
end
section
variable{X:Cx}{pos:Pos}
def yPZ(c:TT)(tb:TS):TS:=λD σ H=> ∃W:Nat->St->Hp->Prop,(∃m,W m σ H)/\ ∀m σ H,W m σ H->
 c σ H λb H1=>if b=true then∃N:St->Hp->Prop,(∀σ' H',N σ' H'-> ∃m',m'<m/\W m' σ' H')/\tb {D with nx:=N,ct:=N,bk:=D.nx} σ H1 else D.nx σ H1
def yFT{c:Expr}{body:List Stmt}{tc:TT}{tb:TS}(hp:PassesOwn (model X.prog X.w) X.A X.env X.xe)(hc:PT X c tc)(hb:PSs X body tb):PS X (.While c body [] pos) (yPZ tc tb):=by
 intro pins s σ H D I h;obtain⟨W,⟨m0,w0⟩,turn⟩:=h;refine wpAny_While (codeAny_whileLoop (λn s'=> ∃σ' H',Inv X pins σ' H' s'/\W n σ' H') ?_ m0 ⟨σ,H,I,w0⟩);rintro n s1 ⟨σ1,H1,I1,w1⟩;refine wpAny_passesOwn hp (thn (hc pins s1 σ1 H1 _ I1 (turn n σ1 H1 w1)) λb s2 ⟨H2,I2,q2⟩=>?_)
 cases b with
 |true=>
  obtain⟨N,hN,q2⟩:=q2;rw [iP rfl];refine wpAny_passesOwn hp (thn (hb pins s2 σ1 H2 _ I2 q2) λf s3 q3=>?_)
  cases f with
  |next=>
   obtain⟨σ3,H3,I3,n3⟩:=q3;obtain⟨m',hm,w3⟩:=hN σ3 H3 n3;exact⟨m',hm,σ3,H3,I3,w3⟩
  |cont=>
   obtain⟨σ3,H3,I3,n3⟩:=q3;obtain⟨m',hm,w3⟩:=hN σ3 H3 n3;exact⟨m',hm,σ3,H3,I3,w3⟩
  |brk=>exact q3
  |ret v=>exact q3
 |false=>
  rw [iN xF0];exact wpAny_execs_nil ⟨σ1,H2,I2,q2⟩
end
structure It where
 go:Nat->Hp->Prop
 yld:Nat->Hp->V->Hp->Prop
 stop:Nat->Hp->Prop
def zJL(X:Cx)(pins:Ba)(H:Hp)(b:Addr):Prop:=
 H b=none/\b≠X.env.locals/\b∉X.fs/\(b∈X.ex\/X.s₀.heap.objs.size<=b)/\(∀x c,X.env.cells.lookup x=some c->c≠b)/\ ∀p∈X.pn++pins,p.1≠b
def Inv.fpOk{X:Cx}{pins:Ba}{σ:St}{H H':Hp}{s:Shared}{b:Addr}(I:Inv X pins σ H s)(hb:s.heap.objs.size<=b)(hn:H' b=none):zJL X pins H' b:=by
 refine⟨hn,ne_of_gt (lt_of_lt_of_le I.lt hb),I.nofs hb,.inr (le_trans I.sz hb),λx c e z=>?_,λp hp z=>?_⟩
 ·obtain⟨v,q⟩:=I.cell x c e;exact absurd (lt_of_lt_of_le q.lt (by rw [z];exact hb)) (lt_irrefl _)
 ·exact absurd (lt_of_lt_of_le (Heap.lt_size (I.pin p hp).1) (by rw [z];exact hb)) (lt_irrefl _)
structure Turn(P:Program)(w:World)(K:Be)(tg:Expr)(J:It)(fp:Ah)(it:Addr)(tn:Nat->Heap->Prop):Prop where
 mem:it∈fp
 obj: ∀i h,tn i h-> ∀b∈fp, ∃o,h.get? b=some o/\ ∀v,o.data≠.cell v
 keep: ∀i h h',tn i h->(∀b∈fp, ∀o,h.get? b=some o->h'.get? b=some o)->tn i h'
 item: ∀(X:Cx),X.prog=P->X.w=w->X.K=K->X.calm=true-> ∀(i:Nat)(pins:Ba)(s:Shared)(σ:St)(H:Hp)(E:VP),Inv X pins σ H s->(∀b∈fp,zJL X pins H b)->tn i s.heap->J.go i H->
  wpAny (model P w) X.A (pyNext (.ref it)) (λr s1=> ∃u,r=some u/\
   wpAny (model P w) X.A (letOwnedTupleGo tg (.ref it) u) (λ_ s2=> ∃x H',Inv X pins σ H' s2/\RelV x u/\J.yld i H x H'/\tn (i+1) s2.heap/\ ∀b∈fp,H' b=none) E s1) E s
 done: ∀(X:Cx),X.prog=P->X.w=w->X.K=K->X.calm=true-> ∀(i:Nat)(pins:Ba)(s:Shared)(σ:St)(H:Hp)(E:VP),Inv X pins σ H s->(∀b∈fp,zJL X pins H b)->tn i s.heap->J.stop i H->
  wpAny (model P w) X.A (pyNext (.ref it)) (λr s1=>r=none/\Inv X pins σ H s1) E s
 self: ∀(A:Around)(i:Nat)(s:Shared)(Q:VP)(E:VP),tn i s.heap->Q (.ref it) s->wpAny (model P w) A (pyIter (.ref it)) Q E s
abbrev TI:=St->Hp->(It->Hp->Prop)->Prop
def PIE(X:Cx)(pins:Ba)(σ:St)(tg:Expr)(R:It->Hp->Prop)(itv:Value)(s2:Shared):Prop:=
 ∃(it:Addr)(fp:Ah)(tn:Nat->Heap->Prop)(J:It)(H':Hp),itv=.ref it/\Inv X pins σ H' s2/\Turn X.prog X.w X.K tg J fp it tn/\tn 0 s2.heap/\(∀b∈fp,zJL X pins H' b)/\R J H'
def PI(X:Cx)(tg iter:Expr)(wi:TI):Prop:=
 ∀(pins:Ba)(s:Shared)(σ:St)(H:Hp)(R:It->Hp->Prop),Inv X pins σ H s->wi σ H R->
  wpAny (model X.prog X.w) X.A (eval iter X.env) (λv s1=>wpAny (model X.prog X.w) X.A (pyIter v) (PIE X pins σ tg R) X.xe s1) X.xe s
def yAK{M:Model}{A:Around}{E:VP}{s:Shared}{tg:Expr}{it:Addr}{u:Value}{o:Obj}{n:String}{vs:Ag}{Q:Unit->Shared->Prop}(ho:s.heap.get? it=some o)(hc:o.cls=.type n)(hd:o.data=.fields vs)
  (hn:["enumerate","zip","dict_itemiterator","dict_reverseitemiterator","odict_iterator","itertools.zip_longest","itertools.pairwise"].contains n=false) (hQ:Q () s):wpAny M A (letOwnedTupleGo tg (.ref it) u) Q E s:=by
 unfold letOwnedTupleGo
 cases tg<;>first
  |exact wP0 hQ
  |(cases u<;>first
    |exact wP0 hQ
    |(refine wB0 (wpAny_load ho ?_)
      rw [hc,hd];show wpAny M A (if(["enumerate","zip","dict_itemiterator","dict_reverseitemiterator","odict_iterator","itertools.zip_longest","itertools.pairwise"].contains n&&vs[0]? ==some (rawInt _))=true then _ else _) Q E s;rw [iN (by intro h;rw [hn,Bool.false_and]at h;cases h)];exact wP0 hQ))
def Itl(K:Be)(a:Addr):It:=
 ⟨λi H=> ∃xs x,SqL K H a xs/\xs[i]? =some x,λi H x H'=>H'=H/\ ∀xs,SqL K H a xs->xs[i]? =some x,λi H=> ∃xs,SqL K H a xs/\xs.length<=i⟩
def Itt(K:Be)(a:Addr):It:=
 ⟨λi H=> ∃xs x,SqT K H a xs/\xs[i]? =some x,λi H x H'=>H'=H/\ ∀xs,SqT K H a xs->xs[i]? =some x,λi H=> ∃xs,SqT K H a xs/\xs.length<=i⟩
def Itr(lo:Int)(n:Nat):It:=⟨λi _=>i<n,λi H x H'=>H'=H/\x=.int (lo+i),λi _=>n<=i⟩
def zRM{P:Program}{w:World}{K:Be}{tg:Expr}(a it:Addr):Turn P w K tg (Itl K a) [it] it (λi h=>h.IsListIter it a i) where
 mem:=by simp
 obj:=λi h st b hb=>by
  have e:b=it:=by simpa using hb
  subst e;obtain⟨o,e,c,d⟩:=st;exact⟨o,e,λv z=>by rw [d]at z;cases z⟩
 keep:=λi h h' st k=>st.at λo e=>k it (by simp) o e
 item:=by intro X hP hw hK hc i pins s σ H E I hf st hg;subst hP hw hK;obtain⟨xs,x,hq,hx⟩:=hg;obtain⟨its,rv,p,hz⟩:=I.list hq;obtain⟨u,hu,ru⟩:=rv.get hx;obtain⟨f0,f1,f2,f3,f4,f5⟩:=hf it (by simp);refine wpAny_pyNext_list_item st p.isList (x:=u) (by simpa using hu) λh' st' sb=>?_;have I1:Inv X pins σ H {s with heap:=h'}:=I.turned (t':=s.toks) (λb o hb e=>(sb.2 b hb).trans e) f0 f1 f3 f4 f5;obtain⟨o,e,c,d⟩:=id st';exact⟨u,rfl,yAK (s:={s with heap:=h'}) e c d (by decide) ⟨x,H,I1,ru,⟨rfl,λys hy=>by rw [I.list_inj hy hq];exact hx⟩,st',λb hb=>(hf b hb).1⟩⟩
 done:=by intro X hP hw hK hc i pins s σ H E I hf st hg;subst hP hw hK;obtain⟨xs,hq,hx⟩:=hg;obtain⟨its,rv,p,hz⟩:=I.list hq;obtain⟨f0,f1,f2,f3,f4,f5⟩:=hf it (by simp);have hl:=rv.length;exact wpAny_pyNext_list_end (I.ok.hd hc) st p.isList (by simp;omega) λh' eb=>⟨rfl,I.turned (t':=s.toks) (λb o hb e=>eb b o hb e) f0 f1 f3 f4 f5⟩
 self:=λ_ _ _ _ _ st h=>wpAny_pyIter_listiter st h
def zOD{P:Program}{w:World}{K:Be}{tg:Expr}(a it:Addr):Turn P w K tg (Itt K a) [it] it (λi h=>h.IsTupleIter it a i) where
 mem:=by simp
 obj:=λi h st b hb=>by
  have e:b=it:=by simpa using hb
  subst e;obtain⟨o,e,c,d⟩:=st;exact⟨o,e,λv z=>by rw [d]at z;cases z⟩
 keep:=λi h h' st k=>st.at λo e=>k it (by simp) o e
 item:=by intro X hP hw hK hc i pins s σ H E I hf st hg;subst hP hw hK;obtain⟨xs,x,hq,hx⟩:=hg;obtain⟨its,rv,p,hz⟩:=I.tuple hq;obtain⟨u,hu,ru⟩:=rv.get hx;obtain⟨f0,f1,f2,f3,f4,f5⟩:=hf it (by simp);refine wpAny_pyNext_tuple_item st (show s.heap.IsTuple a its.toArray from p) (x:=u) (by simpa using hu) λh' st' sb=>?_;have I1:Inv X pins σ H {s with heap:=h'}:=I.turned (t':=s.toks) (λb o hb e=>(sb.2 b hb).trans e) f0 f1 f3 f4 f5;obtain⟨o,e,c,d⟩:=id st';exact⟨u,rfl,yAK (s:={s with heap:=h'}) e c d (by decide) ⟨x,H,I1,ru,⟨rfl,λys hy=>by rw [I.tuple_inj hy hq];exact hx⟩,st',λb hb=>(hf b hb).1⟩⟩
 done:=by intro X hP hw hK hc i pins s σ H E I hf st hg;subst hP hw hK;obtain⟨xs,hq,hx⟩:=hg;obtain⟨its,rv,p,hz⟩:=I.tuple hq;obtain⟨f0,f1,f2,f3,f4,f5⟩:=hf it (by simp);have hl:=rv.length;exact wpAny_pyNext_tuple_end (I.ok.hd hc) st (show s.heap.IsTuple a its.toArray from p) (by simp;omega) λh' eb=>⟨rfl,I.turned (t':=s.toks) (λb o hb e=>eb b o hb e) f0 f1 f3 f4 f5⟩
 self:=λ_ _ _ _ _ st h=>wpAny_pyIter_tupleiter st h
def zYG{P:Program}{w:World}{K:Be}{tg:Expr}(it:Addr)(lo:Int)(n:Nat):Turn P w K tg (Itr lo n) [it] it (λi h=>IsRangeIter h it (lo+(i:Nat) * 1) ((n:Int) - (i:Nat)) 1) where
 mem:=by simp
 obj:=λi h st b hb=>by
  have e:b=it:=by simpa using hb
  subst e;exact⟨_,st,λv z=>by have z':Data.fields _=Data.cell v:=z;cases z'⟩
 keep:=λi h h' st k=>k it (by simp) _ st
 item:=by intro X hP hw hK hc i pins s σ H E I hf st hg;subst hP hw hK;obtain⟨f0,f1,f2,f3,f4,f5⟩:=hf it (by simp);have W:=Walks.range (prog:=X.prog) (w:=X.w) (I.ok.hd hc) it lo 1 n;refine W.item i s _ _ hg st λv h' tk hv st' kk=>?_;obtain⟨t,rfl⟩:=hv;have I1:Inv X pins σ H {s with heap:=h',toks:=tk}:=I.turned (λb o hb e=>kk b o (by simpa using hb) e) f0 f1 f3 f4 f5;refine⟨_,rfl,yAK (s:={s with heap:=h',toks:=tk}) (n:="range_iterator") st' rfl rfl (by decide) ⟨.int (lo+i),H,I1,⟨t,?_⟩,⟨rfl,rfl⟩,st',λb hb=>(hf b hb).1⟩⟩;rw [Int.mul_one]
 done:=by intro X hP hw hK hc i pins s σ H E I hf st hg;subst hP hw hK;obtain⟨f0,f1,f2,f3,f4,f5⟩:=hf it (by simp);exact wpAny_pyNext_range_end (I.ok.hd hc) st (by have:n<=i:=hg;omega) λh' eb=>⟨rfl,I.turned (t':=s.toks) (λb o hb e=>eb b o hb e) f0 f1 f3 f4 f5⟩
 self:=λ_ _ _ _ _ st h=>wpAny_pyIter_rangeiter st h
section
variable{X:Cx}{tg:Expr}
def iList(K:Be)(tl:TE):TI:=λσ H R=>tl σ H λx H1=> ∃a,x=.ref a/\(∃xs,SqL K H1 a xs)/\R (Itl K a) H1
def iTup(K:Be)(tl:TE):TI:=λσ H R=>tl σ H λx H1=> ∃a,x=.ref a/\(∃xs,SqT K H1 a xs)/\R (Itt K a) H1
def yLE{l:Expr}{tl:TE}(hl:PE X l tl):PI X tg l (iList X.K tl):=by
 intro pins s σ H R I h;refine thn (hl pins s σ H _ I h) λv s1 ⟨x,H1,I1,r1,q1⟩=>?_;obtain⟨a,e,⟨xs,hq⟩,q⟩:=q1;subst e;cases r1;obtain⟨its,rv,p,hz⟩:=I1.list hq;refine wpAny_pyIter_list p.isList ?_;refine⟨s1.heap.objs.size,[s1.heap.objs.size],_,_,H1,rfl,I1.kept (t':=s1.toks) λb o e=>hP0 _ e,zRM a _,⟨_,Heap.get?_push_size _ rfl,rfl,rfl⟩,λb hb=>?_,q⟩;have e:b=s1.heap.objs.size:=by simpa using hb
 subst e;exact I1.fpOk (le_refl _) (I1.hok.fresh (le_refl _))
def yQA{l:Expr}{tl:TE}(hl:PE X l tl):PI X tg l (iTup X.K tl):=by
 intro pins s σ H R I h;refine thn (hl pins s σ H _ I h) λv s1 ⟨x,H1,I1,r1,q1⟩=>?_;obtain⟨a,e,⟨xs,hq⟩,q⟩:=q1;subst e;cases r1;obtain⟨its,rv,p,hz⟩:=I1.tuple hq;refine wpAny_pyIter_tuple (show s1.heap.IsTuple a its.toArray from p) ?_;refine⟨s1.heap.objs.size,[s1.heap.objs.size],_,_,H1,rfl,I1.kept (t':=s1.toks) λb o e=>hP0 _ e,zOD a _,⟨_,Heap.get?_push_size _ rfl,rfl,rfl⟩,λb hb=>?_,q⟩;have e:b=s1.heap.objs.size:=by simpa using hb
 subst e;exact I1.fpOk (le_refl _) (I1.hok.fresh (le_refl _))
def yFU{pins:Ba}{σ:St}{H:Hp}{s:Shared}{R:It->Hp->Prop}{E:VP}{lo hi:Int}{t u v:Tok}{tk:Nat}(I:Inv X pins σ H s)(h1: -(2 ^ 62)<=lo)(h2:lo<2 ^ 62)(h3: -(2 ^ 62)<=hi)(h4:hi<2 ^ 62)
  (q:R (Itr lo (hi - lo).toNat) H):wpAny (model X.prog X.w) X.A (pyIter (.ref s.heap.objs.size)) (PIE X pins σ tg R) E {s with heap:=s.heap.push {cls:=.type "range",data:=.fields #[.int lo t,.int hi u,.int 1 v]},toks:=tk}:=by
 refine wpAny_pyIter_range (IsRange.new ..) (small_one h1 h2 h3 h4) ?_;have I1:Inv X pins σ H {s with heap:=s.heap.push {cls:=.type "range",data:=.fields #[.int lo t,.int hi u,.int 1 v]},toks:=tk}:=I.kept λb o e=>hP0 _ e
 refine⟨(s.heap.push {cls:=.type "range",data:=.fields #[.int lo t,.int hi u,.int 1 v]}).objs.size,[(s.heap.push {cls:=.type "range",data:=.fields #[.int lo t,.int hi u,.int 1 v]}).objs.size],_,_,H,rfl,
  I1.kept (t':=tk) λb o e=>hP0 _ e,zYG _ lo (hi - lo).toNat,?_,λb hb=>?_,q⟩
 ·have e1:lo+((0:Nat):Int) * 1=lo:=by simp
  have e2:(((hi - lo).toNat:Nat):Int) - ((0:Nat):Int)=Builtin.Range.rangeSize lo hi 1:=by rw [rangeSize_one];split<;>omega
  show IsRangeIter _ _ (lo+((0:Nat):Int) * 1) ((((hi - lo).toNat:Nat):Int) - ((0:Nat):Int)) 1;rw [e1,e2];exact Heap.get?_push_size _ rfl
 ·have e:b=(s.heap.push {cls:=.type "range",data:=.fields #[.int lo t,.int hi u,.int 1 v]}).objs.size:=by simpa using hb
  subst e;exact I1.fpOk (le_refl _) (I1.hok.fresh (le_refl _))
def iRng1(ta:TA):TI:=λσ H R=>ta σ H λvs H1=> ∃j:Int,vs=[.int j]/\ -(2 ^ 62)<=j/\j<2 ^ 62/\R (Itr 0 j.toNat) H1
def yDM{a:Expr}{ta:TA}{p pos:Pos}(hg:Gl X "range")(hm:X.mg "range"=none)(ha:PA X [a] ta)(hs:starEach [a] X.env=[(false,eval a X.env)]:=by rfl):PI X tg (.Call (.Name "range" p) [a] [] pos) (iRng1 ta):=by
 intro pins s σ H R I h;refine Call_ (zLG I hg hm boot_range (PyProof.Rows.callWith_type1 (thn (ha pos pins s σ H _ I h) λus s1 ⟨vs,H1,I1,r1,q1⟩=>?_) hs rfl));obtain⟨j,e,q1,q2,q⟩:=q1;subst e
 cases r1 with
 |cons r rr=>
  cases rr;obtain⟨t,rfl⟩:=r;exact call_range_1 (yFU I1 (by omega) (by omega) q1 q2 (by simpa using q))
def tFor(wi:TI)(g:TG)(tb:TS):TS:=λD σ H=>wi σ H λJ H1=> ∃W:Nat->Nat->St->Hp->Prop,(∃m,W 0 m σ H1)/\ ∀i m σ H,W i m σ H->
 (J.stop i H/\D.nx σ H)\/(J.go i H/\ ∃N:St->Hp->Prop,(∀σ' H',N σ' H'-> ∃m',m'<m/\W (i+1) m' σ' H')/\ ∀x H',J.yld i H x H'->g x σ H' λσ2 H2=>tb {D with nx:=N,ct:=N,bk:=D.nx} σ2 H2)
def zLH(fp:Ah)(h:Heap):List (Addr×Obj):=fp.filterMap λb=>(h.get? b).map λo=>(b,o)
def zJR{fp:Ah}{h:Heap}{b:Addr}{o:Obj}(hb:b∈fp)(e:h.get? b=some o):(b,o)∈zLH fp h:=mem_filterMap.mpr ⟨b,hb,by rw [e];rfl⟩
def yDN{fp:Ah}{h:Heap}{p:Addr×Obj}(hp:p∈zLH fp h):p.1∈fp/\h.get? p.1=some p.2:=by
 obtain⟨b,hb,e⟩:=mem_filterMap.mp hp
 cases q:h.get? b with
 |none=>rw [q]at e;cases e
 |some o=>
  rw [q]at e;have e':(b,o)=p:=Option.some.inj e;subst e';exact⟨hb,q⟩
def Inv.pinned{pins:Ba}{σ:St}{H:Hp}{s:Shared}{fp:Ah}(I:Inv X pins σ H s)(hf: ∀b∈fp,zJL X pins H b)(ho: ∀b∈fp, ∃o,s.heap.get? b=some o/\ ∀v,o.data≠.cell v):Inv X (pins++zLH fp s.heap) σ H s:=
 I.pins_of λp hp=>(mem_append.mp hp).elim (λz=>I.pin p (mem_append_right _ z)) λz=>by obtain⟨hb,e⟩:=yDN z;obtain⟨f0,f1,f2,_⟩:=hf p.1 hb;obtain⟨o,e',d⟩:=ho p.1 hb;rw [e]at e';cases e';exact⟨e,f0,f1,f2,d⟩
def Inv.unpinned{pins pl:Ba}{σ:St}{H:Hp}{s:Shared}(I:Inv X (pins++pl) σ H s):Inv X pins σ H s:=I.pins_of λp hp=>I.pin p (mem_append_right _ (mem_append_left _ hp))
def yQB{iter:Expr}{body:List Stmt}{wi:TI}{g:TG}{tb:TS}{pos:Pos}(hp:PassesOwn (model X.prog X.w) X.A X.env X.xe)(hc:X.calm=true)(hi:PI X tg iter wi)(hg:PG X tg g)(hb:PSs X body tb)
  (hs: ∀x,foldedSetIterable iter X.env x=pure x:=by intro _;rfl):PS X (.For tg iter body [] pos) (tFor wi g tb):=by
 intro pins s σ H D I h;refine wpAny_For (thn (hi pins s σ H _ I h) λv s1 h1=>thn h1 λitv s2 h2=>?_) hs;obtain⟨it,fp,tn,J,H2,e,I2,T,st2,f2,W,⟨m0,w0⟩,turn⟩:=h2;subst e;have stat: ∀{H':Hp},(∀b∈fp,H' b=none)-> ∀b∈fp,zJL X pins H' b:=λhn b hb=>⟨hn b hb,(f2 b hb).2⟩
 refine codeAny_forLoop_any (λn s'=> ∃i σ' H',Inv X pins σ' H' s'/\tn i s'.heap/\(∀b∈fp,H' b=none)/\W i n σ' H') ?_ m0 ⟨0,σ,H2,I2,st2,λb hb=>(f2 b hb).1,w0⟩;rintro n s3 ⟨i,σ3,H3,I3,st3,fr3,w3⟩;rcases turn i n σ3 H3 w3 with⟨stop,qn⟩|⟨go,N,hN,step⟩
 ·refine wpAny_passesOwn hp (thn (T.done X rfl rfl rfl hc i pins s3 σ3 H3 X.xe I3 (stat fr3) st3 stop) λr s4 ⟨hr,I4⟩=>?_);subst hr;exact wpAny_execs_nil ⟨σ3,H3,I4,qn⟩
 ·refine wpAny_passesOwn hp (thn (T.item X rfl rfl rfl hc i pins s3 σ3 H3 X.xe I3 (stat fr3) st3 go) λr s4 ⟨u,hr,h4⟩=>?_);subst hr;refine wpAny_passesOwn hp (thn h4 λ_ s5 ⟨x,H5,I5,r5,y5,st5,fr5⟩=>?_);have I5':=I5.pinned (stat fr5) (T.obj _ _ st5);refine wpAny_passesOwn hp (thn (hg _ s5 σ3 H5 x u _ I5' r5 (step x H5 y5)) λ_ s6 ⟨σ6,H6,I6,q6⟩=>?_);refine wpAny_passesOwn hp (thn (hb _ s6 σ6 H6 _ I6 q6) λf s7 q7=>?_);have again: ∀{σ7:St}{H7:Hp},Inv X (pins++zLH fp s5.heap) σ7 H7 s7->N σ7 H7-> ∃m,m<n/\ ∃i σ' H',Inv X pins σ' H' s7/\tn i s7.heap/\(∀b∈fp,H' b=none)/\W i m σ' H':=λ{σ7 H7} I7 n7=>by obtain⟨m',hm,w7⟩:=hN σ7 H7 n7;refine⟨m',hm,i+1,σ7,H7,I7.unpinned,T.keep _ _ _ st5 λb hb o e=>(I7.pin (b,o) (mem_append_right _ (mem_append_right _ (zJR hb e)))).1,λb hb=>?_,w7⟩;obtain⟨o,e,d⟩:=T.obj _ _ st5 b hb;exact(I7.pin (b,o) (mem_append_right _ (mem_append_right _ (zJR hb e)))).2.1
  cases f with
  |next=>obtain⟨σ7,H7,I7,n7⟩:=q7;exact again I7 n7
  |cont=>obtain⟨σ7,H7,I7,n7⟩:=q7;exact again I7 n7
  |brk=>obtain⟨σ7,H7,I7,q7⟩:=q7;exact⟨σ7,H7,I7.unpinned,q7⟩
  |ret v=>obtain⟨x7,σ7,H7,I7,r7,q7⟩:=q7;exact⟨x7,σ7,H7,I7.unpinned,r7,q7⟩
end
abbrev R2:=V->V->Hp->VK->Prop
def OpR(X:Cx)(f:Value->Value->Sem Value)(r:R2):Prop:=
 ∀(pins:Ba)(s:Shared)(σ:St)(H:Hp)(x y:V)(v u:Value)(Q:VK),Inv X pins σ H s->RelV x v->RelV y u->r x y H Q->
  wpAny (model X.prog X.w) X.A (f v u) (EP X pins σ Q) X.xe s
def UnR(X:Cx)(f:Value->Sem Value)(r:V->Hp->VK->Prop):Prop:=
 ∀(pins:Ba)(s:Shared)(σ:St)(H:Hp)(x:V)(v:Value)(Q:VK),Inv X pins σ H s->RelV x v->r x H Q->
  wpAny (model X.prog X.w) X.A (f v) (EP X pins σ Q) X.xe s
def CallR(X:Cx)(f:Value)(r:List V->Hp->VK->Prop):Prop:=
 ∀(pins:Ba)(s:Shared)(σ:St)(H:Hp)(xs:List V)(us:Ae)(Q:VK),Inv X pins σ H s->Vals xs us->r xs H Q->
  wpAny (model X.prog X.w) X.A (call f us) (EP X pins σ Q) X.xe s
def TruR(X:Cx)(r:V->Hp->(Bool->Hp->Prop)->Prop):Prop:=
 ∀(pins:Ba)(s:Shared)(σ:St)(H:Hp)(x:V)(v:Value)(Q:Bool->Hp->Prop),Inv X pins σ H s->RelV x v->r x H Q->
  wpAny (model X.prog X.w) X.A (truthy v) (TP X pins σ Q) X.xe s
def tOp(r:R2)(ta tb:TE):TE:=λσ H Q=>ta σ H λx H1=>tb σ H1 λy H2=>r x y H2 Q
def tUn(r:V->Hp->VK->Prop)(ta:TE):TE:=λσ H Q=>ta σ H λx H1=>r x H1 Q
def rI(C:Int->Int->Prop)(g:Int->Int->V):R2:=λx y H Q=> ∃i j,x=.int i/\y=.int j/\C i j/\Q (g i j) H
def rI0(g:Int->Int->V):R2:=λx y H Q=> ∃i j,x=.int i/\y=.int j/\Q (g i j) H
def rU(g:Int->V):V->Hp->VK->Prop:=λx H Q=> ∃i,x=.int i/\Q (g i) H
section
variable{X:Cx}{a b c:Expr}{ta tb tc:TE}{pos:Pos}
def binT(ha:PE X a ta)(hb:PE X b tb){pins:Ba}{s:Shared}{σ:St}{H:Hp}{R:V->V->Hp->Prop}(I:Inv X pins σ H s)
  (h:ta σ H λx H1=>tb σ H1 λy H2=>R x y H2) {Q:VP} {f:Value->Value->Sem Value}
  (hf: ∀v u s2 x y H2,Inv X pins σ H2 s2->RelV x v->RelV y u->R x y H2->wpAny (model X.prog X.w) X.A (f v u) Q X.xe s2):
  wpAny (model X.prog X.w) X.A (eval a X.env) (λv s₁=>wpAny (model X.prog X.w) X.A (eval b X.env) (λu s₂=>wpAny (model X.prog X.w) X.A (f v u) Q X.xe s₂) X.xe s₁) X.xe s:=by
 refine thn (ha pins s σ H _ I h) λv s1 ⟨x,H1,I1,r1,q1⟩=>?_;refine thn (hb pins s1 σ H1 _ I1 q1) λu s2 ⟨y,H2,I2,r2,q2⟩=>?_;exact hf v u s2 x y H2 I2 r1 r2 q2
def pe_op{op:Operator}{r:R2}(ho:OpR X (binaryOp op) r)(ha:PE X a ta)(hb:PE X b tb):PE X (.BinOp a op b pos) (tOp r ta tb):=by intro pins s σ H Q I h;exact wpAny_BinOp (binT ha hb I h λv u s2 x y H2 I2 rx ry q=>ho pins s2 σ H2 x y v u Q I2 rx ry q)
def pe_un{op:UnaryOp}{r:V->Hp->VK->Prop}(ho:UnR X (unaryOp op) r)(ha:PE X a ta):PE X (.UnaryOp op a pos) (tUn r ta):=by intro pins s σ H Q I h;exact UnaryOp_ (thn (ha pins s σ H _ I h) λv s1 ⟨x,H1,I1,r1,q1⟩=>ho pins s1 σ H1 x v Q I1 r1 q1)
def opI{f:Value->Value->Sem Value}{C:Int->Int->Prop}{g:Int->Int->Int}
  (rule: ∀(i j:Int)(t u:Tok)(s:Shared)(Q:VP)(E:VP),C i j->Q (.int (g i j) s.toks) {s with toks:=s.toks+1}->wpAny (model X.prog X.w) X.A (f (.int i t) (.int j u)) Q E s):
  OpR X f (rI C λi j=>.int (g i j)):=by
 intro pins s σ H x y v u Q I rx ry h;obtain⟨i,j,rfl,rfl,hc,q⟩:=h;obtain⟨t,rfl⟩:=rx;obtain⟨t',rfl⟩:=ry;exact rule i j t t' s _ _ hc ⟨.int (g i j),H,I.tok _,⟨_,rfl⟩,q⟩
def opI0{f:Value->Value->Sem Value}{g:Int->Int->Int}
  (rule: ∀(i j:Int)(t u:Tok)(s:Shared)(Q:VP)(E:VP),Q (.int (g i j) s.toks) {s with toks:=s.toks+1}->wpAny (model X.prog X.w) X.A (f (.int i t) (.int j u)) Q E s):
  OpR X f (rI0 λi j=>.int (g i j)):=by
 intro pins s σ H x y v u Q I rx ry h;obtain⟨i,j,rfl,rfl,q⟩:=h;obtain⟨t,rfl⟩:=rx;obtain⟨t',rfl⟩:=ry;exact rule i j t t' s _ _ ⟨.int (g i j),H,I.tok _,⟨_,rfl⟩,q⟩
def CMul(i j:Int):Prop:=(-(2 ^ 64)<i/\i<2 ^ 64)\/(-(2 ^ 64)<j/\j<2 ^ 64)
def CMul.ok{i j:Int}(h:CMul i j):IntMulOk i j:=by
 rcases h with⟨h1,h2⟩|⟨h1,h2⟩
 ·exact .of_left (intBits_le_64 h1 h2)
 ·exact .of_right (intBits_le_64 h1 h2)
def yQC:OpR X (binaryOp .Add) (rI0 λi j=>.int (i+j)):=opI0 λ_ _ _ _ _ _ _ q=>add_int q
def yQD:OpR X (binaryOp .Sub) (rI0 λi j=>.int (i - j)):=opI0 λ_ _ _ _ _ _ _ q=>sub_int q
def yQE:OpR X (binaryOp .Mod) (rI (λ_ j=>0<j) λi j=>.int (i % j)):=opI λi j _ _ _ _ _ hc q=>by have h1:(0:Int)<j:=hc;exact mod_int' (by omega) (by rw [Int.fmod_eq_emod_of_nonneg i (by omega)];exact q)
def unI{f:Value->Sem Value}{g:Int->Int}
  (rule: ∀(i:Int)(t:Tok)(s:Shared)(Q:VP)(E:VP),Q (.int (g i) s.toks) {s with toks:=s.toks+1}->wpAny (model X.prog X.w) X.A (f (.int i t)) Q E s):
  UnR X f (rU λi=>.int (g i)):=by
 intro pins s σ H x v Q I rx h;obtain⟨i,rfl,q⟩:=h;obtain⟨t,rfl⟩:=rx;exact rule i t s _ _ ⟨.int (g i),H,I.tok _,⟨_,rfl⟩,q⟩
def yQF:UnR X (unaryOp .USub) (rU λi=>.int (-i)):=unI λ_ _ _ _ _ q=>neg_int q
end
section
variable{X:Cx}{a b c:Expr}{ta tb tc:TE}{pos:Pos}
def zYH{pins:Ba}{σ:St}{H:Hp}{s:Shared}{Q:VK}{k k':Bool}(I:Inv X pins σ H s)(q:Q (.bl k) H)(e:k=k'):EP X pins σ Q (.bool k') s:=by subst e;exact⟨.bl k,H,I,rfl,q⟩
def yDO:OpR X (compareOp .In) (λx y H Q=> ∃i j,x=.str i/\y=.str j/\Q (.bl (!(Builtin.Str.occurrences j i 0 j.length 1).isEmpty)) H):=by intro pins s σ H x y v u Q I rx ry h;obtain⟨i,j,rfl,rfl,q⟩:=h;obtain⟨t,rfl⟩:=rx;obtain⟨t',rfl⟩:=ry;exact in_str (zYH I q rfl)
def yFV:OpR X (compareOp .Is) (λx y H Q=>y=.non/\Q (.bl (decide (x=.non))) H):=by
 intro pins s σ H x y v u Q I rx ry h;obtain⟨rfl,q⟩:=h;cases ry;refine is_none_gen (zYH I q ?_)
 cases x<;>first
  |(cases rx;rfl)
  |(obtain⟨t,rfl⟩:=rx;rfl)
def zSY:OpR X (compareOp .NotIn) (λx y H Q=> ∃i j,x=.str i/\y=.str j/\Q (.bl (!(!(Builtin.Str.occurrences j i 0 j.length 1).isEmpty))) H):=by intro pins s σ H x y v u Q I rx ry h;obtain⟨i,j,rfl,rfl,q⟩:=h;obtain⟨t,rfl⟩:=rx;obtain⟨t',rfl⟩:=ry;exact notIn_str (zYH I q rfl)
def OpR.or{f:Value->Value->Sem Value}{r r':R2}(h:OpR X f r)(h':OpR X f r'):OpR X f (λx y H Q=>r x y H Q\/r' x y H Q):=by
 intro pins s σ H x y v u Q I rx ry q;rcases q with q|q
 ·exact h pins s σ H x y v u Q I rx ry q
 ·exact h' pins s σ H x y v u Q I rx ry q
def yFW(b:Expr){op:CmpOp}(h:op≠.In:=by decide)(h2:op≠.NotIn:=by decide):behindInMarks op b=false:=by
 have e1:(op==CmpOp.In)=false:=by cases op<;>first |rfl|exact absurd rfl h
 have e2:(op==CmpOp.NotIn)=false:=by cases op<;>first |rfl|exact absurd rfl h2
 cases b<;>simp [behindInMarks,e1,e2]
def yLF{op:CmpOp}{r:R2}(ho:OpR X (compareOp op) r)(ha:PE X a ta)(hb:PE X b tb)(hm:behindInMarks op b=false):PE X (.Compare a [op] [b] pos) (tOp r ta tb):=by intro pins s σ H Q I h;exact wpAny_Compare1 (binT ha hb I h λv u s2 x y H2 I2 rx ry q=>ho pins s2 σ H2 x y v u Q I2 rx ry q) hm
def tTest(t:TE):TT:=λσ H Q=>t σ H λx H'=> ∃k,x=.bl k/\Q k H'
def yLG{op:CmpOp}{r:R2}(ho:OpR X (compareOp op) r)(ha:PE X a ta)(hb:PE X b tb)(hm:behindInMarks op b=false):PT X (.Compare a [op] [b] pos) (tTest (tOp r ta tb)):=by
 intro pins s σ H Q I h
 refine wpAny_isTrue_Compare1 (thn (ha pins s σ H _ I h) λv s1 ⟨x,H1,I1,r1,q1⟩=>thn (hb pins s1 σ H1 _ I1 q1) λu s2 ⟨y,H2,I2,r2,q2⟩=>
  thn (ho pins s2 σ H2 x y v u _ I2 r1 r2 q2) λc s3 ⟨z,H3,I3,r3,k,e,q3⟩=>?_) hm
 subst e;cases r3;exact wpAny_truthy_bool ⟨H3,I3,q3⟩
def TruV(K:Be)(x:V)(H:Hp)(k:Bool):Prop:=
 match x with
 |.non=>k=false
 |.bl b=>k=b
 |.int i=>k=(i !=0)
 |.str y=>y.length<=sizeLine/\k=((y.length:Int) !=0)
 |.byt y=>y.size<=sizeLine/\k=((y.size:Int) !=0)
 |.ref p=>(∃xs,SqL K H p xs/\k= !xs.isEmpty)\/(∃xs,SqT K H p xs/\k= !xs.isEmpty)\/ ∃kvs,H p=some (.dK kvs)/\k= !kvs.isEmpty
 |_=>False
theorem zYI{κ:Type}{kvs:List (κ×V)}{vs:List (κ×Value)}(r:KV kvs vs):(!vs.isEmpty)= !kvs.isEmpty:=by cases r<;>rfl
def zOE{xs:List V}{its:Ae}(r:Vals xs its):(!its.toArray.isEmpty)= !xs.isEmpty:=by cases r<;>simp
def zJS:(sizeLine:Nat)<2 ^ 63:=by rw [sizeLine_eq];decide
def yQG:TruR X (λx H Q=> ∃k,TruV X.K x H k/\Q k H):=by
 intro pins s σ H x v Q I rx h;obtain⟨k,e,q⟩:=h;have hl:=zJS;have hs:sizeLine=16777216:=sizeLine_eq
 cases x with
 |non=>
  cases rx;have e':k=false:=e;subst e';exact truthy_none ⟨H,I,q⟩
 |bl b=>
  cases rx;have e':k=b:=e;subst e';exact wpAny_truthy_bool ⟨H,I,q⟩
 |int i=>
  obtain⟨t,rfl⟩:=rx;have e':k=(i !=0):=e;subst e';exact PySem.P.truthy_int ⟨H,I,q⟩
 |str y=>
  obtain⟨t,rfl⟩:=rx;obtain⟨hy,e'⟩:y.length<=sizeLine/\k=((y.length:Int) !=0):=e;subst e';exact PySem.P.truthy_str (by omega) ⟨H,I.tok _,q⟩
 |byt y=>
  obtain⟨t,rfl⟩:=rx;obtain⟨hy,e'⟩:y.size<=sizeLine/\k=((y.size:Int) !=0):=e;subst e';exact PySem.W.truthy_bytes (by omega) ⟨H,I.tok _,q⟩
 |ref p=>
  cases rx;have e':(∃xs,SqL X.K H p xs/\k= !xs.isEmpty)\/(∃xs,SqT X.K H p xs/\k= !xs.isEmpty)\/ ∃kvs,H p=some (.dK kvs)/\k= !kvs.isEmpty:=e;rcases e' with⟨xs,hx,e'⟩|⟨xs,hx,e'⟩|⟨kvs,hx,e'⟩
  ·subst e';obtain⟨its,r,pl,hz⟩:=I.list hx;have hlen:=r.length;exact wpAny_truthy_list pl.isList (by simp only [sA];omega) ⟨H,I.tok _,by rw [zOE r];exact q⟩
  ·subst e';obtain⟨its,r,pl,hz⟩:=I.tuple hx;have hlen:=r.length;exact truthy_tuple pl (by simp only [sA];omega) ⟨H,I.tok _,by rw [zOE r];exact q⟩
  ·subst e';obtain⟨hz,hS,vs,r,m⟩:kvs.length<=sizeLine/\(p==sysModules)=false/\ ∃vs,KV kvs vs/\s.heap.DictOf (yP X.prog X.w) p vs:=I.hok p _ hx;have hlen:kvs.length=vs.length:=Paired.length r;exact wpAny_truthy_dict hS m (by omega) ⟨H,I.tok _,by rw [zYI r];exact q⟩
 |_=>exact(show False from e).elim
def yFX(ha:PE X a ta)(he: ∀whole,isTrue a X.env whole=(do let v <-whole;standAt a.pos;holding [v] (truthy v))):
  PT X a (λσ H Q=>ta σ H λx H'=> ∃k,TruV X.K x H' k/\Q k H'):=by
 intro pins s σ H Q I h;exact isTrue_plain (thn (ha pins s σ H _ I h) λv s1 ⟨x,H1,I1,r1,q1⟩=>yQG pins s1 σ H1 x v Q I1 r1 q1) (he _)
def zYJ:OpR X (binaryOp .Add) (λx y H Q=> ∃i j,x=.str i/\y=.str j/\i.length+j.length<=sizeLine/\Q (.str (i++j)) H):=by intro pins s σ H x y v u Q I rx ry h;obtain⟨i,j,rfl,rfl,hz,q⟩:=h;obtain⟨t,rfl⟩:=rx;obtain⟨t',rfl⟩:=ry;exact add_str (λt' tk=>⟨.str (i++j),H,I.tok _,⟨_,rfl⟩,q⟩) hz
def vals1{x:V}{us:Ae}(r:Vals [x] us): ∃u,us=[u]/\RelV x u:=by
 cases r with
 |cons r1 r2=>cases r2;exact⟨_,rfl,r1⟩
def vals2{x y:V}{us:Ae}(r:Vals [x,y] us): ∃u w',us=[u,w']/\RelV x u/\RelV y w':=by
 cases r with
 |cons r1 r2=>
  cases r2 with
  |cons r3 r4=>cases r4;exact⟨_,_,rfl,r1,r3⟩
def zRN(hc:X.calm=true):CallR X (.builtin "min") (λxs H Q=> ∃i j,xs=[.int i,.int j]/\Q (.int (if j<i then j else i)) H):=by
 intro pins s σ H xs us Q I r h;obtain⟨i,j,rfl,q⟩:=h;obtain⟨u,w',rfl,⟨t,rfl⟩,⟨t',rfl⟩⟩:=vals2 r;refine min_two_ints (I.ok.hd hc) λh' tk k=>⟨_,H,I.kept k,?_,q⟩
 by_cases hj:j<i
 ·rw [iP hj,iP hj];exact⟨_,rfl⟩
 ·rw [iN hj,iN hj];exact⟨_,rfl⟩
def yDP:CallR X (.type "int") (λxs H Q=>(∃i,xs=[.int i]/\Q (.int i) H)\/ ∃k,xs=[.bl k]/\Q (.int (if k then 1 else 0)) H):=by
 intro pins s σ H xs us Q I r h;rcases h with⟨i,rfl,q⟩|⟨k,rfl,q⟩
 ·obtain⟨u,rfl,t,rfl⟩:=vals1 r;exact call_int_int ⟨.int i,H,I,⟨_,rfl⟩,q⟩
 ·obtain⟨u,rfl,r1⟩:=vals1 r;cases r1;exact call_int_bool ⟨.int (if k then 1 else 0),H,I.tok _,⟨_,rfl⟩,q⟩
end
structure Cls(K:Be)(C:Addr):Prop where
 pg:PySem.W.plainGet K C Str.empty=true
 hd:PySem.W.hasDictIn K C=true
 po:PySem.W.plainOver K C=true
 sa:PySem.W.findIn K (.ref C) "__setattr__"=some (some (.builtin "object.__setattr__"))
section
variable{X:Cx}{pins:Ba}{σ:St}{H:Hp}{s:Shared}{A:Around}{E:VP}{Q:VP}{c:Value}{b:Bool}
inductive zKO(K:Be)(H:Hp):V->Value->Prop where
 |non:zKO K H .non (.type "NoneType")
 |bl (x:Bool):zKO K H (.bl x) (.type "bool")
 |int (i:Int):zKO K H (.int i) (.type "int")
 |str (x:Str):zKO K H (.str x) (.type "str")
 |flt (x:UInt64):zKO K H (.flt x) (.type "float")
 |lst {a:Addr} {xs:List V} (e:H a=some (.lst xs)):zKO K H (.ref a) (.type "list")
 |frz {a:Addr} {o:Obj} {xs:List V} (e:H a=some (.frz o (.lst xs))):zKO K H (.ref a) (.type "list")
 |tup {a:Addr} {xs:List V} (e:H a=some (.tup xs)):zKO K H (.ref a) (.type "tuple")
 |dK {a:Addr} {kvs:List (Key×V)} (e:H a=some (.dK kvs)):zKO K H (.ref a) (.type "dict")
 |dT {a:Addr} {kvs:List (List Key×V)} (e:H a=some (.dT kvs)):zKO K H (.ref a) (.type "dict")
 |ins {a C dx:Addr} {fs:List (Str×V)} (e:H a=some (.ins C dx fs)) (cl:Cls K C) (ha:PySem.W.findIn K (.ref C) "__class__"=some (some (.builtin "object.__class__")))
   (hn:PySem.W.specialIn K (.builtin "object.__class__") "__get__"=some (some (.builtin "getset_descriptor.__get__"))) (htk:PySem.W.takesIn K (.builtin "object.__class__")=some true)
   (hm:PySem.W.mroIn K C (.type "object")=some true):zKO K H (.ref a) (.ref C)
end
structure Room(k:Nat)(A:Around):Prop where
 hd:A.handled=none
 dp:A.depth+3 * k+5<recursionLimit
 un:A.units+16 * k+200<cLine
def Room.mono{j k:Nat}{A:Around}(r:Room k A)(h:j<=k):Room j A:=⟨r.hd,by have:=r.dp;omega,by have:=r.un;omega⟩
def Room.deeper{k:Nat}{A:Around}(r:Room (k+1) A)(env:Env):Room k (A.deeper env):=
 ⟨r.hd,by have:=r.dp;show A.depth+1+3 * k+5<_;omega,by have:=r.un;show A.units+3+16 * k+200<_;omega⟩
def Room.in1{k:Nat}{A:Around}(r:Room (k+1) A):Room k A.in1:=
 ⟨r.hd,by have:=r.dp;show A.depth+3 * k+5<_;omega,by have:=r.un;show A.units+1+16 * k+200<_;omega⟩
def Room.depth{k:Nat}{A:Around}(r:Room k A):A.depth<recursionLimit:=by have:=r.dp;omega
def Room.units{k:Nat}{A:Around}(r:Room k A):A.units+64<cLine:=by have:=r.un;omega
def tNil:TA:=λ_ H Q=>Q [] H
def tCons(ta:TE)(tr:TA):TA:=λσ H Q=>ta σ H λx H1=>tr σ H1 λxs H2=>Q (x::xs) H2
section
variable{X:Cx}{e:Expr}{es:Bd}{te:TE}{t:TA}{pos:Pos}
def yFY:PA X [] tNil:=λ_ _ _ _ H Q I h=>Calls.spliced_nil ⟨[],H,I,.nil,h⟩
def yAL(ha:PE X e te)(hr:PA X es t)(hs:starEach (e::es) X.env=(false,eval e X.env)::starEach es X.env:=by rfl):PA X (e::es) (tCons te t):=by intro pos pins s σ H Q I h;rw [hs];show wpAny _ _ (spliced ((false,eval e X.env)::backTo pos (starEach es X.env))) _ _ s;refine Calls.spliced_cons (thn (ha pins s σ H _ I h) λu s1 ⟨x,H1,I1,r1,q1⟩=>?_);exact thn (hr pos pins s1 σ H1 _ I1 q1) λus s2 ⟨xs,H2,I2,r2,q2⟩=>⟨x::xs,H2,I2,.cons r1 r2,q2⟩
def tTup(t:TA):TE:=λσ H Q=>t σ H λxs H1=>xs.length<=sizeLine/\ ∀p,H1 p=none->Q (.ref p) (upd H1 p (.tup xs))
def tLst(t:TA):TE:=λσ H Q=>t σ H λxs H1=>xs.length<=sizeLine/\ ∀p,H1 p=none->Q (.ref p) (upd H1 p (.lst xs))
def yQH{x1}(h:PA X es t):PE X (.Tuple es x1 pos) (tTup t):=by intro pins s σ H Q I hq;refine wpAny_Tuple_spliced (thn (h pos pins s σ H _ I hq) λus s1 ⟨xs,H1,I1,r,z,q⟩=>⟨by rw [<-r.length];exact z,?_⟩);have hf:H1 s1.heap.objs.size=none:=I1.hok.fresh (le_refl _);refine⟨.ref s1.heap.objs.size,upd H1 s1.heap.objs.size (.tup xs),I1.laid (t':=s1.toks) (λb u e=>hP0 _ e) (le_refl _) ?_,rfl,q _ hf⟩;exact⟨z,us,r,⟨_,Heap.get?_push_size _ rfl,rfl,_,rfl⟩⟩
def yQI(h:PA X es t):PE X (.List es pos) (tLst t):=by intro pins s σ H Q I hq;refine wpAny_List_spliced (thn (h pos pins s σ H _ I hq) λus s1 ⟨xs,H1,I1,r,z,q⟩=>⟨by rw [<-r.length];exact z,?_⟩);have hf:H1 s1.heap.objs.size=none:=I1.hok.fresh (le_refl _);refine⟨.ref s1.heap.objs.size,upd H1 s1.heap.objs.size (.lst xs),I1.laid (t':=s1.toks) (λb u e=>hP0 _ e) (le_refl _) ?_,rfl,q _ hf⟩;exact⟨z,us,0,r,Heap.get?_push_size _ rfl⟩
end
abbrev Sp:=List V->Hp->VK->XK->Prop
abbrev CXT:=List Env->Hp->Shared->XK->VP
structure Env0(P:Program)(w:World)(K:Be)(mg:Aj)(base:Heap)(A:Around)(outer:List Env)(s:Shared)(H:Hp):Prop where
 frames:A.frames=some outer
 mod:Mod K mg base
 bs: ∀b o,base.get? b=some o->s.heap.get? b=some o/\H b=none
 bsz:base.objs.size<=s.heap.objs.size
 funs:s.heap.FunFrames base outer
 frf: ∀b∈frs outer,H b=none
 hok:HOk P w H s.heap
 bare:AllBare s.gens
def CE(outer:List Env)(P:Program)(w:World)(H:Hp)(s:Shared)(Q:VK)(u:Value)(s':Shared):Prop:=
 ∃v H',s'.os=s.os/\AllBare s'.gens/\Un (frs outer) [] H H' s.heap s'.heap/\HOk P w H' s'.heap/\RelV v u/\Q v H'
def CR(CX:CXT)(outer:List Env)(P:Program)(w:World)(H:Hp)(s:Shared)(Q:VK)(E:XK)(r:Result)(s':Shared):Prop:=
 match r with
 |.ok (.ret u)=>CE outer P w H s Q u s'
 |.ok _=>False
 |.error e=>CX outer H s E e s'
structure FnOk(P:Program)(w:World)(K:Be)(mg:Aj)(base:Heap)(CX:CXT)(k:Nat)(f:Addr)(fd:FuncData)(ps:Ai)(sp:Sp):Prop where
 len: ∀vs H Q E,sp vs H Q E->vs.length=ps.length
 run: ∀(A:Around)(outer:List Env)(s:Shared)(H:Hp)(args:Args)(us:Ae)(vs:List V)(Q:VK)(E:XK),Room k A->Env0 P w K mg base A outer s H->BindsTo s fd args (ps.zip us)->Vals vs us->sp vs H Q E->
  codeAny (model P w) A (.call (.ref f) args) (CR CX outer P w H s Q E) s
def FnOk.imp{P:Program}{w:World}{K:Be}{mg:Aj}{base:Heap}{CX:CXT}{k:Nat}{f:Addr}{fd:FuncData}{ps:Ai}{sp sp':Sp}(F:FnOk P w K mg base CX k f fd ps sp)
  (h: ∀vs H Q E,sp' vs H Q E->sp vs H Q E):FnOk P w K mg base CX k f fd ps sp':=
 ⟨λvs H Q E q=>F.len vs H Q E (h _ _ _ _ q),λA outer s H args us vs Q E hr he hb hv hs=>F.run A outer s H args us vs Q E hr he hb hv (h _ _ _ _ hs)⟩
def Env0.in1{P:Program}{w:World}{K:Be}{mg:Aj}{base:Heap}{A:Around}{outer:List Env}{s:Shared}{H:Hp}(e:Env0 P w K mg base A outer s H):
  Env0 P w K mg base A.in1 outer s H:=⟨e.frames,e.mod,e.bs,e.bsz,e.funs,e.frf,e.hok,e.bare⟩
section
variable{X:Cx}{pins:Ba}{σ:St}{H:Hp}{s s':Shared}
def Inv.env0(I:Inv X pins σ H s):Env0 X.prog X.w X.K X.mg X.base X.A X.stack s H:=
 ⟨I.ok.frames,I.ok.mod,I.bs,le_trans I.ok.bsz I.sz,I.stack,I.stkFree,I.hok,I.bare⟩
def Inv.after{Q:VK}{u:Value}(I:Inv X pins σ H s)(h:CE X.stack X.prog X.w H s Q u s'):EP X pins σ Q u s':=by obtain⟨v,H',os,bare,un,hok,r,q⟩:=h;obtain⟨hh,g,d,t,os'⟩:=s';obtain rfl:os'=s.os:=os;exact⟨v,H',I.call (h':=hh) (g':=g) (d':=d) (t':=t) (ch:=[]) un hok bare (λb z=>absurd z (by simp)),r,q⟩
end
def tCall(sp:Sp)(dvs:List V)(E:XK)(t:TA):TE:=λσ H Q=>t σ H λvs H1=>sp (vs++dvs) H1 Q E
def Binds(K:Be)(fd:FuncData)(ps:Ai)(ds:Ae):Prop:=
 ∀(s:Shared)(us:Ae),K.In s.heap->(us++ds).length=ps.length->BindsTo s fd ⟨us,[]⟩ (ps.zip (us++ds))
def Binds.all{K:Be}{fd:FuncData}{ps:Ai}(h: ∀us:List Value,us.length=ps.length->bindArgs fd ⟨us,[]⟩=pure (ps.zip us)):Binds K fd ps []:=λs us _ hl=>by rw [aN]at hl ⊢;exact .of_eq (h us hl)
def zYK(CX:CXT)(X:Cx)(E:XK):Prop:= ∀(pins:Ba)(σ:St)(H:Hp)(s:Shared)(e:Value)(s':Shared),Inv X pins σ H s->CX X.stack H s E e s'->X.xe e s'
section
variable{X:Cx}{CX:CXT}{k:Nat}{f C:Addr}{fd:FuncData}{ps:Ai}{sp:Sp}{dvs:List V}{ds:Ae}{E:XK}{x m:Str}{p pos apos:Pos}{e o:Expr}{es:Bd}{ta:TE}{t:TA}
def yQJ{pins:Ba}{σ:St}{H:Hp}{s:Shared}{Q:VK}{us:Ae}{vs:List V}(F:FnOk X.prog X.w X.K X.mg X.base CX k f fd ps sp)(hr:Room k X.A)(hb:Binds X.K fd ps ds)(hd:Vals dvs ds)(hx:zYK CX X E)
  (I:Inv X pins σ H s) (r:Vals vs us) (h:sp (vs++dvs) H Q E):wpAny (model X.prog X.w) X.A (call (.ref f) us) (EP X pins σ Q) X.xe s:=by
 have r2:Vals (vs++dvs) (us++ds):=r.append hd;have hl:(us++ds).length=ps.length:=by rw [<-r2.length];exact F.len _ _ _ _ h
 refine wpAny_call (codeAny_mono (F.run X.A X.stack s H ⟨us,[]⟩ (us++ds) (vs++dvs) Q E hr I.env0 (hb s us I.kIn hl) r2 h) λr s' hq=>?_)
 cases r with
 |error e=>exact hx pins σ H s e s' I hq
 |ok fl=>
  cases fl with
  |ret u=>exact I.after hq
  |next=>exact False.elim hq
  |brk=>exact False.elim hq
  |cont=>exact False.elim hq
def yLH(F:FnOk X.prog X.w X.K X.mg X.base CX k f fd ps sp)(hr:Room k X.A)(hg:Gl X x)(hm:X.mg x=some (.ref f))(hk:PySem.W.keepIn X.K (.ref f)=true)(hb:Binds X.K fd ps ds)(hd:Vals dvs ds)(hx:zYK CX X E)
  (ha:PA X (e::es) t) (hdb:(x==("__debug__":Str))=false:=by decide) (he:starEach (e::es) X.env=(false,eval e X.env)::starEach es X.env:=by rfl) (hpl:(backTo pos (starEach es X.env)).any (·.1)=false:=by rfl):
  PE X (.Call (.Name x p) (e::es) [] pos) (tCall sp dvs E t):=by
 intro pins s σ H Q I h;refine wpAny_Call_Name_kw (yKX I hg hm ?_ hdb);refine PySem.W.callWith_K (h₀:=X.base) I.ok.mod.kin hk (thn (ha pos pins s σ H _ I h) λus s1 ⟨vs,H1,I1,r,q⟩=>⟨I1.kIn,?_⟩) he hpl;exact yQJ F hr hb hd hx I1 r q
end
structure FnScope(N P:Ai)(sc:Scope):Prop where
 kind:sc.kind=.function
 co:sc.isCoroutine=false
 gen:sc.isGenerator=false
 nd:N.Nodup
 pre:N.take P.length=P
 par: ∀x∈P,sc.names.lookup x=some .local\/sc.names.lookup x=some .cell
 nofree: ∀y∈sc.names,y.2≠.free
def fsK{N P:Ai}{sc:Scope}(h:N.Nodup/\N.take P.length=P/\(∀x∈P,sc.names.lookup x=some .local\/sc.names.lookup x=some .cell)/\∀y∈sc.names,y.2≠.free)(a:sc.kind=.function:=by rfl)(b:sc.isCoroutine=false:=by rfl)(c:sc.isGenerator=false:=by rfl):FnScope N P sc:=⟨a,b,c,h.1,h.2.1,h.2.2.1,h.2.2.2⟩
theorem zRO{kindOf:Str->Option NameKind}{x:Str}: ∀{binds:List (Str×Value)}{m:Aj},(∀v,(x,v)∉binds)->bindL kindOf binds m x=m x
 |[],_,_=>rfl
 |(n,v)::r,m,h=>by
  unfold bindL;rw [zRO λw hw=>h w (mO _ hw)];split
  ·have:x≠n:=by rintro rfl;exact h v mF0
   simp [this]
  ·rfl
theorem zRP{kindOf:Str->Option NameKind}{x:Str}: ∀{binds:List (Str×Value)}{m:Aj},(∀v,(x,v)∉binds)->bindC kindOf binds m x=m x
 |[],_,_=>rfl
 |(n,v)::r,m,h=>by
  unfold bindC;rw [zRP λw hw=>h w (mO _ hw)];split
  ·rfl
  ·have:x≠n:=by rintro rfl;exact h v mF0
   simp [this]
theorem zRQ{kindOf:Str->Option NameKind}{x:Str}{v:Value}: ∀{P:Ai}{vs:Ae}{i:Nat}{m:Aj},P.Nodup->P[i]? =some x->vs[i]? =some v->kindOf x=some .local->
  bindL kindOf (P.zip vs) m x=some v
 |[],_,_,_,_,h,_,_=>by simp at h
 |_::_,[],_,_,_,_,h,_=>by simp at h
 |p::P,w::vs,0,m,nd,h1,h2,hk=>by simp at h1 h2;subst h1;subst h2;show bindL kindOf ((p,w)::P.zip vs) m p=_;unfold bindL;rw [zRO λv hv=>(nodup_cons.mp nd).1 (of_mem_zip hv).1,iP hk];simp
 |p::P,w::vs,i+1,m,nd,h1,h2,hk=>by show bindL kindOf ((p,w)::P.zip vs) m x=_;unfold bindL;exact zRQ (i:=i) (nodup_cons.mp nd).2 (by simpa using h1) (by simpa using h2) hk
theorem zRR{kindOf:Str->Option NameKind}{x:Str}{v:Value}: ∀{P:Ai}{vs:Ae}{i:Nat}{m:Aj},P.Nodup->P[i]? =some x->vs[i]? =some v->kindOf x≠some .local->
  bindC kindOf (P.zip vs) m x=some v
 |[],_,_,_,_,h,_,_=>by simp at h
 |_::_,[],_,_,_,_,h,_=>by simp at h
 |p::P,w::vs,0,m,nd,h1,h2,hk=>by simp at h1 h2;subst h1;subst h2;show bindC kindOf ((p,w)::P.zip vs) m p=_;unfold bindC;rw [zRP λv hv=>(nodup_cons.mp nd).1 (of_mem_zip hv).1,iN hk];simp
 |p::P,w::vs,i+1,m,nd,h1,h2,hk=>by show bindC kindOf ((p,w)::P.zip vs) m x=_;unfold bindC;exact zRR (i:=i) (nodup_cons.mp nd).2 (by simpa using h1) (by simpa using h2) hk
def start(N:Ai)(vs:List V):St:=vs.map some++List.replicate (N.length - vs.length) none
def zYL(CX:CXT)(P:Program)(w:World)(K:Be)(mg:Aj)(base:Heap)(N:Ai)(qual:Str)(scope:Scope)(f:Addr)(cd:Value)(A:Around)(outer:List Env)(s:Shared)(H:Hp)(E:XK):Cx where
 prog:=P
 w:=w
 K:=K
 mg:=mg
 base:=base
 A:=A.deeper (envOfC qual scope s.heap.objs.size f cd)
 N:=N
 s₀:=s
 H₀:=H
 env:=envOfC qual scope s.heap.objs.size f cd
 outer:=outer
 stack:=envOfC qual scope s.heap.objs.size f cd::outer
 ex:=[]
 calm:=true
 fn:=λ_=>true
 pn:=[]
 xe:=λe s'=>wpAny (model P w) (A.deeper (envOfC qual scope s.heap.objs.size f cd)) (leaving (envOfC qual scope s.heap.objs.size f cd) e) (λ_ s''=>CX outer H s E e s'') (λe' s''=>CX outer H s E e' s'') s'
def zVJ{sc:Scope}{n:Nat}{x:Str}(h:sc.names.lookup x=some .cell): ∃c,(cellsFrom n sc.names []).lookup x=some c:=by have q:=PySem.W.cellsFrom_some sc.names n [] (.inl h);exact Option.isSome_iff_exists.mp q
def yDQ{CX:CXT}{P:Program}{w:World}{K:Be}{mg:Aj}{base:Heap}{N ps:Ai}{qual:Str}{scope:Scope}{f:Addr}{cd:Value}{A:Around}{outer:List Env}{s s1:Shared}{H:Hp}{E:XK}{us:Ae}{vs:List V}
  (S:FnScope N ps scope) (hd:A.handled=none) (e0:Env0 P w K mg base A outer s H) (hl:vs.length=ps.length) (r:Vals vs us)
  (x:InCallC s s.heap.objs.size (bindL (envOfC qual scope s.heap.objs.size f cd).kindOf (ps.zip us) λ_=>none) (cellsFrom (s.heap.objs.size+1) scope.names []) (bindC (envOfC qual scope s.heap.objs.size f cd).kindOf (ps.zip us) λ_=>none) s1):
  Inv (zYL CX P w K mg base N qual scope f cd A outer s H E) [] (start N vs) H s1:=by
 have hpl:ps.length<=N.length:=by have:=congrArg List.length S.pre;rw [lT]at this;omega
 obtain⟨h1,tk,rfl,hk⟩:=x.done;have noA: ∀b:Addr,b∉(zYL CX P w K mg base N qual scope f cd A outer s H E).ex:=λb z=>absurd (show b∈([]:Ah)from z) (by simp)
 refine⟨⟨e0.mod,S.kind,rfl,rfl,le_refl _,λy z c h1 h2=>?_,λy hy=>?_,λy c _ h=>?_,λ_=>hd,Around.frames_deeper e0.frames,.inr ⟨rfl,rfl⟩,λb z=>absurd z (noA b),e0.bs,e0.bsz,λb _ _=>noA b,λb z=>absurd z (noA b),e0.funs,e0.frf⟩,
  rfl,e0.bare,Un.kept hk,⟨_,x.toInCall.ns,λi y v h1 h2 h3=>?_⟩,λy c h=>⟨_,x.cell y c h⟩,e0.hok.fresh (le_refl _),λy c h=>?_,λp hp=>absurd (show p∈([]:Ba)from hp) (by simp),e0.hok.kept hk,?_⟩
 ·exact name_of_addr x.apart (PySem.mem_of_lookup h1) (PySem.mem_of_lookup h2)
 ·have hy:scope.names.lookup y=some .cell\/scope.names.lookup y=some .free:=hy;rcases hy with hy|hy
  ·exact zVJ hy
  ·exact absurd rfl (S.nofree _ (PySem.mem_of_lookup hy))
 ·exact le_of_lt (x.above y c (PySem.mem_of_lookup h))
 ·have hi:i<vs.length:=by
   unfold start at h2;by_cases hi:i<vs.length
   ·exact hi
   ·rw [getElem?_append_right (by simpa using hi)]at h2;rw [List.getElem?_replicate]at h2;split at h2<;>cases h2
  have ha:vs[i]? =some v:=by
   unfold start at h2;rw [getElem?_append_left (by simpa using hi),getElem?_map]at h2
   cases e:vs[i]? with
   |none=>rw [e]at h2;cases h2
   |some a=>rw [e]at h2;cases h2;rfl
  obtain⟨u,hu,rv⟩:=r.get ha;have hp:ps[i]? =some y:=by rw [<-S.pre,List.getElem?_take_of_lt (by omega)];exact h1
  have ndP:ps.Nodup:=by rw [<-S.pre];exact S.nd.sublist (List.take_sublist _ _)
  refine⟨u,rv,?_⟩;rcases S.par y (mem_of_getElem? hp)with k|k
  ·exact .inl ⟨k,zRQ ndP hp hu k⟩
  ·obtain⟨c,e⟩:=zVJ (n:=s.heap.objs.size+1) k;refine .inr ⟨.inl k,c,e,?_⟩;have q:=x.cell y c e;rw [zRR ndP hp hu (by show scope.names.lookup y≠_;rw [k];decide)]at q;exact q
 ·exact e0.hok.fresh (le_of_lt (x.above y c (PySem.mem_of_lookup h)))
 ·unfold start;show _=N.length;rw [lA,lM,length_replicate];omega
def fn_of{CX:CXT}{P:Program}{w:World}{K:Be}{mg:Aj}{base:Heap}{k:Nat}{f:Addr}{name qual:Str}{params:Arguments}{body:List Stmt}{scope:Scope}{dV kV doc pm cdv ct oc:Value}{an od:Option Addr}
  {osl:Array (Option Value)} {N ps:Ai} {sp:Sp} (lk:K.lookup f=some ⟨oc,od,.func (PySem.W.fnOf name qual params body scope dV kV doc pm an cdv ct),osl⟩) (hcd:PySem.W.codeIn K cdv qual=true) (S:FnScope N ps scope)
  (len: ∀vs H Q E,sp vs H Q E->vs.length=ps.length)
  (hbody: ∀(A:Around)(outer:List Env)(s:Shared)(H:Hp)(vs:List V)(Q:VK)(E:XK),Room k (A.deeper (envOfC qual scope s.heap.objs.size f cdv))->sp vs H Q E->
   ∃t,PSs (zYL CX P w K mg base N qual scope f cdv A outer s H E) body t/\t {nx:=λ_ H'=>Q .non H',rt:=Q} (start N vs) H):
  FnOk P w K mg base CX (k+1) f (PySem.W.fnOf name qual params body scope dV kV doc pm an cdv ct) ps sp:=by
 refine⟨len,λA outer s H args us vs Q E hr e0 hb r hsp=>?_⟩;have hl:=len _ _ _ _ hsp;have KX:K.In s.heap:=e0.mod.kin.keeps λb o e=>(e0.bs b o e).1;have lim:s.heap.NoLimit:=e0.mod.nolimit.keeps λb o e=>(e0.bs b o e).1
 have hkind: ∀y∈ps.zip us,scope.names.lookup y.1=some .local\/(scope.names.lookup y.1=some .cell/\((cellsFrom (s.heap.objs.size+1) scope.names []).lookup y.1).isSome=true):=λ⟨n,v⟩ hy=>by
  rcases S.par n (of_mem_zip hy).1 with q|q
  ·exact .inl q
  ·exact .inr ⟨q,PySem.W.cellsFrom_some _ _ _ (.inl q)⟩
 refine codeAny_call_function hr.depth (KX _ _ lk) rfl S.co S.gen rfl (PySem.W.codeRec_of KX hcd) (hb _ _ _ _ ?_);refine wpAny_newFunctionEnv_cells S.kind hkind λenv he s1 x=>?_;subst he;refine⟨lim.keeps x.toInCall.keep,codeAny_func ?_⟩;obtain⟨t,ht,hq⟩:=hbody A outer s H vs Q E (hr.deeper _) hsp;have I:Inv (zYL CX P w K mg base N qual scope f cdv A outer s H E) [] (start N vs) H s1:=yDQ S hr.hd e0 hl r x;refine wpAny_mono (ht [] s1 (start N vs) H _ I hq) (λfl s' hs=>?_) λe s' hs=>hs
 have fin: ∀{σ':St}{H':Hp}{v:V}{u:Value},Inv (zYL CX P w K mg base N qual scope f cdv A outer s H E) [] σ' H' s'->RelV v u->Q v H'->CE outer P w H s Q u s':=
  λ{σ' H' v u} J rv q=>⟨v,H',J.os,J.bare,J.base,J.hok,rv,q⟩
 cases fl with
 |ret u=>
  obtain⟨v,σ',H',J,rv,q⟩:=hs;exact fin J rv q
 |next=>
  obtain⟨σ',H',J,q⟩:=hs;exact fin (v:=V.non) (u:=Value.none) J rfl q
 |brk=>
  obtain⟨_,_,_,q⟩:=hs;exact False.elim q
 |cont=>
  obtain⟨_,_,_,q⟩:=hs;exact False.elim q
section
variable{X:Cx}{x:Str}{p pos:Pos}{e:Expr}{es:Bd}{t:TA}{id T:String}{r:List V->Hp->VK->Prop}
def tCB(r:List V->Hp->VK->Prop)(t:TA):TE:=λσ H Q=>t σ H λvs H1=>r vs H1 Q
def zVK(hc:CallR X (.builtin id) r)(hg:Gl X x)(hm:X.mg x=none)(hv:bootBuiltins x=some (.builtin id))(ha:PA X (e::es) t)(hn:x≠"__name__":=by decide)(hdb:(x==("__debug__":Str))=false:=by decide)
  (he:starEach (e::es) X.env=(false,eval e X.env)::starEach es X.env:=by rfl) (hpl:(backTo pos (starEach es X.env)).any (·.1)=false:=by rfl):PE X (.Call (.Name x p) (e::es) [] pos) (tCB r t):=by
 intro pins s σ H Q I h;refine wpAny_Call_Name_kw (zLG I hg hm hv ?_ hn hdb);exact PyProof.Rows.callWith_builtin1 (thn (ha pos pins s σ H _ I h) λus s1 ⟨vs,H1,I1,r1,q1⟩=>hc pins s1 σ H1 vs us Q I1 r1 q1) he hpl
def zRS(hc:CallR X (.type T) r)(hg:Gl X x)(hm:X.mg x=none)(hv:bootBuiltins x=some (.type T))(ha:PA X (e::es) t)(hn:x≠"__name__":=by decide)(hdb:(x==("__debug__":Str))=false:=by decide)
  (he:starEach (e::es) X.env=(false,eval e X.env)::starEach es X.env:=by rfl) (hpl:(backTo pos (starEach es X.env)).any (·.1)=false:=by rfl):PE X (.Call (.Name x p) (e::es) [] pos) (tCB r t):=by
 intro pins s σ H Q I h;refine wpAny_Call_Name_kw (zLG I hg hm hv ?_ hn hdb);exact PyProof.Rows.callWith_type1 (thn (ha pos pins s σ H _ I h) λus s1 ⟨vs,H1,I1,r1,q1⟩=>hc pins s1 σ H1 vs us Q I1 r1 q1) he hpl
end
end L2
namespace HT
open PySem PyProof.Rows
section
variable{prog:Program}{w:World}{A:Around}{E:VP}{s:Shared}
def cat_tup{t b:Addr}{vs ws:Ae}{Q:VP}(ht:IsTup s.heap t vs.toArray)(hb:IsTup s.heap b ws.toArray)(hv:vs≠[])
  (h1:ws=[]->Q (.ref t) s) (h2:ws≠[]->Q (.ref s.heap.objs.size) {s with heap:=s.heap.push {cls:=.type "tuple",data:=.seq (vs++ws).toArray}})
  (hsz:vs.length+ws.length<=sizeLine):wpAny (model prog w) A (binaryOp .Add (.ref t) (.ref b)) Q E s:=by
 obtain⟨⟨cls,dd,data,sl⟩,ho,hc,n,hd⟩:=id ht;obtain⟨⟨cls2,dd2,data2,sl2⟩,ho2,hc2,n2,hd2⟩:=id hb;simp only at hc hd hc2 hd2;subst hc hd hc2 hd2;have e:vs.toArray++ws.toArray=(vs++ws).toArray:=by simp
 by_cases hw:ws=[]
 ·exact concat_meets ⟨_,ho,rfl⟩ ⟨_,ho2,rfl⟩ noFill_tuple_add seq_tuple_add PySem.F.slot_tuple_add PySem.F.entry_tuple_add (PySem.F.args_tuple_add_2 _ _)
   (tuple_addW1 t b vs.toArray ws.toArray n n2 dd dd2 sl sl2 (by simpa using hv) (by simp [hw])) ⟨ho,ho2,h1 hw⟩
 ·refine concat_meets ⟨_,ho,rfl⟩ ⟨_,ho2,rfl⟩ noFill_tuple_add seq_tuple_add PySem.F.slot_tuple_add PySem.F.entry_tuple_add (PySem.F.args_tuple_add_2 _ _)
   (tuple_addW2 t b vs.toArray ws.toArray n n2 dd dd2 sl sl2 (by simpa using hv) (by simpa using hw) (by rw [sA,sA];exact hsz)) ⟨ho,ho2,?_⟩
  rw [e];exact h2 hw
def sIx(n d:Nat):Option Int->Nat
 |none=>d
 |some v=>if v<0 then(v+(n:Int)).toNat else min v.toNat n
def sIx_nat(n d k:Nat):sIx n d (some (k:Int))=min k n:=by show(if(k:Int)<0 then((k:Int)+(n:Int)).toNat else min (k:Int).toNat n)=min k n;rw [iN (by omega),toNat_natCast]
def sIx_le(n d:Nat)(hd:d<=n)(o:Bc):sIx n d o<=n:=by
 cases o with
 |none=>exact hd
 |some v=>
  show(if v<0 then(v+(n:Int)).toNat else min v.toNat n)<=n;by_cases hv:v<0
  ·rw [iP hv];omega
  ·rw [iN hv];exact Nat.min_le_right _ _
def yAM(v:Int)(n d:Nat):(if v<0 then max (v+(n:Int)) 0 else min v (n:Int))=((sIx n d (some v):Nat):Int):=by
 show(if v<0 then max (v+(n:Int)) 0 else min v (n:Int))=(((if v<0 then(v+(n:Int)).toNat else min v.toNat n):Nat):Int)
 by_cases hv:v<0
 ·simp only [iP hv];omega
 ·simp only [iN hv];omega
def zYM(lo hi:Bc)(n:Nat):Builtin.Slice.sliceAdjust lo hi 1 (n:Int)=(((sIx n 0 lo:Nat):Int),((sIx n n hi:Nat):Int)):=by
 have h1: ¬((1:Int)<0):=by omega
 unfold Builtin.Slice.sliceAdjust;simp only [h1,iF];refine Prod.ext ?_ ?_
 ·cases lo with
  |none=>rfl
  |some v=>exact yAM v n 0
 ·cases hi with
  |none=>rfl
  |some v=>exact yAM v n n
def zYN(i j:Nat):Builtin.Slice.slicePlaces (i:Int) (j:Int) 1=j - i:=by
 unfold Builtin.Slice.slicePlaces;have h1:(1:Int)>0:=by omega
 simp only [h1,if_true,Int.ediv_one];split<;>omega
def zOF{v:Value}{o:Bc}{Q:Option Int->Shared->Prop}(p:IsPart v o)(h:Q o s):wpAny (model prog w) A (Builtin.Slice.slicePartIndex v) Q E s:=by
 cases p with
 |none=>exact slicePart_none h
 |int i t=>exact slicePart_int h
def sliceApplied_gen{sl:Addr}{vl vu:Value}{lo hi:Bc}{n:Nat}{Q:Int×Int×Nat->Shared->Prop}(hs:s.heap.IsSliceOf sl vl vu .none)(pl:IsPart vl lo)(pu:IsPart vu hi)
  (h:Q (((sIx n 0 lo:Nat):Int),1,sIx n n hi - sIx n 0 lo) s):wpAny (model prog w) A (Builtin.Slice.sliceApplied (.ref sl) (pure (n:Int))) Q E s:=by
 obtain⟨os,hos,hcs,hds⟩:=id hs;unfold Builtin.Slice.sliceApplied Builtin.Slice.sliceFields;refine wB0 (wB0 (wpAny_field hos hds (x:=vl) rfl (wB0 (wpAny_field hos hds (x:=vu) rfl (wB0 (wpAny_field hos hds (x:=.none) rfl (wP0 ?_)))))));refine wB0 (slicePart_none ?_);show wpAny _ _ (if((1:Int)==0)=true then _ else _) _ _ s;rw [iN (by decide)];refine wB0 (zOF pl (wB0 (zOF pu (wB0 (wP0 ?_)))));show wpAny _ _ (match Builtin.Slice.sliceAdjust lo hi 1 (n:Int)with |(lo,hi)=>pure (lo,(1:Int),Builtin.Slice.slicePlaces lo hi 1)) _ _ s;rw [zYM lo hi n];show wpAny _ _ (pure (((sIx n 0 lo:Nat):Int),(1:Int),Builtin.Slice.slicePlaces ((sIx n 0 lo:Nat):Int) ((sIx n n hi:Nat):Int) 1)) _ _ s;rw [zYN];exact wP0 h
def yFZ(xs:Ag)(i k:Nat):((List.range k).filterMap λ(m:Nat)=>xs[((i:Int)+(m:Int) * 1).toNat]?).toArray=((xs.toList.drop i).take k).toArray:=by
 have e:(λ(m:Nat)=>xs[((i:Int)+(m:Int) * 1).toNat]?)=λm=>xs[i+m]? :=by
  funext m;have:((i:Int)+(m:Int) * 1).toNat=i+m:=by omega
  rw [this]
 rw [e];have:=pick_run xs i k;rw [List.filterMap_map]at this;have e2:((λx=>xs[x]?)∘λx=>i+x)=λm=>xs[i+m]? :=rfl;rw [e2]at this;rw [this]
def getItem_tuple_cut{t sl:Addr}{items:Ag}{vl vu:Value}{lo hi:Bc}{Q:VP}(ht:IsTup s.heap t items)(hs:s.heap.IsSliceOf sl vl vu .none)(pl:IsPart vl lo)(pu:IsPart vu hi)
  (hw: ¬(sIx items.size 0 lo=0/\sIx items.size items.size hi=items.size))
  (h:Q (.ref s.heap.objs.size) {s with heap:=s.heap.push {cls:=.type "tuple",data:=.seq ((items.toList.drop (sIx items.size 0 lo)).take (sIx items.size items.size hi - sIx items.size 0 lo)).toArray}})
  (hsz:items.size<=sizeLine):wpAny (model prog w) A (getItem (.ref t) (.ref sl)) Q E s:=by
 have htake:sizeOk (.seq ((items.toList.drop (sIx items.size 0 lo)).take (sIx items.size items.size hi - sIx items.size 0 lo)).toArray):=by show((items.toList.drop (sIx items.size 0 lo)).take (sIx items.size items.size hi - sIx items.size 0 lo)).toArray.size<=sizeLine;rw [sA,lT,length_drop,Array.length_toList];omega
 have hj:sIx items.size items.size hi<=items.size:=sIx_le _ _ (le_refl _) hi;obtain⟨os,hos,hcs,hds⟩:=id hs;have hTs:s.TypeIs (.ref sl) "slice":=⟨os,hos,hcs⟩
 unfold getItem
 try with_reducible refine wpAny_holding ?_
 first |refine wB0 (wP0 ?_)|skip
 refine wB0 (wpAny_sequenceKey ht.typeIs (by decide) ?_)
 refine wB0 (wpAny_callSpecial?_slot (name:=Str.ofString "__getitem__") ht.typeIs PyProof.Rows.slot_tuple_getitem
  (wpAny_call_entry PyProof.Rows.slot_tuple_getitem ht.typeIs entry_tuple_getitem ?_ (args_tuple_getitem _ _)))
 show wpAny _ _ (Builtin.Tuple.tupleItemsOf (.ref t) >>= _) _ _ s;refine wB0 (tupleItemsOf_ ht ?_);refine wB0 (wpAny_typeOf hTs ?_);rw [iP (by decide)];refine wB0 (sliceApplied_gen hs pl pu ?_);have hno: ¬((((sIx items.size 0 lo:Nat):Int)==0&&(1:Int)==1&&(sIx items.size items.size hi - sIx items.size 0 lo)==items.size)=true):=by intro q;rw [aE,aE]at q;have q1:((sIx items.size 0 lo:Nat):Int)=0:=eq_of_beq q.1.1;have q2:sIx items.size items.size hi - sIx items.size 0 lo=items.size:=eq_of_beq q.2;exact hw ⟨by omega,by omega⟩
 show wpAny _ _ (if(((sIx items.size 0 lo:Nat):Int)==0&&(1:Int)==1&&(sIx items.size items.size hi - sIx items.size 0 lo)==items.size)=true then _ else _) _ _ s;rw [iN hno,yFZ]
 first
  |exact wB0 (m:=Builtin.Tuple.tupleExact _) (wpAny_newObj_type (wP0 ⟨_,rfl,wP0 h⟩) htake)
  |exact wB0 (m:=Builtin.Tuple.tupleExact _) (wpAny_newObj_type (wB0 (wP0 (wP0 ⟨_,rfl,wP0 h⟩))) htake)
  |exact wB0 (wB0 (m:=Builtin.Tuple.tupleExact _) (wpAny_newObj_type (wP0 (wP0 ⟨_,rfl,wP0 h⟩)) htake))
  |exact wB0 (wB0 (m:=Builtin.Tuple.tupleExact _) (wpAny_newObj_type (wP0 ⟨_,rfl,wP0 h⟩) htake))
end
end HT
namespace L2
open PySem PySem.Spec PyProof.Rows
abbrev TO:=St->Hp->(Option Int->Hp->Prop)->Prop
def PO(X:Cx)(e:Option Expr)(t:TO):Prop:=
 ∀(pins:Ba)(s:Shared)(σ:St)(H:Hp)(Q:Option Int->Hp->Prop),Inv X pins σ H s->t σ H Q->
  wpAny (model X.prog X.w) X.A (evalPart e X.env) (λu s'=> ∃o H',Inv X pins σ H' s'/\IsPart u o/\Q o H') X.xe s
def yLI:TO:=λ_ H Q=>Q none H
def tPart(t:TE):TO:=λσ H Q=>t σ H λx H1=> ∃i,x=.int i/\Q (some i) H1
section
variable{X:Cx}{e:Expr}{te:TE}{lo hi:Option Expr}{tl th:TO}{pos p2:Pos}
def yLJ:PO X none yLI:=by intro pins s σ H Q I h;rw [evalPart_none];exact wP0 ⟨none,H,I,.none,h⟩
def yLK(h:PE X e te):PO X (some e) (tPart te):=by intro pins s σ H Q I hw;rw [evalPart_some];refine thn (h pins s σ H _ I hw) λu s1 ⟨x,H1,I1,r1,q1⟩=>?_;obtain⟨i,rfl,q⟩:=q1;obtain⟨t,rfl⟩:=r1;exact⟨some i,H1,I1,.int i t,q⟩
def SlR(X:Cx)(r:V->Option Int->Option Int->Hp->VK->Prop):Prop:=
 ∀(pins:Ba)(s:Shared)(σ:St)(H:Hp)(x:V)(v vl vu:Value)(lo hi:Bc)(sl:Addr)(Q:VK),Inv X pins σ H s->RelV x v->s.heap.IsSliceOf sl vl vu .none->IsPart vl lo->IsPart vu hi->r x lo hi H Q->
  ∃T id,typeLookup (.type T) "__getitem__"=pure (some (.builtin id))/\s.TypeIs v T/\wpAny (model X.prog X.w) X.A (getItem v (.ref sl)) (EP X pins σ Q) X.xe s
def SlR.or{r r':V->Option Int->Option Int->Hp->VK->Prop}(h:SlR X r)(h':SlR X r'):SlR X (λx lo hi H Q=>r x lo hi H Q\/r' x lo hi H Q):=by
 intro pins s σ H x v vl vu lo hi sl Q I rx hs pl pu q;rcases q with q|q
 ·exact h pins s σ H x v vl vu lo hi sl Q I rx hs pl pu q
 ·exact h' pins s σ H x v vl vu lo hi sl Q I rx hs pl pu q
def tSl(r:V->Option Int->Option Int->Hp->VK->Prop)(te:TE)(tl th:TO):TE:=λσ H Q=>te σ H λx H1=>tl σ H1 λl H2=>th σ H2 λu H3=>r x l u H3 Q
def yGA{r:V->Option Int->Option Int->Hp->VK->Prop}(hr:SlR X r)(he:PE X e te)(hl:PO X lo tl)(hu:PO X hi th):PE X (.Subscript e (.Slice lo hi none p2) pos) (tSl r te tl th):=by intro pins s σ H Q I h;refine Subscript_ (thn (he pins s σ H _ I h) λv s1 ⟨x,H1,I1,r1,q1⟩=>?_);refine wpAny_Slice (thn (hl pins s1 σ H1 _ I1 q1) λvl s2 ⟨l,H2,I2,pl,q2⟩=>thn (hu pins s2 σ H2 _ I2 q2) λvu s3 ⟨u,H3,I3,pu,q3⟩=>?_);rw [evalPart_none];refine wP0 ?_;have I4:Inv X pins σ H3 {s3 with heap:=s3.heap.push {cls:=.type "slice",data:=.fields #[vl,vu,.none]}}:=I3.kept (t':=s3.toks) λb ob q=>hP0 _ q;obtain⟨T,id,hT,ht,hg⟩:=hr pins {s3 with heap:=s3.heap.push {cls:=.type "slice",data:=.fields #[vl,vu,.none]}} σ H3 x v vl vu l u s3.heap.objs.size Q I4 r1 (Heap.IsSliceOf.new ..) pl pu q3;show wpAny (model X.prog X.w) X.A (subscriptTail e (.Slice lo hi none p2) v (.ref s3.heap.objs.size)) (EP X pins σ Q) X.xe {s3 with heap:=s3.heap.push {cls:=.type "slice",data:=.fields #[vl,vu,.none]}};exact tail_any (ops:=[.ref s3.heap.objs.size,v]) ht hT hg (by with_unfolding_all rfl)
def zVL(xs:List V)(lo hi:Bc):List V:=(xs.drop (HT.sIx xs.length 0 lo)).take (HT.sIx xs.length xs.length hi - HT.sIx xs.length 0 lo)
def zMR(xs:List V)(lo hi:Bc):(zVL xs lo hi).length<=xs.length:=by unfold zVL;rw [lT,length_drop];omega
def rSlT(K:Be):V->Option Int->Option Int->Hp->VK->Prop:=λx lo hi H Q=> ∃a xs,x=.ref a/\SqT K H a xs/\
 ¬(HT.sIx xs.length 0 lo=0/\HT.sIx xs.length xs.length hi=xs.length)/\ ∀p,H p=none->Q (.ref p) (upd H p (.tup (zVL xs lo hi)))
def yQK:SlR X (rSlT X.K):=by
 intro pins s σ H x v vl vu lo hi sl Q I rx hs pl pu h;obtain⟨a,xs,rfl,hx,hw,q⟩:=h;cases rx;obtain⟨its,r,ht,hz⟩:=I.tuple hx;have hlen:its.toArray.size=xs.length:=by rw [sA];exact r.length.symm
 refine⟨"tuple",_,PyProof.Rows.slot_tuple_getitem.lookup,ht.typeIs,?_⟩;refine HT.getItem_tuple_cut ht hs pl pu (by rw [hlen];exact hw) ?_ (by rw [hlen];exact hz);rw [hlen];refine⟨.ref s.heap.objs.size,_,I.laid (t':=s.toks) (o:=.tup (zVL xs lo hi)) (λb ob q=>hP0 _ q) (le_refl _) ?_,rfl,q _ (I.hok.fresh (le_refl _))⟩;exact⟨le_trans (zMR xs lo hi) hz,_,(r.drop (HT.sIx xs.length 0 lo)).take (HT.sIx xs.length xs.length hi - HT.sIx xs.length 0 lo),IsTup.new _ _⟩
def rCatT(K:Be):R2:=λx y H Q=> ∃a b xs ys,x=.ref a/\y=.ref b/\SqT K H a xs/\SqT K H b ys/\xs≠[]/\xs.length+ys.length<=sizeLine/\
 (ys=[]->Q (.ref a) H)/\(ys≠[]-> ∀p,H p=none->Q (.ref p) (upd H p (.tup (xs++ys))))
def Vals.nil_iff{xs:List V}{us:Ae}(r:Vals xs us):us=[]↔xs=[]:=by
 cases r with
 |nil=>simp
 |cons _ _=>simp
def yLL:OpR X (binaryOp .Add) (rCatT X.K):=by intro pins s σ H x y v u Q I rx ry h;obtain⟨a,b,xs,ys,rfl,rfl,ha,hb,hx,hz,q1,q2⟩:=h;cases rx;cases ry;obtain⟨its,r1,p1,_⟩:=I.tuple ha;obtain⟨its2,r2,p2,_⟩:=I.tuple hb;refine HT.cat_tup p1 p2 (λz=>hx (r1.nil_iff.mp z)) (λz=>⟨.ref a,H,I,rfl,q1 (r2.nil_iff.mp z)⟩) (λz=>?_) (by rw [<-r1.length, <-r2.length];exact hz);refine⟨.ref s.heap.objs.size,_,I.laid (t':=s.toks) (o:=.tup (xs++ys)) (λb ob q=>hP0 _ q) (le_refl _) ?_,rfl,q2 (λw=>z (r2.nil_iff.mpr w)) _ (I.hok.fresh (le_refl _))⟩;exact⟨by rw [lA];exact hz,_,r1.append r2,IsTup.new _ _⟩
end
def ixN(n:Nat)(i:Int):Option Nat:=if 0<=i then(if i<n then some i.toNat else none)else if -(n:Int)<=i then some (i+n).toNat else none
def atI{α:Type}(xs:List α)(i:Int):Option α:=(ixN xs.length i).bind λj=>xs[j]?
def yAN{n:Nat}{i:Int}{j:Nat}(h:ixN n i=some j):seqIndex? i n=some j/\j<n/\ -(n:Int)<=i/\i<n:=by
 unfold ixN at h;by_cases h0:0<=i
 ·rw [iP h0]at h;by_cases h1:i<n
  ·rw [iP h1]at h;have e:i.toNat=j:=Option.some.inj h;exact⟨by rw [seqIndex_of h0 h1,e],by omega,by omega,h1⟩
  ·rw [iN h1]at h;cases h
 ·rw [iN h0]at h;by_cases h1: -(n:Int)<=i
  ·rw [iP h1]at h;have e:(i+n).toNat=j:=Option.some.inj h;exact⟨by rw [seqIndex_neg (by omega) h1,e],by omega,h1,by omega⟩
  ·rw [iN h1]at h;cases h
def zSZ{α:Type}{xs:List α}{i:Int}{v:α}(h:atI xs i=some v): ∃j,seqIndex? i xs.length=some j/\xs[j]? =some v/\j<xs.length/\ -(xs.length:Int)<=i/\i<xs.length:=by
 unfold atI at h
 cases e:ixN xs.length i with
 |none=>rw [e]at h;cases h
 |some j=>
  rw [e]at h;obtain⟨h1,h2,h3,h4⟩:=yAN e;exact⟨j,h1,h,h2,h3,h4⟩
def atI_nat{α:Type}{xs:List α}{j:Nat}{v:α}(h:xs[j]? =some v):atI xs (j:Int)=some v:=by
 have hj:j<xs.length:=(gS0.mp h).1;have e:ixN xs.length (j:Int)=some j:=by unfold ixN;rw [iP (by omega),iP (by omega)];simp
 unfold atI;rw [e];exact h
def zTA(b:Expr):Prop:= ∀o i,subscripted b false o i=operate [o,i] (getItem o i)
def IxR(X:Cx)(r:R2):Prop:=
 ∀(value slice:Expr)(pins:Ba)(s:Shared)(σ:St)(H:Hp)(x y:V)(v u:Value)(Q:VK),Inv X pins σ H s->RelV x v->RelV y u->r x y H Q->
  subscripted slice false v u=operate [v,u] (getItem v u)->wpAny (model X.prog X.w) X.A (subscriptTail value slice v u) (EP X pins σ Q) X.xe s
def MtR(X:Cx)(id:String)(r:V->List V->Hp->VK->Prop):Prop:=
 ∀(pins:Ba)(s:Shared)(σ:St)(H:Hp)(x:V)(xs:List V)(v:Value)(us:Ae)(Q:VK),Inv X pins σ H s->RelV x v->Vals xs us->r x xs H Q->
  wpAny (model X.prog X.w) X.A (call (.builtin id) (v::us)) (EP X pins σ Q) X.xe s
section
variable{X:Cx}{a b:Expr}{ta tb:TE}{pos:Pos}
def IxR.or{r r':R2}(h:IxR X r)(h':IxR X r'):IxR X (λx y H Q=>r x y H Q\/r' x y H Q):=by
 intro value slice pins s σ H x y v u Q I rx ry q hs;rcases q with q|q
 ·exact h value slice pins s σ H x y v u Q I rx ry q hs
 ·exact h' value slice pins s σ H x y v u Q I rx ry q hs
def pe_ix{r:R2}(hr:IxR X r)(ha:PE X a ta)(hb:PE X b tb)(hs:zTA b):PE X (.Subscript a b pos) (tOp r ta tb):=by intro pins s σ H Q I h;exact Subscript_ (binT ha hb I h λv u s2 x y H2 I2 rx ry q=>hr a b pins s2 σ H2 x y v u Q I2 rx ry q (hs _ _))
def rIxL(K:Be):R2:=λx y H Q=> ∃p xs i v,x=.ref p/\y=.int i/\SqL K H p xs/\atI xs i=some v/\Q v H
def rIxT(K:Be):R2:=λx y H Q=> ∃p xs i v,x=.ref p/\y=.int i/\SqT K H p xs/\atI xs i=some v/\Q v H
def rIxS:R2:=λx y H Q=> ∃z i c,x=.str z/\y=.int i/\z.length<=sizeLine/\atI z.cps.toList i=some c/\Q (.str ⟨#[c]⟩) H
def yLM:IxR X (rIxL X.K):=by
 intro value slice pins s σ H x y v u Q I rx ry h hs;obtain⟨p,xs,i,z,rfl,rfl,hq,he,q⟩:=h;cases rx;obtain⟨t,rfl⟩:=ry;obtain⟨its,r,pl,hz⟩:=I.list hq;obtain⟨j,h1,h2,h3,h4,h5⟩:=zSZ he;obtain⟨w,ew,rw'⟩:=r.get h2;have hl:=r.length;have hn:=zJS;have fin:EP X pins σ Q w s:=⟨z,H,I,rw',q⟩
 by_cases h0:0<=i
 ·have hj:i.toNat=j:=by rw [seqIndex_of h0 h5]at h1;exact Option.some.inj h1
  exact item_listR pl.isList h0 (by omega) (by rw [hj];simpa using ew) fin hs
 ·have hj:(i+(its.toArray.size:Int)).toNat=j:=by rw [seqIndex_neg (by omega) h4]at h1;rw [sA, <-hl];exact Option.some.inj h1
  exact subscriptTail_builtinR (x:=w) pl.isList.typeIs slot_list_getitem.lookup
   (wpAny_getItem_list_neg (Q:=λr s'=>r=w/\EP X pins σ Q r s') pl.isList (by omega) (by rw [sA]<;>omega) (by omega) (by rw [hj];simpa using ew) ⟨rfl,fin⟩) hs
def ix_tup:IxR X (rIxT X.K):=by
 intro value slice pins s σ H x y v u Q I rx ry h hs;obtain⟨p,xs,i,z,rfl,rfl,hq,he,q⟩:=h;cases rx;obtain⟨t,rfl⟩:=ry;obtain⟨its,r,pl,hz⟩:=I.tuple hq;obtain⟨j,h1,h2,h3,h4,h5⟩:=zSZ he;obtain⟨w,ew,rw'⟩:=r.get h2;have hl:=r.length;have hn:=zJS;have fin:EP X pins σ Q w s:=⟨z,H,I,rw',q⟩
 exact subscriptTail_builtinR (x:=w) pl.typeIs slot_tuple_getitem.lookup
  (getItem_tuple (j:=j) (Q:=λr s'=>r=w/\EP X pins σ Q r s') pl (by omega) (by omega) (by rw [sA, <-hl];exact h1) (by simpa using ew) ⟨rfl,fin⟩) hs
def ix_str:IxR X rIxS:=by
 intro value slice pins s σ H x y v u Q I rx ry h hs;obtain⟨z,i,c,rfl,rfl,hz,he,q⟩:=h;obtain⟨t,rfl⟩:=rx;obtain⟨t',rfl⟩:=ry;obtain⟨j,h1,h2,h3,h4,h5⟩:=zSZ he;have hl:z.cps.toList.length=z.length:=by simp [Str.length]
 rw [hl]at h1 h4 h5;have hn:=zJS;exact tail_any (typeIs_str s z t) slot_str_getitem.lookup (getItem_str (c:=c) (by have e1:decide (i< -(2 ^ 63:Int))=false:=dF0 (by omega);have e2:decide (i>=2 ^ 63)=false:=dF0 (by omega);rw [e1,e2,Bool.or_false]) (by rw [h1];simpa using h2) ⟨.str ⟨#[c]⟩,H,I.tok _,⟨_,rfl⟩,q⟩) hs
def rIx(K:Be):R2:=λx y H Q=>rIxL K x y H Q\/rIxT K x y H Q\/rIxS x y H Q
def yQL:IxR X (rIx X.K):=yLM.or (ix_tup.or ix_str)
def zYO(its:Ae)(n j:Nat)(u:Value):Obj.mapSeq (·.setIfInBounds j u) {cls:=.type "list",data:=.seq its.toArray n}={cls:=.type "list",data:=.seq (its.set j u).toArray n}:=by simp [Obj.mapSeq]
def Inv.lst{pins:Ba}{σ:St}{H:Hp}{s:Shared}{p:Addr}{xs:List V}(I:Inv X pins σ H s)(h:H p=some (.lst xs)):
  ∃(its:Ae)(n:Nat),Vals xs its/\s.heap.get? p=some {cls:=.type "list",data:=.seq its.toArray n}/\xs.length<=sizeLine:=by
 obtain⟨z,its,n,r,e⟩:=I.hok p _ h;exact⟨its,n,r,e,z⟩
def Inv.lstUpd{pins:Ba}{σ:St}{H:Hp}{s:Shared}{p:Addr}{xs ys:List V}{its its':Ae}{n n':Nat}{f:Obj->Obj}(I:Inv X pins σ H s)(h:H p=some (.lst xs))
  (ho:s.heap.get? p=some {cls:=.type "list",data:=.seq its.toArray n}) (hf:f {cls:=.type "list",data:=.seq its.toArray n}={cls:=.type "list",data:=.seq its'.toArray n'}) (r:Vals ys its') (hz:ys.length<=sizeLine) (t:Nat):
  Inv X pins σ (upd H p (.lst ys)) {s with heap:=s.heap.update p f,toks:=t}:=by
 have e:(s.heap.update p f).get? p=some {cls:=.type "list",data:=.seq its'.toArray n'}:=by rw [Heap.get?_update_self f ho (by rw [hf]<;>rfl),hf]
 refine I.write (x:=p) (e:=p) (by rw [h];trivial) (.inl rfl) (λb u hb q=>(Heap.get?_update_other _ _ (Ne.symm hb)).trans q) ⟨_,e⟩ ?_;exact⟨hz,its',n',r,e⟩
def rSetL:V->V->V->Hp->(Hp->Prop)->Prop:=λo i v H Q=> ∃p xs k j,o=.ref p/\i=.int k/\H p=some (.lst xs)/\ixN xs.length k=some j/\Q (upd H p (.lst (xs.set j v)))
def set_list:PSet X rSetL:=by
 intro pins s σ H o i v ov iv u Q I ro ri rv h;obtain⟨p,xs,k,j,rfl,rfl,hp,hj,q⟩:=h;cases ro;obtain⟨t,rfl⟩:=ri;obtain⟨its,n,r,ho,hz⟩:=I.lst hp;obtain⟨h1,h2,h3,h4⟩:=yAN hj;have hl:=r.length;have hn:=zJS
 have I':Inv X pins σ (upd H p (.lst (xs.set j v))) {s with heap:=s.heap.update p (Obj.mapSeq (·.setIfInBounds j u))}:=
  I.lstUpd hp ho (zYO its n j u) (r.set rv j) (by rw [length_set];exact hz) s.toks
 by_cases h0:0<=k
 ·have hk:k.toNat=j:=by rw [seqIndex_of h0 h4]at h1;exact Option.some.inj h1
  exact PySem.W.ki_setAt ho h0 (by omega) (by rw [sA, <-hl];exact h4) (by rw [hk];exact⟨_,I',q⟩)
 ·have hk:(k+(its.toArray.size:Int)).toNat=j:=by rw [seqIndex_neg (by omega) h3]at h1;rw [sA, <-hl];exact Option.some.inj h1
  exact PySem.W.ki_setBack ho (by omega) (by rw [sA, <-hl];exact h3) (by omega) (by rw [hk];exact⟨_,I',q⟩)
def zTB(lo hi:Bc)(n:Nat):(sliceBounds lo hi none n).1=((HT.sIx n 0 lo:Nat):Int)/\(sliceBounds lo hi none n).2.1=((HT.sIx n n hi:Nat):Int)/\(sliceBounds lo hi none n).2.2=1:=by
 refine⟨?_,?_,rfl⟩
 ·cases lo with
  |none=>simp [sliceBounds,HT.sIx]
  |some i=>
   simp only [sliceBounds,HT.sIx,Option.getD_none,show(1:Int)>0 by decide,if_true];by_cases h:i<0
   ·simp only [h,if_true]<;>omega
   ·simp only [h,iF]<;>omega
 ·cases hi with
  |none=>simp [sliceBounds,HT.sIx]
  |some i=>
   simp only [sliceBounds,HT.sIx,Option.getD_none,show(1:Int)>0 by decide,if_true];by_cases h:i<0
   ·simp only [h,if_true]<;>omega
   ·simp only [h,iF]<;>omega
theorem zQO(its:Ae)(lo hi:Bc):slicePick its.toArray lo hi none=((its.drop (HT.sIx its.length 0 lo)).take (HT.sIx its.length its.length hi - HT.sIx its.length 0 lo)).toArray:=by obtain⟨h1,h2,h3⟩:=zTB lo hi its.toArray.size;unfold slicePick;rw [h1,h2,h3];simp only [sliceRange_one,pick_run,sA]<;>rfl
def rSlL(K:Be):V->Option Int->Option Int->Hp->VK->Prop:=λx lo hi H Q=> ∃a xs,x=.ref a/\SqL K H a xs/\ ∀p,H p=none->Q (.ref p) (upd H p (.lst (zVL xs lo hi)))
def yLN:SlR X (rSlL X.K):=by intro pins s σ H x v vl vu lo hi sl Q I rx hs pl pu h;obtain⟨a,xs,rfl,hx,q⟩:=h;cases rx;obtain⟨its,r,ht,hz⟩:=I.list hx;have hlen:=r.length;refine⟨"list",_,slot_list_getitem.lookup,ht.isList.typeIs,?_⟩;refine wpAny_getItem_list_slice ht.isList hs pl pu .none (by simp) ?_ (by rw [sA]<;>omega);rw [zQO, <-hlen];refine⟨.ref s.heap.objs.size,_,I.laid (t':=s.toks) (o:=.lst (zVL xs lo hi)) (λb ob q=>hP0 _ q) (le_refl _) ?_,rfl,q _ (I.hok.fresh (le_refl _))⟩;exact⟨le_trans (zMR xs lo hi) hz,_,0,(r.drop (HT.sIx xs.length 0 lo)).take (HT.sIx xs.length xs.length hi - HT.sIx xs.length 0 lo),Heap.get?_push_size _ rfl⟩
def kP:V->Bool
 |.non=>true
 |.bl _=>true
 |.int _=>true
 |.str _=>true
 |_=>false
def eqV:V->V->Bool
 |.non,.non=>true
 |.bl a,.bl b=>a==b
 |.bl a,.int b=>(if a then 1 else 0)==b
 |.int a,.bl b=>a==(if b then 1 else 0)
 |.int a,.int b=>a==b
 |.str a,.str b=>a==b
 |_,_=>false
def yQM{A:Around}{s:Shared}{y x:V}{u v:Value}(ry:RelV y u)(rx:RelV x v)(fy:kP y=true)(fx:kP x=true):SeqAt.EqAt A s u v (eqV y x):=by
 cases y with
 |non=>
  cases ry
  cases x with
  |non=>cases rx;exact SeqAt.EqAt.same _
  |bl b=>cases rx;exact SeqAt.EqAt.none_bool b
  |int b=>obtain⟨t,rfl⟩:=rx;exact SeqAt.EqAt.none_int b t
  |str b=>obtain⟨t,rfl⟩:=rx;exact SeqAt.EqAt.none_str b t
  |_=>exact absurd (show false=true from fx) xF0
 |bl a=>
  cases ry
  cases x with
  |non=>cases rx;exact SeqAt.EqAt.bool_none a
  |bl b=>cases rx;exact SeqAt.EqAt.bool_bool a b
  |int b=>obtain⟨t,rfl⟩:=rx;exact SeqAt.EqAt.bool_int a b t
  |str b=>obtain⟨t,rfl⟩:=rx;exact SeqAt.EqAt.bool_str a b t
  |_=>exact absurd (show false=true from fx) xF0
 |int a=>
  obtain⟨t',rfl⟩:=ry
  cases x with
  |non=>cases rx;exact SeqAt.EqAt.int_none a t'
  |bl b=>cases rx;exact SeqAt.EqAt.int_bool a t' b
  |int b=>obtain⟨t,rfl⟩:=rx;exact SeqAt.EqAt.int_int a t' b t
  |str b=>obtain⟨t,rfl⟩:=rx;exact SeqAt.EqAt.int_str a t' b t
  |_=>exact absurd (show false=true from fx) xF0
 |str a=>
  obtain⟨t',rfl⟩:=ry
  cases x with
  |non=>cases rx;exact SeqAt.EqAt.str_none a t'
  |bl b=>cases rx;exact SeqAt.EqAt.str_bool a t' b
  |int b=>obtain⟨t,rfl⟩:=rx;exact SeqAt.EqAt.str_int a t' b t
  |str b=>obtain⟨t,rfl⟩:=rx;exact SeqAt.EqAt.str_str a t' b t
  |_=>exact absurd (show false=true from fx) xF0
 |_=>exact absurd (show false=true from fy) xF0
def zTC:CallR X (.builtin "len") (λxs H Q=> ∃p ys,xs=[.ref p]/\(SqL X.K H p ys\/SqT X.K H p ys)/\Q (.int ys.length) H):=by
 intro pins s σ H xs us Q I r h;obtain⟨p,ys,rfl,hq,q⟩:=h;obtain⟨u,rfl,rx⟩:=vals1 r;cases rx;have hn:=zJS;rcases hq with hq|hq
 ·obtain⟨its,r',pl,hz⟩:=I.list hq;have hlen:=r'.length;exact Calls.call_len_list pl.isList (by simp only [sA]<;>omega) ⟨.int ys.length,H,I.tok _,⟨s.toks+1,by rw [sA,hlen]⟩,q⟩
 ·obtain⟨its,r',pl,hz⟩:=I.tuple hq;have hlen:=r'.length;exact len_tuple pl (by simp only [sA]<;>omega) ⟨.int ys.length,H,I.tok _,⟨s.toks+1,by rw [sA,hlen]⟩,q⟩
def zTD:CallR X (.builtin "len") (λxs H Q=> ∃z,xs=[.str z]/\z.length<=sizeLine/\Q (.int z.length) H):=by intro pins s σ H xs us Q I r h;obtain⟨z,rfl,hz,q⟩:=h;obtain⟨u,rfl,t,rfl⟩:=vals1 r;have hn:=zJS;exact len_str (by omega) ⟨.int z.length,H,I.tok _,⟨_,rfl⟩,q⟩
def CallR.or{f:Value}{r r':List V->Hp->VK->Prop}(h:CallR X f r)(h':CallR X f r'):CallR X f (λxs H Q=>r xs H Q\/r' xs H Q):=by
 intro pins s σ H xs us Q I rs q;rcases q with q|q
 ·exact h pins s σ H xs us Q I rs q
 ·exact h' pins s σ H xs us Q I rs q
def nO:CallR X (.type "tuple") (λxs H Q=> ∃p ys,xs=[.ref p]/\((SqL X.K H p ys/\ ∀l,H l=none->Q (.ref l) (upd H l (.tup ys)))\/(SqT X.K H p ys/\Q (.ref p) H))):=by
 intro pins s σ H xs us Q I r h;obtain⟨p,ys,rfl,h⟩:=h;obtain⟨u,rfl,rx⟩:=vals1 r;cases rx;rcases h with⟨hq,q⟩|⟨hq,q⟩
 ·obtain⟨its,r',pl,hz⟩:=I.list hq;have hlen:=r'.length;refine call_tuple_list pl.isList (λh' kp=>?_) (by simp only [sA]<;>omega);have I1:Inv X pins σ H {s with heap:=h'}:=I.kept (t':=s.toks) kp
  have I2:Inv X pins σ (upd H h'.objs.size (.tup ys)) {s with heap:=h'.push {cls:=.type "tuple",data:=.seq its.toArray}}:=
   I1.laid (t':=s.toks) (λb o e=>hP0 _ e) (le_refl _) (show ObjOk X.prog X.w _ _ _ (.tup ys)from⟨hz,its,r',IsTup.new _ _⟩)
  exact⟨.ref h'.objs.size,_,I2,rfl,q _ (I1.hok.fresh (le_refl _))⟩
 ·obtain⟨its,r',pl,hz⟩:=I.tuple hq;exact call_tuple_same pl ⟨.ref p,H,I,rfl,q⟩
def tyV(K:Be)(T:String)(x:V)(H:Hp):Prop:=match x with
 |.str _=>T="str"
 |.int _=>T="int"
 |.ref p=>(T="list"/\ ∃xs,SqL K H p xs)\/(T="tuple"/\ ∃o,K.lookup p=some o/\o.cls=.type "tuple"/\o.dict=none)\/
   (T="dict"/\((∃kvs,H p=some (.dK kvs))\/ ∃kvs,H p=some (.dT kvs)))\/(T="set"/\ ∃S n,H p=some (.set S n))
 |_=>False
def yGB{pins:Ba}{σ:St}{H:Hp}{s:Shared}{T:String}{x:V}{v:Value}(I:Inv X pins σ H s)(r:RelV x v)(ty:tyV X.K T x H):
  s.TypeIs v T/\ ∀a,v=.ref a-> ∃ob,s.heap.get? a=some ob/\ob.dict=none:=by
 cases x with
 |str z=>
  obtain⟨t,rfl⟩:=r;cases (show T="str" from ty);exact⟨typeIs_str s z t,λ_ e=>nomatch e⟩
 |int i=>
  obtain⟨t,rfl⟩:=r;cases (show T="int" from ty);exact⟨typeIs_int s i t,λ_ e=>nomatch e⟩
 |ref p=>
  cases r;rcases ty with⟨rfl,xs,hq⟩|⟨rfl,o,hk,hc,hd⟩|⟨rfl,hk⟩|⟨rfl,S,n,hk⟩
  ·obtain⟨its,_,pl,_⟩:=I.list hq;refine⟨pl.isList.typeIs,λa e=>?_⟩;cases e;obtain⟨o,n,e,c,hd,_⟩:=pl;exact⟨o,e,hd⟩
  ·refine⟨⟨o,I.kIn p o hk,hc⟩,λa e=>?_⟩;cases e;exact⟨o,I.kIn _ o hk,hd⟩
  ·have z: ∃o,s.heap.get? p=some o/\o.ExactDict:=by
    rcases hk with⟨kvs,hk⟩|⟨kvs,hk⟩
    ·obtain⟨_,_,_,_,o,_,_,e,ex,_⟩:=I.hok p _ hk;exact⟨o,e,ex⟩
    ·obtain⟨_,_,_,_,o,_,_,e,ex,_⟩:=I.hok p _ hk;exact⟨o,e,ex⟩
   obtain⟨o,e,ex⟩:=z;refine⟨⟨o,e,ex.1⟩,λa e2=>?_⟩;cases e2;exact⟨o,e,ex.2.1⟩
  ·obtain⟨o,_,_,_,e,ex,_⟩:=I.hok p _ hk;refine⟨⟨o,e,ex.1⟩,λa e2=>?_⟩;cases e2;exact⟨o,e,ex.2.1⟩
 |_=>exact False.elim ty
def tBM0(K:Be)(T:String)(r:V->List V->Hp->VK->Prop)(to:TE):TE:=λσ H Q=>to σ H λx H1=>tyV K T x H1/\r x [] H1 Q
def tBM(K:Be)(T:String)(r:V->List V->Hp->VK->Prop)(to:TE)(t:TA):TE:=λσ H Q=>to σ H λx H1=>tyV K T x H1/\t σ H1 λxs H2=>r x xs H2 Q
variable{o e:Expr}{es:Bd}{to:TE}{t:TA}{name:Str}{apos cpos:Pos}{T id:String}{r:V->List V->Hp->VK->Prop}
def yQN(pa:PlainAttrs T)(slot:Slot T name id)(hty:typeOf (.builtin id)=pure (.type "method_descriptor"))(hm:MtR X id r)(ho:PE X o to)
  (hbase:attributeBase o name X.env (eval o X.env)=eval o X.env:=by rfl) (hline:(apos.endLine==cpos.line)=true:=by rfl):PE X (.Call (.Attribute o name apos) [] [] cpos) (tBM0 X.K T r to):=by
 intro pins s σ H Q I h;refine wpAny_Call_method0_late hbase hline (thn (ho pins s σ H _ I h) λv s1 ⟨x,H1,I1,r1,ty,q1⟩=>?_);obtain⟨h1,h2⟩:=yGB I1 r1 ty;exact⟨T,id,pa,slot,hty,h1,h2,Calls.callWith_builtin rfl (PySem.evalArgs_none (hm pins s1 σ H1 x [] v [] Q I1 r1 .nil q1))⟩
def pe_bm(pa:PlainAttrs T)(slot:Slot T name id)(hty:typeOf (.builtin id)=pure (.type "method_descriptor"))(hm:MtR X id r)(ho:PE X o to)(ha:PA X (e::es) t)
  (hbase:attributeBase o name X.env (eval o X.env)=eval o X.env:=by rfl)
  (hfew:((backTo cpos (starEach (e::es) X.env)).all (λx=>!x.1)&&(backToKw cpos (keywordEach [] X.env)).all (λx=>x.1.isSome)
   &&decide ((e::es).length+([]:List Keyword).length+(if([]:List Keyword).isEmpty then 0 else 1)<30))=true:=by rfl)
  (hline:(apos.endLine==cpos.line)=true:=by rfl) (hs:starEach (e::es) X.env=(false,eval e X.env)::starEach es X.env:=by rfl) (hplain:(backTo cpos (starEach es X.env)).any (·.1)=false:=by rfl):
  PE X (.Call (.Attribute o name apos) (e::es) [] cpos) (tBM X.K T r to t):=by
 intro pins s σ H Q I h;refine wpAny_Call_method_late hbase hfew hline rfl (thn (ho pins s σ H _ I h) λv s1 ⟨x,H1,I1,r1,ty,q1⟩=>?_);obtain⟨h1,h2⟩:=yGB I1 r1 ty;refine⟨T,id,pa,slot,hty,h1,h2,?_⟩;have hA:=ha cpos pins s1 σ H1 _ I1 q1;rw [hs]at hA ⊢;refine Calls.callWith_builtin (by show(false || (backTo cpos (starEach es X.env)).any (·.1))=false;rw [hplain]<;>rfl) (Calls.evalArgs_plain ?_);exact thn hA λus s2 ⟨vs,H2,I2,r2,q2⟩=>hm pins s2 σ H2 x vs v us Q I2 r1 r2 q2
end
def MtM(X:Cx)(id:String)(r:V->List V->Hp->VK->Prop):Prop:=
 ∀(pins:Ba)(s:Shared)(σ:St)(H:Hp)(x:V)(xs:List V)(v:Value)(us:Ae)(Q:VK),Inv X pins σ H s->RelV x v->Vals xs us->r x xs H Q->
  wpAny (model X.prog X.w) X.A (call (.builtin id) (v::us)) (EP X pins σ Q) X.xe s
def Vals.one: ∀{x:V}{us:Ae},Vals [x] us-> ∃u,us=[u]/\RelV x u
 |_,_,.cons r .nil=>⟨_,rfl,r⟩
theorem Vals.zero: ∀{us:Ae},Vals [] us->us=[]
 |_,.nil=>rfl
theorem Vals.eraseIdx: ∀{xs:List V}{us:Ae}(i:Nat),Vals xs us->Vals (xs.eraseIdx i) (us.eraseIdx i)
 |_,_,_,.nil=>.nil
 |_,_,0,.cons _ t=>t
 |_,_,i+1,.cons r t=>.cons r (Vals.eraseIdx i t)
def Vals.reverse{xs:List V}{us:Ae}(h:Vals xs us):Vals xs.reverse us.reverse:=by
 induction h with
 |nil=>exact .nil
 |cons r t ih=>rw [reverse_cons,reverse_cons];exact Vals.append ih (.cons r .nil)
theorem Vals.rep{xs:List V}{us:Ae}(h:Vals xs us): ∀k:Nat,Vals (List.replicate k xs).flatten (List.replicate k us).flatten
 |0=>.nil
 |k+1=>by rw [replicate_succ,replicate_succ,flatten_cons,flatten_cons];exact Vals.append h (Vals.rep h k)
theorem zRT{α:Type}: ∀(l:List α)(i:Nat),(l.eraseIdx i).length<=l.length
 |[],_=>le_refl _
 |_::_,0=>le_succ _
 |_::r,i+1=>Nat.succ_le_succ (zRT r i)
theorem foldl_rep(its:Ae): ∀(k:Nat)(acc:Ae),
  List.foldl (λx1 x2=>x1++x2) acc.toArray (List.replicate k its.toArray)=(acc++(List.replicate k its).flatten).toArray
 |0,acc=>by simp
 |k+1,acc=>by
  have e:acc.toArray++its.toArray=(acc++its).toArray:=by simp
  have e2:(acc++its)++(List.replicate k its).flatten=acc++(List.replicate (k+1) its).flatten:=by rw [replicate_succ,flatten_cons,aA]
  rw [<-e2, <-foldl_rep its k (acc++its), <-e,replicate_succ,foldl_cons]
section
variable{X:Cx}{pins:Ba}{σ:St}{H:Hp}{s:Shared}{l b:Addr}{xs ys zs:List V}
def Inv.lset{its its':Ae}{n:Nat}{f:Array Value->Array Value}{t':Nat}(I:Inv X pins σ H s)(hH:H l=some (.lst xs))
  (e:s.heap.get? l=some {cls:=.type "list",data:=.seq its.toArray n}) (hf:f its.toArray=its'.toArray) (hv:Vals ys its') (hz:ys.length<=sizeLine):
  Inv X pins σ (upd H l (.lst ys)) {s with heap:=s.heap.update l (Obj.mapSeq f),toks:=t'}:=by
 have q:=PySem.IsL.update e f;rw [hf]at q;refine I.write (x:=l) (e:=l) (by rw [hH];exact trivial) (.inl rfl) (λb' u hb hu=>(Heap.get?_update_other s.heap (Obj.mapSeq f) (Ne.symm hb)).trans hu) ⟨_,q⟩ ?_;exact⟨hz,its',_,hv,q⟩
def Inv.lnew{its:Ae}{t':Nat}(I:Inv X pins σ H s)(hv:Vals ys its)(hz:ys.length<=sizeLine):
  Inv X pins σ (upd H s.heap.objs.size (.lst ys)) {s with heap:=s.heap.push {cls:=.type "list",data:=.seq its.toArray},toks:=t'}:=
 I.laid (λ_ _ q=>hP0 _ q) (le_refl _) ⟨hz,its,0,hv,Heap.get?_push_size _ rfl⟩
def Inv.fresh(I:Inv X pins σ H s):H s.heap.objs.size=none:=I.hok.fresh (le_refl _)
def Inv.lstM(I:Inv X pins σ H s)(hH:H l=some (.lst xs)):xs.length<=sizeLine/\ ∃(its:Ae)(n:Nat),Vals xs its/\xs.length=its.length/\s.heap.get? l=some {cls:=.type "list",data:=.seq its.toArray n}:=by obtain⟨z,its,n,r,e⟩:=I.hok l _ hH;exact⟨z,its,n,r,r.length,e⟩
def zVM{n:Nat}(h:n<=sizeLine):Builtin.List.listTooLong n=false:=by unfold Builtin.List.listTooLong;exact dF0 (by omega)
end
section
variable{X:Cx}
def yAO:V->List V->Hp->VK->Prop:=λx vs H Q=> ∃l xs y,x=.ref l/\vs=[y]/\H l=some (.lst xs)/\xs.length<sizeLine/\Q .non (upd H l (.lst (xs++[y])))
def yDR:MtM X "list.append" yAO:=by intro pins s σ H x vs v us Q I rx rv h;obtain⟨l,xs,y,rfl,rfl,hH,hz,q⟩:=h;cases rx;obtain⟨u,rfl,ru⟩:=rv.one;obtain⟨z,its,n,r,hl,e⟩:=I.lstM hH;refine call_meets F.slot_list_append ⟨_,e,rfl⟩ F.entry_list_append (F.args_list_append_2 _ _) (PySem.list_append l its.toArray n u (by rw [sA];omega)) ⟨e,?_⟩;refine⟨.non,_,I.lset (its':=its++[u]) hH e (by simp) (r.append (.cons ru .nil)) ?_,rfl,q⟩;rw [lA,lS];omega
def yAP:V->List V->Hp->VK->Prop:=λx vs H Q=> ∃l b xs zs,x=.ref l/\vs=[.ref b]/\H l=some (.lst xs)/\H b=some (.lst zs)/\xs.length+zs.length<=sizeLine/\Q .non (upd H l (.lst (xs++zs)))
def yDS:MtM X "list.extend" yAP:=by
 intro pins s σ H x vs v us Q I rx rv h;obtain⟨l,b,xs,zs,rfl,rfl,hH,hB,hz,q⟩:=h;cases rx;obtain⟨u,rfl,ru⟩:=rv.one;cases ru;obtain⟨z,its,n,r,hl,e⟩:=I.lstM hH;obtain⟨z2,its2,n2,r2,hl2,e2⟩:=I.lstM hB;have hsz:its.toArray.size+its2.toArray.size<=sizeLine:=by rw [sA,sA];omega
 have hlong: ¬(!its.toArray.isEmpty&&Builtin.List.listTooLong (its.toArray.size+its2.toArray.size))=true:=by rw [zVM hsz,Bool.and_false];exact xF0
 refine call_meets F.slot_list_extend ⟨_,e,rfl⟩ F.entry_list_extend (F.args_list_extend_2 _ _)
  (AutoSeq1.list_extend_list_list_0 l its.toArray n b its2.toArray n2 hlong (by rw [sA];omega) (by omega)) ⟨e,e2,?_⟩
 refine⟨.non,_,I.lset (its':=its++its2) hH e (by simp) (r.append r2) ?_,rfl,q⟩;rw [lA];omega
def zVN:V->List V->Hp->VK->Prop:=λx vs H Q=> ∃l xs,x=.ref l/\vs=[]/\H l=some (.lst xs)/\Q .non (upd H l (.lst xs.reverse))
def zYP:MtM X "list.reverse" zVN:=by intro pins s σ H x vs v us Q I rx rv h;obtain⟨l,xs,rfl,rfl,hH,q⟩:=h;cases rx;have hus:=rv.zero;subst hus;obtain⟨z,its,n,r,hl,e⟩:=I.lstM hH;refine call_meets F.slot_list_reverse ⟨_,e,rfl⟩ F.entry_list_reverse (F.args_list_reverse_1 _) (AutoSeq1.list_reverse_list_0 l its.toArray n (by rw [sA];omega)) ⟨e,?_⟩;refine⟨.non,_,I.lset (its':=its.reverse) hH e (by simp) r.reverse ?_,rfl,q⟩;rw [List.length_reverse];omega
def rCat:R2:=λx y H Q=> ∃l b xs zs,x=.ref l/\y=.ref b/\H l=some (.lst xs)/\H b=some (.lst zs)/\xs.length+zs.length<=sizeLine/\ ∀p,H p=none->Q (.ref p) (upd H p (.lst (xs++zs)))
def yQO:OpR X (binaryOp .Add) rCat:=by
 intro pins s σ H x y v u Q I rx ry h;obtain⟨l,b,xs,zs,rfl,rfl,hH,hB,hz,q⟩:=h;cases rx;cases ry;obtain⟨z,its,n,r,hl,e⟩:=I.lstM hH;obtain⟨z2,its2,n2,r2,hl2,e2⟩:=I.lstM hB;refine PySem.P.add_list e e2 ?_ (by rw [sA,sA];omega);have ea:its.toArray++its2.toArray=(its++its2).toArray:=by simp
 rw [ea];exact⟨.ref _,_,I.lnew (t':=s.toks) (r.append r2) (by rw [lA];omega),rfl,q _ I.fresh⟩
def rRep:R2:=λx y H Q=> ∃l k xs,x=.ref l/\y=.int k/\H l=some (.lst xs)/\ -(2 ^ 63)<=k/\k<2 ^ 63/\xs.length * k.toNat<=sizeLine/\
 ∀p,H p=none->Q (.ref p) (upd H p (.lst (List.replicate k.toNat xs).flatten))
def len_rep{α:Type}(xs:List α)(k:Nat):(List.replicate k xs).flatten.length=k * xs.length:=by
 induction k with
 |zero=>simp
 |succ k ih=>rw [replicate_succ,flatten_cons,lA,ih,Nat.succ_mul,Nat.add_comm]
def yQP:OpR X (binaryOp .Mult) rRep:=by
 intro pins s σ H x y v u Q I rx ry h;obtain⟨l,k,xs,rfl,rfl,hH,h1,h2,hz,q⟩:=h;cases rx;obtain⟨t,rfl⟩:=ry;obtain⟨z,its,n,r,hl,e⟩:=I.lstM hH;have hlen:its.toArray.size * k.toNat<=sizeLine:=by rw [sA, <-hl];exact hz
 have hcap: ¬its.toArray.size * k.toNat>(2 ^ 63 - 1) / 8:=by
  have:(sizeLine:Nat)<=(2 ^ 63 - 1) / 8:=by decide
  omega
 have hfit: ¬(!Builtin.List.listFitsIndex k)=true:=by rw [fitsIndex_both h1 h2];exact xF0
 have hlong: ¬Builtin.List.listTooLong (its.toArray.size * k.toNat)=true:=by rw [zVM hlen];exact xF0
 have hnew:List.foldl (λx1 x2=>x1++x2) #[] (List.replicate (if its.toArray.isEmpty=true then 0 else k.toNat) its.toArray)=(List.replicate k.toNat its).flatten.toArray:=by
  have f0: ∀m:Nat,List.foldl (λx1 x2=>x1++x2) #[] (List.replicate m its.toArray)=(List.replicate m its).flatten.toArray:=λm=>by have:=foldl_rep its m [];rw [nil_append]at this;exact this
  rw [f0]
  cases its with
  |nil=>simp
  |cons a r'=>rw [iN (by simp)]
 refine wpAny_binaryOp_repeat_ref (T:="list") (U:="int") (by decide) ⟨_,e,rfl⟩ (λs'=>typeIs_int s' k t) noFill_list_mul F.fills_int_mul F.slot_int_rmul repeat_list F.slot_int_index.lookup
  (call_meets F.slot_int_rmul (typeIs_int s k t) F.entry_int_rmul (F.args_int_rmul_2 _ _) (int___rmul___int_list k t l its.toArray n)
   ⟨e,rfl,⟨_,e,rfl⟩,call_meets F.slot_list_mul ⟨_,e,rfl⟩ F.entry_list_mul (F.args_list_mul_2 _ _) (AutoListH.list___mul___list_int_3 l its.toArray n k t hfit hcap hlong) ⟨e,?_⟩⟩)
 rw [hnew];exact⟨.ref _,_,I.lnew (t':=s.toks) (r.rep k.toNat) (by rw [len_rep,Nat.mul_comm];exact hz),rfl,q _ I.fresh⟩
end
end L2
namespace Att
open PySem PySem.W PySem.Calls PyProof.Rows
def zNE{P:Params}{h:Heap}: ∀(ns:Ad)(vs:Ae),WellAll P h vs (ns.map WData.int)->IntsAre vs ns:=by
 intro ns
 induction ns with
 |nil=>
  intro vs w;rw [map_nil]at w;cases w;exact .nil
 |cons n ns ih=>
  intro vs w;rw [map_cons]at w
  cases w with
  |cons a b=>
   cases a;exact .cons _ _ (ih _ b)
def yDT{l:OpenLaw}{n:Nat}(hn:l.most=some n){P:Params}{h:Heap}{args:List WData}{vals:Ae}
  (hpre:l.row.toRowW.claim.pre args=true) (hwl:WellAll P h vals args):
  ∃a vs ns,vals=[Value.ref a]/\args=[WData.list (ns.map WData.int)]/\h.get? a=some {cls:=.type "list",data:=.seq vs.toArray}/\IntsAre vs ns/\ns.length<=n:=by
 have hsh:WShape.hasAll [] args [.list .int]=true:=(pre_splitW hpre).1;have hc:l.pre.holds [] {args:=args}=true:=(pre_splitW hpre).2;obtain⟨d,r,rfl,h1,h2⟩:=hasAllW_cons hsh;obtain rfl:=hasAllW_nil h2;obtain⟨xs,rfl,h3⟩:=hasW_list h1;obtain⟨ns,rfl⟩:=items_int h3
 have hlen:ns.length<=n:=by
  unfold OpenLaw.pre at hc;have h4:(WTm.not (.lt (.lit (.int (n:Int))) (.len (.arg 0)))).holds [] {args:=[.list (ns.map .int)]}=true:=by have h4:=(holds_andW hc).1;rw [hn]at h4;exact h4
  have h5:=condW_of h4 (w_not (w_lt w_lit (w_len_list (w_arg rfl))));rw [lM]at h5;refine Nat.le_of_not_lt λq=>?_;have q':(n:Int)<((ns.length:Nat):Int):=by omega
  first
   |(rw [dT0 q']at h5;exact absurd h5 (by decide))
   |(simp at h5;omega)
 cases hwl with
 |cons w1 w2=>
  cases w2
  cases w1 with
  |list ho hall=>exact⟨_,_,ns,rfl,rfl,ho,zNE ns _ hall,hlen⟩
theorem yDU(l:OpenLaw)(args:List WData):l.row.toRowW.claim.post args (.bool true) args=true:=
 postW_of (r:=l.row.toRowW) (X:=(true==true))
  (show WShape.has [] (.bool true) .bool=true by first |rfl|decide|simp [WShape.has,WShape.arms,WShape.armsAll])
  (show(WTm.eq .res (.lit (.bool true))).value [] {args:=args,res:=some (.bool true),after:=args}=some (.bool (true==true))from w_eq_bool (w_res rfl) w_lit) rfl
def attach_call{l:OpenLaw}{n:Nat}{q:Program}{loose:Ai}{XP:(Str->Option Value)->Heap->Prop}{YP:World->Heap->Prop}{d:DefRec}
  (hn:l.most=some n) (hdf:d.params.defaults=[])
  (call: ∀(w:World)(s₀ s₁:Shared)(mg mb:Aj)(fa:Addr)(o:Obj)(pm cd doc:Value)(a:Addr)(vs:Ae)(ns:Ad),
   Ground q loose [] XP w s₀ mg mb s₁.heap->YP w s₁.heap->
   s₁.heap.get? fa=some o->o.data=.func (docDef d.name d.params d.body d.scope pm cd doc)->s₁.heap.CodeRec cd d.name->mg d.name=some (.ref fa)->
   s₁.heap.get? a=some {cls:=.type "list",data:=.seq vs.toArray}->IntsAre vs ns->ns.length<=n->s₁.gens=#[]->
   codeAny (model l.prog w) callerA (.call (.ref fa) ⟨[.ref a],[]⟩) (λr s'=>r=.ok (.ret (.bool true))/\OldK s₁.heap s'.heap/\s'.os=s₁.os/\AllBare s'.gens) s₁):
  WalkO q loose XP YP l.row.toRowW d [] (λf vs=>PySem.call f vs):=by
 intro w s₀ s₁ mg mb G Y fa o pm cd doc dV kV ho hd hcd hD hmg hg args vals as hpre hlay hrd hwl hlo;obtain rfl:dV=.none:=Dflts.none hD hdf;obtain rfl:kV=.none:=Dflts.noKw hD;obtain⟨a,vs,ns,rfl,rfl,hobj,hints,hlen⟩:=yDT hn hpre hwl;refine enter_call (codeAny_mono (call w s₀ s₁ mg mb fa o pm cd doc a vs ns G Y ho (fd_plain hd) hcd hmg hobj hints hlen hg) λr s' hq=>?_);obtain⟨rfl,h2,h3,h4⟩:=hq;exact⟨.inl ⟨.bool true,.bool true,[],rfl,λ_=>rfl,.bool true,yDU l _,λ_=>⟨List.Pairwise.nil,λ_ hm=>(nomatch hm)⟩⟩,h2,h3,h4⟩
end Att
namespace L2
open PySem PySem.Spec PyProof.Rows
theorem zRU: ∀{vs:Ae}{ns:Ad},IntsAre vs ns->Vals (ns.map V.int) vs
 |_,_,.nil=>.nil
 |_,_,.cons n t h=>.cons ⟨t,rfl⟩ (zRU h)
def yGC(H:Hp):Prop:= ∀b,H b=none\/ ∃o xs,H b=some (.frz o (.lst xs))
def yGD{P:Program}{w:World}{K:Be}{mg mb:Aj}{CX:CXT}{k:Nat}{fa a:Addr}{fd:FuncData}{x:Str}{sp:Sp}{s₁:Shared}{vs:Ae}{ns:Ad}
  (KX:K.In s₁.heap) (hns:s₁.heap.Ns mainGlobals mg) (hb:s₁.heap.Ns builtinsNs mb) (hbb: ∀x:Str,x≠"__name__"->mb x=bootBuiltins x) (hlim:s₁.heap.NoLimit) (hg:s₁.gens=#[])
  (ha:s₁.heap.get? a=some {cls:=.type "list",data:=.seq vs.toArray}) (hi:IntsAre vs ns) (hl:ns.length<=sizeLine) (hr:Room k callerA)
  (F: ∀base:Heap,K.In base->base.Ns mainGlobals mg->FnOk P w K mg base CX k fa fd [x] sp) (hbind: ∀(s:Shared)(u:Value),BindsTo s fd ⟨[u],[]⟩ [(x,u)])
  (hsp: ∀H:Hp,yGC H->SqL K H a (ns.map V.int)->sp [.ref a] H (λv _=>v=.bl true) λ_ _ _=>False)
  (hCX: ∀H e s',CX [] H s₁ (λ_ _ _=>False) e s'->False):
  codeAny (model P w) callerA (.call (.ref fa) ⟨[.ref a],[]⟩) (λr s'=>r=.ok (.ret (.bool true))/\OldK s₁.heap s'.heap/\s'.os=s₁.os/\AllBare s'.gens) s₁:=by
 have rv:=zRU hi;have lenV:=hi.length
 have core: ∀H:Hp,yGC H->SqL K H a (ns.map V.int)->HOk P w H s₁.heap->(∀b,H b≠none->b=a)->(H a≠none->K.lookup a=none)->
   codeAny (model P w) callerA (.call (.ref fa) ⟨[.ref a],[]⟩) (λr s'=>r=.ok (.ret (.bool true))/\OldK s₁.heap s'.heap/\s'.os=s₁.os/\AllBare s'.gens) s₁:=by
  intro H hO hS hok hA hK;have base_of: ∀{b:Addr}{o:Obj},s₁.heap.get? b=some o->H b=none->(zSX s₁.heap H).get? b=some o:=λe n=>yFM e n
  have noA: ∀{b:Addr}{o:Obj}{es:Array DictEntry}{ep:Nat},s₁.heap.get? b=some o->o.data=.dict es ep->H b=none:=λ{b o es ep} e d=>by
   cases q:H b with
   |none=>rfl
   |some u=>
    have e':b=a:=hA b (by rw [q];simp);subst e';rw [ha]at e;cases e;have d':Data.seq vs.toArray _=Data.dict es ep:=d;cases d'
  have nsK: ∀{b:Addr}{m:Aj},s₁.heap.Ns b m->(zSX s₁.heap H).Ns b m:=λ{b m} ⟨o,es,ep,e,d,r⟩=>⟨o,es,ep,base_of e (noA e d),d,r⟩
  have hKb:K.In (zSX s₁.heap H):=λb o e=>base_of (KX b o e) (by
   cases q:H b with
   |none=>rfl
   |some u=>
    have e':b=a:=hA b (by rw [q];simp);subst e';rw [hK (by rw [q];simp)]at e;cases e)
  have hM:Mod K mg (zSX s₁.heap H):=⟨hKb,nsK hns,⟨mb,nsK hb,hbb⟩,let ⟨mc,h1,h2⟩:=hlim;⟨mc,nsK h1,h2⟩⟩
  have e0:Env0 P w K mg (zSX s₁.heap H) callerA [] s₁ H:=⟨rfl,hM,λb o e=>yKV e,Nat.le_of_eq (yDL _ _),trivial,λb hb=>absurd (show b∈([]:Ah)from hb) (by simp),hok,.of_eq hg⟩
  refine codeAny_mono ((F _ hKb (nsK hns)).run callerA [] s₁ H ⟨[.ref a],[]⟩ [.ref a] [.ref a] _ _ hr e0 (hbind s₁ (.ref a)) (.cons rfl .nil) (hsp H hO hS)) λr s' h=>?_
  cases r with
  |error e=>exact(hCX H e s' h).elim
  |ok fl=>
   cases fl with
   |next=>exact False.elim h
   |brk=>exact False.elim h
   |cont=>exact False.elim h
   |ret u=>
    obtain⟨v,H',os,bare,un,hok',r',q⟩:=h;have q':v=.bl true:=q;subst q';obtain rfl:u=Value.bool true:=r';refine⟨rfl,OldK.of_keep λb o e=>?_,os,bare⟩
    cases q:H b with
    |none=>exact un.keep b o e q (by intro z;exact absurd (show b∈([]:Ah)from z) (by simp)) (by simp)
    |some u=>
     rcases hO b with z|⟨ob,xs,z⟩
     ·rw [q]at z;cases z
     ·have z2:=un.frzs b ob _ z;obtain⟨e1,_⟩:=hok b _ z;obtain⟨e2,_⟩:=hok' b _ z2;rw [e]at e1;cases e1;exact e2
 cases hk:K.lookup a with
 |some o=>
  have e:=KX a o hk;rw [ha]at e;cases e;refine core (λ_=>none) (λ_=>.inl rfl) (.inr ⟨_,vs.toArray,_,hk,rfl,rfl,rfl,by rw [sA,lenV];exact hl,by simpa using rv⟩) (λb u z=>by have z':(none:Option HO)=some u:=z;cases z') (λb z=>absurd rfl z) λz=>absurd rfl z
 |none=>
  refine core (λb=>if b=a then some (.frz {cls:=.type "list",data:=.seq vs.toArray} (.lst (ns.map V.int)))else none) (λb=>?_) (.inl (.inr ⟨{cls:=.type "list",data:=.seq vs.toArray},iP rfl⟩)) (λb u z=>?_) (λb z=>?_) λ_=>hk
  ·by_cases hb:b=a
   ·exact .inr ⟨_,_,iP hb⟩
   ·exact .inl (iN hb)
  ·by_cases hb:b=a
   ·have z':=(iP hb).symm.trans z;cases z';subst hb;exact⟨ha,by rw [lM];exact hl,vs,_,rv,ha⟩
   ·have z':=(iN hb).symm.trans z;cases z'
  ·by_cases hb:b=a
   ·exact hb
   ·exact absurd (iN hb) z
def walk_of{l:PySem.W.OpenLaw}{n k:Nat}{q:Program}{loose:Ai}{XP:(Str->Option Value)->Heap->Prop}{YP:World->Heap->Prop}{d:DefRec}{K:Params->PySem.W.Frag}{CX:World->CXT}{sp:World->Sp}{x:Str}
  (hn:l.most=some n) (hn2:n<=sizeLine) (hdf:d.params.defaults=[]) (hr:Room k callerA)
  (hY: ∀(w:World)(h:Heap),YP w h->(K w.params).In h)
  (F: ∀(w:World)(mg:Aj)(fa:Addr)(h:Heap),(K w.params).In h->h.Ns mainGlobals mg->mg d.name=some (.ref fa)->
   ∃fd:FuncData,(∀(s:Shared)(u:Value),BindsTo s fd ⟨[u],[]⟩ [(x,u)])/\
    ∀base:Heap,(K w.params).In base->base.Ns mainGlobals mg->FnOk l.prog w (K w.params) mg base (CX w) k fa fd [x] (sp w))
  (hsp: ∀(w:World)(H:Hp)(a:Addr)(ns:Ad),ns.length<=n->yGC H->SqL (K w.params) H a (ns.map V.int)->sp w [.ref a] H (λv _=>v=.bl true) λ_ _ _=>False)
  (hCX: ∀(w:World)(H:Hp)(s:Shared)(e:Value)(s':Shared),CX w [] H s (λ_ _ _=>False) e s'->False):
  PySem.W.WalkO q loose XP YP l.row.toRowW d [] (λf vs=>PySem.call f vs):=by
 refine Att.attach_call hn hdf λw s₀ s₁ mg mb fa o pm cd doc a vs ns G Y ho hd hcd hmg hobj hints hlen hg=>?_;have KX:=hY w _ Y;obtain⟨fd,hb,hF⟩:=F w mg fa _ KX G.T.g hmg;exact yGD KX G.T.g G.T.b G.T.builtins G.T.nolimit hg hobj hints (le_trans hlen hn2) hr hF hb (λH hO hS=>hsp w H a ns hlen hO hS) λH e s'=>hCX w H s₁ e s'
def zFU(s:Stmt):Arguments:=match s with
 |.FunctionDef _ a _ _ _ _ _ _ _ _=>a
 |_=>{posonlyargs:=[],args:=[],vararg:=none,kwonlyargs:=[],kw_defaults:=[],kwarg:=none,defaults:=[]}
def zBG(s:Stmt):List Stmt:=match s with
 |.FunctionDef _ _ b _ _ _ _ _ _ _=>b
 |_=>[]
def zH(s:Stmt):Scope:=match s with
 |.FunctionDef _ _ _ _ _ _ sc _ _ _=>sc
 |_=>{kind:=.function,names:=[],isGenerator:=false,isCoroutine:=false}
abbrev CX0:CXT:=λ_ _ _ _ _ _=>False
abbrev E0:XK:=λ_ _ _=>False
def pass0{X:Cx}:zYK CX0 X E0:=λ_ _ _ _ _ _ _ h=>h.elim
structure Fun(K:Be)(x qual:Str)(st:Stmt)(f:Addr)(fd:FuncData):Prop where
 ex: ∃(oc:Value)(od:Option Addr)(kV doc pm:Value)(an:Option Addr)(cdv ct:Value)(osl:Array (Option Value)),
  fd=PySem.W.fnOf x qual (zFU st) (zBG st) (zH st) .none kV doc pm an cdv ct/\K.lookup f=some ⟨oc,od,.func fd,osl⟩/\PySem.W.codeIn K cdv qual=true
 kp:PySem.W.keepIn K (.ref f)=true
section
variable{P:Program}{w:World}{K:Be}{mg:Aj}{base:Heap}
def Fun.ok{x qual:Str}{st:Stmt}{f:Addr}{fd:FuncData}{N ps:Ai}{k:Nat}{sp:Sp}(F:Fun K x qual st f fd)(S:FnScope N ps (zH st))(len: ∀vs H Q E,sp vs H Q E->vs.length=ps.length)
  (hbody: ∀(cdv:Value)(A:Around)(outer:List Env)(s:Shared)(H:Hp)(vs:List V)(Q:VK)(E:XK),Room k (A.deeper (envOfC qual (zH st) s.heap.objs.size f cdv))->sp vs H Q E->
   ∃t,PSs (zYL CX0 P w K mg base N qual (zH st) f cdv A outer s H E).nox (zBG st) t/\t {nx:=λ_ H'=>Q .non H',rt:=Q} (start N vs) H):FnOk P w K mg base CX0 (k+1) f fd ps sp:=by
 obtain⟨oc,od,kV,doc,pm,an,cdv,ct,osl,rfl,lk,hcd⟩:=F.ex;refine fn_of lk hcd S len λA outer s H vs Q E hr hsp=>?_;obtain⟨t,h,q⟩:=hbody cdv A outer s H vs Q E hr hsp;exact⟨t,h.nox,q⟩
def Fun.binds{x qual:Str}{st:Stmt}{f:Addr}{fd:FuncData}{ps:Ai}(F:Fun K x qual st f fd)
  (h: ∀(kV doc pm:Value)(an:Option Addr)(cdv ct:Value)(us:Ae),us.length=ps.length->bindArgs (PySem.W.fnOf x qual (zFU st) (zBG st) (zH st) .none kV doc pm an cdv ct) ⟨us,[]⟩=pure (ps.zip us)):Binds K fd ps []:=by
 obtain⟨oc,od,kV,doc,pm,an,cdv,ct,osl,rfl,lk,hcd⟩:=F.ex;exact .all (h kV doc pm an cdv ct)
def yQQ{x qual:Str}{st:Stmt}{f:Addr}{oc:Value}{od an:Option Addr}{osl:Array (Option Value)}{kV doc pm cdv ct:Value}(l:K.lookup f=some ⟨oc,od,.func (PySem.W.fnOf x qual (zFU st) (zBG st) (zH st) .none kV doc pm an cdv ct),osl⟩)
  (c:PySem.W.codeIn K cdv qual=true) (k:PySem.W.keepIn K (.ref f)=true):Fun K x qual st f (PySem.W.fnOf x qual (zFU st) (zBG st) (zH st) .none kV doc pm an cdv ct):=⟨⟨oc,od,kV,doc,pm,an,cdv,ct,osl,rfl,l,c⟩,k⟩
end
section
variable{X:Cx}
def pv(i:Nat){x:Str}{pos:Pos}(hN:X.N[i]? =some x:=by rfl)(hv:Vis X.env.scope x:=by first |exact Or.inl rfl|exact Or.inr (Or.inl rfl)|exact Or.inr (Or.inr rfl))(hd:(x==("__debug__":Str))=false:=by decide)
  (hcd:(x==("__classdict__":Str))=false:=by decide):PE X (.Name x pos) (tVar i):=yPM hN hv hd hcd
end
end L2
set_option maxHeartbeats 4000000
namespace L2
open PySem PySem.Spec PyProof.Rows
def zGX(env:Env)(l:List (Str×NameKind))(cs:List (Str×Addr)):List (Str×Addr):=
 l.foldl (λc y=>if y.2==.free then(y.1,(env.cells.lookup y.1).getD 0)::c else c) cs
def zTE{α β:Type}{l:List α}{f:α->β->Sem (ForInStep β)}{g:β->α->β}: ∀(c:β),(∀x∈l, ∀c,f x c=pure (.yield (g c x)))->
  forIn l c f=pure (l.foldl g c):=by
 induction l with
 |nil=>intro c _;rfl
 |cons x l ih=>
  intro c h;rw [forIn_cons,h x mF0,pure_bind];exact ih _ λy hy=>h y (mO _ hy)
def zQP{scope:Scope}{env:Env}(h: ∀y∈scope.names,y.2=.free-> ∃c,env.cells.lookup y.1=some c):closureFor scope env=pure (zGX env scope.names []):=by
 unfold closureFor zGX;dsimp only;rw [zTE (g:=λc y=>if y.2==.free then(y.1,(env.cells.lookup y.1).getD 0)::c else c) [] ?_]
 ·rfl
 ·intro y hy c;obtain⟨n,k⟩:=y;by_cases hk:k=.free
  ·subst hk;obtain⟨a,ha⟩:=h _ hy rfl;have ha':env.cells.lookup n=some a:=ha;simp [cellOf,ha']
  ·have e:(k==NameKind.free)=false:=by simpa using hk
   simp [e]
theorem zMS{env:Env}: ∀(l:List (Str×NameKind))(cs:List (Str×Addr)),(∀y∈l,y.2=.free-> ∃c,env.cells.lookup y.1=some c)->(∀p∈cs,env.cells.lookup p.1=some p.2)->
  ∀p∈zGX env l cs,env.cells.lookup p.1=some p.2
 |[],_,_,h=>h
 |(n,k)::l,cs,hl,h=>by
  refine zMS l _ (λy hy=>hl y (mO _ hy)) λp hp=>?_;by_cases hk:k=.free
  ·subst hk;obtain⟨c,hc⟩:=hl _ mF0 rfl;have hc':env.cells.lookup n=some c:=hc;have hp':p∈(n,(env.cells.lookup n).getD 0)::cs:=hp;rcases mC.mp hp' with rfl|hp
   ·show env.cells.lookup n=some ((env.cells.lookup n).getD 0);rw [hc'];rfl
   ·exact h p hp
  ·have hp':p∈(if(k==NameKind.free)=true then(n,(env.cells.lookup n).getD 0)::cs else cs):=hp;rw [iN (by simpa using hk)]at hp';exact h p hp'
theorem zOG{env:Env}: ∀(l:List (Str×NameKind))(cs:List (Str×Addr))(p:Str×Addr),p∈cs->p∈zGX env l cs
 |[],_,_,h=>h
 |(n,k)::l,cs,p,h=>by
  refine zOG l _ p ?_;show p∈(if(k==.free)=true then(n,(env.cells.lookup n).getD 0)::cs else cs);split
  ·exact mO _ h
  ·exact h
theorem zHI{env:Env}: ∀(l:List (Str×NameKind))(cs:List (Str×Addr))(n:Str),(n,NameKind.free)∈l-> ∃c,(n,c)∈zGX env l cs
 |[],_,_,h=>nomatch h
 |(m,k)::l,cs,n,h=>by
  rcases mC.mp h with e|h
  ·have e1:n=m:=congrArg Prod.fst e;have e2:NameKind.free=k:=congrArg Prod.snd e;subst e1 e2;exact⟨(env.cells.lookup n).getD 0,zOG l _ _ mF0⟩
  ·exact zHI l _ n h
theorem gE{β:Type}: ∀{l:List (Str×β)}{n:Str},(∃c,(n,c)∈l)-> ∃c,l.lookup n=some c
 |[],_,h=>let ⟨_,z⟩:=h;nomatch z
 |(m,b)::l,n,h=>by
  by_cases e:n=m
  ·subst e;exact⟨b,by simp [lookup_cons]⟩
  ·obtain⟨c,hc⟩:=h;rcases mC.mp hc with z|z
   ·cases z;exact absurd rfl e
   ·obtain⟨c',h'⟩:=gE ⟨c,z⟩;refine⟨c',?_⟩;have e':(n==m)=false:=by simpa using e
    simp [lookup_cons,e',h']
def zYQ(scope osc:Scope):List (Str×NameKind):=scope.names.map λ(n,k)=>if(k==.free&&osc.kind==.function&&osc.names.lookup n==some .cell)then(n,.cell)else(n,k)
def zMT(osc:Scope)(N:Ai)(sc:Scope)(idx:Ab):Bool:=
 decide (sc.kind=.function)&&sc.names.all (λy=>decide (sc.names.lookup y.1=some y.2))&&
 sc.names.all (λy=>decide (y.2≠.free) || decide (osc.names.lookup y.1=some .cell) || decide (osc.names.lookup y.1=some .free))&&
 idx.all (λi=>match N[i]? with
  |some y=>(decide (osc.names.lookup y=some .cell) || decide (osc.names.lookup y=some .free))&&decide (sc.names.lookup y=some .free)
  |none=>false)
def rlS(sc osc:Scope):Scope:={sc with names:=zYQ sc osc}
abbrev clC(env:Env)(sc:Scope)(C:Addr):List (Str×Addr):=cellsFrom (C+1) sc.names (zGX env sc.names [])
theorem wO: ∀(l:List (Str×NameKind))(n:Nat)(acc:List (Str×Addr)),cellsFrom n l acc=cellsFrom n l []++acc
 |[],n,acc=>rfl
 |(x,k)::l,n,acc=>by
  unfold cellsFrom;split
  ·rw [wO l (n+1) ((x,n)::acc),wO l (n+1) [(x,n)],aA];rfl
  ·exact wO l n acc
theorem zKA: ∀(l:List (Str×NameKind))(n:Nat){x:Str}{c:Addr},(x,c)∈cellsFrom n l []->(x,NameKind.cell)∈l/\n<=c
 |[],n,x,c,h=>nomatch h
 |(y,k)::l,n,x,c,h=>by
  unfold cellsFrom at h;split at h
  ·rename_i hk;rw [wO]at h;rcases mem_append.mp h with h|h
   ·obtain⟨h1,h2⟩:=zKA l (n+1) h;exact⟨mO _ h1,by omega⟩
   ·have e:=mS.mp h;cases e;have hk':k=.cell:=by simpa using hk
    subst hk';exact⟨mF0,le_refl _⟩
  ·obtain⟨h1,h2⟩:=zKA l n h;exact⟨mO _ h1,h2⟩
def zJT{l:List (Str×NameKind)}{C:Nat}{x:Str}{c:Addr}(h:(x,c)∈cellsFrom (C+1) l []){n:Nat}(hC:n<=C):n<c:=Nat.lt_of_le_of_lt hC (zKA l (C+1) h).2
theorem zIR: ∀(l:List (Str×NameKind))(n:Nat){x:Str},(x,NameKind.cell)∈l-> ∃c,(x,c)∈cellsFrom n l []
 |[],n,x,h=>nomatch h
 |(y,k)::l,n,x,h=>by
  unfold cellsFrom;rcases mC.mp h with e|h
  ·cases e;rw [iP (by decide),wO];exact⟨n,mem_append_right _ mF0⟩
  ·split
   ·obtain⟨c,hc⟩:=zIR l (n+1) h;rw [wO];exact⟨c,mem_append_left _ hc⟩
   ·exact zIR l n h
theorem own_apart: ∀(l:List (Str×NameKind))(n:Nat),(cellsFrom n l []).Pairwise λx y=>x.2≠y.2
 |[],n=>List.Pairwise.nil
 |(y,k)::l,n=>by
  unfold cellsFrom;split
  ·rw [wO];refine pairwise_append.mpr ⟨own_apart l (n+1),List.pairwise_singleton _ _,λa ha b hb e=>?_⟩;rw [mS.mp hb]at e;have:=(zKA l (n+1) (x:=a.1) (c:=a.2) ha).2;exact ne_of_gt this e
  ·exact own_apart l n
theorem zFV{β:Type}(x:Str): ∀(l m:List (Str×β)),(l++m).lookup x=(l.lookup x).or (m.lookup x)
 |[],m=>rfl
 |(y,b)::l,m=>by
  rw [cons_append,lookup_cons,lookup_cons]
  cases x==y with
  |true=>rfl
  |false=>exact zFV x l m
theorem zRV{β:Type}{x:Str}: ∀{l:List (Str×β)},(∀c,(x,c)∉l)->l.lookup x=none
 |[],_=>rfl
 |(y,b)::l,h=>by
  rw [lookup_cons]
  cases e:x==y with
  |true=>rw [beq_iff_eq.mp e]at h;exact absurd mF0 (h b)
  |false=>exact zRV λc hc=>h c (mO _ hc)
def zBW{env:Env}{sc:Scope}{C:Addr}{x:Str}{c:Addr}(e:(clC env sc C).lookup x=some c):(x,c)∈cellsFrom (C+1) sc.names []\/(zGX env sc.names []).lookup x=some c:=by
 unfold clC at e;rw [wO,zFV]at e
 cases z:(cellsFrom (C+1) sc.names []).lookup x with
 |some c'=>rw [z]at e;cases e;exact .inl (PySem.mem_of_lookup z)
 |none=>rw [z]at e;exact .inr e
def yQR{env:Env}{sc:Scope}{C:Addr}{x:Str}{c:Addr}(h:(x,NameKind.cell)∈sc.names)(e:(clC env sc C).lookup x=some c):(x,c)∈cellsFrom (C+1) sc.names []:=by unfold clC at e;rw [wO,zFV]at e;obtain⟨c',h'⟩:=gE (zIR sc.names (C+1) h);rw [h']at e;cases e;exact PySem.mem_of_lookup h'
theorem yLO{env:Env}{sc:Scope}{C:Addr}{x:Str}(h:(x,NameKind.cell)∉sc.names):(clC env sc C).lookup x=(zGX env sc.names []).lookup x:=by unfold clC;rw [wO,zFV,zRV λc hc=>h (zKA _ _ hc).1];rfl
def zLI(σ:St)(idx:Ab):St:=idx.map λi=>(σ[i]?).join
def zDP(σ:St)(idx:Ab):(zLI σ idx).length=idx.length:=by unfold zLI;rw [lM]
def yE(X:Cx)(sc:Scope)(T:Ai)(idx:Ab)(C:Addr)(s₂:Shared)(H1:Hp)(fp:Ah):Cx where
 prog:=X.prog
 w:=X.w
 K:=X.K
 mg:=X.mg
 base:=X.base
 A:=X.A
 N:=T++idx.map λi=>(X.N[i]?).getD Str.empty
 s₀:=s₂
 H₀:=H1
 env:=compEnvC sc (clC X.env sc C) C X.env
 outer:=X.stack
 stack:=X.stack
 ex:=fp
 fn:=λx=>sc.names.lookup x==some .cell
 calm:=X.calm
 pn:=[]
 xe:=λ_ _=>False
def yGE(wi:TI)(g:TG)(tc:Addr->Shared->Hp->List Addr->TT)(te:Addr->Shared->Hp->List Addr->TE)(nt:Nat)(idx:Ab):TE:=λσ H Q=>wi σ H λJ H1=> ∃W:Nat->Nat->List V->Hp->Prop,(∃m,W 0 m [] H1)/\ ∀i m ys H2,W i m ys H2->ys.length<=sizeLine/\
 ((J.stop i H2/\ ∀D,H2 D=none->Q (.ref D) (upd H2 D (.lst ys)))\/
   (J.go i H2/\ys.length<sizeLine/\ ∀x H3,J.yld i H2 x H3-> ∀τ:St,τ.length=nt->g x (τ++zLI σ idx) H3 λσ4 H4=>(∃τ',σ4=τ'++zLI σ idx/\τ'.length=nt)/\
    ∀C s₂ fp,tc C s₂ H1 fp σ4 H4 λb H5=>if b=true then te C s₂ H1 fp σ4 H5 λy H6=> ∃m',m'<m/\W (i+1) m' (ys++[y]) H6 else∃m',m'<m/\W (i+1) m' ys H5))
section
variable{prog:Program}{w:World}{A:Around}{R:Result->Shared->Prop}{s:Shared}
def zTF{elt target iter:Expr}{ifs:Bd}{scope:Scope}{pos:Pos}{it acc:Value}{env:Env}(I:Nat->Shared->Prop)
  (turn: ∀n s,I n s->wpAny (model prog w) A (pyNext it) (λr s₁=>match r with
   |none=>R (.ok .next) s₁
   |some v=>wpAny (model prog w) A (letOwnedTupleGo target it v) (λ_ s₁'=>wpAny (model prog w) A (assign target env v) (λ_ s₂=>
     wpAny (model prog w) A (forIn ifs true λc r=>if r=true then do let ok <-isTrue c env (eval c env);pure (ForInStep.yield ok)else pure (ForInStep.yield r)) (λok s₃=>
      if ok=true then wpAny (model prog w) A (eval elt env) (λx s₄=>
       wpAny (model prog w) A (call (.builtin "list.append") [acc,x]) (λ_ s₅=> ∃m,m<n/\I m s₅) (λ_ _=>False) s₄) (λ_ _=>False) s₃
      else∃m,m<n/\I m s₃) (λ_ _=>False) s₂) (λ_ _=>False) s₁') (λ_ _=>False) s₁) (λ_ _=>False) s)
  (n:Nat) (h:I n s):codeAny (model prog w) A (.compLoop (.ListComp elt [⟨target,iter,ifs,0⟩] scope pos) 0 it acc env) R s:=by
 refine codeAny_loop rfl I (λn s hI=>?_) n h;show wpAny _ A ((compTurn (.ListComp elt [⟨target,iter,ifs,0⟩] scope pos) 0 it acc env).onRaise (λx=>do noteFrame x env;theTreesLotGoes x)) _ _ s;refine wpAny_noted ?_;rw [compTurn_list];have no: ∀{E':VP}(v:Value)(s':Shared),False->E' v s':=λ_ _ z=>z.elim;refine wB0 (wpAny_standAt (wB0 (wpAny_mono (turn n s hI) (λr s₁ h₁=>?_) (no))))
 cases r with
 |none=>exact wP0 h₁
 |some v=>
  refine wB0 (wpAny_mono h₁ (λ_ s₁' h₁'=>wB0 (wpAny_mono h₁' (λ_ s₂ h₂=>wB0 (wpAny_mono h₂ (λok s₃ h₃=>?_) no)) no)) no)
  cases ok with
  |false=>exact wP0 ⟨rfl,h₃⟩
  |true=>
   exact wB0 (wB0 (wpAny_mono h₃ (λx s₄ h₄=>wB0 (wpAny_mono h₄ (λ_ s₅ h₅=>wP0 (wP0 ⟨rfl,h₅⟩)) no)) no))
end
def yDV(X:Cx)(ifs:Bd)(t:TT):Prop:=
 ∀(pins:Ba)(s:Shared)(σ:St)(H:Hp)(Q:Bool->Hp->Prop),Inv X pins σ H s->t σ H Q->
  wpAny (model X.prog X.w) X.A (forIn ifs true λc r=>if r=true then do let ok <-isTrue c X.env (eval c X.env);pure (ForInStep.yield ok)else pure (ForInStep.yield r)) (TP X pins σ Q) X.xe s
def tNoIf:TT:=λ_ H Q=>Q true H
def yGF{X:Cx}:yDV X [] tNoIf:=λ_ _ _ H _ I h=>wpAny_tests_nil ⟨H,I,h⟩
def yGG{X:Cx}{c:Expr}{t:TT}(h:PT X c t):yDV X [c] t:=λpins s σ H Q I q=>wpAny_tests_one (h pins s σ H Q I q)
structure CompF(osc:Scope)(N:Ai)(sc:Scope)(idx:Ab):Prop where
 kind:sc.kind=.function
 uni: ∀y∈sc.names,sc.names.lookup y.1=some y.2
 frees: ∀y∈sc.names,y.2=.free->osc.names.lookup y.1=some .cell\/osc.names.lookup y.1=some .free
 cap: ∀i∈idx, ∃y,N[i]? =some y/\(osc.names.lookup y=some .cell\/osc.names.lookup y=some .free)/\sc.names.lookup y=some .free
def CompF.locs{osc:Scope}{N:Ai}{sc:Scope}{idx:Ab}(F:CompF osc N sc idx): ∀y∈sc.names,y.2=.local->sc.names.lookup y.1=some .local:=λy hy e=>by rw [F.uni y hy,e]
def yLP{osc:Scope}{N:Ai}{sc:Scope}{idx:Ab}(h:zMT osc N sc idx=true):CompF osc N sc idx:=by
 unfold zMT at h;simp only [aE,all_eq_true,decide_eq_true_eq,or_eq_true]at h;obtain⟨⟨⟨h1,h2⟩,h4⟩,h5⟩:=h;refine⟨h1,λy hy=>h2 y hy,λy hy e=>?_,λi hi=>?_⟩
 ·rcases h4 y hy with(z|z)|z
  ·exact absurd e z
  ·exact .inl z
  ·exact .inr z
 ·have q:=h5 i hi
  cases e:N[i]? with
  |none=>rw [e]at q;cases q
  |some y=>
   rw [e]at q;simp only [aE,decide_eq_true_eq,or_eq_true]at q;exact⟨y,rfl,q.1,q.2⟩
def yGH{sc osc:Scope}{x:Str}(h:(zYQ sc osc).lookup x=some .cell\/(zYQ sc osc).lookup x=some .free):(x,NameKind.free)∈sc.names\/(x,NameKind.cell)∈sc.names:=by
 have key: ∀k',(k'=.cell\/k'=.free)->(x,k')∈zYQ sc osc->(x,NameKind.free)∈sc.names\/(x,NameKind.cell)∈sc.names:=by
  intro k' hk' hm;unfold zYQ at hm;obtain⟨⟨n,k⟩,hy,e⟩:=mM.mp hm;dsimp only at e;split at e
  ·rename_i hc;cases e;rw [aE,aE]at hc;have:k=.free:=by simpa using hc.1.1
   subst this;exact .inl hy
  ·cases e;rcases hk' with rfl|rfl
   ·exact .inr hy
   ·exact .inl hy
 rcases h with h|h
 ·exact key _ (.inl rfl) (PySem.mem_of_lookup h)
 ·exact key _ (.inr rfl) (PySem.mem_of_lookup h)
theorem zRW{osc:Scope}{x:Str}: ∀{l:List (Str×NameKind)},l.lookup x=some .free->(l.map λ(n,k)=>if(k==NameKind.free&&osc.kind==.function&&osc.names.lookup n==some .cell)then(n,NameKind.cell)else(n,k)).lookup x=some .cell\/(l.map λ(n,k)=>if(k==NameKind.free&&osc.kind==.function&&osc.names.lookup n==some .cell)then(n,NameKind.cell)else(n,k)).lookup x=some .free
 |[],h=>by simp at h
 |(n,k)::l,h=>by
  have ih:=@zRW osc x l;rw [lookup_cons]at h;rw [map_cons];by_cases hc:(k==NameKind.free&&osc.kind==.function&&osc.names.lookup n==some .cell)=true
  ·dsimp only;rw [iP hc,lookup_cons]
   cases hx:x==n with
   |true=>exact .inl rfl
   |false=>rw [hx]at h;exact ih h
  ·dsimp only;rw [iN hc,lookup_cons]
   cases hx:x==n with
   |true=>rw [hx]at h;exact .inr h
   |false=>rw [hx]at h;exact ih h
section
variable{X:Cx}{pins:Ba}{σ:St}{H1:Hp}{s₂:Shared}{sc:Scope}{T:Ai}{idx:Ab}{C:Addr}{fp:Ah}
def zVO(I:Inv X pins σ H1 s₂)(F:CompF X.env.scope X.N sc idx): ∀y∈sc.names,y.2=.free-> ∃c,X.env.cells.lookup y.1=some c:=
 λy hy e=>I.ok.has y.1 (F.frees y hy e)
def jH(I:Inv X pins σ H1 s₂)(F:CompF X.env.scope X.N sc idx){x:Str}{c:Addr}(e:(zGX X.env sc.names []).lookup x=some c):X.env.cells.lookup x=some c:=
 zMS sc.names [] (zVO I F) (λ_ z=>nomatch z) (x,c) (PySem.mem_of_lookup e)
def yLQ(I:Inv X pins σ H1 s₂)(F:CompF X.env.scope X.N sc idx){x:Str}{c:Addr}(hx:(x,NameKind.free)∈sc.names)(e:X.env.cells.lookup x=some c):(zGX X.env sc.names []).lookup x=some c:=by obtain⟨c',h'⟩:=gE (zHI (env:=X.env) sc.names [] x hx);rw [h'];rw [jH I F h']at e;exact e
def yDW(I:Inv X pins σ H1 s₂)(F:CompF X.env.scope X.N sc idx)(hC:s₂.heap.objs.size<=C)(hfp: ∀b∈fp,zJL X pins H1 b)(hlt: ∀b∈fp,b<s₂.heap.objs.size):(yE X sc T idx C s₂ H1 fp).Ok where
 mod:=I.ok.mod
 kind:=F.kind
 glob:=I.ok.glob
 blt:=I.ok.blt
 above:=hC
 inj:=λx y c h1 h2=>by
  have low: ∀z,(zGX X.env sc.names []).lookup z=some c->c<s₂.heap.objs.size:=λz h=>let ⟨v,q⟩:=I.cell z c (jH I F h);q.lt;rcases zBW h1 with z1|z1<;>rcases zBW h2 with z2|z2
  ·exact PySem.name_of_addr (own_apart sc.names (C+1)) z1 z2
  ·exact absurd (low y z2) (not_lt.mpr (le_of_lt (zJT z1 hC)))
  ·exact absurd (low x z1) (not_lt.mpr (le_of_lt (zJT z2 hC)))
  ·exact I.ok.inj x y c (jH I F z1) (jH I F z2)
 has:=λx hx=>by
  have hx':(zYQ sc X.env.scope).lookup x=some .cell\/(zYQ sc X.env.scope).lookup x=some .free:=hx;show∃c,(clC X.env sc C).lookup x=some c;unfold clC;rw [wO];rcases yGH hx' with z|z
  ·obtain⟨c,hc⟩:=zHI (env:=X.env) sc.names [] x z;exact gE ⟨c,mem_append_right _ hc⟩
  ·obtain⟨c,hc⟩:=zIR sc.names (C+1) z;exact gE ⟨c,mem_append_left _ hc⟩
 cab:=λx c h e=>by have h':sc.names.lookup x=some .cell:=beq_iff_eq.mp h;exact le_of_lt (zJT (yQR (PySem.mem_of_lookup h') e) hC)
 hd:=I.ok.hd
 frames:=I.ok.frames
 stk:=.inl rfl
 exf:=λb hb=>⟨ne_of_lt (lt_of_lt_of_le (hlt b hb) hC),λx c e=>by
  rcases zBW e with z|z
  ·exact ne_of_gt (lt_trans (hlt b hb) (zJT z hC))
  ·exact(hfp b hb).2.2.2.2.1 x c (jH I F z)⟩
 bs:=I.bs
 bsz:=le_trans I.ok.bsz I.sz
 noex:=λb o e hb=>by
  rcases (hfp b hb).2.2.2.1 with z|z
  ·exact I.ok.noex b o e z
  ·exact absurd (lt_of_lt_of_le (Heap.lt_size e) (le_trans I.ok.bsz z)) (lt_irrefl _)
 exfs:=λb hb z=>by
  rcases mC.mp (I.stkSub b z)with e|e
  ·exact(hfp b hb).2.1 e
  ·exact(hfp b hb).2.2.1 e
 funs:=I.stack
 frf:=I.stkFree
def zYR{s₄:Shared}{m:Aj}(I:Inv X pins σ H1 s₂)(F:CompF X.env.scope X.N sc idx)(hC:s₂.heap.objs.size<=C)(hfp: ∀b∈fp,zJL X pins H1 b)(hlt: ∀b∈fp,b<s₂.heap.objs.size)
  (kp: ∀b o,s₂.heap.get? b=some o->s₄.heap.get? b=some o) (ho:s₄.os=s₂.os) (hg:s₄.gens=s₂.gens) (hn:s₄.heap.Ns C m) (hcl: ∀x c,(x,c)∈cellsFrom (C+1) sc.names []->s₄.heap.IsCell c none):
  Inv (yE X sc T idx C s₂ H1 fp) [] (T.map (λ_=>none)++zLI σ idx) H1 s₄:=by
 have cellK: ∀c v,s₂.heap.IsCell c v->s₄.heap.IsCell c v:=λc v ⟨o,h1,h2⟩=>⟨o,kp c o h1,h2⟩
 refine⟨yDW I F hC hfp hlt,ho,by rw [hg];exact I.bare,Un.kept kp,⟨m,hn,λi x v e1 e2 e3=>?_⟩,λx c e=>?_,I.hok.fresh hC,λx c e=>?_,λp hp=>absurd (show p∈([]:Ba)from hp) (by simp),I.hok.kept kp,?_⟩
 ·have e1':(T++idx.map λi=>(X.N[i]?).getD Str.empty)[i]? =some x:=e1;by_cases hi:i<T.length
  ·rw [getElem?_append_left (by simpa using hi),getElem?_map]at e2
   cases z:T[i]? with
   |none=>rw [z]at e2;cases e2
   |some y=>rw [z]at e2;cases e2
  ·rw [getElem?_append_right (by simpa using hi)]at e2;rw [getElem?_append_right (by omega)]at e1';rw [lM]at e2;unfold zLI at e2;rw [getElem?_map]at e1' e2
   cases z:idx[i - T.length]? with
   |none=>rw [z]at e2;cases e2
   |some j=>
    rw [z]at e1' e2;have hj:j∈idx:=mem_of_getElem? z;obtain⟨y,hy,k1,k2⟩:=F.cap j hj;have ex:y=x:=by have q:(X.N[j]?).getD Str.empty=x:=Option.some.inj e1';rw [hy]at q;exact q
    subst ex
    have ev:σ[j]? =some (some v):=by
     have q:(σ[j]?).join=some v:=Option.some.inj e2
     cases w':σ[j]? with
     |none=>rw [w']at q;cases q
     |some a=>rw [w']at q;have q':a=some v:=q;rw [q']
    obtain⟨m0,hn0,hl0⟩:=I.loc;have vis:Vis X.env.scope y:=k1.elim (λz=>.inr (.inl z)) λz=>.inr (.inr z);obtain⟨u,r,l⟩:=hl0 j y v hy ev vis;refine⟨u,r,?_⟩;rcases l with⟨kl,_⟩|⟨_,c,hc,q⟩
    ·have kl':X.env.scope.names.lookup y=some .local:=kl;rcases k1 with z|z<;>rw [z]at kl'<;>cases kl'
    ·have nc:(y,NameKind.cell)∉sc.names:=λz=>by have:=F.uni _ z;rw [k2]at this;cases this
     refine .inr ⟨zRW (osc:=X.env.scope) k2,c,?_,cellK c _ q⟩;show(clC X.env sc C).lookup y=some c;rw [yLO nc];exact yLQ I F (PySem.mem_of_lookup k2) hc
 ·rcases zBW e with z|z
  ·exact⟨none,hcl x c z⟩
  ·obtain⟨v,q⟩:=I.cell x c (jH I F z);exact⟨v,cellK c v q⟩
 ·rcases zBW e with z|z
  ·exact I.hok.fresh (le_of_lt (zJT z hC))
  ·exact I.freeC x c (jH I F z)
 ·show(T.map (λ_=>(none:Option V))++zLI σ idx).length=(T++idx.map λi=>(X.N[i]?).getD Str.empty).length;rw [lA,lA,lM,lM,zDP]
def zYS{σ1:St}{H':Hp}{s':Shared}{h':Heap}{D:Addr}{ys:List V}{its:Ae}{n:Nat}(I:Inv X pins σ H1 s₂)(hC:s₂.heap.objs.size<=C)(hfp: ∀b∈fp,zJL X pins H1 b)
  (J:Inv (yE X sc T idx C s₂ H1 fp) [] σ1 H' s') (hs:Heap.SameBut C s'.heap h') (hD:s₂.heap.objs.size<=D) (hDC:D≠C) (eD:s'.heap.get? D=some {cls:=.type "list",data:=.seq its.toArray n}) (nD:H' D=none) (r:Vals ys its) (hz:ys.length<=sizeLine):
  Inv X pins σ (upd H' D (.lst ys)) {s' with heap:=h'}:=by
 have old: ∀b o,s₂.heap.get? b=some o->b≠C/\b≠D:=λb o e=>⟨ne_of_lt (lt_of_lt_of_le (Heap.lt_size e) hC),ne_of_lt (lt_of_lt_of_le (Heap.lt_size e) hD)⟩
 have oldH: ∀b u,H1 b=some u->b≠D:=λb u e=>ne_of_lt (lt_of_lt_of_le (I.hok.lt e) hD);have nC:H' C=none:=J.free;have B:Un (frs X.stack) fp H1 H' s₂.heap s'.heap:=J.base;have mv: ∀b o,b≠C->s'.heap.get? b=some o->h'.get? b=some o:=λb o hb e=>(hs.2 b hb).trans e;refine I.call' (s':={s' with heap:=h'}) (ch:=fp) J.os ⟨λb o e q hb hx=>?_,λb o e q hb hx=>?_,λb o e q hx=>?_,λb o e hx=>?_,λb xs e=>?_,λb o u e=>?_,λb ps e=>?_⟩ ?_ J.bare λb hb=>⟨(hfp b hb).2.2.2.1,(hfp b hb).2.1,(hfp b hb).2.2.2.2.1,(hfp b hb).2.2.2.2.2⟩
 ·exact mv b o (old b o e).1 (B.keep b o e q hb hx)
 ·obtain⟨sl,z⟩:=B.slot b o e q hb hx;exact⟨sl,mv b _ (old b o e).1 z⟩
 ·rw [zU (old b o e).2];exact B.free b o e q hx
 ·obtain⟨o',z⟩:=B.there b o e hx;exact⟨o',mv b o' (old b o e).1 z⟩
 ·rw [zU (oldH b _ e)];exact B.tups b xs e
 ·rw [zU (oldH b _ e)];exact B.frzs b o u e
 ·obtain⟨more,z⟩:=B.tbls b ps e;exact⟨more,by rw [zU (oldH b _ e)];exact z⟩
 ·intro b u e;by_cases hb:b=D
  ·subst hb;rw [yV]at e;cases e;exact⟨hz,its,n,r,mv b _ hDC eD⟩
  ·rw [zU hb]at e;refine(J.hok b u e).stay (λc v hc q=>mv c v ?_ q) (λc q=>by rw [zU (yB q nD)];exact q) λc xs q=>by rw [zU (yB q nD)];exact q
   rcases hc with z|z
   ·rw [z];exact yB e nC
   ·exact yB z nC
end
section
variable{X:Cx}
def zQQ{M:Model}{A:Around}{E:VP}{s:Shared}{scope:Scope}{globals:Addr}{closure:List (Str×Addr)}{qual:Str}{outer:Env}{Q:Env->Shared->Prop}
  (hQ:Q (newEnv scope s.heap.objs.size globals (cellsFrom (s.heap.objs.size+1) scope.names closure) qual none .none (some outer) builtinsNs) {s with heap:=pushCells (s.heap.push {cls:=.type "dict",data:=.dict #[]}) scope.names}):
  wpAny M A (newFunctionEnv scope globals closure [] qual none .none (some outer)) Q E s:=by
 simp only [newFunctionEnv,Option.isSome_some,if_true];refine wB0 (wpAny_alloc ?_);refine wB0 (wpAny_layCells _ (λname kind cells=>by cases hkc:kind==NameKind.cell<;>simp [hkc]) _ _ _ _ ?_);rw [show({s with heap:=s.heap.push {cls:=.type "dict",data:=.dict #[]}}:Shared).heap.objs.size=s.heap.objs.size+1 from Heap.size_push ..];simp only [forIn_nil];exact wB0 (wP0 (wP0 hQ))
def zVP{elt tg iter:Expr}{ifs:Bd}{pos:Pos}{sc:Scope}{wi:TI}{g:TG}{tc:Addr->Shared->Hp->List Addr->TT}{te:Addr->Shared->Hp->List Addr->TE}(T:Ai)(idx:Ab)
  (hi:PI X tg iter wi) (hcalm:X.calm=true) (hB:zMT X.env.scope X.N sc idx=true)
  (hg: ∀C s₂ H1 fp,PG (yE X sc T idx C s₂ H1 fp) tg g)
  (hc: ∀C s₂ H1 fp,yDV (yE X sc T idx C s₂ H1 fp) ifs (tc C s₂ H1 fp))
  (he: ∀C s₂ H1 fp,PE (yE X sc T idx C s₂ H1 fp) elt (te C s₂ H1 fp))
  (hs: ∀x,foldedSetIterable iter X.env x=pure x:=by intro _;rfl)
  {pins:Ba} {s:Shared} {σ:St} {H:Hp} {Q:VK} {use:Option (Value->Sem Unit)} {Q':VP} (I:Inv X pins σ H s) (h:yGE wi g tc te T.length idx σ H Q)
  (fin: ∀(D C:Addr)(s4:Shared)(H':Hp)(r:_),(∀h',Heap.SameBut C s4.heap h'->Inv X pins σ H' {s4 with heap:=h'})->zJL X pins H' C->(∃m,s4.heap.Ns C m)->Q (.ref D) H'->
   compPost (model X.prog X.w) X.A X.xe use Q' (.ref D) C (.ok r) s4):
  wpAny (model X.prog X.w) X.A (comprehension (.ListComp elt [⟨tg,iter,ifs,0⟩] sc pos) sc X.env (firstIterPos [⟨tg,iter,ifs,0⟩] pos) (newList []) false (eval iter X.env) use) Q' X.xe s:=by
 have cf:=yLP hB;refine wpAny_comprehension_free (use:=use) (cl:=zGX X.env sc.names []) rfl hs (zQP (zVO I cf)) cf.kind cf.locs ?_;refine thn (hi pins s σ H _ I h) λv s1 h1=>thn h1 λitv s2 h2=>?_;obtain⟨it,fp,tn,J,H2,e,I2,Tn,st2,f2,W,⟨m0,w0⟩,turn⟩:=h2;subst e;have hlt: ∀b∈fp,b<s2.heap.objs.size:=λb hb=>let ⟨o,e,_⟩:=Tn.obj _ _ st2 b hb;Heap.lt_size e;refine wpAny_newObj_type (zQQ ?_);dsimp only;generalize hH2:s2.heap.push {cls:=.type "list",dict:=none,data:=.seq ([]:Ae).toArray}=HH;generalize hh1:pushCells (HH.push {cls:=.type "dict",data:=.dict #[]}) sc.names=h₁;have hns₁:h₁.Ns HH.objs.size (λ_=>none):=hh1▸(Heap.Ns.new HH (.type "dict")).keeps (pushCells_keeps _ _);have hC:HH.objs.size=s2.heap.objs.size+1:=by rw [<-hH2,Heap.size_push]
 have hDC:s2.heap.objs.size≠HH.objs.size:=by rw [hC];exact ne_of_lt (lt_succ_self _)
 have hCle:s2.heap.objs.size<=HH.objs.size:=by rw [hC];exact le_succ _
 have up1: ∀b o,HH.get? b=some o->h₁.get? b=some o:=λb o e=>hh1▸pushCells_keeps _ _ b o (hP0 _ e);have old: ∀b o,s2.heap.get? b=some o->h₁.get? b=some o:=λb o e=>up1 b o (hH2▸hP0 _ e);have eD0:h₁.get? s2.heap.objs.size=some {cls:=.type "list",data:=.seq ([]:Ae).toArray 0}:=up1 _ _ (hH2▸Heap.get?_push_size _ rfl);have hcl: ∀x c,(x,c)∈cellsFrom (HH.objs.size+1) sc.names []->h₁.IsCell c none:=λx c hm=>by have ok:=cellsFrom_ok sc.names (HH.push {cls:=.type "dict",data:=.dict #[]}) 0 [] ⟨λ_ _ hm=>(nomatch hm),List.Pairwise.nil⟩ (zero_le _);rw [Heap.size_push,hh1]at ok;exact(ok.empty x c hm).1
 have nD0:H2 s2.heap.objs.size=none:=I2.hok.fresh (le_refl _)
 have cD: ∀x c,(clC X.env sc HH.objs.size).lookup x=some c->c≠s2.heap.objs.size:=λx c e=>by
  rcases zBW e with z|z
  ·exact ne_of_gt (zJT z hCle)
  ·obtain⟨v,q⟩:=I2.cell x c (jH I2 cf z);exact ne_of_lt q.lt
 have loop: ∀s4:Shared,s4={s2 with heap:=h₁}->
   codeAny (model X.prog X.w) X.A (.compLoop (.ListComp elt [⟨tg,iter,ifs,0⟩] sc pos) 0 (.ref it) (.ref s2.heap.objs.size) (compEnvC sc (clC X.env sc HH.objs.size) HH.objs.size X.env))
    (compPost (model X.prog X.w) X.A X.xe use Q' (.ref s2.heap.objs.size) HH.objs.size) s4:=by
  rintro s4 rfl
  have J0:Inv (yE X sc T idx HH.objs.size s2 H2 fp) [] (T.map (λ_=>none)++zLI σ idx) H2 {s2 with heap:=h₁}:=
   zYR I2 cf hCle f2 hlt old rfl rfl hns₁ hcl
  refine zTF (λk s'=> ∃(i:Nat)(ys:List V)(its:Ae)(n:Nat)(H':Hp)(τ:St),Inv (yE X sc T idx HH.objs.size s2 H2 fp) [] (τ++zLI σ idx) H' s'/\τ.length=T.length/\tn i s'.heap/\(∀b∈fp,H' b=none)/\
   s'.heap.get? s2.heap.objs.size=some {cls:=.type "list",data:=.seq its.toArray n}/\H' s2.heap.objs.size=none/\Vals ys its/\W i k ys H') ?_ m0
   ⟨0,[],[],0,H2,T.map (λ_=>none),J0,by rw [lM],Tn.keep _ _ _ st2 λb _ o e=>old b o e,λb hb=>(f2 b hb).1,eD0,nD0,.nil,w0⟩
  rintro k s3 ⟨i,ys,its,n,H3,τ,I3,hτ,st3,fr3,eD3,nD3,r3,w3⟩;obtain⟨hz,alt⟩:=turn i k ys H3 w3;have hDfs:s2.heap.objs.size∉(yE X sc T idx HH.objs.size s2 H2 fp).fs:=λz=>by obtain⟨_,o,ho,_⟩:=I2.stack.mem (show s2.heap.objs.size∈frs X.stack from z);exact absurd (Heap.lt_size ho) (lt_irrefl _)
  have pinD: ∀{H':Hp}{s':Shared},s'.heap.get? s2.heap.objs.size=some {cls:=.type "list",data:=.seq its.toArray n}->H' s2.heap.objs.size=none->
    ∀p∈[(s2.heap.objs.size,({cls:=.type "list",data:=.seq its.toArray n}:Obj))],s'.heap.get? p.1=some p.2/\H' p.1=none/\p.1≠(yE X sc T idx HH.objs.size s2 H2 fp).env.locals/\p.1∉(yE X sc T idx HH.objs.size s2 H2 fp).fs/\ ∀v,p.2.data≠.cell v:=
   λ{H' s'} e1 e2 p hp=>by
    have ep:p=(s2.heap.objs.size,{cls:=.type "list",data:=.seq its.toArray n}):=by simpa using hp
    subst ep;exact⟨e1,e2,hDC,hDfs,λv z=>by cases z⟩
  have P3:Inv (yE X sc T idx HH.objs.size s2 H2 fp) [(s2.heap.objs.size,{cls:=.type "list",data:=.seq its.toArray n})] (τ++zLI σ idx) H3 s3:=I3.pins_of (pinD eD3 nD3)
  have stat: ∀{H':Hp},(∀b∈fp,H' b=none)-> ∀b∈fp,zJL (yE X sc T idx HH.objs.size s2 H2 fp) [(s2.heap.objs.size,{cls:=.type "list",data:=.seq its.toArray n})] H' b:=λ{H'} hn b hb=>by
   have hb2:=hlt b hb;refine⟨hn b hb,ne_of_lt (lt_of_lt_of_le hb2 hCle),I3.ok.exfs b hb,.inl hb,λx c e=>?_,λp hp=>?_⟩
   ·rcases zBW e with z|z
    ·exact ne_of_gt (lt_trans hb2 (zJT z hCle))
    ·exact(f2 b hb).2.2.2.2.1 x c (jH I2 cf z)
   have ep:p=(s2.heap.objs.size,({cls:=.type "list",data:=.seq its.toArray n}:Obj)):=by simpa [yE]using hp
   subst ep;exact ne_of_gt hb2
  rcases alt with⟨stop,q⟩|⟨go,hl2,step⟩
  ·refine thn (Tn.done (yE X sc T idx HH.objs.size s2 H2 fp) rfl rfl rfl hcalm i _ s3 _ H3 (λ_ _=>False) P3 (stat fr3) st3 stop) λr s4 ⟨hr,I4⟩=>?_;subst hr;obtain⟨m,hn,_⟩:=id I4.loc;have eD4:=(I4.pin (s2.heap.objs.size,{cls:=.type "list",data:=.seq its.toArray n}) (by simp)).1;exact fin _ _ s4 _ _ (λh' hs'=>zYS I2 hCle f2 (I4.pins_of (λp hp=>nomatch hp)) hs' (le_refl _) hDC eD4 nD3 r3 hz) (I2.fpOk hCle (by rw [zU (Ne.symm hDC)];exact I4.free)) ⟨m,hn⟩ (q _ nD3)
  ·refine thn (Tn.item (yE X sc T idx HH.objs.size s2 H2 fp) rfl rfl rfl hcalm i _ s3 _ H3 (λ_ _=>False) P3 (stat fr3) st3 go) λr s4 ⟨u,hr,h4⟩=>?_;subst hr;refine thn h4 λ_ s5 ⟨x,H5,I5,r5,y5,st5,fr5⟩=>?_;have I5':=I5.pinned (stat fr5) (Tn.obj _ _ st5);refine thn (hg HH.objs.size s2 H2 fp _ s5 _ H5 x u _ I5' r5 (step x H5 y5 τ hτ)) λ_ s6 ⟨σ6,H6,I6,⟨τ',e6,l6⟩,q6⟩=>?_;subst e6;refine thn (hc HH.objs.size s2 H2 fp _ s6 _ H6 _ I6 (q6 HH.objs.size s2 fp)) λok s7 ⟨H7,I7,q7⟩=>?_
   have mD:(s2.heap.objs.size,({cls:=.type "list",data:=.seq its.toArray n}:Obj))∈(yE X sc T idx HH.objs.size s2 H2 fp).pn++([(s2.heap.objs.size,{cls:=.type "list",data:=.seq its.toArray n})]++zLH fp s5.heap):=
    mem_append_right _ (mem_append_left _ (by simp))
   have mF: ∀b∈fp, ∀o,s5.heap.get? b=some o->(b,o)∈(yE X sc T idx HH.objs.size s2 H2 fp).pn++([(s2.heap.objs.size,{cls:=.type "list",data:=.seq its.toArray n})]++zLH fp s5.heap):=λb hb o e=>
    mem_append_right _ (mem_append_right _ (zJR hb e))
   cases ok with
   |false=>
    rw [iN xF0]at q7 ⊢;obtain⟨m',hm',w7⟩:=q7;refine⟨m',hm',i+1,ys,its,n,H7,τ',I7.pins_of (λp hp=>nomatch hp),l6,Tn.keep _ _ _ st5 λb hb o e=>(I7.pin _ (mF b hb o e)).1,λb hb=>?_,(I7.pin _ mD).1,(I7.pin _ mD).2.1,r3,w7⟩;obtain⟨o,e,d⟩:=Tn.obj _ _ st5 b hb;exact(I7.pin _ (mF b hb o e)).2.1
   |true=>
    rw [iP rfl]at q7 ⊢;refine thn (he HH.objs.size s2 H2 fp _ s7 _ H7 _ I7 q7) λy s8 ⟨yv,H8,I8,r8,m',hm',w8⟩=>?_;have eD8:=(I8.pin _ mD).1;have nD8:=(I8.pin _ mD).2.1;have hl:=r3.length;have q:=PySem.IsL.update eD8 (λz=>z.push y);rw [show its.toArray.push y=(its++[y]).toArray by simp]at q;refine call_meets PySem.F.slot_list_append ⟨_,eD8,rfl⟩ PySem.F.entry_list_append (PySem.F.args_list_append_2 _ _) (PySem.list_append s2.heap.objs.size its.toArray n y (by rw [sA];omega)) ⟨eD8,?_⟩;have I9:Inv (yE X sc T idx HH.objs.size s2 H2 fp) [] (τ'++zLI σ idx) H8 s8:=I8.pins_of (λp hp=>nomatch hp);have up: ∀b o,b≠s2.heap.objs.size->s8.heap.get? b=some o->(s8.heap.update s2.heap.objs.size (Obj.mapSeq λz=>z.push y)).get? b=some o:=λb o hb e=>(Heap.get?_update_other s8.heap _ (Ne.symm hb)).trans e;refine⟨m',hm',i+1,ys++[yv],its++[y],_,H8,τ',I9.turned (t':=s8.toks) up nD8 hDC (.inr (le_refl _)) cD (λp hp=>nomatch hp),l6,?_,λb hb=>?_,q,nD8,r3.append (.cons r8 .nil),w8⟩
    ·exact Tn.keep _ _ _ st5 λb hb o e=>up b o (ne_of_lt (hlt b hb)) (I8.pin _ (mF b hb o e)).1
    ·obtain⟨o,e,d⟩:=Tn.obj _ _ st5 b hb;exact(I8.pin _ (mF b hb o e)).2.1
 exact codeAny_compStart_list (loop _ rfl) (Tn.self X.A 0 _ _ _ (Tn.keep _ _ _ st2 λb _ o e=>old b o e) (loop _ rfl))
def yLR{elt tg iter:Expr}{ifs:Bd}{pos:Pos}{sc:Scope}{wi:TI}{g:TG}{tc:Addr->Shared->Hp->List Addr->TT}{te:Addr->Shared->Hp->List Addr->TE}(T:Ai)(idx:Ab)
  (hi:PI X tg iter wi) (hcalm:X.calm=true) (hB:zMT X.env.scope X.N sc idx=true)
  (hg: ∀C s₂ H1 fp,PG (yE X sc T idx C s₂ H1 fp) tg g)
  (hc: ∀C s₂ H1 fp,yDV (yE X sc T idx C s₂ H1 fp) ifs (tc C s₂ H1 fp))
  (he: ∀C s₂ H1 fp,PE (yE X sc T idx C s₂ H1 fp) elt (te C s₂ H1 fp))
  (hs: ∀x,foldedSetIterable iter X.env x=pure x:=by intro _;rfl):
  PE X (.ListComp elt [⟨tg,iter,ifs,0⟩] sc pos) (yGE wi g tc te T.length idx):=by
 intro pins s σ H Q I h;rw [eval_ListComp];exact zVP T idx hi hcalm hB hg hc he hs (use:=none) I h λD C s4 H' r J _ ⟨m,hn⟩ q=>⟨m,hn,λh' hs'=>⟨.ref D,H',J h' hs',rfl,q⟩⟩
end
def mkS(x:Ab):Str:=⟨x.toArray⟩
def jI(x:Ab):(mkS x).length=x.length:=by simp [mkS,Str.length]
def zIS(x:Ab):(mkS x).cps.toList=x:=by simp [mkS]
def zIT{x y:Ab}(h:mkS x=mkS y):x=y:=by have:=congrArg (λs=>s.cps.toList) h;simpa [mkS]using this
def yLS(x y:Ab):mkS x++mkS y=mkS (x++y):=by show Str.append (mkS x) (mkS y)=_;simp [Str.append,mkS]
theorem yLT(c:Nat):(⟨#[c]⟩:Str)=mkS [c]:=rfl
def bD{α:Type}(xs:List α)(lo hi:Bc):List α:=(xs.drop (HT.sIx xs.length 0 lo)).take (HT.sIx xs.length xs.length hi - HT.sIx xs.length 0 lo)
theorem strIdx(lo hi:Bc)(n:Nat):Builtin.Str.strSliceIndices lo hi 1 n=(List.range (HT.sIx n n hi - HT.sIx n 0 lo)).map (HT.sIx n 0 lo+·):=by
 have e1:(match lo with |none=>(if(1:Int)>0 then(0:Int)else(n:Int) - 1)|some i=>if(1:Int)>0 then max 0 (min (if i<0 then i+(n:Int)else i) (n:Int))else max (-1) (min (if i<0 then i+(n:Int)else i) ((n:Int) - 1)))=((HT.sIx n 0 lo:Nat):Int):=by
  cases lo with
  |none=>simp [HT.sIx]
  |some i=>
   simp only [HT.sIx,show(1:Int)>0 by decide,if_true];by_cases h:i<0
   ·simp only [h,if_true];omega
   ·simp only [h,iF];omega
 have e2:(match hi with |none=>(if(1:Int)>0 then(n:Int)else -1)|some i=>if(1:Int)>0 then max 0 (min (if i<0 then i+(n:Int)else i) (n:Int))else max (-1) (min (if i<0 then i+(n:Int)else i) ((n:Int) - 1)))=((HT.sIx n n hi:Nat):Int):=by
  cases hi with
  |none=>simp [HT.sIx]
  |some i=>
   simp only [HT.sIx,show(1:Int)>0 by decide,if_true];by_cases h:i<0
   ·simp only [h,if_true];omega
   ·simp only [h,iF];omega
 rw [<-sliceRange_one];unfold Builtin.Str.strSliceIndices;dsimp only;rw [<-e1, <-e2];cases lo<;>cases hi<;>rfl
theorem yDX(x:Ab)(lo hi:Bc):Txt.slice (mkS x) lo hi=mkS (bD x lo hi):=by
 unfold Txt.slice;rw [strIdx,jI];have hp:((List.range (HT.sIx x.length x.length hi - HT.sIx x.length 0 lo)).map (HT.sIx x.length 0 lo+·)).filterMap ((mkS x).cps[·]?)=bD x lo hi:=by have:=pick_run (mkS x).cps (HT.sIx x.length 0 lo) (HT.sIx x.length x.length hi - HT.sIx x.length 0 lo);rw [zIS]at this;exact this
 rw [hp];split
 ·rename_i hc;rw [aE]at hc;have hl:HT.sIx x.length x.length hi - HT.sIx x.length 0 lo=x.length:=by simpa using hc.2
  have h2:HT.sIx x.length x.length hi<=x.length:=HT.sIx_le _ _ (le_refl _) _;have h3:HT.sIx x.length 0 lo<=x.length:=HT.sIx_le _ _ (zero_le _) _;have e:HT.sIx x.length 0 lo=0:=by omega
  unfold bD;rw [hl,e];simp
 ·rfl
section
variable{X:Cx}
def rSlS:V->Option Int->Option Int->Hp->VK->Prop:=λx lo hi H Q=> ∃cs,x=.str (mkS cs)/\cs.length<=sizeLine/\Q (.str (mkS (bD cs lo hi))) H
def yQS:SlR X rSlS:=by
 intro pins s σ H x v vl vu lo hi sl Q I rx hs pl pu h;obtain⟨cs,rfl,hz,q⟩:=h;obtain⟨t,rfl⟩:=rx;have hl:(Txt.slice (mkS cs) lo hi).length<=sizeLine:=le_trans (Txt.slice_le _ _ _) (by rw [jI];exact hz);rw [<-yDX]at q;refine⟨"str",_,slot_str_getitem.lookup,typeIs_str _ _ _,?_⟩;obtain⟨o,ho,hc,hd⟩:=hs
 cases pl with
 |none=>
  cases pu with
  |none=>exact wpAny_getItem_str_slice (l:=none) (u:=none) (st:=none) ⟨o,ho,hc,hd⟩ rfl (post_val_or_str ⟨hl,λt' k=>⟨.str _,H,I.tok _,⟨_,rfl⟩,q⟩⟩)
  |int j uj=>exact wpAny_getItem_str_slice (l:=none) (u:=some (j,uj)) (st:=none) ⟨o,ho,hc,hd⟩ rfl (post_val_or_str ⟨hl,λt' k=>⟨.str _,H,I.tok _,⟨_,rfl⟩,q⟩⟩)
 |int i ui=>
  cases pu with
  |none=>exact wpAny_getItem_str_slice (l:=some (i,ui)) (u:=none) (st:=none) ⟨o,ho,hc,hd⟩ rfl (post_val_or_str ⟨hl,λt' k=>⟨.str _,H,I.tok _,⟨_,rfl⟩,q⟩⟩)
  |int j uj=>exact wpAny_getItem_str_slice (l:=some (i,ui)) (u:=some (j,uj)) (st:=none) ⟨o,ho,hc,hd⟩ rfl (post_val_or_str ⟨hl,λt' k=>⟨.str _,H,I.tok _,⟨_,rfl⟩,q⟩⟩)
def zOH(cs:Ab)(k:Int):List Nat:=(List.replicate k.toNat cs).flatten
theorem zLJ(cs:Ab): ∀(k:Nat)(acc:Ab),List.foldl (λx1 x2=>x1++x2) acc.toArray (List.replicate k cs.toArray)=(acc++(List.replicate k cs).flatten).toArray
 |0,acc=>by simp
 |k+1,acc=>by rw [replicate_succ,foldl_cons,replicate_succ,flatten_cons, <-aA, <-zLJ cs k (acc++cs)];simp
def zYT:OpR X (binaryOp .Mult) (λx y H Q=> ∃cs k,x=.str (mkS cs)/\y=.int k/\0<=k/\k<1000/\cs.length<=1000/\Q (.str (mkS (zOH cs k))) H):=by
 intro pins s σ H x y v u Q I rx ry h;obtain⟨cs,k,rfl,rfl,h0,h1,hc,q⟩:=h;obtain⟨t,rfl⟩:=rx;obtain⟨t',rfl⟩:=ry;have hs:sizeLine=16777216:=sizeLine_eq;have hprod:cs.length * k.toNat<=1000 * 1000:=Nat.mul_le_mul hc (by omega);have e: ∀b,Q (.str b) H->b=mkS (zOH cs k)->True:=λ_ _ _=>trivial;refine PySem.P.mul_str (by rw [dF0 (by omega),dF0 (by omega)];rfl) (λh2 _=>?_) (λ_ _=>?_) ?_
 ·rw [jI];have hk:1<=k:=by omega
  have:(1000:Int)<=(2 ^ 63 - 1) / k:=by rw [Int.le_ediv_iff_mul_le (by omega)];omega
  omega
 ·rw [jI];unfold PySem.Builtin.Str.tooLong;exact dF0 (by omega)
 ·have made: ∀(z:Str),z=mkS (zOH cs k)->z.length<=sizeLine->(Made.str z).post (EP X pins σ Q) s:=λz ez hz=>⟨hz,by rw [ez];exact⟨.str _,H,I.tok _,⟨_,rfl⟩,q⟩⟩
  have hlen:(zOH cs k).length=k.toNat * cs.length:=by unfold zOH;rw [len_rep]
  by_cases hn:k<1
  ·rw [iP hn];have hk:k.toNat=0:=by omega
   refine made _ ?_ (by decide);unfold zOH;rw [hk];rfl
  ·rw [iN hn];by_cases h3:(k==1 || (mkS cs).length==0)=true
   ·rw [iP h3];refine⟨.str (mkS cs),H,I,⟨_,rfl⟩,?_⟩
    have:zOH cs k=cs:=by
     unfold zOH;rw [or_eq_true]at h3;rcases h3 with h3|h3
     ·have:k=1:=by simpa using h3
      subst this;simp
     ·rw [jI]at h3;have:cs=[]:=by cases cs with |nil=>rfl|cons _ _=>simp at h3
      subst this;simp
    rw [this]at q;exact q
   ·rw [iN h3];refine made _ ?_ ?_
    ·unfold zOH mkS;have:=zLJ cs k.toNat [];rw [nil_append]at this;exact congrArg Str.mk this
    ·have e3:(List.foldl (λx1 x2=>x1++x2) #[] (List.replicate k.toNat (mkS cs).cps))=(zOH cs k).toArray:=by have:=zLJ cs k.toNat [];rw [nil_append]at this;exact this
     show(List.foldl (λx1 x2=>x1++x2) #[] (List.replicate k.toNat (mkS cs).cps)).size<=sizeLine;rw [e3,sA,hlen,Nat.mul_comm];omega
def zTG:CallR X (.builtin "all") (λxs H Q=> ∃(a:Addr)(bs:Bb),xs=[.ref a]/\SqL X.K H a (bs.map V.bl)/\X.calm=true/\Q (.bl (bs.all id)) H):=by
 intro pins s σ H xs us Q I r h;obtain⟨a,bs,rfl,hq,hc,q⟩:=h;obtain⟨u,rfl,ru⟩:=vals1 r;cases ru;obtain⟨its,rv,pl,hz⟩:=I.list hq;have hlen:its.length=bs.length:=by rw [<-rv.length,lM]
 refine PySem.call_all_walk (wpAny_pyIter_list pl.isList ?_);have hI:a≠s.heap.objs.size:=by obtain⟨o,ho,_⟩:=pl.isList;exact ne_of_lt (Heap.lt_size ho)
 have I1: ∀(h':Heap)(tk:Nat),(∀b o,b∉[s.heap.objs.size]->(s.heap.push {cls:=.type "list_iterator",data:=.fields #[.ref a,.int 0 0]}).get? b=some o->h'.get? b=some o)->Inv X pins σ H {s with heap:=h',toks:=tk}:=λh' tk k=>
  I.kept λb o e=>k b o (by simpa using ne_of_lt (Heap.lt_size e)) (hP0 _ e)
 refine⟨s.heap.objs.size,[s.heap.objs.size,a],[s.heap.objs.size],its.toArray.size,_,_,λi=>bs.getD i false,rfl,PySem.Walks.list (by first |exact I.ok.hd hc|exact(show X.A.in1.handled=none from I.ok.hd hc)) _ a hI its.toArray,⟨⟨_,Heap.get?_push_size _ rfl,rfl,rfl⟩,pl.isList.at λo e=>hP0 _ e⟩,?_,λh' tk k=>?_⟩
 ·intro i v s' Q' E' hv hQ';have hv':its[i]? =some v:=by simpa using hv
  have hi:i<bs.length:=by rw [<-hlen];exact(gS0.mp hv').1
  have hb:(bs.map V.bl)[i]? =some (V.bl (bs.getD i false)):=by rw [getElem?_map,gE0 hi];simp [getD_eq_getElem?_getD,hi]
  obtain⟨u',hu',rv'⟩:=rv.get hb;rw [hv']at hu';cases hu';cases rv';exact wpAny_truthy_bool hQ'
 ·refine⟨.bl (bs.all id),H,I1 h' tk k,?_,q⟩;show Value.bool _=Value.bool _;congr 1;rw [sA,hlen]
  have: ∀(l:Bb),(List.range l.length).all (λi=>l.getD i false)=l.all id:=by
   intro l;rw [Bool.eq_iff_iff,all_eq_true,all_eq_true];constructor
   ·intro h x hx;obtain⟨i,hi,rfl⟩:=getElem_of_mem hx;have:=h i (mem_range.mpr hi);simpa [getD_eq_getElem?_getD,hi]using this
   ·intro h i hi;have hi':=mem_range.mp hi;have:=h l[i] (getElem_mem hi');simpa [getD_eq_getElem?_getD,hi']using this
  exact this bs
def Its(x:Ab):It:=⟨λi _=>i<x.length,λi H v H'=>H'=H/\ ∃c,x[i]? =some c/\v=.str (mkS [c]),λi _=>x.length<=i⟩
def iStr(tl:TE):TI:=λσ H R=>tl σ H λv H1=> ∃x,v=.str (mkS x)/\R (Its x) H1
def zVQ{P:Program}{w:World}{K:Be}{tg:Expr}(it:Addr)(ty:String)(x:Ab)(t:Tok)(hty:ty="str_ascii_iterator"\/ty="str_iterator"):
  Turn P w K tg (Its x) [it] it (λi h=>h.IsStrIter it ty (mkS x) t i) where
 mem:=by simp
 obj:=λi h st b hb=>by
  have e:b=it:=by simpa using hb
  subst e;obtain⟨o,e,c,d⟩:=st;exact⟨o,e,λv z=>by rw [d]at z;cases z⟩
 keep:=λi h h' st k=>let ⟨o,ho,r⟩:=st;⟨o,k it (by simp) o ho,r⟩
 item:=by
  intro X hP hw hK hc i pins s σ H E I hf st hg;subst hP hw hK;obtain⟨f0,f1,f2,f3,f4,f5⟩:=hf it (by simp);have hi:i<x.length:=hg;have hxi:(mkS x).cps[i]? =some x[i]:=by simp [mkS,hi]
  have fin: ∀(h':Heap),h'.IsStrIter it ty (mkS x) t (i+1)->Heap.SameBut it s.heap h'-> ∃u,some (Value.str ⟨#[x[i]]⟩ s.toks)=some u/\
    wpAny (model X.prog X.w) X.A (letOwnedTupleGo tg (.ref it) u) (λ_ s2=> ∃y H',Inv X pins σ H' s2/\RelV y u/\(Its x).yld i H y H'/\s2.heap.IsStrIter it ty (mkS x) t (i+1)/\ ∀b∈[it],H' b=none) E {s with heap:=h',toks:=s.toks+1}:=λh' st' sb=>by
   have I1:Inv X pins σ H {s with heap:=h',toks:=s.toks+1}:=I.turned (λb o hb e=>(sb.2 b hb).trans e) f0 f1 f3 f4 f5;obtain⟨o,e,c,d⟩:=id st';refine⟨_,rfl,yAK (s:={s with heap:=h',toks:=s.toks+1}) e c d (by rcases hty with rfl|rfl<;>decide) ⟨.str (mkS [x[i]]),H,I1,⟨_,rfl⟩,⟨rfl,x[i],by simp [hi],rfl⟩,st',λb hb=>(hf b hb).1⟩⟩
  rcases hty with rfl|rfl
  ·exact wpAny_pyNext_ascii_item st hxi λh' st' sb=>fin h' st' sb
  ·exact wpAny_pyNext_wide_item st hxi λh' st' sb=>fin h' st' sb
 done:=by
  intro X hP hw hK hc i pins s σ H E I hf st hg;subst hP hw hK;obtain⟨f0,f1,f2,f3,f4,f5⟩:=hf it (by simp);have hi:x.length<=i:=hg;have hxi:(mkS x).cps[i]? =none:=by simp [mkS,hi]
  rcases hty with rfl|rfl
  ·exact wpAny_pyNext_ascii_end (I.ok.hd hc) st hxi λh' eb=>⟨rfl,I.turned (t':=s.toks) (λb o hb e=>eb b o hb e) f0 f1 f3 f4 f5⟩
  ·exact wpAny_pyNext_wide_end (I.ok.hd hc) st hxi λh' eb=>⟨rfl,I.turned (t':=s.toks) (λb o hb e=>eb b o hb e) f0 f1 f3 f4 f5⟩
 self:=λ_ _ _ _ _ st h=>by
  rcases hty with rfl|rfl
  ·exact wpAny_pyIter_striter_ascii st h
  ·exact wpAny_pyIter_striter_wide st h
def yQT{tg l:Expr}{tl:TE}(hl:PE X l tl):PI X tg l (iStr tl):=by
 intro pins s σ H R I h;refine thn (hl pins s σ H _ I h) λv s1 ⟨x,H1,I1,r1,q1⟩=>?_;obtain⟨cs,e,q⟩:=q1;subst e;obtain⟨t,rfl⟩:=r1
 have fp: ∀(o:Obj), ∀b∈[s1.heap.objs.size],zJL X pins H1 b:=λo b hb=>by
  have e:b=s1.heap.objs.size:=by simpa using hb
  subst e;exact I1.fpOk (le_refl _) (I1.hok.fresh (le_refl _))
 cases ha:(mkS cs).cps.all (· <128)
 ·refine wpAny_pyIter_wide ha ?_;exact⟨s1.heap.objs.size,[s1.heap.objs.size],_,_,H1,rfl,I1.kept (t':=s1.toks) λb o e=>hP0 _ e,zVQ _ "str_iterator" cs t (.inr rfl),⟨_,Heap.get?_push_size _ rfl,rfl,rfl⟩,fp default,q⟩
 ·refine wpAny_pyIter_ascii ha ?_;exact⟨s1.heap.objs.size,[s1.heap.objs.size],_,_,H1,rfl,I1.kept (t':=s1.toks) λb o e=>hP0 _ e,zVQ _ "str_ascii_iterator" cs t (.inl rfl),⟨_,Heap.get?_push_size _ rfl,rfl,rfl⟩,fp default,q⟩
end
section
variable{X:Cx}
def PU(X:Cx)(e:Expr)(t:TE):Prop:= ∀(i:Nat)(x:Str)(pos' pos:Pos),X.N.Nodup->X.N[i]? =some x->Loc X.env.scope x->(X.fn x=true\/X.env.scope.names.lookup x=some .local)->
 swapsWith e (some (.Name x pos')) pos.line X.env=pure true->PS X (.Assign [.Name x pos'] e pos) (tAsg t (yFQ i))
def yLU{elt tg iter:Expr}{ifs:Bd}{pos:Pos}{sc:Scope}{wi:TI}{g:TG}{tc:Addr->Shared->Hp->List Addr->TT}{te:Addr->Shared->Hp->List Addr->TE}(T:Ai)(idx:Ab)
  (hi:PI X tg iter wi) (hcalm:X.calm=true) (hB:zMT X.env.scope X.N sc idx=true)
  (hg: ∀C s₂ H1 fp,PG (yE X sc T idx C s₂ H1 fp) tg g)
  (hc: ∀C s₂ H1 fp,yDV (yE X sc T idx C s₂ H1 fp) ifs (tc C s₂ H1 fp))
  (he: ∀C s₂ H1 fp,PE (yE X sc T idx C s₂ H1 fp) elt (te C s₂ H1 fp))
  (hs: ∀x,foldedSetIterable iter X.env x=pure x:=by intro _;rfl):
  PU X (.ListComp elt [⟨tg,iter,ifs,0⟩] sc pos) (yGE wi g tc te T.length idx):=by
 intro i x pos' spos hN hix hx hf hsw pins s σ H D I h;rw [exec_Assign_Name_used _ _ _ _ hsw];refine wB0 (wpAny_standAt (wB0 ?_));rw [arm_evalThenUse_ListComp];refine wB0 (thn (zVP T idx hi hcalm hB hg hc he hs (use:=some (assign (.Name x pos') X.env)) (Q':=λ_ s'=> ∃σ' H',Inv X pins σ' H' s'/\D.nx σ' H') I h λDd C s4 H' _ J4 fo hm q=>?_) λ_ s' hq=>wP0 (wP0 hq));have I4:=J4 s4.heap (Heap.SameBut.refl _ _);refine wpAny_assign_Name (zRL I4 hN hix hx (show RelV (.ref Dd) (.ref Dd)from rfl) (λs' I' ⟨a,hs',ha⟩=>?_) hf);obtain⟨m,hm⟩:=hm
 have hCa:C≠a:=by
  rintro rfl;rcases ha with ha|ha
  ·exact fo.2.1 ha
  ·exact fo.2.2.2.2.1 x _ ha rfl
 refine⟨m,hm.sameBut hs' hCa,λh' hs''=>⟨_,H',?_,q⟩⟩;exact I'.turned (t':=s'.toks) (λb o hb e=>(hs''.2 b hb).trans e) fo.1 fo.2.1 fo.2.2.2.1 fo.2.2.2.2.1 fo.2.2.2.2.2
end
end L2
namespace L2
namespace M
open PySem PySem.Spec PyProof.Rows
def yQU{A:Around}{s:Shared}{y x:V}{u v:Value}(ry:RelV y u)(rx:RelV x v)(fy:kP y=true)(fx:kP x=true):SeqAt.RcAt A s u v (eqV y x):=by
 cases y with
 |non=>
  cases ry
  cases x with
  |non=>cases rx;exact SeqAt.RcAt.none_none
  |bl b=>cases rx;exact SeqAt.RcAt.none_bool b
  |int b=>obtain⟨t,rfl⟩:=rx;exact SeqAt.RcAt.none_int b t
  |str b=>obtain⟨t,rfl⟩:=rx;exact SeqAt.RcAt.none_str b t
  |_=>exact absurd (show false=true from fx) xF0
 |bl a=>
  cases ry
  cases x with
  |non=>cases rx;exact SeqAt.RcAt.bool_none a
  |bl b=>cases rx;exact SeqAt.RcAt.bool_bool a b
  |int b=>obtain⟨t,rfl⟩:=rx;exact SeqAt.RcAt.bool_int a b t
  |str b=>obtain⟨t,rfl⟩:=rx;exact SeqAt.RcAt.bool_str a b t
  |_=>exact absurd (show false=true from fx) xF0
 |int a=>
  obtain⟨t',rfl⟩:=ry
  cases x with
  |non=>cases rx;exact SeqAt.RcAt.int_none a t'
  |bl b=>cases rx;exact SeqAt.RcAt.int_bool a t' b
  |int b=>obtain⟨t,rfl⟩:=rx;exact SeqAt.RcAt.int_int a t' b t
  |str b=>obtain⟨t,rfl⟩:=rx;exact SeqAt.RcAt.int_str a t' b t
  |_=>exact absurd (show false=true from fx) xF0
 |str a=>
  obtain⟨t',rfl⟩:=ry
  cases x with
  |non=>cases rx;exact SeqAt.RcAt.str_none a t'
  |bl b=>cases rx;exact SeqAt.RcAt.str_bool a t' b
  |int b=>obtain⟨t,rfl⟩:=rx;exact SeqAt.RcAt.str_int a t' b t
  |str b=>obtain⟨t,rfl⟩:=rx;exact SeqAt.RcAt.str_str a t' b t
  |_=>exact absurd (show false=true from fx) xF0
 |_=>exact absurd (show false=true from fy) xF0
def yQV{A:Around}{s:Shared}{y x:V}{u v:Value}(ry:RelV y u)(rx:RelV x v)(fy:kP y=true)(fx:kP x=true):SeqAt.RcNeAt A s u v (!eqV y x):=by
 cases y with
 |non=>
  cases ry
  cases x with
  |non=>cases rx;exact SeqAt.RcNeAt.none_none
  |bl b=>cases rx;exact SeqAt.RcNeAt.none_bool b
  |int b=>obtain⟨t,rfl⟩:=rx;exact SeqAt.RcNeAt.none_int b t
  |str b=>obtain⟨t,rfl⟩:=rx;exact SeqAt.RcNeAt.none_str b t
  |_=>exact absurd (show false=true from fx) xF0
 |bl a=>
  cases ry
  cases x with
  |non=>cases rx;exact SeqAt.RcNeAt.bool_none a
  |bl b=>cases rx;exact SeqAt.RcNeAt.bool_bool a b
  |int b=>obtain⟨t,rfl⟩:=rx;exact SeqAt.RcNeAt.bool_int a b t
  |str b=>obtain⟨t,rfl⟩:=rx;exact SeqAt.RcNeAt.bool_str a b t
  |_=>exact absurd (show false=true from fx) xF0
 |int a=>
  obtain⟨t',rfl⟩:=ry
  cases x with
  |non=>cases rx;exact SeqAt.RcNeAt.int_none a t'
  |bl b=>cases rx;exact SeqAt.RcNeAt.int_bool a t' b
  |int b=>obtain⟨t,rfl⟩:=rx;exact SeqAt.RcNeAt.int_int a t' b t
  |str b=>obtain⟨t,rfl⟩:=rx;exact SeqAt.RcNeAt.int_str a t' b t
  |_=>exact absurd (show false=true from fx) xF0
 |str a=>
  obtain⟨t',rfl⟩:=ry
  cases x with
  |non=>cases rx;exact SeqAt.RcNeAt.str_none a t'
  |bl b=>cases rx;exact SeqAt.RcNeAt.str_bool a t' b
  |int b=>obtain⟨t,rfl⟩:=rx;exact SeqAt.RcNeAt.str_int a t' b t
  |str b=>obtain⟨t,rfl⟩:=rx;exact SeqAt.RcNeAt.str_str a t' b t
  |_=>exact absurd (show false=true from fx) xF0
 |_=>exact absurd (show false=true from fy) xF0
def eq_ll{A:Around}{s:Shared}{x:V}{v:Value}{l:Addr}{items:Ag}(rx:RelV x v)(fx:kP x=true)(hl:s.heap.IsList l items)(hu:A.units<cLine):SeqAt.EqAt A s (.ref l) v false:=by
 cases x with
 |non=>cases rx;exact SeqAt.EqAt.list_none hl hu
 |bl b=>cases rx;exact SeqAt.EqAt.list_bool b hl hu
 |int b=>obtain⟨t,rfl⟩:=rx;exact SeqAt.EqAt.list_int b t hl hu
 |str b=>obtain⟨t,rfl⟩:=rx;exact SeqAt.EqAt.list_str b t hl hu
 |_=>exact absurd (show false=true from fx) xF0
def eq_lr{A:Around}{s:Shared}{x:V}{v:Value}{l:Addr}{items:Ag}(rx:RelV x v)(fx:kP x=true)(hl:s.heap.IsList l items)(hu:A.units<cLine):SeqAt.EqAt A s v (.ref l) false:=by
 cases x with
 |non=>cases rx;exact SeqAt.EqAt.none_list hl hu
 |bl b=>cases rx;exact SeqAt.EqAt.bool_list b hl hu
 |int b=>obtain⟨t,rfl⟩:=rx;exact SeqAt.EqAt.int_list b t hl hu
 |str b=>obtain⟨t,rfl⟩:=rx;exact SeqAt.EqAt.str_list b t hl hu
 |_=>exact absurd (show false=true from fx) xF0
def eq_tl{A:Around}{s:Shared}{x:V}{v:Value}{l:Addr}{items:Ag}(rx:RelV x v)(fx:kP x=true)(hl:s.heap.IsTuple l items)(hu:A.units<cLine):SeqAt.EqAt A s (.ref l) v false:=by
 cases x with
 |non=>cases rx;exact SeqAt.EqAt.tuple_none hl hu
 |bl b=>cases rx;exact SeqAt.EqAt.tuple_bool b hl hu
 |int b=>obtain⟨t,rfl⟩:=rx;exact SeqAt.EqAt.tuple_int b t hl hu
 |str b=>obtain⟨t,rfl⟩:=rx;exact SeqAt.EqAt.tuple_str b t hl hu
 |_=>exact absurd (show false=true from fx) xF0
def eq_tr{A:Around}{s:Shared}{x:V}{v:Value}{l:Addr}{items:Ag}(rx:RelV x v)(fx:kP x=true)(hl:s.heap.IsTuple l items)(hu:A.units<cLine):SeqAt.EqAt A s v (.ref l) false:=by
 cases x with
 |non=>cases rx;exact SeqAt.EqAt.none_tuple hl hu
 |bl b=>cases rx;exact SeqAt.EqAt.bool_tuple b hl hu
 |int b=>obtain⟨t,rfl⟩:=rx;exact SeqAt.EqAt.int_tuple b t hl hu
 |str b=>obtain⟨t,rfl⟩:=rx;exact SeqAt.EqAt.str_tuple b t hl hu
 |_=>exact absurd (show false=true from fx) xF0
def rc_ll{A:Around}{s:Shared}{x:V}{v:Value}{l:Addr}{items:Ag}(rx:RelV x v)(fx:kP x=true)(hl:s.heap.IsList l items)(hu:A.units<cLine):SeqAt.RcAt A s (.ref l) v false:=by
 cases x with
 |non=>cases rx;exact SeqAt.RcAt.list_none hl hu
 |bl b=>cases rx;exact SeqAt.RcAt.list_bool b hl hu
 |int b=>obtain⟨t,rfl⟩:=rx;exact SeqAt.RcAt.list_int b t hl hu
 |str b=>obtain⟨t,rfl⟩:=rx;exact SeqAt.RcAt.list_str b t hl hu
 |_=>exact absurd (show false=true from fx) xF0
def rc_lr{A:Around}{s:Shared}{x:V}{v:Value}{l:Addr}{items:Ag}(rx:RelV x v)(fx:kP x=true)(hl:s.heap.IsList l items)(hu:A.units<cLine):SeqAt.RcAt A s v (.ref l) false:=by
 cases x with
 |non=>cases rx;exact SeqAt.RcAt.none_list hl hu
 |bl b=>cases rx;exact SeqAt.RcAt.bool_list b hl hu
 |int b=>obtain⟨t,rfl⟩:=rx;exact SeqAt.RcAt.int_list b t hl hu
 |str b=>obtain⟨t,rfl⟩:=rx;exact SeqAt.RcAt.str_list b t hl hu
 |_=>exact absurd (show false=true from fx) xF0
def rc_tl{A:Around}{s:Shared}{x:V}{v:Value}{l:Addr}{items:Ag}(rx:RelV x v)(fx:kP x=true)(hl:s.heap.IsTuple l items)(hu:A.units<cLine):SeqAt.RcAt A s (.ref l) v false:=by
 cases x with
 |non=>cases rx;exact SeqAt.RcAt.tuple_none hl hu
 |bl b=>cases rx;exact SeqAt.RcAt.tuple_bool b hl hu
 |int b=>obtain⟨t,rfl⟩:=rx;exact SeqAt.RcAt.tuple_int b t hl hu
 |str b=>obtain⟨t,rfl⟩:=rx;exact SeqAt.RcAt.tuple_str b t hl hu
 |_=>exact absurd (show false=true from fx) xF0
def rc_tr{A:Around}{s:Shared}{x:V}{v:Value}{l:Addr}{items:Ag}(rx:RelV x v)(fx:kP x=true)(hl:s.heap.IsTuple l items)(hu:A.units<cLine):SeqAt.RcAt A s v (.ref l) false:=by
 cases x with
 |non=>cases rx;exact SeqAt.RcAt.none_tuple hl hu
 |bl b=>cases rx;exact SeqAt.RcAt.bool_tuple b hl hu
 |int b=>obtain⟨t,rfl⟩:=rx;exact SeqAt.RcAt.int_tuple b t hl hu
 |str b=>obtain⟨t,rfl⟩:=rx;exact SeqAt.RcAt.str_tuple b t hl hu
 |_=>exact absurd (show false=true from fx) xF0
def rn_ll{A:Around}{s:Shared}{x:V}{v:Value}{l:Addr}{items:Ag}(rx:RelV x v)(fx:kP x=true)(hl:s.heap.IsList l items)(hu:A.units<cLine):SeqAt.RcNeAt A s (.ref l) v true:=by
 cases x with
 |non=>cases rx;exact SeqAt.RcNeAt.list_none hl hu
 |bl b=>cases rx;exact SeqAt.RcNeAt.list_bool b hl hu
 |int b=>obtain⟨t,rfl⟩:=rx;exact SeqAt.RcNeAt.list_int b t hl hu
 |str b=>obtain⟨t,rfl⟩:=rx;exact SeqAt.RcNeAt.list_str b t hl hu
 |_=>exact absurd (show false=true from fx) xF0
def rn_lr{A:Around}{s:Shared}{x:V}{v:Value}{l:Addr}{items:Ag}(rx:RelV x v)(fx:kP x=true)(hl:s.heap.IsList l items)(hu:A.units<cLine):SeqAt.RcNeAt A s v (.ref l) true:=by
 cases x with
 |non=>cases rx;exact SeqAt.RcNeAt.none_list hl hu
 |bl b=>cases rx;exact SeqAt.RcNeAt.bool_list b hl hu
 |int b=>obtain⟨t,rfl⟩:=rx;exact SeqAt.RcNeAt.int_list b t hl hu
 |str b=>obtain⟨t,rfl⟩:=rx;exact SeqAt.RcNeAt.str_list b t hl hu
 |_=>exact absurd (show false=true from fx) xF0
def rn_tl{A:Around}{s:Shared}{x:V}{v:Value}{l:Addr}{items:Ag}(rx:RelV x v)(fx:kP x=true)(hl:s.heap.IsTuple l items)(hu:A.units<cLine):SeqAt.RcNeAt A s (.ref l) v true:=by
 cases x with
 |non=>cases rx;exact SeqAt.RcNeAt.tuple_none hl hu
 |bl b=>cases rx;exact SeqAt.RcNeAt.tuple_bool b hl hu
 |int b=>obtain⟨t,rfl⟩:=rx;exact SeqAt.RcNeAt.tuple_int b t hl hu
 |str b=>obtain⟨t,rfl⟩:=rx;exact SeqAt.RcNeAt.tuple_str b t hl hu
 |_=>exact absurd (show false=true from fx) xF0
def rn_tr{A:Around}{s:Shared}{x:V}{v:Value}{l:Addr}{items:Ag}(rx:RelV x v)(fx:kP x=true)(hl:s.heap.IsTuple l items)(hu:A.units<cLine):SeqAt.RcNeAt A s v (.ref l) true:=by
 cases x with
 |non=>cases rx;exact SeqAt.RcNeAt.none_tuple hl hu
 |bl b=>cases rx;exact SeqAt.RcNeAt.bool_tuple b hl hu
 |int b=>obtain⟨t,rfl⟩:=rx;exact SeqAt.RcNeAt.int_tuple b t hl hu
 |str b=>obtain⟨t,rfl⟩:=rx;exact SeqAt.RcNeAt.str_tuple b t hl hu
 |_=>exact absurd (show false=true from fx) xF0
def yGI{y:V}(h:kP y=true):eqV y y=true:=by cases y<;>first |rfl|(simp [eqV];done)|exact absurd (show false=true from h) xF0
section
variable{prog:Program}{w:World}(knd:KeyKind prog w Key)




variable{knd}


end
section
variable{prog:Program}{w:World}
abbrev mk(prog:Program)(w:World):KeyKind prog w Key:=yP prog w
end
end M
end L2
namespace L2
open PySem PySem.Spec PyProof.Rows
def Fly(h:Heap)(e T:Addr)(cls:Value)(d:Option Addr)(fl:Value):Prop:=
 ∃oe vs oT ts,h.get? e=some oe/\oe.cls=cls/\oe.dict=d/\oe.data=.fields vs/\vs[1]? =some (.ref T)/\T≠e/\h.get? T=some oT/\oT.data=.fields ts/\ts[3]? =some fl
structure Mvd(fs:Ah)(e T:Addr)(h h':Heap):Prop where
 keep: ∀b o,b≠e->b≠T->b∉fs->h.get? b=some o->h'.get? b=some o
 slot: ∀b o,b≠e->b≠T->h.get? b=some o-> ∃sl,h'.get? b=some {o with slots:=sl}
 there: ∀b o,h.get? b=some o-> ∃o',h'.get? b=some o'
def Mvd.new{fs:Ah}{e T T':Addr}{h h1 h2:Heap}(a:Mvd fs e T h h1)(n:h.get? T'=none)(b:Mvd fs e T' h1 h2):Mvd fs e T h h2:=by
 have ne: ∀c o,h.get? c=some o->c≠T':=λc o q z=>by rw [z,n]at q;cases q
 exact⟨λc o h1 h2 h3 q=>b.keep c o h1 (ne c o q) h3 (a.keep c o h1 h2 h3 q),λc o h1 h2 q=>by obtain⟨sl,e1⟩:=a.slot c o h1 h2 q;obtain⟨sl',e2⟩:=b.slot c _ h1 (ne c o q) e1;exact⟨sl',e2⟩,λc o q=>let ⟨o',e1⟩:=a.there c o q;b.there c o' e1⟩
def CXe(P:Program)(w:World):CXT:=λouter H s E x s'=> ∃e T C d H',x=.ref e/\s'.os=s.os/\AllBare s'.gens/\Un (frs outer) [] H H' s.heap s'.heap/\HOk P w H' s'.heap/\Fly s'.heap e T (.ref C) d .none/\
 s.heap.get? e=none/\s.heap.get? T=none/\H' e=none/\H' T=none/\E (.ref C) d H'
abbrev bmV:List Value:=[.type "ValueError",.type "Exception",.type "BaseException",.type "object"]
def qn:List Str:=["__class__","__getattribute__","__getattr__","__setattr__","place","number"]
end L2
namespace L2
namespace M
open PySem PySem.Spec PyProof.Rows
inductive MV where
 |non|bl (b:Bool)|int (i:Int)|str (x:Ab)|tup (ds:List MV)|scr (ds:List MV)|loc (l:Nat)|typ (n:String)|obj (c:Str) (ns:Ai) (ds:List MV)
abbrev Bh:=List MV
abbrev Bi:=Option MV
abbrev Bj:=List (Int×List MV)
abbrev Bk:=List (Nat×List MV)
abbrev Ca:=List (MV×MV)
instance:Inhabited MV:=⟨.non⟩
inductive MO where
 |lst (ds:Bh)|dic (kvs:Ca)|ins (c:Str) (fs:List (Str×MV))
abbrev Sto:=List MO
def SqF(K:Be)(H:Hp)(a:Addr)(xs:List V):Prop:=
 (∃o,H a=some (.frz o (.lst xs)))\/
  ∃(o:Obj)(its:Ag)(n:Nat),K.lookup a=some o/\o.cls=.type "list"/\o.dict=none/\o.data=.seq its n/\its.size<=sizeLine/\Vals xs its.toList
def SqF.l{K:Be}{H:Hp}{a:Addr}{xs:List V}(h:SqF K H a xs):SqL K H a xs:=by
 rcases h with⟨o,h⟩|h
 ·exact .inl (.inr ⟨o,h⟩)
 ·exact .inr h
mutual
def Den(K:Be)(α:Ah)(H:Hp):MV->V->Prop
 |.non,v=>v=.non
 |.bl b,v=>v=.bl b
 |.int i,v=>v=.int i
 |.str x,v=>v=.str (mkS x)
 |.tup ds,v=> ∃a vs,v=.ref a/\SqT K H a vs/\DenL K α H ds vs
 |.scr ds,v=> ∃a vs,v=.ref a/\SqF K H a vs/\DenL K α H ds vs
 |.loc l,v=> ∃a,v=.ref a/\α[l]? =some a
 |.typ n,v=>v=.ty n
 |.obj c ns ds,v=> ∃a C dx vs o,v=.ref a/\H a=some (.frz o (.ins C dx (ns.zip vs)))/\PySem.W.nsIn K mainGlobals c=some (some (.ref C))/\(PySem.W.clsIn K C).map (·.name)=some c/\ns.length=vs.length/\DenL K α H ds vs
def DenL(K:Be)(α:Ah)(H:Hp):List MV->List V->Prop
 |[],vs=>vs=[]
 |d::ds,vs=> ∃v r,vs=v::r/\Den K α H d v/\DenL K α H ds r
end

structure Ex0(α:Ah)(H:Hp)(α':Ah)(H':Hp):Prop where
 pre: ∃t,α'=α++t
 tup: ∀b xs,H b=some (.tup xs)->H' b=some (.tup xs)
 frz: ∀b o u,H b=some (.frz o u)->H' b=some (.frz o u)
structure Ext(α:Ah)(H:Hp)(α':Ah)(H':Hp):Prop extends Ex0 α H α' H' where
 new: ∀b∈α',b∈α\/H b=none
 keep: ∀b o,H b=some o->b∉α->H' b=some o
 has: ∀b o,H b=some o-> ∃o',H' b=some o'
section
variable{K:Be}{α α' α'':Ah}{H H' H'':Hp}
def Ext.refl(α:Ah)(H:Hp):Ext α H α H:=⟨⟨⟨[],by simp⟩,λ_ _ h=>h,λ_ _ _ h=>h⟩,λb h=>.inl h,λ_ _ h _=>h,λ_ o h=>⟨o,h⟩⟩
def Ex0.grow(α t:Ah)(H:Hp):Ex0 α H (α++t) H:=⟨⟨t,rfl⟩,λ_ _ h=>h,λ_ _ _ h=>h⟩
def Ext.free(x:Ext α H α' H'){b:Addr}(h:H' b=none):H b=none:=by
 cases e:H b with
 |none=>rfl
 |some o=>obtain⟨o',h'⟩:=x.has b o e;rw [h]at h';cases h'
def Ext.out(x:Ext α H α' H'){b:Addr}{o:HO}(h:H b=some o)(n:b∉α):b∉α':=λz=>by
 rcases x.new b z with z|z
 ·exact n z
 ·rw [h]at z;cases z
def Ext.trans(x:Ext α H α' H')(y:Ext α' H' α'' H''):Ext α H α'' H'' where
 pre:=by obtain⟨t,rfl⟩:=x.pre;obtain⟨u,rfl⟩:=y.pre;exact⟨t++u,by rw [aA]⟩
 new:=λb h=>(y.new b h).elim (x.new b) λz=>.inr (x.free z)
 keep:=λb o h n=>y.keep b o (x.keep b o h n) (x.out h n)
 has:=λb o h=>let ⟨o',h'⟩:=x.has b o h;y.has b o' h'
 tup:=λb xs h=>y.tup b xs (x.tup b xs h)
 frz:=λb o u h=>y.frz b o u (x.frz b o u h)
def Ex0.at(x:Ex0 α H α' H'){l:Nat}{a:Addr}(h:α[l]? =some a):α'[l]? =some a:=by obtain⟨t,rfl⟩:=x.pre;rw [getElem?_append_left (gS0.mp h).1];exact h
def Ex0.sqT(x:Ex0 α H α' H'){a:Addr}{vs:List V}(q:SqT K H a vs):SqT K H' a vs:=by
 rcases q with(q|⟨o,q⟩)|q
 ·exact .inl (.inl (x.tup a vs q))
 ·exact .inl (.inr ⟨o,x.frz a o _ q⟩)
 ·exact .inr q
def Ex0.sqF(x:Ex0 α H α' H'){a:Addr}{vs:List V}(q:SqF K H a vs):SqF K H' a vs:=by
 rcases q with⟨o,q⟩|q
 ·exact .inl ⟨o,x.frz a o _ q⟩
 ·exact .inr q
mutual
theorem Den.ex0(x:Ex0 α H α' H'): ∀{d:MV}{v:V},Den K α H d v->Den K α' H' d v
 |.non,_,q=>by unfold Den at q ⊢; exact q
 |.bl _,_,q=>by unfold Den at q ⊢; exact q
 |.int _,_,q=>by unfold Den at q ⊢; exact q
 |.str _,_,q=>by unfold Den at q ⊢; exact q
 |.typ _,_,q=>by unfold Den at q ⊢; exact q
 |.obj c ns ds,_,q=>by unfold Den at q ⊢;obtain⟨a,C,dx,vs,o,e,h,hn,hc,hl,l⟩:=q;exact⟨a,C,dx,vs,o,e,x.frz a _ _ h,hn,hc,hl,DenL.ex0 x l⟩
 |.loc _,_,q=>by unfold Den at q ⊢;obtain⟨a,e,h⟩:=q;exact⟨a,e,x.at h⟩
 |.tup ds,_,q=>by unfold Den at q ⊢;obtain⟨a,vs,e,s,l⟩:=q;exact⟨a,vs,e,x.sqT s,DenL.ex0 x l⟩
 |.scr ds,_,q=>by unfold Den at q ⊢;obtain⟨a,vs,e,s,l⟩:=q;exact⟨a,vs,e,x.sqF s,DenL.ex0 x l⟩
theorem DenL.ex0(x:Ex0 α H α' H'): ∀{ds:Bh}{vs:List V},DenL K α H ds vs->DenL K α' H' ds vs
 |[],_,q=>by unfold DenL at q ⊢; exact q
 |d::ds,_,q=>by unfold DenL at q ⊢;obtain⟨v,r,e,a,l⟩:=q;exact⟨v,r,e,Den.ex0 x a,DenL.ex0 x l⟩
end

def Den.ext(x:Ext α H α' H'){d:MV}{v:V}(q:Den K α H d v):Den K α' H' d v:=q.ex0 x.toEx0
def DenL.ext(x:Ext α H α' H'){d:Bh}{v:List V}(q:DenL K α H d v):DenL K α' H' d v:=q.ex0 x.toEx0
theorem zKB:Den K α H .non .non:=by unfold Den;rfl
theorem gW(b:Bool):Den K α H (.bl b) (.bl b):=by unfold Den;rfl
theorem xW(i:Int):Den K α H (.int i) (.int i):=by unfold Den;rfl
theorem zBH(x:Ab):Den K α H (.str x) (.str (mkS x)):=by unfold Den;rfl
theorem yAQ(n:String):Den K α H (.typ n) (.ty n):=by unfold Den;rfl
def zDQ{ds:Bh}{a:Addr}{vs:List V}(s:SqT K H a vs)(l:DenL K α H ds vs):Den K α H (.tup ds) (.ref a):=by unfold Den;exact⟨a,vs,rfl,s,l⟩
def yAR{ds:Bh}{a:Addr}{vs:List V}(s:SqF K H a vs)(l:DenL K α H ds vs):Den K α H (.scr ds) (.ref a):=by unfold Den;exact⟨a,vs,rfl,s,l⟩
def zIU{l:Nat}{a:Addr}(h:α[l]? =some a):Den K α H (.loc l) (.ref a):=by unfold Den;exact⟨a,rfl,h⟩
def zBX{v:V}(d:Den K α H .non v):v=.non:=by unfold Den at d;exact d
def zEW{b:Bool}{v:V}(d:Den K α H (.bl b) v):v=.bl b:=by unfold Den at d;exact d
def xN{i:Int}{v:V}(d:Den K α H (.int i) v):v=.int i:=by unfold Den at d;exact d
def wC{x:Ab}{v:V}(d:Den K α H (.str x) v):v=.str (mkS x):=by unfold Den at d;exact d
def yLV{c:Str}{ns:Ai}{ds:Bh}{a C dx:Addr}{vs:List V}{o:Obj}(h:H a=some (.frz o (.ins C dx (ns.zip vs))))(hn:PySem.W.nsIn K mainGlobals c=some (some (.ref C)))(hc:(PySem.W.clsIn K C).map (·.name)=some c)(hl:ns.length=vs.length)(l:DenL K α H ds vs):Den K α H (.obj c ns ds) (.ref a):=by unfold Den;exact⟨a,C,dx,vs,o,rfl,h,hn,hc,hl,l⟩
def cY{c:Str}{ns:Ai}{ds:Bh}{v:V}(d:Den K α H (.obj c ns ds) v): ∃a C dx vs o,v=.ref a/\H a=some (.frz o (.ins C dx (ns.zip vs)))/\PySem.W.nsIn K mainGlobals c=some (some (.ref C))/\(PySem.W.clsIn K C).map (·.name)=some c/\ns.length=vs.length/\DenL K α H ds vs:=by unfold Den at d;exact d
def zAH{n:String}{v:V}(d:Den K α H (.typ n) v):v=.ty n:=by unfold Den at d;exact d
def xX{ds:Bh}{v:V}(d:Den K α H (.tup ds) v): ∃a vs,v=.ref a/\SqT K H a vs/\DenL K α H ds vs:=by unfold Den at d;exact d
def cZ{ds:Bh}{v:V}(d:Den K α H (.scr ds) v): ∃a vs,v=.ref a/\SqF K H a vs/\DenL K α H ds vs:=by unfold Den at d;exact d
def bE{l:Nat}{v:V}(d:Den K α H (.loc l) v): ∃a,v=.ref a/\α[l]? =some a:=by unfold Den at d;exact d
theorem yS:DenL K α H [] []:=by unfold DenL;rfl
def yD{d:MV}{v:V}{ds:Bh}{vs:List V}(a:Den K α H d v)(l:DenL K α H ds vs):DenL K α H (d::ds) (v::vs):=by unfold DenL;exact⟨v,vs,rfl,a,l⟩
def DenL.uncons{d:MV}{ds:Bh}{vs:List V}(l:DenL K α H (d::ds) vs): ∃v r,vs=v::r/\Den K α H d v/\DenL K α H ds r:=by unfold DenL at l;exact l
def DenL.isnil{vs:List V}(l:DenL K α H [] vs):vs=[]:=by unfold DenL at l;exact l
theorem DenL.length: ∀{ds:Bh}{vs:List V},DenL K α H ds vs->vs.length=ds.length
 |[],_,q=>by rw [q.isnil];rfl
 |d::ds,_,q=>by obtain⟨v,r,rfl,_,l⟩:=q.uncons;rw [lC,lC,DenL.length l]
theorem DenL.append: ∀{ds es:Bh}{vs us:List V},DenL K α H ds vs->DenL K α H es us->DenL K α H (ds++es) (vs++us)
 |[],_,_,_,q,l=>by rw [q.isnil];exact l
 |d::ds,_,_,_,q,l=>by obtain⟨v,r,rfl,a,l'⟩:=q.uncons;exact yD a (DenL.append l' l)
theorem DenL.drop: ∀{ds:Bh}{vs:List V}(n:Nat),DenL K α H ds vs->DenL K α H (ds.drop n) (vs.drop n)
 |_,_,0,q=>q
 |[],_,n+1,q=>by rw [q.isnil];exact yS
 |d::ds,_,n+1,q=>by obtain⟨v,r,rfl,_,l⟩:=q.uncons;exact DenL.drop n l
theorem DenL.take: ∀{ds:Bh}{vs:List V}(n:Nat),DenL K α H ds vs->DenL K α H (ds.take n) (vs.take n)
 |_,_,0,q=>yS
 |[],_,n+1,q=>by rw [q.isnil];exact yS
 |d::ds,_,n+1,q=>by obtain⟨v,r,rfl,a,l⟩:=q.uncons;exact yD a (DenL.take n l)
theorem DenL.reverse: ∀{ds:Bh}{vs:List V},DenL K α H ds vs->DenL K α H ds.reverse vs.reverse
 |[],_,q=>by rw [q.isnil];exact yS
 |d::ds,_,q=>by obtain⟨v,r,rfl,a,l⟩:=q.uncons;rw [reverse_cons,reverse_cons];exact(DenL.reverse l).append (yD a yS)
theorem DenL.set{d:MV}{v:V}(a:Den K α H d v): ∀{ds:Bh}{vs:List V}(n:Nat),DenL K α H ds vs->DenL K α H (ds.set n d) (vs.set n v)
 |[],_,_,q=>by rw [q.isnil];exact yS
 |e::ds,_,0,q=>by obtain⟨v',r,rfl,a',l⟩:=q.uncons;exact yD a l
 |e::ds,_,n+1,q=>by obtain⟨v',r,rfl,a',l⟩:=q.uncons;exact yD a' (DenL.set a n l)
theorem DenL.get: ∀{ds:Bh}{vs:List V}{i:Nat}{v:V},DenL K α H ds vs->vs[i]? =some v-> ∃d,ds[i]? =some d/\Den K α H d v
 |[],_,_,_,q,e=>by rw [q.isnil]at e;simp at e
 |d::ds,_,0,_,q,e=>by obtain⟨v,r,rfl,a,l⟩:=q.uncons;simp at e;subst e;exact⟨d,rfl,a⟩
 |d::ds,_,i+1,_,q,e=>by obtain⟨v,r,rfl,a,l⟩:=q.uncons;obtain⟨d',h1,h2⟩:=DenL.get (i:=i) l (by simpa using e);exact⟨d',by simpa using h1,h2⟩
def DenL.at{ds:Bh}{vs:List V}{i:Nat}{d:MV}(q:DenL K α H ds vs)(e:ds[i]? =some d): ∃v,vs[i]? =some v/\Den K α H d v:=by
 have hi:i<ds.length:=(gS0.mp e).1;have hv:i<vs.length:=by rw [q.length];exact hi
 obtain⟨d',h1,h2⟩:=q.get (gE0 hv);rw [e]at h1;cases h1;exact⟨_,gE0 hv,h2⟩
def DenL.cut{ds:Bh}{vs:List V}(q:DenL K α H ds vs)(lo hi:Bc):DenL K α H (bD ds lo hi) (zVL vs lo hi):=by unfold bD zVL;rw [q.length];exact(q.drop _).take _
theorem zLK: ∀(ns:Ad),DenL K α H (ns.map MV.int) (ns.map V.int)
 |[]=>yS
 |b::bs=>yD (xW b) (zLK bs)
end
structure Gm where
 K:PySem.W.Frag
 mg:Str->Option Value
 P:Program
 w:World
abbrev _root_.L2.Cx.g(X:Cx):Gm:=⟨X.K,X.mg,X.prog,X.w⟩
inductive DenF(K:Be)(α:Ah)(H:Hp):List (Str×MV)->List (Str×V)->Prop
 |nil:DenF K α H [] []
 |cons {x:Str} {d:MV} {v:V} {fs gs}:Den K α H d v->DenF K α H fs gs->DenF K α H ((x,d)::fs) ((x,v)::gs)
theorem DenF.ex0{K:Be}{α α':Ah}{H H':Hp}(x:Ex0 α H α' H'): ∀{fs gs},DenF K α H fs gs->DenF K α' H' fs gs
 |_,_,.nil=>.nil
 |_,_,.cons a l=>.cons (a.ex0 x) (DenF.ex0 x l)
def KeyD:MV->Key->Prop
 |.int i,k=>k=.inl i
 |.str x,k=>k=.inr (mkS x)
 |_,_=>False
inductive DenK(K:Be)(α:Ah)(H:Hp):List (MV×MV)->List (Key×V)->Prop
 |nil:DenK K α H [] []
 |cons {k:MV} {k':Key} {d:MV} {v:V} {fs gs}:KeyD k k'->Den K α H d v->DenK K α H fs gs->DenK K α H ((k,d)::fs) ((k',v)::gs)
theorem DenK.ex0{K:Be}{α α':Ah}{H H':Hp}(x:Ex0 α H α' H'): ∀{fs gs},DenK K α H fs gs->DenK K α' H' fs gs
 |_,_,.nil=>.nil
 |_,_,.cons k a l=>.cons k (a.ex0 x) (DenK.ex0 x l)

def ObD(g:Gm)(α:Ah)(H:Hp)(a:Addr):MO->Prop
 |.lst ds=> ∃vs,H a=some (.lst vs)/\DenL g.K α H ds vs
 |.dic kvs=>(∃ks,H a=some (.dK ks)/\DenK g.K α H kvs ks)\/False
 |.ins c fs=> ∃C gs,g.mg c=some (.ref C)/\DenF g.K α H fs gs/\
   ∃oe,H a=some (.ext λh=>h.get? a=some oe)/\oe.cls=.ref C/\(fs=[]\/ ∃dx od,oe.dict=some dx/\H dx=some (.frz od (.xd gs))/\ ∃vs,oe.data=.fields vs)
def ObD.there{g:Gm}{α:Ah}{H:Hp}{a:Addr}{o:MO}(h:ObD g α H a o): ∃ho,H a=some ho/\(∀xs,ho≠.tup xs)/\ ∀ob u,ho≠.frz ob u:=by
 cases o with
 |lst ds=>obtain⟨vs,h,_⟩:=h;exact⟨_,h,(λxs z=>by cases z),λ_ _ z=>by cases z⟩
 |dic ds=>
  rcases h with⟨vs,h,_⟩|z
  ·exact⟨_,h,(λxs z=>by cases z),λ_ _ z=>by cases z⟩
  ·exact False.elim z
 |ins c ds=>
  obtain⟨_,_,_,_,_,h,_⟩:=h;exact⟨_,h,(λxs z=>by cases z),λ_ _ z=>by cases z⟩
def ObD.move{g:Gm}{α α':Ah}{H H':Hp}{a:Addr}{o:MO}(h:ObD g α H a o)(x:Ex0 α H α' H')(e:H' a=H a):ObD g α' H' a o:=by
 cases o with
 |lst ds=>obtain⟨vs,h,l⟩:=h;exact⟨vs,e.trans h,l.ex0 x⟩
 |dic ds=>
  rcases h with⟨vs,h,l⟩|z
  ·exact .inl ⟨vs,e.trans h,l.ex0 x⟩
  ·exact False.elim z
 |ins c ds=>
  obtain⟨C,gs,m,l,oe,h,hc,hf⟩:=h;exact⟨C,gs,m,l.ex0 x,oe,e.trans h,hc,hf.imp id λ⟨dx,od,h1,h2,h3⟩=>⟨dx,od,h1,x.frz _ _ _ h2,h3⟩⟩
structure Wd(g:Gm)(α:Ah)(S:Sto)(H:Hp):Prop where
 len:α.length=S.length
 nd:α.Nodup
 obj: ∀(l:Nat)(a:Addr)(o:MO),α[l]? =some a->S[l]? =some o->ObD g α H a o
section
variable{g:Gm}{α α':Ah}{S S':Sto}{H H':Hp}
def Wd.at(w:Wd g α S H){l:Nat}{o:MO}(h:S[l]? =some o): ∃a,α[l]? =some a/\ObD g α H a o:=by
 have hl:l<α.length:=by rw [w.len];exact(gS0.mp h).1
 exact⟨α[l],gE0 hl,w.obj l _ o (gE0 hl) h⟩
def Wd.of(w:Wd g α S H){l:Nat}{a:Addr}(h:α[l]? =some a): ∃o,S[l]? =some o/\ObD g α H a o:=by
 have hl:l<S.length:=by rw [<-w.len];exact(gS0.mp h).1
 exact⟨S[l],gE0 hl,w.obj l a _ h (gE0 hl)⟩
def Wd.mem(w:Wd g α S H){a:Addr}(h:a∈α): ∃ho,H a=some ho/\(∀xs,ho≠.tup xs)/\ ∀ob u,ho≠.frz ob u:=by obtain⟨l,hl⟩:=getElem?_of_mem h;obtain⟨o,_,q⟩:=w.of hl;exact q.there
def Wd.newx(w:Wd g α S H){p:Addr}{o:HO}(hp:H p=none):Ext α H α (upd H p o) where
 pre:=⟨[],by simp⟩
 new:=λb h=>.inl h
 keep:=λb o h _=>by rw [zU (yB h hp)];exact h
 has:=λb o h=>⟨o,by rw [zU (yB h hp)];exact h⟩
 tup:=λb o h=>by rw [zU (yB h hp)];exact h
 frz:=λb o u h=>by rw [zU (yB h hp)];exact h
def Wd.fresh(w:Wd g α S H){p:Addr}(hp:H p=none):p∉α:=λz=>by obtain⟨_,h,_⟩:=w.mem z;rw [hp]at h;cases h
def Wd.new(w:Wd g α S H){p:Addr}{o:HO}(hp:H p=none):Wd g α S (upd H p o):=
 ⟨w.len,w.nd,λl a ob h1 h2=>(w.obj l a ob h1 h2).move (w.newx hp).toEx0 (zU λz=>w.fresh hp (by rw [<-z];exact mem_of_getElem? h1))⟩
def Wd.writex(w:Wd g α S H){l:Nat}{a:Addr}{o:HO}(h:α[l]? =some a):Ext α H α (upd H a o) where
 pre:=⟨[],by simp⟩
 new:=λb h=>.inl h
 keep:=λb o e n=>by rw [zU λz=>n (by rw [z];exact mem_of_getElem? h)];exact e
 has:=λb o e=>by
  by_cases z:b=a
  ·subst z;exact⟨_,yV⟩
  ·exact⟨o,by rw [zU z];exact e⟩
 tup:=λb xs e=>by obtain⟨ho,h1,h2,_⟩:=w.mem (mem_of_getElem? h);rw [zU λz=>h2 xs (by subst z;rw [e]at h1;exact(Option.some.inj h1).symm)];exact e
 frz:=λb ob u e=>by obtain⟨ho,h1,_,h2⟩:=w.mem (mem_of_getElem? h);rw [zU λz=>h2 ob u (by subst z;rw [e]at h1;exact(Option.some.inj h1).symm)];exact e
def Wd.ne(w:Wd g α S H){l m:Nat}{a b:Addr}(h:α[l]? =some a)(h':α[m]? =some b)(n:l≠m):a≠b:=by rintro rfl;obtain⟨h1,e1⟩:=gS0.mp h;obtain⟨h2,e2⟩:=gS0.mp h';exact n ((getElem_inj w.nd).mp (e1.trans e2.symm))
def Wd.write(w:Wd g α S H){l:Nat}{a:Addr}{o:HO}{ob:MO}(h:α[l]? =some a)(q:ObD g α (upd H a o) a ob):Wd g α (S.set l ob) (upd H a o) where
 len:=by rw [length_set];exact w.len
 nd:=w.nd
 obj:=λm b ob' h1 h2=>by
  by_cases e:l=m
  ·subst e;rw [h]at h1;have hl:l<S.length:=by rw [<-w.len];exact(gS0.mp h).1
   rw [getElem?_set_self hl]at h2;rw [<-Option.some.inj h1, <-Option.some.inj h2];exact q
  ·rw [getElem?_set_ne e]at h2;exact(w.obj m b ob' h1 h2).move (w.writex h).toEx0 (zU (w.ne h1 h λz=>e z.symm))
def Wd.enterx(w:Wd g α S H){H0:Hp}{α0:Ah}(x:Ext α0 H0 α H){b:Addr}(h0:H0 b=none)(n:b∉α):Ext α0 H0 (α++[b]) H where
 pre:=let ⟨t,e⟩:=x.pre;⟨t++[b],by rw [e,aA]⟩
 new:=λc hc=>(mem_append.mp hc).elim (x.new c) λz=>.inr (by rw [mS.mp z];exact h0)
 keep:=x.keep
 has:=x.has
 tup:=x.tup
 frz:=x.frz
def Wd.enter(w:Wd g α S H){b:Addr}{ds:Bh}{vs:List V}(h:H b=some (.lst vs))(n:b∉α)(l:DenL g.K α H ds vs):Wd g (α++[b]) (S++[.lst ds]) H where
 len:=by rw [lA,lA,w.len];rfl
 nd:=nodup_append.mpr ⟨w.nd,by simp,λa ha c hc=>by rw [mS.mp hc];rintro rfl;exact n ha⟩
 obj:=λm a o h1 h2=>by
  by_cases hm:m<α.length
  ·rw [getElem?_append_left hm]at h1;rw [getElem?_append_left (by rw [<-w.len];exact hm)]at h2;exact(w.obj m a o h1 h2).move (Ex0.grow α [b] H) rfl
  ·have hm':m=α.length:=by have:=(gS0.mp h1).1;rw [lA,lS]at this;omega
   subst hm';rw [getElem?_append_right (le_refl _),sub_self]at h1;rw [getElem?_append_right (by rw [w.len];exact le_refl _),w.len,sub_self]at h2;cases h1;cases h2;exact⟨vs,h,l.ex0 (Ex0.grow α [b] H)⟩
end
inductive R(β:Type) where
 |ok (b:β) (S:Sto)|exc (c:Str) (fs:List (Str×MV)) (S:Sto)|no
def R.bind{β γ:Type}:R β->(β->Sto->R γ)->R γ
 |.ok b S,k=>k b S
 |.exc c fs S,_=>.exc c fs S
 |.no,_=>.no
theorem R.bind_ok{β γ:Type}(b:β)(S:Sto)(k:β->Sto->R γ):(R.ok b S).bind k=k b S:=rfl
inductive Er where
 |val (d:MV)|new (ds:Bh)
instance:Inhabited Er:=⟨.val .non⟩
def DenX(K:Be)(α:Ah)(H:Hp):Er->V->Prop
 |.val d,v=>Den K α H d v
 |.new ds,v=> ∃b vs,v=.ref b/\H b=some (.lst vs)/\b∉α/\DenL K α H ds vs
def DenE(K:Be)(H:Hp)(α':Ah)(H':Hp)(r:Er)(v:V):Prop:=DenX K α' H' r v/\match r with |.new _=> ∀a,v=.ref a->H a=none|_=>True
section
variable{K:Be}{α α':Ah}{H H0 H':Hp}
def DenX.ext(x:Ext α H α' H'): ∀{r:Er}{v:V},DenX K α H r v->DenX K α' H' r v
 |.val d,_,q=>Den.ext x q
 |.new ds,_,⟨b,vs,e,h,n,l⟩=>⟨b,vs,e,x.keep b _ h n,x.out h n,l.ext x⟩
def DenE.val{d:MV}{v:V}(q:Den K α' H' d v):DenE K H α' H' (.val d) v:=⟨q,trivial⟩
def DenE.back(hf: ∀b,H b=none->H0 b=none){r:Er}{v:V}(q:DenE K H α' H' r v):DenE K H0 α' H' r v:=by
 refine⟨q.1,?_⟩
 cases r with
 |new ds=>exact λa e=>hf a (q.2 a e)
 |_=>trivial
def DenE.ext{α'':Ah}{H'':Hp}(x:Ext α' H' α'' H''){r:Er}{v:V}(q:DenE K H α' H' r v):DenE K H α'' H'' r v:=⟨q.1.ext x,q.2⟩
end
section
variable{K:Be}{α:Ah}{H:Hp}{v:V}
def zLL(d:DenX K α H (.val .non) v):v=.non:=zBX (K:=K) (α:=α) (H:=H) d
def zKC{b:Bool}(d:DenX K α H (.val (.bl b)) v):v=.bl b:=zEW (K:=K) (α:=α) (H:=H) d
def xO{b:Int}(d:DenX K α H (.val (.int b)) v):v=.int b:=xN (K:=K) (α:=α) (H:=H) d
def bF{b:Ab}(d:DenX K α H (.val (.str b)) v):v=.str (mkS b):=wC (K:=K) (α:=α) (H:=H) d
def yGJ{b:String}(d:DenX K α H (.val (.typ b)) v):v=.ty b:=zAH (K:=K) (α:=α) (H:=H) d
def yQW{c:Str}{ns:Ai}{ds:Bh}(d:DenX K α H (.val (.obj c ns ds)) v): ∃a C dx vs o,v=.ref a/\H a=some (.frz o (.ins C dx (ns.zip vs)))/\PySem.W.nsIn K mainGlobals c=some (some (.ref C))/\(PySem.W.clsIn K C).map (·.name)=some c/\ns.length=vs.length/\DenL K α H ds vs:=cY (K:=K) (α:=α) (H:=H) d
def zAI{ds:Bh}(d:DenX K α H (.val (.tup ds)) v): ∃a vs,v=.ref a/\SqT K H a vs/\DenL K α H ds vs:=xX (K:=K) (α:=α) (H:=H) d
def zOI{ds:Bh}(d:DenX K α H (.val (.scr ds)) v): ∃a vs,v=.ref a/\SqF K H a vs/\DenL K α H ds vs:=cZ (K:=K) (α:=α) (H:=H) d
def zEH{l:Nat}(d:DenX K α H (.val (.loc l)) v): ∃a,v=.ref a/\α[l]? =some a:=bE (K:=K) (α:=α) (H:=H) d
end
def zJO:List Er->List V->List Addr
 |.new _::rs,.ref b::vs=>b::zJO rs vs
 |_::rs,_::vs=>zJO rs vs
 |_,_=>[]
inductive ArgsE(K:Be)(H:Hp)(α':Ah)(H':Hp):List Er->List V->Prop
 |nil:ArgsE K H α' H' [] []
 |cons {r v rs vs}:DenE K H α' H' r v->(∀ds b,r=.new ds->v=.ref b->b∉zJO rs vs)->ArgsE K H α' H' rs vs->ArgsE K H α' H' (r::rs) (v::vs)
theorem ArgsE.nones{K:Be}{H:Hp}{α':Ah}{H':Hp}: ∀{rs vs},ArgsE K H α' H' rs vs-> ∀b∈zJO rs vs,H b=none
 |_,_,.nil=>λb h=>by simp [zJO]at h
 |.val d::_,v::_,.cons a n l=>λb h=>ArgsE.nones l b (by simpa [zJO]using h)
 |.new ds::_,v::_,.cons a n l=>λb h=>by
  obtain⟨c,vs,rfl,_⟩:=a.1;rcases mC.mp (show b∈c::zJO _ _ from h)with rfl|h
  ·exact a.2 _ rfl
  ·exact ArgsE.nones l b h
theorem ArgsE.back{K:Be}{H H0:Hp}{α':Ah}{H':Hp}(hf: ∀b,H b=none->H0 b=none): ∀{rs vs},ArgsE K H α' H' rs vs->ArgsE K H0 α' H' rs vs
 |_,_,.nil=>.nil
 |_,_,.cons a n l=>.cons (a.back hf) n (ArgsE.back hf l)
theorem ArgsE.length{K:Be}{H:Hp}{α':Ah}{H':Hp}: ∀{rs vs},ArgsE K H α' H' rs vs->vs.length=rs.length
 |_,_,.nil=>rfl
 |_,_,.cons _ _ l=>by rw [lC,lC,ArgsE.length l]
class Dn (β:Type) (τ:outParam Type) where
 d:Gm->Hp->List Addr->Sto->Hp->β->τ->Prop
 back: ∀{g:Gm}{H H0:Hp}{α':Ah}{S':Sto}{H':Hp}{b:β}{u:τ},(∀b,H b=none->H0 b=none)->d g H α' S' H' b u->d g H0 α' S' H' b u
instance:Dn Er V:=⟨λg H α' _ H' r v=>DenE g.K H α' H' r v,λhf q=>q.back hf⟩
instance:Dn Bool Bool:=⟨λ_ _ _ _ _ b u=>u=b,λ_ q=>q⟩
instance:Dn (List Er) (List V):=⟨λg H α' _ H' r v=>ArgsE g.K H α' H' r v,λhf q=>q.back hf⟩
instance:Dn (Option Int) (Option Int):=⟨λ_ _ _ _ _ b u=>u=b,λ_ q=>q⟩
abbrev XW:=Str->List (Str×MV)->Sto->List Addr->Hp->Prop
abbrev W0:XW:=λ_ _ _ _ _=>False
def Post{β τ:Type}[Dn β τ](g:Gm)(W:XW)(α:Ah)(H:Hp):R β->(τ->Hp->Prop)->Prop
 |.ok b S,Q=> ∀u α' H',Ext α H α' H'->Wd g α' S H'->Dn.d g H α' S H' b u->Q u H'
 |.exc c fs S,_=> ∀α' H',Ext α H α' H'->Wd g α' S H'->W c fs S α' H'
 |.no,_=>False
section
variable{β τ γ υ:Type}[Dn β τ][Dn γ υ]{g:Gm}{W:XW}{α α':Ah}{H H':Hp}
def Post.shift(x:Ext α H α' H'): ∀{m:R β}{Q:τ->Hp->Prop},Post g W α H m Q->Post g W α' H' m Q
 |.ok b S,Q,q=>λu α2 H2 x2 w2 d2=>q u α2 H2 (x.trans x2) w2 (Dn.back (λb h=>x.free h) d2)
 |.exc c fs S,_,q=>λα2 H2 x2 w2=>q α2 H2 (x.trans x2) w2
 |.no,_,q=>q
def Post.bind{m:R β}{k:β->Sto->R γ}{Q:υ->Hp->Prop}{Q':τ->Hp->Prop}(q:Post g W α H (m.bind k) Q)
  (f: ∀u b S1 α1 H1,m=.ok b S1->Ext α H α1 H1->Wd g α1 S1 H1->Dn.d g H α1 S1 H1 b u->Post g W α H (k b S1) Q->Q' u H1):Post g W α H m Q':=by
 cases m with
 |ok b S=>exact λu α1 H1 x w d=>f u b S α1 H1 rfl x w d q
 |exc c fs S=>exact q
 |no=>exact q
def Post.here{b:β}{S:Sto}{Q:τ->Hp->Prop}{u:τ}(q:Post g W α H (.ok b S) Q)(w:Wd g α S H)(d:Dn.d g H α S H b u):Q u H:=q u α H (Ext.refl α H) w d
end
def Post.val{g:Gm}{W:XW}{α:Ah}{H:Hp}{d:MV}{S:Sto}{Q:VK}{v:V}(q:Post g W α H (.ok (Er.val d) S) Q)(w:Wd g α S H)(k:Den g.K α H d v):Q v H:=q.here w (DenE.val k)
def Post.newl{g:Gm}{W:XW}{α:Ah}{H:Hp}{ds:Bh}{S:Sto}{Q:VK}{vs:List V}{p:Addr}(q:Post g W α H (.ok (Er.new ds) S) Q)(w:Wd g α S H)(hp:H p=none)(l:DenL g.K α H ds vs):Q (.ref p) (upd H p (.lst vs)):=
 q (.ref p) α _ (w.newx hp) (w.new hp) ⟨⟨p,vs,rfl,yV,w.fresh hp,l.ext (w.newx hp)⟩,λa e=>by cases e;exact hp⟩
def Post.newt{g:Gm}{W:XW}{α:Ah}{H:Hp}{ds:Bh}{S:Sto}{Q:VK}{vs:List V}{p:Addr}(q:Post g W α H (.ok (Er.val (.tup ds)) S) Q)(w:Wd g α S H)(hp:H p=none)(l:DenL g.K α H ds vs):Q (.ref p) (upd H p (.tup vs)):=
 q (.ref p) α _ (w.newx hp) (w.new hp) (.val (zDQ (.of yV) (l.ext (w.newx hp))))
abbrev Rho:=List (Option MV)
structure Slots(K:Be)(α:Ah)(H:Hp)(ρ:Rho)(σ:St):Prop where
 len:σ.length=ρ.length
 slot: ∀(i:Nat)(d:MV),ρ[i]? =some (some d)-> ∃v,σ[i]? =some (some v)/\Den K α H d v
section
variable{K:Be}{α α':Ah}{H H':Hp}{ρ:Rho}{σ:St}
def Slots.ex0(q:Slots K α H ρ σ)(x:Ex0 α H α' H'):Slots K α' H' ρ σ:=⟨q.len,λi d e=>let ⟨v,h1,h2⟩:=q.slot i d e;⟨v,h1,h2.ex0 x⟩⟩
def Slots.ext(q:Slots K α H ρ σ)(x:Ext α H α' H'):Slots K α' H' ρ σ:=q.ex0 x.toEx0
def yLW{α:Type}{l:List α}{i j:Nat}{x y:α}(h:(l.set i x)[j]? =some y):(j=i/\y=x/\i<l.length)\/(j≠i/\l[j]? =some y):=by
 by_cases hj:i=j
 ·subst hj;by_cases hl:i<l.length
  ·rw [getElem?_set_self hl]at h;exact .inl ⟨rfl,(Option.some.inj h).symm,hl⟩
  ·rw [getElem?_eq_none (by rw [length_set];omega)]at h;cases h
 ·rw [getElem?_set_ne hj]at h;exact .inr ⟨λz=>hj z.symm,h⟩
def Slots.set(q:Slots K α H ρ σ){i:Nat}{d:MV}{v:V}(h:Den K α H d v):Slots K α H (ρ.set i (some d)) (σ.set i (some v)):=by
 refine⟨by rw [length_set,length_set];exact q.len,λj e z=>?_⟩;rcases yLW z with⟨rfl,e',hl⟩|⟨hj,e'⟩
 ·cases e';exact⟨v,by rw [getElem?_set_self (by rw [q.len];exact hl)],h⟩
 ·obtain⟨u,h1,h2⟩:=q.slot j e e';exact⟨u,by rw [getElem?_set_ne (Ne.symm hj)];exact h1,h2⟩
end
def Jd(X:Cx)(W:XW){β τ:Type}[Dn β τ](P:(St->Hp->(τ->Hp->Prop)->Prop)->Prop)(f:Rho->Sto->R β):Prop:=
 ∃t,P t/\ ∀α ρ S σ H Q,Wd X.g α S H->Slots X.K α H ρ σ->Post X.g W α H (f ρ S) Q->t σ H Q
abbrev PEm(X:Cx)(W:XW)(e:Expr)(f:Rho->Sto->R Er):Prop:=Jd X W (PE X e) f
abbrev PTm(X:Cx)(W:XW)(e:Expr)(f:Rho->Sto->R Bool):Prop:=Jd X W (PT X e) f
abbrev PWm(X:Cx)(W:XW)(e:Expr)(f:Rho->Sto->R Bool):Prop:=Jd X W (PW X e) f
abbrev PAm(X:Cx)(W:XW)(es:Bd)(f:Rho->Sto->R (List Er)):Prop:=Jd X W (PA X es) f
abbrev POm(X:Cx)(W:XW)(e:Option Expr)(f:Rho->Sto->R (Option Int)):Prop:=Jd X W (PO X e) f
section
variable{X:Cx}{W:XW}{a b c e:Expr}{es:Bd}{f g h:Rho->Sto->R Er}{tf tg:Rho->Sto->R Bool}{af:Rho->Sto->R (List Er)}{pos:Pos}
def rdSl:Option (Option MV)->Sto->R Er
 |some (some d),S=>.ok (.val d) S
 |_,_=>.no
def zA(i:Nat){x:Str}(hN:X.N[i]? =some x:=by rfl)(hv:Vis X.env.scope x:=by first |exact Or.inl rfl|exact Or.inr (Or.inl rfl)|exact Or.inr (Or.inr rfl))(hd:(x==("__debug__":Str))=false:=by decide)
  (hcd:(x==("__classdict__":Str))=false:=by decide):PEm X W (.Name x pos) (λρ S=>rdSl (ρ[i]?) S):=by
 refine⟨_,pv i hN hv hd hcd,λα ρ S σ H Q wd sl q=>?_⟩;dsimp only at q
 cases z:ρ[i]? with
 |none=>rw [z]at q;exact q.elim
 |some o=>
  cases o with
  |none=>rw [z]at q;exact q.elim
  |some d=>
   rw [z]at q;obtain⟨v,h1,h2⟩:=sl.slot i d z;exact⟨v,h1,Post.val q wd h2⟩
def zD{i:Int}{j:Nat}:PEm X W (.Constant (.int i) j pos) (λ_ S=>.ok (.val (.int i)) S):=⟨_,yFN,λα ρ S σ H Q wd sl q=>Post.val q wd (xW i)⟩
def zEX{i:Bool}{j:Nat}:PEm X W (.Constant (.bool i) j pos) (λ_ S=>.ok (.val (.bl i)) S):=⟨_,pe_bl,λα ρ S σ H Q wd sl q=>Post.val q wd (gW i)⟩
def yGK{j:Nat}:PEm X W (.Constant .none j pos) (λ_ S=>.ok (.val .non) S):=⟨_,yPN,λα ρ S σ H Q wd sl q=>Post.val q wd zKB⟩
def zEI{x:Str}{j:Nat}(cs:Ab)(hx:x=mkS cs:=by rfl):PEm X W (.Constant (.str x) j pos) (λ_ S=>.ok (.val (.str cs)) S):=
 ⟨_,yPO,λα ρ S σ H Q wd sl q=>Post.val q wd (by rw [hx];exact zBH cs)⟩
def zKD{x:Str}{T:String}(hg:Gl X x)(hm:X.mg x=none)(hv:bootBuiltins x=some (.type T))(hn:x≠"__name__":=by decide)(hd:(x==("__debug__":Str))=false:=by decide):PEm X W (.Name x pos) (λ_ S=>.ok (.val (.typ T)) S):=
 ⟨_,yKY (v:=.ty T) hg hm hv rfl hn hd,λα ρ S σ H Q wd sl q=>Post.val q wd (yAQ T)⟩
def yQX{i:Int}{j:Nat}{p3:Pos}:PEm X W (.UnaryOp .USub (.Constant (.int i) j p3) pos) (λ_ S=>.ok (.val (.int (-i))) S):=
 ⟨_,pe_un yQF yFN,λα ρ S σ H Q wd sl q=>⟨i,rfl,Post.val q wd (xW (-i))⟩⟩
def Op2(X:Cx)(W:XW)(r:R2)(F:Er->Er->Sto->R Er):Prop:= ∀p q x y α S H Q,Wd X.g α S H->DenX X.K α H p x->DenX X.K α H q y->Post X.g W α H (F p q S) Q->r x y H Q
def two{r:R2}{F:Er->Er->Sto->R Er}(hF:Op2 X W r F){ta tb:TE}(fa: ∀α ρ S σ H Q,Wd X.g α S H->Slots X.K α H ρ σ->Post X.g W α H (f ρ S) Q->ta σ H Q)
  (fb: ∀α ρ S σ H Q,Wd X.g α S H->Slots X.K α H ρ σ->Post X.g W α H (g ρ S) Q->tb σ H Q) {α:Ah} {ρ:Rho} {S:Sto} {σ:St} {H:Hp} {Q:VK} (wd:Wd X.g α S H) (sl:Slots X.K α H ρ σ)
  (q:Post X.g W α H ((f ρ S).bind λp S1=>(g ρ S1).bind λq S2=>F p q S2) Q):ta σ H λx H1=>tb σ H1 λy H2=>r x y H2 Q:=
 fa α ρ S σ H _ wd sl (q.bind λu p S1 α1 H1 e1 x1 w1 d1 q1=>fb α1 ρ S1 σ H1 _ w1 (sl.ext x1) ((q1.shift x1).bind λu2 p2 S2 α2 H2 e2 x2 w2 d2 q2=>
  hF p p2 u u2 α2 S2 H2 Q w2 (d1.1.ext x2) d2.1 (q2.shift x2)))
def zRX{op:Operator}{r:R2}{F:Er->Er->Sto->R Er}(ho:OpR X (binaryOp op) r)(hF:Op2 X W r F)(ha:PEm X W a f)(hb:PEm X W b g):PEm X W (.BinOp a op b pos) (λρ S=>(f ρ S).bind λp S1=>(g ρ S1).bind λq S2=>F p q S2):=by obtain⟨ta,ha,fa⟩:=ha;obtain⟨tb,hb,fb⟩:=hb;exact⟨_,pe_op ho ha hb,λα ρ S σ H Q wd sl q=>two hF fa fb wd sl q⟩
def zOJ{op:CmpOp}{r:R2}{F:Er->Er->Sto->R Er}(ho:OpR X (compareOp op) r)(hF:Op2 X W r F)(ha:PEm X W a f)(hb:PEm X W b g)(hm:behindInMarks op b=false:=by first |exact yFW _|with_unfolding_all rfl):
  PEm X W (.Compare a [op] [b] pos) (λρ S=>(f ρ S).bind λp S1=>(g ρ S1).bind λq S2=>F p q S2):=by
 obtain⟨ta,ha,fa⟩:=ha;obtain⟨tb,hb,fb⟩:=hb;exact⟨_,yLF ho ha hb hm,λα ρ S σ H Q wd sl q=>two hF fa fb wd sl q⟩
def pm_ix{r:R2}{F:Er->Er->Sto->R Er}(ho:IxR X r)(hF:Op2 X W r F)(ha:PEm X W a f)(hb:PEm X W b g)(hs:zTA b:=by exact λ_ _=>rfl):
  PEm X W (.Subscript a b pos) (λρ S=>(f ρ S).bind λp S1=>(g ρ S1).bind λq S2=>F p q S2):=by
 obtain⟨ta,ha,fa⟩:=ha;obtain⟨tb,hb,fb⟩:=hb;exact⟨_,pe_ix ho ha hb hs,λα ρ S σ H Q wd sl q=>two hF fa fb wd sl q⟩
def asB:Er->Sto->R Bool
 |.val (.bl b),S=>.ok b S
 |_,_=>.no
def yGL{p:Er}{S:Sto}{α:Ah}{H:Hp}{Q:Bool->Hp->Prop}(q:Post X.g W α H (asB p S) Q): ∃k,p=.val (.bl k)/\Post X.g W α H (.ok k S) Q:=by
 unfold asB at q;split at q
 ·exact⟨_,rfl,q⟩
 ·exact q.elim
def zVR{β τ:Type}[Dn β τ]{p:Er}{S:Sto}{α:Ah}{H:Hp}{k:Bool->Sto->R β}{Q:τ->Hp->Prop}(q:Post X.g W α H ((asB p S).bind k) Q): ∃c,p=.val (.bl c)/\Post X.g W α H (k c S) Q:=by
 unfold asB at q;split at q
 ·exact⟨_,rfl,q⟩
 ·exact q.elim
def zHJ{op:CmpOp}{r:R2}{F:Er->Er->Sto->R Er}(ho:OpR X (compareOp op) r)(hF:Op2 X W r F)(ha:PEm X W a f)(hb:PEm X W b g)(hm:behindInMarks op b=false:=by first |exact yFW _|with_unfolding_all rfl):
  PTm X W (.Compare a [op] [b] pos) (λρ S=>((f ρ S).bind λp S1=>(g ρ S1).bind λq S2=>F p q S2).bind asB):=by
 obtain⟨ta,ha,fa⟩:=ha;obtain⟨tb,hb,fb⟩:=hb;refine⟨_,yLG ho ha hb hm,λα ρ S σ H Q wd sl q=>?_⟩;refine two hF fa fb wd sl (Q:=λx H'=> ∃k,x=.bl k/\Q k H') (q.bind λu p S1 α1 H1 e1 x1 w1 d1 q1=>?_);obtain⟨k,rfl,q2⟩:=yGL (q1.shift x1);exact⟨k,zKC d1.1,q2.here w1 rfl⟩
def chF(F G:Er->Er->Sto->R Er)(p q:Er)(S:Sto)(k:Sto->R Er):R Er:=(F p q S).bind λz S1=>(asB z S1).bind λc S2=>if c=true then(k S2).bind λr S3=>G q r S3 else .ok (.val (.bl false)) S2
def zHK:Er->Sto->R Bool
 |.val .non,S=>.ok false S
 |.val (.bl b),S=>.ok b S
 |.val (.int i),S=>.ok (i !=0) S
 |.val (.str x),S=>if x.length<=sizeLine then .ok (!x.isEmpty) S else .no
 |.val (.tup ds),S=>.ok (!ds.isEmpty) S
 |.val (.scr ds),S=>.ok (!ds.isEmpty) S
 |.val (.loc l),S=>match S[l]? with
  |some (.lst ds)=>.ok (!ds.isEmpty) S
  |_=>.no
 |.val (.typ _),_=>.no
 |.val (.obj _ _ _),_=>.no
 |.new ds,S=>.ok (!ds.isEmpty) S
def zIV{ds:Bh}{vs:List V}{K:Be}{α:Ah}{H:Hp}(l:DenL K α H ds vs):(!vs.isEmpty)= !ds.isEmpty:=by have:=l.length;cases ds<;>cases vs<;>simp_all
def yGM{p:Er}{x:V}{S:Sto}{α:Ah}{H:Hp}{Q:Bool->Hp->Prop}(wd:Wd X.g α S H)(d:DenX X.K α H p x)(q:Post X.g W α H (zHK p S) Q): ∃k,TruV X.K x H k/\Q k H:=by
 match p,d,q with
 |.val .non,d,q=>cases zLL d;exact⟨_,rfl,q.here wd rfl⟩
 |.val (.bl b),d,q=>cases zKC d;exact⟨_,rfl,q.here wd rfl⟩
 |.val (.int i),d,q=>cases xO d;exact⟨_,rfl,q.here wd rfl⟩
 |.val (.typ n),d,q=>exact q.elim
 |.val (.obj _ _ _),d,q=>exact q.elim
 |.val (.str z),d,q=>
  cases bF d;have q':Post X.g W α H (if z.length<=sizeLine then R.ok (!z.isEmpty) S else R.no) Q:=q;split at q'
  ·rename_i hz;refine⟨_,⟨by rw [jI];exact hz,?_⟩,q'.here wd rfl⟩;rw [jI]
   cases z with
   |nil=>rfl
   |cons c r=>
    have h0:((r.length:Int)+1)≠0:=by omega
    simp [h0]
  ·exact q'.elim
 |.val (.tup ds),d,q=>
  obtain⟨a,vs,rfl,s,l⟩:=zAI d;exact⟨_,.inr (.inl ⟨vs,s,(zIV l).symm⟩),q.here wd rfl⟩
 |.val (.scr ds),d,q=>
  obtain⟨a,vs,rfl,s,l⟩:=zOI d;exact⟨_,.inl ⟨vs,s.l,(zIV l).symm⟩,q.here wd rfl⟩
 |.val (.loc n),d,q=>
  obtain⟨a,rfl,h⟩:=zEH d;obtain⟨o,h1,h2⟩:=wd.of h;have q':Post X.g W α H (match S[n]? with |some (.lst ds)=>R.ok (!ds.isEmpty) S|_=>R.no) Q:=q;rw [h1]at q'
  cases o with
  |lst ds=>
   obtain⟨vs,h3,l⟩:=h2;exact⟨_,.inl ⟨vs,.of h3,(zIV l).symm⟩,q'.here wd rfl⟩
  |dic ds=>exact q'.elim
  |ins c fs=>exact q'.elim
 |.new ds,⟨a,vs,ex,s,n,l⟩,q=>subst ex;exact⟨_,.inl ⟨vs,.of s,(zIV l).symm⟩,q.here wd rfl⟩
def kE(ha:PEm X W a f)(he: ∀whole,isTrue a X.env whole=(do let v <-whole;standAt a.pos;holding [v] (truthy v)):=by intro _;rfl):PTm X W a (λρ S=>(f ρ S).bind zHK):=by obtain⟨ta,ha,fa⟩:=ha;exact⟨_,yFX ha he,λα ρ S σ H Q wd sl q=>fa α ρ S σ H _ wd sl (q.bind λu p S1 α1 H1 e1 x1 w1 d1 q1=>yGM w1 d1.1 (q1.shift x1))⟩
end
section
variable{X:Cx}{W:XW}{a b c e:Expr}{es:Bd}{f g h:Rho->Sto->R Er}{tf tg:Rho->Sto->R Bool}{af:Rho->Sto->R (List Er)}{pos:Pos}
def andF(p:Er)(S:Sto)(k:Sto->R Er):R Er:=(asB p S).bind λc S1=>if c=true then k S1 else .ok (.val (.bl false)) S1
def orF(p:Er)(S:Sto)(k:Sto->R Er):R Er:=(asB p S).bind λc S1=>if c=true then .ok (.val (.bl true)) S1 else k S1
def yGN{op}(ha:PEm X W a f):PEm X W (.BoolOp op [a] pos) f:=let ⟨t,h,k⟩:=ha;⟨t,yPR h,k⟩
def zYU(ha:PEm X W a f)(hb:PEm X W (.BoolOp .And (b::es) pos) g):PEm X W (.BoolOp .And (a::b::es) pos) (λρ S=>(f ρ S).bind λp S1=>andF p S1 λS2=>g ρ S2):=by
 obtain⟨ta,ha,fa⟩:=ha;obtain⟨tb,hb,fb⟩:=hb;refine⟨_,yPS ha hb,λα ρ S σ H Q wd sl q=>fa α ρ S σ H _ wd sl (q.bind λu p S1 α1 H1 e1 x1 w1 d1 q1=>?_)⟩;obtain⟨k,rfl,q2⟩:=zVR (q1.shift x1);refine⟨k,zKC d1.1,?_⟩
 cases k with
 |true=>rw [iP rfl]at q2 ⊢; exact fb α1 ρ S1 σ H1 _ w1 (sl.ext x1) q2
 |false=>rw [iN xF0]at q2 ⊢; exact Post.val q2 w1 (gW false)
def yQY(ha:PEm X W a f):PEm X W (.UnaryOp .Not a pos) (λρ S=>(f ρ S).bind λp S1=>(asB p S1).bind λk S2=>.ok (.val (.bl !k)) S2):=by obtain⟨ta,ha,fa⟩:=ha;refine⟨_,yPT ha,λα ρ S σ H Q wd sl q=>fa α ρ S σ H _ wd sl (q.bind λu p S1 α1 H1 e1 x1 w1 d1 q1=>?_)⟩;obtain⟨k,rfl,q2⟩:=zVR (q1.shift x1);exact⟨k,zKC d1.1,Post.val q2 w1 (gW _)⟩
def zFW(ha:PTm X W a tf):PWm X W (.BoolOp .And [a] pos) tf:=let ⟨t,h,k⟩:=ha;⟨t,yKZ h,k⟩
theorem zJU(ha:PTm X W a tf)(hb:PWm X W (.BoolOp .And (b::es) pos) tg):PWm X W (.BoolOp .And (a::b::es) pos) (λρ S=>(tf ρ S).bind λk S1=>if k=true then tg ρ S1 else .ok false S1):=by
 obtain⟨ta,ha,fa⟩:=ha;obtain⟨tb,hb,fb⟩:=hb;refine⟨_,yPP ha hb,λα ρ S σ H Q wd sl q=>fa α ρ S σ H _ wd sl (q.bind λu p S1 α1 H1 e1 x1 w1 d1 q1=>?_)⟩;cases d1
 cases u with
 |true=>rw [iP rfl]at q1 ⊢; exact fb α1 ρ S1 σ H1 _ w1 (sl.ext x1) (q1.shift x1)
 |false=>rw [iN xF0]at q1 ⊢; exact(q1.shift x1).here w1 rfl
def zOK(h:PWm X W a tf):PTm X W a tf:=let ⟨t,h,k⟩:=h;⟨t,h.pt,k⟩
theorem zTH(ha:PTm X W a tf):PTm X W (.UnaryOp .Not a pos) (λρ S=>(tf ρ S).bind λk S1=>.ok (!k) S1):=by obtain⟨ta,ha,fa⟩:=ha;refine⟨_,yPQ ha,λα ρ S σ H Q wd sl q=>fa α ρ S σ H _ wd sl (q.bind λu p S1 α1 H1 e1 x1 w1 d1 q1=>?_)⟩;cases d1;exact(q1.shift x1).here w1 rfl
end
section
variable{K:Be}{H0:Hp}
def zR:List Er->Sto->List MV×Sto
 |[],S=>([],S)
 |.val d::rs,S=>((d::(zR rs S).1),(zR rs S).2)
 |.new xs::rs,S=>((.loc S.length::(zR rs (S++[.lst xs])).1),(zR rs (S++[.lst xs])).2)
def ArgsE.grow{H0:Hp}{α:Ah}{H:Hp}{b:Addr}{rs:List Er}{vs:List V}(q:ArgsE K H0 α H rs vs)(n:b∉zJO rs vs):ArgsE K H0 (α++[b]) H rs vs:=by
 induction q with
 |nil=>exact .nil
 |@cons r v rs vs a m l ih=>
  cases r with
  |val d=>exact .cons ⟨Den.ex0 (Ex0.grow α [b] H) a.1,trivial⟩ m (ih (by simpa [zJO]using n))
  |new ds=>
   obtain⟨⟨c,us,rfl,h1,h2,h3⟩,h4⟩:=a;have n':b∉c::zJO rs vs:=n;refine .cons ⟨⟨c,us,rfl,h1,λz=>?_,h3.ex0 (Ex0.grow α [b] H)⟩,h4⟩ m (ih λz=>n' (mO _ z));rcases mem_append.mp z with z|z
   ·exact h2 z
   ·exact n' (by rw [mS.mp z];exact mF0)
theorem zHL{g:Gm}{H0:Hp}{α0:Ah}{H:Hp}: ∀{rs:List Er}{vs:List V}{α:Ah}{S:Sto},Wd g α S H->Ext α0 H0 α H->ArgsE g.K H0 α H rs vs->
  ∃α',Ext α0 H0 α' H/\Ex0 α H α' H/\Wd g α' (zR rs S).2 H/\DenL g.K α' H (zR rs S).1 vs
 |_,_,α,S,w,x,.nil=>⟨α,x,⟨⟨[],by simp⟩,λ_ _ h=>h,λ_ _ _ h=>h⟩,w,yS⟩
 |.val d::rs,v::vs,α,S,w,x,.cons a n l=>by obtain⟨α',x',y',w',l'⟩:=zHL w x l;exact⟨α',x',y',w',yD (Den.ex0 y' a.1) l'⟩
 |.new ds::rs,v::vs,α,S,w,x,.cons a n l=>by
  obtain⟨⟨c,us,rfl,h1,h2,h3⟩,h4⟩:=a;obtain⟨α',x',y',w',l'⟩:=zHL (w.enter h1 h2 h3) (w.enterx x (h4 c rfl) h2) (l.grow (n ds c rfl rfl));refine⟨α',x',⟨?_,y'.tup,y'.frz⟩,w',yD (zIU (y'.at ?_)) l'⟩
  ·obtain⟨t,e⟩:=y'.pre;exact⟨[c]++t,by rw [e,aA]⟩
  ·rw [<-w.len,getElem?_append_right (le_refl _),sub_self];rfl
theorem zLM: ∀(rs:List Er)(S:Sto),(zR rs S).1.length=rs.length
 |[],S=>rfl
 |.val d::rs,S=>by show(d::(zR rs S).1).length=_;rw [lC,zLM rs S];rfl
 |.new ds::rs,S=>by show(_::(zR rs _).1).length=_;rw [lC,zLM rs _];rfl
end
section
variable{X:Cx}{W:XW}{a b c e:Expr}{es:Bd}{f g h:Rho->Sto->R Er}{tf tg:Rho->Sto->R Bool}{af:Rho->Sto->R (List Er)}{pos:Pos}
def zE:PAm X W [] (λ_ S=>.ok [] S):=⟨_,yFY,λα ρ S σ H Q wd sl q=>q.here wd .nil⟩
def zB(ha:PEm X W a f)(hr:PAm X W es af)(hs:starEach (a::es) X.env=(false,eval a X.env)::starEach es X.env:=by rfl):PAm X W (a::es) (λρ S=>(f ρ S).bind λp S1=>(af ρ S1).bind λps S2=>.ok (p::ps) S2):=by
 obtain⟨ta,ha,fa⟩:=ha;obtain⟨tr,hr,fr⟩:=hr;refine⟨_,yAL ha hr hs,λα ρ S σ H Q wd sl q=>fa α ρ S σ H _ wd sl (q.bind λu p S1 α1 H1 e1 x1 w1 d1 q1=>fr α1 ρ S1 σ H1 _ w1 (sl.ext x1) ?_)⟩;have q1':Post X.g W α H ((af ρ S1).bind λps S2=>.ok (p::ps) S2) Q:=q1
 cases z:af ρ S1 with
 |ok ps S2=>
  rw [z]at q1';intro vs α2 H2 x2 w2 d2;refine q1' (u::vs) α2 H2 (x1.trans x2) w2 (ArgsE.cons (DenE.ext x2 d1) (λds b er eu hb=>?_) (ArgsE.back (λb h=>x1.free h) d2));subst er eu;obtain⟨⟨c,us,ec,h1,_⟩,_⟩:=d1;cases ec;have:=ArgsE.nones d2 _ hb;rw [h1]at this;cases this
 |exc c fs S2=>rw [z]at q1';exact λα2 H2 x2 w2=>q1' α2 H2 (x1.trans x2) w2
 |no=>rw [z]at q1';exact q1'
def zFX(rs:List Er)(S:Sto):R Er:=if rs.length<=sizeLine then .ok (.val (.tup (zR rs S).1)) (zR rs S).2 else .no
def bG(rs:List Er)(S:Sto):R Er:=if rs.length<=sizeLine then .ok (.new (zR rs S).1) (zR rs S).2 else .no
def bH{x1}(h:PAm X W es af):PEm X W (.Tuple es x1 pos) (λρ S=>(af ρ S).bind zFX):=by
 obtain⟨t,h,k⟩:=h;refine⟨_,yQH h,λα ρ S σ H Q wd sl q=>k α ρ S σ H _ wd sl (q.bind λvs rs S1 α1 H1 e1 x1 w1 d1 q1=>?_)⟩;have q1':Post X.g W α H (if rs.length<=sizeLine then R.ok (Er.val (.tup (zR rs S1).1)) (zR rs S1).2 else R.no) Q:=q1;split at q1'
 ·rename_i hz;obtain⟨α2,x2,y2,w2,l2⟩:=zHL w1 x1 d1;exact⟨by rw [ArgsE.length d1];exact hz,λp hp=>(q1'.shift x2).newt w2 hp l2⟩
 ·exact q1'.elim
def kK(h:PAm X W es af):PEm X W (.List es pos) (λρ S=>(af ρ S).bind bG):=by
 obtain⟨t,h,k⟩:=h;refine⟨_,yQI h,λα ρ S σ H Q wd sl q=>k α ρ S σ H _ wd sl (q.bind λvs rs S1 α1 H1 e1 x1 w1 d1 q1=>?_)⟩;have q1':Post X.g W α H (if rs.length<=sizeLine then R.ok (Er.new (zR rs S1).1) (zR rs S1).2 else R.no) Q:=q1;split at q1'
 ·rename_i hz;obtain⟨α2,x2,y2,w2,l2⟩:=zHL w1 x1 d1;exact⟨by rw [ArgsE.length d1];exact hz,λp hp=>(q1'.shift x2).newl w2 hp l2⟩
 ·exact q1'.elim
inductive ArgsX(K:Be)(α:Ah)(H:Hp):List Er->List V->Prop
 |nil:ArgsX K α H [] []
 |cons {r v rs vs}:DenX K α H r v->ArgsX K α H rs vs->ArgsX K α H (r::rs) (v::vs)
theorem ArgsE.x{K:Be}{H0:Hp}{α:Ah}{H:Hp}: ∀{rs vs},ArgsE K H0 α H rs vs->ArgsX K α H rs vs
 |_,_,.nil=>.nil
 |_,_,.cons a _ l=>.cons a.1 (ArgsE.x l)
def zBB(X:Cx)(W:XW)(r:List V->Hp->VK->Prop)(F:List Er->Sto->R Er):Prop:= ∀rs vs α S H Q,Wd X.g α S H->ArgsX X.K α H rs vs->Post X.g W α H (F rs S) Q->r vs H Q
def zP{id:String}{r:List V->Hp->VK->Prop}{F:List Er->Sto->R Er}{x:Str}{p:Pos}(hc:CallR X (.builtin id) r)(hF:zBB X W r F)(hg:Gl X x)(hm:X.mg x=none)(hv:bootBuiltins x=some (.builtin id))(ha:PAm X W (e::es) af)
  (hn:x≠"__name__":=by decide) (hdb:(x==("__debug__":Str))=false:=by decide)
  (he:starEach (e::es) X.env=(false,eval e X.env)::starEach es X.env:=by rfl) (hpl:(backTo pos (starEach es X.env)).any (·.1)=false:=by rfl):PEm X W (.Call (.Name x p) (e::es) [] pos) (λρ S=>(af ρ S).bind F):=by
 obtain⟨t,ha,k⟩:=ha;exact⟨_,zVK hc hg hm hv ha hn hdb he hpl,λα ρ S σ H Q wd sl q=>k α ρ S σ H _ wd sl (q.bind λvs rs S1 α1 H1 e1 x1 w1 d1 q1=>hF rs vs α1 S1 H1 Q w1 (ArgsE.x d1) (q1.shift x1))⟩
def jK{T:String}{r:List V->Hp->VK->Prop}{F:List Er->Sto->R Er}{x:Str}{p:Pos}(hc:CallR X (.type T) r)(hF:zBB X W r F)(hg:Gl X x)(hm:X.mg x=none)(hv:bootBuiltins x=some (.type T))(ha:PAm X W (e::es) af)
  (hn:x≠"__name__":=by decide) (hdb:(x==("__debug__":Str))=false:=by decide)
  (he:starEach (e::es) X.env=(false,eval e X.env)::starEach es X.env:=by rfl) (hpl:(backTo pos (starEach es X.env)).any (·.1)=false:=by rfl):PEm X W (.Call (.Name x p) (e::es) [] pos) (λρ S=>(af ρ S).bind F):=by
 obtain⟨t,ha,k⟩:=ha;exact⟨_,zRS hc hg hm hv ha hn hdb he hpl,λα ρ S σ H Q wd sl q=>k α ρ S σ H _ wd sl (q.bind λvs rs S1 α1 H1 e1 x1 w1 d1 q1=>hF rs vs α1 S1 H1 Q w1 (ArgsE.x d1) (q1.shift x1))⟩
def zYV(X:Cx)(W:XW)(r:V->List V->Hp->VK->Prop)(F:Er->List Er->Sto->R Er):Prop:= ∀p rs x vs α S H0 H Q α0,Wd X.g α S H->Ext α0 H0 α H->DenX X.K α H p x->ArgsE X.K H0 α H rs vs->Post X.g W α0 H0 (F p rs S) Q->r x vs H Q
def TyM(X:Cx)(T:String)(ty:Er->Sto->Bool):Prop:= ∀p x α S H,Wd X.g α S H->DenX X.K α H p x->ty p S=true->tyV X.K T x H
def yAS{T:String}{name:Str}{id:String}{r:V->List V->Hp->VK->Prop}{F:Er->List Er->Sto->R Er}{ty:Er->Sto->Bool}{apos:Pos}(pa:PlainAttrs T)(slot:Slot T name id)(hty:typeOf (.builtin id)=pure (.type "method_descriptor"))(hm:MtR X id r)(hF:zYV X W r F)(hT:TyM X T ty)
  (ho:PEm X W a f) (ha:PAm X W (e::es) af)
  (hbase:attributeBase a name X.env (eval a X.env)=eval a X.env:=by rfl)
  (hfew:((backTo pos (starEach (e::es) X.env)).all (λx=>!x.1)&&(backToKw pos (keywordEach [] X.env)).all (λx=>x.1.isSome)
   &&decide ((e::es).length+([]:List Keyword).length+(if([]:List Keyword).isEmpty then 0 else 1)<30))=true:=by rfl)
  (hline:(apos.endLine==pos.line)=true:=by rfl) (hs:starEach (e::es) X.env=(false,eval e X.env)::starEach es X.env:=by rfl) (hplain:(backTo pos (starEach es X.env)).any (·.1)=false:=by rfl):
  PEm X W (.Call (.Attribute a name apos) (e::es) [] pos) (λρ S=>(f ρ S).bind λp S1=>if ty p S1=true then(af ρ S1).bind λrs S2=>F p rs S2 else .no):=by
 obtain⟨to,ho,fo⟩:=ho;obtain⟨t,ha,k⟩:=ha;refine⟨_,pe_bm pa slot hty hm ho ha hbase hfew hline hs hplain,λα ρ S σ H Q wd sl q=>fo α ρ S σ H _ wd sl (q.bind λu p S1 α1 H1 e1 x1 w1 d1 q1=>?_)⟩;split at q1
 ·rename_i hz;exact⟨hT p u α1 S1 H1 w1 d1.1 hz,k α1 ρ S1 σ H1 _ w1 (sl.ext x1) ((q1.shift x1).bind λvs rs S2 α2 H2 e2 x2 w2 d2 q2=>hF p rs u vs α2 S2 H1 H2 Q α1 w2 x2 (d1.1.ext x2) d2 q2)⟩
 ·exact q1.elim
def zVS{T:String}{name:Str}{id:String}{r:V->List V->Hp->VK->Prop}{F:Er->List Er->Sto->R Er}{ty:Er->Sto->Bool}{apos:Pos}(pa:PlainAttrs T)(slot:Slot T name id)(hty:typeOf (.builtin id)=pure (.type "method_descriptor"))(hm:MtR X id r)(hF:zYV X W r F)(hT:TyM X T ty)
  (ho:PEm X W a f) (hbase:attributeBase a name X.env (eval a X.env)=eval a X.env:=by rfl) (hline:(apos.endLine==pos.line)=true:=by rfl):
  PEm X W (.Call (.Attribute a name apos) [] [] pos) (λρ S=>(f ρ S).bind λp S1=>if ty p S1=true then F p [] S1 else .no):=by
 obtain⟨to,ho,fo⟩:=ho;refine⟨_,yQN pa slot hty hm ho hbase hline,λα ρ S σ H Q wd sl q=>fo α ρ S σ H _ wd sl (q.bind λu p S1 α1 H1 e1 x1 w1 d1 q1=>?_)⟩;split at q1
 ·rename_i hz;exact⟨hT p u α1 S1 H1 w1 d1.1 hz,hF p [] u [] α1 S1 H1 H1 Q α1 w1 (Ext.refl _ _) d1.1 .nil (q1.shift x1)⟩
 ·exact q1.elim
def wX:POm X W none (λ_ S=>.ok none S):=⟨_,yLJ,λα ρ S σ H Q wd sl q=>q.here wd rfl⟩
def asI:Er->Sto->R (Option Int)
 |.val (.int i),S=>.ok (some i) S
 |_,_=>.no
def wY(ha:PEm X W a f):POm X W (some a) (λρ S=>(f ρ S).bind asI):=by
 obtain⟨ta,ha,fa⟩:=ha;refine⟨_,yLK ha,λα ρ S σ H Q wd sl q=>fa α ρ S σ H _ wd sl (q.bind λu p S1 α1 H1 e1 x1 w1 d1 q1=>?_)⟩;unfold asI at q1;split at q1
 ·exact⟨_,xO d1.1,(q1.shift x1).here w1 rfl⟩
 ·exact q1.elim
def Sl3(X:Cx)(W:XW)(r:V->Option Int->Option Int->Hp->VK->Prop)(F:Er->Option Int->Option Int->Sto->R Er):Prop:= ∀p lo hi x α S H Q,Wd X.g α S H->DenX X.K α H p x->Post X.g W α H (F p lo hi S) Q->r x lo hi H Q
def yGO{lo hi:Option Expr}{r:V->Option Int->Option Int->Hp->VK->Prop}{F:Er->Option Int->Option Int->Sto->R Er}{lf hf:Rho->Sto->R (Option Int)}{p2:Pos}(hr:SlR X r)(hF:Sl3 X W r F)(ha:PEm X W a f)(hl:POm X W lo lf)(hh:POm X W hi hf):
  PEm X W (.Subscript a (.Slice lo hi none p2) pos) (λρ S=>(f ρ S).bind λp S1=>(lf ρ S1).bind λl S2=>(hf ρ S2).bind λu S3=>F p l u S3):=by
 obtain⟨ta,ha,fa⟩:=ha;obtain⟨tl,hl,fl⟩:=hl;obtain⟨th,hh,fh⟩:=hh
 refine⟨_,yGA hr ha hl hh,λα ρ S σ H Q wd sl q=>fa α ρ S σ H _ wd sl (q.bind λu p S1 α1 H1 e1 x1 w1 d1 q1=>fl α1 ρ S1 σ H1 _ w1 (sl.ext x1) ((q1.shift x1).bind λu2 l S2 α2 H2 e2 x2 w2 d2 q2=>
  fh α2 ρ S2 σ H2 _ w2 ((sl.ext x1).ext x2) ((q2.shift x2).bind λu3 m S3 α3 H3 e3 x3 w3 d3 q3=>?_)))⟩
 cases d2;cases d3;exact hF p u2 u3 u α3 S3 H3 Q w3 ((d1.1.ext x2).ext x3) (q3.shift x3)
end
inductive Fl where
 |next (ρ:Rho)|ret (r:Er)|brk (ρ:Rho)|cont (ρ:Rho)
abbrev AX:=Rho->Sto->R Er
abbrev AY:=Rho->Sto->R Fl
abbrev AZ:=Rho->Sto->R Bool
def PostS(g:Gm)(W:XW)(α:Ah)(H:Hp)(D:Ends):R Fl->Prop
 |.ok (.next ρ) S=> ∀σ α' H',Ext α H α' H'->Wd g α' S H'->Slots g.K α' H' ρ σ->D.nx σ H'
 |.ok (.ret r) S=> ∀v α' H',Ext α H α' H'->Wd g α' S H'->DenE g.K H α' H' r v->D.rt v H'
 |.ok (.brk ρ) S=> ∀σ α' H',Ext α H α' H'->Wd g α' S H'->Slots g.K α' H' ρ σ->D.bk σ H'
 |.ok (.cont ρ) S=> ∀σ α' H',Ext α H α' H'->Wd g α' S H'->Slots g.K α' H' ρ σ->D.ct σ H'
 |.exc c fs S=> ∀α' H',Ext α H α' H'->Wd g α' S H'->W c fs S α' H'
 |.no=>False
section
variable{g:Gm}{W:XW}{α α':Ah}{H H':Hp}{D D':Ends}
def PostS.shift(x:Ext α H α' H'): ∀{m:R Fl},PostS g W α H D m->PostS g W α' H' D m
 |.ok (.next ρ) S,q=>λσ α2 H2 x2 w2 s2=>q σ α2 H2 (x.trans x2) w2 s2
 |.ok (.ret r) S,q=>λv α2 H2 x2 w2 d2=>q v α2 H2 (x.trans x2) w2 (d2.back λb h=>x.free h)
 |.ok (.brk ρ) S,q=>λσ α2 H2 x2 w2 s2=>q σ α2 H2 (x.trans x2) w2 s2
 |.ok (.cont ρ) S,q=>λσ α2 H2 x2 w2 s2=>q σ α2 H2 (x.trans x2) w2 s2
 |.exc c fs S,q=>λα2 H2 x2 w2=>q α2 H2 (x.trans x2) w2
 |.no,q=>q
def PostS.expr{β τ:Type}[Dn β τ]{m:R β}{k:β->Sto->R Fl}{Q':τ->Hp->Prop}(q:PostS g W α H D (m.bind k))
  (f: ∀u b S1 α1 H1,m=.ok b S1->Ext α H α1 H1->Wd g α1 S1 H1->Dn.d g H α1 S1 H1 b u->PostS g W α H D (k b S1)->Q' u H1):Post g W α H m Q':=by
 cases m with
 |ok b S=>exact λu α1 H1 x w d=>f u b S α1 H1 rfl x w d q
 |exc c fs S=>exact q
 |no=>exact q
def PostS.stmt{m:R Fl}{k:Fl->Sto->R Fl}(q:PostS g W α H D (m.bind k))
  (hn: ∀ρ S σ α1 H1,m=.ok (.next ρ) S->Ext α H α1 H1->Wd g α1 S H1->Slots g.K α1 H1 ρ σ->PostS g W α H D (k (.next ρ) S)->D'.nx σ H1)
  (hr: ∀r S v α1 H1,m=.ok (.ret r) S->Ext α H α1 H1->Wd g α1 S H1->DenE g.K H α1 H1 r v->PostS g W α H D (k (.ret r) S)->D'.rt v H1)
  (hb: ∀ρ S σ α1 H1,m=.ok (.brk ρ) S->Ext α H α1 H1->Wd g α1 S H1->Slots g.K α1 H1 ρ σ->PostS g W α H D (k (.brk ρ) S)->D'.bk σ H1)
  (hc: ∀ρ S σ α1 H1,m=.ok (.cont ρ) S->Ext α H α1 H1->Wd g α1 S H1->Slots g.K α1 H1 ρ σ->PostS g W α H D (k (.cont ρ) S)->D'.ct σ H1):PostS g W α H D' m:=by
 cases m with
 |ok fl S=>
  cases fl with
  |next ρ=>exact λσ α1 H1 x w s=>hn ρ S σ α1 H1 rfl x w s q
  |ret r=>exact λv α1 H1 x w d=>hr r S v α1 H1 rfl x w d q
  |brk ρ=>exact λσ α1 H1 x w s=>hb ρ S σ α1 H1 rfl x w s q
  |cont ρ=>exact λσ α1 H1 x w s=>hc ρ S σ α1 H1 rfl x w s q
 |exc c fs S=>exact q
 |no=>exact q
end
def PSm(X:Cx)(W:XW)(st:Stmt)(F:AY):Prop:=
 ∃t,PS X st t/\ ∀α ρ S σ H D,Wd X.g α S H->Slots X.K α H ρ σ->PostS X.g W α H D (F ρ S)->t D σ H
def zTI(X:Cx)(W:XW)(st:List Stmt)(F:AY):Prop:=
 ∃t,PSs X st t/\ ∀α ρ S σ H D,Wd X.g α S H->Slots X.K α H ρ σ->PostS X.g W α H D (F ρ S)->t D σ H
def zN(F G:AY):AY:=λρ S=>(F ρ S).bind λfl S1=>match fl with
 |.next ρ'=>G ρ' S1
 |.ret r=>.ok (.ret r) S1
 |.brk ρ'=>.ok (.brk ρ') S1
 |.cont ρ'=>.ok (.cont ρ') S1
section
variable{X:Cx}{W:XW}{st:Stmt}{sts as bs:List Stmt}{F G:AY}{f g:AX}{tf:AZ}{e c:Expr}{pos:Pos}
def xA:zTI X W [] (λρ S=>.ok (.next ρ) S):=⟨_,yLA,λα ρ S σ H D wd sl q=>q σ α H (Ext.refl α H) wd sl⟩
def zK(h:PSm X W st F):zTI X W [st] F:=let ⟨t,h,k⟩:=h;⟨t,yLB h,k⟩
def zG(h1:PSm X W st F)(h2:zTI X W sts G):zTI X W (st::sts) (zN F G):=by
 obtain⟨t,h1,k1⟩:=h1;obtain⟨u,h2,k2⟩:=h2;refine⟨_,yFO h1 h2,λα ρ S σ H D wd sl q=>k1 α ρ S σ H _ wd sl (q.stmt ?_ ?_ ?_ ?_)⟩
 ·intro ρ1 S1 σ1 α1 H1 e x1 w1 s1 q1;exact k2 α1 ρ1 S1 σ1 H1 D w1 s1 (PostS.shift x1 q1)
 ·intro r S1 v α1 H1 e x1 w1 d1 q1;exact q1 v α1 H1 x1 w1 d1
 ·intro ρ1 S1 σ1 α1 H1 e x1 w1 s1 q1;exact q1 σ1 α1 H1 x1 w1 s1
 ·intro ρ1 S1 σ1 α1 H1 e x1 w1 s1 q1;exact q1 σ1 α1 H1 x1 w1 s1
def yC(he:PEm X W e f):PSm X W (.Return (some e) pos) (λρ S=>(f ρ S).bind λr S1=>.ok (.ret r) S1):=by obtain⟨t,he,k⟩:=he;exact⟨_,yPU he,λα ρ S σ H D wd sl q=>k α ρ S σ H _ wd sl (q.expr λu r S1 α1 H1 e x1 w1 d1 q1=>q1 u α1 H1 x1 w1 d1)⟩
def yGP:PSm X W st (λ_ _=>.no):=⟨_,yFP,λα ρ S σ H D wd sl q=>q.elim⟩
def kQ(he:PEm X W e f)(hs:swapsWith e none pos.line X.env=pure false:=by rfl):PSm X W (.Expr e pos) (λρ S=>(f ρ S).bind λ_ S1=>.ok (.next ρ) S1):=by obtain⟨t,he,k⟩:=he;exact⟨_,yLC he hs,λα ρ S σ H D wd sl q=>k α ρ S σ H _ wd sl (q.expr λu r S1 α1 H1 e x1 w1 d1 q1=>q1 σ α1 H1 x1 w1 (sl.ext x1))⟩
def wP(hc:PTm X W c tf)(ha:zTI X W as F)(hb:zTI X W bs G):PSm X W (.If c as bs pos) (λρ S=>(tf ρ S).bind λk S1=>if k=true then F ρ S1 else G ρ S1):=by
 obtain⟨tc,hc,kc⟩:=hc;obtain⟨ta,ha,ka⟩:=ha;obtain⟨tb,hb,kb⟩:=hb;refine⟨_,ps_if hc ha hb,λα ρ S σ H D wd sl q=>kc α ρ S σ H _ wd sl (q.expr λu p S1 α1 H1 e x1 w1 d1 q1=>?_)⟩;cases d1
 cases u with
 |true=>rw [iP rfl]at q1 ⊢; exact ka α1 ρ S1 σ H1 D w1 (sl.ext x1) (PostS.shift x1 q1)
 |false=>rw [iN xF0]at q1 ⊢; exact kb α1 ρ S1 σ H1 D w1 (sl.ext x1) (PostS.shift x1 q1)
instance:Dn Rho St:=⟨λg _ α' _ H' ρ σ=>Slots g.K α' H' ρ σ,λ_ q=>q⟩
def PGm(X:Cx)(W:XW)(tg:Expr)(gf:MV->Rho->Sto->R Rho):Prop:=
 ∃t,PG X tg t/\ ∀α ρ S σ H d v Q,Wd X.g α S H->Slots X.K α H ρ σ->Den X.K α H d v->Post X.g W α H (gf d ρ S) Q->t v σ H Q
def PGsm(X:Cx)(W:XW)(tgs:Bd)(gf:List MV->Rho->Sto->R Rho):Prop:=
 ∃t,PGs X tgs t/\ ∀α ρ S σ H ds vs Q,Wd X.g α S H->Slots X.K α H ρ σ->DenL X.K α H ds vs->Post X.g W α H (gf ds ρ S) Q->t vs σ H Q
def gNm(i:Nat):MV->Rho->Sto->R Rho:=λd ρ S=>.ok (ρ.set i (some d)) S
def zT(i:Nat){x:Str}(hN:X.N.Nodup)(hi:X.N[i]? =some x:=by rfl)(hx:Loc X.env.scope x:=by first |exact Or.inl rfl|exact Or.inr rfl)(hf:X.fn x=true\/X.env.scope.names.lookup x=some .local:=by first |exact .inl rfl|exact .inr rfl|assumption):
  PGm X W (.Name x pos) (gNm i):=⟨_,yAJ hN hi hx hf,λα ρ S σ H d v Q wd sl de q=>Post.here (b:=ρ.set i (some d)) q wd (sl.set de)⟩
def zEY:List MV->Rho->Sto->R Rho
 |[],ρ,S=>.ok ρ S
 |_,_,_=>.no
def xF(g1:MV->Rho->Sto->R Rho)(g2:List MV->Rho->Sto->R Rho):List MV->Rho->Sto->R Rho
 |d::ds,ρ,S=>(g1 d ρ S).bind λρ1 S1=>g2 ds ρ1 S1
 |_,_,_=>.no
def zHM:PGsm X W [] zEY:=⟨_,yLD,λα ρ S σ H ds vs Q wd sl de q=>by
 cases ds with
 |nil=>exact⟨de.isnil,Post.here (b:=ρ) q wd sl⟩
 |cons d ds=>exact q.elim⟩
def wL{es:Bd}{g1:MV->Rho->Sto->R Rho}{g2:List MV->Rho->Sto->R Rho}(h1:PGm X W e g1)(h2:PGsm X W es g2)(hs:(assignEach (e::es) X.env).map (·.2)=assign e X.env::(assignEach es X.env).map (·.2):=by rfl):PGsm X W (e::es) (xF g1 g2):=by
 obtain⟨t1,h1,k1⟩:=h1;obtain⟨t2,h2,k2⟩:=h2;refine⟨_,yFR h1 h2 hs,λα ρ S σ H ds vs Q wd sl de q=>?_⟩
 cases ds with
 |nil=>exact q.elim
 |cons d ds=>
  obtain⟨v,r,rfl,a,l⟩:=de.uncons;refine⟨v,r,rfl,k1 α ρ S σ H d v _ wd sl a (Post.bind q λu p S1 α1 H1 e x1 w1 d1 q1=>k2 α1 p S1 u H1 ds r Q w1 d1 (l.ext x1) (q1.shift x1))⟩
def gTp(n:Nat)(g2:List MV->Rho->Sto->R Rho):MV->Rho->Sto->R Rho
 |.tup ds,ρ,S=>if ds.length=n then g2 ds ρ S else .no
 |_,_,_=>.no
def zHN{es:Bd}{k n:Nat}{g2:List MV->Rho->Sto->R Rho}(hc:X.calm=true)(h:PGsm X W es g2)
  (hn:(assignEach es X.env).length=n:=by rfl) (hst:(assignEach es X.env).findIdx? (·.1)=none:=by rfl):PGm X W (.Tuple es k pos) (gTp n g2):=by
 obtain⟨t,h,k⟩:=h;refine⟨_,yPW hc h hn hst,λα ρ S σ H d v Q wd sl de q=>?_⟩;unfold gTp at q;split at q
 ·split at q
  ·rename_i hl;obtain⟨a,vs,rfl,s,l⟩:=xX de;exact⟨a,vs,rfl,s,by rw [l.length];exact hl,k α ρ S σ H _ vs Q wd sl l q⟩
  ·exact q.elim
 ·exact q.elim
def dA(r:Er)(S:Sto):R MV:=match r with
 |.val d=>.ok d S
 |.new ds=>.ok (.loc S.length) (S++[.lst ds])
def zEZ{g:Gm}{H0:Hp}{α0 α:Ah}{H:Hp}{S:Sto}{r:Er}{v:V}(w:Wd g α S H)(x:Ext α0 H0 α H)(d:DenE g.K H0 α H r v):
  ∃d' S' α',dA r S=.ok d' S'/\Ext α0 H0 α' H/\Ex0 α H α' H/\Wd g α' S' H/\Den g.K α' H d' v:=by
 cases r with
 |val d'=>exact⟨d',S,α,rfl,x,⟨⟨[],by simp⟩,λ_ _ h=>h,λ_ _ _ h=>h⟩,w,d.1⟩
 |new ds=>
  obtain⟨⟨c,us,rfl,h1,h2,h3⟩,h4⟩:=d;exact⟨.loc S.length,S++[.lst ds],α++[c],rfl,w.enterx x (h4 c rfl) h2,Ex0.grow α [c] H,w.enter h1 h2 h3,zIU (by rw [<-w.len,getElem?_append_right (le_refl _),sub_self];rfl)⟩
def zTJ(ρ:Rho)(i:Nat)(r:Er)(S:Sto):R Fl:=(dA r S).bind λd S1=>.ok (.next (ρ.set i (some d))) S1
def zM(i:Nat){x:Str}{pos':Pos}(hN:X.N.Nodup)(he:PEm X W e f)(hi:X.N[i]? =some x:=by rfl)(hx:Loc X.env.scope x:=by first |exact Or.inl rfl|exact Or.inr rfl)
  (hs:swapsWith e (some (.Name x pos')) pos.line X.env=pure false:=by rfl) (hf:X.fn x=true\/X.env.scope.names.lookup x=some .local:=by first |exact .inl rfl|exact .inr rfl|assumption):
  PSm X W (.Assign [.Name x pos'] e pos) (λρ S=>(f ρ S).bind (zTJ ρ i)):=by
 obtain⟨t,he,k⟩:=he;refine⟨_,yPY hN hi hx he hs hf,λα ρ S σ H D wd sl q=>k α ρ S σ H _ wd sl (q.expr λu r S1 α1 H1 e x1 w1 d1 q1=>?_)⟩;obtain⟨d',S',α',e1,x',y',w',de⟩:=zEZ w1 x1 d1;unfold zTJ at q1;rw [e1]at q1;exact q1 _ α' H1 x' w' (((sl.ext x1).ex0 y').set de)
def asgF(gf:MV->Rho->Sto->R Rho)(ρ:Rho)(r:Er)(S:Sto):R Fl:=(dA r S).bind λd S1=>(gf d ρ S1).bind λρ' S2=>.ok (.next ρ') S2
def zFY{tg:Expr}{gf:MV->Rho->Sto->R Rho}(he:PEm X W e f)(hg:PGm X W tg gf)(hs:swapsWithSole [tg] e pos.line X.env=pure false:=by rfl)(hw:swappedStores [tg] e X.env=pure none:=by rfl)
  (h1:(assignEach [tg] X.env).map (·.2)=[assign tg X.env]:=by rfl):PSm X W (.Assign [tg] e pos) (λρ S=>(f ρ S).bind (asgF gf ρ)):=by
 obtain⟨t,he,k⟩:=he;obtain⟨tg',hg,kg⟩:=hg;refine⟨_,yPX he hg hs hw h1,λα ρ S σ H D wd sl q=>k α ρ S σ H _ wd sl (q.expr λu r S1 α1 H1 e x1 w1 d1 q1=>?_)⟩;obtain⟨d',S',α',e1,x',y',w',de⟩:=zEZ w1 x1 d1;unfold asgF at q1;rw [e1]at q1;have q1:PostS X.g W α H D ((gf d' ρ S').bind λρ' S2=>.ok (.next ρ') S2):=q1;exact kg α' ρ S' σ H1 d' u _ w' ((sl.ext x1).ex0 y') de ((PostS.shift x' q1).expr λσ2 ρ2 S2 α2 H2 e2 x2 w2 s2 q2=>q2 σ2 α2 H2 x2 w2 s2)
structure Wk where
 ds:List MV
 gs:List (Nat×List MV)
def stay(gs:Bk)(S:Sto):Prop:= ∀p∈gs,S[p.1]? =some (.lst p.2)
def ItM(g:Gm)(J:It)(P:List Addr->Sto->Hp->Prop)(ds:Bh):Prop:= ∀i α S H,P α S H->Wd g α S H->(i<ds.length->J.go i H/\ ∀x H',J.yld i H x H'->Ext α H α H'/\Wd g α S H'/\P α S H'/\ ∃d,ds[i]? =some d/\Den g.K α H' d x)/\(ds.length<=i->J.stop i H)
structure WkD(g:Gm)(α:Ah)(S:Sto)(H:Hp)(k:Wk)(J:It)(P:List Addr->Sto->Hp->Prop):Prop where
 it:ItM g J P k.ds
 here:P α S H
 stays: ∀α1 S1 H1 α2 S2 H2,P α1 S1 H1->Ext α1 H1 α2 H2->Wd g α2 S2 H2->stay k.gs S2->P α2 S2 H2
 st:stay k.gs S
instance:Dn Wk It:=⟨λg _ α S H k J=> ∃P,WkD g α S H k J P,λ_ q=>q⟩
abbrev PIm(X:Cx)(W:XW)(tg iter:Expr)(f:Rho->Sto->R Wk):Prop:=Jd X W (PI X tg iter) f
variable{tg iter:Expr}
def zKE{a:Addr}{ds:Bh}:ItM X.g (Itl X.K a) (λα S H=> ∃vs,SqL X.K H a vs/\DenL X.K α H ds vs) ds:=by
 intro i α S H ⟨vs,s,l⟩ w;have hl:=l.length;refine⟨λhi=>?_,λhi=>⟨vs,s,by omega⟩⟩;have hv:i<vs.length:=by omega
 refine⟨⟨vs,vs[i],s,gE0 hv⟩,λx H' y=>?_⟩;obtain⟨rfl,y⟩:=y;obtain⟨d,h1,h2⟩:=l.get (y vs s);exact⟨Ext.refl _ _,w,⟨vs,s,l⟩,d,h1,h2⟩
def yAT{a:Addr}{ds:Bh}:ItM X.g (Itt X.K a) (λα S H=> ∃vs,SqT X.K H a vs/\DenL X.K α H ds vs) ds:=by
 intro i α S H ⟨vs,s,l⟩ w;have hl:=l.length;refine⟨λhi=>?_,λhi=>⟨vs,s,by omega⟩⟩;have hv:i<vs.length:=by omega
 refine⟨⟨vs,vs[i],s,gE0 hv⟩,λx H' y=>?_⟩;obtain⟨rfl,y⟩:=y;obtain⟨d,h1,h2⟩:=l.get (y vs s);exact⟨Ext.refl _ _,w,⟨vs,s,l⟩,d,h1,h2⟩
def yLX{x:Ab}:ItM X.g (Its x) (λ_ _ _=>True) (x.map λc=>.str [c]):=by intro i α S H _ w;refine⟨λhi=>⟨show i<x.length by simpa using hi,λv H' y=>?_⟩,λhi=>by show x.length<=i;simpa using hi⟩;obtain⟨rfl,c,h1,h2⟩:=y;refine⟨Ext.refl _ _,w,trivial,.str [c],by rw [getElem?_map,h1];rfl,?_⟩;rw [h2];exact zBH [c]
def yDY{lo:Int}{n:Nat}:ItM X.g (Itr lo n) (λ_ _ _=>True) ((List.range n).map λk=>.int (lo+(k:Nat))):=by
 intro i α S H _ w;refine⟨λhi=>⟨show i<n by simpa using hi,λv H' y=>?_⟩,λhi=>by show n<=i;simpa using hi⟩;obtain⟨rfl,y⟩:=y;have hi':i<n:=by simpa using hi
 refine⟨Ext.refl _ _,w,trivial,.int (lo+i),by rw [getElem?_map,List.getElem?_range hi'];rfl,?_⟩;rw [y];exact xW _
def itL:Er->Sto->R Wk
 |.new ds,S=>.ok ⟨ds,[]⟩ S
 |.val (.scr ds),S=>.ok ⟨ds,[]⟩ S
 |.val (.loc l),S=>match S[l]? with
  |some (.lst ds)=>.ok ⟨ds,[(l,ds)]⟩ S
  |_=>.no
 |_,_=>.no
def bI{S:Sto}:stay [] S:=λp h=>by simp at h
def wM(he:PEm X W iter f):PIm X W tg iter (λρ S=>(f ρ S).bind itL):=by
 obtain⟨t,he,k⟩:=he;refine⟨_,yLE he,λα ρ S σ H Rc wd sl q=>k α ρ S σ H _ wd sl (q.bind λu p S1 α1 H1 e x1 w1 d1 q1=>?_)⟩
 replace q1:=q1.shift x1
 unfold itL at q1;split at q1
 ·rename_i S0 ds;obtain⟨⟨b,vs,rfl,h1,h2,h3⟩,h4⟩:=d1;refine⟨b,rfl,⟨vs,.of h1⟩,q1.here (u:=Itl X.K b) w1 ⟨λα2 S2 H2=> ∃vs,SqL X.K H2 b vs/\DenL X.K α2 H2 ds vs/\H2 b=some (.lst vs)/\b∉α2,?_,⟨vs,.of h1,h3,h1,h2⟩,?_,bI⟩⟩
  ·intro i α2 S2 H2 ⟨vs2,a1,a2,a3,a4⟩ w2;obtain⟨i1,i2⟩:=zKE (X:=X) (a:=b) (ds:=ds) i α2 S2 H2 ⟨vs2,a1,a2⟩ w2;refine⟨λhi=>⟨(i1 hi).1,λx H' y=>?_⟩,i2⟩;obtain⟨j1,j2,j3,j4⟩:=(i1 hi).2 x H' y;obtain⟨rfl,_⟩:=y;exact⟨j1,j2,⟨vs2,a1,a2,a3,a4⟩,j4⟩
  ·intro α2 S2 H2 α3 S3 H3 ⟨vs2,a1,a2,a3,a4⟩ x w3 _;exact⟨vs2,.of (x.keep b _ a3 a4),a2.ext x,x.keep b _ a3 a4,x.out a3 a4⟩
 ·rename_i S0 ds;obtain⟨a,vs,rfl,s,l⟩:=zOI d1.1;refine⟨a,rfl,⟨vs,s.l⟩,q1.here (u:=Itl X.K a) w1 ⟨λα2 S2 H2=> ∃vs,SqL X.K H2 a vs/\DenL X.K α2 H2 ds vs/\SqF X.K H2 a vs,?_,⟨vs,s.l,l,s⟩,?_,bI⟩⟩
  ·intro i α2 S2 H2 ⟨vs2,a1,a2,a3⟩ w2;obtain⟨i1,i2⟩:=zKE (X:=X) (a:=a) (ds:=ds) i α2 S2 H2 ⟨vs2,a1,a2⟩ w2;refine⟨λhi=>⟨(i1 hi).1,λx H' y=>?_⟩,i2⟩;obtain⟨j1,j2,j3,j4⟩:=(i1 hi).2 x H' y;obtain⟨rfl,_⟩:=y;exact⟨j1,j2,⟨vs2,a1,a2,a3⟩,j4⟩
  ·intro α2 S2 H2 α3 S3 H3 ⟨vs2,a1,a2,a3⟩ x w3 _;exact⟨vs2,(x.sqF a3).l,a2.ext x,x.sqF a3⟩
 ·rename_i S0 n;obtain⟨a,rfl,h⟩:=zEH d1.1;obtain⟨o,h1,h2⟩:=w1.of h;rw [h1]at q1
  cases o with
  |lst ds=>
   obtain⟨vs,h3,l⟩:=h2;refine⟨a,rfl,⟨vs,.of h3⟩,Post.here (b:=(⟨ds,[(n,ds)]⟩:Wk)) q1 (u:=Itl X.K a) w1 ⟨λα2 S2 H2=> ∃vs,SqL X.K H2 a vs/\DenL X.K α2 H2 ds vs/\α2[n]? =some a,?_,⟨vs,.of h3,l,h⟩,?_,?_⟩⟩
   ·intro i α2 S2 H2 ⟨vs2,a1,a2,a3⟩ w2;obtain⟨i1,i2⟩:=zKE (X:=X) (a:=a) (ds:=ds) i α2 S2 H2 ⟨vs2,a1,a2⟩ w2;refine⟨λhi=>⟨(i1 hi).1,λx H' y=>?_⟩,i2⟩;obtain⟨j1,j2,j3,j4⟩:=(i1 hi).2 x H' y;obtain⟨rfl,_⟩:=y;exact⟨j1,j2,⟨vs2,a1,a2,a3⟩,j4⟩
   ·intro α2 S2 H2 α3 S3 H3 ⟨vs2,a1,a2,a3⟩ x w3 hs;have a3':=x.at a3;have:=w3.obj n a _ a3' (hs (n,ds) (by simp));obtain⟨vs3,b1,b2⟩:=this;exact⟨vs3,.of b1,b2,a3'⟩
   ·intro p hp;have:p=(n,ds):=by simpa using hp
    subst this;exact h1
  |dic ds=>exact q1.elim
  |ins c fs=>exact q1.elim
 ·exact q1.elim
def itT:Er->Sto->R Wk
 |.val (.tup ds),S=>.ok ⟨ds,[]⟩ S
 |_,_=>.no
def zOL(he:PEm X W iter f):PIm X W tg iter (λρ S=>(f ρ S).bind itT):=by
 obtain⟨t,he,k⟩:=he;refine⟨_,yQA he,λα ρ S σ H Rc wd sl q=>k α ρ S σ H _ wd sl (q.bind λu p S1 α1 H1 e x1 w1 d1 q1=>?_)⟩
 replace q1:=q1.shift x1
 unfold itT at q1;split at q1
 ·rename_i S0 ds;obtain⟨a,vs,rfl,s,l⟩:=zAI d1.1;exact⟨a,rfl,⟨vs,s⟩,q1.here (u:=Itt X.K a) w1 ⟨_,yAT,⟨vs,s,l⟩,λα2 S2 H2 α3 S3 H3 ⟨vs2,a1,a2⟩ x w3 _=>⟨vs2,x.sqT a1,a2.ext x⟩,bI⟩⟩
 ·exact q1.elim
def itS:Er->Sto->R Wk
 |.val (.str x),S=>.ok ⟨x.map λc=>.str [c],[]⟩ S
 |_,_=>.no
def yQZ(he:PEm X W iter f):PIm X W tg iter (λρ S=>(f ρ S).bind itS):=by
 obtain⟨t,he,k⟩:=he;refine⟨_,yQT he,λα ρ S σ H Rc wd sl q=>k α ρ S σ H _ wd sl (q.bind λu p S1 α1 H1 e x1 w1 d1 q1=>?_)⟩
 replace q1:=q1.shift x1
 unfold itS at q1;split at q1
 ·rename_i S0 x;exact⟨x,bF d1.1,q1.here (u:=Its x) w1 ⟨_,yLX,trivial,λ_ _ _ _ _ _ _ _ _ _=>trivial,bI⟩⟩
 ·exact q1.elim
def kR:List Er->Sto->R Wk
 |[.val (.int j)],S=>if -(2 ^ 62)<=j/\j<2 ^ 62 then .ok ⟨(List.range j.toNat).map λk=>.int (k:Nat),[]⟩ S else .no
 |_,_=>.no
variable{af:Rho->Sto->R (List Er)}{p:Pos}{a b:Expr}
def zVT{K:Be}{H0:Hp}{α:Ah}{H:Hp}{r:Er}{vs:List V}(d:ArgsE K H0 α H [r] vs): ∃v,vs=[v]/\DenX K α H r v:=by
 cases d with
 |cons a n l=>cases l;exact⟨_,rfl,a.1⟩
def args2{K:Be}{H0:Hp}{α:Ah}{H:Hp}{r r':Er}{vs:List V}(d:ArgsE K H0 α H [r,r'] vs): ∃v u,vs=[v,u]/\DenX K α H r v/\DenX K α H r' u:=by
 cases d with
 |cons a n l=>obtain⟨u,rfl,l'⟩:=zVT l;exact⟨_,u,rfl,a.1,l'⟩
def yT(hg:Gl X "range")(hm:X.mg "range"=none)(ha:PAm X W [a] af)(hs:starEach [a] X.env=[(false,eval a X.env)]:=by rfl):PIm X W tg (.Call (.Name "range" p) [a] [] pos) (λρ S=>(af ρ S).bind kR):=by
 obtain⟨t,ha,k⟩:=ha;refine⟨_,yDM hg hm ha hs,λα ρ S σ H Rc wd sl q=>k α ρ S σ H _ wd sl (q.bind λvs rs S1 α1 H1 e x1 w1 d1 q1=>?_)⟩
 replace q1:=q1.shift x1
 unfold kR at q1;split at q1
 ·split at q1
  ·rename_i S0 j hj;obtain⟨v,rfl,dv⟩:=zVT d1;cases xO dv;have:=yDY (X:=X) (lo:=0) (n:=j.toNat);simp only [Int.zero_add]at this;exact⟨j,rfl,hj.1,hj.2,q1.here (u:=Itr 0 j.toNat) w1 ⟨_,this,trivial,λ_ _ _ _ _ _ _ _ _ _=>trivial,bI⟩⟩
  ·exact q1.elim
 ·exact q1.elim
open Classical in
def kY(gf:MV->Rho->Sto->R Rho)(body:AY)(gs:Bk):List MV->AY
 |[],ρ,S=>.ok (.next ρ) S
 |d::ds,ρ,S=>(gf d ρ S).bind λρ0 S0=>(body ρ0 S0).bind λfl S1=>match fl with
  |.next ρ'=>if stay gs S1 then kY gf body gs ds ρ' S1 else .no
  |.cont ρ'=>if stay gs S1 then kY gf body gs ds ρ' S1 else .no
  |.brk ρ'=>.ok (.next ρ') S1
  |.ret r=>.ok (.ret r) S1
open Classical in
def xH{itf:Rho->Sto->R Wk}{gf:MV->Rho->Sto->R Rho}(hp:PassesOwn (model X.prog X.w) X.A X.env X.xe)(hc:X.calm=true)(hi:PIm X W tg iter itf)(hg:PGm X W tg gf)(hb:zTI X W as F)
  (hs: ∀y,foldedSetIterable iter X.env y=pure y:=by intro _;rfl):PSm X W (.For tg iter as [] pos) (λρ S=>(itf ρ S).bind λk S1=>kY gf F k.gs k.ds ρ S1):=by
 obtain⟨wi,hi,ki⟩:=hi;obtain⟨tg',hg,kg⟩:=hg;obtain⟨tb,hb,kb⟩:=hb;refine⟨_,yQB hp hc hi hg hb hs,λα ρ S σ H D wd sl q=>ki α ρ S σ H _ wd sl (q.expr λJ k S1 α1 H1 e x1 w1 d1 q1=>?_)⟩;obtain⟨P,hP⟩:=d1;have sl1:=sl.ext x1
 replace q1:=PostS.shift x1 q1
 refine⟨λn m σ2 H2=>m=k.ds.length - n/\n<=k.ds.length/\ ∃α2 ρ2 S2,Wd X.g α2 S2 H2/\Slots X.K α2 H2 ρ2 σ2/\P α2 S2 H2/\PostS X.g W α2 H2 D (kY gf F k.gs (k.ds.drop n) ρ2 S2),⟨_,rfl,zero_le _,α1,ρ,S1,w1,sl1,hP.here,by simpa using q1⟩,?_⟩;rintro n m σ2 H2 ⟨rfl,hn,α2,ρ2,S2,w2,sl2,p2,q2⟩;obtain⟨i1,i2⟩:=hP.it n α2 S2 H2 p2 w2;by_cases hlt:n<k.ds.length
 ·obtain⟨go,yl⟩:=i1 hlt;refine .inr ⟨go,λσ3 H3=> ∃α3 ρ3 S3,Wd X.g α3 S3 H3/\Slots X.K α3 H3 ρ3 σ3/\P α3 S3 H3/\PostS X.g W α3 H3 D (kY gf F k.gs (k.ds.drop (n+1)) ρ3 S3),λσ3 H3 ⟨α3,ρ3,S3,h3⟩=>⟨k.ds.length - (n+1),by omega,rfl,hlt,α3,ρ3,S3,h3⟩,λv H3 y=>?_⟩;obtain⟨x3,w3,p3,d,hd,dv⟩:=yl v H3 y;have hdrop:k.ds.drop n=d::k.ds.drop (n+1):=by rw [List.drop_eq_getElem_cons hlt];have:=gE0 hlt;rw [hd]at this;rw [<-Option.some.inj this]
  rw [hdrop]at q2;unfold kY at q2
  replace q2:=PostS.shift x3 q2
  refine kg α2 ρ2 S2 σ2 H3 d v _ w3 (sl2.ext x3) dv (q2.expr λσ4 ρ4 S4 α4 H4 e4 x4 w4 s4 q4=>?_);have p4: ∀α5 S5 H5,Ext α4 H4 α5 H5->Wd X.g α5 S5 H5->stay k.gs S5->P α5 S5 H5:=λα5 S5 H5 x5 w5 s5=>hP.stays α2 S2 H3 α5 S5 H5 p3 (x4.trans x5) w5 s5;refine kb α4 ρ4 S4 σ4 H4 _ w4 s4 ((PostS.shift x4 q4).stmt ?_ ?_ ?_ ?_)
  ·intro ρ5 S5 σ5 α5 H5 e5 x5 w5 s5 q5;have q5':PostS X.g W α4 H4 D (if stay k.gs S5 then kY gf F k.gs (k.ds.drop (n+1)) ρ5 S5 else .no):=q5;split at q5'
   ·rename_i hst;exact⟨α5,ρ5,S5,w5,s5,p4 α5 S5 H5 x5 w5 hst,PostS.shift x5 q5'⟩
   ·exact q5'.elim
  ·intro r S5 v5 α5 H5 e5 x5 w5 d5 q5;exact q5 v5 α5 H5 x5 w5 d5
  ·intro ρ5 S5 σ5 α5 H5 e5 x5 w5 s5 q5;exact q5 σ5 α5 H5 x5 w5 s5
  ·intro ρ5 S5 σ5 α5 H5 e5 x5 w5 s5 q5;have q5':PostS X.g W α4 H4 D (if stay k.gs S5 then kY gf F k.gs (k.ds.drop (n+1)) ρ5 S5 else .no):=q5;split at q5'
   ·rename_i hst;exact⟨α5,ρ5,S5,w5,s5,p4 α5 S5 H5 x5 w5 hst,PostS.shift x5 q5'⟩
   ·exact q5'.elim
 ·have e:n=k.ds.length:=by omega
  subst e;refine .inl ⟨i2 (le_refl _),?_⟩;rw [List.drop_length]at q2;exact q2 σ2 α2 H2 (Ext.refl _ _) w2 sl2
def gX(t:AZ)(b:AY):Nat->AY
 |0,_,_=>.no
 |n+1,ρ,S=>(t ρ S).bind λk S1=>if k=true then(b ρ S1).bind λfl S2=>match fl with
   |.next ρ'=>gX t b n ρ' S2
   |.cont ρ'=>gX t b n ρ' S2
   |.brk ρ'=>.ok (.next ρ') S2
   |.ret r=>.ok (.ret r) S2
  else .ok (.next ρ) S1
def zVU(N:Nat)(hp:PassesOwn (model X.prog X.w) X.A X.env X.xe)(hc:PTm X W c tf)(hb:zTI X W as F):PSm X W (.While c as [] pos) (λρ S=>gX tf F N ρ S):=by
 obtain⟨tc,hc,kc⟩:=hc;obtain⟨tb,hb,kb⟩:=hb;refine⟨_,yFT hp hc hb,λα ρ S σ H D wd sl q=>⟨λm σ1 H1=> ∃α1 ρ1 S1,Wd X.g α1 S1 H1/\Slots X.K α1 H1 ρ1 σ1/\PostS X.g W α1 H1 D (gX tf F m ρ1 S1),⟨N,α,ρ,S,wd,sl,q⟩,?_⟩⟩;rintro m σ1 H1 ⟨α1,ρ1,S1,w1,sl1,q1⟩
 cases m with
 |zero=>exact q1.elim
 |succ n=>
  unfold gX at q1;refine kc α1 ρ1 S1 σ1 H1 _ w1 sl1 (q1.expr λu p S2 α2 H2 e2 x2 w2 d2 q2=>?_);cases d2
  replace q2:=PostS.shift x2 q2
  cases u with
  |false=>rw [iN xF0]at q2 ⊢; exact q2 σ1 α2 H2 (Ext.refl _ _) w2 (sl1.ext x2)
  |true=>
   rw [iP rfl]at q2 ⊢;refine⟨λσ3 H3=> ∃α3 ρ3 S3,Wd X.g α3 S3 H3/\Slots X.K α3 H3 ρ3 σ3/\PostS X.g W α3 H3 D (gX tf F n ρ3 S3),λσ' H' h=>⟨n,lt_succ_self n,h⟩,kb α2 ρ1 S2 σ1 H2 _ w2 (sl1.ext x2) (q2.stmt ?_ ?_ ?_ ?_)⟩
   ·intro ρ5 S5 σ5 α5 H5 e5 x5 w5 s5 q5;exact⟨α5,ρ5,S5,w5,s5,PostS.shift x5 q5⟩
   ·intro r S5 v5 α5 H5 e5 x5 w5 d5 q5;exact q5 v5 α5 H5 x5 w5 d5
   ·intro ρ5 S5 σ5 α5 H5 e5 x5 w5 s5 q5;exact q5 σ5 α5 H5 x5 w5 s5
   ·intro ρ5 S5 σ5 α5 H5 e5 x5 w5 s5 q5;exact⟨α5,ρ5,S5,w5,s5,PostS.shift x5 q5⟩
end
def noX{β:Type}:R β->R β
 |.ok b S=>.ok b S
 |_=>.no
theorem yW{β:Type}(b:β)(S:Sto):noX (R.ok b S)=.ok b S:=rfl
def Post.bindY{β τ γ υ:Type}[Dn β τ][Dn γ υ]{g:Gm}{W:XW}{α α':Ah}{H H':Hp}(x:Ext α H α' H'){m:R β}{k:β->Sto->R γ}{Q:υ->Hp->Prop}{Q':τ->Hp->Prop}(q:Post g W α H ((noX m).bind k) Q)
  (f: ∀u b S1 α1 H1,m=.ok b S1->Ext α' H' α1 H1->Wd g α1 S1 H1->Dn.d g H' α1 S1 H1 b u->Post g W α H (k b S1) Q->Q' u H1):Post g W0 α' H' m Q':=by
 cases m with
 |ok b S=>exact λu α1 H1 x w d=>f u b S α1 H1 rfl x w d q
 |exc c fs S=>exact q.elim
 |no=>exact q
theorem R.bind_assoc{β γ δ:Type}(m:R β)(k1:β->Sto->R γ)(k2:γ->Sto->R δ):(m.bind k1).bind k2=m.bind λb S=>(k1 b S).bind k2:=by cases m<;>rfl
def blk(nt:Nat)(idx:Ab)(ρ:Rho):Rho:=List.replicate nt none++idx.map λi=>(ρ[i]?).join
open Classical in
def yY(gf:MV->Rho->Sto->R Rho)(cf:AZ)(ef:AX)(ρb:Rho)(gs:Bk):List MV->Sto->R (List MV)
 |[],S=>.ok [] S
 |d::ds,S=>(noX (gf d ρb S)).bind λρ1 S0=>(noX (cf ρ1 S0)).bind λk S1=>
  if k=true then(noX (ef ρ1 S1)).bind λr S2=>(dA r S2).bind λy S3=>if stay gs S3 then(yY gf cf ef ρb gs ds S3).bind λout S4=>.ok (y::out) S4 else .no
  else if stay gs S1 then yY gf cf ef ρb gs ds S1 else .no
theorem yDZ{K:Be}{α:Ah}{H:Hp}{ρ:Rho}{σ:St}(q:Slots K α H ρ σ)(nt:Nat)(idx:Ab)(τ:St)(hτ:τ.length=nt):Slots K α H (blk nt idx ρ) (τ++zLI σ idx):=by
 refine⟨by unfold blk;rw [lA,lA,zDP,lM,length_replicate,hτ],λi d e=>?_⟩;unfold blk at e;by_cases hi:i<nt
 ·rw [getElem?_append_left (by rw [length_replicate];exact hi),List.getElem?_replicate]at e;split at e<;>cases e
 ·rw [getElem?_append_right (by rw [length_replicate];omega),length_replicate,getElem?_map]at e
  cases z:idx[i - nt]? with
  |none=>rw [z]at e;cases e
  |some k=>
   rw [z]at e;have e2:(ρ[k]?).join=some d:=Option.some.inj e
   cases z2:ρ[k]? with
   |none=>rw [z2]at e2;cases e2
   |some o=>
    rw [z2]at e2;have e3:o=some d:=e2;subst e3;obtain⟨v,h1,h2⟩:=q.slot k d z2;refine⟨v,?_,h2⟩;rw [getElem?_append_right (by omega),hτ];unfold zLI;rw [getElem?_map,z];show some (σ[k]?).join=some (some v);rw [h1];rfl
def Keeps(nt:Nat)(σ:St)(Q:St->Hp->Prop):St->Hp->Prop:=λσ' H'=>σ'.length=σ.length->(∀j,nt<=j->σ'[j]? =σ[j]?)->Q σ' H'
def PGn(nt:Nat)(X:Cx)(W:XW)(tg:Expr)(gf:MV->Rho->Sto->R Rho):Prop:=
 ∃t,PG X tg t/\ ∀α ρ S σ H d v Q,Wd X.g α S H->Slots X.K α H ρ σ->Den X.K α H d v->Post X.g W α H (gf d ρ S) (Keeps nt σ Q)->t v σ H Q
section
variable{X:Cx}{W:XW}{e:Expr}{pos:Pos}{nt:Nat}
def xI(i:Nat){x:Str}(hN:X.N.Nodup)(hi:X.N[i]? =some x:=by rfl)(hx:Loc X.env.scope x:=by first |exact Or.inl rfl|exact Or.inr rfl)(hf:X.fn x=true\/X.env.scope.names.lookup x=some .local:=by first |exact .inl rfl|exact .inr rfl|assumption)(hlt:i<nt:=by decide):
  PGn nt X W (.Name x pos) (gNm i):=⟨_,yAJ hN hi hx hf,λα ρ S σ H d v Q wd sl de q=>Post.here (b:=ρ.set i (some d)) q wd (sl.set de) (by rw [length_set]) λj hj=>by rw [getElem?_set_ne (by omega)]⟩
end
abbrev yGQ(X:Cx)(W:XW)(ifs:Bd)(f:AZ):Prop:=Jd X W (yDV X ifs) f
section
variable{X:Cx}{W:XW}{iter:Expr}{c:Expr}{tf:AZ}{pos:Pos}
def zDR:yGQ X W [] (λ_ S=>.ok true S):=⟨_,yGF,λα ρ S σ H Q wd sl q=>q.here wd rfl⟩
def bK(h:PTm X W c tf):yGQ X W [c] tf:=let ⟨t,h,k⟩:=h;⟨t,yGG h,k⟩
open Classical in
def yAU{elt tg:Expr}{ifs:Bd}{sc:Scope}{itf:Rho->Sto->R Wk}{cf:AZ}{ef:AX}{gf:MV->Rho->Sto->R Rho}(osc:Scope)(N:Ai)(T:Ai)(idx:Ab)
  (hi:PIm X W tg iter itf) (hcalm:X.calm=true)
  (hg: ∀C s₂ H1 fp,([]++T++idx.map λi=>(N[i]?).getD Str.empty).Nodup->PGn T.length (yE X sc T idx C s₂ H1 fp) W0 tg gf)
  (hc: ∀C s₂ H1 fp,yGQ (yE X sc T idx C s₂ H1 fp) W0 ifs cf) (he: ∀C s₂ H1 fp,PEm (yE X sc T idx C s₂ H1 fp) W0 elt ef)
  (e1:X.env.scope=osc:=by rfl) (e2:X.N=N:=by rfl) (hB:zMT osc N sc idx=true:=by decide+kernel) (hN:([]++T++idx.map λi=>(N[i]?).getD Str.empty).Nodup:=by decide+kernel)
  (hs: ∀y,foldedSetIterable iter X.env y=pure y:=by intro _;rfl):
  Jd (β:=Er) (τ:=V) X W (λt=>PE X (.ListComp elt [⟨tg,iter,ifs,0⟩] sc pos) t/\PU X (.ListComp elt [⟨tg,iter,ifs,0⟩] sc pos) t) (λρ S=>(itf ρ S).bind λk S1=>if k.ds.length<1000000 then(yY gf cf ef (blk T.length idx ρ) k.gs k.ds S1).bind λout S2=>.ok (.new out) S2 else .no):=by
 obtain⟨wi,hi,ki⟩:=hi;subst e1 e2;have big:(1000000:Nat)<sizeLine:=by rw [sizeLine_eq];decide
 have hg': ∃t,(∀C s₂ H1 fp,PG (yE X sc T idx C s₂ H1 fp) tg t)/\ ∀α ρ S σ H d v Q,Wd X.g α S H->Slots X.K α H ρ σ->Den X.K α H d v->Post X.g W0 α H (gf d ρ S) (Keeps T.length σ Q)->t v σ H Q:=by refine⟨λv σ H Q=> ∃α ρ S d,Wd X.g α S H/\Slots X.K α H ρ σ/\Den X.K α H d v/\Post X.g W0 α H (gf d ρ S) (Keeps T.length σ Q),λC s₂ H1 fp pins s σ H v u Q I r ⟨α,ρ,S,d,h1,h2,h3,h4⟩=>?_,λα ρ S σ H d v Q h1 h2 h3 h4=>⟨α,ρ,S,d,h1,h2,h3,h4⟩⟩;obtain⟨t,ht,kt⟩:=hg C s₂ H1 fp hN;exact ht pins s σ H v u Q I r (kt α ρ S σ H d v Q h1 h2 h3 h4)
 obtain⟨tg',hg1,kg⟩:=hg';refine⟨_,⟨yLR T idx hi hcalm hB hg1 (λC s₂ H1 fp=>(Classical.choose_spec (hc C s₂ H1 fp)).1) (λC s₂ H1 fp=>(Classical.choose_spec (he C s₂ H1 fp)).1) hs,yLU T idx hi hcalm hB hg1 (λC s₂ H1 fp=>(Classical.choose_spec (hc C s₂ H1 fp)).1) (λC s₂ H1 fp=>(Classical.choose_spec (he C s₂ H1 fp)).1) hs⟩,λα ρ S σ H Q wd sl q=>ki α ρ S σ H _ wd sl (q.bind λJ k S1 α1 H1 e1 x1 w1 d1 q1=>?_)⟩;obtain⟨P,hP⟩:=d1;split at q1
 ·rename_i hlen
  refine⟨λn m ys H2=>m=k.ds.length - n/\n<=k.ds.length/\ys.length<=n/\ ∃α2 S2,Ext α H α2 H2/\Wd X.g α2 S2 H2/\P α2 S2 H2/\ ∃outs,DenL X.K α2 H2 outs ys/\Post X.g W α H ((yY gf cf ef (blk T.length idx ρ) k.gs (k.ds.drop n) S2).bind λo S'=>.ok (Er.new (outs++o)) S') Q,
   ⟨_,rfl,zero_le _,le_refl _,α1,S1,x1,w1,hP.here,[],yS,by simpa using q1⟩,?_⟩
  rintro n m ys H2 ⟨rfl,hn,hy,α2,S2,x2,w2,p2,outs,l,q2⟩;obtain⟨i1,i2⟩:=hP.it n α2 S2 H2 p2 w2;refine⟨by omega,?_⟩;by_cases hlt:n<k.ds.length
  ·obtain⟨go,yl⟩:=i1 hlt;refine .inr ⟨go,by omega,λv H3 y τ hτ=>?_⟩;obtain⟨x3,w3,p3,d,hd,dv⟩:=yl v H3 y;have hdrop:k.ds.drop n=d::k.ds.drop (n+1):=by rw [List.drop_eq_getElem_cons hlt];have:=gE0 hlt;rw [hd]at this;rw [<-Option.some.inj this]
   rw [hdrop]at q2;unfold yY at q2;have slb:=yDZ (sl.ext (x2.trans x3)) T.length idx τ hτ;refine kg α2 (blk T.length idx ρ) S2 _ H3 d v _ w3 slb dv ?_;rw [R.bind_assoc]at q2;refine q2.bindY (x2.trans x3) λσ4 ρ4 S4 α4 H4 e4 x4 w4 s4 q4 len4 kp4=>⟨⟨σ4.take T.length,?_,?_⟩,λC s₂ fp=>?_⟩
   ·refine ext_getElem? λj=>?_;have hl4:σ4.length=T.length+idx.length:=by rw [len4,lA,zDP,hτ]
    by_cases hj:j<T.length
    ·rw [getElem?_append_left (by rw [lT];omega),List.getElem?_take_of_lt hj]
    ·rw [kp4 j (by omega),getElem?_append_right (by omega),getElem?_append_right (by rw [lT];omega),hτ,lT,min_eq_left (by omega)]
   ·rw [lT,len4,lA,zDP,hτ];omega
   have x34:Ext α H α4 H4:=(x2.trans x3).trans x4;have p4: ∀α5 S5 H5,Ext α4 H4 α5 H5->Wd X.g α5 S5 H5->stay k.gs S5->P α5 S5 H5:=λα5 S5 H5 x5 w5 s5=>hP.stays α2 S2 H3 α5 S5 H5 p3 (x4.trans x5) w5 s5;rw [R.bind_assoc]at q4;refine(Classical.choose_spec (hc C s₂ H1 fp)).2 α4 ρ4 S4 σ4 H4 _ w4 s4 (q4.bindY x34 λb5 b5' S5 α5 H5 e5 x5 w5 d5 q5=>?_);cases d5
   cases b5 with
   |false=>
    rw [iN xF0]at q5 ⊢;split at q5
    ·rename_i hst;exact⟨k.ds.length - (n+1),by omega,rfl,hlt,by omega,α5,S5,x34.trans x5,w5,p4 α5 S5 H5 x5 w5 hst,outs,(l.ext (x3.trans x4)).ext x5,q5⟩
    ·exact q5.elim
   |true=>
    rw [iP rfl,R.bind_assoc]at q5;rw [iP rfl];refine(Classical.choose_spec (he C s₂ H1 fp)).2 α5 ρ4 S5 σ4 H5 _ w5 (s4.ext x5) (q5.bindY (x34.trans x5) λy6 r6 S6 α6 H6 e6 x6 w6 d6 q6=>?_);obtain⟨d',S',α',e7,x7,y7,w7,de⟩:=zEZ w6 x6 d6;rw [e7]at q6;have q6:Post X.g W α H ((if stay k.gs S' then(yY gf cf ef (blk T.length idx ρ) k.gs (k.ds.drop (n+1)) S').bind λout S4=>.ok (d'::out) S4 else .no).bind λo S'=>.ok (Er.new (outs++o)) S') Q:=q6;split at q6
    ·rename_i hst;refine⟨k.ds.length - (n+1),by omega,rfl,hlt,by rw [lA,lS];omega,α',S',(x34.trans x5).trans x7,w7,p4 α' S' H6 (x5.trans x7) w7 hst,outs++[d'],((l.ext (x3.trans x4)).ext (x5.trans x7)).append (yD de yS),?_⟩;rw [R.bind_assoc]at q6;have e8:(λ(o:Bh) (S':Sto)=>R.ok (Er.new ((outs++[d'])++o)) S')=(λ(b:Bh) S=>(R.ok (d'::b) S).bind λo S'=>.ok (Er.new (outs++o)) S'):=by funext o S';show _=R.ok (Er.new (outs++(d'::o))) S';rw [aA];rfl
     rw [e8];exact q6
    ·exact q6.elim
  ·have e:n=k.ds.length:=by omega
   subst e;rw [List.drop_length]at q2;have q3:Post X.g W α H (.ok (Er.new (outs++[])) S2) Q:=q2;rw [aN]at q3;exact .inl ⟨i2 (le_refl _),λD hD=>(q3.shift x2).newl w2 hD l⟩
 ·exact q1.elim
open Classical in
def kS{elt tg:Expr}{ifs:Bd}{sc:Scope}{itf:Rho->Sto->R Wk}{cf:AZ}{ef:AX}{gf:MV->Rho->Sto->R Rho}(osc:Scope)(N:Ai)(T:Ai)(idx:Ab)
  (hi:PIm X W tg iter itf) (hcalm:X.calm=true)
  (hg: ∀C s₂ H1 fp,([]++T++idx.map λi=>(N[i]?).getD Str.empty).Nodup->PGn T.length (yE X sc T idx C s₂ H1 fp) W0 tg gf)
  (hc: ∀C s₂ H1 fp,yGQ (yE X sc T idx C s₂ H1 fp) W0 ifs cf) (he: ∀C s₂ H1 fp,PEm (yE X sc T idx C s₂ H1 fp) W0 elt ef)
  (e1:X.env.scope=osc:=by rfl) (e2:X.N=N:=by rfl) (hB:zMT osc N sc idx=true:=by decide+kernel) (hN:([]++T++idx.map λi=>(N[i]?).getD Str.empty).Nodup:=by decide+kernel)
  (hs: ∀y,foldedSetIterable iter X.env y=pure y:=by intro _;rfl):
  PEm X W (.ListComp elt [⟨tg,iter,ifs,0⟩] sc pos) (λρ S=>(itf ρ S).bind λk S1=>if k.ds.length<1000000 then(yY gf cf ef (blk T.length idx ρ) k.gs k.ds S1).bind λout S2=>.ok (.new out) S2 else .no):=let ⟨t,h,k⟩:=(yAU osc N T idx hi hcalm hg hc he e1 e2 hB hN hs);⟨t,h.1,k⟩
open Classical in
def zKF{x:Str}{pos' spos:Pos}(i:Nat)(hNN:X.N.Nodup){elt tg:Expr}{ifs:Bd}{sc:Scope}{itf:Rho->Sto->R Wk}{cf:AZ}{ef:AX}{gf:MV->Rho->Sto->R Rho}(osc:Scope)(N:Ai)(T:Ai)(idx:Ab)
  (hi:PIm X W tg iter itf) (hcalm:X.calm=true)
  (hg: ∀C s₂ H1 fp,([]++T++idx.map λi=>(N[i]?).getD Str.empty).Nodup->PGn T.length (yE X sc T idx C s₂ H1 fp) W0 tg gf)
  (hc: ∀C s₂ H1 fp,yGQ (yE X sc T idx C s₂ H1 fp) W0 ifs cf) (he: ∀C s₂ H1 fp,PEm (yE X sc T idx C s₂ H1 fp) W0 elt ef)
  (e1:X.env.scope=osc:=by rfl) (e2:X.N=N:=by rfl) (hB:zMT osc N sc idx=true:=by decide+kernel) (hN:([]++T++idx.map λi=>(N[i]?).getD Str.empty).Nodup:=by decide+kernel)
  (hs: ∀y,foldedSetIterable iter X.env y=pure y:=by intro _;rfl)
  (hi2:X.N[i]? =some x:=by rfl) (hx:Loc X.env.scope x:=by first |exact Or.inl rfl|exact Or.inr rfl)
  (hsw:swapsWith (.ListComp elt [⟨tg,iter,ifs,0⟩] sc pos) (some (.Name x pos')) spos.line X.env=pure true:=by with_unfolding_all rfl) (hf:X.fn x=true\/X.env.scope.names.lookup x=some .local:=by first |exact .inl rfl|exact .inr rfl|assumption):
  PSm X W (.Assign [.Name x pos'] (.ListComp elt [⟨tg,iter,ifs,0⟩] sc pos) spos) (λρ S=>((itf ρ S).bind λk S1=>if k.ds.length<1000000 then(yY gf cf ef (blk T.length idx ρ) k.gs k.ds S1).bind λout S2=>.ok (.new out) S2 else .no).bind (zTJ ρ i)):=by
 obtain⟨t,h,k⟩:=(yAU osc N T idx hi hcalm hg hc he e1 e2 hB hN hs)
 refine⟨_,h.2 i x pos' spos hNN hi2 hx hf hsw,λα ρ S σ H D wd sl q=>k α ρ S σ H _ wd sl (q.expr λu r S1 α1 H1 e x1 w1 d1 q1=>?_)⟩;obtain⟨d',S',α',e1,x',y',w',de⟩:=zEZ w1 x1 d1;unfold zTJ at q1;rw [e1]at q1;exact q1 _ α' H1 x' w' (((sl.ext x1).ex0 y').set de)
end
mutual
def lo(n:Nat):MV->Prop
 |.loc l=>l<n
 |.tup ds=>loL n ds
 |.scr ds=>loL n ds
 |.obj _ _ ds=>loL n ds
 |_=>True
def loL(n:Nat):List MV->Prop
 |[]=>True
 |d::ds=>lo n d/\loL n ds
end

def loO(n:Nat):MO->Prop
 |.lst ds=>loL n ds
 |.dic kvs=> ∀p∈kvs,lo n p.1/\lo n p.2
 |.ins _ fs=> ∀p∈fs,lo n p.2
section
variable{K:Be}{α t:Ah}{H:Hp}
mutual
theorem Den.back: ∀{d:MV}{v:V},Den K (α++t) H d v->lo α.length d->Den K α H d v
 |.non,_,q,_=>by cases zBX q;exact zKB
 |.bl _,_,q,_=>by cases zEW q;exact gW _
 |.int _,_,q,_=>by cases xN q;exact xW _
 |.str _,_,q,_=>by cases wC q;exact zBH _
 |.typ _,_,q,_=>by cases zAH q;exact yAQ _
 |.obj c ns ds,_,q,h=>by obtain⟨a,C,dx,vs,o,rfl,e,hn,hc,hl,l⟩:=cY q;exact yLV e hn hc hl (DenL.back l (by unfold lo at h;exact h))
 |.loc l,_,q,h=>by
  obtain⟨a,rfl,e⟩:=bE q;have hl:l<α.length:=by unfold lo at h;exact h
  rw [getElem?_append_left hl]at e;exact zIU e
 |.tup ds,_,q,h=>by obtain⟨a,vs,rfl,s,l⟩:=xX q;exact zDQ s (DenL.back l (by unfold lo at h;exact h))
 |.scr ds,_,q,h=>by obtain⟨a,vs,rfl,s,l⟩:=cZ q;exact yAR s (DenL.back l (by unfold lo at h;exact h))
theorem DenL.back: ∀{ds:Bh}{vs:List V},DenL K (α++t) H ds vs->loL α.length ds->DenL K α H ds vs
 |[],_,q,_=>by rw [q.isnil];exact yS
 |d::ds,_,q,h=>by obtain⟨v,r,rfl,a,l⟩:=q.uncons;unfold loL at h;exact yD (Den.back a h.1) (DenL.back l h.2)
end

mutual
theorem Den.lo: ∀{d:MV}{v:V},Den K α H d v->lo α.length d
 |.non,_,q=>by unfold M.lo;trivial
 |.bl _,_,q=>by unfold M.lo;trivial
 |.int _,_,q=>by unfold M.lo;trivial
 |.str _,_,q=>by unfold M.lo;trivial
 |.typ _,_,q=>by unfold M.lo;trivial
 |.obj c ns ds,_,q=>by obtain⟨a,C,dx,vs,o,rfl,e,hn,hc,hl,l⟩:=cY q;unfold M.lo;exact DenL.lo l
 |.loc l,_,q=>by obtain⟨a,rfl,e⟩:=bE q;unfold M.lo;exact(gS0.mp e).1
 |.tup ds,_,q=>by obtain⟨a,vs,rfl,s,l⟩:=xX q;unfold M.lo;exact DenL.lo l
 |.scr ds,_,q=>by obtain⟨a,vs,rfl,s,l⟩:=cZ q;unfold M.lo;exact DenL.lo l
theorem DenL.lo: ∀{ds:Bh}{vs:List V},DenL K α H ds vs->loL α.length ds
 |[],_,q=>by unfold loL;trivial
 |d::ds,_,q=>by obtain⟨v,r,rfl,a,l⟩:=q.uncons;unfold loL;exact⟨Den.lo a,DenL.lo l⟩
end

theorem DenK.back: ∀{fs gs},DenK K (α++t) H fs gs->(∀p∈fs,M.lo α.length p.1/\M.lo α.length p.2)->DenK K α H fs gs
 |_,_,.nil,_=>.nil
 |_,_,.cons k a l,h=>.cons k (a.back (h _ mF0).2) (DenK.back l λp hp=>h p (mO _ hp))
def KeyD.lo{n:Nat}{k:MV}{k':Key}(h:KeyD k k'):M.lo n k:=by
 unfold KeyD at h;split at h
 ·unfold M.lo;trivial
 ·unfold M.lo;trivial
 ·exact h.elim
theorem DenK.lo: ∀{fs gs},DenK K α H fs gs-> ∀p∈fs,M.lo α.length p.1/\M.lo α.length p.2
 |_,_,.nil=>λp h=>by simp at h
 |_,_,.cons k a l=>λp h=>(mC.mp h).elim (λe=>by subst e;exact⟨k.lo,a.lo⟩) (DenK.lo l p)
theorem DenF.back: ∀{fs gs},DenF K (α++t) H fs gs->(∀p∈fs,M.lo α.length p.2)->DenF K α H fs gs
 |_,_,.nil,_=>.nil
 |_,_,.cons a l,h=>.cons (a.back (h _ mF0)) (DenF.back l λp hp=>h p (mO _ hp))
theorem DenF.lo: ∀{fs gs},DenF K α H fs gs-> ∀p∈fs,M.lo α.length p.2
 |_,_,.nil=>λp h=>by simp at h
 |_,_,.cons a l=>λp h=>(mC.mp h).elim (λe=>by subst e;exact a.lo) (DenF.lo l p)
def ObD.back{g:Gm}{a:Addr}{o:MO}(q:ObD g (α++t) H a o)(h:loO α.length o):ObD g α H a o:=by
 cases o with
 |lst ds=>obtain⟨vs,h1,l⟩:=q;exact⟨vs,h1,l.back h⟩
 |dic ds=>
  rcases q with⟨vs,h1,l⟩|z
  ·exact .inl ⟨vs,h1,l.back h⟩
  ·exact False.elim z
 |ins c fs=>obtain⟨C,gs,m,l,r⟩:=q;exact⟨C,gs,m,l.back h,r⟩
def ObD.lo{g:Gm}{a:Addr}{o:MO}(q:ObD g α H a o):loO α.length o:=by
 cases o with
 |lst ds=>obtain⟨vs,h1,l⟩:=q;exact l.lo
 |dic ds=>
  rcases q with⟨vs,h1,l⟩|z
  ·exact l.lo
  ·exact False.elim z
 |ins c fs=>obtain⟨C,gs,m,l,r⟩:=q;exact l.lo
end
def yGR(S S2:Sto):Prop:=S.length<=S2.length/\ ∀l,l<S.length->S2[l]? =S[l]? \/ ∃o,S2[l]? =some o/\loO S.length o
open Classical in
def zDS(S:Sto)(r:Er)(S2:Sto):R Er:=
 if yGR S S2 then match r with
  |.val (.loc l)=>if l<S.length then .ok r (S2.take S.length)else match S2[l]? with
   |some (.lst ds)=>if loL S.length ds then .ok (.new ds) (S2.take S.length)else .ok r S2
   |_=>.ok r S2
  |.val d=>if lo S.length d then .ok r (S2.take S.length)else .ok r S2
  |.new ds=>if loL S.length ds then .ok r (S2.take S.length)else .ok r S2
 else .ok r S2
def yLY{g:Gm}{α α1 α2 α3:Ah}{H H1 H3:Hp}{S1 S3:Sto}{r:Er}{v:V}(x1:Ext α H α1 H1)(w1:Wd g α1 S1 H1)(h12: ∃t,α2=α1++t)(x2:Ext α H α2 H1)(x3:Ext α2 H1 α3 H3)(w3:Wd g α3 S3 H3)(d:DenE g.K H1 α3 H3 r v):
  ∃r' S' α',zDS S1 r S3=.ok r' S'/\Ext α H α' H3/\Wd g α' S' H3/\DenE g.K H α' H3 r' v:=by
 have x23:=x2.trans x3;have dfull:DenE g.K H α3 H3 r v:=d.back λb h=>x1.free h;unfold zDS;by_cases hc:yGR S1 S3
 ·rw [iP hc];obtain⟨t,ht⟩: ∃t,α3=α1++t:=by obtain⟨t,e⟩:=h12;obtain⟨u,e'⟩:=x3.pre;exact⟨t++u,by rw [e',e,aA]⟩
  have hn:α1.length=S1.length:=w1.len;have xc:Ext α H α1 H3:=⟨⟨x1.pre,x23.tup,x23.frz⟩,x1.new,x23.keep,x23.has⟩
  have wc:Wd g α1 (S3.take S1.length) H3:=by
   refine⟨by rw [lT,hn,min_eq_left hc.1],w1.nd,λl a o h1 h2=>?_⟩;have hl:l<S1.length:=by rw [<-hn];exact(gS0.mp h1).1
   rw [List.getElem?_take_of_lt hl]at h2;have h1':α3[l]? =some a:=by rw [ht,getElem?_append_left (by rw [hn];exact hl)];exact h1
   have q:=w3.obj l a o h1' h2;rw [ht]at q;refine q.back ?_;rcases hc.2 l hl with e|⟨o',e,lo'⟩
   ·rw [e]at h2;exact(w1.obj l a o h1 h2).lo
   ·rw [h2]at e;cases e;rw [hn];exact lo'
  have dlo: ∀d,lo S1.length d->Den g.K α3 H3 d v->DenE g.K H α1 H3 (.val d) v:=λd hd q=>.val ((ht▸q:Den g.K (α1++t) H3 d v).back (by rw [hn];exact hd))
  cases r with
  |new ds=>
   dsimp only;split
   ·rename_i hl;obtain⟨⟨b,vs,rfl,h1,h2,h3⟩,h4⟩:=dfull;exact⟨_,_,α1,rfl,xc,wc,⟨b,vs,rfl,h1,λz=>h2 (by rw [ht];exact mem_append_left _ z),(ht▸h3:DenL g.K (α1++t) H3 ds vs).back (by rw [hn];exact hl)⟩,h4⟩
   ·exact⟨_,_,α3,rfl,x23,w3,dfull⟩
  |val mv=>
   have dd:Den g.K α3 H3 mv v:=dfull.1
   cases mv with
   |loc l=>
    dsimp only;split
    ·rename_i hl;exact⟨_,_,α1,rfl,xc,wc,dlo _ (by unfold lo;exact hl) dd⟩
    ·rename_i hl;obtain⟨a,rfl,ha⟩:=bE dd;split
     ·rename_i ds hS;split
      ·rename_i hlo;obtain⟨vs,h1,h2⟩:=w3.obj l a _ ha hS
       have hna:a∉α1:=λz=>by
        obtain⟨m,hm⟩:=getElem?_of_mem z;have hml:m<α1.length:=(gS0.mp hm).1;have hm':α3[m]? =some a:=by rw [ht,getElem?_append_left hml];exact hm
        obtain⟨u1,e1⟩:=gS0.mp hm';obtain⟨u2,e2⟩:=gS0.mp ha;have:=(getElem_inj w3.nd).mp (e1.trans e2.symm);omega
       refine⟨_,_,α1,rfl,xc,wc,⟨a,vs,rfl,h1,hna,(ht▸h2:DenL g.K (α1++t) H3 ds vs).back (by rw [hn];exact hlo)⟩,λb e=>?_⟩;cases e;rcases x23.new a (mem_of_getElem? ha)with z|z
       ·obtain⟨u,eu⟩:=x1.pre;exact absurd (by rw [eu];exact mem_append_left _ z) hna
       ·exact z
      ·exact⟨_,_,α3,rfl,x23,w3,dfull⟩
     ·exact⟨_,_,α3,rfl,x23,w3,dfull⟩
   |non=>dsimp only;split;(· rename_i hl;exact⟨_,_,α1,rfl,xc,wc,dlo _ hl dd⟩);(· exact⟨_,_,α3,rfl,x23,w3,dfull⟩)
   |bl b=>dsimp only;split;(· rename_i hl;exact⟨_,_,α1,rfl,xc,wc,dlo _ hl dd⟩);(· exact⟨_,_,α3,rfl,x23,w3,dfull⟩)
   |int b=>dsimp only;split;(· rename_i hl;exact⟨_,_,α1,rfl,xc,wc,dlo _ hl dd⟩);(· exact⟨_,_,α3,rfl,x23,w3,dfull⟩)
   |str b=>dsimp only;split;(· rename_i hl;exact⟨_,_,α1,rfl,xc,wc,dlo _ hl dd⟩);(· exact⟨_,_,α3,rfl,x23,w3,dfull⟩)
   |typ b=>dsimp only;split;(· rename_i hl;exact⟨_,_,α1,rfl,xc,wc,dlo _ hl dd⟩);(· exact⟨_,_,α3,rfl,x23,w3,dfull⟩)
   |obj b b' b''=>dsimp only;split;(· rename_i hl;exact⟨_,_,α1,rfl,xc,wc,dlo _ hl dd⟩);(· exact⟨_,_,α3,rfl,x23,w3,dfull⟩)
   |tup b=>dsimp only;split;(· rename_i hl;exact⟨_,_,α1,rfl,xc,wc,dlo _ hl dd⟩);(· exact⟨_,_,α3,rfl,x23,w3,dfull⟩)
   |scr b=>dsimp only;split;(· rename_i hl;exact⟨_,_,α1,rfl,xc,wc,dlo _ hl dd⟩);(· exact⟨_,_,α3,rfl,x23,w3,dfull⟩)
 ·rw [iN hc];exact⟨_,_,α3,rfl,x23,w3,dfull⟩
def spM(g:Gm)(n:Nat)(F:List MV->Sto->R Er):Sp:=λvs H Q _=> ∃α S ds,Wd g α S H/\DenL g.K α H ds vs/\ds.length=n/\Post g W0 α H (F ds S) Q
def zW(n:Nat)(F:List MV->Sto->R Er)(rs:List Er)(S:Sto):R Er:=if rs.length=n then(noX (F (zR rs S).1 (zR rs S).2)).bind λr S2=>zDS S r S2 else .no
section
variable{X:Cx}{W:XW}{e:Expr}{es:Bd}{af:Rho->Sto->R (List Er)}{pos:Pos}
def yEA{n:Nat}{F:List MV->Sto->R Er}{rs:List Er}{vs:List V}{α α1:Ah}{H H1:Hp}{S1:Sto}{Q:VK}(x1:Ext α H α1 H1)(w1:Wd X.g α1 S1 H1)(d1:ArgsE X.K H α1 H1 rs vs)(q:Post X.g W α H (zW n F rs S1) Q):
  spM X.g n F vs H1 Q E0:=by
 unfold zW at q;split at q
 ·rename_i hl;obtain⟨α2,x2,y2,w2,l2⟩:=zHL w1 x1 d1;refine⟨α2,_,_,w2,l2,by rw [zLM];exact hl,?_⟩
  cases z:F (zR rs S1).1 (zR rs S1).2 with
  |ok r S3=>
   rw [z]at q;intro v α3 H3 x3 w3 d3;obtain⟨r',S',α',e',x',w',d'⟩:=yLY x1 w1 y2.pre x2 x3 w3 d3;have q:Post X.g W α H (zDS S1 r S3) Q:=q;rw [e']at q;exact q v α' H3 x' w' d'
  |exc c fs S3=>rw [z]at q;exact q.elim
  |no=>rw [z]at q;exact q.elim
 ·exact q.elim
def yAV{k n:Nat}{fa:Addr}{fd:FuncData}{ps:Ai}{F:List MV->Sto->R Er}{x:Str}{p:Pos}(G:FnOk X.prog X.w X.K X.mg X.base CX0 k fa fd ps (spM X.g n F))(hr:Room k X.A)(hg:Gl X x)(hm:X.mg x=some (.ref fa))
  (hk:PySem.W.keepIn X.K (.ref fa)=true) (hb:Binds X.K fd ps []) (ha:PAm X W (e::es) af) (hdb:(x==("__debug__":Str))=false:=by decide)
  (he:starEach (e::es) X.env=(false,eval e X.env)::starEach es X.env:=by rfl) (hpl:(backTo pos (starEach es X.env)).any (·.1)=false:=by rfl):
  PEm X W (.Call (.Name x p) (e::es) [] pos) (λρ S=>(af ρ S).bind λrs S1=>zW n F rs S1):=by
 obtain⟨t,ha,kk⟩:=ha;refine⟨_,yLH G hr hg hm hk hb .nil pass0 ha hdb he hpl,λα ρ S σ H Q wd sl q=>kk α ρ S σ H _ wd sl (q.bind λvs rs S1 α1 H1 e1 x1 w1 d1 q1=>?_)⟩;rw [aN];exact yEA x1 w1 d1 q1
end
def yN(N:Ai)(ds:Bh):Rho:=ds.map some++List.replicate (N.length - ds.length) none
def xE:R Fl->R Er
 |.ok (.next _) S=>.ok (.val .non) S
 |.ok (.ret r) S=>.ok r S
 |.exc c fs S=>.exc c fs S
 |_=>.no
def zVV{K:Be}{α:Ah}{N:Ai}{H:Hp}{ds:Bh}{vs:List V}(l:DenL K α H ds vs):Slots K α H (yN N ds) (start N vs):=by
 have hlen:=l.length;refine⟨?_,λi d e=>?_⟩
 ·unfold start yN;rw [lA,lA,lM,lM,length_replicate,length_replicate,hlen]
 ·unfold yN at e;by_cases hi:i<ds.length
  ·rw [getElem?_append_left (by simpa using hi),getElem?_map]at e
   cases z:ds[i]? with
   |none=>rw [z]at e;cases e
   |some d'=>
    rw [z]at e;obtain⟨v,h1,h2⟩:=l.at z;have e':d'=d:=Option.some.inj (Option.some.inj e);subst e';refine⟨v,?_,h2⟩;unfold start;rw [getElem?_append_left (by rw [lM,hlen];exact hi),getElem?_map,h1];rfl
  ·rw [getElem?_append_right (by simpa using hi),List.getElem?_replicate]at e;split at e<;>cases e
section
variable{P:Program}{w:World}{K:Be}{mg:Aj}{base:Heap}
def okM{x qual:Str}{st:Stmt}{f:Addr}{fd:FuncData}{N ps:Ai}{k:Nat}(Fb:AY)(F:Fun K x qual st f fd)(Sc:FnScope N ps (zH st))
  (hbody: ∀(cdv:Value)(A:Around)(outer:List Env)(s:Shared)(H:Hp)(E:XK),Room k (A.deeper (envOfC qual (zH st) s.heap.objs.size f cdv))->
   zTI (zYL CX0 P w K mg base N qual (zH st) f cdv A outer s H E).nox W0 (zBG st) Fb):
  FnOk P w K mg base CX0 (k+1) f fd ps (spM ⟨K,mg,P,w⟩ ps.length λds S=>xE (Fb (yN N ds) S)):=by
 refine F.ok Sc (λvs H Q E h=>?_) (λcdv A outer s H vs Q E hr h=>?_)
 ·obtain⟨α,S,ds,_,l,hl,_⟩:=h;rw [l.length,hl]
 ·obtain⟨α,S,ds,wd,l,hl,q⟩:=h;obtain⟨t,ht,kk⟩:=hbody cdv A outer s H E hr;refine⟨t,ht,kk α (yN N ds) S (start N vs) H _ wd (zVV l) ?_⟩;dsimp only at q
  cases z:Fb (yN N ds) S with
  |ok fl S'=>
   rw [z]at q
   cases fl with
   |next ρ=>exact λσ α' H' x' w' s'=>q .non α' H' x' w' (DenE.val zKB)
   |ret r=>exact λv α' H' x' w' d'=>q v α' H' x' w' d'
   |brk ρ=>exact q.elim
   |cont ρ=>exact q.elim
  |exc c fs S'=>rw [z]at q;exact λα' H' x' w'=>q α' H' x' w'
  |no=>rw [z]at q;exact q
end
inductive Vw where
 |fl (v:V)|tp (ds:Bh)|ls (ds:Bh)
def kL(S:Sto):Er->Option (List MV)
 |.new ds=>some ds
 |.val (.scr ds)=>some ds
 |.val (.loc l)=>match S[l]? with
  |some (.lst ds)=>some ds
  |_=>none
 |_=>none
def vwE(S:Sto):Er->Option Vw
 |.val .non=>some (.fl .non)
 |.val (.bl b)=>some (.fl (.bl b))
 |.val (.int i)=>some (.fl (.int i))
 |.val (.str x)=>some (.fl (.str (mkS x)))
 |.val (.tup ds)=>some (.tp ds)
 |.val (.typ _)=>none
 |.val (.obj _ _ _)=>none
 |r=>(kL S r).map .ls
def prs(e:MV->MV->Option Bool):List MV->List MV->Option (List Bool)
 |d::ds,f::fs=>(e d f).bind λk=>(prs e ds fs).map (k::·)
 |_,_=>some []
def eqW(e:MV->MV->Option Bool):Vw->Vw->Option Bool
 |.fl x,.fl y=>some (eqV x y)
 |.tp ds,.tp es=>(prs e ds es).map λbs=>bs.all id&&ds.length==es.length
 |.ls ds,.ls es=>if ds.length=es.length then(prs e ds es).map λbs=>bs.all id else some false
 |_,_=>some false
theorem zYW(e:MV->MV->Option Bool)(ds es:Bh):eqW e (.tp ds) (.tp es)=(prs e ds es).map λbs=>bs.all id&&ds.length==es.length:=rfl
theorem zYX(e:MV->MV->Option Bool)(ds es:Bh):eqW e (.ls ds) (.ls es)=if ds.length=es.length then(prs e ds es).map λbs=>bs.all id else some false:=rfl
def eqv(S:Sto):Nat->MV->MV->Option Bool
 |0,_,_=>none
 |n+1,a,b=>(vwE S (.val a)).bind λx=>(vwE S (.val b)).bind λy=>eqW (eqv S n) x y
def zOM(S:Sto)(n:Nat)(a b:Er):Option Bool:=(vwE S a).bind λx=>(vwE S b).bind λy=>eqW (eqv S n) x y
section
variable{X:Cx}{α:Ah}{S:Sto}{H:Hp}
def zDT{K:Be}{g:Gm}(hK:g.K=K)(wd:Wd g α S H){r:Er}{ds:Bh}{x:V}(e:kL S r=some ds)(d:DenX K α H r x): ∃a vs,x=.ref a/\SqL K H a vs/\DenL K α H ds vs:=by
 subst hK;unfold kL at e;split at e
 ·cases e;obtain⟨b,vs,rfl,h,_,l⟩:=d;exact⟨b,vs,rfl,.of h,l⟩
 ·cases e;obtain⟨a,vs,rfl,s,l⟩:=zOI d;exact⟨a,vs,rfl,s.l,l⟩
 ·rename_i n;obtain⟨a,rfl,h⟩:=zEH d;split at e
  ·rename_i es hS;cases e;obtain⟨vs,h1,l⟩:=wd.obj n a _ h hS;exact⟨a,vs,rfl,.of h1,l⟩
  ·cases e
 ·cases e
def zGY{r:Er}{x y:V}(e:vwE S r=some (.fl y))(d:DenX X.K α H r x):x=y/\kP y=true:=by
 unfold vwE at e;split at e
 ·cases e;exact⟨zLL d,rfl⟩
 ·cases e;exact⟨zKC d,rfl⟩
 ·cases e;exact⟨xO d,rfl⟩
 ·cases e;exact⟨bF d,rfl⟩
 ·cases e
 ·cases e
 ·cases e
 ·cases z:kL S r<;>rw [z]at e<;>cases e
def zGZ{r:Er}{x:V}{ds:Bh}(e:vwE S r=some (.tp ds))(d:DenX X.K α H r x): ∃a vs,x=.ref a/\SqT X.K H a vs/\DenL X.K α H ds vs:=by
 unfold vwE at e;split at e
 ·cases e
 ·cases e
 ·cases e
 ·cases e
 ·cases e;exact zAI d
 ·cases e
 ·cases e
 ·cases z:kL S r<;>rw [z]at e<;>cases e
def zHA(wd:Wd X.g α S H){r:Er}{x:V}{ds:Bh}(e:vwE S r=some (.ls ds))(d:DenX X.K α H r x): ∃a vs,x=.ref a/\SqL X.K H a vs/\DenL X.K α H ds vs:=by
 unfold vwE at e;split at e
 ·cases e
 ·cases e
 ·cases e
 ·cases e
 ·cases e
 ·cases e
 ·cases e
 ·cases z:kL S r with
  |none=>rw [z]at e;cases e
  |some es=>rw [z]at e;cases e;exact zDT rfl wd z d
theorem zIW{e:MV->MV->Option Bool}: ∀{ds es:Bh}{bs:Bb},prs e ds es=some bs->bs.length=min ds.length es.length
 |[],_,_,h=>by simp [prs]at h;subst h;simp
 |_::_,[],_,h=>by simp [prs]at h;subst h;simp
 |d::ds,f::fs,bs,h=>by
  unfold prs at h
  cases z:e d f with
  |none=>rw [z]at h;cases h
  |some k=>
   rw [z]at h
   cases z2:prs e ds fs with
   |none=>simp [z2]at h
   |some cs=>
    simp [z2]at h;subst h;simp [zIW z2]
theorem zTK{e:MV->MV->Option Bool}: ∀{ds es:Bh}{bs:Bb}{j:Nat}{d f:MV},prs e ds es=some bs->ds[j]? =some d->es[j]? =some f->e d f=some (bs.getD j true)
 |[],_,_,_,_,_,h,h1,_=>by simp at h1
 |_::_,[],_,_,_,_,h,_,h2=>by simp at h2
 |d::ds,f::fs,bs,j,d',f',h,h1,h2=>by
  unfold prs at h
  cases z:e d f with
  |none=>rw [z]at h;cases h
  |some k=>
   rw [z]at h
   cases z2:prs e ds fs with
   |none=>simp [z2]at h
   |some cs=>
    simp [z2]at h;subst h
    cases j with
    |zero=>simp at h1 h2;subst h1 h2;simpa using z
    |succ j=>simpa using zTK z2 (by simpa using h1) (by simpa using h2)
def range_all{bs:Bb}{n:Nat}(h:bs.length=n):(List.range n).all (λj=>bs.getD j true)=bs.all id:=by
 subst h;rw [Bool.eq_iff_iff,all_eq_true,all_eq_true];constructor
 ·intro h x hx;obtain⟨i,hi,rfl⟩:=getElem_of_mem hx;have:=h i (mem_range.mpr hi);simpa [getD_eq_getElem?_getD,hi]using this
 ·intro h i hi;have hi':=mem_range.mp hi;have:=h bs[i] (getElem_mem hi');simpa [getD_eq_getElem?_getD,hi']using this
variable{pins:Ba}{σ:St}{s:Shared}
def zKG(I:Inv X pins σ H s){a:Addr}{xs ys:List V}(h:SqL X.K H a xs)(h':SqT X.K H a ys):False:=by obtain⟨_,_,pl,_⟩:=I.list h;obtain⟨_,_,pt,_⟩:=I.tuple h';obtain⟨o,n,e,c,_,_⟩:=pl;obtain⟨o',e',c',_⟩:=pt;rw [e]at e';cases e';rw [c]at c';exact absurd c' (by simp)
def yGS(I:Inv X pins σ H s)(wd:Wd X.g α S H){e:MV->MV->Option Bool}(he: ∀d f v k,Den X.K α H d v->Den X.K α H f v->e d f=some k->k=true){a b:Er}{x:V}{p q:Vw}{k:Bool}
  (ha:vwE S a=some p) (hb:vwE S b=some q) (da:DenX X.K α H a x) (db:DenX X.K α H b x) (h:eqW e p q=some k):k=true:=by
 have hp: ∀{ds es:Bh}{vs:List V}{bs:Bb},DenL X.K α H ds vs->DenL X.K α H es vs->prs e ds es=some bs->bs.all id=true:=by
  intro ds es vs bs l1 l2 z;rw [all_eq_true];intro k hk;obtain⟨i,hi,rfl⟩:=getElem_of_mem hk;have hl:=zIW z;have h1:i<ds.length:=by omega
  have h2:i<es.length:=by omega
  obtain⟨v,g1,g2⟩:=l1.at (gE0 h1);obtain⟨v',g3,g4⟩:=l2.at (gE0 h2);rw [g1]at g3;cases g3;have:=he _ _ _ _ g2 g4 (zTK z (gE0 h1) (gE0 h2));simpa [getD_eq_getElem?_getD,hi]using this
 cases p with
 |fl y=>
  obtain⟨rfl,f1⟩:=zGY ha da
  cases q with
  |fl z=>obtain⟨rfl,f2⟩:=zGY hb db;cases h;exact yGI f1
  |tp ds=>obtain⟨a,vs,rfl,_⟩:=zGZ hb db;exact absurd (show false=true from f1) xF0
  |ls ds=>obtain⟨a,vs,rfl,_⟩:=zHA wd hb db;exact absurd (show false=true from f1) xF0
 |tp ds=>
  obtain⟨a1,vs,rfl,s1,l1⟩:=zGZ ha da
  cases q with
  |fl z=>obtain⟨rfl,f2⟩:=zGY hb db;exact absurd (show false=true from f2) xF0
  |tp es=>
   obtain⟨a2,us,e2,s2,l2⟩:=zGZ hb db;cases e2;cases I.tuple_inj s1 s2;rw [zYW]at h
   cases z:prs e ds es with
   |none=>rw [z]at h;cases h
   |some bs=>
    rw [z]at h;cases h;show(bs.all id&&ds.length==es.length)=true;rw [hp l1 l2 z, <-l1.length, <-l2.length];simp
  |ls es=>obtain⟨a2,us,e2,s2,l2⟩:=zHA wd hb db;cases e2;exact(zKG I s2 s1).elim
 |ls ds=>
  obtain⟨a1,vs,rfl,s1,l1⟩:=zHA wd ha da
  cases q with
  |fl z=>obtain⟨rfl,f2⟩:=zGY hb db;exact absurd (show false=true from f2) xF0
  |tp es=>obtain⟨a2,us,e2,s2,l2⟩:=zGZ hb db;cases e2;exact(zKG I s1 s2).elim
  |ls es=>
   obtain⟨a2,us,e2,s2,l2⟩:=zHA wd hb db;cases e2;cases I.list_inj s1 s2;rw [zYX]at h;rw [iP (by rw [<-l1.length, <-l2.length])]at h
   cases z:prs e ds es with
   |none=>rw [z]at h;cases h
   |some bs=>rw [z]at h;cases h;exact hp l1 l2 z
theorem zON(I:Inv X pins σ H s)(wd:Wd X.g α S H): ∀(n:Nat)(d f:MV)(v:V)(k:Bool),Den X.K α H d v->Den X.K α H f v->eqv S n d f=some k->k=true
 |0,_,_,_,_,_,_,h=>by cases h
 |n+1,d,f,v,k,h1,h2,h=>by
  unfold eqv at h
  cases za:vwE S (.val d)with
  |none=>rw [za]at h;cases h
  |some p=>
   cases zb:vwE S (.val f)with
   |none=>rw [za,zb]at h;cases h
   |some q=>
    rw [za,zb]at h;exact yGS I wd (zON I wd n) za zb (a:=.val d) (b:=.val f) h1 h2 h
def zKH{e:MV->MV->Option Bool}{A:Around}(he: ∀d f x y u v k,Den X.K α H d x->Den X.K α H f y->RelV x u->RelV y v->e d f=some k->SeqAt.EqAt A s u v k)
  {ds es:Bh} {vs us:List V} {its its2:Ae} {bs:Bb} (l1:DenL X.K α H ds vs) (l2:DenL X.K α H es us) (r1:Vals vs its) (r2:Vals us its2) (z:prs e ds es=some bs):
  ∀j (h1:j<its.toArray.size) (h2:j<its2.toArray.size),SeqAt.EqAt A s its.toArray[j] its2.toArray[j] (bs.getD j true):=by
 intro j h1 h2;have g1:j<vs.length:=by rw [r1.length];simpa using h1
 have g2:j<us.length:=by rw [r2.length];simpa using h2
 obtain⟨d,d1,d2⟩:=l1.get (gE0 g1);obtain⟨f,f1,f2⟩:=l2.get (gE0 g2);obtain⟨u,u1,u2⟩:=r1.get (gE0 g1);obtain⟨v,v1,v2⟩:=r2.get (gE0 g2);have e1:its.toArray[j]=u:=by have:its[j]? =some (its[j]'(by simpa using h1)):=gE0 _;rw [u1]at this;simpa using(Option.some.inj this).symm
 have e2:its2.toArray[j]=v:=by have:its2[j]? =some (its2[j]'(by simpa using h2)):=gE0 _;rw [v1]at this;simpa using(Option.some.inj this).symm
 rw [e1,e2];exact he d f _ _ u v _ d2 f2 u2 v2 (zTK z d1 f1)
theorem zLN(I:Inv X pins σ H s)(wd:Wd X.g α S H): ∀(n:Nat)(A:Around)(d f:MV)(x y:V)(u v:Value)(k:Bool),A.units+n<cLine->Den X.K α H d x->Den X.K α H f y->RelV x u->RelV y v->eqv S n d f=some k->SeqAt.EqAt A s u v k
 |0,_,_,_,_,_,_,_,_,_,_,_,_,_,h=>by cases h
 |n+1,A,d,f,x,y,u,v,k,hu,h1,h2,rx,ry,h=>by
  have hu0:A.units<cLine:=by omega
  have hsame:=h;unfold eqv at h
  cases za:vwE S (.val d)with
  |none=>rw [za]at h;cases h
  |some p=>
   cases zb:vwE S (.val f)with
   |none=>rw [za,zb]at h;cases h
   |some q=>
    rw [za,zb]at h;have h:eqW (eqv S n) p q=some k:=h;have he:=λd f x y u v k a b c d' e=>zLN I wd n A.in1 d f x y u v k (show A.units+1+n<cLine by omega) a b c d' e
    cases p with
    |fl x'=>
     obtain⟨rfl,fx⟩:=zGY za (α:=α) (H:=H) (X:=X) h1
     cases q with
     |fl y'=>obtain⟨rfl,fy⟩:=zGY zb (α:=α) (H:=H) (X:=X) h2;cases h;exact yQM rx ry fx fy
     |tp es=>
      obtain⟨b,us,rfl,s2,l2⟩:=zGZ zb (α:=α) (H:=H) (X:=X) h2;cases ry;cases h;obtain⟨its,_,pt,_⟩:=I.tuple s2;exact eq_tr rx fx pt hu0
     |ls es=>
      obtain⟨b,us,rfl,s2,l2⟩:=zHA wd zb h2;cases ry;cases h;obtain⟨its,_,pl,_⟩:=I.list s2;exact eq_lr rx fx pl.isList hu0
    |tp ds=>
     obtain⟨a,vs,rfl,s1,l1⟩:=zGZ za (α:=α) (H:=H) (X:=X) h1;cases rx;obtain⟨its,r1,pt,_⟩:=I.tuple s1
     cases q with
     |fl y'=>obtain⟨rfl,fy⟩:=zGY zb (α:=α) (H:=H) (X:=X) h2;cases h;exact eq_tl ry fy pt hu0
     |tp es=>
      obtain⟨b,us,rfl,s2,l2⟩:=zGZ zb (α:=α) (H:=H) (X:=X) h2;cases ry;by_cases hab:a=b
      ·subst hab;rw [zON I wd (n+1) d f _ k h1 h2 hsame];exact SeqAt.EqAt.same _
      ·obtain⟨its2,r2,pt2,_⟩:=I.tuple s2;rw [zYW]at h
       cases z:prs (eqv S n) ds es with
       |none=>rw [z]at h;cases h
       |some bs=>
        rw [z]at h;cases h;have:=SeqAt.RcAt.tuples pt pt2 hu0 (zKH he l1 l2 r1 r2 z);have hl:=zIW z;rw [range_all (by rw [hl];simp [<-r1.length, <-r2.length,l1.length,l2.length])]at this;have e3:(its.toArray.size==its2.toArray.size)=(ds.length==es.length):=by simp [<-r1.length, <-r2.length,l1.length,l2.length]
        rw [e3]at this;exact SeqAt.EqAt.of_refs hab this
     |ls es=>
      obtain⟨b,us,rfl,s2,l2⟩:=zHA wd zb h2;cases ry;cases h;obtain⟨its2,_,pl,_⟩:=I.list s2;exact SeqAt.EqAt.tuple_list pt pl.isList hu0
    |ls ds=>
     obtain⟨a,vs,rfl,s1,l1⟩:=zHA wd za h1;cases rx;obtain⟨its,r1,pl,_⟩:=I.list s1
     cases q with
     |fl y'=>obtain⟨rfl,fy⟩:=zGY zb (α:=α) (H:=H) (X:=X) h2;cases h;exact eq_ll ry fy pl.isList hu0
     |tp es=>
      obtain⟨b,us,rfl,s2,l2⟩:=zGZ zb (α:=α) (H:=H) (X:=X) h2;cases ry;cases h;obtain⟨its2,_,pt,_⟩:=I.tuple s2;exact SeqAt.EqAt.list_tuple pl.isList pt hu0
     |ls es=>
      obtain⟨b,us,rfl,s2,l2⟩:=zHA wd zb h2;cases ry;by_cases hab:a=b
      ·subst hab;rw [zON I wd (n+1) d f _ k h1 h2 hsame];exact SeqAt.EqAt.same _
      ·obtain⟨its2,r2,pl2,_⟩:=I.list s2;rw [zYX]at h;by_cases hl:ds.length=es.length
       ·rw [iP hl]at h
        cases z:prs (eqv S n) ds es with
        |none=>rw [z]at h;cases h
        |some bs=>
         rw [z]at h;cases h;have hs:its.toArray.size=its2.toArray.size:=by simp [<-r1.length, <-r2.length,l1.length,l2.length,hl]
         have:=SeqAt.RcAt.lists pl.isList pl2.isList hs hu0 (zKH he l1 l2 r1 r2 z);have hl':=zIW z;rw [range_all (by rw [hl'];simp [<-r1.length,l1.length,hl])]at this;exact SeqAt.EqAt.of_refs hab this
       ·rw [iN hl]at h;cases h;exact SeqAt.EqAt.of_refs hab (SeqAt.RcAt.lists_lengths pl.isList pl2.isList (by simpa [<-r1.length, <-r2.length,l1.length,l2.length]using hl) hu0)
def yOT{RC:Around->Shared->Value->Value->Bool->Prop}{tr:Bool->Bool}{A:Around}
  (hff: ∀x y u v,RelV x u->RelV y v->kP x=true->kP y=true->RC A s u v (tr (eqV x y)))
  (hfl: ∀x v l items,RelV x v->kP x=true->s.heap.IsList l items->A.units<cLine->RC A s v (.ref l) (tr false)/\RC A s (.ref l) v (tr false))
  (hft: ∀x v l items,RelV x v->kP x=true->s.heap.IsTuple l items->A.units<cLine->RC A s v (.ref l) (tr false)/\RC A s (.ref l) v (tr false))
  (hlt: ∀l b items items2,s.heap.IsList l items->s.heap.IsTuple b items2->A.units<cLine->RC A s (.ref l) (.ref b) (tr false)/\RC A s (.ref b) (.ref l) (tr false))
  (htt: ∀(l b:Addr)(items items2:Ag)(e:Nat->Bool),s.heap.IsTuple l items->s.heap.IsTuple b items2->A.units<cLine->(∀j (h1:j<items.size) (h2:j<items2.size),SeqAt.EqAt A.in1 s items[j] items2[j] (e j))->RC A s (.ref l) (.ref b) (tr ((List.range (min items.size items2.size)).all e&&items.size==items2.size)))
  (hll: ∀(l b:Addr)(items items2:Ag)(e:Nat->Bool),s.heap.IsList l items->s.heap.IsList b items2->items.size=items2.size->A.units<cLine->(∀j (h1:j<items.size) (h2:j<items2.size),SeqAt.EqAt A.in1 s items[j] items2[j] (e j))->RC A s (.ref l) (.ref b) (tr ((List.range items.size).all e)))
  (hln: ∀(l b:Addr)(items items2:Ag),s.heap.IsList l items->s.heap.IsList b items2->(items.size !=items2.size)=true->A.units<cLine->RC A s (.ref l) (.ref b) (tr false))
  (I:Inv X pins σ H s) (wd:Wd X.g α S H) (n:Nat) {a b:Er} {x y:V} {u v:Value} {k:Bool} (hu:A.units+(n+1)<cLine) (h1:DenX X.K α H a x) (h2:DenX X.K α H b y) (rx:RelV x u) (ry:RelV y v) (h:zOM S n a b=some k):RC A s u v (tr k):=by
 have hu0:A.units<cLine:=by omega
 unfold zOM at h
 cases za:vwE S a with
 |none=>rw [za]at h;cases h
 |some p=>
  cases zb:vwE S b with
  |none=>rw [za,zb]at h;cases h
  |some q=>
   rw [za,zb]at h;have h:eqW (eqv S n) p q=some k:=h;have he:=λd f x y u v k a b c d' e=>zLN I wd n A.in1 d f x y u v k (show A.units+1+n<cLine by omega) a b c d' e
   cases p with
   |fl x'=>
    obtain⟨rfl,fx⟩:=zGY za h1
    cases q with
    |fl y'=>obtain⟨rfl,fy⟩:=zGY zb h2;cases h;exact hff _ _ _ _ rx ry fx fy
    |tp es=>
     obtain⟨b,us,rfl,s2,l2⟩:=zGZ zb h2;cases ry;cases h;obtain⟨its,_,pt,_⟩:=I.tuple s2;exact(hft _ _ _ _ rx fx pt hu0).1
    |ls es=>
     obtain⟨b,us,rfl,s2,l2⟩:=zHA wd zb h2;cases ry;cases h;obtain⟨its,_,pl,_⟩:=I.list s2;exact(hfl _ _ _ _ rx fx pl.isList hu0).1
   |tp ds=>
    obtain⟨a,vs,rfl,s1,l1⟩:=zGZ za h1;cases rx;obtain⟨its,r1,pt,_⟩:=I.tuple s1
    cases q with
    |fl y'=>obtain⟨rfl,fy⟩:=zGY zb h2;cases h;exact(hft _ _ _ _ ry fy pt hu0).2
    |tp es=>
     obtain⟨b,us,rfl,s2,l2⟩:=zGZ zb h2;cases ry;obtain⟨its2,r2,pt2,_⟩:=I.tuple s2;rw [zYW]at h
     cases z:prs (eqv S n) ds es with
     |none=>rw [z]at h;cases h
     |some bs=>
      rw [z]at h;cases h;have:=htt _ _ _ _ _ pt pt2 hu0 (zKH he l1 l2 r1 r2 z);have hl:=zIW z;rw [range_all (by rw [hl];simp [<-r1.length, <-r2.length,l1.length,l2.length])]at this;have e3:(its.toArray.size==its2.toArray.size)=(ds.length==es.length):=by simp [<-r1.length, <-r2.length,l1.length,l2.length]
      rw [e3]at this;exact this
    |ls es=>
     obtain⟨b,us,rfl,s2,l2⟩:=zHA wd zb h2;cases ry;cases h;obtain⟨its2,_,pl,_⟩:=I.list s2;exact(hlt _ _ _ _ pl.isList pt hu0).2
   |ls ds=>
    obtain⟨a,vs,rfl,s1,l1⟩:=zHA wd za h1;cases rx;obtain⟨its,r1,pl,_⟩:=I.list s1
    cases q with
    |fl y'=>obtain⟨rfl,fy⟩:=zGY zb h2;cases h;exact(hfl _ _ _ _ ry fy pl.isList hu0).2
    |tp es=>
     obtain⟨b,us,rfl,s2,l2⟩:=zGZ zb h2;cases ry;cases h;obtain⟨its2,_,pt,_⟩:=I.tuple s2;exact(hlt _ _ _ _ pl.isList pt hu0).1
    |ls es=>
     obtain⟨b,us,rfl,s2,l2⟩:=zHA wd zb h2;cases ry;obtain⟨its2,r2,pl2,_⟩:=I.list s2;rw [zYX]at h;by_cases hl:ds.length=es.length
     ·rw [iP hl]at h
      cases z:prs (eqv S n) ds es with
      |none=>rw [z]at h;cases h
      |some bs=>
       rw [z]at h;cases h;have hs:its.toArray.size=its2.toArray.size:=by simp [<-r1.length, <-r2.length,l1.length,l2.length,hl]
       have:=hll _ _ _ _ _ pl.isList pl2.isList hs hu0 (zKH he l1 l2 r1 r2 z);have hl':=zIW z;rw [range_all (by rw [hl'];simp [<-r1.length,l1.length,hl])]at this;exact this
     ·rw [iN hl]at h;cases h;exact hln _ _ _ _ pl.isList pl2.isList (by simpa [<-r1.length, <-r2.length,l1.length,l2.length]using hl) hu0
def yRA(I:Inv X pins σ H s)(wd:Wd X.g α S H)(n:Nat){A:Around}{a b:Er}{x y:V}{u v:Value}{k:Bool}(hu:A.units+(n+1)<cLine)(h1:DenX X.K α H a x)(h2:DenX X.K α H b y)(rx:RelV x u)(ry:RelV y v)(h:zOM S n a b=some k):SeqAt.RcAt A s u v k:=
 yOT (RC:=SeqAt.RcAt) (tr:=id) (λ_ _ _ _ a b c d=>yQU a b c d) (λ_ _ _ _ a b c d=>⟨rc_lr a b c d,rc_ll a b c d⟩) (λ_ _ _ _ a b c d=>⟨rc_tr a b c d,rc_tl a b c d⟩)
  (λ_ _ _ _ a b c=>⟨SeqAt.RcAt.list_tuple a b c,SeqAt.RcAt.tuple_list b a c⟩) (λ_ _ _ _ _ a b c d=>SeqAt.RcAt.tuples a b c d) (λ_ _ _ _ _ a b c d e=>SeqAt.RcAt.lists a b c d e) (λ_ _ _ _ a b c d=>SeqAt.RcAt.lists_lengths a b c d)
  I wd n hu h1 h2 rx ry h
def yRB(I:Inv X pins σ H s)(wd:Wd X.g α S H)(n:Nat){A:Around}{a b:Er}{x y:V}{u v:Value}{k:Bool}(hu:A.units+(n+1)<cLine)(h1:DenX X.K α H a x)(h2:DenX X.K α H b y)(rx:RelV x u)(ry:RelV y v)(h:zOM S n a b=some k):SeqAt.RcNeAt A s u v (!k):=
 yOT (RC:=SeqAt.RcNeAt) (tr:=λb=>!b) (λ_ _ _ _ a b c d=>yQV a b c d) (λ_ _ _ _ a b c d=>⟨rn_lr a b c d,rn_ll a b c d⟩) (λ_ _ _ _ a b c d=>⟨rn_tr a b c d,rn_tl a b c d⟩)
  (λ_ _ _ _ a b c=>⟨SeqAt.RcNeAt.list_tuple a b c,SeqAt.RcNeAt.tuple_list b a c⟩) (λ_ _ _ _ _ a b c d=>SeqAt.RcNeAt.tuples a b c d) (λ_ _ _ _ _ a b c d e=>SeqAt.RcNeAt.lists a b c d e) (λ_ _ _ _ a b c d=>SeqAt.RcNeAt.lists_lengths a b c d)
  I wd n hu h1 h2 rx ry h
theorem yAW{α β:Type}: ∀{a c:List α}{b d:List β},a.length=b.length->c.length=d.length->a.zip b=c.zip d->a=c/\b=d
 |[],[],[],[],_,_,_=>⟨rfl,rfl⟩
 |[],_::_,[],_::_,_,_,e=>by simp at e
 |_::_,[],_::_,[],_,_,e=>by simp at e
 |x::a,y::c,z::b,w::d,h1,h2,e=>by simp only [zip_cons_cons,List.cons.injEq,Prod.mk.injEq]at e;obtain⟨rfl,rfl⟩:=yAW (by simpa using h1) (by simpa using h2) e.2;exact⟨by rw [e.1.1],by rw [e.1.2]⟩
mutual
theorem Den.inj(I:Inv X pins σ H s)(wd:Wd X.g α S H): ∀{d f:MV}{v:V},Den X.K α H d v->Den X.K α H f v->d=f
 |.non,f,v,h,h'=>by cases zBX h;cases f<;>first |rfl|(have:=zEW h';cases this;done)|(have:=xN h';cases this;done)|(have:=wC h';cases this;done)|(have:=zAH h';cases this;done)|(obtain⟨_,_,e,_⟩:=xX h';cases e;done)|(obtain⟨_,_,e,_⟩:=cZ h';cases e;done)|(obtain⟨_,e,_⟩:=bE h';cases e;done)|(obtain⟨_,_,_,_,_,e,_⟩:=cY h';cases e;done)
 |.bl b,f,v,h,h'=>by cases zEW h;cases f<;>first |(have:=zEW h';cases this;rfl;done)|(have:=zBX h';cases this;done)|(have:=xN h';cases this;done)|(have:=wC h';cases this;done)|(have:=zAH h';cases this;done)|(obtain⟨_,_,e,_⟩:=xX h';cases e;done)|(obtain⟨_,_,e,_⟩:=cZ h';cases e;done)|(obtain⟨_,e,_⟩:=bE h';cases e;done)|(obtain⟨_,_,_,_,_,e,_⟩:=cY h';cases e;done)
 |.int b,f,v,h,h'=>by cases xN h;cases f<;>first |(have:=xN h';cases this;rfl;done)|(have:=zBX h';cases this;done)|(have:=zEW h';cases this;done)|(have:=wC h';cases this;done)|(have:=zAH h';cases this;done)|(obtain⟨_,_,e,_⟩:=xX h';cases e;done)|(obtain⟨_,_,e,_⟩:=cZ h';cases e;done)|(obtain⟨_,e,_⟩:=bE h';cases e;done)|(obtain⟨_,_,_,_,_,e,_⟩:=cY h';cases e;done)
 |.str b,f,v,h,h'=>by cases wC h;cases f<;>first |(have:=wC h';rw [zIT (V.str.inj this)];done)|(have:=zBX h';cases this;done)|(have:=zEW h';cases this;done)|(have:=xN h';cases this;done)|(have:=zAH h';cases this;done)|(obtain⟨_,_,e,_⟩:=xX h';cases e;done)|(obtain⟨_,_,e,_⟩:=cZ h';cases e;done)|(obtain⟨_,e,_⟩:=bE h';cases e;done)|(obtain⟨_,_,_,_,_,e,_⟩:=cY h';cases e;done)
 |.typ b,f,v,h,h'=>by cases zAH h;cases f<;>first |(have:=zAH h';cases this;rfl;done)|(have:=zBX h';cases this;done)|(have:=zEW h';cases this;done)|(have:=xN h';cases this;done)|(have:=wC h';cases this;done)|(obtain⟨_,_,e,_⟩:=xX h';cases e;done)|(obtain⟨_,_,e,_⟩:=cZ h';cases e;done)|(obtain⟨_,e,_⟩:=bE h';cases e;done)|(obtain⟨_,_,_,_,_,e,_⟩:=cY h';cases e;done)
 |.tup ds,f,v,h,h'=>by
  obtain⟨a,vs,rfl,s1,l1⟩:=xX h
  cases f with
  |tup es=>
   obtain⟨a2,us,e2,s2,l2⟩:=xX h';cases e2;cases I.tuple_inj s1 s2;rw [DenL.inj I wd l1 l2]
  |scr es=>obtain⟨a2,us,e2,s2,l2⟩:=cZ h';cases e2;exact(zKG I s2.l s1).elim
  |loc l=>
   obtain⟨a2,e2,h2⟩:=bE h';cases e2;obtain⟨ho,k1,k2,k3⟩:=wd.mem (mem_of_getElem? h2);rcases s1 with(s1|⟨o,s1⟩)|⟨o,its,n,s1,_⟩
   ·rw [k1]at s1;exact absurd (Option.some.inj s1) (k2 _)
   ·rw [k1]at s1;exact absurd (Option.some.inj s1) (k3 _ _)
   ·have:=(I.bs a o (I.mod.kin a o s1)).2;rw [k1]at this;cases this
  |non=>cases zBX h'
  |bl b=>cases zEW h'
  |int b=>cases xN h'
  |str b=>cases wC h'
  |typ b=>cases zAH h'
  |obj c ns es=>
   obtain⟨a2,C,dx,us,o2,e2,h2,_⟩:=cY h';cases e2;rcases s1 with(s1|⟨o,s1⟩)|⟨o,its,n,s1,_⟩
   ·rw [h2]at s1;cases s1
   ·rw [h2]at s1;cases s1
   ·have:=(I.bs a o (I.mod.kin a o s1)).2;rw [h2]at this;cases this
 |.scr ds,f,v,h,h'=>by
  obtain⟨a,vs,rfl,s1,l1⟩:=cZ h
  cases f with
  |scr es=>
   obtain⟨a2,us,e2,s2,l2⟩:=cZ h';cases e2;cases I.list_inj s1.l s2.l;rw [DenL.inj I wd l1 l2]
  |tup es=>obtain⟨a2,us,e2,s2,l2⟩:=xX h';cases e2;exact(zKG I s1.l s2).elim
  |loc l=>
   obtain⟨a2,e2,h2⟩:=bE h';cases e2;obtain⟨ho,k1,k2,k3⟩:=wd.mem (mem_of_getElem? h2);rcases s1 with⟨o,s1⟩|⟨o,its,n,s1,_⟩
   ·rw [k1]at s1;exact absurd (Option.some.inj s1) (k3 _ _)
   ·have:=(I.bs a o (I.mod.kin a o s1)).2;rw [k1]at this;cases this
  |non=>cases zBX h'
  |bl b=>cases zEW h'
  |int b=>cases xN h'
  |str b=>cases wC h'
  |typ b=>cases zAH h'
  |obj c ns es=>
   obtain⟨a2,C,dx,us,o2,e2,h2,_⟩:=cY h';cases e2;rcases s1 with⟨o,s1⟩|⟨o,its,n,s1,_⟩
   ·rw [h2]at s1;cases s1
   ·have:=(I.bs a o (I.mod.kin a o s1)).2;rw [h2]at this;cases this
 |.loc l,f,v,h,h'=>by
  obtain⟨a,rfl,h1⟩:=bE h;obtain⟨ho,k1,k2,k3⟩:=wd.mem (mem_of_getElem? h1)
  cases f with
  |loc m=>
   obtain⟨a2,e2,h2⟩:=bE h';cases e2;by_cases hlm:l=m
   ·rw [hlm]
   ·exact absurd rfl (wd.ne h1 h2 hlm)
  |tup es=>
   obtain⟨a2,us,e2,s1,l2⟩:=xX h';cases e2;rcases s1 with(s1|⟨o,s1⟩)|⟨o,its,n,s1,_⟩
   ·rw [k1]at s1;exact absurd (Option.some.inj s1) (k2 _)
   ·rw [k1]at s1;exact absurd (Option.some.inj s1) (k3 _ _)
   ·have:=(I.bs a o (I.mod.kin a o s1)).2;rw [k1]at this;cases this
  |scr es=>
   obtain⟨a2,us,e2,s1,l2⟩:=cZ h';cases e2;rcases s1 with⟨o,s1⟩|⟨o,its,n,s1,_⟩
   ·rw [k1]at s1;exact absurd (Option.some.inj s1) (k3 _ _)
   ·have:=(I.bs a o (I.mod.kin a o s1)).2;rw [k1]at this;cases this
  |non=>cases zBX h'
  |bl b=>cases zEW h'
  |int b=>cases xN h'
  |str b=>cases wC h'
  |typ b=>cases zAH h'
  |obj c ns es=>
   obtain⟨a2,C,dx,us,o2,e2,h2,_⟩:=cY h';cases e2;rw [k1]at h2;exact absurd (Option.some.inj h2) (k3 _ _)
 |.obj c ns ds,f,v,h,h'=>by
  obtain⟨a,C,dx,us,o2,rfl,h2,hn,hc,hl,l1⟩:=cY h
  cases f with
  |obj c' ns' es=>
   obtain⟨a2,C2,dx2,us2,o3,e2,h3,hn2,hc2,hl2,l2⟩:=cY h';cases e2;rw [h2]at h3;injection h3 with h3
   injection h3 with _ h3
   injection h3 with e1 e2 e3
   subst e1;rw [hc]at hc2;cases hc2;obtain⟨rfl,rfl⟩:=yAW hl hl2 e3;rw [DenL.inj I wd l1 l2]
  |tup es=>
   obtain⟨a2,us,e2,s1,l2⟩:=xX h';cases e2;rcases s1 with(s1|⟨o,s1⟩)|⟨o,its,n,s1,_⟩
   ·rw [h2]at s1;cases s1
   ·rw [h2]at s1;cases s1
   ·have:=(I.bs a o (I.mod.kin a o s1)).2;rw [h2]at this;cases this
  |scr es=>
   obtain⟨a2,us,e2,s1,l2⟩:=cZ h';cases e2;rcases s1 with⟨o,s1⟩|⟨o,its,n,s1,_⟩
   ·rw [h2]at s1;cases s1
   ·have:=(I.bs a o (I.mod.kin a o s1)).2;rw [h2]at this;cases this
  |loc l=>
   obtain⟨a2,e2,h1⟩:=bE h';cases e2;obtain⟨ho,k1,k2,k3⟩:=wd.mem (mem_of_getElem? h1);rw [k1]at h2;exact absurd (Option.some.inj h2) (k3 _ _)
  |non=>cases zBX h'
  |bl b=>cases zEW h'
  |int b=>cases xN h'
  |str b=>cases wC h'
  |typ b=>cases zAH h'
theorem DenL.inj(I:Inv X pins σ H s)(wd:Wd X.g α S H): ∀{ds fs:Bh}{vs:List V},DenL X.K α H ds vs->DenL X.K α H fs vs->ds=fs
 |[],fs,vs,h,h'=>by
  cases h.isnil
  cases fs with
  |nil=>rfl
  |cons f fs=>obtain⟨_,_,e,_⟩:=h'.uncons;cases e
 |d::ds,fs,vs,h,h'=>by
  obtain⟨v,r,rfl,a,l⟩:=h.uncons
  cases fs with
  |nil=>cases h'.isnil
  |cons f fs=>
   obtain⟨v',r',e,a',l'⟩:=h'.uncons;cases e;rw [Den.inj I wd a a',DenL.inj I wd l l']
end

end
inductive LexR(A:Around)(s:Shared):List Value->List Value->Bool->Prop
 |nn:LexR A s [] [] false
 |nc (x xs):LexR A s [] (x::xs) true
 |cn (y ys):LexR A s (y::ys) [] false
 |eq {y x ys xs k}:SeqAt.EqAt A s y x true->LexR A s ys xs k->LexR A s (y::ys) (x::xs) k
 |ne {y x ys xs k}:SeqAt.EqAt A s y x false->(∀(prog:Program)(w:World)(E Q:VP),Q (.bool k) s->wpAny (model prog w) A (richCompare .Lt y x) Q E s)->LexR A s (y::ys) (x::xs) k
section
open PySem.SeqAt
open PySem.AutoSeq1 (wpAny_loadPart')
open PySem.MeetsSeq PySem.MeetsSeq2 PySem.MeetsSeq3
def zYY(l b:Addr)(its its2:Ag)(n n2:Nat)(dd dd2:Option Addr)(sl sl2:Array (Option Value))(k:Bool):
  Meets (Builtin.«tuple.__lt__» ⟨[.ref l,.ref b],[]⟩)
   (λA R s=>s.heap.get? l=some {cls:=.type "tuple",dict:=dd,data:=.seq its n,slots:=sl}/\s.heap.get? b=some {cls:=.type "tuple",dict:=dd2,data:=.seq its2 n2,slots:=sl2}/\
    LexR A.in1 s its.toList its2.toList k/\R (.ok (.ret (.bool k))) s):=
 .of_wp λprog w A R s h=>by
  obtain⟨hp,g,d,tk,os⟩:=s;obtain⟨hl,hb,hx,h⟩:=h;have f2:=AutoSeq1.sub_tuple_tuple
  wp_walk using wpAny_loadPart' hl,wpAny_loadPart' hb,wpAny_forIn_list _ (λrest b s'=>b.1=none/\s'=⟨hp,g,d,tk,os⟩/\ ∃(vs ws:Ae),rest=vs.zip ws/\
   LexR A.in1 ⟨hp,g,d,tk,os⟩ vs ws k/\vs.length+its2.size=ws.length+its.size) _
  case turn=>
   rintro⟨y,x⟩ rest b s' ⟨hb',rfl,vs,ws,hz,hlx,hlen⟩
   cases hlx with
   |nn=>rw [zip_nil_left]at hz;cases hz
   |nc x xs=>rw [zip_nil_left]at hz;cases hz
   |cn y ys=>rw [List.zip_nil_right]at hz;cases hz
   |@eq y' x' ys xs k' he hr=>
    rw [zip_cons_cons]at hz;injection hz with hyx hrest
    injection hyx with hy hx
    subst hy hx;simp only [lC]at hlen;refine wB0 (he prog w _ _ ?_)
    wp_walk
    exact⟨rfl,rfl,_,_,hrest,hr,by omega⟩
   |@ne y' x' ys xs k' he hr=>
    rw [zip_cons_cons]at hz;injection hz with hyx hrest
    injection hyx with hy hx
    subst hy hx;refine wB0 (he prog w _ _ ?_);have hri:=hr prog w
    wp_walk using hri
    exact⟨_,rfl,by simpa using h⟩
  case fin=>
   rintro⟨b1,b2⟩ s' ⟨hb',rfl,vs,ws,hz,hlx,hlen⟩;simp only at hb';subst hb'
   have hv:k=decide (its.size<its2.size):=by
    cases hlx with
    |nn=>simp only [length_nil]at hlen;exact(dF0 (by omega)).symm
    |nc x xs=>simp only [length_nil,lC]at hlen;exact(dT0 (by omega)).symm
    |cn y ys=>simp only [length_nil,lC]at hlen;exact(dF0 (by omega)).symm
    |eq he hr=>rw [zip_cons_cons]at hz;cases hz
    |ne he hr=>rw [zip_cons_cons]at hz;cases hz
   rw [hv]at h
   wp_walk
   exact⟨_,rfl,by simpa [Builtin.Tuple.tupleCompareSizes]using h⟩
  case h=>
   exact⟨rfl,rfl,its.toList,its2.toList,rfl,hx,by simp;omega⟩
end
def yGT{A:Around}{s:Shared}{l b:Addr}{its its2:Ag}{k:Bool}(hl:IsTup s.heap l its)(hb:IsTup s.heap b its2)(hx:LexR A.in1 s its.toList its2.toList k)(hu:A.units<cLine)(prog:Program)(w:World)(E Q:VP)(h:Q (.bool k) s):
  wpAny (model prog w) A (richCompare .Lt (.ref l) (.ref b)) Q E s:=by
 obtain⟨⟨cls,dd,data,sl⟩,ho,hc,n,hd⟩:=id hl;obtain⟨⟨cls2,dd2,data2,sl2⟩,ho2,hc2,n2,hd2⟩:=id hb;simp only at hc hd hc2 hd2;subst hc hd hc2 hd2
 exact richCompare_meets_room (op:=.Lt) ⟨_,ho,rfl⟩ ⟨_,ho2,rfl⟩ PySem.F.slot_tuple_lt PySem.F.entry_tuple_lt (PySem.F.args_tuple_lt_2 _ _) (zYY l b its its2 n n2 dd dd2 sl sl2 k)
  ⟨ho,ho2,hx,show Value.bool k≠Value.notImplemented/\Q (.bool k) s from⟨(λx=>nomatch x),h⟩⟩ hu
def zYZ(e l:MV->MV->Option Bool):List MV->List MV->Option Bool
 |[],[]=>some false
 |[],_::_=>some true
 |_::_,[]=>some false
 |d::ds,f::fs=>(e d f).bind λk=>if k=true then zYZ e l ds fs else l d f
def ltv(S:Sto):Nat->MV->MV->Option Bool
 |0,_,_=>none
 |n+1,.int i,.int j=>some (decide (i<j))
 |n+1,.str x,.str y=>some (decide (x<y))
 |n+1,.tup ds,.tup es=>zYZ (eqv S n) (ltv S n) ds es
 |_,_,_=>none
section
variable{X:Cx}{α:Ah}{S:Sto}{H:Hp}{pins:Ba}{σ:St}{s:Shared}
theorem yGU{A:Around}{e l:MV->MV->Option Bool}(he: ∀d f x y u v k,Den X.K α H d x->Den X.K α H f y->RelV x u->RelV y v->e d f=some k->SeqAt.EqAt A s u v k)
  (hl: ∀d f x y u v k,Den X.K α H d x->Den X.K α H f y->RelV x u->RelV y v->l d f=some k-> ∀(prog:Program)(w:World)(E Q:VP),Q (.bool k) s->wpAny (model prog w) A (richCompare .Lt u v) Q E s):
  ∀{ds fs:Bh}{vs us:List V}{its its2:Ae}{k:Bool},DenL X.K α H ds vs->DenL X.K α H fs us->Vals vs its->Vals us its2->zYZ e l ds fs=some k->LexR A s its its2 k
 |[],[],_,_,_,_,k,l1,l2,r1,r2,h=>by cases l1.isnil;cases l2.isnil;cases r1;cases r2;cases h;exact .nn
 |[],f::fs,_,_,_,_,k,l1,l2,r1,r2,h=>by
  cases l1.isnil;obtain⟨v,r,rfl,a,l⟩:=l2.uncons;cases r1
  cases r2 with
  |cons a b=>cases h;exact .nc _ _
 |d::ds,[],_,_,_,_,k,l1,l2,r1,r2,h=>by
  cases l2.isnil;obtain⟨v,r,rfl,a,l⟩:=l1.uncons;cases r2
  cases r1 with
  |cons a b=>cases h;exact .cn _ _
 |d::ds,f::fs,_,_,_,_,k,l1,l2,r1,r2,h=>by
  obtain⟨v,r,rfl,a,l1'⟩:=l1.uncons;obtain⟨v2,r3,rfl,a2,l2'⟩:=l2.uncons
  cases r1 with
  |cons b1 c1=>
   cases r2 with
   |cons b2 c2=>
    unfold zYZ at h
    cases z:e d f with
    |none=>rw [z]at h;cases h
    |some kk=>
     rw [z]at h;have h:(if kk=true then zYZ e l ds fs else l d f)=some k:=h
     cases kk with
     |true=>
      rw [iP rfl]at h;exact .eq (he d f _ _ _ _ _ a a2 b1 b2 z) (yGU he hl l1' l2' c1 c2 h)
     |false=>
      rw [iN xF0]at h;exact .ne (he d f _ _ _ _ _ a a2 b1 b2 z) (hl d f _ _ _ _ _ a a2 b1 b2 h)
theorem zZA(I:Inv X pins σ H s)(wd:Wd X.g α S H): ∀(n:Nat)(A:Around)(d f:MV)(x y:V)(u v:Value)(k:Bool),A.units+n<cLine->Den X.K α H d x->Den X.K α H f y->RelV x u->RelV y v->ltv S n d f=some k->
  ∀(prog:Program)(w:World)(E Q:VP),Q (.bool k) s->wpAny (model prog w) A (richCompare .Lt u v) Q E s
 |0,_,_,_,_,_,_,_,_,_,_,_,_,_,h=>by cases h
 |n+1,A,d,f,x,y,u,v,k,hu,h1,h2,rx,ry,h=>by
  intro prog w E Q hq;unfold ltv at h;split at h
  ·cases h
  ·cases h;cases xN h1;cases xN h2;obtain⟨t,rfl⟩:=rx;obtain⟨t',rfl⟩:=ry;exact(PyProof.Rows.lt_int hq:wpAny (model prog w) A (compareOp .Lt _ _) Q E s)
  ·cases h;cases wC h1;cases wC h2;obtain⟨t,rfl⟩:=rx;obtain⟨t',rfl⟩:=ry;refine(PySem.P.lt_str ?_:wpAny (model prog w) A (compareOp .Lt _ _) Q E s);rw [zIS,zIS];exact hq
  ·rename_i n' ds es hn;obtain⟨a,vs,rfl,s1,l1⟩:=xX h1;obtain⟨b,us,rfl,s2,l2⟩:=xX h2;cases rx;cases ry;obtain⟨its,r1,pt,_⟩:=I.tuple s1;obtain⟨its2,r2,pt2,_⟩:=I.tuple s2;cases hn;refine yGT pt pt2 ?_ (by omega) prog w E Q hq
   exact yGU (λd f x y u v k a b c d' e=>zLN I wd n A.in1 d f x y u v k (show A.units+1+n<cLine by omega) a b c d' e)
    (λd f x y u v k a b c d' e=>zZA I wd n A.in1 d f x y u v k (show A.units+1+n<cLine by omega) a b c d' e) l1 l2 r1 r2 h
  ·cases h
end
section
variable{X:Cx}{W:XW}{a b c e:Expr}{es:Bd}{f g h:AX}{af:Rho->Sto->R (List Er)}{pos:Pos}
def iiF(C:Int->Int->Prop)[∀i j,Decidable (C i j)](g:Int->Int->Int):Er->Er->Sto->R Er
 |.val (.int i),.val (.int j),S=>if C i j then .ok (.val (.int (g i j))) S else .no
 |_,_,_=>.no
def ibF(g:Int->Int->Bool):Er->Er->Sto->R Er
 |.val (.int i),.val (.int j),S=>.ok (.val (.bl (g i j))) S
 |_,_,_=>.no
def zZB{C C':Int->Int->Prop}[∀i j,Decidable (C i j)]{g:Int->Int->Int}(h: ∀i j,C i j->C' i j):Op2 X W (rI C' λi j=>.int (g i j)) (iiF C g):=by
 intro p q x y α S H Q wd dp dq post;unfold iiF at post;split at post
 ·split at post
  ·rename_i hc;exact⟨_,_,xO dp,xO dq,h _ _ hc,Post.val post wd (xW _)⟩
  ·exact post.elim
 ·exact post.elim
def yLZ{g:Int->Int->Int}:Op2 X W (rI0 λi j=>.int (g i j)) (iiF (λ_ _=>True) g):=by
 intro p q x y α S H Q wd dp dq post;unfold iiF at post;split at post
 ·rw [iP trivial]at post;exact⟨_,_,xO dp,xO dq,Post.val post wd (xW _)⟩
 ·exact post.elim
abbrev zNF:=iiF (λ_ _=>True) λi j=>i - j
def zLO(ha:PEm X W a f)(hb:PEm X W b g):PEm X W (.BinOp a .Sub b pos) (λρ S=>(f ρ S).bind λp S1=>(g ρ S1).bind λq S2=>zNF p q S2):=zRX yQD yLZ ha hb
def zZC(_ j:Int):Prop:=0<j/\j.natAbs.log2<9000
instance(i j:Int):Decidable (zZC i j):=inferInstanceAs (Decidable (_/\_))
abbrev jU:=iiF zZC λi j=>i / j
def yGV:OpR X (binaryOp .FloorDiv) (rI zZC λi j=>.int (i / j)):=opI λi j _ _ _ _ _ hc q=>by have e:i.fdiv j=i / j:=Int.fdiv_eq_ediv_of_nonneg i (Int.le_of_lt hc.1);refine floordiv_int (by have:=hc.1;omega) ?_ (.inl (PyProof.noPylong_of_log2 hc.2));rw [e];exact q
def xG(ha:PEm X W a f)(hb:PEm X W b g):PEm X W (.BinOp a .FloorDiv b pos) (λρ S=>(f ρ S).bind λp S1=>(g ρ S1).bind λq S2=>jU p q S2):=zRX yGV (zZB λi j h=>h) ha hb
abbrev wZ:=iiF (λ_ j=>0<j) λi j=>i % j
def yF(ha:PEm X W a f)(hb:PEm X W b g):PEm X W (.BinOp a .Mod b pos) (λρ S=>(f ρ S).bind λp S1=>(g ρ S1).bind λq S2=>wZ p q S2):=zRX yQE (zZB λi j h=>h) ha hb
def yEB(i j:Int):Prop:=0<=j/\(Builtin.Int.intBits i:Int) * j<=2 ^ 27
instance(i j:Int):Decidable (yEB i j):=inferInstanceAs (Decidable (_/\_))
abbrev zNG:=iiF yEB λi j=>i ^ j.toNat
def yMA:OpR X (binaryOp .Pow) (rI yEB λi j=>.int (i ^ j.toNat)):=opI λ_ _ _ _ _ _ _ hc q=>pow_int hc.1 hc.2 q
def zOO(ha:PEm X W a f)(hb:PEm X W b g):PEm X W (.BinOp a .Pow b pos) (λρ S=>(f ρ S).bind λp S1=>(g ρ S1).bind λq S2=>zNG p q S2):=zRX yMA (zZB λi j h=>h) ha hb
def shlC(i j:Int):Prop:=0<=j/\j<=1000000/\i.natAbs<2 ^ 64
instance(i j:Int):Decidable (shlC i j):=inferInstanceAs (Decidable (_/\_/\_))
def usubF:Er->Sto->R Er
 |.val (.int i),S=>.ok (.val (.int (-i))) S
 |_,_=>.no
def lsW(S:Sto):Er->Option (List MV)
 |.new ds=>some ds
 |.val (.loc l)=>match S[l]? with
  |some (.lst ds)=>some ds
  |_=>none
 |_=>none
def zTL{α:Ah}{S:Sto}{H:Hp}(wd:Wd X.g α S H){r:Er}{ds:Bh}{x:V}(e:lsW S r=some ds)(d:DenX X.K α H r x): ∃a vs,x=.ref a/\H a=some (.lst vs)/\DenL X.K α H ds vs:=by
 unfold lsW at e;split at e
 ·cases e;obtain⟨b,vs,rfl,h,_,l⟩:=d;exact⟨b,vs,rfl,h,l⟩
 ·rename_i n;obtain⟨a,rfl,h⟩:=zEH d;split at e
  ·rename_i es hS;cases e;obtain⟨vs,h1,l⟩:=wd.obj n a _ h hS;exact⟨a,vs,rfl,h1,l⟩
  ·cases e
 ·cases e
def yAX(p q:Er)(S:Sto):R Er:=match lsW S p,lsW S q with
 |some x,some y=>if x.length+y.length<=sizeLine then .ok (.new (x++y)) S else .no
 |_,_=>.no
def xY:Er->Er->Sto->R Er
 |.val (.int i),.val (.int j),S=>.ok (.val (.int (i+j))) S
 |.val (.str x),.val (.str y),S=>if x.length+y.length<=sizeLine then .ok (.val (.str (x++y))) S else .no
 |.val (.tup x),.val (.tup y),S=>if x.length+y.length<=sizeLine then .ok (.val (.tup (x++y))) S else .no
 |p,q,S=>yAX p q S
def yGW:OpR X (binaryOp .Add) (λx y H Q=> ∃a b ys,x=.ref a/\y=.ref b/\SqT X.K H a []/\SqT X.K H b ys/\Q (.ref b) H):=by
 intro pins s σ H x y v u Q I rx ry h;obtain⟨a,b,ys,rfl,rfl,ha,hb,q⟩:=h;cases rx;cases ry;obtain⟨its,r1,p1,_⟩:=I.tuple ha;obtain⟨its2,r2,p2,_⟩:=I.tuple hb;have e0:its=[]:=r1.nil_iff.mpr rfl;subst e0;obtain⟨⟨cls,dd,data,sl⟩,ho,hc,n,hd⟩:=id p1;obtain⟨⟨cls2,dd2,data2,sl2⟩,ho2,hc2,n2,hd2⟩:=id p2;simp only at hc hd hc2 hd2;subst hc hd hc2 hd2
 exact concat_meets ⟨_,ho,rfl⟩ ⟨_,ho2,rfl⟩ noFill_tuple_add seq_tuple_add PySem.F.slot_tuple_add PySem.F.entry_tuple_add (PySem.F.args_tuple_add_2 _ _)
  (tuple_addW0 a b _ _ n n2 dd dd2 sl sl2 rfl) ⟨ho,ho2,⟨.ref b,H,I,rfl,q⟩⟩
def yQ(ha:PEm X W a f)(hb:PEm X W b g):PEm X W (.BinOp a .Add b pos) (λρ S=>(f ρ S).bind λp S1=>(g ρ S1).bind λq S2=>xY p q S2):=by
 refine zRX (yQC.or (zYJ.or (yQO.or (yLL.or yGW)))) ?_ ha hb;intro p q x y α S H Q wd dp dq post;unfold xY at post;split at post
 ·exact .inl ⟨_,_,xO dp,xO dq,Post.val post wd (xW _)⟩
 ·split at post
  ·rename_i hz;refine .inr (.inl ⟨_,_,bF dp,bF dq,by rw [jI,jI];exact hz,?_⟩);rw [yLS];exact Post.val post wd (zBH _)
  ·exact post.elim
 ·split at post
  ·rename_i xx yy hz;obtain⟨a1,vs,rfl,s1,l1⟩:=zAI dp;obtain⟨a2,us,rfl,s2,l2⟩:=zAI dq;by_cases h0:vs=[]
   ·subst h0;have e0:=l1.length;refine .inr (.inr (.inr (.inr ⟨a1,a2,us,rfl,rfl,s1,s2,?_⟩)));have:xx=[]:=by cases xx with |nil=>rfl|cons _ _=>simp at e0
    subst this;exact Post.val post wd (zDQ s2 l2)
   ·refine .inr (.inr (.inr (.inl ⟨a1,a2,vs,us,rfl,rfl,s1,s2,h0,by rw [l1.length,l2.length];exact hz,λh1=>?_,λh1 p hp=>Post.newt post wd hp (l1.append l2)⟩)));subst h1;have e0:=l2.length;have:yy=[]:=by cases yy with |nil=>rfl|cons _ _=>simp at e0
    subst this;rw [aN]at post;exact Post.val post wd (zDQ s1 l1)
  ·exact post.elim
 ·unfold yAX at post;split at post
  ·rename_i ds1 ds2 e1 e2;split at post
   ·rename_i hz;obtain⟨a1,vs,rfl,h1,l1⟩:=zTL wd e1 dp;obtain⟨a2,us,rfl,h2,l2⟩:=zTL wd e2 dq;exact .inr (.inr (.inl ⟨a1,a2,vs,us,rfl,rfl,h1,h2,by rw [l1.length,l2.length];exact hz,λp hp=>Post.newl post wd hp (l1.append l2)⟩))
   ·exact post.elim
  ·exact post.elim
def mulC(i j:Int):Prop:=(-(2 ^ 64)<i/\i<2 ^ 64)\/(-(2 ^ 64)<j/\j<2 ^ 64)\/(i.natAbs.log2<4000/\j.natAbs.log2<4000)
def yAY{i:Int}(h:i.natAbs.log2<4000):Builtin.Int.intBits i<=2 ^ 20:=by
 have e:(2:Nat) ^ 20=1048576:=by decide
 unfold Builtin.Int.intBits;split<;>omega
def mulC.ok{i j:Int}(h:mulC i j):IntMulOk i j:=by
 rcases h with h|h|⟨h1,h2⟩
 ·exact CMul.ok (.inl h)
 ·exact CMul.ok (.inr h)
 ·exact .of_bits (yAY h1) (yAY h2)
def yMB{X:Cx}:OpR X (binaryOp .Mult) (rI mulC λi j=>.int (i * j)):=opI λ_ _ _ _ _ _ _ hc q=>mul_int q hc.ok
instance(i j:Int):Decidable (mulC i j):=inferInstanceAs (Decidable (_\/_\/_))
def yOU(p:Er)(k:Int)(S:Sto):R Er:=match lsW S p with
 |some x=>if 0<=k/\k<100000/\x.length * k.toNat<=sizeLine then .ok (.new (List.replicate k.toNat x).flatten) S else .no
 |none=>.no
def zHO:Er->Er->Sto->R Er
 |.val (.int i),.val (.int j),S=>if mulC i j then .ok (.val (.int (i * j))) S else .no
 |.val (.str x),.val (.int k),S=>if 0<=k/\k<1000/\x.length<=1000 then .ok (.val (.str (zOH x k))) S else .no
 |p,.val (.int k),S=>yOU p k S
 |_,_,_=>.no
theorem DenL.rep{K:Be}{α:Ah}{H:Hp}{ds:Bh}{vs:List V}(l:DenL K α H ds vs): ∀k:Nat,DenL K α H (List.replicate k ds).flatten (List.replicate k vs).flatten
 |0=>yS
 |k+1=>by rw [replicate_succ,flatten_cons,replicate_succ,flatten_cons];exact l.append (DenL.rep l k)
def zBY(ha:PEm X W a f)(hb:PEm X W b g):PEm X W (.BinOp a .Mult b pos) (λρ S=>(f ρ S).bind λp S1=>(g ρ S1).bind λq S2=>zHO p q S2):=by
 refine zRX (yMB.or (zYT.or yQP)) ?_ ha hb;intro p q x y α S H Q wd dp dq post;unfold zHO at post;split at post
 ·split at post
  ·rename_i hc;exact .inl ⟨_,_,xO dp,xO dq,hc,Post.val post wd (xW _)⟩
  ·exact post.elim
 ·split at post
  ·rename_i hc;exact .inr (.inl ⟨_,_,bF dp,xO dq,hc.1,hc.2.1,hc.2.2,Post.val post wd (zBH _)⟩)
  ·exact post.elim
 ·unfold yOU at post;split at post
  ·rename_i ds e1;split at post
   ·rename_i hc;obtain⟨a1,vs,rfl,h1,l1⟩:=zTL wd e1 dp;exact .inr (.inr ⟨a1,_,vs,rfl,xO dq,h1,by omega,by omega,by rw [l1.length];exact hc.2.2,λp hp=>Post.newl post wd hp (l1.rep _)⟩)
   ·exact post.elim
  ·exact post.elim
 ·exact post.elim
def zQ:Nat:=40
def eqF(p q:Er)(S:Sto):R Er:=match zOM S zQ p q with
 |some k=>.ok (.val (.bl k)) S
 |none=>.no
def neF(p q:Er)(S:Sto):R Er:=match zOM S zQ p q with
 |some k=>.ok (.val (.bl !k)) S
 |none=>.no
def yGX(hu:X.A.units+64<cLine):OpR X (compareOp .Eq) (λx y H Q=> ∃α S p q k,Wd X.g α S H/\DenX X.K α H p x/\DenX X.K α H q y/\zOM S zQ p q=some k/\Q (.bl k) H):=by intro pins s σ H x y v u Q I rx ry h;obtain⟨α,S,p,q,k,wd,dp,dq,e,hq⟩:=h;exact yRA I wd zQ (by unfold zQ;omega) dp dq rx ry e X.prog X.w _ _ ⟨.bl k,H,I,rfl,hq⟩
def yGY(hu:X.A.units+64<cLine):OpR X (compareOp .NotEq) (λx y H Q=> ∃α S p q k,Wd X.g α S H/\DenX X.K α H p x/\DenX X.K α H q y/\zOM S zQ p q=some k/\Q (.bl (!k)) H):=by intro pins s σ H x y v u Q I rx ry h;obtain⟨α,S,p,q,k,wd,dp,dq,e,hq⟩:=h;exact yRB I wd zQ (by unfold zQ;omega) dp dq rx ry e X.prog X.w _ _ ⟨.bl (!k),H,I,rfl,hq⟩
def yAZ:Op2 X W (λx y H Q=> ∃α S p q k,Wd X.g α S H/\DenX X.K α H p x/\DenX X.K α H q y/\zOM S zQ p q=some k/\Q (.bl k) H) eqF:=by
 intro p q x y α S H Q wd dp dq post;unfold eqF at post;split at post
 ·rename_i k e;exact⟨α,S,p,q,k,wd,dp,dq,e,Post.val post wd (gW _)⟩
 ·exact post.elim
def yBA:Op2 X W (λx y H Q=> ∃α S p q k,Wd X.g α S H/\DenX X.K α H p x/\DenX X.K α H q y/\zOM S zQ p q=some k/\Q (.bl (!k)) H) neF:=by
 intro p q x y α S H Q wd dp dq post;unfold neF at post;split at post
 ·rename_i k e;exact⟨α,S,p,q,k,wd,dp,dq,e,Post.val post wd (gW _)⟩
 ·exact post.elim
def yGZ(hu:X.A.units+64<cLine)(ha:PEm X W a f)(hb:PEm X W b g):PEm X W (.Compare a [.Eq] [b] pos) (λρ S=>(f ρ S).bind λp S1=>(g ρ S1).bind λq S2=>eqF p q S2):=zOJ (yGX hu) yAZ ha hb
def zDU(hu:X.A.units+64<cLine)(ha:PEm X W a f)(hb:PEm X W b g):PTm X W (.Compare a [.Eq] [b] pos) (λρ S=>((f ρ S).bind λp S1=>(g ρ S1).bind λq S2=>eqF p q S2).bind asB):=zHJ (yGX hu) yAZ ha hb
def pm_ne(hu:X.A.units+64<cLine)(ha:PEm X W a f)(hb:PEm X W b g):PEm X W (.Compare a [.NotEq] [b] pos) (λρ S=>(f ρ S).bind λp S1=>(g ρ S1).bind λq S2=>neF p q S2):=zOJ (yGY hu) yBA ha hb
def zVW(hu:X.A.units+64<cLine)(ha:PEm X W a f)(hb:PEm X W b g):PTm X W (.Compare a [.NotEq] [b] pos) (λρ S=>((f ρ S).bind λp S1=>(g ρ S1).bind λq S2=>neF p q S2).bind asB):=zHJ (yGY hu) yBA ha hb
def ltF:Er->Er->Sto->R Er
 |.val d,.val f,S=>match ltv S zQ d f with
  |some k=>.ok (.val (.bl k)) S
  |none=>.no
 |_,_,_=>.no
def yRC(hu:X.A.units+64<cLine):OpR X (compareOp .Lt) (λx y H Q=> ∃α S d f k,Wd X.g α S H/\Den X.K α H d x/\Den X.K α H f y/\ltv S zQ d f=some k/\Q (.bl k) H):=by intro pins s σ H x y v u Q I rx ry h;obtain⟨α,S,d,f,k,wd,dp,dq,e,hq⟩:=h;exact zZA I wd zQ X.A d f x y v u k (by unfold zQ;omega) dp dq rx ry e X.prog X.w _ _ ⟨.bl k,H,I,rfl,hq⟩
def yMC:Op2 X W (λx y H Q=> ∃α S d f k,Wd X.g α S H/\Den X.K α H d x/\Den X.K α H f y/\ltv S zQ d f=some k/\Q (.bl k) H) ltF:=by
 intro p q x y α S H Q wd dp dq post;unfold ltF at post;split at post
 ·split at post
  ·rename_i k e;exact⟨α,S,_,_,k,wd,dp,dq,e,Post.val post wd (gW _)⟩
  ·exact post.elim
 ·exact post.elim
def yOV(hu:X.A.units+64<cLine)(ha:PEm X W a f)(hb:PEm X W b g):PTm X W (.Compare a [.Lt] [b] pos) (λρ S=>((f ρ S).bind λp S1=>(g ρ S1).bind λq S2=>ltF p q S2).bind asB):=zHJ (yRC hu) yMC ha hb
def zTM:Er->Er->Sto->R Er
 |.val .non,.val .non,S=>.ok (.val (.bl true)) S
 |_,.val .non,S=>.ok (.val (.bl false)) S
 |_,_,_=>.no
theorem yHA{α:Ah}{H:Hp}{p:Er}{x:V}(d:DenX X.K α H p x)(n:p≠.val .non):decide (x=.non)=false:=by
 cases p with
 |new ds=>obtain⟨b,vs,rfl,_⟩:=d;rfl
 |val m=>
  cases m with
  |non=>exact absurd rfl n
  |bl b=>cases zKC d;rfl
  |int b=>cases xO d;rfl
  |str b=>cases bF d;rfl
  |typ b=>cases yGJ d;rfl
  |obj b b' b''=>obtain⟨_,_,_,_,_,rfl,_⟩:=yQW d;rfl
  |tup b=>obtain⟨_,_,rfl,_⟩:=zAI d;rfl
  |scr b=>obtain⟨_,_,rfl,_⟩:=zOI d;rfl
  |loc b=>obtain⟨_,rfl,_⟩:=zEH d;rfl
def yBB:Op2 X W (λx y H Q=>y=.non/\Q (.bl (decide (x=.non))) H) zTM:=by
 intro p q x y α S H Q wd dp dq post;unfold zTM at post;split at post
 ·cases zLL dp;exact⟨zLL dq,Post.val post wd (gW _)⟩
 ·rename_i p' S' hn;rw [yHA dp (λz=>by first |exact hn z|exact hn z rfl|exact hn _ z|exact hn rfl z)];exact⟨zLL dq,Post.val post wd (gW _)⟩
 ·exact post.elim
def pm_is(ha:PEm X W a f)(hb:PEm X W b g):PEm X W (.Compare a [.Is] [b] pos) (λρ S=>(f ρ S).bind λp S1=>(g ρ S1).bind λq S2=>zTM p q S2):=zOJ yFV yBB ha hb
def tm_is(ha:PEm X W a f)(hb:PEm X W b g):PTm X W (.Compare a [.Is] [b] pos) (λρ S=>((f ρ S).bind λp S1=>(g ρ S1).bind λq S2=>zTM p q S2).bind asB):=zHJ yFV yBB ha hb
def getL(ds:Bh):Er->Sto->R Er
 |.val (.int i),S=>match atI ds i with |some d=>.ok (.val d) S|none=>.no
 |_,_=>.no
def ixF:Er->Er->Sto->R Er
 |.val (.str x),.val (.int i),S=>if x.length<=sizeLine then match atI x i with |some c=>.ok (.val (.str [c])) S|none=>.no else .no
 |.val (.tup ds),q,S=>getL ds q S
 |p,q,S=>match kL S p with |some ds=>getL ds q S|none=>.no
def yMD{K:Be}{α:Ah}{H:Hp}{ds:Bh}{vs:List V}{i:Int}{d:MV}(l:DenL K α H ds vs)(e:atI ds i=some d): ∃v,atI vs i=some v/\Den K α H d v:=by
 unfold atI at e ⊢;rw [l.length]
 cases z:ixN ds.length i with
 |none=>rw [z]at e;cases e
 |some j=>
  rw [z]at e;obtain⟨v,h1,h2⟩:=l.at (show ds[j]? =some d from e);exact⟨v,h1,h2⟩
def zV(ha:PEm X W a f)(hb:PEm X W b g)(hs:zTA b:=by exact λ_ _=>rfl):PEm X W (.Subscript a b pos) (λρ S=>(f ρ S).bind λp S1=>(g ρ S1).bind λq S2=>ixF p q S2):=by
 refine pm_ix yQL ?_ ha hb hs;intro p q x y α S H Q wd dp dq post;have key: ∀{ds:Bh}{vs:List V}{i:Int}{d:MV},DenL X.K α H ds vs->atI ds i=some d->Post X.g W α H (.ok (Er.val d) S) Q-> ∃v,atI vs i=some v/\Q v H:=λl e post=>by obtain⟨v,h1,h2⟩:=yMD l e;exact⟨v,h1,Post.val post wd h2⟩
 unfold ixF at post;split at post
 ·split at post
  ·rename_i hz;split at post
   ·rename_i ch e;refine .inr (.inr ⟨_,_,ch,bF dp,xO dq,by rw [jI];exact hz,by rw [zIS];exact e,?_⟩);exact Post.val post wd (zBH [ch])
   ·exact post.elim
  ·exact post.elim
 ·unfold getL at post;split at post
  ·split at post
   ·rename_i d e;obtain⟨a1,vs,rfl,s1,l1⟩:=zAI dp;obtain⟨v,h1,h2⟩:=key l1 e post;exact .inr (.inl ⟨a1,vs,_,v,rfl,xO dq,s1,h1,h2⟩)
   ·exact post.elim
  ·exact post.elim
 ·split at post
  ·rename_i ds el;unfold getL at post;split at post
   ·split at post
    ·rename_i d e;obtain⟨a1,vs,rfl,s1,l1⟩:=zDT rfl wd el dp;obtain⟨v,h1,h2⟩:=key l1 e post;exact .inl ⟨a1,vs,_,v,rfl,xO dq,s1,h1,h2⟩
    ·exact post.elim
   ·exact post.elim
  ·exact post.elim
end
def zQR{prog:Program}{w:World}{A:Around}{E:VP}{s:Shared}{t sl:Addr}{its:Ag}{vl vu:Value}{lo hi:Bc}{Q:VP}(ht:IsTup s.heap t its)(hs:s.heap.IsSliceOf sl vl vu .none)(pl:IsPart vl lo)(pu:IsPart vu hi)
  (h0:HT.sIx its.size 0 lo=0) (h1:HT.sIx its.size its.size hi=its.size) (h:Q (.ref t) s):wpAny (model prog w) A (getItem (.ref t) (.ref sl)) Q E s:=by
 have hTs:s.TypeIs (.ref sl) "slice":=by obtain⟨os,hos,hcs,_⟩:=id hs;exact⟨os,hos,hcs⟩
 have hTt:=ht.typeIs;unfold getItem
 try with_reducible refine wpAny_holding ?_
 first |refine wB0 (wP0 ?_)|skip
 refine wB0 (wpAny_sequenceKey hTt (by decide) ?_);refine wB0 (wpAny_callSpecial?_slot (name:=Str.ofString "__getitem__") hTt PyProof.Rows.slot_tuple_getitem (wpAny_call_entry PyProof.Rows.slot_tuple_getitem hTt entry_tuple_getitem ?_ (args_tuple_getitem _ _)));show wpAny _ _ (Builtin.Tuple.tupleItemsOf (.ref t) >>= _) _ _ s;refine wB0 (tupleItemsOf_ ht (wB0 (wpAny_typeOf hTs ?_)));rw [iP (by decide)];refine wB0 (HT.sliceApplied_gen hs pl pu ?_);show wpAny _ _ (if(((HT.sIx its.size 0 lo:Nat):Int)==0&&(1:Int)==1&&(HT.sIx its.size its.size hi - HT.sIx its.size 0 lo)==its.size)=true then _ else _) _ _ s;rw [iP (by rw [h0,h1];simp)];unfold Builtin.Tuple.tupleIsExact;refine wB0 (wB0 (wpAny_typeOf hTt (wP0 ?_)));rw [iP (by decide)];refine wB0 (wpAny_rule ?_)
 first
  |exact wP0 ⟨_,rfl,wP0 h⟩
  |exact wB0 (wP0 (wP0 ⟨_,rfl,wP0 h⟩))
  |exact wB0 (wP0 ⟨_,rfl,wP0 h⟩)
section
variable{X:Cx}{W:XW}{a b c e:Expr}{es:Bd}{f g h:AX}{af:Rho->Sto->R (List Er)}{pos:Pos}
def yME:SlR X (λx lo hi H Q=> ∃a xs,x=.ref a/\SqT X.K H a xs/\HT.sIx xs.length 0 lo=0/\HT.sIx xs.length xs.length hi=xs.length/\Q (.ref a) H):=by
 intro pins s σ H x v vl vu lo hi sl Q I rx hs pl pu h;obtain⟨a,xs,rfl,hx,h0,h1,q⟩:=h;cases rx;obtain⟨its,r,ht,hz⟩:=I.tuple hx;have hlen:its.toArray.size=xs.length:=by rw [sA];exact r.length.symm
 exact⟨"tuple",_,PyProof.Rows.slot_tuple_getitem.lookup,ht.typeIs,zQR ht hs pl pu (by rw [hlen];exact h0) (by rw [hlen];exact h1) ⟨.ref a,H,I,rfl,q⟩⟩
def zDN:Er->Option Int->Option Int->Sto->R Er
 |.val (.str x),lo,hi,S=>if x.length<=sizeLine then .ok (.val (.str (bD x lo hi))) S else .no
 |.val (.tup ds),lo,hi,S=>.ok (.val (.tup (bD ds lo hi))) S
 |p,lo,hi,S=>match kL S p with |some ds=>.ok (.new (bD ds lo hi)) S|none=>.no
def yEC{α:Type}{ds:List α}{lo hi:Bc}(h0:HT.sIx ds.length 0 lo=0)(h1:HT.sIx ds.length ds.length hi=ds.length):bD ds lo hi=ds:=by unfold bD;rw [h0,h1];simp
def gY{lo hi:Option Expr}{lf hf:Rho->Sto->R (Option Int)}{p2:Pos}(ha:PEm X W a f)(hl:POm X W lo lf)(hh:POm X W hi hf):PEm X W (.Subscript a (.Slice lo hi none p2) pos) (λρ S=>(f ρ S).bind λp S1=>(lf ρ S1).bind λl S2=>(hf ρ S2).bind λu S3=>zDN p l u S3):=by
 refine yGO (yQS.or (yLN.or (yQK.or yME))) ?_ ha hl hh;intro p lo hi x α S H Q wd dp post;unfold zDN at post;split at post
 ·split at post
  ·rename_i hz;exact .inl ⟨_,bF dp,hz,Post.val post wd (zBH _)⟩
  ·exact post.elim
 ·rename_i _ _ _ ds;obtain⟨a1,vs,rfl,s1,l1⟩:=zAI dp;by_cases hw:HT.sIx vs.length 0 lo=0/\HT.sIx vs.length vs.length hi=vs.length
  ·have e:bD ds lo hi=ds:=yEC (by rw [<-l1.length];exact hw.1) (by rw [<-l1.length];exact hw.2);rw [e]at post;exact .inr (.inr (.inr ⟨a1,vs,rfl,s1,hw.1,hw.2,Post.val post wd (zDQ s1 l1)⟩))
  ·exact .inr (.inr (.inl ⟨a1,vs,rfl,s1,hw,λp hp=>Post.newt post wd hp (l1.cut lo hi)⟩))
 ·split at post
  ·rename_i ds el;obtain⟨a1,vs,rfl,s1,l1⟩:=zDT rfl wd el dp;exact .inr (.inl ⟨a1,vs,rfl,s1,λp hp=>Post.newl post wd hp (l1.cut lo hi)⟩)
  ·exact post.elim
theorem DenL.pick{K:Be}{α:Ah}{H:Hp}{ds:Bh}{vs:List V}(l:DenL K α H ds vs): ∀idx:List Nat,DenL K α H (idx.filterMap (ds[·]?)) (idx.filterMap (vs[·]?))
 |[]=>yS
 |i::idx=>by
  cases z:ds[i]? with
  |none=>
   have z2:vs[i]? =none:=by rw [List.getElem?_eq_none_iff,l.length];exact List.getElem?_eq_none_iff.mp z
   rw [List.filterMap_cons_none z,List.filterMap_cons_none z2];exact DenL.pick l idx
  |some d=>
   obtain⟨v,h1,h2⟩:=l.at z;rw [filterMap_cons_some z,filterMap_cons_some h1];exact yD h2 (DenL.pick l idx)
theorem Vals.pick{xs:List V}{us:Ae}(r:Vals xs us): ∀idx:List Nat,Vals (idx.filterMap (xs[·]?)) (idx.filterMap (us[·]?))
 |[]=>.nil
 |i::idx=>by
  cases z:xs[i]? with
  |none=>rw [List.filterMap_cons_none z,List.filterMap_cons_none (r.none_of z)];exact Vals.pick r idx
  |some d=>
   obtain⟨v,h1,h2⟩:=r.get z;rw [filterMap_cons_some z,filterMap_cons_some h1];exact .cons h2 (Vals.pick r idx)
end
section
variable{X:Cx}{W:XW}{a b c e:Expr}{es:Bd}{f g h:AX}{af:Rho->Sto->R (List Er)}{pos:Pos}
def zVX(S:Sto)(n:Nat)(d:MV):List MV->Option (List Bool)
 |[]=>some []
 |y::ys=>(eqv S n y d).bind λk=>(zVX S n d ys).map (k::·)
section
variable{α:Ah}{S:Sto}{H:Hp}{pins:Ba}{σ:St}{s:Shared}
def zVY(X:Cx)(α:Ah)(S:Sto)(H:Hp)(n:Nat)(d:MV)(u:Value):Bool:=open Classical in decide (∃y x,Den X.K α H y x/\RelV x u/\eqv S n y d=some true)
open Classical in
def yMF(I:Inv X pins σ H s)(wd:Wd X.g α S H){n:Nat}{d y:MV}{x:V}{u:Value}{k:Bool}(dy:Den X.K α H y x)(r:RelV x u)(e:eqv S n y d=some k):zVY X α S H n d u=k:=by
 unfold zVY
 cases k with
 |true=>exact dT0 ⟨y,x,dy,r,e⟩
 |false=>
  refine dF0 λ⟨y',x',dy',r',e'⟩=>?_;have ex:=r.inj r';subst ex;rw [dy.inj I wd dy']at e;rw [e]at e';cases e'
theorem zKI(I:Inv X pins σ H s)(wd:Wd X.g α S H){n:Nat}{A:Around}{d:MV}{x:V}{v:Value}(hu:A.units+n<cLine)(dd:Den X.K α H d x)(rx:RelV x v): ∀{ys:Bh}{vs:List V}{us:Ae}{bs:Bb},DenL X.K α H ys vs->Vals vs us->zVX S n d ys=some bs->
  us.map (zVY X α S H n d)=bs/\ ∀u∈us,SeqAt.EqAt A s u v (zVY X α S H n d u)
 |[],_,_,bs,l,r,e=>by cases l.isnil;cases r;cases e;exact⟨rfl,λu hu=>by cases hu⟩
 |y::ys,_,_,bs,l,r,e=>by
  obtain⟨v',r',rfl,dy,l'⟩:=l.uncons
  cases r with
  |cons r1 r2=>
   unfold zVX at e
   cases z:eqv S n y d with
   |none=>rw [z]at e;cases e
   |some k=>
    rw [z]at e
    cases z2:zVX S n d ys with
    |none=>simp [z2]at e
    |some cs=>
     simp [z2]at e;subst e;obtain⟨h1,h2⟩:=zKI I wd hu dd rx l' r2 z2;have h3:=yMF I wd dy r1 z;refine⟨by rw [map_cons,h1,h3],λu hu'=>?_⟩;rcases mC.mp hu' with rfl|hu'
     ·rw [h3];exact zLN I wd n A y d _ _ _ _ k hu dy dd r1 rx z
     ·exact h2 u hu'
end
theorem any_map{us:Ae}{f:Value->Bool}{bs:Bb}(h:us.map f=bs):us.toArray.any f=bs.any id:=by subst h;simp [List.any_map]
def itemsOf(S:Sto):Er->Option (List MV)
 |.val (.tup ds)=>some ds
 |r=>kL S r
def zOP{α:Ah}{S:Sto}{H:Hp}(wd:Wd X.g α S H){r:Er}{ds:Bh}{x:V}(e:itemsOf S r=some ds)(d:DenX X.K α H r x): ∃a vs,x=.ref a/\(SqL X.K H a vs\/SqT X.K H a vs)/\DenL X.K α H ds vs:=by
 unfold itemsOf at e;split at e
 ·cases e;obtain⟨a,vs,rfl,s,l⟩:=zAI d;exact⟨a,vs,rfl,.inr s,l⟩
 ·obtain⟨a,vs,rfl,s,l⟩:=zDT rfl wd e d;exact⟨a,vs,rfl,.inl s,l⟩
def zLP(neg:Bool)(p q:Er)(S:Sto):R Er:=match p with
 |.val d=>match itemsOf S q with
  |some ys=>match zVX S zQ d ys with
   |some bs=>.ok (.val (.bl (if neg=true then !bs.any id else bs.any id))) S
   |none=>.no
  |none=>.no
 |.new _=>.no
def inF(neg:Bool):Er->Er->Sto->R Er
 |.val (.str [c]),.val (.str y),S=>.ok (.val (.bl (if neg=true then !decide (c∈y)else decide (c∈y)))) S
 |p,q,S=>zLP neg p q S
abbrev yHB(X:Cx)(neg:Bool):R2:=λx y H Q=> ∃α S d q ys bs,Wd X.g α S H/\Den X.K α H d x/\DenX X.K α H q y/\itemsOf S q=some ys/\zVX S zQ d ys=some bs/\Q (.bl (if neg=true then !bs.any id else bs.any id)) H
def yRD(hu:X.A.units+64<cLine):OpR X (compareOp .In) (yHB X false):=by
 intro pins s σ H x y v u Q I rx ry h;obtain⟨α,S,d,q,ys,bs,wd,dd,dq,ei,ea,hq⟩:=h;obtain⟨a,vs,rfl,sq,l⟩:=zOP wd ei dq;cases ry;rcases sq with sq|sq
 ·obtain⟨its,r,pl,_⟩:=I.list sq;obtain⟨h1,h2⟩:=zKI I wd (A:=X.A.in1) (by show X.A.units+1+zQ<cLine;unfold zQ;omega) dd rx l r ea;refine SeqAt.in_listAt (zVY X α S H zQ d) pl.isList (λw hw=>h2 w (by simpa using hw)) ⟨.bl _,H,I,rfl,?_⟩;rw [any_map h1];exact hq
 ·obtain⟨its,r,pl,_⟩:=I.tuple sq;obtain⟨h1,h2⟩:=zKI I wd (A:=X.A.in1) (by show X.A.units+1+zQ<cLine;unfold zQ;omega) dd rx l r ea;refine SeqAt.in_tupleAt (zVY X α S H zQ d) pl (λw hw=>h2 w (by simpa using hw)) ⟨.bl _,H,I,rfl,?_⟩;rw [any_map h1];exact hq
def yED(hu:X.A.units+64<cLine):OpR X (compareOp .NotIn) (yHB X true):=by
 intro pins s σ H x y v u Q I rx ry h;obtain⟨α,S,d,q,ys,bs,wd,dd,dq,ei,ea,hq⟩:=h;obtain⟨a,vs,rfl,sq,l⟩:=zOP wd ei dq;cases ry;rcases sq with sq|sq
 ·obtain⟨its,r,pl,_⟩:=I.list sq;obtain⟨h1,h2⟩:=zKI I wd (A:=X.A.in1) (by show X.A.units+1+zQ<cLine;unfold zQ;omega) dd rx l r ea;refine SeqAt.notIn_listAt (zVY X α S H zQ d) pl.isList (λw hw=>h2 w (by simpa using hw)) ⟨.bl _,H,I,rfl,?_⟩;rw [any_map h1];exact hq
 ·obtain⟨its,r,pl,_⟩:=I.tuple sq;obtain⟨h1,h2⟩:=zKI I wd (A:=X.A.in1) (by show X.A.units+1+zQ<cLine;unfold zQ;omega) dd rx l r ea;refine SeqAt.notIn_tupleAt (zVY X α S H zQ d) pl (λw hw=>h2 w (by simpa using hw)) ⟨.bl _,H,I,rfl,?_⟩;rw [any_map h1];exact hq
def zTN{neg:Bool}:Op2 X W (λx y H Q=>(∃i j,x=.str i/\y=.str j/\Q (.bl (if neg=true then !(!(Builtin.Str.occurrences j i 0 j.length 1).isEmpty)else !(Builtin.Str.occurrences j i 0 j.length 1).isEmpty)) H)\/yHB X neg x y H Q) (inF neg):=by
 intro p q x y α S H Q wd dp dq post;unfold inF at post;split at post
 ·refine .inl ⟨_,_,bF dp,bF dq,?_⟩;rw [<-yLT,PySem.StrLaws.found_one,zIS];exact Post.val post wd (gW _)
 ·unfold zLP at post;split at post
  ·rename_i d _;split at post
   ·rename_i ys ei;split at post
    ·rename_i bs ea;exact .inr ⟨α,S,_,q,ys,bs,wd,dp,dq,ei,ea,Post.val post wd (gW _)⟩
    ·exact post.elim
   ·exact post.elim
  ·exact post.elim
def OpR.imp{f:Value->Value->Sem Value}{r r':R2}(h:OpR X f r)(i: ∀x y H Q,r' x y H Q->r x y H Q):OpR X f r':=λpins s σ H x y v u Q I rx ry q=>h pins s σ H x y v u Q I rx ry (i x y H Q q)
def yHC(hu:X.A.units+64<cLine):OpR X (compareOp .In) (λx y H Q=>(∃i j,x=.str i/\y=.str j/\Q (.bl (if(false:Bool)=true then !(!(Builtin.Str.occurrences j i 0 j.length 1).isEmpty)else !(Builtin.Str.occurrences j i 0 j.length 1).isEmpty)) H)\/yHB X false x y H Q):=
 OpR.imp (yDO.or (yRD hu)) λx y H Q q=>q.imp (λq=>q) λq=>q
def yEE(hu:X.A.units+64<cLine):OpR X (compareOp .NotIn) (λx y H Q=>(∃i j,x=.str i/\y=.str j/\Q (.bl (if(true:Bool)=true then !(!(Builtin.Str.occurrences j i 0 j.length 1).isEmpty)else !(Builtin.Str.occurrences j i 0 j.length 1).isEmpty)) H)\/yHB X true x y H Q):=
 OpR.imp (zSY.or (yED hu)) λx y H Q q=>q.imp (λq=>q) λq=>q
def pm_in(hu:X.A.units+64<cLine)(ha:PEm X W a f)(hb:PEm X W b g)(hm:behindInMarks .In b=false:=by with_unfolding_all rfl):PEm X W (.Compare a [.In] [b] pos) (λρ S=>(f ρ S).bind λp S1=>(g ρ S1).bind λq S2=>inF false p q S2):=zOJ (yHC hu) zTN ha hb hm
def yOW(hu:X.A.units+64<cLine)(ha:PEm X W a f)(hb:PEm X W b g)(hm:behindInMarks .In b=false:=by with_unfolding_all rfl):PTm X W (.Compare a [.In] [b] pos) (λρ S=>((f ρ S).bind λp S1=>(g ρ S1).bind λq S2=>inF false p q S2).bind asB):=zHJ (yHC hu) zTN ha hb hm
def zAA(hu:X.A.units+64<cLine)(ha:PEm X W a f)(hb:PEm X W b g)(hm:behindInMarks .NotIn b=false:=by with_unfolding_all rfl):PTm X W (.Compare a [.NotIn] [b] pos) (λρ S=>((f ρ S).bind λp S1=>(g ρ S1).bind λq S2=>inF true p q S2).bind asB):=zHJ (yEE hu) zTN ha hb hm
def zAB{K:Be}{α:Ah}{H:Hp}{r:Er}{vs:List V}(d:ArgsX K α H [r] vs): ∃v,vs=[v]/\DenX K α H r v:=by
 cases d with
 |cons a l=>cases l;exact⟨_,rfl,a⟩
def yOX{K:Be}{α:Ah}{H:Hp}{r r':Er}{vs:List V}(d:ArgsX K α H [r,r'] vs): ∃v u,vs=[v,u]/\DenX K α H r v/\DenX K α H r' u:=by
 cases d with
 |cons a l=>obtain⟨u,rfl,l'⟩:=zAB l;exact⟨_,u,rfl,a,l'⟩
def zBI:List Er->Sto->R Er
 |[.val (.str x)],S=>if x.length<=sizeLine then .ok (.val (.int x.length)) S else .no
 |[r],S=>match itemsOf S r with |some ds=>.ok (.val (.int ds.length)) S|none=>.no
 |_,_=>.no
def jV:zBB X W (λxs H Q=>(∃z,xs=[.str z]/\z.length<=sizeLine/\Q (.int z.length) H)\/ ∃p ys,xs=[.ref p]/\(SqL X.K H p ys\/SqT X.K H p ys)/\Q (.int ys.length) H) zBI:=by
 intro rs vs α S H Q wd d post;unfold zBI at post;split at post
 ·split at post
  ·rename_i hz;obtain⟨v,rfl,dv⟩:=zAB d;cases bF dv;refine .inl ⟨_,rfl,by rw [jI];exact hz,?_⟩;rw [jI];exact Post.val post wd (xW _)
  ·exact post.elim
 ·split at post
  ·rename_i ds e;obtain⟨v,rfl,dv⟩:=zAB d;obtain⟨a,us,rfl,sq,l⟩:=zOP wd e dv;refine .inr ⟨a,us,rfl,sq,?_⟩;rw [l.length];exact Post.val post wd (xW _)
  ·exact post.elim
 ·exact post.elim
def yX:CallR X (.builtin "len") (λxs H Q=>(∃z,xs=[.str z]/\z.length<=sizeLine/\Q (.int z.length) H)\/ ∃p ys,xs=[.ref p]/\(SqL X.K H p ys\/SqT X.K H p ys)/\Q (.int ys.length) H):=zTD.or zTC
def zHB:List MV->Option (List Bool)
 |[]=>some []
 |.bl b::r=>(zHB r).map (b::·)
 |_::_=>none
theorem zLQ{K:Be}{α:Ah}{H:Hp}: ∀{ds:Bh}{bs:Bb}{vs:List V},zHB ds=some bs->DenL K α H ds vs->vs=bs.map V.bl
 |[],_,_,e,l=>by cases e;exact l.isnil
 |d::r,bs,_,e,l=>by
  cases d with
  |bl b=>
   unfold zHB at e
   cases z:zHB r with
   |none=>rw [z]at e;cases e
   |some cs=>
    rw [z]at e;cases e;obtain⟨v,us,rfl,dv,l'⟩:=l.uncons;rw [zEW dv,zLQ z l'];rfl
  |_=>cases e
def allF:List Er->Sto->R Er
 |[r],S=>match (kL S r).bind zHB with |some bs=>.ok (.val (.bl (bs.all id))) S|none=>.no
 |_,_=>.no
def anyF:List Er->Sto->R Er
 |[r],S=>match (kL S r).bind zHB with |some bs=>.ok (.val (.bl (bs.any id))) S|none=>.no
 |_,_=>.no
def yRE(hc:X.calm=true):zBB X W (λxs H Q=> ∃(a:Addr)(bs:Bb),xs=[.ref a]/\SqL X.K H a (bs.map V.bl)/\X.calm=true/\Q (.bl (bs.all id)) H) allF:=by
 intro rs vs α S H Q wd d post;unfold allF at post;split at post
 ·split at post
  ·rename_i bs e;obtain⟨v,rfl,dv⟩:=zAB d
   cases z:kL S _ with
   |none=>rw [z]at e;cases e
   |some ds=>
    rw [z]at e;obtain⟨a1,us,rfl,s,l⟩:=zDT rfl wd z dv;refine⟨a1,bs,rfl,?_,hc,Post.val post wd (gW _)⟩;rw [<-zLQ e l];exact s
  ·exact post.elim
 ·exact post.elim
def zOQ(S:Sto):Er->Option String
 |.val .non=>some "NoneType"
 |.val (.bl _)=>some "bool"
 |.val (.int _)=>some "int"
 |.val (.str _)=>some "str"
 |.val (.tup _)=>some "tuple"
 |.val (.typ _)=>none
 |.val (.obj _ _ _)=>none
 |r=>(kL S r).map λ_=>"list"
def zQS(t T:String):Bool:=t==T || (t=="bool"&&T=="int")
def known(T:String):Bool:=T=="int" || T=="bool" || T=="str" || T=="tuple" || T=="list"
def zBZ:List Er->Sto->R Er
 |[r,.val (.typ T)],S=>match zOQ S r with
  |some t=>if known T=true then .ok (.val (.bl (zQS t T))) S else .no
  |none=>.no
 |_,_=>.no
theorem zBU(K:Be){t T:String}(ht:t="NoneType"\/t="bool"\/t="int"\/t="str"\/t="tuple"\/t="list")(hT:known T=true):PySem.W.kitOne K (.type t) (.type T)=some (zQS t T):=by
 have hT':T="int"\/T="bool"\/T="str"\/T="tuple"\/T="list":=by
  unfold known at hT;simp only [or_eq_true,beq_iff_eq]at hT;rcases hT with(((h|h)|h)|h)|h
  ·exact .inl h
  ·exact .inr (.inl h)
  ·exact .inr (.inr (.inl h))
  ·exact .inr (.inr (.inr (.inl h)))
  ·exact .inr (.inr (.inr (.inr h)))
 rcases ht with rfl|rfl|rfl|rfl|rfl|rfl<;>rcases hT' with rfl|rfl|rfl|rfl|rfl<;>kernel_rfl
def bL:CallR X (.builtin "isinstance") (λxs H Q=> ∃α S r x t T,xs=[x,.ty T]/\Wd X.g α S H/\DenX X.K α H r x/\zOQ S r=some t/\known T=true/\Q (.bl (zQS t T)) H):=by
 intro pins s σ H xs us Q I rr h;obtain⟨α,S,r,x,t,T,rfl,wd,d,et,hk,q⟩:=h;obtain⟨u,w',rfl,rx,rT⟩:=vals2 rr;cases rT;have fin: ∀tk,EP X pins σ Q (.bool (zQS t T)) {s with toks:=tk}:=λtk=>⟨.bl _,H,I.tok _,rfl,q⟩
 unfold zOQ at et;split at et
 ·cases et;cases zLL d;cases rx;exact PySem.W.kia_one PySem.W.kitx_none I.kIn True.intro (zBU X.K (.inl rfl) hk) (λz=>nomatch z) fin
 ·cases et;cases zKC d;cases rx;exact PySem.W.kia_one PySem.W.kitx_bool I.kIn True.intro (zBU X.K (.inr (.inl rfl)) hk) (λz=>nomatch z) fin
 ·cases et;cases xO d;obtain⟨t,rfl⟩:=rx;exact PySem.W.kia_one PySem.W.kitx_int I.kIn True.intro (zBU X.K (.inr (.inr (.inl rfl))) hk) (λz=>nomatch z) fin
 ·cases et;cases bF d;obtain⟨t,rfl⟩:=rx;exact PySem.W.kia_one PySem.W.kitx_str I.kIn True.intro (zBU X.K (.inr (.inr (.inr (.inl rfl)))) hk) (λz=>nomatch z) fin
 ·cases et;obtain⟨a,vs,rfl,sq,l⟩:=zAI d;cases rx;obtain⟨its,r1,p1,_⟩:=I.tuple sq;obtain⟨o,h1,h2,_⟩:=p1;exact PySem.W.kia_one PySem.W.kitx_tuple I.kIn ⟨o,h1,h2⟩ (zBU X.K (.inr (.inr (.inr (.inr (.inl rfl))))) hk) (λz=>nomatch z) fin
 ·cases et
 ·cases et
 ·cases z:kL S r with
  |none=>rw [z]at et;cases et
  |some ds=>
   rw [z]at et;cases et;obtain⟨a,vs,rfl,sq,l⟩:=zDT rfl wd z d;cases rx;obtain⟨its,r1,p1,_⟩:=I.list sq;obtain⟨o,h1,h2,_⟩:=p1.isList;exact PySem.W.kia_one PySem.W.kitx_list I.kIn ⟨o,h1,h2⟩ (zBU X.K (.inr (.inr (.inr (.inr (.inr rfl))))) hk) (λz=>nomatch z) fin
def zFZ:zBB X W (λxs H Q=> ∃α S r x t T,xs=[x,.ty T]/\Wd X.g α S H/\DenX X.K α H r x/\zOQ S r=some t/\known T=true/\Q (.bl (zQS t T)) H) zBZ:=by
 intro rs vs α S H Q wd d post;unfold zBZ at post;split at post
 ·split at post
  ·rename_i t et;split at post
   ·rename_i hk;obtain⟨v,u,rfl,d1,d2⟩:=yOX d;cases yGJ d2;exact⟨α,S,_,v,t,_,rfl,wd,d1,et,hk,Post.val post wd (gW _)⟩
   ·exact post.elim
  ·exact post.elim
 ·exact post.elim
def zGA:List Er->Sto->R Er
 |[.val (.tup ds)],S=>.ok (.val (.tup ds)) S
 |[r],S=>match kL S r with |some ds=>.ok (.val (.tup ds)) S|none=>.no
 |_,_=>.no
def zKJ:zBB X W (λxs H Q=> ∃p ys,xs=[.ref p]/\((SqL X.K H p ys/\ ∀l,H l=none->Q (.ref l) (upd H l (.tup ys)))\/(SqT X.K H p ys/\Q (.ref p) H))) zGA:=by
 intro rs vs α S H Q wd d post;unfold zGA at post;split at post
 ·obtain⟨v,rfl,dv⟩:=zAB d;obtain⟨a,us,rfl,sq,l⟩:=zAI dv;exact⟨a,us,rfl,.inr ⟨sq,Post.val post wd (zDQ sq l)⟩⟩
 ·split at post
  ·rename_i ds e;obtain⟨v,rfl,dv⟩:=zAB d;obtain⟨a,us,rfl,sq,l⟩:=zDT rfl wd e dv;exact⟨a,us,rfl,.inl ⟨sq,λp hp=>Post.newt post wd hp l⟩⟩
  ·exact post.elim
 ·exact post.elim
def kM:bootBuiltins "len"=some (.builtin "len"):=by decide+kernel
def yRF:bootBuiltins "all"=some (.builtin "all"):=by decide+kernel
def yRG:bootBuiltins "any"=some (.builtin "any"):=by decide+kernel
def xB:bootBuiltins "isinstance"=some (.builtin "isinstance"):=by decide+kernel
def zZD:bootBuiltins "int"=some (.type "int"):=by decide+kernel
def yMG:bootBuiltins "bool"=some (.type "bool"):=by decide+kernel
def yHD:bootBuiltins "str"=some (.type "str"):=by decide+kernel
def zFA:bootBuiltins "tuple"=some (.type "tuple"):=by decide+kernel
def zNQ:bootBuiltins "list"=some (.type "list"):=by decide+kernel
end
def digN(n:Nat):List Nat:=(Nat.toDigits 10 n).map Char.toNat
def decL(i:Int):List Nat:=if i<0 then 45::digN i.natAbs else digN i.natAbs
section
variable{X:Cx}{W:XW}{a b c e o i:Expr}{es:Bd}{f g h:AX}{af:Rho->Sto->R (List Er)}{pos apos:Pos}
def strF:List Er->Sto->R Er
 |[.val (.int i)],S=>if i.natAbs.log2<1920 then .ok (.val (.str (decL i))) S else .no
 |[.val (.str x)],S=>.ok (.val (.str x)) S
 |_,_=>.no
def zVZ:CallR X (.type "int") (λxs H Q=>((∃i,xs=[.int i]/\Q (.int i) H)\/ ∃k,xs=[.bl k]/\Q (.int (if k then 1 else 0)) H)\/ ∃x n,xs=[.str x]/\PySem.intText? x=some n/\x.length<=640/\Q (.int n) H):=by refine yDP.or ?_;intro pins s σ H xs us Q I r h;obtain⟨x,n,rfl,hn,hl,q⟩:=h;obtain⟨u,rfl,t,rfl⟩:=vals1 r;exact PySem.W.KIN.call_text hn hl ⟨.int n,H,I.tok _,⟨_,rfl⟩,q⟩
def intF:List Er->Sto->R Er
 |[.val (.int i)],S=>.ok (.val (.int i)) S
 |[.val (.bl k)],S=>.ok (.val (.int (if k then 1 else 0))) S
 |[.val (.str x)],S=>match PySem.intText? (mkS x)with
  |some n=>if x.length<=640 then .ok (.val (.int n)) S else .no
  |none=>.no
 |_,_=>.no
def yRH:zBB X W (λxs H Q=>((∃i,xs=[.int i]/\Q (.int i) H)\/ ∃k,xs=[.bl k]/\Q (.int (if k then 1 else 0)) H)\/ ∃x n,xs=[.str x]/\PySem.intText? x=some n/\x.length<=640/\Q (.int n) H) intF:=by
 intro rs vs α S H Q wd d post;unfold intF at post;split at post
 ·obtain⟨v,rfl,dv⟩:=zAB d;cases xO dv;exact .inl (.inl ⟨_,rfl,Post.val post wd (xW _)⟩)
 ·obtain⟨v,rfl,dv⟩:=zAB d;cases zKC dv;exact .inl (.inr ⟨_,rfl,Post.val post wd (xW _)⟩)
 ·obtain⟨v,rfl,dv⟩:=zAB d;cases bF dv;split at post
  ·rename_i n hn;split at post
   ·rename_i hz;exact .inr ⟨_,n,rfl,hn,by rw [jI];exact hz,Post.val post wd (xW _)⟩
   ·exact post.elim
  ·exact post.elim
 ·exact post.elim
def jS(p:Er)(S:Sto):Bool:=(kL S p).isSome
def zTO:TyM X "list" jS:=by
 intro p x α S H wd d h;unfold jS at h
 cases z:kL S p with
 |none=>rw [z]at h;cases h
 |some ds=>
  obtain⟨a,vs,rfl,s,l⟩:=zDT rfl wd z d;exact .inl ⟨rfl,vs,s⟩
def strIdx(x y:Ab):Option Nat:=(Builtin.Str.occurrences (mkS x) (mkS y) 0 (mkS x).length 1).head?
def sidxF:Er->List Er->Sto->R Er
 |.val (.str x),[.val (.str y)],S=>match strIdx x y with |some i=>.ok (.val (.int (i:Nat))) S|none=>.no
 |_,_,_=>.no
def zKK(p:Er)(S:Sto)(G:List MV->Option (List MV)):R Er:=match p with
 |.val (.loc l)=>match S[l]? with
  |some (.lst ds)=>match G ds with
   |some es=>.ok (.val .non) (S.set l (.lst es))
   |none=>.no
  |_=>.no
 |_=>.no
def zLR{α0 α:Ah}{H0 H:Hp}{S:Sto}{p:Er}{x:V}{G:List MV->Option (List MV)}{Q:VK}(wd:Wd X.g α S H)(x0:Ext α0 H0 α H)(dp:DenX X.K α H p x)(post:Post X.g W α0 H0 (zKK p S G) Q):
  ∃a vs ds es,x=.ref a/\H a=some (.lst vs)/\DenL X.K α H ds vs/\G ds=some es/\ ∀us,DenL X.K α H es us->Q .non (upd H a (.lst us)):=by
 unfold zKK at post;split at post
 ·rename_i l;obtain⟨a,rfl,h⟩:=zEH dp;obtain⟨ob,h1,h2⟩:=wd.of h;rw [h1]at post
  cases ob with
  |lst ds=>
   obtain⟨vs,h3,l1⟩:=h2;have post:Post X.g W α0 H0 (match G ds with |some es=>R.ok (Er.val .non) (S.set l (.lst es))|none=>R.no) Q:=post;split at post
   ·rename_i es eg;refine⟨a,vs,ds,es,rfl,h3,l1,eg,λus lu=>?_⟩;have xw:=wd.writex h (o:=.lst us);exact(post.shift (x0.trans xw)).val (wd.write h ⟨us,yV,lu.ext xw⟩) zKB
   ·exact post.elim
  |dic _=>exact post.elim
  |ins _ _=>exact post.elim
 ·exact post.elim
def zLS:Er->List Er->Sto->R Er
 |p,[r],S=>(dA r S).bind λy S1=>zKK p S1 λds=>if ds.length<sizeLine then some (ds++[y])else none
 |_,_,_=>.no
def yEF:zYV X W yAO zLS:=by
 intro p rs x vs α S H0 H Q α0 wd x0 dp da post
 match rs,da,post with
 |[],_,post=>exact post.elim
 |_::_::_,_,post=>exact post.elim
 |[r],da,post=>
  cases da with
  |cons d n l=>
   cases l;obtain⟨d',S',α',e',x',y',w',dd⟩:=zEZ wd x0 d;have post:Post X.g W α0 H0 ((dA r S).bind λy S1=>zKK p S1 λds=>if ds.length<sizeLine then some (ds++[y])else none) Q:=post;rw [e']at post
   have dp':DenX X.K α' H p x:=by
    cases p with
    |val m=>exact Den.ex0 y' dp
    |new ds=>exact post.elim
   obtain⟨a,us,ds,es,rfl,h1,l1,eg,k⟩:=zLR w' x' dp' post;split at eg
   ·rename_i hz;cases eg;exact⟨a,us,_,rfl,rfl,h1,by rw [l1.length];exact hz,k _ (l1.append (yD dd yS))⟩
   ·cases eg
def jL(ho:PEm X W a f)(ha:PAm X W (e::es) af)
  (hbase:attributeBase a "append" X.env (eval a X.env)=eval a X.env:=by rfl)
  (hfew:((backTo pos (starEach (e::es) X.env)).all (λx=>!x.1)&&(backToKw pos (keywordEach [] X.env)).all (λx=>x.1.isSome)
   &&decide ((e::es).length+([]:List Keyword).length+(if([]:List Keyword).isEmpty then 0 else 1)<30))=true:=by rfl)
  (hline:(apos.endLine==pos.line)=true:=by rfl) (hs:starEach (e::es) X.env=(false,eval e X.env)::starEach es X.env:=by rfl) (hplain:(backTo pos (starEach es X.env)).any (·.1)=false:=by rfl):
  PEm X W (.Call (.Attribute a "append" apos) (e::es) [] pos) (λρ S=>(f ρ S).bind λp S1=>if jS p S1=true then(af ρ S1).bind λrs S2=>zLS p rs S2 else .no):=
 yAS PySem.F.plainAttrs_list PySem.F.slot_list_append PySem.F.type_list_append yDR yEF zTO ho ha hbase hfew hline hs hplain
def clrF:Er->List Er->Sto->R Er
 |p,[],S=>zKK p S λ_=>some []
 |_,_,_=>.no
def yEG:Er->List Er->Sto->R Er
 |p,[],S=>zKK p S λds=>some ds.reverse
 |_,_,_=>.no
def zZE:zYV X W zVN yEG:=by
 intro p rs x vs α S H0 H Q α0 wd x0 dp da post
 match rs,da,post with
 |_::_,_,post=>exact post.elim
 |[],.nil,post=>
  have post:Post X.g W α0 H0 (zKK p S λds=>some ds.reverse) Q:=post;obtain⟨a,us,ds,es,rfl,h1,l1,eg,k⟩:=zLR wd x0 dp post;cases eg;exact⟨a,us,rfl,rfl,h1,k _ l1.reverse⟩
def zOR(ho:PEm X W a f)(hbase:attributeBase a "reverse" X.env (eval a X.env)=eval a X.env:=by rfl)(hline:(apos.endLine==pos.line)=true:=by rfl):
  PEm X W (.Call (.Attribute a "reverse" apos) [] [] pos) (λρ S=>(f ρ S).bind λp S1=>if jS p S1=true then yEG p [] S1 else .no):=
 zVS PySem.F.plainAttrs_list PySem.F.slot_list_reverse PySem.F.type_list_reverse zYP zZE zTO ho hbase hline
def zWA(p q:Er)(d:MV)(ρ:Rho)(S:Sto):R Rho:=match p,q with
 |.val (.loc l),.val (.int k)=>match S[l]? with
  |some (.lst ds)=>match ixN ds.length k with
   |some j=>.ok ρ (S.set l (.lst (ds.set j d)))
   |none=>.no
  |_=>.no
 |_,_=>.no
def yRI(ho:PEm X W o f)(hi:PEm X W i g)
  (ha: ∀v,assign (.Subscript o i pos) X.env v=(do
   let ov <-holding [v] (eval o X.env);let iv <-holding [v,ov] (eval i X.env)
   standAt pos
   holding [v,ov,iv] (setItem ov iv v)
   release [v,ov,iv] []):=by intro _;rfl):PGm X W (.Subscript o i pos) (λd ρ S=>(f ρ S).bind λp S1=>(g ρ S1).bind λq S2=>zWA p q d ρ S2):=by
 obtain⟨to,ho,fo⟩:=ho;obtain⟨ti,hi,fi⟩:=hi;refine⟨_,yFS ho hi set_list ha,λα ρ S σ H d v Q wd sl de q=>fo α ρ S σ H _ wd sl (q.bind λu p S1 α1 H1 e1 x1 w1 d1 q1=>fi α1 ρ S1 σ H1 _ w1 (sl.ext x1) ((q1.shift x1).bind λu2 p2 S2 α2 H2 e2 x2 w2 d2 q2=>?_))⟩
 replace q2:=q2.shift x2
 have d1':=DenX.ext x2 d1.1;unfold zWA at q2;split at q2
 ·rename_i l k;obtain⟨a,rfl,h⟩:=zEH d1';cases xO d2.1;obtain⟨ob,h1,h2⟩:=w2.of h;rw [h1]at q2
  cases ob with
  |lst ds=>
   obtain⟨vs,h3,l1⟩:=h2;have q2:Post X.g W α2 H2 (match ixN ds.length k with |some j=>R.ok ρ (S2.set l (.lst (ds.set j d)))|none=>R.no) Q:=q2;split at q2
   ·rename_i j ej;have xw:=w2.writex h (o:=.lst (vs.set j v));have sl2:=((sl.ext x1).ext x2).ext xw;exact⟨a,vs,k,j,rfl,rfl,h3,by rw [l1.length];exact ej,q2 σ α2 _ xw (w2.write h ⟨_,yV,(l1.set ((de.ext x1).ext x2) j).ext xw⟩) sl2⟩
   ·exact q2.elim
  |dic _=>exact q2.elim
  |ins _ _=>exact q2.elim
 ·exact q2.elim
end
def _root_.L2.Inv.turnedL{X:Cx}{pins:Ba}{σ:St}{H:Hp}{s:Shared}{h':Heap}{t':Nat}{fp:Ah}(I:Inv X pins σ H s)(k: ∀b o,b∉fp->s.heap.get? b=some o->h'.get? b=some o)
  (hf: ∀b∈fp,zJL X pins H b):Inv X pins σ H {s with heap:=h',toks:=t'}:=by
 have nit: ∀b u,H b=some u->b∉fp:=λb u e z=>by rw [(hf b z).1]at e;cases e
 refine I.step (g':=s.gens) (d':=s.drawn) (ch:=fp) (λb hb=>⟨(hf b hb).2.2.2.1,(hf b hb).2.1,(hf b hb).2.2.2.2.1,(hf b hb).2.2.2.2.2⟩) (λb o _ _ hc e _=>k b o hc e) (λb o _ _ hc e _=>⟨o.slots,k b o hc e⟩) (λ_ _ _ _ n=>n)
  (λb o hc e=>⟨o,k b o hc e⟩) (λ_ _ e=>e) (λ_ _ _ e=>e) (λb ps e=>⟨#[],by rw [e];simp⟩) (λm hm=>?_) (λb u e=>?_) I.bare
 ·obtain⟨o,es,ep,ho,r⟩:=hm;exact⟨o,es,ep,k _ o (λz=>(hf _ z).2.1 rfl) ho,r⟩
 ·refine(I.hok b u e).stay (λc v hc q=>k c v ?_ q) (λ_ q=>q) λ_ _ q=>q;rcases hc with z|z
  ·rw [z];exact nit b u e
  ·exact nit c _ z
def IsSub(k:Bool)(h:Heap)(it l:Addr)(i:Nat):Prop:=if k=true then h.IsListIter it l i else h.IsTupleIter it l i
def IsSeq(k:Bool)(h:Heap)(l:Addr)(its:Ag):Prop:=if k=true then h.IsList l its else h.IsTuple l its
def zGB(k:Bool)(l:Addr):Obj:={cls:=.type (if k=true then "list_iterator" else "tuple_iterator"),data:=.fields #[.ref l,.int 0 0]}
def IsSub.mk'{k:Bool}{h:Heap}{it l:Addr}(e:h.get? it=some (zGB k l)):IsSub k h it l 0:=by
 cases k with
 |true=>exact⟨_,e,rfl,rfl⟩
 |false=>exact⟨_,e,rfl,rfl⟩
def IsSub.there{k:Bool}{h:Heap}{it l:Addr}{i:Nat}(x:IsSub k h it l i): ∃o,h.get? it=some o/\ ∀v,o.data≠.cell v:=by
 cases k with
 |true=>obtain⟨o,e,_,d⟩:=(x:h.IsListIter it l i);exact⟨o,e,λv z=>by rw [d]at z;cases z⟩
 |false=>obtain⟨o,e,_,d⟩:=(x:h.IsTupleIter it l i);exact⟨o,e,λv z=>by rw [d]at z;cases z⟩
def IsSub.move{k:Bool}{h h':Heap}{it l:Addr}{i:Nat}(x:IsSub k h it l i)(f: ∀o,h.get? it=some o->h'.get? it=some o):IsSub k h' it l i:=by
 cases k with
 |true=>obtain⟨o,e,r⟩:=(x:h.IsListIter it l i);exact⟨o,f o e,r⟩
 |false=>obtain⟨o,e,r⟩:=(x:h.IsTupleIter it l i);exact⟨o,f o e,r⟩
def IsSeq.move{k:Bool}{h h':Heap}{l:Addr}{its:Ag}(x:IsSeq k h l its)(f: ∀o,h.get? l=some o->h'.get? l=some o):IsSeq k h' l its:=by
 cases k with
 |true=>obtain⟨o,e,r⟩:=(x:h.IsList l its);exact⟨o,f o e,r⟩
 |false=>obtain⟨o,e,r⟩:=(x:h.IsTuple l its);exact⟨o,f o e,r⟩
section
variable{prog:Program}{w:World}{A:Around}{E:VP}{s:Shared}
def zHP{k:Bool}{l:Addr}{its:Ag}{Q:VP}(hl:IsSeq k s.heap l its)(h:Q (.ref s.heap.objs.size) {s with heap:=s.heap.push (zGB k l)}):wpAny (model prog w) A (pyIter (.ref l)) Q E s:=by
 cases k with
 |true=>exact wpAny_pyIter_list hl h
 |false=>exact wpAny_pyIter_tuple hl h
def zKL{k:Bool}{it l:Addr}{i:Nat}{its:Ag}{x:Value}{Q:VP}(hit:IsSub k s.heap it l i)(hl:IsSeq k s.heap l its)(hx:its[i]? =some x)
  (hQ: ∀h',IsSub k h' it l (i+1)->Heap.SameBut it s.heap h'->Q x {s with heap:=h'}):wpAny (model prog w) A (Builtin.SmallTypes.nextOf (.ref it)) Q E s:=by
 cases k with
 |true=>exact wpAny_nextOf_list_item hit hl hx hQ
 |false=>
  have hit':s.heap.IsTupleIter it l i:=hit;obtain⟨o,ho,hc,hd⟩:=id hit';obtain⟨ol,hol,_,nl,hdl⟩:=(hl:s.heap.IsTuple l its)
  unfold Builtin.SmallTypes.nextOf;refine wB0 (wpAny_callSpecial?_slot (name:=Str.ofString "__next__") hit'.typeIs F.slot_tuple_iterator_next (wpAny_call_entry F.slot_tuple_iterator_next hit'.typeIs F.entry_tuple_iterator_next ?_ (F.args_tuple_iterator_next_1 _)));show wpAny _ _ (field (.ref it) 0 >>= _) _ _ s;refine wB0 (wpAny_field ho hd (x:=.ref l) rfl ?_);show wpAny _ _ (if(Value.ref l==Value.none)=true then _ else _) _ _ s;rw [iN (show¬((Value.ref l==Value.none)=true)from xF0)];show wpAny _ _ (field (.ref it) 1 >>= _) _ _ s;refine wB0 (wpAny_field ho hd (x:=.int i 0) rfl ?_);show wpAny _ _ (seqItems? (.ref l) >>= _) _ _ s;refine wB0 (wpAny_seqItems hol hdl ?_);simp only [toNat_natCast,hx];refine wB0 (wpAny_setField ho hd (by simp) (wP0 ⟨x,rfl,wP0 (hQ _ ?_ (Heap.SameBut.update ..))⟩));exact⟨_,Heap.get?_update_self _ ho (Obj.isFreed_of_fields (Obj.data_mapFields hd _)),(Obj.cls_mapFields ..).trans hc,by rw [Obj.data_mapFields hd];simp [rawInt]⟩
def zTP{k:Bool}{it l:Addr}{i:Nat}{its:Ag}{Q:VP}(hh:A.handled=none)(hit:IsSub k s.heap it l i)(hl:IsSeq k s.heap l its)(hx:its[i]? =none)
  (hE: ∀h' e,Heap.ExtBut it s.heap h'->(∃o,h'.get? e=some o/\o.cls=.type "StopIteration")->E (.ref e) {s with heap:=h'}):wpAny (model prog w) A (Builtin.SmallTypes.nextOf (.ref it)) Q E s:=by
 cases k with
 |true=>exact wpAny_nextOf_list_end hh hit hl hx hE
 |false=>
  have hit':s.heap.IsTupleIter it l i:=hit;obtain⟨o,ho,hc,hd⟩:=id hit';obtain⟨ol,hol,_,nl,hdl⟩:=(hl:s.heap.IsTuple l its)
  unfold Builtin.SmallTypes.nextOf;refine wB0 (wpAny_callSpecial?_slot (name:=Str.ofString "__next__") hit'.typeIs F.slot_tuple_iterator_next (wpAny_call_entry F.slot_tuple_iterator_next hit'.typeIs F.entry_tuple_iterator_next ?_ (F.args_tuple_iterator_next_1 _)));show wpAny _ _ (field (.ref it) 0 >>= _) _ _ s;refine wB0 (wpAny_field ho hd (x:=.ref l) rfl ?_);show wpAny _ _ (if(Value.ref l==Value.none)=true then _ else _) _ _ s;rw [iN (show¬((Value.ref l==Value.none)=true)from xF0)];show wpAny _ _ (field (.ref it) 1 >>= _) _ _ s;refine wB0 (wpAny_field ho hd (x:=.int i 0) rfl ?_);show wpAny _ _ (seqItems? (.ref l) >>= _) _ _ s;refine wB0 (wpAny_seqItems hol hdl ?_);simp only [toNat_natCast,hx];refine wB0 (wpAny_rule (wB0 (wpAny_setField ho hd (by simp) ?_)));show wpAny _ _ (newExc (.type "StopIteration") [] >>= _) _ _ _;refine wB0 ?_;simp only [newExc,newTuple];refine wB0 (wpAny_newObj_type ?_ (by size_fits));refine wB0 (m:=firstArgMember _ _) (wpAny_of_eq (a:=Value.none) (by first |rfl|(simp only [firstArgMember];rfl)) ?_);refine wpAny_newObj_type ?_ (by size_fits);simp only [raiseNew];refine wB0 (wpAny_handled ?_)
  first |rw [show A.in1.handled=none from hh]|rw [hh]
  refine wB0 (wP0 (wpAny_throw ?_));exact hE _ _ (((Heap.SameBut.update ..).extBut.push _).push _) ⟨_,Heap.get?_push_size _ rfl,rfl⟩
end
structure ZipSt(k1 k2:Bool)(z TI TO i1 i2 l1 l2:Addr)(i:Nat)(h:Heap):Prop where
 z:IsZip h z TI TO .none
 ti:IsPair h TI (.ref i1) (.ref i2)
 to: ∃a b,IsPair h TO a b
 s1:IsSub k1 h i1 l1 i
 s2:IsSub k2 h i2 l2 i
structure Apart5(z TI TO i1 i2:Addr):Prop where
 TIz:TI≠z
 TOz:TO≠z
 i1z:i1≠z
 i2z:i2≠z
 TITO:TI≠TO
 TIi1:TI≠i1
 TIi2:TI≠i2
 TOi1:TO≠i1
 TOi2:TO≠i2
 i12:i1≠i2
section
variable{prog:Program}{w:World}{A:Around}{E:VP}{s:Shared}{k1 k2:Bool}{z TI TO i1 i2 l1 l2:Addr}{i:Nat}{xs ys:Ag}
def Off(l z TO i1 i2:Addr):Prop:=l≠z/\l≠TO/\l≠i1/\l≠i2
def yHE{x y:Value}{Q:VP}(D:Apart5 z TI TO i1 i2)(o1:Off l1 z TO i1 i2)(o2:Off l2 z TO i1 i2)(st:ZipSt k1 k2 z TI TO i1 i2 l1 l2 i s.heap)(hl1:IsSeq k1 s.heap l1 xs)(hl2:IsSeq k2 s.heap l2 ys)(hx:xs[i]? =some x)(hy:ys[i]? =some y)
  (hQ: ∀h',IsZip h' z TI TO (rawInt s.heap.objs.size)->IsPair h' TO x y->IsSub k1 h' i1 l1 (i+1)->IsSub k2 h' i2 l2 (i+1)->IsPair h' s.heap.objs.size x y->
   (∀c o,c≠z->c≠TO->c≠i1->c≠i2->s.heap.get? c=some o->h'.get? c=some o)->Q (.ref s.heap.objs.size) {s with heap:=h'}):
  wpAny (model prog w) A (Builtin.«zip.__next__» ⟨[.ref z],[]⟩) (λfin s'=> ∃v,fin=.done (.ret v)/\Q v s') E s:=by
 obtain⟨hz,hTI,⟨a,b,hTO⟩,h1,h2⟩:=st;show wpAny _ _ (field (.ref z) 2 >>= _) _ _ _;refine wB0 (wpAny_field hz rfl (x:=.bool false) rfl ?_);show wpAny _ _ (field (.ref z) 3 >>= _) _ _ _;refine wB0 (wpAny_field hz rfl (x:=.ref TI) rfl (wB0 (wpAny_seqItems hTI rfl ?_)));show wpAny _ _ (Builtin.SmallTypes.ownedTupleIsFree (.ref z) >>= _) _ _ _;refine wB0 ?_;unfold Builtin.SmallTypes.ownedTupleIsFree;refine wB0 (wpAny_field hz rfl (x:=.none) rfl (wP0 ?_));simp only [if_true];refine wB0 (wpAny_rule (wB0 (wpAny_field hz rfl (x:=.ref TO) rfl (wB0 (wpAny_setField_rec hz (by simp) λha hza hsa=>?_)))))
 replace hza:IsZip ha z TI TO .ellipsis:=hza
 refine wB0 ?_;simp only [zipIdx_cons,zipIdx_nil,forIn_cons,forIn_nil];refine wB0 (wB0 (wpAny_onRaise ?_));show wpAny _ _ (Builtin.SmallTypes.nextOf (.ref i1) >>= _) _ _ _;refine wB0 (zKL (h1.move λo e=>hsa.extBut _ _ D.i1z e) (hl1.move λo e=>hsa.extBut _ _ o1.1 e) hx λhb h1b hsb=>wP0 ?_);have tob:IsPair hb TO a b:=hsb.extBut _ _ D.TOi1 (hsa.extBut _ _ D.TOz hTO);refine wB0 (wpAny_seqItems tob rfl (wB0 (wpAny_updateSeq_pair tob λhc toc hsc=>wB0 (wpAny_letGo (wP0 ?_)))))
 replace toc:IsPair hc TO x b:=toc
 refine wB0 (wB0 (wpAny_onRaise ?_));show wpAny _ _ (Builtin.SmallTypes.nextOf (.ref i2) >>= _) _ _ _;have mv: ∀c o,c≠z->c≠TO->c≠i1->s.heap.get? c=some o->hc.get? c=some o:=λc o n1 n2 n3 e=>hsc.extBut _ _ n2 (hsb.extBut _ _ n3 (hsa.extBut _ _ n1 e));refine wB0 (zKL (h2.move λo e=>mv _ o D.i2z D.TOi2.symm D.i12.symm e) (hl2.move λo e=>mv _ o o2.1 o2.2.1 o2.2.2.1 e) hy λhd h2d hsd=>wP0 ?_);have tod:IsPair hd TO x b:=hsd.extBut _ _ D.TOi2 toc;refine wB0 (wpAny_seqItems tod rfl (wB0 (wpAny_updateSeq_pair tod λhe toe hse=>wB0 (wpAny_letGo (wP0 (wP0 ?_))))))
 replace toe:IsPair he TO x y:=toe
 refine wB0 (wpAny_seqItems toe rfl (wB0 (wpAny_newTuple ?_)));have hsz:he.objs.size=s.heap.objs.size:=by rw [hse.1,hsd.1,hsc.1,hsb.1,hsa.1]
 have ze:IsZip he z TI TO .ellipsis:=hse.extBut _ _ D.TOz.symm (hsd.extBut _ _ D.i2z.symm (hsc.extBut _ _ D.TOz.symm (hsb.extBut _ _ D.i1z.symm hza)));have mve: ∀c o,c≠z->c≠TO->c≠i1->c≠i2->s.heap.get? c=some o->he.get? c=some o:=λc o n1 n2 n3 n4 e=>hse.extBut _ _ n2 (hsd.extBut _ _ n4 (mv c o n1 n2 n3 e));have s1e:IsSub k1 he i1 l1 (i+1):=h1b.move λo e=>hse.extBut _ _ D.TOi1.symm (hsd.extBut _ _ D.i12 (hsc.extBut _ _ D.TOi1.symm e));have s2e:IsSub k2 he i2 l2 (i+1):=h2d.move λo e=>hse.extBut _ _ D.TOi2.symm e;have hzlt:z<he.objs.size:=Heap.lt_size ze;show wpAny _ _ (Builtin.SmallTypes.ownedTupleHandOut (.ref z) (.ref he.objs.size) >>= _) _ _ _;refine wB0 ?_;unfold Builtin.SmallTypes.ownedTupleHandOut;have zf:IsZip (he.push {cls:=.type "tuple",data:=.seq #[x,y]}) z TI TO .ellipsis:=hP0 _ ze;refine wB0 (wpAny_setField_rec zf (by simp) λhg' zg hsg=>?_)
 replace zg:IsZip hg' z TI TO (rawInt he.objs.size):=zg
 refine wpAny_setField_rec zg (by simp) λhh' zh hsh=>?_
 replace zh:IsZip hh' z TI TO (rawInt he.objs.size):=zh
 have up: ∀c o,c≠z->he.get? c=some o->hh'.get? c=some o:=λc o c1 e=>hsh.extBut _ _ c1 (hsg.extBut _ _ c1 (hP0 _ e));have tT:IsPair hh' he.objs.size x y:=hsh.extBut _ _ (ne_of_gt hzlt) (hsg.extBut _ _ (ne_of_gt hzlt) (Heap.get?_push_size _ rfl));rw [hsz]at zh tT;refine wP0 ⟨_,rfl,?_⟩;show Q (.ref he.objs.size) _;rw [hsz];exact hQ hh' zh (up _ _ D.TOz toe) (s1e.move λo e=>up _ o D.i1z e) (s2e.move λo e=>up _ o D.i2z e) tT λc o c1 c2 c3 c4 e=>up c o c1 (mve c o c1 c2 c3 c4 e)
def yMH{Q:Fin->Shared->Prop}(hh:A.handled=none)(D:Apart5 z TI TO i1 i2)(o1:Off l1 z TO i1 i2)(o2:Off l2 z TO i1 i2)(st:ZipSt k1 k2 z TI TO i1 i2 l1 l2 i s.heap)(hl1:IsSeq k1 s.heap l1 xs)(hl2:IsSeq k2 s.heap l2 ys)(hend:xs[i]? =none\/ys[i]? =none)
  (hE: ∀h' e,(∀c o,c≠z->c≠TO->c≠i1->c≠i2->s.heap.get? c=some o->h'.get? c=some o)->(∃o,h'.get? e=some o/\o.cls=.type "StopIteration")->E (.ref e) {s with heap:=h'}):
  wpAny (model prog w) A (Builtin.«zip.__next__» ⟨[.ref z],[]⟩) Q E s:=by
 obtain⟨hz,hTI,⟨a,b,hTO⟩,h1,h2⟩:=st;show wpAny _ _ (field (.ref z) 2 >>= _) _ _ _;refine wB0 (wpAny_field hz rfl (x:=.bool false) rfl ?_);show wpAny _ _ (field (.ref z) 3 >>= _) _ _ _;refine wB0 (wpAny_field hz rfl (x:=.ref TI) rfl (wB0 (wpAny_seqItems hTI rfl ?_)));show wpAny _ _ (Builtin.SmallTypes.ownedTupleIsFree (.ref z) >>= _) _ _ _;refine wB0 ?_;unfold Builtin.SmallTypes.ownedTupleIsFree;refine wB0 (wpAny_field hz rfl (x:=.none) rfl (wP0 ?_));simp only [if_true];refine wB0 (wpAny_rule (wB0 (wpAny_field hz rfl (x:=.ref TO) rfl (wB0 (wpAny_setField_rec hz (by simp) λha hza hsa=>?_)))))
 replace hza:IsZip ha z TI TO .ellipsis:=hza
 refine wB0 ?_;simp only [zipIdx_cons,zipIdx_nil,forIn_cons,forIn_nil];refine wB0 (wB0 (wpAny_onRaise ?_));show wpAny _ _ (Builtin.SmallTypes.nextOf (.ref i1) >>= _) _ _ _
 cases hx:xs[i]? with
 |none=>
  refine wB0 (zTP hh (h1.move λo e=>hsa.extBut _ _ D.i1z e) (hl1.move λo e=>hsa.extBut _ _ o1.1 e) hx λhb e hsb he=>?_);obtain⟨oe,hoe,hce⟩:=he;have hzb:IsZip hb z TI TO .ellipsis:=hsb _ _ D.i1z.symm hza;have hez:e≠z:=λq=>by subst q;rw [hzb]at hoe;cases hoe;simp at hce
  exact wpAny_setField_rec hzb (by simp) λhc _ hsc=>hE hc e (λc o c1 _ c3 _ q=>hsc.extBut _ _ c1 (hsb _ _ c3 (hsa.extBut _ _ c1 q))) ⟨oe,hsc.extBut _ _ hez hoe,hce⟩
 |some x=>
  have hy:ys[i]? =none:=by rcases hend with h|h;(rw [hx]at h;cases h);exact h
  refine wB0 (zKL (h1.move λo e=>hsa.extBut _ _ D.i1z e) (hl1.move λo e=>hsa.extBut _ _ o1.1 e) hx λhb h1b hsb=>wP0 ?_);have tob:IsPair hb TO a b:=hsb.extBut _ _ D.TOi1 (hsa.extBut _ _ D.TOz hTO);refine wB0 (wpAny_seqItems tob rfl (wB0 (wpAny_updateSeq_pair tob λhc toc hsc=>wB0 (wpAny_letGo (wP0 ?_)))));refine wB0 (wB0 (wpAny_onRaise ?_));show wpAny _ _ (Builtin.SmallTypes.nextOf (.ref i2) >>= _) _ _ _;have mv: ∀c o,c≠z->c≠TO->c≠i1->s.heap.get? c=some o->hc.get? c=some o:=λc o n1 n2 n3 e=>hsc.extBut _ _ n2 (hsb.extBut _ _ n3 (hsa.extBut _ _ n1 e));refine wB0 (zTP hh (h2.move λo e=>mv _ o D.i2z D.TOi2.symm D.i12.symm e) (hl2.move λo e=>mv _ o o2.1 o2.2.1 o2.2.2.1 e) hy λhd e hsd he=>?_);obtain⟨oe,hoe,hce⟩:=he;have hzd:IsZip hd z TI TO .ellipsis:=hsd _ _ D.i2z.symm (hsc.extBut _ _ D.TOz.symm (hsb.extBut _ _ D.i1z.symm hza));have hez:e≠z:=λq=>by subst q;rw [hzd]at hoe;cases hoe;simp at hce
  exact wpAny_setField_rec hzd (by simp) λhg' _ hsg=>hE hg' e (λc o c1 c2 c3 c4 q=>hsg.extBut _ _ c1 (hsd _ _ c4 (mv c o c1 c2 c3 q))) ⟨oe,hsg.extBut _ _ hez hoe,hce⟩
def zZF(k1 k2:Bool)(l1 l2:Addr)(xs ys:Ag):
  Meets (Builtin.«zip.__new__» ⟨[.type "zip",.ref l1,.ref l2],[]⟩) (λ_ R s=>IsSeq k1 s.heap l1 xs/\IsSeq k2 s.heap l2 ys/\
   R (.ok (.ret (.ref (s.heap.objs.size+4)))) {s with heap:=((((s.heap.push (zGB k1 l1)).push (zGB k2 l2)).push {cls:=.type "tuple",data:=.seq #[.ref s.heap.objs.size,.ref (s.heap.objs.size+1)]}).push {cls:=.type "tuple",data:=.seq #[.none,.none]}).push {cls:=.type "zip",data:=.fields #[.none,.bool false,.bool false,.ref (s.heap.objs.size+2),.ref (s.heap.objs.size+3)]}}):=
 .of_wp λprog w A R s h=>by
  obtain⟨hp,g,d,tk,os⟩:=s;obtain⟨hl1,hl2,h⟩:=h;have hsub:=sub_zip;have hL1:IsSeq k1 (Shared.heap ⟨hp,g,d,tk,os⟩) l1 xs:=hl1;have hL2:IsSeq k2 (Shared.heap ⟨hp.push (zGB k1 l1),g,d,tk,os⟩) l2 ys:=hl2.move λo e=>hP0 _ e;have z1: ∀(h:Heap)(o:Obj),(h.push o).objs.size=h.objs.size+1:=λh o=>Heap.size_push ..;simp only [z1]at h ⊢
  wp_walk using zHP hL1,zHP hL2
  exact⟨_,rfl,by simp only [z1];exact h⟩
def yHF(hl1:IsSeq k1 s.heap l1 xs)(hl2:IsSeq k2 s.heap l2 ys){Q:VP}
  (h: ∀h',ZipSt k1 k2 (s.heap.objs.size+4) (s.heap.objs.size+2) (s.heap.objs.size+3) s.heap.objs.size (s.heap.objs.size+1) l1 l2 0 h'->(∀c o,s.heap.get? c=some o->h'.get? c=some o)->Q (.ref (s.heap.objs.size+4)) {s with heap:=h'}):
  wpAny (model prog w) A (call (.type "zip") [.ref l1,.ref l2]) Q E s:=by
 refine callType_new F.called_zip (by decide) (F.typeCall_zip_2 _ _) (F.newCall_zip_2 _ _) (λobj=>F.args_object_init_3 obj _ _) F.entry_zip_new (zZF k1 k2 l1 l2 xs ys) ⟨hl1,hl2,?_⟩;have z1: ∀(h:Heap)(o:Obj),(h.push o).objs.size=h.objs.size+1:=λh o=>Heap.size_push ..;have pg: ∀(h:Heap)(o:Obj)(n:Nat),o.isFreed=false->h.objs.size=n->(h.push o).get? n=some o:=λh o n hf e=>by subst e;exact Heap.get?_push_size _ hf
 have up: ∀(h:Heap)(o u:Obj)(n:Nat),h.get? n=some u->(h.push o).get? n=some u:=λh o u n e=>hP0 _ e;refine⟨⟨_,pg _ _ _ rfl (by simp only [z1]),rfl⟩,h _ ⟨pg _ _ _ rfl (by simp only [z1]),up _ _ _ _ (up _ _ _ _ (pg _ _ _ rfl (by simp only [z1]))),⟨.none,.none,up _ _ _ _ (pg _ _ _ rfl (by simp only [z1]))⟩,?_,?_⟩ λc o e=>up _ _ _ _ (up _ _ _ _ (up _ _ _ _ (up _ _ _ _ (up _ _ _ _ e))))⟩
 ·exact IsSub.mk' (up _ _ _ _ (up _ _ _ _ (up _ _ _ _ (up _ _ _ _ (pg _ _ _ rfl rfl)))))
 ·exact IsSub.mk' (up _ _ _ _ (up _ _ _ _ (up _ _ _ _ (pg _ _ _ rfl (by simp only [z1])))))
end
def apart_new(n:Nat):Apart5 (n+4) (n+2) (n+3) n (n+1):=by constructor<;>(show(_:Nat)≠_;omega)
def SqK(k:Bool)(K:Be)(H:Hp)(a:Addr)(xs:List V):Prop:=if k=true then SqL K H a xs else SqT K H a xs
def Itz(K:Be)(k1 k2:Bool)(l1 l2:Addr):It:=
 ⟨λi H=> ∃xs ys x y,SqK k1 K H l1 xs/\SqK k2 K H l2 ys/\xs[i]? =some x/\ys[i]? =some y,
   λi H v H'=> ∃p x y,H p=none/\v=.ref p/\H'=upd H p (.tup [x,y])/\(∀xs,SqK k1 K H l1 xs->xs[i]? =some x)/\ ∀ys,SqK k2 K H l2 ys->ys[i]? =some y,
   λi H=> ∃xs ys,SqK k1 K H l1 xs/\SqK k2 K H l2 ys/\(xs.length<=i\/ys.length<=i)⟩
section
variable{X:Cx}{pins:Ba}{σ:St}{H:Hp}{s:Shared}
def _root_.L2.Inv.seqK(I:Inv X pins σ H s){k:Bool}{a:Addr}{xs:List V}(h:SqK k X.K H a xs): ∃its:List Value,Vals xs its/\IsSeq k s.heap a its.toArray/\xs.length<=sizeLine:=by
 cases k with
 |true=>obtain⟨its,r,p,z⟩:=I.list h;exact⟨its,r,p.isList,z⟩
 |false=>obtain⟨its,r,p,z⟩:=I.tuple h;exact⟨its,r,p,z⟩
def _root_.L2.Inv.seqK_inj(I:Inv X pins σ H s){k:Bool}{a:Addr}{xs ys:List V}(h:SqK k X.K H a xs)(h':SqK k X.K H a ys):xs=ys:=by
 cases k with
 |true=>exact I.list_inj h h'
 |false=>exact I.tuple_inj h h'
def zDV(I:Inv X pins σ H s){k:Bool}{l b:Addr}{xs:List V}(h:SqK k X.K H l xs)(hb:zJL X pins H b):l≠b:=by
 rintro rfl
 have kk: ∀o,X.K.lookup l=some o->False:=λo e=>by
  have e1:=I.mod.kin l o e;rcases hb.2.2.2.1 with z|z
  ·exact I.ok.noex l o e1 z
  ·exact absurd (lt_of_lt_of_le (Heap.lt_size e1) (le_trans I.ok.bsz z)) (lt_irrefl _)
 cases k with
 |true=>
  rcases (h:SqL X.K H l xs)with(h|⟨o,h⟩)|⟨o,its,n,h,_⟩
  ·rw [hb.1]at h;cases h
  ·rw [hb.1]at h;cases h
  ·exact kk o h
 |false=>
  rcases (h:SqT X.K H l xs)with(h|⟨o,h⟩)|⟨o,its,n,h,_⟩
  ·rw [hb.1]at h;cases h
  ·rw [hb.1]at h;cases h
  ·exact kk o h
end
def yHG{P:Program}{w:World}{K:Be}{elts:Bd}{kt:Nat}{pt:Pos}{k1 k2:Bool}{z TI TO i1 i2 l1 l2:Addr}(D:Apart5 z TI TO i1 i2):
  Turn P w K (.Tuple elts kt pt) (Itz K k1 k2 l1 l2) [z,TI,TO,i1,i2] z (λi h=>ZipSt k1 k2 z TI TO i1 i2 l1 l2 i h) where
 mem:=by simp
 obj:=λi h st b hb=>by
  obtain⟨hz,hTI,⟨a,b',hTO⟩,h1,h2⟩:=st;have hb':b=z\/b=TI\/b=TO\/b=i1\/b=i2:=by simpa using hb
  rcases hb' with rfl|rfl|rfl|rfl|rfl
  ·exact⟨_,hz,λv q=>by cases q⟩
  ·exact⟨_,hTI,λv q=>by cases q⟩
  ·exact⟨_,hTO,λv q=>by cases q⟩
  ·exact h1.there
  ·exact h2.there
 keep:=λi h h' st k=>by obtain⟨hz,hTI,⟨a,b',hTO⟩,h1,h2⟩:=st;exact⟨k z (by simp) _ hz,k TI (by simp) _ hTI,⟨a,b',k TO (by simp) _ hTO⟩,h1.move λo e=>k i1 (by simp) o e,h2.move λo e=>k i2 (by simp) o e⟩
 item:=by
  intro X hP hw hK hc i pins s σ H E I hf st hg;subst hP hw hK;obtain⟨xs,ys,x,y,q1,q2,hx,hy⟩:=hg;obtain⟨its,r1,p1,_⟩:=I.seqK q1;obtain⟨its2,r2,p2,_⟩:=I.seqK q2;obtain⟨u,hu,ru⟩:=r1.get hx;obtain⟨v,hv,rv⟩:=r2.get hy;have off: ∀{k:Bool}{l:Addr}{xs:List V},SqK k X.K H l xs->Off l z TO i1 i2:=λq=>⟨zDV I q (hf z (by simp)),zDV I q (hf TO (by simp)),zDV I q (hf i1 (by simp)),zDV I q (hf i2 (by simp))⟩
  have hT:s.TypeIs (.ref z) "zip":=⟨_,st.z,rfl⟩
  unfold pyNext
  refine wB0 (wpAny_attempt (wpAny_callSpecial?_slot (name:=Str.ofString "__next__") hT F.slot_zip_next (wpAny_call_entry F.slot_zip_next hT F.entry_zip_next
   (yHE D (off q1) (off q2) st p1 p2 (x:=u) (y:=v) (by simpa using hu) (by simpa using hv) λh' a1 a2 a3 a4 a5 a6=>wP0 ⟨_,rfl,?_⟩) (F.args_zip_next_1 _))))
  refine wpAny_letOwnedTupleGo_zip a1 λh2 z2 sb2=>?_;have hpn:H s.heap.objs.size=none:=I.hok.fresh (le_refl _)
  have I0:Inv X pins σ (upd H s.heap.objs.size (.tup [x,y])) {s with heap:=s.heap.push {cls:=.type "tuple",data:=.seq #[u,v]}}:=
   I.laid (t':=s.toks) (o:=.tup [x,y]) (λb o e=>hP0 _ e) (le_refl _) ⟨by show 2<=sizeLine;decide,[u,v],.cons ru (.cons rv .nil),⟨_,Heap.get?_push_size _ rfl,rfl,_,rfl⟩⟩
  have lt: ∀b∈[z,TI,TO,i1,i2],b<s.heap.objs.size:=λb hb=>by
   have: ∃o,s.heap.get? b=some o:=by
    obtain⟨hz,hTI,⟨a,b',hTO⟩,g1,g2⟩:=st;have hb':b=z\/b=TI\/b=TO\/b=i1\/b=i2:=by simpa using hb
    rcases hb' with rfl|rfl|rfl|rfl|rfl
    ·exact⟨_,hz⟩
    ·exact⟨_,hTI⟩
    ·exact⟨_,hTO⟩
    ·obtain⟨o,e,_⟩:=g1.there;exact⟨o,e⟩
    ·obtain⟨o,e,_⟩:=g2.there;exact⟨o,e⟩
   obtain⟨o,e⟩:=this;exact Heap.lt_size e
  have fr: ∀b∈[z,TI,TO,i1,i2],upd H s.heap.objs.size (.tup [x,y]) b=none:=λb hb=>by rw [zU (ne_of_lt (lt b hb))];exact(hf b hb).1
  have zne:s.heap.objs.size≠z:=ne_of_gt (lt z (by simp))
  have mv: ∀b o,b∉[z,TI,TO,i1,i2]->(s.heap.push {cls:=.type "tuple",data:=.seq #[u,v]}).get? b=some o->h2.get? b=some o:=λb o hb e=>by
   simp only [mC,nM0,or_false,not_or]at hb;refine sb2.extBut _ _ hb.1 ?_;by_cases hbs:b=s.heap.objs.size
   ·subst hbs;rw [Heap.get?_push_size _ rfl]at e;cases e;exact a5
   ·rw [Heap.get?_push_ne _ _ _ hbs]at e;exact a6 b o hb.1 hb.2.2.1 hb.2.2.2.1 hb.2.2.2.2 e
  have I2:=I0.turnedL (h':=h2) (t':=s.toks) mv λb hb=>let ⟨_,c2,c3,c4,c5,c6⟩:=hf b hb;⟨fr b hb,c2,c3,c4,c5,c6⟩;refine⟨.ref s.heap.objs.size,_,I2,rfl,⟨s.heap.objs.size,x,y,hpn,rfl,rfl,λzs hz=>?_,λzs hz=>?_⟩,⟨z2,?_,⟨u,v,?_⟩,?_,?_⟩,fr⟩
  ·rw [I.seqK_inj hz q1];exact hx
  ·rw [I.seqK_inj hz q2];exact hy
  ·exact sb2.extBut _ _ D.TIz (a6 TI _ D.TIz D.TITO D.TIi1 D.TIi2 st.ti)
  ·exact sb2.extBut _ _ D.TOz a2
  ·exact a3.move λo e=>sb2.extBut _ _ D.i1z e
  ·exact a4.move λo e=>sb2.extBut _ _ D.i2z e
 done:=by
  intro X hP hw hK hc i pins s σ H E I hf st hg;subst hP hw hK;obtain⟨xs,ys,q1,q2,hx⟩:=hg;obtain⟨its,r1,p1,_⟩:=I.seqK q1;obtain⟨its2,r2,p2,_⟩:=I.seqK q2;have off: ∀{k:Bool}{l:Addr}{xs:List V},SqK k X.K H l xs->Off l z TO i1 i2:=λq=>⟨zDV I q (hf z (by simp)),zDV I q (hf TO (by simp)),zDV I q (hf i1 (by simp)),zDV I q (hf i2 (by simp))⟩
  have hT:s.TypeIs (.ref z) "zip":=⟨_,st.z,rfl⟩
  have e1:=r1.length;have e2:=r2.length;unfold pyNext
  refine wB0 (wpAny_attempt (wpAny_callSpecial?_slot (name:=Str.ofString "__next__") hT F.slot_zip_next (wpAny_call_entry F.slot_zip_next hT F.entry_zip_next
   (yMH (I.ok.hd hc) D (off q1) (off q2) st p1 p2 (by rcases hx with h|h;(exact .inl (by simp;omega));exact .inr (by simp;omega)) λh' e hk he=>?_) (F.args_zip_next_1 _))))
  obtain⟨o,ho,hcl⟩:=he;refine wB0 (wpAny_isInstance (T:="StopIteration") (b:=true) ⟨o,ho,hcl⟩ isSubtype_stop (wP0 ⟨rfl,?_⟩));refine I.turnedL (h':=h') (t':=s.toks) (λb o hb e=>?_) hf;simp only [mC,nM0,or_false,not_or]at hb;exact hk b o hb.1 hb.2.2.1 hb.2.2.2.1 hb.2.2.2.2 e
 self:=λ_ _ _ _ _ st h=>wpAny_pyIter_zip st.z h
structure Sr where
 k:Bool
 ds:List MV
 gs:List (Nat×List MV)
def srcOf(S:Sto):Er->Option Sr
 |.val (.tup ds)=>some ⟨false,ds,[]⟩
 |.new ds=>some ⟨true,ds,[]⟩
 |.val (.scr ds)=>some ⟨true,ds,[]⟩
 |.val (.loc l)=>match S[l]? with
  |some (.lst ds)=>some ⟨true,ds,[(l,ds)]⟩
  |_=>none
 |_=>none
structure SrcD(X:Cx)(q:Sr)(l:Addr)(P:List Addr->Sto->Hp->Prop):Prop where
 get: ∀α S H,P α S H-> ∃vs,SqK q.k X.K H l vs/\DenL X.K α H q.ds vs
 stays: ∀α1 S1 H1 α2 S2 H2,P α1 S1 H1->Ext α1 H1 α2 H2->Wd X.g α2 S2 H2->stay q.gs S2->P α2 S2 H2
 st: ∀α S H,P α S H->stay q.gs S
def zTQ{X:Cx}{α:Ah}{S:Sto}{H:Hp}(wd:Wd X.g α S H){r:Er}{x:V}{q:Sr}(e:srcOf S r=some q)(d:DenX X.K α H r x): ∃l P,x=.ref l/\P α S H/\SrcD X q l P:=by
 unfold srcOf at e;split at e
 ·rename_i ds;cases e;obtain⟨a,vs,rfl,s,l⟩:=zAI d;exact⟨a,λα S H=> ∃vs,SqT X.K H a vs/\DenL X.K α H ds vs,rfl,⟨vs,s,l⟩,λα S H h=>h,λα1 S1 H1 α2 S2 H2 ⟨vs,h1,h2⟩ x w _=>⟨vs,x.sqT h1,h2.ext x⟩,λ_ _ _ _=>bI⟩
 ·rename_i ds;cases e;obtain⟨b,vs,rfl,h,n,l⟩:=d
  exact⟨b,λα S H=> ∃vs,H b=some (.lst vs)/\b∉α/\DenL X.K α H ds vs,rfl,⟨vs,h,n,l⟩,λα S H ⟨vs,h1,_,h2⟩=>⟨vs,(SqL.of h1:SqL X.K H b vs),h2⟩,
   λα1 S1 H1 α2 S2 H2 ⟨vs,h1,h2,h3⟩ x w _=>⟨vs,x.keep b _ h1 h2,x.out h1 h2,h3.ext x⟩,λ_ _ _ _=>bI⟩
 ·rename_i ds;cases e;obtain⟨a,vs,rfl,s,l⟩:=zOI d;exact⟨a,λα S H=> ∃vs,SqF X.K H a vs/\DenL X.K α H ds vs,rfl,⟨vs,s,l⟩,λα S H ⟨vs,h1,h2⟩=>⟨vs,h1.l,h2⟩,λα1 S1 H1 α2 S2 H2 ⟨vs,h1,h2⟩ x w _=>⟨vs,x.sqF h1,h2.ext x⟩,λ_ _ _ _=>bI⟩
 ·rename_i n;split at e
  ·rename_i ds hS;cases e;obtain⟨a,rfl,h⟩:=zEH d;obtain⟨vs,h1,h2⟩:=wd.obj n a _ h hS;refine⟨a,λα S H=> ∃vs,H a=some (.lst vs)/\DenL X.K α H ds vs/\α[n]? =some a/\S[n]? =some (.lst ds),rfl,⟨vs,h1,h2,h,hS⟩,λα S H ⟨vs,h1,h2,_⟩=>⟨vs,(SqL.of h1:SqL X.K H a vs),h2⟩,?_,?_⟩
   ·intro α1 S1 H1 α2 S2 H2 ⟨vs,a1,a2,a3,a4⟩ x w hs;have hs':=hs (n,ds) (by simp);obtain⟨us,b1,b2⟩:=w.obj n a _ (x.at a3) hs';exact⟨us,b1,b2,x.at a3,hs'⟩
   ·intro α S H ⟨vs,_,_,_,a4⟩ p hp;have:p=(n,ds):=by simpa using hp
    subst this;exact a4
  ·cases e
 ·cases e
def iZip(K:Be)(ta:TA):TI:=λσ H R=>ta σ H λvs H1=> ∃k1 k2 l1 l2,vs=[.ref l1,.ref l2]/\(∃xs,SqK k1 K H1 l1 xs)/\(∃ys,SqK k2 K H1 l2 ys)/\R (Itz K k1 k2 l1 l2) H1
section
variable{X:Cx}{W:XW}{a b:Expr}{elts:Bd}{kt:Nat}{pt p pos:Pos}{ta:TA}{af:Rho->Sto->R (List Er)}
def yRJ:bootBuiltins "zip"=some (.type "zip"):=by decide+kernel
def yMI:bootBuiltins "enumerate"=some (.type "enumerate"):=by decide+kernel
def yRK(hg:Gl X "zip")(hm:X.mg "zip"=none)(ha:PA X [a,b] ta)(hs:starEach [a,b] X.env=[(false,eval a X.env),(false,eval b X.env)]:=by rfl)(hs2:starEach [b] X.env=[(false,eval b X.env)]:=by rfl):
  PI X (.Tuple elts kt pt) (.Call (.Name "zip" p) [a,b] [] pos) (iZip X.K ta):=by
 intro pins s σ H R I h;refine Call_ (zLG I hg hm yRJ (PyProof.Rows.callWith_type1 (thn (ha pos pins s σ H _ I h) λus s1 ⟨vs,H1,I1,r1,q1⟩=>?_) (by rw [hs,hs2]) (by rw [hs2];rfl)));obtain⟨k1,k2,l1,l2,rfl,⟨xs,c1⟩,⟨ys,c2⟩,q⟩:=q1
 cases r1 with
 |cons r rr=>
  cases rr with
  |cons r' rr=>
   cases rr;cases r;cases r';obtain⟨its,v1,p1,_⟩:=I1.seqK c1;obtain⟨its2,v2,p2,_⟩:=I1.seqK c2;refine yHF p1 p2 λh' st hk=>wpAny_pyIter_zip st.z ?_;have I2:Inv X pins σ H1 {s1 with heap:=h'}:=I1.kept (t':=s1.toks) hk;refine⟨_,_,_,_,H1,rfl,I2,yHG (apart_new _),st,λb hb=>?_,q⟩
   have hle:s1.heap.objs.size<=b:=by
    have hb':b=s1.heap.objs.size+4\/b=s1.heap.objs.size+2\/b=s1.heap.objs.size+3\/b=s1.heap.objs.size\/b=s1.heap.objs.size+1:=by simpa using hb
    rcases hb' with h|h|h|h|h<;>rw [h]<;>(first |exact le_refl _|exact Nat.le_add_right _ _)
   exact I1.fpOk hle (I1.hok.fresh hle)
def pairs(xs ys:Bh):List MV:=List.zipWith (λx y=>.tup [x,y]) xs ys
def itZ(rs:List Er)(S:Sto):R Wk:=match rs with
 |[p,q]=>match srcOf S p with
  |some a=>match srcOf S q with
   |some b=>.ok ⟨pairs a.ds b.ds,a.gs++b.gs⟩ S
   |none=>.no
  |none=>.no
 |_=>.no
def yRL(hg:Gl X "zip")(hm:X.mg "zip"=none)(ha:PAm X W [a,b] af)(hs:starEach [a,b] X.env=[(false,eval a X.env),(false,eval b X.env)]:=by rfl)(hs2:starEach [b] X.env=[(false,eval b X.env)]:=by rfl):
  PIm X W (.Tuple elts kt pt) (.Call (.Name "zip" p) [a,b] [] pos) (λρ S=>(af ρ S).bind itZ):=by
 obtain⟨t,ha,k⟩:=ha;refine⟨_,yRK hg hm ha hs hs2,λα ρ S σ H Rc wd sl q=>k α ρ S σ H _ wd sl (q.bind λvs rs S1 α1 H1 e x1 w1 d1 q1=>?_)⟩
 replace q1:=q1.shift x1
 unfold itZ at q1;split at q1
 ·rename_i r1 r2;split at q1
  ·rename_i s1 e1;split at q1
   ·rename_i s2 e2;obtain⟨u,v,rfl,du,dv⟩:=args2 d1;obtain⟨l1,P1,rfl,p1,D1⟩:=zTQ w1 e1 du;obtain⟨l2,P2,rfl,p2,D2⟩:=zTQ w1 e2 dv;have g1:=D1.get _ _ _ p1;have g2:=D2.get _ _ _ p2;refine⟨s1.k,s2.k,l1,l2,rfl,⟨_,g1.choose_spec.1⟩,⟨_,g2.choose_spec.1⟩,q1.here (u:=Itz X.K s1.k s2.k l1 l2) w1 ⟨λα S H=>P1 α S H/\P2 α S H,?_,⟨p1,p2⟩,?_,?_⟩⟩
    ·intro i α2 S2 H2 ⟨b1,b2⟩ w2;obtain⟨us,c1,c2⟩:=D1.get _ _ _ b1;obtain⟨ws,c3,c4⟩:=D2.get _ _ _ b2;have hl:(pairs s1.ds s2.ds).length=min us.length ws.length:=by unfold pairs;rw [List.length_zipWith,c2.length,c4.length]
     refine⟨λhi=>?_,λhi=>?_⟩
     ·have hi:i<(pairs s1.ds s2.ds).length:=hi;have h1:i<us.length:=by omega
      have h2:i<ws.length:=by omega
      refine⟨⟨us,ws,us[i],ws[i],c1,c3,gE0 h1,gE0 h2⟩,?_⟩;rintro x H' ⟨pp,xx,yy,hp,rfl,rfl,hx,hy⟩;obtain⟨d,hd,dd⟩:=c2.get (hx us c1);obtain⟨f,hf,df⟩:=c4.get (hy ws c3);have xn:=w2.newx (o:=.tup [xx,yy]) hp;have wn:=w2.new (o:=.tup [xx,yy]) hp;refine⟨xn,wn,⟨D1.stays _ _ _ _ _ _ b1 xn wn (D1.st _ _ _ b1),D2.stays _ _ _ _ _ _ b2 xn wn (D2.st _ _ _ b2)⟩,.tup [d,f],?_,?_⟩
      ·unfold pairs;rw [List.getElem?_zipWith,hd,hf]
      ·exact zDQ (.of yV) (yD (dd.ext xn) (yD (df.ext xn) yS))
     ·have hi:(pairs s1.ds s2.ds).length<=i:=hi;refine⟨us,ws,c1,c3,?_⟩;by_cases h1:us.length<=i
      ·exact .inl h1
      ·exact .inr (by omega)
    ·intro α1 S1 H1 α2 S2 H2 ⟨b1,b2⟩ x w hs;exact⟨D1.stays _ _ _ _ _ _ b1 x w λp hp=>hs p (mem_append_left _ hp),D2.stays _ _ _ _ _ _ b2 x w λp hp=>hs p (mem_append_right _ hp)⟩
    ·intro p hp;rcases mem_append.mp hp with h|h
     ·exact D1.st _ _ _ p1 p h
     ·exact D2.st _ _ _ p2 p h
   ·exact q1.elim
  ·exact q1.elim
 ·exact q1.elim
end
structure EnSt(k:Bool)(e it l:Addr)(i:Nat)(h:Heap):Prop where
 e: ∃old,IsEnum h e it i old
 s:IsSub k h it l i
section
variable{prog:Program}{w:World}{A:Around}{E:VP}{s:Shared}{k:Bool}{e it l:Addr}{i:Nat}{its:Ag}
def yMJ{x old:Value}{Q:VP}(he:IsEnum s.heap e it i old)(hit:IsSub k s.heap it l i)(hl:IsSeq k s.heap l its)(hx:its[i]? =some x)(hne:e≠it)
  (hQ: ∀h',IsEnumOut h' e it ((i:Int)+1) x s.heap.objs.size->IsSub k h' it l (i+1)->h'.get? s.heap.objs.size=some {cls:=.type "tuple",data:=.seq #[.int i s.toks,x]}->
   (∀b o,b≠e->b≠it->s.heap.get? b=some o->h'.get? b=some o)->Q (.ref s.heap.objs.size) {s with heap:=h',toks:=s.toks+1}):
  wpAny (model prog w) A (Builtin.«enumerate.__next__» ⟨[.ref e],[]⟩) (λfin s'=> ∃v,fin=.done (.ret v)/\Q v s') E s:=by
 obtain⟨hp,g,d,tk,os⟩:=s;show wpAny _ _ (field (.ref e) 2 >>= _) _ _ _;refine wB0 (wpAny_field he rfl (x:=.ref it) rfl (wB0 (zKL hit hl hx λha ita hsa=>?_)))
 replace hsa:Heap.SameBut it hp ha:=hsa
 have ea:IsEnum ha e it i old:=(hsa.2 e hne).trans he;show wpAny _ _ (field (.ref e) 3 >>= _) _ _ ⟨ha,g,d,tk,os⟩;refine wB0 (wpAny_field ea rfl (x:=rawInt i) rfl ?_);show wpAny _ _ (field (.ref e) 4 >>= _) _ _ ⟨ha,g,d,tk,os⟩;refine wB0 (wpAny_field ea rfl (x:=.none) rfl ?_);show wpAny _ _ (mkInt i >>= _) _ _ ⟨ha,g,d,tk,os⟩;refine wB0 (wpAny_mkInt ?_);show wpAny _ _ (setField (.ref e) 3 (rawInt ((i:Int)+1)) >>= _) _ _ ⟨ha,g,d,tk+1,os⟩;refine wB0 (wpAny_setField_rec ea (by simp) λhb eb hsb=>?_)
 replace hsb:Heap.SameBut e ha hb:=hsb
 replace eb:IsEnum hb e it ((i:Int)+1) old:=eb
 show wpAny _ _ (setField (.ref e) 4 .none >>= _) _ _ ⟨hb,g,d,tk+1,os⟩;refine wB0 (wpAny_setField_rec eb (by simp) λhc ec hsc=>?_)
 replace hsc:Heap.SameBut e hb hc:=hsc
 replace ec:IsEnum hc e it ((i:Int)+1) old:=ec
 show wpAny _ _ (newTuple [.int i tk,x] >>= _) _ _ ⟨hc,g,d,tk+1,os⟩;refine wB0 (wpAny_newTuple ?_);have hsz:hc.objs.size=hp.objs.size:=by rw [hsc.1,hsb.1,hsa.1]
 have hel:e<hp.objs.size:=Heap.lt_size he;have ed:IsEnum (hc.push {cls:=.type "tuple",data:=.seq #[.int i tk,x]}) e it ((i:Int)+1) old:=hP0 _ ec;have td:(hc.push {cls:=.type "tuple",data:=.seq #[.int i tk,x]}).get? hp.objs.size=some {cls:=.type "tuple",data:=.seq #[.int i tk,x]}:=by rw [<-hsz];exact Heap.get?_push_size _ rfl
 have kd: ∀b o,b≠e->b≠it->hp.get? b=some o->(hc.push {cls:=.type "tuple",data:=.seq #[.int i tk,x]}).get? b=some o:=λb o n1 n2 q=>
  hP0 _ (hsc.extBut b o n1 (hsb.extBut b o n1 (hsa.extBut b o n2 q)))
 have sd:IsSub k (hc.push {cls:=.type "tuple",data:=.seq #[.int i tk,x]}) it l (i+1):=ita.move λo q=>hP0 _ (hsc.extBut _ o (Ne.symm hne) (hsb.extBut _ o (Ne.symm hne) q));generalize hc.push {cls:=.type "tuple",data:=.seq #[.int i tk,x]}=hd at ed td kd sd ⊢;show wpAny _ _ (Builtin.SmallTypes.ownedTupleIsFree (.ref e) >>= _) _ _ ⟨hd,g,d,tk+1,os⟩;rw [hsz];refine wB0 ?_;unfold Builtin.SmallTypes.ownedTupleIsFree;refine wB0 (wpAny_field ed rfl (x:=.none) rfl (wP0 ?_));simp only [if_true];refine wB0 (wpAny_rule (wB0 (wpAny_field ed rfl (x:=old) rfl (wB0 (wpAny_setField_rec ed (by simp) λhf ef hsf=>?_)))))
 replace hsf:Heap.SameBut e hd hf:=hsf
 replace ef:IsEnum hf e it ((i:Int)+1) x:=ef
 show wpAny _ _ (Builtin.SmallTypes.ownedTupleHandOut (.ref e) (.ref hp.objs.size) >>= _) _ _ ⟨hf,g,d,tk+1,os⟩;refine wB0 ?_;unfold Builtin.SmallTypes.ownedTupleHandOut;refine wB0 (wpAny_setField_rec ef (by simp) λhg' eg hsg=>?_)
 replace hsg:Heap.SameBut e hf hg':=hsg
 replace eg:IsEnumOut hg' e it ((i:Int)+1) x hp.objs.size:=eg
 refine wpAny_setField_rec eg (by simp) λhh' eh hsh=>?_
 replace hsh:Heap.SameBut e hg' hh':=hsh
 replace eh:IsEnumOut hh' e it ((i:Int)+1) x hp.objs.size:=eh
 have up: ∀b o,b≠e->hd.get? b=some o->hh'.get? b=some o:=λb o n q=>hsh.extBut b o n (hsg.extBut b o n (hsf.extBut b o n q));exact wB0 (wpAny_letGo (wP0 ⟨_,rfl,hQ hh' eh (sd.move λo q=>up _ o (Ne.symm hne) q) (up _ _ (ne_of_gt hel) td) λb o n1 n2 q=>up b o n1 (kd b o n1 n2 q)⟩))
def zZG(k:Bool)(l:Addr)(its:Ag):
  Meets (Builtin.«enumerate.__new__» ⟨[.type "enumerate",.ref l],[]⟩) (λ_ R s=>IsSeq k s.heap l its/\
   R (.ok (.ret (.ref (s.heap.objs.size+1)))) {s with heap:=(s.heap.push (zGB k l)).push {cls:=.type "enumerate",data:=.fields #[.none,.bool false,.ref s.heap.objs.size,rawInt 0,.none,.none]}}):=
 .of_wp λprog w A R s h=>by
  obtain⟨hp,g,d,tk,os⟩:=s;obtain⟨hl,h⟩:=h;have hsub:=sub_enumerate;have hL:IsSeq k (Shared.heap ⟨hp,g,d,tk,os⟩) l its:=hl;have z1: ∀(h:Heap)(o:Obj),(h.push o).objs.size=h.objs.size+1:=λh o=>Heap.size_push ..
  wp_walk
  refine wpAny_stack_any λst=>wP0 ?_;split
  ·rename_i c _ _ _ _ _;cases (c==Value.type "enumerate")
   ·wp_walk using zHP hL
    exact⟨_,rfl,by simp only [z1];exact h⟩
   ·wp_walk using zHP hL
    exact⟨_,rfl,by simp only [z1];exact h⟩
  ·wp_walk using zHP hL
   exact⟨_,rfl,by simp only [z1];exact h⟩
end
def zRY(K:Be)(F:List MV->Sto->R Er):Sp:=λvs H Q _=> ∃ds,DenL K [] H ds vs/\ds.length=1/\ ∀g:Gm,g.K=K->Post g W0 [] H (F ds []) Q
def yHH{g:Gm}{F:List MV->Sto->R Er}: ∀vs H Q E,zRY g.K F vs H Q E->spM g 1 F vs H Q E:=λvs H Q E ⟨ds,l,hl,q⟩=>⟨[],[],ds,⟨rfl,by simp,λl a o h=>by simp at h⟩,l,hl,q g rfl⟩
def yRM{K:Be}{H:Hp}{a:Addr}{xs:List V}(hO:yGC H)(h:SqL K H a xs):SqF K H a xs:=by
 rcases h with(h|⟨o,h⟩)|h
 ·rcases hO a with z|⟨o,ys,z⟩
  ·rw [z]at h;cases h
  ·rw [z]at h;cases h
 ·exact .inl ⟨o,h⟩
 ·exact .inr h
def yHI{K:Be}{F:List MV->Sto->R Er}{H:Hp}{a:Addr}{ns:Ad}(hO:yGC H)(hS:SqL K H a (ns.map V.int))(h: ∃S,F [.scr (ns.map MV.int)] []=.ok (.val (.bl true)) S):zRY K F [.ref a] H (λv _=>v=.bl true) λ_ _ _=>False:=by obtain⟨S,h⟩:=h;refine⟨_,yD (yAR (yRM hO hS) (zLK ns)) yS,rfl,λg _=>?_⟩;rw [h];exact λv α' H' x w d=>zKC d.1
theorem bok{β γ:Type}(b:β)(S:Sto)(k:β->Sto->R γ):(R.ok b S).bind k=k b S:=by have h:=R.bind_ok b S k;exact Eq.trans h rfl
theorem yMK(d:MV)(S:Sto):rdSl (some (some d)) S=.ok (.val d) S:=rfl
def zOS{S T:Sto}:yGR S (S++T):=⟨by rw [lA];omega,λl hl=>.inl (getElem?_append_left hl)⟩
def zHQ(n:Nat)(i:Int):lo n (.int i):=by unfold lo;trivial
def zLT(n:Nat)(i:Ab):lo n (.str i):=by unfold lo;trivial
def yBC(n:Nat)(i:Bool):lo n (.bl i):=by unfold lo;trivial
def yHJ(n:Nat):lo n .non:=by unfold lo;trivial
def zGC{n:Nat}{ds:Bh}(h:loL n ds):lo n (.tup ds):=by unfold lo;exact h
theorem kZ{n:Nat}: ∀{ds:Bh},(∀d∈ds,lo n d)->loL n ds
 |[],_=>by unfold loL;trivial
 |d::ds,h=>by unfold loL;exact⟨h d mF0,kZ λe he=>h e (mO _ he)⟩
def yHK{S T:Sto}{d:MV}(h:lo S.length d)(hn: ∀l,d≠.loc l):zDS S (.val d) (S++T)=.ok (.val d) S:=by
 unfold zDS;rw [iP zOS];have e:(S++T).take S.length=S:=by simp
 cases d with
 |loc l=>exact absurd rfl (hn l)
 |_=>dsimp only;rw [iP h,e]
def yHL{S T:Sto}{ds:Bh}(h:loL S.length ds):zDS S (.new ds) (S++T)=.ok (.new ds) S:=by
 unfold zDS;rw [iP zOS];have e:(S++T).take S.length=S:=by simp
 dsimp only;rw [iP h,e]
def yHM{S T:Sto}{l:Nat}{ds:Bh}(hl:S.length<=l)(hS:(S++T)[l]? =some (.lst ds))(h:loL S.length ds):zDS S (.val (.loc l)) (S++T)=.ok (.new ds) S:=by
 unfold zDS;rw [iP zOS];have e:(S++T).take S.length=S:=by simp
 dsimp only;rw [iN (by omega),hS];dsimp only;rw [iP h,e]
def zFB{n:Nat}{F:List MV->Sto->R Er}{rs:List Er}{S T:Sto}{d:MV}(hn:rs.length=n)(hF:F (zR rs S).1 (zR rs S).2=.ok (.val d) (S++T))(h:lo S.length d)(hd: ∀l,d≠.loc l):zW n F rs S=.ok (.val d) S:=by unfold zW;rw [iP hn,hF];exact yHK h hd
def gF{n:Nat}{F:List MV->Sto->R Er}{rs:List Er}{S T:Sto}{ds:Bh}(hn:rs.length=n)(hF:F (zR rs S).1 (zR rs S).2=.ok (.new ds) (S++T))(h:loL S.length ds):zW n F rs S=.ok (.new ds) S:=by unfold zW;rw [iP hn,hF];exact yHL h
def zFC{n:Nat}{F:List MV->Sto->R Er}{rs:List Er}{S T:Sto}{l:Nat}{ds:Bh}(hn:rs.length=n)(hF:F (zR rs S).1 (zR rs S).2=.ok (.val (.loc l)) (S++T))(hl:S.length<=l)(hS:(S++T)[l]? =some (.lst ds))(h:loL S.length ds):zW n F rs S=.ok (.new ds) S:=by unfold zW;rw [iP hn,hF];exact yHM hl hS h
def zFD{n:Nat}{F:List MV->Sto->R Er}{rs:List Er}{S:Sto}{d:MV}(hn:rs.length=n)(hF:F (zR rs S).1 (zR rs S).2=.ok (.val d) S)(h:lo S.length d)(hd: ∀l,d≠.loc l):zW n F rs S=.ok (.val d) S:=zFB (T:=[]) hn (by rw [aN];exact hF) h hd
section
variable{S:Sto}
theorem as_bl(b:Bool)(S:Sto):asB (.val (.bl b)) S=.ok b S:=rfl
theorem as_int(i:Int)(S:Sto):asI (.val (.int i)) S=.ok (some i) S:=rfl
theorem yRN(b:Bool)(S:Sto):zHK (.val (.bl b)) S=.ok b S:=rfl
theorem add_int(i j:Int)(S:Sto):xY (.val (.int i)) (.val (.int j)) S=.ok (.val (.int (i+j))) S:=rfl
theorem sub_int(i j:Int)(S:Sto):zNF (.val (.int i)) (.val (.int j)) S=.ok (.val (.int (i - j))) S:=rfl
def add_str{x y:Ab}(h:x.length+y.length<=sizeLine):xY (.val (.str x)) (.val (.str y)) S=.ok (.val (.str (x++y))) S:=iP h
def yML{x y:Bh}(h:x.length+y.length<=sizeLine):xY (.val (.tup x)) (.val (.tup y)) S=.ok (.val (.tup (x++y))) S:=iP h
def zOT{p q:Er}{x y:Bh}(h1:lsW S p=some x)(h2:lsW S q=some y)(h:x.length+y.length<=sizeLine):xY p q S=.ok (.new (x++y)) S:=by
 have e:yAX p q S=.ok (.new (x++y)) S:=by unfold yAX;rw [h1,h2];exact iP h
 unfold xY;split
 ·cases h1
 ·cases h1
 ·cases h1
 ·exact e
theorem yRO{g:Int->Int->Bool}(i j:Int)(S:Sto):ibF g (.val (.int i)) (.val (.int j)) S=.ok (.val (.bl (g i j))) S:=rfl
def yMM(i j:Int):eqV (.int i) (.int j)=decide (i=j):=by
 show(i==j)=_;by_cases h:i=j
 ·subst h;simp
 ·rw [dF0 h];simpa using h
def yMN(x y:Ab):eqV (.str (mkS x)) (.str (mkS y))=decide (x=y):=by
 show(mkS x==mkS y)=_;by_cases h:x=y
 ·subst h;simp
 ·rw [dF0 h];have:mkS x≠mkS y:=λz=>h (zIT z);simpa using this
theorem zIX(n:Nat)(i j:Int):eqv S (n+1) (.int i) (.int j)=some (decide (i=j)):=by rw [<-yMM];rfl
theorem yBD(n:Nat)(x y:Ab):eqv S (n+1) (.str x) (.str y)=some (decide (x=y)):=by rw [<-yMN];rfl
theorem yRP(n:Nat)(x:Int)(y:Ab):eqv S (n+1) (.int x) (.str y)=some false:=rfl
theorem yRQ(n:Nat)(x:Ab)(y:Int):eqv S (n+1) (.str x) (.int y)=some false:=rfl
theorem yMO(d f:MV):eqF (.val d) (.val f) S=match eqv S (zQ+1) d f with |some k=>.ok (.val (.bl k)) S|none=>.no:=rfl
theorem yMP(d f:MV):neF (.val d) (.val f) S=match eqv S (zQ+1) d f with |some k=>.ok (.val (.bl !k)) S|none=>.no:=rfl
def yHN{d f:MV}{k:Bool}(h:eqv S (zQ+1) d f=some k):eqF (.val d) (.val f) S=.ok (.val (.bl k)) S:=by rw [yMO,h]
def yRR{d f:MV}{k:Bool}(h:eqv S (zQ+1) d f=some k):neF (.val d) (.val f) S=.ok (.val (.bl !k)) S:=by rw [yMP,h]
def eq_int(i j:Int)(S:Sto):eqF (.val (.int i)) (.val (.int j)) S=.ok (.val (.bl (decide (i=j)))) S:=yHN (zIX _ i j)
def eq_str(x y:Ab)(S:Sto):eqF (.val (.str x)) (.val (.str y)) S=.ok (.val (.bl (decide (x=y)))) S:=yHN (yBD _ x y)
def ne_int(i j:Int)(S:Sto):neF (.val (.int i)) (.val (.int j)) S=.ok (.val (.bl (!decide (i=j)))) S:=yRR (zIX _ i j)
theorem lt_int(i j:Int)(S:Sto):ltF (.val (.int i)) (.val (.int j)) S=.ok (.val (.bl (decide (i<j)))) S:=rfl
theorem lt_str(i j:Ab)(S:Sto):ltF (.val (.str i)) (.val (.str j)) S=.ok (.val (.bl (decide (i<j)))) S:=rfl
def yI{b:Int}(h:0<b)(h2:b<1073741824)(a:Int)(S:Sto):jU (.val (.int a)) (.val (.int b)) S=.ok (.val (.int (a / b))) S:=by
 refine iP ⟨h,?_⟩;have h3:b.natAbs<2 ^ 30:=by omega
 have:=(Nat.log2_lt (by omega:b.natAbs≠0)).mpr h3;omega
def mod_lit{b:Int}(h:0<b)(a:Int)(S:Sto):wZ (.val (.int a)) (.val (.int b)) S=.ok (.val (.int (a % b))) S:=iP h
def zTR{b:Int}(h: -(2 ^ 64)<b/\b<2 ^ 64)(a:Int)(S:Sto):zHO (.val (.int a)) (.val (.int b)) S=.ok (.val (.int (a * b))) S:=iP (Or.inr (Or.inl h))
def zAC{a:Int}(h: -(2 ^ 64)<a/\a<2 ^ 64)(b:Int)(S:Sto):zHO (.val (.int a)) (.val (.int b)) S=.ok (.val (.int (a * b))) S:=iP (Or.inl h)
def yBE{a b:Int}(h:yEB a b)(S:Sto):zNG (.val (.int a)) (.val (.int b)) S=.ok (.val (.int (a ^ b.toNat))) S:=iP h
theorem yMQ(ρ:Rho)(i:Nat)(d:MV)(S:Sto):zTJ ρ i (.val d) S=.ok (.next (ρ.set i (some d))) S:=rfl
theorem yMR(ρ:Rho)(i:Nat)(ds:Bh)(S:Sto):zTJ ρ i (.new ds) S=.ok (.next (ρ.set i (some (.loc S.length)))) (S++[.lst ds]):=rfl
theorem yMS(S:Sto):zR [] S=([],S):=rfl
theorem yMT(d:MV)(rs:List Er)(S:Sto):zR (.val d::rs) S=(d::(zR rs S).1,(zR rs S).2):=rfl
theorem zC{F G:AY}{ρ ρ':Rho}{S S':Sto}(h:F ρ S=.ok (.next ρ') S'):zN F G ρ S=G ρ' S':=by unfold zN;rw [h];rfl
theorem zIY{F G:AY}{ρ:Rho}{S S':Sto}{r:Er}(h:F ρ S=.ok (.ret r) S'):zN F G ρ S=.ok (.ret r) S':=by unfold zN;rw [h];rfl
def yO(S:Sto):stay [] S:=bI
def zS{gf:MV->Rho->Sto->R Rho}{b:AY}{gs:Bk}{d:MV}{ds:Bh}{ρ ρ0 ρ':Rho}{S0 S':Sto}(hg:gf d ρ S=.ok ρ0 S0)(h:b ρ0 S0=.ok (.next ρ') S')(hs:stay gs S'):kY gf b gs (d::ds) ρ S=kY gf b gs ds ρ' S':=by
 conv=>lhs;unfold kY
 rw [hg,bok,h,bok];dsimp only;rw [iP hs]
def zJV{t:AZ}{b:AY}{n:Nat}{ρ ρ':Rho}{S1 S2:Sto}(h1:t ρ S=.ok true S1)(h2:b ρ S1=.ok (.next ρ') S2):gX t b (n+1) ρ S=gX t b n ρ' S2:=by
 conv=>lhs;unfold gX
 rw [h1,bok,iP rfl,h2,bok]
def zRZ{t:AZ}{b:AY}{n:Nat}{ρ:Rho}{S1:Sto}(h1:t ρ S=.ok false S1):gX t b (n+1) ρ S=.ok (.next ρ) S1:=by
 conv=>lhs;unfold gX
 rw [h1,bok,iN xF0]
def zKM{α:Type}{xs:List α}{i:Int}(h0:0<=i)(h1:i<xs.length): ∃c,atI xs i=some c:=by refine⟨xs[i.toNat]'(by omega),?_⟩;unfold atI ixN;rw [iP h0,iP h1];exact gE0 _
def zNR{α:Type}{P:α->Prop}{xs:List α}{i:Int}{e:α}(h: ∀e∈xs,P e)(z:atI xs i=some e):P e:=by
 unfold atI at z
 cases q:ixN xs.length i with
 |none=>rw [q]at z;cases z
 |some j=>rw [q]at z;exact h e (mem_of_getElem? (show xs[j]? =some e from z))
def ix_str{x:Ab}{i:Int}{c:Nat}(h:x.length<=sizeLine)(hk:atI x i=some c):ixF (.val (.str x)) (.val (.int i)) S=.ok (.val (.str [c])) S:=by show(if x.length<=sizeLine then match atI x i with |some c=>R.ok (Er.val (.str [c])) S|none=>.no else .no)=_;rw [iP h,hk]
def ix_tup{ds:Bh}{i:Int}{d:MV}(hk:atI ds i=some d):ixF (.val (.tup ds)) (.val (.int i)) S=.ok (.val d) S:=by show(match atI ds i with |some d=>R.ok (Er.val d) S|none=>.no)=_;rw [hk]
def yHO{ds:Bh}{i:Int}{d:MV}(hk:atI ds i=some d):ixF (.new ds) (.val (.int i)) S=.ok (.val d) S:=by show(match atI ds i with |some d=>R.ok (Er.val d) S|none=>.no)=_;rw [hk]
def zCA{l:Nat}{ds:Bh}{i:Int}{d:MV}(hS:S[l]? =some (.lst ds))(hk:atI ds i=some d):ixF (.val (.loc l)) (.val (.int i)) S=.ok (.val d) S:=by
 have e:kL S (.val (.loc l))=some ds:=by unfold kL;dsimp only;rw [hS]
 show(match kL S (.val (.loc l))with |some ds=>getL ds (.val (.int i)) S|none=>.no)=_;rw [e];show(match atI ds i with |some d=>R.ok (Er.val d) S|none=>.no)=_;rw [hk]
def zDW{l:Nat}{ds:Bh}(hS:S[l]? =some (.lst ds)):zBI [.val (.loc l)] S=.ok (.val (.int ds.length)) S:=by
 have e:kL S (.val (.loc l))=some ds:=by unfold kL;dsimp only;rw [hS]
 have e2:itemsOf S (.val (.loc l))=some ds:=by unfold itemsOf;exact e
 show(match itemsOf S (.val (.loc l))with |some ds=>R.ok (Er.val (.int ds.length)) S|none=>.no)=_;rw [e2]
def bM{l:Nat}{ds:Bh}(hS:S[l]? =some (.lst ds)):kL S (.val (.loc l))=some ds:=by unfold kL;dsimp only;rw [hS]
def zNS{l:Nat}{ds:Bh}(hS:S[l]? =some (.lst ds)):lsW S (.val (.loc l))=some ds:=by unfold lsW;dsimp only;rw [hS]
def zIZ{l:Nat}{ds:Bh}(hS:S[l]? =some (.lst ds)):itL (.val (.loc l)) S=.ok ⟨ds,[(l,ds)]⟩ S:=by unfold itL;dsimp only;rw [hS]
def zFE{l:Nat}{ds:Bh}(hS:S[l]? =some (.lst ds)):stay [(l,ds)] S:=λp hp=>by
 have:p=(l,ds):=by simpa using hp
 subst this;exact hS
def zTS{j:Int}(h: -(2 ^ 62)<=j/\j<2 ^ 62):kR [.val (.int j)] S=.ok ⟨(List.range j.toNat).map λk=>.int (k:Nat),[]⟩ S:=iP h
def cut_str{x:Ab}(h:x.length<=sizeLine)(lo hi:Bc):zDN (.val (.str x)) lo hi S=.ok (.val (.str (bD x lo hi))) S:=iP h
def yHP{α:Type}(x:List α)(lo hi:Bc):(bD x lo hi).length<=x.length:=by unfold bD;rw [lT,length_drop];omega
def yHQ{α:Type}{x:List α}{lo hi:Bc}{a:α}(h:a∈bD x lo hi):a∈x:=List.mem_of_mem_drop (mem_of_mem_take h)
def nP{α:Type}(x:List α)(k:Int)(h0:0<=k):bD x none (some k)=x.take k.toNat:=by
 unfold bD;have h1:HT.sIx x.length 0 none=0:=rfl;rw [h1];have h2:HT.sIx x.length x.length (some k)=min k.toNat x.length:=by unfold HT.sIx;simp only;split<;>omega
 rw [h2,drop_zero,sub_zero];by_cases hk:k.toNat<=x.length
 ·rw [min_eq_left hk]
 ·rw [Nat.min_eq_right (by omega),take_length,take_of_length_le (by omega)]
def fits{n:Nat}(h:n<=1000000):n<=sizeLine:=by rw [sizeLine_eq];exact le_trans h (by decide)
def zHR{rs:List Er}(h:rs.length<=1000000):bG rs S=.ok (.new (zR rs S).1) (zR rs S).2:=iP (fits h)
def zZH{rs:List Er}(h:rs.length<=1000000):zFX rs S=.ok (.val (.tup (zR rs S).1)) (zR rs S).2:=iP (fits h)
def lst0(S:Sto):bG [] S=.ok (.new []) S:=zHR (by simp)
def lst1(a:MV)(S:Sto):bG [.val a] S=.ok (.new [a]) S:=zHR (by simp)
def lst2(a b:MV)(S:Sto):bG [.val a,.val b] S=.ok (.new [a,b]) S:=zHR (by simp)
def lst3(a b c:MV)(S:Sto):bG [.val a,.val b,.val c] S=.ok (.new [a,b,c]) S:=zHR (by simp)
def lst6(a b c d e f:MV)(S:Sto):bG [.val a,.val b,.val c,.val d,.val e,.val f] S=.ok (.new [a,b,c,d,e,f]) S:=zHR (by simp)
def tup2(a b:MV)(S:Sto):zFX [.val a,.val b] S=.ok (.val (.tup [a,b])) S:=zZH (by simp)
def tup3(a b c:MV)(S:Sto):zFX [.val a,.val b,.val c] S=.ok (.val (.tup [a,b,c])) S:=zZH (by simp)
theorem yHR(i:Int)(S:Sto):zBZ [.val (.int i),.val (.typ "str")] S=.ok (.val (.bl false)) S:=rfl
theorem yRS(i:Ab)(S:Sto):zBZ [.val (.str i),.val (.typ "str")] S=.ok (.val (.bl true)) S:=rfl
theorem yRT(i:Int)(S:Sto):zBZ [.val (.int i),.val (.typ "tuple")] S=.ok (.val (.bl false)) S:=rfl
theorem yRU(i:Ab)(S:Sto):zBZ [.val (.str i),.val (.typ "tuple")] S=.ok (.val (.bl false)) S:=rfl
theorem yRV(i:Bh)(S:Sto):zBZ [.val (.tup i),.val (.typ "tuple")] S=.ok (.val (.bl true)) S:=rfl
theorem yRW(i:Bool)(S:Sto):zBZ [.val (.bl i),.val (.typ "bool")] S=.ok (.val (.bl true)) S:=rfl
theorem zOU{gf:MV->Rho->Sto->R Rho}{cf:AZ}{ef:AX}{ρb:Rho}{gs:Bk}{P:MV->Prop}(hs:stay gs S):
  ∀{ds:Bh},(∀d∈ds, ∃ρ1 y,gf d ρb S=.ok ρ1 S/\cf ρ1 S=.ok true S/\ef ρ1 S=.ok (.val y) S/\P y)-> ∃out,yY gf cf ef ρb gs ds S=.ok out S/\out.length=ds.length/\ ∀o∈out,P o
 |[],_=>⟨[],rfl,rfl,λo h=>by simp at h⟩
 |d::ds,st=>by obtain⟨ρ1,y,h1,h2,h3,h4⟩:=st d mF0;obtain⟨out,e,hl,hp⟩:=zOU hs (ds:=ds) λd hd=>st d (mO _ hd);refine⟨y::out,?_,by rw [lC,lC,hl],λo ho=>(mC.mp ho).elim (λz=>z▸h4) (hp o)⟩;unfold yY;rw [h1,yW,bok,h2,yW,bok,iP rfl,h3,yW,bok];unfold dA;rw [bok,iP hs,e];rfl
def Nm(x:Ab):Prop:=1<=x.length/\x.length<=8/\ ∀c∈x,97<=c/\c<=122
def Vl:MV->Prop
 |.int i=> -(10 ^ 30)<i/\i<10 ^ 30
 |.str x=>Nm x
 |_=>False
def Vl.cases{d:MV}(h:Vl d):(∃i,d=.int i/\ -(10 ^ 30)<i/\i<10 ^ 30)\/ ∃x,d=.str x/\Nm x:=by
 cases d with
 |int i=>exact .inl ⟨i,rfl,h⟩
 |str x=>exact .inr ⟨x,rfl,h⟩
 |_=>exact h.elim
end
def Ite(K:Be)(k:Bool)(l:Addr):It:=
 ⟨λi H=> ∃xs x,SqK k K H l xs/\xs[i]? =some x,
   λi H v H'=> ∃p x,H p=none/\v=.ref p/\H'=upd H p (.tup [.int (i:Nat),x])/\(∀xs,SqK k K H l xs->xs[i]? =some x),
   λi H=> ∃xs,SqK k K H l xs/\xs.length<=i⟩
section
variable{prog:Program}{w:World}{A:Around}{E:VP}{s:Shared}{k:Bool}{e it l:Addr}{i:Nat}{its:Ag}
def yEH(hl:IsSeq k s.heap l its){Q:VP}
  (h: ∀h',EnSt k (s.heap.objs.size+1) s.heap.objs.size l 0 h'->(∀c o,s.heap.get? c=some o->h'.get? c=some o)->Q (.ref (s.heap.objs.size+1)) {s with heap:=h'}):
  wpAny (model prog w) A (call (.type "enumerate") [.ref l]) Q E s:=by
 refine callType_new F.called_enumerate (by decide) (F.typeCall_enumerate_1 _) (F.newCall_enumerate_1 _) (λobj=>F.args_object_init_2 obj _) F.entry_enumerate_new (zZG k l its) ⟨hl,?_⟩;have hz:(s.heap.push (zGB k l)).objs.size=s.heap.objs.size+1:=Heap.size_push ..;show _/\_;have he:IsEnum ((s.heap.push (zGB k l)).push {cls:=.type "enumerate",data:=.fields #[.none,.bool false,.ref s.heap.objs.size,rawInt 0,.none,.none]}) (s.heap.objs.size+1) s.heap.objs.size 0 .none:=by have:=Heap.get?_push_size (s.heap.push (zGB k l)) (o:={cls:=.type "enumerate",data:=.fields #[.none,.bool false,.ref s.heap.objs.size,rawInt 0,.none,.none]}) rfl;rw [hz]at this;exact this
 refine⟨⟨_,he,rfl⟩,h _ ⟨⟨.none,he⟩,IsSub.mk' (hP0 _ (Heap.get?_push_size _ rfl))⟩ λb o x=>hP0 _ (hP0 _ x)⟩
end
def yEI{P:Program}{w:World}{K:Be}{elts:Bd}{kt:Nat}{pt:Pos}{k:Bool}{e it l:Addr}(hne:e≠it):
  Turn P w K (.Tuple elts kt pt) (Ite K k l) [e,it] e (λi h=>EnSt k e it l i h) where
 mem:=by simp
 obj:=λi h st b hb=>by
  obtain⟨⟨old,he⟩,hs⟩:=st;have hb':b=e\/b=it:=by simpa using hb
  rcases hb' with rfl|rfl
  ·exact⟨_,he,λv q=>by cases q⟩
  ·exact hs.there
 keep:=λi h h' st kk=>by obtain⟨⟨old,he⟩,hs⟩:=st;exact⟨⟨old,kk e (by simp) _ he⟩,hs.move λo q=>kk it (by simp) o q⟩
 item:=by
  intro X hP hw hK hc i pins s σ H E I hf st hg;subst hP hw hK;obtain⟨xs,x,q1,hx⟩:=hg;obtain⟨its,r1,p1,_⟩:=I.seqK q1;obtain⟨u,hu,ru⟩:=r1.get hx;obtain⟨⟨old,he⟩,hs⟩:=st;have hT:s.TypeIs (.ref e) "enumerate":=⟨_,he,rfl⟩
  unfold pyNext
  refine wB0 (wpAny_attempt (wpAny_callSpecial?_slot (name:=Str.ofString "__next__") hT F.slot_enumerate_next (wpAny_call_entry F.slot_enumerate_next hT F.entry_enumerate_next
   (yMJ he hs p1 (x:=u) (by simpa using hu) hne λh' a1 a2 a3 a4=>wP0 ⟨_,rfl,?_⟩) (F.args_enumerate_next_1 _))))
  refine wpAny_letOwnedTupleGo_enum a1 λh2 z2 sb2=>?_;have hpn:H s.heap.objs.size=none:=I.hok.fresh (le_refl _)
  have I0:Inv X pins σ (upd H s.heap.objs.size (.tup [.int (i:Nat),x])) {s with heap:=s.heap.push {cls:=.type "tuple",data:=.seq #[.int i s.toks,u]},toks:=s.toks+1}:=
   I.laid (t':=s.toks+1) (o:=.tup [.int (i:Nat),x]) (λb o e=>hP0 _ e) (le_refl _) ⟨by show 2<=sizeLine;decide,[.int i s.toks,u],.cons ⟨_,rfl⟩ (.cons ru .nil),⟨_,Heap.get?_push_size _ rfl,rfl,_,rfl⟩⟩
  have lt: ∀b∈[e,it],b<s.heap.objs.size:=λb hb=>by
   have hb':b=e\/b=it:=by simpa using hb
   rcases hb' with rfl|rfl
   ·exact Heap.lt_size he
   ·obtain⟨o,eo,_⟩:=hs.there;exact Heap.lt_size eo
  have fr: ∀b∈[e,it],upd H s.heap.objs.size (.tup [.int (i:Nat),x]) b=none:=λb hb=>by rw [zU (ne_of_lt (lt b hb))];exact(hf b hb).1
  have mv: ∀b o,b∉[e,it]->(s.heap.push {cls:=.type "tuple",data:=.seq #[.int i s.toks,u]}).get? b=some o->h2.get? b=some o:=λb o hb eo=>by
   simp only [mC,nM0,or_false,not_or]at hb;refine sb2.extBut _ _ hb.1 ?_;by_cases hbs:b=s.heap.objs.size
   ·subst hbs;rw [Heap.get?_push_size _ rfl]at eo;cases eo;exact a3
   ·rw [Heap.get?_push_ne _ _ _ hbs]at eo;exact a4 b o hb.1 hb.2 eo
  have I2:=I0.turnedL (h':=h2) (t':=s.toks+1) mv λb hb=>let ⟨_,c2,c3,c4,c5,c6⟩:=hf b hb;⟨fr b hb,c2,c3,c4,c5,c6⟩;refine⟨.ref s.heap.objs.size,_,I2,rfl,⟨s.heap.objs.size,x,hpn,rfl,rfl,λzs hz=>?_⟩,⟨⟨u,?_⟩,?_⟩,fr⟩
  ·rw [I.seqK_inj hz q1];exact hx
  ·simpa using z2
  ·exact a2.move λo eo=>sb2.extBut _ _ (Ne.symm hne) eo
 done:=by
  intro X hP hw hK hc i pins s σ H E I hf st hg;subst hP hw hK;obtain⟨xs,q1,hx⟩:=hg;obtain⟨its,r1,p1,_⟩:=I.seqK q1;obtain⟨⟨old,he⟩,hs⟩:=st;have hT:s.TypeIs (.ref e) "enumerate":=⟨_,he,rfl⟩
  have e1:=r1.length;unfold pyNext;refine wB0 (wpAny_attempt (wpAny_callSpecial?_slot (name:=Str.ofString "__next__") hT F.slot_enumerate_next (wpAny_call_entry F.slot_enumerate_next hT F.entry_enumerate_next ?_ (F.args_enumerate_next_1 _))));show wpAny _ _ (field (.ref e) 2 >>= _) _ _ _;refine wB0 (wpAny_field he rfl (x:=.ref it) rfl ?_);refine wB0 (zTP (I.ok.hd hc) hs p1 (by simp;omega) λh' x hk hx'=>?_);obtain⟨o,ho,hcl⟩:=hx';refine wB0 (wpAny_isInstance (T:="StopIteration") (b:=true) ⟨o,ho,hcl⟩ isSubtype_stop (wP0 ⟨rfl,?_⟩));refine I.turnedL (h':=h') (t':=s.toks) (λb o hb eo=>?_) hf;simp only [mC,nM0,or_false,not_or]at hb;exact hk b o hb.2 eo
 self:=λ_ _ _ _ _ st h=>let ⟨⟨_,he⟩,_⟩:=st;wpAny_pyIter_enum he h
def iEnum(K:Be)(ta:TA):TI:=λσ H R=>ta σ H λvs H1=> ∃k l,vs=[.ref l]/\(∃xs,SqK k K H1 l xs)/\R (Ite K k l) H1
section
variable{X:Cx}{W:XW}{a:Expr}{elts:Bd}{kt:Nat}{pt p pos:Pos}{ta:TA}{af:Rho->Sto->R (List Er)}
def yMU(hg:Gl X "enumerate")(hm:X.mg "enumerate"=none)(ha:PA X [a] ta)(hs:starEach [a] X.env=[(false,eval a X.env)]:=by rfl):
  PI X (.Tuple elts kt pt) (.Call (.Name "enumerate" p) [a] [] pos) (iEnum X.K ta):=by
 intro pins s σ H R I h;refine Call_ (zLG I hg hm yMI (PyProof.Rows.callWith_type1 (thn (ha pos pins s σ H _ I h) λus s1 ⟨vs,H1,I1,r1,q1⟩=>?_) (by rw [hs];rfl) (by rfl)));obtain⟨k,l,rfl,⟨xs,c1⟩,q⟩:=q1
 cases r1 with
 |cons r rr=>
  cases rr;cases r;obtain⟨its,v1,p1,_⟩:=I1.seqK c1;refine yEH p1 λh' st hk=>let ⟨⟨_,he⟩,_⟩:=id st;wpAny_pyIter_enum he ?_;have I2:Inv X pins σ H1 {s1 with heap:=h'}:=I1.kept (t':=s1.toks) hk;refine⟨_,_,_,_,H1,rfl,I2,yEI (ne_of_gt (lt_succ_self _)),st,λb hb=>?_,q⟩
  have hle:s1.heap.objs.size<=b:=by
   have hb':b=s1.heap.objs.size+1\/b=s1.heap.objs.size:=by simpa using hb
   rcases hb' with h|h<;>rw [h]<;>(first |exact le_refl _|exact Nat.le_add_right _ _)
  exact I1.fpOk hle (I1.hok.fresh hle)
def zTT(xs:Bh):List MV:=xs.zipIdx.map λp=>.tup [.int (p.2:Nat),p.1]
def itE(rs:List Er)(S:Sto):R Wk:=match rs with
 |[p]=>match srcOf S p with
  |some a=>.ok ⟨zTT a.ds,a.gs⟩ S
  |none=>.no
 |_=>.no
def yBF(hg:Gl X "enumerate")(hm:X.mg "enumerate"=none)(ha:PAm X W [a] af)(hs:starEach [a] X.env=[(false,eval a X.env)]:=by rfl):
  PIm X W (.Tuple elts kt pt) (.Call (.Name "enumerate" p) [a] [] pos) (λρ S=>(af ρ S).bind itE):=by
 obtain⟨t,ha,k⟩:=ha;refine⟨_,yMU hg hm ha hs,λα ρ S σ H Rc wd sl q=>k α ρ S σ H _ wd sl (q.bind λvs rs S1 α1 H1 e x1 w1 d1 q1=>?_)⟩
 replace q1:=q1.shift x1
 unfold itE at q1;split at q1
 ·rename_i r1;split at q1
  ·rename_i s1 e1;obtain⟨u,rfl,du⟩:=zVT d1;obtain⟨l1,P1,rfl,p1,D1⟩:=zTQ w1 e1 du;have g1:=D1.get _ _ _ p1;have hlen:(zTT s1.ds).length=s1.ds.length:=by unfold zTT;rw [lM,length_zipIdx]
   refine⟨s1.k,l1,rfl,⟨_,g1.choose_spec.1⟩,q1.here (u:=Ite X.K s1.k l1) w1 ⟨λα S H=>P1 α S H,?_,p1,?_,?_⟩⟩
   ·intro i α2 S2 H2 b1 w2;obtain⟨us,c1,c2⟩:=D1.get _ _ _ b1;have hl:=c2.length;refine⟨λhi=>?_,λhi=>?_⟩
    ·have hi:i<(zTT s1.ds).length:=hi;have h1:i<us.length:=by omega
     refine⟨⟨us,us[i],c1,gE0 h1⟩,?_⟩;rintro x H' ⟨pp,xx,hp,rfl,rfl,hx⟩;obtain⟨d,hd,dd⟩:=c2.get (hx us c1);have xn:=w2.newx (o:=.tup [.int (i:Nat),xx]) hp;have wn:=w2.new (o:=.tup [.int (i:Nat),xx]) hp;refine⟨xn,wn,D1.stays _ _ _ _ _ _ b1 xn wn (D1.st _ _ _ b1),.tup [.int (i:Nat),d],?_,?_⟩
     ·unfold zTT;rw [getElem?_map,List.getElem?_zipIdx,hd];simp
     ·exact zDQ (.of yV) (yD (xW _) (yD (dd.ext xn) yS))
    ·have hi:(zTT s1.ds).length<=i:=hi;exact⟨us,c1,by omega⟩
   ·intro α1 S1 H1 α2 S2 H2 b1 x w hs;exact D1.stays _ _ _ _ _ _ b1 x w hs
   ·exact D1.st _ _ _ p1
  ·exact q1.elim
 ·exact q1.elim
end
instance:DecidableEq MV:=λ_ _=>Classical.propDecidable _
def look(kvs:Ca)(k:MV):Option MV:=(kvs.find? λp=>decide (p.1=k)).map (·.2)
def putK(kvs:Ca)(k d:MV):List (MV×MV):=if(look kvs k).isSome=true then kvs.map (λp=>if p.1=k then(p.1,d)else p)else kvs++[(k,d)]
section
variable{X:Cx}{pins:Ba}{σ:St}{H:Hp}{s:Shared}{α:Ah}
def zSA(p:MV×MV)(kvs:Ca)(k:MV):look (p::kvs) k=if p.1=k then some p.2 else look kvs k:=by
 unfold look;rw [find?_cons];by_cases h:p.1=k
 ·rw [dT0 h,iP h];rfl
 ·rw [dF0 h,iN h]
end
section
variable{X:Cx}{W:XW}{a b o i:Expr}{f g:AX}{pos:Pos}
def zZI{pins:Ba}{σ:St}{H:Hp}{s:Shared}(I:Inv X pins σ H s):sysModules<s.heap.objs.size:=lt_trans (by decide) ((I.mod.glob.keeps I.bk).lt)
def Wd.put{gg:Gm}{α:Ah}{S:Sto}{H:Hp}{p:Addr}{ho:HO}{m:MO}(w:Wd gg α S H)(hp:H p=none)(q:ObD gg (α++[p]) (upd H p ho) p m):Ext α H (α++[p]) (upd H p ho)/\Wd gg (α++[p]) (S++[m]) (upd H p ho):=by
 have x:=w.newx (o:=ho) hp;have nw:=w.new (o:=ho) hp;have np:=w.fresh hp;refine⟨⟨⟨⟨[p],rfl⟩,x.tup,x.frz⟩,λb hb=>?_,x.keep,x.has⟩,⟨?_,?_,λl c ob h1 h2=>?_⟩⟩
 ·rcases mem_append.mp hb with h|h
  ·exact .inl h
  ·rw [mS.mp h];exact .inr hp
 ·rw [lA,lA,w.len];rfl
 ·exact nodup_append.mpr ⟨w.nd,by simp,λa ha c hc=>by rw [mS.mp hc];rintro rfl;exact np ha⟩
 ·by_cases hl:l<α.length
  ·rw [getElem?_append_left hl]at h1;rw [getElem?_append_left (by rw [<-w.len];exact hl)]at h2;exact(nw.obj l c ob h1 h2).move (Ex0.grow α [p] _) rfl
  ·have hl':l=α.length:=by have:=(gS0.mp h1).1;rw [lA,lS]at this;omega
   subst hl';rw [getElem?_append_right (le_refl _),sub_self]at h1;rw [getElem?_append_right (by rw [w.len];exact le_refl _),w.len,sub_self]at h2;cases h1;cases h2;exact q
def zWB(S:Sto):R Er:=.ok (.val (.loc S.length)) (S++[.dic []])
def zOV:PEm X W (.Dict [] [] pos) (λ_ S=>zWB S):=by
 refine⟨λσ H Q=> ∀p,H p=none->Q (.ref p) (upd H p (.dK [])),λpins s σ H Q I h=>?_,λα ρ S σ H Q wd sl q p hp=>?_⟩
 ·exact wpAny_Dict_empty ⟨.ref s.heap.objs.size,_,I.laid (a:=s.heap.objs.size) (o:=.dK []) (t':=s.toks) (λ_ _ q=>hP0 _ q) (le_refl _)
   ⟨zero_le _,beq_eq_false_iff_ne.mpr (Ne.symm (ne_of_lt (zZI I))),[],.nil,Heap.DictOf.new s.heap⟩,rfl,h _ (I.hok.fresh (le_refl _))⟩
 ·obtain⟨x,w'⟩:=wd.put (ho:=.dK []) (m:=.dic []) hp (.inl ⟨[],yV,.nil⟩);exact q (.ref p) (α++[p]) _ x w' (DenE.val (zIU (by rw [<-wd.len,getElem?_append_right (le_refl _),sub_self];rfl)))
end
def fn_no{P:Program}{w:World}{K:Be}{mg:Aj}{base:Heap}{k m:Nat}{f:Addr}{fd:FuncData}{ps:Ai}{g:Gm}:FnOk P w K mg base CX0 k f fd ps (spM g m λ_ _=>.no):=
 ⟨λvs H Q E ⟨_,_,_,_,_,_,q⟩=>q.elim,λ_ _ _ _ _ _ _ _ _ _ _ _ _ ⟨_,_,_,_,_,_,q⟩=>q.elim⟩
def FsD(g:Gm)(α:Ah)(H:Hp)(d:Option Addr)(fs:List (Str×MV)):Prop:=fs=[]\/ ∃dx gs od,d=some dx/\H dx=some (.frz od (.xd gs))/\DenF g.K α H fs gs
abbrev WE(g:Gm)(E:XK):XW:=λc fs _ α H=> ∀C d,g.mg c=some (.ref C)->FsD g α H d fs->E (.ref C) d H
def yRX:MV->Bool
 |.non=>true
 |.bl _=>true
 |.int _=>true
 |.str _=>true
 |_=>false
def Post.wmono{β τ:Type}[Dn β τ]{g:Gm}{W W':XW}{α:Ah}{H:Hp}(f: ∀c fs S α' H',W c fs S α' H'->W' c fs S α' H'): ∀{m:R β}{Q:τ->Hp->Prop},Post g W α H m Q->Post g W' α H m Q
 |.ok b S,Q,q=>q
 |.exc c fs S,_,q=>λα' H' x w=>f _ _ _ _ _ (q α' H' x w)
 |.no,_,q=>q
def XCl(K:Be)(C:Addr)(bm:Ae)(init:Option Value):Prop:=
 ∃nm q N bs hd sn sub ab col dd k0 k1 k2 k3 k5,K.lookup C=some (excClassObj nm q C N bs bm hd sn sub ab col dd k0 k1 k2 k3 k5 "ValueError.__new__")/\PySem.W.nsOkIn K N=true/\PySem.W.nsIn K N "__init__"=some init/\(∀n∈qn,PySem.W.nsIn K N n=some none)/\hd=true
def XEach(K:Be)(mg:Aj)(M:Addr):List (Str×Addr)->Prop
 |[]=>True
 |(c,C)::r=>(mg c=some (.ref C)/\ ∃i,XCl K C (.ref M::bmV) i)/\XEach K mg M r
theorem XEach.at{K:Be}{mg:Aj}{M:Addr}: ∀{cs:List (Str×Addr)},XEach K mg M cs-> ∀{c C},(c,C)∈cs->mg c=some (.ref C)/\ ∃i,XCl K C (.ref M::bmV) i
 |(c,C)::r,h,c',C',z=>by
  rcases mC.mp z with z|z
  ·cases z;exact h.1
  ·exact XEach.at h.2 z
def spX(g:Gm)(n:Nat)(F:List MV->Sto->R Er):Sp:=λvs H Q E=> ∃α S ds,Wd g α S H/\DenL g.K α H ds vs/\ds.length=n/\Post g (WE g E) α H (F ds S) Q
def yBG(n:Nat)(F:List MV->Sto->R Er)(rs:List Er)(S:Sto):R Er:=if rs.length=n then(match F (zR rs S).1 (zR rs S).2 with
 |.ok r S2=>zDS S r S2
 |.exc c fs S2=>if fs.all (λp=>yRX p.2)=true then(zDS S (.val .non) S2).bind λ_ S3=>.exc c fs S3 else .no
 |.no=>.no)else .no
section
variable{P:Program}{w:World}{K:Be}{mg:Aj}{base:Heap}
def _root_.L2.FnOk.noX{k n:Nat}{f:Addr}{fd:FuncData}{ps:Ai}{g:Gm}{F:List MV->Sto->R Er}(G:FnOk P w K mg base (CXe P w) k f fd ps (spX g n F)):FnOk P w K mg base CX0 k f fd ps (spM g n F):=by
 have up: ∀{vs H Q}, ∀{E},spM g n F vs H Q E->spX g n F vs H Q E0:=λ⟨α,S,ds,h1,h2,h3,h4⟩=>⟨α,S,ds,h1,h2,h3,h4.wmono λ_ _ _ _ _ z=>z.elim⟩
 refine⟨λvs H Q E h=>G.len vs H Q E0 (up h),λA outer s H args us vs Q E hr e0 hb hv h=>codeAny_mono (G.run A outer s H args us vs Q E0 hr e0 hb hv (up h)) λr s' hq=>?_⟩
 cases r with
 |error e=>
  obtain⟨_,_,_,_,_,_,_,_,_,_,_,_,_,_,_,z⟩:=hq;exact z
 |ok fl=>cases fl<;>exact hq
end
end M
end L2
namespace L2
open PySem PySem.Spec PyProof.Rows
structure Out(X:Cx)(pins:Ba)(H:Hp)(s:Shared)(b:Addr):Prop where
 s0:X.s₀.heap.get? b=none
 h:H b=none
 pin: ∀p∈X.pn++pins,p.1≠b
 fld: ∃o vs,s.heap.get? b=some o/\o.data=.fields vs
section
variable{X:Cx}{pins:Ba}{σ:St}{H:Hp}{s:Shared}{e T b:Addr}{h':Heap}
def Out.ne(o:Out X pins H s b){c:Addr}{oc:Obj}(hc:s.heap.get? c=some oc)(nf: ∀vs,oc.data≠.fields vs):c≠b:=λz=>by obtain⟨ob,vs,h1,h2⟩:=o.fld;rw [z,h1]at hc;cases hc;exact nf vs h2
def Out.loc(o:Out X pins H s b)(I:Inv X pins σ H s):X.env.locals≠b:=by obtain⟨m,⟨oL,es,ep,h1,h2,_⟩,_⟩:=I.loc;exact o.ne h1 λvs z=>by rw [h2]at z;cases z
end
end L2
namespace L2
namespace M
open PySem PySem.Spec PyProof.Rows
def endF(i:Nat):Fl->Sto->R Fl
 |.next ρ,S=>.ok (.next (ρ.set i none)) S
 |.ret r,S=>.ok (.ret r) S
 |.brk ρ,S=>.ok (.brk (ρ.set i none)) S
 |.cont ρ,S=>.ok (.cont (ρ.set i none)) S
def tryF(ns:Ai)(i:Nat)(kn:Er->Sto->R Fl)(Fh:AY)(ρ:Rho):R Er->R Fl
 |.ok r S=>kn r S
 |.exc c fs S=>if c∈ns then(noX (Fh (ρ.set i (some (.loc S.length))) (S++[.ins c fs]))).bind (endF i)else .no
 |.no=>.no
end M
end L2
namespace Srt
open PySem PyProof.Rows
def yMV:Bool->Keyed->Array Keyed->Nat->Nat->Nat->StateT SortSt Sem (Option Nat):=sortPriv% PySem.Builtin.gallop
section
variable{M:Model}{A:Around}{E:VP}{s:Shared}{σ:Type}
def zWC{x:String}{Q:Unit->σ->Prop}{st:σ}(h:Q () st):wpS M A E s (liftM (rule x):StateT σ Sem Unit) Q st:=wpS_lift (wpAny_rule ⟨rfl,h⟩)
end
end Srt
set_option autoImplicit false
namespace Srt
variable{β:Type}{le:β->β->Prop}
structure Two(le:β->β->Prop)(T out xs ys:List β):Prop where
 hx:(out++xs).Pairwise le
 hy:(out++ys).Pairwise le
 pm:(out++(xs++ys)).Perm T
structure TwoR(le:β->β->Prop)(T xs ys R:List β):Prop where
 hx:(xs++R).Pairwise le
 hy:(ys++R).Pairwise le
 pm:(xs++ys++R).Perm T
end Srt
set_option autoImplicit false
namespace Srt
open PySem PyProof.Rows
abbrev SM:=StateT SortSt Sem
abbrev G3:=Option (Option Nat)×Nat×Nat
end Srt
set_option autoImplicit false
namespace Srt
open PySem PyProof.Rows
section
variable{M:Model}{A:Around}{E:VP}{s:Shared}
structure Cmp(M:Model)(A:Around)(E:VP)(s:Shared)(kd:SortKind)(D:Keyed->Prop)(lt:Keyed->Keyed->Bool):Prop where
 go: ∀x y,D x->D y-> ∀st:SortSt,kindOf st=kd-> ∀Q:Option Bool->SortSt->Prop,Q (some (lt x y)) st->wpS M A E s (lt' x y) Q st
 tr: ∀x y z,lt y x=false->lt z y=false->lt z x=false
 as: ∀x y,lt x y=true->lt y x=false
variable{kd:SortKind}{D:Keyed->Prop}{lt:Keyed->Keyed->Bool}
abbrev Le(lt:Keyed->Keyed->Bool)(x y:Keyed):Prop:=lt y x=false
def Cmp.rf(C:Cmp M A E s kd D lt)(x:Keyed):Le lt x x:=by
 show lt x x=false
 cases h:lt x x with
 |false=>rfl
 |true=>exact absurd h (by rw [C.as x x h];simp)
def SL(lt:Keyed->Keyed->Bool)(l:List Keyed)(b n:Nat):Prop:= ∀i j x y,i<=j->j<n->l[b+i]? =some x->l[b+j]? =some y->lt y x=false
def yBH{st:SortSt}{v:Array Keyed}{i:Nat}{Q:Keyed->SortSt->Prop}{x:Keyed}(e:v.toList[i]? =some x)(h:Q x st):wpS M A E s (elem' v i) Q st:=by
 rw [elem'_eq];have:v[i]? =some x:=by rw [<-Array.getElem?_toList];exact e
 rw [this];exact wpS_pure h
def yOY{v:Array Keyed}{i:Nat}(h:i<v.size): ∃x,v.toList[i]? =some x:=⟨v.toList[i]'(by simpa using h),gE0 _⟩
end
end Srt
set_option autoImplicit false
namespace Srt
open PySem PyProof.Rows
abbrev V:=Array Keyed
abbrev L6:=Option V×V×Nat×Nat×Nat×Nat
abbrev dnL(a b o:V)(i j:Nat):V:=o++a.extract i a.size++b.extract j b.size
abbrev laL(a b o:V)(i j:Nat):V:=o++b.extract j b.size++a.extract i a.size
def one1(a b:V)(g:Nat)(c:L6):SM (ForInStep L6):=
 elem' b c.2.2.2.1 >>= λy=>elem' a c.2.2.1 >>= λx=>lt' y x >>= λr=>match r with
  |some q=>if q=true then elem' b c.2.2.2.1 >>= λy=>
     if(c.2.2.2.1+1==b.size)=true then pure (.done (some (dnL a b (c.2.1.push y) c.2.2.1 (c.2.2.2.1+1)),c.2.1.push y,c.2.2.1,c.2.2.2.1+1,0,c.2.2.2.2.2+1))
     else if c.2.2.2.2.2+1>=g then pure (.done (none,c.2.1.push y,c.2.2.1,c.2.2.2.1+1,0,c.2.2.2.2.2+1))
     else pure (.yield (none,c.2.1.push y,c.2.2.1,c.2.2.2.1+1,0,c.2.2.2.2.2+1))
    else elem' a c.2.2.1 >>= λx=>
     if(c.2.2.1+1+1==a.size)=true then pure (.done (some (laL a b (c.2.1.push x) (c.2.2.1+1) c.2.2.2.1),c.2.1.push x,c.2.2.1+1,c.2.2.2.1,c.2.2.2.2.1+1,0))
     else if c.2.2.2.2.1+1>=g then pure (.done (none,c.2.1.push x,c.2.2.1+1,c.2.2.2.1,c.2.2.2.2.1+1,0))
     else pure (.yield (none,c.2.1.push x,c.2.2.1+1,c.2.2.2.1,c.2.2.2.2.1+1,0))
  |_=>pure (.done (some (dnL a b c.2.1 c.2.2.1 c.2.2.2.1),c.2.1,c.2.2.1,c.2.2.2.1,c.2.2.2.2.1,c.2.2.2.2.2))
def in1(a b:V)(t g:Nat)(c:L6):SM L6:=forIn [0:t] c λ_ c=>one1 a b g c
end Srt
set_option autoImplicit false
namespace Srt
open PySem PyProof.Rows
def Sg(st st':SortSt):Prop:= ∃g,st'=SortSt.mk' (kindOf st) (arrOf st) (pendingOf st) g (failedOf st)
theorem Sg.kind{st st':SortSt}(h:Sg st st'):kindOf st'=kindOf st:=by obtain⟨g,rfl⟩:=h;rfl
section
variable{M:Model}{A:Around}{E:VP}{s:Shared}{kd:SortKind}{D:Keyed->Prop}{lt:Keyed->Keyed->Bool}{a b:V}
abbrev TwoA(lt:Keyed->Keyed->Bool)(a b o:V)(i j:Nat):Prop:=Two (Le lt) (a.toList++b.toList) o.toList (a.toList.drop i) (b.toList.drop j)
def FinA(lt:Keyed->Keyed->Bool)(a b r:V):Prop:=r.toList.Pairwise (Le lt)/\r.toList.Perm (a.toList++b.toList)
def TwoA.sa{o:V}{i j:Nat}(h:TwoA lt a b o i j):(a.toList.drop i).Pairwise (Le lt):=(pairwise_append.mp h.hx).2.1
def TwoA.len{o:V}{i j:Nat}(h:TwoA lt a b o i j):o.size+((a.size - i)+(b.size - j))=a.size+b.size:=by have:=h.pm.length_eq;simpa [lA,length_drop]using this
def I1(lt:Keyed->Keyed->Bool)(a b o:V)(i j:Nat):Prop:=i+1<a.size/\j<b.size/\TwoA lt a b o i j
end
end Srt
set_option autoImplicit false
namespace Srt
open PySem PyProof.Rows
abbrev H5:=Option V×Nat×Nat×V×Nat
abbrev H6:=Option V×Nat×Nat×V×Nat×Nat
abbrev H7:=Option V×Nat×Nat×V×Nat×Nat×Nat
abbrev dnH(a b o:V)(i j:Nat):V:=a.extract 0 i++b.extract 0 j++o.reverse
abbrev fbH(a b o:V)(i j:Nat):V:=b.extract 0 j++a.extract 0 i++o.reverse
def hw4(a b o:V)(i j g p q:Nat):SM (ForInStep H7):=
 elem' a (i - 1) >>= λx=>if(i - 1==0)=true then pure (.done (some (dnH a b (o.push x) (i - 1) j),i - 1,j,o.push x,g,p,q))
  else if(decide (p<7)&&decide (q<7))=true then pure (.done (none,i - 1,j,o.push x,g,p,q))else pure (.yield (none,i - 1,j,o.push x,g,p,q))
def hw3(a b o:V)(i j g p q:Nat):SM (ForInStep H7):=
 elem' b (j - 1) >>= λy=>if(j - 1==1)=true then pure (.done (some (fbH a b (o.push y) i (j - 1)),i,j - 1,o.push y,g,p,q))
  else elem' a (i - 1) >>= λx=>yMV true x b 0 (j - 1) (j - 1 - 1) >>= λr=>match r with
   |some k=>if j - 1 - k>0 then
      if(k==1)=true then pure (.done (some (fbH a b (o.push y++(b.extract k (j - 1)).reverse) i k),i,k,o.push y++(b.extract k (j - 1)).reverse,g,p,j - 1 - k))
      else if(k==0)=true then pure (.done (some (dnH a b (o.push y++(b.extract k (j - 1)).reverse) i k),i,k,o.push y++(b.extract k (j - 1)).reverse,g,p,j - 1 - k))
      else hw4 a b (o.push y++(b.extract k (j - 1)).reverse) i k g p (j - 1 - k)
     else hw4 a b (o.push y) i (j - 1) g p (j - 1 - k)
   |_=>pure (.done (some (dnH a b (o.push y) i (j - 1)),i,j - 1,o.push y,g,p,q))
section
variable{M:Model}{A:Around}{E:VP}{s:Shared}{kd:SortKind}{D:Keyed->Prop}{lt:Keyed->Keyed->Bool}{a b:V}
abbrev TwoH(lt:Keyed->Keyed->Bool)(a b o:V)(i j:Nat):Prop:=TwoR (Le lt) (a.toList++b.toList) (a.toList.take i) (b.toList.take j) o.toList.reverse
def TwoH.sa{o:V}{i j:Nat}(h:TwoH lt a b o i j):(a.toList.take i).Pairwise (Le lt):=(pairwise_append.mp h.hx).1
def TwoH.len{o:V}{i j:Nat}(h:TwoH lt a b o i j)(h1:i<=a.size)(h2:j<=b.size):o.size+(i+j)=a.size+b.size:=by have:=h.pm.length_eq;simp only [lA,lT,List.length_reverse,Array.length_toList]at this;omega
def J1(lt:Keyed->Keyed->Bool)(a b o:V)(i j:Nat):Prop:=1<=i/\i<=a.size/\2<=j/\j<=b.size/\TwoH lt a b o i j
def R6(lt:Keyed->Keyed->Bool)(a b:V)(n:Nat)(c:H6):Prop:= ∃i j o p q,c=(none,i,j,o,p,q)/\J1 lt a b o i j/\n<=o.size
def S6(lt:Keyed->Keyed->Bool)(a b:V)(n:Nat)(c:H6):Prop:=(∃r e,c=(some r,e)/\FinA lt a b r)\/R6 lt a b n c
end
end Srt
set_option autoImplicit false
namespace Srt
open PySem PyProof.Rows
abbrev C2:=Option (Option Nat)×Nat
abbrev C3:=Option (Option Nat)×Nat×Nat
def ascL(lo a n:Nat):SM C2:=forIn [a:n] ((none,a):C2) λ_ c=>ltAt' (lo+c.2) (lo+c.2 - 1) >>= λo=>match o with
 |some q=>if q=true then pure (.done (none,c.2))else pure (.yield (none,c.2+1))
 |_=>pure (.done (some none,c.2))
def tl3(lo m n:Nat):SM (Option Nat):=reverseSlice' lo (lo+m) >>= λ_=>ascL lo m n >>= λc=>match c.1 with
 |some r=>pure r
 |none=>pure (some c.2)
def dscL(lo a n:Nat):SM C3:=forIn [a:n] ((none,a,0):C3) λ_ c=>ltAt' (lo+c.2.1) (lo+c.2.1 - 1) >>= λo=>match o with
 |some q=>if q=true then
    if c.2.2>0 then reverseSlice' (lo+c.2.1 - (c.2.2+1)) (lo+c.2.1) >>= λ_=>pure (.yield (none,c.2.1+1,0))else pure (.yield (none,c.2.1+1,0))
   else ltAt' (lo+c.2.1 - 1) (lo+c.2.1) >>= λo=>match o with
    |some q=>if q=true then pure (.done (none,c.2.1,c.2.2))else pure (.yield (none,c.2.1+1,c.2.2+1))
    |_=>pure (.done (some none,c.2.1,c.2.2))
 |_=>pure (.done (some none,c.2.1,c.2.2))
def dscP(lo m n:Nat):SM (Option Nat):=liftM (rule "list.sort.descending-run") >>= λ_=>dscL lo (m+1) n >>= λc=>match c.1 with
 |some r=>pure r
 |none=>if c.2.2>0 then reverseSlice' (lo+c.2.1 - (c.2.2+1)) (lo+c.2.1) >>= λ_=>tl3 lo c.2.1 n else tl3 lo c.2.1 n
def cntR(lo n:Nat):SM (Option Nat):=ascL lo 1 n >>= λc=>match c.1 with
 |some r=>pure r
 |none=>if(c.2==n)=true then pure (some c.2)else if c.2>1 then ltAt' lo (lo+c.2 - 1) >>= λo=>(match o with
    |some q=>if q=true then pure (some c.2)else reverseSlice' lo (lo+c.2) >>= λ_=>dscP lo c.2 n
    |_=>pure none)
   else dscP lo c.2 n
theorem zQT(lo n:Nat):countRun' lo n=cntR lo n:=by kernel_rfl
def binI(lo k:Nat):SM (Option Bool×Nat×Nat):=forIn [0:k] ((none,0,k):Option Bool×Nat×Nat) λ_ c=>
 if c.2.1>=c.2.2 then pure (.done (none,c.2.1,c.2.2))else ltAt' (lo+k) (lo+(c.2.1+c.2.2) / 2) >>= λo=>match o with
  |some q=>if q=true then pure (.yield (none,c.2.1,(c.2.1+c.2.2) / 2))else pure (.yield (none,(c.2.1+c.2.2) / 2+1,c.2.2))
  |_=>pure (.done (some false,c.2.1,c.2.2))
def binS(lo n ok:Nat):SM Bool:=(forIn [max ok 1:n] ((none,()):Option Bool×Unit) λk _=>binI lo k >>= λc=>match c.1 with
  |some r=>pure (.done (some r,()))
  |none=>moveDown' (lo+k) (lo+c.2.1) >>= λ_=>pure (.yield (none,()))) >>= λc=>match c.1 with
 |some r=>pure r
 |none=>pure true
theorem zNH(lo n ok:Nat):binarySort' lo n ok=binS lo n ok:=by kernel_rfl
def Kx(d:Keyed)(v:V)(i:Nat):Keyed:=(v[i]?).getD d
def zHS{d:Keyed}{v u:V}{i j:Nat}(h:v[i]? =u[j]?):Kx d v i=Kx d u j:=by unfold Kx;rw [h]
def zLU{d:Keyed}{v:V}{i j:Nat}(hj:j<=v.size)(k:Nat):Kx d (mirror v i j ((j - i) / 2)) k=if i<=k/\k<j then Kx d v (i+j - 1 - k)else Kx d v k:=by
 have e:=getElem?_mirror_all (i:=i) hj k;by_cases h1:i<=k/\k<j
 ·rw [iP h1]at e ⊢; exact zHS e
 ·rw [iN h1]at e ⊢; exact zHS e
def zSB{d:Keyed}{v:V}{src m:Nat}(hs:src<v.size)(hm:m<=src)(k:Nat):
  Kx d (bubble v src m) k=if k=src - m then Kx d v src else if src - m<k/\k<=src then Kx d v (k - 1)else Kx d v k:=by
 have e:=getElem?_bubble hs m hm k;by_cases h1:k=src - m
 ·rw [iP h1]at e ⊢; exact zHS e
 ·rw [iN h1]at e ⊢;by_cases h2:src - m<k/\k<=src
  ·rw [iP h2]at e ⊢; exact zHS e
  ·rw [iN h2]at e ⊢; exact zHS e
structure SB(a₀:V)(kd:SortKind)(pd:Array (Nat×Nat×Nat))(f:V)(lo:Nat)(st:SortSt):Prop where
 pm:(arrOf st).Perm a₀
 kind:kindOf st=kd
 fl:failedOf st=none
 pd:pendingOf st=pd
 fx: ∀i,i<lo->(arrOf st)[i]? =f[i]?
section
variable{M:Model}{A:Around}{E:VP}{s:Shared}{kd:SortKind}{D:Keyed->Prop}{lt:Keyed->Keyed->Bool}{a₀ f:V}{pd:Array (Nat×Nat×Nat)}{lo:Nat}{st:SortSt}{d:Keyed}
def SB.size(h:SB a₀ kd pd f lo st):(arrOf st).size=a₀.size:=h.pm.size_eq
def SB.rev(h:SB a₀ kd pd f lo st){i j:Nat}(hi:lo<=i)(hj:j<=a₀.size):SB a₀ kd pd f lo (setArr st (mirror (arrOf st) i j ((j - i) / 2))):=
 ⟨(mirror_perm _ _ _ _).trans h.pm,h.kind,h.fl,h.pd,λk hk=>by show(mirror (arrOf st) i j ((j - i) / 2))[k]? =_;rw [getElem?_mirror_all (by rw [h.size];exact hj),iN (by omega)];exact h.fx k hk⟩
def SB.bub(h:SB a₀ kd pd f lo st){i m:Nat}(hi:lo+m<=i)(hj:i<a₀.size):SB a₀ kd pd f lo (setArr st (bubble (arrOf st) i m)):=
 ⟨(bubble_perm _ _ _).trans h.pm,h.kind,h.fl,h.pd,λk hk=>by show(bubble (arrOf st) i m)[k]? =_;rw [getElem?_bubble (by rw [h.size];exact hj) _ (by omega),iN (by omega),iN (by omega)];exact h.fx k hk⟩
def zKN(C:Cmp M A E s kd D lt)(h:SB a₀ kd pd f lo st)(hD: ∀x,x∈a₀.toList->D x){i j:Nat}(hi:i<a₀.size)(hj:j<a₀.size){Q:Option Bool->SortSt->Prop}
  (hq:Q (some (lt (Kx d (arrOf st) i) (Kx d (arrOf st) j))) st):wpS M A E s (ltAt' i j) Q st:=by
 obtain⟨x,ex⟩:=yOY (v:=arrOf st) (i:=i) (by rw [h.size];exact hi);obtain⟨y,ey⟩:=yOY (v:=arrOf st) (i:=j) (by rw [h.size];exact hj);have mx:x∈a₀.toList:=(Array.perm_iff_toList_perm.mp h.pm).mem_iff.mp (mem_of_getElem? ex);have my:y∈a₀.toList:=(Array.perm_iff_toList_perm.mp h.pm).mem_iff.mp (mem_of_getElem? ey);have e1:Kx d (arrOf st) i=x:=by unfold Kx;rw [<-Array.getElem?_toList,ex];rfl
 have e2:Kx d (arrOf st) j=y:=by unfold Kx;rw [<-Array.getElem?_toList,ey];rfl
 rw [e1,e2]at hq;rw [ltAt'_eq];refine wpS_bind (wpS_get ?_);exact wpS_bind (yBH ex (wpS_bind (yBH ey (C.go x y (hD x mx) (hD y my) st h.kind _ hq))))
def zTU{i j:Nat}{Q:Unit->SortSt->Prop}(h:Q () (setArr st (mirror (arrOf st) i j ((j - i) / 2)))):wpS M A E s (reverseSlice' i j) Q st:=by rw [reverseSlice'_eq];exact wpS_modify h
def Up(lt:Keyed->Keyed->Bool)(d:Keyed)(v:V)(lo n:Nat):Prop:= ∀i j,i<=j->j<n->Le lt (Kx d v (lo+i)) (Kx d v (lo+j))
def Dn(lt:Keyed->Keyed->Bool)(d:Keyed)(v:V)(lo n:Nat):Prop:= ∀i j,i<=j->j<n->Le lt (Kx d v (lo+j)) (Kx d v (lo+i))
def Up.step(C:Cmp M A E s kd D lt){v:V}{x:Nat}(hs:Up lt d v lo x)(hx:1<=x)(hl:lt (Kx d v (lo+x)) (Kx d v (lo+x - 1))=false):Up lt d v lo (x+1):=by
 intro i j hij hj;by_cases hjx:j<x
 ·exact hs i j hij hjx
 ·have hj':j=x:=by omega
  subst hj';by_cases hi':i=j
  ·subst hi';exact C.rf _
  ·have:=hs i (j - 1) (by omega) (by omega);rw [show lo+(j - 1)=lo+j - 1 by omega]at this;exact C.tr _ _ _ this hl
def yBI(C:Cmp M A E s kd D lt)(hD: ∀x,x∈a₀.toList->D x)(h:SB a₀ kd pd f lo st){a n:Nat}(hn:lo+n<=a₀.size)(ha:1<=a)(han:a<=n)(hs:Up lt d (arrOf st) lo a){Q:C2->SortSt->Prop}
  (hq: ∀m,a<=m->m<=n->Up lt d (arrOf st) lo m->(m=n\/lt (Kx d (arrOf st) (lo+m)) (Kx d (arrOf st) (lo+m - 1))=true)->Q (none,m) st):wpS M A E s (ascL lo a n) Q st:=by
 unfold ascL;refine wpS_forRange (I:=λx c st'=>st'=st/\c=(none,x)/\Up lt d (arrOf st) lo x) ?_ ?_ ⟨rfl,rfl,hs⟩
 ·rintro x c st' hax hxn ⟨rfl,rfl,hs'⟩;dsimp only;refine wpS_bind (zKN (d:=d) C h hD (by omega) (by omega) ?_)
  cases hl:lt (Kx d (arrOf st') (lo+x)) (Kx d (arrOf st') (lo+x - 1))with
  |true=>exact wpS_pure (hq x hax (by omega) hs' (.inr hl))
  |false=>exact wpS_pure ⟨rfl,rfl,hs'.step C (by omega) hl⟩
 ·rintro c st' ⟨rfl,rfl,hs'⟩;rw [show max a n=n by omega]at hs' ⊢;exact hq n han (le_refl _) hs' (.inl rfl)
def Up.of_mirror(h:SB a₀ kd pd f lo st){m:Nat}(hm:lo+m<=a₀.size)(hs:Dn lt d (arrOf st) lo m):Up lt d (mirror (arrOf st) lo (lo+m) ((lo+m - lo) / 2)) lo m:=by intro i j hij hj;rw [zLU (by rw [h.size];exact hm),zLU (by rw [h.size];exact hm),iP (by omega),iP (by omega)];have:=hs (m - 1 - j) (m - 1 - i) (by omega) (by omega);rw [show lo+(m - 1 - j)=lo+(lo+m) - 1 - (lo+j) by omega,show lo+(m - 1 - i)=lo+(lo+m) - 1 - (lo+i) by omega]at this;exact this
def yHS(C:Cmp M A E s kd D lt)(hD: ∀x,x∈a₀.toList->D x)(h:SB a₀ kd pd f lo st){m n:Nat}(hn:lo+n<=a₀.size)(h1:1<=m)(hm:m<=n)(hs:Dn lt d (arrOf st) lo m){Q:Option Nat->SortSt->Prop}
  (hq: ∀m st',SB a₀ kd pd f lo st'->1<=m->m<=n->Up lt d (arrOf st') lo m->Q (some m) st'):wpS M A E s (tl3 lo m n) Q st:=by
 unfold tl3;refine wpS_bind (zTU ?_);have h':=h.rev (i:=lo) (j:=lo+m) (le_refl _) (by omega);exact wpS_bind (yBI C hD h' hn h1 hm (Up.of_mirror h (by omega) hs) λk k1 k2 k3 _=>wpS_pure (hq k _ h' (by omega) k2 k3))
def Eqs(lt:Keyed->Keyed->Bool)(d:Keyed)(v:V)(i j:Nat):Prop:= ∀k l,i<=k->k<j->i<=l->l<j->Le lt (Kx d v k) (Kx d v l)
def Dn.mirror(C:Cmp M A E s kd D lt)(h:SB a₀ kd pd f lo st){i j n:Nat}(hj:j<=a₀.size)(he:Eqs lt d (arrOf st) i j)(hs:Dn lt d (arrOf st) lo n):Dn lt d (mirror (arrOf st) i j ((j - i) / 2)) lo n:=by
 have key: ∀k,Le lt (Kx d (PyProof.Rows.mirror (arrOf st) i j ((j - i) / 2)) k) (Kx d (arrOf st) k)/\Le lt (Kx d (arrOf st) k) (Kx d (PyProof.Rows.mirror (arrOf st) i j ((j - i) / 2)) k):=by
  intro k;rw [zLU (by rw [h.size];exact hj)];split
  ·exact⟨he _ _ (by omega) (by omega) (by omega) (by omega),he _ _ (by omega) (by omega) (by omega) (by omega)⟩
  ·exact⟨C.rf _,C.rf _⟩
 intro p q hpq hq;exact C.tr _ _ _ (key _).1 (C.tr _ _ _ (hs p q hpq hq) (key _).2)
def yMW(C:Cmp M A E s kd D lt)(hD: ∀x,x∈a₀.toList->D x)(h:SB a₀ kd pd f lo st){a n:Nat}(hn:lo+n<=a₀.size)(h1:1<=a)(han:a<=n)(hs:Dn lt d (arrOf st) lo a){Q:C3->SortSt->Prop}
  (hq: ∀m e st',SB a₀ kd pd f lo st'->a<=m->m<=n->Dn lt d (arrOf st') lo m->e+1<=m->Eqs lt d (arrOf st') (lo+m - (e+1)) (lo+m)->Q (none,m,e) st'):wpS M A E s (dscL lo a n) Q st:=by
 unfold dscL
 refine wpS_forRange (I:=λx c st'=> ∃e,c=(none,x,e)/\SB a₀ kd pd f lo st'/\Dn lt d (arrOf st') lo x/\e+1<=x/\Eqs lt d (arrOf st') (lo+x - (e+1)) (lo+x)) ?_ ?_
  ⟨0,rfl,h,hs,by omega,λk l h1 h2 h3 h4=>by rw [show k=l by omega];exact C.rf _⟩
 ·rintro x c st' hax hxn ⟨e,rfl,hB,hs',hq',he⟩;dsimp only;have one: ∀v:V,Eqs lt d v (lo+(x+1) - (0+1)) (lo+(x+1)):=λv k l h1 h2 h3 h4=>by rw [show k=l by omega];exact C.rf _
  refine wpS_bind (zKN (d:=d) C hB hD (by omega) (by omega) ?_)
  cases hl:lt (Kx d (arrOf st') (lo+x)) (Kx d (arrOf st') (lo+x - 1))with
  |true=>
   have nx:Dn lt d (arrOf st') lo (x+1):=by
    intro i j hij hj;by_cases hjx:j<x
    ·exact hs' i j hij hjx
    ·have hj':j=x:=by omega
     subst hj';by_cases hi':i=j
     ·subst hi';exact C.rf _
     ·have:=hs' i (j - 1) (by omega) (by omega);rw [show lo+(j - 1)=lo+j - 1 by omega]at this;exact C.tr _ _ _ (C.as _ _ hl) this
   dsimp only;rw [iP rfl];by_cases ce:e>0
   ·rw [iP ce];refine wpS_bind (zTU (wpS_pure ⟨0,rfl,hB.rev (by omega) (by omega),nx.mirror C hB (by omega) he,by omega,one _⟩))
   ·rw [iN ce];exact wpS_pure ⟨0,rfl,hB,nx,by omega,one _⟩
  |false=>
   dsimp only;rw [iN (by simp)];refine wpS_bind (zKN (d:=d) C hB hD (by omega) (by omega) ?_)
   cases hr:lt (Kx d (arrOf st') (lo+x - 1)) (Kx d (arrOf st') (lo+x))with
   |true=>exact wpS_pure (hq x e st' hB hax (by omega) hs' hq' he)
   |false=>
    refine wpS_pure ⟨e+1,rfl,hB,λi j hij hj=>?_,by omega,λk l k1 k2 k3 k4=>?_⟩
    ·by_cases hjx:j<x
     ·exact hs' i j hij hjx
     ·have hj':j=x:=by omega
      subst hj';by_cases hi':i=j
      ·subst hi';exact C.rf _
      ·have:=hs' i (j - 1) (by omega) (by omega);rw [show lo+(j - 1)=lo+j - 1 by omega]at this;exact C.tr _ _ _ hr this
    ·by_cases ck:k=lo+x
     ·subst ck;by_cases cl:l=lo+x
      ·subst cl;exact C.rf _
      ·exact C.tr _ _ _ hr (he _ _ (by omega) (by omega) (by omega) (by omega))
     ·by_cases cl:l=lo+x
      ·subst cl;exact C.tr _ _ _ (he k (lo+x - 1) (by omega) (by omega) (by omega) (by omega)) hl
      ·exact he _ _ (by omega) (by omega) (by omega) (by omega)
 ·rintro c st' ⟨e,rfl,hB,hs',hq',he⟩;rw [show max a n=n by omega]at hs' hq' he ⊢;exact hq n e st' hB han (le_refl _) hs' hq' he
def yBJ(C:Cmp M A E s kd D lt)(hD: ∀x,x∈a₀.toList->D x)(h:SB a₀ kd pd f lo st){m n:Nat}(hn:lo+n<=a₀.size)(hm:m+1<=n)(hs:Dn lt d (arrOf st) lo (m+1)){Q:Option Nat->SortSt->Prop}
  (hq: ∀m st',SB a₀ kd pd f lo st'->1<=m->m<=n->Up lt d (arrOf st') lo m->Q (some m) st'):wpS M A E s (dscP lo m n) Q st:=by
 unfold dscP;refine wpS_bind (zWC ?_);refine wpS_bind (yMW C hD h hn (by omega) hm hs λk e st' hB k1 k2 k3 k4 k5=>?_);dsimp only;by_cases ce:e>0
 ·rw [iP ce];exact wpS_bind (zTU (yHS C hD (hB.rev (by omega) (by omega)) hn (by omega) k2 (k3.mirror C hB (by omega) k5) hq))
 ·rw [iN ce];exact yHS C hD hB hn (by omega) k2 k3 hq
def yMX(C:Cmp M A E s kd D lt)(hD: ∀x,x∈a₀.toList->D x)(h:SB a₀ kd pd f lo st){n:Nat}(hn:lo+n<=a₀.size)(h1:1<=n){Q:Option Nat->SortSt->Prop}
  (hq: ∀m st',SB a₀ kd pd f lo st'->1<=m->m<=n->Up lt d (arrOf st') lo m->Q (some m) st'):wpS M A E s (countRun' lo n) Q st:=by
 rw [zQT];unfold cntR;refine wpS_bind (yBI (d:=d) C hD h hn (le_refl 1) h1 (λi j hij hj=>by rw [show i=j by omega];exact C.rf _) λm m1 m2 hs hor=>?_);dsimp only;by_cases cm:m=n
 ·rw [iP (by simpa using cm)];exact wpS_pure (hq m st h m1 m2 hs)
 ·rw [iN (by simpa using cm)];have hlt:=hor.resolve_left cm;by_cases cg:m>1
  ·rw [iP cg];refine wpS_bind (zKN (d:=d) C h hD (by omega) (by omega) ?_)
   cases hr:lt (Kx d (arrOf st) lo) (Kx d (arrOf st) (lo+m - 1))with
   |true=>exact wpS_pure (hq m st h m1 m2 hs)
   |false=>
    have all:Eqs lt d (arrOf st) lo (lo+m):=by intro k l k1 k2 k3 k4;have a1:=hs 0 (l - lo) (by omega) (by omega);have a2:=hs (k - lo) (m - 1) (by omega) (by omega);rw [show lo+0=lo by omega,show lo+(l - lo)=l by omega]at a1;rw [show lo+(k - lo)=k by omega,show lo+(m - 1)=lo+m - 1 by omega]at a2;exact C.tr _ _ _ a2 (C.tr _ _ _ hr a1)
    have dn:Dn lt d (arrOf st) lo (m+1):=by
     intro i j hij hj;by_cases hjm:j<m
     ·exact all _ _ (by omega) (by omega) (by omega) (by omega)
     ·have hj':j=m:=by omega
      subst hj';by_cases hi':i=j
      ·subst hi';exact C.rf _
      ·exact C.tr _ _ _ (C.as _ _ hlt) (all _ _ (by omega) (by omega) (by omega) (by omega))
    dsimp only;rw [iN (by simp)];exact wpS_bind (zTU (yBJ C hD (h.rev (le_refl _) (by omega)) hn (by omega) (dn.mirror C h (by omega) all) hq))
  ·rw [iN cg];have:m=1:=by omega
   subst this;refine yBJ C hD h hn (by omega) (λi j hij hj=>?_) hq;by_cases hi':i=j
   ·subst hi';exact C.rf _
   ·rw [show i=0 by omega,show j=1 by omega];exact C.as _ _ hlt
def yMY(C:Cmp M A E s kd D lt)(hD: ∀x,x∈a₀.toList->D x)(h:SB a₀ kd pd f lo st){n ok:Nat}(hn:lo+n<=a₀.size)(hok:ok<=n)(hs:Up lt d (arrOf st) lo ok){Q:Bool->SortSt->Prop}
  (hq: ∀st',SB a₀ kd pd f lo st'->Up lt d (arrOf st') lo n->Q true st'):wpS M A E s (binarySort' lo n ok) Q st:=by
 rw [zNH];unfold binS
 refine wpS_bind (wpS_mono (wpS_forRange (I:=λk c st'=>c=(none,())/\SB a₀ kd pd f lo st'/\Up lt d (arrOf st') lo (min k n))
  (Q:=λc st'=>c=(none,())/\SB a₀ kd pd f lo st'/\Up lt d (arrOf st') lo n) ?_ ?_ ?_) ?_)
 ·rintro k c st' hak hkn ⟨rfl,hB,hs'⟩;rw [show min k n=k by omega]at hs';unfold binI
  refine wpS_bind (wpS_mono (wpS_forRange (I:=λx c st''=>st''=st'/\ ∃l r,c=(none,l,r)/\l<=r/\r<=k/\r - l<=k - x/\
    (∀i,i<l->Le lt (Kx d (arrOf st') (lo+i)) (Kx d (arrOf st') (lo+k)))/\(∀i,r<=i->i<k->Le lt (Kx d (arrOf st') (lo+k)) (Kx d (arrOf st') (lo+i))))
   (Q:=λc st''=>st''=st'/\ ∃l r,c=(none,l,r)/\l<=k/\
    (∀i,i<l->Le lt (Kx d (arrOf st') (lo+i)) (Kx d (arrOf st') (lo+k)))/\(∀i,l<=i->i<k->Le lt (Kx d (arrOf st') (lo+k)) (Kx d (arrOf st') (lo+i)))) ?_ ?_ ?_) ?_)
  ·rintro x c st'' _ hxk ⟨rfl,l,r,rfl,hlr,hrk,hm,hlo,hhi⟩;dsimp only;by_cases hge:l>=r
   ·rw [iP hge];have:l=r:=by omega
    subst this;exact wpS_pure ⟨rfl,l,l,rfl,hrk,hlo,hhi⟩
   ·rw [iN hge];refine wpS_bind (zKN (d:=d) C hB hD (by omega) (by omega) ?_)
    cases hl:lt (Kx d (arrOf st'') (lo+k)) (Kx d (arrOf st'') (lo+(l+r) / 2))with
    |true=>exact wpS_pure ⟨rfl,l,(l+r) / 2,rfl,by omega,by omega,by omega,hlo,λi h1 h2=>C.tr _ _ _ (C.as _ _ hl) (hs' _ _ h1 h2)⟩
    |false=>exact wpS_pure ⟨rfl,(l+r) / 2+1,r,rfl,by omega,by omega,by omega,λi h1=>C.tr _ _ _ (hs' i ((l+r) / 2) (by omega) (by omega)) hl,hhi⟩
  ·rintro c st'' ⟨rfl,l,r,rfl,hlr,hrk,hm,hlo,hhi⟩;have:l=r:=by omega
   subst this;exact⟨rfl,l,l,rfl,hrk,hlo,hhi⟩
  ·exact⟨rfl,0,k,rfl,by omega,by omega,by omega,λi hi=>by omega,λi h1 h2=>by omega⟩
  ·rintro c st'' ⟨rfl,l,r,rfl,hlk,hlo,hhi⟩;dsimp only;rw [moveDown'_eq];have hks:lo+k<(arrOf st'').size:=by rw [hB.size];omega
   refine wpS_bind (wpS_modify (wpS_pure ⟨rfl,?_,?_⟩))
   ·exact hB.bub (by omega) (by omega)
   ·rw [show min (k+1) n=k+1 by omega];intro i j hij hj;show Le lt (Kx d (bubble (arrOf st'') (lo+k) (lo+k - (lo+l))) (lo+i)) (Kx d (bubble (arrOf st'') (lo+k) (lo+k - (lo+l))) (lo+j));rw [zSB hks (by omega),zSB hks (by omega),show lo+k - (lo+k - (lo+l))=lo+l by omega];have sh: ∀i,1<=i->lo+i - 1=lo+(i - 1):=λi hi=>by omega
    repeat' split
    all_goals first
     |(exfalso;omega)
     |exact C.rf _
     |exact hlo _ (by omega)
     |(rw [sh _ (by omega)];exact hhi _ (by omega) (by omega))
     |exact hhi _ (by omega) (by omega)
     |exact hs' _ _ (by omega) (by omega)
     |(rw [sh i (by omega)];exact hs' _ _ (by omega) (by omega))
     |(rw [sh j (by omega)];exact hs' _ _ (by omega) (by omega))
     |(rw [sh i (by omega),sh j (by omega)];exact hs' _ _ (by omega) (by omega))
     |(rw [sh i (by omega)];exact hlo _ (by omega))
 ·rintro c st' ⟨hc,hB,hs'⟩;refine⟨hc,hB,?_⟩;rwa [show min (max (max ok 1) n) n=n by omega]at hs'
 ·refine⟨rfl,h,λi j hij hj=>?_⟩;by_cases h1:ok=0
  ·rw [show i=j by omega];exact C.rf _
  ·exact hs i j hij (by omega)
 ·rintro c st' ⟨rfl,hB,hs'⟩;exact wpS_pure (hq st' hB hs')
end
end Srt
set_option autoImplicit false
namespace Srt
open PySem PyProof.Rows
section
variable{M:Model}{A:Around}{E:VP}{s:Shared}{kd:SortKind}{D:Keyed->Prop}{lt:Keyed->Keyed->Bool}{a₀ f:V}{pd:Array (Nat×Nat×Nat)}{lo:Nat}{st:SortSt}{d:Keyed}
def Up.sl{v:V}{n:Nat}(h:Up lt d v lo n):SL lt v.toList lo n:=by
 intro i j x y h1 h2 hx hy;have e1:Kx d v (lo+i)=x:=by unfold Kx;rw [<-Array.getElem?_toList,hx];rfl
 have e2:Kx d v (lo+j)=y:=by unfold Kx;rw [<-Array.getElem?_toList,hy];rfl
 have:=h i j h1 h2;rw [e1,e2]at this;exact this
def SL.pw{l:List Keyed}{n:Nat}(h:SL lt l lo n):((l.drop lo).take n).Pairwise (Le lt):=by rw [List.pairwise_iff_getElem];intro i j hi hj hij;rw [lT,length_drop]at hi hj;rw [List.getElem_take,List.getElem_take,List.getElem_drop,List.getElem_drop];exact h i j _ _ (by omega) (by omega) (gE0 _) (gE0 _)
structure Out(a₀:V)(kd:SortKind)(lt:Keyed->Keyed->Bool)(n:Nat)(st:SortSt):Prop where
 pm:(arrOf st).toList.Perm a₀.toList
 kind:kindOf st=kd
 fl:failedOf st=none
 pd: ∃w,pendingOf st=#[(0,n,w)]
 so:(arrOf st).toList.Pairwise (Le lt)
end
end Srt
set_option autoImplicit false
namespace Srt
open PySem PyProof.Rows
abbrev U2:=Option Unit×Nat
abbrev U1:=Option Unit×Unit
def psh(lo n:Nat):SM (ForInStep U2):=(modify λs=>setPending s ((pendingOf s).push (lo,n,0))) >>= λ_=>pure (.yield (none,lo+n))
def nxt(N lo n:Nat):SM (ForInStep U2):=get >>= λst=>match (pendingOf st).back? with
 |some (a,b,_)=>(forIn [0:N] ((none,()):U1) λ_ _=>get >>= λst=>(match (if(pendingOf st).size>1 then(pendingOf st)[(pendingOf st).size - 2]? else none)with
   |some (_,_,z)=>if z<=power' N (2 * a+b) (2 * a+b+b+n) N then pure (.done (none,()))else mergeAt' ((pendingOf st).size - 2) >>= λq=>if(!q)=true then pure (.done (some (),()))else pure (.yield (none,()))
   |_=>pure (.done (none,())))) >>= λc=>(match c.1 with
  |some r=>pure (.done (some r,lo))
  |none=>(modify λs=>setPending s ((pendingOf s).modify ((pendingOf s).size - 1) λ(u,v,_)=>(u,v,power' N (2 * a+b) (2 * a+b+b+n) N))) >>= λ_=>psh lo n)
 |_=>psh lo n
def runs(N r:Nat):SM U2:=forIn [0:N] ((none,0):U2) λ_ c=>if c.2>=N then pure (.done (none,c.2))else countRun' c.2 (N - c.2) >>= λo=>match o with
 |some m=>if m<r then liftM (rule "list.sort.binary-insertion") >>= λ_=>binarySort' c.2 (min (N - c.2) r) m >>= λq=>if(!q)=true then pure (.done (some (),c.2))else nxt N c.2 (min (N - c.2) r)
   else nxt N c.2 m
 |_=>pure (.done (some (),c.2))
def colp(N:Nat):SM U1:=forIn [0:N] ((none,()):U1) λ_ _=>get >>= λst=>if(pendingOf st).size<=1 then pure (.done (none,()))else
 mergeAt' (if Option.any (λx=>decide (x<((pendingOf st)[(pendingOf st).size - 2+1]?).elim 0 λx=>x.2.1)) (if(pendingOf st).size - 2>0 then Option.map (λx=>x.2.1) (pendingOf st)[(pendingOf st).size - 2 - 1]? else none)=true
  then(pendingOf st).size - 2 - 1 else(pendingOf st).size - 2) >>= λq=>if(!q)=true then pure (.done (some (),()))else pure (.yield (none,()))
def sRun:SM Unit:=get >>= λst=>runs (arrOf st).size (minRun' (arrOf st).size (arrOf st).size 0) >>= λc=>match c.1 with
 |some r=>pure r
 |none=>colp (arrOf st).size >>= λc=>match c.1 with
  |some r=>pure r
  |none=>pure ()
theorem zQU:sortRuns'=sRun:=by kernel_rfl
section
variable{M:Model}{A:Around}{E:VP}{s:Shared}{kd:SortKind}{D:Keyed->Prop}{lt:Keyed->Keyed->Bool}{a₀ f:V}{pd:Array (Nat×Nat×Nat)}{lo:Nat}{st:SortSt}{d:Keyed}
def SB.free{pd':Array (Nat×Nat×Nat)}(h:SB a₀ kd pd f lo st)(g:V):SB a₀ kd pd' g 0 (setPending st pd'):=⟨h.pm,h.kind,h.fl,rfl,λ_ hi=>by omega⟩
def yRY{lo n:Nat}{Q:ForInStep U2->SortSt->Prop}(h:Q (.yield (none,lo+n)) (setPending st ((pendingOf st).push (lo,n,0)))):wpS M A E s (psh lo n) Q st:=
 wpS_bind (wpS_modify (wpS_pure h))
def Dun(a₀:V)(lt:Keyed->Keyed->Bool)(st:SortSt):Prop:=(arrOf st).toList.Perm a₀.toList/\failedOf st=none/\(arrOf st).toList.Pairwise (Le lt)
end
end Srt
set_option autoImplicit false
namespace Srt
open PySem PyProof.Rows
section
variable{M:Model}{A:Around}{E:VP}{s:Shared}{kd:SortKind}{D:Keyed->Prop}{lt:Keyed->Keyed->Bool}{a₀ f:V}{pd:Array (Nat×Nat×Nat)}{lo:Nat}{st:SortSt}{d:Keyed}
def yHT{N:Nat}(h2:2<=N)(h:N<64):minRun' N N 0=N:=by
 obtain⟨g,rfl⟩: ∃g,N=g+1:=⟨N - 1,by omega⟩
 rw [minRun'_succ,iP h]
def PhS(a₀:V)(kd:SortKind)(lt:Keyed->Keyed->Bool)(st:SortSt):Prop:=SB a₀ kd #[(0,a₀.size,0)] a₀ 0 st/\SL lt (arrOf st).toList 0 a₀.size
def yHU(C:Cmp M A E s kd D lt)(hD: ∀x,x∈a₀.toList->D x)(d:Keyed)(h2:2<=a₀.size)(h:SB a₀ kd #[] a₀ 0 st){Q:U2->SortSt->Prop}
  (hq: ∀st',PhS a₀ kd lt st'->Q (none,a₀.size) st'):wpS M A E s (runs a₀.size a₀.size) Q st:=by
 unfold runs;refine wpS_forRange (I:=λx c st'=>(x=0/\c=(none,0)/\SB a₀ kd #[] a₀ 0 st')\/(1<=x/\c=(none,a₀.size)/\PhS a₀ kd lt st')) ?_ ?_ (.inl ⟨rfl,rfl,h⟩)
 ·rintro x c st' _ hx (⟨rfl,rfl,hB⟩|⟨hx1,rfl,hC⟩)
  ·dsimp only;rw [iN (by omega)]
   have go: ∀st2,SB a₀ kd #[] a₀ 0 st2->Up lt d (arrOf st2) 0 a₀.size-> ∀R:ForInStep U2->SortSt->Prop,(∀st',PhS a₀ kd lt st'->R (.yield (none,a₀.size)) st')->wpS M A E s (nxt a₀.size 0 a₀.size) R st2:=by
    intro st2 hB2 hu R hR;unfold nxt;refine wpS_bind (wpS_get ?_);have hb:(pendingOf st2).back? =none:=by rw [hB2.pd];rfl
    rw [hb];dsimp only;refine yRY ?_;have e:(pendingOf st2).push (0,a₀.size,0)=#[(0,a₀.size,0)]:=by rw [hB2.pd];rfl
    rw [e,zero_add];exact hR _ ⟨hB2.free a₀,hu.sl⟩
   refine wpS_bind (yMX (d:=d) C hD hB (by omega) (by omega) λm st2 hB2 hm1 hm2 hu=>?_);dsimp only;by_cases cm:m<a₀.size
   ·rw [iP cm];refine wpS_bind (zWC ?_);rw [sub_zero,Nat.min_self];refine wpS_bind (yMY C hD hB2 (by omega) (by omega) hu λst3 hB3 hu3=>?_);rw [iN (by simp)];exact go st3 hB3 hu3 _ λ_ q=>.inr ⟨by omega,rfl,q⟩
   ·rw [iN cm];obtain rfl:m=a₀.size:=by omega
    exact go st2 hB2 hu _ λ_ q=>.inr ⟨by omega,rfl,q⟩
  ·dsimp only;rw [iP (le_refl _)];exact wpS_pure (hq st' hC)
 ·rintro c st' (⟨hx,_⟩|⟨_,rfl,hC⟩)
  ·omega
  ·exact hq st' hC
def yHV(h2:2<=a₀.size)(h:PhS a₀ kd lt st){Q:U1->SortSt->Prop}(hq: ∀st',Dun a₀ lt st'->Q (none,()) st'):wpS M A E s (colp a₀.size) Q st:=by
 have hd:Dun a₀ lt st:=⟨Array.perm_iff_toList_perm.mp h.1.pm,h.1.fl,by have:=h.2.pw;rwa [drop_zero,take_of_length_le (by rw [Array.length_toList,h.1.size];omega)]at this⟩
 unfold colp;refine wpS_forRange (I:=λ_ c st'=>c=(none,())/\st'=st) ?_ ?_ ⟨rfl,rfl⟩
 ·rintro x c st' _ _ ⟨rfl,rfl⟩;refine wpS_bind (wpS_get ?_);rw [iP (by rw [h.1.pd];simp)];exact wpS_pure (hq _ hd)
 ·rintro c st' ⟨rfl,rfl⟩;exact hq _ hd
def zTV(C:Cmp M A E s kd D lt)(hD: ∀x,x∈(arrOf st).toList->D x)(d:Keyed)(h2:2<=(arrOf st).size)(h64:(arrOf st).size<64)(hk:kindOf st=kd)(hp:pendingOf st=#[])(hf:failedOf st=none)
  {Q:Unit->SortSt->Prop} (hq: ∀st',Dun (arrOf st) lt st'->Q () st'):wpS M A E s sortRuns' Q st:=by
 rw [zQU];unfold sRun;refine wpS_bind (wpS_get ?_);rw [yHT h2 h64];refine wpS_bind (yHU C hD d h2 ⟨Array.Perm.refl _,hk,hf,hp,λ_ hi=>by omega⟩ λst1 hC=>?_);dsimp only;refine wpS_bind (yHV h2 hC λst2 hd=>?_);exact wpS_pure (hq st2 hd)
end
end Srt
set_option autoImplicit false
set_option autoImplicit false
namespace Srt
open PySem PyProof.Rows
abbrev Rn:=Nat×Nat×Nat
def RunsOk(lt:Keyed->Keyed->Bool)(l:List Keyed):Nat->List Rn->Nat->Prop
 |p,[],q=>p=q
 |p,r::rs,q=>r.1=p/\1<=r.2.1/\SL lt l p r.2.1/\RunsOk lt l (p+r.2.1) rs q
section
variable{lt:Keyed->Keyed->Bool}{l l':List Keyed}
theorem RunsOk.le: ∀{rs:List Rn}{p q:Nat},RunsOk lt l p rs q->p+rs.length<=q
 |[],p,q,h=>by cases h;exact le_refl _
 |r::rs,p,q,h=>by have:=RunsOk.le h.2.2.2;have:=h.2.1;rw [lC];omega
end
section
variable{M:Model}{A:Around}{E:VP}{s:Shared}{kd:SortKind}{D:Keyed->Prop}{lt:Keyed->Keyed->Bool}{a₀ f:V}{lo:Nat}{st:SortSt}{d:Keyed}
structure ST(a₀:V)(kd:SortKind)(lt:Keyed->Keyed->Bool)(rs:List Rn)(q:Nat)(st:SortSt):Prop where
 pm:(arrOf st).toList.Perm a₀.toList
 kind:kindOf st=kd
 fl:failedOf st=none
 pd:pendingOf st=rs.toArray
 ok:RunsOk lt (arrOf st).toList 0 rs q
 le:q<=a₀.size
def ST.size{rs:List Rn}{q:Nat}(h:ST a₀ kd lt rs q st):(arrOf st).size=a₀.size:=by have:=h.pm.length_eq;simpa using this
end
end Srt
set_option autoImplicit false
set_option autoImplicit false
namespace Srt
open PySem PyProof.Rows
section
variable{prog:Program}{w:World}{A:Around}{E:VP}{s:Shared}
def yMZ{α β:Type}{f:α->Sem β}{g:α->β}{M:Model}(l:List α)(h: ∀x,x∈l->wpAny M A (f x) (λr s'=>s'=s/\r=g x) E s):wpAny M A (l.mapM f) (λr s'=>s'=s/\r=l.map g) E s:=by
 induction l with
 |nil=>rw [List.mapM_nil];exact wP0 ⟨rfl,rfl⟩
 |cons x l ih=>
  rw [List.mapM_cons];refine wB0 (wpAny_mono (h x mF0) (λr s' hr=>?_) λ_ _ e=>e);rw [hr.1,hr.2];refine wB0 (wpAny_mono (ih λy hy=>h y (mO _ hy)) (λr s' hr=>?_) λ_ _ e=>e);rw [hr.1,hr.2];exact wP0 ⟨rfl,rfl⟩
def zWD{α β:Type}{f:α->Sem β}{g:α->β}{M:Model}{l:List α}(h: ∀x,x∈l->wpAny M A (f x) (λr s'=>s'=s/\r=g x) E s):wpAny M A (l.toArray.mapM f) (λr s'=>s'=s/\r=(l.map g).toArray) E s:=by rw [List.mapM_toArray];show wpAny M A (List.toArray<$>l.mapM f) _ E s;rw [map_eq_pure_bind];refine wB0 (wpAny_mono (yMZ l h) (λr s' hr=>?_) λ_ _ e=>e);obtain⟨rfl,rfl⟩:=hr;exact wP0 ⟨rfl,rfl⟩
def TupAt(h:Heap)(a:Addr)(its:Ae):Prop:= ∃o n,h.get? a=some o/\o.cls=.type "tuple"/\o.data=.seq its.toArray n
theorem zLV(v:Value):firstOfTuple' v=(do
  if(<-typeOf v) !=.type "tuple" then return none
  return (<-Builtin.List.listItems v)[0]?):=rfl
def yHW{M:Model}{a:Addr}{its:Ae}(h:TupAt s.heap a its):wpAny M A (firstOfTuple' (.ref a)) (λr s'=>s'=s/\r=its[0]?) E s:=by obtain⟨o,n,h1,h2,h3⟩:=h;rw [zLV];refine wB0 (wpAny_typeOf (T:="tuple") ⟨o,h1,h2⟩ ?_);rw [iN (by simp)];refine wB0 (listItems_at h1 h3 ?_);exact wP0 ⟨rfl,by simp⟩
end
end Srt
set_option autoImplicit false
namespace Srt
open PySem PyProof.Rows
inductive LexS(A:Around)(s:Shared):List Value->List Value->Bool->Prop
 |nn:LexS A s [] [] false
 |nc (x xs):LexS A s [] (x::xs) true
 |cn (y ys):LexS A s (y::ys) [] false
 |eq {y x ys xs k}:SeqAt.EqAt A s y x true->LexS A s ys xs k->LexS A s (y::ys) (x::xs) k
 |ne {y x ys xs k}:SeqAt.EqAt A s y x false->(∀(prog:Program)(w:World)(E Q:VP),Q (.bool k) s->wpAny (model prog w) A (richCompare .Lt y x) Q E s)->LexS A s (y::ys) (x::xs) k
section
variable{prog:Program}{w:World}{A:Around}{E:VP}{s:Shared}
theorem yRZ(c:Bool)(x y:Value):keyLt' (tuples' c) x y=(Builtin.List.listItems x >>= λxs=>Builtin.List.listItems y >>= λys=>
  (forIn (xs.toList.zip ys.toList).zipIdx ((none,()):Option Bool×Unit) λz _=>eqBool z.1.1 z.1.2 >>= λe=>if(!e)=true then oneLt' (c&&z.2==0) z.1.1 z.1.2 >>= λr=>pure (.done (some r,()))else pure (.yield (none,()))) >>= λr=>
  match r.1 with
  |some r=>pure r
  |none=>pure (decide (xs.size<ys.size))):=by kernel_rfl
theorem ySA(x y:Value):oneLt' false x y=richCompare .Lt x y >>= λv=>truthOfDropped v:=by rw [oneLt'_eq];rfl
def zZJ{b:Bool}{Q:Bool->Shared->Prop}(h:Q b s):wpAny (model prog w) A (truthOfDropped (.bool b)) Q E s:=wpAny_truthy_bool h
def wp_lt{kd:SortKind}{x y:Keyed}{k:Bool}{st:SortSt}(hk:kindOf st=kd)(h: ∀(E:VP)(Q:Bool->Shared->Prop),Q k s->wpAny (model prog w) A (keyLt' kd x.1 y.1) Q E s){Q:Option Bool->SortSt->Prop}(hq:Q (some k) st):
  wpS (model prog w) A E s (lt' x y) Q st:=by
 rw [lt'_eq];refine wpS_bind (wpS_get ?_);rw [hk];refine wpS_bind (wpS_lift (wpAny_attempt (h _ _ ⟨rfl,?_⟩)));exact wpS_pure hq
end
end Srt
set_option autoImplicit false
set_option autoImplicit false
namespace Srt
open PySem PyProof.Rows
section
variable{prog:Program}{w:World}{A:Around}{E:VP}{s:Shared}
def yHX{m n:Nat}{k:Bool}(vs ws:Ae)(i:Nat)(hx:LexS A s vs ws k):1<=i->vs.length+n=ws.length+m->
   wpAny (model prog w) A (forIn ((vs.zip ws).zipIdx i) ((none,()):Option Bool×Unit) λz _=>eqBool z.1.1 z.1.2 >>= λe=>if(!e)=true then oneLt' (true&&z.2==0) z.1.1 z.1.2 >>= λr=>pure (.done (some r,()))else pure (.yield (none,())))
    (λr s'=>s'=s/\(r=(some k,())\/(r=(none,())/\k=decide (m<n)))) E s:=by
 induction hx generalizing i with
 |nn=>intro hi h;rw [zip_nil_left,zipIdx_nil,forIn_nil];exact wP0 ⟨rfl,.inr ⟨rfl,(dF0 (by simp at h;omega)).symm⟩⟩
 |nc x xs=>intro hi h;rw [zip_nil_left,zipIdx_nil,forIn_nil];exact wP0 ⟨rfl,.inr ⟨rfl,(dT0 (by simp at h;omega)).symm⟩⟩
 |cn y ys=>intro hi h;rw [List.zip_nil_right,zipIdx_nil,forIn_nil];exact wP0 ⟨rfl,.inr ⟨rfl,(dF0 (by simp at h;omega)).symm⟩⟩
 |eq he hr ih=>
  intro hi h;rw [zip_cons_cons,zipIdx_cons,forIn_cons];refine wB0 (wB0 (he prog w E _ ?_));rw [iN (by simp)];exact wP0 (ih (i+1) (by omega) (by simpa using(by simp at h;omega)))
 |ne he hr=>
  intro hi h;rw [zip_cons_cons,zipIdx_cons,forIn_cons];refine wB0 (wB0 (he prog w E _ ?_));rw [iP (by simp)];simp only [Bool.true_and];rw [show(i==0)=false by simp;omega,ySA];refine wB0 (wB0 (hr prog w E _ (zZJ ?_)));exact wP0 (wP0 ⟨rfl,.inl rfl⟩)
end
end Srt
set_option autoImplicit false
set_option autoImplicit false
namespace Srt
open PySem PyProof.Rows
section
variable{prog:Program}{w:World}{A:Around}{E:VP}{s:Shared}
def sort_plainS{a:Addr}{vs:Ae}{n0:Nat}{P:PySem.Fin->Shared->Prop}(ho:s.heap.get? a=some (seqObj "list" vs.toArray n0))(hl:vs.length<64)
  (hk: ∀s2:Shared,s2={s with heap:=((s.heap.update a (Obj.mapSeq λ_=>#[])).push (seqObj "tuple" vs.toArray 0)).push (seqObj "list" #[] 0)}-> ∃(kd:SortKind)(D:Keyed->Prop)(lt:Keyed->Keyed->Bool),
   (2<=vs.length->wpAny (model prog w) A (keyKind' vs.toArray) (λk s'=>s'=s2/\k=kd) E s2/\Cmp (model prog w) A E s2 kd D lt/\ ∀p,p∈vs.zip vs->D p)/\
   ∀out:List Keyed,out.Perm (vs.zip vs)->out.Pairwise (Le lt)->P (.done (.ret .none)) {s2 with heap:=s2.heap.update a (Obj.mapSeq λ_=>(out.map (·.2)).toArray)}):
  wpAny (model prog w) A (Builtin.«list.sort» ⟨[.ref a],[]⟩) P E s:=by
 unfold Builtin.«list.sort»;dsimp only;rw [iN (by simp),iN (by simp)];rw [forIn_nil];refine wB0 (wP0 ?_);have e1:List.lookup (Str.ofString "key") ([]:List (Str×Value))=none:=rfl;have e2:List.lookup (Str.ofString "reverse") ([]:List (Str×Value))=none:=rfl;rw [e1,e2];refine wB0 (wP0 ?_);have ha:a<s.heap.objs.size:=Heap.lt_size ho;refine wB0 (listItems_at ho rfl ?_);refine wB0 (listUpdate_at ho rfl ?_);obtain⟨q,hq⟩: ∃q,(s.heap.update a (Obj.mapSeq λ_=>#[])).get? a=some (seqObj "list" #[] q):=⟨_,get?_update_seq ho (λ_=>#[])⟩
 dsimp only;refine wB0 (seqEpoch_at hq rfl ?_);refine wB0 (wpAny_newTuple ?_);refine wB0 (wpAny_newList ?_);refine wpAny_holding ?_;rw [iN (by simp)];dsimp only;generalize hs2:({s with heap:=((s.heap.update a (Obj.mapSeq λ_=>#[])).push (seqObj "tuple" vs.toArray 0)).push (seqObj "list" #[] 0)}:Shared)=s2;have g1:s2.heap.get? a=some (seqObj "list" #[] q):=by rw [<-hs2];exact hP0 _ (hP0 _ hq)
 obtain⟨kd,D,lt,g4,g5⟩:=hk s2 hs2.symm;rw [iN (by simp)];refine wB0 (wP0 ?_);rw [iN (by simp)]
 have fin: ∀st:SortSt,failedOf st=none->(arrOf st).toList.Perm (vs.zip vs)->(arrOf st).toList.Pairwise (Le lt)->
   wpAny (model prog w) A (do
    let e <-seqEpoch a
    Builtin.List.listUpdate (.ref a) λ_=>(arrOf st).map (·.2)
    if(e !=q)=true then rule "list.sort.modified" >>= λ_=>raiseErrorWords "ValueError" "list modified during sort" >>= λ(_:Unit)=>ret .none else ret .none) P E s2:=by
  intro st hf hp hs;refine wB0 (seqEpoch_at g1 rfl ?_);have hlen:((arrOf st).map (·.2)).size<=sizeLine+1:=by rw [Array.size_map, <-Array.length_toList,hp.length_eq,length_zip];have:=sizeLine_eq;omega
  refine wB0 (listUpdate_at g1 rfl ?_ (hsz2:=hlen));rw [iN (by simp)];have e3:(arrOf st).map (·.2)=((arrOf st).toList.map (·.2)).toArray:=by rw [<-Array.toList_map]
  rw [e3];exact wP0 (g5 _ hp hs)
 by_cases h2':vs.toArray.size<2
 ·rw [iP h2',iP h2'];refine wB0 (wP0 ?_);rw [StateT.run_pure];refine wB0 (wP0 ?_);rw [iN (by simp)];have hz:(vs.zip vs).length<=1:=by rw [length_zip];simp at h2';omega
  refine fin (SortSt.mk' general' (vs.toArray.zip vs.toArray) #[] 7 none) rfl ?_ ?_
  ·show(vs.toArray.zip vs.toArray).toList.Perm _;simp
  ·show(vs.toArray.zip vs.toArray).toList.Pairwise _;have:(vs.toArray.zip vs.toArray).toList=vs.zip vs:=by simp
   rw [this]
   match vs.zip vs,hz with
   |[],_=>exact .nil
   |[x],_=>exact List.pairwise_singleton _ _
   |x::y::r,h=>simp at h
 ·rw [iN h2',iN h2'];obtain⟨k1,k2,k3⟩:=g4 (by simp at h2';omega);refine wB0 (wpAny_mono k1 (λk s' hk'=>?_) λ_ _ e=>e);obtain⟨rfl,rfl⟩:=hk';have za:(arrOf (SortSt.mk' k (vs.toArray.zip vs.toArray) #[] 7 none)).toList=vs.zip vs:=by show(vs.toArray.zip vs.toArray).toList=_;simp
  have zs:(arrOf (SortSt.mk' k (vs.toArray.zip vs.toArray) #[] 7 none)).size=vs.length:=by rw [<-Array.length_toList,za,length_zip,Nat.min_self]
  refine wB0 (wpAny_mono (zTV (st:=SortSt.mk' k (vs.toArray.zip vs.toArray) #[] 7 none) k2 (λp hp=>k3 p (by rw [za]at hp;exact hp)) (.none,.none) (by rw [zs];simp at h2';omega) (by rw [zs];exact hl) rfl rfl rfl
   (Q:=λ_ st'=>Dun (arrOf (SortSt.mk' k (vs.toArray.zip vs.toArray) #[] 7 none)) lt st') λst' h=>h) (λr s3 hr=>?_) λ_ _ e=>e)
  obtain⟨⟨⟩,st'⟩:=r;obtain⟨rfl,d1,d2,d3⟩:=hr;dsimp only;rw [iN (by simp)];have F:=fin st' d2 (by rw [<-za];exact d1) d3;have d4:failedOf st'=none:=d2;unfold failedOf at d4;rw [d4];exact F
end
end Srt
set_option autoImplicit false
namespace Srt
open PySem PyProof.Rows
section
variable{prog:Program}{w:World}{A:Around}{E:VP}{s:Shared}
def zWE{M:Model}{l:Ae}(hl:l≠[])(h: ∀x,x∈l-> ∃z tk,x=.int z tk):wpAny M A (oneTypeOnly' l.toArray) (λr s'=>s'=s/\r=some (.type "int")) E s:=by
 rw [oneTypeOnly'_eq];refine wB0 (wpAny_mono (zWD (g:=λ_=>Value.type "int") λx hx=>?_) (λr s' hr=>?_) λ_ _ e=>e)
 ·obtain⟨z,tk,rfl⟩:=h x hx;exact wP0 ⟨rfl,rfl⟩
 ·obtain⟨rfl,rfl⟩:=hr
  match l,hl with
  |x::l,_=>
   have h0:(List.map (λ_=>Value.type "int") (x::l)).toArray[0]? =some (Value.type "int"):=by simp
   have hall:((List.map (λ_=>Value.type "int") (x::l)).toArray.all λx=>x==Value.type "int")=true:=by simp only [List.all_toArray,all_map,all_eq_true];intro _ _;rfl
   rw [h0];dsimp only;rw [hall];exact wP0 ⟨rfl,rfl⟩
def wp_kindI{M:Model}{keys:Ae}(hl:keys≠[])(h: ∀x,x∈keys-> ∃a its z tk r,x=.ref a/\TupAt s.heap a its/\its=.int z tk::r):
  wpAny M A (keyKind' keys.toArray) (λk s'=>s'=s/\k=tuples' true) E s:=by
 rw [keyKind'_eq]
 have hg: ∀x, ∃y:Option Value,x∈keys->(∃z tk,y=some (.int z tk))/\ ∀M:Model,wpAny M A (firstOfTuple' x) (λr s'=>s'=s/\r=y) E s:=by
  intro x;by_cases hx:x∈keys
  ·obtain⟨a,its,z,tk,r,rfl,h1,rfl⟩:=h x hx;exact⟨some (.int z tk),λ_=>⟨⟨z,tk,rfl⟩,λM=>yHW h1⟩⟩
  ·exact⟨none,λz=>absurd z hx⟩
 let g:=λx=>Classical.choose (hg x);have gs: ∀x,x∈keys->(∃z tk,g x=some (.int z tk))/\ ∀M:Model,wpAny M A (firstOfTuple' x) (λr s'=>s'=s/\r=g x) E s:=λx hx=>Classical.choose_spec (hg x) hx;refine wB0 (wpAny_mono (zWD (g:=g) λx hx=>(gs x hx).2 M) (λr s' hr=>?_) λ_ _ e=>e);obtain⟨rfl,rfl⟩:=hr;rw [iP (by simp only [List.all_toArray,all_map,all_eq_true];intro x hx;obtain⟨⟨b,jts,e⟩,_⟩:=gs x hx;show(g x).isSome=true;rw [e];rfl)];refine wB0 (wpAny_rule ?_);have ef:(keys.map g).toArray.filterMap id=((keys.map g).filterMap id).toArray:=by simp
 rw [ef];refine wB0 (wpAny_mono (zWE (l:=(keys.map g).filterMap id) ?_ ?_) (λr s' hr=>?_) λ_ _ e=>e)
 ·match keys,hl,gs with
  |x::l,_,gs=>
   obtain⟨⟨b,jts,e⟩,_⟩:=gs x mF0;rw [map_cons,e];simp
 ·intro x hx;obtain⟨y,hy,e⟩:=mem_filterMap.mp hx;obtain⟨z,hz,e'⟩:=mM.mp hy;obtain⟨⟨b,jts,e2⟩,_⟩:=gs z hz;have:some x=some (Value.int b jts):=by rw [<-e2,e'];exact e.symm
  cases this;exact⟨b,jts,rfl⟩
 ·obtain⟨rfl,rfl⟩:=hr;refine wP0 ⟨rfl,?_⟩;have:((some (Value.type "int")).any λx=>x !=Value.type "tuple")=true:=by rfl
  rw [this]
end
end Srt
set_option autoImplicit false
namespace Srt
open PySem PyProof.Rows
section
variable{prog:Program}{w:World}{A:Around}{E:VP}{s:Shared}
def wp_keyLtI{l b:Addr}{x y:Int}{t u:Tok}{r r2:Ae}{e k:Bool}{Q:Bool->Shared->Prop}(hl:TupAt s.heap l (.int x t::r))(hb:TupAt s.heap b (.int y u::r2))(he:SeqAt.EqAt A s (.int x t) (.int y u) e)
  (hx:if e=true then LexS A s r r2 k else k=decide (x<y)) (hq:Q k s):
  wpAny (model prog w) A (keyLt' (tuples' true) (.ref l) (.ref b)) Q E s:=by
 obtain⟨o1,n1,a1,_,a3⟩:=hl;obtain⟨o2,n2,b1,_,b3⟩:=hb;rw [yRZ];refine wB0 (listItems_at a1 a3 (wB0 (listItems_at b1 b3 ?_)));simp only [sA];refine wB0 ?_;rw [zip_cons_cons,zipIdx_cons,forIn_cons];refine wB0 (wB0 (he prog w E _ ?_))
 cases e with
 |true=>
  rw [iP rfl]at hx;rw [iN (by simp)];refine wP0 ?_;refine wpAny_mono (yHX r r2 1 hx (m:=(Value.int x t::r).length) (n:=(Value.int y u::r2).length) (le_refl _) (by simp only [lC];omega)) (λq s' h=>?_) λ_ _ e=>e;obtain⟨rfl,rfl|⟨rfl,e⟩⟩:=h
  ·exact wP0 hq
  ·dsimp only;rw [<-e];exact wP0 hq
 |false=>
  rw [iN xF0]at hx;subst hx;rw [iP (by simp)];refine wB0 (oneLt_int ?_);exact wP0 (wP0 (wP0 hq))
end
end Srt
namespace L2
namespace M
open PySem PySem.Spec PyProof.Rows
mutual
def zHC:MV->Bool
 |.int _=>true
 |.str _=>true
 |.tup ds=>zSC ds
 |_=>false
def zSC:List MV->Bool
 |[]=>true
 |d::ds=>zHC d&&zSC ds
end

def zSD{α β:Type}{g:α->β}{p m:List β}(h:p.Perm m): ∀l:List α,l.map g=p-> ∃l':List α,l'.Perm l/\l'.map g=m:=by
 induction h with
 |nil=>intro l e;exact⟨l,.refl _,e⟩
 |cons x _ ih=>
  intro l e
  cases l with
  |nil=>cases e
  |cons a l=>
   rw [map_cons]at e;injection e with e1 e2
   obtain⟨l',p',q'⟩:=ih l e2;exact⟨a::l',p'.cons a,by rw [map_cons,e1,q']⟩
 |swap x y t=>
  intro l e
  match l,e with
  |a::b::l,e=>
   rw [map_cons,map_cons]at e;injection e with e1 e2
   injection e2 with e2 e3
   exact⟨b::a::l,.swap _ _ _,by rw [map_cons,map_cons,e1,e2,e3]⟩
 |trans _ _ ih1 ih2=>
  intro l e;obtain⟨l1,p1,q1⟩:=ih1 l e;obtain⟨l2,p2,q2⟩:=ih2 l1 q1;exact⟨l2,p2.trans p1,q2⟩
section
variable{X:Cx}{α:Ah}{S:Sto}{H:Hp}{pins:Ba}{σ:St}{s:Shared}
mutual
theorem yBK(I:Inv X pins σ H s): ∀{d d':MV}{v:V},zHC d=true->zHC d'=true->Den X.K α H d v->Den X.K α H d' v->d=d'
 |.int i,d',v,_,h',q,q'=>by
  cases xN q
  cases d' with
  |int j=>cases xN q';rfl
  |str x=>cases wC q'
  |tup ds=>obtain⟨a,vs,e,_⟩:=xX q';cases e
  |_=>simp [zHC]at h'
 |.str x,d',v,_,h',q,q'=>by
  have e:=wC q
  cases d' with
  |int j=>rw [xN q']at e;cases e
  |str y=>rw [wC q']at e;injection e with e;rw [zIT e]
  |tup ds=>obtain⟨a,vs,e',_⟩:=xX q';rw [e']at e;cases e
  |_=>simp [zHC]at h'
 |.tup ds,d',v,h,h',q,q'=>by
  obtain⟨a,vs,e,t,l⟩:=xX q
  cases d' with
  |int j=>rw [xN q']at e;cases e
  |str y=>rw [wC q']at e;cases e
  |tup es=>
   obtain⟨a',vs',e',t',l'⟩:=xX q';rw [e]at e';cases e';have:=I.tuple_inj t t';subst this;rw [zWF I (by unfold zHC at h;exact h) (by unfold zHC at h';exact h') l l']
  |_=>simp [zHC]at h'
theorem zWF(I:Inv X pins σ H s): ∀{ds es:Bh}{vs:List V},zSC ds=true->zSC es=true->DenL X.K α H ds vs->DenL X.K α H es vs->ds=es
 |[],[],_,_,_,_,_=>rfl
 |[],e::es,_,_,_,q,q'=>by obtain⟨v,r,e,_⟩:=q'.uncons;rw [q.isnil]at e;cases e
 |d::ds,[],_,_,_,q,q'=>by obtain⟨v,r,e,_⟩:=q.uncons;rw [q'.isnil]at e;cases e
 |d::ds,e::es,_,h,h',q,q'=>by obtain⟨v,r,rfl,a,l⟩:=q.uncons;obtain⟨v',r',e',a',l'⟩:=q'.uncons;cases e';unfold zSC at h h';rw [aE]at h h';rw [yBK I h.1 h'.1 a a',zWF I h.2 h'.2 l l']
end

def lexRS{A:Around}{xs ys:Ae}{k:Bool}(h:LexR A s xs ys k):Srt.LexS A s xs ys k:=by
 induction h with
 |nn=>exact .nn
 |nc x xs=>exact .nc x xs
 |cn x xs=>exact .cn x xs
 |eq a _ ih=>exact .eq a ih
 |ne a b=>exact .ne a b
def zZK(I:Inv X pins σ H s){ds:Bh}{x:V}{u:Value}(d:Den X.K α H (.tup ds) x)(r:RelV x u): ∃a vs its,u=.ref a/\DenL X.K α H ds vs/\Vals vs its/\Srt.TupAt s.heap a its/\IsTup s.heap a its.toArray:=by obtain⟨a,vs,rfl,t,l⟩:=xX d;cases r;obtain⟨its,r1,pt,_⟩:=I.tuple t;obtain⟨o,h1,h2,n,h3⟩:=id pt;exact⟨a,vs,its,rfl,l,r1,⟨o,n,h1,h2,h3⟩,pt⟩
end
structure OrdD(S:Sto)(ks:Bh):Prop where
 any: ∀a,a∈ks-> ∀b,b∈ks-> ∃t,ltv S zQ a b=some t
 tr: ∀a,a∈ks-> ∀b,b∈ks-> ∀c,c∈ks->ltv S zQ b a=some false->ltv S zQ c b=some false->ltv S zQ c a=some false
 as: ∀a,a∈ks-> ∀b,b∈ks->ltv S zQ a b=some true->ltv S zQ b a=some false
section
variable{X:Cx}{α:Ah}{S:Sto}{H:Hp}{pins:Ba}{σ:St}{s:Shared}{k:Nat}{fa:Addr}{fd:FuncData}{ps:Ai}{Fd:List MV->Sto->R Er}
def yEJ{e:Addr}{ys:List V}{its:Ae}{n:Nat}(J:Inv X pins σ H s)(f:zJL X pins H e)(h0:X.s₀.heap.objs.size<=e)(he:s.heap.get? e=some (seqObj "list" its.toArray n))(hv:Vals ys its)(hz:ys.length<=sizeLine):Inv X pins σ (upd H e (.lst ys)) s:=by
 have s0: ∀o,X.s₀.heap.get? e≠some o:=λo z=>absurd (lt_of_lt_of_le (Heap.lt_size z) h0) (lt_irrefl _);refine⟨J.ok,J.os,J.bare,⟨J.base.keep,J.base.slot,λb ob' q n hx=>?_,J.base.there,λb xs q=>?_,λb o' u q=>?_,λb ps q=>?_⟩,J.loc,J.cell,?_,λx c hc=>?_,λp hp=>?_,λb u q=>?_,J.len⟩
 ·rw [zU λz=>s0 ob' (by rw [<-z];exact q)];exact J.base.free b ob' q n hx
 ·rw [zU (yB (J.base.tups b xs q) f.1)];exact J.base.tups b xs q
 ·rw [zU (yB (J.base.frzs b o' u q) f.1)];exact J.base.frzs b o' u q
 ·obtain⟨mo,z⟩:=J.base.tbls b ps q;exact⟨mo,by rw [zU (yB z f.1)];exact z⟩
 ·rw [zU (Ne.symm f.2.1)];exact J.free
 ·rw [zU (f.2.2.2.2.1 x c hc)];exact J.freeC x c hc
 ·obtain⟨e1,n,ne,nf,dd⟩:=J.pin p hp;exact⟨e1,by rw [zU (f.2.2.2.2.2 p hp)];exact n,ne,nf,dd⟩
 ·by_cases z:b=e
  ·subst z;rw [yV]at q;cases q;exact⟨hz,its,n,hv,he⟩
  ·rw [zU z]at q;exact(J.hok b u q).stay (λ_ _ _ r=>r) (λc r=>by rw [zU (yB r f.1)];exact r) λc xs r=>by rw [zU (yB r f.1)];exact r
def zTW(K:Be)(α:Ah)(H:Hp)(kds:Bh)(u:Value):MV:=
 open Classical in if h: ∃d v,d∈kds/\Den K α H d v/\RelV v u then Classical.choose h else kds.headD .non
def ltV(K:Be)(α:Ah)(H:Hp)(S:Sto)(kds:Bh)(p q:Keyed):Bool:=(ltv S zQ (zTW K α H kds p.1) (zTW K α H kds q.1)).getD false
def nQ{K:Be}{kds:Bh}(hne:kds≠[])(u:Value):zTW K α H kds u∈kds:=by
 unfold zTW;split
 ·rename_i h;obtain⟨v,h1,_⟩:=Classical.choose_spec h;exact h1
 ·match kds,hne with
  |x::l,_=>exact mF0
def zOW{K:Be}{kds:Bh}{u:Value}(h: ∃d v,d∈kds/\Den K α H d v/\RelV v u): ∃v,Den K α H (zTW K α H kds u) v/\RelV v u:=by unfold zTW;rw [dif_pos h];obtain⟨v,_,h2,h3⟩:=Classical.choose_spec h;exact⟨v,h2,h3⟩
def yHY(I:Inv X pins σ H s){kds:Bh}{kvs:List V}{ks:Ae}(hpu: ∀d,d∈kds->zHC d=true)(dk:DenL X.K α H kds kvs)(vk:Vals kvs ks){i:Nat}{u:Value}{a:MV}(hu:ks[i]? =some u)(ha:kds[i]? =some a):
  zTW X.K α H kds u=a:=by
 obtain⟨v,hv,da⟩:=dk.at ha;obtain⟨u',hu',r⟩:=vk.get hv;rw [hu]at hu';cases hu';have ma:a∈kds:=mem_of_getElem? ha;have ne:kds≠[]:=λz=>by rw [z]at ma;cases ma
 obtain⟨v',d',r'⟩:=zOW (K:=X.K) (α:=α) (H:=H) ⟨a,v,ma,da,r⟩;rw [r'.inj r]at d';exact yBK I (hpu _ (nQ ne u)) (hpu a ma) d' da
end
section
variable{X:Cx}{α:Ah}{S:Sto}{H:Hp}{pins:Ba}{σ:St}{s:Shared}{k:Nat}{fa:Addr}{fd:FuncData}{ps:Ai}{Fd:List MV->Sto->R Er}
theorem yEK{ks its:Ae}{N:Nat}(h1:ks.length=N)(h2:its.length=N):(List.range N).map (λi=>((ks[i]?).getD .none,(its[i]?).getD .none))=ks.zip its:=by
 apply ext_getElem?;intro i;rw [getElem?_map];by_cases hi:i<N
 ·have e:(ks.zip its)[i]? =some (ks[i]'(by omega),its[i]'(by omega)):=by rw [List.getElem?_zip_eq_some];exact⟨gE0 _,gE0 _⟩
  rw [List.getElem?_range hi,e];show some ((ks[i]?).getD .none,(its[i]?).getD .none)=_;rw [gE0 (by omega),gE0 (by omega)];rfl
 ·rw [getElem?_eq_none (by rw [length_range];omega),getElem?_eq_none (by rw [length_zip];omega)];rfl
theorem zOX{β:Type}{l:List β}{d:β}{idx:Ab}(h: ∀i,i∈idx->i<l.length):idx.map (λi=>(l[i]?).getD d)=idx.filterMap (l[·]?):=by
 induction idx with
 |nil=>rfl
 |cons i idx ih=>
  have hi:=h i mF0;rw [map_cons,filterMap_cons_some (gE0 hi),ih λj hj=>h j (mO _ hj),gE0 hi];rfl
end
def yBL(S:Sto)(ds kds r:Bh):Prop:= ∃idx:List Nat,idx.Perm (List.range ds.length)/\idx.Pairwise (λi j=> ∀a c,kds[i]? =some a->kds[j]? =some c->ltv S zQ c a=some false)/\r=idx.filterMap (ds[·]?)
open Classical in
open Classical in
section
variable{X:Cx}{W:XW}{tg iter a:Expr}{f:AX}{af:Rho->Sto->R (List Er)}{e:Expr}{es:Bd}{pos apos:Pos}
def Itq(K:Be)(k:Bool)(a:Addr):It:=if k=true then Itl K a else Itt K a
def iSeq(K:Be)(tl:TE):TI:=λσ H R=>tl σ H λx H1=> ∃k a,x=.ref a/\(∃xs,SqK k K H1 a xs)/\R (Itq K k a) H1
def ySB{l:Expr}{tl:TE}(hl:PE X l tl):PI X tg l (iSeq X.K tl):=by
 intro pins s σ H R I h;refine thn (hl pins s σ H _ I h) λv s1 ⟨x,H1,I1,r1,q1⟩=>?_;obtain⟨k,a,e,⟨xs,hq⟩,q⟩:=q1;subst e;cases r1
 cases k with
 |true=>
  obtain⟨its,rv,p,hz⟩:=I1.list (show SqL X.K H1 a xs from hq);refine wpAny_pyIter_list p.isList ?_;refine⟨s1.heap.objs.size,[s1.heap.objs.size],_,_,H1,rfl,I1.kept (t':=s1.toks) λb o e=>hP0 _ e,zRM a _,⟨_,Heap.get?_push_size _ rfl,rfl,rfl⟩,λb hb=>?_,q⟩;have e:b=s1.heap.objs.size:=by simpa using hb
  subst e;exact I1.fpOk (le_refl _) (I1.hok.fresh (le_refl _))
 |false=>
  obtain⟨its,rv,p,hz⟩:=I1.tuple (show SqT X.K H1 a xs from hq);refine wpAny_pyIter_tuple (show s1.heap.IsTuple a its.toArray from p) ?_;refine⟨s1.heap.objs.size,[s1.heap.objs.size],_,_,H1,rfl,I1.kept (t':=s1.toks) λb o e=>hP0 _ e,zOD a _,⟨_,Heap.get?_push_size _ rfl,rfl,rfl⟩,λb hb=>?_,q⟩;have e:b=s1.heap.objs.size:=by simpa using hb
  subst e;exact I1.fpOk (le_refl _) (I1.hok.fresh (le_refl _))
def itQ(r:Er)(S:Sto):R Wk:=match srcOf S r with
 |some q=>.ok ⟨q.ds,q.gs⟩ S
 |none=>.no
def ySC(he:PEm X W iter f):PIm X W tg iter (λρ S=>(f ρ S).bind itQ):=by
 obtain⟨t,he,k⟩:=he;refine⟨_,ySB he,λα ρ S σ H Rc wd sl q=>k α ρ S σ H _ wd sl (q.bind λu p S1 α1 H1 e x1 w1 d1 q1=>?_)⟩
 replace q1:=q1.shift x1
 unfold itQ at q1;split at q1
 ·rename_i q e1;obtain⟨l1,P1,rfl,p1,D1⟩:=zTQ w1 e1 d1.1;have g1:=D1.get _ _ _ p1;refine⟨q.k,l1,rfl,⟨_,g1.choose_spec.1⟩,q1.here (u:=Itq X.K q.k l1) w1 ⟨λα S H=>P1 α S H,?_,p1,λα1 S1 H1 α2 S2 H2 b1 x w hs=>D1.stays _ _ _ _ _ _ b1 x w hs,D1.st _ _ _ p1⟩⟩;intro i α2 S2 H2 b1 w2;obtain⟨us,c1,c2⟩:=D1.get _ _ _ b1;obtain⟨qk,qd,qg⟩:=q
  cases qk with
  |true=>
   obtain⟨i1,i2⟩:=zKE (X:=X) (a:=l1) (ds:=qd) i α2 S2 H2 ⟨us,c1,c2⟩ w2;refine⟨λhi=>⟨(i1 hi).1,λx H' y=>?_⟩,i2⟩;obtain⟨j1,j2,j3,j4⟩:=(i1 hi).2 x H' y;obtain⟨rfl,_⟩:=y;exact⟨j1,j2,b1,j4⟩
  |false=>
   obtain⟨i1,i2⟩:=yAT (X:=X) (a:=l1) (ds:=qd) i α2 S2 H2 ⟨us,c1,c2⟩ w2;refine⟨λhi=>⟨(i1 hi).1,λx H' y=>?_⟩,i2⟩;obtain⟨j1,j2,j3,j4⟩:=(i1 hi).2 x H' y;obtain⟨rfl,_⟩:=y;exact⟨j1,j2,b1,j4⟩
 ·exact q1.elim
theorem DenL.eraseIdx{K:Be}{α:Ah}{H:Hp}: ∀{ds:Bh}{vs:List V}(n:Nat),DenL K α H ds vs->DenL K α H (ds.eraseIdx n) (vs.eraseIdx n)
 |[],_,_,q=>by rw [q.isnil];exact yS
 |d::ds,_,0,q=>by obtain⟨v,r,rfl,_,l⟩:=q.uncons;exact l
 |d::ds,_,n+1,q=>by obtain⟨v,r,rfl,a,l⟩:=q.uncons;exact yD a (DenL.eraseIdx n l)
end
section
variable{X:Cx}{W:XW}{a b o i:Expr}{f g:AX}{pos:Pos}{pins:Ba}{σ:St}{H:Hp}{s:Shared}{α:Ah}
def zJM(kvs:List (Key×V))(k:Key)(v:V):List (Key×V):=if(kvs.any λkv=>decide (kv.1=k))=true then kvs.map (λkv=>if kv.1=k then(kv.1,v)else kv)else kvs++[(k,v)]
def zOY(kvs:List (Key×V))(k:Key)(v:V):(zJM kvs k v).length<=kvs.length+1:=by
 unfold zJM;split
 ·rw [lM];exact le_succ _
 ·rw [lA];exact le_refl _
def ySD{kvs:List (Key×V)}{vs:List (Key×Value)}(r:KV kvs vs)(k:Key):(kvs.any λkv=>decide (kv.1=k))=vs.any λkv=>decide (kv.1=k):=by
 unfold KV at r
 induction r with
 |nil=>rfl
 |cons h t ih=>rw [any_cons,any_cons,ih,h.1]
def yNA{kvs:List (Key×V)}{vs:List (Key×Value)}(r:KV kvs vs)(k:Key){y:V}{u:Value}(ry:RelV y u):KV (kvs.map λkv=>if kv.1=k then(kv.1,y)else kv) (vs.map λkv=>if kv.1=k then(kv.1,u)else kv):=by
 unfold KV at r ⊢
 induction r with
 |nil=>exact .nil
 |@cons p q ps qs h t ih=>
  rw [map_cons,map_cons];refine .cons ?_ ih;by_cases e:p.1=k
  ·rw [iP e,iP (h.1.symm.trans e)];exact⟨h.1,ry⟩
  ·rw [iN e,iN λz=>e (h.1.trans z)];exact h
def yNB{kvs:List (Key×V)}{vs:List (Key×Value)}(r:KV kvs vs){p:Key×V}{q:Key×Value}(h:p.1=q.1/\RelV p.2 q.2):KV (kvs++[p]) (vs++[q]):=by
 unfold KV at r ⊢
 induction r with
 |nil=>exact .cons h .nil
 |cons h' t ih=>exact .cons h' ih
def yHZ{kvs:List (Key×V)}{vs:List (Key×Value)}(r:KV kvs vs)(k:Key){y:V}{u:Value}(ry:RelV y u):KV (zJM kvs k y) (stored vs k u):=by
 unfold zJM stored;rw [ySD r k];by_cases e:(vs.any λkv=>decide (kv.1=k))=true
 ·rw [iP e,iP e];exact yNA r k ry
 ·rw [iN e,iN e];exact yNB r ⟨rfl,ry⟩
def zTX{k:MV}{a b:Key}(h:KeyD k a)(h':KeyD k b):a=b:=by
 cases k with
 |int i=>exact Eq.trans (show a=.inl i from h) (show b=.inl i from h').symm
 |str x=>exact Eq.trans (show a=.inr (mkS x)from h) (show b=.inr (mkS x)from h').symm
 |_=>exact False.elim h
def zOZ{k k':MV}{a:Key}(h:KeyD k a)(h':KeyD k' a):k=k':=by
 cases k with
 |int i=>
  have e:a=.inl i:=h;subst e
  cases k' with
  |int j=>have e':(Sum.inl i:Key)=.inl j:=h';cases e';rfl
  |str y=>have e':(Sum.inl i:Key)=.inr (mkS y):=h';cases e'
  |_=>exact False.elim h'
 |str x=>
  have e:a=.inr (mkS x):=h;subst e
  cases k' with
  |int j=>have e':(Sum.inr (mkS x):Key)=.inl j:=h';cases e'
  |str y=>
   have e':(Sum.inr (mkS x):Key)=.inr (mkS y):=h';injection e' with e'
   rw [zIT e']
  |_=>exact False.elim h'
 |_=>exact False.elim h
theorem zWG: ∀{kvs:Ca}{ks:List (Key×V)}{k:MV}{k':Key},DenK X.K α H kvs ks->KeyD k k'->(ks.any λkv=>decide (kv.1=k'))=(look kvs k).isSome
 |_,_,k,k',.nil,hk=>rfl
 |_,_,k,k',.cons (k:=c) (k':=c') hc a l,hk=>by
  rw [zSA,any_cons];by_cases h:c=k
  ·subst h;rw [iP rfl,dT0 (zTX hc hk)];rfl
  ·have hn: ¬c'=k':=λz=>h (zOZ hc (z.symm▸hk));rw [iN h,dF0 hn,Bool.false_or];exact zWG l hk
theorem zPA: ∀{kvs:Ca}{ks:List (Key×V)}{k d:MV}{k':Key}{v:V},DenK X.K α H kvs ks->KeyD k k'->Den X.K α H d v->DenK X.K α H (kvs.map λp=>if p.1=k then(p.1,d)else p) (ks.map λkv=>if kv.1=k' then(kv.1,v)else kv)
 |_,_,k,d,k',v,.nil,hk,hd=>.nil
 |_,_,k,d,k',v,.cons (k:=c) (k':=c') hc a l,hk,hd=>by
  rw [map_cons,map_cons];by_cases h:c=k
  ·subst h;rw [iP rfl,iP (zTX hc hk)];exact .cons hc hd (zPA l hk hd)
  ·have hn: ¬c'=k':=λz=>h (zOZ hc (z.symm▸hk));rw [iN h,iN hn];exact .cons hc a (zPA l hk hd)
theorem DenK.append: ∀{kvs kvs':Ca}{xs xs':List (Key×V)},DenK X.K α H kvs xs->DenK X.K α H kvs' xs'->DenK X.K α H (kvs++kvs') (xs++xs')
 |_,_,_,_,.nil,h=>h
 |_,_,_,_,.cons hk a l,h=>.cons hk a (DenK.append l h)
theorem DenK.length: ∀{kvs:Ca}{xs:List (Key×V)},DenK X.K α H kvs xs->xs.length=kvs.length
 |_,_,.nil=>rfl
 |_,_,.cons _ _ l=>by rw [lC,lC,DenK.length l]
def zWH{kvs:Ca}{ks:List (Key×V)}{k d:MV}{k':Key}{v:V}(l:DenK X.K α H kvs ks)(hk:KeyD k k')(hd:Den X.K α H d v):DenK X.K α H (putK kvs k d) (zJM ks k' v):=by
 unfold putK zJM;rw [zWG l hk];by_cases h:(look kvs k).isSome=true
 ·rw [iP h,iP h];exact zPA l hk hd
 ·rw [iN h,iN h];exact l.append (.cons hk hd .nil)
def DK(X:Cx)(H:Hp)(d:Addr)(ks:List (Key×V)):Prop:=H d=some (.dK ks)\/False
def nR(I:Inv X pins σ H s){ks:List (Key×V)}{d:Addr}(h:DK X H d ks):ks.length<=sizeLine/\(d==sysModules)=false/\ ∃vs,KV ks vs/\s.heap.DictOf (yP X.prog X.w) d vs:=by
 rcases h with h|z
 ·exact(show ObjOk X.prog X.w H s.heap d (.dK ks)from I.hok d _ h)
 ·exact False.elim z
def zPB:CallR X (.type "list") (λxs H Q=> ∃d ks,xs=[.ref d]/\DK X H d ks/\X.calm=true/\ ∀l,H l=none->Q (.ref l) (upd H l (.lst (ks.map λp=>kV p.1)))):=by
 intro pins s σ H xs us Q I r h;obtain⟨d,ks,rfl,dd,hc,q⟩:=h;obtain⟨u,rfl,rx⟩:=vals1 r;cases rx;obtain⟨z,hd,vs,rel,dm⟩:=nR I dd;obtain⟨ep,hat⟩:=dm.dictAt;have hl:ks.length=vs.length:=Paired.length rel;refine PySem.W.kdl_call (PySem.W.kdl_dict (knd:=yP X.prog X.w) (kvs:=vs) (ep:=ep) hd) (I.ok.hd hc) hat (by omega) λh' tk acc c' hk hS hacc=>?_
 have rv:Vals (ks.map λp=>kV p.1) acc.toList:=by
  have key: ∀{ks:List (Key×V)}{vs:List (Key×Value)}{us:Ae},KV ks vs->us.length=vs.length->(∀(j:Nat)(v:Value),us[j]? =some v-> ∃(k:Key)(x:Value),vs[j]? =some (k,x)/\(yP X.prog X.w).is k v=true)->Vals (ks.map λp=>kV p.1) us:=by
   intro ks vs us kv;unfold KV at kv
   induction kv generalizing us with
   |nil=>intro hl _;cases us with
    |nil=>exact .nil
    |cons a b=>simp at hl
   |@cons p q ps qs h t ih=>
    intro hl hv
    cases us with
    |nil=>simp at hl
    |cons a b=>
     obtain⟨k,x,e,hi⟩:=hv 0 a rfl;simp only [List.getElem?_cons_zero,Option.some.injEq]at e;subst e;rw [map_cons];refine .cons ?_ (ih (by simpa using hl) λj v hj=>by simpa using hv (j+1) v (by simpa using hj));rw [h.1];rcases yR hi with⟨i,t,e1,e2⟩|⟨i,t,e1,e2⟩
     ·subst e2;rw [show k=.inl i from e1];exact⟨t,rfl⟩
     ·subst e2;rw [show k=.inr i from e1];exact⟨t,rfl⟩
  exact key rel (by rw [Array.length_toList];exact hacc.1) λj v e=>hacc.2 j v (by rw [<-Array.getElem?_toList];exact e)
 refine⟨.ref s.heap.objs.size,_,I.laid (t':=tk) hk (le_refl _) (show ObjOk X.prog X.w _ h' _ (.lst (ks.map λp=>kV p.1))from⟨by rw [lM];exact z,acc.toList,c',rv,?_⟩),rfl,q _ (I.hok.fresh (le_refl _))⟩;rw [Array.toArray_toList];exact hS
theorem zLW: ∀{kvs:Ca}{ks:List (Key×V)},DenK X.K α H kvs ks->DenL X.K α H (kvs.map (·.1)) (ks.map λp=>kV p.1)
 |_,_,.nil=>yS
 |_,_,.cons (k:=c) (k':=c') hc a l=>by
  refine yD ?_ (zLW l)
  cases c with
  |int i=>rw [show c'=.inl i from hc];exact xW i
  |str x=>rw [show c'=.inr (mkS x)from hc];exact zBH x
  |_=>exact False.elim hc
end
def inK(k:Key)(l:List Key):Bool:=l.any λj=>decide (j=k)
def zDO(val:Nat->Key):Nat->List Key
 |0=>[]
 |i+1=>if inK (val i) (zDO val i)=true then zDO val i else zDO val i++[val i]
theorem zJA(val:Nat->Key)(i:Nat):zDO val (i+1)=if inK (val i) (zDO val i)=true then zDO val i else zDO val i++[val i]:=rfl
theorem zNT(val:Nat->Key): ∀i,(zDO val i).length<=i
 |0=>le_refl _
 |i+1=>by
  have ih:=zNT val i;rw [zJA];split
  ·exact le_trans ih (le_succ _)
  ·rw [lA];exact Nat.succ_le_succ ih
def yIA(val:Nat->Key)(i:Nat)(k:Key):inK k (zDO val (i+1))=(inK k (zDO val i) || decide (k=val i)):=by
 rw [zJA];by_cases h:inK (val i) (zDO val i)=true
 ·rw [iP h];by_cases e:k=val i
  ·rw [e,h];rfl
  ·rw [dF0 e,Bool.or_false]
 ·rw [iN h];unfold inK;rw [List.any_append,any_cons,List.any_nil,Bool.or_false];congr 1;by_cases e:val i=k
  ·rw [dT0 e,dT0 e.symm]
  ·rw [dF0 e,dF0 λz=>e z.symm]
theorem yIB(val:Nat->Key)(i:Nat):(zDO val (i+1)).length=if inK (val i) (zDO val i)=true then(zDO val i).length else(zDO val i).length+1:=by
 rw [zJA];split
 ·rfl
 ·rw [lA];rfl
section
variable{P:Program}{w:World}{A:Around}{E:VP}{s:Shared}
abbrev wQ(led:Bool):Obj:={cls:=.type "set",dict:=none,data:=.set #[] 0 (.fresh 0 0 led)}
end
section
variable{X:Cx}{W:XW}{e:Expr}{af:Rho->Sto->R (List Er)}{p1 p2 pos1 pos2:Pos}
def zQV(ys:Aa)(i:Nat):Key:=.inr (mkS (ys.getD i []))
def strsOf:List MV->Option (List (List Nat))
 |[]=>some []
 |.str x::r=>(strsOf r).map (x::·)
 |_=>none
theorem zWI{K:Be}{α:Ah}{H:Hp}: ∀{ds:Bh}{ys:Aa}{vs:List V},strsOf ds=some ys->DenL K α H ds vs->vs=ys.map λx=>V.str (mkS x)
 |[],ys,vs,h,d=>by cases h;rw [d.isnil];rfl
 |x::ds,ys,vs,h,d=>by
  obtain⟨v,r,rfl,dv,l⟩:=d.uncons
  cases x with
  |str x=>
   unfold strsOf at h
   cases z:strsOf ds with
   |none=>rw [z]at h;cases h
   |some zs=>
    rw [z]at h;cases h;rw [map_cons,wC dv,zWI z l]
  |_=>cases h
def ySE:bootBuiltins "set"=some (.type "set"):=by decide+kernel
end
section
variable{X:Cx}{W:XW}{o e:Expr}{es:Bd}{f:AX}{af:Rho->Sto->R (List Er)}{apos pos:Pos}{to:TE}{t:TA}{T:String}{name:Str}{id:String}{r:V->List V->Hp->VK->Prop}
def zKO(X:Cx)(T:String)(TY:V->Hp->Prop):Prop:= ∀(pins:Ba)(s:Shared)(σ:St)(H:Hp)(x:V)(v:Value),Inv X pins σ H s->RelV x v->TY x H->s.TypeIs v T/\ ∀a,v=.ref a-> ∃ob,s.heap.get? a=some ob/\ob.dict=none
def ySF{TY:V->Hp->Prop}(hTY:zKO X T TY)(pa:PlainAttrs T)(slot:Slot T name id)(hty:typeOf (.builtin id)=pure (.type "method_descriptor"))(hm:MtR X id r)(ho:PE X o to)(ha:PA X (e::es) t)
  (hbase:attributeBase o name X.env (eval o X.env)=eval o X.env)
  (hfew:((backTo pos (starEach (e::es) X.env)).all (λx=>!x.1)&&(backToKw pos (keywordEach [] X.env)).all (λx=>x.1.isSome)
   &&decide ((e::es).length+([]:List Keyword).length+(if([]:List Keyword).isEmpty then 0 else 1)<30))=true)
  (hline:(apos.endLine==pos.line)=true) (hs:starEach (e::es) X.env=(false,eval e X.env)::starEach es X.env) (hplain:(backTo pos (starEach es X.env)).any (·.1)=false):
  PE X (.Call (.Attribute o name apos) (e::es) [] pos) (λσ H Q=>to σ H λx H1=>TY x H1/\t σ H1 λvs H2=>r x vs H2 Q):=by
 intro pins s σ H Q I h;refine wpAny_Call_method_late hbase hfew hline rfl (thn (ho pins s σ H _ I h) λv s1 ⟨x,H1,I1,r1,ty,q1⟩=>?_);obtain⟨h1,h2⟩:=hTY pins s1 σ H1 x v I1 r1 ty;refine⟨T,id,pa,slot,hty,h1,h2,?_⟩;have hA:=ha pos pins s1 σ H1 _ I1 q1;rw [hs]at hA ⊢;refine Calls.callWith_builtin (by show(false || (backTo pos (starEach es X.env)).any (·.1))=false;rw [hplain]<;>rfl) (Calls.evalArgs_plain ?_);exact thn hA λus s2 ⟨vs,H2,I2,r2,q2⟩=>hm pins s2 σ H2 x vs v us Q I2 r1 r2 q2
end
def VAt(d:Addr)(us:Ae)(ep:Nat)(h:Heap):Prop:= ∃o es,h.get? d=some o/\o.ExactDict/\o.data=.dict es ep/\es.toList.map (·.val)=us
def VAt.at{d:Addr}{us:Ae}{ep:Nat}{h h':Heap}(x:VAt d us ep h)(m: ∀o,h.get? d=some o->h'.get? d=some o):VAt d us ep h':=let ⟨o,es,ho,r⟩:=x;⟨o,es,m o ho,r⟩
theorem VAt.size{d:Addr}{us:Ae}{ep:Nat}{h:Heap}(x:VAt d us ep h): ∃o es,h.get? d=some o/\o.ExactDict/\o.data=.dict es ep/\es.size=us.length/\ ∀i (hi:i<es.size),us[i]? =some es[i].val:=by obtain⟨o,es,ho,hc,hd,e⟩:=x;refine⟨o,es,ho,hc,hd,by rw [<-e,lM,Array.length_toList],λi hi=>?_⟩;rw [<-e,getElem?_map,Array.getElem?_toList,Array.getElem?_eq_getElem hi];rfl
end M
end L2
namespace L2
open PySem PySem.Spec PyProof.Rows
open Builtin Builtin.ObjectAttr
section
variable{prog:Program}{w:World}{A:Around}{E:VP}{h:Heap}{g:Array GenState}{d:Drawn}{t:Nat}{os:OsState}{C M x:Addr}{o:Obj}{v:Value}{name:Str}
variable{nm q:Str}{N:Addr}{bs bm:Ae}{sn:Ai}{sub:Ae}{ab:Bool}{col:Option Bool}{dd:Option Addr}{k0 k1 k2 k3 k5:Option Value}{newId:String}
def SetAt(h h':Heap)(x:Addr)(o:Obj)(name:Str)(v:Value)(dx:Addr):Prop:=
 h.get? dx=none/\dx≠x/\h'.get? x=some {cls:=o.cls,dict:=some dx,data:=o.data,slots:=o.slots}/\h'.Ns1 dx (λy=>if y=name then some v else none)/\ ∀b ob,b≠x->h.get? b=some ob->h'.get? b=some ob
end
abbrev BIG:Nat:=10 ^ 100
section
variable{X:Cx}{par:Str}{i:Nat}{pins:Ba}{σ:St}{H:Hp}
def tJ(i:Nat):TE:=λσ H Q=> ∃n,σ[i]? =some (some (.int n))/\n.natAbs<BIG/\ ∀y:Str,Q (.str y) H
end
namespace M
structure XIn(K:Be)(M C f:Addr):Prop where
 ex: ∃nm q N bs sn sub ab col dd k0 k1 k2 k3 k5,K.lookup C=some (excClassObj nm q C N bs (.ref M::bmV) true sn sub ab col dd k0 k1 k2 k3 k5 "ValueError.__new__")/\PySem.W.nsOkIn K N=true/\PySem.W.nsIn K N "__init__"=some (some (.ref f))/\ ∀n∈qn,PySem.W.nsIn K N n=some none
 fo: ∃o,K.lookup f=some o/\o.cls=.type "function"
def XIn.cl{K:Be}{M C f:Addr}(x:XIn K M C f):XCl K C (.ref M::bmV) (some (.ref f)):=by obtain⟨nm,q,N,bs,sn,sub,ab,col,dd,k0,k1,k2,k3,k5,a,b,c,d⟩:=x.ex;exact⟨nm,q,N,bs,true,sn,sub,ab,col,dd,k0,k1,k2,k3,k5,a,b,c,d,rfl⟩
structure DefM(K:Be)(mg:Aj)(x:Str)(st:Stmt):Prop where
 ex: ∃f fd,mg x=some (.ref f)/\Fun K x x st f fd
def def_mk{K:Be}{mg:Aj}{h:Heap}{x:Str}{st:Stmt}{g:Addr}{od an:Option Addr}{sl:Array (Option Value)}{oc kV dc pm cd ct:Value}(a:PySem.W.nsIn K mainGlobals x=some (some (.ref g)))
  (l:K.lookup g=some ⟨oc,od,.func (PySem.W.fnOf x x (zFU st) (zBG st) (zH st) .none kV dc pm an cd ct),sl⟩) (c:PySem.W.codeIn K cd x=true) (k:PySem.W.keepIn K (.ref g)=true) (X:K.In h) (GG:h.Ns mainGlobals mg):DefM K mg x st:=⟨_,_,PySem.W.mg_of X GG a,yQQ l c k⟩
structure Cal(P:Program)(w:World)(K:Be)(mg:Aj)(base:Heap)(CX:CXT)(x:Str)(k:Nat)(ps:Ai)(sp:Sp):Prop where
 ex: ∃fa fd,FnOk P w K mg base CX k fa fd ps sp/\mg x=some (.ref fa)/\PySem.W.keepIn K (.ref fa)=true/\Binds K fd ps []
abbrev CalM(P:Program)(w:World)(K:Be)(mg:Aj)(base:Heap)(x:Str)(k n:Nat)(ps:Ai)(F:List MV->Sto->R Er):Prop:=Cal P w K mg base CX0 x k ps (spM ⟨K,mg,P,w⟩ n F)
abbrev CalX(P:Program)(w:World)(K:Be)(mg:Aj)(base:Heap)(x:Str)(k n:Nat)(ps:Ai)(F:List MV->Sto->R Er):Prop:=Cal P w K mg base (CXe P w) x k ps (spX ⟨K,mg,P,w⟩ n F)
section
variable{P:Program}{w:World}{K:Be}{mg:Aj}{base:Heap}{x:Str}{st:Stmt}{N ps:Ai}{k n:Nat}{F:List MV->Sto->R Er}
abbrev ySG(x:Str)(st:Stmt)(ps:Ai):Prop:= ∀(kV doc pm:Value)(an:Option Addr)(cdv ct:Value)(us:Ae),us.length=ps.length->bindArgs (PySem.W.fnOf x x (zFU st) (zBG st) (zH st) .none kV doc pm an cdv ct) ⟨us,[]⟩=pure (ps.zip us)
def okC(D:DefM K mg x st)(hb:ySG x st ps)(h: ∀f fd,Fun K x x st f fd->FnOk P w K mg base CX0 k f fd ps (spM ⟨K,mg,P,w⟩ n F)):CalM P w K mg base x k n ps F:=
 let ⟨f,fd,m,Fu⟩:=D.ex;⟨f,fd,h f fd Fu,m,Fu.kp,Fu.binds hb⟩
def Cal.noX(G:CalX P w K mg base x k n ps F):CalM P w K mg base x k n ps F:=let ⟨fa,fd,G,m,kp,b⟩:=G.ex;⟨fa,fd,G.noX,m,kp,b⟩
def ySH{l:PySem.W.OpenLaw}{fa:Addr}{p:Str}(D:DefM K mg x st)(hfa:mg x=some (.ref fa))(hb: ∀(kV doc pm:Value)(an:Option Addr)(cdv ct:Value)(s:Shared)(v:Value),BindsTo s (PySem.W.fnOf x x (zFU st) (zBG st) (zH st) .none kV doc pm an cdv ct) ⟨[v],[]⟩ [(p,v)])
  (h: ∀base f fd,Fun K x x st f fd->FnOk l.prog w K mg base CX0 k f fd [p] (spM ⟨K,mg,l.prog,w⟩ 1 F)):
  ∃fd:FuncData,(∀(s:Shared)(v:Value),BindsTo s fd ⟨[v],[]⟩ [(p,v)])/\ ∀base:Heap,K.In base->base.Ns mainGlobals mg->FnOk l.prog w K mg base CX0 k fa fd [p] (zRY K F):=by
 obtain⟨f,fd,m,Fu⟩:=D.ex;rw [hfa]at m;cases m;refine⟨fd,?_,λbase _ _=>(h base fa fd Fu).imp λvs H Q E=>yHH (g:=⟨K,mg,l.prog,w⟩) vs H Q E⟩;obtain⟨_,_,_,_,_,_,_,_,_,rfl,_,_⟩:=Fu.ex;exact hb _ _ _ _ _ _
end
section
variable{X:Cx}{W:XW}{E:XK}{e:Expr}{es:Bd}{af:Rho->Sto->R (List Er)}{k n:Nat}{ps:Ai}{F:List MV->Sto->R Er}{x:Str}{p pos:Pos}
def zO(G:CalM X.prog X.w X.K X.mg X.base x k n ps F)(hr:Room k X.A)(hg:Gl X x)(ha:PAm X W (e::es) af)(hdb:(x==("__debug__":Str))=false:=by decide)
  (he:starEach (e::es) X.env=(false,eval e X.env)::starEach es X.env:=by rfl) (hpl:(backTo pos (starEach es X.env)).any (·.1)=false:=by rfl):PEm X W (.Call (.Name x p) (e::es) [] pos) (λρ S=>(af ρ S).bind λrs S1=>zW n F rs S1):=
 let ⟨_,_,G,m,kp,b⟩:=G.ex;yAV G hr hg m kp b ha hdb he hpl
variable{M:Addr}{cs:List (Str×Addr)}{i j:Nat}{nm y:Str}{Fh:AY}{b0:Stmt}{suite:List Stmt}{mp hpos cpos epos pos':Pos}{ns:Ai}
end
end M
end L2
namespace L2
open PySem PySem.Spec PyProof.Rows
structure RoomH(k:Nat)(A:Around):Prop where
 dp:A.depth+3 * k+5<recursionLimit
 un:A.units+16 * k+200<cLine
def RoomH.depth{k:Nat}{A:Around}(r:RoomH k A):A.depth<recursionLimit:=by have:=r.dp;omega
def RoomH.units{k:Nat}{A:Around}(r:RoomH k A):A.units+64<cLine:=by have:=r.un;omega
structure FnOkH(P:Program)(w:World)(K:Be)(mg:Aj)(base:Heap)(k:Nat)(f:Addr)(fd:FuncData)(ps:Ai)(sp:Sp):Prop where
 len: ∀vs H Q E,sp vs H Q E->vs.length=ps.length
 run: ∀(A:Around)(outer:List Env)(s:Shared)(H:Hp)(args:Args)(us:Ae)(vs:List V)(Q:VK)(E:XK),RoomH k A->Env0 P w K mg base A outer s H->BindsTo s fd args (ps.zip us)->Vals vs us->sp vs H Q E->
  codeAny (model P w) A (.call (.ref f) args) (CR CX0 outer P w H s Q E) s
namespace M
section
variable{P:Program}{w:World}{K:Be}{mg:Aj}{base:Heap}{x:Str}{st:Stmt}{N ps:Ai}{k n:Nat}{F:List MV->Sto->R Er}
structure CalH(P:Program)(w:World)(K:Be)(mg:Aj)(base:Heap)(x:Str)(k n:Nat)(ps:Ai)(F:List MV->Sto->R Er):Prop where
 ex: ∃fa fd,FnOkH P w K mg base k fa fd ps (spM ⟨K,mg,P,w⟩ n F)/\mg x=some (.ref fa)/\PySem.W.keepIn K (.ref fa)=true/\Binds K fd ps []
end
def maxF:List Er->Sto->R Er
 |[.val (.int i),.val (.int j)],S=>.ok (.val (.int (if j>i then j else i))) S
 |_,_=>.no
def zZL:List Er->Sto->R Er
 |[.val (.int i),.val (.int j)],S=>.ok (.val (.int (if j<i then j else i))) S
 |_,_=>.no
section
variable{X:Cx}{W:XW}
def yIC:zBB X W (λxs H Q=> ∃i j,xs=[.int i,.int j]/\Q (.int (if j<i then j else i)) H) zZL:=by
 intro rs vs α S H Q wd d post;unfold zZL at post;split at post
 ·obtain⟨v,u,rfl,dv,du⟩:=yOX d;cases xO dv;cases xO du;exact⟨_,_,rfl,Post.val post wd (xW _)⟩
 ·exact post.elim
end
def yID:bootBuiltins "min"=some (.builtin "min"):=by decide+kernel
section
variable{X:Cx}{W:XW}{o e:Expr}{es:Bd}{f:AX}{af:Rho->Sto->R (List Er)}{apos pos:Pos}
def lit3F(kvs:Ca)(S:Sto):R Er:=.ok (.val (.loc S.length)) (S++[.dic kvs])
end
section
variable{X:Cx}{W:XW}{o e:Expr}{es:Bd}{f:AX}{af:Rho->Sto->R (List Er)}{apos pos:Pos}
def zFF(ks:List (Key×V))(k:Key):Option V:=(ks.find? λp=>decide (p.1=k)).map (·.2)
theorem yBM: ∀{ks:List (Key×V)}{vs:List (Key×Value)}(r:KV ks vs)(k:Key),(∀v,zFF ks k=some v-> ∃u,valueAt vs k=some u/\RelV v u)/\(zFF ks k=none->valueAt vs k=none)
 |_,_,.nil,k=>⟨λv h=>(nomatch h),λ_=>rfl⟩
 |(a,x)::ks,(b,u)::vs,.cons ⟨h1,h2⟩ l,k=>by
  cases (show a=b from h1);have ih:=yBM l k;unfold zFF valueAt;by_cases c:a=k
  ·simp only [find?_cons,c,decide_true,Option.map_some];exact⟨λv h=>⟨u,rfl,by cases h;exact h2⟩,λh=>nomatch h⟩
  ·simp only [find?_cons,c,decide_false];exact ih
theorem zSE{α:Ah}{H:Hp}: ∀{kvs:Ca}{ks:List (Key×V)}{k:MV}{k':Key},DenK X.K α H kvs ks->KeyD k k'->(∀d,look kvs k=some d-> ∃v,zFF ks k'=some v/\Den X.K α H d v)/\(look kvs k=none->zFF ks k'=none)
 |_,_,_,_,.nil,_=>⟨λd h=>(nomatch h),λ_=>rfl⟩
 |_,_,k,k',.cons (k:=k0) (k':=k0') (d:=d0) (v:=v0) h1 h2 l,hk=>by
  have ih:=zSE l hk;rw [zSA];unfold zFF;by_cases c:k0=k
  ·subst c;have:=zTX h1 hk;simp only [find?_cons,this,decide_true,Option.map_some,iP rfl];exact⟨λd h=>⟨v0,rfl,by cases h;exact h2⟩,λh=>nomatch h⟩
  ·have hn: ¬k0'=k':=λz=>c (zOZ h1 (z▸hk));simp only [find?_cons,hn,decide_false,iN c];exact ih
def TyK(X:Cx)(x:V)(H:Hp):Prop:= ∃d ks,x=.ref d/\DK X H d ks
def yIE:zKO X "dict" (TyK X):=by intro pins s σ H x v I rx ⟨d,ks,e,dd⟩;subst e;cases rx;obtain⟨_,hs,vs,kv,o,es,ep,ho,hc,_⟩:=nR I dd;exact⟨⟨o,ho,hc.1⟩,λa e=>by cases e;exact⟨o,ho,hc.2.1⟩⟩
end
section
variable{α β:Type}
def vJ(i:Nat)(ρ:Rho)(S:Sto):R Er:=rdSl (ρ[i]?) S
def kJ(d:MV)(_:Rho)(S:Sto):R Er:=.ok (.val d) S
def bJ(f:Rho->Sto->R α)(F:α->Sto->R β)(ρ:Rho)(S:Sto):R β:=(f ρ S).bind F
def dJ(F:Er->Er->Sto->R Er)(f g:AX)(ρ:Rho)(S:Sto):R Er:=(f ρ S).bind λp S=>(g ρ S).bind λq S=>F p q S
def nJ(f:AX)(ρ:Rho)(S:Sto):R Er:=(f ρ S).bind λp S=>(asB p S).bind λk S=>.ok (.val (.bl !k)) S
def aJ(f g:AX)(ρ:Rho)(S:Sto):R Er:=(f ρ S).bind λp S=>andF p S λS=>g ρ S
def oJ(f g:AX)(ρ:Rho)(S:Sto):R Er:=(f ρ S).bind λp S=>orF p S λS=>g ρ S
def iJ(c:AZ)(f g:Rho->Sto->R α)(ρ:Rho)(S:Sto):R α:=(c ρ S).bind λk S=>if k=true then f ρ S else g ρ S
def mJ(_:Rho)(S:Sto):R (Option Int):=.ok none S
def tJ(F:Er->Option Int->Option Int->Sto->R Er)(f:AX)(g h:Rho->Sto->R (Option Int))(ρ:Rho)(S:Sto):R Er:=(f ρ S).bind λp S=>(g ρ S).bind λl S=>(h ρ S).bind λu S=>F p l u S
def lJ(k:Ca)(_:Rho)(S:Sto):R Er:=lit3F k S
def zJ(_:Rho)(S:Sto):R Er:=zWB S
def fJ(n:Nat)(F:List MV->Sto->R Er)(a:Rho->Sto->R (List Er))(ρ:Rho)(S:Sto):R Er:=(a ρ S).bind λr S=>zW n F r S
def xJ(n:Nat)(F:List MV->Sto->R Er)(a:Rho->Sto->R (List Er))(ρ:Rho)(S:Sto):R Er:=(a ρ S).bind λr S=>yBG n F r S
def hJ(F:List MV->Sto->R Er)(_:Rho)(S:Sto):R Er:=zW 0 F [] S
def eJ(t:Er->Sto->Bool)(F:Er->List Er->Sto->R Er)(f:AX)(a:Rho->Sto->R (List Er))(ρ:Rho)(S:Sto):R Er:=(f ρ S).bind λp S=>if t p S=true then(a ρ S).bind λr S=>F p r S else .no
def gJ(t:Er->Sto->Bool)(F:Er->List Er->Sto->R Er)(f:AX)(ρ:Rho)(S:Sto):R Er:=(f ρ S).bind λp S=>if t p S=true then F p [] S else .no
def uJ(_:Rho)(S:Sto):R Bool:=.ok true S
def pJ(i:Rho->Sto->R Wk)(g:MV->Rho->Sto->R Rho)(c:AZ)(e:AX)(n:Nat)(I:Ab)(ρ:Rho)(S:Sto):R Er:=(i ρ S).bind λk S=>if k.ds.length<1000000 then(yY g c e (blk n I ρ) k.gs k.ds S).bind λo S=>.ok (.new o) S else .no
def jJ(F G:Er->Er->Sto->R Er)(f g h:AX)(ρ:Rho)(S:Sto):R Er:=(f ρ S).bind λp S=>(g ρ S).bind λq S=>chF F G p q S λS=>h ρ S
def qJ(f:AZ)(ρ:Rho)(S:Sto):R Bool:=(f ρ S).bind λk S=>.ok (!k) S
def rJ(f g:AZ)(ρ:Rho)(S:Sto):R Bool:=(f ρ S).bind λk S=>if k=true then g ρ S else .ok false S
def sJ(f g:AZ)(ρ:Rho)(S:Sto):R Bool:=(f ρ S).bind λk S=>if k=true then .ok true S else g ρ S
def wJ(_:Rho)(S:Sto):R (List Er):=.ok [] S
def yJ(f:AX)(g:Rho->Sto->R (List Er))(ρ:Rho)(S:Sto):R (List Er):=(f ρ S).bind λp S=>(g ρ S).bind λl S=>.ok (p::l) S
def AJ(f:AX)(ρ:Rho)(S:Sto):R Fl:=(f ρ S).bind λr S=>.ok (.ret r) S
def BJ(f:AX)(ρ:Rho)(S:Sto):R Fl:=(f ρ S).bind λ_ S=>.ok (.next ρ) S
def CJ(f:AX)(i:Nat)(ρ:Rho)(S:Sto):R Fl:=(f ρ S).bind (zTJ ρ i)
def DJ(F:Er->Er->MV->Rho->Sto->R Rho)(f g:AX)(d:MV)(ρ:Rho)(S:Sto):R Rho:=(f ρ S).bind λp S=>(g ρ S).bind λq S=>F p q d ρ S
def EJ(f:AX)(g:MV->Rho->Sto->R Rho)(ρ:Rho)(S:Sto):R Fl:=(f ρ S).bind (asgF g ρ)
def FJ(i:Rho->Sto->R Wk)(g:MV->Rho->Sto->R Rho)(b:AY)(ρ:Rho)(S:Sto):R Fl:=(i ρ S).bind λk S=>kY g b k.gs k.ds ρ S
def GJ(a:Rho->Sto->R (List Er))(c:Str)(ρ:Rho)(S:Sto):R Fl:=(a ρ S).bind λr S=>if r.length<=10 then .exc c [] S else .no
def HJ(cs:Ai)(i:Nat)(h:AY)(n:Nat)(F:List MV->Sto->R Er)(a:Rho->Sto->R (List Er))(ρ:Rho)(S:Sto):R Fl:=(noX (a ρ S)).bind λr S=>tryF cs i (λ_ S=>.ok (.next ρ) S) h ρ (yBG n F r S)
def IJ(cs:Ai)(i j:Nat)(h:AY)(n:Nat)(F:List MV->Sto->R Er)(a:Rho->Sto->R (List Er))(ρ:Rho)(S:Sto):R Fl:=(noX (a ρ S)).bind λr S=>tryF cs i (zTJ ρ j) h ρ (yBG n F r S)
def JJ(ρ:Rho)(S:Sto):R Fl:=.ok (.next ρ) S
end
section
variable{X:Cx}{W:XW}{a e:Expr}{tg:Expr}{p pos:Pos}{ta:TA}{f:AX}{af:Rho->Sto->R (List Er)}
def itV(rs:List Er)(S:Sto):R Wk:=match rs with
 |[p]=>match srcOf S p with
  |some a=>if a.k=true then .ok ⟨a.ds.reverse,a.gs⟩ S else .no
  |none=>.no
 |_=>.no
def augF(F:Er->Er->Sto->R Er)(i:Nat)(f:AX)(ρ:Rho)(S:Sto):R Fl:=(rdSl (ρ[i]?) S).bind λp S1=>(f ρ S1).bind λq S2=>(F p q S2).bind (zTJ ρ i)
def intsOf:List MV->Option (List Int)
 |[]=>some []
 |.int i::ds=>(intsOf ds).map (i::·)
 |_::_=>none
theorem ints_of{K:Be}{α:Ah}{H:Hp}: ∀{ds:Bh}{ns:Ad}{vs:List V}{us:Ae},intsOf ds=some ns->DenL K α H ds vs->Vals vs us->IntsAre us ns
 |[],ns,vs,us,e,d,r=>by cases e;rw [d.isnil]at r;cases r;exact .nil
 |x::ds,ns,vs,us,e,d,r=>by
  obtain⟨v,r',rfl,d1,d2⟩:=d.uncons
  cases r with
  |cons a b=>
   cases x<;>first |(cases e)|skip
   rename_i i;unfold intsOf at e
   cases z:intsOf ds with
   |none=>rw [z]at e;cases e
   |some ms=>
    rw [z]at e;cases e;cases xN d1;obtain⟨t,rfl⟩:=a;exact .cons _ _ (ints_of z d2 b)
theorem zJB: ∀{us:Ae}{ns:Ad},IntsAre us ns->Vals (ns.map V.int) us
 |_,_,.nil=>.nil
 |_,_,.cons n t h=>.cons ⟨t,rfl⟩ (zJB h)
def yEL:CallR X (.builtin "sorted") (λxs H Q=> ∃l vs ds ns α,xs=[.ref l]/\SqL X.K H l vs/\intsOf ds=some ns/\DenL X.K α H ds vs/\ds.length<64/\ ∀p,H p=none->Q (.ref p) (upd H p (.lst ((PySem.W.sortI ns).map V.int)))):=by
 intro pins s σ H xs us Q I r h;obtain⟨l,vs,ds,ns,α,rfl,hl,hi,hd,hz,q⟩:=h;obtain⟨u,rfl,rx⟩:=vals1 r;cases rx;obtain⟨its,rv,p,_⟩:=I.list hl;have ia:=ints_of hi hd rv;have hlen:its.length<64:=by have:=rv.length;have:=hd.length;omega
 refine sorted_ints p.isList ia hlen λout ns' a1 a2 a3=>?_;obtain⟨e,he⟩:=sortedAll_at s.heap its out;have en:=PySem.W.eq_sortI a2 a3;subst en;refine⟨.ref (s.heap.objs.size+1),_,I.laid (t':=s.toks) (λb o e=>sortedAll_old e) (le_succ _) (show ObjOk X.prog X.w _ _ _ (.lst ((PySem.W.sortI ns).map V.int))from⟨?_,out.toList,e,zJB a1,?_⟩),rfl,q _ (I.hok.fresh (le_succ _))⟩
 ·have e1:=(zJB a1).length;have e2:=a2.length_eq;have e3:=(zJB ia).length;have:=sizeLine_eq;rw [lM]at e1 e3 ⊢;omega
 ·rw [Array.toArray_toList];exact he
def zCB:bootBuiltins "sorted"=some (.builtin "sorted"):=by decide+kernel
def zWJ(rs:List Er)(S:Sto):R Er:=match rs with
 |[p]=>match kL S p with
  |some ds=>if ds.length<64 then(match intsOf ds with |some ns=>.ok (.new ((PySem.W.sortI ns).map MV.int)) S|none=>.no)else .no
  |none=>.no
 |_=>.no
def yNC:zBB X W (λxs H Q=> ∃l vs ds ns α,xs=[.ref l]/\SqL X.K H l vs/\intsOf ds=some ns/\DenL X.K α H ds vs/\ds.length<64/\ ∀p,H p=none->Q (.ref p) (upd H p (.lst ((PySem.W.sortI ns).map V.int)))) zWJ:=by
 intro rs vs α S H Q wd d post;unfold zWJ at post;split at post
 ·split at post
  ·rename_i ds e;split at post
   ·rename_i hz;split at post
    ·rename_i ns hi;obtain⟨v,rfl,dv⟩:=zAB d;obtain⟨l,us,rfl,h1,h2⟩:=zDT rfl wd e dv;exact⟨l,us,ds,ns,α,rfl,h1,hi,h2,hz,λp hp=>Post.newl post wd hp (zLK _)⟩
    ·exact post.elim
   ·exact post.elim
  ·exact post.elim
 ·exact post.elim
end
section
variable{X:Cx}{W:XW}{M:Addr}{cs:List (Str×Addr)}{i:Nat}{nm:Str}{Fh:AY}{b0:Stmt}{suite:List Stmt}{mp hpos cpos epos pos p:Pos}{e:Expr}{es:Bd}{af:Rho->Sto->R (List Er)}{k n:Nat}{fa:Addr}{fd:FuncData}{ps:Ai}{F:List MV->Sto->R Er}{x:Str}{ns:Ai}
def TB(X:Cx)(W:XW)(ns:Ai)(i:Nat)(Fh:AY)(hs:List ExceptHandler)(st:Stmt)(bf:AX):Prop:=
 ∀α ρ S σ H D pins s,Wd X.g α S H->Slots X.K α H ρ σ->PostS X.g W α H D (tryF ns i (λ_ S2=>.ok (.next ρ) S2) Fh ρ (bf ρ S))->Inv X pins σ H s->
  wpAny (model X.prog X.w) X.A (exec st X.env) (λf s'=>f=Flow.next/\ ∃H',Inv X pins σ H' s'/\D.nx σ H')
   (λx s1=>wpAny (model X.prog X.w) X.A (noteFrame x X.env) (λ_ s₂=>wpAny (model X.prog X.w) X.A (setFlight x none) (λ_ s₃=>wpAny (model X.prog X.w) X.A (handleBy x X.env hs) (SP X pins D) X.xe s₃) X.xe s₂) X.xe s1) s
end
section
def KJ(n:Nat)(F:List MV->Sto->R Er)(a:Rho->Sto->R (List Er))(ρ:Rho)(S:Sto):R Er:=(noX (a ρ S)).bind λr S=>yBG n F r S
def LJ(c:AZ)(f g:AX)(ρ:Rho)(S:Sto):R Er:=(noX (c ρ S)).bind λk S=>if k=true then f ρ S else g ρ S
def MJ(cs:Ai)(i:Nat)(h:AY)(f:AX)(ρ:Rho)(S:Sto):R Fl:=tryF cs i (λ_ S=>.ok (.next ρ) S) h ρ (f ρ S)
end
end M
end L2
namespace L2
open PySem PySem.Spec PyProof.Rows
namespace M
section
variable{X:Cx}{W:XW}{a e:Expr}{es:Bd}{f g:AX}{af:Rho->Sto->R (List Er)}{pos apos p p2:Pos}{fld m:Str}
def selM(m:Str)(l:List (Str×(List MV->Sto->R Er))):Er->Option (List MV->Sto->R Er)
 |.val (.obj c ns _)=>if m∈ns then none else l.lookup c
 |_=>none
def NJ(m:Str)(n:Nat)(l:List (Str×(List MV->Sto->R Er)))(f:AX)(af:Rho->Sto->R (List Er))(ρ:Rho)(S:Sto):R Er:=(f ρ S).bind λp S=>match selM m l p with
 |some F=>(af ρ S).bind λr S=>zW n F (p::r) S
 |none=>.no
end
def gZ:List MV->Option (List (List Nat))
 |[]=>some []
 |.str x::ds=>(gZ ds).map (x::·)
 |_::_=>none
theorem zTY{K:Be}{α:Ah}{H:Hp}: ∀{ds:Bh}{zs:Aa}{vs:List V}{us:Ae},gZ ds=some zs->DenL K α H ds vs->Vals vs us-> ∃l:List (Str×Tok),us=strValues l/\l.map (·.1)=zs.map mkS
 |[],zs,vs,us,e,d,r=>by cases e;rw [d.isnil]at r;cases r;exact⟨[],rfl,rfl⟩
 |x::ds,zs,vs,us,e,d,r=>by
  obtain⟨v,r',rfl,d1,d2⟩:=d.uncons
  cases r with
  |cons a b=>
   cases x<;>first |(cases e)|skip
   rename_i i;unfold gZ at e
   cases z:gZ ds with
   |none=>rw [z]at e;cases e
   |some ms=>
    rw [z]at e;cases e;cases wC d1;obtain⟨t,rfl⟩:=a;obtain⟨l,rfl,hl⟩:=zTY z d2 b;exact⟨(mkS i,t)::l,rfl,by rw [map_cons,hl];rfl⟩
section
variable{X:Cx}{W:XW}{a e:Expr}{es:Bd}{pos apos:Pos}{f:AX}{af:Rho->Sto->R (List Er)}
def extF:Er->List Er->Sto->R Er
 |p,[r],S=>match lsW S r with
  |some zs=>zKK p S λds=>if ds.length+zs.length<=sizeLine then some (ds++zs)else none
  |none=>.no
 |_,_,_=>.no
def yEM:zYV X W yAP extF:=by
 intro p rs x vs α S H0 H Q α0 wd x0 dp da post
 match rs,da,post with
 |[],_,post=>exact post.elim
 |_::_::_,_,post=>exact post.elim
 |[r],da,post=>
  have post:Post X.g W α0 H0 (match lsW S r with |some zs=>zKK p S λds=>if ds.length+zs.length<=sizeLine then some (ds++zs)else none|none=>.no) Q:=post;split at post
  ·rename_i zs hz;obtain⟨v,rfl,dv⟩:=zVT da;obtain⟨b,us,rfl,hb,lb⟩:=zTL wd hz dv;obtain⟨c,ws,ds,es,rfl,h1,l1,eg,k⟩:=zLR wd x0 dp post;split at eg
   ·rename_i hl;cases eg;exact⟨c,b,ws,us,rfl,rfl,h1,hb,by rw [l1.length,lb.length];exact hl,k _ (l1.append lb)⟩
   ·cases eg
  ·exact post.elim
def yEN(ho:PEm X W a f)(ha:PAm X W (e::es) af)
  (hbase:attributeBase a "extend" X.env (eval a X.env)=eval a X.env:=by rfl)
  (hfew:((backTo pos (starEach (e::es) X.env)).all (λx=>!x.1)&&(backToKw pos (keywordEach [] X.env)).all (λx=>x.1.isSome)
   &&decide ((e::es).length+([]:List Keyword).length+(if([]:List Keyword).isEmpty then 0 else 1)<30))=true:=by rfl)
  (hline:(apos.endLine==pos.line)=true:=by rfl) (hs:starEach (e::es) X.env=(false,eval e X.env)::starEach es X.env:=by rfl) (hplain:(backTo pos (starEach es X.env)).any (·.1)=false:=by rfl):
  PEm X W (.Call (.Attribute a "extend" apos) (e::es) [] pos) (λρ S=>(f ρ S).bind λp S1=>if jS p S1=true then(af ρ S1).bind λrs S2=>extF p rs S2 else .no):=
 yAS PySem.F.plainAttrs_list PySem.F.slot_list_extend PySem.F.type_list_extend yDS yEM zTO ho ha hbase hfew hline hs hplain
end
section
variable{X:Cx}{W:XW}{a e:Expr}{es:Bd}{f:AX}{af:Rho->Sto->R (List Er)}{apos pos:Pos}
theorem zJC{K:Be}{α:Ah}{H:Hp}: ∀(ps:Aa),DenL K α H (ps.map MV.str) (ps.map λp=>V.str (mkS p))
 |[]=>yS
 |p::ps=>yD (zBH p) (zJC ps)
end
section
variable{X:Cx}{α:Ah}{S:Sto}{H:Hp}{pins:Ba}{σ:St}{s:Shared}{k:Nat}{fa:Addr}{fd:FuncData}{ps:Ai}{Fd:List MV->Sto->R Er}
theorem args_sorted1(a:Value):argsOk "sorted" ⟨[a],[]⟩:=by unfold argsOk;kernel_rfl
theorem zZM(a:Value):argsOk "list.sort" ⟨[a],[]⟩:=by unfold argsOk;kernel_rfl
end
open Classical in
def _root_.L2.Room.u128{k:Nat}{A:Around}(r:Room k A):A.units+128<cLine:=by have:=r.un;omega
section
variable{X:Cx}{α:Ah}{S:Sto}{H:Hp}{pins:Ba}{σ:St}{s:Shared}{k:Nat}{fa:Addr}{fd:FuncData}{ps:Ai}{Fd:List MV->Sto->R Er}
def zSF(d:MV):Prop:= ∃x r,d=.tup (.int x::r)
theorem yND(I:Inv X pins σ H s)(wd:Wd X.g α S H){A:Around}(hu:A.units+64<cLine){d f:MV}{x y:V}{u v:Value}{k:Bool}(kd:zSF d)(kf:zSF f)(h1:Den X.K α H d x)(h2:Den X.K α H f y)(rx:RelV x u)(ry:RelV y v)
  (h:ltv S zQ d f=some k) (prog:Program) (w:World) (E:VP) (Q:Bool->Shared->Prop) (hq:Q k s):wpAny (model prog w) A (keyLt' (tuples' true) u v) Q E s:=by
 obtain⟨x1,r1,rfl⟩:=kd;obtain⟨x2,r2,rfl⟩:=kf;obtain⟨a1,vs1,its1,rfl,l1,v1,t1,_⟩:=zZK I h1 rx;obtain⟨a2,vs2,its2,rfl,l2,v2,t2,_⟩:=zZK I h2 ry;obtain⟨w1,q1,rfl,d1,m1⟩:=l1.uncons;obtain⟨w2,q2,rfl,d2,m2⟩:=l2.uncons
 cases v1 with
 |@cons _ u1 _ us1 rv1 rr1=>
  cases v2 with
  |@cons _ u2 _ us2 rv2 rr2=>
   have h':(eqv S 39 (.int x1) (.int x2)).bind (λk=>if k=true then zYZ (eqv S 39) (ltv S 39) r1 r2 else ltv S 39 (.int x1) (.int x2))=some k:=h;have he:eqv S 39 (.int x1) (.int x2)=some (decide (x1=x2)):=zIX 38 x1 x2;have ea:=zLN I wd 39 A _ _ _ _ _ _ _ (by omega) d1 d2 rv1 rv2 he;cases xN d1;cases xN d2;obtain⟨tk1,rfl⟩:=rv1;obtain⟨tk2,rfl⟩:=rv2;rw [he]at h';refine Srt.wp_keyLtI t1 t2 ea ?_ hq
   cases hd:decide (x1=x2)with
   |true=>
    rw [hd]at h';rw [iP rfl];have h'':zYZ (eqv S 39) (ltv S 39) r1 r2=some k:=h'
    exact lexRS (yGU (λd f x y u v k a b c d' e=>zLN I wd 39 A d f x y u v k (by omega) a b c d' e)
     (λd f x y u v k a b c d' e=>zZA I wd 39 A d f x y u v k (by omega) a b c d' e) m1 m2 rr1 rr2 h'')
   |false=>
    rw [hd]at h';rw [iN xF0];have h'':(some (decide (x1<x2)):Option Bool)=some k:=h';cases h'';rfl
theorem cmp_i(I:Inv X pins σ H s)(wd:Wd X.g α S H){A:Around}(hu:A.units+64<cLine){kds:Bh}(hne:kds≠[])(hkind: ∀d,d∈kds->zSF d)(ho:OrdD S kds){E':VP}:
  Srt.Cmp (model X.prog X.w) A E' s (tuples' true) (λp=> ∃d v,d∈kds/\Den X.K α H d v/\RelV v p.1) (ltV X.K α H S kds) where
 go x y hx hy st hk Q hq:=by
  obtain⟨v1,d1,r1⟩:=zOW hx;obtain⟨v2,d2,r2⟩:=zOW hy;obtain⟨t,ht⟩:=ho.any _ (nQ (K:=X.K) (α:=α) (H:=H) hne x.1) _ (nQ (K:=X.K) (α:=α) (H:=H) hne y.1);have e:ltV X.K α H S kds x y=t:=by unfold ltV;rw [ht];rfl
  rw [e]at hq;exact Srt.wp_lt hk (λE Q hq=>yND I wd hu (hkind _ (nQ hne x.1)) (hkind _ (nQ hne y.1)) d1 d2 r1 r2 ht X.prog X.w E Q hq) hq
 tr x y z h1 h2:=by unfold ltV at h1 h2 ⊢;have mx:=nQ (K:=X.K) (α:=α) (H:=H) hne x.1;have my:=nQ (K:=X.K) (α:=α) (H:=H) hne y.1;have mz:=nQ (K:=X.K) (α:=α) (H:=H) hne z.1;obtain⟨t1,e1⟩:=ho.any _ my _ mx;obtain⟨t2,e2⟩:=ho.any _ mz _ my;rw [e1]at h1;rw [e2]at h2;have h1:t1=false:=h1;have h2:t2=false:=h2;subst h1 h2;rw [ho.tr _ mx _ my _ mz e1 e2];rfl
 as x y h:=by unfold ltV at h ⊢;have mx:=nQ (K:=X.K) (α:=α) (H:=H) hne x.1;have my:=nQ (K:=X.K) (α:=α) (H:=H) hne y.1;obtain⟨t1,e1⟩:=ho.any _ mx _ my;rw [e1]at h;have h:t1=true:=h;subst h;rw [ho.as _ mx _ my e1];rfl
def ySI(I:Inv X pins σ H s){A:Around}{kds:Bh}{kvs:List V}{ks:Ae}(hne:kds≠[])(hkind: ∀d,d∈kds->zSF d)(dk:DenL X.K α H kds kvs)(vk:Vals kvs ks){E':VP}:
  wpAny (model X.prog X.w) A (keyKind' ks.toArray) (λq s'=>s'=s/\q=tuples' true) E' s:=by
 have ne:ks≠[]:=λz=>by have h1:=vk.length;have h2:=dk.length;rw [z]at h1;exact hne (List.length_eq_zero_iff.mp (by rw [<-h2,h1];rfl))
 have all: ∀u,u∈ks-> ∃d v,d∈kds/\Den X.K α H d v/\RelV v u:=by
  intro u hu;obtain⟨i,hi⟩:=getElem?_of_mem hu;have hl:i<kvs.length:=by rw [vk.length];exact(gS0.mp hi).1
  obtain⟨u',h1,r⟩:=vk.get (gE0 hl);rw [hi]at h1;cases h1;obtain⟨d,h2,h3⟩:=dk.get (gE0 hl);exact⟨d,_,mem_of_getElem? h2,h3,r⟩
 refine Srt.wp_kindI ne λu hu=>?_;obtain⟨d,v,md,dd,r⟩:=all u hu;obtain⟨x,rr,rfl⟩:=hkind d md;obtain⟨a,vs,its,rfl,l,vv,t,_⟩:=zZK I dd r;obtain⟨v1,r1,rfl,d1,_⟩:=l.uncons
 cases vv with
 |@cons _ u1 _ us1 rv rr'=>
  cases xN d1;obtain⟨tk,rfl⟩:=rv;exact⟨a,_,_,tk,us1,rfl,t,rfl⟩
end
section
variable{X:Cx}{α:Ah}{S:Sto}{H:Hp}{pins:Ba}{σ:St}{s:Shared}{k:Nat}{fa:Addr}{fd:FuncData}{ps:Ai}{Fd:List MV->Sto->R Er}
def yEO(hu:X.A.units+128<cLine)(I:Inv X pins σ H s)(wd:Wd X.g α S H){l:Addr}{xs:List V}{ds:Bh}(hl:SqL X.K H l xs)(dl:DenL X.K α H ds xs)
  (hlen:ds.length<64) (hpu: ∀d,d∈ds->zHC d=true) (hkind: ∀d,d∈ds->zSF d) (hord:OrdD S ds) {Q:VK}
  (hQ: ∀(idx:Ab)(p:Addr)(ys:List V),idx.Perm (List.range ds.length)->idx.Pairwise (λi j=> ∀a c,ds[i]? =some a->ds[j]? =some c->ltv S zQ c a=some false)->H p=none->
   DenL X.K α H (idx.filterMap (ds[·]?)) ys->Q (.ref p) (upd H p (.lst ys))):wpAny (model X.prog X.w) X.A (call (.builtin "sorted") [.ref l]) (EP X pins σ Q) X.xe s:=by
 obtain⟨its,rv,⟨o,n0,e0,hc0,_,hd0⟩,_⟩:=I.list hl;have isl:s.heap.IsList l its.toArray:=⟨o,e0,hc0,n0,hd0⟩
 have hil:its.length=ds.length:=by rw [<-rv.length,dl.length]
 have hln:=sizeLine_eq;refine call_function_entry_kw kind_sorted plain_sorted entry_sorted (args_sorted1 _) ?_;unfold Builtin.«sorted»;refine wB0 (m:=checkCount "sorted" 1 1 _) (wP0 ?_);refine wB0 (collect_list isl ?_ (by omega));refine wB0 (wpAny_newList ?_);generalize hh1:(s.heap.push (seqObj "list" #[] 0)).update s.heap.objs.size (Obj.mapSeq (· ++its.toArray))=h1;have hsz:h1.objs.size=s.heap.objs.size+1:=by rw [<-hh1,Heap.size_update,size_push']
 have k1: ∀b u,s.heap.get? b=some u->h1.get? b=some u:=λb u e=>by rw [<-hh1,Heap.get?_update_other _ _ (ne_of_gt (Heap.lt_size e))];exact hP0 _ e
 have hoL:(h1.push (seqObj "list" its.toArray 0)).get? h1.objs.size=some (seqObj "list" its.toArray 0):=Heap.get?_push_size _ rfl;show wpAny _ _ _ _ _ {s with heap:=h1.push (seqObj "list" its.toArray 0)};dsimp only;generalize hL:h1.objs.size=L at *;have sL:s.heap.objs.size<=L:=by omega
 refine wB0 (wpAny_holding (wpAny_call_entry_kw slot_list_sort ⟨_,hoL,rfl⟩ entry_list_sort (Srt.sort_plainS hoL (by omega) λs2 he2=>?_) (zZM _)));dsimp only at he2;generalize hh2:h1.push (seqObj "list" its.toArray 0)=h2 at *;have fL:zJL X pins H L:=I.fpOk sL (I.hok.fresh sL);have k3: ∀b u,s.heap.get? b=some u->s2.heap.get? b=some u:=λb u e=>by rw [he2];refine hP0 _ (hP0 _ ?_);rw [Heap.get?_update_other _ _ (ne_of_gt (lt_of_lt_of_le (Heap.lt_size e) sL)), <-hh2];exact hP0 _ (k1 b u e)
 have I3:Inv X pins σ H s2:=by have:=I.kept (h':=s2.heap) (t':=s.toks) k3;rw [he2]at this ⊢;exact this
 have hu':X.A.in1.in1.units+64<cLine:=by show X.A.units+1+1+64<cLine;omega
 obtain⟨q,gL⟩: ∃q,s2.heap.get? L=some (seqObj "list" #[] q):=by rw [he2];exact⟨_,hP0 _ (hP0 _ (get?_update_seq hoL (λ_=>#[])))⟩
 refine⟨tuples' true,(λp=> ∃d v,d∈ds/\Den X.K α H d v/\RelV v p.1),ltV X.K α H S ds,λhge=>?_,λout op os=>?_⟩
 ·have ne:ds≠[]:=λz=>by rw [hil,z]at hge;exact absurd hge (by decide)
  refine⟨ySI I3 ne hkind dl rv,cmp_i I3 wd hu' ne hkind hord,λp hp=>?_⟩;have hp1:p.1∈its:=(of_mem_zip hp).1;obtain⟨i,hi⟩:=getElem?_of_mem hp1;have hl':i<xs.length:=by rw [rv.length];exact(gS0.mp hi).1
  obtain⟨u',h1',r⟩:=rv.get (gE0 hl');rw [hi]at h1';cases h1';obtain⟨d,h2',h3'⟩:=dl.get (gE0 hl');exact⟨d,_,mem_of_getElem? h2',h3',r⟩
 ·obtain⟨idx,ip,ie⟩:=zSD op.symm (List.range ds.length) (yEK hil hil);have ib: ∀i,i∈idx->i<ds.length:=λi hi=>mem_range.mp (ip.mem_iff.mp hi);have eo:out.map (·.2)=idx.filterMap (its[·]?):=by rw [<-ie,map_map];exact zOX λi hi=>by rw [hil];exact ib i hi
  have po:idx.Pairwise (λi j=> ∀a c,ds[i]? =some a->ds[j]? =some c->ltv S zQ c a=some false):=by rw [<-ie,pairwise_map]at os;refine List.Pairwise.imp_of_mem (λ{i j} hi hj h a c ha hc=>?_) os;have ui:its[i]? =some (its[i]'(by rw [hil];exact ib i hi)):=gE0 _;have uj:its[j]? =some (its[j]'(by rw [hil];exact ib j hj)):=gE0 _;have h':(ltv S zQ (zTW X.K α H ds ((its[j]?).getD .none)) (zTW X.K α H ds ((its[i]?).getD .none))).getD false=false:=h;rw [ui,uj]at h';simp only [Option.getD_some]at h';rw [yHY I3 hpu dl rv ui ha,yHY I3 hpu dl rv uj hc]at h';obtain⟨t,ht⟩:=hord.any c (mem_of_getElem? hc) a (mem_of_getElem? ha);rw [ht]at h';have h':t=false:=h';rw [ht,h']
  have vy:=Vals.pick rv idx;refine⟨_,rfl,wP0 ⟨_,rfl,.ref L,upd H L (.lst (idx.filterMap (xs[·]?))),?_,rfl,hQ idx L _ ip po (I.hok.fresh sL) (dl.pick idx)⟩⟩;obtain⟨f0,f1,f2,f3,f4,f5⟩:=fL
  have I6:Inv X pins σ H {s2 with heap:=s2.heap.update L (Obj.mapSeq λ_=>(out.map (·.2)).toArray)}:=
   I3.turned (t':=s2.toks) (λb o hb e=>(Heap.get?_update_other _ _ (Ne.symm hb)).trans e) f0 f1 f3 f4 f5
  obtain⟨n',gL2⟩: ∃n',(s2.heap.update L (Obj.mapSeq λ_=>(out.map (·.2)).toArray)).get? L=some (seqObj "list" (idx.filterMap (its[·]?)).toArray n'):=⟨_,by have:=get?_update_seq gL (λ_=>(out.map (·.2)).toArray);rw [eo]at this ⊢;exact this⟩
  refine yEJ (its:=idx.filterMap (its[·]?)) I6 ⟨f0,f1,f2,f3,f4,f5⟩ (le_trans I.sz sL) gL2 vy ?_
  ·have:=length_filterMap_le (xs[·]?) idx;have h3:=ip.length_eq;rw [length_range]at h3;omega
end
structure SrtJ(S:Sto)(ds:Bh):Prop where
 len:ds.length<64
 pu: ∀d,d∈ds->zHC d=true
 kind: ∀d,d∈ds->zSF d
 ord:OrdD S ds
open Classical in
def zSG(rs:List Er)(S:Sto):R Er:=match rs with
 |[p]=>match kL S p with
  |some ds=>if h: ∃r,SrtJ S ds/\ ∀r',yBL S ds ds r'->r'=r then .ok (.new (Classical.choose h)) S else .no
  |none=>.no
 |_=>.no
def yBN{p:Er}{S:Sto}{ds r:Bh}(e:kL S p=some ds)(ok:SrtJ S ds)(u: ∀r',yBL S ds ds r'->r'=r)(ex:yBL S ds ds r):zSG [p] S=.ok (.new r) S:=by
 unfold zSG;dsimp only;rw [e];dsimp only;have h: ∃r,SrtJ S ds/\ ∀r',yBL S ds ds r'->r'=r:=⟨r,ok,u⟩
 rw [dif_pos h];obtain⟨_,u'⟩:=Classical.choose_spec h;rw [<-u' r ex]
section
variable{X:Cx}{W:XW}
def yEP(hu:X.A.units+128<cLine):CallR X (.builtin "sorted") (λxs H Q=> ∃α S l vs ds,xs=[.ref l]/\Wd X.g α S H/\SqL X.K H l vs/\DenL X.K α H ds vs/\SrtJ S ds/\
  ∀(idx:Ab)(p:Addr)(ys:List V),idx.Perm (List.range ds.length)->idx.Pairwise (λi j=> ∀a c,ds[i]? =some a->ds[j]? =some c->ltv S zQ c a=some false)->H p=none->DenL X.K α H (idx.filterMap (ds[·]?)) ys->Q (.ref p) (upd H p (.lst ys))):=by
 intro pins s σ H xs us Q I r h;obtain⟨α,S,l,vs,ds,rfl,wd,hl,dl,ok,q⟩:=h;obtain⟨u,rfl,rx⟩:=vals1 r;cases rx;exact yEO hu I wd hl dl ok.len ok.pu ok.kind ok.ord q
def yNE:zBB X W (λxs H Q=> ∃α S l vs ds,xs=[.ref l]/\Wd X.g α S H/\SqL X.K H l vs/\DenL X.K α H ds vs/\SrtJ S ds/\
  ∀(idx:Ab)(p:Addr)(ys:List V),idx.Perm (List.range ds.length)->idx.Pairwise (λi j=> ∀a c,ds[i]? =some a->ds[j]? =some c->ltv S zQ c a=some false)->H p=none->DenL X.K α H (idx.filterMap (ds[·]?)) ys->Q (.ref p) (upd H p (.lst ys))) zSG:=by
 intro rs vs α S H Q wd d post;unfold zSG at post;split at post
 ·split at post
  ·rename_i ds e;split at post
   ·rename_i h;obtain⟨v,rfl,dv⟩:=zAB d;obtain⟨l,us,rfl,h1,h2⟩:=zDT rfl wd e dv;obtain⟨ok,u⟩:=Classical.choose_spec h;refine⟨α,S,l,us,ds,rfl,wd,h1,h2,ok,λidx p ys i1 i2 hp hd=>?_⟩;have er:=u _ ⟨idx,i1,i2,rfl⟩;rw [er]at hd;exact Post.newl post wd hp hd
   ·exact post.elim
  ·exact post.elim
 ·exact post.elim
end
section
variable{X:Cx}{W:XW}{a b o i e:Expr}{es:Bd}{f g:AX}{af:Rho->Sto->R (List Er)}{apos pos:Pos}{α:Ah}{H:Hp}{pins:Ba}{σ:St}{s:Shared}
def kyOf:MV->Option Key
 |.int i=>some (.inl i)
 |.str x=>some (.inr (mkS x))
 |_=>none
def ky_D: ∀{k:MV}{k':Key},kyOf k=some k'->KeyD k k'
 |.int i,_,h=>by cases h;exact rfl
 |.str x,_,h=>by cases h;exact rfl
 |.non,_,h=>nomatch h
 |.bl _,_,h=>nomatch h
 |.tup _,_,h=>nomatch h
 |.scr _,_,h=>nomatch h
 |.loc _,_,h=>nomatch h
 |.typ _,_,h=>nomatch h
 |.obj _ _ _,_,h=>nomatch h
def ky_V: ∀{k:MV}{k':Key}{v:V},kyOf k=some k'->Den X.K α H k v->v=kV k'
 |.int i,_,_,h,d=>by cases h;exact xN d
 |.str x,_,_,h,d=>by cases h;exact wC d
 |.non,_,_,h,_=>nomatch h
 |.bl _,_,_,h,_=>nomatch h
 |.tup _,_,_,h,_=>nomatch h
 |.scr _,_,_,h,_=>nomatch h
 |.loc _,_,_,h,_=>nomatch h
 |.typ _,_,_,h,_=>nomatch h
 |.obj _ _ _,_,_,h,_=>nomatch h
def zWK: ∀{k:Key}{u:Value},RelV (kV k) u->(yP X.prog X.w).is k u=true
 |.inl i,_,h=>by obtain⟨t,rfl⟩:=(h: ∃t,_=_);exact zVG _ _ i t
 |.inr x,_,h=>by obtain⟨t,rfl⟩:=(h: ∃t,_=_);exact nZ _ _ x t
def zKP(k:MV):Bool:=(kyOf k).isSome
def yOZ{kvs:Ca}{d:Addr}(ob:ObD X.g α H d (.dic kvs))(hk:kvs.all (λp=>zKP p.1)=true): ∃ks,DK X H d ks/\DenK X.K α H kvs ks:=by
 rcases ob with⟨ks,h,l⟩|z
 ·exact⟨ks,.inl h,l⟩
 ·exact False.elim z
def zKQ(S:Sto):Er->Option (Nat×List (MV×MV))
 |.val (.loc l)=>match S[l]? with
  |some (.dic kvs)=>if kvs.all (λp=>zKP p.1)=true then some (l,kvs)else none
  |_=>none
 |_=>none
def dxo{S:Sto}(wd:Wd X.g α S H){r:Er}{x:V}{l:Nat}{kvs:Ca}(e:zKQ S r=some (l,kvs))(d:DenX X.K α H r x):
  ∃c ks,x=.ref c/\α[l]? =some c/\S[l]? =some (.dic kvs)/\DK X H c ks/\DenK X.K α H kvs ks/\kvs.all (λp=>zKP p.1)=true:=by
 unfold zKQ at e;split at e
 ·rename_i n;obtain⟨c,rfl,h⟩:=zEH d;split at e
  ·rename_i ks hS;split at e
   ·rename_i hk;obtain⟨rfl,rfl⟩:=Prod.mk.inj (Option.some.inj e);obtain⟨xs,dd,l⟩:=yOZ (wd.obj _ c _ h hS) hk;exact⟨c,xs,rfl,h,hS,dd,l,hk⟩
   ·cases e
  ·cases e
 ·cases e
def zZN{ks:List (Key×V)}{d:Addr}(dd:DK X H d ks):Mut (H d):=by
 rcases dd with z|z
 ·rw [z];exact trivial
 ·exact False.elim z
def rSetX(X:Cx):TSet:=λo i v H Q=> ∃(ks:List (Key×V))(d:Addr)(k:Key),o=.ref d/\i=kV k/\DK X H d ks/\ks.length<sizeLine/\Q (upd H d (.dK (zJM ks k v)))
def yEQ:PSet X (rSetX X):=by
 intro pins s σ H o i v ov iv u Q I ro ri rv h;obtain⟨ks,d,k,rfl,rfl,dd,hz,q⟩:=h;cases ro;obtain⟨z,hd,vs,rel,dm⟩:=nR I dd;have hl:ks.length=vs.length:=Paired.length rel;have hp:=zOY ks k v;refine wpAny_setItem_pairs (knd:=yP X.prog X.w) (hsz:=by omega) (zWK ri) dm λh' dm' hs'=>⟨_,?_,q⟩
 have he: ∃q,h'.get? d=some q:=let ⟨q,_,_,hq,_⟩:=dm';⟨q,hq⟩;exact I.write (t':=_) (x:=d) (e:=d) (zZN dd) (.inl rfl) (λb uo hb eo=>(hs'.2 b hb).trans eo) he ⟨by omega,hd,_,yHZ rel _ rv,dm'⟩
def zHT(p q:Er)(d:MV)(ρ:Rho)(S:Sto):R Rho:=match q with
 |.val k=>match zKQ S p with
  |some (l,kvs)=>if zKP k=true/\kvs.length<1000000 then .ok ρ (S.set l (.dic (putK kvs k d)))else .no
  |none=>.no
 |_=>.no
def zNU(ho:PEm X W o f)(hi:PEm X W i g)
  (ha: ∀v,assign (.Subscript o i pos) X.env v=(do
   let ov <-holding [v] (eval o X.env);let iv <-holding [v,ov] (eval i X.env)
   standAt pos
   holding [v,ov,iv] (setItem ov iv v)
   release [v,ov,iv] []):=by intro _;rfl):PGm X W (.Subscript o i pos) (λd ρ S=>(f ρ S).bind λp S1=>(g ρ S1).bind λq S2=>zHT p q d ρ S2):=by
 obtain⟨to,ho,fo⟩:=ho;obtain⟨ti,hi,fi⟩:=hi;refine⟨_,yFS ho hi yEQ ha,λα ρ S σ H d v Q wd sl de q=>fo α ρ S σ H _ wd sl (q.bind λu p S1 α1 H1 e1 x1 w1 d1 q1=>fi α1 ρ S1 σ H1 _ w1 (sl.ext x1) ((q1.shift x1).bind λu2 p2 S2 α2 H2 e2 x2 w2 d2 q2=>?_))⟩
 replace q2:=q2.shift x2
 have d1':=DenX.ext x2 d1.1;have de2:=(de.ext x1).ext x2;unfold zHT at q2;split at q2
 ·rename_i k;split at q2
  ·rename_i l kvs e;split at q2
   ·rename_i hk;obtain⟨c,ks,rfl,hc,hS,dd,dl,hall⟩:=dxo w2 e d1';obtain⟨k',hk'⟩:=Option.isSome_iff_exists.mp hk.1;refine⟨ks,c,k',rfl,ky_V (X:=X) (α:=α2) (H:=H2) hk' d2.1,dd,?_,?_⟩
    ·rw [dl.length];exact lt_of_lt_of_le hk.2 (fits (le_refl _))
    ·have xw:=w2.writex hc (o:=.dK (zJM ks k' v));have sl2:=((sl.ext x1).ext x2).ext xw;exact q2 σ α2 _ xw (w2.write hc (.inl ⟨_,yV,(zWH (k:=k) dl (ky_D hk') de2).ex0 xw.toEx0⟩)) sl2
   ·exact q2.elim
  ·exact q2.elim
 ·exact q2.elim
def yIF{prog:Program}{w:World}{KK:Type}[DecidableEq KK]{knd:KeyKind prog w KK}{A:Around}{E:VP}{s:Shared}{d:Addr}{k:KK}{key:Value}{f:KK->Option Value}{Q:VP}(hkey:knd.is k key=true)(hd:(d==sysModules)=false)(hm:s.heap.MapOf knd d f)
  (h:Q (.bool !(f k).isSome) {s with toks:=s.toks+1}):wpAny (model prog w) A (compareOp .NotIn key (.ref d)) Q E s:=by
 show wpAny _ _ (do return .bool (!(<-contains (.ref d) key))) Q E s;refine wB0 ?_;unfold contains
 try with_reducible refine wpAny_holding ?_
 refine wB0 (wpAny_specialOf hm.typeIs slot_dict_contains.lookup ?_);show wpAny _ _ (if(some (Value.builtin "dict.__contains__")==some Value.none)=true then _ else _) _ E s;rw [iN (by rw [beq_builtin_none];exact xF0)]
 refine wB0 (wpAny_callSpecialUnlessNone?_slot (name:=Str.ofString "__contains__") hm.typeIs slot_dict_contains
  (wpAny_call_entry slot_dict_contains hm.typeIs entry_dict_contains ?_ (args_dict_contains _ _)))
 show wpAny _ _ (dictGet d key >>= _) _ _ s;refine wB0 (wpAny_dictGet_of hkey hm ?_)
 cases hf:f k with
 |some v=>
  rw [hf]at h;show wpAny _ _ (ret (.bool true)) _ _ _;exact wP0 ⟨_,rfl,wpAny_truthy_bool (wP0 h)⟩
 |none=>
  rw [hf]at h;show wpAny _ _ (Builtin.Dict.pendingKey? d key >>= _) _ _ _;exact wB0 (wpAny_pendingKey_other hd (wP0 ⟨_,rfl,wpAny_truthy_bool (wP0 h)⟩))
abbrev rInX(X:Cx)(neg:Bool):R2:=λx y H Q=> ∃(ks:List (Key×V))(d:Addr)(k:Key),x=kV k/\y=.ref d/\DK X H d ks/\
 Q (.bl (if neg=true then !(zFF ks k).isSome else(zFF ks k).isSome)) H
theorem look_same{ks:List (Key×V)}{vs:List (Key×Value)}(r:KV ks vs)(k:Key):(valueAt vs k).isSome=(zFF ks k).isSome:=by
 obtain⟨l1,l2⟩:=yBM r k
 cases h:zFF ks k with
 |none=>rw [l2 h];rfl
 |some v=>obtain⟨u,e,_⟩:=l1 v h;rw [e];rfl
def yIG:OpR X (compareOp .In) (rInX X false):=by intro pins s σ H x y v u Q I rx ry h;obtain⟨ks,d,k,rfl,rfl,dd,q⟩:=h;cases ry;obtain⟨_,hs,vs,rel,dm⟩:=nR I dd;refine wpAny_in_of (knd:=yP X.prog X.w) (zWK rx) hs dm.mapOf ?_;rw [look_same rel k];exact⟨.bl (zFF ks k).isSome,H,I.kept (t':=_) (λ_ _ z=>z),rfl,q⟩
def yER:OpR X (compareOp .NotIn) (rInX X true):=by intro pins s σ H x y v u Q I rx ry h;obtain⟨ks,d,k,rfl,rfl,dd,q⟩:=h;cases ry;obtain⟨_,hs,vs,rel,dm⟩:=nR I dd;refine yIF (knd:=yP X.prog X.w) (zWK rx) hs dm.mapOf ?_;rw [look_same rel k];exact⟨.bl !(zFF ks k).isSome,H,I.kept (t':=_) (λ_ _ z=>z),rfl,q⟩
def zLX(neg:Bool)(p q:Er)(S:Sto):R Er:=match p with
 |.val k=>match zKQ S q with
  |some (_,kvs)=>if zKP k=true then .ok (.val (.bl (if neg=true then !(look kvs k).isSome else(look kvs k).isSome))) S else .no
  |none=>.no
 |_=>.no
theorem yES{kvs:Ca}{ks:List (Key×V)}{k:MV}{k':Key}(l:DenK X.K α H kvs ks)(hk:KeyD k k'):(zFF ks k').isSome=(look kvs k).isSome:=by
 obtain⟨g1,g2⟩:=zSE l hk
 cases h:look kvs k with
 |none=>rw [g2 h];rfl
 |some v=>obtain⟨u,e,_⟩:=g1 v h;rw [e];rfl
def zTZ{neg:Bool}:Op2 X W (rInX X neg) (zLX neg):=by
 intro p q x y α S H Q wd dp dq post;unfold zLX at post;split at post
 ·rename_i k;split at post
  ·rename_i l kvs e;split at post
   ·rename_i hk;obtain⟨c,ks,rfl,_,_,dd,dl,_⟩:=dxo wd e dq;obtain⟨k',hk'⟩:=Option.isSome_iff_exists.mp hk;refine⟨ks,c,k',ky_V (X:=X) (α:=α) (H:=H) hk' dp,rfl,dd,?_⟩;rw [yES dl (ky_D hk')];exact Post.val post wd (gW _)
   ·exact post.elim
  ·exact post.elim
 ·exact post.elim
def ySJ(ha:PEm X W a f)(hb:PEm X W b g)(hm:behindInMarks .In b=false:=by with_unfolding_all rfl):PEm X W (.Compare a [.In] [b] pos) (λρ S=>(f ρ S).bind λp S1=>(g ρ S1).bind λq S2=>zLX false p q S2):=zOJ yIG zTZ ha hb hm
def ySK(ha:PEm X W a f)(hb:PEm X W b g)(hm:behindInMarks .In b=false:=by with_unfolding_all rfl):PTm X W (.Compare a [.In] [b] pos) (λρ S=>((f ρ S).bind λp S1=>(g ρ S1).bind λq S2=>zLX false p q S2).bind asB):=zHJ yIG zTZ ha hb hm
def zSH(ha:PEm X W a f)(hb:PEm X W b g)(hm:behindInMarks .NotIn b=false:=by with_unfolding_all rfl):PTm X W (.Compare a [.NotIn] [b] pos) (λρ S=>((f ρ S).bind λp S1=>(g ρ S1).bind λq S2=>zLX true p q S2).bind asB):=zHJ yER zTZ ha hb hm
end
section
variable{X:Cx}{W:XW}{a b o i e:Expr}{es:Bd}{f g:AX}{af:Rho->Sto->R (List Er)}{apos pos:Pos}{α:Ah}{H:Hp}{pins:Ba}{σ:St}{s:Shared}
def delK(kvs:Ca)(k:MV):List (MV×MV):=kvs.filter λp=>!decide (p.1=k)
def popXF(p:Er)(rs:List Er)(S:Sto):R Er:=match rs with
 |[.val k,.val y]=>match zKQ S p with
  |some (l,kvs)=>if zKP k=true then(match look kvs k with |some d=>.ok (.val d) (S.set l (.dic (delK kvs k)))|none=>.ok (.val y) S)else .no
  |none=>.no
 |_=>.no
def isDx(p:Er)(S:Sto):Bool:=(zKQ S p).isSome
def yET{ks:List (Key×V)}{vs:List (Key×Value)}: ∀{us:Ae},KV ks vs->us.length=vs.length->(∀(j:Nat)(v:Value),us[j]? =some v-> ∃(k:Key)(x:Value),vs[j]? =some (k,x)/\(yP X.prog X.w).is k v=true)->Vals (ks.map λp=>kV p.1) us:=by
 intro us kv;unfold KV at kv
 induction kv generalizing us with
 |nil=>intro hl _;cases us with
  |nil=>exact .nil
  |cons a b=>simp at hl
 |@cons p q ps qs h t ih=>
  intro hl hv
  cases us with
  |nil=>simp at hl
  |cons a b=>
   obtain⟨k,x,e,hi⟩:=hv 0 a rfl;simp only [List.getElem?_cons_zero,Option.some.injEq]at e;subst e;rw [map_cons];refine .cons ?_ (ih (by simpa using hl) λj v hj=>by simpa using hv (j+1) v (by simpa using hj));rw [h.1];rcases yR hi with⟨i,t,e1,e2⟩|⟨i,t,e1,e2⟩
   ·subst e2;rw [show k=.inl i from e1];exact⟨t,rfl⟩
   ·subst e2;rw [show k=.inr i from e1];exact⟨t,rfl⟩
end
section
variable{X:Cx}{W:XW}{α:Ah}{H:Hp}
def tupKF:List Er->Sto->R Er
 |[r],S=>match zKQ S r with |some (_,kvs)=>.ok (.val (.tup (kvs.map (·.1)))) S|none=>.no
 |_,_=>.no
def zHU:List Er->Sto->R Er
 |[r],S=>match zKQ S r with |some (_,kvs)=>.ok (.new (kvs.map (·.1))) S|none=>.no
 |_,_=>.no
def zWL(hc:X.calm=true):zBB X W (λxs H Q=> ∃d ks,xs=[.ref d]/\DK X H d ks/\X.calm=true/\ ∀l,H l=none->Q (.ref l) (upd H l (.lst (ks.map λp=>kV p.1)))) zHU:=by
 intro rs vs α S H Q wd d post;unfold zHU at post;split at post
 ·split at post
  ·rename_i n kvs e;obtain⟨v,rfl,dv⟩:=zAB d;obtain⟨c,ks,rfl,h1,h2,dd,dl,_⟩:=dxo wd e dv;exact⟨c,ks,rfl,dd,hc,λl hl=>Post.newl post wd hl (zLW dl)⟩
  ·exact post.elim
 ·exact post.elim
def ySL(hc:X.calm=true):zBB X W (λxs H Q=> ∃(a:Addr)(bs:Bb),xs=[.ref a]/\SqL X.K H a (bs.map V.bl)/\X.calm=true/\Q (.bl (bs.any id)) H) anyF:=by
 intro rs vs α S H Q wd d post;unfold anyF at post;split at post
 ·split at post
  ·rename_i bs e;obtain⟨v,rfl,dv⟩:=zAB d
   cases z:kL S _ with
   |none=>rw [z]at e;cases e
   |some ds=>
    rw [z]at e;obtain⟨a1,us,rfl,s,l⟩:=zDT rfl wd z dv;refine⟨a1,bs,rfl,?_,hc,Post.val post wd (gW _)⟩;rw [<-zLQ e l];exact s
  ·exact post.elim
 ·exact post.elim
end
section
variable{X:Cx}{W:XW}{a b:Expr}{f g:AX}{pos:Pos}
def zUA:CallR X (.builtin "any") (λxs H Q=> ∃(a:Addr)(bs:Bb),xs=[.ref a]/\SqL X.K H a (bs.map V.bl)/\X.calm=true/\Q (.bl (bs.any id)) H):=by
 intro pins s σ H xs us Q I r h;obtain⟨a,bs,rfl,hq,hc,q⟩:=h;obtain⟨u,rfl,ru⟩:=vals1 r;cases ru;obtain⟨its,rv,pl,hz⟩:=I.list hq;have hlen:its.length=bs.length:=by rw [<-rv.length,lM]
 refine PySem.call_any_walk (wpAny_pyIter_list pl.isList ?_);have hI:a≠s.heap.objs.size:=by obtain⟨o,ho,_⟩:=pl.isList;exact ne_of_lt (Heap.lt_size ho)
 have I1: ∀(h':Heap)(tk:Nat),(∀b o,b∉[s.heap.objs.size]->(s.heap.push {cls:=.type "list_iterator",data:=.fields #[.ref a,.int 0 0]}).get? b=some o->h'.get? b=some o)->Inv X pins σ H {s with heap:=h',toks:=tk}:=λh' tk k=>
  I.kept λb o e=>k b o (by simpa using ne_of_lt (Heap.lt_size e)) (hP0 _ e)
 refine⟨s.heap.objs.size,[s.heap.objs.size,a],[s.heap.objs.size],its.toArray.size,_,_,λi=>bs.getD i false,rfl,PySem.Walks.list (by first |exact I.ok.hd hc|exact(show X.A.in1.handled=none from I.ok.hd hc)) _ a hI its.toArray,⟨⟨_,Heap.get?_push_size _ rfl,rfl,rfl⟩,pl.isList.at λo e=>hP0 _ e⟩,?_,λh' tk k=>?_⟩
 ·intro i v s' Q' E' hv hQ';have hv':its[i]? =some v:=by simpa using hv
  have hi:i<bs.length:=by rw [<-hlen];exact(gS0.mp hv').1
  have hb:(bs.map V.bl)[i]? =some (V.bl (bs.getD i false)):=by rw [getElem?_map,gE0 hi];simp [getD_eq_getElem?_getD,hi]
  obtain⟨u',hu',rv'⟩:=rv.get hb;rw [hv']at hu';cases hu';cases rv';exact wpAny_truthy_bool hQ'
 ·refine⟨.bl (bs.any id),H,I1 h' tk k,?_,q⟩;show Value.bool _=Value.bool _;congr 1;rw [sA,hlen]
  have: ∀(l:Bb),(List.range l.length).any (λi=>l.getD i false)=l.any id:=by
   intro l;rw [Bool.eq_iff_iff,any_eq_true,any_eq_true];constructor
   ·rintro⟨i,hi,h⟩;have hi':=mem_range.mp hi;exact⟨l[i],getElem_mem hi',by simpa [getD_eq_getElem?_getD,hi']using h⟩
   ·rintro⟨x,hx,h⟩;obtain⟨i,hi,rfl⟩:=getElem_of_mem hx;exact⟨i,mem_range.mpr hi,by simpa [getD_eq_getElem?_getD,hi]using h⟩
  exact this bs
def shrC(i j:Int):Prop:=0<=j
instance(i j:Int):Decidable (shrC i j):=inferInstanceAs (Decidable (_<=_))
end
end M
end L2
namespace PySem
def zUB:typeLookup (.type "list") "keys"=pure none:=am_miss_of_fast (by decide+kernel)
def getAttr?_miss_list{prog:Program}{w:World}{A:Around}{E:VP}{s:Shared}{a:Addr}{o:Obj}{xs:Ag}{k:Nat}{name:Str}{Q:Option Value->Shared->Prop}
  (hx:s.heap.get? a=some o) (hc:o.cls=.type "list") (hdat:o.data=.seq xs k) (hd:o.dict=none) (hmiss:typeLookup (.type "list") name=pure none) (hname:(["__module__","__name__","__qualname__","__doc__","__annotations__"]:Ai).contains name=false) (hA:A.handled=none)
  (h: ∀h' tk,(∀b o,s.heap.get? b=some o->h'.get? b=some o)->Q none {s with heap:=h',toks:=tk}) (hsz:name.length+100<=sizeLine:=by size_fits):
  wpAny (model prog w) A (getAttr? (.ref a) name) Q E s:=by
 obtain⟨c,dct,dat,sl⟩:=o;simp only at hc hdat hd;subst hc hdat hd;obtain⟨hp,g,d,tk,os⟩:=s;have hT: ∀tk',(⟨hp,g,d,tk',os⟩:Shared).TypeIs (.ref a) "list":=λ_=>⟨_,hx,rfl⟩
 have f1:=sub_AttributeError;have f3:=F.slot_list_getattribute.lookup;have f4:=F.slot_list_getattribute.bind (.ref a);have f5:=am_list_getattr_none;unfold getAttr? getAttrBy? getAttrBy
 repeat (any_goals (first |assumption|exact hT _|((with_reducible show wpAny _ _ (call (Value.builtin "list.__getattribute__") _ _) _ _ _);refine call_meets F.slot_list_getattribute (hT _) am_entry_list_getattribute (F.args_list_getattribute_2 _ _) (meets_getattribute_miss_list a xs k sl name _ hmiss hname hsz) ⟨hx,hA,λh' tk' e hx'=>?_⟩)|wp_step))
 obtain⟨t',u',he⟩:=hx'.there;show wpAny _ _ (getattributeRaised _ _ _ _ _ _ _) _ _ _;unfold getattributeRaised
 repeat (any_goals (first |assumption|wp_step))
 exact h _ _ hx'.keeps
namespace F
def entry_dict_update_loop:entryFor table "dict.update.loop"=some Builtin.«dict.update.loop»:=entryFor_of_tree (by kernel_rfl)
def plain_dict_update_loop:plainId "dict.update.loop"=true:=by decide+kernel
end F
open PyProof.Rows
section
variable{prog:Program}{w:World}{K:Type}[DecidableEq K]{knd:KeyKind prog w K}{A:Around}{E:VP}{s:Shared}{R:Result->Shared->Prop}
def zZO(knd:KeyKind prog w K)(h:Heap)(kv:K×Value)(v:Value):Prop:= ∃a key,v=.ref a/\IsTup h a #[key,kv.2]/\knd.is kv.1 key=true
def zKR{I D:Addr}{fp:Ah}{n:Nat}{P:Nat->Value->Prop}{St:Nat->Heap->Prop}(W:Walks prog w A.in1 I fp [I] n P St)(hDf:D∉fp)(kvs:List (K×Value))(hn:kvs.length=n)(hz:n<=sizeLine){h₀:Heap}
  (hP: ∀i v,P i v-> ∃kv,kvs[i]? =some kv/\zZO knd h₀ kv v) (hI:h₀.get? I=none) (hD:h₀.get? D=none):
  ∀(k i:Nat)(j:Int)(s:Shared),n - i=k->i<=n->St i s.heap->s.heap.DictOf knd D (merged [] (kvs.take i))->(∀b o,h₀.get? b=some o->s.heap.get? b=some o)->
   (∀h' tk,(∀b o,h₀.get? b=some o->h'.get? b=some o)->h'.DictOf knd D (merged [] kvs)->R (.ok (.ret .none)) {s with heap:=h',toks:=tk})->
   codeAny (model prog w) A (.builtin "dict.update.loop" ⟨[.ref D,.ref I,rawInt j,.none],[]⟩) R s:=by
 have hDI:D≠I:=λe=>hDf (e▸W.sub _ (mS.mpr rfl));intro k
 induction k with
 |zero=>
  intro i j s hk hi hst hS hkeep hR;have hin:i=n:=by omega
  subst hin;refine codeAny_builtin F.entry_dict_update_loop ?_;rw [Around.under_plainId F.plain_dict_update_loop _];show wpAny _ A.in1 (pyNext (.ref I) >>= _) _ _ s;refine wB0 (W.done s _ _ hst λh' tk hk'=>?_);show wpAny _ A.in1 (Builtin.Dict.addKeywords D [] >>= λ_=>ret Value.none) _ _ _;refine wB0 (wP0 ?_);rw [<-hn,take_length]at hS;refine wP0 (hR h' tk (λb o e=>?_) ?_)
  ·exact hk' b o (λh=>by rw [mS.mp h,hI]at e;cases e) (hkeep b o e)
  ·obtain⟨o,es,ep,ho,rest⟩:=hS;exact⟨o,es,ep,hk' D o (λh=>hDI (mS.mp h)) ho,rest⟩
 |succ k ih=>
  intro i j s hk hi hst hS hkeep hR;have hlt:i<n:=by omega
  refine codeAny_builtin F.entry_dict_update_loop ?_;rw [Around.under_plainId F.plain_dict_update_loop _];show wpAny _ A.in1 (pyNext (.ref I) >>= _) _ _ s;refine wB0 (W.item i s _ _ hlt hst λv h' tk hPv hst' hk'=>?_);obtain⟨kv,hkv,a,key,rfl,hT,hkey⟩:=hP i v hPv;have hkeep': ∀b o,h₀.get? b=some o->h'.get? b=some o:=λb o e=>hk' b o (λh=>by rw [mS.mp h,hI]at e;cases e) (hkeep b o e);have hS':h'.DictOf knd D (merged [] (kvs.take i)):=by obtain⟨o,es,ep,ho,rest⟩:=hS;exact⟨o,es,ep,hk' D o (λh=>hDI (mS.mp h)) ho,rest⟩
  obtain⟨o,ho,hc,nn,hdat⟩:=hT.keeps hkeep';have hTI:Shared.TypeIs {s with heap:=h',toks:=tk} (.ref a) "tuple":=⟨o,ho,hc⟩
  refine wB0 (wpAny_holding ?_);refine wB0 (wpAny_tryCatch ?_);unfold Builtin.Dict.pairItems;refine wB0 (wpAny_typeOf hTI ?_);rw [iP (by decide)];refine wB0 ?_;show wpAny _ _ (do match (<-load a).data with |.seq xs _=>pure (some xs)|_=>pure none) _ _ _;refine wB0 (wpAny_load ho ?_);rw [hdat];refine wP0 (wP0 ?_);show wpAny _ _ (holding [key,kv.2] (dictSet D key kv.2)) _ _ _;refine wpAny_holding ?_;have hlen:=merged_length_le [] (kvs.take i);have hl2:(kvs.take i).length<=n:=by rw [<-hn];exact List.length_take_le' i kvs
  refine wpAny_dictSet_pairs (s:={s with heap:=h',toks:=tk}) (hsz:=by rw [length_nil]at hlen;omega) hkey hS' λh2 hd2 hs2=>?_;have hkeep2: ∀b o,h₀.get? b=some o->h2.get? b=some o:=λb o e=>by rw [hs2.2 b (λh=>by rw [h,hD]at e;cases e)];exact hkeep' b o e
  refine wP0 ⟨plainId_quiet F.plain_dict_update_loop _,ih (i+1) (j+1) _ (by omega) hlt (W.frame _ _ _ hst' λb hb o e=>?_) ?_ hkeep2 λh3 tk3 k3 d3=>hR h3 tk3 k3 d3⟩
  ·rw [hs2.2 b (λh=>hDf (h▸hb))];exact e
  ·rw [merged_take_succ _ _ _ _ hkv];exact hd2
def zNI{l:Addr}{its:Ag}{o:Obj}{c:Nat}{kvs:List (K×Value)}{Q:VP}(hA:A.handled=none)(ho:s.heap.get? l=some o)(hc:o.cls=.type "list")(hd:o.dict=none)(hdat:o.data=.seq its c)(hlen:its.size=kvs.length)(hz:its.size<=sizeLine)
  (hP: ∀(i:Nat) v,its[i]? =some v-> ∃kv,kvs[i]? =some kv/\zZO knd s.heap kv v)
  (h: ∀h' tk,(∀b o,s.heap.get? b=some o->h'.get? b=some o)->h'.DictOf knd s.heap.objs.size (merged [] kvs)->Q (.ref s.heap.objs.size) {s with heap:=h',toks:=tk}):
  wpAny (model prog w) A (call (.type "dict") [.ref l]) Q E s:=by
 refine callType_codes (Q₁:=λobj s₁=>obj=.ref s.heap.objs.size/\s₁={s with heap:=s.heap.push {cls:=.type "dict",data:=.dict #[]}}) F.kt_called_dict (F.kt_typeCall_dict_1 _) F.entry_dict_init (kt_code_dict_new _ ⟨rfl,rfl⟩) ?_;rintro obj s₁ ⟨rfl,rfl⟩;have hnew:(s.heap.push {cls:=.type "dict",data:=.dict #[]}).DictOf knd s.heap.objs.size []:=Heap.DictOf.new s.heap;have ho':(s.heap.push {cls:=.type "dict",data:=.dict #[]}).get? l=some o:=hP0 _ ho;have hl0:=Heap.lt_size ho;refine⟨hnew.typeIs,F.args_dict_init_2 _ _,?_⟩;unfold Builtin.«dict.__init__»;refine wB0 ?_;unfold Builtin.Dict.selfAndRest;refine wB0 (wpAny_notOrdered_dict hnew.typeIs ?_);show wpAny _ _ (pure (s.heap.objs.size,[Value.ref l])) _ _ _;refine wP0 ?_;show wpAny _ _ (Builtin.Dict.updateFrom "dict.__init__" s.heap.objs.size (.ref l) [] .none) _ _ _;unfold Builtin.Dict.updateFrom;refine wB0 (wpAny_typeOf (T:="list") ⟨o,ho',hc⟩ ?_);rw [iP (by decide)];refine wB0 (getAttr?_miss_list ho' hc hdat hd zUB (by decide+kernel) hA (λh1 tk1 k1=>?_) (by decide+kernel));rw [iP (show(none:Option Value).isNone=true from rfl)];refine wB0 (wpAny_rule ?_);have ho1:=k1 l o ho';refine wB0 (wpAny_pyIter_list (items:=its) ⟨o,ho1,hc,c,hdat⟩ ?_);have hI:l≠h1.objs.size:=ne_of_lt (Heap.lt_size ho1);have hsz:s.heap.objs.size<h1.objs.size:=by obtain⟨oo,_,_,hg,_⟩:=hnew;exact Heap.lt_size (k1 _ _ hg)
 refine wP0 ⟨plainId_quiet F.plain_dict_update_loop _,zKR (knd:=knd) (h₀:=s.heap) (D:=s.heap.objs.size) (Walks.list (by first |exact hA|exact(show A.in1.in1.handled=none from hA)) h1.objs.size l hI its) ?_ kvs hlen.symm hz hP ?_ ?_ _ 0 0 _ rfl (zero_le _) ⟨⟨_,Heap.get?_push_size _ rfl,rfl,rfl⟩,⟨o,hP0 _ ho1,hc,c,hdat⟩⟩ ?_ ?_ λh' tk hk hd'=>?_⟩
 ·rw [mC,mS];rintro(e|e)
  ·exact ne_of_lt hsz e
  ·exact ne_of_lt hl0 e.symm
 ·cases hg:s.heap.get? h1.objs.size with
  |none=>rfl
  |some oo=>exact absurd (Heap.lt_size hg) (Nat.lt_asymm hsz)
 ·cases hg:s.heap.get? s.heap.objs.size with
  |none=>rfl
  |some oo=>exact absurd (Heap.lt_size hg) (lt_irrefl _)
 ·obtain⟨oo,es,ep,hg,rest⟩:=hnew;exact⟨oo,es,ep,hP0 _ (k1 _ _ hg),rest⟩
 ·intro b oo e;exact hP0 _ (k1 _ _ (hP0 _ e))
 ·exact⟨rfl,h h' tk hk hd'⟩
end
end PySem
namespace L2
namespace M
open PySem PySem.Spec PyProof.Rows
section
variable{X:Cx}{W:XW}{α:Ah}{H:Hp}{pins:Ba}{σ:St}{s:Shared}
def zSI(ps:List (Key×V)):List (Key×V):=ps.foldl (λacc p=>zJM acc p.1 p.2) []
inductive PairsV(K:Be)(H:Hp):List V->List (Key×V)->Prop
 |nil:PairsV K H [] []
 |cons {a:Addr} {k:Key} {v:V} {vs ps}:SqT K H a [kV k,v]->PairsV K H vs ps->PairsV K H (.ref a::vs) ((k,v)::ps)
def yBO{ps:List (Key×V)}{qs:List (Key×Value)}(r:KV ps qs): ∀{as:List (Key×V)}{bs:List (Key×Value)},KV as bs->KV (ps.foldl (λacc p=>zJM acc p.1 p.2) as) (merged bs qs):=by
 unfold KV at r
 induction r with
 |nil=>intro as bs h;exact h
 |@cons p q ps qs h t ih=>
  intro as bs hb;rw [foldl_cons];show KV _ (merged (stored bs q.1 q.2) qs);rw [h.1];exact ih (yHZ hb _ h.2)
def yIH(I:Inv X pins σ H s){vs:List V}{ps:List (Key×V)}(r:PairsV X.K H vs ps): ∀{us:Ae},Vals vs us-> ∃qs:List (Key×Value),KV ps qs/\qs.length=us.length/\ ∀(i:Nat) v,us[i]? =some v-> ∃kv,qs[i]? =some kv/\zZO (yP X.prog X.w) s.heap kv v:=by
 induction r with
 |nil=>intro us h;cases h;exact⟨[],.nil,rfl,λi v h=>by simp at h⟩
 |@cons a k v vs ps hq t ih=>
  intro us h
  cases h with
  |@cons _ u _ us ru rt=>
   cases ru;obtain⟨qs,h1,h2,h3⟩:=ih rt;obtain⟨its,r',pl,hz⟩:=I.tuple hq;obtain⟨u1,u2,rfl,q1,q2⟩:=vals2 r';refine⟨(k,u2)::qs,.cons ⟨rfl,q2⟩ h1,by rw [lC,lC,h2],λi w hw=>?_⟩
   cases i with
   |zero=>
    cases hw;exact⟨_,rfl,a,u1,rfl,pl,zWK q1⟩
   |succ i=>exact h3 i w hw
def yEU(ps:List (Key×V)):(zSI ps).length<=ps.length:=by
 have: ∀(ps as:List (Key×V)),(ps.foldl (λacc p=>zJM acc p.1 p.2) as).length<=as.length+ps.length:=by
  intro ps
  induction ps with
  |nil=>intro as;exact le_refl _
  |cons p ps ih=>
   intro as;rw [foldl_cons,lC];have:=ih (zJM as p.1 p.2);have:=zOY as p.1 p.2;omega
 have:=this ps [];rw [length_nil,zero_add]at this;exact this
def zZP{K:Be}{vs:List V}{ps:List (Key×V)}(r:PairsV K H vs ps):ps.length=vs.length:=by
 induction r with
 |nil=>rfl
 |cons _ _ ih=>rw [lC,lC,ih]
def zSJ:CallR X (.type "dict") (λxs H Q=> ∃l vs ps,xs=[.ref l]/\SqL X.K H l vs/\PairsV X.K H vs ps/\X.calm=true/\ ∀d,H d=none->Q (.ref d) (upd H d (.dK (zSI ps)))):=by intro pins s σ H xs us Q I r h;obtain⟨l,vs,ps,rfl,hq,hp,hc,q⟩:=h;obtain⟨u,rfl,rx⟩:=vals1 r;cases rx;obtain⟨its,rv,⟨o,n,ho,hcl,hd,hdat⟩,hz⟩:=I.list hq;obtain⟨qs,h1,h2,h3⟩:=yIH I hp rv;have hl:=rv.length;refine zNI (knd:=yP X.prog X.w) (kvs:=qs) (I.ok.hd hc) ho hcl hd hdat (by rw [sA,h2]) (by rw [sA];omega) (λi v e=>h3 i v (by simpa using e)) λh' tk hk hdd=>?_;have hpl:=zZP hp;have hf:=yEU ps;refine⟨.ref s.heap.objs.size,_,I.laid (t':=tk) hk (le_refl _) (show ObjOk X.prog X.w _ h' _ (.dK (zSI ps))from⟨by omega,beq_eq_false_iff_ne.mpr (Ne.symm (ne_of_lt (zZI I))),_,yBO h1 .nil,hdd⟩),rfl,q _ (I.hok.fresh (le_refl _))⟩
def zHV:List MV->Option (List (MV×MV))
 |[]=>some []
 |.tup [k,v]::r=>if zKP k=true then(zHV r).map ((k,v)::·)else none
 |_::_=>none
def yII(ps:Ca):List (MV×MV):=ps.foldl (λacc p=>putK acc p.1 p.2) []
theorem zPC{K:Be}: ∀{ds:Bh}{kvs:Ca}{vs:List V},zHV ds=some kvs->DenL X.K α H ds vs-> ∃ps,PairsV X.K H vs ps/\DenK X.K α H kvs ps
 |[],kvs,vs,e,l=>by cases e;rw [l.isnil];exact⟨[],.nil,.nil⟩
 |d::ds,kvs,vs,e,l=>by
  obtain⟨v,r,rfl,dv,l'⟩:=l.uncons;unfold zHV at e;split at e
  ·cases (by assumption:d::ds=[])
  ·rename_i k y r' hd;obtain⟨rfl,rfl⟩:=List.cons.inj hd;split at e
   ·rename_i hk
    cases z:zHV ds with
    |none=>rw [z]at e;cases e
    |some ms=>
     rw [z]at e;cases e;obtain⟨ps,p1,p2⟩:=zPC (K:=K) z l';obtain⟨a,us,rfl,hs,hl⟩:=xX dv;obtain⟨v1,r1,rfl,d1,l1⟩:=hl.uncons;obtain⟨v2,r2,rfl,d2,l2⟩:=l1.uncons;have e2:=l2.isnil;subst e2;obtain⟨k',hk'⟩:=Option.isSome_iff_exists.mp hk;have e1:=ky_V (X:=X) hk' d1;subst e1;exact⟨(k',v2)::ps,.cons hs p1,.cons (ky_D hk') d2 p2⟩
   ·cases e
  ·cases e
theorem zLY: ∀{kvs:Ca}{ps:List (Key×V)},DenK X.K α H kvs ps-> ∀{as:Ca}{bs:List (Key×V)},DenK X.K α H as bs->DenK X.K α H (kvs.foldl (λacc p=>putK acc p.1 p.2) as) (ps.foldl (λacc p=>zJM acc p.1 p.2) bs)
 |_,_,.nil,as,bs,h=>h
 |_,_,.cons (k:=k) (k':=k') hk a l,as,bs,h=>by rw [foldl_cons,foldl_cons];exact zLY l (zWH h hk a)
def zWM:List Er->Sto->R Er
 |[r],S=>match (kL S r).bind zHV with |some kvs=>.ok (.val (.loc S.length)) (S++[.dic (yII kvs)])|none=>.no
 |_,_=>.no
def yBP:bootBuiltins "dict"=some (.type "dict"):=by decide+kernel
def yBQ(hc:X.calm=true):zBB X W (λxs H Q=> ∃l vs ps,xs=[.ref l]/\SqL X.K H l vs/\PairsV X.K H vs ps/\X.calm=true/\ ∀d,H d=none->Q (.ref d) (upd H d (.dK (zSI ps)))) zWM:=by
 intro rs vs α S H Q wd d post;unfold zWM at post;split at post
 ·split at post
  ·rename_i kvs e;obtain⟨v,rfl,dv⟩:=zAB d
   cases z:kL S _ with
   |none=>rw [z]at e;cases e
   |some ds=>
    rw [z]at e;obtain⟨a1,us,rfl,sq,l⟩:=zDT rfl wd z dv;obtain⟨ps,p1,p2⟩:=zPC (X:=X) (K:=X.K) e l;refine⟨a1,us,ps,rfl,sq,p1,hc,λp hp=>?_⟩;have xn:=wd.newx (o:=.dK (zSI ps)) hp;obtain⟨x,w'⟩:=wd.put (ho:=.dK (zSI ps)) (m:=.dic (yII kvs)) hp (.inl ⟨_,yV,(zLY p2 .nil).ex0 ⟨⟨[p],rfl⟩,xn.tup,xn.frz⟩⟩);exact post (.ref p) (α++[p]) _ x w' (DenE.val (zIU (by rw [<-wd.len,getElem?_append_right (le_refl _),sub_self];rfl)))
  ·exact post.elim
 ·exact post.elim
end
section
variable{X:Cx}{W:XW}{a b o i e:Expr}{es:Bd}{f g:AX}{af:Rho->Sto->R (List Er)}{apos pos:Pos}{α:Ah}{H:Hp}{pins:Ba}{σ:St}{s:Shared}
def zWN(ks ps:List (Key×V)):List (Key×V):=ps.foldl (λacc p=>zJM acc p.1 p.2) ks
theorem zSK: ∀(ps ks:List (Key×V)),(zWN ks ps).length<=ks.length+ps.length
 |[],ks=>le_refl _
 |p::ps,ks=>by have h1:=zSK ps (zJM ks p.1 p.2);have h2:=zOY ks p.1 p.2;show(zWN (zJM ks p.1 p.2) ps).length<=_;rw [lC];omega
def yPA(X:Cx):V->List V->Hp->VK->Prop:=λx vs H Q=> ∃(ks ps:List (Key×V))(d p:Addr),x=.ref d/\vs=[.ref p]/\d≠p/\DK X H d ks/\DK X H p ps/\ks.length+ps.length<2000000/\Q .non (upd H d (.dK (zWN ks ps)))
def yNF:MtR X "dict.update" (yPA X):=by
 intro pins s σ H x vs v us Q I rx rv h;obtain⟨ks,ps,d,p,rfl,rfl,hne,dd,dp,hz,q⟩:=h;obtain⟨u1,rfl,r1⟩:=vals1 rv;cases rx;cases r1;have hT:s.TypeIs (.ref d) "dict":=(yIE pins s σ H (.ref d) (.ref d) I rfl ⟨d,ks,rfl,dd⟩).1;obtain⟨z,hs,vs,kv,dm⟩:=nR I dd;obtain⟨z2,hs2,vs2,kv2,dm2⟩:=nR I dp;have hl:ks.length=vs.length:=Paired.length kv;have hl2:ps.length=vs2.length:=Paired.length kv2;have hS:=sizeLine_eq
 refine call_meetsIn PySem.F.slot_dict_update hT PySem.F.entry_dict_update (PySem.F.args_dict_update_2 _ _) (meets_dict_update (yP X.prog X.w) d p hne hs2)
  ⟨vs,vs2,dm,dm2,by rw [hS];omega,λh' hm _ hb=>?_⟩
 have he': ∃q,h'.get? d=some q:=let ⟨q,_,_,hq,_⟩:=hm;⟨q,hq⟩;have hol:=zSK ps ks;refine⟨.non,upd H d (.dK (zWN ks ps)),?_,rfl,q⟩;exact I.write (t':=_) (x:=d) (e:=d) (zZN dd) (.inl rfl) (λb uo hb' eo=>(hb.2 b hb').trans eo) he' ⟨by rw [hS];omega,hs,_,yBO kv2 kv,hm⟩
def yBR(kvs ps:Ca):List (MV×MV):=ps.foldl (λacc p=>putK acc p.1 p.2) kvs
def zSL(p:Er)(rs:List Er)(S:Sto):R Er:=match rs with
 |[r]=>match zKQ S p with
  |some (l,kvs)=>match zKQ S r with
   |some (m,ps)=>if l≠m/\kvs.length+ps.length<1000000 then .ok (.val .non) (S.set l (.dic (yBR kvs ps)))else .no
   |none=>.no
  |none=>.no
 |_=>.no
def yNG:zYV X W (yPA X) zSL:=by
 intro p rs x vs α S H0 H Q α0 wd x0 dp da post;unfold zSL at post;split at post
 ·rename_i r;split at post
  ·rename_i l kvs ed;split at post
   ·rename_i m ps er;split at post
    ·rename_i hc
     cases da with
     |cons dv n1 l1=>
     cases l1;obtain⟨c,ks,rfl,h1,hS,DDx,dl,_⟩:=dxo wd ed dp;obtain⟨c2,ks2,rfl,h2,hS2,DDx2,dl2,_⟩:=dxo wd er dv.1;have hne:c≠c2:=λz=>hc.1 (by subst z;exact(List.getElem?_inj (gS0.mp h1).1 wd.nd).mp (h1.trans h2.symm));have e1:ks.length=kvs.length:=DenK.length dl;have e2:ks2.length=ps.length:=DenK.length dl2;refine⟨ks,ks2,c,c2,rfl,rfl,hne,DDx,DDx2,by omega,?_⟩;have xw:=wd.writex h1 (o:=.dK (zWN ks ks2));exact(Post.shift (x0.trans xw) post).val (wd.write h1 (.inl ⟨_,yV,(zLY dl2 dl).ex0 xw.toEx0⟩)) zKB
    ·exact post.elim
   ·exact post.elim
  ·exact post.elim
 ·exact post.elim
def yNH(ho:PEm X W o f)(ha:PAm X W (e::es) af)
  (hbase:attributeBase o "update" X.env (eval o X.env)=eval o X.env:=by rfl)
  (hfew:((backTo pos (starEach (e::es) X.env)).all (λx=>!x.1)&&(backToKw pos (keywordEach [] X.env)).all (λx=>x.1.isSome)
   &&decide ((e::es).length+([]:List Keyword).length+(if([]:List Keyword).isEmpty then 0 else 1)<30))=true:=by rfl)
  (hline:(apos.endLine==pos.line)=true:=by rfl) (hs:starEach (e::es) X.env=(false,eval e X.env)::starEach es X.env:=by rfl) (hplain:(backTo pos (starEach es X.env)).any (·.1)=false:=by rfl):
  PEm X W (.Call (.Attribute o "update" apos) (e::es) [] pos) (λρ S=>(f ρ S).bind λp S1=>if isDx p S1=true then(af ρ S1).bind λrs S2=>zSL p rs S2 else .no):=by
 obtain⟨to,ho,fo⟩:=ho;obtain⟨t,ha,k⟩:=ha;refine⟨_,ySF yIE PySem.F.plainAttrs_dict PySem.F.slot_dict_update PySem.F.type_dict_update yNF ho ha hbase hfew hline hs hplain,λα ρ S σ H Q wd sl q=>fo α ρ S σ H _ wd sl (q.bind λu p S1 α1 H1 e1 x1 w1 d1 q1=>?_)⟩;split at q1
 ·rename_i hz;obtain⟨⟨l,kvs⟩,hz⟩:=Option.isSome_iff_exists.mp hz;obtain⟨c,xs,rfl,_,_,dd,_⟩:=dxo w1 hz d1.1;exact⟨⟨c,xs,rfl,dd⟩,k α1 ρ S1 σ H1 _ w1 (sl.ext x1) ((q1.shift x1).bind λvs rs S2 α2 H2 e2 x2 w2 d2 q2=>yNG p rs _ vs α2 S2 H1 H2 Q α1 w2 x2 (d1.1.ext x2) d2 q2)⟩
 ·exact q1.elim
end
section
variable{X:Cx}{W:XW}{a b:Expr}{f g:AX}{pos:Pos}
open Classical in
def zWO(n:Nat)(p q:Er)(S:Sto):R Er:=match p with
 |.val k=>match q with
  |.val d=>if zKP k=true/\S[n]? =some (.dic [])then .ok (.val (.loc n)) (S.set n (.dic [(k,d)]))else .no
  |_=>.no
 |_=>.no
def yIJ(ha:PEm X W a f)(hb:PEm X W b g):PEm X W (.Dict [some a] [b] pos) (λρ S=>(f ρ (S++[.dic []])).bind λp S1=>(g ρ S1).bind λq S2=>zWO S.length p q S2):=by
 obtain⟨ta,ha,fa⟩:=ha;obtain⟨tb,hb,fb⟩:=hb;refine⟨λσ H Q=> ∀p,H p=none->ta σ (upd H p (.dK [])) λv H1=>tb σ H1 λu H2=> ∃k,v=kV k/\DK X H2 p []/\Q (.ref p) (upd H2 p (.dK [(k,u)])),λpins s σ H Q I h=>?_,λα ρ S σ H Q wd sl q p hp=>?_⟩
 ·have I0:=I.laid (a:=s.heap.objs.size) (o:=.dK []) (t':=s.toks) (h':=s.heap.push {cls:=.type "dict",data:=.dict #[]}) (λ_ _ q=>hP0 _ q) (le_refl _)
   ⟨zero_le _,beq_eq_false_iff_ne.mpr (Ne.symm (ne_of_lt (zZI I))),[],.nil,Heap.DictOf.new s.heap⟩
  refine wpAny_Dict_pairs (knd:=yP X.prog X.w) (pairs:=[(eval a X.env,do let x <-eval b X.env;standAt pos;pure x)]) rfl (by simp) (by simp) ?_;refine evalPairs_cons (wpAny_mono (ha _ _ _ _ _ I0 (h _ (I.hok.fresh (le_refl _)))) (λkv s1 h1=>?_) λ_ _ e=>e);obtain⟨v,H1,I1,r1,t1⟩:=h1;refine wB0 (wpAny_mono (hb _ _ _ _ _ I1 t1) (λvv s2 h2=>?_) λ_ _ e=>e);obtain⟨u,H2,I2,r2,k,rfl,dd,q⟩:=h2;refine wB0 (wpAny_standAt (wP0 (evalPairs_nil ?_)));obtain⟨z,hs,vs,kvr,dm⟩:=nR I2 dd;have hl:([]:List (Key×V)).length=vs.length:=Paired.length kvr;have hv0:vs=[]:=List.length_eq_zero_iff.mp hl.symm;subst hv0;refine⟨[(k,vv)],⟨zWK (X:=X) r1,rfl,trivial⟩,dm,λh' dm' hs'=>⟨.ref _,_,?_,rfl,q⟩⟩;have he: ∃q,h'.get? s.heap.objs.size=some q:=let ⟨q,_,_,hq,_⟩:=dm';⟨q,hq⟩;exact I2.write (t':=_) (x:=s.heap.objs.size) (e:=s.heap.objs.size) (zZN dd) (.inl rfl) (λb uo hb eo=>(hs'.2 b hb).trans eo) he ⟨by rw [sizeLine_eq];simp,hs,_,.cons ⟨rfl,r2⟩ .nil,dm'⟩
 ·obtain⟨x,w'⟩:=wd.put (ho:=.dK []) (m:=.dic []) hp (.inl ⟨[],yV,.nil⟩);refine fa (α++[p]) ρ (S++[.dic []]) σ _ _ w' (sl.ext x) ((q.shift x).bind λv r S1 α1 H1 e1 x1 w1 d1 q1=>?_);refine fb α1 ρ S1 σ H1 _ w1 (sl.ext (x.trans x1)) ((q1.shift x1).bind λu r2 S2 α2 H2 e2 x2 w2 d2 q2=>?_);unfold zWO at q2;split at q2
  ·rename_i k;split at q2
   ·rename_i d;split at q2
    ·rename_i hk;obtain⟨k',hk'⟩:=Option.isSome_iff_exists.mp hk.1;have dk:Den X.K α2 H2 k v:=d1.1.ext x2;have ek:=ky_V (X:=X) (α:=α2) (H:=H2) hk' dk;subst ek;have hα:α2[S.length]? =some p:=by obtain⟨t1,h1⟩:=x1.pre;obtain⟨t2,h2⟩:=x2.pre;rw [h2,h1,aA,aA, <-wd.len,getElem?_append_right (le_refl _),sub_self];rfl
     obtain⟨ks,dd,dl⟩:=yOZ (w2.obj _ p _ hα hk.2) rfl;cases dl;refine⟨k',rfl,dd,?_⟩;have xw:=w2.writex hα (o:=.dK [(k',u)]);exact(Post.shift (x2.trans xw) q2).val (w2.write hα (.inl ⟨_,yV,.cons (ky_D hk') (d2.1.ext xw) .nil⟩)) (zIU (by rw [hα]))
    ·exact q2.elim
   ·exact q2.elim
  ·exact q2.elim
end
section
variable{X:Cx}{W:XW}
def zSM:CallR X (.builtin "len") (λxs H Q=> ∃d ks,xs=[.ref d]/\DK X H d ks/\Q (.int ks.length) H):=by intro pins s σ H vs us Q I rv h;obtain⟨d,ks,rfl,dd,q⟩:=h;obtain⟨u1,rfl,r1⟩:=vals1 rv;cases r1;obtain⟨z,hs,vs,kv,dm⟩:=nR I dd;have hl:ks.length=vs.length:=Paired.length kv;have hS:=sizeLine_eq;refine PySem.call_len_dict hs dm (by omega) ⟨.int ks.length,H,(I.tok _).tok _,by rw [hl];exact⟨_,rfl⟩,q⟩
def zSN:List Er->Sto->R Er
 |[r],S=>match zKQ S r with
  |some (_,kvs)=>.ok (.val (.int kvs.length)) S
  |none=>.no
 |_,_=>.no
def yBS:zBB X W (λxs H Q=> ∃d ks,xs=[.ref d]/\DK X H d ks/\Q (.int ks.length) H) zSN:=by
 intro rs vs α S H Q wd d post;unfold zSN at post;split at post
 ·split at post
  ·rename_i l kvs e;obtain⟨v,rfl,dv⟩:=zAB d;obtain⟨c,ks,rfl,h1,hS,DDx,dl,_⟩:=dxo wd e dv;have el:ks.length=kvs.length:=DenK.length dl;refine⟨c,ks,rfl,DDx,?_⟩;rw [el];exact Post.val post wd (xW _)
  ·exact post.elim
 ·exact post.elim
def d1J(f g:AX)(ρ:Rho)(S:Sto):R Er:=(f ρ (S++[.dic []])).bind λp S1=>(g ρ S1).bind λq S2=>zWO S.length p q S2
def yEV{a b:Expr}{f g:AX}{pos:Pos}(ha:PEm X W a f)(hb:PEm X W b g):PEm X W (.Dict [some a] [b] pos) (d1J f g):=yIJ ha hb
end
def zZQ(x:Ab):List (List Nat)->List (List Nat)
 |[]=>[x]
 |y::r=>if y<x then y::zZQ x r else x::y::r
def jT(ns:Aa):List (List Nat):=ns.foldr zZQ []
theorem zLZ(x:Ab): ∀l,(zZQ x l).Perm (x::l)
 |[]=>.refl _
 |y::r=>by
  unfold zZQ;split
  ·exact((zLZ x r).cons y).trans (.swap _ _ _)
  ·exact .refl _
theorem wD: ∀ns,(jT ns).Perm ns
 |[]=>.refl _
 |x::r=>(zLZ x _).trans ((wD r).cons x)
theorem zPD(x:Ab): ∀l:List (List Nat),l.Pairwise (λa b=> ¬b<a)->(zZQ x l).Pairwise (λa b=> ¬b<a)
 |[],_=>by simp [zZQ]
 |y::r,h=>by
  obtain⟨h1,h2⟩:=pairwise_cons.mp h;unfold zZQ;split
  ·rename_i hyx;refine pairwise_cons.mpr ⟨λz hz=>?_,zPD x r h2⟩;rcases mC.mp ((zLZ x r).mem_iff.mp hz)with rfl|hz
   ·exact List.lt_asymm hyx
   ·exact h1 z hz
  ·rename_i hyx;refine pairwise_cons.mpr ⟨λz hz=>?_,h⟩;rcases mC.mp hz with rfl|hz
   ·exact hyx
   ·exact not_lt.mpr (le_trans (not_lt.mp hyx) (not_lt.mp (h1 z hz)))
theorem zMU: ∀ns,(jT ns).Pairwise (λa b=> ¬b<a)
 |[]=>.nil
 |x::r=>zPD x _ (zMU r)
def yIK{ns ns':Aa}(hp:ns'.Perm ns)(hs:ns'.Pairwise (λa b=> ¬b<a)):ns'=jT ns:=
 List.Perm.eq_of_pairwise (λ_ _ _ _ a b=>List.le_antisymm (not_lt.mp a) (not_lt.mp b)) hs (zMU ns) (hp.trans (wD ns).symm)
theorem zSO: ∀(l:Ai)(p:Str),risingS p l=true->(p::l).Pairwise (λa b=> ¬b.cps.toList<a.cps.toList)
 |[],p,_=>by simp
 |x::r,p,h=>by
  have h:(!ltCps x.cps.toList p.cps.toList&&risingS x r)=true:=h;rw [aE,Bool.not_eq_true',ltCps_eq,decide_eq_false_iff_not]at h;have ih:=zSO r x h.2;refine pairwise_cons.mpr ⟨λz hz=>?_,ih⟩;rcases mC.mp hz with rfl|hz
  ·exact h.1
  ·exact not_lt.mpr (le_trans (not_lt.mp h.1) (not_lt.mp ((pairwise_cons.mp ih).1 z hz)))
def yEW: ∀(l:Ai),sortedS l=true->l.Pairwise (λa b=> ¬b.cps.toList<a.cps.toList)
 |[],_=>.nil
 |x::r,h=>zSO r x h
def ySM(x:Str):mkS x.cps.toList=x:=by unfold mkS;simp
def zHW{zs:Aa}{ss:Ai}(hp:ss.Perm (zs.map mkS))(hs:sortedS ss=true):ss=(jT zs).map mkS:=by
 have h1:(ss.map λx=>x.cps.toList).Perm zs:=by have:=hp.map λx:Str=>x.cps.toList;rw [map_map,show((λx:Str=>x.cps.toList)∘mkS)=id from funext zIS,map_id]at this;exact this
 have h2:(ss.map λx=>x.cps.toList).Pairwise (λa b=> ¬b<a):=pairwise_map.mpr (yEW ss hs);rw [<-yIK h1 h2,map_map,show(mkS∘λx:Str=>x.cps.toList)=id from funext ySM,map_id]
section
variable{prog:Program}{w:World}{A:Around}{E:VP}{s:Shared}{T:String}{r d:Addr}{n:Nat}{P:Nat->Value->Prop}{OK:Heap->Prop}
def zWP{Q:VP}(K:PySem.W.KdlSrc prog w "dict" r d n P OK)(hh:A.handled=none)(hok:OK s.heap)(hn:n<64){ss:Ai}(hI: ∀acc:Array Value,ItemsOf P acc n->StrsAre acc.toList ss)
  (h: ∀(h':Heap)(tk:Nat)(out:Ag)(ss':Ai),(∀b o,s.heap.get? b=some o->h'.get? b=some o)->StrsAre out.toList ss'->ss'.Perm ss->sortedS ss'=true-> ∀(vs:Ae),Q (.ref h'.objs.size) {s with heap:=sortedHeap (h'.push (seqObj "list" vs.toArray 0)) h'.objs.size vs out,toks:=tk}):
  wpAny (model prog w) A (call (.builtin "sorted") [.ref r]) Q E s:=by
 refine Calls.call_function_entry kind_sorted plain_sorted entry_sorted (args_sorted1 _) ?_;unfold Builtin.«sorted»;refine wB0 (m:=checkCount "sorted" 1 1 _) (wP0 ?_);refine wB0 (PySem.W.kdu_collect (A:=A.in1) K hh hok (by rw [sizeLine_eq];omega) λh' tk acc hk hacc=>?_);have hl:acc.toList.length=n:=by rw [Array.length_toList];exact hacc.1
 refine wB0 (wpAny_newList ?_ (by rw [hl,sizeLine_eq];omega));have hoL:(h'.push (seqObj "list" acc.toList.toArray 0)).get? h'.objs.size=some (seqObj "list" acc.toList.toArray 0):=Heap.get?_push_size _ rfl;show wpAny _ _ _ _ _ {s with heap:=h'.push (seqObj "list" acc.toList.toArray 0),toks:=tk};have hS:=hI acc hacc;refine wB0 (wpAny_holding (wpAny_call_entry slot_list_sort ⟨_,hoL,rfl⟩ entry_list_sort (list_sort_treeK strKind_oneLt hoL hS.keysOf (λv₁ v₂ rest e=>keyKind_strs (by rw [<-e];exact hS)) (by rw [hl];exact hn) λst' hp hs=>⟨_,rfl,?_⟩) (args_list_sort _)));obtain⟨ss',h1,h2,h3⟩:=sorted_out_str hS hp hs;refine wP0 ⟨_,rfl,h h' tk _ ss' hk h1 h2 h3 acc.toList⟩
end
section
variable{X:Cx}{W:XW}{α:Ah}{H:Hp}
theorem zPE: ∀(l:List (Str×Tok)),StrsAre (strValues l) (l.map (·.1))
 |[]=>.nil
 |(x,t)::l=>.cons x t (zPE l)
theorem zJD: ∀{us:Ae}{zs:Aa},StrsAre us (zs.map mkS)->Vals (zs.map λz=>V.str (mkS z)) us
 |_,[],h=>by cases h;exact .nil
 |_,z::zs,h=>by
  cases h with
  |cons y t h=>exact .cons ⟨t,rfl⟩ (zJD h)
theorem zPF: ∀{ds:Bh}{ns:Aa},gZ ds=some ns->ns.length=ds.length
 |[],ns,h=>by cases h;rfl
 |x::ds,ns,hi=>by
  cases x<;>first |(cases hi;done)|skip
  unfold gZ at hi
  cases zz:gZ ds with
  |none=>rw [zz]at hi;cases hi
  |some ms=>rw [zz]at hi;cases hi;rw [lC,lC,zPF zz]
def zZR:CallR X (.builtin "sorted") (λxs H Q=> ∃d ks ds ns α,xs=[.ref d]/\DK X H d ks/\gZ ds=some ns/\DenL X.K α H ds (ks.map λp=>kV p.1)/\ds.length<64/\X.calm=true/\ ∀p,H p=none->Q (.ref p) (upd H p (.lst ((jT ns).map λz=>V.str (mkS z))))):=by
 intro pins s σ H xs us Q I r h;obtain⟨d,ks,ds,ns,α,rfl,dd,hi,hd',hz,hc,q⟩:=h;obtain⟨u,rfl,rx⟩:=vals1 r;cases rx;obtain⟨z,hd,vs,rel,dm⟩:=nR I dd;obtain⟨ep,hat⟩:=dm.dictAt;have hl:ks.length=vs.length:=Paired.length rel;have hlen:vs.length<64:=by have:=hd'.length;rw [lM]at this;omega
 refine zWP (PySem.W.kdl_dict (knd:=yP X.prog X.w) (kvs:=vs) (ep:=ep) hd) (I.ok.hd hc) hat hlen (ss:=ns.map mkS) (λacc hacc=>by obtain⟨l,e1,e2⟩:=zTY hi hd' (yET (X:=X) rel (by rw [Array.length_toList];exact hacc.1) λj v e=>hacc.2 j v (by rw [<-Array.getElem?_toList];exact e));rw [e1, <-e2];exact zPE l) λh' tk out ss' hk a1 a2 a3 us=>?_;have en:=zHW a2 a3;subst en;have I1:Inv X pins σ H {s with heap:=h',toks:=tk}:=I.kept hk;obtain⟨e,he⟩:=sortedHeap_at (h:=h'.push (seqObj "list" us.toArray 0)) (a:=h'.objs.size) (vs:=us) (n:=0) (out:=out) (Heap.get?_push_size _ rfl);refine⟨.ref h'.objs.size,_,I1.laid (t':=tk) (λb o eb=>?_) (le_refl _) (show ObjOk X.prog X.w _ _ _ (.lst ((jT ns).map λz=>V.str (mkS z)))from⟨?_,out.toList,e,zJD a1,?_⟩),rfl,q _ (I1.hok.fresh (le_refl _))⟩
 ·have hb:=Heap.lt_size eb;rw [sortedHeap_old (ne_of_lt hb) (by rw [size_push'];exact lt_succ_of_lt hb)];exact hP0 _ eb
 ·have e2:=(wD ns).length_eq;have e3:=zPF hi;have:=sizeLine_eq;rw [lM];omega
 ·rw [Array.toArray_toList];exact he
def zPG(rs:List Er)(S:Sto):R Er:=match rs with
 |[p]=>match zKQ S p with
  |some (_,kvs)=>if kvs.length<64 then(match gZ (kvs.map (·.1))with |some ns=>.ok (.new ((jT ns).map MV.str)) S|none=>.no)else .no
  |none=>.no
 |_=>.no
def yIL(hc:X.calm=true):zBB X W (λxs H Q=> ∃d ks ds ns α,xs=[.ref d]/\DK X H d ks/\gZ ds=some ns/\DenL X.K α H ds (ks.map λp=>kV p.1)/\ds.length<64/\X.calm=true/\ ∀p,H p=none->Q (.ref p) (upd H p (.lst ((jT ns).map λz=>V.str (mkS z))))) zPG:=by
 intro rs vs α S H Q wd d post;unfold zPG at post;split at post
 ·split at post
  ·rename_i n kvs e;split at post
   ·rename_i hz;split at post
    ·rename_i ns hi;obtain⟨v,rfl,dv⟩:=zAB d;obtain⟨c,ks,rfl,h1,h2,dd,dl,_⟩:=dxo wd e dv;exact⟨c,ks,_,ns,α,rfl,dd,hi,zLW dl,by rw [lM];exact hz,hc,λp hp=>Post.newl post wd hp (zJC _)⟩
    ·exact post.elim
   ·exact post.elim
  ·exact post.elim
 ·exact post.elim
end
section
variable{X:Cx}{W:XW}{a:Expr}{f:AX}{pos apos:Pos}
def yPB:V->List V->Hp->VK->Prop:=λx vs H Q=> ∃l xs y,x=.ref l/\vs=[]/\H l=some (.lst xs)/\xs[xs.length - 1]? =some y/\Q y (upd H l (.lst (xs.eraseIdx (xs.length - 1))))
def yNI:MtR X "list.pop" yPB:=by
 intro pins s σ H x vs v us Q I rx rv h;obtain⟨l,xs,y,rfl,rfl,hH,hy,q⟩:=h;cases rx;have hus:=rv.zero;subst hus;obtain⟨z,its,n,r,hl,e⟩:=I.lstM hH;obtain⟨w,hw,rw'⟩:=r.get hy
 refine call_meets F.slot_list_pop ⟨_,e,rfl⟩ F.entry_list_pop (F.args_list_pop_1 _)
  (MeetsSeq.list_pop_last l its.toArray n w (by rw [sA, <-hl, <-Array.getElem?_toList];exact hw) (by rw [sA];omega)) ⟨e,?_⟩
 refine⟨y,_,I.lset (its':=its.eraseIdx (xs.length - 1)) hH e ?_ (r.eraseIdx (xs.length - 1)) ?_,rw',q⟩
 ·show its.toArray.eraseIdxIfInBounds (its.toArray.size - 1)=(its.eraseIdx (xs.length - 1)).toArray;rw [List.eraseIdxIfInBounds_toArray,sA,hl]
 ·have:=zRT xs (xs.length - 1);omega
def zPH(p:Er)(rs:List Er)(S:Sto):R Er:=match p,rs with
 |.val (.loc l),[]=>match S[l]? with
  |some (.lst ds)=>match ds[ds.length - 1]? with
   |some d=>.ok (.val d) (S.set l (.lst (ds.eraseIdx (ds.length - 1))))
   |none=>.no
  |_=>.no
 |_,_=>.no
def yNJ:zYV X W yPB zPH:=by
 intro p rs x vs α S H0 H Q α0 wd x0 dp da post;unfold zPH at post;split at post
 ·rename_i l;obtain⟨a,rfl,h⟩:=zEH dp;cases da;obtain⟨ob,h1,h2⟩:=wd.of h;rw [h1]at post
  cases ob with
  |lst ds=>
   obtain⟨us,h3,l1⟩:=h2;dsimp only at post;split at post
   ·rename_i d ed;obtain⟨y,ey,dy⟩:=l1.at ed;have hlen:us.length=ds.length:=l1.length;have xw:=wd.writex h (o:=.lst (us.eraseIdx (us.length - 1)));refine⟨a,us,y,rfl,rfl,h3,by rw [hlen];exact ey,?_⟩;exact(post.shift (x0.trans xw)).val (wd.write h ⟨_,yV,by rw [hlen];rw [hlen]at xw;exact(l1.eraseIdx (ds.length - 1)).ext xw⟩) (dy.ext xw)
   ·exact post.elim
  |dic _=>exact post.elim
  |ins _ _=>exact post.elim
 ·exact post.elim
def yNK(ho:PEm X W a f)(hbase:attributeBase a "pop" X.env (eval a X.env)=eval a X.env:=by rfl)(hline:(apos.endLine==pos.line)=true:=by rfl):
  PEm X W (.Call (.Attribute a "pop" apos) [] [] pos) (λρ S=>(f ρ S).bind λp S1=>if jS p S1=true then zPH p [] S1 else .no):=
 zVS PySem.F.plainAttrs_list PySem.F.slot_list_pop PySem.F.type_list_pop yNI yNJ zTO ho hbase hline
end
theorem zZS(t:SetTable)(es:Ak)(h:Int)(x:Value):(layNew t es h x).2.1.led=t.led:=by
 unfold layNew;split
 ·dsimp only;unfold SetTable.orStandIn;split<;>rfl
 ·rfl
def yEX(t:SetTable)(es:Ak)(n:Nat):(relayAll t es n).2.1.led=t.led/\(t.plain=false->(relayAll t es n).2.1.plain=false):=by
 unfold relayAll;split
 ·rename_i t' order e;have h:t'.led=t.led/\t'.plain=t.plain:=by unfold SetTable.relaid SetTable.laid at e;simp only [Option.bind_eq_bind,Option.bind_eq_some_iff]at e;obtain⟨ow,_,e⟩:=e;cases e;exact⟨rfl,rfl⟩
  dsimp only;split
  ·exact⟨h.1,λz=>h.2.trans z⟩
  ·exact⟨rfl,λ_=>rfl⟩
 ·exact⟨rfl,λ_=>rfl⟩
section
variable{prog:Program}{w:World}{K:Type}[DecidableEq K]{knd:KeyKind prog w K}{A:Around}{E:VP}{s:Shared}
def TSet(knd:KeyKind prog w K)(h:Heap)(a:Addr)(S:K->Bool)(n:Nat)(b:Bool):Prop:=
 ∃o es ep t,h.get? a=some o/\o.ExactSet/\o.data=.set es ep t/\ElemsOf knd es.toList/\(∀k,S k=true↔ ∃e∈es.toList,knd.is k e.2=true)
  /\es.size<scanBound/\t.fits es.size=true/\es.size=n/\t.led=b/\(es.size=0\/t.plain=false)/\(es.toList.map (·.2)).Pairwise (λx y=> ∀k,knd.is k x=true-> ¬knd.is k y=true)
def zPI{h:Heap}{a:Addr}{o:Obj}{es:Ak}{ep:Nat}{t:SetTable}(ho:h.get? a=some o)(hex:o.ExactSet)(hd:o.data=.set es ep t)
  {es':Ak} {t':SetTable} {S':K->Bool} {b:Bool} (hel:ElemsOf knd es'.toList) (hmem: ∀k,S' k=true↔ ∃e∈es'.toList,knd.is k e.2=true) (hb:es'.size<scanBound) (hf:t'.fits es'.size=true) (hl:t'.led=b) (hp:t'.plain=false) (hw:(es'.toList.map (·.2)).Pairwise (λx y=> ∀k,knd.is k x=true-> ¬knd.is k y=true)):
  (h.update a (Obj.putSet es' t')).get? a=some {o with data:=.set es' (ep+1) t'}/\TSet knd (h.update a (Obj.putSet es' t')) a S' es'.size b:=by
 have hg:(h.update a (Obj.putSet es' t')).get? a=some {o with data:=.set es' (ep+1) t'}:=by have:=Heap.get?_update_self (Obj.putSet es' t') ho (by rw [putSet_of es' t' hd];rfl);rw [putSet_of es' t' hd]at this;exact this
 exact⟨hg,_,es',ep+1,t',hg,hex,rfl,hel,hmem,hb,hf,rfl,hl,.inr hp,hw⟩
def zPJ{l l':List (Int×Value)}(p:l'.Perm l)(h:(l.map (·.2)).Pairwise (λx y=> ∀k,knd.is k x=true-> ¬knd.is k y=true)):(l'.map (·.2)).Pairwise (λx y=> ∀k,knd.is k x=true-> ¬knd.is k y=true):=
 (p.map (·.2)).symm.pairwise h (λ{x y} hxy k hk hy=>hxy k hy hk)
def zWQ{g:Bool->Sem Unit}(hg: ∀(b:Bool)(s₁:Shared)(Q':Unit->Shared->Prop),Q' () s₁->wpAny (model prog w) A (g b) Q' E s₁)
  {a:Addr} {o:Obj} {es:Ak} {ep:Nat} {t:SetTable} (ho:s.heap.get? a=some o) (hex:o.ExactSet) (hd:o.data=.set es ep t)
  {es1:Ak} {t2:SetTable} {S':K->Bool} {b:Bool} (hel1:ElemsOf knd es1.toList) (hmem1: ∀k',S' k'=true↔ ∃e∈es1.toList,knd.is k' e.2=true)
  (hb1:es1.size<scanBound) (hf2:t2.fits es1.size=true) (hl:t2.led=b) (hp2:t2.plain=false) (hw:(es1.toList.map (·.2)).Pairwise (λx y=> ∀k,knd.is k x=true-> ¬knd.is k y=true)) {wasDummy:Bool} {R:Option Bool->Shared->Prop}
  (h: ∀h',Heap.SameBut a s.heap h'->TSet knd h' a S' es1.size b->R (some true) {s with heap:=h'}):
  wpAny (model prog w) A (do
    storeSet a es1 t2
    if(!wasDummy&&t2.tooFull)=true then do
      g (relayAll t2 es1 (SetTable.grown es1.size)).2.2
      storeSet a (relayAll t2 es1 (SetTable.grown es1.size)).1 (relayAll t2 es1 (SetTable.grown es1.size)).2.1
      pure (some true)
     else pure (some true)) R E s:=by
 refine wB0 (wpAny_storeSet_of ho hd ?_ (fits_of_scanBound hb1));obtain⟨ho1,hS1⟩:=zPI (knd:=knd) ho hex hd hel1 hmem1 hb1 hf2 hl hp2 hw;have hsb1:=Heap.SameBut.update s.heap a (Obj.putSet es1 t2);split
 ·have hp:=relayAll_perm t2 es1 (SetTable.grown es1.size);have hfr:=relayAll_fits t2 es1 (SetTable.grown es1.size);have hrl:=yEX t2 es1 (SetTable.grown es1.size);generalize hRl:relayAll t2 es1 (SetTable.grown es1.size)=Rl at hp hfr hrl ⊢;obtain⟨es2,t3,gave2⟩:=Rl;dsimp only at hp hfr hrl ⊢;have hel2:ElemsOf knd es2.toList:=hel1.perm hp;have hmem2: ∀k',S' k'=true↔ ∃e∈es2.toList,knd.is k' e.2=true:=λk'=>(hmem1 k').trans ⟨λ⟨e,he,q⟩=>⟨e,hp.mem_iff.mpr he,q⟩,λ⟨e,he,q⟩=>⟨e,hp.mem_iff.mp he,q⟩⟩;have hsz:es2.size=es1.size:=by rw [<-Array.length_toList,hp.length_eq,Array.length_toList]
  have hb2:es2.size<scanBound:=by rw [hsz];exact hb1
  refine wB0 (hg _ _ _ ?_);refine wB0 (wpAny_storeSet_of ho1 rfl ?_ (fits_of_scanBound hb2));obtain⟨_,hS2⟩:=zPI (knd:=knd) ho1 hex rfl hel2 hmem2 hb2 hfr (hrl.1.trans hl) (hrl.2 hp2) (zPJ hp hw);rw [hsz]at hS2;exact wP0 (h _ (hsb1.trans (Heap.SameBut.update _ a _)) hS2)
 ·exact wP0 (h _ hsb1 hS1)
def zZT{a:Addr}{S:K->Bool}{n:Nat}{k:K}{x:Value}{b:Bool}{Q:Bool->Shared->Prop}(hkey:knd.is k x=true)(hsc:x.scannable=true)(hpk:plainKind x=false)(hS:TSet knd s.heap a S n b)
  (hroom:n+1<scanBound)
  (h: ∀h',Heap.SameBut a s.heap h'->TSet knd h' a (λk'=>S k' || decide (k'=k)) (if S k then n else n+1) b->Q (!S k) {s with heap:=h'}):
  wpAny (model prog w) A (setAddHashed a x (knd.hash k)) Q E s:=by
 obtain⟨o,es,ep,t,ho,hex,hd,hel,hmem,hb,hf,hn,hl,hpl,hw⟩:=hS;have hb1:es.size+1<scanBound:=by rw [hn];exact hroom
 unfold setAddHashed setAddHashedIn;refine wpAny_holding (wB0 (wpAny_setState_of ho hd hf ?_));dsimp only;rw [byScan_of hsc hb hel];simp only [↓reduceIte];unfold setAddByScan;refine wB0 ?_;refine wB0 (wpAny_rule ?_);refine wB0 (wpAny_setScan_of hkey ho hd hf hel ?_)
 cases hr:List.findIdx? (λe=>knd.is k e.2) es.toList with
 |some j=>
  dsimp only;obtain⟨hj,hpj,_⟩:=List.findIdx?_eq_some_iff_getElem.mp hr;have hSk:S k=true:=(hmem k).mpr ⟨es.toList[j],getElem_mem hj,hpj⟩;refine wP0 (wP0 ?_);have e:s={s with heap:=s.heap}:=by cases s;rfl
  have:=h s.heap (Heap.SameBut.refl a s.heap) ⟨o,es,ep,t,ho,hex,hd,hel,λk'=>by rw [or_eq_true,decide_eq_true_eq, <-hmem k'];exact⟨λhk=>hk.elim id (λe=>e▸hSk),.inl⟩,hb,hf,by rw [hSk];exact hn,hl,hpl,hw⟩;rw [hSk]at this;rw [e];exact this
 |none=>
  dsimp only
  have hSk:S k=false:=by
   cases hk:S k with
   |false=>rfl
   |true=>obtain⟨e,he,hp⟩:=(hmem k).mp hk;have:=List.findIdx?_eq_none_iff.mp hr e he;rw [hp]at this;exact Bool.noConfusion this
  have hgw: ∀(b:Bool){s₁:Shared}{Q':Unit->Shared->Prop},Q' () s₁->wpAny (model prog w) A (match b with |true=>rule "set.scan.the-table-gave-way" |false=>pure ()) Q' E s₁:=
   λb s₁ Q' hq=>by cases b<;>first |exact wP0 hq|exact wpAny_rule hq
  have hperm:=layNew_perm t es (knd.hash k) x;have hfits:=layNew_fits t es (knd.hash k) x;have hled:=zZS t es (knd.hash k) x;generalize hL:layNew t es (knd.hash k) x=L at hperm hfits hled ⊢;obtain⟨es1,t1,wasDummy,gave⟩:=L;dsimp only at hperm hfits hled ⊢;rw [Array.toList_push]at hperm;have hel1:ElemsOf knd es1.toList:=(hel.push hkey hsc).perm hperm;have hmem1: ∀k',(S k' || decide (k'=k))=true↔ ∃e∈es1.toList,knd.is k' e.2=true:=mem_push_iff hkey hmem hperm;have hb1':es1.size<scanBound:=by rw [<-Array.length_toList,hperm.length_eq,lA,Array.length_toList];simpa using hb1
  have hw1:(es1.toList.map (·.2)).Pairwise (λx y=> ∀k,knd.is k x=true-> ¬knd.is k y=true):=by
   refine zPJ hperm ?_;rw [map_append,pairwise_append];refine⟨hw,by simp,λy hy z hz k' hk' hz'=>?_⟩;obtain⟨e,he,rfl⟩:=mM.mp hy;have hz:z=x:=by simpa using hz
   subst hz;have:=knd.inj z k' k hz' hkey;subst this;have:=List.findIdx?_eq_none_iff.mp hr e he;rw [hk']at this;exact Bool.noConfusion this
  refine wB0 (hgw _ ?_);have hsz1:es1.size=n+1:=by rw [<-Array.length_toList,hperm.length_eq,lA,Array.length_toList,hn];rfl
  have hend: ∀h',Heap.SameBut a s.heap h'->TSet knd h' a (λk'=>S k' || decide (k'=k)) es1.size b->Q true {s with heap:=h'}:=by intro h' hsb hS';have:=h h' hsb;rw [hSk]at this;rw [hsz1]at hS';exact this hS'
  split
  ·refine wB0 ?_;rw [hashByValue_scannable 8 hsc,hpk];refine wP0 ?_;simp only [fT, ↓reduceIte];refine zWQ ?_ ho hex hd hel1 hmem1 hb1' (SetTable.fits_plain_off hfits) (hled.trans hl) rfl hw1 ?_
   ·intro b s₁ Q' hq;cases b<;>first |exact wP0 hq|exact wpAny_rule hq
   ·intro h' hsb hS';dsimp only;exact wP0 (hend h' hsb hS')
  ·rename_i hnp;refine wB0 (wP0 ?_);simp only [↓reduceIte];refine zWQ ?_ ho hex hd hel1 hmem1 hb1' hfits (hled.trans hl) (by simpa using hnp) hw1 ?_
   ·intro b s₁ Q' hq;cases b<;>first |exact wP0 hq|exact wpAny_rule hq
   ·intro h' hsb hS';dsimp only;exact wP0 (hend h' hsb hS')
end
abbrev byT(w:World):Bool:=w.params.followText "set-order"
abbrev KSetT(P:Program)(w:World)(h:Heap)(D:Addr)(val:Nat->Key)(i:Nat):Prop:=TSet (yP P w) h D (λk=>inK k (zDO val i)) (zDO val i).length (!byT w)
def KSetT.move{P:Program}{w:World}{h h':Heap}{D:Addr}{val:Nat->Key}{i:Nat}(x:KSetT P w h D val i)(m: ∀o,h.get? D=some o->h'.get? D=some o):KSetT P w h' D val i:=by obtain⟨o,es,ep,t,ho,r⟩:=x;exact⟨o,es,ep,t,m o ho,r⟩
def StrT(val:Nat->Key)(i:Nat)(v:Value):Prop:= ∃x t,val i=.inr x/\v=.str x t
def StrT.is{P:Program}{w:World}{val:Nat->Key}{i:Nat}{v:Value}(h:StrT val i v):(yP P w).is (val i) v=true/\v.scannable=true/\plainKind v=false:=by obtain⟨x,t,e,rfl⟩:=h;rw [e];exact⟨nZ P w x t,rfl,rfl⟩
section
variable{P:Program}{w:World}{A:Around}{R:Result->Shared->Prop}{I D:Addr}{fp wr:Ah}{G:Array GenState->Array GenState->Prop}{n:Nat}{Pv:Nat->Value->Prop}{St:Nat->Shared->Prop}{val:Nat->Key}
theorem zPK(W:PySem.WalksS P w A.in1 I fp wr G n Pv St)(hD:D∉fp)(hv: ∀i v,Pv i v->StrT val i v)(hb:n+1<scanBound):
  ∀(k i:Nat)(s:Shared),i+k=n->St i s->KSetT P w s.heap D val i->
   (∀s',PySem.Moved (D::wr) G s s'->KSetT P w s'.heap D val n->R (.ok (.ret .none)) s')->codeAny (model P w) A (.builtin "set.update.loop" ⟨[.ref D,.ref I],[]⟩) R s
 |0,i,s,hk,st,hs,q=>by have e:i=n:=hk;subst e;refine codeAny_builtin F.entry_set_update_loop ?_;rw [Around.under_plainId F.plain_set_update_loop _];show wpAny _ A.in1 (pyNext (.ref I) >>= _) _ _ s;refine wB0 (W.done s _ _ st λs' m=>?_);exact wP0 (q s' (m.mono λb hb=>.tail _ hb) (hs.move λo=>m.heap D o λz=>hD (W.sub _ z)))
 |k+1,i,s,hk,st,hs,q=>by
  refine codeAny_builtin F.entry_set_update_loop ?_;rw [Around.under_plainId F.plain_set_update_loop _];show wpAny _ A.in1 (pyNext (.ref I) >>= _) _ _ s;refine wB0 (W.item i s _ _ (by omega) st λv s' hP st' m=>?_);obtain⟨hi,hsc,hpk⟩:=(hv i v hP).is (P:=P) (w:=w);have hs1:KSetT P w s'.heap D val i:=hs.move λo=>m.heap D o λz=>hD (W.sub _ z);have le:=zNT val i;show wpAny _ A.in1 (holding [v] (setAdd D v) >>= _) _ _ s';refine wB0 (wpAny_holding ?_);unfold setAdd;refine wpAny_holding (wB0 ((yP P w).pyHash hi ?_));refine zZT (s:={s' with toks:=s'.toks+1}) hi hsc hpk hs1 (by omega) λh2 sb hs2=>?_;have hs3:KSetT P w h2 D val (i+1):=by unfold KSetT;rw [show(λk=>inK k (zDO val (i+1)))=(λk=>inK k (zDO val i) || decide (k=val i))from funext (yIA val i),yIB];exact hs2
  refine wP0 ⟨plainId_quiet F.plain_set_update_loop _,zPK W hD hv hb k (i+1) _ (by omega) (W.frame _ s' _ _ st' (le_succ _) λb hb o e=>?_) hs3 λs2 m2 hs4=>?_⟩
  ·rw [sb.2 b λz=>hD (z▸hb)];exact e
  ·refine q s2 (PySem.Moved.trans W.gtrans ((m.mono λb hb=>.tail _ hb).then_heap (le_succ _) λb o hb e=>?_) m2) hs4;rw [sb.2 b λz=>hb (by rw [z];exact .head _)];exact e
end
section
variable{P:Program}{w:World}{A:Around}{E:VP}{s:Shared}
def ySN{h:Heap}{a:Addr}{val:Nat->Key}(ho:h.get? a=some (wQ (!byT w))):KSetT P w h a val 0:=
 ⟨wQ (!byT w),#[],0,_,ho,⟨rfl,rfl,rfl⟩,rfl,λe he=>absurd he (by simp),λk=>⟨λz=>absurd (show false=true from z) xF0,λ⟨e,he,_⟩=>absurd he (by simp)⟩,by unfold scanBound;decide,rfl,rfl,rfl,.inl rfl,.nil⟩
def zQW(a:Value){Q₁:VP}
  (h:Q₁ (.ref s.heap.objs.size) {s with heap:=s.heap.push (wQ (!byT w))}):
  codeAny (model P w) A (.call (.builtin "set.__new__") ⟨[.type "set",a],[]⟩) (wants Q₁ E) s:=by
 refine codeAny_of_tree ?_;show wpAny _ A.in1 (do checkBuiltinCall "set.__new__" ⟨[.type "set",a],[]⟩;again (.builtin "set.__new__" ⟨[.type "set",a],[]⟩)) _ _ s;refine wB0 (wpAny_of_eq (F.newCall_set_1 a) (wP0 ⟨plainId_quiet F.plain_set_new _,codeAny_builtin F.entry_set_new ?_⟩));rw [Around.under_plainId F.plain_set_new _];unfold Builtin.«set.__new__» Builtin.Frozenset.newClass;have hsub:=sub_set_self;obtain⟨hp,g,d,tk,os⟩:=s;dsimp only
 wp_walk
 refine wpAny_askSetting (wP0 ?_);dsimp only;simp only [newObj];refine wB0 (wpAny_alloc (wP0 ?_));exact wP0 h
def zPL{l:Addr}{items:Ag}{val:Nat->Key}{Q:VP}(hh:A.handled=none)(hl:s.heap.IsList l items)(hv: ∀(i:Nat)(v:Value),items[i]? =some v->StrT val i v)(hb:items.size+1<scanBound)
  (h: ∀(h':Heap)(tk:Nat),KSetT P w h' s.heap.objs.size val items.size->(∀b o,s.heap.get? b=some o->h'.get? b=some o)->Q (.ref s.heap.objs.size) {s with heap:=h',toks:=tk}):
  wpAny (model P w) A (call (.type "set") [.ref l]) Q E s:=by
 obtain⟨c,tl,hmro⟩:=F.called_set.mro;have hmade:=F.called_set.made;have hsub:=F.called_set.sub;refine wpAny_call (codeAny_of_tree ?_);show wpAny _ _ (callAny (.type "set") _) _ _ _;refine wP0 ⟨Code.quiet_builtin _ (by decide+kernel),codeAny_builtin F.entry_type_call ?_⟩;rw [Around.under_plain (weight_type_call_type "set" [.ref l] []) rfl];have h1:=F.called_set.notType;have h2:=F.called_set.canCreate;have hct:=F.typeCall_set_1 (.ref l)
 repeat (any_goals (first |assumption|wp_step))
 refine codeAny_mono (zQW (.ref l) (E:=E) (Q₁:=λob s1=>ob=.ref s.heap.objs.size/\s1={s with heap:=s.heap.push (wQ (!byT w))}) ⟨rfl,rfl⟩) λr s1 hr=>?_
 cases r with
 |error e=>exact hr
 |ok fl=>
  cases fl with
  |ret ob=>
   obtain⟨rfl,rfl⟩:=hr;have g0:(s.heap.push (wQ (!byT w))).get? s.heap.objs.size=some (wQ (!byT w)):=Heap.get?_push_size _ rfl;have hT:Shared.TypeIs {s with heap:=s.heap.push (wQ (!byT w))} (.ref s.heap.objs.size) "set":=⟨_,g0,rfl⟩
   have hli:=F.called_set.init.lookup;have hbi:=F.called_set.init.bind (.ref s.heap.objs.size)
   repeat (any_goals (first |assumption|wp_step))
   refine codeAny_mono (codeAny_call_builtin (R:=wants (λr s2=>r=.none/\ ∃h' tk,s2={s with heap:=h',toks:=tk}/\KSetT P w h' s.heap.objs.size val items.size/\ ∀b o,s.heap.get? b=some o->h'.get? b=some o) E)
    F.called_set.init.plain F.entry_set_init (check_set_init_1 hT ?_)) λr2 s2 hr2=>?_
   ·have hl1:(s.heap.push (wQ (!byT w))).IsList l items:=hl.push _;obtain⟨⟨oc,od,oda,os⟩,hol,hcl,nl,hdl⟩:=hl;cases hcl;cases hdl;have hol':(s.heap.push (wQ (!byT w))).get? l=some {cls:=.type "list",dict:=od,data:=.seq items nl,slots:=os}:=hP0 _ hol;have hsls:=PySem.F.sub_list_set;have hslf:=PySem.F.sub_list_frozenset;have hne:(Value.type "list"==Value.type "dict")=false:=by decide
    have lt:l<s.heap.objs.size:=Heap.lt_size hol;unfold Builtin.«set.__init__» noKeywords Builtin.Frozenset.updateFrom;generalize hPI:pyIter=PI
    wp_walk
    subst hPI;refine wpAny_pyIter_list hl1 ?_;refine wB0 (wpAny_runValue ?_);have h3:A.in1.in1.in1.handled=none:=by simp [hh]
    have lt2:l<(s.heap.push (wQ (!byT w))).objs.size:=by rw [Heap.size_push];exact lt_succ_of_lt lt
    have out:s.heap.objs.size∉[(s.heap.push (wQ (!byT w))).objs.size,l]:=by
     rw [Heap.size_push];intro z;rcases mC.mp z with z|z
     ·exact absurd z (ne_of_lt (lt_succ_self _))
     ·exact absurd (mS.mp z) (ne_of_gt lt)
    refine zPK ((Walks.list h3 _ l (ne_of_lt lt2) items).toS) (D:=s.heap.objs.size) (val:=val) out hv hb items.size 0 _ (zero_add _) ⟨⟨_,Heap.get?_push_size _ rfl,rfl,rfl⟩,hl1.push _⟩ ?hS0 ?hR
    case hS0=>
     have gg:((s.heap.push (wQ (!byT w))).push {cls:=.type "list_iterator",data:=.fields #[.ref l,.int 0 0]}).get? s.heap.objs.size=some (wQ (!byT w)):=hP0 _ g0;exact ySN gg
    case hR=>
     intro s' m hs';obtain⟨h',g',d',tk',os'⟩:=s';have e1:g'=s.gens:=m.gens;have e2:d'=s.drawn:=m.drawn;have e3:os'=s.os:=m.os;subst e1;subst e2;subst e3;show wpAny _ _ _ _ _ _;refine wP0 ?_;show wpAny _ _ (ret Value.none) _ _ _;refine wP0 ⟨rfl,h',tk',rfl,hs',λb o e=>?_⟩;have hb0:=Heap.lt_size e;refine m.heap b o (λz=>?_) (hP0 _ (hP0 _ e));rcases mC.mp z with z|z
     ·exact absurd z (ne_of_lt hb0)
     ·rw [Heap.size_push]at z;exact absurd (mS.mp z) (ne_of_lt (lt_succ_of_lt hb0))
   ·cases r2 with
    |error e=>exact hr2
    |ok fl2=>
     cases fl2 with
     |ret r=>
      obtain⟨rfl,h',tk,rfl,hs',hk'⟩:=hr2
      repeat (any_goals (first |assumption|wp_step))
      exact h _ _ hs' hk'
     |_=>exact hr2.elim
  |_=>exact hr.elim
end
end M
end L2
namespace PySem.F
def slot_seti_next:Slot "set_iterator" "__next__" "set_iterator.__next__":=
 .of (owner:="set_iterator") (n:="__next__") (by rw [typeLookup_type,builtinLookup_eq_fast];kernel_rfl) (by decide+kernel) (by decide+kernel) (by decide+kernel)
  (by first |exact .inl (by decide+kernel)|exact .inr (by decide+kernel)) (by rw [isSubtype_type];kernel_rfl)
def entry_seti_next:entryFor table "set_iterator.__next__"=some Builtin.«set_iterator.__next__»:=entryFor_of_tree (by kernel_rfl)
def entry_set_iter':entryFor table "set.__iter__"=some Builtin.«frozenset.__iter__»:=entryFor_alias (id':="frozenset.__iter__") (by kernel_rfl) rfl (by decide+kernel) (by kernel_rfl)
theorem zPM:Manifest.owners.lookup (String.ofList ['r', 'o', 't', 'a', 'r', 'e', 't', 'i', '_', 't', 'e', 's'].reverse)=some Manifest.sig_set_iterator:=by kernel_rfl
theorem args_seti_next(a:Value):argsOk "set_iterator.__next__" ⟨[a],[]⟩:=by unfold argsOk;rw [signature?_of (id:="set_iterator.__next__") (n:=['_', '_', 't', 'x', 'e', 'n', '_', '_']) (o:=['r', 'o', 't', 'a', 'r', 'e', 't', 'i', '_', 't', 'e', 's']) (by kernel_rfl) zPM];kernel_rfl
end PySem.F
namespace L2
namespace M
open PySem PySem.Spec PyProof.Rows
section
variable{α:Type}{prog:Program}{w:World}{A:Around}{E:VP}{s:Shared}
def zUC{src:Source}{n:Nat}(hn:n≠0){Q:Nat->Shared->Prop}(h: ∀i d',i<n->Q i {s with drawn:=d'}):wpAny (model prog w) A (choose src n) Q E s:=λΓ p hΓ=>by unfold choose;rw [Sem.wp_choose];exact⟨hn,h _ _ (mod_lt _ (Nat.pos_of_ne_zero hn))⟩
theorem zJW: ∀(l:List α)(i:Nat)(hi:i<l.length),(l[i]::l.eraseIdx i).Perm l
 |x::l,0,_=>.refl _
 |x::l,i+1,hi=>by
  have hi':i<l.length:=by simpa using hi
  have:=zJW l i hi';exact(List.Perm.swap x l[i] (l.eraseIdx i)).trans (this.cons x)
theorem zPN: ∀(n:Nat)(xs:List α){s:Shared}{Q:List α->Shared->Prop},xs.length=n->(∀ys d',ys.Perm xs->Q ys {s with drawn:=d'})->wpAny (model prog w) A (drawOrder n xs) Q E s
 |0,xs,s,Q,hn,h=>by have e:xs=[]:=List.eq_nil_of_length_eq_zero hn;subst e;exact wP0 (h [] s.drawn (.refl _))
 |n+1,[],s,Q,hn,h=>by simp at hn
 |n+1,x::xs,s,Q,hn,h=>by unfold drawOrder;refine wB0 (zUC (by simp) λi d' hi=>?_);have e:(x::xs)[i]? =some ((x::xs)[i]):=gE0 hi;rw [e];dsimp only;refine wB0 (zPN n ((x::xs).eraseIdx i) (by rw [List.length_eraseIdx_of_lt hi,hn];rfl) λys d2 hp=>?_);refine wP0 (h _ d2 ?_);exact(hp.cons _).trans (zJW _ i hi)
def SetAt(h:Heap)(D:Addr)(es:Ak)(ep:Nat)(t:SetTable):Prop:= ∃o,h.get? D=some o/\o.ExactSet/\o.data=.set es ep t/\t.fits es.size=true
abbrev jM(h:Heap)(it:Addr)(first:Value)(i n ep:Nat)(D:Addr):Prop:=h.get? it=some {cls:=.type "set_iterator",dict:=none,data:=.fields #[first,rawInt i,.ref D,rawInt n,rawInt ep],slots:=#[]}
theorem zZU{it D T:Addr}{i n ep pl:Nat}{es:Ak}{t:SetTable}{places:Ab}{hx:Int}{x:Value}{Q:Option Value->Shared->Prop}(hit:jM s.heap it (.ref T) i n ep D)(hS:SetAt s.heap D es ep t)(hn:es.size=n)
  (hT:s.heap.get? T=some {cls:=.type "tuple",data:=.seq (places.map λk:Nat=>rawInt (k:Int)).toArray}) (hp:places[i]? =some pl) (he:es[pl]? =some (hx,x))
  (hQ: ∀h',jM h' it (.ref T) (i+1) n ep D->Heap.SameBut it s.heap h'->Q (some x) {s with heap:=h'}):
  wpAny (model prog w) A (pyNext (.ref it)) Q E s:=by
 have hTi:s.TypeIs (.ref it) "set_iterator":=⟨_,hit,rfl⟩
 obtain⟨o,ho,hex,hd,hf⟩:=hS;unfold pyNext
 refine wB0 (wpAny_attempt (wpAny_callSpecial?_slot (name:=Str.ofString "__next__") hTi F.slot_seti_next
  (wpAny_call_entry F.slot_seti_next hTi F.entry_seti_next ?_ (F.args_seti_next _))))
 unfold Builtin.«set_iterator.__next__» slotArgs;refine wB0 (wP0 ?_);refine wB0 (wpAny_fieldsOf hit rfl ?_);dsimp only;refine wB0 (wpAny_setEntries_of ho hd hf ?_);rw [iN (by simp [hn])];dsimp only;refine wB0 (wpAny_seqItems hT rfl ?_);dsimp only;have hpl:(places.map λk:Nat=>rawInt (k:Int)).toArray[(i:Int).toNat]? =some (rawInt (pl:Int)):=by rw [toNat_natCast,List.getElem?_toArray,getElem?_map,hp];rfl
 rw [hpl];dsimp only [rawInt];refine wB0 ?_;unfold setNextDrawn;refine wB0 (wpAny_setState_of ho hd hf ?_);dsimp only;rw [iN (by simp),toNat_natCast,he];refine wP0 ?_;refine wB0 (wpAny_setField hit rfl (by simp) ?_);refine wP0 ⟨_,rfl,wP0 (hQ _ ?_ (Heap.SameBut.update ..))⟩;exact Heap.get?_update_self _ hit rfl
def zPO{it D T:Addr}{i n ep:Nat}{es:Ak}{t:SetTable}{places:Ab}{Q:Option Value->Shared->Prop}(hh:A.handled=none)(hit:jM s.heap it (.ref T) i n ep D)(hS:SetAt s.heap D es ep t)(hn:es.size=n)
  (hT:s.heap.get? T=some {cls:=.type "tuple",data:=.seq (places.map λk:Nat=>rawInt (k:Int)).toArray}) (hp:places[i]? =none)
  (hQ: ∀h',Heap.ExtBut it s.heap h'->Q none {s with heap:=h'}):wpAny (model prog w) A (pyNext (.ref it)) Q E s:=by
 have hTi:s.TypeIs (.ref it) "set_iterator":=⟨_,hit,rfl⟩
 obtain⟨o,ho,hex,hd,hf⟩:=hS;unfold pyNext
 refine wB0 (wpAny_attempt (wpAny_callSpecial?_slot (name:=Str.ofString "__next__") hTi F.slot_seti_next
  (wpAny_call_entry F.slot_seti_next hTi F.entry_seti_next ?_ (F.args_seti_next _))))
 unfold Builtin.«set_iterator.__next__» slotArgs;refine wB0 (wP0 ?_);refine wB0 (wpAny_fieldsOf hit rfl ?_);dsimp only;refine wB0 (wpAny_setEntries_of ho hd hf ?_);rw [iN (by simp [hn])];dsimp only;refine wB0 (wpAny_seqItems hT rfl ?_);dsimp only;have hpl:(places.map λk:Nat=>rawInt (k:Int)).toArray[(i:Int).toNat]? =none:=by rw [toNat_natCast,List.getElem?_toArray,getElem?_map,hp];rfl
 rw [hpl];dsimp only;refine wB0 (wpAny_setField hit rfl (by simp) ?_);refine wB0 (wpAny_setField (Heap.get?_update_self _ hit rfl) rfl (by simp) ?_);show wpAny _ _ (newExc (.type "StopIteration") [] >>= _) _ _ _;refine wB0 ?_;simp only [newExc,newTuple];refine wB0 (wpAny_newObj_type ?_ (by size_fits));refine wB0 (m:=firstArgMember _ _) (wpAny_of_eq (a:=Value.none) (by first |rfl|(simp only [firstArgMember];rfl)) ?_);refine wpAny_newObj_type ?_ (by size_fits);simp only [raiseNew];refine wB0 (wpAny_handled ?_);rw [show A.in1.handled=none from hh];refine wB0 (wP0 (wpAny_throw ?_));refine wB0 (wpAny_isInstance (T:="StopIteration") (b:=true) ⟨_,Heap.get?_push_size _ rfl,rfl⟩ isSubtype_stop ?_);exact wP0 (hQ _ ((((Heap.SameBut.update ..).trans (Heap.SameBut.update ..)).extBut.push _).push _))
end
theorem yBT{α:Type}(next:Nat->Nat): ∀(fuel k:Nat)(left:List α)(out:Array α),left.length=fuel->(pickOrder.go next fuel k left out).toList.Perm (out.toList++left)
 |0,k,left,out,h=>by have e:left=[]:=List.eq_nil_of_length_eq_zero h;subst e;unfold pickOrder.go;rw [aN]
 |fuel+1,k,left,out,h=>by
  have hi:next k % left.length<left.length:=mod_lt _ (by omega)
  unfold pickOrder.go;rw [gE0 hi];dsimp only;refine(yBT next fuel (k+1) _ _ (by rw [List.length_eraseIdx_of_lt hi,h];rfl)).trans ?_;rw [Array.toList_push,aA];exact(zJW left _ hi).append_left out.toList
def zJE{α:Type}(next:Nat->Nat)(xs:Array α):(pickOrder next xs).toList.Perm xs.toList:=by
 have:=yBT next xs.size 0 xs.toList #[] (by simp)
 simpa [pickOrder]using this
section
variable{prog:Program}{w:World}{A:Around}{E:VP}{s:Shared}
theorem yEY{it D:Addr}{i n ep:Nat}{es:Ak}{t:SetTable}{hx:Int}{x:Value}{Q:Option Value->Shared->Prop}(hb:byT w=true)(hit:jM s.heap it (rawInt 0) i n ep D)(hS:SetAt s.heap D es ep t)(hn:es.size=n)
  (he:(pickOrder (w.params.setOrder D ep) es)[i]? =some (hx,x))
  (hQ: ∀h',jM h' it (rawInt 0) (i+1) n ep D->Heap.SameBut it s.heap h'->Q (some x) {s with heap:=h'}):
  wpAny (model prog w) A (pyNext (.ref it)) Q E s:=by
 have hTi:s.TypeIs (.ref it) "set_iterator":=⟨_,hit,rfl⟩
 obtain⟨o,ho,hex,hd,hf⟩:=hS;unfold pyNext
 refine wB0 (wpAny_attempt (wpAny_callSpecial?_slot (name:=Str.ofString "__next__") hTi F.slot_seti_next
  (wpAny_call_entry F.slot_seti_next hTi F.entry_seti_next ?_ (F.args_seti_next _))))
 unfold Builtin.«set_iterator.__next__» slotArgs;refine wB0 (wP0 ?_);refine wB0 (wpAny_fieldsOf hit rfl ?_);dsimp only;refine wB0 (wpAny_setEntries_of ho hd hf ?_);rw [iN (by simp [hn])];dsimp only [rawInt];refine wB0 ?_;unfold setNext setsByText;refine wB0 (wpAny_setState_of ho hd hf ?_);dsimp only;refine wB0 (wB0 (wpAny_askSetting (wP0 ?_)));dsimp only;rw [iP (show(model prog w).w.params.followText "set-order"=true from hb),iN (by simp)];refine wB0 ?_;unfold setWalk setsByText;refine wB0 (wpAny_setState_of ho hd hf ?_);dsimp only;refine wB0 (wB0 (wpAny_askSetting (wP0 ?_)));dsimp only;rw [iP (show(model prog w).w.params.followText "set-order"=true from hb)];refine wB0 (wpAny_askSetting (wP0 ?_));refine wP0 ?_;dsimp only;rw [toNat_natCast,show(pickOrder ((model prog w).w.params.setOrder D ep) es)[i]? =some (hx,x)from he];dsimp only [Option.map];refine wB0 (wpAny_setField hit rfl (by simp) ?_);refine wB0 (wpAny_setField (Heap.get?_update_self _ hit rfl) rfl (by simp) ?_);refine wP0 ⟨_,rfl,wP0 (hQ _ ?_ ((Heap.SameBut.update ..).trans (Heap.SameBut.update ..)))⟩;exact Heap.get?_update_self _ (Heap.get?_update_self _ hit rfl) rfl
def zQX{it D:Addr}{i n ep:Nat}{es:Ak}{t:SetTable}{Q:Option Value->Shared->Prop}(hh:A.handled=none)(hb:byT w=true)(hit:jM s.heap it (rawInt 0) i n ep D)(hS:SetAt s.heap D es ep t)(hn:es.size=n)
  (he:(pickOrder (w.params.setOrder D ep) es)[i]? =none)
  (hQ: ∀h',Heap.ExtBut it s.heap h'->Q none {s with heap:=h'}):wpAny (model prog w) A (pyNext (.ref it)) Q E s:=by
 have hTi:s.TypeIs (.ref it) "set_iterator":=⟨_,hit,rfl⟩
 obtain⟨o,ho,hex,hd,hf⟩:=hS;unfold pyNext
 refine wB0 (wpAny_attempt (wpAny_callSpecial?_slot (name:=Str.ofString "__next__") hTi F.slot_seti_next
  (wpAny_call_entry F.slot_seti_next hTi F.entry_seti_next ?_ (F.args_seti_next _))))
 unfold Builtin.«set_iterator.__next__» slotArgs;refine wB0 (wP0 ?_);refine wB0 (wpAny_fieldsOf hit rfl ?_);dsimp only;refine wB0 (wpAny_setEntries_of ho hd hf ?_);rw [iN (by simp [hn])];dsimp only [rawInt];refine wB0 ?_;unfold setNext setsByText;refine wB0 (wpAny_setState_of ho hd hf ?_);dsimp only;refine wB0 (wB0 (wpAny_askSetting (wP0 ?_)));dsimp only;rw [iP (show(model prog w).w.params.followText "set-order"=true from hb),iN (by simp)];refine wB0 ?_;unfold setWalk setsByText;refine wB0 (wpAny_setState_of ho hd hf ?_);dsimp only;refine wB0 (wB0 (wpAny_askSetting (wP0 ?_)));dsimp only;rw [iP (show(model prog w).w.params.followText "set-order"=true from hb)];refine wB0 (wpAny_askSetting (wP0 ?_));refine wP0 ?_;dsimp only;rw [toNat_natCast,show(pickOrder ((model prog w).w.params.setOrder D ep) es)[i]? =none from he];dsimp only [Option.map];refine wB0 (wpAny_setField hit rfl (by simp) ?_);show wpAny _ _ (newExc (.type "StopIteration") [] >>= _) _ _ _;refine wB0 ?_;simp only [newExc,newTuple];refine wB0 (wpAny_newObj_type ?_ (by size_fits));refine wB0 (m:=firstArgMember _ _) (wpAny_of_eq (a:=Value.none) (by first |rfl|(simp only [firstArgMember];rfl)) ?_);refine wpAny_newObj_type ?_ (by size_fits);simp only [raiseNew];refine wB0 (wpAny_handled ?_);rw [show A.in1.handled=none from hh];refine wB0 (wP0 (wpAny_throw ?_));refine wB0 (wpAny_isInstance (T:="StopIteration") (b:=true) ⟨_,Heap.get?_push_size _ rfl,rfl⟩ isSubtype_stop ?_);exact wP0 (hQ _ (((Heap.SameBut.update ..).extBut.push _).push _))
theorem yIM{it D:Addr}{n ep sl j:Nat}{es:Ak}{t:SetTable}{hx:Int}{x:Value}{Q:Option Value->Shared->Prop}(hb:byT w=false)(hit:jM s.heap it (rawInt (sl:Int)) 0 n ep D)(hS:SetAt s.heap D es ep t)(hn:es.size=n)(h1:n<=1)(hl:t.led=true)
  (he:es[SetTable.below t.place sl]? =some (hx,x)) (hj:t.place[SetTable.below t.place sl]? =some j)
  (hQ: ∀h',jM h' it (rawInt ((j+1:Nat):Int)) 1 n ep D->Heap.SameBut it s.heap h'->Q (some x) {s with heap:=h'}):
  wpAny (model prog w) A (pyNext (.ref it)) Q E s:=by
 have hTi:s.TypeIs (.ref it) "set_iterator":=⟨_,hit,rfl⟩
 obtain⟨o,ho,hex,hd,hf⟩:=hS;unfold pyNext
 refine wB0 (wpAny_attempt (wpAny_callSpecial?_slot (name:=Str.ofString "__next__") hTi F.slot_seti_next
  (wpAny_call_entry F.slot_seti_next hTi F.entry_seti_next ?_ (F.args_seti_next _))))
 unfold Builtin.«set_iterator.__next__» slotArgs;refine wB0 (wP0 ?_);refine wB0 (wpAny_fieldsOf hit rfl ?_);dsimp only;refine wB0 (wpAny_setEntries_of ho hd hf ?_);rw [iN (by simp [hn])];dsimp only [rawInt];refine wB0 ?_;unfold setNext setsByText;refine wB0 (wpAny_setState_of ho hd hf ?_);dsimp only;refine wB0 (wB0 (wpAny_askSetting (wP0 ?_)));dsimp only;rw [iN (show¬(model prog w).w.params.followText "set-order"=true by rw [show(model prog w).w.params.followText "set-order"=false from hb];exact xF0)];show wpAny _ _ (if(!t.plain&&decide (es.size>1))=true then _ else _) _ _ _;rw [iN (by rw [show decide (es.size>1)=false from dF0 (by omega),Bool.and_false];exact xF0)];show wpAny _ _ ((if(!t.led&& !es.isEmpty)=true then unsupported "set:maker-not-led" else pure ()) >>= _) _ _ _;rw [iN (by rw [hl];exact xF0)];refine wB0 (wP0 ?_);refine wP0 ?_;rw [toNat_natCast,he,hj];dsimp only;refine wB0 (wpAny_setField hit rfl (by simp) ?_);refine wB0 (wpAny_setField (Heap.get?_update_self _ hit rfl) rfl (by simp) ?_);refine wP0 ⟨_,rfl,wP0 (hQ _ ?_ ((Heap.SameBut.update ..).trans (Heap.SameBut.update ..)))⟩;exact Heap.get?_update_self _ (Heap.get?_update_self _ hit rfl) rfl
def zUD{it D:Addr}{i n ep sl:Nat}{es:Ak}{t:SetTable}{Q:Option Value->Shared->Prop}(hh:A.handled=none)(hb:byT w=false)(hit:jM s.heap it (rawInt (sl:Int)) i n ep D)(hS:SetAt s.heap D es ep t)(hn:es.size=n)(h1:n<=1)(hl:t.led=true)
  (he:es[SetTable.below t.place sl]? =none)
  (hQ: ∀h',Heap.ExtBut it s.heap h'->Q none {s with heap:=h'}):wpAny (model prog w) A (pyNext (.ref it)) Q E s:=by
 have hTi:s.TypeIs (.ref it) "set_iterator":=⟨_,hit,rfl⟩
 obtain⟨o,ho,hex,hd,hf⟩:=hS;unfold pyNext
 refine wB0 (wpAny_attempt (wpAny_callSpecial?_slot (name:=Str.ofString "__next__") hTi F.slot_seti_next
  (wpAny_call_entry F.slot_seti_next hTi F.entry_seti_next ?_ (F.args_seti_next _))))
 unfold Builtin.«set_iterator.__next__» slotArgs;refine wB0 (wP0 ?_);refine wB0 (wpAny_fieldsOf hit rfl ?_);dsimp only;refine wB0 (wpAny_setEntries_of ho hd hf ?_);rw [iN (by simp [hn])];dsimp only [rawInt];refine wB0 ?_;unfold setNext setsByText;refine wB0 (wpAny_setState_of ho hd hf ?_);dsimp only;refine wB0 (wB0 (wpAny_askSetting (wP0 ?_)));dsimp only;rw [iN (show¬(model prog w).w.params.followText "set-order"=true by rw [show(model prog w).w.params.followText "set-order"=false from hb];exact xF0)];show wpAny _ _ (if(!t.plain&&decide (es.size>1))=true then _ else _) _ _ _;rw [iN (by rw [show decide (es.size>1)=false from dF0 (by omega),Bool.and_false];exact xF0)];show wpAny _ _ ((if(!t.led&& !es.isEmpty)=true then unsupported "set:maker-not-led" else pure ()) >>= _) _ _ _;rw [iN (by rw [hl];exact xF0)];refine wB0 (wP0 ?_);refine wP0 ?_;rw [toNat_natCast,he];dsimp only;refine wB0 (wpAny_setField hit rfl (by simp) ?_);show wpAny _ _ (newExc (.type "StopIteration") [] >>= _) _ _ _;refine wB0 ?_;simp only [newExc,newTuple];refine wB0 (wpAny_newObj_type ?_ (by size_fits));refine wB0 (m:=firstArgMember _ _) (wpAny_of_eq (a:=Value.none) (by first |rfl|(simp only [firstArgMember];rfl)) ?_);refine wpAny_newObj_type ?_ (by size_fits);simp only [raiseNew];refine wB0 (wpAny_handled ?_);rw [show A.in1.handled=none from hh];refine wB0 (wP0 (wpAny_throw ?_));refine wB0 (wpAny_isInstance (T:="StopIteration") (b:=true) ⟨_,Heap.get?_push_size _ rfl,rfl⟩ isSubtype_stop ?_);exact wP0 (hQ _ (((Heap.SameBut.update ..).extBut.push _).push _))
end
section
variable{prog:Program}{w:World}{A:Around}{E:VP}{s:Shared}
abbrev yIN(first:Value)(n ep:Nat)(D:Addr):Obj:={cls:=.type "set_iterator",dict:=none,data:=.fields #[first,rawInt (0:Nat),.ref D,rawInt n,rawInt ep],slots:=#[]}
abbrev zJF(places:Ab):Obj:={cls:=.type "tuple",data:=.seq (places.map λk:Nat=>rawInt (k:Int)).toArray}
def zPP{D:Addr}{es:Ak}{ep:Nat}{t:SetTable}{Q:VP}(hS:SetAt s.heap D es ep t)(hnd:byT w=true\/es.size<=1)
  (hQ:Q (.ref s.heap.objs.size) {s with heap:=s.heap.push (yIN (rawInt 0) es.size ep D)}):wpAny (model prog w) A (pyIter (.ref D)) Q E s:=by
 obtain⟨o,ho,hex,hd,hf⟩:=hS;have hT:s.TypeIs (.ref D) "set":=⟨o,ho,hex.1⟩
 refine wpAny_pyIter_slot hT F.slot_set_iter (wpAny_call_entry F.slot_set_iter hT F.entry_set_iter' ?_ (F.args_set_iter_1 _));unfold Builtin.«frozenset.__iter__» Builtin.Frozenset.slot0 slotArgs;refine wB0 (wB0 (wP0 ?_));refine wP0 ?_;refine wB0 ?_;unfold Builtin.Frozenset.sizeOf;refine wB0 (wpAny_setEntries_of ho hd hf (wP0 ?_));refine wB0 (wB0 (wpAny_setState_of ho hd hf ?_));dsimp only;unfold setsByText;refine wB0 (wB0 (wpAny_askSetting (wP0 ?_)));refine wP0 ?_;dsimp only;show wpAny _ _ (if(!(model prog w).w.params.followText "set-order"&&(!t.plain&&decide (es.size>1)))=true then _ else _) _ _ _
 rw [iN (show¬(!(model prog w).w.params.followText "set-order"&&(!t.plain&&decide (es.size>1)))=true by
  rcases hnd with h|h
  ·rw [show(model prog w).w.params.followText "set-order"=true from h];exact xF0
  ·rw [show decide (es.size>1)=false from dF0 (by omega),Bool.and_false,Bool.and_false];exact xF0)]
 refine wB0 (wP0 ?_);refine wB0 (wpAny_setEpoch_of ho hd hf ?_);unfold newFields;refine wB0 (wpAny_newObj_type ?_ (by size_fits));refine wP0 ⟨_,rfl,"set_iterator",_,⟨_,Heap.get?_push_size _ rfl,rfl⟩,F.slot_seti_next.lookup,hQ⟩
def zZV{D:Addr}{es:Ak}{ep:Nat}{t:SetTable}{Q:VP}(hS:SetAt s.heap D es ep t)(hb:byT w=false)(hp:t.plain=false)(h1:1<es.size)(hz:es.size<4096)
  (hQ: ∀(places:Ab)(d':Drawn),places.Perm (List.range es.size)->Q (.ref (s.heap.objs.size+1)) {s with heap:=(s.heap.push (zJF places)).push (yIN (.ref s.heap.objs.size) es.size ep D),drawn:=d'}):wpAny (model prog w) A (pyIter (.ref D)) Q E s:=by
 obtain⟨o,ho,hex,hd,hf⟩:=hS;have hT:s.TypeIs (.ref D) "set":=⟨o,ho,hex.1⟩
 refine wpAny_pyIter_slot hT F.slot_set_iter (wpAny_call_entry F.slot_set_iter hT F.entry_set_iter' ?_ (F.args_set_iter_1 _));unfold Builtin.«frozenset.__iter__» Builtin.Frozenset.slot0 slotArgs;refine wB0 (wB0 (wP0 ?_));refine wP0 ?_;refine wB0 ?_;unfold Builtin.Frozenset.sizeOf;refine wB0 (wpAny_setEntries_of ho hd hf (wP0 ?_));refine wB0 (wB0 (wpAny_setState_of ho hd hf ?_));dsimp only;unfold setsByText;refine wB0 (wB0 (wpAny_askSetting (wP0 ?_)));refine wP0 ?_;dsimp only;show wpAny _ _ (if(!(model prog w).w.params.followText "set-order"&&(!t.plain&&decide (es.size>1)))=true then _ else _) _ _ _;rw [iP (show(!(model prog w).w.params.followText "set-order"&&(!t.plain&&decide (es.size>1)))=true by rw [show(model prog w).w.params.followText "set-order"=false from hb,hp,show decide (es.size>1)=true from dT0 h1];rfl)];refine wB0 (zPN es.size (List.range es.size) (by simp) λplaces d' hpm=>?_);have hlen:places.length=es.size:=by rw [hpm.length_eq,length_range]
 refine wB0 (wpAny_newTuple ?_ (by rw [lM,hlen,sizeLine_eq];omega));have ho':(s.heap.push (zJF places)).get? D=some o:=hP0 _ ho;refine wB0 (wpAny_setEpoch_of (s:={s with heap:=s.heap.push (zJF places),drawn:=d'}) ho' hd hf ?_);unfold newFields;refine wB0 (wpAny_newObj_type ?_ (by size_fits));have hsz:(s.heap.push (zJF places)).objs.size=s.heap.objs.size+1:=by rw [Heap.size_push]
 refine wP0 ⟨_,rfl,"set_iterator",_,⟨_,Heap.get?_push_size _ rfl,rfl⟩,F.slot_seti_next.lookup,?_⟩;have:=hQ places d' hpm;rw [<-hsz]at this;exact this
end
end M
end L2
namespace PySem.F
def slot_seti_iter:Slot "set_iterator" "__iter__" "set_iterator.__iter__":=
 .of (owner:="set_iterator") (n:="__iter__") (by rw [typeLookup_type,builtinLookup_eq_fast];kernel_rfl) (by decide+kernel) (by decide+kernel) (by decide+kernel)
  (by first |exact .inl (by decide+kernel)|exact .inr (by decide+kernel)) (by rw [isSubtype_type];kernel_rfl)
def entry_seti_iter:entryFor table "set_iterator.__iter__"=some Builtin.«dict_keyiterator.__iter__»:=entryFor_alias (id':="dict_keyiterator.__iter__") (by kernel_rfl) rfl (by decide+kernel) (by kernel_rfl)
theorem args_seti_iter(a:Value):argsOk "set_iterator.__iter__" ⟨[a],[]⟩:=by unfold argsOk;rw [signature?_of (id:="set_iterator.__iter__") (n:=['_', '_', 'r', 'e', 't', 'i', '_', '_']) (o:=['r', 'o', 't', 'a', 'r', 'e', 't', 'i', '_', 't', 'e', 's']) (by kernel_rfl) zPM];kernel_rfl
end PySem.F
namespace L2
namespace M
open PySem PySem.Spec PyProof.Rows
section
variable{prog:Program}{w:World}{A:Around}{E:VP}{s:Shared}
def zMA{it D:Addr}{first:Value}{i n ep:Nat}{Q:VP}(hit:jM s.heap it first i n ep D)(hQ:Q (.ref it) s):wpAny (model prog w) A (pyIter (.ref it)) Q E s:=by
 have hT:s.TypeIs (.ref it) "set_iterator":=⟨_,hit,rfl⟩
 refine wpAny_pyIter_slot hT F.slot_seti_iter (wpAny_call_entry F.slot_seti_iter hT F.entry_seti_iter ?_ (F.args_seti_iter _));unfold Builtin.«dict_keyiterator.__iter__» slotArgs;refine wB0 (wP0 ?_);exact wP0 ⟨_,rfl,"set_iterator",_,hT,F.slot_seti_next.lookup,hQ⟩
def SetAt.keep{h h':Heap}{D:Addr}{es:Ak}{ep:Nat}{t:SetTable}(x:SetAt h D es ep t)(m: ∀o,h.get? D=some o->h'.get? D=some o):SetAt h' D es ep t:=by obtain⟨o,ho,r⟩:=x;exact⟨o,m o ho,r⟩
def zZW(hh:A.handled=none){I D T:Addr}(hDI:D≠I)(hTI:T≠I){es:Ak}{ep:Nat}{t:SetTable}{places:Ab}(hp:places.Perm (List.range es.size)):
  Walks prog w A I [I,D,T] [I] es.size (λi v=> ∃pl e,places[i]? =some pl/\es[pl]? =some e/\v=e.2) (λi h=>jM h I (.ref T) i es.size ep D/\SetAt h D es ep t/\h.get? T=some (zJF places)) where
 sub:=λb hb=>by simp at hb;simp [hb]
 frame:=λi h h' st hk=>⟨hk I (by simp) _ st.1,st.2.1.keep λo e=>hk D (by simp) o e,hk T (by simp) _ st.2.2⟩
 item:=λi s Q E hi st hQ=>by
  have hlen:places.length=es.size:=by rw [hp.length_eq,length_range]
  have hip:i<places.length:=by rw [hlen];exact hi
  have hpl:places[i]? =some places[i]:=gE0 hip;have hlt:places[i]<es.size:=mem_range.mp (hp.mem_iff.mp (getElem_mem hip));have he:es[places[i]]? =some es[places[i]]:=Array.getElem?_eq_getElem hlt;refine zZU (x:=es[places[i]].2) (hx:=es[places[i]].1) st.1 st.2.1 rfl st.2.2 hpl he λh' hit' hs'=>?_;refine hQ _ h' s.toks ⟨_,_,hpl,he,rfl⟩ ⟨hit',st.2.1.keep λo e=>hs'.extBut D o hDI e,hs'.extBut T _ hTI st.2.2⟩ λb o hb e=>hs'.extBut b o (λz=>hb (by simp [z])) e
 done:=λs Q E st hQ=>by
  have hlen:places.length=es.size:=by rw [hp.length_eq,length_range]
  exact zPO hh st.1 st.2.1 rfl st.2.2 (getElem?_eq_none (by omega)) λh' he'=>hQ h' s.toks λb o hb e=>he' b o (λz=>hb (by simp [z])) e
 self:=λi s Q E st hQ=>zMA st.1 hQ
def yEZ(hh:A.handled=none)(hb:byT w=true){I D:Addr}(hDI:D≠I){es:Ak}{ep:Nat}{t:SetTable}:
  Walks prog w A I [I,D] [I] es.size (λi v=> ∃e,(pickOrder (w.params.setOrder D ep) es)[i]? =some e/\v=e.2) (λi h=>jM h I (rawInt 0) i es.size ep D/\SetAt h D es ep t) where
 sub:=λb hb=>by simp at hb;simp [hb]
 frame:=λi h h' st hk=>⟨hk I (by simp) _ st.1,st.2.keep λo e=>hk D (by simp) o e⟩
 item:=λi s Q E hi st hQ=>by
  have hlen:(pickOrder (w.params.setOrder D ep) es).size=es.size:=by rw [<-Array.length_toList,(zJE _ es).length_eq,Array.length_toList]
  have he:(pickOrder (w.params.setOrder D ep) es)[i]? =some ((pickOrder (w.params.setOrder D ep) es)[i]'(by omega)):=Array.getElem?_eq_getElem _;refine yEY (x:=((pickOrder (w.params.setOrder D ep) es)[i]'(by omega)).2) (hx:=((pickOrder (w.params.setOrder D ep) es)[i]'(by omega)).1) hb st.1 st.2 rfl he λh' hit' hs'=>?_;refine hQ _ h' s.toks ⟨_,he,rfl⟩ ⟨hit',st.2.keep λo e=>hs'.extBut D o hDI e⟩ λb o hb e=>hs'.extBut b o (λz=>hb (by simp [z])) e
 done:=λs Q E st hQ=>by
  have hlen:(pickOrder (w.params.setOrder D ep) es).size=es.size:=by rw [<-Array.length_toList,(zJE _ es).length_eq,Array.length_toList]
  exact zQX hh hb st.1 st.2 rfl (Array.getElem?_eq_none (by omega)) λh' he'=>hQ h' s.toks λb o hb e=>he' b o (λz=>hb (by simp [z])) e
 self:=λi s Q E st hQ=>zMA st.1 hQ
theorem zSP(j k:Nat):SetTable.below #[j] k=if j<k then 1 else 0:=by unfold SetTable.below;show SetTable.below.go #[j] k 1 0 1=_;unfold SetTable.below.go;rw [iP (by decide)];show(if(#[j]:Array Nat).getD ((0+1) / 2) k<k then SetTable.below.go #[j] k 0 ((0+1) / 2+1) 1 else SetTable.below.go #[j] k 0 0 ((0+1) / 2))=_;show(if j<k then 1 else 0)=_;rfl
def zPQ{t:SetTable}{n:Nat}(h:t.fits n=true):t.place.size=n:=by simp only [SetTable.fits,aE,beq_iff_eq,decide_eq_true_eq]at h;exact h.1
def yIO(hh:A.handled=none)(hb:byT w=false){I D:Addr}(hDI:D≠I){es:Ak}{ep:Nat}{t:SetTable}(h1:es.size<=1)(hl:t.led=true)(hfit:t.fits es.size=true):
  Walks prog w A I [I,D] [I] es.size (λi v=> ∃e,es[i]? =some e/\v=e.2) (λi h=>(∃sl:Nat,jM h I (rawInt (sl:Int)) i es.size ep D/\SetTable.below t.place sl=i)/\SetAt h D es ep t) where
 sub:=λb hb=>by simp at hb;simp [hb]
 frame:=λi h h' st hk=>⟨by obtain⟨sl,h1,h2⟩:=st.1;exact⟨sl,hk I (by simp) _ h1,h2⟩,st.2.keep λo e=>hk D (by simp) o e⟩
 item:=λi s Q E hi st hQ=>by
  obtain⟨⟨sl,hit,hbl⟩,hS⟩:=st;have hi0:i=0:=by omega
  subst hi0;have hps:=zPQ hfit;have hp1:t.place.size=1:=by omega
  obtain⟨j,hj⟩: ∃j,t.place=#[j]:=by
   refine⟨t.place[0],?_⟩;apply Array.ext
   ·simp [hp1]
   ·intro i h1 h2;have:i=0:=by simp at h2;omega
    subst this;rfl
  have he:es[0]? =some es[0]:=Array.getElem?_eq_getElem hi;refine yIM (x:=es[0].2) (hx:=es[0].1) (j:=j) hb hit hS rfl h1 hl (by rw [hbl];exact he) (by rw [hbl,hj];rfl) λh' hit' hs'=>?_;refine hQ _ h' s.toks ⟨_,he,rfl⟩ ⟨⟨j+1,hit',by rw [hj,zSP,iP (lt_succ_self j)]⟩,hS.keep λo e=>hs'.extBut D o hDI e⟩ λb o hb e=>hs'.extBut b o (λz=>hb (by simp [z])) e
 done:=λs Q E st hQ=>by obtain⟨⟨sl,hit,hbl⟩,hS⟩:=st;exact zUD hh hb hit hS rfl h1 hl (by rw [hbl];exact Array.getElem?_eq_none (le_refl _)) λh' he'=>hQ h' s.toks λb o hb e=>he' b o (λz=>hb (by simp [z])) e
 self:=λi s Q E st hQ=>by obtain⟨⟨sl,hit,hbl⟩,hS⟩:=st;exact zMA hit hQ
end
section
variable{prog:Program}{w:World}{A:Around}{E:VP}{s:Shared}
def yIP{r:Addr}{Q:Bool->Shared->Prop}(hT:s.TypeIs (.ref r) "set")(h:Q false s):wpAny (model prog w) A (Builtin.List.listLengthHint (.ref r)) Q E s:=by
 unfold Builtin.List.listLengthHint;refine wB0 (wpAny_specialOf hT PySem.F.slot_set_len.lookup ?_);generalize hid:("set.__len__":String)=id0
 wp_delta
 rw [show splitId id0=some ("set","__len__")from by subst hid;decide+kernel];subst hid;refine wB0 (wpAny_isInstance (T:="set") (b:=true) hT (by rw [isSubtype_type];kernel_rfl) ?_);refine wpAny_ite_split (λhab=>absurd hab (by decide)) (λ_=>?_);refine wpAny_ite_split (λ_=>?_) (λhab=>absurd (by decide+kernel) hab);refine wB0 (wpAny_typeOf hT ?_);exact wP0 h
def zZX{P:Nat->Value->Prop}{acc:Ag}{n:Nat}{l:Ae}(h:ItemsOf P acc n)(hl:l.length=n)(hP: ∀i v,P i v->l[i]? =some v):acc.toList=l:=by
 refine ext_getElem? λi=>?_;by_cases hi:i<acc.size
 ·have e:acc[i]? =some acc[i]:=Array.getElem?_eq_getElem hi;have:=hP i _ (h.2 i _ e);rw [this,Array.getElem?_toList,e]
 ·have h1:=h.1;rw [getElem?_eq_none (by rw [Array.length_toList];omega),getElem?_eq_none (by omega)]
abbrev Pack(prog:Program)(w:World)(A:Around)(r:Addr)(s:Shared)(S:Addr)(n:Nat)(G:Array Value->Prop):Prop:=
 ∀(E:VP)(Q:VP),(∀(h':Heap)(d':Drawn)(I:Addr)(fp wr:Ah)(P:Nat->Value->Prop)(St:Nat->Heap->Prop),Walks prog w A I fp wr n P St->St 0 h'->S∉fp->(∀b∈wr,s.heap.objs.size<=b)->(∀b o,s.heap.get? b=some o->h'.get? b=some o)->(∀acc,ItemsOf P acc n->G acc)->Q (.ref I) {s with heap:=h',drawn:=d'})->wpAny (model prog w) A (pyIter (.ref r)) Q E s
def yIQ(hh:A.handled=none){D S:Addr}{es:Ak}{ep:Nat}{t:SetTable}(hS:SetAt s.heap D es ep t)(hl:t.led= !byT w)(hp:es.size=0\/t.plain=false)(hz:es.size<4096)(hSD:S≠D)(hSl:S<s.heap.objs.size):
  Pack prog w A D s S es.size (λacc=>acc.toList.Perm (es.toList.map (·.2))):=by
 intro E Q hQ;have hDl:D<s.heap.objs.size:=by obtain⟨o,ho,_⟩:=hS;exact Heap.lt_size ho
 obtain⟨hfit⟩:Nonempty (t.fits es.size=true):=by obtain⟨o,_,_,_,hf⟩:=hS;exact⟨hf⟩
 cases hb:byT w with
 |true=>
  refine zPP hS (.inl hb) (hQ _ s.drawn _ _ _ _ _ (yEZ hh hb (I:=s.heap.objs.size) (ne_of_lt hDl) (es:=es) (ep:=ep) (t:=t)) ⟨Heap.get?_push_size _ rfl,hS.keep λo e=>hP0 _ e⟩ ?_ ?_ (λb o e=>hP0 _ e) λacc hacc=>?_)
  ·simp only [mC,nM0,or_false,not_or];exact⟨ne_of_lt hSl,hSD⟩
  ·intro b hb;rw [mS.mp hb];exact le_refl _
  ·have hlen:(pickOrder (w.params.setOrder D ep) es).toList.length=es.size:=by rw [(zJE _ es).length_eq,Array.length_toList]
   show acc.toList.Perm _;rw [zZX (l:=(pickOrder (w.params.setOrder D ep) es).toList.map (·.2)) hacc (by rw [lM,hlen]) λi v ⟨e,h1,h2⟩=>by rw [getElem?_map,Array.getElem?_toList,h1,h2];rfl];exact(zJE _ es).map _
 |false=>
  rw [hb]at hl;by_cases h1:es.size<=1
  ·refine zPP hS (.inr h1) (hQ _ s.drawn _ _ _ _ _ (yIO hh hb (I:=s.heap.objs.size) (ne_of_lt hDl) (es:=es) (ep:=ep) (t:=t) h1 hl hfit) ⟨⟨0,Heap.get?_push_size _ rfl,?_⟩,hS.keep λo e=>hP0 _ e⟩ ?_ ?_ (λb o e=>hP0 _ e) λacc hacc=>?_)
   ·have hps:=zPQ hfit
    have hbl:SetTable.below t.place 0=0:=by
     rcases Nat.lt_or_ge t.place.size 1 with h|h
     ·have:t.place=#[]:=by apply Array.eq_empty_of_size_eq_zero;omega
      rw [this];rfl
     ·obtain⟨j,hj⟩: ∃j,t.place=#[j]:=by
       refine⟨t.place[0],?_⟩;apply Array.ext
       ·simp;omega
       ·intro i h1 h2;have:i=0:=by simp at h2;omega
        subst this;rfl
      rw [hj,zSP,iN (by omega)]
    exact hbl
   ·simp only [mC,nM0,or_false,not_or];exact⟨ne_of_lt hSl,hSD⟩
   ·intro b hb;rw [mS.mp hb];exact le_refl _
   ·show acc.toList.Perm _;rw [zZX (l:=es.toList.map (·.2)) hacc (by simp) λi v ⟨e,h1,h2⟩=>by rw [getElem?_map,Array.getElem?_toList,h1,h2];rfl]
  ·refine zZV hS hb (hp.resolve_left (by omega)) (by omega) hz λplaces d' hpm=>?_;have hT1:(s.heap.push (zJF places)).objs.size=s.heap.objs.size+1:=by rw [Heap.size_push]
   have hlen:places.length=es.size:=by rw [hpm.length_eq,length_range]
   refine hQ _ d' _ _ _ _ _ (zZW hh (I:=s.heap.objs.size+1) (D:=D) (T:=s.heap.objs.size) (ne_of_lt (lt_succ_of_lt hDl)) (ne_of_lt (lt_succ_self _)) (es:=es) (ep:=ep) (t:=t) hpm) ⟨?_,hS.keep λo e=>hP0 _ (hP0 _ e),hP0 _ (Heap.get?_push_size _ rfl)⟩ ?_ ?_ (λb o e=>hP0 _ (hP0 _ e)) λacc hacc=>?_
   ·rw [<-hT1];exact Heap.get?_push_size _ rfl
   ·simp only [mC,nM0,or_false,not_or];exact⟨ne_of_lt (lt_succ_of_lt hSl),hSD,ne_of_lt hSl⟩
   ·intro b hb;rw [mS.mp hb];exact le_succ _
   ·show acc.toList.Perm _;rw [zZX (l:=places.map λpl=>((es[pl]?).getD (0,.none)).2) hacc (by rw [lM,hlen]) λi v ⟨pl,e,h1,h2,h3⟩=>by rw [getElem?_map,h1,h3];show some ((es[pl]?).getD (0,.none)).2=_;rw [h2];rfl];refine(hpm.map _).trans ?_
    have:(List.range es.size).map (λpl=>((es[pl]?).getD (0,.none)).2)=es.toList.map (·.2):=by
     refine ext_getElem? λi=>?_;by_cases hi:i<es.size
     ·rw [getElem?_map,List.getElem?_range hi,getElem?_map,Array.getElem?_toList,Array.getElem?_eq_getElem hi];show some ((es[i]?).getD (0,.none)).2=_;rw [Array.getElem?_eq_getElem hi];rfl
     ·rw [getElem?_eq_none (by simp;omega),getElem?_eq_none (by simp;omega)]
    rw [this]
end
section
variable{prog:Program}{w:World}{A:Around}{E:VP}{s:Shared}
def zZY{R:Result->Shared->Prop}{r S:Addr}{n:Nat}{G:Array Value->Prop}(hpk:Pack prog w A.in1 r s S n G)(hT:s.TypeIs (.ref r) "set")(hSr:S≠r)(res:Value)(c₀:Nat)(hS:s.heap.get? S=some {cls:=.type "list",data:=.seq #[] c₀})(hn:n<=sizeLine)
  (hR: ∀h' tk d' acc' c',(∀b o,b≠S->s.heap.get? b=some o->h'.get? b=some o)->h'.get? S=some {cls:=.type "list",dict:=none,data:=.seq acc' c',slots:=#[]}->G acc'->R (.ok (.ret res)) {s with heap:=h',toks:=tk,drawn:=d'}):
  wpAny (model prog w) A.in1 (Builtin.List.listExtendWith (.ref S) (.ref r) res)
   (λfin s'=>match fin with |.done f=>R (.ok f) s'|.again c'=>c'.quiet=true/\codeAny (model prog w) A c' R s') (λe s'=>R (.error e) s') s:=by
 unfold Builtin.List.listExtendWith;refine wB0 (wpAny_typeOf (T:="set") hT ?_);have h1:Builtin.List.listSameRef (.ref S) (.ref r)=false:=by simp [Builtin.List.listSameRef,hSr]
 have h2:(Value.type "set"==Value.type "list")=false:=by decide
 have h3:(Value.type "set"==Value.type "tuple")=false:=by decide
 simp only [h1,h2,h3,Bool.or_false,fT,iF];refine wB0 (hpk _ _ λh₀ d₀ I fp wr P St W st hSf hwr hk₀ hG=>?_)
 have key: ∀(h:Heap)(c₁ tk:Nat),St 0 h->(∀b o,b≠S->s.heap.get? b=some o->h.get? b=some o)->
   h.get? S=some {cls:=.type "list",data:=.seq #[] c₁}->codeAny (model prog w) A (.builtin "list.extend.loop" ⟨[.ref S,.ref I,res],[]⟩) R {s with heap:=h,toks:=tk,drawn:=d₀}:=by
  intro h c₁ tk hst hk hS₁;refine codeAny_extend_loopS W.toS hn S hSf res n 0 _ #[] c₁ rfl (zero_le _) hst hS₁ (ItemsOf.nil _) λs' acc' c' hm hS' hacc=>?_;rw [Moved.eq_with hm];refine hR s'.heap s'.toks d₀ acc' c' (λb o hb e=>hm.heap b o (λhmem=>?_) (hk b o hb e)) hS' (hG _ hacc);rcases mC.mp hmem with e'|hmem
  ·exact hb e'
  ·exact absurd (Heap.lt_size e) (not_lt.mpr (hwr b hmem))
 have hS₁:=hk₀ S _ hS;have hT₁:Shared.TypeIs {s with heap:=h₀,drawn:=d₀} (.ref r) "set":=by obtain⟨o,ho,hc⟩:=hT;exact⟨o,hk₀ r o ho,hc⟩
 refine wB0 (wpAny_holding (yIP hT₁ ?_));refine wpAny_ite_split (λ_=>?_) (λ_=>wP0 ⟨plainId_quiet PySem.F.plain_extend_loop _,key _ c₀ _ st (λb o _ e=>hk₀ b o e) hS₁⟩);refine wB0 (wpAny_rule ?_);refine wB0 ?_;show wpAny _ _ (updateSeq S (·.push .none) >>= λ_=>updateSeq S (·.pop)) _ _ _;refine wB0 (wpAny_updateSeq hS₁ rfl ?_);have hS₂:=Heap.get?_update_self (Obj.mapSeq (·.push Value.none)) hS₁ rfl;refine wpAny_updateSeq (hz:=by seq_fits) hS₂ rfl ?_;have hS₃:=Heap.get?_update_self (Obj.mapSeq (·.pop)) hS₂ rfl;refine wP0 ⟨plainId_quiet PySem.F.plain_extend_loop _,key _ _ _ ?_ (λb o hb e=>?_) hS₃⟩
 ·refine W.frame 0 _ _ st λb hb o e=>?_;have hbS:b≠S:=λh=>hSf (h▸hb);exact(Heap.get?_update_other _ _ (Ne.symm hbS)).trans ((Heap.get?_update_other _ _ (Ne.symm hbS)).trans e)
 ·exact(Heap.get?_update_other _ _ (Ne.symm hb)).trans ((Heap.get?_update_other _ _ (Ne.symm hb)).trans (hk₀ b o e))
def zWR{R:List Value->Shared->Prop}(hh:A.handled=none){D:Addr}{es:Ak}{ep:Nat}{t:SetTable}(hS:SetAt s.heap D es ep t)(hl:t.led= !byT w)(hp:es.size=0\/t.plain=false)(hz:es.size<4096)
  (h: ∀(h':Heap)(tk:Nat)(d':Drawn)(acc:Ag),(∀b o,s.heap.get? b=some o->h'.get? b=some o)->acc.toList.Perm (es.toList.map (·.2))->R acc.toList {s with heap:=h',toks:=tk,drawn:=d'}):
  wpAny (model prog w) A (collect (.ref D)) R E s:=by
 have hDl:D<s.heap.objs.size:=by obtain⟨o,ho,_⟩:=hS;exact Heap.lt_size ho
 have hSn:=hS.keep (h':=s.heap.push {cls:=.type "list",data:=.seq ([]:Ae).toArray}) λo e=>hP0 _ e;have hT:Shared.TypeIs {s with heap:=s.heap.push {cls:=.type "list",data:=.seq ([]:Ae).toArray}} (.ref D) "set":=by obtain⟨o,ho,hex,_⟩:=hSn;exact⟨o,ho,hex.1⟩
 unfold collect;refine wB0 (wpAny_runValue (codeAny_builtin entry_proto_collect' ?_));rw [Around.under_plainId PySem.F.plain_proto_collect _];show wpAny _ A.in1 (newList [] >>= λl=>again (.builtin "list.__iadd__" ⟨[l,.ref D],[]⟩)) _ _ s;refine wB0 (wpAny_newObj_type ?_);refine wP0 ⟨plainId_quiet PySem.F.plain_list_iadd _,codeAny_builtin entry_list_iadd' ?_⟩;rw [Around.under_plainId PySem.F.plain_list_iadd _];have hS₁:(s.heap.push {cls:=.type "list",data:=.seq ([]:Ae).toArray}).get? s.heap.objs.size=some {cls:=.type "list",data:=.seq #[]}:=Heap.get?_push_size _ rfl;show wpAny _ A.in1 (Builtin.List.listExtendWith (.ref s.heap.objs.size) (.ref D) (.ref s.heap.objs.size)) _ _ _
 have key:=zZY (prog:=prog) (w:=w) (A:=A) (s:={s with heap:=s.heap.push {cls:=.type "list",data:=.seq ([]:Ae).toArray}})
  (R:=λ(q:Result) (s':Shared)=> ∃(h':Heap)(tk:Nat)(d':Drawn)(acc':Ag)(c':Nat),q=.ok (.ret (.ref s.heap.objs.size))/\s'={s with heap:=h',toks:=tk,drawn:=d'}/\
   (∀b o,s.heap.get? b=some o->h'.get? b=some o)/\h'.get? s.heap.objs.size=some {cls:=.type "list",dict:=none,data:=.seq acc' c',slots:=#[]}/\acc'.toList.Perm (es.toList.map (·.2)))
  (yIQ (prog:=prog) (w:=w) (A:=A.in1) (s:={s with heap:=s.heap.push {cls:=.type "list",data:=.seq ([]:Ae).toArray}}) (S:=s.heap.objs.size) hh hSn hl hp hz (ne_of_gt hDl) (by show s.heap.objs.size<(s.heap.push _).objs.size;rw [Heap.size_push];exact lt_succ_self _)) hT (ne_of_gt hDl) (.ref s.heap.objs.size) 0 hS₁ (by rw [sizeLine_eq];omega)
  (λh' tk d' acc' c' hk hS' hacc=>⟨h',tk,d',acc',c',rfl,rfl,λb o e=>hk b o (ne_of_lt (Heap.lt_size e)) (hP0 _ e),hS',hacc⟩)
 refine wpAny_mono key (λfin s' x=>?_) λe s' x=>?_
 ·cases fin with
  |done f=>
   obtain⟨h',tk,d',acc',c',e,rfl,hk,hS',hacc⟩:=x;cases e;show wpAny _ A (load s.heap.objs.size >>= _) _ _ _;refine wB0 (wpAny_load hS' ?_);exact wP0 (h h' tk d' acc' hk hacc)
  |again c₁=>
   refine⟨x.1,codeAny_mono x.2 λq s₂ y=>?_⟩;obtain⟨h',tk,d',acc',c',rfl,rfl,hk,hS',hacc⟩:=y;show wpAny _ A (load s.heap.objs.size >>= _) _ _ _;refine wB0 (wpAny_load hS' ?_);exact wP0 (h h' tk d' acc' hk hacc)
 ·obtain⟨h',tk,d',acc',c',e,_⟩:=x;cases e
end
def yFA{l l':Ae}(p:l.Perm l'): ∀{ss:Ai},StrsAre l' ss-> ∃ss2,StrsAre l ss2/\ss2.Perm ss:=by
 induction p with
 |nil=>intro ss h;exact⟨ss,h,.refl _⟩
 |cons x p ih=>
  intro ss h
  cases h with
  |cons y t h=>
   obtain⟨ss2,h1,h2⟩:=ih h;exact⟨y::ss2,.cons y t h1,h2.cons y⟩
 |swap x y l=>
  intro ss h
  cases h with
  |cons a t h=>
   cases h with
   |cons b u h=>exact⟨b::a::_,.cons b u (.cons a t h),.swap _ _ _⟩
 |trans p q ih1 ih2=>
  intro ss h;obtain⟨s2,h1,h2⟩:=ih2 h;obtain⟨s3,h3,h4⟩:=ih1 h1;exact⟨s3,h3,h4.trans h2⟩
section
variable{prog:Program}{w:World}{A:Around}{E:VP}{s:Shared}
def zWS{Q:VP}(hh:A.handled=none){D:Addr}{es:Ak}{ep:Nat}{t:SetTable}(hS:SetAt s.heap D es ep t)(hl:t.led= !byT w)(hp:es.size=0\/t.plain=false)(hn:es.size<64){ss:Ai}(hI:StrsAre (es.toList.map (·.2)) ss)
  (h: ∀(h':Heap)(tk:Nat)(d':Drawn)(out:Ag)(ss':Ai),(∀b o,s.heap.get? b=some o->h'.get? b=some o)->StrsAre out.toList ss'->ss'.Perm ss->sortedS ss'=true-> ∀(vs:Ae),Q (.ref h'.objs.size) {s with heap:=sortedHeap (h'.push (seqObj "list" vs.toArray 0)) h'.objs.size vs out,toks:=tk,drawn:=d'}):
  wpAny (model prog w) A (call (.builtin "sorted") [.ref D]) Q E s:=by
 refine Calls.call_function_entry kind_sorted plain_sorted entry_sorted (args_sorted1 _) ?_;unfold Builtin.«sorted»;refine wB0 (m:=checkCount "sorted" 1 1 _) (wP0 ?_);refine wB0 (zWR (A:=A.in1) hh hS hl hp (by omega) λh' tk d' acc hk hacc=>?_);have hlen:acc.toList.length=es.size:=by rw [hacc.length_eq,lM,Array.length_toList]
 refine wB0 (wpAny_newList ?_ (by rw [hlen,sizeLine_eq];omega));have hoL:(h'.push (seqObj "list" acc.toList.toArray 0)).get? h'.objs.size=some (seqObj "list" acc.toList.toArray 0):=Heap.get?_push_size _ rfl;show wpAny _ _ _ _ _ {s with heap:=h'.push (seqObj "list" acc.toList.toArray 0),toks:=tk,drawn:=d'};obtain⟨ss2,hS2,hp2⟩:=yFA hacc hI;refine wB0 (wpAny_holding (wpAny_call_entry slot_list_sort ⟨_,hoL,rfl⟩ entry_list_sort (list_sort_treeK strKind_oneLt hoL hS2.keysOf (λv₁ v₂ rest e=>keyKind_strs (by rw [<-e];exact hS2)) (by rw [hlen];exact hn) λst' hp hs=>⟨_,rfl,?_⟩) (args_list_sort _)));obtain⟨ss',h1,h2,h3⟩:=sorted_out_str hS2 hp hs;refine wP0 ⟨_,rfl,h h' tk d' _ ss' hk h1 (h2.trans hp2) h3 acc.toList⟩
end
end M
end L2
namespace L2
open PySem PySem.Spec PyProof.Rows
variable{X:Cx}{pins:Ba}{σ:St}{H H':Hp}{s:Shared}{h':Heap}
def Inv.unD{t':Nat}{d':Drawn}(I:Inv X pins σ H s)(u:Un X.fs [] H H' s.heap h')(hok:HOk X.prog X.w H' h'):Inv X pins σ H' {s with heap:=h',toks:=t',drawn:=d'}:=by obtain⟨m,⟨o,es,ep,ho,r⟩,_⟩:=id I.loc;obtain⟨sl,hL⟩:=u.any ho I.free (by simp);exact I.step (g':=s.gens) (d':=d') (ch:=[]) (λ_ z=>nomatch z) (λb o _ hb _ e n=>u.keep b o e n hb (by simp)) (λb o _ hb _ e n=>u.slot b o e n hb (by simp)) (λb o _ e n=>u.free b o e n (by simp)) (λb o _ e=>u.there b o e (by simp)) u.tups u.frzs u.tbls (λm hm=>by obtain⟨o',es',ep',ho',r'⟩:=hm;rw [ho]at ho';cases ho';exact⟨_,es',ep',hL,r'⟩) hok I.bare
def Inv.keptD{t':Nat}{d':Drawn}(I:Inv X pins σ H s)(k: ∀b u,s.heap.get? b=some u->h'.get? b=some u):Inv X pins σ H {s with heap:=h',toks:=t',drawn:=d'}:=I.unD (Un.kept k) (I.hok.kept k)
namespace M
section
variable{X:Cx}{W:XW}{e:Expr}{af:Rho->Sto->R (List Er)}{p1 p2 pos1 pos2:Pos}
def gG(ys:Aa):List (List Nat):=ys.foldl (λacc x=>if x∈acc then acc else acc++[x]) []
theorem zWT{ys:Aa}: ∀i,i<=ys.length->zDO (zQV ys) i=(gG (ys.take i)).map λx=>(.inr (mkS x):Key)
 |0,_=>rfl
 |i+1,hi=>by
  have hl:i<ys.length:=hi;have hv:zQV ys i=.inr (mkS ys[i]):=by unfold zQV;rw [getD_eq_getElem?_getD,gE0 hl];rfl
  have ht:gG (ys.take (i+1))=if ys[i]∈gG (ys.take i)then gG (ys.take i)else gG (ys.take i)++[ys[i]]:=by unfold gG;rw [List.take_add_one,gE0 hl,List.foldl_append];rfl
  have hin:inK (.inr (mkS ys[i])) ((gG (ys.take i)).map λx=>(.inr (mkS x):Key))=true↔ys[i]∈gG (ys.take i):=by
   unfold inK;rw [any_eq_true];constructor
   ·rintro⟨y,hy,e⟩;obtain⟨x,hx,rfl⟩:=mM.mp hy;have e:=of_decide_eq_true e;injection e with e
    rw [<-zIT e];exact hx
   ·exact λh=>⟨_,mM.mpr ⟨_,h,rfl⟩,dT0 rfl⟩
  rw [zJA,zWT i (le_of_lt hl),hv,ht];by_cases h:ys[i]∈gG (ys.take i)
  ·rw [iP (hin.mpr h),iP h]
  ·rw [iN λz=>h (hin.mp z),iN h,map_append];rfl
def setT(P:Program)(w:World)(l:Addr)(ys:Aa):HO:=.ext λh=>KSetT P w h l (zQV ys) ys.length
theorem zWU: ∀{ys:Aa}{us:Ae},Vals (ys.map λx=>V.str (mkS x)) us->us.length=ys.length/\ ∀(i:Nat)(v:Value),us[i]? =some v->StrT (zQV ys) i v
 |[],us,r=>by cases r;exact⟨rfl,λi v h=>by simp at h⟩
 |y::ys,us,r=>by
  rw [map_cons]at r
  cases r with
  |cons r1 r2=>
   obtain⟨t,rfl⟩:=r1;obtain⟨h1,h2⟩:=zWU r2;refine⟨by rw [lC,lC,h1],λi v h=>?_⟩
   cases i with
   |zero=>
    simp at h;exact⟨mkS y,t,rfl,h.symm⟩
   |succ i=>exact h2 i v (by simpa using h)
def yFB:CallR X (.type "set") (λxs H Q=> ∃a ys,xs=[.ref a]/\SqL X.K H a (ys.map λx=>V.str (mkS x))/\ys.length<64/\X.calm=true/\ ∀l,H l=none->Q (.ref l) (upd H l (setT X.prog X.w l ys))):=by
 intro pins s σ H xs us Q I r h;obtain⟨a,ys,rfl,hq,hn,hc,q⟩:=h;obtain⟨u,rfl,rx⟩:=vals1 r;cases rx;have fin: ∀(h':Heap)(tk:Nat)(n:Nat),n=ys.length->KSetT X.prog X.w h' s.heap.objs.size (zQV ys) n->(∀b o,s.heap.get? b=some o->h'.get? b=some o)->EP X pins σ Q (.ref s.heap.objs.size) {s with heap:=h',toks:=tk}:=by intro h' tk n en hs kp;subst en;refine⟨.ref s.heap.objs.size,_,I.laid (o:=setT X.prog X.w s.heap.objs.size ys) (t':=tk) kp (le_refl _) ⟨hs,?_,λh1 h2 z mv=>z.move mv⟩,rfl,q _ (I.hok.fresh (le_refl _))⟩;obtain⟨o,_,_,_,ho,_⟩:=hs;exact⟨o,ho⟩
 obtain⟨its,rv,p,hz⟩:=I.list hq;obtain⟨e1,e2⟩:=zWU rv;have sz:its.toArray.size=ys.length:=by rw [sA];exact e1
 exact zPL (val:=zQV ys) (I.ok.hd hc) p.isList (λi v h=>e2 i v (by simpa using h)) (by rw [sz];unfold scanBound;omega) λh' tk hs kp=>fin h' tk _ sz hs kp
theorem zPR: ∀(l:Ae),(∀v∈l, ∃x t,v=.str x t)-> ∃ss:List Str,StrsAre l ss/\ ∀y,y∈ss↔ ∃t,Value.str y t∈l
 |[],_=>⟨[],.nil,λy=>⟨λh=>by simp at h,λ⟨t,h⟩=>by simp at h⟩⟩
 |v::l,h=>by
  obtain⟨x,t,rfl⟩:=h v mF0;obtain⟨ss,h1,h2⟩:=zPR l λu hu=>h u (mO _ hu);refine⟨x::ss,.cons x t h1,λy=>?_⟩;rw [mC,h2];constructor
  ·rintro(rfl|⟨u,hu⟩)
   ·exact⟨t,mF0⟩
   ·exact⟨u,mO _ hu⟩
  ·rintro⟨u,hu⟩;rcases mC.mp hu with e|hu
   ·cases e;exact .inl rfl
   ·exact .inr ⟨u,hu⟩
theorem yBU{prog:Program}{w:World}: ∀{l:Ae}{ss:Ai},StrsAre l ss->l.Pairwise (λx y=> ∀k,(yP prog w).is k x=true-> ¬(yP prog w).is k y=true)->ss.Nodup
 |_,_,.nil,_=>nodup_nil
 |_,_,.cons y t (vs:=vs) (ys:=ys) h,hp=>by
  rw [pairwise_cons]at hp;rw [nodup_cons];refine⟨λhm=>?_,yBU h hp.2⟩
  have: ∀{l:Ae}{ss:Ai},StrsAre l ss->y∈ss-> ∃t,Value.str y t∈l:=by
   intro l ss h
   induction h with
   |nil=>intro z;simp at z
   |cons z u h ih=>
    intro hz;rcases mC.mp hz with rfl|hz
    ·exact⟨u,mF0⟩
    ·obtain⟨t,ht⟩:=ih hz;exact⟨t,mO _ ht⟩
  obtain⟨t2,ht⟩:=this h hm;exact hp.1 _ ht (.inr y) (nZ prog w y t) (nZ prog w y t2)
end
theorem zNV: ∀(ys acc:Aa),acc.Nodup->(ys.foldl (λacc x=>if x∈acc then acc else acc++[x]) acc).Nodup/\ ∀x,x∈ys.foldl (λacc x=>if x∈acc then acc else acc++[x]) acc↔x∈acc\/x∈ys
 |[],acc,h=>⟨h,λx=>by simp⟩
 |y::ys,acc,h=>by
  rw [foldl_cons];by_cases hy:y∈acc
  ·rw [iP hy];obtain⟨h1,h2⟩:=zNV ys acc h;refine⟨h1,λx=>?_⟩;rw [h2,mC];exact⟨λz=>z.elim .inl λz=>.inr (.inr z),λz=>z.elim .inl λz=>z.elim (λe=>.inl (e▸hy)) .inr⟩
  ·rw [iN hy];obtain⟨h1,h2⟩:=zNV ys (acc++[y]) (nodup_append.mpr ⟨h,by simp,λa ha b hb=>by rw [mS.mp hb];rintro rfl;exact hy ha⟩);refine⟨h1,λx=>?_⟩;rw [h2,mem_append,mS,mC,or_assoc]
def zUE(ys:Aa):(gG ys).Nodup:=(zNV ys [] nodup_nil).1
def zFG(ys:Aa)(x:Ab):x∈gG ys↔x∈ys:=by have:=(zNV ys [] nodup_nil).2 x;unfold gG;rw [this];simp
section
variable{X:Cx}{W:XW}{e:Expr}{af:Rho->Sto->R (List Er)}{p1 p2 pos1 pos2:Pos}
def zWV:CallR X (.builtin "sorted") (λxs H Q=> ∃l ys,xs=[.ref l]/\ys.length<64/\H l=some (setT X.prog X.w l ys)/\X.calm=true/\ ∀p,H p=none->Q (.ref p) (upd H p (.lst ((jT (gG ys)).map λz=>V.str (mkS z))))):=by
 intro pins s σ H xs us Q I r h;obtain⟨l,ys,rfl,hn,hl,hc,q⟩:=h;obtain⟨u,rfl,rx⟩:=vals1 r;cases rx;obtain⟨hs,_⟩:=(show ObjOk X.prog X.w H s.heap l (setT X.prog X.w l ys)from I.hok l _ hl)
 obtain⟨o,es,ep,t,ho,hex,hd,hel,hmem,hb,hf,hz,hled,hpl,hw⟩:=hs;have hmk:zDO (zQV ys) ys.length=(gG ys).map λx=>(.inr (mkS x):Key):=by have:=zWT (ys:=ys) ys.length (le_refl _);rw [take_length]at this;exact this
 have hinK: ∀k,inK k (zDO (zQV ys) ys.length)=true↔ ∃x∈ys,k=.inr (mkS x):=λk=>by
  rw [hmk];unfold inK;rw [any_eq_true];constructor
  ·rintro⟨y,hy,e⟩;obtain⟨x,hx,rfl⟩:=mM.mp hy;exact⟨x,(zFG ys x).mp hx,(of_decide_eq_true e).symm⟩
  ·rintro⟨x,hx,rfl⟩;exact⟨_,mM.mpr ⟨x,(zFG ys x).mpr hx,rfl⟩,dT0 rfl⟩
 have hsz:es.size<=ys.length:=by rw [hz];exact zNT _ _
 obtain⟨ss,hss,hsm⟩:=zPR (es.toList.map (·.2)) λv hv=>by
  obtain⟨e',he,rfl⟩:=mM.mp hv;obtain⟨⟨k,hk,_⟩,_⟩:=hel e' he;obtain⟨x,_,rfl⟩:=(hinK k).mp ((hmem k).mpr ⟨e',he,hk⟩);rcases yR (show zMQ (.inr (mkS x)) e'.2=true from hk)with⟨i,t,e1,_⟩|⟨y,t,_,e2⟩
  ·cases e1
  ·exact⟨y,t,e2⟩
 have hnd:ss.Nodup:=yBU hss hw
 have hperm:ss.Perm ((gG ys).map mkS):=by
  refine(List.perm_ext_iff_of_nodup hnd ?_).mpr λy=>?_
  ·unfold List.Nodup;rw [pairwise_map];exact(zUE ys).imp λh e=>h (zIT e)
  ·rw [hsm,mM];constructor
   ·rintro⟨t',ht⟩;obtain⟨e',he,e1⟩:=mM.mp ht;have hk:(yP X.prog X.w).is (.inr y) e'.2=true:=by rw [e1];exact nZ X.prog X.w y t'
    obtain⟨x,hx,e2⟩:=(hinK (.inr y)).mp ((hmem _).mpr ⟨e',he,hk⟩);injection e2 with e2
    exact⟨x,(zFG ys x).mpr hx,e2.symm⟩
   ·rintro⟨x,hx,rfl⟩;obtain⟨e',he,hk⟩:=(hmem (.inr (mkS x))).mp ((hinK _).mpr ⟨x,(zFG ys x).mp hx,rfl⟩);rcases yR (show zMQ (.inr (mkS x)) e'.2=true from hk)with⟨i,t,e1,_⟩|⟨y,t,e1,e2⟩
    ·cases e1
    ·injection e1 with e1
     subst e1;exact⟨t,mM.mpr ⟨e',he,e2⟩⟩
 refine zWS (I.ok.hd hc) ⟨o,ho,hex,hd,hf⟩ hled hpl (by omega) hss λh' tk d' out ss' hk a1 a2 a3 us=>?_;have en:=zHW (a2.trans hperm) a3;subst en;have I1:Inv X pins σ H {s with heap:=h',toks:=tk,drawn:=d'}:=I.keptD hk;obtain⟨e,he⟩:=sortedHeap_at (h:=h'.push (seqObj "list" us.toArray 0)) (a:=h'.objs.size) (vs:=us) (n:=0) (out:=out) (Heap.get?_push_size _ rfl);refine⟨.ref h'.objs.size,_,I1.laid (t':=tk) (λb o eb=>?_) (le_refl _) (show ObjOk X.prog X.w _ _ _ (.lst ((jT (gG ys)).map λz=>V.str (mkS z)))from⟨?_,out.toList,e,zJD a1,?_⟩),rfl,q _ (I1.hok.fresh (le_refl _))⟩
 ·have hb:=Heap.lt_size eb;rw [sortedHeap_old (ne_of_lt hb) (by rw [size_push'];exact lt_succ_of_lt hb)];exact hP0 _ eb
 ·have e2:=(wD (gG ys)).length_eq;have e3:(gG ys).length<=ys.length:=by have:=zNT (zQV ys) ys.length;rw [hmk,lM]at this;exact this
  have:=sizeLine_eq;rw [lM];omega
 ·rw [Array.toArray_toList];exact he
def zNW(rs:List Er)(S:Sto):R Er:=match rs with
 |[r]=>match kL S r with
  |some ds=>match strsOf ds with
   |some ys=>if ys.length<64 then .ok (.new ((jT (gG ys)).map MV.str)) S else .no
   |none=>.no
  |none=>.no
 |_=>.no
def yFC(hc:X.calm=true)(hg:Gl X "sorted")(hm:X.mg "sorted"=none)(hg2:Gl X "set")(hm2:X.mg "set"=none)(ha:PAm X W [e] af)
  (he:starEach [e] X.env=(false,eval e X.env)::starEach [] X.env:=by rfl) (hpl:(backTo pos2 (starEach [] X.env)).any (·.1)=false:=by rfl)
  (he1:starEach [.Call (.Name "set" p2) [e] [] pos2] X.env=(false,eval (.Call (.Name "set" p2) [e] [] pos2) X.env)::starEach [] X.env:=by rfl) (hpl1:(backTo pos1 (starEach [] X.env)).any (·.1)=false:=by rfl):
  PEm X W (.Call (.Name "sorted" p1) [.Call (.Name "set" p2) [e] [] pos2] [] pos1) (λρ S=>(af ρ S).bind zNW):=by
 obtain⟨t,ha,k⟩:=ha;refine⟨_,zVK zWV hg hm zCB (yAL (zRS yFB hg2 hm2 ySE ha (by decide) (by decide) he hpl) yFY he1) (by decide) (by decide) he1 hpl1,λα ρ S σ H Q wd sl q=>k α ρ S σ H _ wd sl (q.bind λvs rs S1 α1 H1 e1 x1 w1 d1 q1=>?_)⟩
 replace q1:=q1.shift x1
 unfold zNW at q1;split at q1
 ·rename_i r;split at q1
  ·rename_i ds e1;split at q1
   ·rename_i ys ey;split at q1
    ·rename_i hn;obtain⟨u,rfl,du⟩:=zVT d1;obtain⟨l1,us,rfl,c1,c2⟩:=zDT rfl w1 e1 du;rw [zWI ey c2]at c1;exact⟨l1,ys,rfl,c1,hn,hc,λl hl=>⟨l,ys,rfl,hn,yV,hc,λp hp=>Post.newl (q1.shift (w1.newx hl)) (w1.new hl) hp (zJC _)⟩⟩
    ·exact q1.elim
   ·exact q1.elim
  ·exact q1.elim
 ·exact q1.elim
end
section
variable{X:Cx}{W:XW}
def zZZ:CallR X (.builtin "sorted") (λxs H Q=> ∃l vs ds ns α,xs=[.ref l]/\SqL X.K H l vs/\gZ ds=some ns/\DenL X.K α H ds vs/\ds.length<64/\ ∀p,H p=none->Q (.ref p) (upd H p (.lst ((jT ns).map λz=>V.str (mkS z))))):=by
 intro pins s σ H xs us Q I r h;obtain⟨l,vs,ds,ns,α,rfl,hl,hi,hd,hz,q⟩:=h;obtain⟨u,rfl,rx⟩:=vals1 r;cases rx;obtain⟨its,rv,p,_⟩:=I.list hl;obtain⟨lt,e1,e2⟩:=zTY hi hd rv;have ia:StrsAre its (ns.map mkS):=by rw [e1, <-e2];exact zPE lt
 have hlen:its.length<64:=by have:=rv.length;have:=hd.length;omega
 refine sorted_strs p.isList ia hlen λout ss' a1 a2 a3=>?_;obtain⟨e,he⟩:=sortedAll_at s.heap its out;have en:=zHW a2 a3;subst en;refine⟨.ref (s.heap.objs.size+1),_,I.laid (t':=s.toks) (λb o e=>sortedAll_old e) (le_succ _) (show ObjOk X.prog X.w _ _ _ (.lst ((jT ns).map λz=>V.str (mkS z)))from⟨?_,out.toList,e,zJD a1,?_⟩),rfl,q _ (I.hok.fresh (le_succ _))⟩
 ·have e2:=(wD ns).length_eq;have e3:=zPF hi;have:=sizeLine_eq;rw [lM];omega
 ·rw [Array.toArray_toList];exact he
def zPS(rs:List Er)(S:Sto):R Er:=match rs with
 |[p]=>match kL S p with
  |some ds=>if ds.length<64 then(match gZ ds with |some ns=>.ok (.new ((jT ns).map MV.str)) S|none=>.no)else .no
  |none=>.no
 |_=>.no
def yIR:zBB X W (λxs H Q=> ∃l vs ds ns α,xs=[.ref l]/\SqL X.K H l vs/\gZ ds=some ns/\DenL X.K α H ds vs/\ds.length<64/\ ∀p,H p=none->Q (.ref p) (upd H p (.lst ((jT ns).map λz=>V.str (mkS z))))) zPS:=by
 intro rs vs α S H Q wd d post;unfold zPS at post;split at post
 ·split at post
  ·rename_i ds e;split at post
   ·rename_i hz;split at post
    ·rename_i ns hi;obtain⟨v,rfl,dv⟩:=zAB d;obtain⟨l,us,rfl,h1,h2⟩:=zDT rfl wd e dv;exact⟨l,us,ds,ns,α,rfl,h1,hi,h2,hz,λp hp=>Post.newl post wd hp (zJC _)⟩
    ·exact post.elim
   ·exact post.elim
  ·exact post.elim
 ·exact post.elim
end
end M
end L2
namespace L2
namespace M
namespace My
open PySem PySem.Spec PyProof.Rows
local macro_rules
 | `(tactic|simp? [$xs,*] $[$l:location]?)=>`(tactic|simp only [List.getElem?_cons_zero,List.getElem?_cons_succ,yMK,bok,as_int,as_bl,yRN,add_int,sub_int,eq_int,yRO,lst0,lst1,lst2,lst3,lst6,tup2,tup3,yHR,yRS,yRT,yRU,yRV,yRW,yMQ,yMR,List.set_cons_zero,List.set_cons_succ,if_true,yMT,yMS,vJ,kJ,bJ,dJ,nJ,aJ,oJ,iJ,mJ,tJ,lJ,zJ,fJ,xJ,hJ,eJ,gJ,uJ,pJ,jJ,qJ,rJ,sJ,wJ,yJ,AJ,BJ,CJ,DJ,EJ,FJ,GJ,HJ,IJ,JJ,KJ,LJ,MJ,NJ,$xs,*] $[$l:location]?)
abbrev zJX:List Str:=["atoms","names","atom","term"]
abbrev zBC:List Str:=["question","seen","place","atom"]
abbrev zMV:List Str:=["tables","question","atom","key"]
abbrev zCC:List Str:=["tables","question","place","atoms","others","names","before","other"]
abbrev zEJ:List Str:=["tables","question","place","learnt","unknown","reached","waiting","names","other"]
abbrev zUF:List Str:=["tables","question","pairs","a"]
abbrev zHX:List Str:=["_law_rest","_law_letters","_law_many","_law_name","_law_k"]
abbrev bN:List Str:=["_law_rest","_law_many","_law_words_here","_law_k","_law_word","_law_letter"]
abbrev zKS:List Str:=["_law_cell","_law_many","_law_letters","_law_long","_law_spot","_law_words_here","_law_k","_law_word","_law_j","_law_sign"]
abbrev zKT:List Str:=["_law_cell","_law_many","_law_some","_law_rest","_law_k","_law_number"]
abbrev zJP:List Str:=["_law_cell","_law_numbers","_law_tables_here","_law_number","_law_wide"]
abbrev zEK:List Str:=["_law_cell","_law_words_here","_law_rest","_law_many","_law_found","_law_k","_law_value","_law_number","_law_pool","_law_turn"]
abbrev zAD:List Str:=["_law_number","_law_names_here","_law_values_here"]
abbrev zHD:List Str:=["_law_atoms","_law_some","_law_t","_law_terms","_law_term_here"]
abbrev kF:List Str:=["_law_cells","_law_tables_here","_law_names_here","_law_values_here","_law_many","_law_order","_law_atoms","_law_k","_law_numbers","_law_wide","_law_some","_law_head"]
abbrev kA:List Str:=["_law_atom","_law_head"]
abbrev zBJ:List Str:=["_law_tables_here","_law_question_here","_law_number","_law_head","_law_atoms","_law_key","_law_found","_law_turn","_law_other","_law_atom","_law_keys"]
abbrev zEL:List Str:=["_law_atoms","_law_head","_law_mine","_law_one","_law_other","_law_there"]
abbrev zBK:List Str:=["_law_tables_here","_law_question_here","_law_head","_law_atoms","_law_pairs","_law_number","_law_mine","_law_found","_law_turn","_law_other","_law_linked_here"]
abbrev yIS:List Str:=["_law_script","_law_words_here","_law_tables_here","_law_values_here","_law_cells","_law_question_here","_law_due","_law_told"]
def zCD:AY:=(iJ (bJ (dJ eqF (dJ ixF (vJ 3) (kJ (.int 0))) (kJ (.str [118,97,114]))) asB) ((EJ (kJ (.bl true)) (DJ zHT (vJ 1) (dJ ixF (vJ 3) (kJ (.int 1)))))) (JJ))
def zBL:AY:=(zCD)
def zHY:AY:=(FJ (bJ (dJ ixF (vJ 2) (kJ (.int 1))) itT) (gNm 3) (zBL))
def zGD:AY:=(zHY)
section
abbrev AF:=AY
abbrev AE:=AX
def zGE:AF:=(CJ zJ 1)
def zGF:AF:=(FJ (bJ (vJ 0) itQ) (gNm 2) (zGD))
def zGG:AF:=(AJ (bJ (yJ (vJ 1) wJ) zHU))
def zPT:AF:=zN (zGE) (zN (zGF) ((zGG)))
def dB(ds:Bh)(S:Sto):R Er:=xE (zPT (yN zJX ds) S)
def wR:AY:=(iJ (bJ (dJ (zLX false) (dJ ixF (vJ 3) (kJ (.int 0))) (vJ 1)) asB) ((λ_ _=>R.no)) (JJ))
def wS:AY:=(EJ (kJ (.bl true)) (DJ zHT (vJ 1) (dJ ixF (vJ 3) (kJ (.int 0)))))
def kN:AY:=zN (wR) ((wS))
def kO:AF:=(CJ zJ 1)
def cX:AF:=(FJ (bJ (yJ (dJ ixF (vJ 0) (kJ (.int 1))) wJ) itE) (gTp 2 (xF (gNm 2) (xF (gNm 3) zEY))) (kN))
def jW:AF:=zN (kO) ((cX))
def wN(ds:Bh)(S:Sto):R Er:=xE (jW (yN zBC ds) S)
def dC:AZ:=(bJ (dJ (inF true) (vJ 0) (dJ ixF (vJ 1) (kJ (.int 0)))) asB)
def zFH:AE:=(vJ 0)
def zCE:AF:=(AJ (pJ (bJ (fJ 1 dB (yJ (bJ (yJ (vJ 1) wJ) bG) wJ)) itL) (gNm 0) (dC) (zFH) 1 [0]))
def zGH:AF:=(zCE)
def xK(ds:Bh)(S:Sto):R Er:=xE (zGH (yN ["question","atom"] ds) S)
def zEM:AF:=(CJ (dJ ixF (dJ ixF (vJ 0) (dJ ixF (vJ 2) (kJ (.int 0)))) (kJ (.int 1))) 3)
def zEN:AF:=(AJ (fJ 2 xK (yJ (vJ 1) (yJ (bJ (yJ (dJ ixF (vJ 2) (kJ (.int 0))) (yJ (tJ zDN (dJ ixF (vJ 2) (kJ (.int 1))) mJ (bJ (vJ 3) asI)) wJ)) zFX) wJ))))
def zHZ:AF:=zN (zEM) ((zEN))
def bC(ds:Bh)(S:Sto):R Er:=xE (zHZ (yN zMV ds) S)
def zIA:AZ:=uJ
def zCF:AE:=(bJ (yJ (vJ 0) (yJ (kJ (.bl true)) wJ)) zFX)
def zIB:AZ:=uJ
def zCG:AE:=(dJ (zLX false) (vJ 0) (vJ 1))
def zIC:AZ:=uJ
def zCH:AE:=(bJ (yJ (vJ 0) (yJ (kJ (.bl true)) wJ)) zFX)
def zID:AY:=(iJ (bJ (bJ (yJ (pJ (bJ (fJ 3 bC (yJ (vJ 0) (yJ (vJ 1) (yJ (vJ 7) wJ)))) itL) (gNm 0) (zIB) (zCG) 1 [5]) wJ) allF) zHK) ((BJ (eJ isDx zSL (vJ 5) (yJ (bJ (yJ (pJ (bJ (fJ 2 xK (yJ (vJ 1) (yJ (vJ 7) wJ))) itL) (gNm 0) (zIC) (zCH) 1 []) wJ) zWM) wJ)))) (JJ))
def zBM:AY:=(zID)
def zCI:AY:=(CJ (bJ (yJ (vJ 5) wJ) zSN) 6)
def zIE:AY:=(FJ (bJ (vJ 4) itT) (gNm 7) (zBM))
def zBN:AY:=zN (zCI) ((zIE))
def nS:AZ:=(bJ (dJ ltF (vJ 6) (bJ (yJ (vJ 5) wJ) zSN)) asB)
def zGI:AF:=(CJ (dJ ixF (vJ 1) (kJ (.int 1))) 3)
def zGJ:AF:=(CJ (dJ xY (tJ zDN (vJ 3) mJ (bJ (vJ 2) asI)) (tJ zDN (vJ 3) (bJ (dJ xY (vJ 2) (kJ (.int 1))) asI) mJ)) 4)
def zGK:AF:=(CJ (bJ (yJ (pJ (bJ (fJ 3 bC (yJ (vJ 0) (yJ (vJ 1) (yJ (dJ ixF (vJ 3) (vJ 2)) wJ)))) itL) (gNm 0) (zIA) (zCF) 1 []) wJ) zWM) 5)
def zGL:AF:=(CJ (kJ (.int (-1))) 6)
def zKU:AF:=(λρ S=>gX (nS) (zBN) 10000 ρ S)
def zKV:AF:=(AJ (vJ 5))
def zJY:AF:=zN (zGI) (zN (zGJ) (zN (zGK) (zN (zGL) (zN (zKU) ((zKV))))))
def zGM(ds:Bh)(S:Sto):R Er:=xE (zJY (yN zCC ds) S)
def zAE:AZ:=uJ
def jA:AE:=(dJ (inF false) (vJ 0) (vJ 1))
def zCJ:AF:=(AJ (bJ (yJ (pJ (bJ (vJ 0) itL) (gNm 0) (zAE) (jA) 1 [1]) wJ) anyF))
def dD:AF:=(zCJ)
def jN(ds:Bh)(S:Sto):R Er:=xE (dD (yN ["some","others"] ds) S)
def bO:AZ:=(bJ (dJ (zLX true) (vJ 0) (vJ 1)) asB)
def zDX:AE:=(vJ 0)
def zDY:AZ:=uJ
def bP:AE:=(pJ (bJ (fJ 2 xK (yJ (vJ 1) (yJ (vJ 0) wJ))) itL) (gNm 0) (bO) (zDX) 1 [2])
def zDZ:AY:=(iJ (rJ (bJ (dJ (zLX true) (vJ 8) (vJ 5)) asB) (bJ (fJ 2 jN (yJ (vJ 7) (yJ (dJ ixF (vJ 4) (vJ 8)) wJ))) zHK)) (zN (EJ (kJ (.bl true)) (DJ zHT (vJ 5) (vJ 8))) ((BJ (eJ jS zLS (vJ 6) (yJ (vJ 8) wJ))))) (JJ))
def gS:AY:=(zDZ)
def bQ:AY:=(CJ (dJ ixF (vJ 4) (gJ jS zPH (vJ 6))) 7)
def zEA:AY:=(FJ (bJ (yJ (bJ (yJ (vJ 4) wJ) zBI) wJ) kR) (gNm 8) (gS))
def gT:AY:=zN (bQ) ((zEA))
def wT:AZ:=(bJ (vJ 6) zHK)
def zAJ:AF:=(CJ (fJ 3 zGM (yJ (vJ 0) (yJ (vJ 1) (yJ (vJ 2) wJ)))) 3)
def zAK:AF:=(CJ (pJ (bJ (dJ ixF (vJ 1) (kJ (.int 1))) itT) (gNm 0) (zDY) (bP) 1 [1,3]) 4)
def zAL:AF:=(CJ (d1J (vJ 2) (kJ (.bl true))) 5)
def zAM:AF:=(CJ (bJ (yJ (vJ 2) wJ) bG) 6)
def zHE:AF:=(λρ S=>gX (wT) (gT) 10000 ρ S)
def zHF:AF:=(AJ (bJ (yJ (vJ 5) wJ) zHU))
def zEO:AF:=zN (zAJ) (zN (zAK) (zN (zAL) (zN (zAM) (zN (zHE) ((zHF))))))
def nT(ds:Bh)(S:Sto):R Er:=xE (zEO (yN zEJ ds) S)
def zIF:AZ:=(bJ (dJ neF (vJ 0) (vJ 1)) asB)
def zIG:AE:=(bJ (yJ (vJ 1) (yJ (vJ 0) wJ)) zFX)
def zMW:AY:=(BJ (eJ jS extF (vJ 2) (yJ (pJ (bJ (fJ 3 nT (yJ (vJ 0) (yJ (vJ 1) (yJ (vJ 3) wJ)))) itL) (gNm 0) (zIF) (zIG) 1 [3]) wJ)))
def zJG:AY:=(zMW)
def zMB:AF:=(BJ (fJ 1 wN (yJ (vJ 1) wJ)))
def zMC:AF:=(CJ (bJ wJ bG) 2)
def zMD:AF:=(FJ (bJ (yJ (bJ (yJ (dJ ixF (vJ 1) (kJ (.int 1))) wJ) zBI) wJ) kR) (gNm 3) (zJG))
def zSQ:AF:=(AJ (bJ (yJ (vJ 2) wJ) zSG))
def zUG:AF:=zN (zMB) (zN (zMC) (zN (zMD) ((zSQ))))
def zJH(ds:Bh)(S:Sto):R Er:=xE (zUG (yN zUF ds) S)
def dE:AF:=(iJ (bJ (dJ ltF (vJ 1) (bJ (yJ (vJ 0) wJ) zBI)) asB) ((AJ (dJ ixF (vJ 0) (vJ 1)))) (JJ))
def zME:AF:=(AJ (kJ (.int 0)))
def zCK:AF:=zN (dE) ((zME))
def yA(ds:Bh)(S:Sto):R Er:=xE (zCK (yN ["_law_script","_law_k"] ds) S)
def bA:AY:=(CJ (dJ xY (vJ 3) (dJ ixF (vJ 1) (dJ wZ (vJ 0) (kJ (.int 26))))) 3)
def bB:AY:=(CJ (dJ jU (vJ 0) (kJ (.int 26))) 0)
def dF:AY:=zN (bA) ((bB))
def dG:AF:=(CJ (kJ (.str [97,98,99,100,101,102,103,104,105,106,107,108,109,110,111,112,113,114,115,116,117,118,119,120,121,122])) 1)
def dH:AF:=(CJ (dJ xY (kJ (.int 1)) (dJ wZ (vJ 0) (kJ (.int 8)))) 2)
def dI:AF:=(CJ (dJ jU (vJ 0) (kJ (.int 8))) 0)
def dL:AF:=(CJ (kJ (.str [])) 3)
def dM:AF:=(FJ (bJ (yJ (vJ 2) wJ) kR) (gNm 4) (dF))
def zFI:AF:=(AJ (bJ (yJ (vJ 3) (yJ (vJ 0) wJ)) zFX))
def zCL:AF:=zN (dG) (zN (dH) (zN (dI) (zN (dL) (zN (dM) ((zFI))))))
def wU(ds:Bh)(S:Sto):R Er:=xE (zCL (yN zHX ds) S)
def xP:AY:=(iJ (bJ (dJ (inF false) (vJ 4) (vJ 2)) asB) ((CJ (dJ xY (tJ zDN (vJ 4) mJ (bJ (kJ (.int 7)) asI)) (vJ 5)) 4)) (JJ))
def xC:AY:=(xP)
def xQ:AY:=(EJ (fJ 1 wU (yJ (vJ 0) wJ)) (gTp 2 (xF (gNm 4) (xF (gNm 0) zEY))))
def xR:AY:=(FJ (bJ (kJ (.str [97,98,99,100,101,102,103,104,105,106])) itS) (gNm 5) (xC))
def xS:AY:=(BJ (eJ jS zLS (vJ 2) (yJ (vJ 4) wJ)))
def wE:AY:=zN (xQ) (zN (xR) ((xS)))
def wF:AF:=(CJ (bJ wJ bG) 2)
def wG:AF:=(FJ (bJ (yJ (vJ 1) wJ) kR) (gNm 3) (wE))
def gH:AF:=(AJ (vJ 2))
def kB:AF:=zN (wF) (zN (wG) ((gH)))
def xL(ds:Bh)(S:Sto):R Er:=xE (kB (yN bN ds) S)
def dN:AY:=(CJ (dJ xY (dJ jU (vJ 0) (dJ xY (kJ (.int 49)) (dJ zHO (kJ (.int 5)) (vJ 8)))) (dJ zHO (vJ 8) (dJ wZ (dJ jU (vJ 0) (kJ (.int 49))) (kJ (.int 3))))) 9)
def dO:AY:=(iJ (bJ (dJ eqF (vJ 8) (vJ 4)) asB) ((CJ (dJ xY (vJ 9) (dJ zHO (kJ (.int 3)) (vJ 6))) 9)) (JJ))
def zFJ:AY:=(CJ (dJ xY (vJ 7) (dJ ixF (vJ 2) (dJ wZ (vJ 9) (kJ (.int 26))))) 7)
def bR:AY:=zN (dN) (zN (dO) ((zFJ)))
def dP:AY:=(CJ (kJ (.str [])) 7)
def dQ:AY:=(FJ (bJ (yJ (vJ 3) wJ) kR) (gNm 8) (bR))
def dR:AY:=(BJ (eJ jS zLS (vJ 5) (yJ (vJ 7) wJ)))
def zCM:AY:=zN (dP) (zN (dQ) ((dR)))
def jB:AF:=(iJ (bJ (dJ eqF (dJ wZ (vJ 0) (kJ (.int 2))) (kJ (.int 0))) asB) ((AJ (fJ 2 xL (yJ (dJ jU (vJ 0) (kJ (.int 2))) (yJ (vJ 1) wJ))))) (JJ))
def zCN:AF:=(CJ (kJ (.str [97,98,99,100,101,102,103,104,105,106,107,108,109,110,111,112,113,114,115,116,117,118,119,120,121,122])) 2)
def zCO:AF:=(CJ (dJ wZ (dJ zHO (dJ wZ (dJ zHO (vJ 0) (kJ (.int 69621))) (kJ (.int 2147483629))) (kJ (.int 48271))) (kJ (.int 2147483647))) 0)
def zCP:AF:=(CJ (dJ xY (kJ (.int 1)) (dJ wZ (vJ 0) (kJ (.int 7)))) 3)
def zCQ:AF:=(CJ (dJ wZ (dJ jU (vJ 0) (kJ (.int 7))) (vJ 3)) 4)
def zCR:AF:=(CJ (bJ wJ bG) 5)
def zCS:AF:=(FJ (bJ (yJ (vJ 1) wJ) kR) (gNm 6) (zCM))
def zCT:AF:=(iJ (bJ (dJ eqF (dJ wZ (dJ jU (vJ 0) (kJ (.int 49))) (kJ (.int 4))) (kJ (.int 1))) asB) ((EJ (dJ xY (dJ ixF (vJ 5) (kJ (.int 0))) (dJ ixF (vJ 2) (dJ wZ (dJ jU (vJ 0) (kJ (.int 196))) (kJ (.int 26))))) (DJ zWA (vJ 5) (kJ (.int 1))))) (JJ))
def zIH:AF:=(AJ (vJ 5))
def bS:AF:=zN (jB) (zN (zCN) (zN (zCO) (zN (zCP) (zN (zCQ) (zN (zCR) (zN (zCS) (zN (zCT) ((zIH)))))))))
def zBO(ds:Bh)(S:Sto):R Er:=xE (bS (yN zKS ds) S)
def dS:AY:=(BJ (eJ jS zLS (vJ 2) (yJ (dJ wZ (vJ 3) (kJ (.int 1000000))) wJ)))
def dU:AY:=(CJ (dJ jU (vJ 3) (kJ (.int 1000000))) 3)
def bT:AY:=zN (dS) ((dU))
def dW:AY:=(CJ (dJ wZ (dJ xY (dJ xY (dJ zHO (vJ 5) (vJ 5)) (dJ zHO (kJ (.int 48271)) (vJ 5))) (vJ 4)) (kJ (.int 2147483647))) 5)
def dX:AY:=(BJ (eJ jS zLS (vJ 2) (yJ (dJ jU (dJ wZ (dJ zHO (vJ 5) (kJ (.int 69621))) (kJ (.int 2147483587))) (kJ (.int 16))) wJ)))
def zCU:AY:=zN (dW) ((dX))
def zCV:AF:=(CJ (bJ wJ bG) 2)
def jC:AF:=(iJ (bJ (dJ eqF (dJ wZ (vJ 0) (kJ (.int 2))) (kJ (.int 0))) asB) (zN (CJ (dJ jU (vJ 0) (kJ (.int 2))) 3) (zN (FJ (bJ (yJ (vJ 1) wJ) kR) (gNm 4) (bT)) ((AJ (vJ 2))))) (JJ))
def zCW:AF:=(CJ (dJ xY (dJ wZ (vJ 0) (kJ (.int 2147483629))) (kJ (.int 1))) 5)
def zCX:AF:=(FJ (bJ (yJ (vJ 1) wJ) kR) (gNm 4) (zCU))
def zPU:AF:=(AJ (vJ 2))
def bU:AF:=zN (zCV) (zN (jC) (zN (zCW) (zN (zCX) ((zPU)))))
def xD(ds:Bh)(S:Sto):R Er:=xE (bU (yN zKT ds) S)
def bV:AY:=(CJ (dJ xY (dJ xY (kJ (.int 1)) (dJ wZ (vJ 3) (kJ (.int 3)))) (bJ (yJ (dJ eqF (dJ wZ (dJ jU (vJ 3) (kJ (.int 3))) (kJ (.int 5))) (kJ (.int 0))) wJ) intF)) 4)
def bW:AY:=(BJ (eJ jS zLS (vJ 2) (yJ (bJ (yJ (vJ 4) (yJ (bJ (yJ (vJ 4) (yJ (dJ ixF (bJ (yJ (kJ (.int 0)) (yJ (kJ (.int 1)) (yJ (kJ (.int 1)) (yJ (kJ (.int 1)) (yJ (kJ (.int 2)) (yJ (kJ (.int 4)) wJ)))))) bG) (dJ wZ (dJ jU (vJ 3) (kJ (.int 15))) (kJ (.int 6)))) wJ)) zZL) wJ)) zFX) wJ)))
def zAN:AY:=zN (bV) ((bW))
def zAO:AF:=(CJ (fJ 2 xD (yJ (vJ 0) (yJ (kJ (.int 5)) wJ))) 1)
def zAP:AF:=(CJ (bJ wJ bG) 2)
def zAQ:AF:=(FJ (bJ (tJ zDN (vJ 1) mJ (bJ (dJ xY (kJ (.int 1)) (dJ wZ (dJ ixF (vJ 1) (kJ (.int 4))) (kJ (.int 4)))) asI)) itL) (gNm 3) (zAN))
def zHG:AF:=(AJ (bJ (yJ (vJ 2) wJ) zGA))
def zEP:AF:=zN (zAO) (zN (zAP) (zN (zAQ) ((zHG))))
def nU(ds:Bh)(S:Sto):R Er:=xE (zEP (yN zJP ds) S)
def bX:AY:=(EJ (fJ 1 wU (yJ (dJ jU (vJ 2) (kJ (.int 2))) wJ)) (gTp 2 (xF (gNm 6) (xF (gNm 2) zEY))))
def kT:AY:=(iJ (bJ (dJ eqF (dJ wZ (vJ 2) (kJ (.int 2))) (kJ (.int 1))) asB) (zN (CJ (dJ xY (dJ zNF (dJ wZ (dJ jU (vJ 2) (kJ (.int 2))) (dJ zNF (dJ zHO (kJ (.int 2)) (dJ zNG (kJ (.int 10)) (kJ (.int 30)))) (kJ (.int 1)))) (dJ zNG (kJ (.int 10)) (kJ (.int 30)))) (kJ (.int 1))) 6) ((CJ (dJ jU (vJ 2) (dJ zNF (dJ zHO (kJ (.int 2)) (dJ zNG (kJ (.int 10)) (kJ (.int 30)))) (kJ (.int 1)))) 2))) (JJ))
def bY:AY:=(iJ (bJ (dJ (inF true) (vJ 6) (vJ 4)) asB) ((BJ (eJ jS zLS (vJ 4) (yJ (vJ 6) wJ)))) (JJ))
def xZ:AY:=zN (bX) (zN (kT) ((bY)))
def kU:AZ:=(bJ (dJ (inF true) (vJ 0) (vJ 1)) asB)
def bZ:AE:=(vJ 0)
def kG:AF:=(iJ (bJ (dJ eqF (dJ wZ (vJ 0) (kJ (.int 2))) (kJ (.int 0))) asB) (zN (CJ (dJ jU (vJ 0) (kJ (.int 2))) 2) (zN (CJ (dJ xY (kJ (.int 2)) (dJ wZ (vJ 2) (kJ (.int 3)))) 3) (zN (CJ (dJ jU (vJ 2) (kJ (.int 3))) 2) (zN (CJ (bJ wJ bG) 4) (zN (FJ (bJ (yJ (vJ 3) wJ) kR) (gNm 5) (xZ)) ((AJ (dJ xY (vJ 4) (tJ zDN (pJ (bJ (vJ 1) itL) (gNm 0) (kU) (bZ) 1 [4]) mJ (bJ (dJ zNF (kJ (.int 2)) (bJ (yJ (kJ (.int 2)) (yJ (bJ (yJ (vJ 4) wJ) zBI) wJ)) zZL)) asI)))))))))) (JJ))
def zAR:AF:=(CJ (dJ xY (dJ zNF (dJ wZ (vJ 0) (dJ zNF (dJ zHO (kJ (.int 2)) (dJ zNG (kJ (.int 10)) (kJ (.int 30)))) (kJ (.int 2)))) (dJ zNG (kJ (.int 10)) (kJ (.int 30)))) (kJ (.int 1))) 7)
def zAS:AF:=(CJ (bJ (yJ (vJ 7) (yJ (dJ xY (vJ 7) (kJ (.int 1))) (yJ (dJ ixF (vJ 1) (kJ (.int 0))) (yJ (dJ ixF (vJ 1) (kJ (.int 1))) wJ)))) bG) 8)
def zAT:AF:=(CJ (dJ wZ (dJ jU (vJ 0) (kJ (.int 5))) (kJ (.int 4))) 9)
def zAU:AF:=(AJ (tJ zDN (dJ xY (tJ zDN (vJ 8) (bJ (vJ 9) asI) mJ) (tJ zDN (vJ 8) mJ (bJ (vJ 9) asI))) mJ (bJ (dJ xY (kJ (.int 2)) (dJ wZ (vJ 0) (kJ (.int 3)))) asI)))
def gI:AF:=zN (kG) (zN (zAR) (zN (zAS) (zN (zAT) ((zAU)))))
def nV(ds:Bh)(S:Sto):R Er:=xE (gI (yN zEK ds) S)
def gK:AF:=(iJ (bJ (dJ eqF (dJ wZ (vJ 0) (kJ (.int 6))) (kJ (.int 0))) asB) ((AJ (bJ (yJ (kJ (.str [105,115])) (yJ (dJ ixF (vJ 2) (dJ wZ (dJ jU (vJ 0) (kJ (.int 6))) (bJ (yJ (vJ 2) wJ) zBI))) wJ)) zFX))) (JJ))
def zJQ:AF:=(AJ (bJ (yJ (kJ (.str [118,97,114])) (yJ (dJ ixF (vJ 1) (dJ wZ (dJ jU (vJ 0) (kJ (.int 6))) (bJ (yJ (vJ 1) wJ) zBI))) wJ)) zFX))
def zAF:AF:=zN (gK) ((zJQ))
def zEB(ds:Bh)(S:Sto):R Er:=xE (zAF (yN zAD ds) S)
def jX:AY:=(iJ (bJ (dJ eqF (dJ ixF (vJ 4) (kJ (.int 0))) (kJ (.str [118,97,114]))) asB) ((EJ (kJ (.bl true)) (DJ zHT (vJ 1) (dJ ixF (vJ 4) (kJ (.int 1)))))) (JJ))
def kW:AY:=(jX)
def zBD:AY:=(FJ (bJ (vJ 3) itT) (gNm 4) (kW))
def cA:AY:=(zBD)
def cB:AF:=(CJ zJ 1)
def cC:AF:=(FJ (bJ (vJ 0) itL) (gTp 2 (xF (gNm 2) (xF (gNm 3) zEY))) (cA))
def zEC:AF:=(AJ (bJ (yJ (vJ 1) wJ) zPG))
def zAV:AF:=zN (cB) (zN (cC) ((zEC)))
def gU(ds:Bh)(S:Sto):R Er:=xE (zAV (yN zHD ds) S)
def zBE:AZ:=uJ
def jY:AE:=(dJ wZ (dJ xY (dJ jU (dJ ixF (vJ 1) (kJ (.int 0))) (kJ (.int 4))) (vJ 0)) (bJ (yJ (vJ 2) wJ) zBI))
def zBF:AZ:=uJ
def jZ:AE:=(fJ 3 zEB (yJ (vJ 0) (yJ (vJ 1) (yJ (vJ 2) wJ))))
def hW:AY:=(CJ (fJ 2 xD (yJ (dJ ixF (vJ 0) (dJ xY (kJ (.int 2)) (vJ 7))) (yJ (kJ (.int 4)) wJ))) 8)
def hX:AY:=(CJ (dJ ixF (dJ ixF (vJ 1) (dJ ixF (vJ 5) (vJ 7))) (kJ (.int 0))) 9)
def gA:AY:=(BJ (eJ jS zLS (vJ 6) (yJ (bJ (yJ (dJ ixF (vJ 5) (vJ 7)) (yJ (bJ (yJ (pJ (bJ (tJ zDN (vJ 8) mJ (bJ (vJ 9) asI)) itL) (gNm 0) (zBF) (jZ) 1 [2,3]) wJ) zGA) wJ)) zFX) wJ)))
def kX:AY:=zN (hW) (zN (hX) ((gA)))
def gB:AZ:=(bJ (dJ eqF (dJ wZ (dJ jU (dJ ixF (vJ 1) (kJ (.int 1))) (dJ ixF (bJ (yJ (kJ (.int 1)) (yJ (kJ (.int 3)) (yJ (kJ (.int 9)) (yJ (kJ (.int 27)) wJ)))) bG) (vJ 0))) (kJ (.int 3))) (kJ (.int 1))) asB)
def gC:AE:=(dJ ixF (vJ 2) (vJ 0))
def cE:AF:=(CJ (dJ xY (kJ (.int 1)) (dJ wZ (dJ ixF (vJ 0) (kJ (.int 0))) (bJ (yJ (vJ 1) wJ) zBI))) 4)
def cF:AF:=(CJ (pJ (bJ (yJ (bJ (yJ (vJ 1) wJ) zBI) wJ) kR) (gNm 0) (zBE) (jY) 1 [0,1]) 5)
def cG:AF:=(iJ (bJ (dJ eqF (dJ wZ (dJ jU (dJ ixF (vJ 0) (kJ (.int 0))) (kJ (.int 16))) (kJ (.int 2))) (kJ (.int 1))) asB) ((BJ (gJ jS yEG (vJ 5)))) (JJ))
def cH:AF:=(CJ (bJ wJ bG) 6)
def cI:AF:=(FJ (bJ (yJ (vJ 4) wJ) kR) (gNm 7) (kX))
def cJ:AF:=(CJ (fJ 1 gU (yJ (vJ 6) wJ)) 10)
def cK:AF:=(CJ (pJ (bJ (yJ (bJ (yJ (vJ 10) wJ) zBI) wJ) kR) (gNm 0) (gB) (gC) 1 [0,10]) 11)
def cL:AF:=(iJ (bJ (dJ eqF (dJ wZ (dJ jU (dJ ixF (vJ 0) (kJ (.int 1))) (kJ (.int 81))) (kJ (.int 2))) (kJ (.int 1))) asB) ((BJ (gJ jS yEG (vJ 11)))) (JJ))
def cM:AF:=(AJ (bJ (yJ (bJ (yJ (tJ zDN (vJ 11) mJ (bJ (kJ (.int 2)) asI)) wJ) zGA) (yJ (bJ (yJ (vJ 6) wJ) zGA) wJ)) zFX))
def zAW:AF:=zN (cE) (zN (cF) (zN (cG) (zN (cH) (zN (cI) (zN (cJ) (zN (cK) (zN (cL) ((cM)))))))))
def kH(ds:Bh)(S:Sto):R Er:=xE (zAW (yN kF ds) S)
def zAX(self:List MV->Sto->R Er):AY:=(iJ (qJ (bJ (fJ 2 self (yJ (vJ 2) (yJ (vJ 3) wJ))) zHK)) ((AJ (kJ (.bl false)))) (JJ))
def kI(self:List MV->Sto->R Er):AY:=(zAX self)
def wH(self:List MV->Sto->R Er):AF:=(iJ (bJ (dJ zTM (vJ 1) (kJ .non)) asB) ((AJ (dJ zTM (vJ 0) (kJ .non)))) (JJ))
def wI(self:List MV->Sto->R Er):AF:=(iJ (bJ (bJ (yJ (vJ 1) (yJ (kJ (.typ "str")) wJ)) zBZ) zHK) ((AJ (aJ (bJ (yJ (vJ 0) (yJ (kJ (.typ "str")) wJ)) zBZ) (dJ eqF (vJ 0) (vJ 1))))) (JJ))
def wK(self:List MV->Sto->R Er):AF:=(iJ (bJ (bJ (yJ (vJ 1) (yJ (kJ (.typ "int")) wJ)) zBZ) zHK) ((AJ (aJ (bJ (yJ (vJ 0) (yJ (kJ (.typ "int")) wJ)) zBZ) (aJ (nJ (bJ (yJ (vJ 0) (yJ (kJ (.typ "bool")) wJ)) zBZ)) (dJ eqF (vJ 0) (vJ 1)))))) (JJ))
def gM(self:List MV->Sto->R Er):AF:=(iJ (rJ (bJ (bJ (yJ (vJ 1) (yJ (kJ (.typ "list")) wJ)) zBZ) zHK) (qJ (bJ (bJ (yJ (vJ 0) (yJ (kJ (.typ "list")) wJ)) zBZ) zHK))) ((AJ (kJ (.bl false)))) (JJ))
def gN(self:List MV->Sto->R Er):AF:=(iJ (rJ (bJ (bJ (yJ (vJ 1) (yJ (kJ (.typ "tuple")) wJ)) zBZ) zHK) (qJ (bJ (bJ (yJ (vJ 0) (yJ (kJ (.typ "tuple")) wJ)) zBZ) zHK))) ((AJ (kJ (.bl false)))) (JJ))
def gO(self:List MV->Sto->R Er):AF:=(iJ (bJ (dJ neF (bJ (yJ (vJ 0) wJ) zBI) (bJ (yJ (vJ 1) wJ) zBI)) asB) ((AJ (kJ (.bl false)))) (JJ))
def gP(self:List MV->Sto->R Er):AF:=(FJ (bJ (yJ (vJ 0) (yJ (vJ 1) wJ)) itZ) (gTp 2 (xF (gNm 2) (xF (gNm 3) zEY))) (kI self))
def zQY(self:List MV->Sto->R Er):AF:=(AJ (kJ (.bl true)))
def jD(self:List MV->Sto->R Er):AF:=zN (wH self) (zN (wI self) (zN (wK self) (zN (gM self) (zN (gN self) (zN (gO self) (zN (gP self) ((zQY self))))))))
def zI:Nat->List MV->Sto->R Er
 |0=>λ_ _=>.no
 |n+1=>λds S=>xE (jD (zI n) (yN ["_law_found","_law_due","_law_one","_law_other"] ds) S)
def dY:AZ:=(rJ (bJ (dJ eqF (dJ ixF (vJ 0) (kJ (.int 0))) (kJ (.str [118,97,114]))) asB) (bJ (dJ (inF true) (dJ ixF (vJ 0) (kJ (.int 1))) (vJ 1)) asB))
def dZ:AE:=(dJ ixF (vJ 0) (kJ (.int 1)))
def zII:AF:=(AJ (bJ (yJ (pJ (bJ (dJ ixF (vJ 0) (kJ (.int 1))) itT) (gNm 0) (dY) (dZ) 1 [1]) wJ) zNW))
def zGN:AF:=(zII)
def yK(ds:Bh)(S:Sto):R Er:=xE (zGN (yN kA ds) S)
def nA:AZ:=(bJ (dJ (inF true) (vJ 0) (vJ 1)) asB)
def zFK:AE:=(vJ 0)
def nB:AZ:=(bJ (dJ (inF true) (vJ 0) (vJ 1)) asB)
def zFL:AE:=(vJ 0)
def nE:AY:=(CJ (fJ 2 yK (yJ (bJ (yJ (kJ (.int 0)) (yJ (tJ zDN (dJ ixF (vJ 9) (kJ (.int 1))) mJ (bJ (dJ ixF (dJ ixF (vJ 0) (dJ ixF (vJ 9) (kJ (.int 0)))) (kJ (.int 1))) asI)) wJ)) zFX) (yJ (vJ 3) wJ))) 10)
def zFM:AY:=(iJ (rJ (bJ (dJ neF (vJ 8) (vJ 2)) asB) (bJ (dJ eqF (pJ (bJ (vJ 10) itL) (gNm 0) (nA) (zFK) 1 [6]) (bJ wJ bG)) asB)) ((CJ (dJ xY (vJ 6) (pJ (bJ (fJ 2 yK (yJ (vJ 9) (yJ (vJ 3) wJ))) itL) (gNm 0) (nB) (zFL) 1 [6])) 6)) (JJ))
def cN:AY:=zN (nE) ((zFM))
def zFN:AY:=(FJ (bJ (yJ (vJ 4) wJ) itE) (gTp 2 (xF (gNm 8) (xF (gNm 9) zEY))) (cN))
def zCY:AY:=(zFN)
def zCZ:AF:=(EJ (vJ 1) (gTp 2 (xF (gNm 3) (xF (gNm 4) zEY))))
def zDA:AF:=(CJ (dJ ixF (dJ ixF (vJ 0) (dJ ixF (dJ ixF (vJ 4) (vJ 2)) (kJ (.int 0)))) (kJ (.int 1))) 5)
def zDB:AF:=(CJ (fJ 2 yK (yJ (bJ (yJ (kJ (.int 0)) (yJ (tJ zDN (dJ ixF (dJ ixF (vJ 4) (vJ 2)) (kJ (.int 1))) mJ (bJ (vJ 5) asI)) wJ)) zFX) (yJ (vJ 3) wJ))) 6)
def zDC:AF:=(FJ (bJ (yJ (bJ (yJ (vJ 4) wJ) zBI) wJ) kR) (gNm 7) (zCY))
def zIJ:AF:=(AJ (bJ (yJ (vJ 6) wJ) zPS))
def zGO:AF:=zN (zCZ) (zN (zDA) (zN (zDB) (zN (zDC) ((zIJ)))))
def zBP(ds:Bh)(S:Sto):R Er:=xE (zGO (yN zBJ ds) S)
def cO:AZ:=(rJ (bJ (dJ (inF false) (vJ 0) (vJ 2)) asB) (bJ (dJ (inF true) (vJ 0) (vJ 1)) asB))
def zED:AE:=(vJ 0)
def zAY:AF:=(CJ (fJ 2 yK (yJ (dJ ixF (vJ 0) (vJ 4)) (yJ (vJ 1) wJ))) 5)
def zHH:AF:=(AJ (dJ neF (pJ (bJ (fJ 2 yK (yJ (dJ ixF (vJ 0) (vJ 3)) (yJ (vJ 1) wJ))) itL) (gNm 0) (cO) (zED) 1 [2,5]) (bJ wJ bG)))
def zEQ:AF:=zN (zAY) ((zHH))
def nW(ds:Bh)(S:Sto):R Er:=xE (zEQ (yN zEL ds) S)
def nF:AZ:=(bJ (fJ 5 nW (yJ (vJ 2) (yJ (vJ 1) (yJ (vJ 3) (yJ (vJ 0) (yJ (vJ 4) wJ)))))) zHK)
def zFO:AE:=(vJ 0)
def nG:AY:=(CJ (pJ (bJ (vJ 7) itL) (gNm 0) (nF) (zFO) 1 [2,3,6,9]) 10)
def zFP:AY:=(iJ (rJ (bJ (dJ (inF true) (vJ 9) (vJ 7)) asB) (bJ (dJ neF (vJ 10) (bJ wJ bG)) asB)) ((CJ (dJ xY (vJ 7) (bJ (yJ (vJ 9) wJ) bG)) 7)) (JJ))
def cP:AY:=zN (nG) ((zFP))
def zFQ:AY:=(FJ (bJ (yJ (bJ (yJ (vJ 3) wJ) zBI) wJ) kR) (gNm 9) (cP))
def zDD:AY:=(zFQ)
def nH:AZ:=(bJ (dJ neF (vJ 0) (vJ 1)) asB)
def nI:AE:=(bJ (yJ (vJ 1) (yJ (vJ 0) wJ)) zFX)
def nK:AY:=(CJ (fJ 3 zBP (yJ (vJ 0) (yJ (vJ 1) (yJ (vJ 5) wJ)))) 6)
def nL:AY:=(CJ (bJ (yJ (vJ 5) wJ) bG) 7)
def nM:AY:=(FJ (bJ (yJ (bJ (yJ (vJ 3) wJ) zBI) wJ) kR) (gNm 8) (zDD))
def zFR:AY:=(CJ (dJ xY (vJ 4) (pJ (bJ (bJ (yJ (vJ 7) wJ) zWJ) itL) (gNm 0) (nH) (nI) 1 [5])) 4)
def cQ:AY:=zN (nK) (zN (nL) (zN (nM) ((zFR))))
def zDE:AF:=(EJ (vJ 1) (gTp 2 (xF (gNm 2) (xF (gNm 3) zEY))))
def zDF:AF:=(CJ (bJ wJ bG) 4)
def zDG:AF:=(FJ (bJ (yJ (bJ (yJ (vJ 3) wJ) zBI) wJ) kR) (gNm 5) (cQ))
def zPV:AF:=(AJ (vJ 4))
def zGP:AF:=zN (zDE) (zN (zDF) (zN (zDG) ((zPV))))
def cR(ds:Bh)(S:Sto):R Er:=xE (zGP (yN zBK ds) S)
def zSR:AZ:=uJ
def zMF:AE:=(fJ 2 yA (yJ (vJ 1) (yJ (dJ xY (kJ (.int 3)) (vJ 0)) wJ)))
def zUH:AF:=(CJ (fJ 2 zBO (yJ (fJ 2 yA (yJ (vJ 0) (yJ (kJ (.int 0)) wJ))) (yJ (kJ (.int 6)) wJ))) 1)
def zUI:AF:=(CJ (fJ 1 nU (yJ (fJ 2 yA (yJ (vJ 0) (yJ (kJ (.int 1)) wJ))) wJ)) 2)
def zUJ:AF:=(CJ (fJ 2 nV (yJ (fJ 2 yA (yJ (vJ 0) (yJ (kJ (.int 2)) wJ))) (yJ (tJ zDN (vJ 1) (bJ (kJ (.int 4)) asI) mJ) wJ))) 3)
def zUK:AF:=(CJ (pJ (bJ (yJ (kJ (.int 6)) wJ) kR) (gNm 0) (zSR) (zMF) 1 [0]) 4)
def zUL:AF:=(CJ (fJ 4 kH (yJ (vJ 4) (yJ (vJ 2) (yJ (tJ zDN (vJ 1) mJ (bJ (kJ (.int 4)) asI)) (yJ (vJ 3) wJ))))) 5)
def zUM:AF:=(CJ (fJ 2 cR (yJ (vJ 2) (yJ (vJ 5) wJ))) 6)
def zUN:AF:=(CJ (fJ 2 zJH (yJ (vJ 2) (yJ (vJ 5) wJ))) 7)
def zUO:AF:=(iJ (qJ (bJ (fJ 2 (zI 4) (yJ (vJ 7) (yJ (vJ 6) wJ))) zHK)) ((AJ (kJ (.bl false)))) (JJ))
def zUP:AF:=(BJ (eJ jS zLS (vJ 7) (yJ (bJ (yJ (kJ (.int 0)) (yJ (kJ (.int 0)) wJ)) zFX) wJ)))
def zPW:AF:=(AJ (fJ 2 (zI 4) (yJ (fJ 2 zJH (yJ (vJ 2) (yJ (vJ 5) wJ))) (yJ (vJ 6) wJ))))
def yIT:AF:=zN (zUH) (zN (zUI) (zN (zUJ) (zN (zUK) (zN (zUL) (zN (zUM) (zN (zUN) (zN (zUO) (zN (zUP) ((zPW))))))))))
def zWW(ds:Bh)(S:Sto):R Er:=xE (yIT (yN yIS ds) S)
end
section
variable(K F:Nat->List (List Nat))(n:Nat)
inductive Kn(i:Nat):List Nat->Prop
 |key {x:Ab}:x∈K i->Kn i x
 |step {x:Ab} (j:Nat):j<n->j≠i->(∀y,y∈K j->Kn i y)->x∈F j->Kn i x
inductive Rc(i:Nat):Nat->Prop
 |self:Rc i i
 |step {x:Ab} (j k:Nat):Rc i j->k<n->x∈F j->x∈F k-> ¬Kn K F n i x->Rc i k
end
def yNL{b:Int}(h:zZC 0 b)(a:Int)(S:Sto):jU (.val (.int a)) (.val (.int b)) S=.ok (.val (.int (a / b))) S:=iP (show zZC a b from h)
def zBQ{S:Sto}{l:Nat}{ds:Bh}{d:MV}(hS:S[l]? =some (.lst ds))(hz:ds.length<1000000):zLS (.val (.loc l)) [.val d] S=.ok (.val .non) (S.set l (.lst (ds++[d]))):=by show zKK (.val (.loc l)) S (λds=>if ds.length<sizeLine then some (ds++[d])else none)=_;unfold zKK;dsimp only;rw [hS];dsimp only;rw [iP (lt_of_lt_of_le hz (fits (le_refl _)))]
theorem jO{S:Sto}{l:Nat}{ds:Bh}(hS:S[l]? =some (.lst ds)):jS (.val (.loc l)) S=true:=by unfold jS;rw [bM hS];rfl
def yIU{S:Sto}{l:Nat}{ds:Bh}{k:Int}{j:Nat}{d:MV}{ρ:Rho}(hS:S[l]? =some (.lst ds))(hj:ixN ds.length k=some j):zWA (.val (.loc l)) (.val (.int k)) d ρ S=.ok ρ (S.set l (.lst (ds.set j d))):=by unfold zWA;dsimp only;rw [hS];dsimp only;rw [hj]
def zSS{S:Sto}{l:Nat}{ds:Bh}(hS:S[l]? =some (.lst ds)):zGA [.val (.loc l)] S=.ok (.val (.tup ds)) S:=by show(match kL S (.val (.loc l))with |some ds=>R.ok (Er.val (.tup ds)) S|none=>.no)=_;rw [bM hS]
theorem zEE(ds:Bh)(S:Sto):zBI [.val (.tup ds)] S=.ok (.val (.int ds.length)) S:=rfl
theorem zBR(gf:MV->Rho->Sto->R Rho)(ρ:Rho)(d:MV)(S:Sto):asgF gf ρ (.val d) S=(gf d ρ S).bind λρ' S2=>.ok (.next ρ') S2:=rfl
def tbl(p:Int×Int):MV:=.tup [.int p.1,.int p.2]
mutual
def pd:MV->Bool
 |.int _=>true
 |.str _=>true
 |.tup ds=>pdL ds
 |_=>false
def pdL:List MV->Bool
 |[]=>true
 |d::ds=>pd d&&pdL ds
end

mutual
def dpt:MV->Nat
 |.tup ds=>zUQ ds+1
 |_=>0
def zUQ:List MV->Nat
 |[]=>0
 |d::ds=>max (dpt d) (zUQ ds)
end

def zMG(ds:Bh):pd (.tup ds)=pdL ds:=by rw [pd]
def zNX:pdL []=true:=by rw [pdL]
def gQ(d:MV)(ds:Bh):pdL (d::ds)=(pd d&&pdL ds):=by rw [pdL]
def zKW(ds:Bh):dpt (.tup ds)=zUQ ds+1:=by rw [dpt]
def jP(d:MV)(ds:Bh):zUQ (d::ds)=max (dpt d) (zUQ ds):=by rw [zUQ]
def zKX:zUQ []=0:=by rw [zUQ]
def zMH(i:Int):pd (.int i)=true:=by rw [pd]
def cS(i:Ab):pd (.str i)=true:=by rw [pd]
def zKY(i:Int):dpt (.int i)=0:=by simp [dpt]
def zGQ(i:Ab):dpt (.str i)=0:=by simp [dpt]
theorem zUR: ∀{ds:Bh},pdL ds=true-> ∀d∈ds,pd d=true
 |[],_,d,h=>by simp at h
 |e::ds,hp,d,h=>by
  rw [gQ,aE]at hp;rcases mC.mp h with rfl|h
  ·exact hp.1
  ·exact zUR hp.2 d h
theorem zWX: ∀{ds:Bh}, ∀d∈ds,dpt d<=zUQ ds
 |[],d,h=>by simp at h
 |e::ds,d,h=>by
  rw [jP];rcases mC.mp h with rfl|h
  ·exact Nat.le_max_left _ _
  ·exact le_trans (zWX d h) (Nat.le_max_right _ _)
def zWY{d:MV}(h:pd d=true):(∃i,d=.int i)\/(∃x,d=.str x)\/ ∃ds,d=.tup ds/\pdL ds=true:=by
 cases d with
 |int i=>exact .inl ⟨i,rfl⟩
 |str x=>exact .inr (.inl ⟨x,rfl⟩)
 |tup ds=>exact .inr (.inr ⟨ds,rfl,by rw [<-zMG];exact h⟩)
 |_=>rw [pd]at h<;>first |cases h|(intros;simp)
def dec_is{p:Prop}[Decidable p]{q:Prop}[Decidable q](h:p↔q):decide p=decide q:=by
 by_cases hq:q
 ·rw [dT0 hq,dT0 (h.mpr hq)]
 ·rw [dF0 hq,dF0 λz=>hq (h.mp z)]
theorem zWZ{e:MV->MV->Option Bool}: ∀{ds es:Bh},(∀d∈ds, ∀f∈es,e d f=some (decide (d=f)))-> ∃bs,prs e ds es=some bs/\(bs.all id&&ds.length==es.length)=decide (ds=es)
 |[],[],_=>⟨[],rfl,by simp⟩
 |[],_::_,_=>⟨[],rfl,by simp⟩
 |_::_,[],_=>⟨[],rfl,by simp⟩
 |d::ds,f::es,h=>by
  obtain⟨bs,h1,h2⟩:=zWZ (e:=e) (ds:=ds) (es:=es) λa ha b hb=>h a (mO _ ha) b (mO _ hb);refine⟨decide (d=f)::bs,?_,?_⟩
  ·unfold prs;rw [h d mF0 f mF0,h1];rfl
  ·by_cases hd:d=f
   ·subst hd;rw [all_cons,dT0 rfl];simp only [id,Bool.true_and,lC];rw [show(ds.length+1==es.length+1)=(ds.length==es.length) by simp,h2];exact dec_is (by simp)
   ·rw [all_cons,dF0 hd];rw [dF0 (show¬(d::ds=f::es)from λz=>hd (List.cons.inj z).1)];rfl
theorem zXA{S:Sto}: ∀(n:Nat){d e:MV},pd d=true->pd e=true->dpt d<n->eqv S n d e=some (decide (d=e))
 |0,d,e,_,_,h=>by omega
 |n+1,d,e,hd,he,h=>by
  rcases zWY hd with⟨i,rfl⟩|⟨x,rfl⟩|⟨ds,rfl,pds⟩<;>rcases zWY he with⟨j,rfl⟩|⟨y,rfl⟩|⟨es,rfl,pes⟩
  ·rw [zIX];exact congrArg some (dec_is (by simp))
  ·rw [yRP,dF0 (by simp)]
  ·rw [dF0 (by simp)];rfl
  ·rw [yRQ,dF0 (by simp)]
  ·rw [yBD];exact congrArg some (dec_is (by simp))
  ·rw [dF0 (by simp)];rfl
  ·rw [dF0 (by simp)];rfl
  ·rw [dF0 (by simp)];rfl
  ·rw [zKW]at h;obtain⟨bs,h1,h2⟩:=zWZ (e:=eqv S n) (ds:=ds) (es:=es) λa ha b hb=>zXA n (zUR pds a ha) (zUR pes b hb) (by have:=zWX a ha;omega);show((prs (eqv S n) ds es).map λbs=>bs.all id&&ds.length==es.length)=_;rw [h1];show some (bs.all id&&ds.length==es.length)=_;rw [h2];exact congrArg some (dec_is (by simp))
theorem zPX{S:Sto}{d:MV}(hd:pd d=true): ∀{ys:Bh},(∀y∈ys,pd y=true/\dpt y<40)->zVX S zQ d ys=some (ys.map λy=>decide (y=d))
 |[],_=>rfl
 |y::ys,h=>by have h1:=h y mF0;unfold zVX;rw [zXA zQ h1.1 hd (by unfold zQ;exact h1.2),zPX hd λz hz=>h z (mO _ hz)];rfl
theorem ySO(i:Int)(S:Sto):zBZ [.val (.int i),.val (.typ "int")] S=.ok (.val (.bl true)) S:=rfl
theorem ySP(i:Int)(S:Sto):zBZ [.val (.int i),.val (.typ "bool")] S=.ok (.val (.bl false)) S:=rfl
def zNY{n:Nat}{F:List MV->Sto->R Er}{rs:List Er}{S:Sto}{b:Bool}(hn:rs.length=n)(hF:F (zR rs S).1 (zR rs S).2=.ok (.val (.bl b)) S):zW n F rs S=.ok (.val (.bl b)) S:=zFD hn hF (yBC _ _) (λl=>by simp)
def SqM(S:Sto)(m:MV)(ds:Bh):Prop:=m=.tup ds\/ ∃l,m=.loc l/\S[l]? =some (.lst ds)
def SqM.len{S:Sto}{m:MV}{ds:Bh}(h:SqM S m ds):zBI [.val m] S=.ok (.val (.int ds.length)) S:=by
 rcases h with rfl|⟨l,rfl,hS⟩
 ·rfl
 ·exact zDW hS
def zXB{n:Nat}{F:List MV->Sto->R Er}{rs:List Er}{S T:Sto}{r:Er}{ds:Bh}{as:Bh}{S2:Sto}(hn:rs.length=n)(hE:zR rs S=(as,S2))(hF:F as S2=.ok r (S++T))(hr:r=.new ds\/ ∃l,r=.val (.loc l)/\S.length<=l/\(S++T)[l]? =some (.lst ds))(h:loL S.length ds):zW n F rs S=.ok (.new ds) S:=by
 have hF':F (zR rs S).1 (zR rs S).2=.ok r (S++T):=by rw [hE];exact hF
 rcases hr with rfl|⟨l,rfl,h1,h2⟩
 ·exact gF hn hF' h
 ·exact zFC hn hF' h1 h2 h
theorem yNM(neg:Bool)(p:Er)(l:Nat)(S:Sto):inF neg p (.val (.loc l)) S=zLP neg p (.val (.loc l)) S:=by
 unfold inF;split
 ·rename_i h;cases h
 ·rfl
def zEF{S:Sto}{l:Nat}{d:MV}{ys:Bh}(neg:Bool)(hS:S[l]? =some (.lst ys))(hd:pd d=true)(h: ∀y∈ys,pd y=true/\dpt y<40):inF neg (.val d) (.val (.loc l)) S=.ok (.val (.bl (if neg=true then !decide (d∈ys)else decide (d∈ys)))) S:=by
 have e1:itemsOf S (.val (.loc l))=some ys:=by unfold itemsOf;exact bM hS
 rw [yNM];unfold zLP;dsimp only;rw [e1];dsimp only;rw [zPX hd h];dsimp only
 have ha:(ys.map λy=>decide (y=d)).any id=decide (d∈ys):=by
  rw [List.any_map];by_cases hm:d∈ys
  ·rw [dT0 hm,any_eq_true];exact⟨d,hm,by simp⟩
  ·rw [dF0 hm];rw [List.any_eq_false];intro y hy;simp only [Function.comp,id,decide_eq_true_eq];rintro rfl;exact hm hy
 rw [ha]
abbrev VAR:List Nat:=[118,97,114]
abbrev IS:List Nat:=[105,115]
def zXC(d:MV):Prop:=(∃x,d=.tup [.str VAR,.str x])\/ ∃v,((∃i,v=.int i)\/ ∃x,v=.str x)/\d=.tup [.str IS,v]
mutual
theorem zST{n:Nat}: ∀{d:MV},pd d=true->lo n d
 |.int i,_=>zHQ n i
 |.str x,_=>zLT n x
 |.tup ds,h=>zGC (yIV (by rw [zMG]at h;exact h))
 |.non,_=>yHJ n
 |.bl b,_=>yBC n b
 |.scr ds,h=>by unfold pd at h;cases h
 |.loc l,h=>by unfold pd at h;cases h
 |.typ t,h=>by unfold pd at h;cases h
theorem yIV{n:Nat}: ∀{ds:Bh},pdL ds=true->loL n ds
 |[],_=>kZ λd hd=>by simp at hd
 |d::ds,h=>by rw [gQ,aE]at h;unfold loL;exact⟨zST h.1,yIV h.2⟩
end

def yIW{d:MV}(h:zXC d):pd d=true/\dpt d<=1:=by
 rcases h with⟨x,rfl⟩|⟨v,⟨i,rfl⟩|⟨x,rfl⟩,rfl⟩
 ·exact⟨by rw [zMG,gQ,gQ,zNX,cS,cS];rfl,by rw [zKW,jP,jP,zKX,zGQ,zGQ];decide⟩
 ·exact⟨by rw [zMG,gQ,gQ,zNX,cS,zMH];rfl,by rw [zKW,jP,jP,zKX,zGQ,zKY];decide⟩
 ·exact⟨by rw [zMG,gQ,gQ,zNX,cS,cS];rfl,by rw [zKW,jP,jP,zKX,zGQ,zGQ];decide⟩
def vn:MV->Option (List Nat)
 |.tup [.str w,.str x]=>if w=VAR then some x else none
 |_=>none
def yAA(x:Ab):vn (.tup [.str VAR,.str x])=some x:=by simp [vn]
def yIX(S:Sto):eqF (.val (.str VAR)) (.val (.str VAR)) S=.ok (.val (.bl true)) S:=by rw [eq_str,dT0 rfl]
def yIY(S:Sto):eqF (.val (.str IS)) (.val (.str VAR)) S=.ok (.val (.bl false)) S:=by rw [eq_str,dF0 (by decide)]
def zL(S:Sto)(o:MO):(S++[o])[S.length]? =some o:=by simp
def xT(S:Sto)(o o':MO):(S++[o]).set S.length o'=S++[o']:=by simp
def zJI{fs:Aa}: ∀y∈fs.map MV.str,pd y=true/\dpt y<40:=λd hd=>by obtain⟨u,_,rfl⟩:=mM.mp hd;exact⟨cS u,by rw [zGQ];decide⟩
def zKZ{x:Ab}{fs:Aa}:MV.str x∈fs.map MV.str↔x∈fs:=⟨λh=>by obtain⟨u,hu,e⟩:=mM.mp h;cases e;exact hu,λh=>mM.mpr ⟨x,h,rfl⟩⟩
theorem zUS(a b:MV)(S:Sto):ixF (.val (.tup [a,b])) (.val (.int 0)) S=.ok (.val a) S:=rfl
theorem zNJ(a b:MV)(S:Sto):ixF (.val (.tup [a,b])) (.val (.int 1)) S=.ok (.val b) S:=rfl
def SqM.itQ{S:Sto}{m:MV}{ds:Bh}(h:SqM S m ds): ∃gs,(∀T,stay gs (S++T))/\ ∀T,itQ (.val m) (S++T)=.ok ⟨ds,gs⟩ (S++T):=by
 rcases h with rfl|⟨l,rfl,hS⟩
 ·exact⟨[],λT=>yO _,λT=>rfl⟩
 ·have hT: ∀T,(S++T)[l]? =some (.lst ds):=λT=>by rw [getElem?_append_left (gS0.mp hS).1];exact hS
  refine⟨[(l,ds)],λT=>zFE (hT T),λT=>?_⟩;have e:srcOf (S++T) (.val (.loc l))=some ⟨true,ds,[(l,ds)]⟩:=by unfold srcOf;dsimp only;rw [hT T]
  unfold L2.M.itQ;rw [e]
def zXD{kvs:Ca}{k:MV}(h:(look kvs k).isSome=true):k∈kvs.map (·.1):=by unfold look at h;rw [Option.isSome_map]at h;obtain⟨p,hp⟩:=Option.isSome_iff_exists.mp h;have h1:=List.find?_some hp;exact mM.mpr ⟨p,List.mem_of_find?_eq_some hp,of_decide_eq_true h1⟩
def tup2(a b:MV)(S:Sto):zFX [.val a,.val b] S=.ok (.val (.tup [a,b])) S:=zZH (by simp)
theorem zPY(ds:Bh)(S:Sto):itT (.val (.tup ds)) S=.ok ⟨ds,[]⟩ S:=rfl
def lst1(a:MV)(S:Sto):bG [.val a] S=.ok (.new [a]) S:=zHR (by simp)
def zER(ks:Aa)(x:Ab):List (List Nat):=if x∈ks then ks else ks++[x]
def zXE(ks:Aa)(x y:Ab):y∈zER ks x↔y∈ks\/y=x:=by
 unfold zER;split
 ·rename_i h;exact⟨.inl,λz=>z.elim id λe=>e▸h⟩
 ·rw [mem_append,mS]
def yBV{ks:Aa}(h:ks.Nodup)(x:Ab):(zER ks x).Nodup:=by
 unfold zER;split
 ·exact h
 ·rename_i hx;exact nodup_append.mpr ⟨h,by simp,λa ha b hb=>by rw [mS.mp hb];rintro rfl;exact hx ha⟩
def zXF(ks:Aa)(x:Ab):(zER ks x).length<=ks.length+1:=by
 unfold zER;split
 ·omega
 ·rw [lA,lS];omega
def zAZ(ks xs:Aa):List (List Nat):=xs.foldl zER ks
theorem zAG: ∀(xs ks:Aa)(y:Ab),y∈zAZ ks xs↔y∈ks\/y∈xs
 |[],ks,y=>by simp [zAZ]
 |x::xs,ks,y=>by show y∈zAZ (zER ks x) xs↔_;rw [zAG xs,zXE,mC,or_assoc]
theorem zUT: ∀(xs:Aa){ks:Aa},ks.Nodup->(zAZ ks xs).Nodup
 |[],_,h=>h
 |x::xs,_,h=>zUT xs (yBV h x)
theorem zFS: ∀(xs ks:Aa),(zAZ ks xs).length<=ks.length+xs.length
 |[],ks=>le_refl _
 |x::xs,ks=>by have h1:=zFS xs (zER ks x);have h2:=zXF ks x;show(zAZ (zER ks x) xs).length<=_;rw [lC];omega
def dT(ks:Aa):List (MV×MV):=ks.map λx=>(.str x,.bl true)
theorem zUU(ks:Aa):(dT ks).map (·.1)=ks.map MV.str:=by unfold dT;rw [map_map];rfl
def yBW(ks:Aa)(x:Ab):(look (dT ks) (.str x)).isSome=decide (x∈ks):=by
 by_cases h:x∈ks
 ·rw [dT0 h];unfold look;rw [Option.isSome_map,List.find?_isSome];exact⟨(.str x,.bl true),mM.mpr ⟨x,h,rfl⟩,by simp⟩
 ·rw [dF0 h]
  cases z:(look (dT ks) (.str x)).isSome with
  |false=>rfl
  |true=>
   have:=zXD z;rw [zUU]at this;exact absurd (zKZ.mp this) h
theorem yIZ(ks:Aa)(x:Ab):putK (dT ks) (.str x) (.bl true)=dT (zER ks x):=by
 unfold putK zER;rw [yBW];by_cases h:x∈ks
 ·rw [iP h,iP (dT0 h)];unfold dT;rw [map_map];refine List.map_congr_left λy _=>?_;show(if MV.str y=MV.str x then(MV.str y,MV.bl true)else(MV.str y,MV.bl true))=_;split<;>rfl
 ·rw [iN h,iN (by rw [dF0 h];exact xF0)];unfold dT;rw [map_append];rfl
theorem zMX(ks:Aa):(dT ks).all (λp=>zKP p.1)=true:=by unfold dT;rw [all_map,all_eq_true];intro x _;rfl
def zIK{S:Sto}{l:Nat}{kvs:Ca}(h:S[l]? =some (.dic kvs))(ha:kvs.all (λp=>zKP p.1)=true):zKQ S (.val (.loc l))=some (l,kvs):=by unfold zKQ;dsimp only;rw [h];dsimp only;rw [iP ha]
def yBX{S:Sto}{l:Nat}{ks:Aa}(h:S[l]? =some (.dic (dT ks)))(hl:ks.length<1000000)(x:Ab)(ρ:Rho):zHT (.val (.loc l)) (.val (.str x)) (.bl true) ρ S=.ok ρ (S.set l (.dic (dT (zER ks x)))):=by unfold zHT;dsimp only;rw [zIK h (zMX ks)];dsimp only;rw [iP ⟨rfl,by unfold dT;rw [lM];exact hl⟩,yIZ]
def yJA{S:Sto}{l:Nat}{ks:Aa}(h:S[l]? =some (.dic (dT ks))):zHU [.val (.loc l)] S=.ok (.new (ks.map MV.str)) S:=by unfold zHU;dsimp only;rw [zIK h (zMX ks)];dsimp only;rw [zUU]
abbrev D4(m:MV)(n:Nat)(a t:Bi):Rho:=[some m,some (.loc n),a,t]
theorem zMI{S:Sto}{m:MV}{a:Bi}: ∀(tms:Bh),(∀d∈tms,zXC d)-> ∀(ks:Aa)(t:Bi),ks.length+tms.length<1000->
  ∃t',kY (gNm 3) zBL [] tms (D4 m S.length a t) (S++[.dic (dT ks)])=.ok (.next (D4 m S.length a t')) (S++[.dic (dT (zAZ ks (tms.filterMap vn)))])
 |[],_,ks,t,_=>⟨t,rfl⟩
 |d::tms,hT,ks,t,hl=>by
  rw [lC]at hl;rcases hT d mF0 with⟨x,rfl⟩|⟨v,hv,rfl⟩
  ·have hal:=zXF ks x;obtain⟨t',ih⟩:=zMI (S:=S) (m:=m) (a:=a) tms (λe he=>hT e (mO _ he)) (zER ks x) (some (.tup [.str VAR,.str x])) (by omega);refine⟨t',?_⟩;rw [zS (show gNm 3 (.tup [.str VAR,.str x]) (D4 m S.length a t) (S++[.dic (dT ks)])=.ok (D4 m S.length a (some (.tup [.str VAR,.str x]))) (S++[.dic (dT ks)])from rfl) (ρ':=D4 m S.length a (some (.tup [.str VAR,.str x]))) (S':=S++[.dic (dT (zER ks x))]) ?_ (yO _)]
   ·rw [filterMap_cons,yAA];exact ih
   ·unfold zBL zCD;simp? [zUS,zNJ,yIX,zBR,yBX (zL S (.dic (dT ks))) (show ks.length<1000000 by omega),xT]
  ·obtain⟨t',ih⟩:=zMI (S:=S) (m:=m) (a:=a) tms (λe he=>hT e (mO _ he)) ks (some (.tup [.str IS,v])) (by omega)
   have hv0:vn (.tup [.str IS,v])=none:=by
    cases v with
    |str y=>simp [vn]
    |_=>rfl
   refine⟨t',?_⟩;rw [zS (show gNm 3 (.tup [.str IS,v]) (D4 m S.length a t) (S++[.dic (dT ks)])=.ok (D4 m S.length a (some (.tup [.str IS,v]))) (S++[.dic (dT ks)])from rfl) (ρ':=D4 m S.length a (some (.tup [.str IS,v]))) (S':=S++[.dic (dT ks)]) ?_ (yO _)]
   ·rw [filterMap_cons,hv0];exact ih
   ·unfold zBL zCD;simp? [zUS,zNJ,yIY,fT,iF]
def nmL(tms:Bh):List (List Nat):=zAZ [] (tms.filterMap vn)
theorem yNN{tm0:MV}{tms:Bh}(hT: ∀d∈tms,zXC d)(hl:tms.length<=100)(S:Sto):zW 1 dB [.new [.tup [tm0,.tup tms]]] S=.ok (.new ((nmL tms).map MV.str)) S:=by
 obtain⟨S1,hS1⟩: ∃S1:Sto,S1=S++[.lst [.tup [tm0,.tup tms]]]:=⟨_,rfl⟩
 have hq:S1[S.length]? =some (.lst [.tup [tm0,.tup tms]]):=by rw [hS1];exact zL _ _
 obtain⟨gs,hg,hit⟩:=(show SqM S1 (.loc S.length) [.tup [tm0,.tup tms]]from .inr ⟨_,rfl,hq⟩).itQ;obtain⟨t',h4⟩:=zMI (S:=S1) (m:=.loc S.length) (a:=some (.tup [tm0,.tup tms])) tms hT [] none (by simp only [length_nil];omega);have hs:yN zJX [.loc S.length]=[some (.loc S.length),none,none,none]:=rfl;have e1:zGE [some (.loc S.length),none,none,none] S1=.ok (.next (D4 (.loc S.length) S1.length none none)) (S1++[.dic (dT [])]):=by unfold zGE;simp? [zWB];rfl
 have hb:zGD (D4 (.loc S.length) S1.length (some (.tup [tm0,.tup tms])) none) (S1++[.dic (dT [])])=.ok (.next (D4 (.loc S.length) S1.length (some (.tup [tm0,.tup tms])) t')) (S1++[.dic (dT (nmL tms))]):=by unfold zGD zHY;simp? [zNJ,zPY];exact h4
 have e2:zGF (D4 (.loc S.length) S1.length none none) (S1++[.dic (dT [])])=.ok (.next (D4 (.loc S.length) S1.length (some (.tup [tm0,.tup tms])) t')) (S1++[.dic (dT (nmL tms))]):=by unfold zGF;simp? [hit];rw [zS (show gNm 2 (.tup [tm0,.tup tms]) (D4 (.loc S.length) S1.length none none) (S1++[.dic (dT [])])=.ok (D4 (.loc S.length) S1.length (some (.tup [tm0,.tup tms])) none) (S1++[.dic (dT [])])from rfl) hb (hg _)];rfl
 have e3:zGG (D4 (.loc S.length) S1.length (some (.tup [tm0,.tup tms])) t') (S1++[.dic (dT (nmL tms))])=.ok (.ret (.new ((nmL tms).map MV.str))) (S1++[.dic (dT (nmL tms))]):=by unfold zGG;simp? [yJA (zL S1 (.dic (dT (nmL tms))))]
 refine gF (T:=[.lst [.tup [tm0,.tup tms]],.dic (dT (nmL tms))]) rfl ?_ (kZ λd hd=>by obtain⟨y,_,rfl⟩:=mM.mp hd;exact zLT _ _);show dB [.loc S.length] (S++[.lst [.tup [tm0,.tup tms]]])=_;rw [<-hS1];unfold dB zPT;rw [hs,zC e1,zC e2,e3,hS1,aA];rfl
theorem zMY{S:Sto}{gf:MV->Rho->Sto->R Rho}{cf:AZ}{ef:AX}{ρb:Rho}{gs:Bk}{p:MV->Bool}(hs:stay gs S):
  ∀{ds:Bh},(∀d∈ds, ∃ρ1,gf d ρb S=.ok ρ1 S/\cf ρ1 S=.ok (p d) S/\ef ρ1 S=.ok (.val d) S)->yY gf cf ef ρb gs ds S=.ok (ds.filter p) S
 |[],_=>rfl
 |d::ds,st=>by
  obtain⟨ρ1,h1,h2,h3⟩:=st d mF0;have e:=zMY hs (p:=p) (ds:=ds) λd hd=>st d (mO _ hd);unfold yY
  cases hp:p d with
  |true=>
   rw [h1,yW,bok,h2,yW,bok,hp,iP rfl,h3,yW,bok];unfold dA;rw [bok,iP hs,e,List.filter_cons_of_pos hp];rfl
  |false=>
   rw [h1,yW,bok,h2,yW,bok,hp,iN xF0,iP hs,e,List.filter_cons_of_neg (by rw [hp];exact xF0)]
def yNO(neg:Bool)(p:Er)(ds:Bh)(S:Sto):inF neg p (.val (.tup ds)) S=zLP neg p (.val (.tup ds)) S:=by unfold inF;split<;>first |rfl|(rename_i h;cases h)
def yJB{S:Sto}{x:Ab}{fs:Aa}(neg:Bool):inF neg (.val (.str x)) (.val (.tup (fs.map MV.str))) S=.ok (.val (.bl (if neg=true then !decide (x∈fs)else decide (x∈fs)))) S:=by
 have e1:itemsOf S (.val (.tup (fs.map MV.str)))=some (fs.map MV.str):=rfl;rw [yNO];unfold zLP;dsimp only;rw [e1];dsimp only;rw [zPX (cS x) zJI];dsimp only
 have h:((fs.map MV.str).map λy=>decide (y=MV.str x)).any id=decide (x∈fs):=by
  rw [List.any_map];by_cases hm:x∈fs
  ·rw [dT0 hm,any_eq_true];exact⟨.str x,mM.mpr ⟨x,hm,rfl⟩,by simp⟩
  ·rw [dF0 hm,List.any_eq_false];intro y hy;obtain⟨z,hz,rfl⟩:=mM.mp hy;simp only [Function.comp,id,decide_eq_true_eq];intro e;cases e;exact hm hz
 rw [h]
def fnL(hs:Aa)(tms:Bh):List (List Nat):=(nmL tms).filter λx=>!decide (x∈hs)
theorem yBY{hs:Aa}{at' tm0:MV}{tms:Bh}(hT: ∀d∈tms,zXC d)(hl:tms.length<=100)(S:Sto):zW 2 xK [.val (.tup [.tup (hs.map MV.str),at']),.val (.tup [tm0,.tup tms])] S=.ok (.new ((fnL hs tms).map MV.str)) S:=by
 have hnl:(nmL tms).length<=tms.length:=by have h1:=zFS (tms.filterMap vn) [];have h2:=length_filterMap_le vn tms;rw [length_nil]at h1;unfold nmL;omega
 have hcf:=zMY (S:=S) (gf:=gNm 0) (cf:=dC) (ef:=zFH) (ρb:=[none,some (.tup [.tup (hs.map MV.str),at'])]) (gs:=[]) (p:=λd=>match d with |.str x=>!decide (x∈hs)|_=>false) (yO S) (ds:=(nmL tms).map MV.str) λd hd=>by obtain⟨y,hy,rfl⟩:=mM.mp hd;refine⟨[some (.str y),some (.tup [.tup (hs.map MV.str),at'])],rfl,?_,rfl⟩;unfold dC;simp? [zUS,yJB,if_true]
 have hfm:((nmL tms).map MV.str).filter (λd=>match d with |.str x=>!decide (x∈hs)|_=>false)=(fnL hs tms).map MV.str:=by unfold fnL;rw [List.filter_map];rfl
 rw [hfm]at hcf;have hlt:((nmL tms).map MV.str).length<1000000:=by rw [lM];omega
 refine gF (T:=[]) rfl ?_ (kZ λd hd=>by obtain⟨y,_,rfl⟩:=mM.mp hd;exact zLT _ _);rw [aN];show xE (zGH [some (.tup [.tup (hs.map MV.str),at']),some (.tup [tm0,.tup tms])] S)=_;have e1:zCE [some (.tup [.tup (hs.map MV.str),at']),some (.tup [tm0,.tup tms])] S=.ok (.ret (.new ((fnL hs tms).map MV.str))) S:=by unfold zCE;simp? [lst1,yNN hT hl,show∀(ds:Bh)(S:Sto),itL (.new ds) S=.ok ⟨ds,[]⟩ S from λ_ _=>rfl,hlt,show blk 1 [0] [some (MV.tup [.tup (hs.map MV.str),at']),some (.tup [tm0,.tup tms])]=[none,some (.tup [.tup (hs.map MV.str),at'])]from rfl,hcf]
 unfold zGH;rw [e1];rfl
def zXG{hs:Aa}{tms:Bh}{x:Ab}:x∈fnL hs tms↔x∈tms.filterMap vn/\x∉hs:=by unfold fnL nmL;rw [mem_filter,zAG];simp
theorem zNZ(ds:Bh)(l h:Bc)(S:Sto):zDN (.val (.tup ds)) l h S=.ok (.val (.tup (bD ds l h))) S:=rfl
theorem ySQ{ts:Ac}{t:Int}{p:Int×Int}{hs:Aa}{at':MV}{tms:Bh}(hd:atI (ts.map tbl) t=some (tbl p))(h0:0<=p.2)(hT: ∀d∈tms,zXC d)(hl:tms.length<=100)(S:Sto):
  zW 3 bC [.val (.tup (ts.map tbl)),.val (.tup [.tup (hs.map MV.str),at']),.val (.tup [.int t,.tup tms])] S=.ok (.new ((fnL hs (tms.take p.2.toNat)).map MV.str)) S:=by
 refine gF (T:=[]) rfl ?_ (kZ λd hd=>by obtain⟨y,_,rfl⟩:=mM.mp hd;exact zLT _ _);rw [aN];show xE (zHZ [some (.tup (ts.map tbl)),some (.tup [.tup (hs.map MV.str),at']),some (.tup [.int t,.tup tms]),none] S)=_;have e1:zEM [some (.tup (ts.map tbl)),some (.tup [.tup (hs.map MV.str),at']),some (.tup [.int t,.tup tms]),none] S=.ok (.next [some (.tup (ts.map tbl)),some (.tup [.tup (hs.map MV.str),at']),some (.tup [.int t,.tup tms]),some (.int p.2)]) S:=by unfold zEM;simp? [zUS,ix_tup (S:=S) hd,show∀S:Sto,ixF (.val (tbl p)) (.val (.int 1)) S=.ok (.val (.int p.2)) S from λ_=>rfl]
 have hf:=yBY (hs:=hs) (at':=at') (tm0:=.int t) (tms:=tms.take p.2.toNat) (λd hd=>hT d (mem_of_mem_take hd)) (by rw [lT];omega) S;have e2:zEN [some (.tup (ts.map tbl)),some (.tup [.tup (hs.map MV.str),at']),some (.tup [.int t,.tup tms]),some (.int p.2)] S=.ok (.ret (.new ((fnL hs (tms.take p.2.toNat)).map MV.str))) S:=by unfold zEN;simp? [zUS,zNJ,zNZ,nP _ _ h0,tup2,hf]
 unfold zHZ;rw [zC e1,e2];rfl
def yNP{hs:Aa}{tms:Bh}{k:Nat}{x:Ab}(h:x∈fnL hs (tms.take k)):x∈fnL hs tms:=by rw [zXG]at h ⊢;refine⟨?_,h.2⟩;obtain⟨d,hd,e⟩:=mem_filterMap.mp h.1;exact mem_filterMap.mpr ⟨d,mem_of_mem_take hd,e⟩
theorem zBV{α:Type}{f g:α->MV}{S:Sto}{gf:MV->Rho->Sto->R Rho}{cf:AZ}{ef:AX}{ρb:Rho}{gs:Bk}(hs:stay gs S):
  ∀{ds:List α},(∀d∈ds, ∃ρ1,gf (f d) ρb S=.ok ρ1 S/\cf ρ1 S=.ok true S/\ef ρ1 S=.ok (.val (g d)) S)->yY gf cf ef ρb gs (ds.map f) S=.ok (ds.map g) S
 |[],_=>rfl
 |d::ds,st=>by obtain⟨ρ1,h1,h2,h3⟩:=st d mF0;have e:=zBV hs (f:=f) (g:=g) (ds:=ds) λd hd=>st d (mO _ hd);rw [map_cons];unfold yY;rw [h1,yW,bok,h2,yW,bok,iP rfl,h3,yW,bok];unfold dA;rw [bok,iP hs,e];rfl
theorem yAB{α:Type}(f:α->Bool): ∀xs:List α,zHB (xs.map λx=>.bl (f x))=some (xs.map f)
 |[]=>rfl
 |x::xs=>by rw [map_cons,map_cons];unfold zHB;rw [yAB f xs];rfl
theorem yBZ{α:Type}(f:α->Bool)(xs:List α)(S:Sto):allF [.new (xs.map λx=>.bl (f x))] S=.ok (.val (.bl (xs.all f))) S:=by show(match (some (xs.map λx=>MV.bl (f x))).bind zHB with |some bs=>R.ok (Er.val (.bl (bs.all id))) S|none=>.no)=_;rw [show(some (xs.map λx=>MV.bl (f x))).bind zHB=some (xs.map f)from yAB f xs];show R.ok (Er.val (.bl ((xs.map f).all id))) S=_;rw [all_map];rfl
theorem yNQ{α:Type}(f:α->Bool)(xs:List α)(S:Sto):anyF [.new (xs.map λx=>.bl (f x))] S=.ok (.val (.bl (xs.any f))) S:=by show(match (some (xs.map λx=>MV.bl (f x))).bind zHB with |some bs=>R.ok (Er.val (.bl (bs.any id))) S|none=>.no)=_;rw [show(some (xs.map λx=>MV.bl (f x))).bind zHB=some (xs.map f)from yAB f xs];show R.ok (Er.val (.bl ((xs.map f).any id))) S=_;rw [List.any_map];rfl
def yFD{α:Type}(ds:List α)(j:Nat):bD ds none (some (j:Int))=ds.take j:=by
 unfold bD;rw [HT.sIx_nat,show HT.sIx ds.length 0 none=0 from rfl,drop_zero,sub_zero];by_cases h:j<=ds.length
 ·rw [min_eq_left h]
 ·rw [Nat.min_eq_right (by omega),take_of_length_le (le_refl _),take_of_length_le (by omega)]
def zMJ{α:Type}(ds:List α)(j:Nat):bD ds (some (j:Int)) none=ds.drop j:=by
 unfold bD;rw [HT.sIx_nat,show HT.sIx ds.length ds.length none=ds.length from rfl];by_cases h:j<=ds.length
 ·rw [min_eq_left h,take_of_length_le (by rw [length_drop];exact le_refl _)]
 ·rw [Nat.min_eq_right (by omega),List.drop_of_length_le (le_refl _),List.drop_of_length_le (show ds.length<=j by omega),List.take_nil]
def zLA{α β:Type}(f:α->β)(xs:List α)(i:Int):atI (xs.map f) i=(atI xs i).map f:=by
 unfold atI;rw [lM]
 cases ixN xs.length i with
 |none=>rfl
 |some j=>exact getElem?_map
def zDH{α:Type}{xs:List α}{k:Nat}{x:α}(h:xs[k]? =some x):atI xs (k:Int)=some x:=L2.atI_nat h
abbrev prT(x:Ab):MV:=.tup [.str x,.bl true]
theorem zXH: ∀xs:List (List Nat),zHV (xs.map prT)=some (dT xs)
 |[]=>rfl
 |x::xs=>by rw [map_cons];unfold zHV;rw [iP (show zKP (.str x)=true from rfl),zXH xs];rfl
theorem zUV: ∀(xs ks:Aa),yBR (dT ks) (dT xs)=dT (zAZ ks xs)
 |[],ks=>rfl
 |x::xs,ks=>by show yBR (putK (dT ks) (.str x) (.bl true)) (dT xs)=dT (zAZ (zER ks x) xs);rw [yIZ,zUV xs]
def yCA(xs:Aa)(S:Sto):zWM [.new (xs.map prT)] S=.ok (.val (.loc S.length)) (S++[.dic (dT (zAZ [] xs))]):=by show(match zHV (xs.map prT)with |some kvs=>R.ok (Er.val (.loc S.length)) (S++[MO.dic (yII kvs)])|none=>.no)=_;rw [zXH];show R.ok (Er.val (.loc S.length)) (S++[MO.dic (yBR (dT []) (dT xs))])=_;rw [zUV]
def yJC{S:Sto}{l:Nat}{ks:Aa}(neg:Bool)(h:S[l]? =some (.dic (dT ks)))(x:Ab):zLX neg (.val (.str x)) (.val (.loc l)) S=.ok (.val (.bl (if neg=true then !decide (x∈ks)else decide (x∈ks)))) S:=by unfold zLX;dsimp only;rw [zIK h (zMX ks)];dsimp only;rw [iP (show zKP (.str x)=true from rfl),yBW]
def yCB{S:Sto}{l:Nat}{ks:Aa}(h:S[l]? =some (.dic (dT ks))):zSN [.val (.loc l)] S=.ok (.val (.int ks.length)) S:=by unfold zSN;dsimp only;rw [zIK h (zMX ks)];dsimp only;rw [show(dT ks).length=ks.length by unfold dT;rw [lM]]
theorem yNR{S:Sto}{l:Nat}{ks:Aa}(h:S[l]? =some (.dic (dT ks))):isDx (.val (.loc l)) S=true:=by unfold isDx;rw [zIK h (zMX ks)];rfl
def yNS{S:Sto}{l m:Nat}{ks xs:Aa}(h:S[l]? =some (.dic (dT ks)))(h2:S[m]? =some (.dic (dT xs)))(hne:l≠m)(hl:ks.length+xs.length<1000000):zSL (.val (.loc l)) [.val (.loc m)] S=.ok (.val .non) (S.set l (.dic (dT (zAZ ks xs)))):=by unfold zSL;dsimp only;rw [zIK h (zMX ks)];dsimp only;rw [zIK h2 (zMX xs)];dsimp only;rw [iP ⟨hne,by rw [show(dT ks).length=ks.length by unfold dT;rw [lM],show(dT xs).length=xs.length by unfold dT;rw [lM]];exact hl⟩,zUV]
def aM(a:Int×List MV):MV:=.tup [.int a.1,.tup a.2]
abbrev qM(hs:Aa)(as:Bj):MV:=.tup [.tup (hs.map MV.str),.tup (as.map aM)]
structure AOk(ts:Ac)(a:Int×List MV):Prop where
 tb: ∃p,atI ts a.1=some p/\0<=p.2
 tm: ∀d∈a.2,zXC d
 len:a.2.length<=4
def kyL(ts:Ac)(hs:Aa)(a:Int×List MV):List (List Nat):=fnL hs (a.2.take ((atI ts a.1).getD (0,0)).2.toNat)
abbrev frL(hs:Aa)(a:Int×List MV):List (List Nat):=fnL hs a.2
def yJD{ts:Ac}{hs:Aa}{d:MV}{a:Int×List MV}(h:AOk ts a)(S:Sto):zW 3 bC [.val (.tup (ts.map tbl)),.val (.tup [.tup (hs.map MV.str),d]),.val (aM a)] S=.ok (.new ((kyL ts hs a).map MV.str)) S:=by obtain⟨p,hp,h0⟩:=h.tb;have e:=ySQ (ts:=ts) (t:=a.1) (p:=p) (hs:=hs) (at':=d) (tms:=a.2) (by rw [zLA,hp];rfl) h0 h.tm (by have:=h.len;omega) S;unfold kyL;rw [hp];exact e
def yPC{ts:Ac}{hs:Aa}{d:MV}{a:Int×List MV}(h:AOk ts a)(S:Sto):zW 2 xK [.val (.tup [.tup (hs.map MV.str),d]),.val (aM a)] S=.ok (.new ((frL hs a).map MV.str)) S:=yBY h.tm (by have:=h.len;omega) S
def yJE(hs:Aa)(tms:Bh):(fnL hs tms).length<=tms.length:=by have h1:=zFS (tms.filterMap vn) [];have h2:=length_filterMap_le vn tms;have h3:=length_filter_le (λx=>!decide (x∈hs)) (nmL tms);rw [length_nil]at h1;unfold fnL;unfold nmL at h3 ⊢;omega
def zMK{ts:Ac}{hs:Aa}{a:Int×List MV}(h:AOk ts a):(frL hs a).length<=4:=le_trans (yJE hs a.2) h.len
def yJF{ts:Ac}{hs:Aa}{a:Int×List MV}(h:AOk ts a):(kyL ts hs a).length<=4:=le_trans (yJE hs _) (by rw [lT];have:=h.len;omega)
theorem zDI{α:Type}[DecidableEq α]: ∀{ks U:List α},ks.Nodup->(∀x∈ks,x∈U)->ks.length<=U.length
 |[],_,_,_=>zero_le _
 |x::ks,U,hn,h=>by rw [nodup_cons]at hn;have hx:=h x mF0;have ih:=zDI (ks:=ks) (U:=U.erase x) hn.2 λy hy=>(List.mem_erase_of_ne (show y≠x from λe=>hn.1 (e▸hy))).mpr (h y (mO _ hy));rw [List.length_erase_of_mem hx]at ih;have:=List.length_pos_of_mem hx;rw [lC];omega
def zPZ(S T:Sto)(o:MO):(S++o::T)[S.length]? =some o:=by simp
def yNT(S T:Sto)(o o':MO):(S++o::T).set S.length o'=S++o'::T:=by simp
theorem zES(ds:Bh)(S:Sto):itL (.new ds) S=.ok ⟨ds,[]⟩ S:=rfl
def stK(ts:Ac)(hs ks:Aa)(a:Int×List MV):List (List Nat):=if(kyL ts hs a).all (λx=>decide (x∈ks))=true then zAZ ks (zAZ [] (frL hs a))else ks
abbrev KA(ts:Ac)(q:MV)(i:Nat)(as oth:Bh)(l:Nat)(b:Int)(o:Bi):Rho:=[some (.tup (ts.map tbl)),some q,some (.int i),some (.tup as),some (.tup oth),some (.loc l),some (.int b),o]
def yNU{ts:Ac}{hs:Aa}{qd:MV}{i:Nat}{as oth:Bh}{b:Int}{a:Int×List MV}(h:AOk ts a)(S T:Sto){ks:Aa}(hl:ks.length<=1000):
  ∃T',zBM (KA ts (.tup [.tup (hs.map MV.str),qd]) i as oth S.length b (some (aM a))) (S++.dic (dT ks)::T)=.ok (.next (KA ts (.tup [.tup (hs.map MV.str),qd]) i as oth S.length b (some (aM a)))) (S++.dic (dT (stK ts hs ks a))::T'):=by
 obtain⟨S1,hS1⟩: ∃S1:Sto,S1=S++.dic (dT ks)::T:=⟨_,rfl⟩
 have hat:S1[S.length]? =some (.dic (dT ks)):=by rw [hS1];exact zPZ _ _ _
 have hc1:yY (gNm 0) zIB zCG [none,some (.loc S.length)] [] ((kyL ts hs a).map MV.str) S1=.ok ((kyL ts hs a).map λx=>.bl (decide (x∈ks))) S1:=
  zBV (yO _) λx _=>⟨[some (.str x),some (.loc S.length)],rfl,rfl,by unfold zCG;simp? [yJC false hat x,fT,iF]⟩
 have hk:((kyL ts hs a).map MV.str).length<1000000:=by rw [lM];have:=yJF (hs:=hs) h;omega
 have hf:((frL hs a).map MV.str).length<1000000:=by rw [lM];have:=zMK (hs:=hs) h;omega
 have hc2:yY (gNm 0) zIC zCH [none] [] ((frL hs a).map MV.str) S1=.ok ((frL hs a).map prT) S1:=
  zBV (yO _) λx _=>⟨[some (.str x)],rfl,rfl,by unfold zCH;simp? [tup2]⟩
 have hb1: ∀a b c d e f g h:Option MV,blk 1 [5] [a,b,c,d,e,f,g,h]=[none,f]:=λ_ _ _ _ _ _ _ _=>rfl;have hb2: ∀a b c d e f g h:Option MV,blk 1 [] [a,b,c,d,e,f,g,h]=[none]:=λ_ _ _ _ _ _ _ _=>rfl;unfold zBM zID;rw [<-hS1];unfold stK;by_cases hq:(kyL ts hs a).all (λx=>decide (x∈ks))=true
 ·have hin:(S1++[.dic (dT (zAZ [] (frL hs a)))])[S.length]? =some (.dic (dT ks)):=by rw [getElem?_append_left (gS0.mp hat).1];exact hat
  have hne:S.length≠S1.length:=by rw [hS1,lA,lC];omega
  have hlen:ks.length+(zAZ [] (frL hs a)).length<1000000:=by have:=zFS (frL hs a) [];have:=zMK (hs:=hs) h;rw [length_nil]at *;omega
  refine⟨T++[.dic (dT (zAZ [] (frL hs a)))],?_⟩;rw [iP hq];simp? [yJD h,zES,hk,hb1,hc1,yBZ,hq,yNR hat,yPC h,hf,hb2,hc2,yCA,yNS hin (zL _ _) hne hlen];rw [hS1,aA,cons_append,yNT]
 ·refine⟨T,?_⟩;rw [iN hq, <-hS1];simp? [yJD h,zES,hk,hb1,hc1,yBZ,hq,fT,iF]
def yCC(ts:Ac)(hs ks:Aa)(a:Int×List MV): ∃t,stK ts hs ks a=ks++t:=by
 have h1: ∀(xs ks:Aa), ∃t,zAZ ks xs=ks++t:=by
  intro xs
  induction xs with
  |nil=>exact λks=>⟨[],(aN _).symm⟩
  |cons x xs ih=>
   intro ks;obtain⟨t,e⟩:=ih (zER ks x);show∃t,zAZ (zER ks x) xs=ks++t;rw [e];unfold zER;split
   ·exact⟨t,rfl⟩
   ·exact⟨x::t,by rw [aA];rfl⟩
 unfold stK;split
 ·exact h1 _ _
 ·exact⟨[],(aN _).symm⟩
theorem zUW(ts:Ac)(hs:Aa): ∀(oth:Bj)(ks:Aa), ∃t,oth.foldl (stK ts hs) ks=ks++t
 |[],ks=>⟨[],(aN _).symm⟩
 |a::oth,ks=>by obtain⟨t,e⟩:=yCC ts hs ks a;obtain⟨u,e2⟩:=zUW ts hs oth (stK ts hs ks a);exact⟨t++u,by rw [foldl_cons,e2,e,aA]⟩
theorem zXI(ts:Ac)(hs:Aa): ∀(oth:Bj)(ks:Aa),oth.foldl (stK ts hs) ks=ks-> ∀a∈oth,stK ts hs ks a=ks
 |[],_,_,a,ha=>by simp at ha
 |c::oth,ks,h,a,ha=>by
  rw [foldl_cons]at h;obtain⟨t,e⟩:=yCC ts hs ks c;obtain⟨u,e2⟩:=zUW ts hs oth (stK ts hs ks c);have e3:ks++(t++u)=ks++[]:=by rw [aN, <-aA, <-e, <-e2,h]
  have e4:t=[]:=(List.append_eq_nil_iff.mp (append_cancel_left e3)).1;have e5:stK ts hs ks c=ks:=by rw [e,e4,aN]
  rcases mC.mp ha with rfl|ha
  ·exact e5
  ·rw [e5]at h;exact zXI ts hs oth ks h a ha
def ySR{ts:Ac}{hs ks:Aa}(h:ks.Nodup)(a:Int×List MV):(stK ts hs ks a).Nodup:=by
 unfold stK;split
 ·exact zUT _ h
 ·exact h
def Fq(hs:Aa)(as:Bj)(j:Nat):List (List Nat):=(as[j]?).elim [] (frL hs)
def Kq(ts:Ac)(hs:Aa)(as:Bj)(j:Nat):List (List Nat):=(as[j]?).elim [] (kyL ts hs)
theorem zLB{hs:Aa}{as:Bj}{j:Nat}{a:Int×List MV}(h:as[j]? =some a):Fq hs as j=frL hs a:=by unfold Fq;rw [h];rfl
theorem zMZ{ts:Ac}{hs:Aa}{as:Bj}{j:Nat}{a:Int×List MV}(h:as[j]? =some a):Kq ts hs as j=kyL ts hs a:=by unfold Kq;rw [h];rfl
def KqF(ts:Ac)(hs:Aa)(as:Bj)(j:Nat)(_:j<as.length)(y:Ab)(h:y∈Kq ts hs as j):y∈Fq hs as j:=by
 unfold Kq at h;unfold Fq
 cases e:as[j]? with
 |none=>rw [e]at h;simp at h
 |some a=>
  rw [e]at h;exact yNP h
abbrev KnQ(ts:Ac)(hs:Aa)(as:Bj):Nat->List Nat->Prop:=Kn (Kq ts hs as) (Fq hs as) as.length
def ySS{ts:Ac}{hs ks:Aa}{as:Bj}{i j:Nat}{a:Int×List MV}(ha:as[j]? =some a)(hj:j≠i)(h: ∀x∈ks,KnQ ts hs as i x): ∀x∈stK ts hs ks a,KnQ ts hs as i x:=by
 intro x hx;unfold stK at hx;split at hx
 ·rename_i hq;rw [zAG,zAG]at hx;rcases hx with hx|hx|hx
  ·exact h x hx
  ·simp at hx
  ·refine .step j (gS0.mp ha).1 hj (λy hy=>?_) (by rw [zLB ha];exact hx);rw [zMZ ha]at hy;exact h y (of_decide_eq_true (all_eq_true.mp hq y hy))
 ·exact h x hx
theorem yJG{ts:Ac}{hs:Aa}{as:Bj}{i:Nat}: ∀(oth:Bj),(∀a∈oth, ∃j,as[j]? =some a/\j≠i)-> ∀(ks:Aa),ks.Nodup->(∀x∈ks,KnQ ts hs as i x)->(oth.foldl (stK ts hs) ks).Nodup/\ ∀x∈oth.foldl (stK ts hs) ks,KnQ ts hs as i x
 |[],_,ks,hn,h=>⟨hn,h⟩
 |a::oth,ho,ks,hn,h=>by obtain⟨j,hj,hne⟩:=ho a mF0;rw [foldl_cons];exact yJG oth (λb hb=>ho b (mO _ hb)) _ (ySR hn a) (ySS hj hne h)
def yST{ts:Ac}{hs ks:Aa}{as oth:Bj}{i:Nat}{a0:Int×List MV}(hi:as[i]? =some a0)(hk: ∀x∈kyL ts hs a0,x∈ks)(ho: ∀j a,as[j]? =some a->j≠i->a∈oth)(hs': ∀a∈oth,stK ts hs ks a=ks){x:Ab}(h:KnQ ts hs as i x):x∈ks:=by
 induction h with
 |key h=>rw [zMZ hi]at h;exact hk _ h
 |@step x j hj hne hall hx ih=>
  have ha:=gE0 hj;have e:=hs' _ (ho j _ ha hne);rw [zLB ha]at hx;rw [zMZ ha]at ih;unfold stK at e;rw [iP (all_eq_true.mpr λy hy=>dT0 (ih y hy))]at e;rw [<-e,zAG,zAG];exact .inr (.inr hx)
def zSU(hs:Aa)(as:Bj):List (List Nat):=as.flatMap (frL hs)
theorem zOA{ts:Ac}{hs:Aa}: ∀{as:Bj},(∀a∈as,AOk ts a)->(zSU hs as).length<=4 * as.length
 |[],_=>le_refl _
 |a::as,h=>by have h1:=zOA (hs:=hs) λb hb=>h b (mO _ hb);have h2:=zMK (hs:=hs) (h a mF0);unfold zSU at h1 ⊢;rw [List.flatMap_cons,lA,lC];omega
def yJH{ts:Ac}{hs:Aa}{as:Bj}{i:Nat}(hi:i<as.length){x:Ab}(h:KnQ ts hs as i x):x∈zSU hs as:=by
 have e: ∀j,j<as.length->x∈Fq hs as j->x∈zSU hs as:=λj hj h=>by rw [zLB (gE0 hj)]at h;exact mem_flatMap.mpr ⟨_,getElem_mem hj,h⟩
 cases h with
 |key h=>exact e i hi (KqF ts hs as i hi _ h)
 |step j hj _ _ hx=>exact e j hj hx
theorem yJI{ts:Ac}{hs:Aa}{qd:MV}{i:Nat}{as oth:Bh}{b:Int}(S:Sto): ∀(os:Bj),(∀a∈os,AOk ts a)-> ∀(T:Sto)(ks:Aa)(o:Bi),ks.length+4 * os.length<=1000->
  ∃T' o',kY (gNm 7) zBM [] (os.map aM) (KA ts (.tup [.tup (hs.map MV.str),qd]) i as oth S.length b o) (S++.dic (dT ks)::T)=.ok (.next (KA ts (.tup [.tup (hs.map MV.str),qd]) i as oth S.length b o')) (S++.dic (dT (os.foldl (stK ts hs) ks))::T')
 |[],_,T,ks,o,_=>⟨T,o,rfl⟩
 |a::os,h,T,ks,o,hl=>by
  rw [lC]at hl;have ha:=h a mF0;obtain⟨T1,e1⟩:=yNU (hs:=hs) (qd:=qd) (i:=i) (as:=as) (oth:=oth) (b:=b) ha S T (ks:=ks) (by omega)
  have hk:(stK ts hs ks a).length<=ks.length+4:=by
   unfold stK;split
   ·have h1:=zFS (zAZ [] (frL hs a)) ks;have h2:=zFS (frL hs a) [];have h3:=zMK (hs:=hs) ha;rw [length_nil]at h2;omega
   ·omega
  obtain⟨T',o',e⟩:=yJI (hs:=hs) (qd:=qd) (i:=i) (as:=as) (oth:=oth) (b:=b) S os (λc hc=>h c (mO _ hc)) T1 (stK ts hs ks a) (some (aM a)) (by omega);refine⟨T',o',?_⟩;rw [map_cons,zS (ρ0:=KA ts (.tup [.tup (hs.map MV.str),qd]) i as oth S.length b (some (aM a))) rfl e1 (yO _)];exact e
def yCD{ts:Ac}{q:MV}{i:Nat}{as oth:Bh}{b:Int}{o:Bi}(S T:Sto)(ks:Aa):nS (KA ts q i as oth S.length b o) (S++.dic (dT ks)::T)=.ok (decide (b<ks.length)) (S++.dic (dT ks)::T):=by unfold nS;simp? [yCB (zPZ S T (.dic (dT ks))),lt_int]
def yNV{ts:Ac}{hs:Aa}{qd:MV}{i:Nat}{as:Bh}{b:Int}(S:Sto){os:Bj}(h: ∀a∈os,AOk ts a)(T:Sto)(ks:Aa)(o:Bi)(hl:ks.length+4 * os.length<=1000):
  ∃T' o',zBN (KA ts (.tup [.tup (hs.map MV.str),qd]) i as (os.map aM) S.length b o) (S++.dic (dT ks)::T)=.ok (.next (KA ts (.tup [.tup (hs.map MV.str),qd]) i as (os.map aM) S.length ks.length o')) (S++.dic (dT (os.foldl (stK ts hs) ks))::T'):=by
 obtain⟨T',o',e⟩:=yJI (hs:=hs) (qd:=qd) (i:=i) (as:=as) (oth:=os.map aM) (b:=ks.length) S os h T ks o hl;refine⟨T',o',?_⟩;have e1:zCI (KA ts (.tup [.tup (hs.map MV.str),qd]) i as (os.map aM) S.length b o) (S++.dic (dT ks)::T)=.ok (.next (KA ts (.tup [.tup (hs.map MV.str),qd]) i as (os.map aM) S.length ks.length o)) (S++.dic (dT ks)::T):=by unfold zCI;simp? [yCB (zPZ S T (.dic (dT ks)))]
 unfold zBN;rw [zC e1];unfold zIE;simp? [zPY];exact e
theorem zXJ{ts:Ac}{hs:Aa}{as os:Bj}{i:Nat}(hi:i<as.length)(hA: ∀a∈as,AOk ts a)(hlen:as.length<=4)(hos: ∀a∈os, ∃j,as[j]? =some a/\j≠i)(hol:os.length<=4)(S:Sto): ∀(m f:Nat),m+2<=f-> ∀(T:Sto)(ks:Aa)(b:Int)(o:Bi),ks.Nodup->(∀x∈ks,KnQ ts hs as i x)->(zSU hs as).length<=ks.length+m->b<ks.length->
  ∃T' ks' b' o' t,gX nS zBN f (KA ts (qM hs as) i (as.map aM) (os.map aM) S.length b o) (S++.dic (dT ks)::T)=.ok (.next (KA ts (qM hs as) i (as.map aM) (os.map aM) S.length b' o')) (S++.dic (dT ks')::T')/\ks'=ks++t/\(∀x∈ks',KnQ ts hs as i x)/\(∀a∈os,stK ts hs ks' a=ks')/\ks'.Nodup
 |m,f,hf,T,ks,b,o,hn,hk,hU,hb=>by
  obtain⟨f,rfl⟩: ∃g,f=g+1:=⟨f - 1,by omega⟩
  have hA': ∀a∈os,AOk ts a:=λa ha=>by obtain⟨j,hj,_⟩:=hos a ha;exact hA a (mem_of_getElem? hj)
  have hle:ks.length<=16:=by have h1:=zDI hn λx hx=>yJH hi (hk x hx);have h2:=zOA (hs:=hs) hA;omega
  obtain⟨T1,o1,e1⟩:=yNV (hs:=hs) (qd:=.tup (as.map aM)) (i:=i) (as:=as.map aM) (b:=b) S hA' T ks o (by omega);have ht:=yCD (ts:=ts) (q:=qM hs as) (i:=i) (as:=as.map aM) (oth:=os.map aM) (b:=b) (o:=o) S T ks;rw [dT0 hb]at ht;obtain⟨t,et⟩:=zUW ts hs os ks;obtain⟨hn1,hk1⟩:=yJG os hos ks hn hk;have hlt:=congrArg List.length et;rw [lA]at hlt;by_cases hz:t=[]
  ·subst hz;rw [aN]at et;obtain⟨f,rfl⟩: ∃g,f=g+1:=⟨f - 1,by omega⟩
   have ht2:=yCD (ts:=ts) (q:=qM hs as) (i:=i) (as:=as.map aM) (oth:=os.map aM) (b:=ks.length) (o:=o1) S T1 ks;rw [dF0 (by omega)]at ht2;refine⟨T1,ks,ks.length,o1,[],?_,(aN _).symm,hk,zXI ts hs os ks et,hn⟩;rw [et]at e1;rw [zJV ht e1,zRZ ht2]
  ·have htp:0<t.length:=length_pos_iff.mpr hz;have h1:=zDI hn1 λx hx=>yJH hi (hk1 x hx);have hm:m - 1<m:=by omega
   obtain⟨T',ks',b',o',t',e,h2,h3,h4,h5⟩:=zXJ hi hA hlen hos hol S (m - 1) f (by omega) T1 (os.foldl (stK ts hs) ks) ks.length o1 hn1 hk1 (by omega) (by omega);refine⟨T',ks',b',o',t++t',?_,by rw [h2,et,aA],h3,h4,h5⟩;rw [zJV ht e1];exact e
 termination_by m=>m
theorem yJJ{n:Nat}{F:List MV->Sto->R Er}{rs:List Er}{S T:Sto}{kvs:Ca}(hn:rs.length=n)(hF:F (zR rs S).1 (zR rs S).2=.ok (.val (.loc S.length)) (S++.dic kvs::T)):zW n F rs S=.ok (.val (.loc S.length)) (S++.dic kvs::T):=by
 unfold zW;rw [iP hn,hF];show zDS S (.val (.loc S.length)) (S++.dic kvs::T)=_;unfold zDS;dsimp only;split
 ·rw [iN (lt_irrefl _),zPZ]
 ·rfl
def yCE{as:Bj}{i:Nat}{a:Int×List MV}:a∈as.take i++as.drop (i+1)↔ ∃j,as[j]? =some a/\j≠i:=by
 rw [mem_append];constructor
 ·rintro(h|h)
  ·obtain⟨j,hj,e⟩:=List.mem_take_iff_getElem.mp h;exact⟨j,by rw [<-e];exact gE0 _,by omega⟩
  ·obtain⟨j,e⟩:=List.mem_iff_getElem?.mp h;rw [List.getElem?_drop]at e;exact⟨i+1+j,e,by omega⟩
 ·rintro⟨j,hj,hne⟩;by_cases h:j<i
  ·exact .inl (mem_of_getElem? (show(as.take i)[j]? =some a by rw [List.getElem?_take_of_lt h];exact hj))
  ·exact .inr (mem_of_getElem? (i:=j - (i+1)) (show(as.drop (i+1))[j - (i+1)]? =some a by rw [List.getElem?_drop,show i+1+(j - (i+1))=j by omega];exact hj))
def yJK{ts:Ac}{hs:Aa}{as:Bj}(hA: ∀a∈as,AOk ts a)(hlen:as.length<=4){i:Nat}(hi:i<as.length)(S:Sto):
  ∃ks T,zW 3 zGM [.val (.tup (ts.map tbl)),.val (qM hs as),.val (.int i)] S=.ok (.val (.loc S.length)) (S++.dic (dT ks)::T)/\(∀x,x∈ks↔KnQ ts hs as i x)/\ks.Nodup:=by
 have ha:=gE0 hi;have hAi:=hA _ (getElem_mem hi);obtain⟨a,ea⟩: ∃a,a=as[i]:=⟨_,rfl⟩
 rw [<-ea]at ha hAi;obtain⟨os,eo⟩: ∃os,os=as.take i++as.drop (i+1):=⟨_,rfl⟩
 have hos: ∀c∈os, ∃j,as[j]? =some c/\j≠i:=λc hc=>yCE.mp (eo▸hc);have hol:os.length<=4:=by rw [eo,lA,lT,length_drop];omega
 have hk0: ∀x∈zAZ [] (kyL ts hs a),KnQ ts hs as i x:=λx hx=>by
  rw [zAG]at hx;rcases hx with hx|hx
  ·simp at hx
  ·exact .key (by rw [zMZ ha];exact hx)
 obtain⟨T',ks',b',o',t,e5,h5,h6,h7,h8⟩:=zXJ (hs:=hs) hi hA hlen hos hol S 100 10000 (by omega) [] (zAZ [] (kyL ts hs a)) (-1) none (zUT _ nodup_nil) hk0 (by have:=zOA (hs:=hs) hA;omega) (by omega);refine⟨ks',T',?_,λx=>⟨h6 x,λh=>?_⟩,h8⟩
 ·refine yJJ rfl ?_;show xE (zJY [some (.tup (ts.map tbl)),some (qM hs as),some (.int i),none,none,none,none,none] S)=_;have e1:zGI [some (.tup (ts.map tbl)),some (qM hs as),some (.int i),none,none,none,none,none] S=.ok (.next [some (.tup (ts.map tbl)),some (qM hs as),some (.int i),some (.tup (as.map aM)),none,none,none,none]) S:=by unfold zGI;simp? [zNJ]
  have e2:zGJ [some (.tup (ts.map tbl)),some (qM hs as),some (.int i),some (.tup (as.map aM)),none,none,none,none] S=.ok (.next [some (.tup (ts.map tbl)),some (qM hs as),some (.int i),some (.tup (as.map aM)),some (.tup (os.map aM)),none,none,none]) S:=by
   have hc:((i:Int)+1)=((i+1:Nat):Int):=by omega
   have hz:((as.map aM).take i).length+((as.map aM).drop (i+1)).length<=sizeLine:=fits (by rw [lT,length_drop,lM];omega);unfold zGJ;simp? [zNZ,yFD,hc,zMJ,yML hz];rw [eo,map_append,map_take,map_drop]
  have hkl:((kyL ts hs a).map MV.str).length<1000000:=by rw [lM];have:=yJF (hs:=hs) hAi;omega
  have hc2:yY (gNm 0) zIA zCF [none] [] ((kyL ts hs a).map MV.str) S=.ok ((kyL ts hs a).map prT) S:=
   zBV (yO _) λx _=>⟨[some (.str x)],rfl,rfl,by unfold zCF;simp? [tup2]⟩
  have hb2: ∀a b c d e f g h:Option MV,blk 1 [] [a,b,c,d,e,f,g,h]=[none]:=λ_ _ _ _ _ _ _ _=>rfl;have hix:ixF (.val (.tup (as.map aM))) (.val (.int i)) S=.ok (.val (aM a)) S:=ix_tup (zDH (by rw [getElem?_map,ha];rfl));have e3:zGK [some (.tup (ts.map tbl)),some (qM hs as),some (.int i),some (.tup (as.map aM)),some (.tup (os.map aM)),none,none,none] S=.ok (.next [some (.tup (ts.map tbl)),some (qM hs as),some (.int i),some (.tup (as.map aM)),some (.tup (os.map aM)),some (.loc S.length),none,none]) (S++[.dic (dT (zAZ [] (kyL ts hs a)))]):=by unfold zGK;simp? [hix,yJD hAi,zES,hkl,hb2,hc2,yCA]
  have e4:zGL [some (.tup (ts.map tbl)),some (qM hs as),some (.int i),some (.tup (as.map aM)),some (.tup (os.map aM)),some (.loc S.length),none,none] (S++[.dic (dT (zAZ [] (kyL ts hs a)))])=.ok (.next (KA ts (qM hs as) i (as.map aM) (os.map aM) S.length (-1) none)) (S++[.dic (dT (zAZ [] (kyL ts hs a)))]):=by unfold zGL;simp? [bok]
  unfold zJY;rw [zC e1,zC e2,zC e3,zC e4,zC (show zKU _ _=_ from e5)];unfold zKV;simp? [bok];rfl
 ·refine yST ha (λy hy=>?_) (λj c hc hne=>by rw [eo];exact yCE.mpr ⟨j,hc,hne⟩) h7 h;rw [h5,mem_append,zAG];exact .inl (.inr hy)
abbrev zF(k:Nat):MV:=.int (k:Int)
def yNW{j k:Nat}(h:zF j=zF k):j=k:=by
 injection h with h
 exact Int.ofNat.inj h
def yCF{j:Nat}{rs:Ab}:zF j∈rs.map zF↔j∈rs:=⟨λh=>by obtain⟨k,hk,e⟩:=mM.mp h;rw [<-yNW e];exact hk,λh=>mM.mpr ⟨j,h,rfl⟩⟩
def zNK{n:Nat}(h:n<=1000)(S:Sto):kR [.val (.int (n:Int))] S=.ok ⟨(List.range n).map zF,[]⟩ S:=by rw [zTS (by omega),toNat_natCast]
def rng6(S:Sto):kR [.val (.int 6)] S=.ok ⟨(List.range 6).map zF,[]⟩ S:=zNK (n:=6) (by decide) S
def rD(rs:Ab):List (MV×MV):=rs.map λj=>(zF j,.bl true)
theorem yCG(rs:Ab):(rD rs).map (·.1)=rs.map zF:=by unfold rD;rw [map_map];rfl
def yCH(rs:Ab)(j:Nat):(look (rD rs) (zF j)).isSome=decide (j∈rs):=by
 by_cases h:j∈rs
 ·rw [dT0 h];unfold look;rw [Option.isSome_map,List.find?_isSome];exact⟨(zF j,.bl true),mM.mpr ⟨j,h,rfl⟩,by simp⟩
 ·rw [dF0 h]
  cases z:(look (rD rs) (zF j)).isSome with
  |false=>rfl
  |true=>
   have:=zXD z;rw [yCG]at this;exact absurd (yCF.mp this) h
theorem ySU{rs:Ab}{j:Nat}(h:j∉rs):putK (rD rs) (zF j) (.bl true)=rD (rs++[j]):=by unfold putK;rw [yCH,iN (by rw [dF0 h];exact xF0)];unfold rD;rw [map_append];rfl
theorem yJL(rs:Ab):(rD rs).all (λp=>zKP p.1)=true:=by unfold rD;rw [all_map,all_eq_true];intro x _;rfl
def yJM{S:Sto}{l:Nat}{rs:Ab}(neg:Bool)(h:S[l]? =some (.dic (rD rs)))(j:Nat):zLX neg (.val (zF j)) (.val (.loc l)) S=.ok (.val (.bl (if neg=true then !decide (j∈rs)else decide (j∈rs)))) S:=by unfold zLX;dsimp only;rw [zIK h (yJL rs)];dsimp only;rw [iP (show zKP (zF j)=true from rfl),yCH]
def yCI{S:Sto}{l:Nat}{rs:Ab}(h:S[l]? =some (.dic (rD rs)))(hl:rs.length<1000000){j:Nat}(hj:j∉rs)(ρ:Rho):zHT (.val (.loc l)) (.val (zF j)) (.bl true) ρ S=.ok ρ (S.set l (.dic (rD (rs++[j])))):=by unfold zHT;dsimp only;rw [zIK h (yJL rs)];dsimp only;rw [iP ⟨rfl,by unfold rD;rw [lM];exact hl⟩,ySU hj]
def yJN{S:Sto}{l:Nat}{rs:Ab}(h:S[l]? =some (.dic (rD rs))):zHU [.val (.loc l)] S=.ok (.new (rs.map zF)) S:=by unfold zHU;dsimp only;rw [zIK h (yJL rs)];dsimp only;rw [yCG]
theorem zQA{α:Type}{f:α->MV}{g:α->List MV}{gf:MV->Rho->Sto->R Rho}{cf:AZ}{ef:AX}{ρb:Rho}{S:Sto}: ∀(xs:List α),(∀x∈xs, ∀T, ∃ρ1,gf (f x) ρb (S++T)=.ok ρ1 (S++T)/\cf ρ1 (S++T)=.ok true (S++T)/\ef ρ1 (S++T)=.ok (.new (g x)) (S++T))->
  ∀T,yY gf cf ef ρb [] (xs.map f) (S++T)=.ok ((List.range' (S.length+T.length) xs.length).map MV.loc) (S++T++xs.map λx=>MO.lst (g x))
 |[],_,T=>by rw [map_nil,map_nil,aN];rfl
 |x::xs,h,T=>by obtain⟨ρ1,h1,h2,h3⟩:=h x mF0 T;have ih:=zQA (f:=f) (g:=g) (gf:=gf) (cf:=cf) (ef:=ef) (ρb:=ρb) (S:=S) xs (λy hy=>h y (mO _ hy)) (T++[.lst (g x)]);rw [map_cons];unfold yY;rw [h1,yW,bok,h2,yW,bok,iP rfl,h3,yW,bok];unfold dA;rw [bok,iP (yO _),aA,ih,bok,lA,lA,lS,lC,range'_succ,map_cons,map_cons];simp only [aA,List.singleton_append,Nat.add_assoc]
def cmB(xs ys:Aa):Bool:=xs.any λx=>decide (x∈ys)
theorem ySV{S:Sto}{l m:Nat}{xs ys:Aa}(h1:S[l]? =some (.lst (xs.map MV.str)))(h2:S[m]? =some (.lst (ys.map MV.str)))(hl:xs.length<1000000):zW 2 jN [.val (.loc l),.val (.loc m)] S=.ok (.val (.bl (cmB xs ys))) S:=by
 refine zNY rfl ?_;show xE (dD [some (.loc l),some (.loc m)] S)=_
 have hc:yY (gNm 0) zAE jA [none,some (.loc m)] [(l,xs.map MV.str)] (xs.map MV.str) S=.ok (xs.map λx=>.bl (decide (x∈ys))) S:=
  zBV (zFE h1) λx _=>⟨[some (.str x),some (.loc m)],rfl,rfl,by unfold jA;simp? [zEF false h2 (cS x) zJI,fT,iF];rw [dec_is (zKZ (x:=x) (fs:=ys))]⟩
 have hk:(xs.map MV.str).length<1000000:=by rw [lM];exact hl
 have hb: ∀a b:Option MV,blk 1 [1] [a,b]=[none,b]:=λ_ _=>rfl;unfold dD zCJ;simp? [zIZ h1,hk,hb,hc,yNQ];rfl
theorem kC{α:Type}{f g:α->MV}{p:α->Bool}{S:Sto}{gf:MV->Rho->Sto->R Rho}{cf:AZ}{ef:AX}{ρb:Rho}{gs:Bk}(hs:stay gs S):
  ∀{ds:List α},(∀d∈ds, ∃ρ1,gf (f d) ρb S=.ok ρ1 S/\cf ρ1 S=.ok (p d) S/\ef ρ1 S=.ok (.val (g d)) S)->yY gf cf ef ρb gs (ds.map f) S=.ok ((ds.filter p).map g) S
 |[],_=>rfl
 |d::ds,st=>by
  obtain⟨ρ1,h1,h2,h3⟩:=st d mF0;have e:=kC hs (f:=f) (g:=g) (p:=p) (ds:=ds) λd hd=>st d (mO _ hd);rw [map_cons];unfold yY
  cases hp:p d with
  |true=>
   rw [h1,yW,bok,h2,yW,bok,hp,iP rfl,h3,yW,bok];unfold dA;rw [bok,iP hs,e,List.filter_cons_of_pos hp];rfl
  |false=>
   rw [h1,yW,bok,h2,yW,bok,hp,iN xF0,iP hs,e,List.filter_cons_of_neg (by rw [hp];exact xF0)]
def yNX(K:Ab)(n:Nat):loL n (K.map zF):=kZ λd hd=>by obtain⟨i,_,rfl⟩:=mM.mp hd;exact zHQ _ _
abbrev SA(ts:Ac)(q:MV)(i l0 l4 l5:Nat)(nm o:Bi):Rho:=[some (.tup (ts.map tbl)),some q,some (zF i),some (.loc l0),some (.loc l4),some (.loc l5),some (.loc (l5+1)),nm,o]
abbrev StW(B:Sto)(rs ws:Ab):Sto:=B++[.dic (rD rs),.lst (ws.map zF)]
structure UN(B:Sto)(l4 u0 n:Nat)(un:Nat->List (List Nat)):Prop where
 tab:B[l4]? =some (.lst ((List.range' u0 n).map MV.loc))
 row: ∀j,j<n->B[u0+j]? =some (.lst ((un j).map MV.str))
 len: ∀j,j<n->(un j).length<=4
def yJO(B:Sto)(rs ws:Ab):(StW B rs ws)[B.length]? =some (.dic (rD rs)):=by simp [StW]
def zXK(B:Sto)(rs ws:Ab):(StW B rs ws)[B.length+1]? =some (.lst (ws.map zF)):=by simp [StW]
def ySW(B:Sto)(rs ws rs':Ab):(StW B rs ws).set B.length (.dic (rD rs'))=StW B rs' ws:=by simp [StW]
def yJP(B:Sto)(rs ws ws':Ab):(StW B rs ws).set (B.length+1) (.lst (ws'.map zF))=StW B rs ws':=by simp [StW]
def yCJ{B:Sto}{k:Nat}{o:MO}(h:B[k]? =some o)(rs ws:Ab):(StW B rs ws)[k]? =some o:=by show(B++_)[k]? =_;rw [getElem?_append_left (gS0.mp h).1];exact h
def yJQ{B:Sto}{l4 u0 n:Nat}{un:Nat->List (List Nat)}(U:UN B l4 u0 n un){j:Nat}(hj:j<n)(rs ws:Ab):ixF (.val (.loc l4)) (.val (zF j)) (StW B rs ws)=.ok (.val (.loc (u0+j))) (StW B rs ws):=
 zCA (yCJ U.tab rs ws) (zDH (by rw [getElem?_map,List.getElem?_range' hj,Nat.one_mul];rfl))
def yNY{ts:Ac}{q:MV}{i l0 l4 u0 n:Nat}{B:Sto}{un:Nat->List (List Nat)}(U:UN B l4 u0 n un){w j:Nat}(hw:w<n)(hj:j<n){rs ws:Ab}(hr:rs.length<1000)(hws:ws.length<1000):
  gS (SA ts q i l0 l4 B.length (some (.loc (u0+w))) (some (zF j))) (StW B rs ws)=.ok (.next (SA ts q i l0 l4 B.length (some (.loc (u0+w))) (some (zF j)))) (if j∉rs/\cmB (un w) (un j)=true then StW B (rs++[j]) (ws++[j])else StW B rs ws):=by
 have hin:=yJM true (yJO B rs ws) j;rw [iP rfl]at hin;unfold gS zDZ;by_cases hm:j∈rs
 ·rw [dT0 hm]at hin;rw [iN λz=>z.1 hm];simp? [hin,Bool.not_true,fT,iF]
 ·rw [dF0 hm]at hin;have hc:=ySV (yCJ (U.row w hw) rs ws) (yCJ (U.row j hj) rs ws) (by have:=U.len w hw;omega);by_cases hcm:cmB (un w) (un j)=true
  ·rw [iP ⟨hm,hcm⟩];have e1:(EJ (kJ (.bl true)) (DJ zHT (vJ 5) (vJ 8))) (SA ts q i l0 l4 B.length (some (.loc (u0+w))) (some (zF j))) (StW B rs ws)=.ok (.next (SA ts q i l0 l4 B.length (some (.loc (u0+w))) (some (zF j)))) (StW B (rs++[j]) ws):=by simp? [zBR,yCI (yJO B rs ws) (show rs.length<1000000 by omega) hm,ySW]
   have e2:(BJ (eJ jS zLS (vJ 6) (yJ (vJ 8) wJ))) (SA ts q i l0 l4 B.length (some (.loc (u0+w))) (some (zF j))) (StW B (rs++[j]) ws)=.ok (.next (SA ts q i l0 l4 B.length (some (.loc (u0+w))) (some (zF j)))) (StW B (rs++[j]) (ws++[j])):=by simp? [jO (zXK B (rs++[j]) ws),zBQ (zXK B (rs++[j]) ws) (show(ws.map zF).length<1000000 by rw [lM];omega)];rw [show ws.map zF++[.int (j:Int)]=(ws++[j]).map zF by rw [map_append];rfl,yJP]
   simp? [hin,Bool.not_false,yJQ U hj,hc,hcm];rw [zC e1,e2]
  ·rw [iN λz=>hcm z.2];simp? [hin,Bool.not_false,yJQ U hj,hc,hcm,fT,iF]
theorem yAC{ts:Ac}{q:MV}{i l0 l4 u0 n:Nat}{B:Sto}{un:Nat->List (List Nat)}(U:UN B l4 u0 n un){w:Nat}(hw:w<n): ∀(js:Ab),(∀j∈js,j<n)-> ∀(rs ws:Ab)(o:Bi),rs.length+js.length<1000->ws.length+js.length<1000->
  ∃t o',kY (gNm 8) gS [] (js.map zF) (SA ts q i l0 l4 B.length (some (.loc (u0+w))) o) (StW B rs ws)=.ok (.next (SA ts q i l0 l4 B.length (some (.loc (u0+w))) o')) (StW B (rs++t) (ws++t))/\(rs.Nodup->(rs++t).Nodup)/\(∀k∈t,k<n/\cmB (un w) (un k)=true)/\ ∀k∈js,cmB (un w) (un k)=true->k∈rs++t
 |[],_,rs,ws,o,_,_=>⟨[],o,by rw [aN,aN];rfl,λh=>by rw [aN];exact h,λk hk=>by simp at hk,λk hk=>by simp at hk⟩
 |j::js,hjs,rs,ws,o,h1,h2=>by
  rw [lC]at h1 h2;have hj:=hjs j mF0;have hjs': ∀k∈js,k<n:=λk hk=>hjs k (mO _ hk);have e:=yNY (ts:=ts) (q:=q) (i:=i) (l0:=l0) U hw hj (rs:=rs) (ws:=ws) (by omega) (by omega);by_cases hm:j∉rs/\cmB (un w) (un j)=true
  ·rw [iP hm]at e;obtain⟨t,o',e',h3,h4,h5⟩:=yAC (ts:=ts) (q:=q) (i:=i) (l0:=l0) U hw js hjs' (rs++[j]) (ws++[j]) (some (zF j)) (by rw [lA,lS];omega) (by rw [lA,lS];omega);refine⟨j::t,o',?_,λhn=>?_,λk hk=>?_,λk hk hc=>?_⟩
   ·rw [map_cons,zS (ρ0:=SA ts q i l0 l4 B.length (some (.loc (u0+w))) (some (zF j))) rfl e (yO _),e',aA,aA];rfl
   ·have:=h3 (nodup_append.mpr ⟨hn,by simp,λa ha b hb=>by rw [mS.mp hb];rintro rfl;exact hm.1 ha⟩);rw [aA]at this;exact this
   ·rcases mC.mp hk with rfl|hk
    ·exact⟨hj,hm.2⟩
    ·exact h4 k hk
   ·rcases mC.mp hk with rfl|hk
    ·exact mem_append.mpr (.inr mF0)
    ·have:=h5 k hk hc;rw [aA]at this;exact this
  ·rw [iN hm]at e;obtain⟨t,o',e',h3,h4,h5⟩:=yAC (ts:=ts) (q:=q) (i:=i) (l0:=l0) U hw js hjs' rs ws (some (zF j)) (by omega) (by omega);refine⟨t,o',?_,h3,h4,λk hk hc=>?_⟩
   ·rw [map_cons,zS (ρ0:=SA ts q i l0 l4 B.length (some (.loc (u0+w))) (some (zF j))) rfl e (yO _),e']
   ·rcases mC.mp hk with rfl|hk
    ·exact mem_append.mpr (.inl (Classical.byContradiction λz=>hm ⟨z,hc⟩))
    ·exact h5 k hk hc
def yNZ{S:Sto}{l:Nat}{ds:Bh}{d:MV}(h:S[l]? =some (.lst (ds++[d]))):zPH (.val (.loc l)) [] S=.ok (.val d) (S.set l (.lst ds)):=by
 unfold zPH;dsimp only;rw [h];dsimp only;have e1:(ds++[d])[(ds++[d]).length - 1]? =some d:=by simp
 have e2:(ds++[d]).eraseIdx ((ds++[d]).length - 1)=ds:=by rw [lA,lS,Nat.add_sub_cancel,List.eraseIdx_append_of_length_le (le_refl _),sub_self];exact aN _
 rw [e1,e2]
def yOA{ts:Ac}{q:MV}{i l0 l4 u0 n:Nat}{B:Sto}{un:Nat->List (List Nat)}(U:UN B l4 u0 n un)(hn:n<=4){w:Nat}(hw:w<n){rs ws:Ab}(hr:rs.length<=100)(hws:ws.length<=100)(nm o:Bi):
  ∃t o',gT (SA ts q i l0 l4 B.length nm o) (StW B rs (ws++[w]))=.ok (.next (SA ts q i l0 l4 B.length (some (.loc (u0+w))) o')) (StW B (rs++t) (ws++t))/\(rs.Nodup->(rs++t).Nodup)/\(∀k∈t,k<n/\cmB (un w) (un k)=true)/\ ∀k,k<n->cmB (un w) (un k)=true->k∈rs++t:=by
 obtain⟨t,o',e,h3,h4,h5⟩:=yAC (ts:=ts) (q:=q) (i:=i) (l0:=l0) U hw (List.range n) (λj hj=>mem_range.mp hj) rs ws o (by rw [length_range];omega) (by rw [length_range];omega);refine⟨t,o',?_,h3,h4,λk hk=>h5 k (mem_range.mpr hk)⟩;have hp:zPH (.val (.loc (B.length+1))) [] (StW B rs (ws++[w]))=.ok (.val (zF w)) (StW B rs ws):=by rw [yNZ (ds:=ws.map zF) (d:=zF w) (by rw [zXK,map_append];rfl),yJP]
 have e1:bQ (SA ts q i l0 l4 B.length nm o) (StW B rs (ws++[w]))=.ok (.next (SA ts q i l0 l4 B.length (some (.loc (u0+w))) o)) (StW B rs ws):=by unfold bQ;simp? [jO (zXK B rs (ws++[w])),hp,yJQ U hw]
 unfold gT;rw [zC e1];unfold zEA;have hl:=zDW (yCJ U.tab rs ws);rw [lM,List.length_range']at hl;simp? [hl,zNK (n:=n) (by omega)];exact e
def yOB{S:Sto}{l:Nat}{ds:Bh}(h:S[l]? =some (.lst ds)):zHK (.val (.loc l)) S=.ok (!ds.isEmpty) S:=by unfold zHK;dsimp only;rw [h]
theorem zXL{ts:Ac}{q:MV}{i l0 l4 u0 n:Nat}{B:Sto}{un:Nat->List (List Nat)}(U:UN B l4 u0 n un)(hn4:n<=4){P:Nat->Prop}(hP: ∀r k,P r->k<n->cmB (un r) (un k)=true->P k): ∀(m f:Nat),m<f-> ∀(rs ws:Ab)(nm o:Bi),n - rs.length+ws.length<=m->ws.length<=rs.length->rs.Nodup->(∀r∈rs,r<n/\P r)->(∀r∈ws,r∈rs)->(∀r∈rs,r∉ws-> ∀k,k<n->cmB (un r) (un k)=true->k∈rs)->
  ∃rs' nm' o',gX wT gT f (SA ts q i l0 l4 B.length nm o) (StW B rs ws)=.ok (.next (SA ts q i l0 l4 B.length nm' o')) (StW B rs' [])/\(∀r∈rs,r∈rs')/\rs'.Nodup/\(∀r∈rs',r<n/\P r)/\ ∀r∈rs', ∀k,k<n->cmB (un r) (un k)=true->k∈rs'
 |m,f,hf,rs,ws,nm,o,hm,hwl,hnd,hr,hw,hc=>by
  obtain⟨f,rfl⟩: ∃g,f=g+1:=⟨f - 1,by omega⟩
  have ht:wT (SA ts q i l0 l4 B.length nm o) (StW B rs ws)=.ok (!(ws.map zF).isEmpty) (StW B rs ws):=by unfold wT;simp? [yOB (zXK B rs ws)]
  have hrl:rs.length<=n:=by have:=zDI hnd λx hx=>mem_range.mpr (hr x hx).1;rw [length_range]at this;exact this
  rcases List.eq_nil_or_concat ws with rfl|⟨ws,w,rfl⟩
  ·exact⟨rs,nm,o,zRZ ht,λr h=>h,hnd,hr,λr h=>hc r h (by simp)⟩
  ·rw [List.concat_eq_append]at *;have ht':wT (SA ts q i l0 l4 B.length nm o) (StW B rs (ws++[w]))=.ok true (StW B rs (ws++[w])):=by rw [ht];simp
   rw [lA,lS]at hm hwl;have hww:w∈rs:=hw w (mem_append.mpr (.inr mF0));have hwn:=hr w hww;obtain⟨t,o',e,h3,h4,h5⟩:=yOA (ts:=ts) (q:=q) (i:=i) (l0:=l0) U hn4 hwn.1 (rs:=rs) (ws:=ws) (by omega) (by omega) nm o;have hnd':=h3 hnd
   have hr': ∀r∈rs++t,r<n/\P r:=λr h=>by
    rcases mem_append.mp h with h|h
    ·exact hr r h
    ·exact⟨(h4 r h).1,hP w r hwn.2 (h4 r h).1 (h4 r h).2⟩
   have hrl':(rs++t).length<=n:=by have:=zDI hnd' λx hx=>mem_range.mpr (hr' x hx).1;rw [length_range]at this;exact this
   rw [lA]at hrl';have hlt:m - 1<m:=by omega
   obtain⟨rs',nm',o'',e2,g1,g2,g3,g4⟩:=zXL (ts:=ts) (q:=q) (i:=i) (l0:=l0) U hn4 hP (m - 1) f (by omega) (rs++t) (ws++t) (some (.loc (u0+w))) o' (by rw [lA,lA];omega) (by rw [lA,lA];omega) hnd' hr' (λr h=>by
    rcases mem_append.mp h with h|h
    ·exact mem_append.mpr (.inl (hw r (mem_append.mpr (.inl h))))
    ·exact mem_append.mpr (.inr h)) (λr h hn k hk hcm=>by
    rcases mem_append.mp h with h|h
    ·by_cases e:r=w
     ·subst e;exact h5 k hk hcm
     ·exact mem_append.mpr (.inl (hc r h (λz=>by
       rcases mem_append.mp z with z|z
       ·exact hn (mem_append.mpr (.inl z))
       ·exact e (mS.mp z)) k hk hcm))
    ·exact absurd (mem_append.mpr (.inr h)) hn)
   refine⟨rs',nm',o'',?_,λr h=>g1 r (mem_append.mpr (.inl h)),g2,g3,g4⟩;rw [zJV ht' e];exact e2
 termination_by m=>m
abbrev RcQ(ts:Ac)(hs:Aa)(as:Bj):Nat->Nat->Prop:=Rc (Kq ts hs as) (Fq hs as) as.length
def unL(hs ks:Aa)(as:Bj)(j:Nat):List (List Nat):=(Fq hs as j).filter λx=>!decide (x∈ks)
def yJR{ts:Ac}{hs ks:Aa}{as:Bj}{i:Nat}(hk: ∀x,x∈ks↔KnQ ts hs as i x)(r k:Nat):cmB (unL hs ks as r) (unL hs ks as k)=true↔ ∃x,x∈Fq hs as r/\x∈Fq hs as k/\ ¬KnQ ts hs as i x:=by
 unfold cmB;rw [any_eq_true];constructor
 ·rintro⟨x,h1,h2⟩;have h2:=of_decide_eq_true h2;unfold unL at h1 h2;rw [mem_filter]at h1 h2;exact⟨x,h1.1,h2.1,λz=>by have:=h1.2;rw [dT0 ((hk x).mpr z)]at this;cases this⟩
 ·rintro⟨x,h1,h2,h3⟩;have e:(!decide (x∈ks))=true:=by rw [dF0 λz=>h3 ((hk x).mp z)];rfl
  exact⟨x,mem_filter.mpr ⟨h1,e⟩,dT0 (mem_filter.mpr ⟨h2,e⟩)⟩
def yJS{ts:Ac}{hs:Aa}{as:Bj}{i j:Nat}(hi:i<as.length)(h:RcQ ts hs as i j):j<as.length:=by
 cases h with
 |self=>exact hi
 |step j k _ hk _ _ _=>exact hk
theorem yOC(S:Sto)(i:Nat):zWO S.length (.val (zF i)) (.val (.bl true)) (S++[.dic []])=.ok (.val (.loc S.length)) (S++[.dic (rD [i])]):=by unfold zWO;dsimp only;rw [iP ⟨rfl,zL _ _⟩,xT];rfl
def yFE{ts:Ac}{hs:Aa}{as:Bj}(hA: ∀a∈as,AOk ts a)(hlen:as.length<=4){i:Nat}(hi:i<as.length)(S:Sto):
  ∃rs:List Nat,zW 3 nT [.val (.tup (ts.map tbl)),.val (qM hs as),.val (zF i)] S=.ok (.new (rs.map zF)) S/\rs.Nodup/\ ∀j,j∈rs↔RcQ ts hs as i j:=by
 obtain⟨ks,T,e1,hk,_⟩:=yJK (hs:=hs) hA hlen hi S;obtain⟨S1,hS1⟩: ∃S1:Sto,S1=S++.dic (dT ks)::T:=⟨_,rfl⟩
 have hat: ∀U:Sto,(S1++U)[S.length]? =some (.dic (dT ks)):=λU=>by rw [hS1,aA];exact zPZ _ _ _
 have hin: ∀a∈as, ∀U:Sto, ∃ρ1,gNm 0 (aM a) [none,some (qM hs as),some (.loc S.length)] (S1++U)=.ok ρ1 (S1++U)/\zDY ρ1 (S1++U)=.ok true (S1++U)/\bP ρ1 (S1++U)=.ok (.new (((frL hs a).filter λx=>!decide (x∈ks)).map MV.str)) (S1++U):=λa ha U=>by
  have hAa:=hA a ha;refine⟨[some (aM a),some (qM hs as),some (.loc S.length)],rfl,rfl,?_⟩
  have hc:yY (gNm 0) bO zDX [none,some (.loc S.length)] [] ((frL hs a).map MV.str) (S1++U)=.ok (((frL hs a).filter λx=>!decide (x∈ks)).map MV.str) (S1++U):=
   kC (yO _) λx _=>⟨[some (.str x),some (.loc S.length)],rfl,by unfold bO;simp? [yJC true (hat U) x],rfl⟩
  have hl:((frL hs a).map MV.str).length<1000000:=by rw [lM];have:=zMK (hs:=hs) hAa;omega
  have hb: ∀a b c:Option MV,blk 1 [2] [a,b,c]=[none,c]:=λ_ _ _=>rfl;unfold bP;simp? [yPC hAa,zES,hl,hb,hc]
 have hcl:=zQA (f:=aM) (g:=λa=>((frL hs a).filter λx=>!decide (x∈ks)).map MV.str) as hin [];rw [aN,length_nil,Nat.add_zero]at hcl;obtain⟨B,hB⟩: ∃B:Sto,B=S1++(as.map λa=>MO.lst (((frL hs a).filter λx=>!decide (x∈ks)).map MV.str))++[.lst ((List.range' S1.length as.length).map MV.loc)]:=⟨_,rfl⟩
 have U:UN B (S1.length+as.length) S1.length as.length (unL hs ks as):=by
  refine⟨?_,λj hj=>?_,λj hj=>?_⟩
  ·rw [hB,getElem?_append_right (by rw [lA,lM];exact le_refl _),lA,lM,sub_self];rfl
  ·rw [hB,aA,getElem?_append_right (by omega),Nat.add_sub_cancel_left,getElem?_append_left (by rw [lM];exact hj),getElem?_map,gE0 hj];unfold unL;rw [zLB (gE0 hj)];rfl
  ·unfold unL;rw [zLB (gE0 hj)];have h1:=length_filter_le (λx=>!decide (x∈ks)) (frL hs as[j]);have h2:=zMK (hs:=hs) (hA _ (getElem_mem hj));omega
 obtain⟨rs,nm',o',e5,g1,g2,g3,g4⟩:=zXL (ts:=ts) (q:=qM hs as) (i:=i) (l0:=S.length) U hlen (P:=RcQ ts hs as i) (λr k hr hkl hc=>by
  obtain⟨x,h1,h2,h3⟩:=(yJR hk r k).mp hc;exact .step r k hr hkl h1 h2 h3) 10 10000 (by omega) [i] [i] none none (by rw [lS];omega) (le_refl _) (by simp) (λr hr=>by
  rw [mS.mp hr];exact⟨hi,.self⟩) (λr h=>h) (λr h hn=>absurd h hn)
 refine⟨rs,?_,g2,λj=>⟨λh=>(g3 j h).2,λh=>?_⟩⟩
 ·have hBS: ∃V,StW B rs []=S++V:=⟨_,by rw [show StW B rs []=B++[.dic (rD rs),.lst []]from rfl,hB,hS1];simp only [aA];rfl⟩
  obtain⟨V,hV⟩:=hBS;refine gF (T:=V) rfl ?_ (yNX _ _);show xE (zEO [some (.tup (ts.map tbl)),some (qM hs as),some (zF i),none,none,none,none,none,none] S)=_;have f1:zAJ [some (.tup (ts.map tbl)),some (qM hs as),some (zF i),none,none,none,none,none,none] S=.ok (.next [some (.tup (ts.map tbl)),some (qM hs as),some (zF i),some (.loc S.length),none,none,none,none,none]) S1:=by unfold zAJ;simp? [e1];rw [hS1]
  have hb: ∀a b c d e f g h i:Option MV,blk 1 [1,3] [a,b,c,d,e,f,g,h,i]=[none,b,d]:=λ_ _ _ _ _ _ _ _ _=>rfl;have hl:(as.map aM).length<1000000:=by rw [lM];omega
  have f2:zAK [some (.tup (ts.map tbl)),some (qM hs as),some (zF i),some (.loc S.length),none,none,none,none,none] S1=.ok (.next [some (.tup (ts.map tbl)),some (qM hs as),some (zF i),some (.loc S.length),some (.loc (S1.length+as.length)),none,none,none,none]) B:=by unfold zAK;simp? [zNJ,zPY,hl,hb,hcl];rw [hB,lA,lM]
  have f3:zAL [some (.tup (ts.map tbl)),some (qM hs as),some (zF i),some (.loc S.length),some (.loc (S1.length+as.length)),none,none,none,none] B=.ok (.next [some (.tup (ts.map tbl)),some (qM hs as),some (zF i),some (.loc S.length),some (.loc (S1.length+as.length)),some (.loc B.length),none,none,none]) (B++[.dic (rD [i])]):=by unfold zAL;simp? [d1J,yOC]
  have f4:zAM [some (.tup (ts.map tbl)),some (qM hs as),some (zF i),some (.loc S.length),some (.loc (S1.length+as.length)),some (.loc B.length),none,none,none] (B++[.dic (rD [i])])=.ok (.next (SA ts (qM hs as) i S.length (S1.length+as.length) B.length none none)) (StW B [i] [i]):=by unfold zAM;simp? [lst1];rw [lA,aA];rfl
  unfold zEO;rw [zC f1,zC f2,zC f3,zC f4,zC (show zHE _ _=_ from e5)];unfold zHF;simp? [yJN (yJO B rs [])];rw [hV];rfl
 ·induction h with
  |self=>exact g1 i mF0
  |@step x j k hj hkn h1 h2 h3 ih=>exact g4 j ih k hkn ((yJR hk j k).mpr ⟨x,h1,h2,h3⟩)
abbrev Pr:=Nat×Nat
def prM(p:Pr):MV:=.tup [zF p.1,zF p.2]
def pr_pd(T:List Pr): ∀y∈T.map prM,pd y=true/\dpt y<40:=λy hy=>by obtain⟨p,_,rfl⟩:=mM.mp hy;unfold prM;exact⟨by rw [zMG,gQ,gQ,zNX,zMH,zMH];rfl,by rw [zKW,jP,jP,zKX,zKY,zKY];decide⟩
def yPD(T:List Pr)(n:Nat):loL n (T.map prM):=kZ λd hd=>zST (pr_pd T d hd).1
def pLt(a b:Pr):Bool:=decide (a.1<b.1\/a.1=b.1/\a.2<b.2)
theorem zNA{α:Type}{le:α->α->Prop}: ∀{l1 l2:List α},l1.Perm l2->l1.Pairwise le->l2.Pairwise le->(∀a∈l1, ∀b∈l1,le a b->le b a->a=b)->l1=l2
 |[],l2,p,_,_,_=>p.nil_eq
 |a::l1,[],p,_,_,_=>by have:=p.length_eq;simp at this
 |a::l1,b::l2,p,h1,h2,u=>by
  have c1:=pairwise_cons.mp h1;have c2:=pairwise_cons.mp h2
  have e:a=b:=by
   rcases mC.mp (p.mem_iff.mp (mF0 (a:=a) (l:=l1)))with e|m2
   ·exact e
   ·rcases mC.mp (p.mem_iff.mpr (mF0 (a:=b) (l:=l2)))with e|m1
    ·exact e.symm
    ·exact u a mF0 b (mO _ m1) (c1.1 b m1) (c2.1 a m2)
  subst e;rw [zNA (p.cons_inv) c1.2 c2.2 λx hx y hy=>u x (mO _ hx) y (mO _ hy)]
def zQB{β:Type}(T:List β):(List.range T.length).filterMap (T[·]?)=T:=by
 induction T with
 |nil=>rfl
 |cons t T ih=>
  rw [lC,List.range_succ_eq_map,filterMap_cons,List.filterMap_map];show t::List.filterMap (λi=>(t::T)[i+1]?) (List.range T.length)=_;simp only [List.getElem?_cons_succ];rw [ih]
def zQC(S:Sto)(a b:Pr):ltv S zQ (prM a) (prM b)=some (pLt a b):=by
 have e:zQ=38+1+1:=rfl;rw [e];show((eqv S (38+1) (zF a.1) (zF b.1)).bind λz=>if z=true then((eqv S (38+1) (zF a.2) (zF b.2)).bind λz=>if z=true then some false else ltv S (38+1) (zF a.2) (zF b.2))else ltv S (38+1) (zF a.1) (zF b.1))=_;rw [show eqv S (38+1) (zF a.1) (zF b.1)=some (decide ((a.1:Int)=b.1))from zIX 38 a.1 b.1,show eqv S (38+1) (zF a.2) (zF b.2)=some (decide ((a.2:Int)=b.2))from zIX 38 a.2 b.2];show(if decide ((a.1:Int)=b.1)=true then(if decide ((a.2:Int)=b.2)=true then some false else some (decide ((a.2:Int)<b.2)))else some (decide ((a.1:Int)<b.1)))=_;unfold pLt;split
 ·rename_i h;have h:=of_decide_eq_true h;split
  ·rename_i h2;have h2:=of_decide_eq_true h2;rw [dF0 (by omega)]
  ·exact congrArg some (dec_is (by omega))
 ·rename_i h;have h: ¬(a.1:Int)=b.1:=λz=>h (dT0 z);exact congrArg some (dec_is (by omega))
def zQD{a b:Pr}:pLt a b=false↔ ¬(a.1<b.1\/a.1=b.1/\a.2<b.2):=by unfold pLt;exact decide_eq_false_iff_not
def zXM{a b:Pr}:pLt a b=true↔(a.1<b.1\/a.1=b.1/\a.2<b.2):=by unfold pLt;exact decide_eq_true_iff
def yOD{T R:List Pr}(pR:R.Perm T)(qR:R.Pairwise (λa b=>pLt b a=false))(hl:T.length<64){p:Er}{S:Sto}(hp:kL S p=some (T.map prM)):zSG [p] S=.ok (.new (R.map prM)) S:=by
 cases hT:T with
 |nil=>
  subst hT;have e:R=[]:=pR.eq_nil;subst e;refine yBN hp ⟨by simp,λd hd=>by simp at hd,λd hd=>by simp at hd,⟨λa ha=>by simp at ha,λa ha=>by simp at ha,λa ha=>by simp at ha⟩⟩ (λr' h=>?_) ⟨[],by simp,.nil,rfl⟩;obtain⟨idx,ip,_,rfl⟩:=h;have:=ip.length_eq;have e2:idx=[]:=List.eq_nil_of_length_eq_zero (by simpa using this);rw [e2];rfl
 |cons t0 T0=>
 have mem: ∀k∈T.map prM, ∃t,k=prM t:=λk hk=>by obtain⟨t,_,h2⟩:=mM.mp hk;exact⟨t,h2.symm⟩
 have ok:SrtJ S (T.map prM):=by
  refine⟨by rw [lM];exact hl,λd hd=>?_,λd hd=>?_,⟨λa ha b hb=>?_,λa ha b hb c hc h1 h2=>?_,λa ha b hb h1=>?_⟩⟩
  ·obtain⟨t,rfl⟩:=mem d hd;simp [prM,zHC,zSC]
  ·obtain⟨t,rfl⟩:=mem d hd;exact⟨_,_,rfl⟩
  ·obtain⟨t,rfl⟩:=mem a ha;obtain⟨u,rfl⟩:=mem b hb;exact⟨_,zQC S t u⟩
  ·obtain⟨t,rfl⟩:=mem a ha;obtain⟨u,rfl⟩:=mem b hb;obtain⟨v,rfl⟩:=mem c hc;rw [zQC]at h1 h2 ⊢;have h1:=zQD.mp (Option.some.inj h1);have h2:=zQD.mp (Option.some.inj h2);rw [zQD.mpr (by omega)]
  ·obtain⟨t,rfl⟩:=mem a ha;obtain⟨u,rfl⟩:=mem b hb;rw [zQC]at h1 ⊢;have h1:=zXM.mp (Option.some.inj h1);rw [zQD.mpr (by omega)]
 refine yBN hp ok (λr' h=>?_) ?_
 ·obtain⟨idx,p',q',rfl⟩:=h;rw [lM]at p';have e1:(idx.filterMap (T[·]?)).Perm T:=by have:=p'.filterMap (T[·]?);rwa [zQB]at this
  have e2:(idx.filterMap (T[·]?)).Pairwise (λa b=>pLt b a=false):=by rw [List.pairwise_filterMap];refine q'.imp λ{i j} h b hb c hc=>?_;have h':=h (prM b) (prM c) (by rw [getElem?_map,hb];rfl) (by rw [getElem?_map,hc];rfl);rw [zQC]at h';exact Option.some.inj h'
  have e3:idx.filterMap ((T.map prM)[·]?)=(idx.filterMap (T[·]?)).map prM:=by rw [map_filterMap];congr 1;funext i;rw [getElem?_map]
  rw [e3,zNA (e1.trans pR.symm) e2 qR λa _ b _ h1 h2=>by have h1:=zQD.mp h1;have h2:=zQD.mp h2;exact Prod.ext (by omega) (by omega)]
 ·have g:(List.range T.length).map (λi=>(T[i]?).getD t0)=T:=by rw [zOX λi hi=>mem_range.mp hi,zQB]
  obtain⟨idx,ip,ie⟩:=zSD pR.symm (List.range T.length) g;have ib: ∀i,i∈idx->i<T.length:=λi hi=>mem_range.mp (ip.mem_iff.mp hi);refine⟨idx,by rw [lM];exact ip,?_,?_⟩
  ·rw [<-ie,pairwise_map]at qR;refine List.Pairwise.imp_of_mem (λ{i j} hi hj h a c ha hc=>?_) qR;have zi:T[i]? =some (T[i]'(ib i hi)):=gE0 _;have zj:T[j]? =some (T[j]'(ib j hj)):=gE0 _;rw [getElem?_map,zi]at ha;rw [getElem?_map,zj]at hc;cases ha;cases hc;rw [zi,zj]at h;rw [zQC];exact congrArg some h
  ·have e2:idx.map (λi=>(T[i]?).getD t0)=idx.filterMap (T[·]?):=zOX ib;rw [<-ie,e2,map_filterMap];congr 1;funext i;rw [getElem?_map]
theorem yCK(ds:Bh)(S:Sto):itE [.val (.tup ds)] S=.ok ⟨zTT ds,[]⟩ S:=rfl
abbrev CT(q:MV)(l:Nat)(p a:Bi):Rho:=[some q,some (.loc l),p,a]
theorem yJT{q:MV}(S:Sto): ∀(as:Bj)(k:Nat)(rs:Ab)(p a:Bi),rs.length+as.length<1000->(∀a∈as,0<=a.1)->(rs++as.map λa=>a.1.toNat).Nodup->
  ∃p' a' rs',kY (gTp 2 (xF (gNm 2) (xF (gNm 3) zEY))) kN [] (((as.map aM).zipIdx k).map λp=>.tup [.int (p.2:Nat),p.1]) (CT q S.length p a) (S++[.dic (rD rs)])=.ok (.next (CT q S.length p' a')) (S++[.dic (rD rs')])
 |[],k,rs,p,a,_,_,_=>⟨p,a,rs,rfl⟩
 |c::as,k,rs,p,a,hl,h0,hn=>by
  rw [lC]at hl;have hc0:=h0 c mF0;have hci:zF c.1.toNat=.int c.1:=by rw [show zF c.1.toNat=.int ((c.1.toNat:Nat):Int)from rfl,Int.toNat_of_nonneg hc0]
  rw [map_cons]at hn;have hnot:c.1.toNat∉rs:=λz=>(nodup_append.mp hn).2.2 _ z _ mF0 rfl;obtain⟨p',a',rs',ih⟩:=yJT (q:=q) S as (k+1) (rs++[c.1.toNat]) (some (.int (k:Nat))) (some (aM c)) (by rw [lA,lS];omega) (λb hb=>h0 b (mO _ hb)) (by rw [aA];exact hn);refine⟨p',a',rs',?_⟩;have hin:=yJM false (zL S (.dic (rD rs))) c.1.toNat;rw [dF0 hnot,iN xF0,hci]at hin;have hst:=λρ=>yCI (zL S (.dic (rD rs))) (show rs.length<1000000 by omega) hnot ρ;rw [hci]at hst;have hix: ∀S:Sto,ixF (.val (aM c)) (.val (.int 0)) S=.ok (.val (.int c.1)) S:=λ_=>rfl;have e1:wR (CT q S.length (some (.int (k:Nat))) (some (aM c))) (S++[.dic (rD rs)])=.ok (.next (CT q S.length (some (.int (k:Nat))) (some (aM c)))) (S++[.dic (rD rs)]):=by unfold wR;simp? [hix,hin,fT,iF]
  have e2:wS (CT q S.length (some (.int (k:Nat))) (some (aM c))) (S++[.dic (rD rs)])=.ok (.next (CT q S.length (some (.int (k:Nat))) (some (aM c)))) (S++[.dic (rD (rs++[c.1.toNat]))]):=by unfold wS;simp? [hix,zBR,hst,xT]
  rw [map_cons,zipIdx_cons,map_cons,zS (ρ0:=CT q S.length (some (.int (k:Nat))) (some (aM c))) (S0:=S++[.dic (rD rs)]) rfl (by unfold kN;rw [zC e1];exact e2) (yO _)];exact ih
theorem yOE{hs:Aa}{as:Bj}(hl:as.length<=4)(h0: ∀a∈as,0<=a.1)(hn:(as.map λa=>a.1.toNat).Nodup)(S:Sto):zW 1 wN [.val (qM hs as)] S=.ok (.val .non) S:=by
 obtain⟨p',a',rs',e⟩:=yJT (q:=qM hs as) S as 0 [] none none (by rw [length_nil];omega) h0 hn;refine zFB (T:=[.dic (rD rs')]) rfl ?_ (yHJ _) (λl=>by simp);show xE (jW [some (qM hs as),none,none,none] S)=_;have e1:kO [some (qM hs as),none,none,none] S=.ok (.next (CT (qM hs as) S.length none none)) (S++[.dic (rD [])]):=by unfold kO;simp? [zWB];rfl
 unfold jW;rw [zC e1];unfold cX;simp? [zNJ,yCK,zTT];rw [show(List.map (λp=>MV.tup [.int (p.2:Nat),p.1]) (List.map aM as).zipIdx)=(((as.map aM).zipIdx 0).map λp=>.tup [.int (p.2:Nat),p.1])from rfl,e];rfl
structure QOk(ts:Ac)(as:Bj):Prop where
 at': ∀a∈as,AOk ts a
 len:as.length<=4
 pos: ∀a∈as,0<=a.1
 nd:(as.map λa=>a.1.toNat).Nodup
 ne:1<=as.length
open Classical in
def PR(R:Nat->Nat->Prop)(n:Nat):List Pr:=(List.range n).flatMap λa=>((List.range n).filter λb=>decide (b≠a/\R a b)).map λb=>(a,b)
open Classical in
def yJU{R:Nat->Nat->Prop}{n:Nat}{p:Pr}:p∈PR R n↔p.1<n/\p.2<n/\p.2≠p.1/\R p.1 p.2:=by
 unfold PR;rw [mem_flatMap];constructor
 ·rintro⟨a,ha,h⟩;obtain⟨b,hb,rfl⟩:=mM.mp h;rw [mem_filter]at hb;exact⟨mem_range.mp ha,mem_range.mp hb.1,of_decide_eq_true hb.2⟩
 ·rintro⟨h1,h2,h3⟩;exact⟨p.1,mem_range.mpr h1,mM.mpr ⟨p.2,mem_filter.mpr ⟨mem_range.mpr h2,dT0 h3⟩,rfl⟩⟩
def yPE(R:Nat->Nat->Prop)(n:Nat):(PR R n).Pairwise (λa b=>pLt a b=true):=by
 unfold PR;rw [List.pairwise_flatMap];refine⟨λa _=>?_,?_⟩
 ·rw [pairwise_map];refine List.Pairwise.imp ?_ (List.Pairwise.filter _ List.pairwise_lt_range);intro x y h;exact zXM.mpr (.inr ⟨rfl,h⟩)
 ·refine List.pairwise_lt_range.imp λ{a b} h x hx y hy=>?_;obtain⟨_,_,rfl⟩:=mM.mp hx;obtain⟨_,_,rfl⟩:=mM.mp hy;exact zXM.mpr (.inl h)
def yPF(R:Nat->Nat->Prop)(n:Nat):(PR R n).Nodup:=(yPE R n).imp λ{a b} h e=>by subst e;have:=zXM.mp h;omega
def yOF{S:Sto}{l:Nat}{ds es:Bh}(hS:S[l]? =some (.lst ds))(hz:ds.length+es.length<=1000000):extF (.val (.loc l)) [.new es] S=.ok (.val .non) (S.set l (.lst (ds++es))):=by show zKK (.val (.loc l)) S (λds=>if ds.length+es.length<=sizeLine then some (ds++es)else none)=_;unfold zKK;dsimp only;rw [hS];dsimp only;rw [iP (fits hz)]
section
variable{ts:Ac}{hs:Aa}{as:Bj}
abbrev SW(ts:Ac)(q:MV)(p o:Bi):Rho:=[some (.tup (ts.map tbl)),some q,p,o]
def yJV{i:Nat}{rs:Ab}(Q:QOk ts as)(hi:i<as.length)(hn:rs.Nodup)(h: ∀j,j∈rs↔RcQ ts hs as i j):rs.length<=4:=by have:=zDI hn λx hx=>mem_range.mpr (yJS hi ((h x).mp hx));rw [length_range]at this;have:=Q.len;omega
theorem yJW(Q:QOk ts as)(S:Sto): ∀(m k:Nat)(T:List Pr)(o:Bi),k+m=as.length->T.length<=4 * k->T.Nodup->(∀p,p∈T↔p.1<k/\p.2≠p.1/\RcQ ts hs as p.1 p.2)->
  ∃(T':List Pr)(o':Bi),kY (gNm 3) zJG [] ((List.range' k m).map zF) (SW ts (qM hs as) (some (.loc S.length)) o) (S++[.lst (T.map prM)])=.ok (.next (SW ts (qM hs as) (some (.loc S.length)) o')) (S++[.lst (T'.map prM)])/\T'.length<=16/\T'.Nodup/\ ∀p,p∈T'↔p.1<as.length/\p.2≠p.1/\RcQ ts hs as p.1 p.2
 |0,k,T,o,hk,hl,hn,h=>⟨T,o,rfl,by have:=Q.len;omega,hn,by rw [<-hk];exact h⟩
 |m+1,k,T,o,hk,hl,hn,h=>by
  have hki:k<as.length:=by omega
  obtain⟨rs,e1,hrn,hrs⟩:=yFE (hs:=hs) Q.at' Q.len hki (S++[.lst (T.map prM)]);have hrl:=yJV Q hki hrn hrs;have hql:=Q.len
  have hc:yY (gNm 0) zIF zIG [none,some (zF k)] [] (rs.map zF) (S++[.lst (T.map prM)])=.ok (((rs.filter λb=>!decide (b=k)).map λb=>(k,b)).map prM) (S++[.lst (T.map prM)]):=by
   rw [map_map]
   exact kC (yO _) λb _=>⟨[some (zF b),some (zF k)],rfl,by
    unfold zIF;simp? [ne_int];rw [dec_is (show(b:Int)=k↔b=k by omega)],by
    unfold zIG;simp? [tup2];rfl⟩
  obtain⟨N,eN⟩: ∃N:List Pr,N=(rs.filter λb=>!decide (b=k)).map λb=>(k,b):=⟨_,rfl⟩
  rw [<-eN]at hc;have hNl:N.length<=4:=by rw [eN,lM];exact le_trans (length_filter_le _ _) hrl
  have hNm: ∀p,p∈N↔p.1=k/\p.2≠p.1/\RcQ ts hs as p.1 p.2:=λp=>by
   rw [eN,mM];constructor
   ·rintro⟨b,hb,rfl⟩;rw [mem_filter,hrs]at hb;refine⟨rfl,λe=>?_,hb.1⟩;have h2:=hb.2;rw [dT0 (show b=k from e)]at h2;cases h2
   ·rintro⟨h1,h2,h3⟩;refine⟨p.2,?_,Prod.ext h1.symm rfl⟩;rw [mem_filter,hrs, <-h1,dF0 h2];exact⟨h3,rfl⟩
  have hNn:N.Nodup:=by rw [eN];unfold List.Nodup;rw [pairwise_map];exact(List.Pairwise.filter _ hrn).imp λ{x y} h e=>h (congrArg Prod.snd e)
  have hl1:(rs.map zF).length<1000000:=by rw [lM];omega
  have hz:(T.map prM).length+(N.map prM).length<=1000000:=by rw [lM,lM];omega
  have hb: ∀a b c d:Option MV,blk 1 [3] [a,b,c,d]=[none,d]:=λ_ _ _ _=>rfl;have eb:zJG (SW ts (qM hs as) (some (.loc S.length)) (some (zF k))) (S++[.lst (T.map prM)])=.ok (.next (SW ts (qM hs as) (some (.loc S.length)) (some (zF k)))) (S++[.lst ((T++N).map prM)]):=by unfold zJG zMW;simp? [jO (zL S (.lst (T.map prM))),e1,zES,hl1,hb,hc,yOF (zL S (.lst (T.map prM))) hz,xT];rw [map_append]
  obtain⟨T',o',e,g⟩:=yJW Q S m (k+1) (T++N) (some (zF k)) (by omega) (by rw [lA];omega) (nodup_append.mpr ⟨hn,hNn,λx hx y hy=>by
   rintro rfl;have h1:=(h x).mp hx;have h2:=(hNm x).mp hy;omega⟩) (λp=>by
   rw [mem_append,h,hNm];constructor
   ·rintro(⟨a,b,c⟩|⟨a,b,c⟩)
    ·exact⟨by omega,b,c⟩
    ·exact⟨by omega,b,c⟩
   ·rintro⟨a,b,c⟩;by_cases hpk:p.1=k
    ·exact .inr ⟨hpk,b,c⟩
    ·exact .inl ⟨by omega,b,c⟩)
  refine⟨T',o',?_,g⟩;rw [range'_succ,map_cons,zS (ρ0:=(SW ts (qM hs as) (some (.loc S.length)) (some (zF k)))) rfl eb (yO _)];exact e
abbrev PQ(ts:Ac)(hs:Aa)(as:Bj):List Pr:=PR (RcQ ts hs as) as.length
theorem yJX(Q:QOk ts as)(S:Sto):zW 2 zJH [.val (.tup (ts.map tbl)),.val (qM hs as)] S=.ok (.new ((PQ ts hs as).map prM)) S:=by
 obtain⟨T',o',e,hl,hn,hT⟩:=yJW (hs:=hs) Q S as.length 0 [] none (by omega) (le_refl _) nodup_nil (λp=>⟨λh=>by simp at h,λh=>absurd h.1 (Nat.not_lt_zero _)⟩);refine gF (T:=[.lst (T'.map prM)]) rfl ?_ (yPD _ _);show xE (zUG (SW ts (qM hs as) none none) S)=_;have e1:zMB (SW ts (qM hs as) none none) S=.ok (.next (SW ts (qM hs as) none none)) S:=by unfold zMB;simp? [yOE Q.len Q.pos Q.nd]
 have e2:zMC (SW ts (qM hs as) none none) S=.ok (.next (SW ts (qM hs as) (some (.loc S.length)) none)) (S++[.lst []]):=by unfold zMC;simp? [bok]
 have hlen:=Q.len;have e3:zMD (SW ts (qM hs as) (some (.loc S.length)) none) (S++[.lst []])=.ok (.next (SW ts (qM hs as) (some (.loc S.length)) o')) (S++[.lst (T'.map prM)]):=by unfold zMD;simp? [zNJ,zEE,lM,zNK (n:=as.length) (by omega)];rw [List.range_eq_range'];exact e
 have hp:(PQ ts hs as).Perm T':=(List.perm_ext_iff_of_nodup (yPF _ _) hn).mpr λp=>by rw [yJU,hT];exact⟨λh=>⟨h.1,h.2.2⟩,λh=>⟨h.1,yJS h.1 h.2.2,h.2⟩⟩
 have hs4:=yOD hp ((yPE _ _).imp λ{a b} h=>zQD.mpr (by have:=zXM.mp h;omega)) (by omega) (bM (zL S (.lst (T'.map prM))));unfold zUG;rw [zC e1,zC e2,zC e3];unfold zSQ;simp? [hs4];rfl
end
def abc:List Nat:=[97,98,99,100,101,102,103,104,105,106,107,108,109,110,111,112,113,114,115,116,117,118,119,120,121,122]
def yAD(i:Int)(S:Sto): ∃k,ixF (.val (.str abc)) (.val (.int (i % 26))) S=.ok (.val (.str [k])) S:=by obtain⟨k,hk⟩:=zKM (xs:=abc) (i:=i % 26) (eN0 _ (by decide)) (by have:=eL i (show(0:Int)<26 by decide);show i % 26<26;exact this);exact⟨k,ix_str (show abc.length<=sizeLine by rw [sizeLine_eq];decide) hk⟩
def addS{x y:Ab}(h:x.length+y.length<=1000)(S:Sto):xY (.val (.str x)) (.val (.str y)) S=.ok (.val (.str (x++y))) S:=add_str (fits (by omega))
abbrev NI(c:Int)(m:Bi)(x:Ab)(o:Bi):Rho:=[some (.int c),some (.str abc),m,some (.str x),o]
theorem yJY(m:Bi)(S:Sto): ∀(ds:Bh)(c:Int)(x:Ab)(o:Bi),x.length+ds.length<=900-> ∃c' x' o',kY (gNm 4) dF [] ds (NI c m x o) S=.ok (.next (NI c' m x' o')) S/\x'.length=x.length+ds.length
 |[],c,x,o,_=>⟨c,x,o,rfl,rfl⟩
 |d::ds,c,x,o,h=>by
  rw [lC]at h;obtain⟨k,hk⟩:=yAD c S;have e1:bA (NI c m x (some d)) S=.ok (.next (NI c m (x++[k]) (some d))) S:=by unfold bA;simp? [mod_lit (show(0:Int)<26 by decide),hk,addS (x:=x) (y:=[k]) (by rw [lS];omega)]
  have e2:bB (NI c m (x++[k]) (some d)) S=.ok (.next (NI (c / 26) m (x++[k]) (some d))) S:=by unfold bB;simp? [yI (b:=26) (by decide) (by decide)]
  obtain⟨c',x',o',e,hl⟩:=yJY m S ds (c / 26) (x++[k]) (some d) (by rw [lA,lS];omega);refine⟨c',x',o',?_,by rw [hl,lA,lS,lC];omega⟩;rw [zS (ρ0:=NI c m x (some d)) rfl (by unfold dF;rw [zC e1];exact e2) (yO _)];exact e
theorem yCL(c:Int)(S:Sto): ∃x c',zW 1 wU [.val (.int c)] S=.ok (.val (.tup [.str x,.int c'])) S/\x.length<=8:=by
 have h0:=eN0 c (show(8:Int)≠0 by decide);have h1:=eL c (show(0:Int)<8 by decide);obtain⟨c',x',o',e,hl⟩:=yJY (some (.int (1+c % 8))) S ((List.range (1+c % 8).toNat).map λk=>.int (k:Nat)) (c / 8) [] none (by rw [lM,length_range,length_nil];omega);rw [lM,length_range,length_nil]at hl;refine⟨x',c',?_,by omega⟩
 refine zFD rfl ?_ (zGC (kZ λd hd=>by
  rcases mC.mp hd with rfl|hd
  ·exact zLT _ _
  ·rw [mS.mp hd];exact zHQ _ _)) (λl=>by simp)
 show xE (zCL [some (.int c),none,none,none,none] S)=_;have e1:dG [some (.int c),none,none,none,none] S=.ok (.next [some (.int c),some (.str abc),none,none,none]) S:=by unfold dG;simp? [bok];rfl
 have e2:dH [some (.int c),some (.str abc),none,none,none] S=.ok (.next [some (.int c),some (.str abc),some (.int (1+c % 8)),none,none]) S:=by unfold dH;simp? [mod_lit (show(0:Int)<8 by decide)]
 have e3:dI [some (.int c),some (.str abc),some (.int (1+c % 8)),none,none] S=.ok (.next [some (.int (c / 8)),some (.str abc),some (.int (1+c % 8)),none,none]) S:=by unfold dI;simp? [yI (b:=8) (by decide) (by decide)]
 have e4:dL [some (.int (c / 8)),some (.str abc),some (.int (1+c % 8)),none,none] S=.ok (.next (NI (c / 8) (some (.int (1+c % 8))) [] none)) S:=by unfold dL;simp? [bok]
 have e5:dM (NI (c / 8) (some (.int (1+c % 8))) [] none) S=.ok (.next (NI c' (some (.int (1+c % 8))) x' o')) S:=by unfold dM;simp? [zTS (show -(2 ^ 62)<=(1+c % 8)/\(1+c % 8)<2 ^ 62 by omega)];exact e
 unfold zCL;rw [zC e1,zC e2,zC e3,zC e4,zC e5];unfold zFI;simp? [tup2];rfl
abbrev WD(c:Int)(l:Nat)(k w o:Bi):Rho:=[some (.int c),some (.int 6),some (.loc l),k,w,o]
abbrev Ws(ws:Aa):Prop:= ∀x∈ws,x.length<=8
theorem yAE{c:Int}{k:Bi}{ws:Aa}(S:Sto): ∀(ds:Aa)(x:Ab)(o:Bi),x.length<=8->(∀d∈ds,d.length=1)-> ∃x' o',kY (gNm 5) xC [] (ds.map MV.str) (WD c S.length k (some (.str x)) o) (S++[.lst (ws.map MV.str)])=.ok (.next (WD c S.length k (some (.str x')) o')) (S++[.lst (ws.map MV.str)])/\x'.length<=8
 |[],x,o,h,_=>⟨x,o,rfl,h⟩
 |d::ds,x,o,h,hd=>by
  have hd1:=hd d mF0;have hin:=zEF false (zL S (.lst (ws.map MV.str))) (cS x) zJI;rw [iN xF0]at hin;by_cases hm:MV.str x∈ws.map MV.str
  ·rw [dT0 hm]at hin;have ht:(x.take 7).length<=7:=by rw [lT];omega
   obtain⟨x',o',e,hl⟩:=yAE (c:=c) (k:=k) (ws:=ws) S ds (x.take 7++d) (some (.str d)) (by rw [lA];omega) (λy hy=>hd y (mO _ hy));refine⟨x',o',?_,hl⟩;rw [map_cons,zS (ρ0:=WD c S.length k (some (.str x)) (some (.str d))) (ρ':=WD c S.length k (some (.str (x.take 7++d))) (some (.str d))) (S':=S++[.lst (ws.map MV.str)]) rfl (by unfold xC xP;simp? [hin,cut_str (fits (show x.length<=1000000 by omega)),nP x 7 (by decide),show(7:Int).toNat=7 from rfl,addS (x:=x.take 7) (y:=d) (by omega)]) (yO _)];exact e
  ·rw [dF0 hm]at hin;obtain⟨x',o',e,hl⟩:=yAE (c:=c) (k:=k) (ws:=ws) S ds x (some (.str d)) h (λy hy=>hd y (mO _ hy));refine⟨x',o',?_,hl⟩;rw [map_cons,zS (ρ0:=WD c S.length k (some (.str x)) (some (.str d))) (ρ':=WD c S.length k (some (.str x)) (some (.str d))) (S':=S++[.lst (ws.map MV.str)]) rfl (by unfold xC xP;simp? [hin,fT,iF]) (yO _)];exact e
def abj:List Nat:=[97,98,99,100,101,102,103,104,105,106]
theorem yJZ(S:Sto): ∀(ds:Bh)(c:Int)(ws:Aa)(k w o:Bi),ws.length+ds.length<=100->Ws ws-> ∃c' ws' k' w' o',kY (gNm 3) wE [] ds (WD c S.length k w o) (S++[.lst (ws.map MV.str)])=.ok (.next (WD c' S.length k' w' o')) (S++[.lst (ws'.map MV.str)])/\ws'.length=ws.length+ds.length/\Ws ws'
 |[],c,ws,k,w,o,_,h=>⟨c,ws,k,w,o,rfl,rfl,h⟩
 |d::ds,c,ws,k,w,o,hl,h=>by
  rw [lC]at hl;obtain⟨x,c1,e1,hx⟩:=yCL c (S++[.lst (ws.map MV.str)]);have f1:xQ (WD c S.length (some d) w o) (S++[.lst (ws.map MV.str)])=.ok (.next (WD c1 S.length (some d) (some (.str x)) o)) (S++[.lst (ws.map MV.str)]):=by unfold xQ;simp? [e1,zBR];rfl
  obtain⟨x',o',e2,hx'⟩:=yAE (c:=c1) (k:=some d) (ws:=ws) S (abj.map λc=>[c]) x o hx (by decide);have f2:xR (WD c1 S.length (some d) (some (.str x)) o) (S++[.lst (ws.map MV.str)])=.ok (.next (WD c1 S.length (some d) (some (.str x')) o')) (S++[.lst (ws.map MV.str)]):=by unfold xR;simp? [bok];exact e2
  have f3:xS (WD c1 S.length (some d) (some (.str x')) o') (S++[.lst (ws.map MV.str)])=.ok (.next (WD c1 S.length (some d) (some (.str x')) o')) (S++[.lst ((ws++[x']).map MV.str)]):=by unfold xS;simp? [jO (zL S (.lst (ws.map MV.str))),zBQ (zL S (.lst (ws.map MV.str))) (show(ws.map MV.str).length<1000000 by rw [lM];omega),xT];rw [map_append];rfl
  obtain⟨c',ws',k',w',o'',e,g1,g2⟩:=yJZ S ds c1 (ws++[x']) (some d) (some (.str x')) o' (by rw [lA,lS];omega) (λy hy=>by
   rcases mem_append.mp hy with hy|hy
   ·exact h y hy
   ·rw [mS.mp hy];exact hx')
  refine⟨c',ws',k',w',o'',?_,by rw [g1,lA,lS,lC];omega,g2⟩;rw [zS (ρ0:=WD c S.length (some d) w o) rfl (by unfold wE;rw [zC f1,zC f2];exact f3) (yO _)];exact e
def zGR(ws:Aa)(n:Nat):loL n (ws.map MV.str):=kZ λd hd=>by obtain⟨x,_,rfl⟩:=mM.mp hd;exact zLT _ _
theorem yFF(c:Int)(S:Sto): ∃ws:List (List Nat),ws.length=6/\Ws ws/\zW 2 xL [.val (.int c),.val (.int 6)] S=.ok (.new (ws.map MV.str)) S:=by
 obtain⟨c',ws,k,w,o,e,hl,hw⟩:=yJZ S ((List.range 6).map λk=>.int (k:Nat)) c [] none none none (by decide) (λx hx=>by simp at hx);refine⟨ws,hl,hw,?_⟩;refine zFC (T:=[.lst (ws.map MV.str)]) rfl ?_ (le_refl _) (zL _ _) (zGR _ _);show xE (kB [some (.int c),some (.int 6),none,none,none,none] S)=_;have e1:wF [some (.int c),some (.int 6),none,none,none,none] S=.ok (.next (WD c S.length none none none)) (S++[.lst []]):=by unfold wF;simp? [bok]
 have e2:wG (WD c S.length none none none) (S++[.lst []])=.ok (.next (WD c' S.length k w o)) (S++[.lst (ws.map MV.str)]):=by unfold wG;simp? [rng6];exact e
 unfold kB;rw [zC e1,zC e2];unfold gH;simp? [bok];rfl
abbrev WW(c:Int)(g s:Bi)(l:Nat)(k w j z:Bi):Rho:=[some (.int c),some (.int 6),some (.str abc),g,s,some (.loc l),k,w,j,z]
abbrev WV(c:Int)(a g s l:Bi):Rho:=[some (.int c),some (.int 6),a,g,s,l,none,none,none,none]
def yOG(c g s:Int)(l k j:Nat)(hj:j<100)(x:Ab)(hx:x.length<=100)(z:Bi)(S:Sto): ∃a z',bR (WW c (some (.int g)) (some (.int s)) l (some (zF k)) (some (.str x)) (some (zF j)) z) S=.ok (.next (WW c (some (.int g)) (some (.int s)) l (some (zF k)) (some (.str (x++[a]))) (some (zF j)) z')) S:=by
 obtain⟨v,hv⟩: ∃v:Int,v=c / (49+5 * (j:Int))+(j:Int) * (c / 49 % 3):=⟨_,rfl⟩
 have e1:dN (WW c (some (.int g)) (some (.int s)) l (some (zF k)) (some (.str x)) (some (zF j)) z) S=.ok (.next (WW c (some (.int g)) (some (.int s)) l (some (zF k)) (some (.str x)) (some (zF j)) (some (.int v)))) S:=by unfold dN;simp? [zAC (a:=5) (show -(2 ^ 64)<(5:Int)/\(5:Int)<2 ^ 64 by decide),yI (b:=49+5 * (j:Int)) (by omega) (by omega),yI (b:=49) (by decide) (by decide),mod_lit (show(0:Int)<3 by decide),zAC (a:=(j:Int)) (show -(2 ^ 64)<(j:Int)/\(j:Int)<2 ^ 64 by omega)];rw [hv]
 obtain⟨u,e2⟩: ∃u:Int,dO (WW c (some (.int g)) (some (.int s)) l (some (zF k)) (some (.str x)) (some (zF j)) (some (.int v))) S=.ok (.next (WW c (some (.int g)) (some (.int s)) l (some (zF k)) (some (.str x)) (some (zF j)) (some (.int u)))) S:=by
  unfold dO;by_cases h:(j:Int)=s
  ·refine⟨v+3 * (k:Int),?_⟩;simp? [h,decide_true,zAC (a:=3) (show -(2 ^ 64)<(3:Int)/\(3:Int)<2 ^ 64 by decide)]
  ·refine⟨v,?_⟩;simp? [h,decide_false,fT,iF]
 obtain⟨a,ha⟩:=yAD u S;refine⟨a,some (.int u),?_⟩;unfold bR;rw [zC e1,zC e2];unfold zFJ;simp? [mod_lit (show(0:Int)<26 by decide),ha,addS (x:=x) (y:=[a]) (by rw [lS];omega)]
theorem yKA(c g s:Int)(l k:Nat)(S:Sto): ∀(js:Ab),(∀j∈js,j<100)-> ∀(x:Ab)(j z:Bi),x.length+js.length<=100-> ∃x' j' z',kY (gNm 8) bR [] (js.map zF) (WW c (some (.int g)) (some (.int s)) l (some (zF k)) (some (.str x)) j z) S=.ok (.next (WW c (some (.int g)) (some (.int s)) l (some (zF k)) (some (.str x')) j' z')) S/\x'.length=x.length+js.length
 |[],_,x,j,z,_=>⟨x,j,z,rfl,rfl⟩
 |i::js,hj,x,j,z,h=>by rw [lC]at h;obtain⟨a,z1,e1⟩:=yOG c g s l k i (hj i mF0) x (by omega) z S;obtain⟨x',j',z',e,hl⟩:=yKA c g s l k S js (λy hy=>hj y (mO _ hy)) (x++[a]) (some (zF i)) z1 (by rw [lA,lS];omega);refine⟨x',j',z',?_,by rw [hl,lA,lS,lC];omega⟩;rw [map_cons,zS (ρ0:=WW c (some (.int g)) (some (.int s)) l (some (zF k)) (some (.str x)) (some (zF i)) z) rfl e1 (yO _)];exact e
theorem yKB(c g s:Int)(hg:1<=g/\g<=7)(S:Sto): ∀(ks:Ab)(ws:Aa)(k w j z:Bi),ws.length+ks.length<=100->(∀x∈ws,x.length<=7)-> ∃(ws':Aa)(k' w' j' z':Bi),kY (gNm 6) zCM [] (ks.map zF) (WW c (some (.int g)) (some (.int s)) S.length k w j z) (S++[.lst (ws.map MV.str)])=.ok (.next (WW c (some (.int g)) (some (.int s)) S.length k' w' j' z')) (S++[.lst (ws'.map MV.str)])/\ws'.length=ws.length+ks.length/\ ∀x∈ws',x.length<=7
 |[],ws,k,w,j,z,_,h=>⟨ws,k,w,j,z,rfl,rfl,h⟩
 |i::ks,ws,k,w,j,z,hl,h=>by
  rw [lC]at hl;have f1:dP (WW c (some (.int g)) (some (.int s)) S.length (some (zF i)) w j z) (S++[.lst (ws.map MV.str)])=.ok (.next (WW c (some (.int g)) (some (.int s)) S.length (some (zF i)) (some (.str [])) j z)) (S++[.lst (ws.map MV.str)]):=by unfold dP;simp? [bok]
  obtain⟨x,j1,z1,e2,hx⟩:=yKA c g s S.length i (S++[.lst (ws.map MV.str)]) (List.range g.toNat) (λy hy=>by have:=mem_range.mp hy;omega) [] j z (by rw [length_nil,length_range];omega);rw [length_nil,length_range]at hx;have f2:dQ (WW c (some (.int g)) (some (.int s)) S.length (some (zF i)) (some (.str [])) j z) (S++[.lst (ws.map MV.str)])=.ok (.next (WW c (some (.int g)) (some (.int s)) S.length (some (zF i)) (some (.str x)) j1 z1)) (S++[.lst (ws.map MV.str)]):=by unfold dQ;simp? [zTS (show -(2 ^ 62)<=g/\g<2 ^ 62 by omega)];exact e2
  have f3:dR (WW c (some (.int g)) (some (.int s)) S.length (some (zF i)) (some (.str x)) j1 z1) (S++[.lst (ws.map MV.str)])=.ok (.next (WW c (some (.int g)) (some (.int s)) S.length (some (zF i)) (some (.str x)) j1 z1)) (S++[.lst ((ws++[x]).map MV.str)]):=by unfold dR;simp? [jO (zL S (.lst (ws.map MV.str))),zBQ (zL S (.lst (ws.map MV.str))) (show(ws.map MV.str).length<1000000 by rw [lM];omega),xT];rw [map_append];rfl
  obtain⟨ws',k',w',j',z',e,g1,g2⟩:=yKB c g s hg S ks (ws++[x]) (some (zF i)) (some (.str x)) j1 z1 (by rw [lA,lS];omega) (λy hy=>by
   rcases mem_append.mp hy with hy|hy
   ·exact h y hy
   ·rw [mS.mp hy];omega)
  refine⟨ws',k',w',j',z',?_,by rw [g1,lA,lS,lC];omega,g2⟩;rw [map_cons,zS (ρ0:=WW c (some (.int g)) (some (.int s)) S.length (some (zF i)) w j z) rfl (by unfold zCM;rw [zC f1,zC f2];exact f3) (yO _)];exact e
theorem yKC(c:Int)(S:Sto): ∃ws:List (List Nat),ws.length=6/\Ws ws/\zW 2 zBO [.val (.int c),.val (.int 6)] S=.ok (.new (ws.map MV.str)) S:=by
 by_cases h2:c % 2=0
 ·obtain⟨ws,hl,hw,e⟩:=yFF (c / 2) S;refine⟨ws,hl,hw,?_⟩;refine gF (T:=[]) rfl ?_ (zGR _ _);rw [aN];show xE (bS (WV c none none none none) S)=_;have e1:jB (WV c none none none none) S=.ok (.ret (.new (ws.map MV.str))) S:=by unfold jB;simp? [mod_lit (show(0:Int)<2 by decide),h2,decide_true,yI (b:=2) (by decide) (by decide),e]
  unfold bS;rw [zIY e1];rfl
 ·obtain⟨d,hd⟩: ∃d:Int,d=c * 69621 % 2147483629 * 48271 % 2147483647:=⟨_,rfl⟩
  have h0:=eN0 d (show(7:Int)≠0 by decide);have h1:=eL d (show(0:Int)<7 by decide);obtain⟨g,hg⟩: ∃g:Int,g=1+d % 7:=⟨_,rfl⟩
  obtain⟨s,hs⟩: ∃s:Int,s=d / 7 % g:=⟨_,rfl⟩
  obtain⟨ws,k,w,j,z,e7,hl,hw⟩:=yKB d g s (by omega) S (List.range 6) [] none none none none (by decide) (λx hx=>by simp at hx);have hl:ws.length=6:=hl;have f1:jB (WV c none none none none) S=.ok (.next (WV c none none none none)) S:=by unfold jB;simp? [mod_lit (show(0:Int)<2 by decide),h2,decide_false,fT,iF]
  have f2:zCN (WV c none none none none) S=.ok (.next (WV c (some (.str abc)) none none none)) S:=by unfold zCN;simp? [bok];rfl
  have f3:zCO (WV c (some (.str abc)) none none none) S=.ok (.next (WV d (some (.str abc)) none none none)) S:=by unfold zCO;simp? [zTR (show -(2 ^ 64)<(69621:Int)/\(69621:Int)<2 ^ 64 by decide),mod_lit (show(0:Int)<2147483629 by decide),zTR (show -(2 ^ 64)<(48271:Int)/\(48271:Int)<2 ^ 64 by decide),mod_lit (show(0:Int)<2147483647 by decide)];rw [hd]
  have f4:zCP (WV d (some (.str abc)) none none none) S=.ok (.next (WV d (some (.str abc)) (some (.int g)) none none)) S:=by unfold zCP;simp? [mod_lit (show(0:Int)<7 by decide)];rw [hg]
  have f5:zCQ (WV d (some (.str abc)) (some (.int g)) none none) S=.ok (.next (WV d (some (.str abc)) (some (.int g)) (some (.int s)) none)) S:=by unfold zCQ;simp? [yI (b:=7) (by decide) (by decide),mod_lit (show(0:Int)<g by omega)];rw [hs]
  have f6:zCR (WV d (some (.str abc)) (some (.int g)) (some (.int s)) none) S=.ok (.next (WW d (some (.int g)) (some (.int s)) S.length none none none none)) (S++[.lst []]):=by unfold zCR;simp? [bok]
  have f7:zCS (WW d (some (.int g)) (some (.int s)) S.length none none none none) (S++[.lst []])=.ok (.next (WW d (some (.int g)) (some (.int s)) S.length k w j z)) (S++[.lst (ws.map MV.str)]):=by unfold zCS;simp? [rng6];exact e7
  obtain⟨ws',e8,hl',hw'⟩: ∃ws':List (List Nat),zCT (WW d (some (.int g)) (some (.int s)) S.length k w j z) (S++[.lst (ws.map MV.str)])=.ok (.next (WW d (some (.int g)) (some (.int s)) S.length k w j z)) (S++[.lst (ws'.map MV.str)])/\ws'.length=6/\Ws ws':=by
   unfold zCT;by_cases h4:d / 49 % 4=1
   ·obtain⟨a,ha⟩:=yAD (d / 196) (S++[.lst (ws.map MV.str)]);have hx:ws[0]? =some (ws[0]'(by omega)):=gE0 _;have hx7:=hw _ (getElem_mem (show 0<ws.length by omega));have hix:ixF (.val (.loc S.length)) (.val (.int 0)) (S++[.lst (ws.map MV.str)])=.ok (.val (.str ws[0])) (S++[.lst (ws.map MV.str)]):=zCA (zL _ _) (zDH (k:=0) (by rw [getElem?_map,hx];rfl));refine⟨ws.set 1 (ws[0]++[a]),?_,by rw [length_set];exact hl,λy hy=>?_⟩
    ·simp? [yI (b:=49) (by decide) (by decide),mod_lit (show(0:Int)<4 by decide),h4,decide_true,hix,yI (b:=196) (by decide) (by decide),mod_lit (show(0:Int)<26 by decide),ha,addS (x:=ws[0]) (y:=[a]) (by rw [lS];omega),zBR,yIU (k:=1) (j:=1) (zL S (.lst (ws.map MV.str))) (by unfold ixN;rw [lM,hl];rfl),xT];rw [List.map_set]
    ·rcases List.mem_or_eq_of_mem_set hy with hy|rfl
     ·have:=hw y hy;omega
     ·rw [lA,lS];omega
   ·refine⟨ws,?_,hl,λy hy=>by have:=hw y hy;omega⟩;simp? [yI (b:=49) (by decide) (by decide),mod_lit (show(0:Int)<4 by decide),h4,decide_false,fT,iF]
  refine⟨ws',hl',hw',?_⟩;refine zFC (T:=[.lst (ws'.map MV.str)]) rfl ?_ (le_refl _) (zL _ _) (zGR _ _);show xE (bS (WV c none none none none) S)=_;unfold bS;rw [zC f1,zC f2,zC f3,zC f4,zC f5,zC f6,zC f7,zC e8];unfold zIH;simp? [bok];rfl
def zJJ{S:Sto}{l:Nat}{ds:Bh}(hS:S[l]? =some (.lst ds))(a b:Bc):zDN (.val (.loc l)) a b S=.ok (.new (bD ds a b)) S:=by show(match kL S (.val (.loc l))with |some ds=>R.ok (Er.new (bD ds a b)) S|none=>.no)=_;rw [bM hS]
theorem yCM(ds:Bh)(a b:Bc)(S:Sto):zDN (.new ds) a b S=.ok (.new (bD ds a b)) S:=rfl
def yCN(ns:Ad)(n:Nat):loL n (ns.map MV.int):=kZ λd hd=>by obtain⟨x,_,rfl⟩:=mM.mp hd;exact zHQ _ _
abbrev DW(c:Int)(m l:Nat)(r k n:Bi):Rho:=[some (.int c),some (zF m),some (.loc l),r,k,n]
theorem yCO(c:Int)(m:Nat)(n:Bi)(S:Sto): ∀(ks:Bh)(ns:Ad)(r:Int)(k:Bi),ns.length+ks.length<=100-> ∃(ns':Ad)(r':Int)(k':Bi),kY (gNm 4) bT [] ks (DW c m S.length (some (.int r)) k n) (S++[.lst (ns.map MV.int)])=.ok (.next (DW c m S.length (some (.int r')) k' n)) (S++[.lst (ns'.map MV.int)])/\ns'.length=ns.length+ks.length
 |[],ns,r,k,_=>⟨ns,r,k,rfl,rfl⟩
 |d::ks,ns,r,k,h=>by
  rw [lC]at h;have f1:dS (DW c m S.length (some (.int r)) (some d) n) (S++[.lst (ns.map MV.int)])=.ok (.next (DW c m S.length (some (.int r)) (some d) n)) (S++[.lst ((ns++[r % 1000000]).map MV.int)]):=by unfold dS;simp? [jO (zL S (.lst (ns.map MV.int))),mod_lit (show(0:Int)<1000000 by decide),zBQ (zL S (.lst (ns.map MV.int))) (show(ns.map MV.int).length<1000000 by rw [lM];omega),xT];rw [map_append];rfl
  have f2:dU (DW c m S.length (some (.int r)) (some d) n) (S++[.lst ((ns++[r % 1000000]).map MV.int)])=.ok (.next (DW c m S.length (some (.int (r / 1000000))) (some d) n)) (S++[.lst ((ns++[r % 1000000]).map MV.int)]):=by unfold dU;simp? [yI (b:=1000000) (by decide) (by decide)]
  obtain⟨ns',r',k',e,hl⟩:=yCO c m n S ks (ns++[r % 1000000]) (r / 1000000) (some d) (by rw [lA,lS];omega);refine⟨ns',r',k',?_,by rw [hl,lA,lS,lC];omega⟩;rw [zS (ρ0:=DW c m S.length (some (.int r)) (some d) n) rfl (by unfold bT;rw [zC f1];exact f2) (yO _)];exact e
theorem yCP(c:Int)(m:Nat)(r:Bi)(S:Sto): ∀(ks:Ab)(ns:Ad)(n:Int)(k:Bi),ns.length+ks.length<=100->0<=n/\n<4294967296-> ∃(ns':Ad)(n':Int)(k':Bi),kY (gNm 4) zCU [] (ks.map zF) (DW c m S.length r k (some (.int n))) (S++[.lst (ns.map MV.int)])=.ok (.next (DW c m S.length r k' (some (.int n')))) (S++[.lst (ns'.map MV.int)])/\ns'.length=ns.length+ks.length
 |[],ns,n,k,_,_=>⟨ns,n,k,rfl,rfl⟩
 |d::ks,ns,n,k,h,hn=>by
  rw [lC]at h;obtain⟨v,hv⟩: ∃v:Int,v=(n * n+48271 * n+(d:Int)) % 2147483647:=⟨_,rfl⟩
  have hv0:0<=v/\v<4294967296:=by have h1:=eN0 (n * n+48271 * n+(d:Int)) (show(2147483647:Int)≠0 by decide);have h2:=eL (n * n+48271 * n+(d:Int)) (show(0:Int)<2147483647 by decide);omega
  have f1:dW (DW c m S.length r (some (zF d)) (some (.int n))) (S++[.lst (ns.map MV.int)])=.ok (.next (DW c m S.length r (some (zF d)) (some (.int v)))) (S++[.lst (ns.map MV.int)]):=by unfold dW;simp? [zAC (a:=n) (show -(2 ^ 64)<n/\n<2 ^ 64 by omega),zAC (a:=48271) (show -(2 ^ 64)<(48271:Int)/\(48271:Int)<2 ^ 64 by decide),mod_lit (show(0:Int)<2147483647 by decide)];rw [hv]
  obtain⟨u,hu⟩: ∃u:Int,u=v * 69621 % 2147483587 / 16:=⟨_,rfl⟩
  have f2:dX (DW c m S.length r (some (zF d)) (some (.int v))) (S++[.lst (ns.map MV.int)])=.ok (.next (DW c m S.length r (some (zF d)) (some (.int v)))) (S++[.lst ((ns++[u]).map MV.int)]):=by unfold dX;simp? [jO (zL S (.lst (ns.map MV.int))),zTR (show -(2 ^ 64)<(69621:Int)/\(69621:Int)<2 ^ 64 by decide),mod_lit (show(0:Int)<2147483587 by decide),yI (b:=16) (by decide) (by decide),zBQ (zL S (.lst (ns.map MV.int))) (show(ns.map MV.int).length<1000000 by rw [lM];omega),xT];rw [map_append,hu];rfl
  obtain⟨ns',n',k',e,hl⟩:=yCP c m r S ks (ns++[u]) v (some (zF d)) (by rw [lA,lS];omega) hv0;refine⟨ns',n',k',?_,by rw [hl,lA,lS,lC];omega⟩;rw [map_cons,zS (ρ0:=DW c m S.length r (some (zF d)) (some (.int n))) rfl (by unfold zCU;rw [zC f1];exact f2) (yO _)];exact e
theorem zXN(c:Int){m:Nat}(hm:m<=10)(S:Sto): ∃ns:List Int,ns.length=m/\zW 2 xD [.val (.int c),.val (zF m)] S=.ok (.new (ns.map MV.int)) S:=by
 have f1:zCV [some (.int c),some (zF m),none,none,none,none] S=.ok (.next (DW c m S.length none none none)) (S++[.lst []]):=by unfold zCV;simp? [bok]
 by_cases h2:c % 2=0
 ·obtain⟨ns,r',k',e,hl⟩:=yCO c m none S ((List.range m).map λk=>.int (k:Nat)) [] (c / 2) none (by rw [lM,length_range,length_nil];omega);rw [lM,length_range,length_nil,zero_add]at hl;refine⟨ns,hl,?_⟩;refine zFC (T:=[.lst (ns.map MV.int)]) rfl ?_ (le_refl _) (zL _ _) (yCN _ _);show xE (bU [some (.int c),some (zF m),none,none,none,none] S)=_;have e1:(CJ (dJ jU (vJ 0) (kJ (.int 2))) 3) (DW c m S.length none none none) (S++[.lst []])=.ok (.next (DW c m S.length (some (.int (c / 2))) none none)) (S++[.lst []]):=by simp? [yI (b:=2) (by decide) (by decide)]
  have e2:(FJ (bJ (yJ (vJ 1) wJ) kR) (gNm 4) (bT)) (DW c m S.length (some (.int (c / 2))) none none) (S++[.lst []])=.ok (.next (DW c m S.length (some (.int r')) k' none)) (S++[.lst (ns.map MV.int)]):=by simp? [zNK (n:=m) (by omega)];exact e
  have f2:jC (DW c m S.length none none none) (S++[.lst []])=.ok (.ret (.val (.loc S.length))) (S++[.lst (ns.map MV.int)]):=by unfold jC;simp? [mod_lit (show(0:Int)<2 by decide),h2,decide_true];rw [zC e1,zC e2];rfl
  unfold bU;rw [zC f1,zIY f2];rfl
 ·have h3:=eN0 c (show(2147483629:Int)≠0 by decide);have h4:=eL c (show(0:Int)<2147483629 by decide);obtain⟨ns,n',k',e,hl⟩:=yCP c m none S (List.range m) [] (c % 2147483629+1) none (by rw [length_range,length_nil];omega) (by omega);rw [length_range,length_nil,zero_add]at hl;refine⟨ns,hl,?_⟩;refine zFC (T:=[.lst (ns.map MV.int)]) rfl ?_ (le_refl _) (zL _ _) (yCN _ _);show xE (bU [some (.int c),some (zF m),none,none,none,none] S)=_;have f2:jC (DW c m S.length none none none) (S++[.lst []])=.ok (.next (DW c m S.length none none none)) (S++[.lst []]):=by unfold jC;simp? [mod_lit (show(0:Int)<2 by decide),h2,decide_false,fT,iF]
  have f3:zCW (DW c m S.length none none none) (S++[.lst []])=.ok (.next (DW c m S.length none none (some (.int (c % 2147483629+1))))) (S++[.lst []]):=by unfold zCW;simp? [mod_lit (show(0:Int)<2147483629 by decide)]
  have f4:zCX (DW c m S.length none none (some (.int (c % 2147483629+1)))) (S++[.lst []])=.ok (.next (DW c m S.length none k' (some (.int n')))) (S++[.lst (ns.map MV.int)]):=by unfold zCX;simp? [zNK (n:=m) (by omega)];exact e
  unfold bU;rw [zC f1,zC f2,zC f3,zC f4];rfl
abbrev TB(c:Int)(l:Nat)(n w:Bi):Rho:=[some (.int c),some (.loc l),some (.loc (l+1)),n,w]
theorem yKD(c:Int)(S:Sto)(o:MO): ∀(ns:Ad)(ts:Ac)(n w:Bi),ts.length+ns.length<=100->(∀p∈ts,1<=p.1/\p.1<=4/\0<=p.2/\p.2<=p.1)-> ∃(ts':Ac)(n' w':Bi),kY (gNm 3) zAN [] (ns.map MV.int) (TB c S.length n w) (S++[o]++[.lst (ts.map tbl)])=.ok (.next (TB c S.length n' w')) (S++[o]++[.lst (ts'.map tbl)])/\ts'.length=ts.length+ns.length/\ ∀p∈ts',1<=p.1/\p.1<=4/\0<=p.2/\p.2<=p.1
 |[],ts,n,w,_,h=>⟨ts,n,w,rfl,rfl,h⟩
 |d::ns,ts,n,w,hl,h=>by
  rw [lC]at hl;obtain⟨v,hv⟩: ∃v:Int,v=1+d % 3+(if decide (d / 3 % 5=0)=true then 1 else 0):=⟨_,rfl⟩
  have hv1:1<=v/\v<=4:=by have h1:=eN0 d (show(3:Int)≠0 by decide);have h2:=eL d (show(0:Int)<3 by decide);rw [hv];split<;>omega
  have f1:bV (TB c S.length (some (.int d)) w) (S++[o]++[.lst (ts.map tbl)])=.ok (.next (TB c S.length (some (.int d)) (some (.int v)))) (S++[o]++[.lst (ts.map tbl)]):=by unfold bV;simp? [mod_lit (show(0:Int)<3 by decide),yI (b:=3) (by decide) (by decide),mod_lit (show(0:Int)<5 by decide),show∀b S,intF [.val (.bl b)] S=.ok (.val (.int (if b then 1 else 0))) S from λ_ _=>rfl];rw [hv]
  obtain⟨z,hz⟩:=zKM (xs:=([0,1,1,1,2,4]:Ad)) (i:=d / 15 % 6) (eN0 _ (by decide)) (by have:=eL (d / 15) (show(0:Int)<6 by decide);show d / 15 % 6<6;exact this);have hz0:0<=z:=zNR (P:=λz:Int=>0<=z) (by decide) hz;have hix: ∀S:Sto,ixF (.new [.int 0,.int 1,.int 1,.int 1,.int 2,.int 4]) (.val (.int (d / 15 % 6))) S=.ok (.val (.int z)) S:=λS=>yHO (by have:=zLA MV.int [0,1,1,1,2,4] (d / 15 % 6);rw [hz]at this;exact this);have hS1:S.length+1=(S++[o]).length:=by rw [lA,lS]
  obtain⟨y,hy⟩: ∃y:Int,y=if z<v then z else v:=⟨_,rfl⟩
  have hat:(S++[o]++[.lst (ts.map tbl)])[S.length+1]? =some (.lst (ts.map tbl)):=by rw [hS1];exact zL _ _
  have f2:bW (TB c S.length (some (.int d)) (some (.int v))) (S++[o]++[.lst (ts.map tbl)])=.ok (.next (TB c S.length (some (.int d)) (some (.int v)))) (S++[o]++[.lst ((ts++[(v,y)]).map tbl)]):=by unfold bW;simp? [jO hat,yI (b:=15) (by decide) (by decide),mod_lit (show(0:Int)<6 by decide),hix,show∀i j S,zZL [.val (.int i),.val (.int j)] S=.ok (.val (.int (if j<i then j else i))) S from λ_ _ _=>rfl, <-hy,tup2,zBQ hat (show(ts.map tbl).length<1000000 by rw [lM];omega)];rw [hS1,xT,map_append];rfl
  obtain⟨ts',n',w',e,g1,g2⟩:=yKD c S o ns (ts++[(v,y)]) (some (.int d)) (some (.int v)) (by rw [lA,lS];omega) (λp hp=>by
   rcases mem_append.mp hp with hp|hp
   ·exact h p hp
   ·rw [mS.mp hp];refine⟨hv1.1,hv1.2,?_⟩;show 0<=y/\y<=v;rw [hy];split<;>omega)
  refine⟨ts',n',w',?_,by rw [g1,lA,lS,lC];omega,g2⟩;rw [map_cons,zS (ρ0:=TB c S.length (some (.int d)) w) rfl (by unfold zAN;rw [zC f1];exact f2) (yO _)];exact e
def ySX(ts:Ac)(n:Nat):lo n (.tup (ts.map tbl)):=zGC (kZ λd hd=>by
 obtain⟨p,_,rfl⟩:=mM.mp hd
 exact zGC (kZ λd hd=>by
  rcases mC.mp hd with rfl|hd
  ·exact zHQ _ _
  ·rw [mS.mp hd];exact zHQ _ _))
theorem yFG(c:Int)(S:Sto): ∃ts:List (Int×Int),(1<=ts.length/\ts.length<=4)/\(∀p∈ts,1<=p.1/\p.1<=4/\0<=p.2/\p.2<=p.1)/\zW 1 nU [.val (.int c)] S=.ok (.val (.tup (ts.map tbl))) S:=by
 obtain⟨ns,hn,e1⟩:=zXN c (show 5<=10 by decide) S;obtain⟨v,hv⟩: ∃v,ns[4]? =some v:=⟨_,gE0 (show 4<ns.length by omega)⟩
 have h1:=eN0 v (show(4:Int)≠0 by decide);have h2:=eL v (show(0:Int)<4 by decide);obtain⟨ts,n',w',e,hl,hp⟩:=yKD c S (.lst (ns.map MV.int)) (ns.take (1+v % 4).toNat) [] none none (by rw [lT,length_nil];omega) (λp hp=>by simp at hp);rw [lT,length_nil]at hl;refine⟨ts,by omega,hp,?_⟩;have hS1:S.length+1=(S++[MO.lst (ns.map MV.int)]).length:=by rw [lA,lS]
 refine zFB (T:=[.lst (ns.map MV.int)]++[.lst (ts.map tbl)]) rfl ?_ (ySX _ _) (λl=>by simp);show xE (zEP [some (.int c),none,none,none,none] S)=_;have f1:zAO [some (.int c),none,none,none,none] S=.ok (.next [some (.int c),some (.loc S.length),none,none,none]) (S++[.lst (ns.map MV.int)]):=by unfold zAO;simp? [show∀S,zW 2 xD [.val (.int c),.val (.int 5)] S=zW 2 xD [.val (.int c),.val (zF 5)] S from λ_=>rfl,e1]
 have f2:zAP [some (.int c),some (.loc S.length),none,none,none] (S++[.lst (ns.map MV.int)])=.ok (.next (TB c S.length none none)) (S++[.lst (ns.map MV.int)]++[.lst []]):=by unfold zAP;simp? [bok];rw [<-hS1]
 have hat:(S++[.lst (ns.map MV.int)]++[.lst []])[S.length]? =some (.lst (ns.map MV.int)):=by rw [getElem?_append_left (by rw [lA,lS];omega)];exact zL _ _
 have hix:ixF (.val (.loc S.length)) (.val (.int 4)) (S++[.lst (ns.map MV.int)]++[.lst []])=.ok (.val (.int v)) (S++[.lst (ns.map MV.int)]++[.lst []]):=zCA hat (zDH (k:=4) (by rw [getElem?_map,hv];rfl));have f3:zAQ (TB c S.length none none) (S++[.lst (ns.map MV.int)]++[.lst []])=.ok (.next (TB c S.length n' w')) (S++[.lst (ns.map MV.int)]++[.lst (ts.map tbl)]):=by unfold zAQ;simp? [hix,mod_lit (show(0:Int)<4 by decide),zJJ hat,nP _ (1+v % 4) (by omega),zES];rw [<-map_take];exact e
 have hat2:(S++[.lst (ns.map MV.int)]++[.lst (ts.map tbl)])[S.length+1]? =some (.lst (ts.map tbl)):=by rw [hS1];exact zL _ _
 unfold zEP;rw [zC f1,zC f2,zC f3];unfold zHG;simp? [zSS hat2];rw [aA];rfl
abbrev VS(v:MV):Prop:=(∃i,v=.int i)\/ ∃x,v=.str x
def yCQ{v:MV}(h:VS v):pd v=true/\dpt v<40:=by
 rcases h with⟨i,rfl⟩|⟨x,rfl⟩
 ·exact⟨zMH i,by rw [zKY];decide⟩
 ·exact⟨cS x,by rw [zGQ];decide⟩
def yPG{vs:Bh}(h: ∀v∈vs,VS v)(n:Nat):loL n vs:=kZ λd hd=>zST (yCQ (h d hd)).1
abbrev VV(c:Int)(l:Nat)(r m f k v n p t:Bi):Rho:=[some (.int c),some (.loc l),r,m,f,k,v,n,p,t]
abbrev VW(c:Int)(lw:Nat)(r m:Bi)(lf:Nat)(k v:Bi):Rho:=[some (.int c),some (.loc lw),r,m,some (.loc lf),k,v,none,none,none]
def yOH(c:Int)(lw:Nat)(m:Bi)(S:Sto){vs:Bh}(hl:vs.length<=100)(h: ∀v∈vs,VS v)(r:Int)(k v:Bi): ∃(vs':Bh)(r':Int)(v':Bi),xZ (VW c lw (some (.int r)) m S.length k v) (S++[.lst vs])=.ok (.next (VW c lw (some (.int r')) m S.length k v')) (S++[.lst vs'])/\vs'≠[]/\vs'.length<=vs.length+1/\ ∀v∈vs',VS v:=by
 obtain⟨x,r1,e1,_⟩:=yCL (r / 2) (S++[.lst vs]);have f1:bX (VW c lw (some (.int r)) m S.length k v) (S++[.lst vs])=.ok (.next (VW c lw (some (.int r1)) m S.length k (some (.str x)))) (S++[.lst vs]):=by unfold bX;simp? [yI (b:=2) (by decide) (by decide),e1,zBR];rfl
 obtain⟨r2,u,f2,hu⟩: ∃(r2:Int)(u:MV),kT (VW c lw (some (.int r1)) m S.length k (some (.str x))) (S++[.lst vs])=.ok (.next (VW c lw (some (.int r2)) m S.length k (some u))) (S++[.lst vs])/\VS u:=by
  by_cases h2:r1 % 2=1
  ·have hp: ∀S:Sto,zNG (.val (.int 10)) (.val (.int 30)) S=.ok (.val (.int (10 ^ 30))) S:=λS=>yBE (by unfold yEB;decide+kernel) S;have hd:zZC 0 (2 * 10 ^ 30 - 1):=by unfold zZC;decide+kernel
   refine⟨r1 / (2 * 10 ^ 30 - 1),.int (r1 / 2 % (2 * 10 ^ 30 - 1) - 10 ^ 30+1),?_,.inl ⟨_,rfl⟩⟩;have g1:(CJ (dJ xY (dJ zNF (dJ wZ (dJ jU (vJ 2) (kJ (.int 2))) (dJ zNF (dJ zHO (kJ (.int 2)) (dJ zNG (kJ (.int 10)) (kJ (.int 30)))) (kJ (.int 1)))) (dJ zNG (kJ (.int 10)) (kJ (.int 30)))) (kJ (.int 1))) 6) (VW c lw (some (.int r1)) m S.length k (some (.str x))) (S++[.lst vs])=.ok (.next (VW c lw (some (.int r1)) m S.length k (some (.int (r1 / 2 % (2 * 10 ^ 30 - 1) - 10 ^ 30+1))))) (S++[.lst vs]):=by simp? [yI (b:=2) (by decide) (by decide),hp,zAC (a:=2) (show -(2 ^ 64)<(2:Int)/\(2:Int)<2 ^ 64 by decide),mod_lit (b:=2 * 10 ^ 30 - 1) (by decide)]
   have g2:(CJ (dJ jU (vJ 2) (dJ zNF (dJ zHO (kJ (.int 2)) (dJ zNG (kJ (.int 10)) (kJ (.int 30)))) (kJ (.int 1)))) 2) (VW c lw (some (.int r1)) m S.length k (some (.int (r1 / 2 % (2 * 10 ^ 30 - 1) - 10 ^ 30+1)))) (S++[.lst vs])=.ok (.next (VW c lw (some (.int (r1 / (2 * 10 ^ 30 - 1)))) m S.length k (some (.int (r1 / 2 % (2 * 10 ^ 30 - 1) - 10 ^ 30+1))))) (S++[.lst vs]):=by simp? [hp,zAC (a:=2) (show -(2 ^ 64)<(2:Int)/\(2:Int)<2 ^ 64 by decide),yNL hd]
   unfold kT;simp? [mod_lit (show(0:Int)<2 by decide),h2,decide_true];rw [zC g1];exact g2
  ·refine⟨r1,.str x,?_,.inr ⟨x,rfl⟩⟩;unfold kT;simp? [mod_lit (show(0:Int)<2 by decide),h2,decide_false,fT,iF]
 have hin:=zEF true (zL S (.lst vs)) (yCQ hu).1 λy hy=>yCQ (h y hy);rw [iP rfl]at hin;by_cases hm:u∈vs
 ·rw [dT0 hm]at hin;refine⟨vs,r2,some u,?_,λz=>by rw [z]at hm;simp at hm,by omega,h⟩;unfold xZ;rw [zC f1,zC f2];unfold bY;simp? [hin,Bool.not_true,fT,iF]
 ·rw [dF0 hm]at hin;refine⟨vs++[u],r2,some u,?_,by simp,by rw [lA,lS];exact le_refl _,λy hy=>?_⟩
  ·unfold xZ;rw [zC f1,zC f2];unfold bY;simp? [hin,Bool.not_false,jO (zL S (.lst vs)),zBQ (zL S (.lst vs)) (show vs.length<1000000 by omega),xT]
  ·rcases mem_append.mp hy with hy|hy
   ·exact h y hy
   ·rw [mS.mp hy];exact hu
theorem yKE(c:Int)(lw:Nat)(m:Bi)(S:Sto): ∀(ds:Bh)(vs:Bh)(r:Int)(k v:Bi),vs.length+ds.length<=100->(vs≠[]\/ds≠[])->(∀v∈vs,VS v)-> ∃(vs':Bh)(r':Int)(k' v':Bi),kY (gNm 5) xZ [] ds (VW c lw (some (.int r)) m S.length k v) (S++[.lst vs])=.ok (.next (VW c lw (some (.int r')) m S.length k' v')) (S++[.lst vs'])/\vs'≠[]/\vs'.length<=vs.length+ds.length/\ ∀v∈vs',VS v
 |[],vs,r,k,v,_,hne,h=>⟨vs,r,k,v,rfl,hne.resolve_right λz=>z rfl,le_refl _,h⟩
 |d::ds,vs,r,k,v,hl,_,h=>by rw [lC]at hl;obtain⟨vs1,r1,v1,e1,g1,g2,g3⟩:=yOH c lw m S (by omega) h r (some d) v;obtain⟨vs',r',k',v',e,h1,h2,h3⟩:=yKE c lw m S ds vs1 r1 (some d) v1 (by omega) (.inl g1) g3;refine⟨vs',r',k',v',?_,h1,by rw [lC];omega,h3⟩;rw [zS (ρ0:=VW c lw (some (.int r)) m S.length (some d) v) rfl e1 (yO _)];exact e
theorem yFH(c:Int){ws:Aa}(hw:ws.length=2)(S:Sto): ∃vs:List MV,vs≠[]/\vs.length<=100/\(∀v∈vs,VS v)/\zW 2 nV [.val (.int c),.new (ws.map MV.str)] S=.ok (.new vs) S:=by
 obtain⟨S1,hS1⟩: ∃S1:Sto,S1=S++[.lst (ws.map MV.str)]:=⟨_,rfl⟩
 have hwat:S1[S.length]? =some (.lst (ws.map MV.str)):=by rw [hS1];exact zL _ _
 by_cases h2:c % 2=0
 ·obtain⟨r,hr⟩: ∃r,r=c / 2:=⟨_,rfl⟩
  have h3:=eN0 r (show(3:Int)≠0 by decide);have h4:=eL r (show(0:Int)<3 by decide);obtain⟨vs,r',k',v',e,g1,g2,g3⟩:=yKE c S.length (some (.int (2+r % 3))) S1 ((List.range (2+r % 3).toNat).map λk=>.int (k:Nat)) [] (r / 3) none none (by rw [lM,length_range,length_nil];omega) (.inr (by intro z;have:=congrArg List.length z;rw [lM,length_range,length_nil]at this;omega)) (λv hv=>by simp at hv);rw [lM,length_range,length_nil]at g2;have hvat:(S1++[.lst vs])[S1.length]? =some (.lst vs):=zL _ _;have hwat2:(S1++[.lst vs])[S.length]? =some (.lst (ws.map MV.str)):=by rw [getElem?_append_left (gS0.mp hwat).1];exact hwat
  have hc:yY (gNm 0) kU bZ [none,some (.loc S1.length)] [(S.length,ws.map MV.str)] (ws.map MV.str) (S1++[.lst vs])=.ok ((ws.filter λx=>!decide (MV.str x∈vs)).map MV.str) (S1++[.lst vs]):=
   kC (zFE hwat2) λx _=>⟨[some (.str x),some (.loc S1.length)],rfl,by unfold kU;simp? [zEF true hvat (cS x) λy hy=>yCQ (g3 y hy)],rfl⟩
  obtain⟨t,ht⟩: ∃t:Int,t=2 - (if(vs.length:Int)<2 then(vs.length:Int)else 2):=⟨_,rfl⟩
  obtain⟨ys,hys⟩: ∃ys,ys=bD ((ws.filter λx=>!decide (MV.str x∈vs)).map MV.str) none (some t):=⟨_,rfl⟩
  have hym: ∀y∈ys,VS y:=λy hy=>by rw [hys]at hy;obtain⟨x,_,rfl⟩:=mM.mp (yHQ hy);exact .inr ⟨x,rfl⟩
  have hyl:ys.length<=2:=by rw [hys];refine le_trans (yHP _ _ _) ?_;rw [lM];exact le_trans (length_filter_le _ _) (by omega)
  have hall: ∀v∈vs++ys,VS v:=λv hv=>(mem_append.mp hv).elim (g3 v) (hym v);refine⟨vs++ys,by simp [g1],by rw [lA];omega,hall,?_⟩;refine zXB (T:=[.lst (ws.map MV.str)]++[.lst vs]) rfl (show zR [.val (.int c),.new (ws.map MV.str)] S=([.int c,.loc S.length],S++[.lst (ws.map MV.str)])from rfl) ?_ (.inl rfl) (yPG hall _);rw [<-hS1];show xE (gI (VV c S.length none none none none none none none none) S1)=_;have q1:(CJ (dJ jU (vJ 0) (kJ (.int 2))) 2) (VV c S.length none none none none none none none none) S1=.ok (.next (VV c S.length (some (.int r)) none none none none none none none)) S1:=by simp? [yI (b:=2) (by decide) (by decide)];rw [hr]
  have q2:(CJ (dJ xY (kJ (.int 2)) (dJ wZ (vJ 2) (kJ (.int 3)))) 3) (VV c S.length (some (.int r)) none none none none none none none) S1=.ok (.next (VV c S.length (some (.int r)) (some (.int (2+r % 3))) none none none none none none)) S1:=by simp? [mod_lit (show(0:Int)<3 by decide)]
  have q3:(CJ (dJ jU (vJ 2) (kJ (.int 3))) 2) (VV c S.length (some (.int r)) (some (.int (2+r % 3))) none none none none none none) S1=.ok (.next (VV c S.length (some (.int (r / 3))) (some (.int (2+r % 3))) none none none none none none)) S1:=by simp? [yI (b:=3) (by decide) (by decide)]
  have q4:(CJ (bJ wJ bG) 4) (VV c S.length (some (.int (r / 3))) (some (.int (2+r % 3))) none none none none none none) S1=.ok (.next (VW c S.length (some (.int (r / 3))) (some (.int (2+r % 3))) S1.length none none)) (S1++[.lst []]):=by simp? [bok]
  have q5:(FJ (bJ (yJ (vJ 3) wJ) kR) (gNm 5) (xZ)) (VW c S.length (some (.int (r / 3))) (some (.int (2+r % 3))) S1.length none none) (S1++[.lst []])=.ok (.next (VW c S.length (some (.int r')) (some (.int (2+r % 3))) S1.length k' v')) (S1++[.lst vs]):=by simp? [zTS (show -(2 ^ 62)<=(2+r % 3)/\(2+r % 3)<2 ^ 62 by omega)];exact e
  have hb: ∀a b c d e f g h i j:Option MV,blk 1 [4] [a,b,c,d,e,f,g,h,i,j]=[none,e]:=λ_ _ _ _ _ _ _ _ _ _=>rfl;have hwl:(ws.map MV.str).length<1000000:=by rw [lM];omega
  have q6:(AJ (dJ xY (vJ 4) (tJ zDN (pJ (bJ (vJ 1) itL) (gNm 0) (kU) (bZ) 1 [4]) mJ (bJ (dJ zNF (kJ (.int 2)) (bJ (yJ (kJ (.int 2)) (yJ (bJ (yJ (vJ 4) wJ) zBI) wJ)) zZL)) asI)))) (VW c S.length (some (.int r')) (some (.int (2+r % 3))) S1.length k' v') (S1++[.lst vs])=.ok (.ret (.new (vs++ys))) (S1++[.lst vs]):=by simp? [zIZ hwat2,hwl,hb,hc,zDW hvat,show∀i j S,zZL [.val (.int i),.val (.int j)] S=.ok (.val (.int (if j<i then j else i))) S from λ_ _ _=>rfl, <-ht,yCM, <-hys,zOT (zNS hvat) (show lsW (S1++[.lst vs]) (.new ys)=some ys from rfl) (fits (show vs.length+ys.length<=1000000 by omega))]
  have f1:kG (VV c S.length none none none none none none none none) S1=.ok (.ret (.new (vs++ys))) (S1++[.lst vs]):=by unfold kG;simp? [mod_lit (show(0:Int)<2 by decide),h2,decide_true];rw [zC q1,zC q2,zC q3,zC q4,zC q5];exact q6
  unfold gI;rw [zIY f1,hS1,aA];rfl
 ·obtain⟨x0,x1,rfl⟩: ∃x0 x1,ws=[x0,x1]:=by
   match ws,hw with
   |[a,b],_=>exact⟨a,b,rfl⟩
  obtain⟨n,hn⟩: ∃n:Int,n=c % (2 * 10 ^ 30 - 2) - 10 ^ 30+1:=⟨_,rfl⟩
  obtain⟨pl,hpl⟩: ∃pl:List MV,pl=[.int n,.int (n+1),.str x0,.str x1]:=⟨_,rfl⟩
  obtain⟨tn,htn⟩: ∃tn:Int,tn=c / 5 % 4:=⟨_,rfl⟩
  have h3:=eN0 (c / 5) (show(4:Int)≠0 by decide);have h4:=eL (c / 5) (show(0:Int)<4 by decide);have h5:=eN0 c (show(3:Int)≠0 by decide);have h6:=eL c (show(0:Int)<3 by decide)
  have hpm: ∀v∈pl,VS v:=λv hv=>by
   rw [hpl]at hv;simp only [mC,nM0,or_false]at hv;rcases hv with rfl|rfl|rfl|rfl
   ·exact .inl ⟨_,rfl⟩
   ·exact .inl ⟨_,rfl⟩
   ·exact .inr ⟨_,rfl⟩
   ·exact .inr ⟨_,rfl⟩
  have hpl4:pl.length=4:=by rw [hpl];rfl
  obtain⟨ys,hys⟩: ∃ys:List MV,ys=(pl.drop tn.toNat++pl.take tn.toNat).take (2+c % 3).toNat:=⟨_,rfl⟩
  have hyl:ys.length=(2+c % 3).toNat:=by rw [hys,lT,lA,length_drop,lT,hpl4];omega
  have hym: ∀v∈ys,VS v:=λv hv=>by
   rw [hys]at hv;rcases mem_append.mp (mem_of_mem_take hv)with hv|hv
   ·exact hpm v (List.mem_of_mem_drop hv)
   ·exact hpm v (mem_of_mem_take hv)
  refine⟨ys,λz=>?_,by omega,hym,?_⟩
  ·rw [z,length_nil]at hyl;omega
  refine zXB (T:=[.lst ([x0,x1].map MV.str)]++[.lst pl]) rfl (show zR [.val (.int c),.new ([x0,x1].map MV.str)] S=([.int c,.loc S.length],S++[.lst ([x0,x1].map MV.str)])from rfl) ?_ (.inl rfl) (yPG hym _);rw [<-hS1];show xE (gI (VV c S.length none none none none none none none none) S1)=_;have hp: ∀S:Sto,zNG (.val (.int 10)) (.val (.int 30)) S=.ok (.val (.int (10 ^ 30))) S:=λS=>yBE (by unfold yEB;decide+kernel) S;have f1:kG (VV c S.length none none none none none none none none) S1=.ok (.next (VV c S.length none none none none none none none none)) S1:=by unfold kG;simp? [mod_lit (show(0:Int)<2 by decide),h2,decide_false,fT,iF]
  have f2:zAR (VV c S.length none none none none none none none none) S1=.ok (.next (VV c S.length none none none none none (some (.int n)) none none)) S1:=by unfold zAR;simp? [hp,zAC (a:=2) (show -(2 ^ 64)<(2:Int)/\(2:Int)<2 ^ 64 by decide),mod_lit (b:=2 * 10 ^ 30 - 2) (by decide)];rw [hn]
  have i0:ixF (.val (.loc S.length)) (.val (.int 0)) S1=.ok (.val (.str x0)) S1:=zCA hwat (zDH (k:=0) rfl);have i1:ixF (.val (.loc S.length)) (.val (.int 1)) S1=.ok (.val (.str x1)) S1:=zCA hwat (zDH (k:=1) rfl);have f3:zAS (VV c S.length none none none none none (some (.int n)) none none) S1=.ok (.next (VV c S.length none none none none none (some (.int n)) (some (.loc S1.length)) none)) (S1++[.lst pl]):=by unfold zAS;simp? [i0,i1,show∀(a b c d:MV)(S:Sto),bG [.val a,.val b,.val c,.val d] S=.ok (.new [a,b,c,d]) S from λa b c d S=>zHR (by simp)];rw [hpl]
  have f4:zAT (VV c S.length none none none none none (some (.int n)) (some (.loc S1.length)) none) (S1++[.lst pl])=.ok (.next (VV c S.length none none none none none (some (.int n)) (some (.loc S1.length)) (some (.int tn)))) (S1++[.lst pl]):=by unfold zAT;simp? [yI (b:=5) (by decide) (by decide),mod_lit (show(0:Int)<4 by decide)];rw [htn]
  have hat:(S1++[.lst pl])[S1.length]? =some (.lst pl):=zL _ _;have ht1:(tn.toNat:Int)=tn:=by omega
  have hcd:=zMJ pl tn.toNat;rw [ht1]at hcd;have f5:zAU (VV c S.length none none none none none (some (.int n)) (some (.loc S1.length)) (some (.int tn))) (S1++[.lst pl])=.ok (.ret (.new ys)) (S1++[.lst pl]):=by unfold zAU;simp? [zJJ hat,hcd,nP pl tn (by omega),zOT (show lsW (S1++[.lst pl]) (.new (pl.drop tn.toNat))=some (pl.drop tn.toNat)from rfl) (show lsW (S1++[.lst pl]) (.new (pl.take tn.toNat))=some (pl.take tn.toNat)from rfl) (fits (show(pl.drop tn.toNat).length+(pl.take tn.toNat).length<=1000000 by rw [length_drop,lT,hpl4];omega)),mod_lit (show(0:Int)<3 by decide),yCM,nP _ (2+c % 3) (by omega)];rw [hys]
  unfold gI;rw [zC f1,zC f2,zC f3,zC f4,f5,hS1,aA];rfl
def TmIn(xs:Aa)(d:MV):Prop:=(∃x∈xs,d=.tup [.str VAR,.str x])\/ ∃v,VS v/\d=.tup [.str IS,v]
def TmIn.ok{xs:Aa}{d:MV}(h:TmIn xs d):zXC d:=by
 rcases h with⟨x,_,rfl⟩|⟨v,hv,rfl⟩
 ·exact .inl ⟨x,rfl⟩
 ·exact .inr ⟨v,hv,rfl⟩
def yCR{S:Sto}{l:Nat}{ds:Bh}(hS:S[l]? =some (.lst ds))(hne:ds≠[])(n:Int): ∃d∈ds,ixF (.val (.loc l)) (.val (.int (n % (ds.length:Int)))) S=.ok (.val d) S:=by have hp:0<ds.length:=length_pos_iff.mpr hne;obtain⟨d,hd⟩:=zKM (xs:=ds) (i:=n % (ds.length:Int)) (eN0 _ (by omega)) (eL _ (by omega));exact⟨d,zNR (P:=λd=>d∈ds) (λe he=>he) hd,zCA hS hd⟩
theorem yOI{S:Sto}{ln lv:Nat}{xs:Aa}{vs:Bh}(h1:S[ln]? =some (.lst (xs.map MV.str)))(hx:xs≠[])(h2:S[lv]? =some (.lst vs))(hv:vs≠[])(hvs: ∀v∈vs,VS v)(n:Int): ∃d,TmIn xs d/\zW 3 zEB [.val (.int n),.val (.loc ln),.val (.loc lv)] S=.ok (.val d) S:=by
 have hvl:0<vs.length:=length_pos_iff.mpr hv;have hxl:0<xs.length:=length_pos_iff.mpr hx;by_cases h6:n % 6=0
 ·obtain⟨v,hm,hi⟩:=yCR h2 hv (n / 6);have hvv:=hvs v hm;refine⟨.tup [.str IS,v],.inr ⟨v,hvv,rfl⟩,?_⟩;refine zFD rfl ?_ (zST (yIW (.inr ⟨v,hvv,rfl⟩)).1) (λl=>by simp);show xE (zAF [some (.int n),some (.loc ln),some (.loc lv)] S)=_;have e1:gK [some (.int n),some (.loc ln),some (.loc lv)] S=.ok (.ret (.val (.tup [.str IS,v]))) S:=by unfold gK;simp? [mod_lit (show(0:Int)<6 by decide),h6,decide_true,yI (b:=6) (by decide) (by decide),zDW h2,mod_lit (b:=(vs.length:Int)) (by omega),hi,tup2]
  unfold zAF;rw [zIY e1];rfl
 ·obtain⟨d,hm,hi⟩:=yCR h1 (by simpa using hx) (n / 6);obtain⟨x,hxm,rfl⟩:=mM.mp hm;rw [lM]at hi;refine⟨.tup [.str VAR,.str x],.inl ⟨x,hxm,rfl⟩,?_⟩;refine zFD rfl ?_ (zST (yIW (.inl ⟨x,rfl⟩)).1) (λl=>by simp);show xE (zAF [some (.int n),some (.loc ln),some (.loc lv)] S)=_;have e1:gK [some (.int n),some (.loc ln),some (.loc lv)] S=.ok (.next [some (.int n),some (.loc ln),some (.loc lv)]) S:=by unfold gK;simp? [mod_lit (show(0:Int)<6 by decide),h6,decide_false,fT,iF]
  unfold zAF;rw [zC e1];unfold zJQ;simp? [yI (b:=6) (by decide) (by decide),zDW h1,lM,mod_lit (b:=(xs.length:Int)) (by omega),hi,tup2];rfl
abbrev SG(la l:Nat)(t m d:Bi):Rho:=[some (.loc la),some (.loc l),t,m,d]
structure Kx(xs ks:Aa):Prop where
 nd:ks.Nodup
 sub: ∀x∈ks,x∈xs
def Kx.len{xs ks:Aa}(h:Kx xs ks):ks.length<=xs.length:=zDI h.nd h.sub
theorem yKF{la:Nat}{t m:Bi}{xs:Aa}(hx:xs.length<=100)(S:Sto): ∀(tms:Bh),(∀d∈tms,TmIn xs d)-> ∀(ks:Aa)(o:Bi),Kx xs ks-> ∃(ks':Aa)(o':Bi),kY (gNm 4) kW [] tms (SG la S.length t m o) (S++[.dic (dT ks)])=.ok (.next (SG la S.length t m o')) (S++[.dic (dT ks')])/\Kx xs ks'
 |[],_,ks,o,h=>⟨ks,o,rfl,h⟩
 |d::tms,hT,ks,o,h=>by
  have hT': ∀d∈tms,TmIn xs d:=λe he=>hT e (mO _ he);rcases hT d mF0 with⟨x,hm,rfl⟩|⟨v,hv,rfl⟩
  ·obtain⟨ks',o',e,h'⟩:=yKF (la:=la) (t:=t) (m:=m) hx S tms hT' (zER ks x) (some (.tup [.str VAR,.str x])) ⟨yBV h.nd x,λy hy=>by
    rcases (zXE ks x y).mp hy with hy|rfl
    ·exact h.sub y hy
    ·exact hm⟩
   refine⟨ks',o',?_,h'⟩;have hl:=h.len;rw [zS (ρ0:=SG la S.length t m (some (.tup [.str VAR,.str x]))) (ρ':=SG la S.length t m (some (.tup [.str VAR,.str x]))) (S':=S++[.dic (dT (zER ks x))]) rfl (by unfold kW jX;simp? [zUS,zNJ,yIX,zBR,yBX (zL S (.dic (dT ks))) (show ks.length<1000000 by omega),xT]) (yO _)];exact e
  ·obtain⟨ks',o',e,h'⟩:=yKF (la:=la) (t:=t) (m:=m) hx S tms hT' ks (some (.tup [.str IS,v])) h;refine⟨ks',o',?_,h'⟩;rw [zS (ρ0:=SG la S.length t m (some (.tup [.str IS,v]))) (ρ':=SG la S.length t m (some (.tup [.str IS,v]))) (S':=S++[.dic (dT ks)]) rfl (by unfold kW jX;simp? [zUS,yIY,fT,iF]) (yO _)];exact e
theorem yKG{la:Nat}{xs:Aa}{all:Bh}(hx:xs.length<=100)(S:Sto)(hla:S[la]? =some (.lst all)): ∀(as:Bj),(∀a∈as, ∀d∈a.2,TmIn xs d)-> ∀(ks:Aa)(t m o:Bi),Kx xs ks-> ∃(ks':Aa)(t' m' o':Bi),kY (gTp 2 (xF (gNm 2) (xF (gNm 3) zEY))) cA [(la,all)] (as.map aM) (SG la S.length t m o) (S++[.dic (dT ks)])=.ok (.next (SG la S.length t' m' o')) (S++[.dic (dT ks')])/\Kx xs ks'
 |[],_,ks,t,m,o,h=>⟨ks,t,m,o,rfl,h⟩
 |a::as,hA,ks,t,m,o,h=>by obtain⟨ks1,o1,e1,h1⟩:=yKF (la:=la) (t:=some (.int a.1)) (m:=some (.tup a.2)) hx S a.2 (hA a mF0) ks o h;obtain⟨ks',t',m',o',e,h'⟩:=yKG hx S hla as (λb hb=>hA b (mO _ hb)) ks1 (some (.int a.1)) (some (.tup a.2)) o1 h1;refine⟨ks',t',m',o',?_,h'⟩;have hst:stay [(la,all)] (S++[.dic (dT ks1)]):=zFE (by rw [getElem?_append_left (gS0.mp hla).1];exact hla);rw [map_cons,zS (ρ0:=SG la S.length (some (.int a.1)) (some (.tup a.2)) o) (ρ':=SG la S.length (some (.int a.1)) (some (.tup a.2)) o1) (S0:=S++[.dic (dT ks)]) (S':=S++[.dic (dT ks1)]) rfl (by unfold cA zBD;simp? [zPY];exact e1) hst];exact e
theorem zUX: ∀ks:List (List Nat),gZ (ks.map MV.str)=some ks
 |[]=>rfl
 |x::ks=>by rw [map_cons];unfold gZ;rw [zUX ks];rfl
def yKH{S:Sto}{l:Nat}{ks:Aa}(h:S[l]? =some (.dic (dT ks)))(hl:ks.length<64):zPG [.val (.loc l)] S=.ok (.new ((jT ks).map MV.str)) S:=by unfold zPG;dsimp only;rw [zIK h (zMX ks)];dsimp only;rw [iP (show(dT ks).length<64 by unfold dT;rw [lM];exact hl),zUU,zUX]
theorem zXO{la:Nat}{xs:Aa}{as:Bj}(hx:xs.length<=4)(S:Sto)(hla:S[la]? =some (.lst (as.map aM)))(hA: ∀a∈as, ∀d∈a.2,TmIn xs d): ∃ys:List (List Nat),ys.length<=4/\zW 1 gU [.val (.loc la)] S=.ok (.new (ys.map MV.str)) S:=by
 obtain⟨ks,t,m,o,e,h⟩:=yKG (by omega) S hla as hA [] none none none ⟨nodup_nil,λx hx=>by simp at hx⟩;have hl:=h.len;refine⟨jT ks,by rw [(wD ks).length_eq];omega,?_⟩;refine gF (T:=[.dic (dT ks)]) rfl ?_ (zGR _ _);show xE (zAV [some (.loc la),none,none,none,none] S)=_;have f1:cB [some (.loc la),none,none,none,none] S=.ok (.next (SG la S.length none none none)) (S++[.dic (dT [])]):=by unfold cB;simp? [zWB];rfl
 have hla2:(S++[.dic (dT [])])[la]? =some (.lst (as.map aM)):=by rw [getElem?_append_left (gS0.mp hla).1];exact hla
 have f2:cC (SG la S.length none none none) (S++[.dic (dT [])])=.ok (.next (SG la S.length t m o)) (S++[.dic (dT ks)]):=by unfold cC;simp? [zIZ hla2];exact e
 unfold zAV;rw [zC f1,zC f2];unfold zEC;simp? [yKH (zL S (.dic (dT ks))) (show ks.length<64 by omega)];rfl
theorem zXP{gf:MV->Rho->Sto->R Rho}{cf:AZ}{ef:AX}{ρb:Rho}{gs:Bk}{S:Sto}{P:MV->Prop}(hs:stay gs S):
  ∀{ds:Bh},(∀d∈ds, ∃ρ1 b y,gf d ρb S=.ok ρ1 S/\cf ρ1 S=.ok b S/\ef ρ1 S=.ok (.val y) S/\P y)-> ∃out,yY gf cf ef ρb gs ds S=.ok out S/\out.length<=ds.length/\ ∀o∈out,P o
 |[],_=>⟨[],rfl,le_refl _,λo h=>by simp at h⟩
 |d::ds,st=>by
  obtain⟨ρ1,b,y,h1,h2,h3,h4⟩:=st d mF0;obtain⟨out,e,hl,hp⟩:=zXP hs (ds:=ds) λd hd=>st d (mO _ hd)
  cases b with
  |true=>
   refine⟨y::out,?_,by rw [lC,lC];omega,λo ho=>(mC.mp ho).elim (λz=>z▸h4) (hp o)⟩;unfold yY;rw [h1,yW,bok,h2,yW,bok,iP rfl,h3,yW,bok];unfold dA;rw [bok,iP hs,e];rfl
  |false=>
   refine⟨out,?_,by rw [lC];omega,hp⟩;unfold yY;rw [h1,yW,bok,h2,yW,bok,iN xF0,iP hs,e]
def yCS{S:Sto}{l:Nat}{ds:Bh}(hS:S[l]? =some (.lst ds)):yEG (.val (.loc l)) [] S=.ok (.val .non) (S.set l (.lst ds.reverse)):=by unfold yEG zKK;dsimp only;rw [hS]
def ySY(q:Int){n:Nat}(h1:1<=n)(h4:n<=4):((List.range n).map λk:Nat=>((q+(k:Int)) % (n:Int)).toNat).Nodup:=by
 unfold List.Nodup;rw [pairwise_map];refine List.Pairwise.imp_of_mem (λ{i j} hi hj hne e=>hne ?_) (List.nodup_range (n:=n));have hi:=mem_range.mp hi;have hj:=mem_range.mp hj;have:n=1\/n=2\/n=3\/n=4:=by omega
 rcases this with rfl|rfl|rfl|rfl<;>omega
abbrev QV(lc:Nat)(ts:Ac)(ln lv:Nat)(m o a k nb w s h:Bi):Rho:=[some (.loc lc),some (.tup (ts.map tbl)),some (.loc ln),some (.loc lv),m,o,a,k,nb,w,s,h]
abbrev QA(lc:Nat)(ts:Ac)(ln lv:Nat)(m:Bi)(lo:Nat)(k nb w:Bi):Rho:=QV lc ts ln lv m (some (.loc lo)) (some (.loc (lo+1))) k nb w none none
abbrev ZZ(B:Sto)(ord:Ab)(as:Bj)(T:Sto):Sto:=B++.lst (ord.map zF)::.lst (as.map aM)::T
def zz_o(B:Sto)(ord:Ab)(as:Bj)(T:Sto):(ZZ B ord as T)[B.length]? =some (.lst (ord.map zF)):=by simp [ZZ]
def zz_a(B:Sto)(ord:Ab)(as:Bj)(T:Sto):(ZZ B ord as T)[B.length+1]? =some (.lst (as.map aM)):=by simp [ZZ]
def ySZ(B:Sto)(ord:Ab)(as as':Bj)(T:Sto):(ZZ B ord as T).set (B.length+1) (.lst (as'.map aM))=ZZ B ord as' T:=by simp [ZZ]
def zUY{B:Sto}{k:Nat}{o:MO}(h:B[k]? =some o)(ord:Ab)(as:Bj)(T:Sto):(ZZ B ord as T)[k]? =some o:=by show(B++_)[k]? =_;rw [getElem?_append_left (gS0.mp h).1];exact h
def yCT(B:Sto)(ord:Ab)(as:Bj)(T:Sto)(o:MO):ZZ B ord as T++[o]=ZZ B ord as (T++[o]):=by simp [ZZ]
structure QB(B:Sto)(lc ln lv:Nat)(cs:Ad)(xs:Aa)(vs:Bh):Prop where
 c:B[lc]? =some (.lst (cs.map MV.int))
 c6:cs.length=6
 n:B[ln]? =some (.lst (xs.map MV.str))
 n1:xs≠[]
 n4:xs.length<=4
 v:B[lv]? =some (.lst vs)
 v1:vs≠[]
 vs: ∀v∈vs,VS v
section
variable{B:Sto}{lc ln lv:Nat}{cs:Ad}{xs:Aa}{vs:Bh}{ts:Ac}{ord:Ab}
def yOJ(H:QB B lc ln lv cs xs vs)(hts: ∀p∈ts,1<=p.1/\p.1<=4/\0<=p.2/\p.2<=p.1)(ho: ∀o∈ord,o<ts.length){as:Bj}(hl:as.length<=100)(T:Sto)(m nb w:Bi){k:Nat}(hk:k<ord.length)(hk4:k<4):
  ∃(a:Int×List MV)(T':Sto)(nb' w':Bi),kX (QA lc ts ln lv m B.length (some (zF k)) nb w) (ZZ B ord as T)=.ok (.next (QA lc ts ln lv m B.length (some (zF k)) nb' w')) (ZZ B ord (as++[a]) T')/\a.1=(ord[k]:Int)/\AOk ts a/\ ∀d∈a.2,TmIn xs d:=by
 obtain⟨c,hc⟩: ∃c,cs[2+k]? =some c:=⟨_,gE0 (show 2+k<cs.length by have:=H.c6;omega)⟩
 obtain⟨ns,hns,e1⟩:=zXN c (show 4<=10 by decide) (ZZ B ord as T);have hix:ixF (.val (.loc lc)) (.val (.int (2+(k:Int)))) (ZZ B ord as T)=.ok (.val (.int c)) (ZZ B ord as T):=zCA (zUY H.c _ _ _) (by have:=zDH (xs:=cs.map MV.int) (k:=2+k) (x:=.int c) (by rw [getElem?_map,hc];rfl);rw [Int.natCast_add]at this;exact this);have f1:hW (QA lc ts ln lv m B.length (some (zF k)) nb w) (ZZ B ord as T)=.ok (.next (QA lc ts ln lv m B.length (some (zF k)) (some (.loc (ZZ B ord as T).length)) w)) (ZZ B ord as (T++[.lst (ns.map MV.int)])):=by unfold hW;simp? [hix,show∀S,zW 2 xD [.val (.int c),.val (.int 4)] S=zW 2 xD [.val (.int c),.val (zF 4)] S from λ_=>rfl,e1];rw [yCT]
 obtain⟨T1,hT1⟩: ∃T1,T1=T++[.lst (ns.map MV.int)]:=⟨_,rfl⟩
 obtain⟨o,ho'⟩: ∃o,o=ord[k]:=⟨_,rfl⟩
 have hok:ord[k]? =some o:=by rw [ho'];exact gE0 hk
 have hot:=ho o (mem_of_getElem? hok);obtain⟨p,hp⟩: ∃p,ts[o]? =some p:=⟨_,gE0 hot⟩
 have hpp:=hts p (mem_of_getElem? hp);have hio: ∀U,ixF (.val (.loc B.length)) (.val (zF k)) (ZZ B ord as U)=.ok (.val (zF o)) (ZZ B ord as U):=λU=>zCA (zz_o _ _ _ _) (zDH (by rw [getElem?_map,hok];rfl));have hit: ∀S:Sto,ixF (.val (.tup (ts.map tbl))) (.val (zF o)) S=.ok (.val (tbl p)) S:=λS=>ix_tup (zDH (by rw [getElem?_map,hp];rfl));have f2:hX (QA lc ts ln lv m B.length (some (zF k)) (some (.loc (ZZ B ord as T).length)) w) (ZZ B ord as T1)=.ok (.next (QA lc ts ln lv m B.length (some (zF k)) (some (.loc (ZZ B ord as T).length)) (some (.int p.1)))) (ZZ B ord as T1):=by unfold hX;simp? [hio,hit,show∀S:Sto,ixF (.val (tbl p)) (.val (.int 0)) S=.ok (.val (.int p.1)) S from λ_=>rfl]
 have hna:(ZZ B ord as T1)[(ZZ B ord as T).length]? =some (.lst (ns.map MV.int)):=by rw [hT1, <-yCT];exact zL _ _
 obtain⟨out,hco,hol,hom⟩:=zOU (S:=ZZ B ord as T1) (gf:=gNm 0) (cf:=zBF) (ef:=jZ) (ρb:=[none,some (.loc ln),some (.loc lv)]) (gs:=[]) (P:=TmIn xs) (yO _) (ds:=(ns.map MV.int).take p.1.toNat) λd hd=>by obtain⟨i,_,rfl⟩:=mM.mp (mem_of_mem_take hd);obtain⟨t,ht,e⟩:=yOI (zUY H.n ord as T1) H.n1 (zUY H.v ord as T1) H.v1 H.vs i;refine⟨[some (.int i),some (.loc ln),some (.loc lv)],t,rfl,rfl,?_,ht⟩;unfold jZ;simp? [e]
 rw [lT,lM,hns]at hol;have hlt:((ns.map MV.int).take p.1.toNat).length<1000000:=by rw [lT,lM];omega
 have hb: ∀a b c d e f g h i j k l:Option MV,blk 1 [2,3] [a,b,c,d,e,f,g,h,i,j,k,l]=[none,c,d]:=λ_ _ _ _ _ _ _ _ _ _ _ _=>rfl;have f3:gA (QA lc ts ln lv m B.length (some (zF k)) (some (.loc (ZZ B ord as T).length)) (some (.int p.1))) (ZZ B ord as T1)=.ok (.next (QA lc ts ln lv m B.length (some (zF k)) (some (.loc (ZZ B ord as T).length)) (some (.int p.1)))) (ZZ B ord (as++[((o:Int),out)]) T1):=by unfold gA;simp? [jO (zz_a B ord as T1),hio,zJJ hna,nP _ p.1 (show 0<=p.1 by omega),zES,hlt,hb,hco,show∀(ds:Bh)(S:Sto),zGA [.new ds] S=.ok (.val (.tup ds)) S from λ_ _=>rfl,tup2,zBQ (zz_a B ord as T1) (show(as.map aM).length<1000000 by rw [lM];omega)];rw [show as.map aM++[.tup [.int (o:Int),.tup out]]=(as++[((o:Int),out)]).map aM by rw [map_append];rfl,ySZ]
 refine⟨((o:Int),out),T1,some (.loc (ZZ B ord as T).length),some (.int p.1),?_,by rw [ho'],⟨⟨p,zDH hp,by omega⟩,λd hd=>(hom d hd).ok,?_⟩,hom⟩
 ·unfold kX;rw [zC f1, <-hT1,zC f2];exact f3
 ·show out.length<=4;omega
theorem yKI(H:QB B lc ln lv cs xs vs)(hts: ∀p∈ts,1<=p.1/\p.1<=4/\0<=p.2/\p.2<=p.1)(ho: ∀o∈ord,o<ts.length)(m:Bi): ∀(n k:Nat)(as:Bj)(T:Sto)(q nb w:Bi),k+n<=ord.length->k+n<=4->as.length=k->(as.map λa=>a.1.toNat)=ord.take k->(∀a∈as,0<=a.1/\AOk ts a/\ ∀d∈a.2,TmIn xs d)->
  ∃(as':Bj)(T':Sto)(q' nb' w':Bi),kY (gNm 7) kX [] ((List.range' k n).map zF) (QA lc ts ln lv m B.length q nb w) (ZZ B ord as T)=.ok (.next (QA lc ts ln lv m B.length q' nb' w')) (ZZ B ord as' T')/\as'.length=k+n/\(as'.map λa=>a.1.toNat)=ord.take (k+n)/\ ∀a∈as',0<=a.1/\AOk ts a/\ ∀d∈a.2,TmIn xs d
 |0,k,as,T,q,nb,w,_,_,h1,h2,h3=>⟨as,T,q,nb,w,rfl,h1,h2,h3⟩
 |n+1,k,as,T,q,nb,w,hk,h4,h1,h2,h3=>by
  have hko:k<ord.length:=by omega
  obtain⟨a,T1,nb1,w1,e1,g1,g2,g3⟩:=yOJ H hts ho (as:=as) (by omega) T m nb w hko (by omega)
  obtain⟨as',T',q',nb',w',e,j1,j2,j3⟩:=yKI H hts ho m n (k+1) (as++[a]) T1 (some (zF k)) nb1 w1 (by omega) (by omega) (by rw [lA,lS,h1]) (by
   rw [map_append,h2,List.take_add_one,gE0 hko,List.map_singleton,g1];rfl) (λb hb=>by
   rcases mem_append.mp hb with hb|hb
   ·exact h3 b hb
   ·rw [mS.mp hb];exact⟨by rw [g1];omega,g2,g3⟩)
  refine⟨as',T',q',nb',w',?_,by omega,by rw [j2];congr 1;omega,j3⟩;rw [range'_succ,map_cons,zS (ρ0:=QA lc ts ln lv m B.length (some (zF k)) nb w) rfl e1 (yO _)];exact e
end
theorem zXQ: ∀{o:Bh},(∀y∈o, ∃x:List Nat,y=.str x)-> ∃ys:List (List Nat),o=ys.map MV.str
 |[],_=>⟨[],rfl⟩
 |a::o,h=>by obtain⟨x,rfl⟩:=h a mF0;obtain⟨ys,rfl⟩:=zXQ λy hy=>h y (mO _ hy);exact⟨x::ys,rfl⟩
def am_lo{ts:Ac}{as:Bj}(h: ∀a∈as,AOk ts a)(n:Nat):loL n (as.map aM):=kZ λd hd=>by
 obtain⟨a,ha,rfl⟩:=mM.mp hd
 exact zGC (kZ λe he=>by
  rcases mC.mp he with rfl|he
  ·exact zHQ _ _
  ·rw [mS.mp he];exact zGC (kZ λt ht=>zST (yIW ((h a ha).tm t ht)).1))
def yKJ{lc lv:Nat}{cs:Ad}{xs:Aa}{vs:Bh}{ts:Ac}{S:Sto}(hc:S[lc]? =some (.lst (cs.map MV.int)))(hc6:cs.length=6)(hx1:xs≠[])(hx4:xs.length<=4)(hv:S[lv]? =some (.lst vs))(hv1:vs≠[])(hvs: ∀v∈vs,VS v)(hn1:1<=ts.length)(hn4:ts.length<=4)(hts: ∀p∈ts,1<=p.1/\p.1<=4/\0<=p.2/\p.2<=p.1):
  ∃(hs:Aa)(as:Bj),QOk ts as/\zW 4 kH [.val (.loc lc),.val (.tup (ts.map tbl)),.new (xs.map MV.str),.val (.loc lv)] S=.ok (.val (qM hs as)) S:=by
 obtain⟨B,hB⟩: ∃B:Sto,B=S++[.lst (xs.map MV.str)]:=⟨_,rfl⟩
 have old: ∀{k o},S[k]? =some o->B[k]? =some o:=λh=>by rw [hB,getElem?_append_left (gS0.mp h).1];exact h
 have H:QB B lc S.length lv cs xs vs:=⟨old hc,hc6,by rw [hB];exact zL _ _,hx1,hx4,old hv,hv1,hvs⟩
 obtain⟨c0,h0⟩: ∃c,cs[0]? =some c:=⟨_,gE0 (show 0<cs.length by omega)⟩
 obtain⟨c1,h1⟩: ∃c,cs[1]? =some c:=⟨_,gE0 (show 1<cs.length by omega)⟩
 obtain⟨n,hn⟩: ∃n,n=ts.length:=⟨_,rfl⟩
 have i0: ∀T:Sto,ixF (.val (.loc lc)) (.val (.int 0)) (B++T)=.ok (.val (.int c0)) (B++T):=λT=>zCA (by rw [getElem?_append_left (gS0.mp H.c).1];exact H.c) (zDH (k:=0) (by rw [getElem?_map,h0];rfl));have i0':=i0 [];rw [aN]at i0';have hm0:=eN0 c0 (show(n:Int)≠0 by omega);have hm1:=eL c0 (show(0:Int)<n by omega);obtain⟨m,hm⟩: ∃m:Nat,(m:Int)=1+c0 % (n:Int):=⟨(1+c0 % (n:Int)).toNat,by omega⟩
 have hmn:1<=m/\m<=n:=by omega
 have f1:cE (QV lc ts S.length lv none none none none none none none none) B=.ok (.next (QV lc ts S.length lv (some (zF m)) none none none none none none none)) B:=by unfold cE;simp? [i0',zEE,lM, <-hn,mod_lit (b:=(n:Int)) (by omega), <-hm]
 obtain⟨ord0,ho0⟩: ∃o:List Nat,o=(List.range n).map λk:Nat=>((c0 / 4+(k:Int)) % (n:Int)).toNat:=⟨_,rfl⟩
 have hnd0:ord0.Nodup:=by rw [ho0];exact ySY (c0 / 4) (by omega) (by omega)
 have hlt0: ∀o∈ord0,o<n:=λo ho=>by rw [ho0]at ho;obtain⟨k,_,rfl⟩:=mM.mp ho;have:=eN0 (c0 / 4+(k:Int)) (show(n:Int)≠0 by omega);have:=eL (c0 / 4+(k:Int)) (show(0:Int)<n by omega);omega
 have hl0:ord0.length=n:=by rw [ho0,lM,length_range]
 have hco:yY (gNm 0) zBE jY [none,some (.loc lc),some (.tup (ts.map tbl))] [] ((List.range n).map zF) B=.ok (ord0.map zF) B:=by
  rw [ho0,map_map];refine zBV (yO _) λk _=>⟨[some (zF k),some (.loc lc),some (.tup (ts.map tbl))],rfl,rfl,?_⟩
  have:=eN0 (c0 / 4+(k:Int)) (show(n:Int)≠0 by omega);unfold jY;simp? [i0',yI (b:=4) (by decide) (by decide),zEE,lM, <-hn,mod_lit (b:=(n:Int)) (by omega)];show R.ok (Er.val (.int ((c0 / 4+(k:Int)) % (n:Int)))) B=R.ok (Er.val (.int (((c0 / 4+(k:Int)) % (n:Int)).toNat:Int))) B;rw [Int.toNat_of_nonneg this]
 have hb: ∀a b c d e f g h i j k l:Option MV,blk 1 [0,1] [a,b,c,d,e,f,g,h,i,j,k,l]=[none,a,b]:=λ_ _ _ _ _ _ _ _ _ _ _ _=>rfl;have hrl:(List.range n).length<1000000:=by rw [length_range];omega
 have f2:cF (QV lc ts S.length lv (some (zF m)) none none none none none none none) B=.ok (.next (QV lc ts S.length lv (some (zF m)) (some (.loc B.length)) none none none none none none)) (B++[.lst (ord0.map zF)]):=by unfold cF;simp? [zEE,lM, <-hn,zNK (n:=n) (by omega),hrl,hb,hco]
 obtain⟨ord,f3,hnd,hlt,hol⟩: ∃ord:List Nat,cG (QV lc ts S.length lv (some (zF m)) (some (.loc B.length)) none none none none none none) (B++[.lst (ord0.map zF)])=.ok (.next (QV lc ts S.length lv (some (zF m)) (some (.loc B.length)) none none none none none none)) (B++[.lst (ord.map zF)])/\ord.Nodup/\(∀o∈ord,o<n)/\ord.length=n:=by
  unfold cG;by_cases h2:c0 / 16 % 2=1
  ·refine⟨ord0.reverse,?_,List.pairwise_reverse.mpr (hnd0.imp λh e=>h e.symm),λo ho=>hlt0 o (List.mem_reverse.mp ho),by rw [List.length_reverse,hl0]⟩;simp? [i0,yI (b:=16) (by decide) (by decide),mod_lit (show(0:Int)<2 by decide),h2,decide_true,jO (zL B (.lst (ord0.map zF))),yCS (zL B (.lst (ord0.map zF))),xT];rw [List.map_reverse]
  ·refine⟨ord0,?_,hnd0,hlt0,hl0⟩;simp? [i0,yI (b:=16) (by decide) (by decide),mod_lit (show(0:Int)<2 by decide),h2,decide_false,fT,iF]
 have f4:cH (QV lc ts S.length lv (some (zF m)) (some (.loc B.length)) none none none none none none) (B++[.lst (ord.map zF)])=.ok (.next (QA lc ts S.length lv (some (zF m)) B.length none none none)) (ZZ B ord [] []):=by unfold cH;simp? [bok];rw [lA,lS,aA];rfl
 obtain⟨as,T,q,nb,w,e5,g1,g2,g3⟩:=yKI (ts:=ts) (ord:=ord) H hts (λo ho=>by rw [<-hn];exact hlt o ho) (some (zF m)) m 0 [] [] none none none (by omega) (by omega) rfl rfl (λa ha=>by simp at ha);rw [zero_add]at g1 g2;have f5:cI (QA lc ts S.length lv (some (zF m)) B.length none none none) (ZZ B ord [] [])=.ok (.next (QA lc ts S.length lv (some (zF m)) B.length q nb w)) (ZZ B ord as T):=by unfold cI;simp? [zNK (n:=m) (by omega)];rw [List.range_eq_range'];exact e5
 have hQ:QOk ts as:=⟨λa ha=>(g3 a ha).2.1,by omega,λa ha=>(g3 a ha).1,by rw [g2];exact hnd.sublist (List.take_sublist _ _),by omega⟩
 obtain⟨ys,hyl,e6⟩:=zXO hx4 (ZZ B ord as T) (zz_a B ord as T) λa ha=>(g3 a ha).2.2;obtain⟨Z,hZ⟩: ∃Z:Sto,Z=ZZ B ord as T:=⟨_,rfl⟩
 rw [<-hZ]at e6 f5;have hZB: ∀{k o},B[k]? =some o->Z[k]? =some o:=λh=>by rw [hZ];exact zUY h _ _ _
 have f6:cJ (QA lc ts S.length lv (some (zF m)) B.length q nb w) Z=.ok (.next (QV lc ts S.length lv (some (zF m)) (some (.loc B.length)) (some (.loc (B.length+1))) q nb w (some (.loc Z.length)) none)) (Z++[.lst (ys.map MV.str)]):=by unfold cJ;simp? [e6]
 have oldZ: ∀{k o}(U:Sto),Z[k]? =some o->(Z++U)[k]? =some o:=λU h=>by rw [getElem?_append_left (gS0.mp h).1];exact h
 have i1: ∀U:Sto,ixF (.val (.loc lc)) (.val (.int 1)) (Z++U)=.ok (.val (.int c1)) (Z++U):=λU=>zCA (oldZ U (hZB H.c)) (zDH (k:=1) (by rw [getElem?_map,h1];rfl));have hl4: ∀(a b c d:MV)(S:Sto),bG [.val a,.val b,.val c,.val d] S=.ok (.new [a,b,c,d]) S:=λa b c d S=>zHR (by simp)
 obtain⟨out,hco,hol2,hom⟩:=zXP (S:=Z++[.lst (ys.map MV.str)]) (gf:=gNm 0) (cf:=gB) (ef:=gC) (ρb:=[none,some (.loc lc),some (.loc Z.length)]) (gs:=[]) (P:=λy=> ∃x:List Nat,y=.str x) (yO _) (ds:=(List.range ys.length).map zF) λd hd=>by
  obtain⟨k,hk,rfl⟩:=mM.mp hd;have hk:=mem_range.mp hk;obtain⟨p,hp⟩:=zKM (xs:=([1,3,9,27]:Ad)) (i:=(k:Int)) (by omega) (by show(k:Int)<4;omega);have hp0:0<p/\p<1073741824:=zNR (P:=λp:Int=>0<p/\p<1073741824) (by decide) hp;have hip: ∀S:Sto,ixF (.new [.int 1,.int 3,.int 9,.int 27]) (.val (.int (k:Int))) S=.ok (.val (.int p)) S:=λS=>yHO (by have:=zLA MV.int [1,3,9,27] (k:Int);rw [hp]at this;exact this);refine⟨[some (zF k),some (.loc lc),some (.loc Z.length)],decide (c1 / p % 3=1),.str ys[k],rfl,?_,?_,⟨_,rfl⟩⟩
  ·unfold gB;simp? [i1,hl4,hip,yI hp0.1 hp0.2,mod_lit (show(0:Int)<3 by decide)]
  ·unfold gC;simp? [zCA (zL Z (.lst (ys.map MV.str))) (zDH (k:=k) (x:=.str ys[k]) (by rw [getElem?_map,gE0 hk];rfl))]
 rw [lM,length_range]at hol2;have hb2: ∀a b c d e f g h i j k l:Option MV,blk 1 [0,10] [a,b,c,d,e,f,g,h,i,j,k,l]=[none,a,k]:=λ_ _ _ _ _ _ _ _ _ _ _ _=>rfl;have hrl2:(List.range ys.length).length<1000000:=by rw [length_range];omega
 obtain⟨Y,hY⟩: ∃Y:Sto,Y=Z++[.lst (ys.map MV.str)]:=⟨_,rfl⟩
 have f7:cK (QV lc ts S.length lv (some (zF m)) (some (.loc B.length)) (some (.loc (B.length+1))) q nb w (some (.loc Z.length)) none) Y=.ok (.next (QV lc ts S.length lv (some (zF m)) (some (.loc B.length)) (some (.loc (B.length+1))) q nb w (some (.loc Z.length)) (some (.loc Y.length)))) (Y++[.lst out]):=by unfold cK;rw [hY];simp? [zDW (zL Z (.lst (ys.map MV.str))),lM,zNK (n:=ys.length) (by omega),hrl2,hb2,hco]
 have i1Y: ∀U:Sto,ixF (.val (.loc lc)) (.val (.int 1)) (Y++U)=.ok (.val (.int c1)) (Y++U):=λU=>by rw [hY,aA];exact i1 _
 obtain⟨out2,f8,hom2⟩: ∃out2:List MV,cL (QV lc ts S.length lv (some (zF m)) (some (.loc B.length)) (some (.loc (B.length+1))) q nb w (some (.loc Z.length)) (some (.loc Y.length))) (Y++[.lst out])=.ok (.next (QV lc ts S.length lv (some (zF m)) (some (.loc B.length)) (some (.loc (B.length+1))) q nb w (some (.loc Z.length)) (some (.loc Y.length)))) (Y++[.lst out2])/\ ∀y∈out2, ∃x:List Nat,y=.str x:=by
  unfold cL;by_cases h2:c1 / 81 % 2=1
  ·refine⟨out.reverse,?_,λy hy=>hom y (List.mem_reverse.mp hy)⟩;simp? [i1Y,yI (b:=81) (by decide) (by decide),mod_lit (show(0:Int)<2 by decide),h2,decide_true,jO (zL Y (.lst out)),yCS (zL Y (.lst out)),xT]
  ·refine⟨out,?_,hom⟩;simp? [i1Y,yI (b:=81) (by decide) (by decide),mod_lit (show(0:Int)<2 by decide),h2,decide_false,fT,iF]
 obtain⟨hs,hhs⟩:=zXQ (o:=out2.take 2) λy hy=>hom2 y (mem_of_mem_take hy);refine⟨hs,as,hQ,?_⟩;have hya:(Y++[.lst out2])[B.length+1]? =some (.lst (as.map aM)):=by rw [hY,aA];exact oldZ _ (by rw [hZ];exact zz_a _ _ _ _)
 have f9:cM (QV lc ts S.length lv (some (zF m)) (some (.loc B.length)) (some (.loc (B.length+1))) q nb w (some (.loc Z.length)) (some (.loc Y.length))) (Y++[.lst out2])=.ok (.ret (.val (qM hs as))) (Y++[.lst out2]):=by unfold cM;simp? [zJJ (zL Y (.lst out2)),nP _ 2 (show(0:Int)<=2 by decide),show(2:Int).toNat=2 from rfl,show∀(ds:Bh)(S:Sto),zGA [.new ds] S=.ok (.val (.tup ds)) S from λ_ _=>rfl,zSS hya,tup2];rw [hhs]
 obtain⟨V,hV⟩: ∃V:Sto,Y++[.lst out2]=S++V:=⟨_,by rw [hY,hZ,hB];simp only [ZZ,aA];rfl⟩
 have hF:kH [.loc lc,.tup (ts.map tbl),.loc S.length,.loc lv] B=.ok (.val (qM hs as)) (S++V):=by show xE (zAW (QV lc ts S.length lv none none none none none none none none) B)=_;unfold zAW;rw [zC f1,zC f2,zC f3,zC f4,zC f5,zC f6, <-hY,zC f7,zC f8,f9,hV];rfl
 have hE:zR [.val (.loc lc),.val (.tup (ts.map tbl)),.new (xs.map MV.str),.val (.loc lv)] S=([.loc lc,.tup (ts.map tbl),.loc S.length,.loc lv],B):=by rw [hB];rfl
 refine zFB (T:=V) rfl (by rw [hE];exact hF) (zGC (kZ λd hd=>?_)) (λl=>by simp);rcases mC.mp hd with rfl|hd
 ·exact zGC (zGR _ _)
 ·rw [mS.mp hd];exact zGC (am_lo hQ.at' _)
theorem yCU{S:Sto}{gf:MV->Rho->Sto->R Rho}{cf:AZ}{ef:AX}{ρb:Rho}{gs:Bk}{p:MV->Option MV}(hs:stay gs S):
  ∀{ds:Bh},(∀d∈ds, ∃ρ1,gf d ρb S=.ok ρ1 S/\cf ρ1 S=.ok (p d).isSome S/\ ∀y,p d=some y->ef ρ1 S=.ok (.val y) S)->yY gf cf ef ρb gs ds S=.ok (ds.filterMap p) S
 |[],_=>rfl
 |d::ds,st=>by
  obtain⟨ρ1,h1,h2,h3⟩:=st d mF0;have e:=yCU hs (p:=p) (ds:=ds) λd hd=>st d (mO _ hd);unfold yY
  cases hp:p d with
  |some y=>
   rw [hp,Option.isSome_some]at h2;rw [h1,yW,bok,h2,yW,bok,iP rfl,h3 y hp,yW,bok];unfold dA;rw [bok,iP hs,e,filterMap_cons,hp];rfl
  |none=>
   rw [hp,Option.isSome_none]at h2;rw [h1,yW,bok,h2,yW,bok,iN xF0,iP hs,e,filterMap_cons,hp]
def lnT(hs:Aa)(d:MV):Option (List Nat):=(vn d).filter λx=>!decide (x∈hs)
def lnL(hs:Aa)(tms:Bh):List (List Nat):=jT (gG (tms.filterMap (lnT hs)))
def zET{hs:Aa}{tms:Bh}{x:Ab}:x∈lnL hs tms↔x∈fnL hs tms:=by
 unfold lnL;rw [(wD _).mem_iff,zFG,zXG,mem_filterMap,mem_filterMap];constructor
 ·rintro⟨d,hd,e⟩;unfold lnT at e;rw [Option.filter_eq_some_iff]at e;exact⟨⟨d,hd,e.1⟩,λz=>by have:=e.2;rw [dT0 z]at this;cases this⟩
 ·rintro⟨⟨d,hd,e⟩,hn⟩;refine⟨d,hd,?_⟩;unfold lnT;rw [Option.filter_eq_some_iff];exact⟨e,by rw [dF0 hn];rfl⟩
def yPH(hs:Aa)(tms:Bh):(lnL hs tms).Nodup:=(wD _).nodup_iff.mpr (zUE _)
theorem zQE: ∀ys:List (List Nat),strsOf (ys.map MV.str)=some ys
 |[]=>rfl
 |y::ys=>by rw [map_cons];unfold strsOf;rw [zQE ys];rfl
theorem zJK{hs:Aa}{a:MV}{tms:Bh}(hT: ∀d∈tms,zXC d)(hl:tms.length<=50)(S:Sto):zW 2 yK [.val (.tup [a,.tup tms]),.val (.tup (hs.map MV.str))] S=.ok (.new ((lnL hs tms).map MV.str)) S:=by
 have hc:yY (gNm 0) dY dZ [none,some (.tup (hs.map MV.str))] [] tms S=.ok (tms.filterMap λd=>(lnT hs d).map MV.str) S:=yCU (yO _) λd hd=>by
  refine⟨[some d,some (.tup (hs.map MV.str))],rfl,?_,λy hy=>?_⟩
  ·unfold dY;rcases hT d hd with⟨x,rfl⟩|⟨v,hv,rfl⟩
   ·have hin:=yJB (S:=S) (x:=x) (fs:=hs) true;rw [iP rfl]at hin;simp? [zUS,zNJ,yIX,hin];unfold lnT;rw [yAA];by_cases hx:x∈hs
    ·rw [dT0 hx];simp [hx]
    ·rw [dF0 hx];simp [hx]
   ·have hvn:vn (.tup [.str IS,v])=none:=by cases v<;>simp [vn]
    simp? [zUS,yIY,fT,iF];unfold lnT;rw [hvn];rfl
  ·unfold dZ;rcases hT d hd with⟨x,rfl⟩|⟨v,hv,rfl⟩
   ·have:y=.str x:=by obtain⟨z,hz,rfl⟩:=Option.map_eq_some_iff.mp hy;unfold lnT at hz;rw [yAA,Option.filter_eq_some_iff]at hz;cases hz.1;rfl
    rw [this];simp? [zNJ]
   ·have hvn:vn (.tup [.str IS,v])=none:=by cases v<;>simp [vn]
    unfold lnT at hy;rw [hvn]at hy;cases hy
 have hmm:(tms.filterMap λd=>(lnT hs d).map MV.str)=(tms.filterMap (lnT hs)).map MV.str:=by rw [map_filterMap]
 rw [hmm]at hc;have hlen:(tms.filterMap (lnT hs)).length<64:=by have:=length_filterMap_le (lnT hs) tms;omega
 have hb: ∀a b:Option MV,blk 1 [1] [a,b]=[none,b]:=λ_ _=>rfl;have htl:tms.length<1000000:=by omega
 have hs2:zNW [.new ((tms.filterMap (lnT hs)).map MV.str)] S=.ok (.new ((lnL hs tms).map MV.str)) S:=by show(match strsOf ((tms.filterMap (lnT hs)).map MV.str)with |some ys=>if ys.length<64 then R.ok (Er.new ((jT (gG ys)).map MV.str)) S else .no|none=>.no)=_;rw [zQE];dsimp only;rw [iP hlen];rfl
 refine gF (T:=[]) rfl ?_ (zGR _ _);rw [aN];show xE (zGN [some (.tup [a,.tup tms]),some (.tup (hs.map MV.str))] S)=_;unfold zGN zII;simp? [zNJ,zPY,htl,hb,hc,hs2];rfl
section
variable(ts:Ac)(hs:Aa)(i:Nat)
abbrev lkL(a:Int×List MV):List (List Nat):=lnL hs (a.2.take ((atI ts a.1).getD (0,0)).2.toNat)
def stN(zs:Aa)(p:(Int×List MV)×Nat):List (List Nat):=if p.2≠i/\(lkL ts hs p.1).all (λx=>decide (x∈zs))=true then zs++(lnL hs p.1.2).filter (λx=>!decide (x∈zs))else zs
def tnN(L:List ((Int×List MV)×Nat))(zs:Aa):List (List Nat):=L.foldl (stN ts hs i) zs
def itN(L:List ((Int×List MV)×Nat)):Nat->List (List Nat)->List (List Nat)
 |0,zs=>zs
 |k+1,zs=>itN L k (tnN ts hs i L zs)
end
section
variable{ts:Ac}{hs:Aa}{i:Nat}
def yCV(zs:Aa)(p:(Int×List MV)×Nat): ∃t,stN ts hs i zs p=zs++t:=by
 unfold stN;split
 ·exact⟨_,rfl⟩
 ·exact⟨[],(aN _).symm⟩
theorem zLC: ∀(L:List ((Int×List MV)×Nat))(zs:Aa), ∃t,tnN ts hs i L zs=zs++t
 |[],zs=>⟨[],(aN _).symm⟩
 |p::L,zs=>by obtain⟨t,e⟩:=yCV (ts:=ts) (hs:=hs) (i:=i) zs p;obtain⟨u,e2⟩:=zLC L (stN ts hs i zs p);exact⟨t++u,by show tnN ts hs i L (stN ts hs i zs p)=_;rw [e2,e,aA]⟩
theorem zXR: ∀(L:List ((Int×List MV)×Nat))(zs:Aa),tnN ts hs i L zs=zs-> ∀p∈L,stN ts hs i zs p=zs
 |[],_,_,p,hp=>by simp at hp
 |c::L,zs,h,p,hp=>by
  obtain⟨t,e⟩:=yCV (ts:=ts) (hs:=hs) (i:=i) zs c;obtain⟨u,e2⟩:=zLC (ts:=ts) (hs:=hs) (i:=i) L (stN ts hs i zs c);have h:tnN ts hs i L (stN ts hs i zs c)=zs:=h;have e3:zs++(t++u)=zs++[]:=by rw [aN, <-aA, <-e, <-e2,h]
  have e4:t=[]:=(List.append_eq_nil_iff.mp (append_cancel_left e3)).1;have e5:stN ts hs i zs c=zs:=by rw [e,e4,aN]
  rcases mC.mp hp with rfl|hp
  ·exact e5
  ·rw [e5]at h;exact zXR L zs h p hp
theorem zXS: ∀(L:List ((Int×List MV)×Nat))(zs:Aa),tnN ts hs i L zs≠zs-> ∃p∈L,(∃x∈lnL hs p.1.2,x∉zs)/\ ∀x∈lnL hs p.1.2,x∈tnN ts hs i L zs
 |[],zs,h=>absurd rfl h
 |c::L,zs,h=>by
  by_cases hc:stN ts hs i zs c=zs
  ·have h':tnN ts hs i L zs≠zs:=λz=>h (by show tnN ts hs i L (stN ts hs i zs c)=zs;rw [hc];exact z);obtain⟨p,hp,h1,h2⟩:=zXS L zs h';refine⟨p,mO _ hp,h1,λx hx=>?_⟩;show x∈tnN ts hs i L (stN ts hs i zs c);rw [hc];exact h2 x hx
  ·refine⟨c,mF0,?_,λx hx=>?_⟩
   ·unfold stN at hc;split at hc
    ·refine Classical.byContradiction λz=>hc ?_;rw [List.filter_eq_nil_iff.mpr λx hx=>?_,aN];rw [dT0 (Classical.byContradiction λy=>z ⟨x,hx,y⟩)];exact xF0
    ·exact absurd rfl hc
   ·obtain⟨u,e2⟩:=zLC (ts:=ts) (hs:=hs) (i:=i) L (stN ts hs i zs c);show x∈tnN ts hs i L (stN ts hs i zs c);rw [e2,mem_append];left;unfold stN at hc ⊢;split at hc
    ·rename_i hq;rw [iP hq,mem_append];by_cases hz:x∈zs
     ·exact .inl hz
     ·exact .inr (mem_filter.mpr ⟨hx,by rw [dF0 hz];rfl⟩)
    ·exact absurd rfl hc
def unf(hs:Aa)(L:List ((Int×List MV)×Nat))(zs:Aa):Nat:=(L.filter λp=>(lnL hs p.1.2).any λx=>!decide (x∈zs)).length
end
theorem yCW{α:Type}{P P':α->Bool}: ∀{L:List α},(∀p∈L,P' p=true->P p=true)->(L.filter P').length<=(L.filter P).length
 |[],_=>le_refl _
 |p::L,h=>by
  have ih:=yCW (P:=P) (P':=P') (L:=L) λq hq=>h q (mO _ hq);rw [filter_cons,filter_cons]
  cases e1:P' p with
  |true=>
   rw [h p mF0 e1,iP rfl,iP rfl,lC,lC];omega
  |false=>
   rw [iN xF0];split
   ·rw [lC];omega
   ·exact ih
theorem yCX{α:Type}{P P':α->Bool}: ∀{L:List α},(∀p∈L,P' p=true->P p=true)->(∃p∈L,P p=true/\P' p=false)->(L.filter P').length<(L.filter P).length
 |[],_,⟨p,hp,_⟩=>by simp at hp
 |p::L,h,⟨q,hq,h1,h2⟩=>by
  have hle:=yCW (P:=P) (P':=P') (L:=L) λq hq=>h q (mO _ hq);rw [filter_cons,filter_cons];rcases mC.mp hq with rfl|hq
  ·rw [h1,h2,iN xF0,iP rfl,lC];omega
  ·have ih:=yCX (P:=P) (P':=P') (L:=L) (λq hq=>h q (mO _ hq)) ⟨q,hq,h1,h2⟩
   cases e1:P' p with
   |true=>
    rw [h p mF0 e1,iP rfl,iP rfl,lC,lC];omega
   |false=>
    rw [iN xF0];split
    ·rw [lC];omega
    ·exact ih
section
variable{ts:Ac}{hs:Aa}{i:Nat}
def yKK{L:List ((Int×List MV)×Nat)}{zs:Aa}(h:tnN ts hs i L zs≠zs):unf hs L (tnN ts hs i L zs)<unf hs L zs:=by
 obtain⟨p,hp,h1,h2⟩:=zXS L zs h;obtain⟨t,e⟩:=zLC (ts:=ts) (hs:=hs) (i:=i) L zs
 have ia: ∀(q:(Int×List MV)×Nat)(ws:Aa),((lnL hs q.1.2).any λx=>!decide (x∈ws))=true↔ ∃x∈lnL hs q.1.2,x∉ws:=λq ws=>by
  rw [any_eq_true];constructor
  ·rintro⟨x,hx,hn⟩;exact⟨x,hx,λz=>by rw [dT0 z]at hn;cases hn⟩
  ·rintro⟨x,hx,hn⟩;exact⟨x,hx,by rw [dF0 hn];rfl⟩
 unfold unf;refine yCX (λq _ hq=>?_) ⟨p,hp,(ia p zs).mpr h1,?_⟩
 ·obtain⟨x,hx,hn⟩:=(ia q _).mp hq;exact(ia q zs).mpr ⟨x,hx,λz=>hn (by rw [e];exact mem_append.mpr (.inl z))⟩
 ·cases hq:(lnL hs p.1.2).any λx=>!decide (x∈tnN ts hs i L zs)with
  |false=>rfl
  |true=>
   obtain⟨x,hx,hn⟩:=(ia p _).mp hq;exact absurd (h2 x hx) hn
theorem yCY{L:List ((Int×List MV)×Nat)}{zs:Aa}(h:tnN ts hs i L zs=zs): ∀k,itN ts hs i L k zs=zs
 |0=>rfl
 |k+1=>by show itN ts hs i L k (tnN ts hs i L zs)=zs;rw [h];exact yCY h k
theorem yCZ{L:List ((Int×List MV)×Nat)}: ∀(k:Nat)(zs:Aa),unf hs L zs<=k->tnN ts hs i L (itN ts hs i L k zs)=itN ts hs i L k zs
 |0,zs,h=>Classical.byContradiction λz=>by have:=yKK (ts:=ts) (hs:=hs) (i:=i) (L:=L) (zs:=zs) z;omega
 |k+1,zs,h=>by
  by_cases hz:tnN ts hs i L zs=zs
  ·rw [yCY hz];exact hz
  ·exact yCZ k (tnN ts hs i L zs) (by have:=yKK (ts:=ts) (hs:=hs) (i:=i) (L:=L) (zs:=zs) hz;omega)
def yTA(L:List ((Int×List MV)×Nat))(zs:Aa):unf hs L zs<=L.length:=length_filter_le _ _
end
section
variable{ts:Ac}{hs:Aa}{as:Bj}{i:Nat}
def yTB{zs:Aa}{p:(Int×List MV)×Nat}(hp:as[p.2]? =some p.1)(hn:zs.Nodup)(h: ∀x∈zs,KnQ ts hs as i x):(stN ts hs i zs p).Nodup/\ ∀x∈stN ts hs i zs p,KnQ ts hs as i x:=by
 unfold stN;split
 ·rename_i hq;refine⟨nodup_append.mpr ⟨hn,(yPH hs p.1.2).filter _,λa ha b hb e=>?_⟩,λx hx=>?_⟩
  ·subst e;have:=(mem_filter.mp hb).2;rw [dT0 ha]at this;cases this
  ·rcases mem_append.mp hx with hx|hx
   ·exact h x hx
   ·refine .step p.2 (gS0.mp hp).1 hq.1 (λy hy=>?_) (by rw [zLB hp];exact zET.mp (mem_filter.mp hx).1);rw [zMZ hp]at hy;exact h y (of_decide_eq_true (all_eq_true.mp hq.2 y (zET.mpr hy)))
 ·exact⟨hn,h⟩
theorem yKL: ∀(L:List ((Int×List MV)×Nat)),(∀p∈L,as[p.2]? =some p.1)-> ∀{zs:Aa},zs.Nodup->(∀x∈zs,KnQ ts hs as i x)->(tnN ts hs i L zs).Nodup/\ ∀x∈tnN ts hs i L zs,KnQ ts hs as i x
 |[],_,_,hn,h=>⟨hn,h⟩
 |p::L,hL,zs,hn,h=>by obtain⟨h1,h2⟩:=yTB (ts:=ts) (hs:=hs) (i:=i) (hL p mF0) hn h;exact yKL L (λq hq=>hL q (mO _ hq)) h1 h2
theorem yKM{L:List ((Int×List MV)×Nat)}(hL: ∀p∈L,as[p.2]? =some p.1): ∀(k:Nat){zs:Aa},zs.Nodup->(∀x∈zs,KnQ ts hs as i x)->(itN ts hs i L k zs).Nodup/\(∀x∈itN ts hs i L k zs,KnQ ts hs as i x)/\ ∀x∈zs,x∈itN ts hs i L k zs
 |0,zs,hn,h=>⟨hn,h,λx hx=>hx⟩
 |k+1,zs,hn,h=>by obtain⟨h1,h2⟩:=yKL (ts:=ts) (hs:=hs) (i:=i) L hL hn h;obtain⟨g1,g2,g3⟩:=yKM hL k h1 h2;obtain⟨t,e⟩:=zLC (ts:=ts) (hs:=hs) (i:=i) L zs;exact⟨g1,g2,λx hx=>g3 x (by rw [e];exact mem_append.mpr (.inl hx))⟩
def yOK{zs:Aa}{a0:Int×List MV}(hi:as[i]? =some a0)(hk: ∀x∈kyL ts hs a0,x∈zs)(hf: ∀p∈as.zipIdx,stN ts hs i zs p=zs){x:Ab}(h:KnQ ts hs as i x):x∈zs:=by
 induction h with
 |key h=>rw [zMZ hi]at h;exact hk _ h
 |@step x j hj hne hall hx ih=>
  have ha:=gE0 hj;have e:=hf (as[j],j) (List.mem_zipIdx_iff_getElem?.mpr ha);rw [zLB ha]at hx;rw [zMZ ha]at ih;unfold stN at e;rw [iP ⟨hne,all_eq_true.mpr λy hy=>dT0 (ih y (zET.mp hy))⟩]at e;refine Classical.byContradiction λhz=>?_;have:x∈(lnL hs as[j].2).filter λx=>!decide (x∈zs):=mem_filter.mpr ⟨zET.mpr hx,by rw [dF0 hz];rfl⟩
  have e2:(lnL hs as[j].2).filter (λx=>!decide (x∈zs))=[]:=by
   have:zs++(lnL hs as[j].2).filter (λx=>!decide (x∈zs))=zs++[]:=by rw [aN];exact e
   exact append_cancel_left this
  rw [e2]at this;simp at this
def yAF{a0:Int×List MV}(hi:as[i]? =some a0)(x:Ab):(itN ts hs i as.zipIdx as.length (lkL ts hs a0)).Nodup/\(x∈itN ts hs i as.zipIdx as.length (lkL ts hs a0)↔KnQ ts hs as i x):=by have hL: ∀p∈as.zipIdx,as[p.2]? =some p.1:=λp hp=>List.mem_zipIdx_iff_getElem?.mp hp;obtain⟨g1,g2,g3⟩:=yKM (ts:=ts) (hs:=hs) (i:=i) hL as.length (yPH hs _) (zs:=lkL ts hs a0) λy hy=>.key (by rw [zMZ hi];exact zET.mp hy);refine⟨g1,g2 x,λh=>?_⟩;have he:=yCZ (ts:=ts) (hs:=hs) (i:=i) (L:=as.zipIdx) as.length (lkL ts hs a0) (by have:=yTA (hs:=hs) as.zipIdx (lkL ts hs a0);rw [length_zipIdx]at this;exact this);exact yOK hi (λy hy=>g3 y (zET.mpr hy)) (zXR _ _ he) h
end
theorem yDA(ds:Bh)(S:Sto):eqF (.new ds) (.new []) S=.ok (.val (.bl ds.isEmpty)) S:=by cases ds<;>rfl
abbrev LK(ts:Ac)(q:MV)(i:Nat)(hs:Aa)(as:Bh)(κ:Bi)(lf:Nat)(tn o a ks:Bi):Rho:=[some (.tup (ts.map tbl)),some q,some (zF i),some (.tup (hs.map MV.str)),some (.tup as),κ,some (.loc lf),tn,o,a,ks]
def zML(hs:Aa)(tms:Bh):(lnL hs tms).length<=tms.length:=by unfold lnL;rw [(wD _).length_eq];exact le_trans (zDI (zUE _) λx hx=>(zFG _ x).mp hx) (length_filterMap_le _ _)
def yOL{ts:Ac}{hs:Aa}{i:Nat}{q:MV}{as:Bh}{κ tn ks:Bi}{a:Int×List MV}(ha:AOk ts a)(S T:Sto){zs:Aa}{lf:Nat}(hz:(S++T)[lf]? =some (.lst (zs.map MV.str)))(hzl:zs.length<=1000)(o:Nat):
  ∃T' lf' ks',cN (LK ts q i hs as κ lf tn (some (zF o)) (some (aM a)) ks) (S++T)=.ok (.next (LK ts q i hs as κ lf' tn (some (zF o)) (some (aM a)) ks')) (S++T')/\(S++T')[lf']? =some (.lst ((stN ts hs i zs (a,o)).map MV.str)):=by
 obtain⟨p,hp,hp0⟩:=ha.tb;have hal:=ha.len;have ht: ∀S:Sto,ixF (.val (.tup (ts.map tbl))) (.val (.int a.1)) S=.ok (.val (tbl p)) S:=λS=>ix_tup (by rw [zLA,hp];rfl);have ht1: ∀S:Sto,ixF (.val (tbl p)) (.val (.int 1)) S=.ok (.val (.int p.2)) S:=λ_=>rfl;have ha0: ∀S:Sto,ixF (.val (aM a)) (.val (.int 0)) S=.ok (.val (.int a.1)) S:=λ_=>rfl;have ha1: ∀S:Sto,ixF (.val (aM a)) (.val (.int 1)) S=.ok (.val (.tup a.2)) S:=λ_=>rfl;have hky:lkL ts hs a=lnL hs (a.2.take p.2.toNat):=by unfold lkL;rw [hp];rfl
 have hn1: ∀S:Sto,zW 2 yK [.val (.tup [.int 0,.tup (a.2.take p.2.toNat)]),.val (.tup (hs.map MV.str))] S=.ok (.new ((lkL ts hs a).map MV.str)) S:=λS=>by rw [hky];exact zJK (λd hd=>ha.tm d (mem_of_mem_take hd)) (by rw [lT];omega) S
 have hn2: ∀S:Sto,zW 2 yK [.val (aM a),.val (.tup (hs.map MV.str))] S=.ok (.new ((lnL hs a.2).map MV.str)) S:=λS=>zJK ha.tm (by omega) S;obtain⟨U,hU⟩: ∃U:Sto,U=S++T++[.lst ((lkL ts hs a).map MV.str)]:=⟨_,rfl⟩
 have f1:nE (LK ts q i hs as κ lf tn (some (zF o)) (some (aM a)) ks) (S++T)=.ok (.next (LK ts q i hs as κ lf tn (some (zF o)) (some (aM a)) (some (.loc (S++T).length)))) U:=by unfold nE;simp? [ha0,ha1,ht,ht1,zNZ,nP _ p.2 hp0,tup2,hn1];rw [hU]
 have hzU:U[lf]? =some (.lst (zs.map MV.str)):=by rw [hU,getElem?_append_left (gS0.mp hz).1];exact hz
 have hkU:U[(S++T).length]? =some (.lst ((lkL ts hs a).map MV.str)):=by rw [hU];exact zL _ _
 have hin: ∀x:List Nat,inF true (.val (.str x)) (.val (.loc lf)) U=.ok (.val (.bl (!decide (x∈zs)))) U:=λx=>by have:=zEF true hzU (cS x) zJI;rw [iP rfl,dec_is (zKZ (x:=x) (fs:=zs))]at this;exact this
 have hc3:yY (gNm 0) nA zFK [none,some (.loc lf)] [((S++T).length,(lkL ts hs a).map MV.str)] ((lkL ts hs a).map MV.str) U=.ok (((lkL ts hs a).filter λx=>!decide (x∈zs)).map MV.str) U:=
  kC (zFE hkU) λx _=>⟨[some (.str x),some (.loc lf)],rfl,by unfold nA;simp? [hin],rfl⟩
 have hc4:yY (gNm 0) nB zFL [none,some (.loc lf)] [] ((lnL hs a.2).map MV.str) U=.ok (((lnL hs a.2).filter λx=>!decide (x∈zs)).map MV.str) U:=
  kC (yO _) λx _=>⟨[some (.str x),some (.loc lf)],rfl,by unfold nB;simp? [hin],rfl⟩
 have hl3:((lkL ts hs a).map MV.str).length<1000000:=by rw [lM,hky];have:=zML hs (a.2.take p.2.toNat);rw [lT]at this;omega
 have hl4:((lnL hs a.2).map MV.str).length<1000000:=by rw [lM];have:=zML hs a.2;omega
 have hb: ∀a b c d e f g h i j k:Option MV,blk 1 [6] [a,b,c,d,e,f,g,h,i,j,k]=[none,g]:=λ_ _ _ _ _ _ _ _ _ _ _=>rfl
 have hemp:(((lkL ts hs a).filter λx=>!decide (x∈zs)).map MV.str).isEmpty=(lkL ts hs a).all λx=>decide (x∈zs):=by
  rw [isEmpty_map]
  cases e:(lkL ts hs a).all λx=>decide (x∈zs)with
  |true=>
   rw [List.filter_eq_nil_iff.mpr λx hx=>by rw [all_eq_true.mp e x hx];exact xF0];rfl
  |false=>
   cases e2:(lkL ts hs a).filter λx=>!decide (x∈zs)with
   |nil=>
    have:(lkL ts hs a).all (λx=>decide (x∈zs))=true:=all_eq_true.mpr λx hx=>by
     have:=List.filter_eq_nil_iff.mp e2 x hx
     cases h:decide (x∈zs)with
     |true=>rfl
     |false=>rw [h]at this;exact absurd rfl this
    rw [this]at e;cases e
   |cons y l=>rfl
 obtain⟨V,hV⟩: ∃V:Sto,U=S++V:=⟨_,by rw [hU,aA]⟩
 unfold cN;rw [zC f1];unfold zFM stN;by_cases ho:o=i
 ·have hh:(o:Int)=i:=by omega
  refine⟨V,lf,some (.loc (S++T).length),?_,by rw [iN λz=>z.1 ho, <-hV];exact hzU⟩;simp? [ne_int,hh,decide_true,Bool.not_true,fT,iF];rw [hV]
 ·have hh: ¬(o:Int)=i:=by omega
  by_cases hq:(lkL ts hs a).all (λx=>decide (x∈zs))=true
  ·have hadd:xY (.val (.loc lf)) (.new (((lnL hs a.2).filter λx=>!decide (x∈zs)).map MV.str)) U=.ok (.new ((zs++(lnL hs a.2).filter λx=>!decide (x∈zs)).map MV.str)) U:=by rw [zOT (zNS hzU) (show lsW U (.new (((lnL hs a.2).filter λx=>!decide (x∈zs)).map MV.str))=some (((lnL hs a.2).filter λx=>!decide (x∈zs)).map MV.str)from rfl) (fits (by rw [lM,lM];have h1:=length_filter_le (λx=>!decide (x∈zs)) (lnL hs a.2);have h2:=zML hs a.2;omega)),map_append]
   refine⟨V++[.lst ((zs++(lnL hs a.2).filter λx=>!decide (x∈zs)).map MV.str)],U.length,some (.loc (S++T).length),?_,by rw [iP ⟨ho,hq⟩, <-aA, <-hV];exact zL _ _⟩;simp? [ne_int,hh,decide_false,Bool.not_false,zIZ hkU,hl3,hb,hc3,yDA,hemp,hq,hn2,zES,hl4,hc4,hadd];rw [<-aA, <-hV]
  ·refine⟨V,lf,some (.loc (S++T).length),?_,by rw [iN λz=>hq z.2, <-hV];exact hzU⟩;simp? [ne_int,hh,decide_false,Bool.not_false,zIZ hkU,hl3,hb,hc3,yDA,hemp,hq,fT,iF];rw [hV]
section
variable{ts:Ac}{hs:Aa}{i:Nat}{q:MV}{as:Bh}{κ:Bi}
def yDB{zs:Aa}{p:(Int×List MV)×Nat}(ha:AOk ts p.1):(stN ts hs i zs p).length<=zs.length+4:=by
 unfold stN;split
 ·rw [lA];have h1:=length_filter_le (λx=>!decide (x∈zs)) (lnL hs p.1.2);have h2:=zML hs p.1.2;have h3:=ha.len;omega
 ·omega
theorem yDC: ∀(L:List ((Int×List MV)×Nat)),(∀p∈L,AOk ts p.1)-> ∀zs:List (List Nat),(tnN ts hs i L zs).length<=zs.length+4 * L.length
 |[],_,zs=>Nat.le_add_right _ _
 |p::L,h,zs=>by have h1:=yDB (hs:=hs) (i:=i) (zs:=zs) (h p mF0);have h2:=yDC L (λq hq=>h q (mO _ hq)) (stN ts hs i zs p);show(tnN ts hs i L (stN ts hs i zs p)).length<=_;rw [lC];omega
theorem yKN{tn:Bi}(S:Sto): ∀(bs:Bj)(k:Nat),(∀a∈bs,AOk ts a)-> ∀(T:Sto)(zs:Aa)(lf:Nat)(o a ks:Bi),(S++T)[lf]? =some (.lst (zs.map MV.str))->zs.length+4 * bs.length<=1000->
  ∃T' lf' o' a' ks',kY (gTp 2 (xF (gNm 8) (xF (gNm 9) zEY))) cN [] (((bs.map aM).zipIdx k).map λp=>.tup [.int (p.2:Nat),p.1]) (LK ts q i hs as κ lf tn o a ks) (S++T)=.ok (.next (LK ts q i hs as κ lf' tn o' a' ks')) (S++T')/\(S++T')[lf']? =some (.lst ((tnN ts hs i (bs.zipIdx k) zs).map MV.str))
 |[],k,_,T,zs,lf,o,a,ks,hz,_=>⟨T,lf,o,a,ks,rfl,hz⟩
 |c::bs,k,h,T,zs,lf,o,a,ks,hz,hl=>by rw [lC]at hl;have hc:=h c mF0;obtain⟨T1,lf1,ks1,e1,hz1⟩:=yOL (hs:=hs) (i:=i) (q:=q) (as:=as) (κ:=κ) (tn:=tn) (ks:=ks) hc S T hz (by omega) k;have hlen:=yDB (hs:=hs) (i:=i) (zs:=zs) (p:=(c,k)) hc;obtain⟨T',lf',o',a',ks',e,hz'⟩:=yKN S bs (k+1) (λb hb=>h b (mO _ hb)) T1 (stN ts hs i zs (c,k)) lf1 (some (zF k)) (some (aM c)) ks1 hz1 (by omega);refine⟨T',lf',o',a',ks',?_,by rw [zipIdx_cons];exact hz'⟩;rw [map_cons,zipIdx_cons,map_cons,zS (ρ0:=LK ts q i hs as κ lf tn (some (zF k)) (some (aM c)) ks) (S0:=S++T) rfl e1 (yO _)];exact e
theorem zXT(S:Sto){bs:Bj}(hA: ∀a∈bs,AOk ts a)(hbl:bs.length<=4): ∀(ds:Bh)(T:Sto)(zs:Aa)(lf:Nat)(tn o a ks:Bi),(S++T)[lf]? =some (.lst (zs.map MV.str))->zs.length+16 * ds.length<=900->
  ∃T' lf' tn' o' a' ks',kY (gNm 7) zCY [] ds (LK ts q i hs (bs.map aM) κ lf tn o a ks) (S++T)=.ok (.next (LK ts q i hs (bs.map aM) κ lf' tn' o' a' ks')) (S++T')/\(S++T')[lf']? =some (.lst ((itN ts hs i bs.zipIdx ds.length zs).map MV.str))
 |[],T,zs,lf,tn,o,a,ks,hz,_=>⟨T,lf,tn,o,a,ks,rfl,hz⟩
 |d::ds,T,zs,lf,tn,o,a,ks,hz,hl=>by rw [lC]at hl;obtain⟨T1,lf1,o1,a1,ks1,e1,hz1⟩:=yKN (hs:=hs) (i:=i) (q:=q) (as:=bs.map aM) (κ:=κ) (tn:=some d) S bs 0 hA T zs lf o a ks hz (by omega);have hlen:=yDC (ts:=ts) (hs:=hs) (i:=i) bs.zipIdx (λp hp=>hA p.1 (mem_of_getElem? (List.mem_zipIdx_iff_getElem?.mp hp))) zs;rw [length_zipIdx]at hlen;obtain⟨T',lf',tn',o',a',ks',e,hz'⟩:=zXT S hA hbl ds T1 (tnN ts hs i bs.zipIdx zs) lf1 (some d) o1 a1 ks1 hz1 (by omega);refine⟨T',lf',tn',o',a',ks',?_,hz'⟩;rw [zS (ρ0:=LK ts q i hs (bs.map aM) κ lf (some d) o a ks) (ρ':=LK ts q i hs (bs.map aM) κ lf1 (some d) o1 a1 ks1) (S0:=S++T) (S':=S++T1) rfl (by unfold zCY zFN;simp? [yCK,zTT];exact e1) (yO _)];exact e
end
def yKO{S:Sto}{l:Nat}{zs:Aa}(h:S[l]? =some (.lst (zs.map MV.str)))(hl:zs.length<64):zPS [.val (.loc l)] S=.ok (.new ((jT zs).map MV.str)) S:=by unfold zPS;dsimp only;rw [bM h];dsimp only;rw [iP (by rw [lM];exact hl),zUX]
theorem yFI{ts:Ac}{hs:Aa}{as:Bj}(Q:QOk ts as){i:Nat}(hi:i<as.length)(S:Sto):zW 3 zBP [.val (.tup (ts.map tbl)),.val (qM hs as),.val (zF i)] S=.ok (.new ((jT (itN ts hs i as.zipIdx as.length (lkL ts hs as[i]))).map MV.str)) S:=by
 obtain⟨a,ea⟩: ∃a,a=as[i]:=⟨_,rfl⟩
 have hai:as[i]? =some a:=by rw [ea];exact gE0 hi
 have ha:=Q.at' a (mem_of_getElem? hai);rw [<-ea];obtain⟨p,hp,hp0⟩:=ha.tb;have hal:=ha.len;have hql:=Q.len;have hia: ∀S:Sto,ixF (.val (.tup (as.map aM))) (.val (zF i)) S=.ok (.val (aM a)) S:=λS=>ix_tup (zDH (by rw [getElem?_map,hai];rfl));have ht: ∀S:Sto,ixF (.val (.tup (ts.map tbl))) (.val (.int a.1)) S=.ok (.val (tbl p)) S:=λS=>ix_tup (by rw [zLA,hp];rfl);have ht1: ∀S:Sto,ixF (.val (tbl p)) (.val (.int 1)) S=.ok (.val (.int p.2)) S:=λ_=>rfl;have ha0: ∀S:Sto,ixF (.val (aM a)) (.val (.int 0)) S=.ok (.val (.int a.1)) S:=λ_=>rfl;have ha1: ∀S:Sto,ixF (.val (aM a)) (.val (.int 1)) S=.ok (.val (.tup a.2)) S:=λ_=>rfl;have hky:lkL ts hs a=lnL hs (a.2.take p.2.toNat):=by unfold lkL;rw [hp];rfl
 have hn1:zW 2 yK [.val (.tup [.int 0,.tup (a.2.take p.2.toNat)]),.val (.tup (hs.map MV.str))] S=.ok (.new ((lkL ts hs a).map MV.str)) S:=by rw [hky];exact zJK (λd hd=>ha.tm d (mem_of_mem_take hd)) (by rw [lT];omega) S
 have hkl:(lkL ts hs a).length<=4:=by rw [hky];have:=zML hs (a.2.take p.2.toNat);rw [lT]at this;omega
 obtain⟨T',lf,tn,o,a',ks,e4,hz⟩:=zXT (ts:=ts) (hs:=hs) (i:=i) (q:=qM hs as) (κ:=some (.int p.2)) S Q.at' Q.len ((List.range as.length).map zF) [.lst ((lkL ts hs a).map MV.str)] (lkL ts hs a) S.length none none none none (zL _ _) (by rw [lM,length_range];omega);rw [lM,length_range]at hz;obtain⟨zs,hzs⟩: ∃zs,zs=itN ts hs i as.zipIdx as.length (lkL ts hs a):=⟨_,rfl⟩
 rw [<-hzs]at hz ⊢;have hzl:zs.length<64:=by have h1:=zDI (ks:=zs) (U:=zSU hs as) (by rw [hzs];exact(yAF (ts:=ts) (hs:=hs) hai []).1) λx hx=>yJH hi ((yAF (ts:=ts) (hs:=hs) hai x).2.mp (by rw [<-hzs];exact hx));have h2:=zOA (hs:=hs) Q.at';omega
 refine gF (T:=T') rfl ?_ (zGR _ _);show xE (zGO [some (.tup (ts.map tbl)),some (qM hs as),some (zF i),none,none,none,none,none,none,none,none] S)=_;have f1:zCZ [some (.tup (ts.map tbl)),some (qM hs as),some (zF i),none,none,none,none,none,none,none,none] S=.ok (.next [some (.tup (ts.map tbl)),some (qM hs as),some (zF i),some (.tup (hs.map MV.str)),some (.tup (as.map aM)),none,none,none,none,none,none]) S:=by unfold zCZ;simp? [zBR];rfl
 have f2:zDA [some (.tup (ts.map tbl)),some (qM hs as),some (zF i),some (.tup (hs.map MV.str)),some (.tup (as.map aM)),none,none,none,none,none,none] S=.ok (.next [some (.tup (ts.map tbl)),some (qM hs as),some (zF i),some (.tup (hs.map MV.str)),some (.tup (as.map aM)),some (.int p.2),none,none,none,none,none]) S:=by unfold zDA;simp? [hia,ha0,ht,ht1]
 have f3:zDB [some (.tup (ts.map tbl)),some (qM hs as),some (zF i),some (.tup (hs.map MV.str)),some (.tup (as.map aM)),some (.int p.2),none,none,none,none,none] S=.ok (.next (LK ts (qM hs as) i hs (as.map aM) (some (.int p.2)) S.length none none none none)) (S++[.lst ((lkL ts hs a).map MV.str)]):=by unfold zDB;simp? [hia,ha1,zNZ,nP _ p.2 hp0,tup2,hn1]
 have f4:zDC (LK ts (qM hs as) i hs (as.map aM) (some (.int p.2)) S.length none none none none) (S++[.lst ((lkL ts hs a).map MV.str)])=.ok (.next (LK ts (qM hs as) i hs (as.map aM) (some (.int p.2)) lf tn o a' ks)) (S++T'):=by unfold zDC;simp? [zEE,lM,zNK (n:=as.length) (by omega)];exact e4
 unfold zGO;rw [zC f1,zC f2,zC f3,zC f4];unfold zIJ;simp? [yKO hz hzl];rfl
section
variable(L:Nat->Nat->Bool)
def stR(rs:Ab)(j:Nat):List Nat:=if j∉rs/\rs.any (λa=>L a j)=true then rs++[j]else rs
def tnR(js:Ab)(rs:Ab):List Nat:=js.foldl (stR L) rs
def itR(js:Ab):Nat->List Nat->List Nat
 |0,rs=>rs
 |k+1,rs=>itR js k (tnR L js rs)
def InR(n:Nat)(P:Nat->Prop)(rs:Ab):Prop:=rs.Nodup/\ ∀r∈rs,r<n/\P r
end
section
variable{L:Nat->Nat->Bool}{n:Nat}{P:Nat->Prop}
def yDD(rs:Ab)(j:Nat): ∃t,stR L rs j=rs++t:=by
 unfold stR;split
 ·exact⟨_,rfl⟩
 ·exact⟨[],(aN _).symm⟩
theorem zOB: ∀(js rs:Ab), ∃t,tnR L js rs=rs++t
 |[],rs=>⟨[],(aN _).symm⟩
 |j::js,rs=>by obtain⟨t,e⟩:=yDD (L:=L) rs j;obtain⟨u,e2⟩:=zOB js (stR L rs j);exact⟨t++u,by show tnR L js (stR L rs j)=_;rw [e2,e,aA]⟩
theorem zXU: ∀(js rs:Ab),tnR L js rs=rs-> ∀j∈js,stR L rs j=rs
 |[],_,_,j,hj=>by simp at hj
 |c::js,rs,h,j,hj=>by
  obtain⟨t,e⟩:=yDD (L:=L) rs c;obtain⟨u,e2⟩:=zOB (L:=L) js (stR L rs c);have h:tnR L js (stR L rs c)=rs:=h;have e3:rs++(t++u)=rs++[]:=by rw [aN, <-aA, <-e, <-e2,h]
  have e4:t=[]:=(List.append_eq_nil_iff.mp (append_cancel_left e3)).1;have e5:stR L rs c=rs:=by rw [e,e4,aN]
  rcases mC.mp hj with rfl|hj
  ·exact e5
  ·rw [e5]at h;exact zXU js rs h j hj
def yTC(hP: ∀r k,r<n->P r->k<n->L r k=true->P k){rs:Ab}{j:Nat}(hj:j<n)(h:InR n P rs):InR n P (stR L rs j):=by
 unfold stR;split
 ·rename_i hq;obtain⟨r,hr,hL⟩:=any_eq_true.mp hq.2;refine⟨nodup_append.mpr ⟨h.1,by simp,λa ha b hb=>by rw [mS.mp hb];rintro rfl;exact hq.1 ha⟩,λk hk=>?_⟩;rcases mem_append.mp hk with hk|hk
  ·exact h.2 k hk
  ·rw [mS.mp hk];exact⟨hj,hP r j (h.2 r hr).1 (h.2 r hr).2 hj hL⟩
 ·exact h
theorem yAG(hP: ∀r k,r<n->P r->k<n->L r k=true->P k): ∀(js:Ab),(∀j∈js,j<n)-> ∀{rs:Ab},InR n P rs->InR n P (tnR L js rs)
 |[],_,_,h=>h
 |j::js,hj,_,h=>yAG hP js (λk hk=>hj k (mO _ hk)) (yTC hP (hj j mF0) h)
def yOM{rs:Ab}(h:InR n P rs):rs.length<=n:=by have:=zDI h.1 λr hr=>mem_range.mpr (h.2 r hr).1;rw [length_range]at this;exact this
theorem yKP(hP: ∀r k,r<n->P r->k<n->L r k=true->P k){js:Ab}(hj: ∀j∈js,j<n): ∀(k:Nat){rs:Ab},InR n P rs->InR n P (itR L js k rs)/\ ∀r∈rs,r∈itR L js k rs
 |0,_,h=>⟨h,λr hr=>hr⟩
 |k+1,rs,h=>by obtain⟨g1,g2⟩:=yKP hP hj k (yAG hP js hj h);obtain⟨t,e⟩:=zOB (L:=L) js rs;exact⟨g1,λr hr=>g2 r (by rw [e];exact mem_append.mpr (.inl hr))⟩
theorem yDE{js rs:Ab}(h:tnR L js rs=rs): ∀k,itR L js k rs=rs
 |0=>rfl
 |k+1=>by show itR L js k (tnR L js rs)=rs;rw [h];exact yDE h k
theorem yDF(hP: ∀r k,r<n->P r->k<n->L r k=true->P k){js:Ab}(hj: ∀j∈js,j<n): ∀(k:Nat){rs:Ab},InR n P rs->n<=rs.length+k->tnR L js (itR L js k rs)=itR L js k rs
 |k,rs,h,hk=>by
  by_cases hz:tnR L js rs=rs
  ·rw [yDE hz];exact hz
  ·obtain⟨t,e⟩:=zOB (L:=L) js rs;have hi:=yAG hP js hj h;have hl:=yOM hi
   have hg:rs.length+1<=(tnR L js rs).length:=by
    rw [e,lA]
    cases t with
    |nil=>rw [aN]at e;exact absurd e hz
    |cons _ _=>rw [lC];omega
   match k,hk with
   |0,hk=>omega
   |k+1,hk=>exact yDF hP hj k hi (by omega)
def fixR{rs:Ab}(h: ∀j,j<n->stR L rs j=rs){r k:Nat}(hr:r∈rs)(hk:k<n)(hL:L r k=true):k∈rs:=Classical.byContradiction λz=>by have e:=h k hk;unfold stR at e;rw [iP ⟨z,any_eq_true.mpr ⟨r,hr,hL⟩⟩]at e;have:=congrArg List.length e;rw [lA,lS]at this;omega
end
abbrev tmA(as:Bj)(j:Nat):List MV:=((as[j]?).getD (0,[])).2
def lcB(hs ks:Aa)(as:Bj)(r k:Nat):Bool:=(lnL hs (tmA as r)).any λx=>decide (x∈lnL hs (tmA as k))&& !decide (x∈ks)
section
variable{ts:Ac}{hs ks:Aa}{as:Bj}{i:Nat}
def yKQ(hk: ∀x,x∈ks↔KnQ ts hs as i x){r k:Nat}(hr:r<as.length)(hk':k<as.length):lcB hs ks as r k=true↔ ∃x,x∈Fq hs as r/\x∈Fq hs as k/\ ¬KnQ ts hs as i x:=by
 have er:as[r]? =some as[r]:=gE0 hr;have ek:as[k]? =some as[k]:=gE0 hk';unfold lcB tmA;rw [er,ek,zLB er,zLB ek,any_eq_true];constructor
 ·rintro⟨x,hx,h⟩;rw [aE]at h;exact⟨x,zET.mp hx,zET.mp (of_decide_eq_true h.1),λz=>by have:=h.2;rw [dT0 ((hk x).mpr z)]at this;cases this⟩
 ·rintro⟨x,h1,h2,h3⟩;exact⟨x,zET.mpr h1,by show(decide (x∈lnL hs as[k].2)&& !decide (x∈ks))=true;rw [dT0 (show x∈lnL hs as[k].2 from zET.mpr h2),dF0 λz=>h3 ((hk x).mp z)];rfl⟩
def yTD(hk: ∀x,x∈ks↔KnQ ts hs as i x)(hi:i<as.length):(itR (lcB hs ks as) (List.range as.length) as.length [i]).Nodup/\ ∀j,j∈itR (lcB hs ks as) (List.range as.length) as.length [i]↔RcQ ts hs as i j:=by
 have hP: ∀r k,r<as.length->RcQ ts hs as i r->k<as.length->lcB hs ks as r k=true->RcQ ts hs as i k:=λr k hr h hk' hL=>by obtain⟨x,h1,h2,h3⟩:=(yKQ hk hr hk').mp hL;exact .step r k h hk' h1 h2 h3
 have hj: ∀j∈List.range as.length,j<as.length:=λj h=>mem_range.mp h;have h0:InR as.length (RcQ ts hs as i) [i]:=⟨by simp,λr hr=>by rw [mS.mp hr];exact⟨hi,.self⟩⟩
 obtain⟨g1,g2⟩:=yKP hP hj as.length h0;have he:=zXU _ _ (yDF hP hj as.length h0 (by rw [lS];omega));refine⟨g1.1,λj=>⟨λh=>(g1.2 j h).2,λh=>?_⟩⟩
 induction h with
 |self=>exact g2 i mF0
 |@step x r k _ hk' h1 h2 h3 ih=>
  exact fixR (λj hj=>he j (mem_range.mpr hj)) ih hk' ((yKQ hk (g1.2 r ih).1 hk').mpr ⟨x,h1,h2,h3⟩)
end
theorem zQF{α:Type}(p:α->Bool): ∀xs:List α,(xs.filter p).isEmpty= !xs.any p
 |[]=>rfl
 |x::xs=>by
  rw [filter_cons,any_cons]
  cases p x with
  |true=>rfl
  |false=>exact zQF p xs
theorem yON(ds:Bh)(S:Sto):neF (.new ds) (.new []) S=.ok (.val (.bl (!ds.isEmpty))) S:=by cases ds<;>rfl
theorem yOO{S:Sto}{l:Nat}{ds:Bh}(h:S[l]? =some (.lst ds)):neF (.val (.loc l)) (.new []) S=.ok (.val (.bl (!ds.isEmpty))) S:=by
 have e:vwE S (.val (.loc l))=some (.ls ds):=by show(kL S (.val (.loc l))).map Vw.ls=_;rw [bM h];rfl
 unfold neF zOM;rw [e];cases ds<;>rfl
def zDJ{S X:Sto}{k:Nat}{o:MO}(h:S[k]? =some o):(S++X)[k]? =some o:=by rw [getElem?_append_left (gS0.mp h).1];exact h
def yKR(rs:Ab): ∀y∈rs.map zF,pd y=true/\dpt y<40:=λy hy=>by obtain⟨k,_,rfl⟩:=mM.mp hy;exact⟨zMH _,by rw [zKY];decide⟩
section
variable{ts:Ac}{hs ks:Aa}{as:Bj}
theorem yFJ(Q:QOk ts as){S:Sto}{m:Nat}(hm:S[m]? =some (.lst (ks.map MV.str))){r k:Nat}(hr:r<as.length)(hk:k<as.length):
  zW 5 nW [.val (.tup (as.map aM)),.val (.tup (hs.map MV.str)),.val (.loc m),.val (zF r),.val (zF k)] S=.ok (.val (.bl (lcB hs ks as r k))) S:=by
 have er:as[r]? =some as[r]:=gE0 hr;have ek:as[k]? =some as[k]:=gE0 hk;have hix: ∀{j:Nat}(hj:j<as.length)(S:Sto),ixF (.val (.tup (as.map aM))) (.val (zF j)) S=.ok (.val (aM as[j])) S:=λhj S=>ix_tup (zDH (by rw [getElem?_map,gE0 hj];rfl));have hn: ∀{j:Nat}(hj:j<as.length)(S:Sto),zW 2 yK [.val (aM as[j]),.val (.tup (hs.map MV.str))] S=.ok (.new ((lnL hs as[j].2).map MV.str)) S:=λhj S=>by have:=Q.at' _ (getElem_mem hj);have hl:=this.len;exact zJK this.tm (by omega) S
 obtain⟨U,hU⟩: ∃U:Sto,U=S++[.lst ((lnL hs as[k].2).map MV.str)]:=⟨_,rfl⟩
 have f1:zAY [some (.tup (as.map aM)),some (.tup (hs.map MV.str)),some (.loc m),some (zF r),some (zF k),none] S=.ok (.next [some (.tup (as.map aM)),some (.tup (hs.map MV.str)),some (.loc m),some (zF r),some (zF k),some (.loc S.length)]) U:=by unfold zAY;simp? [hix hk,hn hk];rw [hU]
 have hi1: ∀x:List Nat,inF false (.val (.str x)) (.val (.loc S.length)) U=.ok (.val (.bl (decide (x∈lnL hs as[k].2)))) U:=λx=>by have:=zEF false (show U[S.length]? =_ by rw [hU];exact zL _ _) (cS x) zJI;rw [iN xF0,dec_is (zKZ (x:=x) (fs:=lnL hs as[k].2))]at this;exact this
 have hi2: ∀x:List Nat,inF true (.val (.str x)) (.val (.loc m)) U=.ok (.val (.bl (!decide (x∈ks)))) U:=λx=>by have:=zEF true (show U[m]? =_ by rw [hU];exact zDJ hm) (cS x) zJI;rw [iP rfl,dec_is (zKZ (x:=x) (fs:=ks))]at this;exact this
 have hc:yY (gNm 0) cO zED [none,some (.loc m),some (.loc S.length)] [] ((lnL hs as[r].2).map MV.str) U=.ok (((lnL hs as[r].2).filter λx=>decide (x∈lnL hs as[k].2)&& !decide (x∈ks)).map MV.str) U:=
  kC (yO _) λx _=>⟨[some (.str x),some (.loc m),some (.loc S.length)],rfl,by unfold cO;simp? [hi1,hi2];cases decide (x∈lnL hs as[k].2)<;>rfl,rfl⟩
 have hl:((lnL hs as[r].2).map MV.str).length<1000000:=by rw [lM];have h1:=zML hs as[r].2;have h2:=(Q.at' _ (getElem_mem hr)).len;omega
 have hb: ∀a b c d e f:Option MV,blk 1 [2,5] [a,b,c,d,e,f]=[none,c,f]:=λ_ _ _ _ _ _=>rfl;refine zFB (T:=[.lst ((lnL hs as[k].2).map MV.str)]) rfl ?_ (yBC _ _) (λl=>by simp);show xE (zEQ [some (.tup (as.map aM)),some (.tup (hs.map MV.str)),some (.loc m),some (zF r),some (zF k),none] S)=_;unfold zEQ;rw [zC f1];unfold zHH;simp? [hix hr,hn hr,zES,hl,hb,hc,yON];rw [isEmpty_map,zQF,not_not,hU];unfold lcB tmA;rw [er,ek];rfl
def yTE{L:Nat->Nat->Bool}{n:Nat}{rs:Ab}(h: ∀r∈rs,r<n){j:Nat}(hj:j<n):(∀r∈stR L rs j,r<n)/\(stR L rs j).length<=rs.length+1:=by
 unfold stR;split
 ·refine⟨λr hr=>?_,by rw [lA,lS];omega⟩;rcases mem_append.mp hr with hr|hr
  ·exact h r hr
  ·rw [mS.mp hr];exact hj
 ·exact⟨h,by omega⟩
abbrev LS(ts:Ac)(q:MV)(hs:Aa)(as:Bj)(lp nu mi fo tn o lh:Bi):Rho:=[some (.tup (ts.map tbl)),some q,some (.tup (hs.map MV.str)),some (.tup (as.map aM)),lp,nu,mi,fo,tn,o,lh]
variable{q:MV}{lp nu tn:Bi}
def yOP(Q:QOk ts as){S:Sto}{m l:Nat}{rs:Ab}(hm:S[m]? =some (.lst (ks.map MV.str)))(hl:S[l]? =some (.lst (rs.map zF)))(hr: ∀r∈rs,r<as.length)(hrl:rs.length<=1000){j:Nat}(hj:j<as.length)(lh:Bi):
  ∃X l' lh',cP (LS ts q hs as lp nu (some (.loc m)) (some (.loc l)) tn (some (zF j)) lh) S=.ok (.next (LS ts q hs as lp nu (some (.loc m)) (some (.loc l')) tn (some (zF j)) lh')) (S++X)/\(S++X)[l']? =some (.lst ((stR (lcB hs ks as) rs j).map zF)):=by
 have hc:yY (gNm 0) nF zFO [none,some (.tup (hs.map MV.str)),some (.tup (as.map aM)),some (.loc m),some (zF j)] [(l,rs.map zF)] (rs.map zF) S=.ok ((rs.filter λr=>lcB hs ks as r j).map zF) S:=
  kC (zFE hl) λr hr'=>⟨[some (zF r),some (.tup (hs.map MV.str)),some (.tup (as.map aM)),some (.loc m),some (zF j)],rfl,by unfold nF;simp? [yFJ (hs:=hs) Q hm (hr r hr') hj],rfl⟩
 have hb: ∀a b c d e f g h i j k:Option MV,blk 1 [2,3,6,9] [a,b,c,d,e,f,g,h,i,j,k]=[none,c,d,g,j]:=λ_ _ _ _ _ _ _ _ _ _ _=>rfl;have hlt:(rs.map zF).length<1000000:=by rw [lM];omega
 obtain⟨U,hU⟩: ∃U:Sto,U=S++[.lst ((rs.filter λr=>lcB hs ks as r j).map zF)]:=⟨_,rfl⟩
 have f1:nG (LS ts q hs as lp nu (some (.loc m)) (some (.loc l)) tn (some (zF j)) lh) S=.ok (.next (LS ts q hs as lp nu (some (.loc m)) (some (.loc l)) tn (some (zF j)) (some (.loc S.length)))) U:=by unfold nG;simp? [zIZ hl,hlt,hb,hc];rw [hU]
 have hUl:U[l]? =some (.lst (rs.map zF)):=by rw [hU];exact zDJ hl
 have hin:=zEF true hUl (zMH (j:Int)) (yKR rs);rw [iP rfl,dec_is (yCF (j:=j) (rs:=rs))]at hin;have hne:=yOO (show U[S.length]? =_ by rw [hU];exact zL _ _);rw [isEmpty_map,zQF,not_not]at hne;unfold cP;rw [zC f1];unfold zFP stR;by_cases h1:j∈rs
 ·rw [dT0 h1]at hin;refine⟨[.lst ((rs.filter λr=>lcB hs ks as r j).map zF)],l,some (.loc S.length),?_,by rw [iN λz=>z.1 h1, <-hU];exact hUl⟩;simp? [hin,Bool.not_true,fT,iF];rw [hU]
 ·rw [dF0 h1]at hin;by_cases h2:rs.any (λr=>lcB hs ks as r j)=true
  ·rw [h2]at hne;have hadd:xY (.val (.loc l)) (.new [zF j]) U=.ok (.new ((rs++[j]).map zF)) U:=by rw [zOT (zNS hUl) (show lsW U (.new [zF j])=some [zF j]from rfl) (fits (by rw [lM,lS];omega)),map_append];rfl
   refine⟨[.lst ((rs.filter λr=>lcB hs ks as r j).map zF),.lst ((rs++[j]).map zF)],U.length,some (.loc S.length),?_,?_⟩
   ·simp? [hin,Bool.not_false,hne,lst1,hadd];rw [hU,aA];rfl
   ·rw [iP ⟨h1,h2⟩,show S++[.lst ((rs.filter λr=>lcB hs ks as r j).map zF),.lst ((rs++[j]).map zF)]=U++[.lst ((rs++[j]).map zF)] by rw [hU,aA];rfl];exact zL _ _
  ·have h3:rs.any (λr=>lcB hs ks as r j)=false:=Bool.eq_false_iff.mpr h2;rw [h3]at hne;refine⟨[.lst ((rs.filter λr=>lcB hs ks as r j).map zF)],l,some (.loc S.length),?_,by rw [iN λz=>h2 z.2, <-hU];exact hUl⟩;simp? [hin,Bool.not_false,hne,fT,iF];rw [hU]
theorem yKS(Q:QOk ts as){m:Nat}: ∀(js:Ab),(∀j∈js,j<as.length)-> ∀(S:Sto)(l:Nat)(rs:Ab)(o lh:Bi),S[m]? =some (.lst (ks.map MV.str))->S[l]? =some (.lst (rs.map zF))->(∀r∈rs,r<as.length)->rs.length+js.length<=1000->
  ∃X l' o' lh',kY (gNm 9) cP [] (js.map zF) (LS ts q hs as lp nu (some (.loc m)) (some (.loc l)) tn o lh) S=.ok (.next (LS ts q hs as lp nu (some (.loc m)) (some (.loc l')) tn o' lh')) (S++X)/\(S++X)[l']? =some (.lst ((tnR (lcB hs ks as) js rs).map zF))/\(∀r∈tnR (lcB hs ks as) js rs,r<as.length)/\(tnR (lcB hs ks as) js rs).length<=rs.length+js.length
 |[],_,S,l,rs,o,lh,_,hl,hr,_=>⟨[],l,o,lh,by rw [aN];rfl,by rw [aN];exact hl,hr,le_refl _⟩
 |j::js,hj,S,l,rs,o,lh,hm,hl,hr,hz=>by
  rw [lC]at hz;have hj0:=hj j mF0;obtain⟨X,l1,lh1,e1,h1⟩:=yOP (q:=q) (lp:=lp) (nu:=nu) (tn:=tn) (hs:=hs) Q hm hl hr (by omega) hj0 lh;obtain⟨g1,g2⟩:=yTE (L:=lcB hs ks as) hr hj0;obtain⟨Y,l',o',lh',e,h2,h3,h4⟩:=yKS Q js (λk hk=>hj k (mO _ hk)) (S++X) l1 _ (some (zF j)) lh1 (zDJ hm) h1 g1 (by omega);rw [aA]at e h2;refine⟨X++Y,l',o',lh',?_,h2,h3,?_⟩
  ·rw [map_cons,zS (ρ0:=LS ts q hs as lp nu (some (.loc m)) (some (.loc l)) tn (some (zF j)) lh) (S0:=S) rfl e1 (yO _)];exact e
  ·rw [lC];show(tnR (lcB hs ks as) js (stR (lcB hs ks as) rs j)).length<=_;omega
theorem zXV(Q:QOk ts as){m:Nat}: ∀(ds:Bh)(S:Sto)(l:Nat)(rs:Ab)(tn o lh:Bi),S[m]? =some (.lst (ks.map MV.str))->S[l]? =some (.lst (rs.map zF))->(∀r∈rs,r<as.length)->rs.length+4 * ds.length<=100->
  ∃X l' tn' o' lh',kY (gNm 8) zDD [] ds (LS ts q hs as lp nu (some (.loc m)) (some (.loc l)) tn o lh) S=.ok (.next (LS ts q hs as lp nu (some (.loc m)) (some (.loc l')) tn' o' lh')) (S++X)/\(S++X)[l']? =some (.lst ((itR (lcB hs ks as) (List.range as.length) ds.length rs).map zF))
 |[],S,l,rs,tn,o,lh,_,hl,hr,_=>⟨[],l,tn,o,lh,by rw [aN];rfl,by rw [aN];exact hl⟩
 |d::ds,S,l,rs,tn,o,lh,hm,hl,hr,hz=>by rw [lC]at hz;have hql:=Q.len;obtain⟨X,l1,o1,lh1,e1,h1,g1,g2⟩:=yKS (q:=q) (lp:=lp) (nu:=nu) (tn:=some d) (hs:=hs) Q (List.range as.length) (λj hj=>mem_range.mp hj) S l rs o lh hm hl hr (by rw [length_range];omega);rw [length_range]at g2;obtain⟨Y,l',tn',o',lh',e,h2⟩:=zXV Q ds (S++X) l1 _ (some d) o1 lh1 (zDJ hm) h1 g1 (by omega);rw [aA]at e h2;refine⟨X++Y,l',tn',o',lh',?_,h2⟩;rw [zS (ρ0:=LS ts q hs as lp nu (some (.loc m)) (some (.loc l)) (some d) o lh) (S0:=S) rfl (by unfold zDD zFQ;simp? [zEE,lM,zNK (n:=as.length) (by omega)];exact e1) (yO _)];exact e
end
theorem zXW: ∀(ps:Ab),intsOf (ps.map zF)=some (ps.map Int.ofNat)
 |[]=>rfl
 |p::ps=>by show(intsOf (ps.map zF)).map (Int.ofNat p::·)=_;rw [zXW ps];rfl
theorem yOQ{S:Sto}{l:Nat}{ps qs:Ab}(h:S[l]? =some (.lst (ps.map zF)))(hz:ps.length<64)(hp:qs.Perm ps)(hs:qs.Pairwise (· <·)):zWJ [.val (.loc l)] S=.ok (.new (qs.map zF)) S:=by unfold zWJ;dsimp only;rw [bM h];dsimp only;rw [iP (by rw [lM];exact hz),zXW];dsimp only;rw [<-PySem.W.eq_sortI (hp.map Int.ofNat) (pairwise_map.mpr (hs.imp λ{a b} h=>by show(a:Int)<=b;omega)),map_map];rfl
section
variable{ts:Ac}{hs:Aa}{as:Bj}{q:MV}
open Classical in
def rwP(R:Nat->Nat->Prop)(n a:Nat):List Pr:=((List.range n).filter λb=>decide (b≠a/\R a b)).map λb=>(a,b)
open Classical in
def yOR(Q:QOk ts as){i:Nat}(hi:i<as.length){S:Sto}{lp:Nat}{P:List Pr}(hp:S[lp]? =some (.lst (P.map prM)))(hpl:P.length<=1000)(mi fo tn o lh:Bi):
  ∃X lp' mi' fo' tn' o' lh',cQ (LS ts (qM hs as) hs as (some (.loc lp)) (some (zF i)) mi fo tn o lh) S=.ok (.next (LS ts (qM hs as) hs as (some (.loc lp')) (some (zF i)) mi' fo' tn' o' lh')) (S++X)/\(S++X)[lp']? =some (.lst ((P++rwP (RcQ ts hs as) as.length i).map prM))/\S.length<=lp':=by
 have hql:=Q.len;have hai:as[i]? =some as[i]:=gE0 hi;obtain⟨ks,hks⟩: ∃ks,ks=jT (itN ts hs i as.zipIdx as.length (lkL ts hs as[i])):=⟨_,rfl⟩
 have hlk:=yFI (hs:=hs) Q hi S;rw [<-hks]at hlk;have hkm: ∀x,x∈ks↔KnQ ts hs as i x:=λx=>by rw [hks,(wD _).mem_iff];exact(yAF (ts:=ts) (hs:=hs) hai x).2
 obtain⟨hnd,hmem⟩:=yTD hkm hi;obtain⟨S1,hS1⟩: ∃S1:Sto,S1=S++[.lst (ks.map MV.str)]:=⟨_,rfl⟩
 obtain⟨S2,hS2⟩: ∃S2:Sto,S2=S1++[.lst ([i].map zF)]:=⟨_,rfl⟩
 have hm2:S2[S.length]? =some (.lst (ks.map MV.str)):=by rw [hS2,hS1];exact zDJ (zL _ _)
 have hf2:S2[S1.length]? =some (.lst ([i].map zF)):=by rw [hS2];exact zL _ _
 have f1:nK (LS ts (qM hs as) hs as (some (.loc lp)) (some (zF i)) mi fo tn o lh) S=.ok (.next (LS ts (qM hs as) hs as (some (.loc lp)) (some (zF i)) (some (.loc S.length)) fo tn o lh)) S1:=by unfold nK;simp? [hlk];rw [hS1]
 have f2:nL (LS ts (qM hs as) hs as (some (.loc lp)) (some (zF i)) (some (.loc S.length)) fo tn o lh) S1=.ok (.next (LS ts (qM hs as) hs as (some (.loc lp)) (some (zF i)) (some (.loc S.length)) (some (.loc S1.length)) tn o lh)) S2:=by unfold nL;simp? [lst1];rw [hS2];rfl
 obtain⟨X,lf,tn',o',lh',e3,hf⟩:=zXV (q:=qM hs as) (lp:=some (.loc lp)) (nu:=some (zF i)) (hs:=hs) (ks:=ks) Q ((List.range as.length).map zF) S2 S1.length [i] tn o lh hm2 hf2 (λr hr=>by rw [mS.mp hr];exact hi) (by rw [lM,length_range,lS];omega);rw [lM,length_range]at hf;have f3:nM (LS ts (qM hs as) hs as (some (.loc lp)) (some (zF i)) (some (.loc S.length)) (some (.loc S1.length)) tn o lh) S2=.ok (.next (LS ts (qM hs as) hs as (some (.loc lp)) (some (zF i)) (some (.loc S.length)) (some (.loc lf)) tn' o' lh')) (S2++X):=by unfold nM;simp? [zEE,lM,zNK (n:=as.length) (by omega)];exact e3
 obtain⟨S3,hS3⟩: ∃S3:Sto,S3=S2++X:=⟨_,rfl⟩
 rw [<-hS3]at f3 hf;have hfl:=yJV Q hi hnd hmem;have hsr:=yOQ (qs:=(List.range as.length).filter λb=>decide (RcQ ts hs as i b)) hf (by omega) ((List.perm_ext_iff_of_nodup (List.Pairwise.filter _ List.nodup_range) hnd).mpr λb=>by rw [mem_filter,hmem,mem_range];exact⟨λh=>of_decide_eq_true h.2,λh=>⟨yJS hi h,dT0 h⟩⟩) (List.Pairwise.filter _ List.pairwise_lt_range)
 have hc:yY (gNm 0) nH nI [none,some (zF i)] [] (((List.range as.length).filter λb=>decide (RcQ ts hs as i b)).map zF) S3=.ok ((rwP (RcQ ts hs as) as.length i).map prM) S3:=by
  have h1:(rwP (RcQ ts hs as) as.length i).map prM=(((List.range as.length).filter λb=>decide (RcQ ts hs as i b)).filter λb=>!decide (b=i)).map λb=>prM (i,b):=by
   unfold rwP;rw [map_map,List.filter_filter];refine congrArg (List.map (λb=>prM (i,b))) (List.filter_congr λb _=>?_);by_cases h1:b=i
   ·simp [h1]
   ·simp [h1]
  rw [h1]
  exact kC (yO _) λb _=>⟨[some (zF b),some (zF i)],rfl,by
   unfold nH;simp? [ne_int];rw [dec_is (show(b:Int)=i↔b=i by omega)],by
   unfold nI;simp? [tup2];rfl⟩
 have hlt:(((List.range as.length).filter λb=>decide (RcQ ts hs as i b)).map zF).length<1000000:=by rw [lM];have:=length_filter_le (λb=>decide (RcQ ts hs as i b)) (List.range as.length);rw [length_range]at this;omega
 have hp3:S3[lp]? =some (.lst (P.map prM)):=by rw [hS3,hS2,hS1];exact zDJ (zDJ (zDJ hp))
 have hrl:(rwP (RcQ ts hs as) as.length i).length<=4:=by unfold rwP;rw [lM];have:=length_filter_le (λb=>decide (b≠i/\RcQ ts hs as i b)) (List.range as.length);rw [length_range]at this;omega
 have hadd:xY (.val (.loc lp)) (.new ((rwP (RcQ ts hs as) as.length i).map prM)) S3=.ok (.new ((P++rwP (RcQ ts hs as) as.length i).map prM)) S3:=by rw [zOT (zNS hp3) (show lsW S3 (.new ((rwP (RcQ ts hs as) as.length i).map prM))=some ((rwP (RcQ ts hs as) as.length i).map prM)from rfl) (fits (by rw [lM,lM];omega)),map_append]
 have hb: ∀a b c d e f g h i j k:Option MV,blk 1 [5] [a,b,c,d,e,f,g,h,i,j,k]=[none,f]:=λ_ _ _ _ _ _ _ _ _ _ _=>rfl;have hSX:S3++[.lst ((P++rwP (RcQ ts hs as) as.length i).map prM)]=S++([.lst (ks.map MV.str),.lst ([i].map zF)]++X++[.lst ((P++rwP (RcQ ts hs as) as.length i).map prM)]):=by rw [hS3,hS2,hS1];simp only [aA,nil_append,cons_append]
 refine⟨_,S3.length,some (.loc S.length),some (.loc lf),tn',o',lh',?_,by rw [<-hSX];exact zL _ _,by rw [hS3,hS2,hS1];simp only [lA];omega⟩;rw [<-hSX];unfold cQ;rw [zC f1,zC f2,zC f3];unfold zFR;simp? [hsr,zES,hlt,hb,hc,hadd]
theorem yDG(Q:QOk ts as)(b0:Nat): ∀(is:Ab),(∀i∈is,i<as.length)-> ∀(S:Sto)(lp:Nat)(P:List Pr)(nu mi fo tn o lh:Bi),b0<=S.length->b0<=lp->S[lp]? =some (.lst (P.map prM))->P.length+4 * is.length<=900->
  ∃X lp' nu' mi' fo' tn' o' lh',kY (gNm 5) cQ [] (is.map zF) (LS ts (qM hs as) hs as (some (.loc lp)) nu mi fo tn o lh) S=.ok (.next (LS ts (qM hs as) hs as (some (.loc lp')) nu' mi' fo' tn' o' lh')) (S++X)/\(S++X)[lp']? =some (.lst ((P++is.flatMap (rwP (RcQ ts hs as) as.length)).map prM))/\b0<=lp'
 |[],_,S,lp,P,nu,mi,fo,tn,o,lh,_,hb,hp,_=>⟨[],lp,nu,mi,fo,tn,o,lh,by rw [aN];rfl,by rw [aN,List.flatMap_nil,aN];exact hp,hb⟩
 |i::is,hi,S,lp,P,nu,mi,fo,tn,o,lh,hS,hb,hp,hl=>by
  rw [lC]at hl;obtain⟨X,lp1,mi1,fo1,tn1,o1,lh1,e1,h1,h2⟩:=yOR (hs:=hs) Q (hi i mF0) hp (by omega) mi fo tn o lh;have hrl:(rwP (RcQ ts hs as) as.length i).length<=4:=by unfold rwP;rw [lM];refine le_trans (length_filter_le _ _) ?_;rw [length_range];exact Q.len
  obtain⟨Y,lp',nu',mi',fo',tn',o',lh',e,h3,h4⟩:=yDG Q b0 is (λj hj=>hi j (mO _ hj)) (S++X) lp1 _ (some (zF i)) mi1 fo1 tn1 o1 lh1 (by rw [lA];omega) (by omega) h1 (by rw [lA];omega);rw [aA]at e h3;refine⟨X++Y,lp',nu',mi',fo',tn',o',lh',?_,by rw [List.flatMap_cons, <-aA P];exact h3,h4⟩;rw [map_cons,zS (ρ0:=LS ts (qM hs as) hs as (some (.loc lp)) (some (zF i)) mi fo tn o lh) (S0:=S) rfl e1 (yO _)];exact e
theorem yFK(Q:QOk ts as)(S:Sto):zW 2 cR [.val (.tup (ts.map tbl)),.val (qM hs as)] S=.ok (.new ((PQ ts hs as).map prM)) S:=by
 have hql:=Q.len;obtain⟨X,lp,nu,mi,fo,tn,o,lh,e,h1,h2⟩:=yDG (hs:=hs) Q S.length (List.range as.length) (λi hi=>mem_range.mp hi) (S++[.lst []]) S.length [] none none none none none none (by rw [lA];omega) (le_refl _) (zL _ _) (by rw [length_nil,length_range];omega);rw [nil_append]at h1;rw [aA]at e h1;refine zFC (T:=[.lst []]++X) rfl ?_ h2 h1 (yPD _ _);show xE (zGP [some (.tup (ts.map tbl)),some (qM hs as),none,none,none,none,none,none,none,none,none] S)=_;have f1:zDE [some (.tup (ts.map tbl)),some (qM hs as),none,none,none,none,none,none,none,none,none] S=.ok (.next (LS ts (qM hs as) hs as none none none none none none none)) S:=by unfold zDE;simp? [zBR];rfl
 have f2:zDF (LS ts (qM hs as) hs as none none none none none none none) S=.ok (.next (LS ts (qM hs as) hs as (some (.loc S.length)) none none none none none none)) (S++[.lst []]):=by unfold zDF;simp? [bok]
 have f3:zDG (LS ts (qM hs as) hs as (some (.loc S.length)) none none none none none none) (S++[.lst []])=.ok (.next (LS ts (qM hs as) hs as (some (.loc lp)) nu mi fo tn o lh)) (S++([.lst []]++X)):=by unfold zDG;simp? [zEE,lM,zNK (n:=as.length) (by omega)];exact e
 unfold zGP;rw [zC f1,zC f2,zC f3];rfl
end
def zQG{S:Sto}{l:Nat}{ds:Bh}(h:S[l]? =some (.lst ds))(T:String)(hk:known T=true):zBZ [.val (.loc l),.val (.typ T)] S=.ok (.val (.bl (zQS "list" T))) S:=by
 have e:zOQ S (.val (.loc l))=some "list":=by show(kL S (.val (.loc l))).map (λ_=>"list")=_;rw [bM h];rfl
 unfold zBZ;dsimp only;rw [e];dsimp only;rw [iP hk]
def same_int(n k:Nat)(S:Sto):zW 2 (zI (n+1)) [.val (zF k),.val (zF k)] S=.ok (.val (.bl true)) S:=zNY rfl (by
 show xE (jD (zI n) [some (zF k),some (zF k),none,none] S)=_;have e1:wH (zI n) [some (zF k),some (zF k),none,none] S=.ok (.next [some (zF k),some (zF k),none,none]) S:=by unfold wH;simp? [show∀S:Sto,zTM (.val (zF k)) (.val .non) S=.ok (.val (.bl false)) S from λ_=>rfl,fT,iF]
 have e2:wI (zI n) [some (zF k),some (zF k),none,none] S=.ok (.next [some (zF k),some (zF k),none,none]) S:=by unfold wI;simp? [yHR,fT,iF]
 have e3:wK (zI n) [some (zF k),some (zF k),none,none] S=.ok (.ret (.val (.bl true))) S:=by unfold wK;simp? [ySO,ySP,andF,eq_int,decide_true,Bool.not_false]
 unfold jD;rw [zC e1,zC e2,zIY e3];rfl)
abbrev SP(p:Pr)(a b:Bi):Rho:=[some (prM p),some (prM p),a,b]
def yFL(n:Nat)(p:Pr)(S:Sto):zW 2 (zI (n+2)) [.val (prM p),.val (prM p)] S=.ok (.val (.bl true)) S:=zNY rfl (by
 show xE (jD (zI (n+1)) (SP p none none) S)=_;have e1:wH (zI (n+1)) (SP p none none) S=.ok (.next (SP p none none)) S:=by unfold wH;simp? [show∀S:Sto,zTM (.val (prM p)) (.val .non) S=.ok (.val (.bl false)) S from λ_=>rfl,fT,iF]
 have hi: ∀(T:String)(b:Bool),zBZ [.val (.tup [zF p.1,zF p.2]),.val (.typ T)] S=.ok (.val (.bl b)) S->zBZ [.val (prM p),.val (.typ T)] S=.ok (.val (.bl b)) S:=λ_ _ h=>h;have e2:wI (zI (n+1)) (SP p none none) S=.ok (.next (SP p none none)) S:=by unfold wI;simp? [hi "str" false rfl,fT,iF]
 have e3:wK (zI (n+1)) (SP p none none) S=.ok (.next (SP p none none)) S:=by unfold wK;simp? [hi "int" false rfl,fT,iF]
 have e4:gM (zI (n+1)) (SP p none none) S=.ok (.next (SP p none none)) S:=by unfold gM;simp? [hi "list" false rfl,fT,iF]
 have e5:gN (zI (n+1)) (SP p none none) S=.ok (.next (SP p none none)) S:=by unfold gN;simp? [hi "tuple" true rfl,Bool.not_true,fT,iF]
 have e6:gO (zI (n+1)) (SP p none none) S=.ok (.next (SP p none none)) S:=by unfold gO;simp? [show zBI [.val (prM p)] S=.ok (.val (.int 2)) S from rfl,ne_int,decide_true,Bool.not_true,fT,iF]
 have hz:itZ [.val (prM p),.val (prM p)] S=.ok ⟨[.tup [zF p.1,zF p.1],.tup [zF p.2,zF p.2]],[]⟩ S:=rfl;have eb: ∀k:Nat,kI (zI (n+1)) (SP p (some (zF k)) (some (zF k))) S=.ok (.next (SP p (some (zF k)) (some (zF k)))) S:=λk=>by unfold kI zAX;simp? [same_int,Bool.not_true,fT,iF]
 have e7:gP (zI (n+1)) (SP p none none) S=.ok (.next (SP p (some (zF p.2)) (some (zF p.2)))) S:=by unfold gP;simp? [hz];rw [zS (ρ0:=SP p (some (zF p.1)) (some (zF p.1))) (S0:=S) rfl (eb p.1) (yO _),zS (ρ0:=SP p (some (zF p.2)) (some (zF p.2))) (S0:=S) rfl (eb p.2) (yO _)];rfl
 unfold jD;rw [zC e1,zC e2,zC e3,zC e4,zC e5,zC e6,zC e7];rfl)
abbrev SM(l m:Nat)(a b:Bi):Rho:=[some (.loc l),some (.loc m),a,b]
theorem zXX(n l m:Nat)(gs:Bk){S:Sto}(hg:stay gs S): ∀(zs:List Pr)(a b:Bi), ∃a' b',kY (gTp 2 (xF (gNm 2) (xF (gNm 3) zEY))) (kI (zI (n+2))) gs (pairs (zs.map prM) (zs.map prM)) (SM l m a b) S=.ok (.next (SM l m a' b')) S
 |[],a,b=>⟨a,b,rfl⟩
 |x::zs,a,b=>by
  obtain⟨a',b',e⟩:=zXX n l m gs hg zs (some (prM x)) (some (prM x));refine⟨a',b',?_⟩;have eb:kI (zI (n+2)) (SM l m (some (prM x)) (some (prM x))) S=.ok (.next (SM l m (some (prM x)) (some (prM x)))) S:=by unfold kI zAX;simp? [yFL,Bool.not_true,fT,iF]
  show kY _ _ gs (.tup [prM x,prM x]::pairs (zs.map prM) (zs.map prM)) _ S=_;rw [zS (ρ0:=SM l m (some (prM x)) (some (prM x))) (S0:=S) rfl eb hg];exact e
theorem zSV(n:Nat){S:Sto}{l m:Nat}{zs:List Pr}(hl:S[l]? =some (.lst (zs.map prM)))(hm:S[m]? =some (.lst (zs.map prM))):zI (n+3) [.loc l,.loc m] S=.ok (.val (.bl true)) S:=by
 show xE (jD (zI (n+2)) (SM l m none none) S)=_;have e1:wH (zI (n+2)) (SM l m none none) S=.ok (.next (SM l m none none)) S:=by unfold wH;simp? [show∀S:Sto,zTM (.val (.loc m)) (.val .non) S=.ok (.val (.bl false)) S from λ_=>rfl,fT,iF]
 have e2:wI (zI (n+2)) (SM l m none none) S=.ok (.next (SM l m none none)) S:=by unfold wI;simp? [zQG hm "str" rfl,show zQS "list" "str"=false from rfl,fT,iF]
 have e3:wK (zI (n+2)) (SM l m none none) S=.ok (.next (SM l m none none)) S:=by unfold wK;simp? [zQG hm "int" rfl,show zQS "list" "int"=false from rfl,fT,iF]
 have e4:gM (zI (n+2)) (SM l m none none) S=.ok (.next (SM l m none none)) S:=by unfold gM;simp? [zQG hm "list" rfl,zQG hl "list" rfl,show zQS "list" "list"=true from rfl,Bool.not_true,fT,iF]
 have e5:gN (zI (n+2)) (SM l m none none) S=.ok (.next (SM l m none none)) S:=by unfold gN;simp? [zQG hm "tuple" rfl,show zQS "list" "tuple"=false from rfl,fT,iF]
 have e6:gO (zI (n+2)) (SM l m none none) S=.ok (.next (SM l m none none)) S:=by unfold gO;simp? [zDW hl,zDW hm,ne_int,decide_true,Bool.not_true,fT,iF]
 have hsl:srcOf S (.val (.loc l))=some ⟨true,zs.map prM,[(l,zs.map prM)]⟩:=by unfold srcOf;dsimp only;rw [hl]
 have hsm:srcOf S (.val (.loc m))=some ⟨true,zs.map prM,[(m,zs.map prM)]⟩:=by unfold srcOf;dsimp only;rw [hm]
 have hz:itZ [.val (.loc l),.val (.loc m)] S=.ok ⟨pairs (zs.map prM) (zs.map prM),[(l,zs.map prM),(m,zs.map prM)]⟩ S:=by unfold itZ;dsimp only;rw [hsl];dsimp only;rw [hsm];rfl
 obtain⟨a',b',e⟩:=zXX n l m [(l,zs.map prM),(m,zs.map prM)] (S:=S) (λp hp=>by
  rcases mC.mp hp with rfl|hp
  ·exact hl
  ·rw [mS.mp hp];exact hm) zs none none
 have e7:gP (zI (n+2)) (SM l m none none) S=.ok (.next (SM l m a' b')) S:=by unfold gP;simp? [hz];exact e
 unfold jD;rw [zC e1,zC e2,zC e3,zC e4,zC e5,zC e6,zC e7];rfl
theorem yOS(ns:Ad)(k:Int)(hk:0<=k)(S:Sto): ∃c,zW 2 yA [.val (.scr (ns.map MV.int)),.val (.int k)] S=.ok (.val (.int c)) S:=by
 have hlen:zBI [.val (.scr (ns.map MV.int))] S=.ok (.val (.int ns.length)) S:=by show R.ok (Er.val (.int (((ns.map MV.int).length:Nat):Int))) S=_;rw [lM]
 have e1:dE [some (.scr (ns.map MV.int)),some (.int k)] S=if decide (k<ns.length)=true then(ixF (.val (.scr (ns.map MV.int))) (.val (.int k)) S).bind λr S1=>.ok (.ret r) S1 else .ok (.next [some (.scr (ns.map MV.int)),some (.int k)]) S:=by unfold dE;simp? [hlen,lt_int]
 have fin: ∀c,yA [.scr (ns.map MV.int),.int k] S=.ok (.val (.int c)) S-> ∃c,zW 2 yA [.val (.scr (ns.map MV.int)),.val (.int k)] S=.ok (.val (.int c)) S:=λc h=>⟨c,zFD rfl h (zHQ _ _) (λl=>by simp)⟩
 have hs:yN ["_law_script","_law_k"] [.scr (ns.map MV.int),.int k]=[some (.scr (ns.map MV.int)),some (.int k)]:=rfl;by_cases hlt:k<ns.length
 ·obtain⟨d,hd⟩:=zKM (xs:=ns.map MV.int) (i:=k) hk (by rw [lM];exact hlt);obtain⟨c,rfl⟩: ∃c,d=.int c:=zNR (P:=λd=> ∃c,d=.int c) (λe he=>by obtain⟨c,_,rfl⟩:=mM.mp he;exact⟨c,rfl⟩) hd;have hix:ixF (.val (.scr (ns.map MV.int))) (.val (.int k)) S=.ok (.val (.int c)) S:=by show(match atI (ns.map MV.int) k with |some d=>R.ok (Er.val d) S|none=>.no)=_;rw [hd]
  refine fin c ?_;rw [dT0 hlt,iP rfl,hix,bok]at e1;unfold yA zCK;rw [hs,zIY e1];rfl
 ·refine fin 0 ?_;rw [dF0 hlt,iN xF0]at e1;unfold yA zCK;rw [hs,zC e1];rfl
theorem zXY: ∀{o:Bh},(∀y∈o, ∃i:Int,y=.int i)-> ∃ys:List Int,o=ys.map MV.int
 |[],_=>⟨[],rfl⟩
 |a::o,h=>by obtain⟨x,rfl⟩:=h a mF0;obtain⟨ys,rfl⟩:=zXY λy hy=>h y (mO _ hy);exact⟨x::ys,rfl⟩
abbrev LW(sc:Bh)(a b c d e f g:Bi):Rho:=[some (.scr sc),a,b,c,d,e,f,g]
abbrev LX(sc:Bh)(ts:Ac)(q f g:Bi):Rho:=LW sc (some (.loc 0)) (some (.tup (ts.map tbl))) (some (.loc 1)) (some (.loc 2)) q f g
theorem yKT(ns:Ad)(h:ns.length<=63): ∃S,zWW [.scr (ns.map MV.int)] []=.ok (.val (.bl true)) S:=by
 obtain⟨sc,hsc⟩: ∃sc,sc=ns.map MV.int:=⟨_,rfl⟩
 have cell: ∀(k:Int),0<=k-> ∀S, ∃c,zW 2 yA [.val (.scr sc),.val (.int k)] S=.ok (.val (.int c)) S:=λk hk S=>by rw [hsc];exact yOS ns k hk S
 rw [<-hsc];obtain⟨c0,hc0⟩:=cell 0 (by decide) [];obtain⟨ws,hw6,_,hws⟩:=yKC c0 [];obtain⟨S1,hS1⟩: ∃S1:Sto,S1=[.lst (ws.map MV.str)]:=⟨_,rfl⟩
 have f1:zUH (LW sc none none none none none none none) []=.ok (.next (LW sc (some (.loc 0)) none none none none none none)) S1:=by unfold zUH;simp? [hc0,hws];rw [hS1];rfl
 obtain⟨c1,hc1⟩:=cell 1 (by decide) S1;obtain⟨ts,⟨ht1,ht4⟩,hts,htb⟩:=yFG c1 S1;have f2:zUI (LW sc (some (.loc 0)) none none none none none none) S1=.ok (.next (LW sc (some (.loc 0)) (some (.tup (ts.map tbl))) none none none none none)) S1:=by unfold zUI;simp? [hc1,htb]
 obtain⟨c2,hc2⟩:=cell 2 (by decide) S1;have hw0:S1[0]? =some (.lst (ws.map MV.str)):=by rw [hS1];rfl
 have hcut:bD (ws.map MV.str) (some 4) none=(ws.drop 4).map MV.str:=by have:=zMJ (ws.map MV.str) 4;rw [map_drop];exact this
 obtain⟨vs,hv1,_,hvs,hva⟩:=yFH c2 (ws:=ws.drop 4) (by rw [length_drop,hw6]) S1;obtain⟨S2,hS2⟩: ∃S2:Sto,S2=S1++[.lst vs]:=⟨_,rfl⟩
 have f3:zUJ (LW sc (some (.loc 0)) (some (.tup (ts.map tbl))) none none none none none) S1=.ok (.next (LW sc (some (.loc 0)) (some (.tup (ts.map tbl))) (some (.loc 1)) none none none none)) S2:=by unfold zUJ;simp? [hc2,zJJ hw0,hcut,hva];rw [hS2,hS1];rfl
 obtain⟨out,hco,hol,hom⟩:=zOU (S:=S2) (gf:=gNm 0) (cf:=zSR) (ef:=zMF) (ρb:=[none,some (.scr sc)]) (gs:=[]) (P:=λy=> ∃i:Int,y=.int i) (yO _) (ds:=(List.range 6).map zF) λd hd=>by obtain⟨k,hk,rfl⟩:=mM.mp hd;obtain⟨c,hc⟩:=cell (3+(k:Int)) (by omega) S2;refine⟨[some (zF k),some (.scr sc)],.int c,rfl,rfl,?_,⟨c,rfl⟩⟩;unfold zMF;simp? [hc]
 obtain⟨cs,rfl⟩:=zXY hom;rw [lM,lM,length_range]at hol;obtain⟨S3,hS3⟩: ∃S3:Sto,S3=S2++[.lst (cs.map MV.int)]:=⟨_,rfl⟩
 have hb: ∀a b c d e f g h:Option MV,blk 1 [0] [a,b,c,d,e,f,g,h]=[none,a]:=λ_ _ _ _ _ _ _ _=>rfl;have f4:zUK (LW sc (some (.loc 0)) (some (.tup (ts.map tbl))) (some (.loc 1)) none none none none) S2=.ok (.next (LX sc ts none none none)) S3:=by unfold zUK;simp? [rng6,show((List.range 6).map zF).length<1000000 by decide,hb,hco];rw [hS3,hS2,hS1];rfl
 have hw3:S3[0]? =some (.lst (ws.map MV.str)):=by rw [hS3,hS2,hS1];rfl
 have hv3:S3[1]? =some (.lst vs):=by rw [hS3,hS2,hS1];rfl
 have hc3:S3[2]? =some (.lst (cs.map MV.int)):=by rw [hS3,hS2,hS1];rfl
 have hl3:S3.length=3:=by rw [hS3,hS2,hS1];rfl
 have hxl:(ws.take 4).length=4:=by rw [lT,hw6];rfl
 obtain⟨hs,as,Q,hq⟩:=yKJ (lc:=2) (lv:=1) (xs:=ws.take 4) (ts:=ts) hc3 hol (λz=>by rw [z,length_nil]at hxl;omega) (by omega) hv3 hv1 hvs ht1 ht4 hts;have hcut2:bD (ws.map MV.str) none (some 4)=(ws.take 4).map MV.str:=by rw [nP _ 4 (by decide),map_take];rfl
 have f5:zUL (LX sc ts none none none) S3=.ok (.next (LX sc ts (some (qM hs as)) none none)) S3:=by unfold zUL;simp? [zJJ hw3,hcut2,hq]
 obtain⟨P,hP⟩: ∃P,P=PQ ts hs as:=⟨_,rfl⟩
 have hsw: ∀S:Sto,zW 2 zJH [.val (.tup (ts.map tbl)),.val (qM hs as)] S=.ok (.new (P.map prM)) S:=λS=>by rw [hP];exact yJX (hs:=hs) Q S
 have hlw: ∀S:Sto,zW 2 cR [.val (.tup (ts.map tbl)),.val (qM hs as)] S=.ok (.new (P.map prM)) S:=λS=>by rw [hP];exact yFK (hs:=hs) Q S
 have hPl:P.length<1000:=by
  have h1:=zDI (yPF (RcQ ts hs as) as.length) (U:=(List.range 4).flatMap λa=>(List.range 4).map λb=>(a,b)) λp hp=>by have:=yJU.mp hp;have h4:=Q.len;exact mem_flatMap.mpr ⟨p.1,mem_range.mpr (by omega),mM.mpr ⟨p.2,mem_range.mpr (by omega),rfl⟩⟩
  rw [hP];exact Nat.lt_of_le_of_lt h1 (by decide)
 obtain⟨S4,hS4⟩: ∃S4:Sto,S4=S3++[.lst (P.map prM)]:=⟨_,rfl⟩
 obtain⟨S5,hS5⟩: ∃S5:Sto,S5=S4++[.lst (P.map prM)]:=⟨_,rfl⟩
 have hl4:S4.length=4:=by rw [hS4,lA,hl3];rfl
 have h34:S4[3]? =some (.lst (P.map prM)):=by rw [hS4, <-hl3];exact zL _ _
 have h35:S5[3]? =some (.lst (P.map prM)):=by rw [hS5];exact zDJ h34
 have h45:S5[4]? =some (.lst (P.map prM)):=by rw [hS5, <-hl4];exact zL _ _
 have f6:zUM (LX sc ts (some (qM hs as)) none none) S3=.ok (.next (LX sc ts (some (qM hs as)) (some (.loc 3)) none)) S4:=by unfold zUM;simp? [hlw];rw [hS4,hl3]
 have f7:zUN (LX sc ts (some (qM hs as)) (some (.loc 3)) none) S4=.ok (.next (LX sc ts (some (qM hs as)) (some (.loc 3)) (some (.loc 4)))) S5:=by unfold zUN;simp? [hsw];rw [hS5,hl4]
 have hs1:zW 2 (zI 4) [.val (.loc 4),.val (.loc 3)] S5=.ok (.val (.bl true)) S5:=zNY rfl (zSV 1 h45 h35);have f8:zUO (LX sc ts (some (qM hs as)) (some (.loc 3)) (some (.loc 4))) S5=.ok (.next (LX sc ts (some (qM hs as)) (some (.loc 3)) (some (.loc 4)))) S5:=by unfold zUO;simp? [hs1,Bool.not_true,fT,iF]
 obtain⟨S6,hS6⟩: ∃S6:Sto,S6=S4++[.lst (P.map prM++[.tup [.int 0,.int 0]])]:=⟨_,rfl⟩
 have f9:zUP (LX sc ts (some (qM hs as)) (some (.loc 3)) (some (.loc 4))) S5=.ok (.next (LX sc ts (some (qM hs as)) (some (.loc 3)) (some (.loc 4)))) S6:=by unfold zUP;simp? [jO h45,tup2,zBQ h45 (show(P.map prM).length<1000000 by rw [lM];omega)];rw [hS6,hS5, <-hl4,xT]
 have h36:(S6++[.lst (P.map prM)])[3]? =some (.lst (P.map prM)):=by rw [hS6];exact zDJ (zDJ h34)
 have hs2:zW 2 (zI 4) [.new (P.map prM),.val (.loc 3)] S6=.ok (.val (.bl true)) S6:=zFB (T:=[.lst (P.map prM)]) rfl (by rw [show zR [.new (P.map prM),.val (.loc 3)] S6=([.loc S6.length,.loc 3],S6++[.lst (P.map prM)])from rfl];exact zSV 1 (zL _ _) h36) (yBC _ _) (λl=>by simp);have f10:zPW (LX sc ts (some (qM hs as)) (some (.loc 3)) (some (.loc 4))) S6=.ok (.ret (.val (.bl true))) S6:=by unfold zPW;simp? [hsw,hs2]
 refine⟨S6,?_⟩;show xE (yIT (LW sc none none none none none none none) [])=_;unfold yIT;rw [zC f1,zC f2,zC f3,zC f4,zC f5,zC f6,zC f7,zC f8,zC f9,f10];rfl
section
variable{P:Program}{w:World}{K:Be}{mg:Aj}{base:Heap}
def top(i:Nat):Stmt:=PySem.Challenge.pw_mendsure_k62_who_sways_whom.main.body.getD i (.Pass ⟨0,0,0,0⟩)
abbrev zJZ:Stmt:=top 4
def zEG:FnScope zJX ["atoms"] (zH zJZ):=fsK (by decide+kernel)
def zXZ(D:DefM K mg "names_in" zJZ)(zEV:mg "list"=none):(CalM P w K mg base) "names_in" 1 1 ["atoms"] dB:=
 by have h:=okC (P:=P) (w:=w) (base:=base) D (λ_ _ _ _ _ _ us hl=>match us,hl with |[_],_=>rfl) λf fd F=>okM (k:=0) _ F zEG λcdv A outer s H E hr=>(zG (zM 1 zEG.nd zOV) (zG (xH PassesOwn.never rfl (ySC (zA 0)) (zT 2 zEG.nd) (zK (xH PassesOwn.never rfl (zOL (zV (zA 2) zD)) (zT 3 zEG.nd) (zK (wP (zDU hr.units (zV (zA 3) zD) (zEI [118,97,114])) (zK (zFY zEX (zNU (zA 1) (zV (zA 3) zD)))) xA))))) (zK (yC (jK zPB (zWL rfl) rfl zEV zNQ (zB (zA 1) zE))))))
    exact h
abbrev gD:Stmt:=top 6
def wB:FnScope zBC ["question"] (zH gD):=fsK (by decide+kernel)
def zIL(D:DefM K mg "check_tables_once" gD)(jG:mg "enumerate"=none):(CalM P w K mg base) "check_tables_once" 1 1 ["question"] wN:=
 by have h:=okC (P:=P) (w:=w) (base:=base) D (λ_ _ _ _ _ _ us hl=>match us,hl with |[_],_=>rfl) λf fd F=>okM (k:=0) _ F wB λcdv A outer s H E hr=>(zG (zM 1 wB.nd zOV) (zK (xH PassesOwn.never rfl (yBF rfl jG (zB (zV (zA 0) zD) zE)) (zHN (n:=2) rfl (wL (zT 2 wB.nd) (wL (zT 3 wB.nd) zHM))) (zG (wP (ySK (zV (zA 3) zD) (zA 1)) (zK yGP) xA) (zK (zFY zEX (zNU (zA 1) (zV (zA 3) zD))))))))
    exact h
abbrev zBS:Stmt:=top 7
def zQZ:FnScope ["question","atom"] ["question","atom"] (zH zBS):=fsK (by decide+kernel)
def zRA(D:DefM K mg "free_names" zBS)(yAI:(CalM P w K mg base) "names_in" 1 1 ["atoms"] dB):(CalM P w K mg base) "free_names" 2 2 ["question","atom"] xK:=
 by have h:=okC (P:=P) (w:=w) (base:=base) D (λ_ _ _ _ _ _ us hl=>match us,hl with |[_,_],_=>rfl) λf fd F=>okM (k:=1) _ F zQZ λcdv A outer s H E hr=>(zK (yC (kS (zH zBS) ["question","atom"] ["name"] [0] (wM (zO yAI (hr.mono (by decide)) rfl (zB (kK (zB (zA 1) zE)) zE))) rfl (λ_ _ _ _ hN=>(xI 0 hN)) (λ_ _ _ _=>(bK (zAA hr.units (zA 0) (zV (zA 1) zD)))) (λ_ _ _ _=>(zA 0)))))
    exact h
abbrev zIM:Stmt:=top 8
def zLD:FnScope zMV ["tables","question","atom"] (zH zIM):=fsK (by decide+kernel)
def zUZ(D:DefM K mg "key_names" zIM)(cV:(CalM P w K mg base) "free_names" 2 2 ["question","atom"] xK):(CalM P w K mg base) "key_names" 3 3 ["tables","question","atom"] bC:=
 by have h:=okC (P:=P) (w:=w) (base:=base) D (λ_ _ _ _ _ _ us hl=>match us,hl with |[_,_,_],_=>rfl) λf fd F=>okM (k:=2) _ F zLD λcdv A outer s H E hr=>(zG (zM 3 zLD.nd (zV (zV (zA 0) (zV (zA 2) zD)) zD)) (zK (yC (zO cV (hr.mono (by decide)) rfl (zB (zA 1) (zB (bH (zB (zV (zA 2) zD) (zB (gY (zV (zA 2) zD) wX (wY (zA 3))) zE))) zE))))))
    exact h
abbrev nN:Stmt:=top 9
def jE:FnScope zCC ["tables","question","place"] (zH nN):=fsK (by decide+kernel)
def zYA(D:DefM K mg "known_at" nN)(zNB:(CalM P w K mg base) "key_names" 3 3 ["tables","question","atom"] bC)(zMP:mg "dict"=none)(xV:mg "len"=none)(zYF:mg "all"=none)(cV:(CalM P w K mg base) "free_names" 2 2 ["question","atom"] xK):(CalM P w K mg base) "known_at" 4 3 ["tables","question","place"] zGM:=
 by have h:=okC (P:=P) (w:=w) (base:=base) D (λ_ _ _ _ _ _ us hl=>match us,hl with |[_,_,_],_=>rfl) λf fd F=>okM (k:=3) _ F jE λcdv A outer s H E hr=>(zG (zM 3 jE.nd (zV (zA 1) zD)) (zG (zM 4 jE.nd (yQ (gY (zA 3) wX (wY (zA 2))) (gY (zA 3) (wY (yQ (zA 2) zD)) wX))) (zG (zM 5 jE.nd (jK zSJ (yBQ rfl) rfl zMP yBP (zB (kS (zH nN) zCC ["name"] [] (wM (zO zNB (hr.mono (by decide)) rfl (zB (zA 0) (zB (zA 1) (zB (zV (zA 3) (zA 2)) zE))))) rfl (λ_ _ _ _ hN=>(xI 0 hN)) (λ_ _ _ _=>zDR) (λ_ _ _ _=>(bH (zB (zA 0) (zB zEX zE))))) zE))) (zG (zM 6 jE.nd yQX) (zG (zVU 10000 PassesOwn.never (yOV hr.units (zA 6) (zP zSM yBS rfl xV kM (zB (zA 5) zE))) (zG (zM 6 jE.nd (zP zSM yBS rfl xV kM (zB (zA 5) zE))) (zK (xH PassesOwn.never rfl (zOL (zA 4)) (zT 7 jE.nd) (zK (wP (kE (zP zTG (yRE rfl) rfl zYF yRF (zB (kS (zH nN) zCC ["name"] [5] (wM (zO zNB (hr.mono (by decide)) rfl (zB (zA 0) (zB (zA 1) (zB (zA 7) zE))))) rfl (λ_ _ _ _ hN=>(xI 0 hN)) (λ_ _ _ _=>zDR) (λ_ _ _ _=>(ySJ (zA 0) (zA 1)))) zE))) (zK (kQ (yNH (zA 5) (zB (jK zSJ (yBQ rfl) rfl zMP yBP (zB (kS (zH nN) zCC ["name"] [] (wM (zO cV (hr.mono (by decide)) rfl (zB (zA 1) (zB (zA 7) zE)))) rfl (λ_ _ _ _ hN=>(xI 0 hN)) (λ_ _ _ _=>zDR) (λ_ _ _ _=>(bH (zB (zA 0) (zB zEX zE))))) zE)) zE)))) xA)))))) (zK (yC (zA 5))))))))
    exact h
abbrev jQ:Stmt:=top 10
def zLE:FnScope ["some","others"] ["some","others"] (zH jQ):=fsK (by decide+kernel)
def zLF(D:DefM K mg "have_in_common" jQ)(zYC:mg "any"=none):(CalM P w K mg base) "have_in_common" 1 2 ["some","others"] jN:=
 by have h:=okC (P:=P) (w:=w) (base:=base) D (λ_ _ _ _ _ _ us hl=>match us,hl with |[_,_],_=>rfl) λf fd F=>okM (k:=0) _ F zLE λcdv A outer s H E hr=>(zK (yC (zP zUA (ySL rfl) rfl zYC yRG (zB (kS (zH jQ) ["some","others"] ["name"] [1] (wM (zA 0)) rfl (λ_ _ _ _ hN=>(xI 0 hN)) (λ_ _ _ _=>zDR) (λ_ _ _ _=>(pm_in hr.units (zA 0) (zA 1)))) zE))))
    exact h
abbrev gR:Stmt:=top 11
def xU:FnScope zEJ ["tables","question","place"] (zH gR):=fsK (by decide+kernel)
def zQH(D:DefM K mg "swayed_from" gR)(yAH:(CalM P w K mg base) "known_at" 4 3 ["tables","question","place"] zGM)(cV:(CalM P w K mg base) "free_names" 2 2 ["question","atom"] xK)(zZ:mg "range"=none)(xV:mg "len"=none)(zMO:(CalM P w K mg base) "have_in_common" 1 2 ["some","others"] jN)(zEV:mg "list"=none):(CalM P w K mg base) "swayed_from" 5 3 ["tables","question","place"] nT:=
 by have h:=okC (P:=P) (w:=w) (base:=base) D (λ_ _ _ _ _ _ us hl=>match us,hl with |[_,_,_],_=>rfl) λf fd F=>okM (k:=4) _ F xU λcdv A outer s H E hr=>(zG (zM 3 xU.nd (zO yAH (hr.mono (by decide)) rfl (zB (zA 0) (zB (zA 1) (zB (zA 2) zE))))) (zG (zKF 4 xU.nd (zH gR) zEJ ["atom"] [1,3] (zOL (zV (zA 1) zD)) rfl (λ_ _ _ _ hN=>(xI 0 hN)) (λ_ _ _ _=>zDR) (λ_ _ _ _=>(kS (rlS ({kind:=PySem.ScopeKind.function,names:=[(PySem.Str.ofString ".0",PySem.NameKind.local),(PySem.Str.ofString "atom",PySem.NameKind.local),(PySem.Str.ofString "free_names",PySem.NameKind.globalImplicit),(PySem.Str.ofString "learnt",PySem.NameKind.free),(PySem.Str.ofString "question",PySem.NameKind.free)],isGenerator:=false,isCoroutine:=false,more:=[]:PySem.Scope}) (zH gR)) ["atom","question","learnt"] ["name"] [2] (wM (zO cV (hr.mono (by decide)) rfl (zB (zA 1) (zB (zA 0) zE)))) rfl (λ_ _ _ _ hN=>(xI 0 hN)) (λ_ _ _ _=>(bK (zSH (zA 0) (zA 1)))) (λ_ _ _ _=>(zA 0))))) (zG (zM 5 xU.nd (yEV (zA 2) zEX)) (zG (zM 6 xU.nd (kK (zB (zA 2) zE))) (zG (zVU 10000 PassesOwn.never (kE (zA 6)) (zG (zM 7 xU.nd (zV (zA 4) (yNK (zA 6)))) (zK (xH PassesOwn.never rfl (yT rfl zZ (zB (zP yX jV rfl xV kM (zB (zA 4) zE)) zE)) (zT 8 xU.nd) (zK (wP (zOK (zJU (zSH (zA 8) (zA 5)) (zFW (kE (zO zMO (hr.mono (by decide)) rfl (zB (zA 7) (zB (zV (zA 4) (zA 8)) zE))))))) (zG (zFY zEX (zNU (zA 5) (zA 8))) (zK (kQ (jL (zA 6) (zB (zA 8) zE))))) xA)))))) (zK (yC (jK zPB (zWL rfl) rfl zEV zNQ (zB (zA 5) zE)))))))))
    exact h
abbrev zOC:Stmt:=top 12
def zQI:FnScope zUF ["tables","question"] (zH zOC):=fsK (by decide+kernel)
def yKU(D:DefM K mg "sways" zOC)(zJN:(CalM P w K mg base) "check_tables_once" 1 1 ["question"] wN)(zZ:mg "range"=none)(xV:mg "len"=none)(zRI:(CalM P w K mg base) "swayed_from" 5 3 ["tables","question","place"] nT)(wW:mg "sorted"=none):(CalM P w K mg base) "sways" 6 2 ["tables","question"] zJH:=
 by have h:=okC (P:=P) (w:=w) (base:=base) D (λ_ _ _ _ _ _ us hl=>match us,hl with |[_,_],_=>rfl) λf fd F=>okM (k:=5) _ F zQI λcdv A outer s H E hr=>(zG (kQ (zO zJN (hr.mono (by decide)) rfl (zB (zA 1) zE))) (zG (zM 2 zQI.nd (kK zE)) (zG (xH PassesOwn.never rfl (yT rfl zZ (zB (zP yX jV rfl xV kM (zB (zV (zA 1) zD) zE)) zE)) (zT 3 zQI.nd) (zK (kQ (yEN (zA 2) (zB (kS (zH zOC) zUF ["b"] [3] (wM (zO zRI (hr.mono (by decide)) rfl (zB (zA 0) (zB (zA 1) (zB (zA 3) zE))))) rfl (λ_ _ _ _ hN=>(xI 0 hN)) (λ_ _ _ _=>(bK (zVW hr.units (zA 0) (zA 1)))) (λ_ _ _ _=>(bH (zB (zA 1) (zB (zA 0) zE))))) zE))))) (zK (yC (zP (yEP hr.u128) yNE rfl wW zCB (zB (zA 2) zE)))))))
    exact h
abbrev zDK:Stmt:=top 14
def zNL:FnScope ["_law_script","_law_k"] ["_law_script","_law_k"] (zH zDK):=fsK (by decide+kernel)
def zNM(D:DefM K mg "_law_cell_at" zDK)(xV:mg "len"=none):(CalM P w K mg base) "_law_cell_at" 1 2 ["_law_script","_law_k"] yA:=
 by have h:=okC (P:=P) (w:=w) (base:=base) D (λ_ _ _ _ _ _ us hl=>match us,hl with |[_,_],_=>rfl) λf fd F=>okM (k:=0) _ F zNL λcdv A outer s H E hr=>(zG (wP (yOV hr.units (zA 1) (zP yX jV rfl xV kM (zB (zA 0) zE))) (zK (yC (zV (zA 0) (zA 1)))) xA) (zK (yC zD)))
    exact h
abbrev zDL:Stmt:=top 15
def yZ:FnScope zHX ["_law_rest"] (zH zDL):=fsK (by decide+kernel)
def zNN(D:DefM K mg "_law_name_in" zDL)(zZ:mg "range"=none):(CalM P w K mg base) "_law_name_in" 1 1 ["_law_rest"] wU:=
 by have h:=okC (P:=P) (w:=w) (base:=base) D (λ_ _ _ _ _ _ us hl=>match us,hl with |[_],_=>rfl) λf fd F=>okM (k:=0) _ F yZ λcdv A outer s H E hr=>(zG (zM 1 yZ.nd (zEI [97,98,99,100,101,102,103,104,105,106,107,108,109,110,111,112,113,114,115,116,117,118,119,120,121,122])) (zG (zM 2 yZ.nd (yQ zD (yF (zA 0) zD))) (zG (zM 0 yZ.nd (xG (zA 0) zD)) (zG (zM 3 yZ.nd (zEI [])) (zG (xH PassesOwn.never rfl (yT rfl zZ (zB (zA 2) zE)) (zT 4 yZ.nd) (zG (zM 3 yZ.nd (yQ (zA 3) (zV (zA 1) (yF (zA 0) zD)))) (zK (zM 0 yZ.nd (xG (zA 0) zD))))) (zK (yC (bH (zB (zA 3) (zB (zA 0) zE))))))))))
    exact h
abbrev kD:Stmt:=top 16
def zX:FnScope bN ["_law_rest","_law_many"] (zH kD):=fsK (by decide+kernel)
def zFT(D:DefM K mg "_law_words_by_digits" kD)(zZ:mg "range"=none)(zDM:(CalM P w K mg base) "_law_name_in" 1 1 ["_law_rest"] wU):(CalM P w K mg base) "_law_words_by_digits" 2 2 ["_law_rest","_law_many"] xL:=
 by have h:=okC (P:=P) (w:=w) (base:=base) D (λ_ _ _ _ _ _ us hl=>match us,hl with |[_,_],_=>rfl) λf fd F=>okM (k:=1) _ F zX λcdv A outer s H E hr=>(zG (zM 2 zX.nd (kK zE)) (zG (xH PassesOwn.never rfl (yT rfl zZ (zB (zA 1) zE)) (zT 3 zX.nd) (zG (zFY (zO zDM (hr.mono (by decide)) rfl (zB (zA 0) zE)) (zHN (n:=2) rfl (wL (zT 4 zX.nd) (wL (zT 0 zX.nd) zHM)))) (zG (xH PassesOwn.never rfl (yQZ (zEI [97,98,99,100,101,102,103,104,105,106])) (zT 5 zX.nd) (zK (wP (yOW hr.units (zA 4) (zA 2)) (zK (zM 4 zX.nd (yQ (gY (zA 4) wX (wY zD)) (zA 5)))) xA))) (zK (kQ (jL (zA 2) (zB (zA 4) zE))))))) (zK (yC (zA 2)))))
    exact h
abbrev zGS:Stmt:=top 17
def yG:FnScope zKS ["_law_cell","_law_many"] (zH zGS):=fsK (by decide+kernel)
def zRB(D:DefM K mg "_law_words" zGS)(zGV:(CalM P w K mg base) "_law_words_by_digits" 2 2 ["_law_rest","_law_many"] xL)(zZ:mg "range"=none):(CalM P w K mg base) "_law_words" 3 2 ["_law_cell","_law_many"] zBO:=
 by have h:=okC (P:=P) (w:=w) (base:=base) D (λ_ _ _ _ _ _ us hl=>match us,hl with |[_,_],_=>rfl) λf fd F=>okM (k:=2) _ F yG λcdv A outer s H E hr=>(zG (wP (zDU hr.units (yF (zA 0) zD) zD) (zK (yC (zO zGV (hr.mono (by decide)) rfl (zB (xG (zA 0) zD) (zB (zA 1) zE))))) xA) (zG (zM 2 yG.nd (zEI [97,98,99,100,101,102,103,104,105,106,107,108,109,110,111,112,113,114,115,116,117,118,119,120,121,122])) (zG (zM 0 yG.nd (yF (zBY (yF (zBY (zA 0) zD) zD) zD) zD)) (zG (zM 3 yG.nd (yQ zD (yF (zA 0) zD))) (zG (zM 4 yG.nd (yF (xG (zA 0) zD) (zA 3))) (zG (zM 5 yG.nd (kK zE)) (zG (xH PassesOwn.never rfl (yT rfl zZ (zB (zA 1) zE)) (zT 6 yG.nd) (zG (zM 7 yG.nd (zEI [])) (zG (xH PassesOwn.never rfl (yT rfl zZ (zB (zA 3) zE)) (zT 8 yG.nd) (zG (zM 9 yG.nd (yQ (xG (zA 0) (yQ zD (zBY zD (zA 8)))) (zBY (zA 8) (yF (xG (zA 0) zD) zD)))) (zG (wP (zDU hr.units (zA 8) (zA 4)) (zK (zM 9 yG.nd (yQ (zA 9) (zBY zD (zA 6))))) xA) (zK (zM 7 yG.nd (yQ (zA 7) (zV (zA 2) (yF (zA 9) zD)))))))) (zK (kQ (jL (zA 5) (zB (zA 7) zE))))))) (zG (wP (zDU hr.units (yF (xG (zA 0) zD) zD) zD) (zK (zFY (yQ (zV (zA 5) zD) (zV (zA 2) (yF (xG (zA 0) zD) zD))) (yRI (zA 5) zD))) xA) (zK (yC (zA 5)))))))))))
    exact h
abbrev zGT:Stmt:=top 18
def xM:FnScope zKT ["_law_cell","_law_many"] (zH zGT):=fsK (by decide+kernel)
def zRC(D:DefM K mg "_law_drawn" zGT)(zZ:mg "range"=none):(CalM P w K mg base) "_law_drawn" 1 2 ["_law_cell","_law_many"] xD:=
 by have h:=okC (P:=P) (w:=w) (base:=base) D (λ_ _ _ _ _ _ us hl=>match us,hl with |[_,_],_=>rfl) λf fd F=>okM (k:=0) _ F xM λcdv A outer s H E hr=>(zG (zM 2 xM.nd (kK zE)) (zG (wP (zDU hr.units (yF (zA 0) zD) zD) (zG (zM 3 xM.nd (xG (zA 0) zD)) (zG (xH PassesOwn.never rfl (yT rfl zZ (zB (zA 1) zE)) (zT 4 xM.nd) (zG (kQ (jL (zA 2) (zB (yF (zA 3) zD) zE))) (zK (zM 3 xM.nd (xG (zA 3) zD))))) (zK (yC (zA 2))))) xA) (zG (zM 5 xM.nd (yQ (yF (zA 0) zD) zD)) (zG (xH PassesOwn.never rfl (yT rfl zZ (zB (zA 1) zE)) (zT 4 xM.nd) (zG (zM 5 xM.nd (yF (yQ (yQ (zBY (zA 5) (zA 5)) (zBY zD (zA 5))) (zA 4)) zD)) (zK (kQ (jL (zA 2) (zB (xG (yF (zBY (zA 5) zD) zD) zD) zE)))))) (zK (yC (zA 2)))))))
    exact h
abbrev zEU:Stmt:=top 19
def jF:FnScope zJP ["_law_cell"] (zH zEU):=fsK (by decide+kernel)
def zQJ(D:DefM K mg "_law_tables" zEU)(zGW:(CalM P w K mg base) "_law_drawn" 1 2 ["_law_cell","_law_many"] xD)(zND:mg "int"=none)(zQM:mg "min"=none)(gV:mg "tuple"=none):(CalM P w K mg base) "_law_tables" 2 1 ["_law_cell"] nU:=
 by have h:=okC (P:=P) (w:=w) (base:=base) D (λ_ _ _ _ _ _ us hl=>match us,hl with |[_],_=>rfl) λf fd F=>okM (k:=1) _ F jF λcdv A outer s H E hr=>(zG (zM 1 jF.nd (zO zGW (hr.mono (by decide)) rfl (zB (zA 0) (zB zD zE)))) (zG (zM 2 jF.nd (kK zE)) (zG (xH PassesOwn.never rfl (wM (gY (zA 1) wX (wY (yQ zD (yF (zV (zA 1) zD) zD))))) (zT 3 jF.nd) (zG (zM 4 jF.nd (yQ (yQ zD (yF (zA 3) zD)) (jK zVZ yRH rfl zND zZD (zB (yGZ hr.units (yF (xG (zA 3) zD) zD) zD) zE)))) (zK (kQ (jL (zA 2) (zB (bH (zB (zA 4) (zB (zP (zRN rfl) yIC rfl zQM yID (zB (zA 4) (zB (zV (kK (zB zD (zB zD (zB zD (zB zD (zB zD (zB zD zE))))))) (yF (xG (zA 3) zD) zD)) zE))) zE))) zE)))))) (zK (yC (jK nO zKJ rfl gV zFA (zB (zA 2) zE)))))))
    exact h
abbrev nX:Stmt:=top 20
def zY:FnScope zEK ["_law_cell","_law_words_here"] (zH nX):=fsK (by decide+kernel)
def zQK(D:DefM K mg "_law_values" nX)(zZ:mg "range"=none)(zDM:(CalM P w K mg base) "_law_name_in" 1 1 ["_law_rest"] wU)(xV:mg "len"=none)(zQM:mg "min"=none):(CalM P w K mg base) "_law_values" 2 2 ["_law_cell","_law_words_here"] nV:=
 by have h:=okC (P:=P) (w:=w) (base:=base) D (λ_ _ _ _ _ _ us hl=>match us,hl with |[_,_],_=>rfl) λf fd F=>okM (k:=1) _ F zY λcdv A outer s H E hr=>(zG (wP (zDU hr.units (yF (zA 0) zD) zD) (zG (zM 2 zY.nd (xG (zA 0) zD)) (zG (zM 3 zY.nd (yQ zD (yF (zA 2) zD))) (zG (zM 2 zY.nd (xG (zA 2) zD)) (zG (zM 4 zY.nd (kK zE)) (zG (xH PassesOwn.never rfl (yT rfl zZ (zB (zA 3) zE)) (zT 5 zY.nd) (zG (zFY (zO zDM (hr.mono (by decide)) rfl (zB (xG (zA 2) zD) zE)) (zHN (n:=2) rfl (wL (zT 6 zY.nd) (wL (zT 2 zY.nd) zHM)))) (zG (wP (zDU hr.units (yF (zA 2) zD) zD) (zG (zM 6 zY.nd (yQ (zLO (yF (xG (zA 2) zD) (zLO (zBY zD (zOO zD zD)) zD)) (zOO zD zD)) zD)) (zK (zM 2 zY.nd (xG (zA 2) (zLO (zBY zD (zOO zD zD)) zD))))) xA) (zK (wP (zAA hr.units (zA 6) (zA 4)) (zK (kQ (jL (zA 4) (zB (zA 6) zE)))) xA))))) (zK (yC (yQ (zA 4) (gY (kS (zH nX) zEK ["_law_word"] [4] (wM (zA 1)) rfl (λ_ _ _ _ hN=>(xI 0 hN)) (λ_ _ _ _=>(bK (zAA hr.units (zA 0) (zA 1)))) (λ_ _ _ _=>(zA 0))) wX (wY (zLO zD (zP (zRN rfl) yIC rfl zQM yID (zB zD (zB (zP yX jV rfl xV kM (zB (zA 4) zE)) zE)))))))))))))) xA) (zG (zM 7 zY.nd (yQ (zLO (yF (zA 0) (zLO (zBY zD (zOO zD zD)) zD)) (zOO zD zD)) zD)) (zG (zM 8 zY.nd (kK (zB (zA 7) (zB (yQ (zA 7) zD) (zB (zV (zA 1) zD) (zB (zV (zA 1) zD) zE)))))) (zG (zM 9 zY.nd (yF (xG (zA 0) zD) zD)) (zK (yC (gY (yQ (gY (zA 8) (wY (zA 9)) wX) (gY (zA 8) wX (wY (zA 9)))) wX (wY (yQ zD (yF (zA 0) zD))))))))))
    exact h
abbrev zIN:Stmt:=top 21
def zVA:FnScope zAD zAD (zH zIN):=fsK (by decide+kernel)
def zVB(D:DefM K mg "_law_term" zIN)(xV:mg "len"=none):(CalM P w K mg base) "_law_term" 1 3 zAD zEB:=
 by have h:=okC (P:=P) (w:=w) (base:=base) D (λ_ _ _ _ _ _ us hl=>match us,hl with |[_,_,_],_=>rfl) λf fd F=>okM (k:=0) _ F zVA λcdv A outer s H E hr=>(zG (wP (zDU hr.units (yF (zA 0) zD) zD) (zK (yC (bH (zB (zEI [105,115]) (zB (zV (zA 2) (yF (xG (zA 0) zD) (zP yX jV rfl xV kM (zB (zA 2) zE)))) zE))))) xA) (zK (yC (bH (zB (zEI [118,97,114]) (zB (zV (zA 1) (yF (xG (zA 0) zD) (zP yX jV rfl xV kM (zB (zA 1) zE)))) zE))))))
    exact h
abbrev zBA:Stmt:=top 22
def wV:FnScope zHD ["_law_atoms"] (zH zBA):=fsK (by decide+kernel)
def zMM(D:DefM K mg "_law_standing" zBA)(wW:mg "sorted"=none):(CalM P w K mg base) "_law_standing" 1 1 ["_law_atoms"] gU:=
 by have h:=okC (P:=P) (w:=w) (base:=base) D (λ_ _ _ _ _ _ us hl=>match us,hl with |[_],_=>rfl) λf fd F=>okM (k:=0) _ F wV λcdv A outer s H E hr=>(zG (zM 1 wV.nd zOV) (zG (xH PassesOwn.never rfl (wM (zA 0)) (zHN (n:=2) rfl (wL (zT 2 wV.nd) (wL (zT 3 wV.nd) zHM))) (zK (xH PassesOwn.never rfl (zOL (zA 3)) (zT 4 wV.nd) (zK (wP (zDU hr.units (zV (zA 4) zD) (zEI [118,97,114])) (zK (zFY zEX (zNU (zA 1) (zV (zA 4) zD)))) xA))))) (zK (yC (zP zZR (yIL rfl) rfl wW zCB (zB (zA 1) zE))))))
    exact h
abbrev wA:Stmt:=top 23
def yL:FnScope kF ["_law_cells","_law_tables_here","_law_names_here","_law_values_here"] (zH wA):=fsK (by decide+kernel)
def zMN(D:DefM K mg "_law_question" wA)(xV:mg "len"=none)(zZ:mg "range"=none)(zGW:(CalM P w K mg base) "_law_drawn" 1 2 ["_law_cell","_law_many"] xD)(zYB:(CalM P w K mg base) "_law_term" 1 3 zAD zEB)(gV:mg "tuple"=none)(zNO:(CalM P w K mg base) "_law_standing" 1 1 ["_law_atoms"] gU):(CalM P w K mg base) "_law_question" 2 4 ["_law_cells","_law_tables_here","_law_names_here","_law_values_here"] kH:=
 by have h:=okC (P:=P) (w:=w) (base:=base) D (λ_ _ _ _ _ _ us hl=>match us,hl with |[_,_,_,_],_=>rfl) λf fd F=>okM (k:=1) _ F yL λcdv A outer s H E hr=>(zG (zM 4 yL.nd (yQ zD (yF (zV (zA 0) zD) (zP yX jV rfl xV kM (zB (zA 1) zE))))) (zG (zKF 5 yL.nd (zH wA) kF ["_law_k"] [0,1] (yT rfl zZ (zB (zP yX jV rfl xV kM (zB (zA 1) zE)) zE)) rfl (λ_ _ _ _ hN=>(xI 0 hN)) (λ_ _ _ _=>zDR) (λ_ _ _ _=>(yF (yQ (xG (zV (zA 1) zD) zD) (zA 0)) (zP yX jV rfl xV kM (zB (zA 2) zE))))) (zG (wP (zDU hr.units (yF (xG (zV (zA 0) zD) zD) zD) zD) (zK (kQ (zOR (zA 5)))) xA) (zG (zM 6 yL.nd (kK zE)) (zG (xH PassesOwn.never rfl (yT rfl zZ (zB (zA 4) zE)) (zT 7 yL.nd) (zG (zM 8 yL.nd (zO zGW (hr.mono (by decide)) rfl (zB (zV (zA 0) (yQ zD (zA 7))) (zB zD zE)))) (zG (zM 9 yL.nd (zV (zV (zA 1) (zV (zA 5) (zA 7))) zD)) (zK (kQ (jL (zA 6) (zB (bH (zB (zV (zA 5) (zA 7)) (zB (jK nO zKJ rfl gV zFA (zB (kS (zH wA) kF ["_law_number"] [2,3] (wM (gY (zA 8) wX (wY (zA 9)))) rfl (λ_ _ _ _ hN=>(xI 0 hN)) (λ_ _ _ _=>zDR) (λ_ _ _ _=>(zO zYB (hr.mono (by decide)) rfl (zB (zA 0) (zB (zA 1) (zB (zA 2) zE)))))) zE)) zE))) zE))))))) (zG (zM 10 yL.nd (zO zNO (hr.mono (by decide)) rfl (zB (zA 6) zE))) (zG (zKF 11 yL.nd (zH wA) kF ["_law_k"] [0,10] (yT rfl zZ (zB (zP yX jV rfl xV kM (zB (zA 10) zE)) zE)) rfl (λ_ _ _ _ hN=>(xI 0 hN)) (λ_ _ _ _=>(bK (zDU hr.units (yF (xG (zV (zA 1) zD) (zV (kK (zB zD (zB zD (zB zD (zB zD zE))))) (zA 0))) zD) zD))) (λ_ _ _ _=>(zV (zA 2) (zA 0)))) (zG (wP (zDU hr.units (yF (xG (zV (zA 0) zD) zD) zD) zD) (zK (kQ (zOR (zA 11)))) xA) (zK (yC (bH (zB (jK nO zKJ rfl gV zFA (zB (gY (zA 11) wX (wY zD)) zE)) (zB (jK nO zKJ rfl gV zFA (zB (zA 6) zE)) zE)))))))))))))
    exact h
abbrev zIO:Stmt:=top 24
def zGU:FnScope ["_law_found","_law_due","_law_one","_law_other"] ["_law_found","_law_due"] (zH zIO):=fsK (by decide+kernel)
def zVC(D:DefM K mg "_law_same" zIO)(zSW:mg "str"=none)(yM:mg "isinstance"=none)(zND:mg "int"=none)(zQN:mg "bool"=none)(zEV:mg "list"=none)(gV:mg "tuple"=none)(xV:mg "len"=none)(zYD:mg "zip"=none):(CalM P w K mg base) "_law_same" 4 2 ["_law_found","_law_due"] (zI 4):=by
 obtain⟨f,fd,hself,F⟩:=D.ex;have kself:=F.kp;have bself:=F.binds (ps:=["_law_found","_law_due"]) (λ_ _ _ _ _ _ us hl=>match us,hl with |[_,_],_=>rfl)
 have all: ∀n,FnOk P w K mg base CX0 (0+n) f fd ["_law_found","_law_due"] (spM ⟨K,mg,P,w⟩ 2 (zI n)):=by
  intro n
  induction n with
  |zero=>exact fn_no
  |succ n ih0=>
   have ih: ∀m,m=n->FnOk P w K mg base CX0 (0+m) f fd ["_law_found","_law_due"] (spM ⟨K,mg,P,w⟩ 2 (zI m)):=λm e=>e▸ih0;have h:=okM (P:=P) (w:=w) (mg:=mg) (base:=base) (k:=0+n) _ F zGU λcdv A outer s H E hr=>(zG (wP (tm_is (zA 1) yGK) (zK (yC (pm_is (zA 0) yGK))) xA) (zG (wP (kE (zP bL zFZ rfl yM xB (zB (zA 1) (zB (zKD rfl zSW yHD) zE)))) (zK (yC (zYU (zP bL zFZ rfl yM xB (zB (zA 0) (zB (zKD rfl zSW yHD) zE))) (yGN (yGZ hr.units (zA 0) (zA 1)))))) xA) (zG (wP (kE (zP bL zFZ rfl yM xB (zB (zA 1) (zB (zKD rfl zND zZD) zE)))) (zK (yC (zYU (zP bL zFZ rfl yM xB (zB (zA 0) (zB (zKD rfl zND zZD) zE))) (zYU (yQY (zP bL zFZ rfl yM xB (zB (zA 0) (zB (zKD rfl zQN yMG) zE)))) (yGN (yGZ hr.units (zA 0) (zA 1))))))) xA) (zG (wP (zOK (zJU (kE (zP bL zFZ rfl yM xB (zB (zA 1) (zB (zKD rfl zEV zNQ) zE)))) (zFW (zTH (kE (zP bL zFZ rfl yM xB (zB (zA 0) (zB (zKD rfl zEV zNQ) zE)))))))) (zK (yC zEX)) xA) (zG (wP (zOK (zJU (kE (zP bL zFZ rfl yM xB (zB (zA 1) (zB (zKD rfl gV zFA) zE)))) (zFW (zTH (kE (zP bL zFZ rfl yM xB (zB (zA 0) (zB (zKD rfl gV zFA) zE)))))))) (zK (yC zEX)) xA) (zG (wP (zVW hr.units (zP yX jV rfl xV kM (zB (zA 0) zE)) (zP yX jV rfl xV kM (zB (zA 1) zE))) (zK (yC zEX)) xA) (zG (xH PassesOwn.never rfl (yRL rfl zYD (zB (zA 0) (zB (zA 1) zE))) (zHN (n:=2) rfl (wL (zT 2 zGU.nd) (wL (zT 3 zGU.nd) zHM))) (zK (wP (zTH (kE (yAV (ih n rfl) (hr.mono (by omega)) rfl hself kself bself (zB (zA 2) (zB (zA 3) zE))))) (zK (yC zEX)) xA))) (zK (yC zEX)))))))))
   exact h
 exact⟨f,fd,all 4,hself,kself,bself⟩
abbrev zBT:Stmt:=top 25
def zRD:FnScope kA kA (zH zBT):=fsK (by decide+kernel)
def zRE(D:DefM K mg "_law_names" zBT)(wW:mg "sorted"=none)(zYE:mg "set"=none):(CalM P w K mg base) "_law_names" 1 2 kA yK:=
 by have h:=okC (P:=P) (w:=w) (base:=base) D (λ_ _ _ _ _ _ us hl=>match us,hl with |[_,_],_=>rfl) λf fd F=>okM (k:=0) _ F zRD λcdv A outer s H E hr=>(zK (yC (yFC rfl rfl wW rfl zYE (zB (kS (zH zBT) kA ["_law_term_here"] [1] (zOL (zV (zA 0) zD)) rfl (λ_ _ _ _ hN=>(xI 0 hN)) (λ_ _ _ _=>(bK (zOK (zJU (zDU hr.units (zV (zA 0) zD) (zEI [118,97,114])) (zFW (zAA hr.units (zV (zA 0) zD) (zA 1))))))) (λ_ _ _ _=>(zV (zA 0) zD))) zE))))
    exact h
abbrev cT:Stmt:=top 26
def yU:FnScope zBJ ["_law_tables_here","_law_question_here","_law_number"] (zH cT):=fsK (by decide+kernel)
def zRF(D:DefM K mg "_law_known" cT)(jR:(CalM P w K mg base) "_law_names" 1 2 kA yK)(zZ:mg "range"=none)(xV:mg "len"=none)(jG:mg "enumerate"=none)(wW:mg "sorted"=none):(CalM P w K mg base) "_law_known" 2 3 ["_law_tables_here","_law_question_here","_law_number"] zBP:=
 by have h:=okC (P:=P) (w:=w) (base:=base) D (λ_ _ _ _ _ _ us hl=>match us,hl with |[_,_,_],_=>rfl) λf fd F=>okM (k:=1) _ F yU λcdv A outer s H E hr=>(zG (zFY (zA 1) (zHN (n:=2) rfl (wL (zT 3 yU.nd) (wL (zT 4 yU.nd) zHM)))) (zG (zM 5 yU.nd (zV (zV (zA 0) (zV (zV (zA 4) (zA 2)) zD)) zD)) (zG (zM 6 yU.nd (zO jR (hr.mono (by decide)) rfl (zB (bH (zB zD (zB (gY (zV (zV (zA 4) (zA 2)) zD) wX (wY (zA 5))) zE))) (zB (zA 3) zE)))) (zG (xH PassesOwn.never rfl (yT rfl zZ (zB (zP yX jV rfl xV kM (zB (zA 4) zE)) zE)) (zT 7 yU.nd) (zK (xH PassesOwn.never rfl (yBF rfl jG (zB (zA 4) zE)) (zHN (n:=2) rfl (wL (zT 8 yU.nd) (wL (zT 9 yU.nd) zHM))) (zG (zM 10 yU.nd (zO jR (hr.mono (by decide)) rfl (zB (bH (zB zD (zB (gY (zV (zA 9) zD) wX (wY (zV (zV (zA 0) (zV (zA 9) zD)) zD))) zE))) (zB (zA 3) zE)))) (zK (wP (zOK (zJU (zVW hr.units (zA 8) (zA 2)) (zFW (zDU hr.units (kS (zH cT) zBJ ["_law_name"] [6] (wM (zA 10)) rfl (λ_ _ _ _ hN=>(xI 0 hN)) (λ_ _ _ _=>(bK (zAA hr.units (zA 0) (zA 1)))) (λ_ _ _ _=>(zA 0))) (kK zE))))) (zK (zM 6 yU.nd (yQ (zA 6) (kS (zH cT) zBJ ["_law_name"] [6] (wM (zO jR (hr.mono (by decide)) rfl (zB (zA 9) (zB (zA 3) zE)))) rfl (λ_ _ _ _ hN=>(xI 0 hN)) (λ_ _ _ _=>(bK (zAA hr.units (zA 0) (zA 1)))) (λ_ _ _ _=>(zA 0)))))) xA)))))) (zK (yC (zP zZZ yIR rfl wW zCB (zB (zA 6) zE))))))))
    exact h
abbrev nY:Stmt:=top 27
def zIP:FnScope zEL ["_law_atoms","_law_head","_law_mine","_law_one","_law_other"] (zH nY):=fsK (by decide+kernel)
def zQL(D:DefM K mg "_law_linked" nY)(jR:(CalM P w K mg base) "_law_names" 1 2 kA yK):(CalM P w K mg base) "_law_linked" 2 5 ["_law_atoms","_law_head","_law_mine","_law_one","_law_other"] nW:=
 by have h:=okC (P:=P) (w:=w) (base:=base) D (λ_ _ _ _ _ _ us hl=>match us,hl with |[_,_,_,_,_],_=>rfl) λf fd F=>okM (k:=1) _ F zIP λcdv A outer s H E hr=>(zG (zM 5 zIP.nd (zO jR (hr.mono (by decide)) rfl (zB (zV (zA 0) (zA 4)) (zB (zA 1) zE)))) (zK (yC (pm_ne hr.units (kS (zH nY) zEL ["_law_name"] [2,5] (wM (zO jR (hr.mono (by decide)) rfl (zB (zV (zA 0) (zA 3)) (zB (zA 1) zE)))) rfl (λ_ _ _ _ hN=>(xI 0 hN)) (λ_ _ _ _=>(bK (zOK (zJU (yOW hr.units (zA 0) (zA 2)) (zFW (zAA hr.units (zA 0) (zA 1))))))) (λ_ _ _ _=>(zA 0))) (kK zE)))))
    exact h
abbrev cU:Stmt:=top 28
def yH:FnScope zBK ["_law_tables_here","_law_question_here"] (zH cU):=fsK (by decide+kernel)
def zRG(D:DefM K mg "_law_sways" cU)(zZ:mg "range"=none)(xV:mg "len"=none)(zVE:(CalM P w K mg base) "_law_known" 2 3 ["_law_tables_here","_law_question_here","_law_number"] zBP)(zRJ:(CalM P w K mg base) "_law_linked" 2 5 ["_law_atoms","_law_head","_law_mine","_law_one","_law_other"] nW)(wW:mg "sorted"=none):(CalM P w K mg base) "_law_sways" 3 2 ["_law_tables_here","_law_question_here"] cR:=
 by have h:=okC (P:=P) (w:=w) (base:=base) D (λ_ _ _ _ _ _ us hl=>match us,hl with |[_,_],_=>rfl) λf fd F=>okM (k:=2) _ F yH λcdv A outer s H E hr=>(zG (zFY (zA 1) (zHN (n:=2) rfl (wL (zT 2 yH.nd) (wL (zT 3 yH.nd) zHM)))) (zG (zM 4 yH.nd (kK zE)) (zG (xH PassesOwn.never rfl (yT rfl zZ (zB (zP yX jV rfl xV kM (zB (zA 3) zE)) zE)) (zT 5 yH.nd) (zG (zM 6 yH.nd (zO zVE (hr.mono (by decide)) rfl (zB (zA 0) (zB (zA 1) (zB (zA 5) zE))))) (zG (zM 7 yH.nd (kK (zB (zA 5) zE))) (zG (xH PassesOwn.never rfl (yT rfl zZ (zB (zP yX jV rfl xV kM (zB (zA 3) zE)) zE)) (zT 8 yH.nd) (zK (xH PassesOwn.never rfl (yT rfl zZ (zB (zP yX jV rfl xV kM (zB (zA 3) zE)) zE)) (zT 9 yH.nd) (zG (zKF 10 yH.nd (zH cU) zBK ["_law_one"] [2,3,6,9] (wM (zA 7)) rfl (λ_ _ _ _ hN=>(xI 0 hN)) (λ_ _ _ _=>(bK (kE (zO zRJ (hr.mono (by decide)) rfl (zB (zA 2) (zB (zA 1) (zB (zA 3) (zB (zA 0) (zB (zA 4) zE))))))))) (λ_ _ _ _=>(zA 0))) (zK (wP (zOK (zJU (zAA hr.units (zA 9) (zA 7)) (zFW (zVW hr.units (zA 10) (kK zE))))) (zK (zM 7 yH.nd (yQ (zA 7) (kK (zB (zA 9) zE))))) xA)))))) (zK (zM 4 yH.nd (yQ (zA 4) (kS (zH cU) zBK ["_law_other"] [5] (wM (zP yEL yNC rfl wW zCB (zB (zA 7) zE))) rfl (λ_ _ _ _ hN=>(xI 0 hN)) (λ_ _ _ _=>(bK (zVW hr.units (zA 0) (zA 1)))) (λ_ _ _ _=>(bH (zB (zA 1) (zB (zA 0) zE)))))))))))) (zK (yC (zA 4))))))
    exact h
abbrev yDH:Stmt:=top 29
def zIQ:FnScope yIS ["_law_script"] (zH yDH):=fsK (by decide+kernel)
def yTF{f:Addr}{fd:FuncData}(F:Fun K "law" "law" yDH f fd)(zVD:(CalM P w K mg base) "_law_words" 3 2 ["_law_cell","_law_many"] zBO)(cW:(CalM P w K mg base) "_law_cell_at" 1 2 ["_law_script","_law_k"] yA)(zRH:(CalM P w K mg base) "_law_tables" 2 1 ["_law_cell"] nU)(zRK:(CalM P w K mg base) "_law_values" 2 2 ["_law_cell","_law_words_here"] nV)(zZ:mg "range"=none)(zNP:(CalM P w K mg base) "_law_question" 2 4 ["_law_cells","_law_tables_here","_law_names_here","_law_values_here"] kH)(zVF:(CalM P w K mg base) "_law_sways" 3 2 ["_law_tables_here","_law_question_here"] cR)(yDI:(CalM P w K mg base) "sways" 6 2 ["tables","question"] zJH)(zNC:(CalM P w K mg base) "_law_same" 4 2 ["_law_found","_law_due"] (zI 4)):FnOk P w K mg base CX0 7 f fd ["_law_script"] (spM ⟨K,mg,P,w⟩ 1 zWW):=
 by have h:=okM (P:=P) (w:=w) (mg:=mg) (base:=base) (k:=6) _ F zIQ λcdv A outer s H E hr=>(zG (zM 1 zIQ.nd (zO zVD (hr.mono (by decide)) rfl (zB (zO cW (hr.mono (by decide)) rfl (zB (zA 0) (zB zD zE))) (zB zD zE)))) (zG (zM 2 zIQ.nd (zO zRH (hr.mono (by decide)) rfl (zB (zO cW (hr.mono (by decide)) rfl (zB (zA 0) (zB zD zE))) zE))) (zG (zM 3 zIQ.nd (zO zRK (hr.mono (by decide)) rfl (zB (zO cW (hr.mono (by decide)) rfl (zB (zA 0) (zB zD zE))) (zB (gY (zA 1) (wY zD) wX) zE)))) (zG (zKF 4 zIQ.nd (zH yDH) yIS ["_law_k"] [0] (yT rfl zZ (zB zD zE)) rfl (λ_ _ _ _ hN=>(xI 0 hN)) (λ_ _ _ _=>zDR) (λ_ _ _ _=>(zO cW (hr.mono (by decide)) rfl (zB (zA 1) (zB (yQ zD (zA 0)) zE))))) (zG (zM 5 zIQ.nd (zO zNP (hr.mono (by decide)) rfl (zB (zA 4) (zB (zA 2) (zB (gY (zA 1) wX (wY zD)) (zB (zA 3) zE)))))) (zG (zM 6 zIQ.nd (zO zVF (hr.mono (by decide)) rfl (zB (zA 2) (zB (zA 5) zE)))) (zG (zM 7 zIQ.nd (zO yDI (hr.mono (by decide)) rfl (zB (zA 2) (zB (zA 5) zE)))) (zG (wP (zTH (kE (zO zNC (hr.mono (by decide)) rfl (zB (zA 7) (zB (zA 6) zE))))) (zK (yC zEX)) xA) (zG (kQ (jL (zA 7) (zB (bH (zB zD (zB zD zE))) zE))) (zK (yC (zO zNC (hr.mono (by decide)) rfl (zB (zO yDI (hr.mono (by decide)) rfl (zB (zA 2) (zB (zA 5) zE))) (zB (zA 6) zE))))))))))))))
    exact h
end
def all_mk{l:PySem.W.OpenLaw}{w:World}{K:Be}{h:Heap}{mg:Aj}{fa:Addr}(X:K.In h)(GG:h.Ns mainGlobals mg)(hfa:mg "law"=some (.ref fa))
  (D0:DefM K mg "names_in" zJZ)
  (D1:DefM K mg "check_tables_once" gD)
  (D2:DefM K mg "free_names" zBS)
  (D3:DefM K mg "key_names" zIM)
  (D4:DefM K mg "known_at" nN)
  (D5:DefM K mg "have_in_common" jQ)
  (D6:DefM K mg "swayed_from" gR)
  (D7:DefM K mg "sways" zOC)
  (D8:DefM K mg "_law_cell_at" zDK)
  (D9:DefM K mg "_law_name_in" zDL)
  (D10:DefM K mg "_law_words_by_digits" kD)
  (D11:DefM K mg "_law_words" zGS)
  (D12:DefM K mg "_law_drawn" zGT)
  (D13:DefM K mg "_law_tables" zEU)
  (D14:DefM K mg "_law_values" nX)
  (D15:DefM K mg "_law_term" zIN)
  (D16:DefM K mg "_law_standing" zBA)
  (D17:DefM K mg "_law_question" wA)
  (D18:DefM K mg "_law_same" zIO)
  (D19:DefM K mg "_law_names" zBT)
  (D20:DefM K mg "_law_known" cT)
  (D21:DefM K mg "_law_linked" nY)
  (D22:DefM K mg "_law_sways" cU)
  (D23:DefM K mg "law" yDH)
  (zYF:PySem.W.nsIn K mainGlobals "all"=some none)
  (zYC:PySem.W.nsIn K mainGlobals "any"=some none)
  (zQN:PySem.W.nsIn K mainGlobals "bool"=some none)
  (zMP:PySem.W.nsIn K mainGlobals "dict"=some none)
  (jG:PySem.W.nsIn K mainGlobals "enumerate"=some none)
  (zND:PySem.W.nsIn K mainGlobals "int"=some none)
  (yM:PySem.W.nsIn K mainGlobals "isinstance"=some none)
  (xV:PySem.W.nsIn K mainGlobals "len"=some none)
  (zEV:PySem.W.nsIn K mainGlobals "list"=some none)
  (zQM:PySem.W.nsIn K mainGlobals "min"=some none)
  (zZ:PySem.W.nsIn K mainGlobals "range"=some none)
  (zYE:PySem.W.nsIn K mainGlobals "set"=some none)
  (wW:PySem.W.nsIn K mainGlobals "sorted"=some none)
  (zSW:PySem.W.nsIn K mainGlobals "str"=some none)
  (gV:PySem.W.nsIn K mainGlobals "tuple"=some none)
  (zYD:PySem.W.nsIn K mainGlobals "zip"=some none)
  : ∃fd:FuncData,(∀(s:Shared)(v:Value),BindsTo s fd ⟨[v],[]⟩ [("_law_script",v)])/\ ∀base:Heap,K.In base->base.Ns mainGlobals mg->FnOk l.prog w K mg base CX0 7 fa fd ["_law_script"] (zRY K zWW):=by
 have Z_all:=PySem.W.mg_none_of X GG zYF;have Z_any:=PySem.W.mg_none_of X GG zYC;have Z_bool:=PySem.W.mg_none_of X GG zQN;have Z_dict:=PySem.W.mg_none_of X GG zMP;have Z_enumerate:=PySem.W.mg_none_of X GG jG;have Z_int:=PySem.W.mg_none_of X GG zND;have Z_isinstance:=PySem.W.mg_none_of X GG yM;have Z_len:=PySem.W.mg_none_of X GG xV;have Z_list:=PySem.W.mg_none_of X GG zEV;have Z_min:=PySem.W.mg_none_of X GG zQM;have Z_range:=PySem.W.mg_none_of X GG zZ;have Z_set:=PySem.W.mg_none_of X GG zYE;have Z_sorted:=PySem.W.mg_none_of X GG wW;have Z_str:=PySem.W.mg_none_of X GG zSW;have Z_tuple:=PySem.W.mg_none_of X GG gV;have Z_zip:=PySem.W.mg_none_of X GG zYD;refine ySH D23 hfa (λ_ _ _ _ _ _ s v=>.of_eq rfl) λbase f fd F=>?_;have G0:=zXZ (P:=l.prog) (w:=w) (base:=base) D0 Z_list;have G1:=zIL (P:=l.prog) (w:=w) (base:=base) D1 Z_enumerate;have G2:=zRA (P:=l.prog) (w:=w) (base:=base) D2 G0;have G3:=zUZ (P:=l.prog) (w:=w) (base:=base) D3 G2;have G4:=zYA (P:=l.prog) (w:=w) (base:=base) D4 G3 Z_dict Z_len Z_all G2;have G5:=zLF (P:=l.prog) (w:=w) (base:=base) D5 Z_any;have G6:=zQH (P:=l.prog) (w:=w) (base:=base) D6 G4 G2 Z_range Z_len G5 Z_list;have G7:=yKU (P:=l.prog) (w:=w) (base:=base) D7 G1 Z_range Z_len G6 Z_sorted;have G8:=zNM (P:=l.prog) (w:=w) (base:=base) D8 Z_len;have G9:=zNN (P:=l.prog) (w:=w) (base:=base) D9 Z_range;have G10:=zFT (P:=l.prog) (w:=w) (base:=base) D10 Z_range G9;have G11:=zRB (P:=l.prog) (w:=w) (base:=base) D11 G10 Z_range;have G12:=zRC (P:=l.prog) (w:=w) (base:=base) D12 Z_range;have G13:=zQJ (P:=l.prog) (w:=w) (base:=base) D13 G12 Z_int Z_min Z_tuple;have G14:=zQK (P:=l.prog) (w:=w) (base:=base) D14 Z_range G9 Z_len Z_min;have G15:=zVB (P:=l.prog) (w:=w) (base:=base) D15 Z_len;have G16:=zMM (P:=l.prog) (w:=w) (base:=base) D16 Z_sorted;have G17:=zMN (P:=l.prog) (w:=w) (base:=base) D17 Z_len Z_range G12 G15 Z_tuple G16;have G18:=zVC (P:=l.prog) (w:=w) (base:=base) D18 Z_str Z_isinstance Z_int Z_bool Z_list Z_tuple Z_len Z_zip;have G19:=zRE (P:=l.prog) (w:=w) (base:=base) D19 Z_sorted Z_set;have G20:=zRF (P:=l.prog) (w:=w) (base:=base) D20 G19 Z_range Z_len Z_enumerate Z_sorted;have G21:=zQL (P:=l.prog) (w:=w) (base:=base) D21 G19;have G22:=zRG (P:=l.prog) (w:=w) (base:=base) D22 Z_range Z_len G20 G21 Z_sorted;exact yTF (P:=l.prog) (w:=w) (base:=base) F G11 G8 G13 G14 Z_range G17 G22 G7 G18
def walk{l:PySem.W.OpenLaw}{q:Program}{loose:Ai}{XP:(Str->Option Value)->Heap->Prop}{YP:World->Heap->Prop}{d:DefRec}{K:Params->PySem.W.Frag}(hn:l.most=some 63)(hdf:d.params.defaults=[])
  (hY: ∀(w:World)(h:Heap),YP w h->(K w.params).In h)
  (F: ∀(w:World)(mg:Aj)(fa:Addr)(h:Heap),(K w.params).In h->h.Ns mainGlobals mg->mg d.name=some (.ref fa)->
   ∃fd:FuncData,(∀(s:Shared)(u:Value),BindsTo s fd ⟨[u],[]⟩ [("_law_script",u)])/\ ∀base:Heap,(K w.params).In base->base.Ns mainGlobals mg->FnOk l.prog w (K w.params) mg base CX0 7 fa fd ["_law_script"] (zRY (K w.params) zWW)):
  PySem.W.WalkO q loose XP YP l.row.toRowW d [] (λf vs=>PySem.call f vs):=
 L2.walk_of (n:=63) (k:=7) (x:="_law_script") (CX:=λ_=>CX0) (sp:=λw=>zRY (K w.params) zWW) hn (by decide) hdf ⟨rfl,by decide,by decide⟩ hY F
  (λw H a ns hl hO hS=>yHI hO hS (yKT ns hl)) λ_ _ _ _ _ z=>z
end My
end M
end L2
namespace PySem.W.Fast
def tw12826087581396004447:=0
theorem te12826087581396004447:tw12826087581396004447=0:=rfl
def tw12095231846609226389:=0
theorem te12095231846609226389:tw12095231846609226389=0:=rfl
def tw9933340196484885885:=0
theorem te9933340196484885885:tw9933340196484885885=0:=rfl
def tw11954059029251596410:=0
theorem te11954059029251596410:tw11954059029251596410=0:=rfl
def tw3928901466428057094:=0
theorem te3928901466428057094:tw3928901466428057094=0:=rfl
def tw11721433300933224890:=0
theorem te11721433300933224890:tw11721433300933224890=0:=rfl
def tw11990959537176579581:=0
theorem te11990959537176579581:tw11990959537176579581=0:=rfl
def tw3533252792204847643:=0
theorem te3533252792204847643:tw3533252792204847643=0:=rfl
def tw14797012689110622395:=0
theorem te14797012689110622395:tw14797012689110622395=0:=rfl
def tw4739239887974446786:=0
theorem te4739239887974446786:tw4739239887974446786=0:=rfl
def tw4367852433904597281:=0
theorem te4367852433904597281:tw4367852433904597281=0:=rfl
def tw2827456221571582631:=0
theorem te2827456221571582631:tw2827456221571582631=0:=rfl
def tw1000932617394629592:=0
theorem te1000932617394629592:tw1000932617394629592=0:=rfl
def tw1489284367605173199:=0
theorem te1489284367605173199:tw1489284367605173199=0:=rfl
def tw2908950377439719994:=0
theorem te2908950377439719994:tw2908950377439719994=0:=rfl
def tw8884303434736627038:=0
theorem te8884303434736627038:tw8884303434736627038=0:=rfl
def tw7911092392682148167:=0
theorem te7911092392682148167:tw7911092392682148167=0:=rfl
def tw728651798592380149:=0
theorem te728651798592380149:tw728651798592380149=0:=rfl
def tw2816958487178623357:=0
theorem te2816958487178623357:tw2816958487178623357=0:=rfl
def tw10926875237906870704:=0
theorem te10926875237906870704:tw10926875237906870704=0:=rfl
def tw3724608414112084408:=0
theorem te3724608414112084408:tw3724608414112084408=0:=rfl
def tw11100891970481187327:=0
theorem te11100891970481187327:tw11100891970481187327=0:=rfl
def tw12465790307026115152:=0
theorem te12465790307026115152:tw12465790307026115152=0:=rfl
def tw12959100097818490759:=0
theorem te12959100097818490759:tw12959100097818490759=0:=rfl
end PySem.W.Fast
open PySem PySem.W PyProof.Rows
set_option maxRecDepth 100000 in
set_option maxHeartbeats 0 in
theorem PySem.Challenge.cw_mendsure_k62_who_sways_whom_holds : PySem.Challenge.rw_mendsure_k62_who_sways_whom.Holds := by
  w_on; o_law; k_head; (case hw => w_witness2)
  k_fill
  refine L2.M.My.walk (l := PySem.Challenge.rw_mendsure_k62_who_sways_whom) rfl rfl (fun w h Y => PySem.W.kIn_of Y) ?F
  case F =>
    intro w mg fa h KX G hmg
    refine' L2.M.My.all_mk KX G hmg ?D0 ?D1 ?D2 ?D3 ?D4 ?D5 ?D6 ?D7 ?D8 ?D9 ?D10 ?D11 ?D12 ?D13 ?D14 ?D15 ?D16 ?D17 ?D18 ?D19 ?D20 ?D21 ?D22 ?D23 ?zYF ?zYC ?zQN ?zMP ?jG ?zND ?yM ?xV ?zEV ?zQM ?zZ ?zYE ?wW ?zSW ?gV ?zYD
    (case D0 => exact L2.M.def_mk (by k_is) (by k_is) (by k_is) (by k_is) KX G)
    (case D1 => exact L2.M.def_mk (by k_is) (by k_is) (by k_is) (by k_is) KX G)
    (case D2 => exact L2.M.def_mk (by k_is) (by k_is) (by k_is) (by k_is) KX G)
    (case D3 => exact L2.M.def_mk (by k_is) (by k_is) (by k_is) (by k_is) KX G)
    (case D4 => exact L2.M.def_mk (by k_is) (by k_is) (by k_is) (by k_is) KX G)
    (case D5 => exact L2.M.def_mk (by k_is) (by k_is) (by k_is) (by k_is) KX G)
    (case D6 => exact L2.M.def_mk (by k_is) (by k_is) (by k_is) (by k_is) KX G)
    (case D7 => exact L2.M.def_mk (by k_is) (by k_is) (by k_is) (by k_is) KX G)
    (case D8 => exact L2.M.def_mk (by k_is) (by k_is) (by k_is) (by k_is) KX G)
    (case D9 => exact L2.M.def_mk (by k_is) (by k_is) (by k_is) (by k_is) KX G)
    (case D10 => exact L2.M.def_mk (by k_is) (by k_is) (by k_is) (by k_is) KX G)
    (case D11 => exact L2.M.def_mk (by k_is) (by k_is) (by k_is) (by k_is) KX G)
    (case D12 => exact L2.M.def_mk (by k_is) (by k_is) (by k_is) (by k_is) KX G)
    (case D13 => exact L2.M.def_mk (by k_is) (by k_is) (by k_is) (by k_is) KX G)
    (case D14 => exact L2.M.def_mk (by k_is) (by k_is) (by k_is) (by k_is) KX G)
    (case D15 => exact L2.M.def_mk (by k_is) (by k_is) (by k_is) (by k_is) KX G)
    (case D16 => exact L2.M.def_mk (by k_is) (by k_is) (by k_is) (by k_is) KX G)
    (case D17 => exact L2.M.def_mk (by k_is) (by k_is) (by k_is) (by k_is) KX G)
    (case D18 => exact L2.M.def_mk (by k_is) (by k_is) (by k_is) (by k_is) KX G)
    (case D19 => exact L2.M.def_mk (by k_is) (by k_is) (by k_is) (by k_is) KX G)
    (case D20 => exact L2.M.def_mk (by k_is) (by k_is) (by k_is) (by k_is) KX G)
    (case D21 => exact L2.M.def_mk (by k_is) (by k_is) (by k_is) (by k_is) KX G)
    (case D22 => exact L2.M.def_mk (by k_is) (by k_is) (by k_is) (by k_is) KX G)
    (case D23 => exact L2.M.def_mk (by k_is) (by k_is) (by k_is) (by k_is) KX G)
    (case zYF => k_is)
    (case zYC => k_is)
    (case zQN => k_is)
    (case zMP => k_is)
    (case jG => k_is)
    (case zND => k_is)
    (case yM => k_is)
    (case xV => k_is)
    (case zEV => k_is)
    (case zQM => k_is)
    (case zZ => k_is)
    (case zYE => k_is)
    (case wW => k_is)
    (case zSW => k_is)
    (case gV => k_is)
    (case zYD => k_is)
